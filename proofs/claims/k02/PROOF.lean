import PyProof.Rows.All
import Wide.All
import OpenK.AllK
import Wide.FinOn
import Lean
import PyProof.EqAt
import PyProof.EqKinds
import PyProof.TupleCall
import PyProof.NeKinds
import PyProof.Rows.SetFrom
import PyProof.WalksMore
import KE.KDictSum
import PyProof.AttrMissHeap
import PyProof.P3Eq
import PyProof.NeData
import PySem.SetTable
import PyProof.SetScanFacts
import PyProof.ConsumeWalk
import PyProof.ZipIter
import PyProof.Rows.TupAdd
import PyProof.Rows.IntBool
import PyProof.SliceStr2
import PyProof.StrBlockI
import KE.KTab
import KE.KIsAll
import OpenK.KCls
import OpenK.KMore
import PyProof.ExcInit
import PyProof.ExcBaseAll.ValueError
import PyProof.ExcAttrAll.ValueError
import PyProof.InstStore
import PyProof.InstStoreFacts
import PyProof.StationsW
import PyProof.PassesOwn
import PyProof.RulesAs
import KE.KTryMore
import PyProof.NsDelKeeps
import KE.KSortAsk
import KE.KSortTup
import PyProof.TupleOfSeq
import PyProof.FString5
import PyProof.StrWalks
import PyProof.CallStr
import PyProof.Conv_int_bool
import PyProof.StrCalls
import PyProof.DictWalks
import PyProof.Rows.TupDisplay
import PyProof.DictTruth
import PyProof.ListMulAny
import PyProof.FactsAll.tuple_2
import PyProof.ListRange
import KE.KxMul
import PyProof.FactsAll.dict_1
import PyProof.FactsAll.subtypes_4
import PyProof.FactsAll.subtypes_3
import PyProof.FactsAll.tuple_0
import PyProof.SumWalk
import PyProof.StrBlockG
import PyProof.StrCalls2
import KE.KIntText
import PyProof.CollectWalk
import PyProof.TupleOfGen
import PyProof.EnumMake
import PyProof.StrLawsReplace
import PyProof.Rows.ReprOcc
import PyProof.Rows.SortShell
import PySem.Challenge.RW_mannerports_k02_nets_or_what_is_amiss
import KE.KTabLook
set_option Elab.async false
set_option linter.all false
set_option bootstrap.genMatcherCode false
set_option genSizeOfSpec false
set_option maxRecDepth 100000
set_option maxHeartbeats 4000001
variable{xs:List mB}{A:mC}{E:dj -> f7 -> Prop}{s:f7}{a b:eh}{h h':PySem.Heap}{P:lZ}{w:mP}{t' i:Nat}{ch:List eh}{e tg:jJ}{M:PySem.Model}{u:dj}{Q:Unit -> f7 -> Prop}{pos:PySem.Pos}{pins:List (eh×PySem.Obj)}{K:ak}
noncomputable section
open PySem renaming wpAny_bind -> ae,Value -> af,PyData -> ag,wpAny_pure -> ah,Shared -> aj,mainGlobals -> aU,Program -> aV,compareOp -> aY,World -> aZ,wpAny_field -> bc,Around -> br,bootBuiltins -> bt,wpAny_holding -> bw,wpAny_callSpecial?_slot -> bz,wpAny_newObj_type -> bA,wpAny_call_entry -> bB,assignEach -> bD,scanBound -> bE,strKind -> bW,intKind -> bX,wpAny_setField_rec -> ci,wpAny_setField -> cz,wpAny_mono -> cA,Builtin -> cF,wpAny_loadPart_at -> cI,wpAny_rule -> cM,wpAny_truthy_bool -> cR,SetTable -> cS,Value -> dj,wpAny_attempt -> dq,wpAny_seqItems -> dv,codeAny_builtin -> dB,wpAny_setState_of -> dE,mem_of_lookup -> dI,wpAny_isSubtype_exc -> dJ,codeAny_mono -> dR,wpAny_specialOf -> dU,foldedSetIterable -> d8,fits_of_scanBound -> ee,wpAny_pyIter_list -> ef,not_mem_of_deeper -> eg,Addr -> eh,wpAny_isInstance -> eD,Within -> eE,FuncData -> eF,wpAny_setEntries_of -> eK,wpAny_standAt -> eS,wpAny_ite_false -> eZ,NameKind -> fg,excClassObj -> fk,wpAny_callSpecialIfBoundUnlessNone?_slot -> fH,Reads -> fI,sysModules -> fJ,checkBuiltinCall -> fL,codeAny_call_builtin -> fM,unbindBehindTheSuite -> fN,behindInMarks -> fO,plainId_quiet -> fR,wpAny_onRaise -> fU,sliceBounds -> fW,wpAny_execs_nil -> fY,wpAny_passesOwn -> fZ,Shared -> f7,swapsWith -> f9,wpAny_Call_Name_kw -> gb,wpAny_typeOf -> gf,IsPair -> gi,Scope -> gm,wpAny_call -> gr,wpAny_storeSet_of -> gD,IsPart -> gH,keywordEach -> gI,slicePicked -> gL,swapsWithSole -> gO,swappedStores -> gP,attributeBase -> gQ,ReadsAll -> gT,builtinLookup_eq_fast -> gY,pickOrder -> g6,letOwnedTupleGo -> hU,Result -> hV,call_meets -> h8,wpAny_ite_split -> ib,wpAny_updateSeq_pair -> ie,callSpecialIfBoundUnlessNone? -> im,GenState -> iu,ElemsOf -> iz,isSubtype_type -> iB,wpAny_fieldsOf -> iC,firstArgMember -> iD,isSubtype_stop -> iE,call_repr_slot -> iG,wpAny_letGo -> iJ,IsZip -> iK,Str -> iM,seqIndex? -> iQ,wpAny_pyIter_tuple -> iT,setFlight -> iV,assignInOrder -> iY,eqIsQuiet_byValue -> i9,wpAny_sequenceKey -> jD,Expr -> jJ,wpAny_load -> jK,typeIs_int -> jM,wpAny_binaryOp_repeat_ref -> jS,wpAny_forIn_list -> jT,noFill_tuple_add -> jV,wpAny_comprehension_free -> jY,setAddHashed -> jZ,wpAny_askSetting -> kA,DictEntry -> kL,noteFrame -> kR,codeAny_of_tree -> kU,typeLookup_type -> kW,getMethod -> kY,typeIs_none -> lg,wpAny_pyNext_list_item -> lh,wpAny_bindName -> ly,wpAny_pyNext_list_end -> lz,BindsTo -> lB,hashByValue_scannable -> lC,wpAny_runValue -> lE,wpAny_loadPart -> lG,IsEnum -> lL,wpAny_loadName_local -> lR,Operator -> lS,Program -> lZ,seq_tuple_add -> l4,evalPart_none -> l7,signature?_of -> md,wpAny_handled -> me,wpAny_loadName_cell -> mh,wpAny_Tuple_spliced -> mi,wpAt_of_wpAny -> ms,PyData -> mB,Around -> mC,Paired -> mD,lastMarks -> mE,concat_meets -> mG,seqIndex_neg -> mH,drawOrder -> mJ,IsEnumOut -> mN,CmpOp -> mO,World -> mP,unpackItems -> mR,seqIndex_of -> mS,wpAny_of_eq -> mT,wpAny_throw -> mU,richCompare -> mV,Moved -> mX,wpAny_loadPart' -> mY,SetTable -> mZ,PassesOwn -> m8,Walks -> m9
open PySem.Heap renaming get?_push_of_some -> ai,lt_size -> ar,get?_push_size -> ay,size_push -> bd,SameBut -> bI,get?_update_self -> bK,get?_update_other -> bL,ExtBut -> fj,get?_push_ne -> jI,update_setField_same -> jR,size_after_update -> lm,get?_update_ne -> mr
open PySem.W renaming Frag -> ak,mg_none_of -> bh,nsIn -> bv,kitOne -> ck,kia_one -> cr,mg_of -> cJ,findIn -> cK,fnOf -> cY,keepIn -> df,clsIn -> eT,specialIn -> fq,codeIn -> fz,Looks -> fT,kitCls -> iH,typeIn -> iI,callWith_K -> iO,mroIn -> iZ,subIn -> i7,methodObj -> jB,instObj -> kM,takesIn -> kN,OpenLaw -> kO,findCls -> kX,cellsFrom_some -> lj,lookIn -> lA,methodCall_KW -> lH,exmOne -> lJ,kitAny -> lK,looks_clsIn -> mq,looks_findIn -> mL
open List renaming length_map -> am,mem_cons -> aq,getElem?_eq_getElem -> au,size_toArray -> az,replicate -> aA,mem_cons_of_mem -> aB,getElem?_eq_some_iff -> aC,mem_cons_self -> aD,length_cons -> aK,map_cons -> aL,mem_singleton -> aO,getElem?_map -> aR,all_eq_true -> aT,getElem?_set_ne -> aX,not_mem_nil -> bf,mem_append -> bg,mem_map -> bj,getElem?_set_self -> bn,length_append -> bq,getElem?_append_left -> bu,getD_eq_getElem?_getD -> bG,map -> bH,mem_append_right -> bN,length_filter_le -> bO,mem_filter -> bS,length_take -> bV,mem_of_mem_take -> cc,contains_cons -> cf,append_nil -> cq,lookup_cons -> cv,append_assoc -> cx,getElem?_append_right -> cy,nil_append -> cB,mem_of_mem_drop -> cC,cons_append -> cD,getElem_mem -> cE,replicate_succ -> cG,contains_iff_mem -> cX,all_cons -> dm,map_map -> dC,getElem?_set -> dF,flatten_cons -> dG,take_of_length_le -> dM,drop_eq_nil_of_le -> dN,map_nil -> dO,pairwise_cons -> dS,nodup_cons -> dW,foldl_cons -> dX,getElem?_eq_none -> dY,length_nil -> dZ,sum_cons -> d7,range -> ej,drop_eq_getElem_cons -> ek,lookup -> eA,length_drop -> eG,filterMap_cons -> eJ,filter_eq_self -> eL,getElem?_replicate -> eN,getElem?_cons_succ -> eO,filter_cons_of_neg -> eP,filter_cons_of_pos -> eQ,reverse_cons -> fw,length_replicate -> fy,mem_append_left -> fK,of_mem_zip -> f6,eq_of_mem_replicate -> gl,length_eq_zero_iff -> gA,take_sublist -> gC,ext_getElem? -> gE,findIdx?_eq_some_iff_getElem -> gJ,any_cons -> gR,length_singleton -> gX,Perm -> gZ,take_append_drop -> hJ,mem_of_getElem? -> hW,getElem_of_mem -> iq,drop_zero -> iF,mem_filterMap -> iN,length_eraseIdx_of_lt -> i6,any_eq_false -> jC,take_add_one -> jH,pairwise_iff_getElem -> jN,findIdx?_eq_none_iff -> jO,length_filterMap_le -> kC,eraseIdx_cons_succ -> kH,forIn_cons -> kQ,map_append -> kZ,sum_replicate_nat -> lr,getElem?_toArray -> lF,perm_append_comm -> lO,set_append_left -> lV,pairwise_append -> lX,map_take -> mf,getElem?_range -> ml,length_reverse -> mn,length_flatten -> mx,drop_succ_cons -> my
open Nat renaming le_refl -> ao,le_trans -> ax,lt_of_lt_of_le -> aN,ne_of_lt -> aP,le_of_not_lt -> cN,lt_irrefl -> cO,lt_succ_of_lt -> dh,zero_le -> dw,ne_of_gt -> dP,le_succ -> eB,lt_succ_self -> eI,le_of_eq -> fA,le_of_lt -> f8,lt_of_le_of_lt -> gg,add_assoc -> gM,mul_lt_mul'' -> gV,mul_le_mul_right -> il,not_lt -> jP,succ_le_succ -> jX,le_max_right -> kF,add_zero -> kG,le_max_left -> lc,pow_le_pow_right -> lY,mul_le_mul_left -> mz,lt_trans -> mI
open Bool renaming false_ne_true -> aw,and_eq_true -> aJ,eq_iff_iff -> a9,false_eq_true -> cL,and_false -> eC,false_and -> fx,or_true -> gh,and_self -> gS,not_true -> iW,true_and -> i8,or_eq_true -> kS,or_false -> l9
open PySem.PyData renaming depth -> aE,bulkAll -> aF,int -> aG,str -> aI,eqv -> aQ,depthAll -> aS,bulk -> aW,tuple -> bF,shown -> bQ,showable -> bU,canLayAll0 -> b9,bool -> cj,shownAll -> cu,eqvAll -> c9,showableAll -> ff,leavesShort -> gk,canLay0 -> gy,shownKv_eq -> gF,list -> lq,dict -> lu,leavesShortAll -> lP
open PySem.Value renaming ref -> aH,none -> bP,type -> cU,int -> dH,builtin -> eR,bool -> eV,str -> fE,isInt -> fV,isStrOf -> gN,isInt_shape -> jA,notImplemented -> lW,float -> mQ
open Array renaming length_toList -> aM,getElem?_eq_some_iff -> bM,getElem?_eq_getElem -> bT,getElem?_toList -> cw,getElem?_eq_none -> gK,any_toList -> gU,getD -> h9,toList_push -> jG,all_toList -> kD,mem_toList_iff -> lT,getElem_toList -> lU
open PyProof.Rows renaming slot_tuple_getitem -> bC,callWith_type1 -> dQ,AllBare -> gn,callWith_builtin1 -> hZ,entry_tuple_getitem -> io,slicePart_none -> iw,IntsAre -> iy,assignInOrder_cons -> iL,args_tuple_getitem -> iP,subscriptTail_builtinR -> ll,tupleItemsOf_ -> l6,subscriptTail -> l8
open PySem.Str renaming ofString -> bJ
open Lean renaming mkIdent -> bR,TSyntax -> ik
open PyProof.Rows.F renaming plain_set_update_loop -> bY,entry_set_update_loop -> c8
open Option.some renaming inj -> bZ,injEq -> d9
open PySem.Heap.SameBut renaming update -> b7,refl -> jF
open PySem.NameKind renaming free -> b8,cell -> fQ
open PySem.Builtin.Slice renaming slicePlaces -> cb,sliceAdjust -> cV,sliceApplied -> fP,sliceFields -> jL
open PySem.SetTable renaming grown -> cn,below -> cQ,sizeAbove -> iR,probe -> lM
open Int renaming toNat_natCast -> cH
open Ne renaming symm -> cP
open PySem.Builtin.Tuple renaming tupleHashOf -> cT,tupleExact -> cZ,tupleItemsOf -> d6
open PySem.Builtin.SmallTypes renaming nextOf -> cW,ownedTupleIsFree -> d5,ownedTupleHandOut -> gj
open Or renaming inl -> c7,inr -> fB
open PySem.Obj renaming mapFields -> de,data_mapFields -> eX,mapSeq -> gu,isFreed_of_fields -> g9,putSet -> ia
open PySem.Around renaming under_plainId -> dg,under -> jU
open PySem.Builtin.Str renaming strSliceIndices -> di,occurrences -> eM
open PySem.F renaming excBase_ValueError -> dt,called_set -> eH,slot_enumerate_next -> fD,slot_NoneType_hash -> fG,args_tuple_add_2 -> gc,entry_tuple_add -> gz,slot_tuple_hash -> gB,slot_tuple_add -> gG,slot_zip_next -> ig,slot_int_rmul -> ii,plain_extend_loop -> jQ,slot_tuple_mul -> kE,plain_list_iadd -> kI,attr_ValueError -> kJ,args_enumerate_next_1 -> kK,entry_enumerate_next -> lw,plain_set_new -> lD
open Option renaming bind_some -> du,map_some -> ic,getD_none -> jW,bind_eq_bind -> mj
open True renaming intro -> dz
open False renaming elim -> dA
open PySem.Challenge renaming rw_mannerports_k02_nets_or_what_is_amiss -> dL
open List.cons renaming injEq -> eU
open ForInStep renaming yield -> eW
open PySem.PassesOwn renaming never -> eY
open PySem.Builtin.List renaming listExtendWith -> fF,listLengthHint -> iU,listSameRef -> kB
open PySem.Value.ref renaming inj -> fS
open PySem.ReprEntriesK renaming of_two -> fX
open Sum renaming inl -> gW,inr -> ir
open PySem.ReadAtMost renaming cons -> ij
open PySem.Builtin.Frozenset renaming updateFrom -> iA
open PySem.Code renaming quiet_builtin -> iS,isFrame -> mF
open PySem.Calls renaming Name_function_global -> iX
open List.Pairwise renaming nil -> jE,sublist -> lN
open PySem.W.Looks renaming of_pure -> lI
open PySem.SeqAt renaming EqAt -> lQ
open Prod.mk renaming injEq -> ma
open PySem.EntryCells renaming newEntry -> mw
open PySem.pickOrder renaming go -> mK
open PySem.Clear renaming nil -> mM
open PySem.Shared renaming heap -> mW
namespace PF
open PySem PySem.Spec PySem.SeqAt --
mutual
noncomputable def plD:ag -> Bool
 |.none=> true
 |.int _=> true
 |.str _=> true
 |.tuple xs=> ac0 xs
 |_=> false
noncomputable def ac0:List ag -> Bool
 |[]=> true
 |x::xs=> plD x&&ac0 xs
end
theorem ade:plD (.tuple xs)=ac0 xs:=by simp only [plD]
theorem aeh{x:ag}:ac0 (x::xs)=(plD x&&ac0 xs):=by simp only [ac0]
theorem agt: ∀xs:List ag,ac0 xs=xs.all plD
 |[]=> by simp only [ac0,List.all_nil]
 |x::r=> by rw [aeh,dm,agt r]
theorem evt{ys:List ag}:aQ (.tuple xs) (.tuple ys)=c9 xs ys:=by simp only [aQ]
theorem evs{x y:ag}{ys:List ag}:c9 (x::xs) (y::ys)=(aQ x y&&c9 xs ys):=by simp only [c9]
mutual
theorem at5: ∀a b:ag,plD a=true -> plD b=true -> (aQ a b=true ↔ a=b)
 |.none,b,_,hb=> by cases b <;> simp [plD]at hb <;> simp [aQ]
 |.int i,b,_,hb=> by cases b <;> simp [plD]at hb <;> simp [aQ]
 |.str i,b,_,hb=> by cases b <;> simp [plD]at hb <;> simp [aQ]
 |.tuple xs,.tuple ys,ha,hb=> by
  rw [evt,ank xs ys (by rw [←ade];exact ha) (by rw [←ade];exact hb)]
  simp
 |.tuple xs,.none,_,_=> by simp [aQ]
 |.tuple xs,.int _,_,_=> by simp [aQ]
 |.tuple xs,.str _,_,_=> by simp [aQ]
 |.tuple xs,.bool _,_,hb=> by simp [plD]at hb
 |.tuple xs,.list _,_,hb=> by simp [plD]at hb
 |.tuple xs,.dict _,_,hb=> by simp [plD]at hb
 |.bool _,_,ha,_=> by simp [plD]at ha
 |.list _,_,ha,_=> by simp [plD]at ha
 |.dict _,_,ha,_=> by simp [plD]at ha
theorem ank: ∀xs ys:List ag,ac0 xs=true -> ac0 ys=true -> (c9 xs ys=true ↔ xs=ys)
 |[],[],_,_=> by simp [c9]
 |[],_::_,_,_=> by simp [c9]
 |_::_,[],_,_=> by simp [c9]
 |x::xs,y::ys,ha,hb=> by
  rw [aeh,aJ]at ha hb
  rw [evs,aJ,at5 x y ha.1 hb.1,ank xs ys ha.2 hb.2,eU]
end
mutual
noncomputable def aau(w:aZ):ag -> Int
 |.none=> 0xFCA86420
 |.int i=> hashInt i
 |.str x=> hashStr w x
 |.tuple xs=> reduceHash (cT (aa6 w xs))
 |_=> 0
noncomputable def aa6(w:aZ):List ag -> List Int
 |[]=> []
 |x::xs=> aau w x::aa6 w xs
end
mutual
noncomputable def aay:ag -> Nat
 |.tuple xs=> xg xs+1
 |_=> 1
noncomputable def xg:List ag -> Nat
 |[]=> 0
 |x::xs=> aay x+xg xs
end
theorem ai4(w:aZ): ∀xs:List ag,aa6 w xs=xs.map (aau w)
 |[]=> by simp only [aa6,dO]
 |x::r=> by simp only [aa6,aL,ai4 w r]
theorem acr: ∀xs ys:List ag,xg (xs++ys)=xg xs+xg ys
 |[],ys=> by simp [xg]
 |x::r,ys=> by simp only [cD,xg,acr r ys];lia
theorem aey: ∀{xs:List ag} {x:ag},x∈xs -> x.depth <=aS xs
 |[],x,h=> by cases h
 |y::r,x,h=> by
  simp only [aS]
  (rcases aq.mp h with rfl|h)
  ·lia
  ·have:=aey h;lia
section
variable{prog:aV}{w:aZ} --
theorem at3{Q:Int -> aj -> Prop}(h:Q 0xFCA86420 {s with toks:=s.toks+1}):wpAny (model prog w) A (pyHash .none) Q E s:=by
 unfold pyHash
 have hv:[bP].any Value.onHeap=false:=rfl
 refine ae ?_
 (rw [cRoomFor,if_neg (by rw [hv];exact aw)];refine ah ?_)
 refine ae (dU (lg s) fG.lookup ?_)
 show wpAny _ _ (if (some (eR "NoneType.__hash__")==some bP)=true then _ else _) Q E s
 (rw [if_neg (by rw [beq_builtin_none];exact aw)])
 refine ae (dU (lg s) fG.lookup ?_)
 show wpAny _ _ (im .none "__hash__" _ >>=_) Q E s
 refine ae (fH (lg s) fG
  (bB fG (lg s) F.entry_NoneType_hash
   (show wpAny _ _ (do ret (←mkInt 0xFCA86420)) _ _ s from wpAny_ret_mkInt ?_) (F.args_NoneType_hash_1 _)))
 show wpAny _ _ (if (decide (-(2:Int)^63 <=0xFCA86420)&&decide ((0xFCA86420:Int) < 2^63))=true then _ else _) Q E _
 rw [if_pos (by decide)]
 exact ah h
mutual
theorem ap6: ∀(d:ag) {A:br} {E:af -> aj -> Prop} {s:aj} {v:af} {bs:List Addr} {Q:Int -> aj -> Prop},plD d=true -> fI s.heap v d bs -> A.units+d.depth < cLine -> Q (aau w d) {s with toks:=s.toks+aay d} -> wpAny (model prog w) A (pyHash v) Q E s
 |.none,A,E,s,v,bs,Q,_,r,_,h=> by cases r;simp only [aau,aay]at h;exact at3 h
 |.int i,A,E,s,v,bs,Q,_,r,_,h=> by cases r;simp only [aau,aay]at h;exact wpAny_pyHash_int h
 |.str x,A,E,s,v,bs,Q,_,r,_,h=> by cases r;simp only [aau,aay]at h;exact wpAny_pyHash_str h
 | .tuple xs,A,E,s,v,bs,Q,hp,r,hu,h=> by
  have ih:=ajy xs
  rw [ade,agt,aT]at hp
  (simp only [aE]at hu)
  cases r with
  | @tuple a o items n _ _ ho hc hd hi=>
  have hT:s.TypeIs (.ref a) "tuple":=⟨o,ho,hc⟩
  unfold pyHash pyHashByItsType
  refine ae (wpAny_cRoomFor_or (.inr (by lia)) ?_)
  (refine ae (dU hT gB.lookup ?_))
  show wpAny _ _ (if (some (eR "tuple.__hash__")==some bP)=true then _ else _) Q E s --
  (rw [if_neg (by rw [beq_builtin_none];exact aw)])
  (refine ae (dU hT gB.lookup ?_))
  show wpAny _ _ (im (.ref a) "__hash__" _ >>=_) Q E s --
  (refine ae (fH hT gB (bB gB hT F.entry_tuple_hash ?_ (F.args_tuple_hash_1 _))))
  show wpAny _ _ (d6 (.ref a)>>=_) _ _ s --
  (refine ae (wpAny_tupleItemsOf ho hd ?_))
  refine ae ?_
  rw [←Array.forIn_toList]
  refine jT _
   (fun jy (b:Array Int) s'=> ∃done left cs,xs=done++left/\gT s.heap jy left cs/\b.toList=done.map (aau w)/\s'={s with toks:=s.toks+xg done})
   _ ?_ ?_ _ _ ⟨[],xs,_,rfl,hi,rfl,rfl⟩
  ·rintro x jy b s' ⟨done,left,cs,e,hl,hb,rfl⟩
   cases hl with
   | @cons _ _ k ks' _ _ h1 hl'=>
    have hm:k∈xs:=by rw [e];simp
    have hdk:=aey hm
    have e1: ∀A:br,A.in1.units <=A.units+1:=fun A=> by first|exact ao _|(unfold Around.in1;simp)
    have e1A:=e1 A
    refine ae (ih k hm (s:={s with toks:=s.toks+xg done}) (hp k hm) h1 (by lia) ?_)
    first
     |exact ah ⟨done++ [k],ks',_,by rw [e];simp,hl',by simp [hb],by simp [acr,xg,gM]⟩
     |exact ae (ah (ah ⟨done++ [k],ks',_,by rw [e];simp,hl',by simp [hb],by simp [acr,xg,gM]⟩))
  ·rintro b s' ⟨done,left,cs,e,hl,hb,rfl⟩
   cases hl
   rw [cq]at e
   subst e
   show wpAny _ _ (retInt (cT b.toList)) _ _ _ --
   rw [hb,←ai4]
   refine wpAny_ret_mkInt ?_
   show wpAny _ _ (if (decide (-(2:Int)^63 <=cT (aa6 w xs))&&decide (cT (aa6 w xs) < 2^63))=true then _ else _) Q E _
   simp only [aau,aay]at h
   unfold reduceHash at h
   by_cases hr:(decide (-(2:Int)^63 <=cT (aa6 w xs))&&decide (cT (aa6 w xs) < 2^63))=true
   ·rw [if_pos hr]
    rw [if_pos hr]at h
    (exact ah (by simpa [gM] using h))
   ·rw [if_neg hr]
    rw [if_neg hr]at h
    (exact ae (cM (ah (by simpa [gM] using h))))
 |.bool _,_,_,_,_,_,_,hp,_,_,_=> by simp [plD]at hp
 |.list _,_,_,_,_,_,_,hp,_,_,_=> by simp [plD]at hp
 |.dict _,_,_,_,_,_,_,hp,_,_,_=> by simp [plD]at hp
theorem ajy: ∀(xs:List ag),∀d∈xs,∀{A:br} {E:af -> aj -> Prop} {s:aj} {v:af} {bs:List Addr} {Q:Int -> aj -> Prop},plD d=true -> fI s.heap v d bs -> A.units+d.depth < cLine -> Q (aau w d) {s with toks:=s.toks+aay d} -> wpAny (model prog w) A (pyHash v) Q E s
 |[],d,m=> by cases m
 | x::r,d,m=> by
  intro h1 h2 h3 h4
  rcases aq.mp m with e|m
  ·rw [e]at h1 h2 h3 h4
   exact ap6 x h1 h2 h3 h4
  ·exact ajy r d m h1 h2 h3 h4
end
mutual
theorem am4: ∀(d:ag) {n:Nat} {A:br} {E:af -> aj -> Prop} {s:aj} {v:af} {bs:List Addr} {Q:Bool -> aj -> Prop},plD d=true -> fI s.heap v d bs -> d.depth <=n -> Q true s -> wpAny (model prog w) A (eqIsQuiet n v) Q E s
 |.none,n,A,E,s,v,bs,Q,_,r,_,h=> by cases r;rw [i9 n rfl];exact ah h
 |.int i,n,A,E,s,v,bs,Q,_,r,_,h=> by cases r;rw [i9 n rfl];exact ah h
 |.str x,n,A,E,s,v,bs,Q,_,r,_,h=> by cases r;rw [i9 n rfl];exact ah h
 | .tuple xs,n,A,E,s,v,bs,Q,hp,r,hu,h=> by
  have ih:=ajn xs
  rw [ade,agt,aT]at hp
  (simp only [aE]at hu)
  obtain⟨m,rfl⟩: ∃m,n=m+1:=⟨n - 1,by lia⟩
  cases r with
  | @tuple a o items n _ _ ho hc hd hi=>
  have hT:s.TypeIs (.ref a) "tuple":=⟨o,ho,hc⟩
  unfold eqIsQuiet
  (refine ae (dU hT F.slot_tuple_eq.lookup ?_))
  show wpAny _ _ (isInstance (.ref a) (.type "tuple")>>=_) _ _ s --
  (refine ae (eD hT isSubtype_tuple_tuple ?_))
  (simp only [iW,cL,if_false])
  (refine ae (dv ho hd ?_))
  refine ae ?_
  show wpAny _ _ (forIn items _ _) _ _ s --
  rw [←Array.forIn_toList]
  refine jT _ (fun jy r s'=> r.1=none/\s'=s/\ ∃left cs,(∀x∈left,x∈xs)/\gT s.heap jy left cs) _ ?_ ?_ _ _ ⟨rfl,rfl,xs,_,fun _ m=> m,hi⟩
  ·rintro v jy r s' ⟨hr,rfl,left,cs,sub,hl⟩
   cases hl with
   | @cons _ _ k ks' _ _ h1 hl'=>
    have hm:=sub k aD
    have hdk:=aey hm
    refine ae (ih k hm (hp k hm) h1 (by lia) ?_)
    (simp only [iW,cL,if_false])
    exact ah ⟨rfl,rfl,ks',_,fun x m=> sub x (aB _ m),hl'⟩
  ·rintro⟨r1,r2⟩ s' ⟨hr,rfl,_⟩
   simp only at hr
   subst hr
   exact ah h
 |.bool _,_,_,_,_,_,_,_,hp,_,_,_=> by simp [plD]at hp
 |.list _,_,_,_,_,_,_,_,hp,_,_,_=> by simp [plD]at hp
 |.dict _,_,_,_,_,_,_,_,hp,_,_,_=> by simp [plD]at hp
theorem ajn: ∀(xs:List ag),∀d∈xs,∀{n:Nat} {A:br} {E:af -> aj -> Prop} {s:aj} {v:af} {bs:List Addr} {Q:Bool -> aj -> Prop},plD d=true -> fI s.heap v d bs -> d.depth <=n -> Q true s -> wpAny (model prog w) A (eqIsQuiet n v) Q E s
 |[],d,m=> by cases m
 | x::r,d,m=> by
  intro h1 h2 h3 h4
  rcases aq.mp m with e|m
  ·rw [e]at h1 h2 h3
   exact am4 x h1 h2 h3 h4
  ·exact ajn r d m h1 h2 h3 h4
end
mutual
theorem aji: ∀(d:ag) {h h':Heap} {v:af} {bs:List Addr} {a:Addr} {o:Obj} {es:Array kL} {ep:Nat},plD d=true -> fI h v d bs -> h.get? a=some o -> o.data=.dict es ep -> bI a h h' -> fI h' v d bs
 |.none,_,_,_,_,_,_,_,_,_,r,_,_,_=> by cases r;exact .none
 |.int i,_,_,_,_,_,_,_,_,_,r,_,_,_=> by cases r;exact .int _ _
 |.str x,_,_,_,_,_,_,_,_,_,r,_,_,_=> by cases r;exact .str _ _
 | .tuple xs,h,h',v,bs,a,o,es,ep,hp,r,ho,hd,hs=> by
  rw [ade]at hp
  cases r with
  | @tuple b ob items n _ _ h1 h2 h3 h4=>
   have ne:b≠a:=by
    rintro rfl
    rw [h1]at ho
    cases ho
    rw [hd]at h3;cases h3
   exact .tuple ((hs.2 b ne).trans h1) h2 h3 (ah4 xs hp h4 ho hd hs)
 |.bool _,_,_,_,_,_,_,_,_,hp,_,_,_,_=> by simp [plD]at hp
 |.list _,_,_,_,_,_,_,_,_,hp,_,_,_,_=> by simp [plD]at hp
 |.dict _,_,_,_,_,_,_,_,_,hp,_,_,_,_=> by simp [plD]at hp
theorem ah4: ∀(xs:List ag) {h h':Heap} {vs:List af} {bs:List Addr} {a:Addr} {o:Obj} {es:Array kL} {ep:Nat},ac0 xs=true -> gT h vs xs bs -> h.get? a=some o -> o.data=.dict es ep -> bI a h h' -> gT h' vs xs bs
 |[],_,_,_,_,_,_,_,_,_,r,_,_,_=> by cases r;exact .nil
 |x::xs,_,_,_,_,_,_,_,_,hp,r,ho,hd,hs=> by
  rw [aeh,aJ]at hp
  cases r with
  |cons r1 r2=> exact .cons (aji x hp.1 r1 ho hd hs) (ah4 xs hp.2 r2 ho hd hs)
end
def ah9(d:ag):Bool:=plD d&&d.canLay0&&decide (d.depth <=8)
theorem zp{d:ag}:ah9 d=true ↔ plD d=true/\d.canLay0=true/\d.depth <=8:=by
 unfold ah9
 simp only [aJ,decide_eq_true_eq,and_assoc]
noncomputable instance:DecidableEq ag:=fun a b=> Classical.propDecidable (a=b)
def awh(prog:aV)(w:aZ):HeapKind prog w ag where
 is h k a:=ah9 k=true/\ ∃bs,fI h (.ref a) k bs
 hash:=aau w
 draws:=aay
 room A:=A.units+10 < cLine
 inj:=by
  rintro h a x y ⟨k1,b1,r1⟩ ⟨k2,b2,r2⟩
  exact Reads.unique x y _ _ _ (zp.mp k1).2.1 r1 r2
 keeps:=by
  rintro h h' k a d o es ep ⟨k1,b1,r1⟩ ho hd hs
  exact⟨k1,b1,aji k (zp.mp k1).1 r1 ho hd hs⟩
 pyHash:=by
  rintro A E s k a Q hu ⟨k1,b1,r1⟩ h
  obtain⟨p,c,d⟩:=zp.mp k1
  exact ap6 k p r1 (by lia) h
 eqBool:=by
  rintro A E s x y a b Q hu ⟨k1,b1,r1⟩ ⟨k2,b2,r2⟩ h
  obtain⟨p,c,d⟩:=zp.mp k1
  obtain⟨p',c',d'⟩:=zp.mp k2
  refine eqAt_reads x y A s _ _ _ _ r1 r2 c c' (by lia) prog w E Q ?_
  have:aQ x y=decide (x=y):=by
   (rw [a9,decide_eq_true_eq])
   exact at5 x y p p'
  rw [this];exact h
 quiet:=by
  rintro A E s k a Q ⟨k1,b1,r1⟩ h
  obtain⟨p,c,d⟩:=zp.mp k1
  exact am4 k p r1 (by lia) h
end
end PF
namespace L2
open PySem PySem.Spec PyProof.Rows
abbrev Key:=Sum Int Str
noncomputable def ay0:Key -> af -> Bool
 |.inl k,v=> fV k v
 |.inr x,v=> gN x v
noncomputable def a94(w:aZ):Key -> Int
 |.inl k=> hashInt k
 |.inr x=> hashStr w x
theorem qk: ∀{k:Key} {v:af},ay0 k v=true -> (∃i t,k=gW i/\v=dH i t)\/(∃x t,k=ir x/\v=fE x t)
 |.inl i,v,h=> by
  obtain⟨t,e⟩:=jA (k:=i) (v:=v) h
  exact .inl ⟨i,t,rfl,e⟩
 |.inr x,v,h=> by
  obtain⟨t,e⟩:=Value.isStrOf_shape (x:=x) (v:=v) h
  exact .inr ⟨x,t,rfl,e⟩
theorem a52(a b:Int):decide ((gW a:Key)=gW b)=(a==b):=by
 by_cases e:a=b
 ·subst e;simp
 ·have h: ¬(gW a:Key)=gW b:=fun q=> e (gW.inj q)
  rw [decide_eq_false h]
  exact (beq_eq_false_iff_ne.mpr e).symm
theorem a5q(a b:Str):decide ((ir a:Key)=ir b)=decide (a=b):=by
 by_cases e:a=b
 ·subst e;simp
 ·have h: ¬(ir a:Key)=ir b:=fun q=> e (ir.inj q)
  rw [decide_eq_false h,decide_eq_false e]
theorem a5l(a:Int)(b:Str):decide ((gW a:Key)=ir b)=false:=decide_eq_false (fun q=> nomatch q)
theorem a5f(a:Str)(b:Int):decide ((ir a:Key)=gW b)=false:=decide_eq_false (fun q=> nomatch q)
def ad2(prog:aV)(w:aZ):PySem.KeyKind prog w Key where
 is:=ay0
 hash:=a94 w
 inj:=fun v a b ha hb=> by
  rcases qk ha with ⟨i,t,rfl,rfl⟩|⟨x,t,rfl,rfl⟩
  ·rcases qk hb with ⟨j,u,rfl,e⟩|⟨y,u,rfl,e⟩
   ·injection e with e1 _;rw [e1]
   ·exact nomatch e
  ·rcases qk hb with ⟨j,u,rfl,e⟩|⟨y,u,rfl,e⟩
   ·exact nomatch e
   ·injection e with e1 _;rw [e1]
 byValue:=fun k v h=> by
  rcases qk h with ⟨i,t,rfl,rfl⟩|⟨x,t,rfl,rfl⟩ <;> rfl
 pyHash:=fun hv h=> by
  rcases qk hv with ⟨i,t,rfl,rfl⟩|⟨x,t,rfl,rfl⟩
  ·exact wpAny_pyHash_int h
  ·exact wpAny_pyHash_str h
 eqBool:=fun hu hv h=> by
  rcases qk hu with ⟨i,t,rfl,rfl⟩|⟨x,t,rfl,rfl⟩
  ·rcases qk hv with ⟨j,u,rfl,rfl⟩|⟨y,u,rfl,rfl⟩
   ·rw [a52]at h;exact wpAny_eqBool_int h
   ·rw [a5l]at h;exact lQ.int_str i t y u _ _ _ _ h
  ·rcases qk hv with ⟨j,u,rfl,rfl⟩|⟨y,u,rfl,rfl⟩
   ·rw [a5f]at h;exact lQ.str_int x t j u _ _ _ _ h
   ·rw [a5q]at h;exact wpAny_eqBool_str h
 «strs»:=fun k x t v h=> by
  rcases qk h with ⟨i,u,rfl,e⟩|⟨y,u,rfl,e⟩
  ·exact nomatch e
  ·injection e with e1 _
   subst e1
   cases v <;> rfl
inductive V where
 |non|bl (b:Bool)|int (i:Int)|str (x:Str)|byt (b:Array UInt8)|flt (b:UInt64)|ref (a:Addr)|ty (n:String)
 deriving DecidableEq
def RelV:V -> af -> Prop
 |.non,u=> u=bP
 |.bl b,u=> u=eV b
 |.int i,u=> ∃t,u=dH i t
 |.str x,u=> ∃t,u=fE x t
 |.byt b,u=> ∃t,u=Value.bytes b t
 |.flt b,u=> ∃t,u=mQ b t
 |.ref a,u=> u=aH a
 |.ty n,u=> u=cU n
abbrev jo:List V -> List af -> Prop:=mD RelV
theorem jo.length{xs:List V}{us:List af}(r:jo xs us):xs.length=us.length:=Paired.length r
theorem jo.get: ∀{xs:List V} {us:List af} {i:Nat} {x:V},jo xs us -> xs[i]?=some x -> ∃u,us[i]?=some u/\RelV x u
 |_,_,_,_,.nil,e=> by simp at e
 |_,_,0,_,.cons r _,e=> by simp at e;subst e;exact⟨_,rfl,r⟩
 |_,_,i+1,x,.cons _ t,e=> by
  obtain⟨u,h1,h2⟩:=jo.get (i:=i) (x:=x) t (by simpa using e)
  exact⟨u,by simpa using h1,h2⟩
theorem jo.set{x:V}{u:af}(r:RelV x u): ∀{xs:List V} {us:List af} (i:Nat),jo xs us -> jo (xs.set i x) (us.set i u)
 |_,_,_,.nil=>.nil
 |_,_,0,.cons _ t=>.cons r t
 |_,_,i+1,.cons q t=>.cons q (jo.set r i t)
theorem jo.append: ∀{xs ys:List V} {us ws:List af},jo xs us -> jo ys ws -> jo (xs++ys) (us++ws)
 |_,_,_,_,.nil,s=> s
 |_,_,_,_,.cons r t,s=>.cons r (jo.append t s)
theorem jo.take: ∀{xs:List V} {us:List af} (n:Nat),jo xs us -> jo (xs.take n) (us.take n)
 |_,_,0,_=>.nil
 |_,_,_+1,.nil=>.nil
 |_,_,n+1,.cons r t=>.cons r (jo.take n t)
theorem jo.drop: ∀{xs:List V} {us:List af} (n:Nat),jo xs us -> jo (xs.drop n) (us.drop n)
 |_,_,0,r=> r
 |_,_,_+1,.nil=>.nil
 |_,_,n+1,.cons _ t=> jo.drop n t
def abf:Option V -> Option af -> Prop
 |some v,some u=> RelV v u
 |none,none=> True
 |_,_=> False
def KV{κ:Type}:List (κ×V) -> List (κ×af) -> Prop:=mD fun (p:κ×V) (q:κ×af)=> p.1=q.1/\RelV p.2 q.2
noncomputable def kV:Key -> V
 |.inl i=>.int i
 |.inr x=>.str x
inductive HO where
 /-- a list -/
 |lst (xs:List V)
 /-- a tuple (never changes) -/
 |tup (xs:List V)
 /-- a dict whose keys are ints and texts;one whose keys are tuples of ints and texts (the empty one is both) -/
 |dK (kvs:List (Key×V))|dT (kvs:List (List Key×V))
 /-- one whose keys are plain tuples -/
 |dD (kvs:List (ag×V))
 /-- a set of ints:its members,its size -/
 |set (S:Int -> Bool) (n:Nat)
 /-- an instance of the class at C,its dict at dx,its attributes -/
 |ins (C dx:Addr) (fs:List (Str×V))
 /-- the dict of the instance at x -/
 |own (x:Addr)
 /-- the dict of an exception -/
 |xd (fs:List (Str×V))
 /-- a bound method,f of x -/
 |met (f x:Addr)
 /-- a range object lo,lo+1,.. below hi -/
 |rng (lo hi:Int)
 /-- a thing that is known to the object (the script;a dict while a loop walks it):read,never written while it is so -/
 |frz (o:Obj) (u:HO)
 /-- a code object's table -/
 |tbl (ps:Array af)
 /-- an exception of the class at C,its attributes -/
 |exn (C:Addr) (fs:List (Str×V))
 /-- an exception that was raised:its class,its attributes -/
 |exx (C:Addr) (fs:List (Str×V))
 /-- any other thing,by what is true of its one object (a def of one's own:SetO a S n:=HO.ext fun h=>..) -/
 |ext (φ:Heap -> Prop)
abbrev Hp:=Addr -> Option HO
mutual
inductive KD (H:Hp):V -> ag -> Prop
 |non:KD H .non .none
 |int (i:Int):KD H (.int i) (.int i)
 |str (x:Str):KD H (.str x) (.str x)
 |tup {p:Addr} {xs:List V} {ds:List ag}:H p=some (.tup xs) -> KDs H xs ds -> KD H (.ref p) (.tuple ds)
inductive KDs (H:Hp):List V -> List ag -> Prop
 |nil:KDs H [] []
 |cons {x:V} {xs:List V} {d:ag} {ds:List ag}:KD H x d -> KDs H xs ds -> KDs H (x::xs) (d::ds)
end
mutual
theorem KD.mono{H H':Hp}(ht: ∀b xs,H b=some (.tup xs) -> H' b=some (.tup xs)): ∀{v:V} {d:ag},KD H v d -> KD H' v d
 |_,_,.non=>.non
 |_,_,.int i=>.int i
 |_,_,.str x=>.str x
 |_,_,.tup e r=>.tup (ht _ _ e) (KDs.mono ht r)
theorem KDs.mono{H H':Hp}(ht: ∀b xs,H b=some (.tup xs) -> H' b=some (.tup xs)): ∀{v:List V} {d:List ag},KDs H v d -> KDs H' v d
 |_,_,.nil=>.nil
 |_,_,.cons a r=>.cons (KD.mono ht a) (KDs.mono ht r)
end
noncomputable def upd(H:Hp)(a:Addr)(o:HO):Hp:=fun b=> if b=a then some o else H b
theorem yf{H:Hp}{o:HO}:upd H a o a=some o:=by unfold upd;rw [if_pos rfl]
theorem kq{H:Hp}{o:HO}(h:b≠a):upd H a o b=H b:=by unfold upd;rw [if_neg h]
theorem xm{H:Hp}{o:HO}(h:H a=some o)(h':H b=none):a≠b:=by
 intro e;subst e;rw [h]at h';cases h'
def ae5(h:Heap)(a:Addr)(its:Array af):Prop:= ∃n,h.get? a=some {cls:=.type "tuple",data:=.seq its n}
theorem ae5.tup{its:Array af}(x:ae5 h a its):IsTup h a its:=let ⟨n,e⟩:=x;⟨_,e,rfl,n,rfl⟩
theorem ae5.new(h:Heap)(its:Array af):ae5 (h.push {cls:=.type "tuple",data:=.seq its}) h.objs.size its:=⟨_,ay _ rfl⟩
abbrev awg(C:Addr)(dx:Option Addr)(t:Addr):Obj:={cls:=.ref C,dict:=dx,data:=.fields #[.ref t,.none,.none,.none,.bool false,.none]}
abbrev y4(C:Addr)(dx:Option Addr)(t:Addr)(tb:af):Obj:={cls:=.ref C,dict:=dx,data:=.fields #[.ref t,tb,.none,.none,.bool false,.none]}
section
variable(P:aV)(w:aZ)
def j7(H:Hp)(h:Heap)(a:Addr):HO -> Prop
 |.lst xs=> xs.length <=sizeLine/\ ∃(its:List af) (n:Nat),jo xs its/\h.get? a=some {cls:=.type "list",data:=.seq its.toArray n}
 |.tup xs=> xs.length <=sizeLine/\ ∃its:List af,jo xs its/\ae5 h a its.toArray
 |.dK kvs=> kvs.length <=sizeLine/\(a==fJ)=false/\ ∃vs,KV kvs vs/\h.DictOf (ad2 P w) a vs
 | .dT kvs=> kvs.length <=sizeLine/\(a==fJ)=false/\ ∃xs:List (List Key×Addr×af),
   mD (fun (p:List Key×V) (q:List Key×Addr×af)=> p.1=q.1/\H q.2.1=some (.tup (p.1.map kV))/\RelV p.2 q.2.2) kvs xs/\
   ∃o es ep,h.get? a=some o/\o.ExactDict/\o.data=.dict es ep/\es.toList=xs.map (entryOfKey (tupleKind (ad2 P w)))/\(xs.map (·.1)).Nodup
 | .dD kvs=> kvs.length <=sizeLine/\(a==fJ)=false/\ ∃xs:List (ag×Addr×af),
   mD (fun (p:ag×V) (q:ag×Addr×af)=> p.1=q.1/\(PF.ah9 p.1=true/\KD H (.ref q.2.1) p.1)/\RelV p.2 q.2.2) kvs xs/\
   ∃o es ep,h.get? a=some o/\o.ExactDict/\o.data=.dict es ep/\es.toList=xs.map (entryOfKey (PF.awh P w))/\(xs.map (·.1)).Nodup
 |.set S n=> h.SetOf (intKind P w) a S n
 | .ins C dx fs=> H dx=some (.own a)/\fs.length <=1000/\dx≠a/\h.get? a=some (kM C dx)/\
   ∃mA,h.Ns1 dx mA/\(∀f,abf (fs.lookup f) (mA f))/\eE mA (fs.map (·.1))
 | .exn C fs=> fs.length <=1000/\ ∃(t:Addr) (dxo:Option Addr),h.get? a=some (awg C dxo t)/\((dxo=none/\fs=[])\/ ∃dx,dxo=some dx/\H dx=some (.own a)/\dx≠a/\
   ∃mA,h.Ns1 dx mA/\(∀f,abf (fs.lookup f) (mA f))/\eE mA (fs.map (·.1)))
 | .exx C fs=> fs.length <=1000/\ ∃(t:Addr) (tb:af) (dxo:Option Addr),h.get? a=some (y4 C dxo t tb)/\((dxo=none/\fs=[])\/ ∃dx,dxo=some dx/\H dx=some (.own a)/\dx≠a/\
   ∃mA,h.Ns1 dx mA/\(∀f,abf (fs.lookup f) (mA f))/\eE mA (fs.map (·.1)))
 |.own _=> ∃o,h.get? a=some o
 |.xd fs=> ∃mA,h.Ns1 a mA/\ ∀f,abf (fs.lookup f) (mA f)
 |.rng lo hi=> ∃t u v,h.get? a=some {cls:=.type "range",data:=.fields #[.int lo t,.int hi u,.int 1 v]}
 |.frz o u=> h.get? a=some o/\j7 H h a u
 |.tbl ps=> h.get? a=some {cls:=.none,data:=.fields ps}
 |.met f x=> h.get? a=some (jB (.ref f) (.ref x))
 |.ext φ=> φ h/\(∃o,h.get? a=some o)/\ ∀h1 h2:Heap,φ h1 -> (∀o,h1.get? a=some o -> h2.get? a=some o) -> φ h2
def HOk(H:Hp)(h:Heap):Prop:= ∀a o,H a=some o -> j7 P w H h a o
end
section
variable{P:aV}{w:aZ}{H H':Hp}{h h':Heap}{a:Addr}{o:HO}
theorem j7.lt(x:j7 P w H h a o):a < h.objs.size:=by
 cases o with
 |lst xs=> obtain⟨_,_,_,_,e⟩:=x;exact ar e
 |tup xs=> obtain⟨_,_,_,p⟩:=x;exact p.tup.lt
 |dK kvs=> obtain⟨_,_,_,_,o,_,_,e,_⟩:=x;exact ar e
 |dT kvs=> obtain⟨_,_,_,_,o,_,_,e,_⟩:=x;exact ar e
 |dD kvs=> obtain⟨_,_,_,_,o,_,_,e,_⟩:=x;exact ar e
 |set S n=> obtain⟨o,_,_,_,e,_⟩:=x;exact ar e
 |ins C dx fs=> obtain⟨_,_,_,e,_⟩:=x;exact ar e
 |exn C fs=> obtain⟨_,_,_,e,_⟩:=x;exact ar e
 |exx C fs=> obtain⟨_,_,_,_,e,_⟩:=x;exact ar e
 |own y=> obtain⟨_,e⟩:=x;exact ar e
 |xd fs=> obtain⟨_,⟨_,_,_,e,_⟩,_⟩:=x;exact ar e
 |rng lo hi=> obtain⟨_,_,_,e⟩:=x;exact ar e
 |frz ob u=> obtain⟨e,_⟩:=x;exact ar e
 |tbl ps=> exact ar (show h.get? a=some _ from x)
 |met f y=> exact ar (show h.get? a=some _ from x)
 |ext φ=> obtain⟨_,⟨_,e⟩,_⟩:=x;exact ar e
theorem Paired.mapP{α β:Type}{F G:α -> β -> Prop}: ∀{l₁:List α} {l₂:List β},mD F l₁ l₂ -> (∀a b,F a b -> G a b) -> mD G l₁ l₂
 |_,_,.nil,_=>.nil
 |_,_,.cons r t,f=>.cons (f _ _ r) (Paired.mapP t f)
theorem j7.stay(x:j7 P w H h a o)(k: ∀b u,(b=a\/H b=some (.own a)) -> h.get? b=some u -> h'.get? b=some u)
  (ho: ∀b,H b=some (.own a) -> H' b=some (.own a)) (ht: ∀b xs,H b=some (.tup xs) -> H' b=some (.tup xs)):j7 P w H' h' a o:=by
 induction o with
 |lst xs=> obtain⟨z,its,n,r,e⟩:=x;exact⟨z,its,n,r,k _ _ (.inl rfl) e⟩
 |tup xs=> obtain⟨z,its,r,n,e⟩:=x;exact⟨z,its,r,n,k _ _ (.inl rfl) e⟩
 |dK kvs=> obtain⟨z,y,vs,r,ob,es,ep,e,c⟩:=x;exact⟨z,y,vs,r,ob,es,ep,k _ _ (.inl rfl) e,c⟩
 |dT kvs=>
  obtain⟨z,y,xs,r,ob,es,ep,e,c⟩:=x
  exact⟨z,y,xs,Paired.mapP r fun p q z=> ⟨z.1,ht _ _ z.2.1,z.2.2⟩,ob,es,ep,k _ _ (.inl rfl) e,c⟩
 |dD kvs=>
  obtain⟨z,y,xs,r,ob,es,ep,e,c⟩:=x
  exact⟨z,y,xs,Paired.mapP r fun p q z=> ⟨z.1,⟨z.2.1.1,z.2.1.2.mono ht⟩,z.2.2⟩,ob,es,ep,k _ _ (.inl rfl) e,c⟩
 |set S n=> obtain⟨ob,es,ep,t,e,c⟩:=x;exact⟨ob,es,ep,t,k _ _ (.inl rfl) e,c⟩
 |ins C dx fs=>
  obtain⟨d,z,ne,e,mA,⟨od,es,ep,e2,c⟩,r⟩:=x
  exact⟨ho _ d,z,ne,k _ _ (.inl rfl) e,mA,⟨od,es,ep,k _ _ (.inr d) e2,c⟩,r⟩
 |exn C fs=>
  obtain⟨z,t,dxo,e,q⟩:=x
  refine⟨z,t,dxo,k _ _ (.inl rfl) e,?_⟩
  rcases q with q|⟨dx,q,d,ne,mA,⟨od,es,ep,e2,c⟩,r⟩
  ·exact .inl q
  ·exact .inr ⟨dx,q,ho _ d,ne,mA,⟨od,es,ep,k _ _ (.inr d) e2,c⟩,r⟩
 |exx C fs=>
  obtain⟨z,t,tb,dxo,e,q⟩:=x
  refine⟨z,t,tb,dxo,k _ _ (.inl rfl) e,?_⟩
  rcases q with q|⟨dx,q,d,ne,mA,⟨od,es,ep,e2,c⟩,r⟩
  ·exact .inl q
  ·exact .inr ⟨dx,q,ho _ d,ne,mA,⟨od,es,ep,k _ _ (.inr d) e2,c⟩,r⟩
 |own y=> obtain⟨ob,e⟩:=x;exact⟨ob,k _ _ (.inl rfl) e⟩
 |xd fs=> obtain⟨mA,⟨od,es,ep,e,c⟩,r⟩:=x;exact⟨mA,⟨od,es,ep,k _ _ (.inl rfl) e,c⟩,r⟩
 |rng lo hi=> obtain⟨t,u,v,e⟩:=x;exact⟨t,u,v,k _ _ (.inl rfl) e⟩
 |frz ob u ih=> obtain⟨e,q⟩:=x;exact⟨k _ _ (.inl rfl) e,ih q⟩
 |tbl ps=>
  have e:h.get? a=some {cls:=.none,data:=.fields ps}:=x
  show h'.get? a=some {cls:=.none,data:=.fields ps}
  exact k a _ (.inl rfl) e
 |met f y=>
  have e:h.get? a=some (jB (.ref f) (.ref y)):=x
  show h'.get? a=some (jB (.ref f) (.ref y))
  exact k a _ (.inl rfl) e
 |ext φ=> obtain⟨p,⟨o,e⟩,st⟩:=x;exact⟨st _ _ p fun o q=> k _ _ (.inl rfl) q,⟨o,k _ _ (.inl rfl) e⟩,st⟩
theorem HOk.lt(x:HOk P w H h)(e:H a=some o):a < h.objs.size:=(x a o e).lt
theorem HOk.fresh(x:HOk P w H h)(e:h.objs.size <=a):H a=none:=by
 cases q:H a with
 |none=> rfl
 |some u=> exact absurd (aN (x.lt q) e) (cO _)
theorem HOk.kept(x:HOk P w H h)(k: ∀b u,h.get? b=some u -> h'.get? b=some u):HOk P w H h':=fun a o e=>
 (x a o e).stay (fun b u _ q=> k b u q) (fun _ q=> q) fun _ _ q=> q
theorem HOk.laid(x:HOk P w H h)(k: ∀b u,h.get? b=some u -> h'.get? b=some u)(hp:h.objs.size <=a)(new:j7 P w (upd H a o) h' a o):HOk P w (upd H a o) h':=fun b u e=> by
 have hn:=x.fresh hp
 by_cases hb:b=a
 ·subst hb;rw [yf]at e;cases e;exact new
 ·rw [kq hb]at e
  exact (x b u e).stay (fun c v _ q=> k c v q) (fun c q=> by rw [kq (xm q hn)];exact q) fun c xs q=> by rw [kq (xm q hn)];exact q
end
def Rd(H:Hp)(a:Addr)(u:HO):Prop:=H a=some u\/ ∃o,H a=some (.frz o u)
theorem Rd.ok{H:Hp}{u:HO}(r:Rd H a u)(x:HOk P w H h):j7 P w H h a u:=by
 rcases r with r|⟨o,r⟩
 ·exact x a u r
 ·obtain⟨_,q⟩:=x a _ r
  exact q
def Mut:Option HO -> Prop
 |some (.lst _)=> True
 |some (.dK _)=> True
 |some (.dT _)=> True
 |some (.dD _)=> True
 |some (.set _ _)=> True
 |some (.ins _ _ _)=> True
 |some (.ext _)=> True
 |some (.exx _ _)=> True
 |some (.exn _ _)=> True
 |_=> False
section
variable{P:aV}{w:aZ}{H:Hp}{h h':Heap}{x e:Addr}{o':HO}
theorem HOk.write(ok:HOk P w H h)(mu:Mut (H x))(he:e=x\/H e=some (.own x))(k: ∀b u,b≠e -> h.get? b=some u -> h'.get? b=some u)(heo: ∃u,h'.get? e=some u)
  (new:j7 P w (upd H x o') h' x o'):HOk P w (upd H x o') h':=fun b u q=> by
 have nown: ∀c y,H c=some (.own y) -> c≠x:=fun c y r z=> by subst z;rw [r]at mu;exact mu
 have ntup: ∀c xs,H c=some (.tup xs) -> c≠x:=fun c xs r z=> by subst z;rw [r]at mu;exact mu
 by_cases hb:b=x
 ·subst hb;rw [yf]at q;cases q;exact new
 ·rw [kq hb]at q
  by_cases hbe:b=e
  ·have q':H b=some (.own x):=by
    rcases he with z|z
    ·exact absurd (hbe.trans z) hb
    ·rw [hbe];exact z
   rw [q]at q';cases q'
   obtain⟨v,hv⟩:=heo
   exact⟨v,by rw [hbe];exact hv⟩
  ·refine (ok b u q).stay (fun c v hc r=> k c v ?_ r) (fun c r=> by rw [kq (nown c b r)];exact r) fun c xs r=> by rw [kq (ntup c xs r)];exact r
   rcases hc with rfl|hc
   ·exact hbe
   ·rintro rfl
    rcases he with z|z
    ·exact nown c b hc z
    ·rw [hc]at z;cases z;exact hb rfl
end
structure Un (fs ex:List Addr) (H H':Hp) (h h':Heap):Prop where
 keep: ∀b o,h.get? b=some o -> H b=none -> b∉fs -> b∉ex -> h'.get? b=some o
 slot: ∀b o,h.get? b=some o -> H b=none -> b∈fs -> b∉ex -> ∃sl,h'.get? b=some {o with slots:=sl}
 free: ∀b o,h.get? b=some o -> H b=none -> b∉ex -> H' b=none
 there: ∀b o,h.get? b=some o -> b∉ex -> ∃o',h'.get? b=some o'
 tups: ∀b xs,H b=some (.tup xs) -> H' b=some (.tup xs)
 frzs: ∀b o u,H b=some (.frz o u) -> H' b=some (.frz o u)
 tbls: ∀b ps,H b=some (.tbl ps) -> ∃more,H' b=some (.tbl (ps++more))
section
variable{fs fs' ex ex':List Addr}{H H1 H2:Hp}{h h1 h2 h':Heap}{a x e:Addr}{o:HO}
theorem Un.any(u:Un fs ex H H1 h h1){ob:Obj}(q:h.get? b=some ob)(n:H b=none)(hx:b∉ex): ∃sl,h1.get? b=some {ob with slots:=sl}:=by
 by_cases hb:b∈fs
 ·exact u.slot b ob q n hb hx
 ·exact⟨ob.slots,u.keep b ob q n hb hx⟩
theorem Un.kept(k: ∀b u,h.get? b=some u -> h'.get? b=some u):Un fs ex H H h h':=
 ⟨fun b ob q _ _ _=> k b ob q,fun b ob q _ _ _=> ⟨ob.slots,k b ob q⟩,fun _ _ _ n _=> n,fun b ob q _=> ⟨ob,k b ob q⟩,fun _ _ q=> q,fun _ _ _ q=> q,fun _ ps q=> ⟨#[],by rw [q];simp⟩⟩
theorem Un.refl:Un fs ex H H h h:=Un.kept fun _ _ q=> q
theorem Un.laid(k: ∀b u,h.get? b=some u -> h'.get? b=some u)(hp:h.objs.size <=a)(hn:H a=none):Un fs ex H (upd H a o) h h' where
 keep:=fun b u q _ _ _=> k b u q
 slot:=fun b u q _ _ _=> ⟨u.slots,k b u q⟩
 free:=fun b u q n _=> by rw [kq (aP (aN (ar q) hp))];exact n
 there:=fun b u q _=> ⟨u,k b u q⟩
 tups:=fun b xs q=> by rw [kq (xm q hn)];exact q
 frzs:=fun b u xs q=> by rw [kq (xm q hn)];exact q
 tbls:=fun b ps q=> ⟨#[],by rw [kq (xm q hn),q];simp⟩
theorem Un.write(mu:Mut (H x))(he:e=x\/H e=some (.own x))(k: ∀b u,b≠e -> h.get? b=some u -> h'.get? b=some u)(heo: ∃u,h'.get? e=some u):Un fs ex H (upd H x o) h h':=by
 have hx: ∀b,H b=none -> b≠x:=fun b n z=> by subst z;rw [n]at mu;exact mu
 have hb: ∀b,H b=none -> b≠e:=fun b n z=> by
  subst z
  rcases he with r|r
  ·exact hx b n r
  ·rw [n]at r;cases r
 have hm: ∀b u,H b=some u -> ¬Mut (some u) -> b≠x:=fun b u q nm z=> by subst z;rw [q]at mu;exact nm mu
 refine⟨fun b u q n _ _=> k b u (hb b n) q,fun b u q n _ _=> ⟨u.slots,k b u (hb b n) q⟩,fun b u q n _=> by rw [kq (hx b n)];exact n,fun b u q _=> ?_,
  fun b xs q=> by rw [kq (hm b _ q fun z=> z)];exact q,fun b u xs q=> by rw [kq (hm b _ q fun z=> z)];exact q,fun b ps q=> ⟨#[],by rw [kq (hm b _ q fun z=> z),q];simp⟩⟩
 by_cases hbe:b=e
 ·subst hbe;exact heo
 ·exact⟨u,k b u hbe q⟩
end
noncomputable def trk(h:Heap)(H:Hp):List Addr:=(ej h.objs.size).filter fun a=> (H a).isSome
def ae4(h:Heap)(H:Hp):Heap:=PySem.W.hideAll h (trk h H)
theorem arp(h:Heap)(H:Hp):(ae4 h H).objs.size=h.objs.size:=PySem.W.hideAll_size _ _
theorem axi{H:Hp}{o:Obj}(e:h.get? b=some o)(n:H b=none):(ae4 h H).get? b=some o:=
 PySem.W.hideAll_get _ e fun hm=> by
  have q:(H b).isSome=true:=(bS.mp hm).2
  rw [n]at q;simp at q
theorem azy{H:Hp}{o:Obj}(e:(ae4 h H).get? b=some o):h.get? b=some o/\H b=none:=by
 have e':h.get? b=some o:=PySem.W.of_hideAll (trk h H) e
 refine⟨e',?_⟩
 cases q:H b with
 |none=> rfl
 |some x=>
  have hm:b∈trk h H:=bS.mpr ⟨List.mem_range.mpr (ar e'),by simp [q]⟩
  have z:(ae4 h H).get? b=none:=PySem.W.hideAll_none (trk h H) hm
  rw [z]at e;cases e
noncomputable def azn(g h:Heap)(L:Addr):List (Addr×Obj):=(ej h.objs.size).filterMap fun a=> if a=L\/(g.get? a).isSome=true then none else (h.get? a).map fun o=> (a,o)
def jy(g h:Heap)(L d:Addr):List (Addr×Obj):=(azn g h L).filter fun p=> decide (p.1≠d)
structure Mod (K:ak) (mg:Str -> Option af) (base:Heap):Prop where
 kin:K.In base
 glob:base.Ns aU mg
 blt: ∃mb,base.Ns builtinsNs mb/\ ∀x:Str,x≠"__name__" -> mb x=bt x
 nolimit:base.NoLimit
structure Cx where
 prog:aV
 w:aZ
 K:ak
 mg:Str -> Option af
 base:Heap
 A:br
 N:List Str
 s₀:aj
 H₀:Hp
 env:Env
 outer:List Env
 stack:List Env
 ex:List Addr
 fn:Str -> Bool
 calm:Bool
 pn:List (Addr×Obj)
 xe:af -> aj -> Prop
noncomputable def frs(l:List Env):List Addr:=l.filterMap (·.frame)
abbrev Cx.fs(X:Cx):List Addr:=frs X.outer
def Vis(sc:gm)(x:Str):Prop:=sc.names.lookup x=some .local\/sc.names.lookup x=some .cell\/sc.names.lookup x=some .free
def Loc(sc:gm)(x:Str):Prop:=sc.names.lookup x=some .local\/sc.names.lookup x=some .cell
def Look(env:Env)(h:Heap)(m:Str -> Option af)(x:Str)(u:af):Prop:=
 (env.kindOf x=some .local/\m x=some u)\/((env.kindOf x=some .cell\/env.kindOf x=some .free)/\ ∃c,env.cells.lookup x=some c/\h.IsCell c (some u))
structure Cx.Ok (X:Cx):Prop where
 mod:Mod X.K X.mg X.base
 kind:X.env.scope.kind=.function
 glob:X.env.globals=aU
 blt:X.env.builtins=builtinsNs
 above:X.s₀.heap.objs.size <=X.env.locals
 inj: ∀x y c,X.env.cells.lookup x=some c -> X.env.cells.lookup y=some c -> x=y
 has: ∀x,(X.env.kindOf x=some .cell\/X.env.kindOf x=some .free) -> ∃c,X.env.cells.lookup x=some c
 cab: ∀x c,X.fn x=true -> X.env.cells.lookup x=some c -> X.s₀.heap.objs.size <=c
 hd:X.calm=true -> X.A.handled=none
 frames:X.A.frames=some X.stack
 stk:X.stack=X.outer\/(X.stack=X.env::X.outer/\X.env.frame=some X.env.locals)
 exf: ∀b∈X.ex,b≠X.env.locals/\ ∀x c,X.env.cells.lookup x=some c -> c≠b
 bs: ∀b o,X.base.get? b=some o -> X.s₀.heap.get? b=some o/\X.H₀ b=none
 bsz:X.base.objs.size <=X.s₀.heap.objs.size
 noex: ∀b o,X.base.get? b=some o -> b∉X.ex
 exfs: ∀b∈X.ex,b∉X.fs
 funs:X.s₀.heap.FunFrames X.base X.outer
 frf: ∀b∈X.fs,X.H₀ b=none
structure Inv (X:Cx) (pins:List (Addr×Obj)) (σ:List (Option V)) (H:Hp) (s:aj):Prop where
 ok:X.Ok
 os:s.os=X.s₀.os
 bare:gn s.gens
 base:Un X.fs X.ex X.H₀ H X.s₀.heap s.heap
 loc: ∃m,s.heap.Ns X.env.locals m/\ ∀(i:Nat) (x:Str) (v:V),X.N[i]?=some x -> σ[i]?=some (some v) -> Vis X.env.scope x -> ∃u,RelV v u/\Look X.env s.heap m x u
 cell: ∀x c,X.env.cells.lookup x=some c -> ∃v,s.heap.IsCell c v
 free:H X.env.locals=none
 freeC: ∀x c,X.env.cells.lookup x=some c -> H c=none
 pin: ∀p∈X.pn++pins,s.heap.get? p.1=some p.2/\H p.1=none/\p.1≠X.env.locals/\p.1∉X.fs/\ ∀v,p.2.data≠ .cell v
 hok:HOk X.prog X.w H s.heap
 len:σ.length=X.N.length
section
variable{X:Cx}{pins:List (Addr×Obj)}{σ:List (Option V)}{H H':Hp}{s:aj}{h':Heap}
theorem Cx.Ok.nofr(ok:X.Ok){o:Obj}(e:X.base.get? b=some o):b∉X.fs:=fun hb=> by
 have:=(ok.funs.mem hb).1
 rw [e]at this;cases this
theorem Inv.bs(I:Inv X pins σ H s): ∀b o,X.base.get? b=some o -> s.heap.get? b=some o/\H b=none:=fun b o e=>
 ⟨I.base.keep b o (I.ok.bs b o e).1 (I.ok.bs b o e).2 (I.ok.nofr e) (I.ok.noex b o e),I.base.free b o (I.ok.bs b o e).1 (I.ok.bs b o e).2 (I.ok.noex b o e)⟩
theorem Inv.bk(I:Inv X pins σ H s): ∀b o,X.base.get? b=some o -> s.heap.get? b=some o:=fun b o e=> (I.bs b o e).1
theorem Inv.mod(I:Inv X pins σ H s):Mod X.K X.mg X.base:=I.ok.mod
theorem Inv.kIn(I:Inv X pins σ H s):X.K.In s.heap:=I.ok.mod.kin.keeps I.bk
theorem Inv.lt(I:Inv X pins σ H s):X.env.locals < s.heap.objs.size:=let ⟨_,hn,_⟩:=I.loc;hn.lt
theorem Inv.sz(I:Inv X pins σ H s):X.s₀.heap.objs.size <=s.heap.objs.size:=ax I.ok.above (f8 I.lt)
theorem Inv.nofs(I:Inv X pins σ H s)(h:s.heap.objs.size <=a):a∉X.fs:=fun hb=> by
 obtain⟨_,o,ho,_⟩:=I.ok.funs.mem hb
 exact absurd (aN (ar ho) (ax I.sz h)) (cO _)
theorem Inv.cne(I:Inv X pins σ H s): ∀x c,X.env.cells.lookup x=some c -> c≠X.env.locals:=fun x c e z=> by
 obtain⟨v,o,ho,hd⟩:=I.cell x c e
 obtain⟨m,⟨o',es,ep,ho',hd',_⟩,_⟩:=I.loc
 rw [z,ho']at ho;cases ho;rw [hd']at hd;cases hd
theorem Inv.funs(I:Inv X pins σ H s):s.heap.FunFrames X.base X.outer:=by
 have all: ∀(l:List Env),(∀b∈frs l,b∈X.fs) -> X.s₀.heap.FunFrames X.base l -> s.heap.FunFrames X.base l:=by
  intro l
  induction l with
  |nil=> intro _ _;trivial
  |cons env r ih=>
   intro hs hl
   obtain⟨hk,⟨L,o,hf,hn,ho,hd⟩,hr⟩:=hl
   have hL:L∈X.fs:=hs L (by unfold frs;rw [eJ,hf];exact aD)
   obtain⟨sl,e⟩:=I.base.slot L o ho (I.ok.frf L hL) hL fun z=> I.ok.exfs L z hL
   exact⟨hk,⟨L,_,hf,hn,e,hd⟩,ih (fun b hb=> hs b (by unfold frs;rw [eJ,hf];exact aB _ hb)) hr⟩
 exact all X.outer (fun _ hb=> hb) I.ok.funs
theorem Inv.stack(I:Inv X pins σ H s):s.heap.FunFrames X.base X.stack:=by
 rcases I.ok.stk with e|⟨e,hf⟩
 ·rw [e];exact I.funs
 ·rw [e]
  obtain⟨m,hn,_⟩:=I.loc
  refine .cons (by rw [I.ok.kind];decide) hf hn ?_ I.funs
  exact Heap.get?_none_of_le (ax I.ok.bsz I.ok.above)
theorem Inv.stkSub(I:Inv X pins σ H s): ∀b∈frs X.stack,b∈X.env.locals::X.fs:=fun b hb=> by
 rcases I.ok.stk with e|⟨e,hf⟩
 ·rw [e]at hb;exact aB _ hb
 ·rw [e]at hb
  unfold frs at hb
  rw [eJ,hf]at hb
  exact hb
theorem Inv.stkFree(I:Inv X pins σ H s): ∀b∈frs X.stack,H b=none:=fun b hb=> by
 rcases aq.mp (I.stkSub b hb) with e|hb
 ·rw [e];exact I.free
 ·obtain⟨_,o,ho,_⟩:=I.ok.funs.mem hb
  exact I.base.free b o ho (I.ok.frf b hb) fun z=> I.ok.exfs b z hb
theorem Inv.step{g':Array iu}{d':Drawn}(I:Inv X pins σ H s)(hch: ∀b∈ch,(b∈X.ex\/X.s₀.heap.objs.size <=b)/\b≠X.env.locals/\(∀x c,X.env.cells.lookup x=some c -> c≠b)/\ ∀p∈X.pn++pins,p.1≠b)(keep: ∀b o,b≠X.env.locals -> b∉X.fs -> b∉ch -> s.heap.get? b=some o -> H b=none -> h'.get? b=some o)(slot: ∀b o,b≠X.env.locals -> b∈X.fs -> b∉ch -> s.heap.get? b=some o -> H b=none -> ∃sl,h'.get? b=some {o with slots:=sl})(free: ∀b o,b∉ch -> s.heap.get? b=some o -> H b=none -> H' b=none)(there: ∀b o,b∉ch -> s.heap.get? b=some o -> ∃o',h'.get? b=some o')(tups: ∀b xs,H b=some (.tup xs) -> H' b=some (.tup xs))(frzs: ∀b o u,H b=some (.frz o u) -> H' b=some (.frz o u))(tbls: ∀b ps,H b=some (.tbl ps) -> ∃more,H' b=some (.tbl (ps++more)))(ns: ∀m,s.heap.Ns X.env.locals m -> h'.Ns X.env.locals m)(hok:HOk X.prog X.w H' h')(hg:gn g'):
  Inv X pins σ H' {s with heap:=h',gens:=g',drawn:=d',toks:=t'}:=by
 have neL: ∀b o,X.s₀.heap.get? b=some o -> b≠X.env.locals:=fun b o e=> aP (aN (ar e) I.ok.above)
 have neC: ∀b o,X.s₀.heap.get? b=some o -> b∉X.ex -> b∉ch:=fun b o e hx hb=> by
  rcases (hch b hb).1 with z|z
  ·exact hx z
  ·exact absurd (aN (ar e) z) (cO _)
 have cellK: ∀x c,X.env.cells.lookup x=some c -> ∀v,s.heap.IsCell c v -> h'.IsCell c v:=fun x c e v ⟨o,ho,hd⟩=> by
  have nch:c∉ch:=fun z=> (hch c z).2.2.1 x c e rfl
  by_cases hc:c∈X.fs
  ·obtain⟨sl,q⟩:=slot c o (I.cne x c e) hc nch ho (I.freeC x c e)
   exact⟨_,q,hd⟩
  ·exact⟨o,keep c o (I.cne x c e) hc nch ho (I.freeC x c e),hd⟩
 refine⟨I.ok,I.os,hg,⟨fun b o e n hb hx=> ?_,fun b o e n hb hx=> ?_,fun b o e n hx=> ?_,fun b o e hx=> ?_,fun b xs e=> tups b xs (I.base.tups b xs e),fun b o xs e=> frzs b o xs (I.base.frzs b o xs e),fun b ps e=> ?_⟩,?_,fun x c e=> ?_,?_,fun x c e=> ?_,fun p hp=> ?_,hok,I.len⟩
 ·exact keep b o (neL b o e) hb (neC b o e hx) (I.base.keep b o e n hb hx) (I.base.free b o e n hx)
 ·obtain⟨sl,e1⟩:=I.base.slot b o e n hb hx
  obtain⟨sl',e2⟩:=slot b _ (neL b o e) hb (neC b o e hx) e1 (I.base.free b o e n hx)
  exact⟨sl',e2⟩
 ·obtain⟨o',e1⟩:=I.base.there b o e hx
  exact free b o' (neC b o e hx) e1 (I.base.free b o e n hx)
 ·obtain⟨o',e1⟩:=I.base.there b o e hx
  exact there b o' (neC b o e hx) e1
 ·obtain⟨m1,e1⟩:=I.base.tbls b ps e
  obtain⟨m2,e2⟩:=tbls b _ e1
  exact⟨m1++m2,by rw [e2,Array.append_assoc]⟩
 ·obtain⟨m,hn,hl⟩:=I.loc
  refine⟨m,ns m hn,fun i x v e1 e2 e3=> ?_⟩
  obtain⟨u,r,l⟩:=hl i x v e1 e2 e3
  refine⟨u,r,?_⟩
  rcases l with l|⟨k,c,e,z⟩
  ·exact .inl l
  ·exact .inr ⟨k,c,e,cellK x c e _ z⟩
 ·obtain⟨v,z⟩:=I.cell x c e
  exact⟨v,cellK x c e v z⟩
 ·obtain⟨m,⟨o,_,_,ho,_⟩,_⟩:=I.loc
  exact free _ o (fun z=> (hch _ z).2.1 rfl) ho I.free
 ·obtain⟨v,o,ho,hd⟩:=I.cell x c e
  exact free c o (fun z=> (hch c z).2.2.1 x c e rfl) ho (I.freeC x c e)
 ·obtain⟨e,n,ne,nf,d⟩:=I.pin p hp
  have nch:p.1∉ch:=fun z=> (hch p.1 z).2.2.2 p hp rfl
  exact⟨keep p.1 p.2 ne nf nch e n,free p.1 p.2 nch e n,ne,nf,d⟩
theorem Inv.un(I:Inv X pins σ H s)(u:Un X.fs [] H H' s.heap h')(hok:HOk X.prog X.w H' h'):Inv X pins σ H' {s with heap:=h',toks:=t'}:=by
 obtain⟨m,⟨o,es,ep,ho,r⟩,_⟩:=id I.loc
 obtain⟨sl,hL⟩:=u.any ho I.free (by simp)
 exact I.step (g':=s.gens) (d':=s.drawn) (ch:=[]) (fun _ z=> nomatch z) (fun b o _ hb _ e n=> u.keep b o e n hb (by simp)) (fun b o _ hb _ e n=> u.slot b o e n hb (by simp)) (fun b o _ e n=> u.free b o e n (by simp)) (fun b o _ e=> u.there b o e (by simp)) u.tups u.frzs u.tbls (fun m' hm=> by
  obtain⟨o',es',ep',ho',r'⟩:=hm
  rw [ho]at ho';cases ho'
  exact⟨_,es',ep',hL,r'⟩) hok I.bare
theorem Inv.call{g':Array iu}{d':Drawn}(I:Inv X pins σ H s)(u:Un (frs X.stack) ch H H' s.heap h')(hok:HOk X.prog X.w H' h')(hg:gn g')(hch: ∀b∈ch,(b∈X.ex\/X.s₀.heap.objs.size <=b)/\b≠X.env.locals/\(∀x c,X.env.cells.lookup x=some c -> c≠b)/\ ∀p∈X.pn++pins,p.1≠b):
  Inv X pins σ H' {s with heap:=h',gens:=g',drawn:=d',toks:=t'}:=by
 obtain⟨m,⟨o,es,ep,ho,r⟩,_⟩:=id I.loc
 obtain⟨sl,hL⟩:=u.any ho I.free fun z=> (hch _ z).2.1 rfl
 exact I.step (ch:=ch) hch (fun b o hL hb hc e n=> u.keep b o e n (fun z=> (aq.mp (I.stkSub b z)).elim hL hb) hc) (fun b o _ _ hc e n=> u.any e n hc) (fun b o hc e n=> u.free b o e n hc) (fun b o hc e=> u.there b o e hc) u.tups u.frzs u.tbls (fun m' hm=> by
  obtain⟨o',es',ep',ho',r'⟩:=hm
  rw [ho]at ho';cases ho'
  exact⟨_,es',ep',hL,r'⟩) hok hg
theorem Inv.turned{it:Addr}(I:Inv X pins σ H s)(k: ∀b o,b≠it -> s.heap.get? b=some o -> h'.get? b=some o)(hn:H it=none)(hL:it≠X.env.locals)(h1:it∈X.ex\/X.s₀.heap.objs.size <=it)(h2: ∀x c,X.env.cells.lookup x=some c -> c≠it)(h3: ∀p∈X.pn++pins,p.1≠it):Inv X pins σ H {s with heap:=h',toks:=t'}:=by
 have nit: ∀b u,H b=some u -> b≠it:=fun b u e z=> by rw [z,hn]at e;cases e
 refine I.step (g':=s.gens) (d':=s.drawn) (ch:=[it]) (fun b hb=> ?_) (fun b o _ _ hc e _=> k b o (fun z=> hc (by simp [z])) e) (fun b o _ _ hc e _=> ⟨o.slots,k b o (fun z=> hc (by simp [z])) e⟩) (fun _ _ _ _ n=> n)
  (fun b o hc e=> ⟨o,k b o (fun z=> hc (by simp [z])) e⟩) (fun _ _ e=> e) (fun _ _ _ e=> e) (fun b ps e=> ⟨#[],by rw [e];simp⟩) (fun m hm=> ?_) (fun b u e=> ?_) I.bare
 ·have e:b=it:=by simpa using hb
  subst e
  exact⟨h1,hL,h2,h3⟩
 ·obtain⟨o,es,ep,ho,r⟩:=hm
  exact⟨o,es,ep,k _ o (cP hL) ho,r⟩
 ·refine (I.hok b u e).stay (fun c v hc q=> k c v ?_ q) (fun _ q=> q) fun _ _ q=> q
  rcases hc with z|z
  ·rw [z];exact nit b u e
  ·exact nit c _ z
theorem Inv.tok(I:Inv X pins σ H s)(t:Nat):Inv X pins σ H {s with toks:=t}:=I.un (h':=s.heap) (t':=t) Un.refl I.hok
theorem Inv.kept(I:Inv X pins σ H s)(k: ∀b u,s.heap.get? b=some u -> h'.get? b=some u):Inv X pins σ H {s with heap:=h',toks:=t'}:=I.un (Un.kept k) (I.hok.kept k)
theorem Inv.laid{o:HO}(I:Inv X pins σ H s)(k: ∀b u,s.heap.get? b=some u -> h'.get? b=some u)(hp:s.heap.objs.size <=a)(new:j7 X.prog X.w (upd H a o) h' a o):
  Inv X pins σ (upd H a o) {s with heap:=h',toks:=t'}:=I.un (Un.laid k hp (I.hok.fresh hp)) (I.hok.laid k hp new)
theorem Inv.write{x e:Addr}{o:HO}(I:Inv X pins σ H s)(mu:Mut (H x))(he:e=x\/H e=some (.own x))(k: ∀b u,b≠e -> s.heap.get? b=some u -> h'.get? b=some u)(heo: ∃u,h'.get? e=some u)(new:j7 X.prog X.w (upd H x o) h' x o):Inv X pins σ (upd H x o) {s with heap:=h',toks:=t'}:=I.un (Un.write mu he k heo) (I.hok.write mu he k heo new)
theorem Inv.pins_of{pins':List (Addr×Obj)}(I:Inv X pins σ H s)(h: ∀p∈pins',s.heap.get? p.1=some p.2/\H p.1=none/\p.1≠X.env.locals/\p.1∉X.fs/\ ∀v,p.2.data≠ .cell v):Inv X pins' σ H s:=
 ⟨I.ok,I.os,I.bare,I.base,I.loc,I.cell,I.free,I.freeC,fun p hp=> (bg.mp hp).elim (fun z=> I.pin p (fK _ z)) (h p),I.hok,I.len⟩
theorem agq{N:List Str}(hN:N.Nodup){j:Nat}{x:Str}(a:N[i]?=some x)(b:N[j]?=some x):i=j:=by
 obtain⟨h1,e1⟩:=aC.mp a
 obtain⟨h2,e2⟩:=aC.mp b
 exact (List.getElem_inj hN).mp (e1.trans e2.symm)
theorem aj4{x:Str}{v:V}(I:Inv X pins σ H s)(hN:X.N.Nodup)(hi:X.N[i]?=some x)(hx:Loc X.env.scope x)(r:RelV v u)(h: ∀s',Inv X pins (σ.set i (some v)) H s' -> (∃a,bI a s.heap s'.heap/\(a=X.env.locals\/X.env.cells.lookup x=some a)) -> Q () s')(hf:X.fn x=true\/X.env.scope.names.lookup x=some .local:=by first|exact .inl rfl|exact .inr rfl|assumption):wpAny M A (storeName X.env x u) Q E s:=by
 obtain⟨m,hn,hl⟩:=id I.loc
 have hcls:(X.env.scope.kind==.class||(X.env.scope.kind==.module&&X.env.locals !=X.env.globals))=false:=by rw [I.ok.kind];rfl
 have hiσ:i < σ.length:=by rw [I.len];exact (aC.mp hi).1
 have cne:=I.cne
 have tracked: ∀{a:Addr} {h':Heap},(∃o,s.heap.get? a=some o/\H a=none) -> bI a s.heap h' -> HOk X.prog X.w H h':=fun {a h'} ha hs b ob e=> by
  obtain⟨_,_,hfree⟩:=ha
  refine (I.hok b ob e).stay (fun c w' hc q=> (hs.2 c ?_).trans q) (fun _ q=> q) fun _ _ q=> q
  rintro rfl
  rcases hc with rfl|hc
  ·rw [hfree]at e;cases e
  ·rw [hfree]at hc;cases hc
 rcases hx with hk|hk
 ·refine wpAny_storeName_local hk hn (fun h' hn' hs=> ?_) hcls
  obtain⟨oL,_,_,hoL,_⟩:=id hn
  refine h _ ⟨I.ok,I.os,I.bare,⟨fun b o e n hb hx=> ?_,fun b o e n hb hx=> ?_,I.base.free,fun b o e hx=> ?_,I.base.tups,I.base.frzs,I.base.tbls⟩,⟨_,hn',fun j y v' e1 e2 e3=> ?_⟩,fun y c e=> ?_,I.free,I.freeC,fun p hp=> ?_,tracked ⟨oL,hoL,I.free⟩ hs,by simpa using I.len⟩ ⟨_,hs,.inl rfl⟩
  ·exact (hs.2 b (aP (aN (ar e) I.ok.above))).trans (I.base.keep b o e n hb hx)
  ·obtain⟨sl,e1⟩:=I.base.slot b o e n hb hx
   exact⟨sl,(hs.2 b (aP (aN (ar e) I.ok.above))).trans e1⟩
  ·obtain⟨o',e1⟩:=I.base.there b o e hx
   exact⟨o',(hs.2 b (aP (aN (ar e) I.ok.above))).trans e1⟩
  ·by_cases hj:j=i
   ·subst hj
    rw [hi]at e1;cases e1
    rw [bn hiσ]at e2
    cases e2
    exact⟨u,r,.inl ⟨hk,by simp⟩⟩
   ·rw [aX (cP hj)]at e2
    obtain⟨u',r',q⟩:=hl j y v' e1 e2 e3
    refine⟨u',r',?_⟩
    rcases q with ⟨k,e⟩|⟨k,c,e,z⟩
    ·refine .inl ⟨k,?_⟩
     have:y≠x:=fun e=> hj (agq hN e1 (e▸hi))
     simp [this,e]
    ·exact .inr ⟨k,c,e,z.sameBut hs (cne y c e)⟩
  ·obtain⟨w',z⟩:=I.cell y c e
   exact⟨w',z.sameBut hs (cne y c e)⟩
  ·obtain⟨e,n,ne,nf,d⟩:=I.pin p hp
   exact⟨(hs.2 p.1 ne).trans e,n,ne,nf,d⟩
 ·have hfn:X.fn x=true:=by
   rcases hf with z|z
   ·exact z
   ·rw [z]at hk;cases hk
  obtain⟨c,hc⟩:=I.ok.has x (.inl hk)
  obtain⟨w',z⟩:=I.cell x c hc
  refine wpAny_storeName_cell I.ok.kind hk hc z (fun h' hc' hs=> ?_)
  obtain⟨oc,hoc,hocd⟩:=id z
  refine h {s with heap:=h'} ⟨I.ok,I.os,I.bare,⟨fun b o e n hb hx=> ?_,fun b o e n hb hx=> ?_,I.base.free,fun b o e hx=> ?_,I.base.tups,I.base.frzs,I.base.tbls⟩,⟨m,hn.sameBut hs (cP (cne x c hc)),fun j y v' e1 e2 e3=> ?_⟩,fun y c' e=> ?_,I.free,I.freeC,fun p hp=> ?_,tracked ⟨oc,hoc,I.freeC x c hc⟩ hs,by simpa using I.len⟩ ⟨c,hs,.inr hc⟩
  ·exact (hs.2 b (aP (aN (ar e) (I.ok.cab x c hfn hc)))).trans (I.base.keep b o e n hb hx)
  ·obtain⟨sl,e1⟩:=I.base.slot b o e n hb hx
   exact⟨sl,(hs.2 b (aP (aN (ar e) (I.ok.cab x c hfn hc)))).trans e1⟩
  ·obtain⟨o',e1⟩:=I.base.there b o e hx
   exact⟨o',(hs.2 b (aP (aN (ar e) (I.ok.cab x c hfn hc)))).trans e1⟩
  ·by_cases hj:j=i
   ·subst hj
    rw [hi]at e1;cases e1
    rw [bn hiσ]at e2
    cases e2
    exact⟨u,r,.inr ⟨.inl hk,c,hc,hc'⟩⟩
   ·rw [aX (cP hj)]at e2
    obtain⟨u',r',q⟩:=hl j y v' e1 e2 e3
    refine⟨u',r',?_⟩
    rcases q with q|⟨k,c',e,z'⟩
    ·exact .inl q
    ·refine .inr ⟨k,c',e,z'.sameBut hs ?_⟩
     rintro rfl
     exact hj (agq hN e1 (I.ok.inj _ _ _ e hc▸hi))
  ·by_cases hcc:c'=c
   ·subst hcc;exact⟨_,hc'⟩
   ·obtain⟨w2,z2⟩:=I.cell y c' e
    exact⟨w2,z2.sameBut hs hcc⟩
  ·obtain⟨e,n,ne,nf,d⟩:=I.pin p hp
   refine⟨(hs.2 p.1 ?_).trans e,n,ne,nf,d⟩
   intro q
   rw [q,hoc]at e
   have q':oc=p.2:=bZ e
   exact d w' (by rw [←q'];exact hocd)
theorem zl{x:Str}{v:V}(I:Inv X pins σ H s)(hN:X.N.Nodup)(hi:X.N[i]?=some x)(hx:Loc X.env.scope x)(r:RelV v u)(h: ∀s',Inv X pins (σ.set i (some v)) H s' -> Q () s')(hf:X.fn x=true\/X.env.scope.names.lookup x=some .local:=by first|exact .inl rfl|exact .inr rfl|assumption):wpAny M A (storeName X.env x u) Q E s:=
 aj4 I hN hi hx r (fun s' I' _=> h s' I') hf
theorem Inv.call'{s':aj}(I:Inv X pins σ H s)(ho:s'.os=s.os)(u:Un (frs X.stack) ch H H' s.heap s'.heap)(hok:HOk X.prog X.w H' s'.heap)(hg:gn s'.gens)(hch: ∀b∈ch,(b∈X.ex\/X.s₀.heap.objs.size <=b)/\b≠X.env.locals/\(∀x c,X.env.cells.lookup x=some c -> c≠b)/\ ∀p∈X.pn++pins,p.1≠b):Inv X pins σ H' s':=by
 obtain⟨h',g',d',t',o'⟩:=s'
 have e:o'=s.os:=ho
 subst e
 exact I.call (g':=g') (t':=t') (d':=d') u hok hg hch
end
abbrev XK:=af -> Option Addr -> Hp -> Prop
abbrev St:=List (Option V)
abbrev SK:=St -> XK
abbrev VK:=V -> Hp -> Prop
abbrev TE:=St -> Hp -> VK -> Prop
abbrev TT:=St -> Hp -> (Bool -> Hp -> Prop) -> Prop
abbrev TA:=St -> Hp -> (List V -> Hp -> Prop) -> Prop
structure Ends where
 nx:St -> Hp -> Prop
 rt:VK
 bk:St -> Hp -> Prop:=fun _ _=> False
 ct:St -> Hp -> Prop:=fun _ _=> False
abbrev TS:=Ends -> St -> Hp -> Prop
def EP(X:Cx)(pins:List (Addr×Obj))(σ:St)(Q:VK)(u:af)(s':aj):Prop:= ∃v H',Inv X pins σ H' s'/\RelV v u/\Q v H'
def TP(X:Cx)(pins:List (Addr×Obj))(σ:St)(Q:Bool -> Hp -> Prop)(b:Bool)(s':aj):Prop:= ∃H',Inv X pins σ H' s'/\Q b H'
def AP(X:Cx)(pins:List (Addr×Obj))(σ:St)(Q:List V -> Hp -> Prop)(us:List af)(s':aj):Prop:= ∃vs H',Inv X pins σ H' s'/\jo vs us/\Q vs H'
def SP(X:Cx)(pins:List (Addr×Obj))(D:Ends)(f:Flow)(s':aj):Prop:=
 match f with
 |.next=> ∃σ' H',Inv X pins σ' H' s'/\D.nx σ' H'
 |.brk=> ∃σ' H',Inv X pins σ' H' s'/\D.bk σ' H'
 |.cont=> ∃σ' H',Inv X pins σ' H' s'/\D.ct σ' H'
 |.ret u=> ∃v σ' H',Inv X pins σ' H' s'/\RelV v u/\D.rt v H'
structure PE (X:Cx) (e:Expr) (t:TE):Prop where
 run: ∀(pins:List (Addr×Obj)) (s:aj) (σ:St) (H:Hp) (Q:VK),Inv X pins σ H s -> t σ H Q -> wpAny (model X.prog X.w) X.A (eval e X.env) (EP X pins σ Q) X.xe s
instance {X:Cx} {e:Expr} {t:TE}:CoeFun (PE X e t) fun _=> ∀(pins:List (Addr×Obj)) (s:aj) (σ:St) (H:Hp) (Q:VK),Inv X pins σ H s -> t σ H Q -> wpAny (model X.prog X.w) X.A (eval e X.env) (EP X pins σ Q) X.xe s:=⟨PE.run⟩
structure PT (X:Cx) (e:Expr) (t:TT):Prop where
 run: ∀(pins:List (Addr×Obj)) (s:aj) (σ:St) (H:Hp) (Q:Bool -> Hp -> Prop),Inv X pins σ H s -> t σ H Q -> wpAny (model X.prog X.w) X.A (isTrue e X.env (eval e X.env)) (TP X pins σ Q) X.xe s
instance {X:Cx} {e:Expr} {t:TT}:CoeFun (PT X e t) fun _=> ∀(pins:List (Addr×Obj)) (s:aj) (σ:St) (H:Hp) (Q:Bool -> Hp -> Prop),Inv X pins σ H s -> t σ H Q -> wpAny (model X.prog X.w) X.A (isTrue e X.env (eval e X.env)) (TP X pins σ Q) X.xe s:=⟨PT.run⟩
structure PW (X:Cx) (e:Expr) (t:TT):Prop where
 run: ∀(whole:Sem af) (pins:List (Addr×Obj)) (s:aj) (σ:St) (H:Hp) (Q:Bool -> Hp -> Prop),Inv X pins σ H s -> t σ H Q -> wpAny (model X.prog X.w) X.A (isTrue e X.env whole) (TP X pins σ Q) X.xe s
instance {X:Cx} {e:Expr} {t:TT}:CoeFun (PW X e t) fun _=> ∀(whole:Sem af) (pins:List (Addr×Obj)) (s:aj) (σ:St) (H:Hp) (Q:Bool -> Hp -> Prop),Inv X pins σ H s -> t σ H Q -> wpAny (model X.prog X.w) X.A (isTrue e X.env whole) (TP X pins σ Q) X.xe s:=⟨PW.run⟩
theorem PW.pt{X:Cx}{t:TT}(h:PW X e t):PT X e t:=⟨h _⟩
structure PA (X:Cx) (es:List Expr) (t:TA):Prop where
 run: ∀(pos:Pos) (pins:List (Addr×Obj)) (s:aj) (σ:St) (H:Hp) (Q:List V -> Hp -> Prop),Inv X pins σ H s -> t σ H Q -> wpAny (model X.prog X.w) X.A (spliced (backTo pos (starEach es X.env))) (AP X pins σ Q) X.xe s
instance {X:Cx} {es:List Expr} {t:TA}:CoeFun (PA X es t) fun _=> ∀(pos:Pos) (pins:List (Addr×Obj)) (s:aj) (σ:St) (H:Hp) (Q:List V -> Hp -> Prop),Inv X pins σ H s -> t σ H Q -> wpAny (model X.prog X.w) X.A (spliced (backTo pos (starEach es X.env))) (AP X pins σ Q) X.xe s:=⟨PA.run⟩
structure PS (X:Cx) (st:Stmt) (t:TS):Prop where
 run: ∀(pins:List (Addr×Obj)) (s:aj) (σ:St) (H:Hp) (D:Ends),Inv X pins σ H s -> t D σ H -> wpAny (model X.prog X.w) X.A (exec st X.env) (SP X pins D) X.xe s
instance {X:Cx} {st:Stmt} {t:TS}:CoeFun (PS X st t) fun _=> ∀(pins:List (Addr×Obj)) (s:aj) (σ:St) (H:Hp) (D:Ends),Inv X pins σ H s -> t D σ H -> wpAny (model X.prog X.w) X.A (exec st X.env) (SP X pins D) X.xe s:=⟨PS.run⟩
structure PSs (X:Cx) (st:List Stmt) (t:TS):Prop where
 run: ∀(pins:List (Addr×Obj)) (s:aj) (σ:St) (H:Hp) (D:Ends),Inv X pins σ H s -> t D σ H -> wpAny (model X.prog X.w) X.A (execs st X.env) (SP X pins D) X.xe s
instance {X:Cx} {st:List Stmt} {t:TS}:CoeFun (PSs X st t) fun _=> ∀(pins:List (Addr×Obj)) (s:aj) (σ:St) (H:Hp) (D:Ends),Inv X pins σ H s -> t D σ H -> wpAny (model X.prog X.w) X.A (execs st X.env) (SP X pins D) X.xe s:=⟨PSs.run⟩
theorem thn{α:Type}{t:Sem α}{Q Q':α -> aj -> Prop}(h:wpAny M A t Q E s)(hQ: ∀a s,Q a s -> Q' a s):wpAny M A t Q' E s:=cA h hQ fun _ _ x=> x
section
variable{X:Cx}
noncomputable def avc(i:Nat):TE:=fun σ H Q=> ∃v,σ[i]?=some (some v)/\Q v H
noncomputable def tC(v:V):TE:=fun _ H Q=> Q v H
theorem at4{x:Str}(hN:X.N[i]?=some x)(hv:Vis X.env.scope x)(hd:(x==("__debug__":Str))=false:=by decide)(hcd:(x==("__classdict__":Str))=false:=by decide):PE X (.Name x pos) (avc i):=by
 (first|refine⟨?_⟩|skip);intro pins s σ H Q I h
 obtain⟨v,e,h⟩:=h
 obtain⟨m,hn,hl⟩:=I.loc
 obtain⟨u,r,l⟩:=hl i x v hN e hv
 have fin:EP X pins σ Q u s:=⟨v,H,I,r,h⟩
 rcases l with ⟨hk,hm⟩|⟨hk,c,hc,hcell⟩
 ·exact wpAny_Name (lR I.ok.kind hk hn hm fin) hd
 ·rcases hk with hk|hk
  ·exact wpAny_Name (mh I.ok.kind hk hc hcell fin) hd
  ·exact wpAny_Name (wpAny_loadName_free I.ok.kind hk hc hcell fin hcd) hd
theorem asf{i j pos}:PE X (.Constant (.int i) j pos) (tC (.int i)):=.mk <|fun _ _ _ H _ I h=> wpAny_Constant_int ⟨.int i,H,I.tok _,⟨_,rfl⟩,h⟩
theorem ayy{b j pos}:PE X (.Constant (.bool b) j pos) (tC (.bl b)):=.mk <|fun _ _ _ H _ I h=> Constant_bool ⟨.bl b,H,I,rfl,h⟩
theorem au7{j pos}:PE X (.Constant .none j pos) (tC .non):=.mk <|fun _ _ _ H _ I h=> Constant_none ⟨.non,H,I,rfl,h⟩
theorem atj{x j pos}:PE X (.Constant (.str x) j pos) (tC (.str x)):=.mk <|fun _ _ _ H _ I h=> Calls.Constant_str ⟨.str x,H,I.tok _,⟨_,rfl⟩,h⟩
def Gl(X:Cx)(x:Str):Prop:=X.env.kindOf x=some .globalImplicit
theorem adk{σ:St}{H:Hp}{x:Str}{Q:af -> aj -> Prop}(I:Inv X pins σ H s)(hg:Gl X x)(hm:X.mg x=some u)(h:Q u s)(hd:(x==("__debug__":Str))=false:=by decide):wpAny (model X.prog X.w) X.A (eval (.Name x pos) X.env) Q E s:=
 iX I.ok.kind hg (Calls.loadGlobal_global (by rw [I.ok.glob];exact I.mod.glob.keeps I.bk) hm h) hd
theorem abp{σ:St}{H:Hp}{x:Str}{Q:af -> aj -> Prop}(I:Inv X pins σ H s)(hg:Gl X x)(hm:X.mg x=none)(hv:bt x=some u)(h:Q u s)(hn:x≠"__name__":=by decide)(hd:(x==("__debug__":Str))=false:=by decide):wpAny (model X.prog X.w) X.A (eval (.Name x pos) X.env) Q E s:=by
 obtain⟨mb,h1,h2⟩:=I.mod.blt
 exact iX I.ok.kind hg (Calls.loadGlobal_builtin (by rw [I.ok.glob];exact I.mod.glob.keeps I.bk) hm (by rw [I.ok.blt];exact h1.keeps I.bk) ((h2 x hn).trans hv) h) hd
theorem ap7{x:Str}{v:V}(hg:Gl X x)(hm:X.mg x=some u)(r:RelV v u)(hd:(x==("__debug__":Str))=false:=by decide):PE X (.Name x pos) (tC v):=
 .mk <|fun _ _ _ H _ I h=> adk I hg hm ⟨v,H,I,r,h⟩ hd
theorem a0s{x:Str}{v:V}(hg:Gl X x)(hm:X.mg x=none)(hv:bt x=some u)(r:RelV v u)(hn:x≠"__name__":=by decide)(hd:(x==("__debug__":Str))=false:=by decide):PE X (.Name x pos) (tC v):=
 .mk <|fun _ _ _ H _ I h=> abp I hg hm hv ⟨v,H,I,r,h⟩ hn hd
variable{a b:Expr}{ta tb:TE}{pos:Pos}
variable{tA tB':TT}{jy:List Expr}
noncomputable def a41(t u:TT):TT:=fun σ H Q=> t σ H fun c H1=> if c=true then u σ H1 Q else Q false H1
noncomputable def tOr(t u:TT):TT:=fun σ H Q=> t σ H fun c H1=> if c=true then Q true H1 else u σ H1 Q
noncomputable def a4l(t:TT):TT:=fun σ H Q=> t σ H fun c H1=> Q (!c) H1
theorem azh(ha:PT X a tA):PW X (.BoolOp .And [a] pos) tA:=by
 (first|refine⟨?_⟩|skip);intro wh pins s σ H Q I h
 refine isTrue_and (thn (ha pins s σ H Q I h) fun c s1 e=> ?_)
 cases c with
 |true=> exact isTrue_and_nil e
 |false=> exact e
theorem a2p(ha:PT X a tA):PW X (.BoolOp .Or [a] pos) tA:=by
 (first|refine⟨?_⟩|skip);intro wh pins s σ H Q I h
 refine isTrue_or (thn (ha pins s σ H Q I h) fun c s1 e=> ?_)
 cases c with
 |false=> exact isTrue_or_nil e
 |true=> exact e
theorem a5t(ha:PT X a tA)(hb:PW X (.BoolOp .And (b::jy) pos) tB'):PW X (.BoolOp .And (a::b::jy) pos) (a41 tA tB'):=by
 (first|refine⟨?_⟩|skip);intro wh pins s σ H Q I h
 refine isTrue_and (thn (ha pins s σ H _ I h) fun c s1 ⟨H1,I1,q1⟩=> ?_)
 cases c with
 |true=> exact hb wh pins s1 σ H1 Q I1 q1
 |false=> exact⟨H1,I1,q1⟩
theorem a7d(ha:PT X a tA)(hb:PW X (.BoolOp .Or (b::jy) pos) tB'):PW X (.BoolOp .Or (a::b::jy) pos) (tOr tA tB'):=by
 (first|refine⟨?_⟩|skip);intro wh pins s σ H Q I h
 refine isTrue_or (thn (ha pins s σ H _ I h) fun c s1 ⟨H1,I1,q1⟩=> ?_)
 cases c with
 |true=> exact⟨H1,I1,q1⟩
 |false=> exact hb wh pins s1 σ H1 Q I1 q1
theorem a4v(ha:PT X a tA):PT X (.UnaryOp .Not a pos) (a4l tA):=by
 (first|refine⟨?_⟩|skip);intro pins s σ H Q I h
 exact isTrue_not (ha pins s σ H (fun c H1=> Q (!c) H1) I h)
noncomputable def a7z(ta tb:TE):TE:=fun σ H Q=> ta σ H fun x H1=> ∃c,x=.bl c/\if c=true then tb σ H1 Q else Q (.bl false) H1
noncomputable def a8p(ta tb:TE):TE:=fun σ H Q=> ta σ H fun x H1=> ∃c,x=.bl c/\if c=true then Q (.bl true) H1 else tb σ H1 Q
noncomputable def a7x(ta:TE):TE:=fun σ H Q=> ta σ H fun x H1=> ∃c,x=.bl c/\Q (.bl (!c)) H1
theorem a4h{op}{t:TE}(h:PE X a t):PE X (.BoolOp op [a] pos) t:=.mk <|fun pins s σ H Q I hw=> BoolOp_one (h pins s σ H Q I hw)
theorem a4i(ha:PE X a ta)(hb:PE X (.BoolOp .And (b::jy) pos) tb):PE X (.BoolOp .And (a::b::jy) pos) (a7z ta tb):=by
 (first|refine⟨?_⟩|skip);intro pins s σ H Q I h
 refine BoolOp_and (thn (ha pins s σ H _ I h) fun v s1 ⟨x,H1,I1,r1,q1⟩=> ?_)
 obtain⟨c,rfl,q1⟩:=q1
 cases r1
 refine cR ?_
 cases c with
 |true=> exact hb pins s1 σ H1 Q I1 q1
 |false=> exact⟨.bl false,H1,I1,rfl,q1⟩
theorem a62(ha:PE X a ta)(hb:PE X (.BoolOp .Or (b::jy) pos) tb):PE X (.BoolOp .Or (a::b::jy) pos) (a8p ta tb):=by
 (first|refine⟨?_⟩|skip);intro pins s σ H Q I h
 refine BoolOp_or (thn (ha pins s σ H _ I h) fun v s1 ⟨x,H1,I1,r1,q1⟩=> ?_)
 obtain⟨c,rfl,q1⟩:=q1
 cases r1
 refine cR ?_
 cases c with
 |false=> exact hb pins s1 σ H1 Q I1 q1
 |true=> exact⟨.bl true,H1,I1,rfl,q1⟩
theorem a4c(ha:PE X a ta):PE X (.UnaryOp .Not a pos) (a7x ta):=by
 (first|refine⟨?_⟩|skip);intro pins s σ H Q I h
 refine UnaryOp_ (thn (ha pins s σ H _ I h) fun v s1 ⟨x,H1,I1,r1,q1⟩=> ?_)
 obtain⟨c,rfl,q1⟩:=q1
 cases r1
 exact not_of (cR ⟨.bl (!c),H1,I1,rfl,q1⟩)
noncomputable def tIf(t:TT)(ta tb:TE):TE:=fun σ H Q=> t σ H fun c H1=> if c=true then ta σ H1 Q else tb σ H1 Q
theorem awb{c:Expr}(hc:PT X c tA)(ha:PE X a ta)(hb:PE X b tb):PE X (.IfExp c a b pos) (tIf tA ta tb):=by
 (first|refine⟨?_⟩|skip);intro pins s σ H Q I h
 refine wpAny_IfExp (thn (hc pins s σ H _ I h) fun d s1 ⟨H1,I1,q1⟩=> ?_)
 cases d with
 |true=> exact ha pins s1 σ H1 Q I1 q1
 |false=> exact hb pins s1 σ H1 Q I1 q1
end
def SqL(K:ak)(H:Hp)(a:Addr)(xs:List V):Prop:=
 Rd H a (.lst xs)\/
  ∃(o:Obj) (its:Array af) (n:Nat),K.lookup a=some o/\o.cls=.type "list"/\o.dict=none/\o.data=.seq its n/\its.size <=sizeLine/\jo xs its.toList
def SqT(K:ak)(H:Hp)(a:Addr)(xs:List V):Prop:=
 Rd H a (.tup xs)\/
  ∃(o:Obj) (its:Array af) (n:Nat),K.lookup a=some o/\o.cls=.type "tuple"/\o.data=.seq its n/\its.size <=sizeLine/\jo xs its.toList
noncomputable def a8s:af -> Option V
 |.none=> some .non
 |.bool b=> some (.bl b)
 |.int i _=> some (.int i)
 |.str x _=> some (.str x)
 |.bytes b _=> some (.byt b)
 |.float b _=> some (.flt b)
 |.ref a=> some (.ref a)
 |.type n=> some (.ty n)
 |_=> none
theorem RelV.abs{x:V}(r:RelV x u):a8s u=some x:=by
 cases x with
 |non=> cases r;rfl
 |bl _=> cases r;rfl
 |int _=> obtain⟨t,rfl⟩:=r;rfl
 |str _=> obtain⟨t,rfl⟩:=r;rfl
 |byt _=> obtain⟨t,rfl⟩:=r;rfl
 |flt _=> obtain⟨t,rfl⟩:=r;rfl
 |ref _=> cases r;rfl
 |ty _=> cases r;rfl
theorem RelV.inj{x y:V}(r:RelV x u)(q:RelV y u):x=y:=bZ (r.abs.symm.trans q.abs)
theorem jo.inj: ∀{xs ys:List V} {us:List af},jo xs us -> jo ys us -> xs=ys
 |_,_,_,.nil,.nil=> rfl
 |_,_,_,.cons r t,.cons r' t'=> by rw [r.inj r',jo.inj t t']
section
variable{X:Cx}{pins:List (Addr×Obj)}{σ:St}{H:Hp}{s:aj}{a:Addr}{xs ys:List V}
theorem SqL.of(h:H a=some (.lst xs)):SqL K H a xs:=.inl (.inl h)
theorem SqT.of(h:H a=some (.tup xs)):SqT K H a xs:=.inl (.inl h)
theorem Inv.list(I:Inv X pins σ H s)(h:SqL X.K H a xs): ∃its:List af,jo xs its/\PlainL s.heap a its.toArray/\xs.length <=sizeLine:=by
 rcases h with h|⟨o,its,n,hk,hc,hd,hs,hz,r⟩
 ·obtain⟨z,its,n,r,e⟩:=h.ok I.hok
  exact⟨its,r,⟨_,n,e,rfl,rfl,rfl⟩,z⟩
 ·refine⟨its.toList,r,⟨o,n,I.kIn a o hk,hc,hd,by simpa using hs⟩,?_⟩
  have e:=r.length
  simp only [aM]at e
  lia
theorem Inv.tuple(I:Inv X pins σ H s)(h:SqT X.K H a xs): ∃its:List af,jo xs its/\IsTup s.heap a its.toArray/\xs.length <=sizeLine:=by
 rcases h with h|⟨o,its,n,hk,hc,hs,hz,r⟩
 ·obtain⟨z,its,r,p⟩:=h.ok I.hok
  exact⟨its,r,p.tup,z⟩
 ·refine⟨its.toList,r,⟨o,I.kIn a o hk,hc,n,by simpa using hs⟩,?_⟩
  have e:=r.length
  simp only [aM]at e
  lia
theorem Inv.list_inj(I:Inv X pins σ H s)(h:SqL X.K H a xs)(h':SqL X.K H a ys):xs=ys:=by
 obtain⟨its,r,⟨o,n,e,_,_,d⟩,_⟩:=I.list h
 obtain⟨its',r',⟨o',n',e',_,_,d'⟩,_⟩:=I.list h'
 rw [e]at e';cases e'
 rw [d]at d'
 injection d' with d1 _
 have:its=its':=by simpa using congrArg Array.toList d1
 subst this
 exact r.inj r'
theorem Inv.tuple_inj(I:Inv X pins σ H s)(h:SqT X.K H a xs)(h':SqT X.K H a ys):xs=ys:=by
 obtain⟨its,r,⟨o,e,_,n,d⟩,_⟩:=I.tuple h
 obtain⟨its',r',⟨o',e',_,n',d'⟩,_⟩:=I.tuple h'
 rw [e]at e';cases e'
 rw [d]at d'
 injection d' with d1 _
 have:its=its':=by simpa using congrArg Array.toList d1
 subst this
 exact r.inj r'
end
section
variable{X:Cx}{st:Stmt}{jy:List Stmt}{t u:TS}{e:Expr}{te:TE}{pos:Pos}
noncomputable def a6j:TS:=fun D σ H=> D.nx σ H
noncomputable def a3t(t u:TS):TS:=fun D σ H=> t {D with nx:=u D} σ H
theorem a1j:PSs X [] a6j:=.mk <|fun _ _ σ H _ I h=> fY ⟨σ,H,I,h⟩
theorem aw8(h1:PS X st t)(h2:PSs X jy u):PSs X (st::jy) (a3t t u):=by
 (first|refine⟨?_⟩|skip);intro pins s σ H D I h
 refine wpAny_execs_cons (thn (h1 pins s σ H {D with nx:=u D} I h) fun f s1 q=> ?_)
 cases f with
 |next=>
  obtain⟨σ',H',I',q⟩:=q
  exact h2 pins s1 σ' H' D I' q
 |ret v=> exact q
 |brk=> exact q
 |cont=> exact q
theorem azo(h1:PS X st t):PSs X [st] t:=by
 (first|refine⟨?_⟩|skip);intro pins s σ H D I h
 refine wpAny_execs_cons (thn (h1 pins s σ H D I h) fun f s1 q=> ?_)
 cases f with
 |next=> exact fY q
 |ret v=> exact q
 |brk=> exact q
 |cont=> exact q
theorem Inv.quiet{σ:St}{H:Hp}(I:Inv X pins σ H s):interactive X.env=false:=by simp [interactive,I.ok.kind]
noncomputable def a72(te:TE):TS:=fun D σ H=> te σ H fun _ H1=> D.nx σ H1
theorem a21(he:PE X e te)(hs:f9 e none pos.line X.env=pure false:=by rfl):PS X (.Expr e pos) (a72 te):=by
 (first|refine⟨?_⟩|skip);intro pins s σ H D I h
 exact wpAny_Expr_any (thn (he pins s σ H _ I h) fun v s1 ⟨x,H1,I1,r1,q1⟩=> ⟨σ,H1,I1,q1⟩) I.quiet hs
noncomputable def a9g(te:TE):TS:=fun D σ H=> te σ H D.rt
theorem a5i(he:PE X e te):PS X (.Return (some e) pos) (a9g te):=by
 (first|refine⟨?_⟩|skip);intro pins s σ H D I h
 exact wpAny_Return_some (thn (he pins s σ H _ I h) fun v s1 ⟨x,H1,I1,r1,q1⟩=> ⟨x,σ,H1,I1,r1,q1⟩)
noncomputable def a90(c:TT)(t u:TS):TS:=fun D σ H=> c σ H fun b H1=> if b=true then t D σ H1 else u D σ H1
theorem a6x{c:Expr}{a b:List Stmt}{tc:TT}(hc:PT X c tc)(ha:PSs X a t)(hb:PSs X b u):PS X (.If c a b pos) (a90 tc t u):=by
 (first|refine⟨?_⟩|skip);intro pins s σ H D I h
 refine wpAny_If (thn (hc pins s σ H _ I h) fun d s1 ⟨H1,I1,q1⟩=> ?_)
 cases d with
 |true=> exact ha pins s1 σ H1 D I1 q1
 |false=> exact hb pins s1 σ H1 D I1 q1
end
abbrev TG:=V -> St -> Hp -> (St -> Hp -> Prop) -> Prop
abbrev TGs:=List V -> St -> Hp -> (St -> Hp -> Prop) -> Prop
def PG(X:Cx)(target:Expr)(t:TG):Prop:=
 ∀(pins:List (Addr×Obj)) (s:aj) (σ:St) (H:Hp) (v:V) (u:af) (Q:St -> Hp -> Prop),Inv X pins σ H s -> RelV v u -> t v σ H Q ->
  wpAny (model X.prog X.w) X.A (assign target X.env u) (fun _ s'=> ∃σ' H',Inv X pins σ' H' s'/\Q σ' H') X.xe s
def PGs(X:Cx)(ts:List Expr)(t:TGs):Prop:=
 ∀(pins:List (Addr×Obj)) (s:aj) (σ:St) (H:Hp) (vs:List V) (us:List af) (Q:St -> Hp -> Prop),Inv X pins σ H s -> jo vs us -> t vs σ H Q ->
  wpAny (model X.prog X.w) X.A (iY ((bD ts X.env).map (·.2)) us) (fun _ s'=> ∃σ' H',Inv X pins σ' H' s'/\Q σ' H') X.xe s
abbrev ar6:=V -> V -> V -> Hp -> (Hp -> Prop) -> Prop
def aix(X:Cx)(t:ar6):Prop:=
 ∀(pins:List (Addr×Obj)) (s:aj) (σ:St) (H:Hp) (o i v:V) (ov iv u:af) (Q:Hp -> Prop),Inv X pins σ H s -> RelV o ov -> RelV i iv -> RelV v u -> t o i v H Q ->
  wpAny (model X.prog X.w) X.A (setItem ov iv u) (fun _ s'=> ∃H',Inv X pins σ H' s'/\Q H') X.xe s
abbrev TIp:=V -> V -> Hp -> VK -> Prop
def PIp(X:Cx)(op:lS)(t:TIp):Prop:=
 ∀(pins:List (Addr×Obj)) (s:aj) (σ:St) (H:Hp) (x y:V) (v u:af) (Q:VK),Inv X pins σ H s -> RelV x v -> RelV y u -> t x y H Q ->
  wpAny (model X.prog X.w) X.A (inplaceOp op v u) (EP X pins σ Q) X.xe s
section
variable{X:Cx}{pos:Pos}
noncomputable def akl(i:Nat):TG:=fun v σ H Q=> Q (σ.set i (some v)) H
theorem a0z{x:Str}(hN:X.N.Nodup)(hi:X.N[i]?=some x)(hx:Loc X.env.scope x)(hf:X.fn x=true\/X.env.scope.names.lookup x=some .local:=by first|exact .inl rfl|exact .inr rfl|assumption):PG X (.Name x pos) (akl i):=by
 (first|refine⟨?_⟩|skip);intro pins s σ H v u Q I r h
 exact wpAny_assign_Name (zl I hN hi hx r (fun s' I'=> ⟨_,H,I',h⟩) hf)
noncomputable def aq8:TGs:=fun vs σ H Q=> vs=[]/\Q σ H
noncomputable def adn(t:TG)(u:TGs):TGs:=fun vs σ H Q=> ∃v r,vs=v::r/\t v σ H fun σ' H'=> u r σ' H' Q
theorem aox:PGs X [] aq8:=by
 (first|refine⟨?_⟩|skip);intro pins s σ H vs us Q I r h
 obtain⟨e,h⟩:=h
 subst e
 cases r
 exact assignInOrder_nil ⟨σ,H,I,h⟩
theorem abz{es:List Expr}{t:TG}{u:TGs}(h1:PG X e t)(h2:PGs X es u)(hs:(bD (e::es) X.env).map (·.2)=assign e X.env::(bD es X.env).map (·.2):=by rfl):PGs X (e::es) (adn t u):=by
 (first|refine⟨?_⟩|skip);intro pins s σ H vs us Q I r h
 obtain⟨v,vr,e1,h⟩:=h
 subst e1
 cases r with
 |cons r rr=>
  rw [hs]
  refine iL (thn (h1 pins s σ H _ _ _ I r h) fun _ s1 ⟨σ1,H1,I1,q1⟩=> ?_)
  exact h2 pins s1 σ1 H1 _ _ Q I1 rr q1
noncomputable def a98(K:ak)(n:Nat)(t:TGs):TG:=fun v σ H Q=> ∃a xs,v=.ref a/\SqT K H a xs/\xs.length=n/\t xs σ H Q
theorem a4q{es:List Expr}{k:Nat}{t:TGs}{n:Nat}(hc:X.calm=true)(h:PGs X es t)
  (hn:(bD es X.env).length=n:=by rfl) (hst:(bD es X.env).findIdx? (·.1)=none:=by rfl):PG X (.Tuple es k pos) (a98 X.K n t):=by
 (first|refine⟨?_⟩|skip);intro pins s σ H v u Q I r hw
 obtain⟨a,xs,e1,hq,hl,hw⟩:=hw
 subst e1
 cases r
 obtain⟨its,rv,ht,hz⟩:=I.tuple hq
 refine assign_Tuple_tuple (I.ok.hd hc) ht (by simp [hn,←hl,rv.length]) hst fun h' hx=> ?_
 have I1:Inv X pins σ H {s with heap:=h'}:=I.kept (t':=s.toks) fun b o e=> hx b o (aP (ar e)) e
 exact h pins _ σ H xs _ Q I1 (by simpa using rv) hw
noncomputable def v9(to ti:TE)(t:ar6):TG:=fun v σ H Q=> to σ H fun o H1=> ti σ H1 fun i H2=> t o i v H2 fun H3=> Q σ H3
theorem a3e{o i:Expr}{to ti:TE}{t:ar6}(ho:PE X o to)(hi:PE X i ti)(hs:aix X t)
  (ha: ∀v,assign (.Subscript o i pos) X.env v=(do
   let ov←holding [v] (eval o X.env)
   let iv←holding [v,ov] (eval i X.env)
   standAt pos
   holding [v,ov,iv] (setItem ov iv v)
   release [v,ov,iv] []):=by intro _;rfl):PG X (.Subscript o i pos) (v9 to ti t):=by
 (first|refine⟨?_⟩|skip);intro pins s σ H v u Q I r h
 rw [ha]
 refine ae (bw (thn (ho pins s σ H _ I h) fun ov s1 ⟨x,H1,I1,r1,q1⟩=> ?_))
 refine ae (bw (thn (hi pins s1 σ H1 _ I1 q1) fun iv s2 ⟨y,H2,I2,r2,q2⟩=> ?_))
 refine ae (eS (ae (bw (thn (hs pins s2 σ H2 x y v ov iv u _ I2 r1 r2 r q2) fun _ s3 ⟨H3,I3,q3⟩=> ?_))))
 exact wpAny_release ⟨σ,H3,I3,q3⟩
noncomputable def a3r(te:TE)(g:TG):TS:=fun D σ H=> te σ H fun x H1=> g x σ H1 D.nx
theorem atu{te:TE}{g:TG}(he:PE X e te)(hg:PG X tg g)(hs:gO [tg] e pos.line X.env=pure false:=by rfl)(hw:gP [tg] e X.env=pure none:=by rfl)(h1:(bD [tg] X.env).map (·.2)=[assign tg X.env]:=by rfl):PS X (.Assign [tg] e pos) (a3r te g):=by
 (first|refine⟨?_⟩|skip);intro pins s σ H D I h
 refine wpAny_Assign_stores (thn (he pins s σ H _ I h) fun v s1 ⟨x,H1,I1,r1,q1⟩=> ?_) hs hw
 rw [h1]
 exact thn (hg pins s1 σ H1 x v _ I1 r1 q1) fun _ s2 q=> q
theorem a4y{x:Str}{te:TE}{pos':Pos}(hN:X.N.Nodup)(hi:X.N[i]?=some x)(hx:Loc X.env.scope x)(he:PE X e te)(hs:f9 e (some (.Name x pos')) pos.line X.env=pure false:=by rfl)(hf:X.fn x=true\/X.env.scope.names.lookup x=some .local:=by first|exact .inl rfl|exact .inr rfl|assumption):
  PS X (.Assign [.Name x pos'] e pos) (a3r te (akl i)):=by
 (first|refine⟨?_⟩|skip);intro pins s σ H D I h
 refine wpAny_Assign_Name (thn (he pins s σ H _ I h) fun v s1 ⟨y,H1,I1,r1,q1⟩=> ?_) hs
 exact zl I1 hN hi hx r1 (fun s2 I2=> ⟨_,H1,I2,q1⟩) hf
noncomputable def a8l(i j:Nat)(ta:TA):TS:=fun D σ H=> ta σ H fun vs H1=> ∃v w,vs=[v,w]/\D.nx ((σ.set i (some v)).set j (some w)) H1
theorem a44{j:Nat}{x y:Str}{a b:Expr}{ta:TA}{px py pt:Pos}{kt k2 pt2}(hc:X.calm=true)(hN:X.N.Nodup)(hi:X.N[i]?=some x)(hj:X.N[j]?=some y)(hij:i≠j)(hx:X.env.scope.names.lookup x=some .local)(hy:X.env.scope.names.lookup y=some .local)(ha:PA X [a,b] ta)(hw:gP [.Tuple [.Name x px,.Name y py] kt pt] (.Tuple [a,b] k2 pt2) X.env=pure (some [x,y]))(hs:gO [.Tuple [.Name x px,.Name y py] kt pt] (.Tuple [a,b] k2 pt2) pos.line X.env=pure false:=by rfl):
  PS X (.Assign [.Tuple [.Name x px,.Name y py] kt pt] (.Tuple [a,b] k2 pt2) pos) (a8l i j ta):=by
 (first|refine⟨?_⟩|skip);intro pins s σ H D I h
 rw [exec_Assign_arm]
 refine ae (eS ?_)
 rw [hs]
 refine ae (ah ?_)
 rw [if_neg (by decide)]
 refine ae (Tuple_ (thn (ha _ pins s σ H _ I h) fun us s1 ⟨vs,H1,I1,r1,q1⟩=> ?_))
 obtain⟨v,w,e1,q1⟩:=q1
 subst e1
 obtain⟨u1,u2,rfl,rv,rw'⟩: ∃u1 u2,us=[u1,u2]/\RelV v u1/\RelV w u2:=by
  cases r1 with
  | cons p q=>
   cases q with
   |cons p' q'=>
    cases q'
    exact⟨_,_,rfl,p,p'⟩
 refine bA ?_ (by show 2 <=sizeLine;decide)
 have I2:Inv X pins σ H1 {s1 with heap:=s1.heap.push {cls:=.type "tuple",data:=.seq [u1,u2].toArray}}:=I1.kept (t':=s1.toks) fun b o e=> ai _ e
 rw [hw]
 refine ae (ah ?_)
 show wpAny (model X.prog X.w) X.A (do rule "assign.swapped-stores";let items←mR (.ref s1.heap.objs.size) 2 none;iY [fun v=> bindName X.env y v,fun v=> bindName X.env x v] items.reverse;pure Flow.next) _ _ _
 refine ae (cM (ae (unpackItems_tuple (items:= #[u1,u2]) (I.ok.hd hc) (IsTup.new s1.heap _) fun h' hx'=> ?_)))
 have I3:=I2.kept (h':=h') (t':=s1.toks) fun b o e=> hx' b o (aP (ar e)) e
 show wpAny _ _ (iY [fun v=> bindName X.env y v,fun v=> bindName X.env x v] [u2,u1]>>=fun _=> pure Flow.next) _ _ _
 refine ae (iL (ly (zl I3 hN hj (.inl hy) rw' (fun s2 I4=> ?_) (.inr hy))))
 refine iL (ly (zl I4 hN hi (.inl hx) rv (fun s3 I5=> assignInOrder_nil (ah ?_)) (.inr hx)))
 rw [List.set_comm _ _ (cP hij)]at I5
 exact⟨_,H1,I5,q1⟩
noncomputable def a87(i:Nat)(te:TE)(ti:TIp):TS:=fun D σ H=> ∃x,σ[i]?=some (some x)/\te σ H fun y H1=> ti x y H1 fun z H2=> D.nx (σ.set i (some z)) H2
theorem a43{x:Str}{te:TE}{op:lS}{ti:TIp}{pos':Pos}(hN:X.N.Nodup)(hi:X.N[i]?=some x)(hx:Loc X.env.scope x)(he:PE X e te)(ho:PIp X op ti)(hf:X.fn x=true\/X.env.scope.names.lookup x=some .local:=by first|exact .inl rfl|exact .inr rfl|assumption):
  PS X (.AugAssign (.Name x pos') op e pos) (a87 i te ti):=by
 (first|refine⟨?_⟩|skip);intro pins s σ H D I h
 obtain⟨v,e1,h⟩:=h
 obtain⟨m,hn,hl⟩:=I.loc
 have vis:Vis X.env.scope x:=by rcases hx with k|k;exact .inl k;exact .inr (.inl k)
 obtain⟨u,r,l⟩:=hl i x v hi e1 vis
 refine wpAny_AugAssign_Name ?_
 have go:wpAny (model X.prog X.w) X.A (eval e X.env) (fun w s₂=> wpAny (model X.prog X.w) X.A (inplaceOp op u w) (fun r s₃=> wpAny (model X.prog X.w) X.A (storeName X.env x r) (fun _=> SP X pins D .next) X.xe s₃) X.xe s₂) X.xe s:=by
  refine thn (he pins s σ H _ I h) fun w s1 ⟨y,H1,I1,r1,q1⟩=> ?_
  refine thn (ho pins s1 σ H1 v y u w _ I1 r r1 q1) fun z s2 ⟨zv,H2,I2,r2,q2⟩=> ?_
  exact zl I2 hN hi hx r2 (fun s3 I3=> ⟨_,H2,I3,q2⟩) hf
 rcases l with ⟨hk,hm⟩|⟨hk,c,hc,hcell⟩
 ·exact lR I.ok.kind hk hn hm go
 ·rcases hk with hk|hk
  ·exact mh I.ok.kind hk hc hcell go
  ·rcases hx with k|k
   ·have:X.env.scope.names.lookup x=some .free:=hk
    rw [k]at this;cases this
   ·have:X.env.scope.names.lookup x=some .free:=hk
    rw [k]at this;cases this
noncomputable def ipI(f:Int -> Int -> Int):TIp:=fun x y H Q=> ∃i j,x=.int i/\y=.int j/\Q (.int (f i j)) H
theorem a3c:PIp X .Add (ipI fun i j=> i+j):=by
 (first|refine⟨?_⟩|skip);intro pins s σ H x y v u Q I r1 r2 h
 obtain⟨i,j,e1,e2,q⟩:=h
 subst e1;subst e2
 obtain⟨t,rfl⟩:=r1
 obtain⟨t',rfl⟩:=r2
 exact iadd_int ⟨.int _,H,I.tok _,⟨_,rfl⟩,q⟩
end
structure It where
 go:Nat -> Hp -> Prop
 yld:Nat -> Hp -> V -> Hp -> Prop
 stop:Nat -> Hp -> Prop
def abq(X:Cx)(pins:List (Addr×Obj))(H:Hp)(b:Addr):Prop:=
 H b=none/\b≠X.env.locals/\b∉X.fs/\(b∈X.ex\/X.s₀.heap.objs.size <=b)/\(∀x c,X.env.cells.lookup x=some c -> c≠b)/\ ∀p∈X.pn++pins,p.1≠b
theorem Inv.fpOk{X:Cx}{σ:St}{H H':Hp}(I:Inv X pins σ H s)(hb:s.heap.objs.size <=b)(hn:H' b=none):abq X pins H' b:=by
 refine⟨hn,dP (aN I.lt hb),I.nofs hb,.inr (ax I.sz hb),fun x c e z=> ?_,fun p hp z=> ?_⟩
 ·obtain⟨v,q⟩:=I.cell x c e
  exact absurd (aN q.lt (by rw [z];exact hb)) (cO _)
 ·exact absurd (aN (ar (I.pin p hp).1) (by rw [z];exact hb)) (cO _)
structure Turn (P:aV) (w:aZ) (K:ak) (tg:Expr) (J:It) (fp:List Addr) (it:Addr) (tn:Nat -> Heap -> Prop):Prop where
 mem:it∈fp
 obj: ∀i h,tn i h -> ∀b∈fp,∃o,h.get? b=some o/\ ∀v,o.data≠ .cell v
 keep: ∀i h h',tn i h -> (∀b∈fp,∀o,h.get? b=some o -> h'.get? b=some o) -> tn i h'
 item: ∀(X:Cx),X.prog=P -> X.w=w -> X.K=K -> X.calm=true -> ∀(i:Nat) (pins:List (Addr×Obj)) (s:aj) (σ:St) (H:Hp) (E:af -> aj -> Prop),Inv X pins σ H s -> (∀b∈fp,abq X pins H b) -> tn i s.heap -> J.go i H ->
  wpAny (model P w) X.A (pyNext (.ref it)) (fun r s1=> ∃u,r=some u/\
   wpAny (model P w) X.A (hU tg (.ref it) u) (fun _ s2=> ∃x H',Inv X pins σ H' s2/\RelV x u/\J.yld i H x H'/\tn (i+1) s2.heap/\ ∀b∈fp,H' b=none) E s1) E s
 done: ∀(X:Cx),X.prog=P -> X.w=w -> X.K=K -> X.calm=true -> ∀(i:Nat) (pins:List (Addr×Obj)) (s:aj) (σ:St) (H:Hp) (E:af -> aj -> Prop),Inv X pins σ H s -> (∀b∈fp,abq X pins H b) -> tn i s.heap -> J.stop i H ->
  wpAny (model P w) X.A (pyNext (.ref it)) (fun r s1=> r=none/\Inv X pins σ H s1) E s
 self: ∀(A:br) (i:Nat) (s:aj) (Q:af -> aj -> Prop) (E:af -> aj -> Prop),tn i s.heap -> Q (.ref it) s -> wpAny (model P w) A (pyIter (.ref it)) Q E s
abbrev TI:=St -> Hp -> (It -> Hp -> Prop) -> Prop
def PIE(X:Cx)(pins:List (Addr×Obj))(σ:St)(tg:Expr)(R:It -> Hp -> Prop)(itv:af)(s2:aj):Prop:=
 ∃(it:Addr) (fp:List Addr) (tn:Nat -> Heap -> Prop) (J:It) (H':Hp),itv=.ref it/\Inv X pins σ H' s2/\Turn X.prog X.w X.K tg J fp it tn/\tn 0 s2.heap/\(∀b∈fp,abq X pins H' b)/\R J H'
def PI(X:Cx)(tg iter:Expr)(wi:TI):Prop:=
 ∀(pins:List (Addr×Obj)) (s:aj) (σ:St) (H:Hp) (R:It -> Hp -> Prop),Inv X pins σ H s -> wi σ H R ->
  wpAny (model X.prog X.w) X.A (eval iter X.env) (fun v s1=> wpAny (model X.prog X.w) X.A (pyIter v) (PIE X pins σ tg R) X.xe s1) X.xe s
theorem akp{it:Addr}{o:Obj}{n:String}{vs:Array af}(ho:s.heap.get? it=some o)(hc:o.cls=.type n)(hd:o.data=.fields vs)(hn:["enumerate","zip","dict_itemiterator","dict_reverseitemiterator","odict_iterator","itertools.zip_longest","itertools.pairwise"].contains n=false)(hQ:Q () s):wpAny M A (hU tg (.ref it) u) Q E s:=by
 unfold hU
 cases tg <;> first
  |exact ah hQ
  | (cases u <;> first
    |exact ah hQ
    | (refine ae (jK ho ?_)
       rw [hc,hd]
       show wpAny M A (if (["enumerate","zip","dict_itemiterator","dict_reverseitemiterator","odict_iterator","itertools.zip_longest","itertools.pairwise"].contains n&&vs[0]?==some (rawInt _))=true then _ else _) Q E s
       rw [if_neg (by intro h;rw [hn,fx]at h;cases h)]
       exact ah hQ))
noncomputable def Itl(K:ak)(a:Addr):It:=
 ⟨fun i H=> ∃xs x,SqL K H a xs/\xs[i]?=some x,fun i H x H'=> H'=H/\ ∀xs,SqL K H a xs -> xs[i]?=some x,fun i H=> ∃xs,SqL K H a xs/\xs.length <=i⟩
noncomputable def Itt(K:ak)(a:Addr):It:=
 ⟨fun i H=> ∃xs x,SqT K H a xs/\xs[i]?=some x,fun i H x H'=> H'=H/\ ∀xs,SqT K H a xs -> xs[i]?=some x,fun i H=> ∃xs,SqT K H a xs/\xs.length <=i⟩
noncomputable def Itr(lo:Int)(n:Nat):It:=⟨fun i _=> i < n,fun i H x H'=> H'=H/\x=.int (lo+i),fun i _=> n <=i⟩
theorem atb(a it:Addr):Turn P w K tg (Itl K a) [it] it (fun i h=> h.IsListIter it a i) where
 mem:=by simp
 obj:=fun i h st b hb=> by
  have e:b=it:=by simpa using hb
  subst e
  obtain⟨o,e,c,d⟩:=st
  exact⟨o,e,fun v z=> by rw [d]at z;cases z⟩
 keep:=fun i h h' st k=> st.at fun o e=> k it (by simp) o e
 item:=by
  intro X hP hw hK hc i pins s σ H E I hf st hg
  subst hP hw hK
  obtain⟨xs,x,hq,hx⟩:=hg
  obtain⟨its,rv,p,hz⟩:=I.list hq
  obtain⟨u,hu,ru⟩:=rv.get hx
  obtain⟨f0,f1,f2,f3,f4,f5⟩:=hf it (by simp)
  refine lh st p.isList (x:=u) (by simpa using hu) fun h' st' sb=> ?_
  have I1:Inv X pins σ H {s with heap:=h'}:=I.turned (t':=s.toks) (fun b o hb e=> (sb.2 b hb).trans e) f0 f1 f3 f4 f5
  obtain⟨o,e,c,d⟩:=id st'
  exact⟨u,rfl,akp (s:={s with heap:=h'}) e c d (by decide) ⟨x,H,I1,ru,⟨rfl,fun ys hy=> by rw [I.list_inj hy hq];exact hx⟩,st',fun b hb=> (hf b hb).1⟩⟩
 done:=by
  intro X hP hw hK hc i pins s σ H E I hf st hg
  subst hP hw hK
  obtain⟨xs,hq,hx⟩:=hg
  obtain⟨its,rv,p,hz⟩:=I.list hq
  obtain⟨f0,f1,f2,f3,f4,f5⟩:=hf it (by simp)
  have hl:=rv.length
  exact lz (I.ok.hd hc) st p.isList (by simp;lia) fun h' eb=> ⟨rfl,I.turned (t':=s.toks) (fun b o hb e=> eb b o hb e) f0 f1 f3 f4 f5⟩
 self:=fun _ _ _ _ _ st h=> wpAny_pyIter_listiter st h
theorem apr(a it:Addr):Turn P w K tg (Itt K a) [it] it (fun i h=> h.IsTupleIter it a i) where
 mem:=by simp
 obj:=fun i h st b hb=> by
  have e:b=it:=by simpa using hb
  subst e
  obtain⟨o,e,c,d⟩:=st
  exact⟨o,e,fun v z=> by rw [d]at z;cases z⟩
 keep:=fun i h h' st k=> st.at fun o e=> k it (by simp) o e
 item:=by
  intro X hP hw hK hc i pins s σ H E I hf st hg
  subst hP hw hK
  obtain⟨xs,x,hq,hx⟩:=hg
  obtain⟨its,rv,p,hz⟩:=I.tuple hq
  obtain⟨u,hu,ru⟩:=rv.get hx
  obtain⟨f0,f1,f2,f3,f4,f5⟩:=hf it (by simp)
  refine wpAny_pyNext_tuple_item st (show s.heap.IsTuple a its.toArray from p) (x:=u) (by simpa using hu) fun h' st' sb=> ?_
  have I1:Inv X pins σ H {s with heap:=h'}:=I.turned (t':=s.toks) (fun b o hb e=> (sb.2 b hb).trans e) f0 f1 f3 f4 f5
  obtain⟨o,e,c,d⟩:=id st'
  exact⟨u,rfl,akp (s:={s with heap:=h'}) e c d (by decide) ⟨x,H,I1,ru,⟨rfl,fun ys hy=> by rw [I.tuple_inj hy hq];exact hx⟩,st',fun b hb=> (hf b hb).1⟩⟩
 done:=by
  intro X hP hw hK hc i pins s σ H E I hf st hg
  subst hP hw hK
  obtain⟨xs,hq,hx⟩:=hg
  obtain⟨its,rv,p,hz⟩:=I.tuple hq
  obtain⟨f0,f1,f2,f3,f4,f5⟩:=hf it (by simp)
  have hl:=rv.length
  exact wpAny_pyNext_tuple_end (I.ok.hd hc) st (show s.heap.IsTuple a its.toArray from p) (by simp;lia) fun h' eb=> ⟨rfl,I.turned (t':=s.toks) (fun b o hb e=> eb b o hb e) f0 f1 f3 f4 f5⟩
 self:=fun _ _ _ _ _ st h=> wpAny_pyIter_tupleiter st h
theorem apo(it:Addr)(lo:Int)(n:Nat):Turn P w K tg (Itr lo n) [it] it (fun i h=> IsRangeIter h it (lo+(i:Nat)*1) ((n:Int) - (i:Nat)) 1) where
 mem:=by simp
 obj:=fun i h st b hb=> by
  have e:b=it:=by simpa using hb
  subst e
  exact⟨_,st,fun v z=> by
   have z':Data.fields _=Data.cell v:=z
   cases z'⟩
 keep:=fun i h h' st k=> k it (by simp) _ st
 item:=by
  intro X hP hw hK hc i pins s σ H E I hf st hg
  subst hP hw hK
  obtain⟨f0,f1,f2,f3,f4,f5⟩:=hf it (by simp)
  have W:=Walks.range (prog:=X.prog) (w:=X.w) (I.ok.hd hc) it lo 1 n
  refine W.item i s _ _ hg st fun v h' tk hv st' kk=> ?_
  obtain⟨t,rfl⟩:=hv
  have I1:Inv X pins σ H {s with heap:=h',toks:=tk}:=I.turned (fun b o hb e=> kk b o (by simpa using hb) e) f0 f1 f3 f4 f5
  refine⟨_,rfl,akp (s:={s with heap:=h',toks:=tk}) (n:="range_iterator") st' rfl rfl (by decide) ⟨.int (lo+i),H,I1,⟨t,?_⟩,⟨rfl,rfl⟩,st',fun b hb=> (hf b hb).1⟩⟩
  rw [Int.mul_one]
 done:=by
  intro X hP hw hK hc i pins s σ H E I hf st hg
  subst hP hw hK
  obtain⟨f0,f1,f2,f3,f4,f5⟩:=hf it (by simp)
  exact wpAny_pyNext_range_end (I.ok.hd hc) st (by have:n <=i:=hg;lia) fun h' eb=> ⟨rfl,I.turned (t':=s.toks) (fun b o hb e=> eb b o hb e) f0 f1 f3 f4 f5⟩
 self:=fun _ _ _ _ _ st h=> wpAny_pyIter_rangeiter st h
end L2
variable{pins pins':List (eh×PySem.Obj)}{σ:L2.St}{H H':L2.Hp}{s:f7}{E Q:dj -> f7 -> Prop}{t:mZ}{u:dj}{v:L2.V}{tk:PySem.Tok}{a p C f I:eh}{ta tb te:L2.TE}{pos:PySem.Pos}{fp:List eh}{h base:PySem.Heap}{b iter e c tg:jJ}{o:L2.HO}{op:PySem.CmpOp}{i j k n ep:Nat}{xs ys:List L2.V}{its us:List dj}{dx:Option eh}{mA mg:iM -> Option dj}{K:ak}{prog P:lZ}{w:mP}{env:PySem.Env}{A:mC}{fd:PySem.FuncData}{ps N:List iM}{qual name:iM}{scope:PySem.Scope}{osl:Array (Option dj)}{items:Array dj}{T:String}{st:PySem.Stmt}{X:L2.Cx}{es:List jJ}{M:PySem.Model}
namespace L2
open PySem PySem.Spec PyProof.Rows
theorem axm{R:It -> Hp -> Prop}{lo hi:Int}{t u v:Tok}{tk:Nat}(I:Inv X pins σ H s)(h1: -(2^62) <=lo)(h2:lo < 2^62)(h3: -(2^62) <=hi)(h4:hi < 2^62)(q:R (Itr lo (hi - lo).toNat) H):wpAny (model X.prog X.w) X.A (pyIter (.ref s.heap.objs.size)) (PIE X pins σ tg R) E {s with heap:=s.heap.push {cls:=.type "range",data:=.fields #[.int lo t,.int hi u,.int 1 v]},toks:=tk}:=by
 refine wpAny_pyIter_range (IsRange.new ..) (small_one h1 h2 h3 h4) ?_
 have I1:Inv X pins σ H {s with heap:=s.heap.push {cls:=.type "range",data:=.fields #[.int lo t,.int hi u,.int 1 v]},toks:=tk}:=I.kept fun b o e=> ai _ e
 refine⟨(s.heap.push {cls:=.type "range",data:=.fields #[.int lo t,.int hi u,.int 1 v]}).objs.size,[(s.heap.push {cls:=.type "range",data:=.fields #[.int lo t,.int hi u,.int 1 v]}).objs.size],_,_,H,rfl,
  I1.kept (t':=tk) fun b o e=> ai _ e,apo _ lo (hi - lo).toNat,?_,fun b hb=> ?_,q⟩
 ·have e1:lo+((0:Nat):Int)*1=lo:=by simp
  have e2:(((hi - lo).toNat:Nat):Int) - ((0:Nat):Int)=Builtin.Range.rangeSize lo hi 1:=by rw [rangeSize_one];split <;> lia
  show IsRangeIter _ _ (lo+((0:Nat):Int)*1) ((((hi - lo).toNat:Nat):Int) - ((0:Nat):Int)) 1
  rw [e1,e2]
  exact ay _ rfl
 ·have e:b=(s.heap.push {cls:=.type "range",data:=.fields #[.int lo t,.int hi u,.int 1 v]}).objs.size:=by simpa using hb
  subst e
  exact I1.fpOk (ao _) (I1.hok.fresh (ao _))
def a64(ta:TA):TI:=fun σ H R=> ta σ H fun vs H1=> ∃j:Int,vs=[.int j]/\ -(2^62) <=j/\j < 2^62/\R (Itr 0 j.toNat) H1
theorem arr{a:Expr}{ta:TA}{p:Pos}(hg:Gl X "range")(hm:X.mg "range"=none)(ha:PA X [a] ta)(hs:starEach [a] X.env=[(false,eval a X.env)]:=by rfl):PI X tg (.Call (.Name "range" p) [a] [] pos) (a64 ta):=by
 (first|refine⟨?_⟩|skip);intro pins s σ H R I h
 refine Call_ (abp I hg hm boot_range (dQ (thn (ha pos pins s σ H _ I h) fun us s1 ⟨vs,H1,I1,r1,q1⟩=> ?_) hs rfl))
 obtain⟨j,e,q1,q2,q⟩:=q1
 subst e
 cases r1 with
 |cons r rr=>
  cases rr
  obtain⟨t,rfl⟩:=r
  exact call_range_1 (axm I1 (by lia) (by lia) q1 q2 (by simpa using q))
noncomputable def a9j(wi:TI)(g:TG)(tb:TS):TS:=fun D σ H=> wi σ H fun J H1=> ∃W:Nat -> Nat -> St -> Hp -> Prop,(∃m,W 0 m σ H1)/\ ∀i m σ H,W i m σ H ->
 (J.stop i H/\D.nx σ H)\/(J.go i H/\ ∃N:St -> Hp -> Prop,(∀σ' H',N σ' H' -> ∃m',m' < m/\W (i+1) m' σ' H')/\ ∀x H',J.yld i H x H' -> g x σ H' fun σ2 H2=> tb {D with nx:=N,ct:=N,bk:=D.nx} σ2 H2)
noncomputable def aex(fp:List Addr)(h:Heap):List (Addr×Obj):=fp.filterMap fun b=> (h.get? b).map fun o=> (b,o)
theorem abi{b:Addr}{o:Obj}(hb:b∈fp)(e:h.get? b=some o):(b,o)∈aex fp h:=iN.mpr ⟨b,hb,by rw [e];rfl⟩
theorem at8{p:Addr×Obj}(hp:p∈aex fp h):p.1∈fp/\h.get? p.1=some p.2:=by
 obtain⟨b,hb,e⟩:=iN.mp hp
 cases q:h.get? b with
 |none=> rw [q]at e;cases e
 |some o=>
  rw [q]at e
  have e':(b,o)=p:=bZ e
  subst e'
  exact⟨hb,q⟩
theorem Inv.pinned(I:Inv X pins σ H s)(hf: ∀b∈fp,abq X pins H b)(ho: ∀b∈fp,∃o,s.heap.get? b=some o/\ ∀v,o.data≠ .cell v):Inv X (pins++aex fp s.heap) σ H s:=
 I.pins_of fun p hp=> (bg.mp hp).elim (fun z=> I.pin p (bN _ z)) fun z=> by
  obtain⟨hb,e⟩:=at8 z
  obtain⟨f0,f1,f2,_⟩:=hf p.1 hb
  obtain⟨o,e',d⟩:=ho p.1 hb
  rw [e]at e';cases e'
  exact⟨e,f0,f1,f2,d⟩
theorem Inv.unpinned{pl:List (Addr×Obj)}(I:Inv X (pins++pl) σ H s):Inv X pins σ H s:=I.pins_of fun p hp=> I.pin p (bN _ (fK _ hp))
theorem a3m{body:List Stmt}{wi:TI}{g:TG}{tb:TS}(hp:m8 (model X.prog X.w) X.A X.env X.xe)(hc:X.calm=true)(hi:PI X tg iter wi)(hg:PG X tg g)(hb:PSs X body tb)(hs: ∀x,d8 iter X.env x=pure x:=by intro _;rfl):PS X (.For tg iter body [] pos) (a9j wi g tb):=by
 (first|refine⟨?_⟩|skip);intro pins s σ H D I h
 refine wpAny_For (thn (hi pins s σ H _ I h) fun v s1 h1=> thn h1 fun itv s2 h2=> ?_) hs
 obtain⟨it,fp,tn,J,H2,e,I2,T,st2,f2,W,⟨m0,w0⟩,turn⟩:=h2
 subst e
 -- what stays true of the iterator's objects through the loop
 have stat: ∀{H':Hp},(∀b∈fp,H' b=none) -> ∀b∈fp,abq X pins H' b:=fun hn b hb=> ⟨hn b hb,(f2 b hb).2⟩
 refine codeAny_forLoop_any (fun n s'=> ∃i σ' H',Inv X pins σ' H' s'/\tn i s'.heap/\(∀b∈fp,H' b=none)/\W i n σ' H') ?_ m0 ⟨0,σ,H2,I2,st2,fun b hb=> (f2 b hb).1,w0⟩
 rintro n s3 ⟨i,σ3,H3,I3,st3,fr3,w3⟩
 rcases turn i n σ3 H3 w3 with ⟨stop,qn⟩|⟨go,N,hN,step⟩
 ·refine fZ hp (thn (T.done X rfl rfl rfl hc i pins s3 σ3 H3 X.xe I3 (stat fr3) st3 stop) fun r s4 ⟨hr,I4⟩=> ?_)
  subst hr
  exact fY ⟨σ3,H3,I4,qn⟩
 ·refine fZ hp (thn (T.item X rfl rfl rfl hc i pins s3 σ3 H3 X.xe I3 (stat fr3) st3 go) fun r s4 ⟨u,hr,h4⟩=> ?_)
  subst hr
  refine fZ hp (thn h4 fun _ s5 ⟨x,H5,I5,r5,y5,st5,fr5⟩=> ?_)
  have I5':=I5.pinned (stat fr5) (T.obj _ _ st5)
  refine fZ hp (thn (hg _ s5 σ3 H5 x u _ I5' r5 (step x H5 y5)) fun _ s6 ⟨σ6,H6,I6,q6⟩=> ?_)
  refine fZ hp (thn (hb _ s6 σ6 H6 _ I6 q6) fun f s7 q7=> ?_)
  have again: ∀{σ7:St} {H7:Hp},Inv X (pins++aex fp s5.heap) σ7 H7 s7 -> N σ7 H7 -> ∃m,m < n/\ ∃i σ' H',Inv X pins σ' H' s7/\tn i s7.heap/\(∀b∈fp,H' b=none)/\W i m σ' H':=fun {σ7 H7} I7 n7=> by
   obtain⟨m',hm,w7⟩:=hN σ7 H7 n7
   refine⟨m',hm,i+1,σ7,H7,I7.unpinned,T.keep _ _ _ st5 fun b hb o e=> (I7.pin (b,o) (bN _ (bN _ (abi hb e)))).1,fun b hb=> ?_,w7⟩
   obtain⟨o,e,d⟩:=T.obj _ _ st5 b hb
   exact (I7.pin (b,o) (bN _ (bN _ (abi hb e)))).2.1
  cases f with
  |next=> obtain⟨σ7,H7,I7,n7⟩:=q7;exact again I7 n7
  |cont=> obtain⟨σ7,H7,I7,n7⟩:=q7;exact again I7 n7
  |brk=> obtain⟨σ7,H7,I7,q7⟩:=q7;exact⟨σ7,H7,I7.unpinned,q7⟩
  |ret v=> obtain⟨x7,σ7,H7,I7,r7,q7⟩:=q7;exact⟨x7,σ7,H7,I7.unpinned,r7,q7⟩
abbrev R2:=V -> V -> Hp -> VK -> Prop
def OpR(X:Cx)(f:af -> af -> Sem af)(r:R2):Prop:=
 ∀(pins:List (Addr×Obj)) (s:aj) (σ:St) (H:Hp) (x y:V) (v u:af) (Q:VK),Inv X pins σ H s -> RelV x v -> RelV y u -> r x y H Q ->
  wpAny (model X.prog X.w) X.A (f v u) (EP X pins σ Q) X.xe s
def UnR(X:Cx)(f:af -> Sem af)(r:V -> Hp -> VK -> Prop):Prop:=
 ∀(pins:List (Addr×Obj)) (s:aj) (σ:St) (H:Hp) (x:V) (v:af) (Q:VK),Inv X pins σ H s -> RelV x v -> r x H Q ->
  wpAny (model X.prog X.w) X.A (f v) (EP X pins σ Q) X.xe s
def ve(X:Cx)(f:af)(r:List V -> Hp -> VK -> Prop):Prop:=
 ∀(pins:List (Addr×Obj)) (s:aj) (σ:St) (H:Hp) (xs:List V) (us:List af) (Q:VK),Inv X pins σ H s -> jo xs us -> r xs H Q ->
  wpAny (model X.prog X.w) X.A (call f us) (EP X pins σ Q) X.xe s
def a8v(X:Cx)(r:V -> Hp -> (Bool -> Hp -> Prop) -> Prop):Prop:=
 ∀(pins:List (Addr×Obj)) (s:aj) (σ:St) (H:Hp) (x:V) (v:af) (Q:Bool -> Hp -> Prop),Inv X pins σ H s -> RelV x v -> r x H Q ->
  wpAny (model X.prog X.w) X.A (truthy v) (TP X pins σ Q) X.xe s
noncomputable def tOp(r:R2)(ta tb:TE):TE:=fun σ H Q=> ta σ H fun x H1=> tb σ H1 fun y H2=> r x y H2 Q
noncomputable def tUn(r:V -> Hp -> VK -> Prop)(ta:TE):TE:=fun σ H Q=> ta σ H fun x H1=> r x H1 Q
noncomputable def rI(C:Int -> Int -> Prop)(g:Int -> Int -> V):R2:=fun x y H Q=> ∃i j,x=.int i/\y=.int j/\C i j/\Q (g i j) H
noncomputable def rI0(g:Int -> Int -> V):R2:=fun x y H Q=> ∃i j,x=.int i/\y=.int j/\Q (g i j) H
def rU(g:Int -> V):V -> Hp -> VK -> Prop:=fun x H Q=> ∃i,x=.int i/\Q (g i) H
section
variable{X:Cx}{a b c:Expr}{ta tb tc:TE}{pos:Pos}
theorem avl(ha:PE X a ta)(hb:PE X b tb){R:V -> V -> Hp -> Prop}(I:Inv X pins σ H s)(h:ta σ H fun x H1=> tb σ H1 fun y H2=> R x y H2){f:af -> af -> Sem af}(hf: ∀v u s2 x y H2,Inv X pins σ H2 s2 -> RelV x v -> RelV y u -> R x y H2 -> wpAny (model X.prog X.w) X.A (f v u) Q X.xe s2):
  wpAny (model X.prog X.w) X.A (eval a X.env) (fun v s₁=> wpAny (model X.prog X.w) X.A (eval b X.env) (fun u s₂=> wpAny (model X.prog X.w) X.A (f v u) Q X.xe s₂) X.xe s₁) X.xe s:=by
 refine thn (ha pins s σ H _ I h) fun v s1 ⟨x,H1,I1,r1,q1⟩=> ?_
 refine thn (hb pins s1 σ H1 _ I1 q1) fun u s2 ⟨y,H2,I2,r2,q2⟩=> ?_
 exact hf v u s2 x y H2 I2 r1 r2 q2
theorem a6e{op:lS}{r:R2}(ho:OpR X (binaryOp op) r)(ha:PE X a ta)(hb:PE X b tb):PE X (.BinOp a op b pos) (tOp r ta tb):=by
 (first|refine⟨?_⟩|skip);intro pins s σ H Q I h
 exact wpAny_BinOp (avl ha hb I h fun v u s2 x y H2 I2 rx ry q=> ho pins s2 σ H2 x y v u Q I2 rx ry q)
theorem a6g{op:UnaryOp}{r:V -> Hp -> VK -> Prop}(ho:UnR X (unaryOp op) r)(ha:PE X a ta):PE X (.UnaryOp op a pos) (tUn r ta):=by
 (first|refine⟨?_⟩|skip);intro pins s σ H Q I h
 exact UnaryOp_ (thn (ha pins s σ H _ I h) fun v s1 ⟨x,H1,I1,r1,q1⟩=> ho pins s1 σ H1 x v Q I1 r1 q1)
theorem opI{f:af -> af -> Sem af}{C:Int -> Int -> Prop}{g:Int -> Int -> Int}
  (rule: ∀(i j:Int) (t u:Tok) (s:aj) (Q:af -> aj -> Prop) (E:af -> aj -> Prop),C i j -> Q (.int (g i j) s.toks) {s with toks:=s.toks+1} -> wpAny (model X.prog X.w) X.A (f (.int i t) (.int j u)) Q E s):
  OpR X f (rI C fun i j=>.int (g i j)):=by
 (first|refine⟨?_⟩|skip);intro pins s σ H x y v u Q I rx ry h
 obtain⟨i,j,rfl,rfl,hc,q⟩:=h
 obtain⟨t,rfl⟩:=rx
 obtain⟨t',rfl⟩:=ry
 exact rule i j t t' s _ _ hc ⟨.int (g i j),H,I.tok _,⟨_,rfl⟩,q⟩
theorem a3i{f:af -> af -> Sem af}{g:Int -> Int -> Int}
  (rule: ∀(i j:Int) (t u:Tok) (s:aj) (Q:af -> aj -> Prop) (E:af -> aj -> Prop),Q (.int (g i j) s.toks) {s with toks:=s.toks+1} -> wpAny (model X.prog X.w) X.A (f (.int i t) (.int j u)) Q E s):
  OpR X f (rI0 fun i j=>.int (g i j)):=by
 (first|refine⟨?_⟩|skip);intro pins s σ H x y v u Q I rx ry h
 obtain⟨i,j,rfl,rfl,q⟩:=h
 obtain⟨t,rfl⟩:=rx
 obtain⟨t',rfl⟩:=ry
 exact rule i j t t' s _ _ ⟨.int (g i j),H,I.tok _,⟨_,rfl⟩,q⟩
theorem apz{f:af -> af -> Sem af}{g:Int -> Int -> Bool}
  (rule: ∀(i j:Int) (t u:Tok) (s:aj) (Q:af -> aj -> Prop) (E:af -> aj -> Prop),Q (.bool (g i j)) s -> wpAny (model X.prog X.w) X.A (f (.int i t) (.int j u)) Q E s):
  OpR X f (rI0 fun i j=>.bl (g i j)):=by
 (first|refine⟨?_⟩|skip);intro pins s σ H x y v u Q I rx ry h
 obtain⟨i,j,rfl,rfl,q⟩:=h
 obtain⟨t,rfl⟩:=rx
 obtain⟨t',rfl⟩:=ry
 exact rule i j t t' s _ _ ⟨.bl (g i j),H,I,rfl,q⟩
def apx(i j:Int):Prop:=0 < j/\j < 1073741824
def aqv(i j:Int):Prop:=0 <=j/\j <=1000000/\i.natAbs < 2^64
def aij(i j:Int):Prop:=(-(2^64) < i/\i < 2^64)\/(-(2^64) < j/\j < 2^64)
theorem aij.ok{i j:Int}(h:aij i j):IntMulOk i j:=by
 rcases h with ⟨h1,h2⟩|⟨h1,h2⟩
 ·exact .of_left (intBits_le_64 h1 h2)
 ·exact .of_right (intBits_le_64 h1 h2)
theorem ast:OpR X (binaryOp .Add) (rI0 fun i j=>.int (i+j)):=a3i fun _ _ _ _ _ _ _ q=> add_int q
theorem alh:OpR X (binaryOp .Sub) (rI0 fun i j=>.int (i - j)):=a3i fun _ _ _ _ _ _ _ q=> sub_int q
theorem a2v:OpR X (binaryOp .Mult) (rI aij fun i j=>.int (i*j)):=opI fun _ _ _ _ _ _ _ hc q=> mul_int q hc.ok
theorem a20:OpR X (binaryOp .FloorDiv) (rI apx fun i j=>.int (i/j)):=opI fun i j _ _ _ _ _ hc q=> by
 have h1:(0:Int) < j:=hc.1
 have h2:j < 1073741824:=hc.2
 exact floordiv_int (by lia) (by rw [Int.fdiv_eq_ediv_of_nonneg i (by lia)];exact q) (.inl (PyProof.noPylong_small (by lia)))
theorem a3n:OpR X (binaryOp .Mod) (rI (fun _ j=> 0 < j) fun i j=>.int (i % j)):=opI fun i j _ _ _ _ _ hc q=> by
 have h1:(0:Int) < j:=hc
 exact mod_int' (by lia) (by rw [Int.fmod_eq_emod_of_nonneg i (by lia)];exact q)
theorem a39:OpR X (binaryOp .Pow) (rI aqv fun i j=>.int (i^j.toNat)):=opI fun _ _ _ _ _ _ _ hc q=> pow_int_small hc.1 hc.2.1 hc.2.2 q
theorem unI{f:af -> Sem af}{g:Int -> Int}
  (rule: ∀(i:Int) (t:Tok) (s:aj) (Q:af -> aj -> Prop) (E:af -> aj -> Prop),Q (.int (g i) s.toks) {s with toks:=s.toks+1} -> wpAny (model X.prog X.w) X.A (f (.int i t)) Q E s):
  UnR X f (rU fun i=>.int (g i)):=by
 (first|refine⟨?_⟩|skip);intro pins s σ H x v Q I rx h
 obtain⟨i,rfl,q⟩:=h
 obtain⟨t,rfl⟩:=rx
 exact rule i t s _ _ ⟨.int (g i),H,I.tok _,⟨_,rfl⟩,q⟩
theorem a3h:UnR X (unaryOp .USub) (rU fun i=>.int (-i)):=unI fun _ _ _ _ _ q=> neg_int q
end
noncomputable def a3w:V -> V -> Bool
 |.non,.non=> true|.non,.int _=> true|.int _,.non=> true|.non,.bl _=> true|.bl _,.non=> true|.non,.str _=> true|.str _,.non=> true
 |.int _,.int _=> true|.bl _,.bl _=> true|.str _,.str _=> true|.byt _,.byt _=> true
 |.int _,.str _=> true|.str _,.int _=> true|.bl _,.str _=> true|.str _,.bl _=> true
 |_,_=> false
def rEq:R2:=fun x y H Q=> a3w x y=true/\Q (.bl (decide (x=y))) H
def rNe:R2:=fun x y H Q=> a3w x y=true/\Q (.bl (!decide (x=y))) H
theorem anr{i j:Int}:decide (V.int i=V.int j)=(i==j):=by
 rw [a9]
 simp
theorem ata{i j:Bool}:decide (V.bl i=V.bl j)=(i==j):=by
 rw [a9]
 simp
theorem anu{i j:Str}:decide (V.str i=V.str j)=(i==j):=by
 rw [a9]
 simp
theorem anv{i j:Array UInt8}:decide (V.byt i=V.byt j)=(i.toList==j.toList):=by
 rw [a9]
 cases i
 cases j
 simp
section
variable{X:Cx}{a b c:Expr}{ta tb tc:TE}{pos:Pos}
theorem j2{Q:VK}{k k':Bool}(I:Inv X pins σ H s)(q:Q (.bl k) H)(e:k=k'):EP X pins σ Q (.bool k') s:=by
 subst e
 exact⟨.bl k,H,I,rfl,q⟩
theorem a7k:OpR X (aY .Eq) rEq:=by
 (first|refine⟨?_⟩|skip);intro pins s σ H x y v u Q I rx ry h
 obtain⟨hs,q⟩:=h
 cases x with
 |non=>
  cases rx
  cases y with
  |non=> cases ry;exact PySem.EqNone.eq_none_none (j2 I q (by simp))
  |bl j=> cases ry;exact PySem.EqNone.eq_none_bool (j2 I q (by simp))
  |int j=> obtain⟨t',rfl⟩:=ry;exact PySem.EqNone.eq_none_int (j2 I q (by simp))
  |str j=> obtain⟨t',rfl⟩:=ry;exact PySem.EqNone.eq_none_str (j2 I q (by simp))
  |_=> exact absurd (show false=true from hs) aw
 |bl i=>
  cases rx
  cases y with
  |non=> cases ry;exact PySem.EqNone.eq_bool_none (j2 I q (by simp))
  |bl j=> cases ry;exact eq_bool (j2 I q ata)
  |str j=> obtain⟨t',rfl⟩:=ry;exact PySem.EqMixed.eq_bool_str (j2 I q (by simp))
  |_=> exact absurd (show false=true from hs) aw
 |int i=>
  obtain⟨t,rfl⟩:=rx
  cases y with
  |non=> cases ry;exact PySem.EqNone.eq_int_none (j2 I q (by simp))
  |int j=> obtain⟨t',rfl⟩:=ry;exact eq_int (j2 I q anr)
  |str j=> obtain⟨t',rfl⟩:=ry;exact PySem.EqMixed.eq_int_str (j2 I q (by simp))
  |_=> exact absurd (show false=true from hs) aw
 |str i=>
  obtain⟨t,rfl⟩:=rx
  cases y with
  |non=> cases ry;exact PySem.EqNone.eq_str_none (j2 I q (by simp))
  |bl j=> cases ry;exact PySem.EqMixed.eq_str_bool (j2 I q (by simp))
  |int j=> obtain⟨t',rfl⟩:=ry;exact PySem.EqMixed.eq_str_int (j2 I q (by simp))
  |str j=> obtain⟨t',rfl⟩:=ry;exact eq_str (j2 I q anu)
  |_=> exact absurd (show false=true from hs) aw
 |byt i=>
  obtain⟨t,rfl⟩:=rx
  cases y with
  |byt j=> obtain⟨t',rfl⟩:=ry;exact PySem.W.eq_bytes (j2 I q anv)
  |_=> exact absurd (show false=true from hs) aw
 |_=> cases y <;> exact absurd (show false=true from hs) aw
theorem a7i:OpR X (aY .NotEq) rNe:=by
 (first|refine⟨?_⟩|skip);intro pins s σ H x y v u Q I rx ry h
 obtain⟨hs,q⟩:=h
 cases x with
 |non=>
  cases rx
  cases y with
  |non=> cases ry;exact PySem.EqNone.ne_none_none (j2 I q (by simp))
  |bl j=> cases ry;exact PySem.EqNone.ne_none_bool (j2 I q (by simp))
  |int j=> obtain⟨t',rfl⟩:=ry;exact PySem.EqNone.ne_none_int (j2 I q (by simp))
  |str j=> obtain⟨t',rfl⟩:=ry;exact PySem.EqNone.ne_none_str (j2 I q (by simp))
  |_=> exact absurd (show false=true from hs) aw
 |bl i=>
  cases rx
  cases y with
  |non=> cases ry;exact PySem.EqNone.ne_bool_none (j2 I q (by simp))
  |bl j=> cases ry;exact ne_bool (j2 I q (congrArg not ata))
  |str j=> obtain⟨t',rfl⟩:=ry;exact PySem.EqMixed.ne_bool_str (j2 I q (by simp))
  |_=> exact absurd (show false=true from hs) aw
 |int i=>
  obtain⟨t,rfl⟩:=rx
  cases y with
  |non=> cases ry;exact PySem.EqNone.ne_int_none (j2 I q (by simp))
  |int j=> obtain⟨t',rfl⟩:=ry;exact ne_int (j2 I q (congrArg not anr))
  |str j=> obtain⟨t',rfl⟩:=ry;exact PySem.EqMixed.ne_int_str (j2 I q (by simp))
  |_=> exact absurd (show false=true from hs) aw
 |str i=>
  obtain⟨t,rfl⟩:=rx
  cases y with
  |non=> cases ry;exact PySem.EqNone.ne_str_none (j2 I q (by simp))
  |bl j=> cases ry;exact PySem.EqMixed.ne_str_bool (j2 I q (by simp))
  |int j=> obtain⟨t',rfl⟩:=ry;exact PySem.EqMixed.ne_str_int (j2 I q (by simp))
  |str j=> obtain⟨t',rfl⟩:=ry;exact ne_str (j2 I q (congrArg not anu))
  |_=> exact absurd (show false=true from hs) aw
 |byt i=>
  obtain⟨t,rfl⟩:=rx
  cases y with
  |byt j=> obtain⟨t',rfl⟩:=ry;exact PySem.W.ne_bytes (j2 I q (congrArg not anv))
  |_=> exact absurd (show false=true from hs) aw
 |_=> cases y <;> exact absurd (show false=true from hs) aw
theorem a73:OpR X (aY .Lt) (rI0 fun i j=>.bl (decide (i < j))):=apz fun _ _ _ _ _ _ _ q=> lt_int q
theorem a5z:OpR X (aY .LtE) (rI0 fun i j=>.bl (decide (i <=j))):=apz fun _ _ _ _ _ _ _ q=> le_int q
theorem a76:OpR X (aY .Gt) (rI0 fun i j=>.bl (decide (j < i))):=apz fun _ _ _ _ _ _ _ q=> gt_int q
theorem a7g:OpR X (aY .GtE) (rI0 fun i j=>.bl (decide (j <=i))):=apz fun _ _ _ _ _ _ _ q=> ge_int q
theorem aub:OpR X (aY .Lt) (fun x y H Q=> ∃i j,x=.str i/\y=.str j/\Q (.bl (decide (i.cps.toList < j.cps.toList))) H):=by
 (first|refine⟨?_⟩|skip);intro pins s σ H x y v u Q I rx ry h
 obtain⟨i,j,rfl,rfl,q⟩:=h
 obtain⟨t,rfl⟩:=rx
 obtain⟨t',rfl⟩:=ry
 exact lt_str (j2 I q rfl)
theorem au3:OpR X (aY .In) (fun x y H Q=> ∃i j,x=.str i/\y=.str j/\Q (.bl (!(eM j i 0 j.length 1).isEmpty)) H):=by
 (first|refine⟨?_⟩|skip);intro pins s σ H x y v u Q I rx ry h
 obtain⟨i,j,rfl,rfl,q⟩:=h
 obtain⟨t,rfl⟩:=rx
 obtain⟨t',rfl⟩:=ry
 exact in_str (j2 I q rfl)
theorem a3v:OpR X (aY .Is) (fun x y H Q=> y=.non/\Q (.bl (decide (x=.non))) H):=by
 (first|refine⟨?_⟩|skip);intro pins s σ H x y v u Q I rx ry h
 obtain⟨rfl,q⟩:=h
 cases ry
 refine is_none_gen (j2 I q ?_)
 cases x <;> first
  |(cases rx;rfl)
  |(obtain⟨t,rfl⟩:=rx;rfl)
theorem azb:OpR X (aY .IsNot) (fun x y H Q=> y=.non/\Q (.bl (!decide (x=.non))) H):=by
 (first|refine⟨?_⟩|skip);intro pins s σ H x y v u Q I rx ry h
 obtain⟨rfl,q⟩:=h
 cases ry
 refine isnot_none_gen (j2 I q ?_)
 cases x <;> first
  |(cases rx;rfl)
  |(obtain⟨t,rfl⟩:=rx;rfl)
theorem akx:OpR X (aY .NotIn) (fun x y H Q=> ∃i j,x=.str i/\y=.str j/\Q (.bl (!(!(eM j i 0 j.length 1).isEmpty))) H):=by
 (first|refine⟨?_⟩|skip);intro pins s σ H x y v u Q I rx ry h
 obtain⟨i,j,rfl,rfl,q⟩:=h
 obtain⟨t,rfl⟩:=rx
 obtain⟨t',rfl⟩:=ry
 exact notIn_str (j2 I q rfl)
theorem arh(b:Expr)(h:op≠ .In:=by decide)(h2:op≠ .NotIn:=by decide):fO op b=false:=by
 have e1:(op==CmpOp.In)=false:=by cases op <;> first|rfl|exact absurd rfl h
 have e2:(op==CmpOp.NotIn)=false:=by cases op <;> first|rfl|exact absurd rfl h2
 cases b <;> simp [fO,e1,e2]
theorem a1p{r:R2}(ho:OpR X (aY op) r)(ha:PE X a ta)(hb:PE X b tb)(hm:fO op b=false):PE X (.Compare a [op] [b] pos) (tOp r ta tb):=by
 (first|refine⟨?_⟩|skip);intro pins s σ H Q I h
 exact wpAny_Compare1 (avl ha hb I h fun v u s2 x y H2 I2 rx ry q=> ho pins s2 σ H2 x y v u Q I2 rx ry q) hm
noncomputable def apk(t:TE):TT:=fun σ H Q=> t σ H fun x H'=> ∃k,x=.bl k/\Q k H'
theorem a06{r:R2}(ho:OpR X (aY op) r)(ha:PE X a ta)(hb:PE X b tb)(hm:fO op b=false):PT X (.Compare a [op] [b] pos) (apk (tOp r ta tb)):=by
 (first|refine⟨?_⟩|skip);intro pins s σ H Q I h
 refine wpAny_isTrue_Compare1 (thn (ha pins s σ H _ I h) fun v s1 ⟨x,H1,I1,r1,q1⟩=> thn (hb pins s1 σ H1 _ I1 q1) fun u s2 ⟨y,H2,I2,r2,q2⟩=>
  thn (ho pins s2 σ H2 x y v u _ I2 r1 r2 q2) fun c s3 ⟨z,H3,I3,r3,k,e,q3⟩=> ?_) hm
 subst e
 cases r3
 exact cR ⟨H3,I3,q3⟩
noncomputable def amj(r r':R2)(ta tb tc:TE):TE:=fun σ H Q=> ta σ H fun x H1=> tb σ H1 fun y H2=> r x y H2 fun z H3=> ∃k,z=.bl k/\
 (if k=true then tc σ H3 fun w' H4=> r' y w' H4 Q else Q (.bl false) H3)
theorem auo{op':mO}{r r':R2}(ho:OpR X (aY op) r)(ho':OpR X (aY op') r')(ha:PE X a ta)(hb:PE X b tb)(hc:PE X c tc)(hm:mE [op,op'] [b,c]=false:=by with_unfolding_all rfl):PE X (.Compare a [op,op'] [b,c] pos) (amj r r' ta tb tc):=by
 (first|refine⟨?_⟩|skip);intro pins s σ H Q I h
 refine Compare_chain (thn (ha pins s σ H _ I h) fun v s1 ⟨x,H1,I1,r1,q1⟩=> chain_link (thn (hb pins s1 σ H1 _ I1 q1) fun u s2 ⟨y,H2,I2,r2,q2⟩=>
  thn (ho pins s2 σ H2 x y v u _ I2 r1 r2 q2) fun d s3 ⟨z,H3,I3,r3,k,e,q3⟩=> ?_)) hm
 subst e
 cases r3
 refine cR ?_
 cases k with
 |false=> exact ite_ff ⟨.bl false,H3,I3,rfl,q3⟩
 |true=> exact ite_tt (chain_last (thn (hc pins s3 σ H3 _ I3 q3) fun w' s4 ⟨z',H4,I4,r4,q4⟩=> ho' pins s4 σ H4 y z' u w' Q I4 r2 r4 q4))
theorem awj{op':mO}{r r':R2}(ho:OpR X (aY op) r)(ho':OpR X (aY op') r')(ha:PE X a ta)(hb:PE X b tb)(hc:PE X c tc)(hm:mE [op,op'] [b,c]=false:=by with_unfolding_all rfl):PT X (.Compare a [op,op'] [b,c] pos) (apk (amj r r' ta tb tc)):=by
 (first|refine⟨?_⟩|skip);intro pins s σ H Q I h
 refine isTrue_chain (thn (ha pins s σ H _ I h) fun v s1 ⟨x,H1,I1,r1,q1⟩=> test_link (thn (hb pins s1 σ H1 _ I1 q1) fun u s2 ⟨y,H2,I2,r2,q2⟩=>
  thn (ho pins s2 σ H2 x y v u _ I2 r1 r2 q2) fun d s3 ⟨z,H3,I3,r3,k,e,q3⟩=> ?_)) hm
 subst e
 cases r3
 refine cR ?_
 cases k with
 |false=>
  obtain⟨k',e',q'⟩:=q3
  cases e'
  exact ite_ff ⟨H3,I3,q'⟩
 |true=>
  refine ite_tt (test_last (thn (hc pins s3 σ H3 _ I3 q3) fun w' s4 ⟨z',H4,I4,r4,q4⟩=> thn (ho' pins s4 σ H4 y z' u w' _ I4 r2 r4 q4) fun d' s5 ⟨z2,H5,I5,r5,k2,e2,q5⟩=> ?_))
  subst e2
  cases r5
  exact cR ⟨H5,I5,q5⟩
def a3y(K:ak)(x:V)(H:Hp)(k:Bool):Prop:=
 match x with
 |.non=> k=false
 |.bl b=> k=b
 |.int i=> k=(i !=0)
 |.str y=> y.length <=sizeLine/\k=((y.length:Int) !=0)
 |.byt y=> y.size <=sizeLine/\k=((y.size:Int) !=0)
 |.ref p=> (∃xs,SqL K H p xs/\k= !xs.isEmpty)\/(∃xs,SqT K H p xs/\k= !xs.isEmpty)\/ ∃kvs,H p=some (.dK kvs)/\k= !kvs.isEmpty
 |_=> False
theorem arc{κ:Type}{kvs:List (κ×V)}{vs:List (κ×af)}(r:KV kvs vs):(!vs.isEmpty)= !kvs.isEmpty:=by
 cases r <;> rfl
theorem ah5(r:jo xs its):(!its.toArray.isEmpty)= !xs.isEmpty:=by
 cases r <;> simp
theorem abx:(sizeLine:Nat) < 2^63:=by rw [sizeLine_eq];decide
theorem a2a:a8v X (fun x H Q=> ∃k,a3y X.K x H k/\Q k H):=by
 (first|refine⟨?_⟩|skip);intro pins s σ H x v Q I rx h
 obtain⟨k,e,q⟩:=h
 have hl:=abx
 have hs:sizeLine=16777216:=sizeLine_eq
 cases x with
 |non=>
  cases rx
  have e':k=false:=e
  subst e'
  exact truthy_none ⟨H,I,q⟩
 |bl b=>
  cases rx
  have e':k=b:=e
  subst e'
  exact cR ⟨H,I,q⟩
 |int i=>
  obtain⟨t,rfl⟩:=rx
  have e':k=(i !=0):=e
  subst e'
  exact PySem.P.truthy_int ⟨H,I,q⟩
 |str y=>
  obtain⟨t,rfl⟩:=rx
  obtain⟨hy,e'⟩:y.length <=sizeLine/\k=((y.length:Int) !=0):=e
  subst e'
  exact PySem.P.truthy_str (by lia) ⟨H,I.tok _,q⟩
 |byt y=>
  obtain⟨t,rfl⟩:=rx
  obtain⟨hy,e'⟩:y.size <=sizeLine/\k=((y.size:Int) !=0):=e
  subst e'
  exact PySem.W.truthy_bytes (by lia) ⟨H,I.tok _,q⟩
 | ref p=>
  cases rx
  have e':(∃xs,SqL X.K H p xs/\k= !xs.isEmpty)\/(∃xs,SqT X.K H p xs/\k= !xs.isEmpty)\/ ∃kvs,H p=some (.dK kvs)/\k= !kvs.isEmpty:=e
  rcases e' with ⟨xs,hx,e'⟩|⟨xs,hx,e'⟩|⟨kvs,hx,e'⟩
  ·subst e'
   obtain⟨its,r,pl,hz⟩:=I.list hx
   have hlen:=r.length
   exact wpAny_truthy_list pl.isList (by simp only [az];lia) ⟨H,I.tok _,by rw [ah5 r];exact q⟩
  ·subst e'
   obtain⟨its,r,pl,hz⟩:=I.tuple hx
   have hlen:=r.length
   exact truthy_tuple pl (by simp only [az];lia) ⟨H,I.tok _,by rw [ah5 r];exact q⟩
  ·subst e'
   obtain⟨hz,hS,vs,r,m⟩:kvs.length <=sizeLine/\(p==fJ)=false/\ ∃vs,KV kvs vs/\s.heap.DictOf (ad2 X.prog X.w) p vs:=I.hok p _ hx
   have hlen:kvs.length=vs.length:=Paired.length r
   exact wpAny_truthy_dict hS m (by lia) ⟨H,I.tok _,by rw [arc r];exact q⟩
 |_=> exact (show False from e).elim
theorem axk(ha:PE X a ta)(he: ∀whole,isTrue a X.env whole=(do let v←whole;standAt a.pos;holding [v] (truthy v))):
  PT X a (fun σ H Q=> ta σ H fun x H'=> ∃k,a3y X.K x H' k/\Q k H'):=by
 (first|refine⟨?_⟩|skip);intro pins s σ H Q I h
 exact isTrue_plain (thn (ha pins s σ H _ I h) fun v s1 ⟨x,H1,I1,r1,q1⟩=> a2a pins s1 σ H1 x v Q I1 r1 q1) (he _)
theorem aqc:OpR X (binaryOp .Add) (fun x y H Q=> ∃i j,x=.str i/\y=.str j/\i.length+j.length <=sizeLine/\Q (.str (i++j)) H):=by
 (first|refine⟨?_⟩|skip);intro pins s σ H x y v u Q I rx ry h
 obtain⟨i,j,rfl,rfl,hz,q⟩:=h
 obtain⟨t,rfl⟩:=rx
 obtain⟨t',rfl⟩:=ry
 exact add_str (fun t' tk=> ⟨.str (i++j),H,I.tok _,⟨_,rfl⟩,q⟩) hz
theorem vals1{x:V}(r:jo [x] us): ∃u,us=[u]/\RelV x u:=by
 cases r with
 |cons r1 r2=> cases r2;exact⟨_,rfl,r1⟩
theorem vals2{x y:V}(r:jo [x,y] us): ∃u w',us=[u,w']/\RelV x u/\RelV y w':=by
 cases r with
 |cons r1 r2=>
  cases r2 with
  |cons r3 r4=> cases r4;exact⟨_,_,rfl,r1,r3⟩
theorem atg(hc:X.calm=true):ve X (.builtin "max") (fun xs H Q=> ∃i j,xs=[.int i,.int j]/\Q (.int (if j > i then j else i)) H):=by
 (first|refine⟨?_⟩|skip);intro pins s σ H xs us Q I r h
 obtain⟨i,j,rfl,q⟩:=h
 obtain⟨u,w',rfl,⟨t,rfl⟩,⟨t',rfl⟩⟩:=vals2 r
 refine max_two_ints (I.ok.hd hc) fun h' tk k=> ⟨_,H,I.kept k,?_,q⟩
 by_cases hj:j > i
 ·rw [if_pos hj,if_pos hj];exact⟨_,rfl⟩
 ·rw [if_neg hj,if_neg hj];exact⟨_,rfl⟩
theorem arn(hc:X.calm=true):ve X (.builtin "min") (fun xs H Q=> ∃i j,xs=[.int i,.int j]/\Q (.int (if j < i then j else i)) H):=by
 (first|refine⟨?_⟩|skip);intro pins s σ H xs us Q I r h
 obtain⟨i,j,rfl,q⟩:=h
 obtain⟨u,w',rfl,⟨t,rfl⟩,⟨t',rfl⟩⟩:=vals2 r
 refine min_two_ints (I.ok.hd hc) fun h' tk k=> ⟨_,H,I.kept k,?_,q⟩
 by_cases hj:j < i
 ·rw [if_pos hj,if_pos hj];exact⟨_,rfl⟩
 ·rw [if_neg hj,if_neg hj];exact⟨_,rfl⟩
end
structure ObjM (h:Heap) (x dx C:Addr) (mA:Str -> Option af):Prop where
 obj:h.get? x=some (kM C dx)
 ns:h.Ns1 dx mA
 ne:dx≠x
theorem ajj{dx:Addr}(n:h.Ns1 dx mA): ∃od,h.get? dx=some od/\ ∀name,lA name od=some (mA name):=by
 obtain⟨o,es,ep,ho,hd,hk,_,hm⟩:=n
 refine⟨o,ho,fun name=> ?_⟩
 have e:=hm name
 unfold nsFind findBy at e
 rw [←Array.find?_toList]at e
 unfold lA
 rw [hd]
 dsimp only
 split
 ·rename_i y q
  rw [q]at e
  exact congrArg some e
 ·rename_i q
  rw [q]at e
  have a:es.toList.any (·.refKey)=false:=by
   rw [jC]
   intro y hy
   obtain⟨z,t,hkey⟩:=hk y (lT.mp hy)
   simp [DictEntry.refKey,hkey]
  have a': ¬es.toList.any (·.refKey)=true:=by rw [a];exact aw
  rw [if_neg a']
  exact congrArg some e
theorem ObjM.look{x dx:Addr}(I:ObjM h x dx C mA): ∃od,PySem.W.InstAt h x (kM C dx) C (some od)/\ ∀name,lA name od=some (mA name):=
 let ⟨od,ho,hl⟩:=ajj I.ns
 ⟨od,⟨I.obj,rfl,rfl,ho⟩,hl⟩
noncomputable def vn(f:Str)(v:V):List (Str×V) -> List (Str×V)
 |[]=> [(f,v)]
 |(g,x)::r=> if g=f then (g,v)::r else (g,x)::vn f v r
theorem act(f g:Str)(v:V): ∀fs:List (Str×V),(vn f v fs).lookup g=if g=f then some v else fs.lookup g
 | []=> by
  show eA g [(f,v)]=_
  by_cases h:g=f
  ·have hb:(g==f)=true:=beq_iff_eq.mpr h
   simp only [eA,hb,if_pos h]
  ·have hb:(g==f)=false:=beq_eq_false_iff_ne.mpr h
   simp only [eA,hb,if_neg h]
 | (k,x)::r=> by
  have ih:=act f g v r
  rw [show vn f v ((k,x)::r)=(if k=f then (k,v)::r else (k,x)::vn f v r) from rfl]
  by_cases hk:k=f
  ·rw [if_pos hk]
   by_cases h:g=k
   ·have hb:(g==k)=true:=beq_iff_eq.mpr h
    simp only [eA,hb,if_pos (h.trans hk)]
   ·have hb:(g==k)=false:=beq_eq_false_iff_ne.mpr h
    simp only [eA,hb,if_neg (fun e:g=f=> h (e.trans hk.symm))]
  ·rw [if_neg hk]
   by_cases h:g=k
   ·have hb:(g==k)=true:=beq_iff_eq.mpr h
    simp only [eA,hb,if_neg (fun e:g=f=> hk (h.symm.trans e))]
   ·have hb:(g==k)=false:=beq_eq_false_iff_ne.mpr h
    simp only [eA,hb]
    exact ih
theorem ack(f:Str)(v:V): ∀fs:List (Str×V),f∈(vn f v fs).map (·.1)/\ ∀g,g∈fs.map (·.1) -> g∈(vn f v fs).map (·.1)
 |[]=> ⟨by simp [vn],fun g h=> by simp at h⟩
 | (k,x)::r=> by
  obtain⟨i1,i2⟩:=ack f v r
  rw [show vn f v ((k,x)::r)=(if k=f then (k,v)::r else (k,x)::vn f v r) from rfl]
  by_cases hk:k=f
  ·rw [if_pos hk]
   subst hk
   exact⟨by simp,fun g h=> by simpa using h⟩
  ·rw [if_neg hk]
   refine⟨?_,fun g h=> ?_⟩
   ·rw [aL]
    exact aB _ i1
   ·rw [aL]at h⊢
    rcases aq.mp h with e|e
    ·exact aq.mpr (.inl e)
    ·exact aB _ (i2 g e)
theorem ag5(f:Str)(v:V): ∀fs:List (Str×V),(vn f v fs).length <=fs.length+1
 |[]=> by simp [vn]
 |(k,x)::r=> by
  have ih:=ag5 f v r
  rw [show vn f v ((k,x)::r)=(if k=f then (k,v)::r else (k,x)::vn f v r) from rfl]
  by_cases hk:k=f
  ·rw [if_pos hk,aK,aK];lia
  ·rw [if_neg hk,aK,aK];lia
theorem abf.some_of{o:Option af}(r:abf (some v) o): ∃u,o=some u/\RelV v u:=by
 cases o with
 |none=> exact (show False from r).elim
 |some u=> exact⟨u,rfl,r⟩
theorem asz(r:RelV v u):PySem.W.handedIn u=true:=by
 cases v with
 |non=> cases (show u=bP from r);rfl
 |bl b=> cases (show u=eV b from r);rfl
 |int i=> obtain⟨t,e⟩:=(show∃t,u=dH i t from r);cases e;rfl
 |str x=> obtain⟨t,e⟩:=(show∃t,u=fE x t from r);cases e;rfl
 |byt b=> obtain⟨t,e⟩:=(show∃t,u=Value.bytes b t from r);cases e;rfl
 |flt b=> obtain⟨t,e⟩:=(show∃t,u=mQ b t from r);cases e;rfl
 |ref a=> cases (show u=aH a from r);rfl
 |ty n=> cases (show u=cU n from r);rfl
section
variable{P:aV}{w:aZ}{H H':Hp}{h h':Heap}{a C dx:Addr}{fs fs':List (Str×V)}
theorem a22(hok:HOk P w H h)(e:H a=some (.ins C dx fs)): ∃mA,ObjM h a dx C mA/\(∀f,abf (fs.lookup f) (mA f))/\eE mA (fs.map (·.1))/\fs.length <=1000/\H dx=some (.own a):=by
 obtain⟨d,z,ne,ob,mA,n,r,q⟩:=(show j7 P w H h a (.ins C dx fs) from hok a _ e)
 exact⟨mA,⟨ob,n,ne⟩,r,q,z,d⟩
end
structure Cls (K:ak) (C:Addr):Prop where
 pg:PySem.W.plainGet K C Str.empty=true
 hd:PySem.W.hasDictIn K C=true
 po:PySem.W.plainOver K C=true
 sa:cK K (.ref C) "__setattr__"=some (some (.builtin "object.__setattr__"))
theorem Cls.get(c:Cls K C)(f:Str):PySem.W.plainGet K C f=true:=c.pg
def yb(K:ak)(C:Addr)(f:Str):Prop:=cK K (.ref C) f=some none
section
variable{X:Cx}{pins:List (Addr×Obj)}{σ:St}{H:Hp}{s:aj}{a C dx:Addr}{fs:List (Str×V)}{f:Str}{v:V}{A:br}{E:af -> aj -> Prop}
theorem a0k{f:Str}(hb:gQ e f env (eval e env)=eval e env)(h:wpAny (model prog w) A (eval e env) (fun o s₁=> wpAny (model prog w) A (getAttr o f true) Q E s₁) E s):wpAny (model prog w) A (eval (.Attribute e f pos) env) Q E s:=
 Attribute_any_ h (by rw [arm_eval_Attribute,hb])
end
section
variable{X:Cx}{pins:List (Addr×Obj)}{σ:St}{H:Hp}{s:aj}{A:br}{E:af -> aj -> Prop}{Q:af -> aj -> Prop}{c:af}{b:Bool}
inductive TyOf (K:ak) (H:Hp):V -> af -> Prop where
 |non:TyOf K H .non (.type "NoneType")
 |bl (x:Bool):TyOf K H (.bl x) (.type "bool")
 |int (i:Int):TyOf K H (.int i) (.type "int")
 |str (x:Str):TyOf K H (.str x) (.type "str")
 |flt (x:UInt64):TyOf K H (.flt x) (.type "float")
 |lst {a:Addr} {xs:List V} (e:H a=some (.lst xs)):TyOf K H (.ref a) (.type "list")
 |frz {a:Addr} {o:Obj} {xs:List V} (e:H a=some (.frz o (.lst xs))):TyOf K H (.ref a) (.type "list")
 |tup {a:Addr} {xs:List V} (e:H a=some (.tup xs)):TyOf K H (.ref a) (.type "tuple")
 |dK {a:Addr} {kvs:List (Key×V)} (e:H a=some (.dK kvs)):TyOf K H (.ref a) (.type "dict")
 |dT {a:Addr} {kvs:List (List Key×V)} (e:H a=some (.dT kvs)):TyOf K H (.ref a) (.type "dict")
 | ins {a C dx:Addr} {fs:List (Str×V)} (e:H a=some (.ins C dx fs)) (cl:Cls K C) (ha:cK K (.ref C) "__class__"=some (some (.builtin "object.__class__")))
   (hn:fq K (.builtin "object.__class__") "__get__"=some (some (.builtin "getset_descriptor.__get__"))) (htk:kN K (.builtin "object.__class__")=some true)
   (hm:iZ K C (.type "object")=some true):TyOf K H (.ref a) (.ref C)
theorem aj7{x:V}{t:af}(I:Inv X pins σ H s)(rx:RelV x u)(ty:TyOf X.K H x t)(e:ck X.K t c=some b)(h: ∀tk,Q (.bool b) {s with toks:=tk}):
  wpAny (model X.prog X.w) A (call (.builtin "isinstance") [u,c]) Q E s:=by
 cases ty with
 |non=> cases (show u=bP from rx);exact cr PySem.W.kitx_none I.kIn dz e (fun z=> nomatch z) h
 |bl y=> cases (show u=eV y from rx);exact cr PySem.W.kitx_bool I.kIn dz e (fun z=> nomatch z) h
 |int i=> obtain⟨t,q⟩:=(show∃t,u=dH i t from rx);cases q;exact cr PySem.W.kitx_int I.kIn dz e (fun z=> nomatch z) h
 |str y=> obtain⟨t,q⟩:=(show∃t,u=fE y t from rx);cases q;exact cr PySem.W.kitx_str I.kIn dz e (fun z=> nomatch z) h
 |flt y=> obtain⟨t,q⟩:=(show∃t,u=mQ y t from rx);cases q;exact cr PySem.W.kitx_float I.kIn dz e (fun z=> nomatch z) h
 | @lst a xs ea=>
  cases (show u=aH a from rx)
  obtain⟨_,_,n,_,h1⟩:=(show j7 X.prog X.w H s.heap a (.lst xs) from I.hok a _ ea)
  exact cr PySem.W.kitx_list I.kIn ⟨_,h1,rfl⟩ e (fun z=> nomatch z) h
 | @frz a ob xs ea=>
  cases (show u=aH a from rx)
  obtain⟨_,_,_,n,_,h1⟩:=(show j7 X.prog X.w H s.heap a (.frz ob (.lst xs)) from I.hok a _ ea)
  exact cr PySem.W.kitx_list I.kIn ⟨_,h1,rfl⟩ e (fun z=> nomatch z) h
 | @tup a xs ea=>
  cases (show u=aH a from rx)
  obtain⟨_,_,_,p⟩:=(show j7 X.prog X.w H s.heap a (.tup xs) from I.hok a _ ea)
  obtain⟨o,h1,h2,_⟩:=p.tup
  exact cr PySem.W.kitx_tuple I.kIn ⟨o,h1,h2⟩ e (fun z=> nomatch z) h
 | @dK a kvs ea=>
  cases (show u=aH a from rx)
  obtain⟨_,_,vs,_,p⟩:=(show j7 X.prog X.w H s.heap a (.dK kvs) from I.hok a _ ea)
  obtain⟨o,es,ep,h1,h2,_⟩:=p
  exact cr PySem.W.kitx_dict I.kIn ⟨o,h1,h2.1⟩ e (fun z=> nomatch z) h
 | @dT a kvs ea=>
  cases (show u=aH a from rx)
  obtain⟨_,_,xs,_,o,es,ep,h1,h2,_⟩:=(show j7 X.prog X.w H s.heap a (.dT kvs) from I.hok a _ ea)
  exact cr PySem.W.kitx_dict I.kIn ⟨o,h1,h2.1⟩ e (fun z=> nomatch z) h
 | @ins a C dx fs ea cl ha hn htk hm=>
  cases (show u=aH a from rx)
  obtain⟨mA,O,_⟩:=a22 I.hok ea
  obtain⟨od,J,_⟩:=O.look
  exact cr (PySem.W.kitx_own (cl.get _) cl.hd ha hn htk hm) I.kIn J e (fun z=> nomatch z) h
end
structure Room (k:Nat) (A:br):Prop where
 hd:A.handled=none
 dp:A.depth+3*k+5 < recursionLimit
 un:A.units+16*k+200 < cLine
 gd:A.guards=some []
theorem Room.mono(r:Room k A)(h:j <=k):Room j A:=⟨r.hd,by have:=r.dp;lia,by have:=r.un;lia,r.gd⟩
theorem Room.deeper(r:Room (k+1) A)(env:Env):Room k (A.deeper env):=
 ⟨r.hd,by have:=r.dp;show A.depth+1+3*k+5 < _;lia,by have:=r.un;show A.units+3+16*k+200 < _;lia,r.gd⟩
theorem apq{kw:List (Str×af)}:(A.under (.builtin "type.__call__" ⟨.ref C::us,kw⟩)).depth=A.depth+1:=by
 first|rfl|simp [jU,Code.weight,Code.isCreation,Code.isGuard,Code.isCaller,Code.frames,mF,guardIds]
theorem aqr{kw:List (Str×af)}:(A.under (.builtin "type.__call__" ⟨.ref C::us,kw⟩)).units=A.units+1:=by
 first|rfl|simp [jU,Code.cUnits,Code.frames,mF]
theorem Room.make(r:Room (k+1) A)(C:Addr)(us:List af)(kw:List (Str×af)):Room k (A.under (.builtin "type.__call__" ⟨.ref C::us,kw⟩)):=
 ⟨r.hd,by have:=r.dp;rw [apq];lia,by have:=r.un;rw [aqr];lia,by first|exact r.gd|(simpa [jU,Code.isGuard,guardIds] using r.gd)⟩
theorem Room.depth(r:Room k A):A.depth < recursionLimit:=by have:=r.dp;lia
noncomputable def a8x:TA:=fun _ H Q=> Q [] H
noncomputable def a6h(ta:TE)(tr:TA):TA:=fun σ H Q=> ta σ H fun x H1=> tr σ H1 fun xs H2=> Q (x::xs) H2
section
variable{X:Cx}{e:Expr}{es:List Expr}{te:TE}{t:TA}{pos:Pos}
theorem ad6:PA X [] a8x:=.mk <|fun _ _ _ _ H Q I h=> Calls.spliced_nil ⟨[],H,I,.nil,h⟩
theorem aak(ha:PE X e te)(hr:PA X es t)(hs:starEach (e::es) X.env=(false,eval e X.env)::starEach es X.env:=by rfl):PA X (e::es) (a6h te t):=by
 (first|refine⟨?_⟩|skip);intro pos pins s σ H Q I h
 rw [hs]
 show wpAny _ _ (spliced ((false,eval e X.env)::backTo pos (starEach es X.env))) _ _ s
 refine Calls.spliced_cons (thn (ha pins s σ H _ I h) fun u s1 ⟨x,H1,I1,r1,q1⟩=> ?_)
 exact thn (hr pos pins s1 σ H1 _ I1 q1) fun us s2 ⟨xs,H2,I2,r2,q2⟩=> ⟨x::xs,H2,I2,.cons r1 r2,q2⟩
def a8z(t:TA):TE:=fun σ H Q=> t σ H fun xs H1=> xs.length <=sizeLine/\ ∀p,H1 p=none -> Q (.ref p) (upd H1 p (.tup xs))
theorem a2r{x1}(h:PA X es t):PE X (.Tuple es x1 pos) (a8z t):=by
 (first|refine⟨?_⟩|skip);intro pins s σ H Q I hq
 refine mi (thn (h pos pins s σ H _ I hq) fun us s1 ⟨xs,H1,I1,r,z,q⟩=> ⟨by rw [←r.length];exact z,?_⟩)
 have hf:H1 s1.heap.objs.size=none:=I1.hok.fresh (ao _)
 refine⟨.ref s1.heap.objs.size,upd H1 s1.heap.objs.size (.tup xs),I1.laid (t':=s1.toks) (fun b u e=> ai _ e) (ao _) ?_,rfl,q _ hf⟩
 exact⟨z,us,r,⟨_,ay _ rfl⟩⟩
end
abbrev Sp:=List V -> Hp -> VK -> XK -> Prop
abbrev CXT:=List Env -> Hp -> aj -> XK -> af -> aj -> Prop
structure Env0 (P:aV) (w:aZ) (K:ak) (mg:Str -> Option af) (base:Heap) (A:br) (outer:List Env) (s:aj) (H:Hp):Prop where
 frames:A.frames=some outer
 mod:Mod K mg base
 bs: ∀b o,base.get? b=some o -> s.heap.get? b=some o/\H b=none
 bsz:base.objs.size <=s.heap.objs.size
 funs:s.heap.FunFrames base outer
 frf: ∀b∈frs outer,H b=none
 hok:HOk P w H s.heap
 bare:gn s.gens
def CE(outer:List Env)(P:aV)(w:aZ)(H:Hp)(s:aj)(Q:VK)(u:af)(s':aj):Prop:=
 ∃v H',s'.os=s.os/\gn s'.gens/\Un (frs outer) [] H H' s.heap s'.heap/\HOk P w H' s'.heap/\RelV v u/\Q v H'
def CR(CX:CXT)(outer:List Env)(P:aV)(w:aZ)(H:Hp)(s:aj)(Q:VK)(E:XK)(r:hV)(s':aj):Prop:=
 match r with
 |.ok (.ret u)=> CE outer P w H s Q u s'
 |.ok _=> False
 |.error e=> CX outer H s E e s'
structure FnOk (P:aV) (w:aZ) (K:ak) (mg:Str -> Option af) (base:Heap) (CX:CXT) (k:Nat) (f:Addr) (fd:eF) (ps:List Str) (sp:Sp):Prop where
 len: ∀vs H Q E,sp vs H Q E -> vs.length=ps.length
 run: ∀(A:br) (outer:List Env) (s:aj) (H:Hp) (args:Args) (us:List af) (vs:List V) (Q:VK) (E:XK),Room k A -> Env0 P w K mg base A outer s H -> lB s fd args (ps.zip us) -> jo vs us -> sp vs H Q E ->
  codeAny (model P w) A (.call (.ref f) args) (CR CX outer P w H s Q E) s
theorem Env0.make{outer:List Env}(e:Env0 P w K mg base A outer s H)(C:Addr)(us:List af)(kw:List (Str×af)):
  Env0 P w K mg base (A.under (.builtin "type.__call__" ⟨.ref C::us,kw⟩)) outer s H:=⟨by first|exact e.frames|(simpa [jU,Code.envs,mF,pushEnvs] using e.frames),e.mod,e.bs,e.bsz,e.funs,e.frf,e.hok,e.bare⟩
section
variable{X:Cx}{pins:List (Addr×Obj)}{σ:St}{H:Hp}{s s':aj}
theorem Inv.env0(I:Inv X pins σ H s):Env0 X.prog X.w X.K X.mg X.base X.A X.stack s H:=
 ⟨I.ok.frames,I.ok.mod,I.bs,ax I.ok.bsz I.sz,I.stack,I.stkFree,I.hok,I.bare⟩
theorem Inv.after{Q:VK}(I:Inv X pins σ H s)(h:CE X.stack X.prog X.w H s Q u s'):EP X pins σ Q u s':=by
 obtain⟨v,H',os,bare,un,hok,r,q⟩:=h
 obtain⟨hh,g,d,t,os'⟩:=s'
 obtain rfl:os'=s.os:=os
 exact⟨v,H',I.call (h':=hh) (g':=g) (d':=d) (t':=t) (ch:=[]) un hok bare (fun b z=> absurd z (by simp)),r,q⟩
end
noncomputable def axx(sp:Sp)(dvs:List V)(E:SK)(t:TA):TE:=fun σ H Q=> t σ H fun vs H1=> sp (vs++dvs) H1 Q (E σ)
def Binds(K:ak)(fd:eF)(ps:List Str)(ds:List af):Prop:=
 ∀(s:aj) (us:List af),K.In s.heap -> (us++ds).length=ps.length -> lB s fd ⟨us,[]⟩ (ps.zip (us++ds))
theorem Binds.all(h: ∀us:List af,us.length=ps.length -> bindArgs fd ⟨us,[]⟩=pure (ps.zip us)):Binds K fd ps []:=fun s us _ hl=> by
 rw [cq]at hl⊢
 exact .of_eq (h us hl)
def aev(CX:CXT)(X:Cx)(E:SK):Prop:= ∀(pins:List (Addr×Obj)) (σ:St) (H:Hp) (s:aj) (e:af) (s':aj),Inv X pins σ H s -> CX X.stack H s (E σ) e s' -> X.xe e s'
section
variable{X:Cx}{CX:CXT}{k:Nat}{f C:Addr}{fd:eF}{ps:List Str}{sp:Sp}{dvs:List V}{ds:List af}{E:SK}{x m:Str}{p pos apos:Pos}{e o:Expr}{es:List Expr}{ta:TE}{t:TA}
theorem asv{Q:VK}{vs:List V}(F:FnOk X.prog X.w X.K X.mg X.base CX k f fd ps sp)(hr:Room k X.A)(hb:Binds X.K fd ps ds)(hd:jo dvs ds)(hx:aev CX X E)(I:Inv X pins σ H s)(r:jo vs us)(h:sp (vs++dvs) H Q (E σ)):wpAny (model X.prog X.w) X.A (call (.ref f) us) (EP X pins σ Q) X.xe s:=by
 have r2:jo (vs++dvs) (us++ds):=r.append hd
 have hl:(us++ds).length=ps.length:=by rw [←r2.length];exact F.len _ _ _ _ h
 refine gr (dR (F.run X.A X.stack s H ⟨us,[]⟩ (us++ds) (vs++dvs) Q (E σ) hr I.env0 (hb s us I.kIn hl) r2 h) fun r s' hq=> ?_)
 cases r with
 |error e=> exact hx pins σ H s e s' I hq
 |ok fl=>
  cases fl with
  |ret u=> exact I.after hq
  |next=> exact dA hq
  |brk=> exact dA hq
  |cont=> exact dA hq
theorem azq(F:FnOk X.prog X.w X.K X.mg X.base CX k f fd ps sp)(hr:Room k X.A)(hg:Gl X x)(hm:X.mg x=some (.ref f))(hk:df X.K (.ref f)=true)(hb:Binds X.K fd ps ds)(hd:jo dvs ds)(hx:aev CX X E)
  (ha:PA X (e::es) t) (hdb:(x==("__debug__":Str))=false:=by decide) (he:starEach (e::es) X.env=(false,eval e X.env)::starEach es X.env:=by rfl) (hpl:(backTo pos (starEach es X.env)).any (·.1)=false:=by rfl):
  PE X (.Call (.Name x p) (e::es) [] pos) (axx sp dvs E t):=by
 (first|refine⟨?_⟩|skip);intro pins s σ H Q I h
 refine gb (adk I hg hm ?_ hdb)
 refine iO (h₀:=X.base) I.ok.mod.kin hk (thn (ha pos pins s σ H _ I h) fun us s1 ⟨vs,H1,I1,r,q⟩=> ⟨I1.kIn,?_⟩) he hpl
 exact asv F hr hb hd hx I1 r q
end
structure FnScope (N P:List Str) (sc:gm):Prop where
 kind:sc.kind=.function
 co:sc.isCoroutine=false
 gen:sc.isGenerator=false
 nd:N.Nodup
 pre:N.take P.length=P
 par: ∀x∈P,sc.names.lookup x=some .local\/sc.names.lookup x=some .cell
 nofree: ∀y∈sc.names,y.2≠ .free
theorem ak5{kindOf:Str -> Option fg}{x:Str}: ∀{binds:List (Str×af)} {m:Str -> Option af},(∀v,(x,v)∉binds) -> bindL kindOf binds m x=m x
 |[],_,_=> rfl
 | (n,v)::r,m,h=> by
  unfold bindL
  rw [ak5 fun w hw=> h w (aB _ hw)]
  split
  ·have:x≠n:=by rintro rfl;exact h v aD
   simp [this]
  ·rfl
theorem aja{kindOf:Str -> Option fg}{x:Str}: ∀{binds:List (Str×af)} {m:Str -> Option af},(∀v,(x,v)∉binds) -> bindC kindOf binds m x=m x
 |[],_,_=> rfl
 | (n,v)::r,m,h=> by
  unfold bindC
  rw [aja fun w hw=> h w (aB _ hw)]
  split
  ·rfl
  ·have:x≠n:=by rintro rfl;exact h v aD
   simp [this]
theorem ak9{kindOf:Str -> Option fg}{x:Str}{v:af}: ∀{P:List Str} {vs:List af} {i:Nat} {m:Str -> Option af},P.Nodup -> P[i]?=some x -> vs[i]?=some v -> kindOf x=some .local ->
  bindL kindOf (P.zip vs) m x=some v
 |[],_,_,_,_,h,_,_=> by simp at h
 |_::_,[],_,_,_,_,h,_=> by simp at h
 |p::P,w::vs,0,m,nd,h1,h2,hk=> by
  simp at h1 h2;subst h1;subst h2
  show bindL kindOf ((p,w)::P.zip vs) m p=_
  unfold bindL
  rw [ak5 fun v hv=> (dW.mp nd).1 (f6 hv).1,if_pos hk]
  simp
 |p::P,w::vs,i+1,m,nd,h1,h2,hk=> by
  show bindL kindOf ((p,w)::P.zip vs) m x=_
  unfold bindL
  exact ak9 (i:=i) (dW.mp nd).2 (by simpa using h1) (by simpa using h2) hk
theorem ajx{kindOf:Str -> Option fg}{x:Str}{v:af}: ∀{P:List Str} {vs:List af} {i:Nat} {m:Str -> Option af},P.Nodup -> P[i]?=some x -> vs[i]?=some v -> kindOf x≠some .local ->
  bindC kindOf (P.zip vs) m x=some v
 |[],_,_,_,_,h,_,_=> by simp at h
 |_::_,[],_,_,_,_,h,_=> by simp at h
 |p::P,w::vs,0,m,nd,h1,h2,hk=> by
  simp at h1 h2;subst h1;subst h2
  show bindC kindOf ((p,w)::P.zip vs) m p=_
  unfold bindC
  rw [aja fun v hv=> (dW.mp nd).1 (f6 hv).1,if_neg hk]
  simp
 |p::P,w::vs,i+1,m,nd,h1,h2,hk=> by
  show bindC kindOf ((p,w)::P.zip vs) m x=_
  unfold bindC
  exact ajx (i:=i) (dW.mp nd).2 (by simpa using h1) (by simpa using h2) hk
noncomputable def start(N:List Str)(vs:List V):St:=vs.map some++aA (N.length - vs.length) none
noncomputable def zk(CX:CXT)(P:aV)(w:aZ)(K:ak)(mg:Str -> Option af)(base:Heap)(N:List Str)(qual:Str)(scope:gm)(f:Addr)(cd:af)(A:br)(outer:List Env)(s:aj)(H:Hp)(E:XK):Cx where
 prog:=P
 w:=w
 K:=K
 mg:=mg
 base:=base
 A:=A.deeper (envOfC qual scope s.heap.objs.size f cd)
 N:=N
 s₀:=s
 H₀:=H
 env:=envOfC qual scope s.heap.objs.size f cd
 outer:=outer
 stack:=envOfC qual scope s.heap.objs.size f cd::outer
 ex:=[]
 calm:=true
 fn:=fun _=> true
 pn:=[]
 xe:=fun e s'=> wpAny (model P w) (A.deeper (envOfC qual scope s.heap.objs.size f cd)) (leaving (envOfC qual scope s.heap.objs.size f cd) e) (fun _ s''=> CX outer H s E e s'') (fun e' s''=> CX outer H s E e' s'') s'
theorem akq{sc:gm}{x:Str}(h:sc.names.lookup x=some .cell): ∃c,(cellsFrom n sc.names []).lookup x=some c:=by
 have q:=lj sc.names n [] (.inl h)
 exact Option.isSome_iff_exists.mp q
theorem atx{CX:CXT}{cd:af}{outer:List Env}{s1:aj}{E:XK}{vs:List V}(S:FnScope N ps scope)(hd:A.handled=none)(e0:Env0 P w K mg base A outer s H)(hl:vs.length=ps.length)(r:jo vs us)(x:InCallC s s.heap.objs.size (bindL (envOfC qual scope s.heap.objs.size f cd).kindOf (ps.zip us) fun _=> none) (cellsFrom (s.heap.objs.size+1) scope.names []) (bindC (envOfC qual scope s.heap.objs.size f cd).kindOf (ps.zip us) fun _=> none) s1):
  Inv (zk CX P w K mg base N qual scope f cd A outer s H E) [] (start N vs) H s1:=by
 have hpl:ps.length <=N.length:=by have:=congrArg List.length S.pre;rw [bV]at this;lia
 obtain⟨h1,tk,rfl,hk⟩:=x.done
 have noA: ∀b:Addr,b∉(zk CX P w K mg base N qual scope f cd A outer s H E).ex:=fun b z=> absurd (show b∈([]:List Addr) from z) (by simp)
 refine⟨⟨e0.mod,S.kind,rfl,rfl,ao _,fun y z c h1 h2=> ?_,fun y hy=> ?_,fun y c _ h=> ?_,fun _=> hd,Around.frames_deeper e0.frames,.inr ⟨rfl,rfl⟩,fun b z=> absurd z (noA b),e0.bs,e0.bsz,fun b _ _=> noA b,fun b z=> absurd z (noA b),e0.funs,e0.frf⟩,
  rfl,e0.bare,Un.kept hk,⟨_,x.toInCall.ns,fun i y v h1 h2 h3=> ?_⟩,fun y c h=> ⟨_,x.cell y c h⟩,e0.hok.fresh (ao _),fun y c h=> ?_,fun p hp=> absurd (show p∈([]:List (Addr×Obj)) from hp) (by simp),e0.hok.kept hk,?_⟩
 ·exact name_of_addr x.apart (dI h1) (dI h2)
 ·have hy:scope.names.lookup y=some .cell\/scope.names.lookup y=some .free:=hy
  rcases hy with hy|hy
  ·exact akq hy
  ·exact absurd rfl (S.nofree _ (dI hy))
 ·exact f8 (x.above y c (dI h))
 ·have hi:i < vs.length:=by
   unfold start at h2
   by_cases hi:i < vs.length
   ·exact hi
   ·rw [cy (by simpa using hi)]at h2
    rw [eN]at h2
    split at h2 <;> cases h2
  have ha:vs[i]?=some v:=by
   unfold start at h2
   rw [bu (by simpa using hi),aR]at h2
   cases e:vs[i]? with
   |none=> rw [e]at h2;cases h2
   |some a=> rw [e]at h2;cases h2;rfl
  obtain⟨u,hu,rv⟩:=r.get ha
  have hp:ps[i]?=some y:=by
   rw [←S.pre,List.getElem?_take_of_lt (by lia)];exact h1
  have ndP:ps.Nodup:=by rw [←S.pre];exact S.nd.sublist (gC _ _)
  refine⟨u,rv,?_⟩
  rcases S.par y (hW hp) with k|k
  ·exact .inl ⟨k,ak9 ndP hp hu k⟩
  ·obtain⟨c,e⟩:=akq (n:=s.heap.objs.size+1) k
   refine .inr ⟨.inl k,c,e,?_⟩
   have q:=x.cell y c e
   rw [ajx ndP hp hu (by show scope.names.lookup y≠_;rw [k];decide)]at q
   exact q
 ·exact e0.hok.fresh (f8 (x.above y c (dI h)))
 ·unfold start
  show _=N.length
  rw [bq,am,fy]
  lia
theorem a5y{CX:CXT}{params:Arguments}{body:List Stmt}{dV kV doc pm cdv ct oc:af}{an od:Option Addr}{sp:Sp}(lk:K.lookup f=some ⟨oc,od,.func (cY name qual params body scope dV kV doc pm an cdv ct),osl⟩)(hcd:fz K cdv qual=true)(S:FnScope N ps scope)(len: ∀vs H Q E,sp vs H Q E -> vs.length=ps.length)(hbody: ∀(A:br) (outer:List Env) (s:aj) (H:Hp) (vs:List V) (Q:VK) (E:XK),Room k (A.deeper (envOfC qual scope s.heap.objs.size f cdv)) -> sp vs H Q E ->
   ∃t,PSs (zk CX P w K mg base N qual scope f cdv A outer s H E) body t/\t {nx:=fun _ H'=> Q .non H',rt:=Q} (start N vs) H):
  FnOk P w K mg base CX (k+1) f (cY name qual params body scope dV kV doc pm an cdv ct) ps sp:=by
 refine⟨len,fun A outer s H args us vs Q E hr e0 hb r hsp=> ?_⟩
 have hl:=len _ _ _ _ hsp
 have KX:K.In s.heap:=e0.mod.kin.keeps fun b o e=> (e0.bs b o e).1
 have lim:s.heap.NoLimit:=e0.mod.nolimit.keeps fun b o e=> (e0.bs b o e).1
 have hkind: ∀y∈ps.zip us,scope.names.lookup y.1=some .local\/(scope.names.lookup y.1=some .cell/\((cellsFrom (s.heap.objs.size+1) scope.names []).lookup y.1).isSome=true):=fun⟨n,v⟩ hy=> by
  rcases S.par n (f6 hy).1 with q|q
  ·exact .inl q
  ·exact .inr ⟨q,lj _ _ _ (.inl q)⟩
 refine codeAny_call_function hr.depth (KX _ _ lk) rfl S.co S.gen rfl (PySem.W.codeRec_of KX hcd) (hb _ _ _ _ ?_)
 refine wpAny_newFunctionEnv_cells S.kind hkind fun env he s1 x=> ?_
 subst he
 refine⟨lim.keeps x.toInCall.keep,codeAny_func ?_⟩
 obtain⟨t,ht,hq⟩:=hbody A outer s H vs Q E (hr.deeper _) hsp
 have I:Inv (zk CX P w K mg base N qual scope f cdv A outer s H E) [] (start N vs) H s1:=atx S hr.hd e0 hl r x
 refine cA (ht [] s1 (start N vs) H _ I hq) (fun fl s' hs=> ?_) fun e s' hs=> hs
 have fin: ∀{σ':St} {H':Hp} {v:V} {u:af},Inv (zk CX P w K mg base N qual scope f cdv A outer s H E) [] σ' H' s' -> RelV v u -> Q v H' -> CE outer P w H s Q u s':=
  fun {σ' H' v u} J rv q=> ⟨v,H',J.os,J.bare,J.base,J.hok,rv,q⟩
 cases fl with
 |ret u=>
  obtain⟨v,σ',H',J,rv,q⟩:=hs
  exact fin J rv q
 |next=>
  obtain⟨σ',H',J,q⟩:=hs
  exact fin (v:=V.non) (u:=bP) J rfl q
 |brk=>
  obtain⟨_,_,_,q⟩:=hs
  exact dA q
 |cont=>
  obtain⟨_,_,_,q⟩:=hs
  exact dA q
section
variable{X:Cx}{x:Str}{p pos:Pos}{e:Expr}{es:List Expr}{t:TA}{id T:String}{r:List V -> Hp -> VK -> Prop}
noncomputable def tCB(r:List V -> Hp -> VK -> Prop)(t:TA):TE:=fun σ H Q=> t σ H fun vs H1=> r vs H1 Q
theorem adq(hc:ve X (.builtin id) r)(hg:Gl X x)(hm:X.mg x=none)(hv:bt x=some (.builtin id))(ha:PA X (e::es) t)(hn:x≠"__name__":=by decide)(hdb:(x==("__debug__":Str))=false:=by decide)
  (he:starEach (e::es) X.env=(false,eval e X.env)::starEach es X.env:=by rfl) (hpl:(backTo pos (starEach es X.env)).any (·.1)=false:=by rfl):PE X (.Call (.Name x p) (e::es) [] pos) (tCB r t):=by
 (first|refine⟨?_⟩|skip);intro pins s σ H Q I h
 refine gb (abp I hg hm hv ?_ hn hdb)
 exact hZ (thn (ha pos pins s σ H _ I h) fun us s1 ⟨vs,H1,I1,r1,q1⟩=> hc pins s1 σ H1 vs us Q I1 r1 q1) he hpl
theorem aep(hc:ve X (.type T) r)(hg:Gl X x)(hm:X.mg x=none)(hv:bt x=some (.type T))(ha:PA X (e::es) t)(hn:x≠"__name__":=by decide)(hdb:(x==("__debug__":Str))=false:=by decide)
  (he:starEach (e::es) X.env=(false,eval e X.env)::starEach es X.env:=by rfl) (hpl:(backTo pos (starEach es X.env)).any (·.1)=false:=by rfl):PE X (.Call (.Name x p) (e::es) [] pos) (tCB r t):=by
 (first|refine⟨?_⟩|skip);intro pins s σ H Q I h
 refine gb (abp I hg hm hv ?_ hn hdb)
 exact dQ (thn (ha pos pins s σ H _ I h) fun us s1 ⟨vs,H1,I1,r1,q1⟩=> hc pins s1 σ H1 vs us Q I1 r1 q1) he hpl
end
end L2
namespace HT
open PySem PyProof.Rows
theorem cat_tup{t b:Addr}{vs ws:List af}(ht:IsTup s.heap t vs.toArray)(hb:IsTup s.heap b ws.toArray)(hv:vs≠ [])(h1:ws=[] -> Q (.ref t) s)(h2:ws≠ [] -> Q (.ref s.heap.objs.size) {s with heap:=s.heap.push {cls:=.type "tuple",data:=.seq (vs++ws).toArray}})(hsz:vs.length+ws.length <=sizeLine):wpAny (model prog w) A (binaryOp .Add (.ref t) (.ref b)) Q E s:=by
 obtain⟨⟨cls,dd,data,sl⟩,ho,hc,n,hd⟩:=id ht
 obtain⟨⟨cls2,dd2,data2,sl2⟩,ho2,hc2,n2,hd2⟩:=id hb
 simp only at hc hd hc2 hd2
 subst hc hd hc2 hd2
 have e:vs.toArray++ws.toArray=(vs++ws).toArray:=by simp
 by_cases hw:ws=[]
 ·exact mG ⟨_,ho,rfl⟩ ⟨_,ho2,rfl⟩ jV l4 gG gz (gc _ _)
   (tuple_addW1 t b vs.toArray ws.toArray n n2 dd dd2 sl sl2 (by simpa using hv) (by simp [hw])) ⟨ho,ho2,h1 hw⟩
 ·refine mG ⟨_,ho,rfl⟩ ⟨_,ho2,rfl⟩ jV l4 gG gz (gc _ _)
   (tuple_addW2 t b vs.toArray ws.toArray n n2 dd dd2 sl sl2 (by simpa using hv) (by simpa using hw) (by rw [az,az];exact hsz)) ⟨ho,ho2,?_⟩
  rw [e]
  exact h2 hw
noncomputable def sIx(n d:Nat):Option Int -> Nat
 |none=> d
 |some v=> if v < 0 then (v+(n:Int)).toNat else min v.toNat n
theorem sIx_none(n d:Nat):sIx n d none=d:=rfl
theorem sIx_nat(n d k:Nat):sIx n d (some (k:Int))=min k n:=by
 show (if (k:Int) < 0 then ((k:Int)+(n:Int)).toNat else min (k:Int).toNat n)=min k n
 rw [if_neg (by lia),cH]
theorem a5k(n d:Nat)(hd:d <=n)(o:Option Int):sIx n d o <=n:=by
 cases o with
 |none=> exact hd
 |some v=>
  show (if v < 0 then (v+(n:Int)).toNat else min v.toNat n) <=n
  by_cases hv:v < 0
  ·rw [if_pos hv];lia
  ·rw [if_neg hv];exact Nat.min_le_right _ _
theorem ao0(v:Int)(n d:Nat):(if v < 0 then max (v+(n:Int)) 0 else min v (n:Int))=((sIx n d (some v):Nat):Int):=by
 show (if v < 0 then max (v+(n:Int)) 0 else min v (n:Int))=(((if v < 0 then (v+(n:Int)).toNat else min v.toNat n):Nat):Int)
 by_cases hv:v < 0
 ·simp only [if_pos hv];lia
 ·simp only [if_neg hv];lia
theorem ar2(lo hi:Option Int)(n:Nat):cV lo hi 1 (n:Int)=(((sIx n 0 lo:Nat):Int),((sIx n n hi:Nat):Int)):=by
 have h1: ¬((1:Int) < 0):=by lia
 unfold cV
 simp only [h1,if_false]
 refine Prod.ext ?_ ?_
 ·cases lo with
  |none=> rfl
  |some v=> exact ao0 v n 0
 ·cases hi with
  |none=> rfl
  |some v=> exact ao0 v n n
theorem aqq(i j:Nat):cb (i:Int) (j:Int) 1=j - i:=by
 unfold cb
 have h1:(1:Int)> 0:=by lia
 simp only [h1,if_true,Int.ediv_one]
 split <;> lia
theorem ahx{v:af}{o:Option Int}{Q:Option Int -> aj -> Prop}(p:gH v o)(h:Q o s):wpAny (model prog w) A (Builtin.Slice.slicePartIndex v) Q E s:=by
 cases p with
 |none=> exact iw h
 |int i t=> exact slicePart_int h
theorem ac1{sl:Addr}{vl vu:af}{lo hi:Option Int}{Q:Int×Int×Nat -> aj -> Prop}(hs:s.heap.IsSliceOf sl vl vu .none)(pl:gH vl lo)(pu:gH vu hi)(h:Q (((sIx n 0 lo:Nat):Int),1,sIx n n hi - sIx n 0 lo) s):wpAny (model prog w) A (fP (.ref sl) (pure (n:Int))) Q E s:=by
 obtain⟨os,hos,hcs,hds⟩:=id hs
 unfold fP jL
 refine ae (ae (bc hos hds (x:=vl) rfl (ae (bc hos hds (x:=vu) rfl (ae (bc hos hds (x:=.none) rfl (ah ?_)))))))
 refine ae (iw ?_)
 show wpAny _ _ (if ((1:Int)==0)=true then _ else _) _ _ s
 rw [if_neg (by decide)]
 refine ae (ahx pl (ae (ahx pu (ae (ah ?_)))))
 show wpAny _ _ (match cV lo hi 1 (n:Int) with|(lo,hi)=> pure (lo,(1:Int),cb lo hi 1)) _ _ s
 rw [ar2 lo hi n]
 show wpAny _ _ (pure (((sIx n 0 lo:Nat):Int),(1:Int),cb ((sIx n 0 lo:Nat):Int) ((sIx n n hi:Nat):Int) 1)) _ _ s
 rw [aqq]
 exact ah h
theorem axu(xs:Array af)(i k:Nat):((ej k).filterMap fun (m:Nat)=> xs[((i:Int)+(m:Int)*1).toNat]?).toArray=((xs.toList.drop i).take k).toArray:=by
 have e:(fun (m:Nat)=> xs[((i:Int)+(m:Int)*1).toNat]?)=fun m=> xs[i+m]?:=by
  funext m
  have:((i:Int)+(m:Int)*1).toNat=i+m:=by lia
  rw [this]
 rw [e]
 have:=pick_run xs i k
 rw [List.filterMap_map]at this
 have e2:((fun x=> xs[x]?)∘fun x=> i+x)=fun m=> xs[i+m]?:=rfl
 rw [e2]at this
 rw [this]
theorem getItem_tuple_cut{t sl:Addr}{vl vu:af}{lo hi:Option Int}(ht:IsTup s.heap t items)(hs:s.heap.IsSliceOf sl vl vu .none)(pl:gH vl lo)(pu:gH vu hi)(hw: ¬(sIx items.size 0 lo=0/\sIx items.size items.size hi=items.size))(h:Q (.ref s.heap.objs.size) {s with heap:=s.heap.push {cls:=.type "tuple",data:=.seq ((items.toList.drop (sIx items.size 0 lo)).take (sIx items.size items.size hi - sIx items.size 0 lo)).toArray}})(hsz:items.size <=sizeLine):wpAny (model prog w) A (getItem (.ref t) (.ref sl)) Q E s:=by
 have htake:sizeOk (.seq ((items.toList.drop (sIx items.size 0 lo)).take (sIx items.size items.size hi - sIx items.size 0 lo)).toArray):=by
  show ((items.toList.drop (sIx items.size 0 lo)).take (sIx items.size items.size hi - sIx items.size 0 lo)).toArray.size <=sizeLine
  rw [az,bV,eG,aM]
  lia
 have hj:sIx items.size items.size hi <=items.size:=a5k _ _ (ao _) hi
 obtain⟨os,hos,hcs,hds⟩:=id hs
 have hTs:s.TypeIs (.ref sl) "slice":=⟨os,hos,hcs⟩
 unfold getItem
 try with_reducible refine bw ?_
 first|refine ae (ah ?_)|skip
 refine ae (jD ht.typeIs (by decide) ?_)
 refine ae (bz (name:=bJ "__getitem__") ht.typeIs bC
  (bB bC ht.typeIs io ?_ (iP _ _)))
 show wpAny _ _ (d6 (.ref t)>>=_) _ _ s
 refine ae (l6 ht ?_)
 refine ae (gf hTs ?_)
 rw [if_pos (by decide)]
 refine ae (ac1 hs pl pu ?_)
 have hno: ¬((((sIx items.size 0 lo:Nat):Int)==0&&(1:Int)==1&&(sIx items.size items.size hi - sIx items.size 0 lo)==items.size)=true):=by
  intro q
  rw [aJ,aJ]at q
  have q1:((sIx items.size 0 lo:Nat):Int)=0:=eq_of_beq q.1.1
  have q2:sIx items.size items.size hi - sIx items.size 0 lo=items.size:=eq_of_beq q.2
  exact hw ⟨by lia,by lia⟩
 show wpAny _ _ (if (((sIx items.size 0 lo:Nat):Int)==0&&(1:Int)==1&&(sIx items.size items.size hi - sIx items.size 0 lo)==items.size)=true then _ else _) _ _ s
 rw [if_neg hno,axu]
 first
  |exact ae (m:=cZ _) (bA (ah ⟨_,rfl,ah h⟩) htake)
  |exact ae (m:=cZ _) (bA (ae (ah (ah ⟨_,rfl,ah h⟩))) htake)
  |exact ae (ae (m:=cZ _) (bA (ah (ah ⟨_,rfl,ah h⟩)) htake))
  |exact ae (ae (m:=cZ _) (bA (ah ⟨_,rfl,ah h⟩) htake))
end HT
namespace L2
open PySem PySem.Spec PyProof.Rows
abbrev TO:=St -> Hp -> (Option Int -> Hp -> Prop) -> Prop
def PO(X:Cx)(e:Option Expr)(t:TO):Prop:=
 ∀(pins:List (Addr×Obj)) (s:aj) (σ:St) (H:Hp) (Q:Option Int -> Hp -> Prop),Inv X pins σ H s -> t σ H Q ->
  wpAny (model X.prog X.w) X.A (evalPart e X.env) (fun u s'=> ∃o H',Inv X pins σ H' s'/\gH u o/\Q o H') X.xe s
noncomputable def a0p:TO:=fun _ H Q=> Q none H
noncomputable def a6o(t:TE):TO:=fun σ H Q=> t σ H fun x H1=> ∃i,x=.int i/\Q (some i) H1
section
variable{X:Cx}{e:Expr}{te:TE}{lo hi:Option Expr}{tl th:TO}{pos p2:Pos}
theorem a07:PO X none a0p:=by
 (first|refine⟨?_⟩|skip);intro pins s σ H Q I h
 rw [l7]
 exact ah ⟨none,H,I,.none,h⟩
theorem a1e(h:PE X e te):PO X (some e) (a6o te):=by
 (first|refine⟨?_⟩|skip);intro pins s σ H Q I hw
 rw [evalPart_some]
 refine thn (h pins s σ H _ I hw) fun u s1 ⟨x,H1,I1,r1,q1⟩=> ?_
 obtain⟨i,rfl,q⟩:=q1
 obtain⟨t,rfl⟩:=r1
 exact⟨some i,H1,I1,.int i t,q⟩
def SlR(X:Cx)(r:V -> Option Int -> Option Int -> Hp -> VK -> Prop):Prop:=
 ∀(pins:List (Addr×Obj)) (s:aj) (σ:St) (H:Hp) (x:V) (v vl vu:af) (lo hi:Option Int) (sl:Addr) (Q:VK),Inv X pins σ H s -> RelV x v -> s.heap.IsSliceOf sl vl vu .none -> gH vl lo -> gH vu hi -> r x lo hi H Q ->
  ∃T id,typeLookup (.type T) "__getitem__"=pure (some (.builtin id))/\s.TypeIs v T/\wpAny (model X.prog X.w) X.A (getItem v (.ref sl)) (EP X pins σ Q) X.xe s
theorem SlR.or{r r':V -> Option Int -> Option Int -> Hp -> VK -> Prop}(h:SlR X r)(h':SlR X r'):SlR X (fun x lo hi H Q=> r x lo hi H Q\/r' x lo hi H Q):=by
 (first|refine⟨?_⟩|skip);intro pins s σ H x v vl vu lo hi sl Q I rx hs pl pu q
 rcases q with q|q
 ·exact h pins s σ H x v vl vu lo hi sl Q I rx hs pl pu q
 ·exact h' pins s σ H x v vl vu lo hi sl Q I rx hs pl pu q
noncomputable def tSl(r:V -> Option Int -> Option Int -> Hp -> VK -> Prop)(te:TE)(tl th:TO):TE:=fun σ H Q=> te σ H fun x H1=> tl σ H1 fun l H2=> th σ H2 fun u H3=> r x l u H3 Q
theorem aum{r:V -> Option Int -> Option Int -> Hp -> VK -> Prop}(hr:SlR X r)(he:PE X e te)(hl:PO X lo tl)(hu:PO X hi th):PE X (.Subscript e (.Slice lo hi none p2) pos) (tSl r te tl th):=by
 (first|refine⟨?_⟩|skip);intro pins s σ H Q I h
 refine Subscript_ (thn (he pins s σ H _ I h) fun v s1 ⟨x,H1,I1,r1,q1⟩=> ?_)
 refine wpAny_Slice (thn (hl pins s1 σ H1 _ I1 q1) fun vl s2 ⟨l,H2,I2,pl,q2⟩=> thn (hu pins s2 σ H2 _ I2 q2) fun vu s3 ⟨u,H3,I3,pu,q3⟩=> ?_)
 rw [l7]
 refine ah ?_
 have I4:Inv X pins σ H3 {s3 with heap:=s3.heap.push {cls:=.type "slice",data:=.fields #[vl,vu,.none]}}:=I3.kept (t':=s3.toks) fun b ob q=> ai _ q
 obtain⟨T,id,hT,ht,hg⟩:=hr pins {s3 with heap:=s3.heap.push {cls:=.type "slice",data:=.fields #[vl,vu,.none]}} σ H3 x v vl vu l u s3.heap.objs.size Q I4 r1 (Heap.IsSliceOf.new ..) pl pu q3
 show wpAny (model X.prog X.w) X.A (l8 e (.Slice lo hi none p2) v (.ref s3.heap.objs.size)) (EP X pins σ Q) X.xe {s3 with heap:=s3.heap.push {cls:=.type "slice",data:=.fields #[vl,vu,.none]}}
 exact tail_any (ops:=[.ref s3.heap.objs.size,v]) ht hT hg (by with_unfolding_all rfl)
def zh(xs:List V)(lo hi:Option Int):List V:=(xs.drop (HT.sIx xs.length 0 lo)).take (HT.sIx xs.length xs.length hi - HT.sIx xs.length 0 lo)
theorem ag6(xs:List V)(lo hi:Option Int):(zh xs lo hi).length <=xs.length:=by
 unfold zh
 rw [bV,eG]
 lia
def a9c(K:ak):V -> Option Int -> Option Int -> Hp -> VK -> Prop:=fun x lo hi H Q=> ∃a xs,x=.ref a/\SqT K H a xs/\
 ¬(HT.sIx xs.length 0 lo=0/\HT.sIx xs.length xs.length hi=xs.length)/\ ∀p,H p=none -> Q (.ref p) (upd H p (.tup (zh xs lo hi)))
theorem at6:SlR X (a9c X.K):=by
 (first|refine⟨?_⟩|skip);intro pins s σ H x v vl vu lo hi sl Q I rx hs pl pu h
 obtain⟨a,xs,rfl,hx,hw,q⟩:=h
 cases rx
 obtain⟨its,r,ht,hz⟩:=I.tuple hx
 have hlen:its.toArray.size=xs.length:=by rw [az];exact r.length.symm
 refine⟨"tuple",_,bC.lookup,ht.typeIs,?_⟩
 refine HT.getItem_tuple_cut ht hs pl pu (by rw [hlen];exact hw) ?_ (by rw [hlen];exact hz)
 rw [hlen]
 refine⟨.ref s.heap.objs.size,_,I.laid (t':=s.toks) (o:=.tup (zh xs lo hi)) (fun b ob q=> ai _ q) (ao _) ?_,rfl,q _ (I.hok.fresh (ao _))⟩
 exact⟨ax (ag6 xs lo hi) hz,_,(r.drop (HT.sIx xs.length 0 lo)).take (HT.sIx xs.length xs.length hi - HT.sIx xs.length 0 lo),ae5.new _ _⟩
def a7a(K:ak):R2:=fun x y H Q=> ∃a b xs ys,x=.ref a/\y=.ref b/\SqT K H a xs/\SqT K H b ys/\xs≠ []/\xs.length+ys.length <=sizeLine/\
 (ys=[] -> Q (.ref a) H)/\(ys≠ [] -> ∀p,H p=none -> Q (.ref p) (upd H p (.tup (xs++ys))))
theorem jo.nil_iff(r:jo xs us):us=[] ↔ xs=[]:=by
 cases r with
 |nil=> simp
 |cons _ _=> simp
theorem az7:OpR X (binaryOp .Add) (a7a X.K):=by
 (first|refine⟨?_⟩|skip);intro pins s σ H x y v u Q I rx ry h
 obtain⟨a,b,xs,ys,rfl,rfl,ha,hb,hx,hz,q1,q2⟩:=h
 cases rx
 cases ry
 obtain⟨its,r1,p1,_⟩:=I.tuple ha
 obtain⟨its2,r2,p2,_⟩:=I.tuple hb
 refine HT.cat_tup p1 p2 (fun z=> hx (r1.nil_iff.mp z)) (fun z=> ⟨.ref a,H,I,rfl,q1 (r2.nil_iff.mp z)⟩) (fun z=> ?_) (by rw [←r1.length,←r2.length];exact hz)
 refine⟨.ref s.heap.objs.size,_,I.laid (t':=s.toks) (o:=.tup (xs++ys)) (fun b ob q=> ai _ q) (ao _) ?_,rfl,q2 (fun w=> z (r2.nil_iff.mpr w)) _ (I.hok.fresh (ao _))⟩
 exact⟨by rw [bq];exact hz,_,r1.append r2,ae5.new _ _⟩
end
noncomputable def ixN(n:Nat)(i:Int):Option Nat:=if 0 <=i then (if i < n then some i.toNat else none) else if -(n:Int) <=i then some (i+n).toNat else none
def atI{α:Type}(xs:List α)(i:Int):Option α:=(ixN xs.length i).bind fun j=> xs[j]?
theorem aos{i:Int}(h:ixN n i=some j):iQ i n=some j/\j < n/\ -(n:Int) <=i/\i < n:=by
 unfold ixN at h
 by_cases h0:0 <=i
 ·rw [if_pos h0]at h
  by_cases h1:i < n
  ·rw [if_pos h1]at h
   have e:i.toNat=j:=bZ h
   exact⟨by rw [mS h0 h1,e],by lia,by lia,h1⟩
  ·rw [if_neg h1]at h;cases h
 ·rw [if_neg h0]at h
  by_cases h1: -(n:Int) <=i
  ·rw [if_pos h1]at h
   have e:(i+n).toNat=j:=bZ h
   exact⟨by rw [mH (by lia) h1,e],by lia,h1,by lia⟩
  ·rw [if_neg h1]at h;cases h
theorem ail{α:Type}{xs:List α}{i:Int}{v:α}(h:atI xs i=some v): ∃j,iQ i xs.length=some j/\xs[j]?=some v/\j < xs.length/\ -(xs.length:Int) <=i/\i < xs.length:=by
 unfold atI at h
 cases e:ixN xs.length i with
 |none=> rw [e]at h;cases h
 |some j=>
  rw [e]at h
  obtain⟨h1,h2,h3,h4⟩:=aos e
  exact⟨j,h1,h,h2,h3,h4⟩
theorem afb{α:Type}{xs:List α}{v:α}(h:xs[j]?=some v):atI xs (j:Int)=some v:=by
 have hj:j < xs.length:=(aC.mp h).1
 have e:ixN xs.length (j:Int)=some j:=by
  unfold ixN
  rw [if_pos (by lia),if_pos (by lia)];simp
 unfold atI;rw [e];exact h
def ao8(b:Expr):Prop:= ∀o i,subscripted b false o i=operate [o,i] (getItem o i)
def IxR(X:Cx)(r:R2):Prop:=
 ∀(value slice:Expr) (pins:List (Addr×Obj)) (s:aj) (σ:St) (H:Hp) (x y:V) (v u:af) (Q:VK),Inv X pins σ H s -> RelV x v -> RelV y u -> r x y H Q ->
  subscripted slice false v u=operate [v,u] (getItem v u) -> wpAny (model X.prog X.w) X.A (l8 value slice v u) (EP X pins σ Q) X.xe s
def MtR(X:Cx)(id:String)(r:V -> List V -> Hp -> VK -> Prop):Prop:=
 ∀(pins:List (Addr×Obj)) (s:aj) (σ:St) (H:Hp) (x:V) (xs:List V) (v:af) (us:List af) (Q:VK),Inv X pins σ H s -> RelV x v -> jo xs us -> r x xs H Q ->
  wpAny (model X.prog X.w) X.A (call (.builtin id) (v::us)) (EP X pins σ Q) X.xe s
section
variable{X:Cx}{a b:Expr}{ta tb:TE}{pos:Pos}
theorem IxR.or{r r':R2}(h:IxR X r)(h':IxR X r'):IxR X (fun x y H Q=> r x y H Q\/r' x y H Q):=by
 intro value slice pins s σ H x y v u Q I rx ry q hs
 rcases q with q|q
 ·exact h value slice pins s σ H x y v u Q I rx ry q hs
 ·exact h' value slice pins s σ H x y v u Q I rx ry q hs
theorem a67{r:R2}(hr:IxR X r)(ha:PE X a ta)(hb:PE X b tb)(hs:ao8 b):PE X (.Subscript a b pos) (tOp r ta tb):=by
 (first|refine⟨?_⟩|skip);intro pins s σ H Q I h
 exact Subscript_ (avl ha hb I h fun v u s2 x y H2 I2 rx ry q=> hr a b pins s2 σ H2 x y v u Q I2 rx ry q (hs _ _))
def a5s(K:ak):R2:=fun x y H Q=> ∃p xs i v,x=.ref p/\y=.int i/\SqL K H p xs/\atI xs i=some v/\Q v H
def a48(K:ak):R2:=fun x y H Q=> ∃p xs i v,x=.ref p/\y=.int i/\SqT K H p xs/\atI xs i=some v/\Q v H
def a5o:R2:=fun x y H Q=> ∃z i c,x=.str z/\y=.int i/\z.length <=sizeLine/\atI z.cps.toList i=some c/\Q (.str ⟨#[c]⟩) H
theorem a0w:IxR X (a5s X.K):=by
 intro value slice pins s σ H x y v u Q I rx ry h hs
 obtain⟨p,xs,i,z,rfl,rfl,hq,he,q⟩:=h
 cases rx
 obtain⟨t,rfl⟩:=ry
 obtain⟨its,r,pl,hz⟩:=I.list hq
 obtain⟨j,h1,h2,h3,h4,h5⟩:=ail he
 obtain⟨w,ew,rw'⟩:=r.get h2
 have hl:=r.length
 have hn:=abx
 have fin:EP X pins σ Q w s:=⟨z,H,I,rw',q⟩
 by_cases h0:0 <=i
 ·have hj:i.toNat=j:=by
   rw [mS h0 h5]at h1
   exact bZ h1
  exact item_listR pl.isList h0 (by lia) (by rw [hj];simpa using ew) fin hs
 ·have hj:(i+(its.toArray.size:Int)).toNat=j:=by
   rw [mH (by lia) h4]at h1
   rw [az,←hl]
   exact bZ h1
  exact ll (x:=w) pl.isList.typeIs slot_list_getitem.lookup
   (wpAny_getItem_list_neg (Q:=fun r s'=> r=w/\EP X pins σ Q r s') pl.isList (by lia) (by rw [az] <;> lia) (by lia) (by rw [hj];simpa using ew) ⟨rfl,fin⟩) hs
theorem a3l:IxR X (a48 X.K):=by
 intro value slice pins s σ H x y v u Q I rx ry h hs
 obtain⟨p,xs,i,z,rfl,rfl,hq,he,q⟩:=h
 cases rx
 obtain⟨t,rfl⟩:=ry
 obtain⟨its,r,pl,hz⟩:=I.tuple hq
 obtain⟨j,h1,h2,h3,h4,h5⟩:=ail he
 obtain⟨w,ew,rw'⟩:=r.get h2
 have hl:=r.length
 have hn:=abx
 have fin:EP X pins σ Q w s:=⟨z,H,I,rw',q⟩
 exact ll (x:=w) pl.typeIs slot_tuple_getitem.lookup
  (getItem_tuple (j:=j) (Q:=fun r s'=> r=w/\EP X pins σ Q r s') pl (by lia) (by lia) (by rw [az,←hl];exact h1) (by simpa using ew) ⟨rfl,fin⟩) hs
theorem ald:IxR X a5o:=by
 intro value slice pins s σ H x y v u Q I rx ry h hs
 obtain⟨z,i,c,rfl,rfl,hz,he,q⟩:=h
 obtain⟨t,rfl⟩:=rx
 obtain⟨t',rfl⟩:=ry
 obtain⟨j,h1,h2,h3,h4,h5⟩:=ail he
 have hl:z.cps.toList.length=z.length:=by simp [Str.length]
 rw [hl]at h1 h4 h5
 have hn:=abx
 exact tail_any (typeIs_str s z t) slot_str_getitem.lookup (getItem_str (c:=c) (by
  have e1:decide (i < -(2^63:Int))=false:=decide_eq_false (by lia)
  have e2:decide (i≥2^63)=false:=decide_eq_false (by lia)
  rw [e1,e2,l9]) (by rw [h1];simpa using h2) ⟨.str ⟨#[c]⟩,H,I.tok _,⟨_,rfl⟩,q⟩) hs
def rIx(K:ak):R2:=fun x y H Q=> a5s K x y H Q\/a48 K x y H Q\/a5o x y H Q
theorem a27:IxR X (rIx X.K):=a0w.or (a3l.or ald)
theorem apm(its:List af)(n j:Nat)(u:af):gu (·.setIfInBounds j u) {cls:=.type "list",data:=.seq its.toArray n}={cls:=.type "list",data:=.seq (its.set j u).toArray n}:=by
 simp [gu]
theorem Inv.lst(I:Inv X pins σ H s)(h:H p=some (.lst xs)):
  ∃(its:List af) (n:Nat),jo xs its/\s.heap.get? p=some {cls:=.type "list",data:=.seq its.toArray n}/\xs.length <=sizeLine:=by
 obtain⟨z,its,n,r,e⟩:=I.hok p _ h
 exact⟨its,n,r,e,z⟩
theorem Inv.lstUpd{its':List af}{n':Nat}{f:Obj -> Obj}(I:Inv X pins σ H s)(h:H p=some (.lst xs))(ho:s.heap.get? p=some {cls:=.type "list",data:=.seq its.toArray n})(hf:f {cls:=.type "list",data:=.seq its.toArray n}={cls:=.type "list",data:=.seq its'.toArray n'})(r:jo ys its')(hz:ys.length <=sizeLine)(t:Nat):
  Inv X pins σ (upd H p (.lst ys)) {s with heap:=s.heap.update p f,toks:=t}:=by
 have e:(s.heap.update p f).get? p=some {cls:=.type "list",data:=.seq its'.toArray n'}:=by
  rw [bK f ho (by rw [hf] <;> rfl),hf]
 refine I.write (x:=p) (e:=p) (by rw [h];trivial) (.inl rfl) (fun b u hb q=> (bL _ _ (cP hb)).trans q) ⟨_,e⟩ ?_
 exact⟨hz,its',n',r,e⟩
def a6b:V -> V -> V -> Hp -> (Hp -> Prop) -> Prop:=fun o i v H Q=> ∃p xs k j,o=.ref p/\i=.int k/\H p=some (.lst xs)/\ixN xs.length k=some j/\Q (upd H p (.lst (xs.set j v)))
theorem axt:aix X a6b:=by
 (first|refine⟨?_⟩|skip);intro pins s σ H o i v ov iv u Q I ro ri rv h
 obtain⟨p,xs,k,j,rfl,rfl,hp,hj,q⟩:=h
 cases ro
 obtain⟨t,rfl⟩:=ri
 obtain⟨its,n,r,ho,hz⟩:=I.lst hp
 obtain⟨h1,h2,h3,h4⟩:=aos hj
 have hl:=r.length
 have hn:=abx
 have I':Inv X pins σ (upd H p (.lst (xs.set j v))) {s with heap:=s.heap.update p (gu (·.setIfInBounds j u))}:=
  I.lstUpd hp ho (apm its n j u) (r.set rv j) (by rw [List.length_set];exact hz) s.toks
 by_cases h0:0 <=k
 ·have hk:k.toNat=j:=by
   rw [mS h0 h4]at h1
   exact bZ h1
  exact PySem.W.ki_setAt ho h0 (by lia) (by rw [az,←hl];exact h4) (by rw [hk];exact⟨_,I',q⟩)
 ·have hk:(k+(its.toArray.size:Int)).toNat=j:=by
   rw [mH (by lia) h3]at h1
   rw [az,←hl]
   exact bZ h1
  exact PySem.W.ki_setBack ho (by lia) (by rw [az,←hl];exact h3) (by lia) (by rw [hk];exact⟨_,I',q⟩)
theorem aly(lo hi:Option Int)(n:Nat):(fW lo hi none n).1=((HT.sIx n 0 lo:Nat):Int)/\(fW lo hi none n).2.1=((HT.sIx n n hi:Nat):Int)/\(fW lo hi none n).2.2=1:=by
 refine⟨?_,?_,rfl⟩
 ·cases lo with
  |none=> simp [fW,HT.sIx]
  |some i=>
   simp only [fW,HT.sIx,jW,show (1:Int)> 0 by decide,if_true]
   by_cases h:i < 0
   ·simp only [h,if_true] <;> lia
   ·simp only [h,if_false] <;> lia
 ·cases hi with
  |none=> simp [fW,HT.sIx]
  |some i=>
   simp only [fW,HT.sIx,jW,show (1:Int)> 0 by decide,if_true]
   by_cases h:i < 0
   ·simp only [h,if_true] <;> lia
   ·simp only [h,if_false] <;> lia
theorem akh(its:List af)(lo hi:Option Int):slicePick its.toArray lo hi none=((its.drop (HT.sIx its.length 0 lo)).take (HT.sIx its.length its.length hi - HT.sIx its.length 0 lo)).toArray:=by
 obtain⟨h1,h2,h3⟩:=aly lo hi its.toArray.size
 unfold slicePick
 rw [h1,h2,h3]
 simp only [sliceRange_one,pick_run,az] <;> rfl
def a8q(K:ak):V -> Option Int -> Option Int -> Hp -> VK -> Prop:=fun x lo hi H Q=> ∃a xs,x=.ref a/\SqL K H a xs/\ ∀p,H p=none -> Q (.ref p) (upd H p (.lst (zh xs lo hi)))
theorem a12:SlR X (a8q X.K):=by
 (first|refine⟨?_⟩|skip);intro pins s σ H x v vl vu lo hi sl Q I rx hs pl pu h
 obtain⟨a,xs,rfl,hx,q⟩:=h
 cases rx
 obtain⟨its,r,ht,hz⟩:=I.list hx
 have hlen:=r.length
 refine⟨"list",_,slot_list_getitem.lookup,ht.isList.typeIs,?_⟩
 refine wpAny_getItem_list_slice ht.isList hs pl pu .none (by simp) ?_ (by rw [az] <;> lia)
 rw [akh,←hlen]
 refine⟨.ref s.heap.objs.size,_,I.laid (t':=s.toks) (o:=.lst (zh xs lo hi)) (fun b ob q=> ai _ q) (ao _) ?_,rfl,q _ (I.hok.fresh (ao _))⟩
 exact⟨ax (ag6 xs lo hi) hz,_,0,(r.drop (HT.sIx xs.length 0 lo)).take (HT.sIx xs.length xs.length hi - HT.sIx xs.length 0 lo),ay _ rfl⟩
theorem alq:ve X (.builtin "len") (fun xs H Q=> ∃p ys,xs=[.ref p]/\(SqL X.K H p ys\/SqT X.K H p ys)/\Q (.int ys.length) H):=by
 (first|refine⟨?_⟩|skip);intro pins s σ H xs us Q I r h
 obtain⟨p,ys,rfl,hq,q⟩:=h
 obtain⟨u,rfl,rx⟩:=vals1 r
 cases rx
 have hn:=abx
 rcases hq with hq|hq
 ·obtain⟨its,r',pl,hz⟩:=I.list hq
  have hlen:=r'.length
  exact Calls.call_len_list pl.isList (by simp only [az] <;> lia) ⟨.int ys.length,H,I.tok _,⟨s.toks+1,by rw [az,hlen]⟩,q⟩
 ·obtain⟨its,r',pl,hz⟩:=I.tuple hq
  have hlen:=r'.length
  exact len_tuple pl (by simp only [az] <;> lia) ⟨.int ys.length,H,I.tok _,⟨s.toks+1,by rw [az,hlen]⟩,q⟩
theorem alt:ve X (.builtin "len") (fun xs H Q=> ∃z,xs=[.str z]/\z.length <=sizeLine/\Q (.int z.length) H):=by
 (first|refine⟨?_⟩|skip);intro pins s σ H xs us Q I r h
 obtain⟨z,rfl,hz,q⟩:=h
 obtain⟨u,rfl,t,rfl⟩:=vals1 r
 have hn:=abx
 exact len_str (by lia) ⟨.int z.length,H,I.tok _,⟨_,rfl⟩,q⟩
theorem amu:ve X (.type "list") (fun xs H Q=> ∃p ys,xs=[.ref p]/\(SqL X.K H p ys\/SqT X.K H p ys)/\ ∀l,H l=none -> Q (.ref l) (upd H l (.lst ys))):=by
 (first|refine⟨?_⟩|skip);intro pins s σ H xs us Q I r h
 obtain⟨p,ys,rfl,hq,q⟩:=h
 obtain⟨u,rfl,rx⟩:=vals1 r
 cases rx
 have fin: ∀(its:List af),jo ys its -> ys.length <=sizeLine -> ∀(h':Heap) (c':Nat),(∀b o',s.heap.get? b=some o' -> h'.get? b=some o') ->
   h'.get? s.heap.objs.size=some {cls:=.type "list",dict:=none,data:=.seq its.toArray c',slots:= #[]} -> EP X pins σ Q (.ref s.heap.objs.size) {s with heap:=h'}:=fun its r' hz h' c' kp e=>
  ⟨.ref s.heap.objs.size,_,I.laid (t':=s.toks) kp (ao _) (show j7 X.prog X.w _ h' _ (.lst ys) from ⟨hz,its,c',r',e⟩),rfl,q _ (I.hok.fresh (ao _))⟩
 rcases hq with hq|hq
 ·obtain⟨its,r',pl,hz⟩:=I.list hq
  have hlen:=r'.length
  obtain⟨o,ho,hc,n,hd⟩:=pl.isList
  exact call_list_seq p (.inl rfl) ho hc hd (fun h' c' kp e=> fin its r' hz h' c' kp e) (by simp only [az] <;> lia)
 ·obtain⟨its,r',pl,hz⟩:=I.tuple hq
  have hlen:=r'.length
  obtain⟨o,ho,hc,n,hd⟩:=pl
  exact call_list_seq p (.inr rfl) ho hc hd (fun h' c' kp e=> fin its r' hz h' c' kp e) (by simp only [az] <;> lia)
theorem akb:ve X (.type "tuple") (fun xs H Q=> ∃p ys,xs=[.ref p]/\((SqL X.K H p ys/\ ∀l,H l=none -> Q (.ref l) (upd H l (.tup ys)))\/(SqT X.K H p ys/\Q (.ref p) H))):=by
 (first|refine⟨?_⟩|skip);intro pins s σ H xs us Q I r h
 obtain⟨p,ys,rfl,h⟩:=h
 obtain⟨u,rfl,rx⟩:=vals1 r
 cases rx
 rcases h with ⟨hq,q⟩|⟨hq,q⟩
 ·obtain⟨its,r',pl,hz⟩:=I.list hq
  have hlen:=r'.length
  refine call_tuple_list pl.isList (fun h' kp=> ?_) (by simp only [az] <;> lia)
  have I1:Inv X pins σ H {s with heap:=h'}:=I.kept (t':=s.toks) kp
  have I2:Inv X pins σ (upd H h'.objs.size (.tup ys)) {s with heap:=h'.push {cls:=.type "tuple",data:=.seq its.toArray}}:=
   I1.laid (t':=s.toks) (fun b o e=> ai _ e) (ao _) (show j7 X.prog X.w _ _ _ (.tup ys) from ⟨hz,its,r',ae5.new _ _⟩)
  exact⟨.ref h'.objs.size,_,I2,rfl,q _ (I1.hok.fresh (ao _))⟩
 ·obtain⟨its,r',pl,hz⟩:=I.tuple hq
  exact call_tuple_same pl ⟨.ref p,H,I,rfl,q⟩
def tyV(K:ak)(T:String)(x:V)(H:Hp):Prop:=match x with
 |.str _=> T="str"
 |.int _=> T="int"
 | .ref p=> (T="list"/\ ∃xs,SqL K H p xs)\/(T="tuple"/\ ∃o,K.lookup p=some o/\o.cls=.type "tuple"/\o.dict=none)\/
   (T="dict"/\((∃kvs,H p=some (.dK kvs))\/ ∃kvs,H p=some (.dT kvs)))\/(T="set"/\ ∃S n,H p=some (.set S n))
 |_=> False
theorem a33{x:V}{v:af}(I:Inv X pins σ H s)(r:RelV x v)(ty:tyV X.K T x H):
  s.TypeIs v T/\ ∀a,v=.ref a -> ∃ob,s.heap.get? a=some ob/\ob.dict=none:=by
 cases x with
 |str z=>
  obtain⟨t,rfl⟩:=r
  cases (show T="str" from ty)
  exact⟨typeIs_str s z t,fun _ e=> nomatch e⟩
 |int i=>
  obtain⟨t,rfl⟩:=r
  cases (show T="int" from ty)
  exact⟨jM s i t,fun _ e=> nomatch e⟩
 | ref p=>
  cases r
  rcases ty with ⟨rfl,xs,hq⟩|⟨rfl,o,hk,hc,hd⟩|⟨rfl,hk⟩|⟨rfl,S,n,hk⟩
  ·obtain⟨its,_,pl,_⟩:=I.list hq
   refine⟨pl.isList.typeIs,fun a e=> ?_⟩
   cases e
   obtain⟨o,n,e,c,hd,_⟩:=pl
   exact⟨o,e,hd⟩
  ·refine⟨⟨o,I.kIn p o hk,hc⟩,fun a e=> ?_⟩
   cases e
   exact⟨o,I.kIn _ o hk,hd⟩
  ·have z: ∃o,s.heap.get? p=some o/\o.ExactDict:=by
    rcases hk with ⟨kvs,hk⟩|⟨kvs,hk⟩
    ·obtain⟨_,_,_,_,o,_,_,e,ex,_⟩:=I.hok p _ hk
     exact⟨o,e,ex⟩
    ·obtain⟨_,_,_,_,o,_,_,e,ex,_⟩:=I.hok p _ hk
     exact⟨o,e,ex⟩
   obtain⟨o,e,ex⟩:=z
   refine⟨⟨o,e,ex.1⟩,fun a e2=> ?_⟩
   cases e2
   exact⟨o,e,ex.2.1⟩
  ·obtain⟨o,_,_,_,e,ex,_⟩:=I.hok p _ hk
   refine⟨⟨o,e,ex.1⟩,fun a e2=> ?_⟩
   cases e2
   exact⟨o,e,ex.2.1⟩
 |_=> exact dA ty
noncomputable def tBM(K:ak)(T:String)(r:V -> List V -> Hp -> VK -> Prop)(to:TE)(t:TA):TE:=fun σ H Q=> to σ H fun x H1=> tyV K T x H1/\t σ H1 fun xs H2=> r x xs H2 Q
variable{o e:Expr}{es:List Expr}{to:TE}{t:TA}{name:Str}{apos cpos:Pos}{T id:String}{r:V -> List V -> Hp -> VK -> Prop}
theorem a6w(pa:PlainAttrs T)(slot:Slot T name id)(hty:typeOf (.builtin id)=pure (.type "method_descriptor"))(hm:MtR X id r)(ho:PE X o to)(ha:PA X (e::es) t)
  (hbase:gQ o name X.env (eval o X.env)=eval o X.env:=by rfl)
  (hfew:((backTo cpos (starEach (e::es) X.env)).all (fun x=> !x.1)&&(backToKw cpos (gI [] X.env)).all (fun x=> x.1.isSome)
   &&decide ((e::es).length+([]:List Keyword).length+(if ([]:List Keyword).isEmpty then 0 else 1) < 30))=true:=by rfl)
  (hline:(apos.endLine==cpos.line)=true:=by rfl) (hs:starEach (e::es) X.env=(false,eval e X.env)::starEach es X.env:=by rfl) (hplain:(backTo cpos (starEach es X.env)).any (·.1)=false:=by rfl):
  PE X (.Call (.Attribute o name apos) (e::es) [] cpos) (tBM X.K T r to t):=by
 (first|refine⟨?_⟩|skip);intro pins s σ H Q I h
 refine wpAny_Call_method_late hbase hfew hline rfl (thn (ho pins s σ H _ I h) fun v s1 ⟨x,H1,I1,r1,ty,q1⟩=> ?_)
 obtain⟨h1,h2⟩:=a33 I1 r1 ty
 refine⟨T,id,pa,slot,hty,h1,h2,?_⟩
 have hA:=ha cpos pins s1 σ H1 _ I1 q1
 rw [hs]at hA⊢
 refine Calls.callWith_builtin (by show (false||(backTo cpos (starEach es X.env)).any (·.1))=false;rw [hplain] <;> rfl) (Calls.evalArgs_plain ?_)
 exact thn hA fun us s2 ⟨vs,H2,I2,r2,q2⟩=> hm pins s2 σ H2 x vs v us Q I2 r1 r2 q2
end
def MtM(X:Cx)(id:String)(r:V -> List V -> Hp -> VK -> Prop):Prop:=
 ∀(pins:List (Addr×Obj)) (s:aj) (σ:St) (H:Hp) (x:V) (xs:List V) (v:af) (us:List af) (Q:VK),Inv X pins σ H s -> RelV x v -> jo xs us -> r x xs H Q ->
  wpAny (model X.prog X.w) X.A (call (.builtin id) (v::us)) (EP X pins σ Q) X.xe s
theorem jo.one: ∀{x:V} {us:List af},jo [x] us -> ∃u,us=[u]/\RelV x u
 |_,_,.cons r .nil=> ⟨_,rfl,r⟩
theorem jo.eraseIdx: ∀{xs:List V} {us:List af} (i:Nat),jo xs us -> jo (xs.eraseIdx i) (us.eraseIdx i)
 |_,_,_,.nil=>.nil
 |_,_,0,.cons _ t=> t
 |_,_,i+1,.cons r t=>.cons r (jo.eraseIdx i t)
theorem ajf{α:Type}: ∀(l:List α) (i:Nat),(l.eraseIdx i).length <=l.length
 |[],_=> ao _
 |_::_,0=> eB _
 |_::r,i+1=> jX (ajf r i)
section
variable{X:Cx}{pins:List (Addr×Obj)}{σ:St}{H:Hp}{s:aj}{l b:Addr}{xs ys zs:List V}
theorem Inv.lset{its':List af}{f:Array af -> Array af}{t':Nat}(I:Inv X pins σ H s)(hH:H l=some (.lst xs))(e:s.heap.get? l=some {cls:=.type "list",data:=.seq its.toArray n})(hf:f its.toArray=its'.toArray)(hv:jo ys its')(hz:ys.length <=sizeLine):
  Inv X pins σ (upd H l (.lst ys)) {s with heap:=s.heap.update l (gu f),toks:=t'}:=by
 have q:=PySem.IsL.update e f
 rw [hf]at q
 refine I.write (x:=l) (e:=l) (by rw [hH];exact trivial) (.inl rfl) (fun b' u hb hu=> (bL s.heap (gu f) (cP hb)).trans hu) ⟨_,q⟩ ?_
 exact⟨hz,its',_,hv,q⟩
theorem Inv.lnew{t':Nat}(I:Inv X pins σ H s)(hv:jo ys its)(hz:ys.length <=sizeLine):
  Inv X pins σ (upd H s.heap.objs.size (.lst ys)) {s with heap:=s.heap.push {cls:=.type "list",data:=.seq its.toArray},toks:=t'}:=
 I.laid (fun _ _ q=> ai _ q) (ao _) ⟨hz,its,0,hv,ay _ rfl⟩
theorem Inv.fresh(I:Inv X pins σ H s):H s.heap.objs.size=none:=I.hok.fresh (ao _)
theorem Inv.lstM(I:Inv X pins σ H s)(hH:H l=some (.lst xs)):xs.length <=sizeLine/\ ∃(its:List af) (n:Nat),jo xs its/\xs.length=its.length/\s.heap.get? l=some {cls:=.type "list",data:=.seq its.toArray n}:=by
 obtain⟨z,its,n,r,e⟩:=I.hok l _ hH
 exact⟨z,its,n,r,r.length,e⟩
end
def azx:V -> List V -> Hp -> VK -> Prop:=fun x vs H Q=> ∃l xs y,x=.ref l/\vs=[y]/\H l=some (.lst xs)/\xs.length < sizeLine/\Q .non (upd H l (.lst (xs++ [y])))
theorem aj6:MtM X "list.append" azx:=by
 (first|refine⟨?_⟩|skip);intro pins s σ H x vs v us Q I rx rv h
 obtain⟨l,xs,y,rfl,rfl,hH,hz,q⟩:=h
 cases rx
 obtain⟨u,rfl,ru⟩:=rv.one
 obtain⟨z,its,n,r,hl,e⟩:=I.lstM hH
 refine h8 F.slot_list_append ⟨_,e,rfl⟩ F.entry_list_append (F.args_list_append_2 _ _) (PySem.list_append l its.toArray n u (by rw [az];lia)) ⟨e,?_⟩
 refine⟨.non,_,I.lset (its':=its++ [u]) hH e (by simp) (r.append (.cons ru .nil)) ?_,rfl,q⟩
 rw [bq,gX]
 lia
def a34:V -> List V -> Hp -> VK -> Prop:=fun x vs H Q=> ∃l xs i k y,x=.ref l/\vs=[.int i]/\H l=some (.lst xs)/\ -(2^63) <=i/\i < 2^63/\iQ i xs.length=some k/\xs[k]?=some y/\Q y (upd H l (.lst (xs.eraseIdx k)))
theorem awk:MtM X "list.pop" a34:=by
 (first|refine⟨?_⟩|skip);intro pins s σ H x vs v us Q I rx rv h
 obtain⟨l,xs,i,k,y,rfl,rfl,hH,h1,h2,hk,hy,q⟩:=h
 cases rx
 obtain⟨u,rfl,ru⟩:=rv.one
 obtain⟨t,rfl⟩:=ru
 obtain⟨z,its,n,r,hl,e⟩:=I.lstM hH
 obtain⟨w,hw,rw'⟩:=r.get hy
 refine h8 F.slot_list_pop ⟨_,e,rfl⟩ F.entry_list_pop (F.args_list_pop_2 _ _)
  (MeetsSeq.list_pop_at l its.toArray n i t k w (fitsIndex_both h1 h2) (by rw [az,←hl];exact hk) (by rw [←cw];exact hw) (by rw [az];lia)) ⟨e,?_⟩
 refine⟨y,_,I.lset (its':=its.eraseIdx k) hH e ?_ (r.eraseIdx k) ?_,rw',q⟩
 ·show its.toArray.eraseIdxIfInBounds k=(its.eraseIdx k).toArray
  rw [List.eraseIdxIfInBounds_toArray]
 ·have:=ajf xs k
  lia
def a8f:R2:=fun x y H Q=> ∃l b xs zs,x=.ref l/\y=.ref b/\H l=some (.lst xs)/\H b=some (.lst zs)/\xs.length+zs.length <=sizeLine/\ ∀p,H p=none -> Q (.ref p) (upd H p (.lst (xs++zs)))
theorem a2h:OpR X (binaryOp .Add) a8f:=by
 (first|refine⟨?_⟩|skip);intro pins s σ H x y v u Q I rx ry h
 obtain⟨l,b,xs,zs,rfl,rfl,hH,hB,hz,q⟩:=h
 cases rx
 cases ry
 obtain⟨z,its,n,r,hl,e⟩:=I.lstM hH
 obtain⟨z2,its2,n2,r2,hl2,e2⟩:=I.lstM hB
 refine PySem.P.add_list e e2 ?_ (by rw [az,az];lia)
 have ea:its.toArray++its2.toArray=(its++its2).toArray:=by simp
 rw [ea]
 exact⟨.ref _,_,I.lnew (t':=s.toks) (r.append r2) (by rw [bq];lia),rfl,q _ I.fresh⟩
section
variable{κ:Type}[DecidableEq κ]
end
theorem a6a{u:HO}(ok:HOk P w H h)(e:Rd H a u):j7 P w H h a u:=e.ok ok
theorem a63{kvs:List (Key×V)}(ok:HOk P w H h)(e:Rd H a (.dK kvs)):kvs.length <=sizeLine/\(a==fJ)=false/\ ∃vs,KV kvs vs/\h.DictOf (ad2 P w) a vs:=
 show j7 P w H h a (.dK kvs) from a6a ok e
theorem ay4{kvs:List (Key×V)}(ok:HOk P w H h)(e:H a=some (.dK kvs)):kvs.length <=sizeLine/\(a==fJ)=false/\ ∃vs,KV kvs vs/\h.DictOf (ad2 P w) a vs:=a63 ok (.inl e)
end L2
namespace Att
open PySem PySem.W PySem.Calls PyProof.Rows
theorem ah6{P:Params}: ∀(ns:List Int) (vs:List af),WellAll P h vs (ns.map WData.int) -> iy vs ns:=by
 intro ns
 induction ns with
 |nil=>
  intro vs w
  rw [dO]at w
  cases w
  exact .nil
 | cons n ns ih=>
  intro vs w
  rw [aL]at w
  cases w with
  |cons a b=>
   cases a
   exact .cons _ _ (ih _ b)
theorem as6{l:OpenLaw}(hn:l.most=some n){P:Params}{args:List WData}{vals:List af}(hpre:l.row.toRowW.claim.pre args=true)(hwl:WellAll P h vals args):
  ∃a vs ns,vals=[aH a]/\args=[WData.list (ns.map WData.int)]/\h.get? a=some {cls:=.type "list",data:=.seq vs.toArray}/\iy vs ns/\ns.length <=n:=by
 have hsh:WShape.hasAll [] args [.list .int]=true:=(pre_splitW hpre).1
 have hc:l.pre.holds [] {args:=args}=true:=(pre_splitW hpre).2
 obtain⟨d,r,rfl,h1,h2⟩:=hasAllW_cons hsh
 obtain rfl:=hasAllW_nil h2
 obtain⟨xs,rfl,h3⟩:=hasW_list h1
 obtain⟨ns,rfl⟩:=items_int h3
 have hlen:ns.length <=n:=by
  unfold OpenLaw.pre at hc
  have h4:(WTm.not (.lt (.lit (.int (n:Int))) (.len (.arg 0)))).holds [] {args:=[.list (ns.map .int)]}=true:=by
   have h4:=(holds_andW hc).1
   rw [hn]at h4
   exact h4
  have h5:=condW_of h4 (w_not (w_lt w_lit (w_len_list (w_arg rfl))))
  rw [am]at h5
  refine cN fun q=> ?_
  have q':(n:Int) < ((ns.length:Nat):Int):=by lia
  first
   |(rw [decide_eq_true q']at h5;exact absurd h5 (by decide))
   |(simp at h5;lia)
 cases hwl with
 |cons w1 w2=>
  cases w2
  cases w1 with
  |list ho hall=> exact⟨_,_,ns,rfl,rfl,ho,ah6 ns _ hall,hlen⟩
theorem atr(l:OpenLaw)(args:List WData):l.row.toRowW.claim.post args (.bool true) args=true:=
 postW_of (r:=l.row.toRowW) (X:=(true==true))
  (show WShape.has [] (.bool true) .bool=true by first|rfl|decide|simp [WShape.has,WShape.arms,WShape.armsAll])
  (show (WTm.eq .res (.lit (.bool true))).value [] {args:=args,res:=some (.bool true),after:=args}=some (.bool (true==true)) from w_eq_bool (w_res rfl) w_lit) rfl
theorem attach_call{l:OpenLaw}{q:aV}{loose:List Str}{XP:(Str -> Option af) -> Heap -> Prop}{YP:aZ -> Heap -> Prop}{d:DefRec}(hn:l.most=some n)(hdf:d.params.defaults=[])(call: ∀(w:aZ) (s₀ s₁:aj) (mg mb:Str -> Option af) (fa:Addr) (o:Obj) (pm cd doc:af) (a:Addr) (vs:List af) (ns:List Int),
   Ground q loose [] XP w s₀ mg mb s₁.heap -> YP w s₁.heap ->
   s₁.heap.get? fa=some o -> o.data=.func (docDef d.name d.params d.body d.scope pm cd doc) -> s₁.heap.CodeRec cd d.name -> mg d.name=some (.ref fa) ->
   s₁.heap.get? a=some {cls:=.type "list",data:=.seq vs.toArray} -> iy vs ns -> ns.length <=n -> s₁.gens= #[] ->
   codeAny (model l.prog w) callerA (.call (.ref fa) ⟨[.ref a],[]⟩) (fun r s'=> r=.ok (.ret (.bool true))/\OldK s₁.heap s'.heap/\s'.os=s₁.os/\gn s'.gens) s₁):
  WalkO q loose XP YP l.row.toRowW d [] (fun f vs=> PySem.call f vs):=by
 intro w s₀ s₁ mg mb G Y fa o pm cd doc dV kV ho hd hcd hD hmg hg args vals as hpre hlay hrd hwl hlo
 obtain rfl:dV=.none:=Dflts.none hD hdf
 obtain rfl:kV=.none:=Dflts.noKw hD
 obtain⟨a,vs,ns,rfl,rfl,hobj,hints,hlen⟩:=as6 hn hpre hwl
 refine enter_call (dR (call w s₀ s₁ mg mb fa o pm cd doc a vs ns G Y ho (fd_plain hd) hcd hmg hobj hints hlen hg) fun r s' hq=> ?_)
 obtain⟨rfl,h2,h3,h4⟩:=hq
 exact⟨.inl ⟨.bool true,.bool true,[],rfl,fun _=> rfl,.bool true,atr l _,fun _=> ⟨jE,fun _ hm=> (nomatch hm)⟩⟩,h2,h3,h4⟩
end Att
namespace L2
open PySem PySem.Spec PyProof.Rows
theorem ajz: ∀{vs:List af} {ns:List Int},iy vs ns -> jo (ns.map V.int) vs
 |_,_,.nil=>.nil
 |_,_,.cons n t h=>.cons ⟨t,rfl⟩ (ajz h)
def ava(H:Hp):Prop:= ∀b,H b=none\/ ∃o xs,H b=some (.frz o (.lst xs))
theorem ax7{mb:Str -> Option af}{CX:CXT}{fa:Addr}{x:Str}{sp:Sp}{s₁:aj}{vs:List af}{ns:List Int}(KX:K.In s₁.heap)(hns:s₁.heap.Ns aU mg)(hb:s₁.heap.Ns builtinsNs mb)(hbb: ∀x:Str,x≠"__name__" -> mb x=bt x)(hlim:s₁.heap.NoLimit)(hg:s₁.gens= #[])(ha:s₁.heap.get? a=some {cls:=.type "list",data:=.seq vs.toArray})(hi:iy vs ns)(hl:ns.length <=sizeLine)(hr:Room k callerA)(F: ∀base:Heap,K.In base -> base.Ns aU mg -> FnOk P w K mg base CX k fa fd [x] sp)(hbind: ∀(s:aj) (u:af),lB s fd ⟨[u],[]⟩ [(x,u)])(hsp: ∀H:Hp,ava H -> SqL K H a (ns.map V.int) -> sp [.ref a] H (fun v _=> v=.bl true) fun _ _ _=> False)(hCX: ∀H e s',CX [] H s₁ (fun _ _ _=> False) e s' -> False):
  codeAny (model P w) callerA (.call (.ref fa) ⟨[.ref a],[]⟩) (fun r s'=> r=.ok (.ret (.bool true))/\OldK s₁.heap s'.heap/\s'.os=s₁.os/\gn s'.gens) s₁:=by
 have rv:=ajz hi
 have lenV:=hi.length
 -- from an abstract heap in which nothing but the script may be tracked
 have core: ∀H:Hp,ava H -> SqL K H a (ns.map V.int) -> HOk P w H s₁.heap -> (∀b,H b≠none -> b=a) -> (H a≠none -> K.lookup a=none) ->
   codeAny (model P w) callerA (.call (.ref fa) ⟨[.ref a],[]⟩) (fun r s'=> r=.ok (.ret (.bool true))/\OldK s₁.heap s'.heap/\s'.os=s₁.os/\gn s'.gens) s₁:=by
  intro H hO hS hok hA hK
  have base_of: ∀{b:Addr} {o:Obj},s₁.heap.get? b=some o -> H b=none -> (ae4 s₁.heap H).get? b=some o:=fun e n=> axi e n
  have noA: ∀{b:Addr} {o:Obj} {es:Array kL} {ep:Nat},s₁.heap.get? b=some o -> o.data=.dict es ep -> H b=none:=fun {b o es ep} e d=> by
   cases q:H b with
   |none=> rfl
   |some u=>
    have e':b=a:=hA b (by rw [q];simp)
    subst e'
    rw [ha]at e;cases e
    have d':Data.seq vs.toArray _=Data.dict es ep:=d
    cases d'
  have nsK: ∀{b:Addr} {m:Str -> Option af},s₁.heap.Ns b m -> (ae4 s₁.heap H).Ns b m:=fun {b m} ⟨o,es,ep,e,d,r⟩=> ⟨o,es,ep,base_of e (noA e d),d,r⟩
  have hKb:K.In (ae4 s₁.heap H):=fun b o e=> base_of (KX b o e) (by
   cases q:H b with
   |none=> rfl
   |some u=>
    have e':b=a:=hA b (by rw [q];simp)
    subst e'
    rw [hK (by rw [q];simp)]at e;cases e)
  have hM:Mod K mg (ae4 s₁.heap H):=⟨hKb,nsK hns,⟨mb,nsK hb,hbb⟩,let ⟨mc,h1,h2⟩:=hlim;⟨mc,nsK h1,h2⟩⟩
  have e0:Env0 P w K mg (ae4 s₁.heap H) callerA [] s₁ H:=⟨rfl,hM,fun b o e=> azy e,fA (arp _ _),trivial,fun b hb=> absurd (show b∈([]:List Addr) from hb) (by simp),hok,.of_eq hg⟩
  refine dR ((F _ hKb (nsK hns)).run callerA [] s₁ H ⟨[.ref a],[]⟩ [.ref a] [.ref a] _ _ hr e0 (hbind s₁ (.ref a)) (.cons rfl .nil) (hsp H hO hS)) fun r s' h=> ?_
  cases r with
  |error e=> exact (hCX H e s' h).elim
  | ok fl=>
   cases fl with
   |next=> exact dA h
   |brk=> exact dA h
   |cont=> exact dA h
   | ret u=>
    obtain⟨v,H',os,bare,un,hok',r',q⟩:=h
    have q':v=.bl true:=q
    subst q'
    obtain rfl:u=eV true:=r'
    refine⟨rfl,OldK.of_keep fun b o e=> ?_,os,bare⟩
    cases q:H b with
    |none=> exact un.keep b o e q (by intro z;exact absurd (show b∈([]:List Addr) from z) (by simp)) (by simp)
    | some u=>
     rcases hO b with z|⟨ob,xs,z⟩
     ·rw [q]at z;cases z
     ·have z2:=un.frzs b ob _ z
      obtain⟨e1,_⟩:=hok b _ z
      obtain⟨e2,_⟩:=hok' b _ z2
      rw [e]at e1;cases e1
      exact e2
 cases hk:K.lookup a with
 |some o=>
  -- the script is one of the module's own objects
  have e:=KX a o hk
  rw [ha]at e
  cases e
  refine core (fun _=> none) (fun _=>.inl rfl) (.inr ⟨_,vs.toArray,_,hk,rfl,rfl,rfl,by rw [az,lenV];exact hl,by simpa using rv⟩) (fun b u z=> by have z':(none:Option HO)=some u:=z;cases z') (fun b z=> absurd rfl z) fun z=> absurd rfl z
 | none=>
  refine core (fun b=> if b=a then some (.frz {cls:=.type "list",data:=.seq vs.toArray} (.lst (ns.map V.int))) else none) (fun b=> ?_) (.inl (.inr ⟨{cls:=.type "list",data:=.seq vs.toArray},if_pos rfl⟩)) (fun b u z=> ?_) (fun b z=> ?_) fun _=> hk
  ·by_cases hb:b=a
   ·exact .inr ⟨_,_,if_pos hb⟩
   ·exact .inl (if_neg hb)
  ·by_cases hb:b=a
   ·have z':=(if_pos hb).symm.trans z
    cases z'
    subst hb
    exact⟨ha,by rw [am];exact hl,vs,_,rv,ha⟩
   ·have z':=(if_neg hb).symm.trans z
    cases z'
  ·by_cases hb:b=a
   ·exact hb
   ·exact absurd (if_neg hb) z
theorem a1w{l:kO}{q:aV}{loose:List Str}{XP:(Str -> Option af) -> Heap -> Prop}{YP:aZ -> Heap -> Prop}{d:DefRec}{K:Params -> ak}{CX:aZ -> CXT}{sp:aZ -> Sp}{x:Str}(hn:l.most=some n)(hn2:n <=sizeLine)(hdf:d.params.defaults=[])(hr:Room k callerA)(hY: ∀(w:aZ) (h:Heap),YP w h -> (K w.params).In h)(F: ∀(w:aZ) (mg:Str -> Option af) (fa:Addr) (h:Heap),(K w.params).In h -> h.Ns aU mg -> mg d.name=some (.ref fa) ->
   ∃fd:eF,(∀(s:aj) (u:af),lB s fd ⟨[u],[]⟩ [(x,u)])/\
    ∀base:Heap,(K w.params).In base -> base.Ns aU mg -> FnOk l.prog w (K w.params) mg base (CX w) k fa fd [x] (sp w)) (hsp: ∀(w:aZ) (H:Hp) (a:Addr) (ns:List Int),ns.length <=n -> ava H -> SqL (K w.params) H a (ns.map V.int) -> sp w [.ref a] H (fun v _=> v=.bl true) fun _ _ _=> False) (hCX: ∀(w:aZ) (H:Hp) (s:aj) (e:af) (s':aj),CX w [] H s (fun _ _ _=> False) e s' -> False):
  PySem.W.WalkO q loose XP YP l.row.toRowW d [] (fun f vs=> PySem.call f vs):=by
 refine Att.attach_call hn hdf fun w s₀ s₁ mg mb fa o pm cd doc a vs ns G Y ho hd hcd hmg hobj hints hlen hg=> ?_
 have KX:=hY w _ Y
 obtain⟨fd,hb,hF⟩:=F w mg fa _ KX G.T.g hmg
 exact ax7 KX G.T.g G.T.b G.T.builtins G.T.nolimit hg hobj hints (ax hlen hn2) hr hF hb (fun H hO hS=> hsp w H a ns hlen hO hS) fun H e s'=> hCX w H s₁ e s'
noncomputable def xw(s:Stmt):Arguments:=match s with
 |.FunctionDef _ a _ _ _ _ _ _ _ _=> a
 |_=> {posonlyargs:=[],args:=[],vararg:=none,kwonlyargs:=[],kw_defaults:=[],kwarg:=none,defaults:=[]}
noncomputable def vj(s:Stmt):List Stmt:=match s with
 |.FunctionDef _ _ b _ _ _ _ _ _ _=> b
 |_=> []
noncomputable def jg(s:Stmt):gm:=match s with
 |.FunctionDef _ _ _ _ _ _ sc _ _ _=> sc
 |_=> {kind:=.function,names:=[],isGenerator:=false,isCoroutine:=false}
abbrev CX0:CXT:=fun _ _ _ _ _ _=> False
structure Fun (K:ak) (x qual:Str) (st:Stmt) (f:Addr) (fd:eF):Prop where
 ex: ∃(oc:af) (od:Option Addr) (kV doc pm:af) (an:Option Addr) (cdv ct:af) (osl:Array (Option af)),
  fd=cY x qual (xw st) (vj st) (jg st) .none kV doc pm an cdv ct/\K.lookup f=some ⟨oc,od,.func fd,osl⟩/\fz K cdv qual=true
 kp:df K (.ref f)=true
theorem Fun.binds{x:Str}(F:Fun K x qual st f fd)(h: ∀(kV doc pm:af) (an:Option Addr) (cdv ct:af) (us:List af),us.length=ps.length -> bindArgs (cY x qual (xw st) (vj st) (jg st) .none kV doc pm an cdv ct) ⟨us,[]⟩=pure (ps.zip us)):Binds K fd ps []:=by
 obtain⟨oc,od,kV,doc,pm,an,cdv,ct,osl,rfl,lk,hcd⟩:=F.ex
 exact .all (h kV doc pm an cdv ct)
theorem aem{x:Str}{oc:af}{od an:Option Addr}{kV doc pm cdv ct:af}(l:K.lookup f=some ⟨oc,od,.func (cY x qual (xw st) (vj st) (jg st) .none kV doc pm an cdv ct),osl⟩)(c:fz K cdv qual=true)(k:df K (.ref f)=true):Fun K x qual st f (cY x qual (xw st) (vj st) (jg st) .none kV doc pm an cdv ct):=⟨⟨oc,od,kV,doc,pm,an,cdv,ct,osl,rfl,l,c⟩,k⟩
theorem ajl(h:n <=1000):n < sizeLine:=gg h (by decide)
theorem pv(i:Nat){x:Str}(hN:X.N[i]?=some x:=by rfl)(hv:Vis X.env.scope x:=by first|exact c7 rfl|exact fB (c7 rfl)|exact fB (fB rfl))(hd:(x==("__debug__":Str))=false:=by decide)(hcd:(x==("__classdict__":Str))=false:=by decide):PE X (.Name x pos) (avc i):=at4 hN hv hd hcd
def j8(H H':Hp):Prop:= ∀b o,H b=some o -> H' b=some o
theorem j8.seq(e:j8 H H')(h:SqL K H a xs):SqL K H' a xs:=by
 rcases h with (h|⟨o,h⟩)|h
 ·exact .inl (.inl (e _ _ h))
 ·exact .inl (.inr ⟨o,e _ _ h⟩)
 ·exact .inr h
noncomputable def xo(env:Env):List (Str×fg) -> List (Str×Addr) -> List (Str×Addr)
 |[],cs=> cs
 |(n,k)::r,cs=> xo env r (if k==.free then (match env.cells.lookup n with|some c=> (n,c)::cs|none=> cs) else cs)
theorem am3{env:Env}: ∀{l:List (Str×fg)} {cs:List (Str×Addr)},(∀n c,(n,c)∈cs -> env.cells.lookup n=some c) -> ∀n c,(n,c)∈xo env l cs -> env.cells.lookup n=some c
 |[],cs,h,n,c,m=> h n c m
 | (n',k)::r,cs,h,n,c,m=> by
  unfold xo at m
  refine am3 (l:=r) (fun a b q=> ?_) n c m
  split at q
  ·split at q
   ·rename_i c' hc
    rcases aq.mp q with z|z
    ·cases z;exact hc
    ·exact h a b z
   ·exact h a b q
  ·exact h a b q
theorem ajt{env:Env}: ∀{l:List (Str×fg)} {cs:List (Str×Addr)} {p},p∈cs -> p∈xo env l cs
 |[],_,_,h=> h
 | (n,k)::r,cs,p,h=> by
  unfold xo
  refine ajt (l:=r) ?_
  split
  ·split
   ·exact aB _ h
   ·exact h
  ·exact h
theorem an0{env:Env}: ∀{l:List (Str×fg)} {cs:List (Str×Addr)} {n:Str} {c:Addr},(n,b8)∈l -> env.cells.lookup n=some c -> (n,c)∈xo env l cs
 |[],_,_,_,h,_=> by cases h
 | (n',k)::r,cs,n,c,h,e=> by
  unfold xo
  rcases aq.mp h with z|z
  ·cases z
   refine ajt ?_
   simp [e]
  ·exact an0 z e
theorem aef(h: ∀n,(n,b8)∈scope.names -> ∃c,env.cells.lookup n=some c):closureFor scope env=pure (xo env scope.names []):=by
 have all: ∀(l:List (Str×fg)) (cs:List (Str×Addr)),(∀n,(n,b8)∈l -> ∃c,env.cells.lookup n=some c) ->
   (forIn l cs (fun (x:Str×fg) (r:List (Str×Addr))=> (match x with|(name,kind)=> if (kind==b8)=true then (do let a←cellOf env name;pure (eW ((name,a)::r))) else pure (eW r):Sem (ForInStep (List (Str×Addr))))))=(pure (xo env l cs):Sem (List (Str×Addr))):=by
  intro l
  induction l with
  |nil=> intro cs _;rfl
  | cons p r ih=>
   intro cs hl
   obtain⟨n,k⟩:=p
   have hr: ∀n,(n,b8)∈r -> ∃c,env.cells.lookup n=some c:=fun n m=> hl n (aB _ m)
   rw [kQ]
   unfold xo
   by_cases hk:k=.free
   ·subst hk
    obtain⟨c,hc⟩:=hl n aD
    have e:cellOf env n=pure c:=by unfold cellOf;rw [hc]
    simp only [beq_self_eq_true,if_true,e,hc]
    exact ih _ hr
   ·have hb:(k==b8)=false:=by simpa using hk
    simp only [hb,cL,if_false];exact ih _ hr
 unfold closureFor
 exact (congrArg (fun (z:Sem (List (Str×Addr)))=> z >>=fun r=> pure r) (all scope.names [] h)).trans rfl
def qu(X:Cx)(own caps:List Str)(scope:gm)(C:Addr)(fp:List Addr)(s:aj)(H:Hp):Cx where
 prog:=X.prog
 w:=X.w
 K:=X.K
 mg:=X.mg
 base:=X.base
 A:=X.A
 N:=own++caps
 s₀:=s
 H₀:=H
 env:=compEnvC scope (xo X.env scope.names []) C X.env
 outer:=X.stack
 stack:=X.stack
 ex:=fp
 fn:=fun _=> false
 calm:=X.calm
 pn:=[]
 xe:=fun _ _=> False
def apj(X:Cx)(scope:gm)(y:Str)(j:Nat):Prop:=X.N[j]?=some y/\Vis X.env.scope y/\(X.env.kindOf y==some .local)=false/\((relabel scope X.env).names.lookup y==some .cell||(relabel scope X.env).names.lookup y==some .free)=true
def yz(X:Cx)(scope:gm):List Str -> List Nat -> Prop
 |[],[]=> True
 |y::ys,j::js=> apj X scope y j/\yz X scope ys js
 |_,_=> False
noncomputable def zi(σ:St)(js:List Nat):St:=js.map fun j=> (σ[j]?).join
theorem yz.at{X:Cx}{scope:gm}{σ:St}: ∀{ys:List Str} {js:List Nat} {i:Nat} {y:Str} {v:V},yz X scope ys js -> ys[i]?=some y -> (zi σ js)[i]?=some (some v) -> ∃j,apj X scope y j/\σ[j]?=some (some v)
 |[],[],i,y,v,_,h,_=> by simp at h
 | a::ys,j::js,0,y,v,c,h,e=> by
  simp at h;subst h
  refine⟨j,c.1,?_⟩
  simp [zi]at e
  cases q:σ[j]? with
  |none=>
   rw [q]at e
   cases e
  |some o=>
   rw [q]at e
   simp at e
   rw [e]
 |a::ys,j::js,i+1,y,v,c,h,e=> yz.at (i:=i) c.2 (by simpa using h) (by simpa [zi] using e)
 |[],_::_,_,_,_,c,_,_=> c.elim
 |_::_,[],_,_,_,c,_,_=> c.elim
theorem yz.len{X:Cx}{scope:gm}{σ:St}: ∀{ys:List Str} {js:List Nat},yz X scope ys js -> (zi σ js).length=ys.length
 |[],[],_=> rfl
 |a::ys,j::js,c=> by simp only [zi,aL,aK];exact congrArg (· +1) (yz.len (σ:=σ) c.2)
 |[],_::_,c=> c.elim
 |_::_,[],c=> c.elim
theorem abv{env:Env}: ∀{names:List (Str×fg)} {x:Str},(∀p∈names,p.2≠ .cell) ->
  ((names.map fun (n,k)=> if (k==b8&&env.scope.kind==.function&&env.kindOf n==some .cell) then (n,fQ) else (n,k)).lookup x=some .cell\/
    (names.map fun (n,k)=> if (k==b8&&env.scope.kind==.function&&env.kindOf n==some .cell) then (n,fQ) else (n,k)).lookup x=some .free) -> (x,b8)∈names
 |[],_,_,h=> by simp at h
 | (n,k)::r,x,hc,h=> by
  have hr: ∀p∈r,p.2≠ .cell:=fun p hp=> hc p (aB _ hp)
  have hk:k≠ .cell:=hc (n,k) aD
  have step: ∀(b:Bool),(eA x ((if b=true then (n,fQ) else (n,k))::r.map fun (n,k)=> if (k==b8&&env.scope.kind==.function&&env.kindOf n==some .cell) then (n,fQ) else (n,k))=some .cell\/
     eA x ((if b=true then (n,fQ) else (n,k))::r.map fun (n,k)=> if (k==b8&&env.scope.kind==.function&&env.kindOf n==some .cell) then (n,fQ) else (n,k))=some .free) -> (b=true -> k=.free) -> (x,b8)∈(n,k)::r:=by
   intro b q hb
   cases hx:x==n with
   | true=>
    have e:x=n:=by simpa using hx
    subst e
    cases b with
    |true=> rw [hb rfl];exact aD
    |false=>
     simp [cv]at q
     rcases q with q|q
     ·exact absurd q hk
     ·rw [q];exact aD
   |false=>
    refine aB _ (abv (env:=env) hr ?_)
    cases b <;> simpa [cv,hx] using q
  exact step _ h fun q=> by simp at q;exact q.1.1
def ais(X:Cx)(ifs:List Expr)(t:TT):Prop:=
 ∀(pins:List (Addr×Obj)) (s:aj) (σ:St) (H:Hp) (Q:Bool -> Hp -> Prop),Inv X pins σ H s -> t σ H Q ->
  wpAny (model X.prog X.w) X.A (forIn ifs true fun c r=> if r=true then do let ok←isTrue c X.env (eval c X.env);pure (eW ok) else pure (eW r)) (TP X pins σ Q) X.xe s
noncomputable def a8e:TT:=fun _ H Q=> Q true H
theorem awo:ais X [] a8e:=fun _ _ _ H _ I h=> wpAny_tests_nil ⟨H,I,h⟩
theorem aup{t:TT}(h:PT X c t):ais X [c] t:=fun pins s σ H Q I q=> wpAny_tests_one (h pins s σ H Q I q)
abbrev Wn(P:aV)(w:aZ)(A:br){α:Type}(m:Sem α)(Q:α -> aj -> Prop)(s:aj):Prop:=wpAny (model P w) A m Q (fun _ _=> False) s
abbrev a36(env:Env)(l:List Expr):Sem Bool:=forIn l true fun c r=> if r=true then do let b←isTrue c env (eval c env);pure (eW b) else pure (eW r)
def a4o (P:aV) (w:aZ) (A:br) (it acc:af) (tg elt:Expr) (l:List Expr) (env:Env) (fin:aj -> Prop) (again:aj -> Prop) (s:aj):Prop:=
 Wn P w A (pyNext it) (fun r a=> match r with
  |none=> fin a
  | some v=> Wn P w A (hU tg it v) (fun _ b=> Wn P w A (assign tg env v) (fun _ c=> Wn P w A (a36 env l) (fun ok d=>
    if ok=true then Wn P w A (eval elt env) (fun x e=> Wn P w A (call (.builtin "list.append") [acc,x]) (fun _ g=> again g) e) d else again d) c) b) a) s
theorem a1c{R:hV -> aj -> Prop}{elt:Expr}{l:List Expr}{sc:gm}{it acc:af}(J:Nat -> aj -> Prop)(turn: ∀n s,J n s -> a4o P w A it acc tg elt l env (R (.ok .next)) (fun z=> ∃m,m < n/\J m z) s)(n:Nat)(h:J n s):codeAny (model P w) A (.compLoop (.ListComp elt [⟨tg,iter,l,0⟩] sc pos) 0 it acc env) R s:=by
 refine codeAny_loop rfl J (fun k z hz=> ?_) n h
 have one:=turn k z hz
 show wpAny _ A (Sem.onRaise (compTurn (.ListComp elt [⟨tg,iter,l,0⟩] sc pos) 0 it acc env) fun x=> do kR x env;theTreesLotGoes x) _ _ z
 refine wpAny_noted ?_
 rw [compTurn_list]
 refine ae (eS (ae (cA one (fun r a ha=> ?_) fun _ _ f=> f.elim)))
 cases r with
 |none=> exact ah ha
 | some v=>
  refine ae (cA ha (fun _ b hb=> ae (cA hb (fun _ c hc=> ae (cA hc (fun ok d hd=> ?_) fun _ _ f=> f.elim)) fun _ _ f=> f.elim)) fun _ _ f=> f.elim)
  cases ok with
  |false=>
   have q: ∃m,m < k/\J m d:=hd
   exact ah ⟨rfl,q⟩
  |true=>
   have q:Wn P w A (eval elt env) (fun x e=> Wn P w A (call (.builtin "list.append") [acc,x]) (fun _ g=> ∃m,m < k/\J m g) e) d:=hd
   exact ae (ae (cA q (fun x e he=> ae (cA he (fun _ g hg=> ah (ah ⟨rfl,hg⟩)) fun _ _ f=> f.elim)) fun _ _ f=> f.elim))
def awu(g:TG)(tt:TT)(te:TE)(k:Nat)(cap:St)(J:It)(H1:Hp)(Q:VK):Prop:=
 ∀ D,H1 D=none -> ∃W:Nat -> Nat -> List V -> Hp -> Prop,(∃m,W 0 m [] (upd H1 D (.lst [])))/\ ∀i m ys H,H D=some (.lst ys) -> W i m ys H ->
  (J.stop i H/\Q (.ref D) H)\/(J.go i H/\ ∀x H',J.yld i H x H' -> ∀vs:St,vs.length=k -> g x (vs++cap) H' fun σ2 H2=> (∃vs':St,vs'.length=k/\σ2=vs'++cap)/\tt σ2 H2 fun b H3=>
   if b=true then te σ2 H3 fun v H4=> H4 D=some (.lst ys)/\ys.length < sizeLine/\ ∃m',m' < m/\W (i+1) m' (ys++ [v]) (upd H4 D (.lst (ys++ [v]))) else H3 D=some (.lst ys)/\ ∃m',m' < m/\W (i+1) m' ys H3)
def tLc(js:List Nat)(k:Nat)(wi:TI)(g:TG)(tt:TT)(te:TE):TE:=fun σ H Q=> wi σ H fun J H1=> awu g tt te k (zi σ js) J H1 Q
section
variable{X:Cx}{own caps:List Str}{js:List Nat}{scope:gm}{tg iter elt:Expr}{ifs:List Expr}{wi:TI}{g:TG}{tt:TT}{te:TE}{pos:Pos}
theorem asi{H2:Hp}{s2:aj}{it:Addr}{tn:Nat -> Heap -> Prop}{J:It}{Q:VK}{post:af -> Addr -> hV -> aj -> Prop}(hcalm:X.calm=true)(hkind:scope.kind=.function)(hcell:(scope.names.any fun p=> p.2==.cell)=false)(hk:(scope.names.all fun p=> !(p.2==.free)||(X.env.kindOf p.1==some .cell||X.env.kindOf p.1==some .free))=true)(hcap:yz X scope caps js)(hg: ∀C fp s H,PG (qu X own caps scope C fp s H) tg g)(hi: ∀C fp s H,ais (qu X own caps scope C fp s H) ifs tt)(he: ∀C fp s H,PE (qu X own caps scope C fp s H) elt te)(I2:Inv X pins σ H2 s2)(T:Turn X.prog X.w X.K tg J fp it tn)(st2:tn 0 s2.heap)(f2: ∀b∈fp,abq X pins H2 b)(hw:awu g tt te own.length (zi σ js) J H2 Q)(hpost: ∀D C s' m H',s'.heap.Ns C m -> s2.heap.objs.size <=C -> abq X pins H' C -> Inv X pins σ H' s' -> Q (.ref D) H' -> post (.ref D) C (.ok .next) s'):
  wpAny (model X.prog X.w) X.A (newList []) (fun acc s₃=> wpAny (model X.prog X.w) X.A (newFunctionEnv scope X.env.globals (xo X.env scope.names []) [] X.env.qual none .none (some X.env)) (fun cenv s₄=>
   codeAny (model X.prog X.w) X.A (.compStart (.ListComp elt [⟨tg,iter,ifs,0⟩] scope pos) 0 (.ref it) acc {cenv with scope:=relabel scope X.env}) (post acc cenv.locals) s₄) E s₃) E s2:=by
 have hcell': ∀y∈scope.names,y.2≠ .cell:=fun y hy e=> by
  have:=(jC.mp hcell) y hy
  simp [e]at this
 have hfr: ∀n,(n,b8)∈scope.names -> X.env.kindOf n=some .cell\/X.env.kindOf n=some .free:=fun n hn=> by
  have:=(aT.mp hk) _ hn
  simpa using this
 refine bA (wpAny_newFunctionEnv hcell' (by intro y hy;simp at hy) (fun h₁ hns₁ hsb₁=> ?_) hkind)
 dsimp only at hns₁ hsb₁⊢
 generalize hHp:s2.heap.push {cls:=.type "list",dict:=none,data:=.seq ([]:List af).toArray}=G2 at hns₁ hsb₁⊢
 have hC:G2.objs.size=s2.heap.objs.size+1:=by rw [←hHp,bd]
 obtain⟨D,hDe⟩: ∃D:Nat,s2.heap.objs.size=D:=⟨_,rfl⟩
 obtain⟨C,hCe⟩: ∃C:Nat,G2.objs.size=C:=⟨_,rfl⟩
 rw [hCe]at hns₁ hsb₁
 rw [hDe,hCe]at hC
 show codeAny _ _ (.compStart _ 0 (.ref it) (.ref s2.heap.objs.size) (compEnvC scope (xo X.env scope.names []) G2.objs.size X.env)) (post (.ref s2.heap.objs.size) G2.objs.size) _
 rw [hDe,hCe]
 have hDC:D≠C:=by lia
 have hDCl:D < C:=by lia
 have old: ∀b o,s2.heap.get? b=some o -> h₁.get? b=some o:=fun b o e=> by
  have hlt:b < D:=hDe▸ar e
  exact hsb₁.extBut b o (aP (mI hlt hDCl)) (ai _ (hHp▸ai _ e))
 have hD2:H2 D=none:=I2.hok.fresh (fA hDe)
 have hC2:H2 C=none:=I2.hok.fresh (by rw [hDe];lia)
 have accD:h₁.get? D=some {cls:=.type "list",data:=.seq ([]:List af).toArray}:=hsb₁.extBut _ _ hDC (ai _ (hHp▸hDe▸ay _ rfl))
 obtain⟨W,⟨m0,w0⟩,turn⟩:=hw D hD2
 -- the block's own state
 have fpn: ∀b∈fp,H2 b=none:=fun b hb=> (f2 b hb).1
 have fplt: ∀b∈fp,b < D:=fun b hb=> by obtain⟨o,e,_⟩:=T.obj _ _ st2 b hb;exact hDe▸ar e
 have clsub: ∀n c,(n,c)∈xo X.env scope.names [] -> X.env.cells.lookup n=some c:=am3 (by intro _ _ z;cases z)
 have cllook: ∀n c,(xo X.env scope.names []).lookup n=some c -> X.env.cells.lookup n=some c:=fun n c e=> clsub n c (dI e)
 have clhas: ∀n,(n,b8)∈scope.names -> ∃c,(xo X.env scope.names []).lookup n=some c/\X.env.cells.lookup n=some c:=fun n hn=> by
  obtain⟨c,e⟩:=I2.ok.has n (hfr n hn)
  have m:=an0 (cs:=[]) hn e
  cases q:(xo X.env scope.names []).lookup n with
  |none=>
   have:=List.lookup_eq_none_iff.mp q _ m
   simp at this
  |some c'=> exact⟨c',rfl,cllook n c' q⟩
 have clt: ∀x c,(xo X.env scope.names []).lookup x=some c -> c < D:=fun x c e=> by
  obtain⟨v,z⟩:=I2.cell x c (cllook x c e)
  exact hDe▸z.lt
 have ok':(qu X own caps scope C fp s2 H2).Ok:=by
  refine⟨I2.ok.mod,hkind,I2.ok.glob,I2.ok.blt,?_,fun x y c e1 e2=> I2.ok.inj x y c (cllook x c e1) (cllook y c e2),fun x hx=> ?_,fun x c z=> (by cases z),I2.ok.hd,I2.ok.frames,.inl rfl,fun b hb=> ⟨?_,fun x c e=> ?_⟩,I2.bs,ax I2.ok.bsz I2.sz,fun b o e hb=> ?_,fun b hb hs=> ?_,I2.stack,I2.stkFree⟩
  ·show s2.heap.objs.size <=C
   rw [hDe];lia
  ·have hx':(relabel scope X.env).names.lookup x=some .cell\/(relabel scope X.env).names.lookup x=some .free:=hx
   obtain⟨c,e,_⟩:=clhas x (abv hcell' hx')
   exact⟨c,e⟩
  ·exact aP (mI (fplt b hb) hDCl)
  ·exact (f2 b hb).2.2.2.2.1 x c (cllook x c e)
  ·rcases (f2 b hb).2.2.2.1 with z|z
   ·exact I2.ok.noex b o e z
   ·exact absurd (aN (ar (I2.ok.bs b o e).1) z) (cO _)
  ·rcases aq.mp (I2.stkSub b hs) with z|z
   ·exact (f2 b hb).2.1 z
   ·exact (f2 b hb).2.2.1 z
 have I4:Inv (qu X own caps scope C fp s2 H2) [] (aA own.length none++zi σ js) (upd H2 D (.lst [])) {s2 with heap:=h₁,toks:=s2.toks+([]:List (Str×af)).length}:=by
  refine⟨ok',rfl,I2.bare,Un.laid old (fA hDe) hD2,⟨_,hns₁,fun i x v e1 e2 e3=> ?_⟩,fun x c e=> ?_,?_,fun x c e=> ?_,fun p hp=> absurd (show p∈([]:List (Addr×Obj)) from hp) (by simp),?_,?_⟩
  ·have e1:(own++caps)[i]?=some x:=e1
   by_cases hio:i < own.length
   ·rw [bu (by simpa using hio),eN]at e2
    split at e2 <;> cases e2
   ·have hle:own.length <=i:=cN hio
    rw [cy hle]at e1
    rw [cy (by simpa using hle)]at e2
    obtain⟨j,c,e⟩:=yz.at (σ:=σ) hcap e1 (by simpa using e2)
    obtain⟨c1,c2,c3,c4⟩:=c
    obtain⟨m,hn,hl⟩:=I2.loc
    obtain⟨u,r,lk⟩:=hl j x v c1 e c2
    refine⟨u,r,.inr ⟨?_,?_⟩⟩
    ·have c4':(relabel scope X.env).names.lookup x=some .cell\/(relabel scope X.env).names.lookup x=some .free:=by simpa using c4
     exact c4'
    ·have c4':(relabel scope X.env).names.lookup x=some .cell\/(relabel scope X.env).names.lookup x=some .free:=by simpa using c4
     obtain⟨c',q1,q2⟩:=clhas x (abv hcell' c4')
     rcases lk with ⟨k1,_⟩|⟨_,c'',k2,k3⟩
     ·rw [k1]at c3;simp at c3
     ·rw [q2]at k2;cases k2
      obtain⟨oc,hoc,hod⟩:=k3
      exact⟨c',q1,oc,old _ _ hoc,hod⟩
  ·obtain⟨v,oc,hoc,hod⟩:=I2.cell x c (cllook x c e)
   exact⟨v,oc,old _ _ hoc,hod⟩
  ·show upd H2 D (.lst []) C=none
   rw [kq (cP hDC)];exact hC2
  ·rw [kq (aP (clt x c e))];exact I2.freeC x c (cllook x c e)
  ·exact I2.hok.laid old (fA hDe) ⟨dw _,[],0,.nil,accD⟩
  ·show (aA own.length none++zi σ js).length=(own++caps).length
   rw [bq,bq,fy,hcap.len]
 have stat: ∀{H':Hp},(∀b∈fp,H' b=none) -> ∀b∈fp,abq (qu X own caps scope C fp s2 H2) [] H' b:=fun hn b hb=>
  ⟨hn b hb,(ok'.exf b hb).1,ok'.exfs b hb,.inl hb,(ok'.exf b hb).2,fun p hp=> absurd (show p∈([]:List (Addr×Obj)) from hp) (by simp)⟩
 have loop: ∀s₃:aj,s₃={s2 with heap:=h₁,toks:=s2.toks+([]:List (Str×af)).length} ->
   codeAny (model X.prog X.w) X.A (.compLoop (.ListComp elt [⟨tg,iter,ifs,0⟩] scope pos) 0 (.ref it) (.ref D) (compEnvC scope (xo X.env scope.names []) C X.env)) (post (.ref D) C) s₃:=by
  rintro s₃ rfl
  refine a1c (fun n s'=> ∃i vs ys H',vs.length=own.length/\Inv (qu X own caps scope C fp s2 H2) [] (vs++zi σ js) H' s'/\tn i s'.heap/\(∀b∈fp,H' b=none)/\H' D=some (.lst ys)/\W i n ys H') ?_ m0
   ⟨0,aA own.length none,[],upd H2 D (.lst []),by simp,I4,T.keep _ _ _ st2 fun b _ o e=> old b o e,fun b hb=> by rw [kq (aP (fplt b hb))];exact fpn b hb,yf,w0⟩
  rintro n s3 ⟨i,vs,ys,H3,hvs,I3,st3,fr3,hD3,w3⟩
  rcases turn i n ys H3 hD3 w3 with ⟨stop,qn⟩|⟨go,step⟩
  ·refine thn (T.done (qu X own caps scope C fp s2 H2) rfl rfl rfl hcalm i [] s3 _ H3 (fun _ _=> False) I3 (stat fr3) st3 stop) fun r s5 ⟨hr,I5⟩=> ?_
   subst hr
   obtain⟨m5,hn5,_⟩:=id I5.loc
   refine hpost D C s5 m5 H3 hn5 (by rw [hDe];lia) (I2.fpOk (by rw [hDe];lia) I5.free) ?_ qn
   exact I2.call' (ch:=fp) I5.os I5.base I5.hok I5.bare fun b hb=> ⟨(f2 b hb).2.2.2.1,(f2 b hb).2.1,(f2 b hb).2.2.2.2⟩
  ·refine thn (T.item (qu X own caps scope C fp s2 H2) rfl rfl rfl hcalm i [] s3 _ H3 (fun _ _=> False) I3 (stat fr3) st3 go) fun r s4 ⟨u,hr,h4⟩=> ?_
   subst hr
   refine thn h4 fun _ s5 ⟨x,H5,I5,r5,y5,st5,fr5⟩=> ?_
   have I5':=I5.pinned (stat fr5) (T.obj _ _ st5);refine thn (hg C fp s2 H2 _ s5 _ H5 x u _ I5' r5 (step x H5 y5 vs hvs)) fun _ s6 ⟨σ6,H6,I6,⟨vs6,hvs6,e6⟩,q6⟩=> ?_
   subst e6
   refine thn (hi C fp s2 H2 _ s6 _ H6 _ I6 q6) fun b s7 ⟨H7,I7,q7⟩=> ?_
   have again: ∀{H8:Hp} {s8:aj} {ys':List V},Inv (qu X own caps scope C fp s2 H2) ([]++aex fp s5.heap) (vs6++zi σ js) H8 s8 -> H8 D=some (.lst ys') -> (∃m',m' < n/\W (i+1) m' ys' H8) ->
     ∃m,m < n/\ ∃i vs ys H',vs.length=own.length/\Inv (qu X own caps scope C fp s2 H2) [] (vs++zi σ js) H' s8/\tn i s8.heap/\(∀b∈fp,H' b=none)/\H' D=some (.lst ys)/\W i m ys H':=fun {H8 s8 ys'} I8 hD8 w8=> by
    obtain⟨m',hm,w8⟩:=w8
    refine⟨m',hm,i+1,vs6,ys',H8,hvs6,I8.unpinned,T.keep _ _ _ st5 fun b hb o e=> (I8.pin (b,o) (bN _ (bN _ (abi hb e)))).1,fun b hb=> ?_,hD8,w8⟩
    obtain⟨o,e,d⟩:=T.obj _ _ st5 b hb
    exact (I8.pin (b,o) (bN _ (bN _ (abi hb e)))).2.1
   cases b with
   |false=> exact again I7 q7.1 q7.2
   |true=>
    refine thn (he C fp s2 H2 _ s7 _ H7 _ I7 q7) fun y s8 ⟨v,H8,I8,r8,hD8,hz8,q8⟩=> ?_
    refine thn (aj6 (X:=qu X own caps scope C fp s2 H2) _ s8 _ H8 (.ref D) [v] (.ref D) [y] (fun z H9=> H9=upd H8 D (.lst (ys++ [v]))) I8 rfl (.cons r8 .nil) ⟨D,ys,v,rfl,rfl,hD8,hz8,rfl⟩) fun _ s9 ⟨z,H9,I9,_,e9⟩=> ?_
    subst e9
    exact again I9 yf q8
 refine codeAny_compStart_list (loop _ rfl) (T.self _ 0 _ _ _ (T.keep _ _ _ st2 fun b _ o e=> old b o e) (loop _ rfl))
theorem a68(hcalm:X.calm=true)(hkind:scope.kind=.function)(hnames:(scope.names.all fun p=> !(p.2==.local)||(scope.names.lookup p.1==some .local))=true)(hcell:(scope.names.any fun p=> p.2==.cell)=false)
  (hk:(scope.names.all fun p=> !(p.2==.free)||(X.env.kindOf p.1==some .cell||X.env.kindOf p.1==some .free))=true)
  (hcap:yz X scope caps js) (hi:PI X tg iter wi) (hg: ∀C fp s H,PG (qu X own caps scope C fp s H) tg g) (ht: ∀C fp s H,ais (qu X own caps scope C fp s H) ifs tt) (he: ∀C fp s H,PE (qu X own caps scope C fp s H) elt te)
  (hs: ∀x,d8 iter X.env x=pure x:=by intro _;rfl):PE X (.ListComp elt [⟨tg,iter,ifs,0⟩] scope pos) (tLc js own.length wi g tt te):=by
 refine⟨?_⟩
 intro pins s σ H Q I h
 have hfr: ∀n,(n,b8)∈scope.names -> X.env.kindOf n=some .cell\/X.env.kindOf n=some .free:=fun n hn=> by
  have:=(aT.mp hk) _ hn
  simpa using this
 have hn': ∀x∈scope.names,x.2=.local -> scope.names.lookup x.1=some .local:=fun x hx e=> by
  have:=(aT.mp hnames) _ hx
  simpa [e] using this
 rw [eval_ListComp]
 refine jY (use:=none) rfl hs (aef fun n hn=> I.ok.has n (hfr n hn)) hkind hn' (thn (hi pins s σ H _ I h) fun v s1 h1=> thn h1 fun itv s2 h2=> ?_)
 obtain⟨it,fp,tn,J,H2,e,I2,T,st2,f2,hw⟩:=h2
 subst e
 refine asi (iter:=iter) (pos:=pos) (post:=fun acc C=> compPost (model X.prog X.w) X.A X.xe none (EP X pins σ Q) acc C) hcalm hkind hcell hk hcap hg ht he I2 T st2 f2 hw ?_
 intro D C s' m H' hn _ f hI hq
 exact⟨m,hn,fun h' hs'=> ⟨.ref D,H',hI.turned (t':=s'.toks) (fun b o hb e=> (hs'.2 b hb).trans e) f.1 f.2.1 f.2.2.2.1 f.2.2.2.2.1 f.2.2.2.2.2,rfl,hq⟩⟩
theorem av6{y:Str}{py:Pos}{spos:Pos}(hsw:f9 (.ListComp elt [⟨tg,iter,ifs,0⟩] scope pos) (some (.Name y py)) spos.line X.env=pure true)(hN:X.N.Nodup)(hy:X.N[i]?=some y)(hyl:X.env.scope.names.lookup y=some .local)(hcalm:X.calm=true)(hkind:scope.kind=.function)(hnames:(scope.names.all fun p=> !(p.2==.local)||(scope.names.lookup p.1==some .local))=true)(hcell:(scope.names.any fun p=> p.2==.cell)=false)(hk:(scope.names.all fun p=> !(p.2==.free)||(X.env.kindOf p.1==some .cell||X.env.kindOf p.1==some .free))=true)(hcap:yz X scope caps js)(hi:PI X tg iter wi)(hg: ∀C fp s H,PG (qu X own caps scope C fp s H) tg g)(ht: ∀C fp s H,ais (qu X own caps scope C fp s H) ifs tt)(he: ∀C fp s H,PE (qu X own caps scope C fp s H) elt te)(hs: ∀x,d8 iter X.env x=pure x:=by intro _;rfl):PS X (.Assign [.Name y py] (.ListComp elt [⟨tg,iter,ifs,0⟩] scope pos) spos) (fun D σ H=> tLc js own.length wi g tt te σ H fun v H'=> D.nx (σ.set i (some v)) H'):=by
 refine⟨?_⟩
 intro pins s σ H D I h
 have hfr: ∀n,(n,b8)∈scope.names -> X.env.kindOf n=some .cell\/X.env.kindOf n=some .free:=fun n hn=> by
  have:=(aT.mp hk) _ hn
  simpa using this
 have hn': ∀x∈scope.names,x.2=.local -> scope.names.lookup x.1=some .local:=fun x hx e=> by
  have:=(aT.mp hnames) _ hx
  simpa [e] using this
 rw [exec_Assign_Name_used _ _ _ _ hsw];refine ae (eS (ae ?_))
 show wpAny _ _ (do let _←comprehension (.ListComp elt [⟨tg,iter,ifs,0⟩] scope pos) scope X.env _ (newList []) false (eval iter X.env) (some (assign (.Name y py) X.env))) _ _ s
 refine ae (cA (jY (use:=some (assign (.Name y py) X.env)) (Q:=fun _ s'=> SP X pins D .next s') rfl hs (aef fun n hn=> I.ok.has n (hfr n hn)) hkind hn'
  (thn (hi pins s σ H _ I h) fun v s1 h1=> thn h1 fun itv s2 h2=> ?_)) (fun _ s' hq=> ah (ah hq)) fun _ _ e=> e)
 obtain⟨it,fp,tn,J,H2,e,I2,T,st2,f2,hw⟩:=h2
 subst e
 refine asi (iter:=iter) (pos:=pos) (post:=fun acc C=> compPost (model X.prog X.w) X.A X.xe (some (assign (.Name y py) X.env)) (fun _ s'=> SP X pins D .next s') acc C) hcalm hkind hcell hk hcap hg ht he I2 T st2 f2 hw ?_
 intro Da C s' m H' hn hCs f I' hq
 show wpAny _ _ (assign (.Name y py) X.env (.ref Da)) _ _ _
 refine wpAny_assign_Name (aj4 (v:=.ref Da) (u:=.ref Da) I' hN hy (.inl hyl) rfl (fun s6 I6 hs6=> ?_) (.inr hyl))
 obtain⟨a,hsb,ha⟩:=hs6
 have haC:a≠C:=by
  rcases ha with z|z
  ·rw [z];exact cP f.2.1
  ·exact f.2.2.2.2.1 y a z
 exact⟨m,hn.sameBut hsb (cP haC),fun h' hs'=> ⟨σ.set i (some (.ref Da)),H',I6.turned (t':=s6.toks) (fun b o hb e=> (hs'.2 b hb).trans e) f.1 f.2.1 f.2.2.2.1 f.2.2.2.2.1 f.2.2.2.2.2,hq⟩⟩
end
def Has(K:ak)(mg:Str -> Option af)(x:Str)(st:Stmt)(ps:List Str):Prop:=
 ∃(f:Addr) (fd:eF),Fun K x x st f fd/\mg x=some (.ref f)/\Binds K fd ps []
theorem akn:bt "len"=some (.builtin "len"):=by decide+kernel
theorem a7n:bt "min"=some (.builtin "min"):=by decide+kernel
theorem a65:bt "max"=some (.builtin "max"):=by decide+kernel
theorem a2u:bt "repr"=some (.builtin "repr"):=by decide+kernel
theorem aug:bt "sorted"=some (.builtin "sorted"):=by decide+kernel
theorem xi:bt "isinstance"=some (.builtin "isinstance"):=by decide+kernel
theorem a7p:bt "all"=some (.builtin "all"):=by decide+kernel
theorem a7t:bt "sum"=some (.builtin "sum"):=by decide+kernel
theorem atd:bt "list"=some (.type "list"):=by decide+kernel
theorem afl:bt "tuple"=some (.type "tuple"):=by decide+kernel
theorem ay8:bt "set"=some (.type "set"):=by decide+kernel
theorem a6u:bt "str"=some (.type "str"):=by decide+kernel
theorem ayq:bt "int"=some (.type "int"):=by decide+kernel
theorem a2x:bt "bool"=some (.type "bool"):=by decide+kernel
noncomputable def tyD:ag -> String
 |.none=> "NoneType"
 |.bool _=> "bool"
 |.int _=> "int"
 |.str _=> "str"
 |.list _=> "list"
 |.tuple _=> "tuple"
 |.dict _=> "dict"
noncomputable def kn(d:ag)(n:String):Bool:=match d with
 |.none=> n=="NoneType"
 |.bool _=> n=="bool"||n=="int"
 |.int _=> n=="int"
 |.str _=> n=="str"
 |.list _=> n=="list"
 |.tuple _=> n=="tuple"
 |.dict _=> n=="dict"
theorem arf(K:ak)(d:ag)(n:String)(hn:n="str"\/n="int"\/n="bool"\/n="tuple"\/n="list"):ck K (.type (tyD d)) (.type n)=some (kn d n):=by
 rcases hn with rfl|rfl|rfl|rfl|rfl <;> cases d <;> rfl
noncomputable def al9:Const -> Option V
 |.str x=> some (.str x)
 |.int i=> some (.int i)
 |.bool b=> some (.bl b)
 |.none=> some .non
 |_=> none
def ae9:List Expr -> Option (List V)
 |[]=> some []
 | .Constant c _ _::r=> match al9 c with
  |some v=> match ae9 r with
   |some vs=> some (v::vs)
   |none=> none
  |none=> none
 |_=> none
theorem axb{c:Const}:starEach (.Constant c j pos::es) env=(false,eval (.Constant c j pos) env)::starEach es env:=by rfl
noncomputable def tVs(vs:List V):TA:=fun _ H Q=> Q vs H
theorem a16{c:Const}(h:al9 c=some v):PE X (.Constant c j pos) (tC v):=by
 cases c <;> simp [al9]at h <;> subst h
 all_goals first
  |exact atj
  |exact asf
  |exact ayy
  |exact au7
theorem ak8: ∀{es:List Expr} {vs:List V},ae9 es=some vs -> PA X es (tVs vs)
 |[],vs,h=> by
  cases h
  exact ad6
 | e ::es,vs,h=> by
  cases e with
  | Constant c j pos=>
   simp only [ae9]at h
   cases h1:al9 c with
   |none=>
    rw [h1]at h
    cases h
   | some v=>
    rw [h1]at h
    cases h2:ae9 es with
    |none=> rw [h2]at h;cases h
    |some ws=>
     rw [h2]at h
     cases h
     have p:=aak (a16 (X:=X) (pos:=pos) (j:=j) h1) (ak8 h2) axb
     exact p
  |_=> simp [ae9]at h
structure New (H:Hp) (p:Addr) (o:HO) (H':Hp):Prop where
 no:H p=none
 eq:H'=upd H p o
theorem New.at(n:New H p o H'):H' p=some o:=by rw [n.eq,yf]
theorem New.keep{b:Addr}{u:HO}(n:New H p o H')(e:H b=some u):H' b=some u:=by rw [n.eq,kq (xm e n.no)];exact e
structure Chg (H:Hp) (p:Addr) (o:HO) (H':Hp):Prop where
 eq:H'=upd H p o
theorem Chg.at(n:Chg H p o H'):H' p=some o:=by rw [n.eq,yf]
theorem Chg.keep{b:Addr}{u:HO}(n:Chg H p o H')(h:b≠p)(e:H b=some u):H' b=some u:=by rw [n.eq,kq h];exact e
theorem PE.weak{t t':TE}(h:PE X e t)(k: ∀σ H Q,t' σ H Q -> t σ H Q):PE X e t':=.mk <|fun pins s σ H Q I q=> h pins s σ H Q I (k σ H Q q)
theorem OpR.weak{f:af -> af -> Sem af}{r r':R2}(h:OpR X f r)(k: ∀x y H Q,r' x y H Q -> r x y H Q):OpR X f r':=fun pins s σ H x y v u Q I rx ry q=> h pins s σ H x y v u Q I rx ry (k x y H Q q)
theorem ve.weak{f:af}{r r':List V -> Hp -> VK -> Prop}(h:ve X f r)(k: ∀xs H Q,r' xs H Q -> r xs H Q):ve X f r':=fun pins s σ H xs us Q I rv q=> h pins s σ H xs us Q I rv (k xs H Q q)
theorem MtM.weak{id:String}{r r':V -> List V -> Hp -> VK -> Prop}(h:MtM X id r)(k: ∀x xs H Q,r' x xs H Q -> r x xs H Q):MtM X id r':=fun pins s σ H x xs v us Q I rx rv q=> h pins s σ H x xs v us Q I rx rv (k x xs H Q q)
theorem SlR.weak{r r':V -> Option Int -> Option Int -> Hp -> VK -> Prop}(h:SlR X r)(k: ∀x lo hi H Q,r' x lo hi H Q -> r x lo hi H Q):SlR X r':=by
 intro pins s σ H x v vl vu lo hi sl Q I rx hs pl pu q
 exact h pins s σ H x v vl vu lo hi sl Q I rx hs pl pu (k x lo hi H Q q)
theorem aix.weak{t t':ar6}(h:aix X t)(k: ∀o i v H Q,t' o i v H Q -> t o i v H Q):aix X t':=fun pins s σ H o i v ov iv u Q I ro ri rv q=> h pins s σ H o i v ov iv u Q I ro ri rv (k o i v H Q q)
noncomputable def a7e(t:TA):TE:=fun σ H Q=> t σ H fun xs H1=> xs.length <=sizeLine/\ ∀p H',New H1 p (.tup xs) H' -> Q (.ref p) H'
noncomputable def a7v(t:TA):TE:=fun σ H Q=> t σ H fun xs H1=> xs.length <=sizeLine/\ ∀p H',New H1 p (.lst xs) H' -> Q (.ref p) H'
theorem a1u{t:TA}{x1 pos}(h:PA X es t):PE X (.Tuple es x1 pos) (a7e t):=by
 refine⟨?_⟩
 intro pins s σ H Q I hq
 refine mi (thn (h pos pins s σ H _ I hq) fun us s1 ⟨xs,H1,I1,r,z,q⟩=> ⟨by rw [←r.length];exact z,?_⟩)
 have hf:H1 s1.heap.objs.size=none:=I1.hok.fresh (ao _)
 refine⟨.ref s1.heap.objs.size,upd H1 s1.heap.objs.size (.tup xs),I1.laid (t':=s1.toks) (fun b u e=> ai _ e) (ao _) ?_,rfl,q _ _ ⟨hf,rfl⟩⟩
 exact⟨z,us,r,⟨_,ay _ rfl⟩⟩
theorem a0a{t:TA}{pos}(h:PA X es t):PE X (.List es pos) (a7v t):=by
 refine⟨?_⟩
 intro pins s σ H Q I hq
 refine wpAny_List_spliced (thn (h pos pins s σ H _ I hq) fun us s1 ⟨xs,H1,I1,r,z,q⟩=> ⟨by rw [←r.length];exact z,?_⟩)
 have hf:H1 s1.heap.objs.size=none:=I1.hok.fresh (ao _)
 refine⟨.ref s1.heap.objs.size,upd H1 s1.heap.objs.size (.lst xs),I1.laid (t':=s1.toks) (fun b u e=> ai _ e) (ao _) ?_,rfl,q _ _ ⟨hf,rfl⟩⟩
 exact⟨z,us,0,r,ay _ rfl⟩
def a7y(K:ak):V -> Option Int -> Option Int -> Hp -> VK -> Prop:=fun x lo hi H Q=> ∃a xs,x=.ref a/\SqL K H a xs/\ ∀p H',New H p (.lst (zh xs lo hi)) H' -> Q (.ref p) H'
theorem awx:SlR X (a7y X.K):=a12.weak fun x lo hi H Q ⟨a,xs,e,h,q⟩=> ⟨a,xs,e,h,fun p hp=> q p _ ⟨hp,rfl⟩⟩
def a74(K:ak):V -> Option Int -> Option Int -> Hp -> VK -> Prop:=fun x lo hi H Q=> ∃a xs,x=.ref a/\SqT K H a xs/\ ¬(HT.sIx xs.length 0 lo=0/\HT.sIx xs.length xs.length hi=xs.length)/\ ∀p H',New H p (.tup (zh xs lo hi)) H' -> Q (.ref p) H'
theorem azi:SlR X (a74 X.K):=at6.weak fun x lo hi H Q ⟨a,xs,e,h,n,q⟩=> ⟨a,xs,e,h,n,fun p hp=> q p _ ⟨hp,rfl⟩⟩
noncomputable def a7h:R2:=fun x y H Q=> ∃l b xs zs,x=.ref l/\y=.ref b/\H l=some (.lst xs)/\H b=some (.lst zs)/\xs.length+zs.length <=sizeLine/\ ∀p H',New H p (.lst (xs++zs)) H' -> Q (.ref p) H'
theorem a0l:OpR X (binaryOp .Add) a7h:=a2h.weak fun x y H Q ⟨l,b,xs,zs,e1,e2,h1,h2,n,q⟩=> ⟨l,b,xs,zs,e1,e2,h1,h2,n,fun p hp=> q p _ ⟨hp,rfl⟩⟩
theorem aqa:ve X (.type "list") (fun xs H Q=> ∃p ys,xs=[.ref p]/\(SqL X.K H p ys\/SqT X.K H p ys)/\ ∀l H',New H l (.lst ys) H' -> Q (.ref l) H'):=
 amu.weak fun xs H Q ⟨p,ys,e,h,q⟩=> ⟨p,ys,e,h,fun l hl=> q l _ ⟨hl,rfl⟩⟩
theorem aco:ve X (.type "tuple") (fun xs H Q=> ∃p ys,xs=[.ref p]/\((SqL X.K H p ys/\ ∀l H',New H l (.tup ys) H' -> Q (.ref l) H')\/(SqT X.K H p ys/\Q (.ref p) H))):=
 akb.weak fun xs H Q ⟨p,ys,e,h⟩=> ⟨p,ys,e,h.imp (fun⟨a,q⟩=> ⟨a,fun l hl=> q l _ ⟨hl,rfl⟩⟩) id⟩
def avz:V -> List V -> Hp -> VK -> Prop:=fun x vs H Q=> ∃l xs y,x=.ref l/\vs=[y]/\H l=some (.lst xs)/\xs.length < sizeLine/\ ∀H',Chg H l (.lst (xs++ [y])) H' -> Q .non H'
theorem apw:MtM X "list.append" avz:=aj6.weak fun x vs H Q ⟨l,xs,y,e1,e2,h,n,q⟩=> ⟨l,xs,y,e1,e2,h,n,q _ ⟨rfl⟩⟩
def a02:V -> List V -> Hp -> VK -> Prop:=fun x vs H Q=> ∃l xs i k y,x=.ref l/\vs=[.int i]/\H l=some (.lst xs)/\ -(2^63) <=i/\i < 2^63/\iQ i xs.length=some k/\xs[k]?=some y/\ ∀H',Chg H l (.lst (xs.eraseIdx k)) H' -> Q y H'
theorem atw:MtM X "list.pop" a02:=awk.weak fun x vs H Q ⟨l,xs,i,k,y,e1,e2,h,n1,n2,n3,n4,q⟩=> ⟨l,xs,i,k,y,e1,e2,h,n1,n2,n3,n4,q _ ⟨rfl⟩⟩
def a3f:V -> V -> V -> Hp -> (Hp -> Prop) -> Prop:=fun o i v H Q=> ∃p xs k j,o=.ref p/\i=.int k/\H p=some (.lst xs)/\ixN xs.length k=some j/\ ∀H',Chg H p (.lst (xs.set j v)) H' -> Q H'
theorem au5:aix X a3f:=axt.weak fun o i v H Q ⟨p,xs,k,j,e1,e2,h,n,q⟩=> ⟨p,xs,k,j,e1,e2,h,n,q _ ⟨rfl⟩⟩
end L2
namespace ST
open PySem PySem.SetTable
noncomputable def adv(t:cS):Nat -> Probe -> Probe
 |0,p=> p
 |n+1,p=> adv t n (t.advance p)
theorem a01(t:cS)(a b:Nat)(p:Probe):adv t (a+b) p=adv t b (adv t a p):=by
 induction a generalizing p with
 |zero=> rw [Nat.zero_add];rfl
 |succ a ih=> rw [show a+1+b=(a+b)+1 by lia];exact ih _
theorem auz(t:cS)(n:Nat)(p:Probe):adv t (n+1) p=t.advance (adv t n p):=by rw [a01];rfl
theorem adv_dummy(t:cS): ∀(n:Nat) (p:Probe),(adv t n p).dummy=p.dummy
 |0,_=> rfl
 |n+1,p=> by
  rw [auz,←adv_dummy t n p]
  unfold advance
  split <;> rfl
abbrev Ris(l:List Nat):Prop:=l.Pairwise (· < ·)
theorem ris_get{l:List Nat}(h:Ris l){a b:Nat}(ha:a < b)(hb:b < l.length):l[a]'(by lia) < l[b]:=(jN.mp h) a b (by lia) hb ha
theorem agu(xs:Array Nat)(j:Nat)(h:Ris xs.toList): ∀(fuel lo hi:Nat),lo <=hi -> hi <=xs.size -> hi - lo <=fuel -> (∀i,i < lo -> xs.getD i j < j) -> (∀i,hi <=i -> i < xs.size -> j <=xs.getD i j) ->
  below.go xs j fuel lo hi <=xs.size/\(∀i,i < below.go xs j fuel lo hi -> xs.getD i j < j)/\(∀i,below.go xs j fuel lo hi <=i -> i < xs.size -> j <=xs.getD i j)
 |0,lo,hi,h1,h2,h3,h4,h5=> by
  unfold below.go
  exact⟨by lia,h4,fun i a b=> h5 i (by lia) b⟩
 | fuel+1,lo,hi,h1,h2,h3,h4,h5=> by
  unfold below.go
  split
  ·rename_i hlt
   have mono: ∀a b,a <=b -> b < xs.size -> xs.getD a j <=xs.getD b j:=by
    intro a b hab hb
    rcases Nat.lt_or_eq_of_le hab with z|z
    ·have:=ris_get h z (by rw [aM];exact hb)
     simp only [h9,show a < xs.size by lia,hb,dif_pos]
     simpa using f8 this
    ·subst z;exact ao _
   dsimp only
   split
   ·rename_i c
    refine agu xs j h fuel _ _ (by lia) h2 (by lia) (fun i hi'=> ?_) h5
    exact gg (mono i ((lo+hi)/2) (by lia) (by lia)) c
   ·rename_i c
    refine agu xs j h fuel _ _ (by lia) (by lia) (by lia) h4 (fun i a b=> ?_)
    exact ax (by lia) (mono ((lo+hi)/2) i a b)
  ·exact⟨by lia,h4,fun i a b=> h5 i (by lia) b⟩
theorem below_spec(xs:Array Nat)(j:Nat)(h:Ris xs.toList):below xs j <=xs.size/\(∀i,i < below xs j -> xs.getD i j < j)/\(∀i,below xs j <=i -> i < xs.size -> j <=xs.getD i j):=
 agu xs j h xs.size 0 xs.size (dw _) (ao _) (by lia) (fun i hi=> by lia) (fun i a b=> by lia)
theorem below_ix{xs:Array Nat}(h:Ris xs.toList)(e:xs[i]?=some j):below xs j=i:=by
 obtain⟨b1,b2,b3⟩:=below_spec xs j h
 have hi:i < xs.size:=(bM.mp e).1
 have ei:xs.getD i j=j:=by simp only [h9,hi,dif_pos];exact (bM.mp e).2
 have h1: ¬i < below xs j:=fun z=> by have:=b2 i z;lia
 have h2: ¬below xs j < i:=fun z=> by
  have hb:below xs j < xs.size:=by lia
  have:=b3 _ (ao _) hb
  have q:=ris_get h z (by rw [aM];exact hi)
  have e2:xs.getD (below xs j) j=xs[below xs j]:=by simp only [h9,hb,dif_pos];rfl
  have e3:xs[i]=j:=(bM.mp e).2
  simp only [lU]at q
  lia
 lia
theorem has_nil(j:Nat):has #[] j=false:=by unfold has;simp
end ST
namespace L2
open PySem PySem.Spec PyProof.Rows
def aii(w:aZ)(k:Nat)(t:cS):Prop:=t.led= !(w.params.followText "set-order")/\(k≠0 -> t.plain=false\/ST.Ris t.place.toList)
def xr(P:aV)(w:aZ)(h:Heap)(a:Addr)(S:Str -> Bool)(n:Nat):Prop:=
 ∃o es ep t,h.get? a=some o/\o.ExactSet/\o.data=.set es ep t/\(iz (bW P w) es.toList/\(∀k,S k=true ↔ ∃e∈es.toList,(bW P w).is k e.2=true)
  /\es.size < bE/\t.fits es.size=true/\es.size=n)/\aii w es.size t
theorem xr.congr{S S':Str -> Bool}{n':Nat}(z:xr P w h a S n)(hS: ∀k,S' k=S k)(hn:n'=n):xr P w h a S' n':=by
 subst hn
 obtain⟨o,es,ep,t,e,ex,d,⟨q1,q2,q3⟩,q4⟩:=z
 exact⟨o,es,ep,t,e,ex,d,⟨q1,fun k=> by rw [hS k];exact q2 k,q3⟩,q4⟩
theorem aoa(t:cS)(es:Array (Int×af))(h:Int)(x:af):(layNew t es h x).2.1.led=t.led:=by
 have si: ∀(u:cS) (m:Nat),(u.orStandIn m).led=u.led:=fun u m=> by
  unfold SetTable.orStandIn
  by_cases c:u.fits m=true
  ·rw [if_pos c]
  ·rw [if_neg c];rfl
 unfold layNew
 cases t.freeSlot h with
 |none=> rfl
 |some q=>
  obtain⟨sl,wd⟩:=q
  exact (si _ _).trans rfl
theorem aml{t':cS}{hs:Array Int}{wd:Nat}{od:Array Nat}(e:t.relaid hs wd=some (t',od)):t'.led=t.led/\t'.plain=t.plain:=by
 unfold SetTable.relaid SetTable.laid at e
 cases c:SetTable.layClean (iR wd - 1) hs with
 |none=> rw [c]at e;cases e
 |some ow=>
  rw [c]at e
  simp only [mj,du,Option.pure_def,d9,ma]at e
  obtain⟨rfl,_⟩:=e
  exact⟨rfl,rfl⟩
theorem ak0(t:cS)(es:Array (Int×af))(wd:Nat):(relayAll t es wd).2.1.led=t.led/\(t.plain=false -> (relayAll t es wd).2.1.plain=false):=by
 unfold relayAll
 cases c:t.relaid (es.map (·.1)) wd with
 |none=> exact⟨rfl,fun _=> rfl⟩
 |some q=>
  obtain⟨t',od⟩:=q
  obtain⟨k1,k2⟩:=aml c
  dsimp only
  split
  ·exact⟨k1,fun z=> k2.trans z⟩
  ·exact⟨rfl,fun _=> rfl⟩
theorem atn{o:Obj}{es:Array (Int×af)}(ho:h.get? a=some o)(hex:o.ExactSet)(hd:o.data=.set es ep t){es':Array (Int×af)}{t':cS}{S':Str -> Bool}(q:iz (bW prog w) es'.toList/\(∀k,S' k=true ↔ ∃e∈es'.toList,(bW prog w).is k e.2=true)/\es'.size < bE/\t'.fits es'.size=true)(tx:aii w es'.size t'):
  (h.update a (ia es' t')).get? a=some {o with data:=.set es' (ep+1) t'}/\xr prog w (h.update a (ia es' t')) a S' es'.size:=by
 obtain⟨g,_⟩:=SetOf_store (knd:=bW prog w) ho hex hd q.1 q.2.1 q.2.2.1 q.2.2.2
 exact⟨g,_,es',ep+1,t',g,hex,rfl,⟨q.1,q.2.1,q.2.2.1,q.2.2.2,rfl⟩,tx⟩
theorem ay6{g:Bool -> Sem Unit}(hg: ∀(b:Bool) (s1:aj) (Q':Unit -> aj -> Prop),Q' () s1 -> wpAny (model prog w) A (g b) Q' E s1){o:Obj}{es:Array (Int×af)}(ho:s.heap.get? a=some o)(hex:o.ExactSet)(hd:o.data=.set es ep t){es1:Array (Int×af)}{t2:cS}{S':Str -> Bool}(q:iz (bW prog w) es1.toList/\(∀k,S' k=true ↔ ∃e∈es1.toList,(bW prog w).is k e.2=true)/\es1.size < bE/\t2.fits es1.size=true)(tx:t2.led= !(w.params.followText "set-order")/\t2.plain=false){wasDummy:Bool}{R:Option Bool -> aj -> Prop}(h: ∀h',bI a s.heap h' -> xr prog w h' a S' es1.size -> R (some true) {s with heap:=h'}):
  wpAny (model prog w) A (do
   storeSet a es1 t2
   if (!wasDummy&&t2.tooFull)=true then do g (relayAll t2 es1 (cn es1.size)).2.2;storeSet a (relayAll t2 es1 (cn es1.size)).1 (relayAll t2 es1 (cn es1.size)).2.1;pure (some true) else pure (some true)) R E s:=by
 obtain⟨q1,q2,q3,q4⟩:=q
 refine ae (gD ho hd ?_ (ee q3))
 obtain⟨g1,x1⟩:=atn (w:=w) (prog:=prog) ho hex hd ⟨q1,q2,q3,q4⟩ ⟨tx.1,fun _=>.inl tx.2⟩
 have b1:=b7 s.heap a (ia es1 t2)
 split
 ·have p:=relayAll_perm t2 es1 (cn es1.size)
  have f:=relayAll_fits t2 es1 (cn es1.size)
  have tt:=ak0 t2 es1 (cn es1.size)
  revert p f tt
  generalize relayAll t2 es1 (cn es1.size)=Rl
  obtain⟨es2,t3,gv⟩:=Rl
  intro p f tt
  dsimp only at p f tt⊢
  have z:es2.size=es1.size:=by
   have:=p.length_eq
   rwa [aM,aM]at this
  have b2:es2.size < bE:=z▸q3
  refine ae (hg _ _ _ (ae (gD g1 rfl ?_ (ee b2))))
  obtain⟨_,x2⟩:=atn (w:=w) (prog:=prog) (S':=S') g1 hex rfl ⟨q1.perm p,fun k=> (q2 k).trans ⟨fun⟨e,m,y⟩=> ⟨e,p.mem_iff.mpr m,y⟩,fun⟨e,m,y⟩=> ⟨e,p.mem_iff.mp m,y⟩⟩,b2,f⟩ ⟨tt.1.trans tx.1,fun _=>.inl (tt.2 tx.2)⟩
  exact ah (h _ (b1.trans (b7 _ a _)) (z▸x2))
 ·exact ah (h _ b1 x1)
theorem a99{S:Str -> Bool}{k:Str}{Q:Bool -> aj -> Prop}(hS:xr prog w s.heap a S n)(hroom:n+1 < bE)(h: ∀h',bI a s.heap h' -> xr prog w h' a (fun y=> S y||decide (y=k)) (if S k then n else n+1) -> Q (!S k) {s with heap:=h'}):
  wpAny (model prog w) A (jZ a (.str k tk) ((bW prog w).hash k)) Q E s:=by
 have hkey:(bW prog w).is k (.str k tk)=true:=by show gN k (.str k tk)=true;simp [gN]
 obtain⟨o,es,ep,t,ho,hex,hd,⟨hel,hmem,hb,hf,hn⟩,tx⟩:=hS
 have hgw: ∀(b:Bool) {s1:aj} {Q':Unit -> aj -> Prop},Q' () s1 -> wpAny (model prog w) A (match b with|true=> rule "set.scan.the-table-gave-way"|false=> pure ()) Q' E s1:=by
  intro b s1 Q' z
  cases b
  ·exact ah z
  ·exact cM z
 unfold jZ setAddHashedIn;refine bw (ae (dE ho hd hf ?_))
 dsimp only
 rw [byScan_of (knd:=bW prog w) rfl hb hel,if_pos rfl]
 unfold setAddByScan
 refine ae (ae (cM (ae (wpAny_setScan_of hkey ho hd hf hel ?_))))
 cases hr:List.findIdx? (fun e=> (bW prog w).is k e.2) es.toList with
 | some j=>
  obtain⟨hj,hpj,_⟩:=gJ.mp hr;have sk:S k=true:=(hmem k).mpr ⟨es.toList[j],cE hj,hpj⟩
  dsimp only
  refine ah (ah ?_);have z:=h s.heap (jF a s.heap) ⟨o,es,ep,t,ho,hex,hd,⟨hel,fun y=> by
   rw [kS,decide_eq_true_eq,←hmem y]
   exact⟨fun c=> c.elim id (fun e=> e▸sk),.inl⟩,hb,hf,by rw [sk];exact hn⟩,tx⟩
  rw [sk]at z
  exact z
 | none=>
  dsimp only
  have sk:S k=false:=by
   cases c:S k with
   |false=> rfl
   |true=>
    obtain⟨e,m,y⟩:=(hmem k).mp c
    exact Bool.noConfusion (y.symm.trans (jO.mp hr e m))
  have p:=layNew_perm t es ((bW prog w).hash k) (.str k tk)
  have f:=layNew_fits t es ((bW prog w).hash k) (.str k tk)
  have ld:=aoa t es ((bW prog w).hash k) (.str k tk)
  revert p f ld
  generalize layNew t es ((bW prog w).hash k) (.str k tk)=L
  obtain⟨es1,t1,wd,gv⟩:=L
  intro p f ld
  dsimp only at p f ld⊢
  rw [jG]at p
  have z1:es1.size=n+1:=by
   have:=p.length_eq
   rw [aM,bq,aM,hn]at this
   exact this
  have b1:es1.size < bE:=z1▸hroom
  have q:iz (bW prog w) es1.toList/\(∀y,(fun y=> S y||decide (y=k)) y=true ↔ ∃e∈es1.toList,(bW prog w).is y e.2=true)/\es1.size < bE:=
   ⟨(hel.push hkey rfl).perm p,fun y=> mem_push_iff hkey hmem p y,b1⟩
  have fin: ∀h',bI a s.heap h' -> xr prog w h' a (fun y=> S y||decide (y=k)) es1.size -> Q true {s with heap:=h'}:=fun h' u v=> by
   have:=h h' u
   rw [sk,if_neg aw,←z1]at this
   exact this v
  refine ae (hgw _ ?_)
  split
  ·refine ae ?_
   rw [lC 8 rfl]
   refine ah (ay6 (fun b s1 Q' z=> ?_) ho hex hd ⟨q.1,q.2.1,q.2.2,?_⟩ ⟨?_,?_⟩ fun h' u v=> ?_)
   ·cases b
    ·exact ah z
    ·exact cM z
   ·exact SetTable.fits_plain_off f
   ·exact ld.trans tx.1
   ·rfl
   ·dsimp only;exact ah (fin h' u v)
  ·rename_i hpl
   refine ae (ah ?_);simp only [↓reduceIte]
   refine ay6 (fun b s1 Q' z=> ?_) ho hex hd ⟨q.1,q.2.1,q.2.2,f⟩ ⟨ld.trans tx.1,?_⟩ fun h' u v=> ?_
   ·cases b
    ·exact ah z
    ·exact cM z
   ·simpa using hpl
   ·dsimp only;exact ah (fin h' u v)
theorem a92(a:af){Q1:af -> aj -> Prop}(h:Q1 (.ref s.heap.objs.size) {s with heap:=s.heap.push {cls:=.type "set",dict:=none,data:=.set #[] 0 (.fresh 0 0 (!(w.params.followText "set-order")))}}):
  codeAny (model prog w) A (.call (.builtin "set.__new__") ⟨[.type "set",a],[]⟩) (wants Q1 E) s:=by
 refine kU (show wpAny _ A.in1 (do fL "set.__new__" ⟨[.type "set",a],[]⟩;again (.builtin "set.__new__" ⟨[.type "set",a],[]⟩)) _ _ s from ?_)
 refine ae (mT (PySem.F.newCall_set_1 a) (ah ⟨fR lD _,dB PySem.F.entry_set_new ?_⟩))
 rw [dg lD _];unfold cF.«set.__new__» Builtin.Frozenset.newClass
 have sb:=PySem.sub_set_self
 obtain⟨hp,g,d,tk,os⟩:=s;dsimp only
 wp_walk
 refine kA (ah ?_);dsimp only;simp only [newObj]
 exact ae (wpAny_alloc (ah (ah h)))
noncomputable def k8{α:Type}[DecidableEq α](l:List α)(x:α):List α:=if x∈l then l else l++ [x]
def jm{α:Type}[DecidableEq α](xs:List α):List α:=xs.foldl k8 []
theorem aci{α:Type}[DecidableEq α](xs:List α)(x:α):jm (xs++ [x])=k8 (jm xs) x:=by unfold jm;rw [List.foldl_append];rfl
theorem zm{α:Type}[DecidableEq α]{l:List α}{x y:α}:y∈k8 l x ↔ y∈l\/y=x:=by
 unfold k8
 split
 ·constructor
  ·exact c7
  ·rintro (h|rfl)
   ·exact h
   ·assumption
 ·simp
theorem ah8{α:Type}[DecidableEq α]{l:List α}{x:α}(h:l.Nodup):(k8 l x).Nodup:=by
 unfold k8
 split
 ·exact h
 ·rename_i hx
  rw [List.nodup_append]
  refine⟨h,by simp,fun a ha b hb=> ?_⟩
  rw [aO.mp hb]
  rintro rfl
  exact hx ha
theorem aa2{α:Type}[DecidableEq α](xs:List α):(jm xs).Nodup/\(∀y,y∈jm xs ↔ y∈xs)/\(jm xs).length <=xs.length:=by
 have all: ∀(ys acc:List α),acc.Nodup -> (ys.foldl k8 acc).Nodup/\(∀y,y∈ys.foldl k8 acc ↔ y∈acc\/y∈ys)/\(ys.foldl k8 acc).length <=acc.length+ys.length:=by
  intro ys
  induction ys with
  |nil=> intro acc h;exact⟨h,by simp,ao _⟩
  | cons z r ih=>
   intro acc h
   obtain⟨h1,h2,h3⟩:=ih (k8 acc z) (ah8 h)
   refine⟨h1,fun y=> ?_,?_⟩
   ·rw [dX,h2,zm,aq]
    constructor
    ·rintro ((a|a)|a)
     ·exact .inl a
     ·exact .inr (.inl a)
     ·exact .inr (.inr a)
    ·rintro (a|a|a)
     ·exact .inl (.inl a)
     ·exact .inl (.inr a)
     ·exact .inr a
   ·rw [dX,aK]
    have:(k8 acc z).length <=acc.length+1:=by unfold k8;split <;> simp
    lia
 have h:=all xs [] List.nodup_nil
 refine⟨h.1,fun y=> ?_,?_⟩
 ·show y∈xs.foldl k8 [] ↔ _
  simpa using h.2.1 y
 ·show (xs.foldl k8 []).length <=_
  simpa using h.2.2
theorem ahp{α:Type}[DecidableEq α]: ∀{xs:List α},xs.Nodup -> jm xs=xs:=by
 intro xs h
 have all: ∀(ys acc:List α),(acc++ys).Nodup -> ys.foldl k8 acc=acc++ys:=by
  intro ys
  induction ys with
  |nil=> intro acc _;simp
  | cons z r ih=>
   intro acc hn
   have hz:z∉acc:=fun m=> by
    rw [List.nodup_append]at hn
    exact hn.2.2 z m z aD rfl
   rw [dX,show k8 acc z=acc++ [z] from by unfold k8;rw [if_neg hz],ih _ (by rw [cx];exact hn),cx]
   rfl
 have:=all xs [] (by simpa using h)
 simpa [jm] using this
theorem avd{α:Type}[DecidableEq α]{xs:List α}(h:(jm xs).length=xs.length):xs.Nodup:=by
 have all: ∀(ys acc:List α),(ys.foldl k8 acc).length=acc.length+ys.length -> acc.Nodup -> (acc++ys).Nodup:=by
  intro ys
  induction ys with
  |nil=> intro acc _ h;simpa using h
  | cons z r ih=>
   intro acc hl hn
   have le: ∀(zs a:List α),(zs.foldl k8 a).length <=a.length+zs.length:=by
    intro zs
    induction zs with
    |nil=> intro a;exact ao _
    |cons y t ih2=>
     intro a
     rw [dX,aK];have h1:=ih2 (k8 a y)
     have h2:(k8 a y).length <=a.length+1:=by unfold k8;split <;> simp
     lia
   rw [dX,aK]at hl
   have hz:z∉acc:=fun m=> by
    have h1:=le r (k8 acc z)
    rw [show k8 acc z=acc from by unfold k8;rw [if_pos m]]at h1 hl
    lia
   have e:k8 acc z=acc++ [z]:=by unfold k8;rw [if_neg hz]
   rw [e]at hl
   have:=ih (acc++ [z]) (by rw [hl,bq];simp;lia) (by rw [←e];exact ah8 hn)
   rw [cx]at this;exact this
 have:=all xs [] (by simpa [jm] using h) List.nodup_nil
 simpa using this
section
variable{prog:aV}{w:aZ}{A:br}{R:hV -> aj -> Prop}{I:Addr}{wr fp:List Addr}{G:Array iu -> Array iu -> Prop}{n:Nat}{P:Nat -> af -> Prop}{St:Nat -> aj -> Prop}
theorem aw5(W:WalksS prog w A.in1 I fp wr G n P St)(p:Addr)(hp:p∉fp)(xs:List Str)(hn:xs.length=n)(hval: ∀i v,P i v -> ∃x t,xs[i]?=some x/\v=.str x t)(hb:n+1 < bE):
  ∀(j i:Nat) (s:aj),i+j=n -> St i s -> xr prog w s.heap p (fun y=> decide (y∈jm (xs.take i))) (jm (xs.take i)).length ->
   (∀s',mX (p::wr) G s s' -> xr prog w s'.heap p (fun y=> decide (y∈jm xs)) (jm xs).length -> R (.ok (.ret .none)) s') ->
   codeAny (model prog w) A (.builtin "set.update.loop" ⟨[.ref p,.ref I],[]⟩) R s:=by
 have hpw:p∉wr:=fun z=> hp (W.sub _ z)
 have up: ∀b∈wr,b∈p::wr:=fun b z=> aB _ z
 have stays: ∀{s s':aj} {S:Str -> Bool} {m:Nat},mX wr G s s' -> xr prog w s.heap p S m -> xr prog w s'.heap p S m:=fun mv z=> by
  obtain⟨o,es,ep,t,ho,q⟩:=z
  exact⟨o,es,ep,t,mv.heap p _ hpw ho,q⟩
 intro j
 induction j with
 |zero=>
  intro i s hij hst hS hR
  have ei:i=n:=by lia
  subst ei
  refine dB c8 ?_
  rw [dg bY _]
  refine (show wpAny _ A.in1 (pyNext (.ref I)>>=_) _ _ s from ae (W.done s _ _ hst fun s' mv=> ?_))
  refine ah (hR s' (mv.mono up) ?_)
  have:=stays mv hS
  rw [dM (fA hn)]at this
  exact this
 | succ j ih=>
  intro i s hij hst hS hR
  refine dB c8 ?_
  rw [dg bY _]
  refine (show wpAny _ A.in1 (pyNext (.ref I)>>=_) _ _ s from ae (W.item i s _ _ (by lia) hst fun v s' hP hst' mv=> ?_))
  obtain⟨x,t,hx,rfl⟩:=hval i v hP
  show wpAny _ A.in1 (holding [fE x t] (setAdd p (.str x t))>>=_) _ _ s'
  refine ae (bw ?_);unfold setAdd
  refine bw (ae ((strKind prog w).pyHash (k:=x) (by show gN x (.str x t)=true;simp [gN]) ?_))
  have few:(jm (xs.take i)).length <=i:=ax (aa2 _).2.2 (by rw [bV];lia)
  refine a99 (s:={s' with toks:=s'.toks+1}) (show xr prog w s'.heap p _ _ from stays mv hS) (by lia) fun h' sb hS2=> ?_
  have et:xs.take (i+1)=xs.take i++ [x]:=by rw [jH,hx];rfl
  have hS3:xr prog w h' p (fun y=> decide (y∈jm (xs.take (i+1)))) (jm (xs.take (i+1))).length:=by
   refine xr.congr hS2 (fun y=> ?_) ?_
   ·rw [et,aci]
    by_cases h1:y∈jm (xs.take i)
    ·simp [h1,zm]
    ·by_cases h2:y=x
     ·simp [h1,h2,zm]
     ·simp [h1,h2,zm]
   ·rw [et,aci]
    by_cases h1:x∈jm (xs.take i)
    ·rw [show k8 (jm (xs.take i)) x=jm (xs.take i) from by unfold k8;rw [if_pos h1]];simp [h1]
    ·rw [show k8 (jm (xs.take i)) x=jm (xs.take i)++ [x] from by unfold k8;rw [if_neg h1]];simp [h1]
  refine ah ⟨fR bY _,ih (i+1) _ (by lia) (W.frame _ s' _ _ hst' (eB _) fun b hbm o e=> ?_) hS3 fun s'' mv2 hS''=> ?_⟩
  ·rw [sb.2 b (fun z:b=p=> hp (by rw [←z];exact hbm))];exact e
  ·refine hR s'' (Moved.trans W.gtrans ((mv.mono up).then_heap (eB _) fun b o hbm e=> ?_) mv2) hS''
   rw [sb.2 b (fun z:b=p=> hbm (by rw [z];exact aD))];exact e
end
set_option maxHeartbeats 8000000 in
theorem ajp{oc:Obj}(hh:A.handled=none)(hT:T="list"\/T="tuple")(ho:s.heap.get? a=some oc)(hc:oc.cls=.type T){its:Array af}(hd:oc.data=.seq its k){SF:Heap -> Prop}(run: ∀(A':br) (I:Addr) (fp wr:List Addr) (P:Nat -> af -> Prop) (St:Nat -> aj -> Prop) (s0:aj) (R:hV -> aj -> Prop),WalksS prog w A'.in1 I fp wr (fun x y=> y=x) its.size P St -> (∀i v,P i v -> its[i]?=some v) -> s.heap.objs.size∉fp -> St 0 s0 ->
   (∃led:Bool,led= !(w.params.followText "set-order")/\s0.heap.get? s.heap.objs.size=some {cls:=.type "set",dict:=none,data:=.set #[] 0 (.fresh 0 0 led)}) -> (∀s',mX (s.heap.objs.size::wr) (fun x y=> y=x) s0 s' -> SF s'.heap -> R (.ok (.ret .none)) s') -> codeAny (model prog w) A' (.builtin "set.update.loop" ⟨[.ref s.heap.objs.size,.ref I],[]⟩) R s0) (h: ∀(h':Heap) (tk:Nat),SF h' -> (∀b o,b < s.heap.objs.size -> s.heap.get? b=some o -> h'.get? b=some o) -> Q (.ref s.heap.objs.size) {s with heap:=h',toks:=tk}):
  wpAny (model prog w) A (call (.type "set") [.ref a]) Q E s:=by
 obtain⟨cm,mrest,m0⟩:=eH.mro
 have m1:=eH.made
 have m2:=eH.sub
 refine gr (kU (show wpAny _ _ (callAny (.type "set") _) _ _ _ from ah ⟨iS _ (by decide+kernel),dB F.entry_type_call ?_⟩))
 rw [Around.under_plain (weight_type_call_type "set" [.ref a] []) rfl]
 have m3:=eH.notType
 have m4:=eH.canCreate
 have m5:=PySem.F.typeCall_set_1 (.ref a)
 repeat any_goals (first|assumption|wp_step)
 refine dR (a92 (.ref a) (E:=E) (Q1:=fun ob s1=> ∃led:Bool,led= !(w.params.followText "set-order")/\ob=.ref s.heap.objs.size/\s1={s with heap:=s.heap.push {cls:=.type "set",dict:=none,data:=.set #[] 0 (.fresh 0 0 led)}}) ⟨_,rfl,rfl,rfl⟩) fun r s1 hr=> ?_
 cases r with
 |error e=> exact hr
 | ok fl=>
  cases fl with
  | ret ob=>
   obtain⟨led,hled,rfl,rfl⟩:=hr
   have g0:(s.heap.push {cls:=.type "set",dict:=none,data:=.set #[] 0 (.fresh 0 0 led)}).get? s.heap.objs.size=some {cls:=.type "set",dict:=none,data:=.set #[] 0 (.fresh 0 0 led)}:=ay _ rfl
   have g1:Shared.TypeIs {s with heap:=s.heap.push {cls:=.type "set",dict:=none,data:=.set #[] 0 (.fresh 0 0 led)}} (.ref s.heap.objs.size) "set":=⟨_,g0,rfl⟩
   have m6:=eH.init.lookup
   have m7:=eH.init.bind (.ref s.heap.objs.size)
   repeat any_goals (first|assumption|wp_step)
   refine dR (fM (R:=wants (fun r s2=> r=.none/\ ∃h' tk,s2={s with heap:=h',toks:=tk}/\SF h'/\
     (∀b o,b < s.heap.objs.size -> s.heap.get? b=some o -> h'.get? b=some o)) E) eH.init.plain F.entry_set_init (check_set_init_1 g1 ?_)) fun r2 s2 hr2=> ?_
   ·have halt:a < s.heap.objs.size:=ar ho
    obtain⟨o1,o2,o3,o4⟩:=oc
    simp only at hc hd
    subst hc hd
    have g2:(s.heap.push {cls:=.type "set",dict:=none,data:=.set #[] 0 (.fresh 0 0 led)}).get? a=some {cls:=.type T,dict:=o2,data:=.seq its k,slots:=o4}:=ai _ ho
    have h3:A.in1.in1.in1.handled=none:=by simp [hh]
    have neI:a≠(s.heap.push {cls:=.type "set",dict:=none,data:=.set #[] 0 (.fresh 0 0 led)}).objs.size:=by
     rw [bd]
     exact aP (dh halt)
    have nf:s.heap.objs.size∉ [(s.heap.push {cls:=.type "set",dict:=none,data:=.set #[] 0 (.fresh 0 0 led)}).objs.size,a]:=by
     rw [bd]
     simp only [aq,bf,or_false,not_or]
     exact⟨aP (eI _),dP halt⟩
    have fin: ∀(o:Obj) (s':aj),mX [s.heap.objs.size,(s.heap.push {cls:=.type "set",dict:=none,data:=.set #[] 0 (.fresh 0 0 led)}).objs.size] (fun x y=> y=x) {s with heap:=(s.heap.push {cls:=.type "set",dict:=none,data:=.set #[] 0 (.fresh 0 0 led)}).push o} s' ->
      SF s'.heap ->
      ∃h' tk,s'={s with heap:=h',toks:=tk}/\SF h'/\(∀b o,b < s.heap.objs.size -> s.heap.get? b=some o -> h'.get? b=some o):=by
     intro o s' mv hS'
     obtain⟨h',ge,dr,tk',oz⟩:=s'
     have e1:ge=s.gens:=mv.gens
     have e2:dr=s.drawn:=mv.drawn
     have e3:oz=s.os:=mv.os
     subst e1 e2 e3
     refine⟨h',tk',rfl,hS',fun b o' hb' e=> mv.heap b o' ?_ (ai _ (ai _ e))⟩
     rw [bd]
     simp only [aq,bf,or_false,not_or]
     exact⟨aP hb',aP (dh hb')⟩
    rcases hT with rfl|rfl
    ·have n1:=PySem.F.sub_list_set
     have n2:=PySem.F.sub_list_frozenset
     have n3:(cU "list"==cU "dict")=false:=by decide
     have l1:(s.heap.push {cls:=.type "set",dict:=none,data:=.set #[] 0 (.fresh 0 0 led)}).IsList a its:=⟨_,g2,rfl,k,rfl⟩
     unfold cF.«set.__init__» noKeywords iA;generalize hPI:pyIter=PI
     wp_walk
     subst hPI
     refine ef l1 (ae (lE ?_))
     refine run _ _ _ _ _ _ _ _ ((Walks.list h3 _ a neI its).toS) (fun i v hv=> hv) nf ⟨⟨_,ay _ rfl,rfl,rfl⟩,l1.push _⟩ ⟨led,hled,ai _ g0⟩ ?_
     intro s' mv hS'
     obtain⟨h',tk,rfl,z1,z2⟩:=fin _ s' mv hS'
     exact ah (show wpAny _ _ (ret bP) _ _ _ from ah ⟨rfl,h',tk,rfl,z1,z2⟩)
    ·have n1:=PySem.F.sub_tuple_set
     have n2:=PySem.F.sub_tuple_frozenset
     have n3:(cU "tuple"==cU "dict")=false:=by decide
     have l1:(s.heap.push {cls:=.type "set",dict:=none,data:=.set #[] 0 (.fresh 0 0 led)}).IsTuple a its:=⟨_,g2,rfl,k,rfl⟩
     unfold cF.«set.__init__» noKeywords iA;generalize hPI:pyIter=PI
     wp_walk
     subst hPI
     refine iT l1 (ae (lE ?_))
     refine run _ _ _ _ _ _ _ _ ((Walks.tuple h3 _ a neI its).toS) (fun i v hv=> hv) nf ⟨⟨_,ay _ rfl,rfl,rfl⟩,?_⟩ ⟨led,hled,ai _ g0⟩ ?_
     ·exact⟨_,ai _ g2,rfl,k,rfl⟩
     intro s' mv hS'
     obtain⟨h',tk,rfl,z1,z2⟩:=fin _ s' mv hS'
     exact ah (show wpAny _ _ (ret bP) _ _ _ from ah ⟨rfl,h',tk,rfl,z1,z2⟩)
   ·cases r2 with
    |error e=> exact hr2
    | ok f2=>
     cases f2 with
     |ret u=>
      obtain⟨rfl,h',tk,rfl,z1,z2⟩:=hr2
      repeat any_goals (first|assumption|wp_step)
      exact h h' tk z1 z2
     |next=> exact hr2.elim
     |brk=> exact hr2.elim
     |cont=> exact hr2.elim
  |next=> exact hr.elim
  |brk=> exact hr.elim
  |cont=> exact hr.elim
theorem amr{oc:Obj}(hh:A.handled=none)(hT:T="list"\/T="tuple")(ho:s.heap.get? a=some oc)(hc:oc.cls=.type T){its:Array af}(hd:oc.data=.seq its k)(xs:List Str)(hx:jo (xs.map V.str) its.toList)(hb:its.size+1 < bE)(h: ∀(h':Heap) (tk:Nat),xr prog w h' s.heap.objs.size (fun y=> decide (y∈jm xs)) (jm xs).length -> (∀b o,b < s.heap.objs.size -> s.heap.get? b=some o -> h'.get? b=some o) -> Q (.ref s.heap.objs.size) {s with heap:=h',toks:=tk}):
  wpAny (model prog w) A (call (.type "set") [.ref a]) Q E s:=by
 have hlen:xs.length=its.size:=by
  have:=hx.length
  rw [am]at this
  simpa using this
 refine ajp hh hT ho hc hd (fun A' I fp wr P St s0 R W hP nf st g0 k=> ?_) h
 obtain⟨led,hled,g0⟩:=g0
 refine aw5 W s.heap.objs.size nf xs hlen (fun i v hv=> ?_) hb its.size 0 s0 (by lia) st ⟨_,#[],0,_,g0,⟨rfl,rfl,rfl⟩,rfl,⟨fun e he=> by simp at he,fun k=> by simp [jm],by decide,rfl,rfl⟩,hled,fun z=> absurd rfl z⟩ k
 have hv:=hP i v hv
 have hi:i < its.size:=(bM.mp hv).1
 have hxi:(xs.map V.str)[i]?=some (.str xs[i]):=by rw [aR,au (by lia)];rfl
 obtain⟨u,hu,ru⟩:=hx.get hxi
 rw [cw,hv]at hu
 cases hu
 obtain⟨t,e⟩:=(show∃t,v=fE xs[i] t from ru)
 exact⟨xs[i],t,au (by lia),e⟩
def alj(P:aV)(w:aZ)(p:Addr)(xs:List Str):HO:=.ext fun h=> xr P w h p (fun y=> decide (y∈jm xs)) (jm xs).length
theorem a0b{xs:List Str}(hS:xr P w h p (fun y=> decide (y∈jm xs)) (jm xs).length):j7 P w H h p (alj P w p xs):=by
 refine⟨hS,?_,fun h1 h2 z k=> ?_⟩
 ·obtain⟨o,_,_,_,e,_⟩:=hS
  exact⟨o,e⟩
 ·obtain⟨o,es,ep,t,e,q⟩:=z
  exact⟨o,es,ep,t,k o e,q⟩
theorem asx(hc:X.calm=true):ve X (.type "set") (fun vs H Q=> ∃a xs,vs=[.ref a]/\(SqL X.K H a (xs.map V.str)\/SqT X.K H a (xs.map V.str))/\xs.length < 4000/\ ∀p H',New H p (alj X.prog X.w p xs) H' -> Q (.ref p) H'):=by
 intro pins s σ H vs us Q I r h
 obtain⟨a,xs,rfl,hS,hl,q⟩:=h
 obtain⟨u,rfl,ru⟩:=vals1 r
 cases ru
 have hh:=I.ok.hd hc
 have fin: ∀(h':Heap) (tk:Nat),xr X.prog X.w h' s.heap.objs.size (fun y=> decide (y∈jm xs)) (jm xs).length -> (∀b o,b < s.heap.objs.size -> s.heap.get? b=some o -> h'.get? b=some o) ->
   EP X pins σ Q (.ref s.heap.objs.size) {s with heap:=h',toks:=tk}:=fun h' tk z k=>
  ⟨.ref s.heap.objs.size,upd H s.heap.objs.size (alj X.prog X.w s.heap.objs.size xs),I.laid (fun b u e=> k b u (ar e) e) (ao _) (a0b z),rfl,q _ _ ⟨I.fresh,rfl⟩⟩
 rcases hS with hS|hS
 ·obtain⟨its,rv,⟨o,n,e,c,dd,d⟩,z⟩:=I.list hS
  have hsz:its.toArray.size+1 < bE:=by
   have:=rv.length
   rw [am]at this
   rw [az]
   unfold bE
   lia
  exact amr hh (.inl rfl) e c d xs (by simpa using rv) hsz fin
 ·obtain⟨its,rv,⟨o,e,c,n,d⟩,z⟩:=I.tuple hS
  have hsz:its.toArray.size+1 < bE:=by
   have:=rv.length
   rw [am]at this
   rw [az]
   unfold bE
   lia
  exact amr hh (.inr rfl) e c d xs (by simpa using rv) hsz fin
theorem arv:ve X (.builtin "len") (fun vs H Q=> ∃a xs,vs=[.ref a]/\H a=some (alj X.prog X.w a xs)/\Q (.int (jm xs).length) H):=by
 intro pins s σ H vs us Q I r h
 obtain⟨a,xs,rfl,hS,q⟩:=h
 obtain⟨u,rfl,ru⟩:=vals1 r
 cases ru
 obtain⟨hh,_,_⟩:=(show j7 X.prog X.w H s.heap a (alj X.prog X.w a xs) from I.hok a _ hS)
 obtain⟨o,es,ep,t,e,ex,d,⟨_,_,hb,hf,hn⟩,_⟩:=hh
 refine call_len_set e ex d hf (by unfold bE at hb;lia) ⟨.int es.size,H,I.tok _,⟨_,rfl⟩,?_⟩
 rw [hn]
 exact q
theorem xy:Slot "set_iterator" "__next__" "set_iterator.__next__":=.of (owner:="set_iterator") (n:="__next__") (by rw [kW,gY];kernel_rfl) (by decide+kernel) (by decide+kernel) (by decide+kernel) (by first|exact .inl (by decide+kernel)|exact .inr (by decide+kernel)) (by rw [iB];kernel_rfl)
theorem adr:entryFor table "set_iterator.__next__"=some cF.«set_iterator.__next__»:=entryFor_of_tree (by kernel_rfl)
theorem amp:Manifest.owners.lookup (String.ofList ['r','o','t','a','r','e','t','i','_','t','e','s'].reverse)=some Manifest.sig_set_iterator:=by kernel_rfl
theorem afn(a:af):argsOk "set_iterator.__next__" ⟨[a],[]⟩:=by
 unfold argsOk;rw [md (id:="set_iterator.__next__") (n:=['_','_','t','x','e','n','_','_']) (o:=['r','o','t','a','r','e','t','i','_','t','e','s']) (by kernel_rfl) amp];kernel_rfl
theorem aop:Slot "set" "__iter__" "set.__iter__":=.of (owner:="set") (n:="__iter__") (by rw [kW,gY];kernel_rfl) (by decide+kernel) (by decide+kernel) (by decide+kernel) (by first|exact .inl (by decide+kernel)|exact .inr (by decide+kernel)) (by rw [iB];kernel_rfl)
theorem auw:entryFor table "set.__iter__"=some cF.«frozenset.__iter__»:=entryFor_alias (id':="frozenset.__iter__") (by kernel_rfl) rfl (by decide+kernel) (by kernel_rfl)
theorem azt(a:af):argsOk "set.__iter__" ⟨[a],[]⟩:=by
 unfold argsOk;rw [md (id:="set.__iter__") (n:=['_','_','r','e','t','i','_','_']) (o:=['t','e','s']) (by kernel_rfl) PySem.F.owner_set];kernel_rfl
noncomputable def sIt(fst:af)(i:Nat)(a:Addr)(n ep:Nat):Obj:={cls:=.type "set_iterator",dict:=none,data:=.fields #[fst,rawInt i,.ref a,rawInt n,rawInt ep],slots:= #[]}
section
variable{prog:aV}{w:aZ}{A:br}{E:af -> aj -> Prop}{s:aj}{I a:Addr}{i n ep:Nat}{o:Obj}{es:Array (Int×af)}{t:cS}{Q:Option af -> aj -> Prop}
theorem avb{sl nx:Nat}{x:af}(hI:s.heap.get? I=some (sIt (rawInt sl) i a n ep))(ho:s.heap.get? a=some o)(hd:o.data=.set es ep t)(hf:t.fits es.size=true)(hn:es.size=n)
  (hx: ∀(E':af -> aj -> Prop) (Q':Option (af×Nat) -> aj -> Prop),Q' (some (x,nx)) s -> wpAny (model prog w) A.in1 (setNext a sl i ep) Q' E' s)
  (hQ: ∀h',h'.get? I=some (sIt (rawInt nx) (i+1) a n ep) -> bI I s.heap h' -> Q (some x) {s with heap:=h'}):wpAny (model prog w) A (pyNext (.ref I)) Q E s:=by
 unfold pyNext
 refine ae (dq (bz (name:=bJ "__next__") ⟨_,hI,rfl⟩ xy (bB xy ⟨_,hI,rfl⟩ adr ?_ (afn _))))
 unfold cF.«set_iterator.__next__»
 refine ae (ah ?_);refine ae (iC hI rfl ?_)
 dsimp only [rawInt]
 refine ae (eK ho hd hf ?_)
 rw [if_neg (by rw [hn];simp)]
 refine ae (hx _ _ ?_)
 refine ae (cz hI rfl (by simp) ?_)
 have g1:=bK (de (·.setIfInBounds 0 (rawInt nx))) hI rfl
 refine ae (cz g1 rfl (by simp [de,sIt]) ?_)
 have g2:=bK (de (·.setIfInBounds 1 (rawInt ((i:Int)+1)))) g1 rfl
 refine ah ⟨_,rfl,ah (hQ _ ?_ ((b7 ..).trans (b7 ..)))⟩
 exact g2
theorem axe{sl:Nat}(hh:A.handled=none)(hI:s.heap.get? I=some (sIt (rawInt sl) i a n ep))(ho:s.heap.get? a=some o)(hd:o.data=.set es ep t)(hf:t.fits es.size=true)(hn:es.size=n)
  (hx: ∀(E':af -> aj -> Prop) (Q':Option (af×Nat) -> aj -> Prop),Q' none s -> wpAny (model prog w) A.in1 (setNext a sl i ep) Q' E' s)
  (hQ: ∀h',fj I s.heap h' -> Q none {s with heap:=h'}):wpAny (model prog w) A (pyNext (.ref I)) Q E s:=by
 unfold pyNext
 refine ae (dq (bz (name:=bJ "__next__") ⟨_,hI,rfl⟩ xy (bB xy ⟨_,hI,rfl⟩ adr ?_ (afn _))))
 unfold cF.«set_iterator.__next__»
 refine ae (ah ?_);refine ae (iC hI rfl ?_)
 dsimp only [rawInt]
 refine ae (eK ho hd hf ?_)
 rw [if_neg (by rw [hn];simp)]
 refine ae (hx _ _ ?_)
 refine ae (cz hI rfl (by simp) ?_)
 refine ae ?_
 simp only [newExc,newTuple]
 refine ae (bA ?_ (by size_fits));refine ae (m:=iD _ _) (mT (a:=bP) (by first|rfl|(simp only [iD];rfl)) ?_)
 refine bA ?_ (by size_fits);simp only [raiseNew]
 refine ae (me ?_);rw [show A.in1.handled=none from hh]
 refine ae (ah (mU ?_));refine ae (eD (T:="StopIteration") (b:=true) ⟨_,ay _ rfl,rfl⟩ iE ?_);exact ah (hQ _ (((b7 ..).extBut.push _).push _))
theorem awn{T:Addr}{oT:Obj}{ps:Array af}{kT p:Nat}{x:af}{hv:Int}{tp:Tok}(hI:s.heap.get? I=some (sIt (.ref T) i a n ep))(ho:s.heap.get? a=some o)(hd:o.data=.set es ep t)(hf:t.fits es.size=true)(hn:es.size=n)
  (hT:s.heap.get? T=some oT) (hTd:oT.data=.seq ps kT) (hp:ps[i]?=some (.int p tp)) (hx:es[p]?=some (hv,x))
  (hQ: ∀h',h'.get? I=some (sIt (.ref T) (i+1) a n ep) -> bI I s.heap h' -> Q (some x) {s with heap:=h'}):wpAny (model prog w) A (pyNext (.ref I)) Q E s:=by
 unfold pyNext
 refine ae (dq (bz (name:=bJ "__next__") ⟨_,hI,rfl⟩ xy (bB xy ⟨_,hI,rfl⟩ adr ?_ (afn _))))
 unfold cF.«set_iterator.__next__»
 refine ae (ah ?_);refine ae (iC hI rfl ?_)
 dsimp only [rawInt]
 refine ae (eK ho hd hf ?_)
 rw [if_neg (by rw [hn];simp)]
 refine ae ?_
 unfold seqItems?
 refine ae (jK hT ?_)
 rw [hTd]
 refine ah ?_
 dsimp only
 rw [show (Int.toNat (i:Int))=i from cH i,hp]
 dsimp only
 refine ae ?_
 unfold setNextDrawn
 refine ae (dE ho hd hf ?_);dsimp only
 rw [if_neg (by simp)]
 rw [show (Int.toNat (p:Int))=p from cH p,hx]
 refine ah ?_
 refine ae (cz hI rfl (by simp) ?_)
 have g1:=bK (de (·.setIfInBounds 1 (rawInt ((i:Int)+1)))) hI rfl
 refine ah ⟨_,rfl,ah (hQ _ ?_ (b7 ..))⟩
 exact g1
theorem ax6{T:Addr}{oT:Obj}{ps:Array af}{kT:Nat}(hh:A.handled=none)(hI:s.heap.get? I=some (sIt (.ref T) i a n ep))(ho:s.heap.get? a=some o)(hd:o.data=.set es ep t)(hf:t.fits es.size=true)(hn:es.size=n)
  (hT:s.heap.get? T=some oT) (hTd:oT.data=.seq ps kT) (hp:ps[i]?=none)
  (hQ: ∀h',fj I s.heap h' -> Q none {s with heap:=h'}):wpAny (model prog w) A (pyNext (.ref I)) Q E s:=by
 unfold pyNext
 refine ae (dq (bz (name:=bJ "__next__") ⟨_,hI,rfl⟩ xy (bB xy ⟨_,hI,rfl⟩ adr ?_ (afn _))))
 unfold cF.«set_iterator.__next__»
 refine ae (ah ?_);refine ae (iC hI rfl ?_)
 dsimp only [rawInt]
 refine ae (eK ho hd hf ?_)
 rw [if_neg (by rw [hn];simp)]
 refine ae ?_
 unfold seqItems?
 refine ae (jK hT ?_)
 rw [hTd]
 refine ah ?_
 dsimp only
 rw [show (Int.toNat (i:Int))=i from cH i,hp]
 dsimp only
 refine ae (cz hI rfl (by simp) ?_)
 have g1:=bK (de (·.setIfInBounds 0 (rawInt 0))) hI rfl
 refine ae (cz g1 rfl (by simp [de,sIt]) ?_)
 refine ae ?_
 simp only [newExc,newTuple]
 refine ae (bA ?_ (by size_fits));refine ae (m:=iD _ _) (mT (a:=bP) (by first|rfl|(simp only [iD];rfl)) ?_)
 refine bA ?_ (by size_fits);simp only [raiseNew]
 refine ae (me ?_);rw [show A.in1.handled=none from hh]
 refine ae (ah (mU ?_));refine ae (eD (T:="StopIteration") (b:=true) ⟨_,ay _ rfl,rfl⟩ iE ?_)
 exact ah (hQ _ ((((b7 ..).trans (b7 ..)).extBut.push _).push _))
end
theorem aoy:Slot "set_iterator" "__iter__" "set_iterator.__iter__":=.of (owner:="set_iterator") (n:="__iter__") (by rw [kW,gY];kernel_rfl) (by decide+kernel) (by decide+kernel) (by decide+kernel) (by first|exact .inl (by decide+kernel)|exact .inr (by decide+kernel)) (by rw [iB];kernel_rfl)
theorem awc:entryFor table "set_iterator.__iter__"=some cF.«dict_keyiterator.__iter__»:=entryFor_alias (id':="dict_keyiterator.__iter__") (by kernel_rfl) rfl (by decide+kernel) (by kernel_rfl)
theorem az9(a:af):argsOk "set_iterator.__iter__" ⟨[a],[]⟩:=by
 unfold argsOk;rw [md (id:="set_iterator.__iter__") (n:=['_','_','r','e','t','i','_','_']) (o:=['r','o','t','a','r','e','t','i','_','t','e','s']) (by kernel_rfl) amp];kernel_rfl
section
variable{prog:aV}{w:aZ}{A:br}{E:af -> aj -> Prop}{s:aj}{I a:Addr}{i n ep:Nat}{o:Obj}{es:Array (Int×af)}{t:cS}
theorem ap3{fst:af}(hI:s.heap.get? I=some (sIt fst i a n ep))(h:Q (.ref I) s):wpAny (model prog w) A (pyIter (.ref I)) Q E s:=by
 refine wpAny_pyIter_slot ⟨_,hI,rfl⟩ aoy (bB aoy ⟨_,hI,rfl⟩ awc ?_ (az9 _))
 show wpAny _ _ (ret (.ref I)) _ _ s
 exact ah ⟨_,rfl,"set_iterator",_,⟨_,hI,rfl⟩,xy.lookup,h⟩
theorem ayc(hh:A.handled=none)(hne:a≠I)(hd:o.data=.set es ep t)(hf:t.fits es.size=true)(ord:List af)(hn:es.size=ord.length)(sl:Nat -> Nat)
  (step: ∀(i:Nat) (x:af) (s:aj) (E':af -> aj -> Prop) (Q':Option (af×Nat) -> aj -> Prop),s.heap.get? a=some o -> ord[i]?=some x -> Q' (some (x,sl (i+1))) s -> wpAny (model prog w) A.in1 (setNext a (sl i) i ep) Q' E' s)
  (stop: ∀(s:aj) (E':af -> aj -> Prop) (Q':Option (af×Nat) -> aj -> Prop),s.heap.get? a=some o -> Q' none s -> wpAny (model prog w) A.in1 (setNext a (sl ord.length) ord.length ep) Q' E' s):
  m9 prog w A I [I,a] [I] ord.length (fun i v=> ord[i]?=some v) (fun i h=> h.get? I=some (sIt (rawInt (sl i)) i a ord.length ep)/\h.get? a=some o) where
 sub:=fun b hb=> (aO.mp hb)▸aD
 frame:=fun _ _ _ st k=> ⟨k I (by simp) _ st.1,k a (by simp) _ st.2⟩
 item:=fun i s R E hi st hQ=> by
  refine avb st.1 st.2 hd hf hn (fun E' Q' z=> step i ord[i] s E' Q' st.2 (au hi) z) fun h' g sb=> ?_
  exact hQ _ h' s.toks (au hi) ⟨g,(sb.2 a hne).trans st.2⟩ fun b u hb e=> (sb.2 b (fun z=> hb (by simp [z]))).trans e
 done:=fun s Q E st hQ=> axe hh st.1 st.2 hd hf hn (fun E' Q' z=> stop s E' Q' st.2 z) fun h' x=> hQ h' s.toks fun b u hb e=> x b u (fun z=> hb (by simp [z])) e
 self:=fun _ _ _ _ st hQ=> ap3 st.1 hQ
theorem a7l{T:Addr}{oT:Obj}{ps:Array af}{kT:Nat}(hh:A.handled=none)(hne:a≠I)(hT:T≠I)(hd:o.data=.set es ep t)(hf:t.fits es.size=true)(ord:List af)(hn:es.size=ord.length)(hTd:oT.data=.seq ps kT)
  (hps:ps.size=ord.length) (step: ∀(i:Nat) (x:af),ord[i]?=some x -> ∃(p:Nat) (tp:Tok) (hv:Int),ps[i]?=some (.int p tp)/\es[p]?=some (hv,x)):
  m9 prog w A I [I,a,T] [I] ord.length (fun i v=> ord[i]?=some v) (fun i h=> h.get? I=some (sIt (.ref T) i a ord.length ep)/\h.get? a=some o/\h.get? T=some oT) where
 sub:=fun b hb=> (aO.mp hb)▸aD
 frame:=fun _ _ _ st k=> ⟨k I (by simp) _ st.1,k a (by simp) _ st.2.1,k T (by simp) _ st.2.2⟩
 item:=fun i s R E hi st hQ=> by
  obtain⟨p,tp,hv,e1,e2⟩:=step i ord[i] (au hi)
  refine awn st.1 st.2.1 hd hf hn st.2.2 hTd e1 e2 fun h' g sb=> ?_
  exact hQ _ h' s.toks (au hi) ⟨g,(sb.2 a hne).trans st.2.1,(sb.2 T hT).trans st.2.2⟩ fun b u hb e=> (sb.2 b (fun z=> hb (by simp [z]))).trans e
 done:=fun s Q E st hQ=> ax6 hh st.1 st.2.1 hd hf hn st.2.2 hTd (by rw [←hps];simp) fun h' x=> hQ h' s.toks fun b u hb e=> x b u (fun z=> hb (by simp [z])) e
 self:=fun _ _ _ _ st hQ=> ap3 st.1 hQ
theorem aru{src:Source}{Q:Nat -> aj -> Prop}(hk:k≠0)(h: ∀j d',j < k -> Q j {s with drawn:=d'}):wpAny (model prog w) A (choose src k) Q E s:=
 fun Γ p _=> by
  unfold choose
  rw [Sem.wp_choose]
  exact⟨hk,h _ _ (Nat.mod_lt _ (Nat.pos_of_ne_zero hk))⟩
theorem z0{α:Type}: ∀{xs:List α} {j:Nat} {x:α},xs[j]?=some x -> (x::xs.eraseIdx j).Perm xs
 |[],_,_,e=> by simp at e
 |y::r,0,x,e=> by simp at e;subst e;exact .refl _
 |y::r,j+1,x,e=> by
  rw [eO]at e
  rw [kH]
  exact (gZ.swap _ _ _).trans ((z0 e).cons _)
theorem ale{α:Type}: ∀(k:Nat) (xs:List α) (s:aj) (Q:List α -> aj -> Prop),xs.length <=k -> (∀ys d',ys.Perm xs -> Q ys {s with drawn:=d'}) -> wpAny (model prog w) A (mJ k xs) Q E s
 |0,[],s,Q,_,h=> by unfold mJ;exact ah (h [] s.drawn (.refl _))
 |_+1,[],s,Q,_,h=> by unfold mJ;exact ah (h [] s.drawn (.refl _))
 |0,_::_,_,_,z,_=> absurd z (by simp)
 |k+1,y::r,s,Q,z,h=> by
  unfold mJ
  refine ae (aru (by simp) fun j d' hj=> ?_)
  rw [au hj]
  dsimp only
  have l:((y::r).eraseIdx j).length <=k:=by rw [i6 hj];simpa using z
  refine ae (ale k _ _ _ l fun ys d'' p=> ah (h _ d'' ?_))
  exact (p.cons _).trans (z0 (au hj))
theorem au6{α:Type}(nx:Nat -> Nat)(xs:Array α):(g6 nx xs).toList.Perm xs.toList:=by
 have all: ∀(f k:Nat) (left:List α) (out:Array α),left.length <=f -> (mK nx f k left out).toList.Perm (out.toList++left):=by
  intro f
  induction f with
  |zero=>
   intro k left out z
   have:left=[]:=gA.mp (Nat.le_zero.mp z)
   subst this
   unfold mK
   simp
  | succ f ih=>
   intro k left out z
   unfold mK
   cases left with
   |nil=> simp
   |cons y r=>
    have hj:nx k % (y::r).length < (y::r).length:=Nat.mod_lt _ (by simp)
    rw [au hj]
    dsimp only
    refine (ih _ _ _ (by rw [i6 hj];simpa using z)).trans ?_
    rw [jG,cx]
    exact gZ.append_left _ (z0 (au hj))
 unfold g6
 have:=all xs.size 0 xs.toList #[] (by simp)
 simpa using this
end
section
variable{prog:aV}{w:aZ}{A:br}{E:af -> aj -> Prop}{s:aj}{I a:Addr}{i n ep:Nat}{o:Obj}{es:Array (Int×af)}{t:cS}
theorem acb{Q:Bool -> aj -> Prop}(h:Q (w.params.followText "set-order") s):wpAny (model prog w) A setsByText Q E s:=by
 unfold setsByText;exact ae (kA (ah h))
theorem aj8{sl:Nat}{Q:Option (af×Nat) -> aj -> Prop}(hb:w.params.followText "set-order"=true)(ho:s.heap.get? a=some o)(hd:o.data=.set es ep t)(hf:t.fits es.size=true)
  (h:Q (((g6 (w.params.setOrder a ep) es).toList.map (·.2))[i]?.map fun x=> (x,sl)) s):wpAny (model prog w) A (setNext a sl i ep) Q E s:=by
 unfold setNext
 refine ae (dE ho hd hf ?_);refine ae (acb ?_)
 rw [hb,if_pos rfl]
 dsimp only
 rw [if_neg (by simp)]
 refine ae ?_
 unfold setWalk
 refine ae (dE ho hd hf ?_);refine ae (acb ?_)
 rw [hb,if_pos rfl]
 refine ae (kA (ah (ah ?_)))
 have e:((g6 (w.params.setOrder a ep) es).toList.map (·.2))[i]?.map (fun x=> (x,sl))=((g6 (w.params.setOrder a ep) es)[i]?).map fun e=> (e.2,sl):=by
  rw [aR,cw]
  cases (g6 (w.params.setOrder a ep) es)[i]? <;> rfl
 rw [e]at h
 exact h
theorem ai3{sl:Nat}{Q:Option (af×Nat) -> aj -> Prop}(hb:w.params.followText "set-order"=false)(hl:t.led=true)(hz:(!t.plain&&decide (es.size > 1))=false)(ho:s.heap.get? a=some o)(hd:o.data=.set es ep t)(hf:t.fits es.size=true)
  (h:Q (match es[cQ t.place sl]?,t.place[cQ t.place sl]? with|some (_,x),some j=> some (x,j+1)|_,_=> none) s):wpAny (model prog w) A (setNext a sl i ep) Q E s:=by
 unfold setNext
 refine ae (dE ho hd hf ?_);refine ae (acb ?_)
 rw [hb,if_neg aw];dsimp only
 refine ib (fun c=> ?_) (fun _=> ?_)
 ·have c':(!t.plain&&decide (es.size > 1))=true:=c
  rw [hz]at c'
  cases c'
 refine ae ?_
 show wpAny _ _ (if (!t.led&& !es.isEmpty)=true then unsupported "set:maker-not-led" else pure ()) _ _ _
 rw [hl,if_neg (by simp)];exact ah (ah h)
theorem ai5{p:Array Nat}(h:ST.Ris p.toList)(hi:i <=p.size):cQ p (if i=0 then 0 else p.getD (i - 1) 0+1)=i:=by
 obtain⟨b1,b2,b3⟩:=ST.below_spec p (if i=0 then 0 else p.getD (i - 1) 0+1) h
 generalize hb:cQ p (if i=0 then 0 else p.getD (i - 1) 0+1)=b at b1 b2 b3
 have gd: ∀(k d:Nat) (hk:k < p.size),p.getD k d=p[k]:=fun k d hk=> by simp [h9,hk]
 have lt: ∀(x y:Nat) (hx:x < y) (hy:y < p.size),p[x] < p[y]:=fun x y hx hy=> by
  have:=ST.ris_get h hx (by rw [aM];exact hy)
  simpa using this
 rcases Nat.lt_trichotomy b i with z|z|z
 ·have hi0:i≠0:=by lia
  rw [if_neg hi0]at b3
  have:=b3 (i - 1) (by lia) (by lia)
  rw [gd (i - 1) _ (by lia),gd (i - 1) _ (by lia)]at this
  lia
 ·exact z
 ·have:=b2 i z
  rw [gd i _ (by lia)]at this
  by_cases hi0:i=0
  ·rw [if_pos hi0]at this;lia
  ·rw [if_neg hi0,gd (i - 1) _ (by lia)]at this
   have:=lt (i - 1) i (by lia) (by lia)
   lia
structure Beg (prog:aV) (w:aZ) (A:br) (s:aj) (a:Addr) (es:Array (Int×af)) (I:Addr) (h1:Heap) (ord:List af) (fp:List Addr) (St:Nat -> Heap -> Prop):Prop where
 perm:ord.Perm (es.toList.map (·.2))
 keep: ∀b u,s.heap.get? b=some u -> h1.get? b=some u
 new:s.heap.objs.size <=I
 away: ∀b∈fp,b=a\/s.heap.objs.size <=b
 lt: ∀b∈fp,b < h1.objs.size
 walk:m9 prog w A I fp [I] ord.length (fun i v=> ord[i]?=some v) St
 st:St 0 h1
theorem aqf(es:Array (Int×af)):(ej es.size).map (fun p=> (es[p]?.map (·.2)).getD .none)=es.toList.map (·.2):=by
 refine gE fun j=> ?_
 rw [aR,aR,cw (xs:=es)]
 by_cases c:j < es.size
 ·rw [ml c,bT c];simp [c]
 ·rw [dY (by simpa using c),gK (by lia)];rfl
theorem a1k(hh:A.handled=none)(ho:s.heap.get? a=some o)(hex:o.ExactSet)(hd:o.data=.set es ep t)(hf:t.fits es.size=true)(hz:es.size < bE)(tx:aii w es.size t)(hQ: ∀I h1 d' ord fp St,Beg prog w A s a es I h1 ord fp St -> Q (.ref I) {s with heap:=h1,drawn:=d'}):wpAny (model prog w) A (pyIter (.ref a)) Q E s:=by
 have hT:s.TypeIs (.ref a) "set":=⟨o,ho,hex.1⟩;have hal:a < s.heap.objs.size:=ar ho
 refine wpAny_pyIter_slot hT aop (bB aop hT auw ?_ (azt _))
 unfold cF.«frozenset.__iter__» Builtin.Frozenset.slot0 slotArgs
 simp only [List.isEmpty_nil,iW,cL,↓reduceIte,bind_assoc,dZ,bne_self_eq_false];unfold Builtin.Frozenset.addrOf Builtin.Frozenset.sizeOf
 refine ae (ah ?_);try dsimp only
 refine ae (ah ?_);refine ae (ae (eK ho hd hf (ah ?_)))
 refine ae ?_
 unfold setDrawn
 refine ae (dE ho hd hf ?_);refine ae (acb (ah ?_))
 have fin: ∀(fst:af) (h0:Heap) (d':Drawn) (ord:List af) (fp:List Addr) (St:Nat -> Heap -> Prop),(∀b u,s.heap.get? b=some u -> h0.get? b=some u) -> ord.Perm (es.toList.map (·.2)) ->
   (∀b∈fp,b=a\/s.heap.objs.size <=b) -> (∀b∈fp,b < h0.objs.size+1) -> s.heap.objs.size <=h0.objs.size ->
   m9 prog w A h0.objs.size fp [h0.objs.size] ord.length (fun i v=> ord[i]?=some v) St -> St 0 (h0.push (sIt fst 0 a es.size ep)) ->
   wpAny (model prog w) A.in1 (do
    let e←setEpoch a
    let v←newFields "set_iterator" [fst,rawInt 0,aH a,rawInt es.size,rawInt e]
    ret v) (fun f s'=> ∃v,f=Fin.done (Flow.ret v)/\ ∃T' r,s'.TypeIs v T'/\typeLookup (cU T') (bJ "__next__")=pure (some r)/\Q v s') E {s with heap:=h0,drawn:=d'}:=by
  intro fst h0 d' ord fp St k p f1 f2 l W z
  refine ae (wpAny_setEpoch_of (k _ _ ho) hd hf ?_)
  unfold newFields
  refine ae (bA ?_);refine ah ⟨_,rfl,"set_iterator",_,⟨_,ay _ rfl,rfl⟩,xy.lookup,hQ _ _ d' ord fp St ⟨p,fun b u e=> ai _ (k b u e),l,f1,fun b hb=> by rw [bd];exact f2 b hb,W,z⟩⟩
 have len: ∀{ord:List af},ord.Perm (es.toList.map (·.2)) -> es.size=ord.length:=fun p=> by
  rw [p.length_eq,am,aM]
 have two1: ∀b∈ [s.heap.objs.size,a],b=a\/s.heap.objs.size <=b:=fun b m=> by
  rcases aq.mp m with e|m
  ·exact .inr (fA e.symm)
  ·exact .inl (aO.mp m)
 have two2: ∀b∈ [s.heap.objs.size,a],b < s.heap.objs.size+1:=fun b m=> by
  rcases aq.mp m with e|m
  ·exact e▸eI _
  ·rw [aO.mp m];exact dh hal
 cases hb:w.params.followText "set-order" with
 | true=>
  rw [if_neg (by simp)]
  have p:=((au6 (w.params.setOrder a ep) es).map (·.2))
  refine ae (ah (fin _ _ _ ((g6 (w.params.setOrder a ep) es).toList.map (·.2)) [s.heap.objs.size,a] _ (fun _ _ e=> e) p two1 two2 (ao _) (ayc hh (aP hal) hd hf _ (len p) (fun _=> 0) ?_ ?_) ⟨?_,ai _ ho⟩))
  ·intro i x s E' Q' e1 e2 z
   refine aj8 hb e1 hd hf ?_
   rw [e2];exact z
  ·intro s E' Q' e1 z
   refine aj8 hb e1 hd hf ?_
   rw [dY (ao _)];exact z
  ·rw [←len p];exact ay _ rfl
 | false=>
  by_cases hz2:(!t.plain&&decide (es.size > 1))=true
  ·rw [aJ,Bool.not_eq_true',decide_eq_true_eq]at hz2
   obtain⟨hp,hz1⟩:=hz2
   rw [if_pos (by show (!false&&(!t.plain&&decide (es.size > 1)))=true;rw [hp,decide_eq_true hz1];rfl)]
   refine ae (ale _ _ _ _ (by simp) fun ys d' p=> ?_)
   have l:ys.length=es.size:=by rw [p.length_eq,List.length_range]
   have big:es.size <=sizeLine:=ee hz
   unfold newTuple
   refine ae (bA ?_ (by show (ys.map fun (i:Nat)=> rawInt i).toArray.size <=sizeLine;simpa [l] using big))
   have q:(ys.map fun p=> (es[p]?.map (·.2)).getD .none).Perm (es.toList.map (·.2)):=by rw [←aqf es];exact p.map _
   refine fin (.ref s.heap.objs.size) _ d' (ys.map fun p=> (es[p]?.map (·.2)).getD .none) [(s.heap.push _).objs.size,a,s.heap.objs.size] _ (fun _ _ e=> ai _ e) q ?_ ?_ (by rw [bd];exact eB _)
    (a7l (oT:={cls:=.type "tuple",data:=.seq (ys.map fun (i:Nat)=> rawInt i).toArray}) (ps:=(ys.map fun (i:Nat)=> rawInt i).toArray) hh (by rw [bd];exact aP (dh hal)) (by rw [bd];exact aP (eI _)) hd hf _ (len q) rfl (by simp) ?_) ⟨?_,?_,?_⟩
   ·intro b m
    rw [bd]at m
    simp only [aq,bf,or_false]at m
    rcases m with rfl|rfl|rfl
    ·exact .inr (eB _)
    ·exact .inl rfl
    ·exact .inr (ao _)
   ·intro b m
    rw [bd]at m⊢
    simp only [aq,bf,or_false]at m
    rcases m with rfl|rfl|rfl
    ·exact eI _
    ·exact dh (dh hal)
    ·exact Nat.le_succ_of_le (eI _)
   ·intro i x e
    rw [aR]at e
    cases c:ys[i]? with
    |none=> rw [c]at e;cases e
    | some j=>
     rw [c]at e
     have hj:j < es.size:=by
      have:=p.mem_iff.mp (hW c)
      simpa using this
     have hx:x=es[j].2:=by
      simp only [ic,d9]at e
      rw [←e,bT hj];rfl
     exact⟨j,0,es[j].1,by simp [c,rawInt],by rw [bT hj,hx]⟩
   ·rw [←len q];exact ay _ rfl
   ·exact ai _ (ai _ ho)
   ·exact ai _ (by exact ay _ rfl)
  ·have hz2:(!t.plain&&decide (es.size > 1))=false:=by simpa using hz2
   rw [if_neg (by
    show¬((!false&&(!t.plain&&decide (es.size > 1)))=true)
    rw [hz2];simp)]
   have hl:t.led=true:=by rw [tx.1,hb];rfl
   have hpl:t.place.size=es.size:=by
    simp only [SetTable.fits,aJ,beq_iff_eq]at hf
    exact hf.1
   have hr:ST.Ris t.place.toList:=by
    by_cases h1:es.size > 1
    ·rcases tx.2 (by lia) with z|z
     ·rw [z,decide_eq_true h1]at hz2;cases hz2
     ·exact z
    ·refine jN.mpr fun i j hi hj hij=> ?_
     rw [aM]at hj
     lia
   refine ae (ah (fin _ _ _ (es.toList.map (·.2)) [s.heap.objs.size,a] _ (fun _ _ e=> e) (.refl _) two1 two2 (ao _) (ayc hh (aP hal) hd hf _ (len (.refl _)) (fun i=> if i=0 then 0 else t.place.getD (i - 1) 0+1) ?_ ?_) ⟨?_,ai _ ho⟩))
   ·intro i x s E' Q' e1 e2 z
    have hi:i < es.size:=by
     rw [aR]at e2
     cases c:es.toList[i]? with
     |none=> rw [c]at e2;cases e2
     |some _=> simpa using (aC.mp c).1
    refine ai3 hb hl hz2 e1 hd hf ?_
    rw [ai5 hr (by lia)]
    have g1:es[i]?=some (es[i].1,x):=by
     rw [bT hi]
     rw [aR,cw,bT hi]at e2
     simp only [ic,d9]at e2
     rw [←e2]
    have g2:t.place[i]?=some (t.place.getD i 0):=by
     have:i < t.place.size:=by lia
     rw [bT this]
     simp [h9,this]
    rw [g1,g2]
    exact z
   ·intro s E' Q' e1 z
    refine ai3 hb hl hz2 e1 hd hf ?_
    rw [show (es.toList.map (·.2)).length=t.place.size by simp [hpl],ai5 hr (ao _)]
    rw [gK (by lia)]
    exact z
   ·rw [←len (.refl _)];exact ay _ rfl
end
theorem Inv.drew(I:Inv X pins σ H s)(d':Drawn):Inv X pins σ H {s with drawn:=d'}:=
 ⟨I.ok,I.os,I.bare,I.base,I.loc,I.cell,I.free,I.freeC,I.pin,I.hok,I.len⟩
section
variable{prog:aV}{w:aZ}{A:br}{E:af -> aj -> Prop}{s:aj}{a:Addr}{ep:Nat}{o:Obj}{es:Array (Int×af)}{t:cS}
theorem awl{Q:Bool -> aj -> Prop}(hT:s.TypeIs (.ref a) "set")(h:Q false s):wpAny (model prog w) A (iU (.ref a)) Q E s:=by
 unfold iU;refine ae (dU hT PySem.F.slot_set_len.lookup ?_)
 generalize hid:("set.__len__":String)=id0
 wp_delta
 rw [show splitId id0=some ("set","__len__") from by subst hid;decide+kernel]
 subst hid
 refine ae (eD (T:="set") (b:=true) hT (by rw [iB];kernel_rfl) ?_)
 refine ib (fun z=> absurd z (by decide)) (fun _=> ?_)
 refine ib (fun _=> ?_) (fun z=> absurd (by decide+kernel) z)
 exact ae (gf hT (ah h))
theorem azv{R:hV -> aj -> Prop}(hh:A.handled=none)(ho:s.heap.get? a=some o)(hex:o.ExactSet)(hd:o.data=.set es ep t)(hf:t.fits es.size=true)(hz:es.size < bE)(tx:aii w es.size t)
  (S:Addr) (hSa:S≠a) (res:af) (hS:s.heap.get? S=some {cls:=.type "list",data:=.seq #[] 0})
  (hR: ∀h' d' tk (acc:Array af) c,acc.toList.Perm (es.toList.map (·.2)) -> (∀b u,b≠S -> s.heap.get? b=some u -> h'.get? b=some u) -> h'.get? S=some {cls:=.type "list",dict:=none,data:=.seq acc c,slots:= #[]} -> R (.ok (.ret res)) {s with heap:=h',drawn:=d',toks:=tk}):
  wpAny (model prog w) A.in1 (fF (.ref S) (.ref a) res) (fun fin s'=> match fin with|.done f=> R (.ok f) s'|.again c'=> c'.quiet=true/\codeAny (model prog w) A c' R s') (fun e s'=> R (.error e) s') s:=by
 have hT:s.TypeIs (.ref a) "set":=⟨o,ho,hex.1⟩;have hSl:S < s.heap.objs.size:=ar hS
 unfold fF;refine ae (gf (T:="set") hT ?_)
 have n1:kB (.ref S) (.ref a)=false:=by simp [kB,hSa]
 have n2:(cU "set"==cU "list")=false:=by decide
 have n3:(cU "set"==cU "tuple")=false:=by decide
 simp only [n1,n2,n3,l9,cL,if_false]
 refine ae (a1k hh ho hex hd hf hz tx fun I h1 d' ord fp St B=> ?_)
 have hSf:S∉fp:=fun m=> by
  rcases B.away S m with e|e
  ·exact hSa e
  ·exact absurd hSl (jP.mpr e)
 have hSI:S≠I:=fun e=> absurd hSl (jP.mpr (e▸B.new))
 have hlen:ord.length <=sizeLine:=by
  rw [B.perm.length_eq,am,aM];exact ee hz
 have key: ∀(h:Heap) (c1 tk:Nat),St 0 h -> (∀b u,b≠S -> s.heap.get? b=some u -> h.get? b=some u) -> h.get? S=some {cls:=.type "list",data:=.seq #[] c1} ->
   codeAny (model prog w) A (.builtin "list.extend.loop" ⟨[.ref S,.ref I,res],[]⟩) R {s with heap:=h,drawn:=d',toks:=tk}:=by
  intro h c1 tk st k g
  refine codeAny_extend_loopS B.walk.toS hlen S hSf res ord.length 0 _ #[] c1 rfl (dw _) st g (ItemsOf.nil _) fun s' acc c mv g' it=> ?_
  rw [Moved.eq_with mv]
  have ea:acc.toList=ord:=by
   refine gE fun j=> ?_
   rw [cw]
   cases c:acc[j]? with
   |some v=> exact (it.2 j v c).symm
   |none=>
    have:acc.size <=j:=Array.getElem?_eq_none_iff.mp c
    rw [it.1]at this
    exact (dY this).symm
  refine hR s'.heap d' s'.toks acc c (ea▸B.perm) (fun b u hb e=> mv.heap b u (fun m=> ?_) (k b u hb e)) g'
  rcases aq.mp m with e'|m
  ·exact hb e'
  ·exact absurd (ar e) (by rw [aO.mp m];exact jP.mpr B.new)
 have g1:=B.keep _ _ hS
 refine ae (bw (awl (a:=a) ⟨o,B.keep _ _ ho,hex.1⟩ ?_))
 refine ib (fun _=> ?_) (fun _=> ah ⟨fR jQ _,key _ 0 _ B.st (fun b u _ e=> B.keep b u e) g1⟩)
 refine ae (cM (ae ?_))
 show wpAny _ _ (updateSeq S (·.push .none)>>=fun _=> updateSeq S (·.pop)) _ _ _;refine ae (wpAny_updateSeq g1 rfl ?_)
 have g2:=bK (gu (·.push bP)) g1 rfl
 refine wpAny_updateSeq (hz:=by seq_fits) g2 rfl ?_
 have g3:=bK (gu (·.pop)) g2 rfl
 refine ah ⟨fR jQ _,key _ _ _ ?_ (fun b u hb e=> ?_) g3⟩
 ·refine B.walk.frame 0 _ _ B.st fun b hb u e=> ?_
  have hbS:S≠b:=fun z=> hSf (z▸hb)
  exact (bL _ _ hbS).trans ((bL _ _ hbS).trans e)
 ·exact (bL _ _ (cP hb)).trans ((bL _ _ (cP hb)).trans (B.keep _ _ e))
theorem av0{R:List af -> aj -> Prop}(hh:A.handled=none)(ho:s.heap.get? a=some o)(hex:o.ExactSet)(hd:o.data=.set es ep t)(hf:t.fits es.size=true)(hz:es.size < bE)(tx:aii w es.size t)
  (h: ∀h' d' tk (ord:List af),ord.Perm (es.toList.map (·.2)) -> (∀b u,s.heap.get? b=some u -> h'.get? b=some u) -> R ord {s with heap:=h',drawn:=d',toks:=tk}):wpAny (model prog w) A (collect (.ref a)) R E s:=by
 unfold collect
 refine ae (lE (dB entry_proto_collect' ?_));rw [dg PySem.F.plain_proto_collect _]
 refine (show wpAny _ A.in1 (newList []>>=fun l=> again (.builtin "list.__iadd__" ⟨[l,.ref a],[]⟩)) _ _ s from ae (bA (ah ⟨fR kI _,dB entry_list_iadd' ?_⟩)))
 rw [dg kI _];have g1:(s.heap.push {cls:=.type "list",data:=.seq ([]:List af).toArray}).get? s.heap.objs.size=some {cls:=.type "list",data:=.seq #[]}:=ay _ rfl
 show wpAny _ A.in1 (fF (.ref s.heap.objs.size) (.ref a) (.ref s.heap.objs.size)) _ _ _
 have key:=azv (prog:=prog) (A:=A) (s:={s with heap:=s.heap.push {cls:=.type "list",data:=.seq ([]:List af).toArray}})
  (R:=fun (q:hV) (s':aj)=> ∃(h':Heap) (d':Drawn) (tk:Nat) (acc:Array af) (c:Nat),q=.ok (.ret (.ref s.heap.objs.size))/\s'={s with heap:=h',drawn:=d',toks:=tk}/\
   (∀b u,s.heap.get? b=some u -> h'.get? b=some u)/\h'.get? s.heap.objs.size=some {cls:=.type "list",dict:=none,data:=.seq acc c,slots:= #[]}/\acc.toList.Perm (es.toList.map (·.2)))
  hh (ai _ ho) hex hd hf hz tx s.heap.objs.size (dP (ar ho)) (.ref s.heap.objs.size) g1
  (fun h' d' tk acc c p k g=> ⟨h',d',tk,acc,c,rfl,rfl,fun b u e=> k b u (aP (ar e)) (ai _ e),g,p⟩)
 refine cA key (fun fn s' x=> ?_) fun e s' x=> ?_
 ·cases fn with
  |done f=>
   obtain⟨h',d',tk,acc,c,e,rfl,k,g,p⟩:=x
   cases e
   exact (show wpAny _ A (load s.heap.objs.size >>=_) _ _ _ from ae (jK g (ah (h h' d' tk _ p k))))
  |again c1=>
   refine⟨x.1,dR x.2 fun q s2 y=> ?_⟩
   obtain⟨h',d',tk,acc,c,rfl,rfl,k,g,p⟩:=y
   exact (show wpAny _ A (load s.heap.objs.size >>=_) _ _ _ from ae (jK g (ah (h h' d' tk _ p k))))
 ·obtain⟨_,_,_,_,_,e',_⟩:=x;cases e'
end
theorem aol{α:Type}[DecidableEq α]: ∀{l m:List α},l.Nodup -> (∀x∈l,x∈m) -> m.length <=l.length -> l.Perm m
 |[],m,_,_,z=> by
  have:m=[]:=gA.mp (Nat.le_zero.mp z)
  rw [this]
 | x::r,m,nd,sub,z=> by
  have hx:=sub x aD
  rw [dW]at nd
  have p:=List.perm_cons_erase hx
  refine ((aol nd.2 (fun y hy=> ?_) ?_).cons x).trans p.symm
  ·have:y≠x:=fun e=> nd.1 (e▸hy)
   exact (List.mem_erase_of_ne this).mpr (sub y (aB _ hy))
  ·rw [List.length_erase_of_mem hx]
   simp only [aK]at z
   lia
def Nx(n:Nat)(Pv:Addr -> Nat -> List V -> Hp -> Prop)(D:Addr)(i:Nat)(ys:List V)(H:Hp):Prop:= ∃m',m' < n - i/\m'=n - (i+1)/\i+1 <=n/\ys.length <=i+1/\Pv D (i+1) ys H
theorem nx{Pv:Addr -> Nat -> List V -> Hp -> Prop}{D:Addr}(hi:i < n)(hl:ys.length <=i+1)(p:Pv D (i+1) ys H):Nx n Pv D i ys H:=⟨n - (i+1),by lia,rfl,hi,hl,p⟩
def ar1(K:ak)(mg:Str -> Option af)(x:Str)(vs:List V):Prop:= ∃a,mg x=some (.ref a)/\ ∀H,SqT K H a vs
theorem ass(hc:X.calm=true):ve X (.builtin "all") (fun vs H Q=> ∃(a:Addr) (bs:List Bool),vs=[.ref a]/\SqL X.K H a (bs.map V.bl)/\Q (.bl (bs.all id)) H):=by
 intro pins s σ H vs us Q I r h
 obtain⟨a,bs,rfl,hS,q⟩:=h
 obtain⟨u,rfl,ru⟩:=vals1 r
 cases ru
 have hh:X.A.in1.handled=none:=I.ok.hd hc
 obtain⟨its,rv,⟨o,n,e,c,dd,d⟩,z⟩:=I.list hS
 have l1:s.heap.IsList a its.toArray:=⟨o,e,c,n,d⟩
 have hl:=rv.length
 rw [am]at hl
 refine call_all_walk (ef l1 ⟨s.heap.objs.size,_,_,_,_,_,fun i=> bs.getD i true,rfl,Walks.list hh _ a (aP (ar e)) its.toArray,⟨⟨_,ay _ rfl,rfl,rfl⟩,l1.push _⟩,?_,fun h' tk k=> ?_⟩)
 ·intro i v s Q E hv hq
  have hi:i < bs.length:=by
   have:=(bM.mp hv).1
   rw [az]at this
   lia
  have e1:(bs.map V.bl)[i]?=some (.bl bs[i]):=by rw [aR,au hi];rfl
  obtain⟨u,hu,ru⟩:=rv.get e1
  rw [lF,hu]at hv
  obtain rfl:u=v:=bZ hv
  obtain rfl:u=eV bs[i]:=ru
  have e3:bs.getD i true=bs[i]:=by rw [bG,au hi];rfl
  refine cR ?_
  rw [←e3];exact hq
 ·have ks: ∀b u,s.heap.get? b=some u -> h'.get? b=some u:=fun b u hb=> k b u (fun m=> absurd (ar hb) (by rw [aO.mp m];exact cO _)) (ai _ hb)
  have e2:(ej its.toArray.size).all (fun i=> bs.getD i true)=bs.all id:=by
   rw [az,←hl]
   rw [a9]
   simp only [aT,List.mem_range,id_eq]
   constructor
   ·intro h b hb
    (obtain⟨i,hi,rfl⟩:=iq hb)
    have:=h i hi
    rw [bG,au hi]at this
    exact this
   ·intro h i hi
    (rw [bG,au hi])
    exact h _ (cE hi)
  rw [e2]
  exact⟨.bl (bs.all id),H,I.un (Un.kept ks) (I.hok.kept ks),rfl,q⟩
theorem Inv.turnedL{h':Heap}{t':Nat}{ch:List Addr}(I:Inv X pins σ H s)(k: ∀b o,b∉ch -> s.heap.get? b=some o -> h'.get? b=some o)(hf: ∀b∈ch,abq X pins H b):Inv X pins σ H {s with heap:=h',toks:=t'}:=by
 have no: ∀b u,H b=some u -> b∉ch:=fun b u e m=> by rw [(hf b m).1]at e;cases e
 refine I.step (g':=s.gens) (d':=s.drawn) (ch:=ch) (fun b m=> ⟨(hf b m).2.2.2.1,(hf b m).2.1,(hf b m).2.2.2.2.1,(hf b m).2.2.2.2.2⟩) (fun b o _ _ hc e _=> k b o hc e) (fun b o _ _ hc e _=> ⟨o.slots,k b o hc e⟩) (fun _ _ _ _ n=> n)
  (fun b o hc e=> ⟨o,k b o hc e⟩) (fun _ _ e=> e) (fun _ _ _ e=> e) (fun b ps e=> ⟨#[],by rw [e];simp⟩) (fun m hm=> ?_) (fun b u e=> ?_) I.bare
 ·obtain⟨o,es,ep,ho,r⟩:=hm
  exact⟨o,es,ep,k _ o (fun z=> (hf _ z).2.1 rfl) ho,r⟩
 ·refine (I.hok b u e).stay (fun c v hc q=> k c v ?_ q) (fun _ q=> q) fun _ _ q=> q
  rcases hc with z|z
  ·rw [z];exact no b u e
  ·exact no c _ z
theorem a6m:bt "zip"=some (.type "zip"):=by decide+kernel
section
open HT
variable{prog:aV}{w:aZ}{A:br}{E:af -> aj -> Prop}{s:aj}
theorem au9{t sl:Addr}{vl vu:af}{lo hi:Option Int}(ht:IsTup s.heap t items)(hs:s.heap.IsSliceOf sl vl vu .none)(pl:gH vl lo)(pu:gH vu hi)(hw:sIx items.size 0 lo=0/\sIx items.size items.size hi=items.size)(h:Q (.ref t) s):wpAny (model prog w) A (getItem (.ref t) (.ref sl)) Q E s:=by
 obtain⟨os,hos,hcs,hds⟩:=id hs
 have hTs:s.TypeIs (.ref sl) "slice":=⟨os,hos,hcs⟩
 unfold getItem
 try with_reducible refine bw ?_
 first|refine ae (ah ?_)|skip
 refine ae (jD ht.typeIs (by decide) (ae (bz (name:=bJ "__getitem__") ht.typeIs bC
  (bB bC ht.typeIs io ?_ (iP _ _)))))
 show wpAny _ _ (d6 (.ref t)>>=_) _ _ s
 refine ae (l6 ht (ae (gf hTs ?_)))
 rw [if_pos (by decide)]
 refine ae (ac1 hs pl pu ?_)
 have yes:(((sIx items.size 0 lo:Nat):Int)==0&&(1:Int)==1&&(sIx items.size items.size hi - sIx items.size 0 lo)==items.size)=true:=by
  rw [hw.1,hw.2];simp
 show wpAny _ _ (if (((sIx items.size 0 lo:Nat):Int)==0&&(1:Int)==1&&(sIx items.size items.size hi - sIx items.size 0 lo)==items.size)=true then _ else _) _ _ s
 rw [if_pos yes]
 unfold Builtin.Tuple.tupleIsExact
 refine ae (ae (gf ht.typeIs (ah ?_)))
 rw [if_pos (by decide)]
 exact ae (cM (ah ⟨_,rfl,ah h⟩))
end
def a6r(K:ak):V -> Option Int -> Option Int -> Hp -> VK -> Prop:=fun x lo hi H Q=> ∃a xs,x=.ref a/\SqT K H a xs/\(zh xs lo hi=xs -> Q (.ref a) H)/\ ∀p H',New H p (.tup (zh xs lo hi)) H' -> Q (.ref p) H'
theorem azu:SlR X (a6r X.K):=by
 intro pins s σ H x v vl vu lo hi sl Q I rx hs pl pu h
 obtain⟨a,xs,rfl,hx,q1,q2⟩:=h
 by_cases c:HT.sIx xs.length 0 lo=0/\HT.sIx xs.length xs.length hi=xs.length
 ·cases rx
  obtain⟨its,r,ht,hz⟩:=I.tuple hx
  have hlen:its.toArray.size=xs.length:=by rw [az];exact r.length.symm
  refine⟨"tuple",_,bC.lookup,ht.typeIs,?_⟩
  refine au9 ht hs pl pu (by rw [hlen];exact c) ⟨.ref a,H,I,rfl,q1 ?_⟩
  unfold zh
  rw [c.1,c.2];simp
 ·exact azi pins s σ H (.ref a) v vl vu lo hi sl Q I rx hs pl pu ⟨a,xs,rfl,hx,c,q2⟩
noncomputable def a2f(K:ak):R2:=fun x y H Q=> ∃a b xs ys,x=.ref a/\y=.ref b/\SqT K H a xs/\SqT K H b ys/\xs.length+ys.length <=sizeLine/\(xs=[] -> Q (.ref b) H)/\(xs≠ [] -> ys=[] -> Q (.ref a) H)/\(xs≠ [] -> ys≠ [] -> ∀p H',New H p (.tup (xs++ys)) H' -> Q (.ref p) H')
theorem axf:OpR X (binaryOp .Add) (a2f X.K):=by
 intro pins s σ H x y v u Q I rx ry h
 obtain⟨a,b,xs,ys,rfl,rfl,ha,hb,hz,q0,q1,q2⟩:=h
 by_cases c:xs=[]
 ·cases rx
  cases ry
  obtain⟨its,r1,p1,_⟩:=I.tuple ha
  obtain⟨its2,r2,p2,_⟩:=I.tuple hb
  have e0:its=[]:=r1.nil_iff.mpr c
  subst e0
  obtain⟨⟨cls,dd,data,sl⟩,ho,hc,n,hd⟩:=id p1
  obtain⟨⟨cls2,dd2,data2,sl2⟩,ho2,hc2,n2,hd2⟩:=id p2
  simp only at hc hd hc2 hd2
  subst hc hd hc2 hd2
  exact mG ⟨_,ho,rfl⟩ ⟨_,ho2,rfl⟩ jV l4 gG gz (gc _ _) (tuple_addW0 a b _ _ n n2 dd dd2 sl sl2 (by simp)) ⟨ho,ho2,⟨.ref b,H,I,rfl,q0 c⟩⟩
 ·exact az7 pins s σ H (.ref a) (.ref b) v u Q I rx ry ⟨a,b,xs,ys,rfl,rfl,ha,hb,c,hz,q1 c,fun d p hp=> q2 c d p _ ⟨hp,rfl⟩⟩
noncomputable def b01(b:Bool):Int:=if b=true then 1 else 0
def av9:V -> Option Int
 |.int i=> some i
 |.bl b=> some (b01 b)
 |_=> none
theorem a17:OpR X (binaryOp .Add) (fun x y H Q=> ∃i j,av9 x=some i/\y=.int j/\Q (.int (i+j)) H):=by
 intro pins s σ H x y v u Q I rx ry h
 obtain⟨i,j,hx,rfl,q⟩:=h
 cases x with
 |int k=> cases hx;exact ast pins s σ H _ _ v u Q I rx ry ⟨_,j,rfl,rfl,q⟩
 |bl b=>
  cases hx
  cases rx
  obtain⟨t',rfl⟩:=ry
  exact PySem.IntBool.add_bool_int ⟨.int (b01 b+j),H,I.tok _,⟨_,rfl⟩,q⟩
 |_=> cases hx
theorem a1d:OpR X (binaryOp .Sub) (fun x y H Q=> ∃i j,av9 x=some i/\y=.int j/\Q (.int (i - j)) H):=by
 intro pins s σ H x y v u Q I rx ry h
 obtain⟨i,j,hx,rfl,q⟩:=h
 cases x with
 |int k=> cases hx;exact alh pins s σ H _ _ v u Q I rx ry ⟨_,j,rfl,rfl,q⟩
 |bl b=>
  cases hx
  cases rx
  obtain⟨t',rfl⟩:=ry
  exact PySem.IntBool.sub_bool_int ⟨.int (b01 b - j),H,I.tok _,⟨_,rfl⟩,q⟩
 |_=> cases hx
theorem a0q:OpR X (binaryOp .Sub) (fun x y H Q=> ∃i j,x=.int i/\av9 y=some j/\Q (.int (i - j)) H):=by
 intro pins s σ H x y v u Q I rx ry h
 obtain⟨i,j,rfl,hy,q⟩:=h
 cases y with
 |int k=> cases hy;exact alh pins s σ H _ _ v u Q I rx ry ⟨i,_,rfl,rfl,q⟩
 |bl b=>
  cases hy
  cases ry
  obtain⟨t',rfl⟩:=rx
  exact PySem.IntBool.sub_int_bool ⟨.int (i - b01 b),H,I.tok _,⟨_,rfl⟩,q⟩
 |_=> cases hy
theorem part_of{v:af}{o:Option Int}(p:gH v o): ∃q:Option (Int×Tok),v=partValue q/\q.map (·.1)=o:=by
 cases p with
 |none=> exact⟨none,rfl,rfl⟩
 |int i t=> exact⟨some (i,t),rfl,rfl⟩
section
open HT
variable{prog:aV}{w:aZ}{A:br}{E:af -> aj -> Prop}{s:aj}
theorem ams{α β:Type}{f g:α -> Option β}: ∀{l:List α},(∀m∈l,f m=g m) -> l.filterMap f=l.filterMap g
 |[],_=> rfl
 |a::r,h=> by
  rw [eJ,eJ,h a aD,ams fun m hm=> h m (aB _ hm)]
theorem av5(xs:Array af):(ej xs.size).filterMap (fun (m:Nat)=> xs[(((xs.size:Nat):Int) - 1+(m:Int)*(-1)).toNat]?)=xs.toList.reverse:=by
 have e: ∀m∈ej xs.size,xs[(((xs.size:Nat):Int) - 1+(m:Int)*(-1)).toNat]?=some (xs.toList.reverse.getD m .none):=fun m hm=> by
  have hm':m < xs.size:=by simpa using hm
  have e1:(((xs.size:Nat):Int) - 1+(m:Int)*(-1)).toNat=xs.size - 1 - m:=by lia
  rw [e1,←cw,bG,List.getElem?_reverse (by simpa using hm')]
  rw [aM,au (by simp;lia)]
  rfl
 rw [ams e]
 refine gE fun j=> ?_
 have fm:(ej xs.size).filterMap (fun m=> some (xs.toList.reverse.getD m .none))=(ej xs.size).map (fun m=> xs.toList.reverse.getD m .none):=by
  rw [←List.filterMap_eq_map];rfl
 rw [fm,aR]
 by_cases c:j < xs.size
 ·rw [ml c,ic,bG,au (by simpa using c)];rfl
 ·rw [dY (by simpa using c),dY (by simpa using c)];rfl
theorem azz{t sl:Addr}{os:Obj}(ht:IsTup s.heap t items)(hos:s.heap.get? sl=some os)(hcs:os.cls=.type "slice")(hds:os.data=.fields #[.none,.none,.int (-1) tk])(h:Q (.ref s.heap.objs.size) {s with heap:=s.heap.push {cls:=.type "tuple",data:=.seq items.toList.reverse.toArray}})(hsz:items.size <=sizeLine):wpAny (model prog w) A (getItem (.ref t) (.ref sl)) Q E s:=by
 have hTs:s.TypeIs (.ref sl) "slice":=⟨os,hos,hcs⟩
 unfold getItem
 try with_reducible refine bw ?_
 first|refine ae (ah ?_)|skip
 refine ae (jD ht.typeIs (by decide) (ae (bz (name:=bJ "__getitem__") ht.typeIs bC
  (bB bC ht.typeIs io ?_ (iP _ _)))))
 show wpAny _ _ (d6 (.ref t)>>=_) _ _ s
 refine ae (l6 ht (ae (gf hTs ?_)))
 rw [if_pos (by decide)]
 refine ae ?_
 unfold fP jL
 refine ae (ae (bc hos hds (x:=.none) rfl (ae (bc hos hds (x:=.none) rfl (ae (bc hos hds (x:=.int (-1) tk) rfl (ah ?_)))))))
 refine ae (slicePart_int ?_)
 show wpAny _ _ (if ((-1:Int)==0)=true then _ else _) _ _ s
 rw [if_neg (by decide)]
 refine ae (iw (ae (iw (ae (ah ?_)))))
 have adj:cV none none (-1) (items.size:Int)=((items.size:Int) - 1,-1):=by
  unfold cV
  simp
 have pls:cb ((items.size:Int) - 1) (-1) (-1)=items.size:=by
  unfold cb
  simp only [show¬((-1:Int)> 0) by decide,if_false]
  split <;> (try simp) <;> lia
 show wpAny _ _ (match cV none none (-1) (items.size:Int) with|(lo,hi)=> pure (lo,(-1:Int),cb lo hi (-1))) _ _ s
 rw [adj]
 show wpAny _ _ (pure ((items.size:Int) - 1,(-1:Int),cb ((items.size:Int) - 1) (-1) (-1))) _ _ s
 rw [pls]
 refine ah ?_
 show wpAny _ _ (if (((items.size:Int) - 1)==0&&(-1:Int)==1&&items.size==items.size)=true then _ else _) _ _ s
 rw [if_neg (by simp),av5]
 have hk:sizeOk (.seq items.toList.reverse.toArray):=by
  show items.toList.reverse.toArray.size <=sizeLine
  simpa using hsz
 first
  |exact ae (m:=cZ _) (bA (ah ⟨_,rfl,ah h⟩) hk)
  |exact ae (m:=cZ _) (bA (ae (ah (ah ⟨_,rfl,ah h⟩))) hk)
end
section
variable{X:Cx}{e st:Expr}{te ts:TE}{p2 pos:Pos}
noncomputable def a88(K:ak)(te ts:TE):TE:=fun σ H Q=> te σ H fun x H1=> ts σ H1 fun y H2=> ∃a xs,x=.ref a/\y=.int (-1)/\SqT K H2 a xs/\ ∀p H',New H2 p (.tup xs.reverse) H' -> Q (.ref p) H'
theorem auu(r:jo xs us):jo xs.reverse us.reverse:=by
 induction r with
 |nil=> exact .nil
 |cons a _ ih=> rw [fw,fw];exact ih.append (.cons a .nil)
theorem a5b(he:PE X e te)(hst:PE X st ts):PE X (.Subscript e (.Slice none none (some st) p2) pos) (a88 X.K te ts):=by
 refine⟨?_⟩
 intro pins s σ H Q I h
 refine Subscript_ (thn (he pins s σ H _ I h) fun v s1 ⟨x,H1,I1,r1,q1⟩=> ?_)
 refine wpAny_Slice ?_
 rw [l7]
 (refine ah (ah ?_))
 refine thn (hst pins s1 σ H1 _ I1 q1) fun sv s2 ⟨y,H2,I2,r2,a,xs,ex,ey,hq,q⟩=> ?_
 subst ex ey
 cases r1
 obtain⟨tk,rfl⟩:=r2
 have I4:Inv X pins σ H2 {s2 with heap:=s2.heap.push {cls:=.type "slice",data:=.fields #[.none,.none,.int (-1) tk]}}:=I2.kept (t':=s2.toks) fun b ob q=> ai _ q
 obtain⟨its,rv,ht,hz⟩:=I4.tuple hq
 have hlen:its.toArray.size=xs.length:=by rw [az];exact rv.length.symm
 show wpAny (model X.prog X.w) X.A (l8 e (.Slice none none (some st) p2) (.ref a) (.ref s2.heap.objs.size)) (EP X pins σ Q) X.xe {s2 with heap:=s2.heap.push {cls:=.type "slice",data:=.fields #[.none,.none,.int (-1) tk]}}
 refine tail_any (ops:=[.ref a,.ref s2.heap.objs.size]) ht.typeIs bC.lookup ?_ (by with_unfolding_all rfl)
 refine azz (tk:=tk) ht (ay _ rfl) rfl rfl ?_ (by rw [hlen];exact hz)
 refine⟨.ref _,_,I4.laid (t':=s2.toks) (o:=.tup xs.reverse) (fun b ob q=> ai _ q) (ao _) ?_,rfl,q _ _ ⟨I4.hok.fresh (ao _),rfl⟩⟩
 exact⟨by rw [mn];exact hz,_,auu rv,ae5.new _ _⟩
end
end L2
namespace L2
open PySem PySem.Spec PyProof.Rows PyProof.Rows.KTD
structure TabF (K:ak) (d:Addr) (D:List (Str×Str)):Prop where
 tab: ∀h:Heap,K.In h -> TabOf (fun y v=> bv K aU y=some (some v)) h d D
 refs: ∀k y,datumAt k D=some y -> ∃f:Addr,bv K aU y=some (some (.ref f))
def a9d(X:Cx)(f:Addr)(σ:St)(vs:List V)(H:Hp)(Q:VK):Prop:= ∀(pins:List (Addr×Obj)) (s:aj) (us:List af),Inv X pins σ H s -> jo vs us -> wpAny (model X.prog X.w) X.A (call (.ref f) us) (EP X pins σ Q) X.xe s
end L2
namespace PF
open PySem PySem.Spec
open L2
inductive D where
 |da (d:ag)|con (ds:List ag)|frz (ds:List ag)|set (ds:List ag)
 |ref (n:Nat)|fn (x:Str)|tabF (T:List (Str×Str))|ty (n:String)
abbrev D.non:D:=.da .none
abbrev D.bl(b:Bool):D:=.da (.bool b)
abbrev D.int(i:Int):D:=.da (.int i)
abbrev D.str(x:Str):D:=.da (.str x)
abbrev D.tup(ds:List ag):D:=.da (.tuple ds)
abbrev D.lst(ds:List ag):D:=.da (.list ds)
inductive O where
 |lst (ds:List D)|dct (kvs:List (ag×D))|set (ds:List D)|ins (C:Str) (fs:List (Str×D))|exc (C:Str) (fs:List (Str×D))|xcx (C:Str) (fs:List (Str×D))|gone
abbrev S:=List O
abbrev En:=List (Option D)
inductive R (α:Type) where
 |ok (a:α) (s:S)
 |bad
 /-- the exception at n was raised,where the names stood as ρ tells -/
 |ex (n:Nat) (ρ:En) (s:S)
noncomputable def R.bind{α β:Type}(r:R α)(f:α -> S -> R β):R β:=match r with
 |.ok a s=> f a s
 |.bad=>.bad
 |.ex n ρ s=>.ex n ρ s
noncomputable def R.calm{α:Type}(r:R α):R α:=match r with
 |.ok a s=>.ok a s
 |.bad=>.bad
 |.ex _ _ _=>.bad
noncomputable def R.at{α:Type}(r:R α)(ρ:En):R α:=match r with
 |.ok a s=>.ok a s
 |.bad=>.bad
 |.ex n _ s=>.ex n ρ s
theorem R.calm_ok{α:Type}(a:α)(s:S):(R.ok a s).calm=.ok a s:=rfl
theorem R.at_ok{α:Type}(a:α)(s:S)(ρ:En):(R.ok a s).at ρ=.ok a s:=rfl
theorem R.bind_ok{α β:Type}(a:α)(s:S)(f:α -> S -> R β):(R.ok a s).bind f=f a s:=rfl
def R.W{α:Type}(r:R α)(Q:α -> S -> Prop):Prop:=match r with
 |.ok a s=> Q a s
 |.bad=> False
 |.ex _ _ _=> False
theorem R.W_calm{α:Type}(r:R α)(Q:α -> S -> Prop):r.calm.W Q=r.W Q:=by cases r <;> rfl
theorem R.W_at{α:Type}(r:R α)(ρ:En)(Q:α -> S -> Prop):(r.at ρ).W Q=r.W Q:=by cases r <;> rfl
theorem R.W_ok{α:Type}(a:α)(s:S)(Q:α -> S -> Prop):(R.ok a s).W Q=Q a s:=rfl
theorem R.W_bind{α β:Type}(r:R α)(f:α -> S -> R β)(Q:β -> S -> Prop):(r.bind f).W Q=r.W fun a s=> (f a s).W Q:=by cases r <;> rfl
theorem R.W_mono{α:Type}{r:R α}{Q Q':α -> S -> Prop}(h:r.W Q)(k: ∀a s,Q a s -> Q' a s):r.W Q':=by
 cases r with
 |ok a s=> exact k a s h
 |bad=> exact h
 |ex n ρ s=> exact h
structure As where
 ix:List (Option Addr)
 hd:List Addr
def As.has(as:As)(p:Addr):Prop:=some p∈as.ix\/p∈as.hd
abbrev As.add(as:As)(p:Addr):As:={as with ix:=as.ix++ [some p]}
abbrev As.cut(as:As)(n:Nat):As:={as with ix:=as.ix.set n none}
abbrev As.hide(as:As)(p:Addr):As:={as with hd:=p::as.hd}
abbrev As.show(as:As)(p:Addr):As:={as with hd:=as.hd.filter fun q=> decide (q≠p)}
structure Step0 (as:As) (H:Hp) (as':As) (H':Hp):Prop where
 len:as.ix.length <=as'.ix.length
 old: ∀n:Nat,n < as.ix.length -> as'.ix[n]?=as.ix[n]?\/as'.ix[n]?=some none
 back: ∀p,as'.has p -> as.has p\/H p=none
 keep: ∀b o,¬as.has b -> H b=some o -> H' b=some o
 dom: ∀b,H b≠none -> H' b≠none
structure Step (as:As) (H:Hp) (as':As) (H':Hp):Prop extends Step0 as H as' H' where
 hk: ∀p∈as.hd,p∈as'.hd
 hh: ∀p∈as.hd,∀o,H p=some o -> H' p=some o
theorem Step.refl(as:As)(H:Hp):Step as H as H where
 len:=ao _
 old _ _:=.inl rfl
 back _ h:=.inl h
 keep _ _ _ e:=e
 dom _ e:=e
 hk _ h:=h
 hh _ _ _ e:=e
theorem qp{as:As}:some p∈as.ix ↔ ∃n:Nat,as.ix[n]?=some (some p):=by
 rw [List.mem_iff_getElem?]
theorem Step0.out{as as':As}(st:Step0 as H as' H'){b:Addr}(n: ¬as.has b)(e:H b=some o): ¬as'.has b:=fun m=> by
 rcases st.back b m with q|q
 ·exact n q
 ·rw [e]at q;cases q
theorem Step0.trans{as as1 as2:As}{H1 H2:Hp}(a:Step0 as H as1 H1)(b:Step0 as1 H1 as2 H2):Step0 as H as2 H2 where
 len:=ax a.len b.len
 old n hn:=by
  rcases b.old n (aN hn a.len) with q|q
  ·rw [q];exact a.old n hn
  ·exact .inr q
 back p h:=by
  rcases b.back p h with q|q
  ·exact a.back p q
  ·right
   cases z:H p with
   |none=> rfl
   |some o=> exact absurd q (a.dom p (by rw [z];simp))
 keep b' o n e:=b.keep b' o (a.out n e) (a.keep b' o n e)
 dom b' e:=b.dom b' (a.dom b' e)
theorem Step.trans{as as1 as2:As}{H1 H2:Hp}(a:Step as H as1 H1)(b:Step as1 H1 as2 H2):Step as H as2 H2:=⟨a.toStep0.trans b.toStep0,fun p h=> b.hk p (a.hk p h),fun p h o e=> b.hh p (a.hk p h) o (a.hh p h o e)⟩
mutual
inductive TD (as:As) (H:Hp):V -> ag -> Prop
 |non:TD as H .non .none
 |bl (b:Bool):TD as H (.bl b) (.bool b)
 |int (i:Int):TD as H (.int i) (.int i)
 |str (x:Str):TD as H (.str x) (.str x)
 |tup {p:Addr} {xs:List V} {ds:List ag}: ¬as.has p -> H p=some (.tup xs) -> TDs as H xs ds -> TD as H (.ref p) (.tuple ds)
 |lst {p:Addr} {xs:List V} {ds:List ag}: ¬as.has p -> H p=some (.lst xs) -> TDs as H xs ds -> TD as H (.ref p) (.list ds)
 |dct {p:Addr}: ¬as.has p -> H p=some (.dK []) -> TD as H (.ref p) (.dict [])
 |dc1 {p:Addr} {i:Int} {v:V} {d:ag}: ¬as.has p -> H p=some (.dK [(.inl i,v)]) -> TD as H v d -> TD as H (.ref p) (.dict [(.int i,d)])
inductive TDs (as:As) (H:Hp):List V -> List ag -> Prop
 |nil:TDs as H [] []
 |cons {x:V} {xs:List V} {d:ag} {ds:List ag}:TD as H x d -> TDs as H xs ds -> TDs as H (x::xs) (d::ds)
end
inductive RD (K:ak) (as:As) (H:Hp):V -> D -> Prop
 |da {v:V} {d:ag}:TD as H v d -> RD K as H v (.da d)
 |ty (n:String):RD K as H (.ty n) (.ty n)
 |fn {f:Addr} {x:Str}:bv K aU x=some (some (.ref f)) -> RD K as H (.ref f) (.fn x)
 |tabF {d:Addr} {T:List (Str×Str)}:TabF K d T -> RD K as H (.ref d) (.tabF T)
 |con {p:Addr} {xs:List V} {ds:List ag}:(∀H',SqT K H' p xs) -> TDs as H xs ds -> RD K as H (.ref p) (.con ds)
 |frz {p:Addr} {xs:List V} {ds:List ag}:(∀as' H',Step0 as H as' H' -> SqL K H' p xs) -> TDs as H xs ds -> RD K as H (.ref p) (.frz ds)
 |ref {p:Addr} {n:Nat}:n < as.ix.length -> (∀q,as.ix[n]?=some (some q) -> q=p) -> RD K as H (.ref p) (.ref n)
inductive RDs (K:ak) (as:As) (H:Hp):List V -> List D -> Prop
 |nil:RDs K as H [] []
 |cons {x:V} {xs:List V} {d:D} {ds:List D}:RD K as H x d -> RDs K as H xs ds -> RDs K as H (x::xs) (d::ds)
noncomputable def kP:Key -> ag
 |.inl i=>.int i
 |.inr x=>.str x
def isT:ag -> Bool
 |.tuple xs=> ah9 (.tuple xs)
 |_=> false
inductive DRs (K:ak) (as:As) (H:Hp):List (ag×V) -> List (ag×D) -> Prop
 |nil:DRs K as H [] []
 |cons {k:ag} {v:V} {d:D} {l:List (ag×V)} {kvs:List (ag×D)}:RD K as H v d -> DRs K as H l kvs -> DRs K as H ((k,v)::l) ((k,d)::kvs)
inductive FRs (K:ak) (as:As) (H:Hp):List (Str×V) -> List (Str×D) -> Prop
 |nil:FRs K as H [] []
 |cons {f:Str} {v:V} {d:D} {l:List (Str×V)} {fs:List (Str×D)}:RD K as H v d -> FRs K as H l fs -> FRs K as H ((f,v)::l) ((f,d)::fs)
def pvK(l:List (Key×V)):List (ag×V):=l.map fun e=> (kP e.1,e.2)
def RO(K:ak)(as:As)(H:Hp)(p:Addr):O -> Prop
 |.lst ds=> ∃xs,H p=some (.lst xs)/\RDs K as H xs ds
 |.dct kvs=> (∃l:List (Key×V),H p=some (.dK l)/\DRs K as H (pvK l) kvs)\/ ∃l:List (ag×V),(l≠ []/\(l.all fun e=> isT e.1)=true)/\H p=some (.dD l)/\DRs K as H l kvs
 |.ins C fs=> ∃(Ca dx:Addr) (gs:List (Str×V)),bv K aU C=some (some (.ref Ca))/\H p=some (.ins Ca dx gs)/\FRs K as H gs fs
 |.exc C fs=> ∃(Ca:Addr) (gs:List (Str×V)),bv K aU C=some (some (.ref Ca))/\H p=some (.exn Ca gs)/\FRs K as H gs fs
 |.xcx C fs=> ∃(Ca:Addr) (gs:List (Str×V)),bv K aU C=some (some (.ref Ca))/\H p=some (.exx Ca gs)/\FRs K as H gs fs
 |_=> False
structure Rel (K:ak) (as:As) (H:Hp) (s:S):Prop where
 len:as.ix.length=s.length
 nd: ∀(i j:Nat) (p:Addr),as.ix[i]?=some (some p) -> as.ix[j]?=some (some p) -> i=j
 ob: ∀(n:Nat) (p:Addr) (o:O),as.ix[n]?=some (some p) -> s[n]?=some o -> RO K as H p o
 li: ∀(n:Nat) (o:O),s[n]?=some o -> o≠ .gone -> ∃p,as.ix[n]?=some (some p)
 hs: ∀p∈as.hd,∃xs,H p=some (.lst xs)
 hx: ∀p∈as.hd,some p∉as.ix
mutual
theorem TD.mono0{as as':As}{H H':Hp}(st:Step0 as H as' H'): ∀{v:V} {d:ag},TD as H v d -> TD as' H' v d
 |_,_,.non=>.non
 |_,_,.bl b=>.bl b
 |_,_,.int i=>.int i
 |_,_,.str x=>.str x
 |_,_,.tup n e r=>.tup (st.out n e) (st.keep _ _ n e) (TDs.mono0 st r)
 |_,_,.lst n e r=>.lst (st.out n e) (st.keep _ _ n e) (TDs.mono0 st r)
 |_,_,.dct n e=>.dct (st.out n e) (st.keep _ _ n e)
 |_,_,.dc1 n e t=>.dc1 (st.out n e) (st.keep _ _ n e) (TD.mono0 st t)
theorem TDs.mono0{as as':As}{H H':Hp}(st:Step0 as H as' H'): ∀{vs:List V} {ds:List ag},TDs as H vs ds -> TDs as' H' vs ds
 |_,_,.nil=>.nil
 |_,_,.cons a r=>.cons (TD.mono0 st a) (TDs.mono0 st r)
end
theorem RD.mono0{as as':As}(st:Step0 as H as' H'){d:D}(h:RD K as H v d):RD K as' H' v d:=by
 cases h with
 |da t=> exact .da (t.mono0 st)
 |ty n=> exact .ty n
 |fn a=> exact .fn a
 |tabF a=> exact .tabF a
 |con h r=> exact .con h (r.mono0 st)
 |frz h r=> exact .frz (fun as' H' s2=> h as' H' (st.trans s2)) (r.mono0 st)
 |ref l h=>
  refine .ref (aN l st.len) fun q e=> ?_
  rcases st.old _ l with z|z
  ·rw [z]at e;exact h q e
  ·rw [z]at e;cases e
theorem RDs.mono0{K:ak}{as as':As}{H H':Hp}(st:Step0 as H as' H'): ∀{vs:List V} {ds:List D},RDs K as H vs ds -> RDs K as' H' vs ds
 |_,_,.nil=>.nil
 |_,_,.cons a r=>.cons (RD.mono0 st a) (RDs.mono0 st r)
theorem FRs.mono0{K:ak}{as as':As}{H H':Hp}(st:Step0 as H as' H'): ∀{l:List (Str×V)} {fs:List (Str×D)},FRs K as H l fs -> FRs K as' H' l fs
 |_,_,.nil=>.nil
 |_,_,.cons a r=>.cons (a.mono0 st) (FRs.mono0 st r)
theorem DRs.mono0{K:ak}{as as':As}{H H':Hp}(st:Step0 as H as' H'): ∀{l:List (ag×V)} {kvs:List (ag×D)},DRs K as H l kvs -> DRs K as' H' l kvs
 |_,_,.nil=>.nil
 |_,_,.cons a r=>.cons (RD.mono0 st a) (DRs.mono0 st r)
theorem TD.mono{as as':As}(st:Step as H as' H'){d:ag}(h:TD as H v d):TD as' H' v d:=h.mono0 st.toStep0
theorem TDs.mono{as as':As}(st:Step as H as' H'){v:List V}{d:List ag}(h:TDs as H v d):TDs as' H' v d:=h.mono0 st.toStep0
theorem RD.mono{as as':As}(st:Step as H as' H'){d:D}(h:RD K as H v d):RD K as' H' v d:=h.mono0 st.toStep0
theorem RDs.mono{as as':As}(st:Step as H as' H'){v:List V}{d:List D}(h:RDs K as H v d):RDs K as' H' v d:=h.mono0 st.toStep0
section
variable{K:ak}{as:As}{H:Hp}
theorem RDs.length: ∀{vs:List V} {ds:List D},RDs K as H vs ds -> vs.length=ds.length
 |_,_,.nil=> rfl
 |_,_,.cons _ r=> congrArg (· +1) (RDs.length r)
theorem RDs.append: ∀{vs ws:List V} {ds es:List D},RDs K as H vs ds -> RDs K as H ws es -> RDs K as H (vs++ws) (ds++es)
 |_,_,_,_,.nil,s=> s
 |_,_,_,_,.cons a r,s=>.cons a (RDs.append r s)
theorem RDs.get: ∀{vs:List V} {ds:List D} {i:Nat} {d:D},RDs K as H vs ds -> ds[i]?=some d -> ∃v,vs[i]?=some v/\RD K as H v d
 |_,_,_,_,.nil,e=> by simp at e
 |_,_,0,_,.cons a _,e=> by simp at e;subst e;exact⟨_,rfl,a⟩
 |_,_,i+1,d,.cons _ r,e=> by
  obtain⟨v,h1,h2⟩:=RDs.get (i:=i) (d:=d) r (by simpa using e)
  exact⟨v,by simpa using h1,h2⟩
theorem RDs.set: ∀{vs:List V} {ds:List D} (i:Nat) {v:V} {d:D},RD K as H v d -> RDs K as H vs ds -> RDs K as H (vs.set i v) (ds.set i d)
 |_,_,_,_,_,_,.nil=>.nil
 |_,_,0,_,_,r,.cons _ t=>.cons r t
 |_,_,i+1,_,_,r,.cons q t=>.cons q (RDs.set i r t)
theorem RDs.take: ∀{vs:List V} {ds:List D} (n:Nat),RDs K as H vs ds -> RDs K as H (vs.take n) (ds.take n)
 |_,_,0,_=>.nil
 |_,_,_+1,.nil=>.nil
 |_,_,n+1,.cons r t=>.cons r (RDs.take n t)
theorem RDs.drop: ∀{vs:List V} {ds:List D} (n:Nat),RDs K as H vs ds -> RDs K as H (vs.drop n) (ds.drop n)
 |_,_,0,r=> r
 |_,_,_+1,.nil=>.nil
 |_,_,n+1,.cons _ t=> RDs.drop n t
theorem RDs.eraseIdx: ∀{vs:List V} {ds:List D} (n:Nat),RDs K as H vs ds -> RDs K as H (vs.eraseIdx n) (ds.eraseIdx n)
 |_,_,_,.nil=>.nil
 |_,_,0,.cons _ t=> t
 |_,_,n+1,.cons r t=>.cons r (RDs.eraseIdx n t)
end
section
variable{as:As}{H:Hp}
theorem TDs.length: ∀{vs:List V} {ds:List ag},TDs as H vs ds -> vs.length=ds.length
 |_,_,.nil=> rfl
 |_,_,.cons _ r=> congrArg (· +1) (TDs.length r)
theorem TDs.append: ∀{vs ws:List V} {ds es:List ag},TDs as H vs ds -> TDs as H ws es -> TDs as H (vs++ws) (ds++es)
 |_,_,_,_,.nil,s=> s
 |_,_,_,_,.cons a r,s=>.cons a (TDs.append r s)
theorem TDs.get: ∀{vs:List V} {ds:List ag} {i:Nat} {d:ag},TDs as H vs ds -> ds[i]?=some d -> ∃v,vs[i]?=some v/\TD as H v d
 |_,_,_,_,.nil,e=> by simp at e
 |_,_,0,_,.cons a _,e=> by simp at e;subst e;exact⟨_,rfl,a⟩
 |_,_,i+1,d,.cons _ r,e=> by
  obtain⟨v,h1,h2⟩:=TDs.get (i:=i) (d:=d) r (by simpa using e)
  exact⟨v,by simpa using h1,h2⟩
theorem TDs.take: ∀{vs:List V} {ds:List ag} (n:Nat),TDs as H vs ds -> TDs as H (vs.take n) (ds.take n)
 |_,_,0,_=>.nil
 |_,_,_+1,.nil=>.nil
 |_,_,n+1,.cons r t=>.cons r (TDs.take n t)
theorem TDs.drop: ∀{vs:List V} {ds:List ag} (n:Nat),TDs as H vs ds -> TDs as H (vs.drop n) (ds.drop n)
 |_,_,0,r=> r
 |_,_,_+1,.nil=>.nil
 |_,_,n+1,.cons _ t=> TDs.drop n t
theorem TDs.reverse: ∀{vs:List V} {ds:List ag},TDs as H vs ds -> TDs as H vs.reverse ds.reverse
 |_,_,.nil=>.nil
 |_,_,.cons a r=> by rw [fw,fw];exact (TDs.reverse r).append (.cons a .nil)
end
theorem TDs.rd{K:ak}{as:As}{H:Hp}: ∀{vs:List V} {ds:List ag},TDs as H vs ds -> RDs K as H vs (ds.map D.da)
 |_,_,.nil=>.nil
 |_,_,.cons a r=>.cons (.da a) (TDs.rd r)
noncomputable def ku:List D -> Option (List ag)
 |[]=> some []
 |.da d::r=> match ku r with
  |some ds=> some (d::ds)
  |none=> none
 |_=> none
theorem vc: ∀ds:List ag,ku (ds.map D.da)=some ds
 |[]=> rfl
 |d::r=> by rw [aL,ku,vc r]
theorem zo: ∀{ds:List D} {xs:List ag},ku ds=some xs -> ds=xs.map D.da
 |[],xs,h=> by cases h;rfl
 |.da d::r,xs,h=> by
  rw [ku]at h
  cases q:ku r with
  |none=> rw [q]at h;cases h
  |some ys=> rw [q]at h;cases h;rw [zo q];rfl
 |.con _::_,_,h=> by cases h
 |.frz _::_,_,h=> by cases h
 |.set _::_,_,h=> by cases h
 |.ref _::_,_,h=> by cases h
 |.fn _::_,_,h=> by cases h
 |.tabF _::_,_,h=> by cases h
 |.ty _::_,_,h=> by cases h
theorem RDs.td{K:ak}{as:As}{H:Hp}: ∀{vs:List V} {ds:List ag},RDs K as H vs (ds.map D.da) -> TDs as H vs ds
 |_,[],h=> by cases h;exact .nil
 |_,d::r,h=> by
  cases h with
  |cons a b=> cases a with|da a=> exact .cons a (RDs.td b)
theorem aio{b:Addr}(n:New H p o H')(e:H b≠none):H' b≠none:=by
 cases q:H b with
 |none=> exact absurd q e
 |some u=> rw [n.keep q];simp
theorem j4{as:As}(n:New H p o H'):Step as H as H' where
 len:=ao _
 old _ _:=.inl rfl
 back _ h:=.inl h
 keep _ _ _ e:=n.keep e
 dom _ e:=aio n e
 hk _ h:=h
 hh _ _ _ e:=n.keep e
theorem v7{α:Type}{l:List α}{x y:α}(e:(l++ [x])[i]?=some y):(i < l.length/\l[i]?=some y)\/(i=l.length/\y=x):=by
 by_cases h:i < l.length
 ·rw [bu h]at e;exact .inl ⟨h,e⟩
 ·have h2:i - l.length=0\/1 <=i - l.length:=by lia
  rw [cy (cN h)]at e
  rcases h2 with z|z
  ·rw [z]at e
   simp at e
   exact .inr ⟨by lia,e.symm⟩
  ·rw [List.getElem?_eq_none_iff.mpr (by simpa using z)]at e
   cases e
theorem aoj{as:As}{q:Addr}(h:(as.add p).has q):as.has q\/q=p:=by
 rcases h with h|h
 ·rcases bg.mp h with z|z
  ·exact .inl (.inl z)
  ·exact .inr (by simpa using z)
 ·exact .inl (.inr h)
theorem acn{as:As}(n:New H p o H'):Step as H (as.add p) H' where
 len:=by simp
 old i h:=.inl (bu h)
 back q h:=by
  rcases aoj h with z|z
  ·exact .inl z
  ·subst z;exact .inr n.no
 keep _ _ _ e:=n.keep e
 dom _ e:=aio n e
 hk _ h:=h
 hh _ _ _ e:=n.keep e
theorem ab3{as:As}(m:as.has p)(c:Chg H p o H'):Step0 as H as H' where
 len:=ao _
 old _ _:=.inl rfl
 back _ h:=.inl h
 keep b u n e:=c.keep (fun z=> n (z▸m)) e
 dom b e:=by
  by_cases z:b=p
  ·subst z;rw [c.at];simp
  ·cases q:H b with
   |none=> exact absurd q e
   |some u=> rw [c.keep z q];simp
theorem agm{as:As}(m:some p∈as.ix)(nh:p∉as.hd)(c:Chg H p o H'):Step as H as H':=⟨ab3 (.inl m) c,fun _ h=> h,fun q h u e=> c.keep (fun z=> nh (z▸h)) e⟩
theorem awi{as as2:As}{H1 H2:Hp}(st:Step as H as2 H1)(no:H p=none)(nh:p∉as.hd)(m:p∈as2.hd)(c:Chg H1 p o H2):Step as H as2 H2:=
 ⟨⟨st.len,st.old,st.back,fun b u n e=> c.keep (xm e no) (st.keep b u n e),fun b e=> (ab3 (.inr m) c).dom b (st.dom b e)⟩,st.hk,fun q h u e=> c.keep (fun z=> nh (z▸h)) (st.hh q h u e)⟩
theorem ahd{as:As}{q:Addr}(e:(as.cut n).ix[i]?=some (some q)):as.ix[i]?=some (some q):=by
 by_cases z:n=i
 ·subst z
  rw [dF]at e
  simp at e
 ·rw [aX z]at e;exact e
theorem ags{as:As}(n:Nat):Step as H (as.cut n) H where
 len:=by simp
 old i h:=by
  by_cases z:n=i
  ·subst z;right;simp [h]
  ·left;rw [aX z]
 back p h:=by
  rcases h with h|h
  ·obtain⟨i,hi⟩:=qp.mp h
   exact .inl (.inl (qp.mpr ⟨i,ahd hi⟩))
  ·exact .inl (.inr h)
 keep _ _ _ e:=e
 dom _ e:=e
 hk _ h:=h
 hh _ _ _ e:=e
theorem ak2{as:As}(n:New H p o H'):Step as H (as.hide p) H' where
 len:=ao _
 old _ _:=.inl rfl
 back q h:=by
  rcases h with h|h
  ·exact .inl (.inl h)
  ·rcases aq.mp h with z|z
   ·subst z;exact .inr n.no
   ·exact .inl (.inr z)
 keep _ _ _ e:=n.keep e
 dom _ e:=aio n e
 hk _ h:=aB _ h
 hh _ _ _ e:=n.keep e
theorem alc{as:As}{q:Addr}(h:(as.show p).has q):as.has q:=by
 rcases h with h|h
 ·exact .inl h
 ·exact .inr (bS.mp h).1
theorem aet{as:As}:Step0 as H (as.show p) H where
 len:=ao _
 old _ _:=.inl rfl
 back q h:=.inl (alc h)
 keep _ _ _ e:=e
 dom _ e:=e
theorem aes{as:As}(m:p∈as.hd):Step0 as H ((as.show p).add p) H where
 len:=by simp
 old i h:=.inl (bu h)
 back q h:=by
  rcases aoj h with z|z
  ·exact .inl (alc z)
  ·subst z;exact .inl (.inr m)
 keep _ _ _ e:=e
 dom _ e:=e
theorem awz{as as2:As}{H2:Hp}(st:Step as H as2 H2)(nh:p∉as.hd)(st2:Step0 as2 H2 (as2.show p) H2):Step as H (as2.show p) H2:=
 ⟨st.toStep0.trans st2,fun q h=> bS.mpr ⟨st.hk q h,by
  have:q≠p:=fun z=> nh (z▸h)
  simp [this]⟩,st.hh⟩
theorem aso{as as2:As}{H2:Hp}(st:Step as H as2 H2)(nh:p∉as.hd)(m:p∈as2.hd):Step as H ((as2.show p).add p) H2:=
 ⟨st.toStep0.trans (aes m),fun q h=> bS.mpr ⟨st.hk q h,by
  have:q≠p:=fun z=> nh (z▸h)
  simp [this]⟩,st.hh⟩
section
variable{K:ak}{as as':As}{H H':Hp}{s:S}{p:Addr}
theorem RO.mono0(st:Step0 as H as' H'){o:O}(e:H' p=H p)(h:RO K as H p o):RO K as' H' p o:=by
 cases o with
 |lst ds=>
  obtain⟨xs,e1,r⟩:=h
  exact⟨xs,e.trans e1,r.mono0 st⟩
 |dct kvs=>
  rcases h with ⟨l,e1,r⟩|⟨l,e0,e1,r⟩
  ·exact .inl ⟨l,e.trans e1,r.mono0 st⟩
  ·exact .inr ⟨l,e0,e.trans e1,r.mono0 st⟩
 |ins C fs=>
  obtain⟨Ca,dx,gs,e0,e1,r⟩:=h
  exact⟨Ca,dx,gs,e0,e.trans e1,r.mono0 st⟩
 |exc C fs=>
  obtain⟨Ca,gs,e0,e1,r⟩:=h
  exact⟨Ca,gs,e0,e.trans e1,r.mono0 st⟩
 |xcx C fs=>
  obtain⟨Ca,gs,e0,e1,r⟩:=h
  exact⟨Ca,gs,e0,e.trans e1,r.mono0 st⟩
 |_=> exact h.elim
theorem RO.some{o:O}(h:RO K as H p o):H p≠none:=by
 cases o with
 |lst ds=>
  obtain⟨xs,e1,r⟩:=h
  rw [e1];simp
 |dct kvs=>
  rcases h with ⟨l,e1,r⟩|⟨l,e0,e1,r⟩ <;> (rw [e1];simp)
 |ins C fs=>
  obtain⟨Ca,dx,gs,e0,e1,r⟩:=h
  rw [e1];simp
 |exc C fs=>
  obtain⟨Ca,gs,e0,e1,r⟩:=h
  rw [e1];simp
 |xcx C fs=>
  obtain⟨Ca,gs,e0,e1,r⟩:=h
  rw [e1];simp
 |_=> exact h.elim
theorem Rel.at(r:Rel K as H s)(e:as.ix[n]?=some (some p)):H p≠none:=by
 have hl:n < s.length:=by
  rw [←r.len]
  exact (aC.mp e).1
 exact (r.ob n p _ e (au hl)).some
theorem Rel.has(r:Rel K as H s)(h:as.has p):H p≠none:=by
 rcases h with h|h
 ·obtain⟨i,hi⟩:=qp.mp h
  exact r.at hi
 ·obtain⟨xs,e⟩:=r.hs p h
  rw [e];simp
theorem adh{q:Addr}(k: ∀o,H q=some o -> H' q=some o)(h:H q≠none):H' q=H q:=by
 cases z:H q with
 |none=> exact absurd z h
 |some x=> rw [k x z]
theorem Rel.new(r:Rel K as H s)(n:New H p o H'):Rel K as H' s where
 len:=r.len
 nd:=r.nd
 ob i q u e1 e2:=(r.ob i q u e1 e2).mono0 (j4 n).toStep0 (adh (fun _=> n.keep) (r.at e1))
 li:=r.li
 hs q h:=let ⟨xs,e⟩:=r.hs q h;⟨xs,n.keep e⟩
 hx:=r.hx
theorem Rel.laid{u:O}(r:Rel K as H s)(n:New H p o H')(h:RO K (as.add p) H' p u):Rel K (as.add p) H' (s++ [u]) where
 len:=by simp [r.len]
 nd i j q e1 e2:=by
  rcases v7 e1 with ⟨l1,z1⟩|⟨l1,z1⟩ <;> rcases v7 e2 with ⟨l2,z2⟩|⟨l2,z2⟩
  ·exact r.nd i j q z1 z2
  ·cases z2;exact absurd n.no (r.at z1)
  ·cases z1;exact absurd n.no (r.at z2)
  ·rw [l1,l2]
 ob i q x e1 e2:=by
  rcases v7 e1 with ⟨l1,z1⟩|⟨l1,z1⟩ <;> rcases v7 e2 with ⟨l2,z2⟩|⟨l2,z2⟩
  ·exact (r.ob i q x z1 z2).mono0 (acn n).toStep0 (adh (fun _=> n.keep) (r.at z1))
  ·rw [l2,←r.len]at l1;exact absurd l1 (cO _)
  ·rw [l1,r.len]at l2;exact absurd l2 (cO _)
  ·cases z1;subst z2;exact h
 li i x e g:=by
  rcases v7 e with ⟨l1,z1⟩|⟨l1,z1⟩
  ·obtain⟨q,hq⟩:=r.li i x z1 g
   exact⟨q,by rw [bu (by rw [r.len];exact l1)];exact hq⟩
  ·exact⟨p,by rw [l1,←r.len];simp⟩
 hs q h:=let ⟨xs,e⟩:=r.hs q h;⟨xs,n.keep e⟩
 hx q h m:=by
  rcases bg.mp m with z|z
  ·exact r.hx q h z
  ·have:q=p:=by simpa using z
   subst this
   obtain⟨xs,e⟩:=r.hs q h
   rw [n.no]at e;cases e
theorem Rel.chg{u:O}(r:Rel K as H s)(e:as.ix[n]?=some (some p))(c:Chg H p o H')(h:RO K as H' p u):Rel K as H' (s.set n u) where
 len:=by simp [r.len]
 nd:=r.nd
 ob i q x e1 e2:=by
  by_cases z:n=i
  ·subst z
   rw [e]at e1;cases e1
   have hl:n < s.length:=by rw [←r.len];exact (aC.mp e).1
   rw [bn hl]at e2
   cases e2;exact h
  ·rw [aX z]at e2
   have ne:q≠p:=fun w=> z (r.nd n i p e (w▸e1))
   exact (r.ob i q x e1 e2).mono0 (ab3 (.inl (qp.mpr ⟨n,e⟩)) c) (adh (fun _=> c.keep ne) (r.at e1))
 li i x e2 g:=by
  by_cases z:n=i
  ·subst z;exact⟨p,e⟩
  ·rw [aX z]at e2
   exact r.li i x e2 g
 hs q h:=let ⟨xs,e'⟩:=r.hs q h;⟨xs,c.keep (fun z=> r.hx q h (qp.mpr ⟨n,z▸e⟩)) e'⟩
 hx:=r.hx
theorem Rel.chgH(r:Rel K as H s)(m:p∈as.hd)(c:Chg H p (.lst ys) H'):Rel K as H' s where
 len:=r.len
 nd:=r.nd
 ob i q x e1 e2:=by
  have ne:q≠p:=fun w=> r.hx p m (qp.mpr ⟨i,w▸e1⟩)
  exact (r.ob i q x e1 e2).mono0 (ab3 (.inr m) c) (adh (fun _=> c.keep ne) (r.at e1))
 li:=r.li
 hs q h:=by
  by_cases z:q=p
  ·subst z;exact⟨ys,c.at⟩
  ·obtain⟨xs,e⟩:=r.hs q h
   exact⟨xs,c.keep z e⟩
 hx:=r.hx
theorem Rel.hide(r:Rel K as H s)(n:New H p (.lst ys) H'):Rel K (as.hide p) H' s where
 len:=r.len
 nd:=r.nd
 ob i q u e1 e2:=(r.ob i q u e1 e2).mono0 (ak2 n).toStep0 (adh (fun _=> n.keep) (r.at e1))
 li:=r.li
 hs q h:=by
  rcases aq.mp h with z|z
  ·subst z;exact⟨ys,n.at⟩
  ·obtain⟨xs,e⟩:=r.hs q z
   exact⟨xs,n.keep e⟩
 hx q h m:=by
  rcases aq.mp h with z|z
  ·subst z
   obtain⟨i,hi⟩:=qp.mp m
   exact r.at hi n.no
  ·exact r.hx q z m
theorem Rel.show(r:Rel K as H s):Rel K (as.show p) H s where
 len:=r.len
 nd:=r.nd
 ob i q u e1 e2:=(r.ob i q u e1 e2).mono0 aet rfl
 li:=r.li
 hs q h:=r.hs q (bS.mp h).1
 hx q h:=r.hx q (bS.mp h).1
theorem Rel.take{u:O}(r:Rel K as H s)(m:p∈as.hd)(h:RO K ((as.show p).add p) H p u):Rel K ((as.show p).add p) H (s++ [u]) where
 len:=by simp [r.len]
 nd i j q e1 e2:=by
  rcases v7 e1 with ⟨l1,z1⟩|⟨l1,z1⟩ <;> rcases v7 e2 with ⟨l2,z2⟩|⟨l2,z2⟩
  ·exact r.nd i j q z1 z2
  ·cases z2;exact absurd (qp.mpr ⟨i,z1⟩) (r.hx p m)
  ·cases z1;exact absurd (qp.mpr ⟨j,z2⟩) (r.hx p m)
  ·rw [l1,l2]
 ob i q x e1 e2:=by
  rcases v7 e1 with ⟨l1,z1⟩|⟨l1,z1⟩ <;> rcases v7 e2 with ⟨l2,z2⟩|⟨l2,z2⟩
  ·exact (r.ob i q x z1 z2).mono0 (aes m) rfl
  ·rw [l2,←r.len]at l1;exact absurd l1 (cO _)
  ·rw [l1]at l2
   have:as.ix.length < s.length:=l2
   rw [r.len]at this;exact absurd this (cO _)
  ·cases z1;subst z2;exact h
 li i x e g:=by
  rcases v7 e with ⟨l1,z1⟩|⟨l1,z1⟩
  ·obtain⟨q,hq⟩:=r.li i x z1 g
   exact⟨q,by rw [bu (by rw [r.len];exact l1)];exact hq⟩
  ·exact⟨p,by rw [l1,←r.len];simp⟩
 hs q h:=r.hs q (bS.mp h).1
 hx q h m2:=by
  obtain⟨h1,h2⟩:=bS.mp h
  rcases bg.mp m2 with z|z
  ·exact r.hx q h1 z
  ·have:q=p:=by simpa using z
   exact absurd this (of_decide_eq_true h2)
theorem Rel.frz(r:Rel K as H s):Rel K (as.cut n) H (s.set n .gone) where
 len:=by simp [r.len]
 nd i j q e1 e2:=by
  exact r.nd i j q (ahd e1) (ahd e2)
 ob i q x e1 e2:=by
  by_cases z:n=i
  ·subst z
   rw [dF]at e1
   simp at e1
  ·rw [aX z]at e1 e2
   exact (r.ob i q x e1 e2).mono0 (ags n).toStep0 rfl
 li i x e2 g:=by
  by_cases z:n=i
  ·subst z
   rw [dF]at e2
   simp at e2
   exact absurd e2.2.symm g
  ·rw [aX z]at e2⊢
   exact r.li i x e2 g
 hs:=r.hs
 hx q h m:=by
  obtain⟨i,hi⟩:=qp.mp m
  by_cases z:n=i
  ·subst z
   rw [dF]at hi
   simp at hi
  ·rw [aX z]at hi
   exact r.hx q h (qp.mpr ⟨i,hi⟩)
end
end PF
namespace EX
open PySem PySem.W PySem.Spec PySem.Calls PyProof.Rows Builtin Builtin.ObjectAttr
abbrev bmV:List af:=[.type "ValueError",.type "Exception",.type "BaseException",.type "object"]
inductive Above:List af -> Prop
 |base:Above bmV
 |own (a:Addr) {l:List af}:Above l -> Above (.ref a::l)
theorem Above.has{b:Bool}(hb:bmV.contains (.type T)=b){l:List af}(x:Above l):l.contains (.type T)=b:=by
 induction x with
 |base=> exact hb
 |own a _ ih=> rw [cf,ih];rfl
theorem Above.refuse(self:af){l:List af}(x:Above l):refuseLoop self "__setattr__" l=pure ():=by
 induction x with
 |base=> exact PySem.F.store_ValueError.passes self
 |own a _ ih=> rw [refuseLoop_ref,ih]
structure ClsE (K:Frag) (C:Addr):Prop where
 at_: ∃nm q N bs bm sn sub ab col dd k0 k1 k2 k3 k5,K.lookup C=some (fk nm q C N bs bm true sn sub ab col dd k0 k1 k2 k3 k5 "ValueError.__new__")/\Above bm
 ga:findIn K (.ref C) "__getattribute__"=some (some (.builtin "BaseException.__getattribute__"))
 gt:findIn K (.ref C) "__getattr__"=some none
 sa:findIn K (.ref C) "__setattr__"=some (some (.builtin "object.__setattr__"))
section
variable{K:Frag}{C:Addr}
theorem ClsE.cd(c:ClsE K C): ∃cd,clsIn K C=some cd/\cd.hasDict=true/\ ∃bm,cd.mro=.ref C::bm/\Above bm:=by
 obtain⟨nm,q,N,bs,bm,sn,sub,ab,col,dd,k0,k1,k2,k3,k5,e,a⟩:=c.at_
 exact⟨_,by unfold clsIn;rw [e],rfl,bm,rfl,a⟩
theorem ClsE.dict(c:ClsE K C):hasDictIn K C=true:=by
 obtain⟨cd,e,h,_⟩:=c.cd
 unfold hasDictIn;rw [e];exact h
theorem ClsE.sub(c:ClsE K C){b:Bool}(hb:bmV.contains (.type T)=b):mroIn K C (.type T)=some b:=by
 obtain⟨cd,e,h,bm,em,a⟩:=c.cd
 unfold mroIn
 rw [e,du,em,if_neg (by simp),cf,a.has hb];rfl
end
section
variable{prog:aV}{w:aZ}{A:br}{E:af -> aj -> Prop}{s:aj}{K:Frag}{x C:Addr}{ox:Obj}{od:Option Obj}{name:Str}
theorem ats{fill expr:Bool}(X:K.In s.heap)(I:InstAt s.heap x ox C od)(c:ClsE K C)(h:wpAny (model prog w) A.in1 (cF.«object.__getattribute__» ⟨[.ref x,.str name tk],[]⟩) (fun fin s'=> match fin with|.done (.ret v)=> wpAny (model prog w) A (handedOut v) Q E s'|_=> False) (fun _ _=> False) s):
  wpAny (model prog w) A (getAttrBy (.ref x) (.str name tk) fill expr) Q E s:=by
 (have L0:=I.type (M:=model prog w))
 have L1:=mL (M:=model prog w) X c.ga
 unfold getAttrBy
 refine bw (ae (L0 _ _ _ _ (fun _ _ e=> e) (ae (L1 _ _ _ _ (fun _ _ e=> e) ?_))))
 dsimp only
 rw [show (onTheHeap (aH C)&&eR "BaseException.__getattribute__"==eR "object.__getattribute__")=false from by rw [show (eR "BaseException.__getattribute__"==eR "object.__getattribute__")=false from by decide+kernel,eC],if_neg (by decide)]
 unfold getAttrByItsOwn
 refine ae ((looks_hook (M:=model prog w) (r:=none) X (by rw [if_pos (show onTheHeap (aH C)=true from rfl)];exact c.gt)) _ _ _ _ (fun _ _ e=> e) (ae (dq (bw ?_))))
 unfold callGetattribute
 rw [show (expr&&onTheHeap (eR "BaseException.__getattribute__"))=false from eC _,if_neg (by decide)]
 unfold boundAndCalled
 rw [kJ.ga.bind]
 refine ae (ah ?_)
 show wpAny _ _ (call (.builtin "BaseException.__getattribute__") [.ref x,.str name tk]) _ _ _
 refine gr (fM kJ.ga.plain PySem.F.entry_bexc_ga ?_)
 refine @check_slot (model prog w) _ _ s "BaseException.__getattribute__" "BaseException" "__getattribute__" (.ref x) [.str name tk] [] _ (by decide+kernel) (by decide+kernel) (L0.andThen (looks_mroIn X (c.sub (by decide+kernel)))) (PySem.F.args_bexc_ga (.ref x) (.str name tk)) ?_
 refine cA h (fun fin s' z=> ?_) fun _ _ z=> z.elim
 (rcases fin with (_|_|_|_)|_ <;> first|exact z|exact z.elim)
theorem aty{v:af}{Q:Fin -> aj -> Prop}(X:K.In s.heap)(I:InstAt s.heap x ox C od)(hf:findObj K C od name=some (.value v))(h:Q (.done (.ret v)) s):
  wpAny (model prog w) A (cF.«object.__getattribute__» ⟨[.ref x,.str name tk],[]⟩) Q E s:=by
 (have L0:=I.type (M:=model prog w))
 (have L1:=looks_find (M:=model prog w) X I hf)
 exact ae (ah (ae (ah (ae (L0.here (ae (L1.here (ah h))))))))
theorem avn{g a:af}{P:af -> aj -> Prop}(X:K.In s.heap)(I:InstAt s.heap x ox C od)(hf:findObj K C od name=some (.bind g a))(h:wpAny (model prog w) A (call g [a,.ref x,.ref C]) P E s):
  wpAny (model prog w) A (cF.«object.__getattribute__» ⟨[.ref x,.str name tk],[]⟩) (fun fin s'=> match fin with|.done (.ret v)=> P v s'|_=> False) E s:=by
 (have L0:=I.type (M:=model prog w))
 (have L1:=looks_find (M:=model prog w) X I hf)
 refine ae (ah (ae (ah (ae (L0.here (ae (L1.here ?_)))))))
 show wpAny _ _ (holding [a] (call g [a,.ref x,.ref C])>>=ret) _ _ _ --
 (exact ae (bw (cA h (fun v s' z=> ah z) fun _ _ z=> z)))
theorem a1v{v:af}{expr:Bool}(X:K.In s.heap)(I:InstAt s.heap x ox C od)(c:ClsE K C)(hf:findObj K C od name=some (.value v))(hh:handedIn v=true)(h:Q v {s with toks:=s.toks+1}):
  wpAny (model prog w) A (getAttr (.ref x) name expr) Q E s:=by
 unfold getAttr
 refine ae (wpAny_mkText (ats (s:={s with toks:=s.toks+1}) X I c (aty (s:={s with toks:=s.toks+1}) X I hf ?_)))
 exact handed_on hh h
theorem as7{Q:Option af -> aj -> Prop}(X:K.In s.heap)(I:InstAt s.heap x ox C od)(c:ClsE K C)(ha:findIn K (.ref C) "__class__"=some (some (.builtin "object.__class__")))
  (hn:specialIn K (.builtin "object.__class__") "__get__"=some (some (.builtin "getset_descriptor.__get__"))) (htk:takesIn K (.builtin "object.__class__")=some true) (h:Q (some (.ref C)) {s with toks:=s.toks+1}):
  wpAny (model prog w) A (getAttr? (.ref x) "__class__") Q E s:=by
 have hf:findObj K C od "__class__"=some (.bind (.builtin "getset_descriptor.__get__") (.builtin "object.__class__")):=by
  obtain⟨cd,hc,_⟩:=c.cd
  unfold findObj
  rw [hc,ha,du,du]
  dsimp only
  rw [hn,du]
  dsimp only
  rw [htk];rfl
 unfold getAttr? getAttrBy?
 refine ae (wpAny_mkText (ae (dq (ats (s:={s with toks:=s.toks+1}) X I c (avn (s:={s with toks:=s.toks+1}) X I hf
  (gr (class_get (s:={s with toks:=s.toks+1}) (ox:=ox) (od:=od) X I (c.sub (by decide+kernel)) (handed_on rfl ?_))))))))
 exact ah h
theorem kitx_exc(c:ClsE K C)(ha:findIn K (.ref C) "__class__"=some (some (.builtin "object.__class__")))
  (hn:specialIn K (.builtin "object.__class__") "__get__"=some (some (.builtin "getset_descriptor.__get__"))) (htk:takesIn K (.builtin "object.__class__")=some true):
  KitX K (.ref x) (.ref C) (fun h=> InstAt h x ox C od) where
 ty:=fun _ _ _ I=> I.type
 it:=fun _ _ X _=> by
  obtain⟨nm,q,N,bs,bm,sn,sub,ab,col,dd,k0,k1,k2,k3,k5,e,a⟩:=c.at_
  intro A' Q' E' s' k z
  unfold isType loadHead
  exact ae (lG (k _ _ (X _ _ e)) (ah z))
 ne:=fun h tp dd' its n sl X htp=> by
  obtain⟨nm,q,N,bs,bm,sn,sub,ab,col,dd,k0,k1,k2,k3,k5,e,a⟩:=c.at_
  refine Bool.eq_false_iff.mpr fun z=> ?_
  have e':C=tp:=fS (beq_iff_eq.mp z)
  subst e'
  have z:=congrArg Obj.cls (bZ ((X _ _ e).symm.trans htp))
  exact absurd (cU.inj z) (by decide)
 ca:=fun X I k=> as7 X I c ha hn htk k
theorem ap0{v:af}{R:hV -> aj -> Prop}(X:K.In s.heap)(I:InstAt s.heap x ox C od)(c:ClsE K C)(hn:findIn K (.ref C) name=some none)(h:wpAny (model prog w) A.in1 (storeInOwnDict (.ref x) (.ref C) (.str name tk) name v false)
   (fun fin s'=> match fin with|.done f=> R (.ok f) s'|.again c'=> c'.quiet=true/\codeAny (model prog w) A c' R s') (fun e s'=> R (.error e) s') s):
  codeAny (model prog w) A (.call (.builtin "object.__setattr__") ⟨[.ref x,.str name tk,v],[]⟩) R s:=by --
 (have SF:=PySem.F.store_object)
 obtain⟨cd,hc,hd,bm,em,ab⟩:=c.cd
 have sub:Looks (model prog w) s.heap (isInstance (.ref x) (.type "object")) true:=I.type.andThen (looks_mroIn X (c.sub (by decide+kernel)))
 (refine fM SF.slot.plain SF.entry (@check_slot (model prog w) _ _ s "object.__setattr__" "object" "__setattr__" (.ref x) [.str name tk,v] [] _ SF.kind SF.split sub (SF.args (.ref x) (.str name tk) v) ?_))
 (have hm:Looks (model prog w) s.heap (mroOf (.ref C)) cd.mro:=(looks_clsIn X hc).andThen .now)
 rw [osa_eq,refuse_eq]
 (refine ae (ae (I.type.here (ae (hm.here ?_)))))
 rw [em,refuseLoop_ref,ab.refuse]
 exact ah (ae (I.type.here (ae ((mL X hn).here (ae (ah h))))))
variable{dx t:Addr}{mA:Str -> Option af}{ns:List Str}{v:af}{Q:Unit -> aj -> Prop}
abbrev exO(C:Addr)(dx:Option Addr)(t:Addr):Obj:={cls:=.ref C,dict:=dx,data:=.fields #[.ref t,.none,.none,.none,.bool false,.none]}
theorem axq(hx:s.heap.get? x=some (exO C none t)):InstAt s.heap x (exO C none t) C none:=⟨hx,rfl,rfl,dz⟩
theorem set_some(X:K.In s.heap)(c:ClsE K C)(hn:findIn K (.ref C) name=some none)(hx:s.heap.get? x=some (exO C (some dx) t))(N:s.heap.Ns1 dx mA)(ne:dx≠x)
  (hw:eE mA ns) (hsz:ns.length <=sizeLine)
  (h: ∀h',h'.Ns1 dx (fun y=> if y=name then some v else mA y) -> bI dx s.heap h' -> Q () {s with heap:=h',toks:=s.toks+2}):
  wpAny (model prog w) A (setAttr (.ref x) name v) Q E s:=by
 obtain⟨o,es,ep,e1,e2⟩:=id N
 have I:InstAt s.heap x (exO C (some dx) t) C (some o):=⟨hx,rfl,rfl,e1⟩
 obtain⟨cd,hc,hd,_⟩:=c.cd
 refine PySem.W.set_plain X I c.sa (ap0 (s:={s with toks:=s.toks+1}) X I c hn ?_)
 refine ae (ah (ae (ae (lG hx (ae (fT.here (s:={s with toks:=s.toks+1}) (mq X hc) ?_))))))
 rw [hd]
 refine ah (a:=some dx) (ae (ah (ae ?_)))
 refine wpAny_nsSet1 (s:={s with toks:=s.toks+1}) N fun h' hn2 hs2=> ?_
 obtain⟨oD,esD,epD,hoD,hdD,hcD⟩:=hn2.count (eE.cons name v hw)
 refine ae (wpAny_lookBehind hoD (by rw [hdD];exact pastItsLine_dict (ax hcD (by rw [aK];lia))) ?_)
 exact ah (h _ hn2 hs2)
theorem set_none(X:K.In s.heap)(c:ClsE K C)(hn:findIn K (.ref C) name=some none)(hx:s.heap.get? x=some (exO C none t))
  (h: ∀h',h'.get? x=some (exO C (some s.heap.objs.size) t) -> h'.Ns1 s.heap.objs.size (fun y=> if y=name then some v else none) -> (∀b o,b≠x -> s.heap.get? b=some o -> h'.get? b=some o) ->
   Q () {s with heap:=h',toks:=s.toks+2}):
  wpAny (model prog w) A (setAttr (.ref x) name v) Q E s:=by
 have I:=axq hx
 obtain⟨cd,hc,hd,_⟩:=c.cd
 refine PySem.W.set_plain X I c.sa (ap0 (s:={s with toks:=s.toks+1}) X I c hn ?_)
 refine ae (ah (ae (ae (lG hx (ae (fT.here (s:={s with toks:=s.toks+1}) (mq X hc) ?_))))))
 rw [hd]
 have hx1:(s.heap.push {cls:=.type "dict",data:=.dict #[]}).get? x=some (exO C none t):=ai _ hx
 have hxs:x≠s.heap.objs.size:=aP (ar hx)
 refine ae (wpAny_alloc' (ae (wpAny_update' hx1 ?_)))
 refine ah (ae (ah (ae ?_)))
 have hgd:((s.heap.push {cls:=.type "dict",data:=.dict #[]}).update x fun o=> {cls:=o.cls,dict:=some s.heap.objs.size,data:=o.data,slots:=o.slots}).get? s.heap.objs.size
   =some {cls:=.type "dict",data:=.dict #[]}:=(mr _ _ _ _ hxs.symm).trans (Heap.get?_push_at rfl rfl)
 have hnd:((s.heap.push {cls:=.type "dict",data:=.dict #[]}).update x fun o=> {cls:=o.cls,dict:=some s.heap.objs.size,data:=o.data,slots:=o.slots}).Ns s.heap.objs.size (fun _=> none):=
  ⟨_,#[],_,hgd,rfl,fun e he=> absurd he (by simp),fun _=> rfl⟩ --
 refine wpAny_nsSet1 (Heap.Ns1.of_empty hnd) fun h' hn' hs=> ?_
 (obtain⟨oD,esD,epD,hoD,hdD,hcD⟩:=hn'.count (Within.cons name v Within.nil))
 (refine ae (wpAny_lookBehind hoD (by rw [hdD];exact pastItsLine_dict (ax hcD (by rw [aK,dZ,sizeLine_eq];lia))) ?_))
 refine ah (h _ ?_ hn' fun b o hb e=> ?_)
 ·exact (hs.2 x hxs).trans (bK _ hx1 rfl)
 ·exact (hs.2 b (aP (ar e))).trans ((mr _ _ _ _ hb).trans (ai _ e))
end
section
variable{prog:aV}{w:aZ}{A:br}{E:af -> aj -> Prop}{h:Heap}{g:Array iu}{d:Drawn}{t:Nat}{os:OsState}
variable{nm q:Str}{C N:Addr}{bs bm:List af}{hdct:Bool}{sn:List Str}{sub:List af}{ab:Bool}{col:Option Bool}{dd:Option Addr}{k0 k1 k2 k3 k5:Option af}
theorem anb(a:Above bm){e:Addr}{oe:Obj}{jy:List af}{Q:Unit -> aj -> Prop}(hC:h.get? C=some (fk nm q C N bs bm hdct sn sub ab col dd k0 k1 k2 k3 k5 "ValueError.__new__"))(he:h.get? e=some oe)(hcls:oe.cls=.ref C)(hq:Q () ⟨h,g,d,t,os⟩):
  wpAny M A (fL "ValueError.__init__" ⟨.ref e::jy,[]⟩) Q E ⟨h,g,d,t,os⟩:=by
 have F:=dt
 have hcB:(aH C::bm).contains (.type "ValueError")=true:=by rw [cf,a.has (T:="ValueError") (b:=true) (by decide+kernel),gh]
 have hshort:=F.noStar
 (simp only [fL,F.initKind,F.initSplit,F.initRow])
 repeat (first|(with_reducible refine cI he ?_;rw [hcls])|with_reducible refine cI hC ?_|(with_reducible refine dJ hC ?_;rw [hcB])|wp_step) --
 refine fU ?_
 rw [show∀(a b:String) (n:Nat),Bind.check ⟨.positional,"*","ValueError",.self,[⟨"args",.varPos,false⟩]⟩ a b n (bH (fun x=> x.fst) ({pos:=aH e::jy}:Args).kw)=pure () from
  fun a b n=> check_star_args _ _ _ _ _ _] --
 exact ah hq
theorem init_exc(a:Above bm){e t0:Addr}{jy:List af}(hC:h.get? C=some (fk nm q C N bs bm hdct sn sub ab col dd k0 k1 k2 k3 k5 "ValueError.__new__"))(he:h.get? e=some (exO C dx t0))(hq: ∀h',h'.get? e=some (exO C dx h.objs.size) -> (∀b o,b≠e -> h.get? b=some o -> h'.get? b=some o) -> Q .none ⟨h',g,d,t,os⟩)(hrest:jy.length <=sizeLine):
  wpAny (model prog w) A (call (.builtin "ValueError.__init__") (.ref e::jy)) Q E ⟨h,g,d,t,os⟩:=by
 have F:=dt
 refine gr (fM F.init.plain F.initEntry (anb a hC he rfl ?_))
 (unfold cF.«BaseException.__init__»)
 dsimp only
 rw [if_neg (by simp)]
 (unfold newTuple Builtin.BaseException.bexcPut)
 have he1:=ai (h:=h) {cls:=.type "tuple",data:=.seq jy.toArray} he
 refine ae (bA (ae (ae (bc (vs:= #[.ref t0,.none,.none,.none,.bool false,.none]) (x:=.ref t0) he1 rfl rfl (ae (cz (vs:= #[.ref t0,.none,.none,.none,.bool false,.none]) he1 rfl (by simp) ?_))))) (by show jy.toArray.size <=sizeLine;rw [az];exact hrest))
 refine iJ (ah (hq _ ?_ fun b o hb e'=> ?_))
 ·rw [bK _ he1 rfl]
  rfl
 ·rw [bL _ _ (cP hb)]
  exact ai _ e'
theorem aqx(a:Above bm){jy:List af}{Q:Unit -> aj -> Prop}(hC:h.get? C=some (fk nm q C N bs bm hdct sn sub ab col dd k0 k1 k2 k3 k5 "ValueError.__new__"))(hq:Q () ⟨h,g,d,t,os⟩):wpAny M A (fL "ValueError.__new__" ⟨.ref C::jy,[]⟩) Q E ⟨h,g,d,t,os⟩:=by
 have F:=dt
 have hcont:(aH C::bm).contains (.type "ValueError")=true:=by rw [cf,a.has (T:="ValueError") (b:=true) (by decide+kernel),gh]
 have hstar:=F.noStar
 (simp only [fL,F.newKind,F.newSplit,F.newRow])
 repeat (first|refine cI hC ?_|(refine dJ hC ?_;rw [hcont])|refine wpAny_staticBase_exc hC ?_|refine wpAny_madeBy_exc hC ?_|simp only [bne_self_eq_false,cL,if_false]|wp_step) --
 exact hq
theorem new_exc(a:Above bm){jy:List af}{R:hV -> aj -> Prop}(hC:h.get? C=some (fk nm q C N bs bm hdct sn sub ab col dd k0 k1 k2 k3 k5 "ValueError.__new__"))
  (hq:R (.ok (.ret (.ref (h.objs.size+1)))) ⟨(h.push {cls:=.type "tuple",data:=.seq jy.toArray}).push (exO C none h.objs.size),g,d,t,os⟩) (hrest:jy.length <=sizeLine):
  codeAny (model prog w) A (.builtin "ValueError.__new__" ⟨.ref C::jy,[]⟩) R ⟨h,g,d,t,os⟩:=by
 have F:=dt
 have hends:=F.ends
 have hcB:(aH C::bm).contains (.type "ValueError")=true:=by rw [cf,a.has (T:="ValueError") (b:=true) (by decide+kernel),gh]
 have hcA:(aH C::bm).contains (.type "AttributeError")=false:=by rw [cf,a.has (T:="AttributeError") F.noAttr];rfl
 have hcN:(aH C::bm).contains (.type "NameError")=false:=by rw [cf,a.has (T:="NameError") F.noName];rfl
 (refine codeAny_builtinAt F.entry ?_)
 (unfold cF.«BaseException.__new__»)
 refine PySem.wpAt_bind ?_
 show PySem.wpAt _ _ _ (stack >>=_) _ _ _
 refine PySem.wpAt_bind (PySem.wpAt_stack fun p below=> ms ?_)
 wp_walk
 refine ms ?_
 rw [F.owner]
 repeat (first|with_reducible refine wpAny_madeHere_exc F.canon hC ?_|with_reducible refine cI hC ?_|(with_reducible refine dJ hC ?_;first|rw [hcB]|rw [hcA]|rw [hcN])|wp_step) --
 show R _ _
 rw [bd]
 exact hq
theorem make_exc{K:Frag}{jy:List af}(X:K.In h)(c:ClsE K C)(hi:findIn K (.ref C) "__init__"=some (some (.ref f)))(hf:typeIn K (.ref f)=some (.type "function"))(hq:codeAny (model prog w) (A.under (.builtin "type.__call__" ⟨.ref C::jy,[]⟩)) (.call (.ref f) ⟨.ref (h.objs.size+1)::jy,[]⟩) (fun r s'=> match r with
    |.ok (.ret v)=> v=.none/\Q (.ref (h.objs.size+1)) s'
    |.ok _=> False
    |.error e=> E e s') ⟨(h.push {cls:=.type "tuple",data:=.seq jy.toArray}).push (exO C none h.objs.size),g,d,t,os⟩) (hrest:jy.length <=sizeLine):
  wpAny (model prog w) A (call (.ref C) jy) Q E ⟨h,g,d,t,os⟩:=by --
 have F:=dt
 obtain⟨nm,q,N,bs,bm,sn,sub,ab,col,dd,k0,k1,k2,k3,k5,e,a⟩:=c.at_
 have hC:=X _ _ e
 have f1:=tc_lookup
 have f2:=tc_bind (.ref C)
 (have hT:(⟨h,g,d,t,os⟩:aj).TypeIs (.ref C) "type":=⟨_,hC,rfl⟩)
 (refine gr (kU ?_))
 show wpAny _ _ (callAny (.ref C) _) _ _ _ --
 repeat (any_goals (first|assumption|with_reducible refine cI hC ?_|wp_step)) --
 refine⟨rfl,?_⟩
 refine codeAny_call_builtin_at (iS _ (by decide+kernel)) entry_typeCall (wpAny_check_type_call_sub hC ?_)
 repeat (first|with_reducible refine cI hC ?_|with_reducible refine wpAny_madeBy_exc hC ?_|wp_step) --
 refine codeAny_call_builtin_code (iS _ F.quiet) (aqx a hC ?_)
 refine new_exc a hC ?_ hrest
 show wpAny _ _ _ _ _ _
 have k: ∀b o,h.get? b=some o -> ((h.push {cls:=.type "tuple",data:=.seq jy.toArray}).push (exO C none h.objs.size)).get? b=some o:=fun b o e=> ai _ (ai _ e)
 have hC₁:=k _ _ hC
 have hget:((h.push {cls:=.type "tuple",data:=.seq jy.toArray}).push (exO C none h.objs.size)).get? (h.objs.size+1)=some {cls:=.ref C,data:=.fields #[.ref h.objs.size,.none,.none,.none,.bool false,.none]}:=by heap_get
 (have hcC:(aH C::bm).contains (.ref C)=true:=by simp)
 unfold isInstance
 repeat (first|with_reducible refine cI hget ?_|(with_reducible refine dJ hC₁ ?_;rw [hcC])|wp_step) --
 (refine dJ hC₁ ?_;rw [hcC])
 repeat (first|with_reducible refine cI hget ?_|wp_step)
 show wpAny _ _ (typeLookup (.ref C) _) _ _ _ --
 have L1:=(mL (M:=model prog w) X hi).keeps k
 have L2:=(bind_fn (M:=model prog w) X (.ref (h.objs.size+1)) hf).keeps k
 refine L1.at ?_
 refine bw (ae (L2.at (ae (gr (dR hq fun r s' z=> ?_)))))
 (rcases r with e|(v|_|_|_) <;> first|exact z|exact z.elim|skip)
 obtain⟨rfl,hQ⟩:=z
 wp_walk
 exact hQ
end
end EX
namespace L2
open PySem PySem.Spec PyProof.Rows EX
structure ClsX (K:ak) (C:Addr):Prop extends ClsE K C where
 ca:cK K (.ref C) "__class__"=some (some (.builtin "object.__class__"))
 cg:fq K (.builtin "object.__class__") "__get__"=some (some (.builtin "getset_descriptor.__get__"))
 ct:kN K (.builtin "object.__class__")=some true
section
variable{X:Cx}{pins:List (Addr×Obj)}{σ:St}{H:Hp}{s:aj}{a C:Addr}{fs:List (Str×V)}{f:Str}{v:V}{A:br}{E:af -> aj -> Prop}
theorem afp(hok:HOk X.prog X.w H s.heap)(e:H a=some (.exn C fs)):fs.length <=1000/\ ∃(t:Addr) (dxo:Option Addr),s.heap.get? a=some (awg C dxo t)/\((dxo=none/\fs=[])\/ ∃dx,dxo=some dx/\H dx=some (.own a)/\dx≠a/\
   ∃mA,s.heap.Ns1 dx mA/\(∀f,abf (fs.lookup f) (mA f))/\eE mA (fs.map (·.1))):=
 (show j7 X.prog X.w H s.heap a (.exn C fs) from hok a _ e)
theorem an8{y:V}{Q:Unit -> aj -> Prop}(I:Inv X pins σ H s)(e:H a=some (.exn C fs))(c:ClsX X.K C)(n:yb X.K C f)(hl:fs.length < 1000)(ry:RelV y u)(h: ∀s' H1,(H1=H\/ ∃dx,H dx=none/\H1=upd H dx (.own a)) -> Inv X pins σ (upd H1 a (.exn C (vn f y fs))) s' -> Q () s'):wpAny (model X.prog X.w) A (setAttr (.ref a) f u) Q E s:=by
 have hlen:(vn f y fs).length <=1000:=by have:=ag5 f y fs;lia
 obtain⟨_,t,dxo,hx,⟨q,q2⟩|⟨dx,q,ho,ne,mA,N,r,wi⟩⟩:=afp I.hok e
 ·subst q
  have hz:s.heap.objs.size≠a:=cP (aP (ar hx))
  refine EX.set_none I.kIn c.toClsE n hx fun h' hx' N' k=> ?_
  obtain⟨od,es,ep,hod,hc⟩:=id N'
  have hf:od.isFreed=false:=(Heap.get?_some_iff.mp hod).2
  have e1:(s.heap.push od).get? s.heap.objs.size=some od:=ay s.heap hf
  have I1:=I.laid (a:=s.heap.objs.size) (o:=.own a) (h':=s.heap.push od) (t':=s.toks) (fun b u q=> ai _ q) (ao _) ⟨_,e1⟩
  have ea:upd H s.heap.objs.size (.own a) a=some (.exn C fs):=by rw [kq (cP hz)];exact e
  refine h _ _ (.inr ⟨_,I.hok.fresh (ao _),rfl⟩) (I1.write (x:=a) (e:=a) (h':=h') (t':=s.toks+2) (by rw [ea];exact dz) (.inl rfl) (fun b v hb z=> ?_) ⟨_,hx'⟩ ?_)
  ·by_cases hbs:b=s.heap.objs.size
   ·subst hbs
    have z:(s.heap.push od).get? s.heap.objs.size=some v:=z
    rw [e1]at z;cases z;exact hod
   ·refine k b v hb ?_
    have z:(s.heap.push od).get? b=some v:=z
    rwa [jI s.heap b od hbs]at z
  ·refine⟨hlen,t,some s.heap.objs.size,hx',.inr ⟨_,rfl,by rw [kq hz,yf],hz,_,N',fun g=> ?_,fun g hg=> ?_⟩⟩
   ·show abf ((vn f y fs).lookup g) (if g=f then some u else none)
    rw [act]
    by_cases q:g=f
    ·rw [if_pos q,if_pos q];exact ry
    ·rw [if_neg q,if_neg q,q2];exact dz
   ·by_cases q:g=f
    ·rw [q];exact (ack f y fs).1
    ·exact absurd (by show (if g=f then some u else none)=none;rw [if_neg q]) hg
 ·subst q
  have hz:(fs.map (·.1)).length <=sizeLine:=by rw [am,sizeLine_eq];lia
  refine EX.set_some I.kIn c.toClsE n hx N ne wi hz fun h' N' sb=> ?_
  have hd: ∃o,h'.get? dx=some o:=let ⟨o,_,_,e',_⟩:=N';⟨o,e'⟩
  refine h _ _ (.inl rfl) (I.write (x:=a) (e:=dx) (t':=s.toks+2) (by rw [e];exact dz) (.inr ho) (fun b q hb z=> (sb.2 b hb).trans z) hd ?_)
  refine⟨hlen,t,some dx,(sb.2 a (cP ne)).trans hx,.inr ⟨dx,rfl,by rw [kq ne];exact ho,ne,_,N',fun g=> ?_,fun g hg=> ?_⟩⟩
  ·show abf ((vn f y fs).lookup g) (if g=f then some u else mA g)
   rw [act]
   by_cases q:g=f
   ·rw [if_pos q,if_pos q];exact ry
   ·rw [if_neg q,if_neg q];exact r g
  ·by_cases q:g=f
   ·rw [q];exact (ack f y fs).1
   ·refine (ack f y fs).2 g (wi g fun z=> hg ?_)
    show (if g=f then some u else mA g)=none
    rw [if_neg q];exact z
theorem aws(I:Inv X pins σ H s)(e:H a=some (.exn C fs))(cl:ClsX X.K C)(hu:us.length <=sizeLine)(h: ∀s',Inv X pins σ H s' -> Q .none s'):
  wpAny (model X.prog X.w) A (call (.builtin "ValueError.__init__") (.ref a::us)) Q E s:=by
 obtain⟨z,t,dxo,hx,w⟩:=afp I.hok e
 obtain⟨nm,q,N,bs,bm,sn,sub,ab,col,dd,k0,k1,k2,k3,k5,hK,av⟩:=cl.at_
 (obtain⟨hp,g,d,tk,os⟩:=s)
 refine EX.init_exc (t:=tk) av (I.kIn _ _ hK) hx (fun h' hx' k=> h _ ?_) hu
 have hH:upd H a (.exn C fs)=H:=by
  funext b;unfold upd;split
  ·rename_i y;subst y;exact e.symm
  ·rfl
 have:=I.write (x:=a) (e:=a) (h':=h') (t':=tk) (o:=.exn C fs) (by rw [e];exact dz) (.inl rfl) (fun b v hb y=> k b v hb y) ⟨_,hx'⟩ ?_
 ·rw [hH]at this;exact this
 ·rw [hH]
  refine⟨z,hp.objs.size,dxo,hx',?_⟩
  rcases w with w|⟨dx,w1,ho,ne,mA,⟨od,es,ep,e2,c⟩,r⟩
  ·exact .inl w
  ·exact .inr ⟨dx,w1,ho,ne,mA,⟨od,es,ep,k _ _ ne e2,c⟩,r⟩
end
section
variable{X:Cx}{o e value:Expr}{es:List Expr}{f:Str}{pos pos' apos p:Pos}{ta tv:TE}{t:TA}
def a6q(K:ak)(ta tv:TE)(f:Str):TS:=fun D σ H=> tv σ H fun y H1=> ta σ H1 fun x H2=> ∃a C fs,x=.ref a/\H2 a=some (.exn C fs)/\ClsX K C/\yb K C f/\fs.length < 1000/\
 ∀H3,(H3=H2\/ ∃dx,H2 dx=none/\H3=upd H2 dx (.own a)) -> D.nx σ (upd H3 a (.exn C (vn f y fs)))
theorem a14(ha:PE X o ta)(hv:PE X value tv)(hs:f9 value (some (.Attribute o f pos')) pos.line X.env=pure false):PS X (.Assign [.Attribute o f pos'] value pos) (a6q X.K ta tv f):=by
 refine⟨?_⟩;intro pins s σ H D I h
 refine plainObj_wpAny_Assign_Attribute (thn (hv pins s σ H _ I h) fun u s1 ⟨y,H1,I1,ry,q⟩=> thn (ha pins s1 σ H1 _ I1 q) fun ov s2 ⟨x,H2,I2,rx,a,C,fs,ex,ea,c,n,l,q2⟩=> ?_) hs
 subst ex
 obtain rfl:ov=aH a:=rx
 exact an8 I2 ea c n l ry fun s3 H3 w I3=> ⟨σ,_,I3,q2 H3 w⟩
structure ClsM (K:ak) (C:Addr) (m:Str) (f:Addr):Prop where
 rd:PySem.W.readsIn K C (.type "type")=true
 fc:kX K (.ref C) (.type "type") m=some (.val (.ref f))
 sg:fq K (.ref C) "__getattribute__"=some (some (.builtin "type.__getattribute__"))
 kp:df K (.ref f)=true
noncomputable def a31(X:Cx)(f:Addr)(t:TA):TE:=fun σ H Q=> t σ H fun vs H1=> a9d X f σ vs H1 Q
theorem awe{x m:Str}{g:Addr}{pl:Sem Bool}(c:ClsM X.K C m g)(hg:Gl X x)(hm:X.mg x=some (.ref C))(ha:PA X (e::es) t)(hdb:(x==("__debug__":Str))=false:=by decide)(hst:starEach (e::es) X.env=(false,eval e X.env)::starEach es X.env:=by rfl)(hpl:(backTo pos (starEach es X.env)).any (·.1)=false:=by rfl)(ht:eval (.Call (.Attribute (.Name x p) m apos) (e::es) [] pos) X.env=(do
   let ov←eval (.Name x p) X.env
   standAt apos.atName
   let (f,first)←holding [ov] (kY ov m pl)
   callWith pos f first (backTo pos (starEach (e::es) X.env)) (backToKw pos (gI [] X.env))):=by rfl):
  PE X (.Call (.Attribute (.Name x p) m apos) (e::es) [] pos) (a31 X g t):=by
 refine⟨?_⟩;intro pins s σ H Q I h
 refine lH (pl:=pl) (adk I hg hm ?_ hdb) ht
 refine PySem.W.method_cls I.kIn c.sg (PySem.W.cls_value I.kIn c.rd c.fc rfl ?_)
 have I1:=I.tok (s.toks+1)
 refine iO (first:=[]) (h₀:=X.base) I.ok.mod.kin c.kp (thn (ha pos pins _ σ H _ I1 h) fun us s2 ⟨vs,H2,I2,r,q2⟩=> ⟨I2.kIn,?_⟩) hst hpl
 exact q2 pins s2 us I2 r
def a5v(K:ak)(t:TA):TE:=fun σ H Q=> t σ H fun vs H1=> ∃a C fs ws,vs=.ref a::ws/\H1 a=some (.exn C fs)/\ClsX K C/\ws.length <=sizeLine/\Q .non H1
theorem fcV(K:ak):kX K (.type "ValueError") (.type "type") "__init__"=some (.val (.builtin "ValueError.__init__")):=by kernel_rfl
theorem aux{pl:Sem Bool}(hg:Gl X "ValueError")(hm:X.mg "ValueError"=none)(ha:PA X (e::es) t)
  (hst:starEach (e::es) X.env=(false,eval e X.env)::starEach es X.env:=by rfl) (hpl:(backTo pos (starEach es X.env)).any (·.1)=false:=by rfl)
  (ht:eval (.Call (.Attribute (.Name "ValueError" p) "__init__" apos) (e::es) [] pos) X.env=(do
   let ov←eval (.Name "ValueError" p) X.env
   standAt apos.atName
   let (f,first)←holding [ov] (kY ov "__init__" pl)
   callWith pos f first (backTo pos (starEach (e::es) X.env)) (backToKw pos (gI [] X.env))):=by rfl):
  PE X (.Call (.Attribute (.Name "ValueError" p) "__init__" apos) (e::es) [] pos) (a5v X.K t):=by
 refine⟨?_⟩;intro pins s σ H Q I h
 refine lH (pl:=pl) (abp I hg hm (u:=.type "ValueError") PyProof.Rows.Boot.«ValueError» ?_ (by decide) (by decide)) ht
 have L0:fT (model X.prog X.w) s.heap (typeOf (.type "ValueError")) (.type "type"):=lI (by kernel_rfl)
 have hga:cK X.K (.type "type") "__getattribute__"=some (some (.builtin "type.__getattribute__")):=PySem.W.type_tga
 unfold kY specialOf
 refine ae (ae (L0.here ((PySem.W.looks_findIn I.kIn hga).here ?_)))
 dsimp only
 rw [if_pos PySem.W.canon_tga]
 have LO:fT (model X.prog X.w) s.heap (opaqueClassAbove (.type "ValueError")) none:=lI (by kernel_rfl)
 refine ae (PySem.W.cls_open I.kIn LO L0 hga (PySem.W.looks_hook I.kIn (r:=none) (by rfl)) (by rfl) (fcV X.K) (ah ?_))
 show wpAny _ _ (handedOut (.builtin "ValueError.__init__")) _ _ _
 rw [PySem.W.handedOut_of (by kernel_rfl)]
 (refine ah (ah ?_))
 have I1:=I.tok (s.toks+1)
 refine hZ (thn (ha pos pins _ σ H _ I1 h) fun us s2 ⟨vs,H2,I2,r,a,C,fs,ws,ev,ea,c,hl,q2⟩=> ?_) hst hpl
 subst ev
 cases r with
 | @cons _ u _ us' r1 r2=>
  obtain rfl:u=aH a:=r1
  exact aws I2 ea c (by rw [←r2.length];exact hl) fun s3 I3=> ⟨.non,H2,I3,rfl,q2⟩
end
section
variable{X:Cx}{CX:CXT}{k:Nat}{f C:Addr}{fd:eF}{ps:List Str}{sp:Sp}{E:SK}{x:Str}{p pos:Pos}{e:Expr}{es:List Expr}{t:TA}
structure MkX (K:ak) (C f:Addr):Prop where
 cl:ClsX K C
 init:cK K (.ref C) "__init__"=some (some (.ref f))
 fn:PySem.W.isFn K (.ref f)=true
 kp:df K (.ref C)=true
theorem as9{Q:VK}{vs:List V}(M:MkX X.K C f)(F:FnOk X.prog X.w X.K X.mg X.base CX k f fd ps sp)(hr:Room (k+1) X.A)(hb:Binds X.K fd ps [])(hx:aev CX X E)(I:Inv X pins σ H s)(r:jo vs us)(hz:us.length <=sizeLine)(h: ∀x,H x=none -> sp (.ref x::vs) (upd H x (.exn C [])) (fun v H2=> v=.non/\Q (.ref x) H2) (E σ)):
  wpAny (model X.prog X.w) X.A (call (.ref C) us) (EP X pins σ Q) X.xe s:=by
 have hq:=h (s.heap.objs.size+1) (I.hok.fresh (eB _))
 have e1:((s.heap.push {cls:=.type "tuple",data:=.seq us.toArray}).push (exO C none s.heap.objs.size)).get? (s.heap.objs.size+1)=some (exO C none s.heap.objs.size):=by
  have:=ay (s.heap.push {cls:=.type "tuple",data:=.seq us.toArray}) (o:=exO C none s.heap.objs.size) rfl
  rwa [bd]at this
 have I2:Inv X pins σ (upd H (s.heap.objs.size+1) (.exn C [])) {s with heap:=(s.heap.push {cls:=.type "tuple",data:=.seq us.toArray}).push (exO C none s.heap.objs.size)}:=
  I.laid (a:=s.heap.objs.size+1) (o:=.exn C []) (t':=s.toks) (fun b u q=> ai _ (ai _ q)) (eB _) ⟨dw _,_,none,e1,.inl ⟨rfl,rfl⟩⟩
 have r2:jo (V.ref (s.heap.objs.size+1)::vs) (aH (s.heap.objs.size+1)::us):=.cons rfl r
 have hl:(aH (s.heap.objs.size+1)::us++ []).length=ps.length:=by
  have e:=r2.length
  rw [F.len _ _ _ _ hq]at e
  rw [cq];exact e.symm
 have hB:=hb _ (aH (s.heap.objs.size+1)::us) I2.kIn hl
 rw [cq]at hB
 (obtain⟨hp,g,d,tk,os⟩:=s)
 refine EX.make_exc I.kIn M.cl.toClsE M.init (beq_iff_eq.mp M.fn) (dR (F.run _ X.stack _ _ ⟨aH (hp.objs.size+1)::us,[]⟩ (aH (hp.objs.size+1)::us) _ _ (E σ) (hr.make C us [])
  (I2.env0.make C us []) hB r2 hq) fun r s' hq'=> ?_) hz
 cases r with
 |error e=> exact hx pins σ _ _ e s' I2 hq'
 | ok fl=>
  cases fl with
  |ret u=>
   obtain⟨v,H',I3,rv,ev,q3⟩:=I2.after hq'
   subst ev
   exact⟨rv,⟨V.ref (hp.objs.size+1),H',I3,rfl,q3⟩⟩
  |next=> exact dA hq'
  |brk=> exact dA hq'
  |cont=> exact dA hq'
def a2k(C:Addr)(sp:Sp)(E:SK)(t:TA):TE:=fun σ H Q=> t σ H fun vs H1=> vs.length <=sizeLine/\ ∀x,H1 x=none -> sp (.ref x::vs) (upd H1 x (.exn C [])) (fun v H2=> v=.non/\Q (.ref x) H2) (E σ)
theorem aw1(M:MkX X.K C f)(F:FnOk X.prog X.w X.K X.mg X.base CX k f fd ps sp)(hr:Room (k+1) X.A)(hg:Gl X x)(hm:X.mg x=some (.ref C))(hb:Binds X.K fd ps [])(hx:aev CX X E)
  (ha:PA X (e::es) t) (hdb:(x==("__debug__":Str))=false:=by decide) (he:starEach (e::es) X.env=(false,eval e X.env)::starEach es X.env:=by rfl) (hpl:(backTo pos (starEach es X.env)).any (·.1)=false:=by rfl):
  PE X (.Call (.Name x p) (e::es) [] pos) (a2k C sp E t):=by
 refine⟨?_⟩;intro pins s σ H Q I h
 refine gb (adk I hg hm ?_ hdb)
 refine iO (h₀:=X.base) I.ok.mod.kin M.kp (thn (ha pos pins s σ H _ I h) fun us s1 ⟨vs,H1,I1,r,hz,q⟩=> ⟨I1.kIn,?_⟩) he hpl
 exact as9 M F hr hb hx I1 r (show us.length <=sizeLine from r.length▸hz) q
end
end L2
namespace L2
open PySem PySem.Spec
structure Noted (l:List Env) (p C:Addr) (dx:Option Addr) (t:Addr) (h h':Heap):Prop where
 sz:h'.objs.size=h.objs.size+1
 keep: ∀b o,h.get? b=some o -> b≠p -> b∉frs l -> h'.get? b=some o
 slot: ∀b o,h.get? b=some o -> b≠p -> ∃sl,h'.get? b=some {o with slots:=sl}
 exc:h'.get? p=some (y4 C dx t (.ref h.objs.size))
 ent: ∃oT ts,h'.get? h.objs.size=some oT/\oT.data=.fields ts/\ts[3]?=some .none
theorem ang{outer:List Env}{L t:Addr}{tb head:af}{hadNext:Bool}{Q:Unit -> aj -> Prop}(hfr:A.frames=some (env::outer))(hl:s.heap.FunFrames base (env::outer))(hf:env.frame=some L)(he:s.heap.get? p=some (y4 C dx t tb))(h: ∀h',Noted (env::outer) p C dx t s.heap h' -> Q () {s with heap:=h'}):
  wpAny M A (do let a←frameOf env;let pl←entryPlaceOf L hadNext;let b←mw head a .none (rawInt L) .none pl;setField (.ref p) 1 b) (fun _ s'=> wpAny M A (iV (.ref p) none) Q E s') E s:=by
 have hene:p∉(env::outer).filterMap (·.frame):=fun hm=> by
  (obtain⟨_,o,ho,hnf⟩:=hl.mem hm)
  rw [he]at ho;injection ho with ho;subst ho;exact hnf _ rfl
 (refine ae (wpAny_frameOf_fun hfr hl hf fun h₁ hs₁=> ?_))
 (refine ae (wpAny_entryPlaceOf fun pl hpl=> ?_))
 (unfold mw newFields)
 (refine ae (bA ?_ (hpl.sizeOk5 _ _ _ _ _)))
 have he₁:h₁.get? p=some (y4 C dx t tb):=(hs₁.2.1 p hene).trans he
 (have he₂:=ai (h:=h₁) {cls:=.type "traceback",dict:=none,data:=.fields ([head,.ref L,.none,rawInt L,.none]++(if pl.isEmpty then aA 6 bP else pl)).toArray} he₁)
 refine cz he₂ rfl (show 1 < 6 by decide) ?_
 have hTe:h₁.objs.size≠p:=dP (ar he₁)
 have he₃:=bK (de (·.setIfInBounds 1 (aH h₁.objs.size))) he₂ (g9 (eX rfl _))
 have hT₃:=(bL (h₁.push {cls:=.type "traceback",dict:=none,data:=.fields ([head,.ref L,.none,rawInt L,.none]++(if pl.isEmpty then aA 6 bP else pl)).toArray}) --
  (de (·.setIfInBounds 1 (aH h₁.objs.size))) (cP hTe)).trans (ay h₁ rfl) --
 unfold iV
 refine ae (bc he₃ rfl (x:=.ref h₁.objs.size) rfl ?_)
 (rw [if_pos (show (aH h₁.objs.size !=bP)=true from by simp)])
 (refine cz hT₃ rfl (by simp only [az,bq,aK,dZ] <;> lia) (h _ ?_))
 have keep: ∀b o,b≠p -> h₁.get? b=some o ->
   (((h₁.push {cls:=.type "traceback",dict:=none,data:=.fields ([head,.ref L,.none,rawInt L,.none]++(if pl.isEmpty then aA 6 bP else pl)).toArray}).update p (de (·.setIfInBounds 1 (aH h₁.objs.size)))).update h₁.objs.size
    (de (·.setIfInBounds 3 ((none:Option Addr).elim bP fun f=> rawInt f)))).get? b=some o:=fun b o hbe hb=> by --
  (have hbT:h₁.objs.size≠b:=dP (ar hb))
  (rw [bL _ _ hbT,bL _ _ (cP hbe)])
  (exact ai _ hb)
 refine⟨?_,fun b o hb hbp hbf=> keep b o hbp ((hs₁.2.1 b hbf).trans hb),fun b o hb hbp=> ?_,?_,?_⟩
 ·rw [lm,lm,←hs₁.1]
  simp [Heap.push]
 ·obtain⟨sl,hs⟩:=hs₁.2.2 b o hb
  exact⟨sl,keep b _ hbp hs⟩
 ·rw [bL _ _ hTe,he₃,←hs₁.1];rfl
 ·rw [←hs₁.1]
  exact⟨_,_,bK _ hT₃ (g9 (eX rfl _)),eX rfl _,by first|(simp;done)|(rcases hpl with rfl|⟨_,_,_,_,_,_,_,rfl⟩ <;> simp)⟩
def al5(h:Heap)(p:Addr)(tb:af):Prop:=tb=.none\/ ∃T oT ts,tb=.ref T/\T≠p/\h.get? T=some oT/\oT.data=.fields ts/\ts[3]?=some .none
theorem ato{outer:List Env}{L t:Addr}{tb:af}{Q:Unit -> aj -> Prop}(hfr:A.frames=some (env::outer))(hl:s.heap.FunFrames base (env::outer))(hf:env.frame=some L)(he:s.heap.get? p=some (y4 C dx t tb))(ht:al5 s.heap p tb)(h: ∀h',Noted (env::outer) p C dx t s.heap h' -> Q () {s with heap:=h'}):wpAny M A (kR (.ref p) env) (fun _ s'=> wpAny M A (iV (.ref p) none) Q E s') E s:=by
 unfold kR
 simp only [hf]
 rcases ht with rfl|⟨T,oT,ts,rfl,hTp,hT,hd,h3⟩
 ·refine ae (bc he rfl (x:=.none) rfl ?_)
  rw [if_neg (by decide)]
  exact ang hfr hl hf he h
 ·refine ae (bc he rfl (x:=.ref T) rfl ?_)
  (rw [if_pos (show (aH T !=bP)=true from by simp)])
  refine ae (bc hT hd h3 ?_)
  (rw [if_neg (show¬((bP==rawInt L)=true) from by simp [rawInt])])
  refine ae (cz hT hd (bM.mp h3).1 ?_)
  rw [jR _ _ _ _ _ _ hT hd h3]
  exact ang hfr hl hf he h
theorem a1x{outer:List Env}{L t:Addr}{tb:af}{Q:Unit -> aj -> Prop}(hfr:A.frames=some (env::outer))(hl:s.heap.FunFrames base (env::outer))(hf:env.frame=some L)(he:s.heap.get? p=some (y4 C dx t tb))(ht:al5 s.heap p tb)(h: ∀h',Noted (env::outer) p C dx t s.heap h' -> Q () {s with heap:=h'}):wpAny M A (leaving env (.ref p)) Q E s:=by
 unfold leaving
 exact ae (ato hfr hl hf he ht h)
end L2
namespace L2
open PySem PySem.Spec PyProof.Rows EX
section
variable{P:aV}{w:aZ}{H H':Hp}{h h':Heap}{l:List Env}{p C t:Addr}{dx:Option Addr}{fs:List (Str×V)}
theorem Noted.un(n:Noted l p C dx t h h')(hp:H p=some (.exx C fs)):Un (frs l) [] H H h h' where
 keep b o e hn hf _:=n.keep b o e (fun z=> by rw [z,hp]at hn;cases hn) hf
 slot b o e hn _ _:=n.slot b o e fun z=> by rw [z,hp]at hn;cases hn
 free b o _ hn _:=hn
 there b o e _:=by
  by_cases z:b=p
  ·rw [z];exact⟨_,n.exc⟩
  ·obtain⟨sl,q⟩:=n.slot b o e z;exact⟨_,q⟩
 tups _ _ q:=q
 frzs _ _ _ q:=q
 tbls _ ps q:=⟨#[],by rw [Array.append_empty];exact q⟩
theorem Noted.hok(n:Noted l p C dx t h h')(ok:HOk P w H h)(hp:H p=some (.exx C fs))(he: ∃tb,h.get? p=some (y4 C dx t tb))(hf: ∀b∈frs l,H b=none):HOk P w H h':=fun a o q=> by
 by_cases z:a=p
 ·subst z
  rw [hp]at q;cases q
  obtain⟨b0,t',tb',dxo,e,r⟩:=(show j7 P w H h a (.exx C fs) from ok a _ hp)
  obtain⟨tb,he⟩:=he
  rw [he]at e
  have e:=bZ e
  have ed:dx=dxo:=congrArg Obj.dict e
  subst ed
  refine⟨b0,t,_,dx,n.exc,?_⟩
  rcases r with r|⟨d,r,d1,ne,mA,⟨od,es,ep,e2,c⟩,r'⟩
  ·exact .inl r
  ·refine .inr ⟨d,r,d1,ne,mA,⟨od,es,ep,n.keep d od e2 ne (fun m=> ?_),c⟩,r'⟩
   rw [hf d m]at d1;cases d1
 ·refine (ok a o q).stay (fun b u hb e=> n.keep b u e ?_ ?_) (fun _ r=> r) fun _ _ r=> r
  ·rcases hb with rfl|hb
   ·exact z
   ·intro y;rw [y,hp]at hb;cases hb
  ·intro m
   rcases hb with rfl|hb
   ·rw [hf b m]at q;cases q
   ·rw [hf b m]at hb;cases hb
end
def CX1(P:aV)(w:aZ):CXT:=fun outer H s E e s'=> ∃(p:Addr) (H':Hp) (C:Addr) (fs:List (Str×V)) (t:Addr) (dx:Option Addr) (tb:af),e=.ref p/\s'.os=s.os/\gn s'.gens/\
 Un (frs outer) [] H H' s.heap s'.heap/\HOk P w H' s'.heap/\H' p=some (.exx C fs)/\s'.heap.get? p=some (y4 C dx t tb)/\al5 s'.heap p tb/\E (.ref p) none H'
abbrev XE:=St -> Addr -> Hp -> Prop
noncomputable def XE.sk(E:XE):SK:=fun σ v _ H=> ∃p,v=.ref p/\E σ p H
structure XOk (X:Cx) (E:XE):Prop where
 pass:aev (CX1 X.prog X.w) X E.sk
 own:m8 (model X.prog X.w) X.A X.env X.xe
theorem XOk.never(h:m8 (model X.prog X.w) X.A X.env X.xe):XOk X fun _ _ _=> False:=⟨fun _ _ _ _ _ _ _ ⟨_,_,_,_,_,_,_,_,_,_,_,_,_,_,_,_,_,f⟩=> f.elim,h⟩
theorem a70{cd:af}{outer:List Env}{E:XK}:
  XOk (zk (CX1 P w) P w K mg base N qual scope f cd A outer s H E) fun _ p H=> E (.ref p) none H:=by
 refine⟨fun pins σ H1 s1 e s' I hc=> ?_,PassesOwn.leaving⟩
 obtain⟨p,H2,C,fs,t,dx,tb,rfl,os,bare,un,hok,hp,he,ht,p',ep,hE⟩:=hc
 cases ep
 have J:=I.call' (H':=H2) os un hok bare fun b z=> absurd z (by simp)
 refine a1x (M:=model P w) J.ok.frames J.stack rfl he ht fun h' n=> ?_
 have fr: ∀b∈frs (zk (CX1 P w) P w K mg base N qual scope f cd A outer s H E).stack,H2 b=none:=J.stkFree
 have B:Un (frs outer) [] H H2 s.heap s'.heap:=J.base
 have hL:s.heap.objs.size <=(zk (CX1 P w) P w K mg base N qual scope f cd A outer s H E).env.locals:=J.ok.above
 have inF: ∀b,b∈frs (zk (CX1 P w) P w K mg base N qual scope f cd A outer s H E).stack -> b=(zk (CX1 P w) P w K mg base N qual scope f cd A outer s H E).env.locals\/b∈frs outer:=fun b z=> aq.mp (J.stkSub b z)
 refine⟨p,H2,C,fs,t,dx,.ref s'.heap.objs.size,rfl,J.os,J.bare,⟨fun b o e hn hf hx=> ?_,fun b o e hn hf hx=> ?_,B.free,fun b o e hx=> ?_,B.tups,B.frzs,B.tbls⟩,n.hok hok hp ⟨tb,he⟩ fr,hp,n.exc,.inr ?_,hE⟩
 ·refine n.keep b o (B.keep b o e hn hf hx) (fun z=> ?_) fun z=> ?_
  ·have:=B.free b o e hn hx;rw [z,hp]at this;cases this
  ·rcases inF b z with z|z
   ·exact absurd (ar e) (by rw [z];exact jP.mpr hL)
   ·exact hf z
 ·obtain⟨sl,q⟩:=B.slot b o e hn hf hx
  obtain⟨sl2,q2⟩:=n.slot b _ q fun z=> by have:=B.free b o e hn hx;rw [z,hp]at this;cases this
  exact⟨sl2,q2⟩
 ·obtain⟨o',q⟩:=B.there b o e hx
  by_cases z:b=p
  ·rw [z];exact⟨_,n.exc⟩
  ·obtain⟨sl,q2⟩:=n.slot b o' q z;exact⟨_,q2⟩
 ·obtain⟨oT,ts,e1,e2,e3⟩:=n.ent
  exact⟨_,oT,ts,rfl,dP (ar he),e1,e2,e3⟩
section
variable{X:Cx}{pins:List (Addr×Obj)}{σ:St}{H:Hp}{s:aj}{p C:Addr}{fs:List (Str×V)}{E:XE}
theorem XOk.raise(x:XOk X E)(I:Inv X pins σ H s)(e:H p=some (.exn C fs))(h:E σ p (upd H p (.exx C fs))):X.xe (.ref p) s:=by
 obtain⟨b0,t,dxo,he,r⟩:=afp I.hok e
 refine x.pass pins σ H s (.ref p) s I ⟨p,upd H p (.exx C fs),C,fs,t,dxo,.none,rfl,rfl,I.bare,Un.write (e:=p) (by rw [e];trivial) (.inl rfl) (fun b u _ q=> q) ⟨_,he⟩,?_,yf,he,.inl rfl,p,rfl,h⟩
 refine I.hok.write (e:=p) (by rw [e];trivial) (.inl rfl) (fun b u _ q=> q) ⟨_,he⟩ ⟨b0,t,.none,dxo,he,?_⟩
 rcases r with r|⟨d,r,d1,ne,r'⟩
 ·exact .inl r
 ·exact .inr ⟨d,r,by rw [kq ne];exact d1,ne,r'⟩
end
theorem a1n{x:Sem af}{Q:Flow -> aj -> Prop}(hh:A.handled=none)(h:wpAny M A x (fun v s₁=> ∃e t dx C,v=.ref e/\(∃nm q N bs bm hdct sn sub ab col dd k0 k1 k2 k3 k5 newId,s₁.heap.get? C=some (fk nm q C N bs bm hdct sn sub ab col dd k0 k1 k2 k3 k5 newId)/\bm.contains (.type "BaseException")=true)/\
   s₁.heap.get? e=some (awg C dx t)/\E (.ref e) s₁) E s):wpAny M A (raiseStmt env (some x) none) Q E s:=by
 unfold raiseStmt
 (refine ae (cA h (fun v s₁ h₁=> ?_) fun _ _ x=> x))
 obtain⟨e,t,dx,C,rfl,⟨nm,q,N,bs,bm,hdct,sn,sub,ab,col,dd,k0,k1,k2,k3,k5,newId,hC,hbase⟩,he,hE⟩:=h₁
 (have hcB:(aH C::bm).contains (.type "BaseException")=true:=by rw [cf,hbase,gh])
 (obtain⟨hp,g,d,tk,os⟩:=s₁)
 repeat (first|with_reducible refine cI he ?_|with_reducible refine cI hC ?_|(with_reducible refine dJ hC ?_;rw [hcB])|wp_step) --
 (exact wpAny_raiseNew_none hh hE)
section
variable{X:Cx}{E:XE}{a:Expr}{ta:TE}{pos:Pos}
def a46(K:ak)(E:XE)(ta:TE):TS:=fun D σ H=> ta σ H fun v H1=> ∃p C fs,v=.ref p/\H1 p=some (.exn C fs)/\ClsX K C/\E σ p (upd H1 p (.exx C fs))
theorem axr(x:XOk X E)(hc:X.calm=true)(ha:PE X a ta):PS X (.Raise (some a) none pos) (a46 X.K E ta):=by
 refine⟨?_⟩;intro pins s σ H D I hw
 show wpAny _ _ (do standAt pos;raiseStmt X.env (some (do let v←eval a X.env;standAt pos;pure v)) none) _ _ s
 refine ae (eS (a1n (I.ok.hd hc) (ae (cA (ha pins s σ H _ I hw) (fun v s1 h1=> ae (eS (ah ?_))) fun _ _ x=> x))))
 obtain⟨v',H1,I1,rv,p,C,fs,rfl,e,cl,hE⟩:=h1
 obtain rfl:v=aH p:=rv
 obtain⟨b0,t,dxo,he,_⟩:=afp I1.hok e
 obtain⟨nm,q,N,bs,bm,sn,sub,ab,col,dd,k0,k1,k2,k3,k5,lk,av⟩:=cl.toClsE.at_
 exact⟨p,t,dxo,C,rfl,⟨nm,q,N,bs,bm,true,sn,sub,ab,col,dd,k0,k1,k2,k3,k5,_,I1.kIn _ _ lk,av.has (T:="BaseException") (b:=true) (by decide+kernel)⟩,he,x.raise I1 e hE⟩
end
theorem afc{x:Str}{Q:Unit -> aj -> Prop}(I:Inv X pins σ H s)(hN:X.N.Nodup)(hi:X.N[i]?=some x)(hk:X.env.scope.names.lookup x=some .local)(h: ∀s',Inv X pins (σ.set i none) H s' -> Q () s'):wpAny M A (do bindName X.env x .none;fN X.env x pos) Q E s:=by
 have hcls:(X.env.scope.kind==.class||(X.env.scope.kind==.module&&X.env.locals !=X.env.globals))=false:=by rw [I.ok.kind];rfl
 refine ae (ly (zl (v:=.non) I hN hi (.inl hk) rfl (fun s1 I1=> ?_) (.inr hk)))
 unfold fN
 refine fU ?_
 unfold unbindName
 (refine ae (wpAny_point (ae ?_)))
 unfold deleteName
 have hl:X.env.kindOf x=some .local:=hk
 simp only [hl,hcls]
 rw [if_neg (by decide)]
 have I1:=I1.tok (s1.toks+1)
 obtain⟨m,hn,hlook⟩:=id I1.loc
 have hiσ:i < σ.length:=by rw [I.len];exact (aC.mp hi).1
 have hm:(m x).isSome=true:=by
  obtain⟨u,r,q⟩:=hlook i x .non hi (bn hiσ) (.inl hk)
  rcases q with ⟨_,e⟩|⟨k,c,e,z⟩
  ·rw [e];rfl
  ·rcases k with k|k <;> (rw [hl]at k;cases k)
 refine ae (wpAny_nsDel_keeps hn fun h' v hn' hs=> ?_)
 rw [hm]
 (simp only [if_true,iW,cL,if_false])
 obtain⟨oL,_,_,hoL,_⟩:=id hn
 have cne:=I1.cne
 have J:Inv X pins (σ.set i none) H {s1 with heap:=h',toks:=s1.toks+1}:=by
  refine⟨I1.ok,I1.os,I1.bare,⟨fun b o e n hb hx=> ?_,fun b o e n hb hx=> ?_,I1.base.free,fun b o e hx=> ?_,I1.base.tups,I1.base.frzs,I1.base.tbls⟩,⟨_,hn',fun j y v' e1 e2 e3=> ?_⟩,fun y c e=> ?_,I1.free,I1.freeC,fun p hp=> ?_,fun b ob e=> ?_,by simpa using I.len⟩
  ·exact (hs.2 b (aP (aN (ar e) I1.ok.above))).trans (I1.base.keep b o e n hb hx)
  ·obtain⟨sl,e1⟩:=I1.base.slot b o e n hb hx
   exact⟨sl,(hs.2 b (aP (aN (ar e) I1.ok.above))).trans e1⟩
  ·obtain⟨o',e1⟩:=I1.base.there b o e hx
   exact⟨o',(hs.2 b (aP (aN (ar e) I1.ok.above))).trans e1⟩
  ·by_cases hj:j=i
   ·subst hj
    rw [bn hiσ]at e2
    cases e2
   ·rw [aX (cP hj)]at e2
    obtain⟨u',r',q⟩:=hlook j y v' e1 (by rw [aX (cP hj)];exact e2) e3
    refine⟨u',r',?_⟩
    rcases q with ⟨k,e⟩|⟨k,c,e,z⟩
    ·refine .inl ⟨k,?_⟩
     have:y≠x:=fun e=> hj (agq hN e1 (e▸hi))
     simp [this,e]
    ·exact .inr ⟨k,c,e,z.sameBut hs (cne y c e)⟩
  ·obtain⟨w',z⟩:=I1.cell y c e
   exact⟨w',z.sameBut hs (cne y c e)⟩
  ·obtain⟨e,n,ne,nf,d⟩:=I1.pin p hp
   exact⟨(hs.2 p.1 ne).trans e,n,ne,nf,d⟩
  ·refine (I1.hok b ob e).stay (fun c w' hc q=> (hs.2 c ?_).trans q) (fun _ q=> q) fun _ _ q=> q
   rintro rfl
   have fr:=I1.free
   rcases hc with rfl|hc
   ·rw [fr]at e;cases e
   ·rw [fr]at hc;cases hc
 exact ah (wpAny_point (h _ (J.tok _)))
abbrev Cx.hand(X:Cx)(e:af):Cx:={X with A:=X.A.mark (some e),calm:=false,xe:=fun _ _=> False}
abbrev Cx.tries(X:Cx)(pn:List (Addr×Obj))(E:af -> aj -> Prop):Cx:={X with pn:=pn,xe:=E}
theorem Inv.hand(I:Inv X pins σ H s)(e:af):Inv (X.hand e) pins σ H s:=
 ⟨⟨I.ok.mod,I.ok.kind,I.ok.glob,I.ok.blt,I.ok.above,I.ok.inj,I.ok.has,I.ok.cab,fun h=> (by cases h),I.ok.frames,I.ok.stk,I.ok.exf,I.ok.bs,I.ok.bsz,I.ok.noex,I.ok.exfs,I.ok.funs,I.ok.frf⟩,I.os,I.bare,I.base,I.loc,I.cell,I.free,I.freeC,I.pin,I.hok,I.len⟩
theorem Inv.unhand{e:af}(ok:X.Ok)(I:Inv (X.hand e) pins σ H s):Inv X pins σ H s:=⟨ok,I.os,I.bare,I.base,I.loc,I.cell,I.free,I.freeC,I.pin,I.hok,I.len⟩
theorem Inv.tries(I:Inv X pins σ H s)(E:af -> aj -> Prop):Inv (X.tries (X.pn++pins) E) [] σ H s:=
 ⟨⟨I.ok.mod,I.ok.kind,I.ok.glob,I.ok.blt,I.ok.above,I.ok.inj,I.ok.has,I.ok.cab,I.ok.hd,I.ok.frames,I.ok.stk,I.ok.exf,I.ok.bs,I.ok.bsz,I.ok.noex,I.ok.exfs,I.ok.funs,I.ok.frf⟩,I.os,I.bare,I.base,I.loc,I.cell,I.free,I.freeC,fun p hp=> I.pin p (by rwa [cq]at hp),I.hok,I.len⟩
theorem Inv.untries(ok:X.Ok)(I:Inv (X.tries (X.pn++pins) E) pins' σ H s):Inv X pins σ H s:=
 ⟨ok,I.os,I.bare,I.base,I.loc,I.cell,I.free,I.freeC,fun p hp=> I.pin p (fK _ hp),I.hok,I.len⟩
theorem SP.untries{D:Ends}{f:Flow}{s':aj}(ok:X.Ok)(h:SP (X.tries (X.pn++pins) E) pins' D f s'):SP X pins D f s':=by
 cases f with
 |next=> obtain⟨σ',H',I,q⟩:=h;exact⟨σ',H',I.untries ok,q⟩
 |brk=> obtain⟨σ',H',I,q⟩:=h;exact⟨σ',H',I.untries ok,q⟩
 |cont=> obtain⟨σ',H',I,q⟩:=h;exact⟨σ',H',I.untries ok,q⟩
 |ret u=> obtain⟨v,σ',H',I,r,q⟩:=h;exact⟨v,σ',H',I.untries ok,r,q⟩
theorem auc{t:Addr}{tb:af}{Q:Unit -> aj -> Prop}(he:s.heap.get? p=some (y4 C dx t tb))(ht:al5 s.heap p tb)(h:Q () s):wpAny M A (iV (.ref p) none) Q E s:=by
 unfold iV
 rcases ht with rfl|⟨T,oT,ts,rfl,hTp,hT,hd,h3⟩
 ·refine ae (bc he rfl (x:=.none) rfl ?_)
  rw [if_neg (by decide)]
  exact ah h
 ·refine ae (bc he rfl (x:=.ref T) rfl ?_)
  (rw [if_pos (show (aH T !=bP)=true from by simp)])
  refine cz hT hd (bM.mp h3).1 ?_
  show Q () {s with heap:=s.heap.update T (de (·.setIfInBounds 3 .none))}
  rw [jR _ _ _ _ _ _ hT hd h3]
  exact h
theorem Fun.okX{x:Str}{sp:Sp}(F:Fun K x qual st f fd)(S:FnScope N ps (jg st))(len: ∀vs H Q E,sp vs H Q E -> vs.length=ps.length)(hbody: ∀(cdv:af) (A:br) (outer:List Env) (s:aj) (H:Hp) (vs:List V) (Q:VK) (E:XK),Room k (A.deeper (envOfC qual (jg st) s.heap.objs.size f cdv)) -> sp vs H Q E ->
   ∃t,PSs (zk (CX1 P w) P w K mg base N qual (jg st) f cdv A outer s H E) (vj st) t/\t {nx:=fun _ H'=> Q .non H',rt:=Q} (start N vs) H):FnOk P w K mg base (CX1 P w) (k+1) f fd ps sp:=by
 obtain⟨oc,od,kV,doc,pm,an,cdv,ct,osl,rfl,lk,hcd⟩:=F.ex
 exact a5y lk hcd S len fun A outer s H vs Q E hr h=> hbody cdv A outer s H vs Q E hr h
def avt(P:aV)(w:aZ)(K:ak)(mg:Str -> Option af)(base:Heap)(x:Str)(k:Nat)(sp:Sp):Prop:=
 ∃(f:Addr) (fd:eF) (ps:List Str),FnOk P w K mg base (CX1 P w) k f fd ps sp/\mg x=some (.ref f)/\df K (.ref f)=true/\Binds K fd ps []
theorem Has.calX{x:Str}{sp:Sp}(h:Has K mg x st ps)(S:FnScope N ps (jg st))(len: ∀vs H Q E,sp vs H Q E -> vs.length=ps.length)(hbody: ∀(f:Addr) (cdv:af) (A:br) (outer:List Env) (s:aj) (H:Hp) (vs:List V) (Q:VK) (E:XK),Room k (A.deeper (envOfC x (jg st) s.heap.objs.size f cdv)) -> sp vs H Q E ->
   ∃t,PSs (zk (CX1 P w) P w K mg base N x (jg st) f cdv A outer s H E) (vj st) t/\t {nx:=fun _ H'=> Q .non H',rt:=Q} (start N vs) H):avt P w K mg base x (k+1) sp:=by
 obtain⟨f,fd,F,m,b⟩:=h
 exact⟨f,fd,ps,F.okX S len (hbody f),m,F.kp,b⟩
section
variable{X:Cx}{x:Str}{k:Nat}{sp:Sp}{p pos:Pos}{e:Expr}{es:List Expr}{t:TA}{E:XE}
theorem a6l(c:avt X.prog X.w X.K X.mg X.base x k sp)(hx:XOk X E)(hr:Room k X.A)(ha:PA X (e::es) t)(hg:Gl X x:=by rfl)(hdb:(x==("__debug__":Str))=false:=by decide)
  (he:starEach (e::es) X.env=(false,eval e X.env)::starEach es X.env:=by rfl) (hpl:(backTo pos (starEach es X.env)).any (·.1)=false:=by rfl):PE X (.Call (.Name x p) (e::es) [] pos) (axx sp [] E.sk t):=by
 obtain⟨f,fd,ps,F,m,kk,b⟩:=c
 exact azq F hr hg m kk b .nil hx.pass ha hdb he hpl
end
end L2
namespace PF
open PySem PySem.Spec
open L2
structure Envs (K:ak) (as:As) (H:Hp) (ρ:En) (σ:St):Prop where
 len:ρ.length=σ.length
 get: ∀(i:Nat) (d:D),ρ[i]?=some (some d) -> ∃v,σ[i]?=some (some v)/\RD K as H v d
theorem Envs.mono{as as':As}{ρ:En}(e:Envs K as H ρ σ)(st:Step as H as' H'):Envs K as' H' ρ σ:=⟨e.len,fun i d h=> let ⟨v,a,b⟩:=e.get i d h;⟨v,a,b.mono st⟩⟩
theorem Envs.set{as:As}{ρ:En}(e:Envs K as H ρ σ)(i:Nat){d:D}(r:RD K as H v d):Envs K as H (ρ.set i (some d)) (σ.set i (some v)):=by
 refine⟨by simp [e.len],fun j x h=> ?_⟩
 by_cases z:i=j
 ·subst z
  rw [dF]at h⊢
  by_cases hl:i < ρ.length
  ·simp [hl]at h
   subst h
   exact⟨v,by simp [←e.len,hl],r⟩
  ·simp [hl]at h
 ·rw [aX z]at h⊢
  exact e.get j x h
class XW where
 xk:XE
instance (priority:=low) XW.dft:XW:=⟨fun _ _ _=> False⟩
abbrev XW.of(E:XK):XW:=⟨fun _ p H=> E (.ref p) none H⟩
variable[XW]
def Dn{α β:Type}(K:ak)(rel:As -> Hp -> β -> α -> Prop)(as:As)(H:Hp)(r:R α)(Q:β -> Hp -> Prop):Prop:=match r with
 |.ok a s=> ∀b as' H',Step as H as' H' -> Rel K as' H' s -> rel as' H' b a -> Q b H'
 |.bad=> False
 |.ex n ρ s=> ∀as' H' p σ,Step as H as' H' -> Rel K as' H' s -> Envs K as' H' ρ σ -> as'.ix[n]?=some (some p) -> XW.xk σ p H'
theorem Dn.step{α β:Type}{rel:As -> Hp -> β -> α -> Prop}{as as1:As}{H1:Hp}{r:R α}{Q:β -> Hp -> Prop}(h:Dn K rel as H r Q)(st:Step as H as1 H1):Dn K rel as1 H1 r Q:=by
 cases r with
 |ok a s=> exact fun b as' H' s2 rl rb=> h b as' H' (st.trans s2) rl rb
 |bad=> exact h
 |ex n ρ s=> exact fun as' H' p σ s2 rl en e=> h as' H' p σ (st.trans s2) rl en e
theorem Dn.bind{α β γ δ:Type}{r1:As -> Hp -> β -> α -> Prop}{r2:As -> Hp -> δ -> γ -> Prop}{as:As}{r:R α}{f:α -> S -> R γ}{Q:δ -> Hp -> Prop}{Q':β -> Hp -> Prop}(h:Dn K r2 as H (r.bind f) Q)(k: ∀a s as1 H1 b,Step as H as1 H1 -> Rel K as1 H1 s -> r1 as1 H1 b a -> Dn K r2 as1 H1 (f a s) Q -> Q' b H1):Dn K r1 as H r Q':=by
 cases r with
 |ok a s=> exact fun b as' H' st rl rb=> k a s as' H' b st rl rb (Dn.step (r:=f a s) h st)
 |bad=> exact h
 |ex n ρ s=> exact h
theorem Dn.now{α β:Type}{rel:As -> Hp -> β -> α -> Prop}{as:As}{a:α}{s:S}{Q:β -> Hp -> Prop}{b:β}(h:Dn K rel as H (.ok a s) Q)(rl:Rel K as H s)(rb:rel as H b a):Q b H:=h b as H (Step.refl _ _) rl rb
theorem Dn.at{α β:Type}{rel:As -> Hp -> β -> α -> Prop}{as:As}{r:R α}{ρ:En}{Q:β -> Hp -> Prop}(h:Dn K rel as H (r.at ρ) Q)(en:Envs K as H ρ σ): @Dn (XW.of (XE.sk XW.xk σ)) α β K rel as H r Q:=by
 cases r with
 |ok a s=> exact h
 |bad=> exact h
 |ex n ρ' s=> exact fun as' H' p σ' st rl _ e=> ⟨p,rfl,h as' H' p σ st rl (en.mono st) e⟩
theorem Dn.calm{α β:Type}{rel:As -> Hp -> β -> α -> Prop}{as:As}{r:R α}{Q:β -> Hp -> Prop}(h:Dn K rel as H r.calm Q): @Dn XW.dft α β K rel as H r Q:=by
 cases r with
 |ok a s=> exact h
 |bad=> exact h
 |ex n ρ' s=> exact h.elim
abbrev rD(K:ak):As -> Hp -> V -> D -> Prop:=fun as H v d=> RD K as H v d
abbrev rB:As -> Hp -> Bool -> Bool -> Prop:=fun _ _ b a=> b=a
abbrev rL(K:ak):As -> Hp -> List V -> List D -> Prop:=fun as H v d=> RDs K as H v d
inductive Fl where
 |nx (ρ:En)|rt (d:D)|bk (ρ:En)|ct (ρ:En)
inductive FV where
 |nx (σ:St)|rt (v:V)|bk (σ:St)|ct (σ:St)
inductive rF (K:ak) (as:As) (H:Hp):FV -> Fl -> Prop
 |nx {σ:St} {ρ:En}:Envs K as H ρ σ -> rF K as H (.nx σ) (.nx ρ)
 |rt {v:V} {d:D}:RD K as H v d -> rF K as H (.rt v) (.rt d)
 |bk {σ:St} {ρ:En}:Envs K as H ρ σ -> rF K as H (.bk σ) (.bk ρ)
 |ct {σ:St} {ρ:En}:Envs K as H ρ σ -> rF K as H (.ct σ) (.ct ρ)
def ya(D:Ends)(f:FV)(H:Hp):Prop:=match f with
 |.nx σ=> D.nx σ H
 |.rt v=> D.rt v H
 |.bk σ=> D.bk σ H
 |.ct σ=> D.ct σ H
abbrev FE:=En -> S -> R D
abbrev FT:=En -> S -> R Bool
abbrev FA:=En -> S -> R (List D)
abbrev FS:=En -> S -> R Fl
def aac(K:ak)(t:TE)(f:FE):Prop:= ∀as σ H ρ s Q,Rel K as H s -> Envs K as H ρ σ -> Dn K (rD K) as H (f ρ s) Q -> t σ H Q
def abw(K:ak)(t:TT)(f:FT):Prop:= ∀as σ H ρ s Q,Rel K as H s -> Envs K as H ρ σ -> Dn K rB as H (f ρ s) Q -> t σ H Q
def a5m(K:ak)(t:TA)(f:FA):Prop:= ∀as σ H ρ s Q,Rel K as H s -> Envs K as H ρ σ -> Dn K (rL K) as H (f ρ s) Q -> t σ H Q
def agw(K:ak)(t:TS)(f:FS):Prop:= ∀as σ H ρ s D,Rel K as H s -> Envs K as H ρ σ -> Dn K (rF K) as H (f ρ s) (ya D) -> t D σ H
structure RE (X:Cx) (e:Expr) (f:FE):Prop where
 ex: ∃t,PE X e t/\aac X.K t f
structure RT (X:Cx) (e:Expr) (f:FT):Prop where
 ex: ∃t,PT X e t/\abw X.K t f
structure RW (X:Cx) (e:Expr) (f:FT):Prop where
 ex: ∃t,PW X e t/\abw X.K t f
structure RA (X:Cx) (es:List Expr) (f:FA):Prop where
 ex: ∃t,PA X es t/\a5m X.K t f
structure RS (X:Cx) (st:Stmt) (f:FS):Prop where
 ex: ∃t,PS X st t/\agw X.K t f
structure RSs (X:Cx) (st:List Stmt) (f:FS):Prop where
 ex: ∃t,PSs X st t/\agw X.K t f
section
variable{X:Cx}{a b:Expr}{fa fb:FE}{pos:Pos}
noncomputable def jb(i:Nat):FE:=fun ρ s=> match ρ[i]? with
 |some (some d)=>.ok d s
 |_=>.bad
noncomputable def fC(d:D):FE:=fun _ s=>.ok d s
theorem a0m(i:Nat):aac K (avc i) (jb i):=by
 intro as σ H ρ s Q rl en h
 unfold jb at h
 cases q:ρ[i]? with
 |none=> rw [q]at h;exact h.elim
 | some o=>
  cases o with
  |none=> rw [q]at h;exact h.elim
  |some d=>
   rw [q]at h
   obtain⟨v,e,r⟩:=en.get i d q
   exact⟨v,e,Dn.now h rl r⟩
theorem jx(i:Nat){x:Str}(hN:X.N[i]?=some x:=by rfl)(hv:Vis X.env.scope x:=by first|exact c7 rfl|exact fB (c7 rfl)|exact fB (fB rfl))(hd:(x==("__debug__":Str))=false:=by decide)(hcd:(x==("__classdict__":Str))=false:=by decide):RE X (.Name x pos) (jb i):=⟨_,at4 hN hv hd hcd,a0m i⟩
theorem afo{d:D}(r: ∀as H,RD K as H v d):aac K (tC v) (fC d):=fun as σ H ρ s Q rl en h=> Dn.now (K:=K) (rel:=rD K) h rl (r as H)
theorem at0{i j pos}:RE X (.Constant (.int i) j pos) (fC (.int i)):=⟨_,asf,afo fun _ _=>.da (.int i)⟩
theorem ac6{x j pos}:RE X (.Constant (.str x) j pos) (fC (.str x)):=⟨_,atj,afo fun _ _=>.da (.str x)⟩
theorem aye{b j pos}:RE X (.Constant (.bool b) j pos) (fC (.bl b)):=⟨_,ayy,afo fun _ _=>.da (.bl b)⟩
theorem a2z{j pos}:RE X (.Constant .none j pos) (fC .non):=⟨_,au7,afo fun _ _=>.da .non⟩
theorem afd{x:Str}{d:D}(r: ∀as H,RD X.K as H v d)(hm:X.mg x=some u)(rv:RelV v u)(hg:Gl X x:=by rfl)(hd:(x==("__debug__":Str))=false:=by decide):RE X (.Name x pos) (fC d):=⟨_,ap7 hg hm rv hd,afo r⟩
theorem aab{x:Str}{n:String}(hm:X.mg x=none)(hv:bt x=some (.type n))(hg:Gl X x:=by rfl)(hn:x≠"__name__":=by decide)(hd:(x==("__debug__":Str))=false:=by decide):RE X (.Name x pos) (fC (.ty n)):=
 ⟨_,a0s (v:=.ty n) hg hm hv rfl hn hd,afo fun _ _=>.ty n⟩
def fOp(g:D -> D -> S -> R D)(fa fb:FE):FE:=fun ρ s=> (fa ρ s).bind fun x s1=> (fb ρ s1).bind fun y s2=> g x y s2
def alp(K:ak)(r:R2)(g:D -> D -> S -> R D):Prop:= ∀as H s x y dx dy Q,Rel K as H s -> RD K as H x dx -> RD K as H y dy -> Dn K (rD K) as H (g dx dy s) Q -> r x y H Q
theorem ahi{r:R2}{g:D -> D -> S -> R D}(hr:alp K r g)(ha:aac K ta fa)(hb:aac K tb fb):aac K (tOp r ta tb) (fOp g fa fb):=by
 intro as σ H ρ s Q rl en h
 refine ha as σ H ρ s _ rl en (Dn.bind h fun d1 s1 as1 H1 x st1 rl1 r1 h1=> ?_)
 refine hb as1 σ H1 ρ s1 _ rl1 (en.mono st1) (Dn.bind h1 fun d2 s2 as2 H2 y st2 rl2 r2 h2=> ?_)
 exact hr as2 H2 s2 x y d1 d2 Q rl2 (r1.mono st2) r2 h2
structure Op2 (X:Cx) (f:af -> af -> Sem af) (g:D -> D -> S -> R D):Prop where
 ex: ∃r,OpR X f r/\alp X.K r g
theorem a6d{op:lS}{g:D -> D -> S -> R D}(o:Op2 X (binaryOp op) g)(ha:RE X a fa)(hb:RE X b fb):RE X (.BinOp a op b pos) (fOp g fa fb):=by
 obtain⟨r,ho,hr⟩:=o.ex
 obtain⟨ta,pa,ra⟩:=ha.ex
 obtain⟨tb,pb,rb⟩:=hb.ex
 exact⟨_,a6e ho pa pb,ahi hr ra rb⟩
theorem bb8{g:D -> D -> S -> R D}(o:Op2 X (aY op) g)(ha:RE X a fa)(hb:RE X b fb)(hm:fO op b=false:=by first|exact arh _|with_unfolding_all rfl):RE X (.Compare a [op] [b] pos) (fOp g fa fb):=by
 obtain⟨r,ho,hr⟩:=o.ex
 obtain⟨ta,pa,ra⟩:=ha.ex
 obtain⟨tb,pb,rb⟩:=hb.ex
 exact⟨_,a1p ho pa pb hm,ahi hr ra rb⟩
def jj(f:FE):FT:=fun ρ s=> (f ρ s).bind fun d s1=> match d with
 |.bl k=>.ok k s1
 |_=>.bad
theorem am9{t:TE}{f:FE}(h:aac K t f):abw K (apk t) (jj f):=by
 intro as σ H ρ s Q rl en q
 refine h as σ H ρ s _ rl en (Dn.bind q fun d1 s1 as1 H1 x st1 rl1 r1 h1=> ?_)
 cases r1 with
 |da t=>
  cases t with
  |bl k=> exact⟨k,rfl,Dn.now h1 rl1 rfl⟩
  |_=> exact h1.elim
 |_=> exact h1.elim
theorem alf{g:D -> D -> S -> R D}(o:Op2 X (aY op) g)(ha:RE X a fa)(hb:RE X b fb)(hm:fO op b=false:=by first|exact arh _|with_unfolding_all rfl):RT X (.Compare a [op] [b] pos) (jj (fOp g fa fb)):=by
 obtain⟨r,ho,hr⟩:=o.ex
 obtain⟨ta,pa,ra⟩:=ha.ex
 obtain⟨tb,pb,rb⟩:=hb.ex
 exact⟨_,a06 ho pa pb hm,am9 (ahi hr ra rb)⟩
def vt(g g':D -> D -> S -> R D)(fa fb fc:FE):FE:=fun ρ s=> (fa ρ s).bind fun x s1=> (fb ρ s1).bind fun y s2=> (g x y s2).bind fun z s3=> match z with
 |.bl true=> (fc ρ s3).bind fun w s4=> g' y w s4
 |.bl false=>.ok (.bl false) s3
 |_=>.bad
theorem ajm{r r':R2}{g g':D -> D -> S -> R D}{tc:TE}{fc:FE}(hr:alp K r g)(hr':alp K r' g')(ha:aac K ta fa)(hb:aac K tb fb)(hc:aac K tc fc):aac K (amj r r' ta tb tc) (vt g g' fa fb fc):=by
 intro as σ H ρ s Q rl en h
 refine ha as σ H ρ s _ rl en (Dn.bind h fun d1 s1 as1 H1 x st1 rl1 r1 h1=> ?_)
 refine hb as1 σ H1 ρ s1 _ rl1 (en.mono st1) (Dn.bind h1 fun d2 s2 as2 H2 y st2 rl2 r2 h2=> ?_)
 refine hr as2 H2 s2 x y d1 d2 _ rl2 (r1.mono st2) r2 (Dn.bind h2 fun d3 s3 as3 H3 z st3 rl3 r3 h3=> ?_)
 cases r3 with
 | da t=>
  cases t with
  | bl k=>
   cases k with
   |false=> exact⟨false,rfl,Dn.now h3 rl3 (.da (.bl false))⟩
   |true=>
    refine⟨true,rfl,?_⟩
    rw [if_pos rfl]
    refine hc as3 σ H3 ρ s3 _ rl3 (((en.mono st1).mono st2).mono st3) (Dn.bind h3 fun d4 s4 as4 H4 w st4 rl4 r4 h4=> ?_)
    exact hr' as4 H4 s4 y w d2 d4 Q rl4 ((r2.mono st3).mono st4) r4 h4
  |_=> exact h3.elim
 |_=> exact h3.elim
theorem a86{op':mO}{g g':D -> D -> S -> R D}{fc:FE}(o:Op2 X (aY op) g)(o':Op2 X (aY op') g')(ha:RE X a fa)(hb:RE X b fb)(hc:RE X c fc)(hm:mE [op,op'] [b,c]=false:=by with_unfolding_all rfl):RE X (.Compare a [op,op'] [b,c] pos) (vt g g' fa fb fc):=by
 obtain⟨r,ho,hr⟩:=o.ex
 obtain⟨r',ho',hr'⟩:=o'.ex
 obtain⟨ta,pa,ra⟩:=ha.ex
 obtain⟨tb,pb,rb⟩:=hb.ex
 obtain⟨tc,pc,rc⟩:=hc.ex
 exact⟨_,auo ho ho' pa pb pc hm,ajm hr hr' ra rb rc⟩
theorem a9b{op':mO}{g g':D -> D -> S -> R D}{fc:FE}(o:Op2 X (aY op) g)(o':Op2 X (aY op') g')(ha:RE X a fa)(hb:RE X b fb)(hc:RE X c fc)(hm:mE [op,op'] [b,c]=false:=by with_unfolding_all rfl):RT X (.Compare a [op,op'] [b,c] pos) (jj (vt g g' fa fb fc)):=by
 obtain⟨r,ho,hr⟩:=o.ex
 obtain⟨r',ho',hr'⟩:=o'.ex
 obtain⟨ta,pa,ra⟩:=ha.ex
 obtain⟨tb,pb,rb⟩:=hb.ex
 obtain⟨tc,pc,rc⟩:=hc.ex
 exact⟨_,awj ho ho' pa pb pc hm,am9 (ajm hr hr' ra rb rc)⟩
def qh(f g:FT):FT:=fun ρ s=> (f ρ s).bind fun c s1=> if c=true then g ρ s1 else .ok false s1
def qy(f g:FT):FT:=fun ρ s=> (f ρ s).bind fun c s1=> if c=true then .ok true s1 else g ρ s1
def jw(f:FT):FT:=fun ρ s=> (f ρ s).bind fun c s1=>.ok (!c) s1
theorem a18{t u:TT}{f g:FT}(h1:abw K t f)(h2:abw K u g):abw K (a41 t u) (qh f g):=by
 intro as σ H ρ s Q rl en h
 refine h1 as σ H ρ s _ rl en (Dn.bind h fun c s1 as1 H1 b st1 rl1 r1 q1=> ?_)
 have e1:b=c:=r1
 subst e1
 cases b with
 |true=> rw [if_pos rfl]at q1⊢;exact h2 as1 σ H1 ρ s1 Q rl1 (en.mono st1) q1
 |false=> rw [if_neg aw]at q1⊢;exact Dn.now q1 rl1 rfl
theorem a5g{t u:TT}{f g:FT}(h1:abw K t f)(h2:abw K u g):abw K (tOr t u) (qy f g):=by
 intro as σ H ρ s Q rl en h
 refine h1 as σ H ρ s _ rl en (Dn.bind h fun c s1 as1 H1 b st1 rl1 r1 q1=> ?_)
 have e1:b=c:=r1
 subst e1
 cases b with
 |false=> rw [if_neg aw]at q1⊢;exact h2 as1 σ H1 ρ s1 Q rl1 (en.mono st1) q1
 |true=> rw [if_pos rfl]at q1⊢;exact Dn.now q1 rl1 rfl
theorem a0j{t:TT}{f:FT}(h1:abw K t f):abw K (a4l t) (jw f):=by
 intro as σ H ρ s Q rl en h
 refine h1 as σ H ρ s _ rl en (Dn.bind h fun c s1 as1 H1 b st1 rl1 r1 q1=> ?_)
 have e1:b=c:=r1
 subst e1
 exact Dn.now q1 rl1 rfl
theorem RW.rt{f:FT}(h:RW X e f):RT X e f:=let ⟨t,p,r⟩:=h.ex;⟨t,p.pt,r⟩
theorem a19{f:FT}(h:RT X a f):RW X (.BoolOp .And [a] pos) f:=let ⟨t,p,r⟩:=h.ex;⟨t,azh p,r⟩
theorem a3k{f:FT}(h:RT X a f):RW X (.BoolOp .Or [a] pos) f:=let ⟨t,p,r⟩:=h.ex;⟨t,a2p p,r⟩
theorem ard{f g:FT}{jy:List Expr}(h:RT X a f)(k:RW X (.BoolOp .And (b::jy) pos) g):RW X (.BoolOp .And (a::b::jy) pos) (qh f g):=let ⟨t,p,r⟩:=h.ex;let ⟨t',p',r'⟩:=k.ex;⟨_,a5t p p',a18 r r'⟩
theorem ayu{f g:FT}{jy:List Expr}(h:RT X a f)(k:RW X (.BoolOp .Or (b::jy) pos) g):RW X (.BoolOp .Or (a::b::jy) pos) (qy f g):=let ⟨t,p,r⟩:=h.ex;let ⟨t',p',r'⟩:=k.ex;⟨_,a7d p p',a5g r r'⟩
theorem adc{f:FT}(h:RT X a f):RT X (.UnaryOp .Not a pos) (jw f):=let ⟨t,p,r⟩:=h.ex;⟨_,a4v p,a0j r⟩
def xj(fa fb:FE):FE:=fun ρ s=> (fa ρ s).bind fun d s1=> match d with
 |.bl true=> fb ρ s1
 |.bl false=>.ok (.bl false) s1
 |_=>.bad
def fOr(fa fb:FE):FE:=fun ρ s=> (fa ρ s).bind fun d s1=> match d with
 |.bl false=> fb ρ s1
 |.bl true=>.ok (.bl true) s1
 |_=>.bad
def auy(fa:FE):FE:=fun ρ s=> (fa ρ s).bind fun d s1=> match d with
 |.bl k=>.ok (.bl (!k)) s1
 |_=>.bad
theorem bbf{op}(h:RE X a fa):RE X (.BoolOp op [a] pos) fa:=let ⟨t,p,r⟩:=h.ex;⟨_,a4h p,r⟩
theorem bam{jy:List Expr}(h:RE X a fa)(k:RE X (.BoolOp .And (b::jy) pos) fb):RE X (.BoolOp .And (a::b::jy) pos) (xj fa fb):=by
 obtain⟨ta,pa,ra⟩:=h.ex
 obtain⟨tb,pb,rb⟩:=k.ex
 refine⟨_,a4i pa pb,fun as σ H ρ s Q rl en h=> ?_⟩
 refine ra as σ H ρ s _ rl en (Dn.bind h fun d1 s1 as1 H1 x st1 rl1 r1 h1=> ?_)
 cases r1 with
 | da t=>
  cases t with
  |bl k=>
   refine⟨k,rfl,?_⟩
   cases k with
   |false=> rw [if_neg aw];exact Dn.now h1 rl1 (.da (.bl false))
   |true=> rw [if_pos rfl];exact rb as1 σ H1 ρ s1 Q rl1 (en.mono st1) h1
  |_=> exact h1.elim
 |_=> exact h1.elim
theorem bci{jy:List Expr}(h:RE X a fa)(k:RE X (.BoolOp .Or (b::jy) pos) fb):RE X (.BoolOp .Or (a::b::jy) pos) (fOr fa fb):=by
 obtain⟨ta,pa,ra⟩:=h.ex
 obtain⟨tb,pb,rb⟩:=k.ex
 refine⟨_,a62 pa pb,fun as σ H ρ s Q rl en h=> ?_⟩
 refine ra as σ H ρ s _ rl en (Dn.bind h fun d1 s1 as1 H1 x st1 rl1 r1 h1=> ?_)
 cases r1 with
 | da t=>
  cases t with
  |bl k=>
   refine⟨k,rfl,?_⟩
   cases k with
   |true=> rw [if_pos rfl];exact Dn.now h1 rl1 (.da (.bl true))
   |false=> rw [if_neg aw];exact rb as1 σ H1 ρ s1 Q rl1 (en.mono st1) h1
  |_=> exact h1.elim
 |_=> exact h1.elim
theorem bb5(h:RE X a fa):RE X (.UnaryOp .Not a pos) (auy fa):=by
 obtain⟨ta,pa,ra⟩:=h.ex
 refine⟨_,a4c pa,fun as σ H ρ s Q rl en h=> ?_⟩
 refine ra as σ H ρ s _ rl en (Dn.bind h fun d1 s1 as1 H1 x st1 rl1 r1 h1=> ?_)
 cases r1 with
 |da t=>
  cases t with
  |bl k=> exact⟨k,rfl,Dn.now h1 rl1 (.da (.bl (!k)))⟩
  |_=> exact h1.elim
 |_=> exact h1.elim
def fIf(c:FT)(fa fb:FE):FE:=fun ρ s=> (c ρ s).bind fun k s1=> if k=true then fa ρ s1 else fb ρ s1
theorem bcv{fc:FT}(hc:RT X c fc)(ha:RE X a fa)(hb:RE X b fb):RE X (.IfExp c a b pos) (fIf fc fa fb):=by
 obtain⟨tc,pc,rc⟩:=hc.ex
 obtain⟨ta,pa,ra⟩:=ha.ex
 obtain⟨tb,pb,rb⟩:=hb.ex
 refine⟨_,awb pc pa pb,fun as σ H ρ s Q rl en h=> ?_⟩
 refine rc as σ H ρ s _ rl en (Dn.bind h fun d1 s1 as1 H1 x st1 rl1 r1 h1=> ?_)
 have e1:x=d1:=r1
 subst e1
 cases x with
 |true=> rw [if_pos rfl]at h1⊢;exact ra as1 σ H1 ρ s1 Q rl1 (en.mono st1) h1
 |false=> rw [if_neg aw]at h1⊢;exact rb as1 σ H1 ρ s1 Q rl1 (en.mono st1) h1
noncomputable def jc:FA:=fun _ s=>.ok [] s
def ja(f:FE)(g:FA):FA:=fun ρ s=> (f ρ s).bind fun x s1=> (g ρ s1).bind fun xs s2=>.ok (x::xs) s2
noncomputable def fVs(ds:List D):FA:=fun _ s=>.ok ds s
theorem kj:RA X [] jc:=⟨_,ad6,fun as σ H ρ s Q rl en h=> Dn.now h rl .nil⟩
theorem jn{f:FE}{g:FA}(h:RE X e f)(k:RA X es g)(hs:starEach (e::es) X.env=(false,eval e X.env)::starEach es X.env:=by rfl):RA X (e::es) (ja f g):=by
 obtain⟨t,p,r⟩:=h.ex
 obtain⟨t',p',r'⟩:=k.ex
 refine⟨_,aak p p' hs,fun as σ H ρ s Q rl en h=> ?_⟩
 refine r as σ H ρ s _ rl en (Dn.bind h fun d1 s1 as1 H1 x st1 rl1 r1 h1=> ?_)
 refine r' as1 σ H1 ρ s1 _ rl1 (en.mono st1) (Dn.bind h1 fun d2 s2 as2 H2 xs st2 rl2 r2 h2=> ?_)
 exact Dn.now h2 rl2 (.cons (r1.mono st2) r2)
noncomputable def aq2:Const -> Option ag
 |.str x=> some (.str x)
 |.int i=> some (.int i)
 |.bool b=> some (.bool b)
 |.none=> some .none
 |_=> none
def afv:List Expr -> Option (List ag)
 |[]=> some []
 | .Constant c _ _::r=> match aq2 c with
  |some v=> match afv r with
   |some vs=> some (v::vs)
   |none=> none
  |none=> none
 |_=> none
noncomputable def pV:ag -> V
 |.none=>.non
 |.bool b=>.bl b
 |.int i=>.int i
 |.str x=>.str x
 |_=>.non
theorem a4k{c:Const}{d:ag}(h:aq2 c=some d):al9 c=some (pV d)/\ ∀as H,TD as H (pV d) d:=by
 cases c <;> simp [aq2]at h <;> subst h
 all_goals first
  |exact⟨rfl,fun _ _=>.str _⟩
  |exact⟨rfl,fun _ _=>.int _⟩
  |exact⟨rfl,fun _ _=>.bl _⟩
  |exact⟨rfl,fun _ _=>.non⟩
theorem ao7: ∀{es:List Expr} {ds:List ag},afv es=some ds -> ae9 es=some (ds.map pV)/\ ∀as H,TDs as H (ds.map pV) ds
 |[],ds,h=> by cases h;exact⟨rfl,fun _ _=>.nil⟩
 | e ::es,ds,h=> by
  cases e with
  | Constant c j pos=>
   simp only [afv]at h
   cases h1:aq2 c with
   |none=> (rw [h1]at h;cases h)
   | some v=>
    rw [h1]at h
    cases h2:afv es with
    |none=> rw [h2]at h;cases h
    |some ws=>
     rw [h2]at h
     cases h
     obtain⟨a1,a2⟩:=a4k h1
     obtain⟨b1,b2⟩:=ao7 h2
     exact⟨by simp only [ae9,a1,b1,aL],fun as H=>.cons (a2 as H) (b2 as H)⟩
  |_=> simp [afv]at h
theorem atk{ds:List ag}(h:afv es=some ds):RA X es (fVs (ds.map D.da)):=by
 obtain⟨a,b⟩:=ao7 h
 exact⟨_,ak8 a,fun as σ H ρ s Q rl en h=> Dn.now h rl (b as H).rd⟩
def vq(m:Bool)(ds:List D)(s:S):R D:=if m=true then .ok (.ref s.length) (s++ [.lst ds]) else match ku ds with
 |some xs=>.ok (.lst xs) s
 |none=>.bad
def agl(ds:List D)(s:S):R D:=match ku ds with
 |some xs=>.ok (.tup xs) s
 |none=>.bad
theorem aah{as:As}{s:S}{m:Bool}{ds:List D}{Q:VK}(h:Dn K (rD K) as H (vq m ds s) Q)(rl:Rel K as H s)(r:RDs K as H xs ds)(n:New H p (.lst xs) H'):Q (.ref p) H':=by
 unfold vq at h
 cases m with
 |true=>
  rw [if_pos rfl]at h
  refine h (.ref p) (as.add p) H' (acn n) (rl.laid n ⟨xs,n.at,r.mono (acn n)⟩) (.ref (by simp [rl.len]) fun q e=> ?_)
  rw [←rl.len]at e
  simp at e
  exact e.symm
 | false=>
  rw [if_neg aw]at h
  cases q:ku ds with
  |none=> rw [q]at h;exact h.elim
  |some ys=>
   rw [q]at h
   have e:=zo q
   subst e
   exact h (.ref p) as H' (j4 n) (rl.new n) (.da (.lst (fun z=> rl.has z n.no) n.at (r.td.mono (j4 n))))
theorem aow{as:As}{s:S}{ds:List D}{Q:VK}(h:Dn K (rD K) as H (agl ds s) Q)(rl:Rel K as H s)(r:RDs K as H xs ds)(n:New H p (.tup xs) H'):Q (.ref p) H':=by
 unfold agl at h
 cases q:ku ds with
 |none=> rw [q]at h;exact h.elim
 |some ys=>
  rw [q]at h
  have e:=zo q
  subst e
  exact h (.ref p) as H' (j4 n) (rl.new n) (.da (.tup (fun z=> rl.has z n.no) n.at (r.td.mono (j4 n))))
def ko(m:Bool)(f:FA):FE:=fun ρ s=> (f ρ s).bind fun ds s1=> if ds.length <=sizeLine then vq m ds s1 else .bad
def jd(f:FA):FE:=fun ρ s=> (f ρ s).bind fun ds s1=> if ds.length <=sizeLine then agl ds s1 else .bad
theorem bbi{f:FA}(m:Bool)(h:RA X es f):RE X (.List es pos) (ko m f):=by
 obtain⟨t,p,r⟩:=h.ex
 refine⟨_,a0a p,fun as σ H ρ s Q rl en h=> ?_⟩
 refine r as σ H ρ s _ rl en (Dn.bind h fun ds s1 as1 H1 xs st1 rl1 r1 h1=> ?_)
 split at h1
 ·rename_i hz
  exact⟨by rw [r1.length];exact hz,fun p H' n=> aah h1 rl1 r1 n⟩
 ·exact h1.elim
theorem ahg{f:FA}{x1:Nat}(h:RA X es f):RE X (.Tuple es x1 pos) (jd f):=by
 obtain⟨t,p,r⟩:=h.ex
 refine⟨_,a1u p,fun as σ H ρ s Q rl en h=> ?_⟩
 refine r as σ H ρ s _ rl en (Dn.bind h fun ds s1 as1 H1 xs st1 rl1 r1 h1=> ?_)
 split at h1
 ·rename_i hz
  exact⟨by rw [r1.length];exact hz,fun p H' n=> aow h1 rl1 r1 n⟩
 ·exact h1.elim
end
end PF
namespace L2
open PySem PySem.Spec PyProof.Rows
theorem aj5{it t:Addr}{items:Array af}(hne:t≠it): ∀(n i:Nat) (s:aj) (Q:List af -> aj -> Prop),s.heap.IsListIter it t i -> s.heap.IsList t items -> i+n <=items.size ->
  (∀h',h'.IsListIter it t (i+n) -> bI it s.heap h' -> Q ((items.toList.drop i).take n) {s with heap:=h'}) -> wpAny (model prog w) A (draw (.ref it) n) Q E s
 |0,i,s,Q,hit,_,_,hQ=> by --
  show wpAny _ _ (pure []) Q E s --
  (exact ah (by simpa using hQ s.heap hit (jF ..)))
 | n+1,i,s,Q,hit,ht,hle,hQ=> by --
  (have hlt:i < items.size:=by lia)
  show wpAny _ _ (pyNext (.ref it)>>=_) Q E s --
  refine ae (lh hit ht (x:=items[i]) (by simp [hlt]) fun h₁ hit₁ hs₁=> ?_)
  have ht₁:h₁.IsList t items:=by
   obtain⟨o,ho,c⟩:=ht
   exact⟨o,hs₁.extBut t o hne ho,c⟩
  refine ae (bw (aj5 hne n (i+1) _ _ hit₁ ht₁ (by lia) fun h₂ hit₂ hs₂=> ah ?_))
  (have hd:items.toList.drop i=items[i]::items.toList.drop (i+1):=by simp [ek,hlt])
  (have:=hQ h₂ (by rw [show i+(n+1)=i+1+n by lia];exact hit₂) (hs₁.trans hs₂))
  (rw [hd,List.take_succ_cons]at this)
  exact this
theorem agk{t:Addr}{Q:List af -> aj -> Prop}(hh:A.handled=none)(ht:s.heap.IsList t items)(hQ: ∀h',fj s.heap.objs.size s.heap h' -> Q items.toList {s with heap:=h'}):wpAny (model prog w) A (mR (.ref t) items.size none) Q E s:=by
 (have hlt:t≠s.heap.objs.size:=by obtain⟨o,ho,_⟩:=ht;exact aP (ar ho))
 have up: ∀h':Heap,fj s.heap.objs.size s.heap h' -> h'.IsList t items:=fun h' x=> by
  obtain⟨o,ho,c⟩:=ht
  exact⟨o,x t o hlt ho,c⟩
 unfold mR
 refine ae ?_
 unfold notIterableAtAll
 refine ae (dU ht.typeIs slot_list_iter.lookup ?_)
 refine ah ?_
 (simp only [cL,if_false])
 refine ae (bw (ef ht ?_))
 refine ae (bw (aj5 hlt items.size 0 _ _ ⟨_,ay _ rfl,rfl,rfl⟩ (up _ fun b o hb e=> ai _ e) (by lia) fun h₁ hit₁ hs₁=> ?_))
 have hall:List.take items.size (List.drop 0 items.toList)=items.toList:=by --
  (rw [iF];exact dM (by simp))
 rw [hall]
 rw [if_neg (by simp)]
 have x₁:fj s.heap.objs.size s.heap h₁:=fun b o hb e=> hs₁.extBut b o hb (ai _ e)
 refine ae (bw (lz hh (by simpa using hit₁) (up _ x₁) (by simp) fun h₂ he₂=> ?_))
 (simp only [Option.isSome_none,cL,if_false])
 refine ah (hQ h₂ fun b o hb e=> he₂ b o hb (x₁ b o hb e))
theorem afz{elts:List Expr}{x1}{t:Addr}{Q:Unit -> aj -> Prop}(hh:A.handled=none)(ht:s.heap.IsList t items)(hn:(bD elts env).length=items.size)(hstar:(bD elts env).findIdx? (·.1)=none) --
  (h: ∀h',fj s.heap.objs.size s.heap h' -> wpAny (model prog w) A (iY ((bD elts env).map (·.2)) items.toList) Q E {s with heap:=h'}):
  wpAny (model prog w) A (assign (.Tuple elts x1 pos) env (.ref t)) Q E s:=by --
 rw [assign_Tuple]
 refine ae (eS ?_)
 unfold unpack
 rw [hn,hstar]
 exact ae (bw (agk hh ht h))
noncomputable def ako(K:ak)(n:Nat)(t:TGs):TG:=fun v σ H Q=> ∃a xs,v=.ref a/\(SqT K H a xs\/SqL K H a xs)/\xs.length=n/\t xs σ H Q
theorem aoi{t:TGs}(hc:X.calm=true)(h:PGs X es t)(hn:(bD es X.env).length=n:=by rfl)(hst:(bD es X.env).findIdx? (·.1)=none:=by rfl):PG X (.Tuple es k pos) (ako X.K n t):=by
 intro pins s σ H v u Q I r hw
 obtain⟨a,xs,e1,hq,hl,hw⟩:=hw
 rcases hq with hq|hq
 ·exact a4q hc h hn hst pins s σ H v u Q I r ⟨a,xs,e1,hq,hl,hw⟩
 ·subst e1
  cases r
  obtain⟨its,rv,⟨o,m,ho,hcl,_,hd⟩,hz⟩:=I.list hq
  refine afz (I.ok.hd hc) ⟨o,ho,hcl,m,hd⟩ (by simp [hn,←hl,rv.length]) hst fun h' hx=> ?_
  have I1:Inv X pins σ H {s with heap:=h'}:=I.kept (t':=s.toks) fun b o e=> hx b o (aP (ar e)) e
  exact h pins _ σ H xs _ Q I1 (by simpa using rv) hw
end L2
namespace PF
open PySem PySem.Spec
open L2
variable[XW]
noncomputable def tOf(K:ak)(f:FE):TE:=fun σ H Q=> ∃as ρ s,Rel K as H s/\Envs K as H ρ σ/\Dn K (rD K) as H (f ρ s) Q
noncomputable def amx(K:ak)(f:FT):TT:=fun σ H Q=> ∃as ρ s,Rel K as H s/\Envs K as H ρ σ/\Dn K rB as H (f ρ s) Q
noncomputable def aut(K:ak)(f:FS):TS:=fun D σ H=> ∃as ρ s,Rel K as H s/\Envs K as H ρ σ/\Dn K (rF K) as H (f ρ s) (ya D)
theorem RE.pe{X:Cx}{e:Expr}{f:FE}(h:RE X e f):PE X e (tOf X.K f):=by
 obtain⟨t,p,r⟩:=h.ex
 exact p.weak fun σ H Q ⟨as,ρ,s,a,b,c⟩=> r as σ H ρ s Q a b c
theorem RT.pt{f:FT}(h:RT X e f):PT X e (amx X.K f):=by
 obtain⟨t,p,r⟩:=h.ex
 exact⟨fun pins s σ H Q I ⟨as,ρ,s',a,b,c⟩=> p pins s σ H Q I (r as σ H ρ s' Q a b c)⟩
inductive Tg where
 |nm (i:Nat)|t2 (a b:Tg)|t3 (a b c:Tg)|tn (is:List Nat)
def gNs:List Nat -> TGs
 |[]=> aq8
 |i::r=> adn (akl i) (gNs r)
def gOf(K:ak):Tg -> TG
 |.nm i=> akl i
 |.t2 a b=> ako K 2 (adn (gOf K a) (adn (gOf K b) aq8))
 |.t3 a b c=> ako K 3 (adn (gOf K a) (adn (gOf K b) (adn (gOf K c) aq8)))
 |.tn is=> ako K is.length (gNs is)
noncomputable def aqh:D -> Option (List D)
 |.tup ds=> some (ds.map D.da)
 |.lst ds=> some (ds.map D.da)
 |.con ds=> some (ds.map D.da)
 |_=> none
noncomputable def aw6:List Nat -> List D -> En -> Option En
 |[],[],ρ=> some ρ
 |i::r,d::ds,ρ=> aw6 r ds (ρ.set i (some d))
 |_,_,_=> none
def vh:Tg -> D -> En -> Option En
 |.nm i,d,ρ=> some (ρ.set i (some d))
 | .t2 a b,d,ρ=> match aqh d with
  |some [x,y]=> match vh a x ρ with
   |some ρ1=> vh b y ρ1
   |none=> none
  |_=> none
 | .t3 a b c,d,ρ=> match aqh d with
  | some [x,y,z]=> match vh a x ρ with
   |some ρ1=> match vh b y ρ1 with
    |some ρ2=> vh c z ρ2
    |none=> none
   |none=> none
  |_=> none
 |.tn is,d,ρ=> match aqh d with
  |some xs=> aw6 is xs ρ
  |none=> none
noncomputable def abe(k:Nat):Tg -> Bool
 |.nm i=> decide (i < k)
 |.t2 a b=> abe k a&&abe k b
 |.t3 a b c=> abe k a&&abe k b&&abe k c
 |.tn is=> is.all fun i=> decide (i < k)
def Fra(k:Nat)(σ σ':St):Prop:= ∀vs cap:St,vs.length=k -> σ=vs++cap -> ∃vs':St,vs'.length=k/\σ'=vs'++cap
theorem Fra.refl(k:Nat)(σ:St):Fra k σ σ:=fun vs cap h e=> ⟨vs,h,e⟩
theorem Fra.trans{a b c:St}(h1:Fra k a b)(h2:Fra k b c):Fra k a c:=fun vs cap h e=> by
 obtain⟨v1,l1,e1⟩:=h1 vs cap h e
 exact h2 v1 cap l1 e1
theorem ai6{as:As}{d:D}{ds:List D}(r:RD K as H v d)(h:aqh d=some ds): ∃p xs,v=.ref p/\(SqT K H p xs\/SqL K H p xs)/\RDs K as H xs ds:=by
 cases r with
 |da t=>
  cases t with
  |tup n e r=> cases h;exact⟨_,_,rfl,.inl (SqT.of e),r.rd⟩
  |lst n e r=> cases h;exact⟨_,_,rfl,.inr (SqL.of e),r.rd⟩
  |_=> cases h
 |con q r=> cases h;exact⟨_,_,rfl,.inl (q H),r.rd⟩
 |_=> cases h
theorem att{K:ak}{as:As}{H:Hp}{ρ':En}{Q:St -> Hp -> Prop}: ∀(is:List Nat) {xs:List V} {ds:List D} {σ:St} {ρ:En},Envs K as H ρ σ -> RDs K as H xs ds -> aw6 is ds ρ=some ρ' ->
  (∀σ',Envs K as H ρ' σ' -> (∀k,(is.all fun i=> decide (i < k))=true -> Fra k σ σ') -> Q σ' H) -> xs.length=is.length/\gNs is xs σ H Q
 |[],_,_,σ,ρ,en,rs,e,h=> by
  cases rs with
  |nil=> cases e;exact⟨rfl,rfl,h σ en fun k _=> Fra.refl k σ⟩
  |cons _ _=> cases e
 | i::r,_,_,σ,ρ,en,rs,e,h=> by
  cases rs with
  |nil=> cases e
  | @cons v _ d _ r1 rs=>
   obtain⟨hl,hg⟩:=att r (en.set i r1) rs e (Q:=Q) fun σ' en' f=> h σ' en' fun k hk=> by
    rw [dm,aJ]at hk
    refine Fra.trans (fun vs cap hl z=> ?_) (f k hk.2)
    have hi:i < k:=of_decide_eq_true hk.1
    subst z
    exact⟨vs.set i (some v),by simpa using hl,by rw [lV _ _ (by lia)]⟩
   exact⟨by rw [aK,aK,hl],_,_,rfl,hg⟩
theorem aaw{K:ak}: ∀(tg:Tg) {as:As} {σ:St} {H:Hp} {ρ ρ':En} {v:V} {d:D} {Q:St -> Hp -> Prop},Envs K as H ρ σ -> RD K as H v d -> vh tg d ρ=some ρ' ->
  (∀σ',Envs K as H ρ' σ' -> (∀k,abe k tg=true -> Fra k σ σ') -> Q σ' H) -> gOf K tg v σ H Q
 |.nm i,as,σ,H,ρ,ρ',v,d,Q,en,r,e,h=> by
  cases e
  refine h (σ.set i (some v)) (en.set i r) fun k hk vs cap hl z=> ?_
  have hi:i < k:=of_decide_eq_true hk
  subst z
  exact⟨vs.set i (some v),by simpa using hl,by rw [lV _ _ (by lia)]⟩
 | .t2 a b,as,σ,H,ρ,ρ',v,d,Q,en,r,e,h=> by
  unfold vh at e
  split at e
  ·rename_i x y q
   obtain⟨p,xs,rfl,sq,rs⟩:=ai6 r q
   cases rs with
   |cons r1 rs=>
   cases rs with
   |cons r2 rs=>
   cases rs
   split at e
   ·rename_i ρ1 q1
    refine⟨p,_,rfl,sq,rfl,_,_,rfl,aaw a en r1 q1 fun σ1 en1 f1=> ⟨_,_,rfl,aaw b en1 r2 e fun σ2 en2 f2=> ⟨rfl,h σ2 en2 fun k hk=> ?_⟩⟩⟩
    simp only [abe,aJ]at hk
    exact (f1 k hk.1).trans (f2 k hk.2)
   ·cases e
  ·cases e
 | .t3 a b c,as,σ,H,ρ,ρ',v,d,Q,en,r,e,h=> by
  unfold vh at e
  split at e
  ·rename_i x y z q
   obtain⟨p,xs,rfl,sq,rs⟩:=ai6 r q
   cases rs with
   |cons r1 rs=>
   cases rs with
   |cons r2 rs=>
   cases rs with
   |cons r3 rs=>
   cases rs
   split at e
   ·rename_i ρ1 q1
    split at e
    ·rename_i ρ2 q2
     refine⟨p,_,rfl,sq,rfl,_,_,rfl,aaw a en r1 q1 fun σ1 en1 f1=> ⟨_,_,rfl,aaw b en1 r2 q2 fun σ2 en2 f2=> ⟨_,_,rfl,aaw c en2 r3 e fun σ3 en3 f3=> ⟨rfl,h σ3 en3 fun k hk=> ?_⟩⟩⟩⟩
     simp only [abe,aJ]at hk
     exact ((f1 k hk.1.1).trans (f2 k hk.1.2)).trans (f3 k hk.2)
    ·cases e
   ·cases e
  ·cases e
 | .tn is,as,σ,H,ρ,ρ',v,d,Q,en,r,e,h=> by
  unfold vh at e
  split at e
  ·rename_i ys q
   obtain⟨p,xs,rfl,sq,rs⟩:=ai6 r q
   obtain⟨hl,hg⟩:=att is en rs e (Q:=Q) h
   exact⟨p,xs,rfl,sq,hl,hg⟩
  ·cases e
abbrev Wk:=List D×Option (Nat×List D)
abbrev FI:=En -> S -> R Wk
def xa(p:Wk)(s:S):Prop:=match p.2 with
 |none=> True
 |some q=> s[q.1]?=some (.lst q.2)
open Classical in
noncomputable def chk{α:Type}(p:Wk)(s:S)(k:R α):R α:=if xa p s then k else .bad
theorem aaa{α:Type}{ds:List D}{s:S}{k:R α}:chk (ds,none) s k=k:=if_pos trivial
theorem aap{α:Type}{p:Wk}{s:S}{k:R α}(h:xa p s):chk p s k=k:=if_pos h
theorem Dn.chk{α β:Type}{rel:As -> Hp -> β -> α -> Prop}{as:As}{p:Wk}{s:S}{r:R α}{Q:β -> Hp -> Prop}(h:Dn K rel as H (chk p s r) Q):xa p s/\Dn K rel as H r Q:=by
 by_cases c:xa p s
 ·rw [aap c]at h;exact⟨c,h⟩
 ·have e:PF.chk p s r=.bad:=if_neg c
  rw [e]at h;exact h.elim
def af7(K:ak)(as:As)(H:Hp)(J:It)(p:Wk):Prop:= ∀as2 H2 s2,Step0 as H as2 H2 -> Rel K as2 H2 s2 -> xa p s2 -> ∀i:Nat,
 (p.1.length <=i -> J.stop i H2)/\ ∀d,p.1[i]?=some d -> J.go i H2/\ ∀x H3,J.yld i H2 x H3 -> Step as2 H2 as2 H3/\Rel K as2 H3 s2/\RD K as2 H3 x d
def a5r(K:ak)(wi:TI)(f:FI):Prop:= ∀as σ H ρ s Q,Rel K as H s -> Envs K as H ρ σ -> Dn K (af7 K) as H (f ρ s) Q -> wi σ H Q
structure RI (X:Cx) (tg iter:Expr) (f:FI):Prop where
 ex: ∃t,PI X tg iter t/\a5r X.K t f
structure RG (X:Cx) (tg:Expr) (g:Tg):Prop where
 pg:PG X tg (gOf X.K g)
section
variable{X:Cx}{a b:Expr}{fa fb:FE}{pos:Pos}
theorem ad8{x:Str}(hN:X.N.Nodup)(hi:X.N[i]?=some x)(hx:Loc X.env.scope x)(hf:X.fn x=true\/X.env.scope.names.lookup x=some .local:=by first|exact .inl rfl|exact .inr rfl|assumption):RG X (.Name x pos) (.nm i):=⟨a0z hN hi hx hf⟩
theorem aya{e1 e2:Expr}{g1 g2:Tg}(hc:X.calm=true)(h1:RG X e1 g1)(h2:RG X e2 g2)(hn:(bD [e1,e2] X.env).length=2:=by rfl)(hst:(bD [e1,e2] X.env).findIdx? (·.1)=none:=by rfl)(s1:(bD [e1,e2] X.env).map (·.2)=assign e1 X.env::(bD [e2] X.env).map (·.2):=by rfl)(s2:(bD [e2] X.env).map (·.2)=assign e2 X.env::(bD [] X.env).map (·.2):=by rfl):RG X (.Tuple [e1,e2] k pos) (.t2 g1 g2):=
 ⟨aoi hc (abz h1.pg (abz h2.pg aox s2) s1) hn hst⟩
theorem ayn{e1 e2 e3:Expr}{g1 g2 g3:Tg}(hc:X.calm=true)(h1:RG X e1 g1)(h2:RG X e2 g2)(h3:RG X e3 g3)(hn:(bD [e1,e2,e3] X.env).length=3:=by rfl)(hst:(bD [e1,e2,e3] X.env).findIdx? (·.1)=none:=by rfl)(s1:(bD [e1,e2,e3] X.env).map (·.2)=assign e1 X.env::(bD [e2,e3] X.env).map (·.2):=by rfl)(s2:(bD [e2,e3] X.env).map (·.2)=assign e2 X.env::(bD [e3] X.env).map (·.2):=by rfl)(s3:(bD [e3] X.env).map (·.2)=assign e3 X.env::(bD [] X.env).map (·.2):=by rfl):RG X (.Tuple [e1,e2,e3] k pos) (.t3 g1 g2 g3):=
 ⟨aoi hc (abz h1.pg (abz h2.pg (abz h3.pg aox s3) s2) s1) hn hst⟩
def ji(f:FE):FS:=fun ρ s=> (f ρ s).bind fun d s1=>.ok (.rt d) s1
def qo(f:FE):FS:=fun ρ s=> (f ρ s).bind fun _ s1=>.ok (.nx ρ) s1
noncomputable def jk:FS:=fun ρ s=>.ok (.nx ρ) s
def jl(i:Nat)(f:FE):FS:=fun ρ s=> (f ρ s).bind fun d s1=>.ok (.nx (ρ.set i (some d))) s1
def aqz(g:Tg)(f:FE):FS:=fun ρ s=> (f ρ s).bind fun d s1=> match vh g d ρ with
 |some ρ1=>.ok (.nx ρ1) s1
 |none=>.bad
def jp(c:FT)(f g:FS):FS:=fun ρ s=> (c ρ s).bind fun k s1=> if k=true then f ρ s1 else g ρ s1
def jf(f g:FS):FS:=fun ρ s=> (f ρ s).bind fun fl s1=> match fl with
 |.nx ρ1=> g ρ1 s1
 |fl=>.ok fl s1
theorem alx(h:RE X a fa):RS X (.Return (some a) pos) (ji fa):=by
 obtain⟨t,p,r⟩:=h.ex
 refine⟨_,a5i p,fun as σ H ρ s D rl en h=> ?_⟩
 exact r as σ H ρ s _ rl en (Dn.bind h fun d s1 as1 H1 v st1 rl1 r1 h1=> Dn.now (b:=FV.rt v) h1 rl1 (.rt r1))
theorem afk(h:RE X a fa)(hs:f9 a none pos.line X.env=pure false:=by rfl):RS X (.Expr a pos) (qo fa):=by
 obtain⟨t,p,r⟩:=h.ex
 refine⟨_,a21 p hs,fun as σ H ρ s D rl en h=> ?_⟩
 exact r as σ H ρ s _ rl en (Dn.bind h fun d s1 as1 H1 v st1 rl1 r1 h1=> Dn.now (b:=FV.nx σ) h1 rl1 (.nx (en.mono st1)))
theorem ac8{x:Str}{pos':Pos}(hN:X.N.Nodup)(hi:X.N[i]?=some x)(hx:Loc X.env.scope x)(h:RE X a fa)(hs:f9 a (some (.Name x pos')) pos.line X.env=pure false:=by rfl)(hf:X.fn x=true\/X.env.scope.names.lookup x=some .local:=by first|exact .inl rfl|exact .inr rfl|assumption):RS X (.Assign [.Name x pos'] a pos) (jl i fa):=by
 obtain⟨t,p,r⟩:=h.ex
 refine⟨_,a4y hN hi hx p hs hf,fun as σ H ρ s D rl en h=> ?_⟩
 exact r as σ H ρ s _ rl en (Dn.bind h fun d s1 as1 H1 v st1 rl1 r1 h1=> Dn.now (b:=FV.nx (σ.set i (some v))) h1 rl1 (.nx ((en.mono st1).set i r1)))
theorem a3z{g:Tg}(h:RE X a fa)(hg:RG X tg g)(hs:gO [tg] a pos.line X.env=pure false:=by rfl)(hw:gP [tg] a X.env=pure none:=by rfl)(h1:(bD [tg] X.env).map (·.2)=[assign tg X.env]:=by rfl):RS X (.Assign [tg] a pos) (aqz g fa):=by
 obtain⟨t,p,r⟩:=h.ex
 refine⟨_,atu p hg.pg hs hw h1,fun as σ H ρ s D rl en h=> ?_⟩
 refine r as σ H ρ s _ rl en (Dn.bind h fun d s1 as1 H1 v st1 rl1 r1 h1=> ?_)
 split at h1
 ·rename_i ρ1 q
  exact aaw g (en.mono st1) r1 q fun σ' en' _=> Dn.now (b:=FV.nx σ') h1 rl1 (.nx en')
 ·exact h1.elim
theorem acj{st su:List Stmt}{fc:FT}{f g:FS}(hc:RT X c fc)(h1:RSs X st f)(h2:RSs X su g):RS X (.If c st su pos) (jp fc f g):=by
 obtain⟨tc,pc,rc⟩:=hc.ex
 obtain⟨t,p,r⟩:=h1.ex
 obtain⟨t',p',r'⟩:=h2.ex
 refine⟨_,a6x pc p p',fun as σ H ρ s D rl en h=> ?_⟩
 refine rc as σ H ρ s _ rl en (Dn.bind h fun k s1 as1 H1 x st1 rl1 r1 h1=> ?_)
 have e1:x=k:=r1
 subst e1
 cases x with
 |true=> rw [if_pos rfl]at h1⊢;exact r as1 σ H1 ρ s1 D rl1 (en.mono st1) h1
 |false=> rw [if_neg aw]at h1⊢;exact r' as1 σ H1 ρ s1 D rl1 (en.mono st1) h1
theorem aar:RSs X [] jk:=⟨_,a1j,fun as σ H ρ s D rl en h=> Dn.now (b:=FV.nx σ) h rl (.nx en)⟩
theorem ky{f:FS}(h:RS X st f):RSs X [st] f:=let ⟨t,p,r⟩:=h.ex;⟨_,azo p,r⟩
theorem a0o{t u:TS}{f g:FS}(h1:agw K t f)(h2:agw K u g):agw K (a3t t u) (jf f g):=by
 intro as σ H ρ s D rl en h
 refine h1 as σ H ρ s _ rl en (Dn.bind h fun fl s1 as1 H1 fv st1 rl1 r1 h1=> ?_)
 cases r1 with
 |nx e=> exact h2 as1 _ H1 _ s1 D rl1 e h1
 |rt e=> exact (show ya D (.rt _) H1 from Dn.now (K:=K) (rel:=rF K) (Q:=ya D) (b:=FV.rt _) h1 rl1 (rF.rt e))
 |bk e=> exact (show ya D (.bk _) H1 from Dn.now (K:=K) (rel:=rF K) (Q:=ya D) (b:=FV.bk _) h1 rl1 (rF.bk e))
 |ct e=> exact (show ya D (.ct _) H1 from Dn.now (K:=K) (rel:=rF K) (Q:=ya D) (b:=FV.ct _) h1 rl1 (rF.ct e))
theorem vk{jy:List Stmt}{f g:FS}(h:RS X st f)(k:RSs X jy g):RSs X (st::jy) (jf f g):=by
 obtain⟨t,p,r⟩:=h.ex
 obtain⟨t',p',r'⟩:=k.ex
 exact⟨_,aw8 p p',a0o r r'⟩
def qv(g:Tg)(fb:FS)(p:Wk):List D -> En -> S -> R Fl
 |[],ρ,s=>.ok (.nx ρ) s
 | d::r,ρ,s=> match vh g d ρ with
  |none=>.bad
  |some ρ1=> (fb ρ1 s).bind fun fl s2=> match fl with
   |.nx ρ2=> chk p s2 (qv g fb p r ρ2 s2)
   |.ct ρ2=> chk p s2 (qv g fb p r ρ2 s2)
   |.bk ρ2=>.ok (.nx ρ2) s2
   |.rt d=>.ok (.rt d) s2
def xl(fi:FI)(g:Tg)(fb:FS):FS:=fun ρ s=> (fi ρ s).bind fun p s1=> chk p s1 (qv g fb p p.1 ρ s1)
theorem aro{body:List Stmt}{fi:FI}{g:Tg}{fb:FS}(hc:X.calm=true)(hi:RI X tg iter fi)(hg:RG X tg g)(hb:RSs X body fb)(hx:XOk X XW.xk:=by assumption)(hs: ∀x,d8 iter X.env x=pure x:=by intro _;rfl):RS X (.For tg iter body [] pos) (xl fi g fb):=by
 obtain⟨wi,pi,ri⟩:=hi.ex
 obtain⟨tb,pb,rb⟩:=hb.ex
 refine⟨_,a3m hx.own hc pi hg.pg pb hs,fun as σ H ρ s D rl en h=> ?_⟩
 refine ri as σ H ρ s _ rl en (Dn.bind h fun p s1 as1 H1 J st1 rl1 r1 h1=> ?_)
 obtain⟨so,h1⟩:=Dn.chk h1
 refine⟨fun i m σ' H'=> ∃as2 ρ2 s2,m=p.1.length - i/\i <=p.1.length/\Step as1 H1 as2 H'/\Rel X.K as2 H' s2/\Envs X.K as2 H' ρ2 σ'/\xa p s2/\Dn X.K (rF X.K) as2 H' (qv g fb p (p.1.drop i) ρ2 s2) (ya D),
  ⟨_,as1,ρ,s1,rfl,dw _,Step.refl _ _,rl1,en.mono st1,so,h1⟩,?_⟩
 rintro i m σ' H' ⟨as2,ρ2,s2,hm,hi,st2,rl2,en2,so2,h2⟩
 have tn:=r1 as2 H' s2 st2.toStep0 rl2 so2 i
 by_cases hl:i < p.1.length
 ·obtain⟨d,hd⟩: ∃d,p.1[i]?=some d:=⟨_,au hl⟩
  have hdr:p.1.drop i=d::p.1.drop (i+1):=by
   rw [ek hl]
   rw [au hl]at hd
   cases hd;rfl
  rw [hdr]at h2
  obtain⟨go,yl⟩:=tn.2 d hd
  unfold qv at h2
  split at h2
  ·exact h2.elim
  ·rename_i ρ3 q3
   refine .inr ⟨go,fun σ4 H4=> ∃as4 ρ4 s4,Step as1 H1 as4 H4/\Rel X.K as4 H4 s4/\Envs X.K as4 H4 ρ4 σ4/\xa p s4/\Dn X.K (rF X.K) as4 H4 (qv g fb p (p.1.drop (i+1)) ρ4 s4) (ya D),?_,fun x H3 hy=> ?_⟩
   ·rintro σ4 H4 ⟨as4,ρ4,s4,a1,a2,a3,a4,a5⟩
    exact⟨p.1.length - (i+1),by lia,as4,ρ4,s4,rfl,hl,a1,a2,a3,a4,a5⟩
   ·obtain⟨st3,rl3,rx⟩:=yl x H3 hy
    refine aaw g (en2.mono st3) rx q3 fun σ3 en3 _=> ?_
    refine rb as2 σ3 H3 ρ3 s2 _ rl3 en3 (Dn.bind (Dn.step h2 st3) fun fl s5 as5 H5 fv st5 rl5 r5 h5=> ?_)
    cases r5 with
    |nx e=>
     obtain⟨so5,h5⟩:=Dn.chk h5
     exact⟨as5,_,s5,(st2.trans st3).trans st5,rl5,e,so5,h5⟩
    |ct e=>
     obtain⟨so5,h5⟩:=Dn.chk h5
     exact⟨as5,_,s5,(st2.trans st3).trans st5,rl5,e,so5,h5⟩
    |rt e=> exact (show ya D (.rt _) H5 from Dn.now (K:=X.K) (rel:=rF X.K) (Q:=ya D) (b:=FV.rt _) h5 rl5 (rF.rt e))
    |bk e=> exact (show ya D (.nx _) H5 from Dn.now (K:=X.K) (rel:=rF X.K) (Q:=ya D) (b:=FV.nx _) h5 rl5 (rF.nx e))
 ·refine .inl ⟨tn.1 (cN hl),?_⟩
  rw [dN (cN hl)]at h2
  exact Dn.now (b:=FV.nx σ') h2 rl2 (.nx en2)
end
end PF
variable{l Ca:eh}{K:ak}{as:PF.As}{H:L2.Hp}{p js:List Nat}{xs ds ys L:List mB}{w:mP}{s s1:PF.S}{n k c j B:Nat}{v:L2.V}{i m:Int}{vs:List L2.V}{d a:mB}{e tg:jJ}{f fe fa fo:PF.FE}{ρ ρ1:PF.En}{σ:L2.St}{g:PF.Tg}{ft:PF.FT}{y q C:iM}{N cs ss fl ns ps:List iM}{fb:PF.FS}{t:mZ}{st b0:PySem.Stmt}{A:mC}{pos tp:PySem.Pos}{b:Bool}{es:List jJ}{r:List PF.D}{x0 x1 x2 x3 x4:Option PF.D}{a0 a1:PF.D}{fd:PySem.FuncData}{P prog:lZ}{h base:PySem.Heap}{Q E:dj -> f7 -> Prop}{X:L2.Cx}{pins:List (eh×PySem.Obj)}{items:Array dj}{suite:List PySem.Stmt}{scope:PySem.Scope}{od:Option eh}{sl:Array (Option dj)}{mg:iM -> Option dj}
namespace PF
open PySem PySem.Spec
open L2
variable[XW]
noncomputable def ahb(d:D)(s:S):R Wk:=match d with
 |.lst ds=>.ok (ds.map D.da,none) s
 |.tup ds=>.ok (ds.map D.da,none) s
 |.con ds=>.ok (ds.map D.da,none) s
 |.frz ds=>.ok (ds.map D.da,none) s
 |.ref n=> match s[n]? with
  |some (.lst ds)=>.ok (ds,some (n,ds)) s
  |_=>.bad
 |_=>.bad
def fIt(f:FE):FI:=fun ρ s=> (f ρ s).bind ahb
section
variable{X:Cx}{tg a b:Expr}{fa fb:FE}{pos:Pos}
def a8j(K:ak)(tl:TE):TI:=fun σ H R=> tl σ H fun x H1=> ∃a,x=.ref a/\(((∃xs,SqL K H1 a xs)/\R (Itl K a) H1)\/((∃xs,SqT K H1 a xs)/\R (Itt K a) H1))
theorem a5e{l:Expr}{tl:TE}(hl:PE X l tl):PI X tg l (a8j X.K tl):=by
 intro pins s σ H R I h
 refine thn (hl pins s σ H _ I h) fun v s1 ⟨x,H1,I1,r1,q1⟩=> ?_
 obtain⟨a,e,q1⟩:=q1
 subst e
 cases r1
 have fp: ∀b∈ [s1.heap.objs.size],abq X pins H1 b:=fun b hb=> by
  have e:b=s1.heap.objs.size:=by simpa using hb
  subst e
  exact I1.fpOk (ao _) (I1.hok.fresh (ao _))
 rcases q1 with ⟨⟨xs,hq⟩,q⟩|⟨⟨xs,hq⟩,q⟩
 ·obtain⟨its,rv,p,hz⟩:=I1.list hq
  refine ef p.isList ?_
  exact⟨s1.heap.objs.size,[s1.heap.objs.size],_,_,H1,rfl,I1.kept (t':=s1.toks) fun b o e=> ai _ e,atb a _,⟨_,ay _ rfl,rfl,rfl⟩,fp,q⟩
 ·obtain⟨its,rv,p,hz⟩:=I1.tuple hq
  refine iT (show s1.heap.IsTuple a its.toArray from p) ?_
  exact⟨s1.heap.objs.size,[s1.heap.objs.size],_,_,H1,rfl,I1.kept (t':=s1.toks) fun b o e=> ai _ e,apr a _,⟨_,ay _ rfl,rfl,rfl⟩,fp,q⟩
theorem aln{p:Addr}{xs:List V}{w:Wk}(h: ∀as2 H2 s2,Step0 as H as2 H2 -> Rel K as2 H2 s2 -> xa w s2 -> ∃ys,SqL K H2 p ys/\RDs K as2 H2 ys w.1):af7 K as H (Itl K p) w:=by
 intro as2 H2 s2 st rl so i
 obtain⟨ys,sq,rs⟩:=h as2 H2 s2 st rl so
 refine⟨fun hl=> ⟨ys,sq,by rw [rs.length];exact hl⟩,fun d hd=> ?_⟩
 obtain⟨v,hv,r⟩:=rs.get hd
 refine⟨⟨ys,v,sq,hv⟩,fun x H3 hy=> ?_⟩
 obtain⟨rfl,hx⟩:=hy
 have:=hx ys sq
 rw [hv]at this
 cases this
 exact⟨Step.refl _ _,rl,r⟩
theorem atl{p:Addr}{xs:List V}{w:Wk}(h: ∀as2 H2 s2,Step0 as H as2 H2 -> Rel K as2 H2 s2 -> xa w s2 -> ∃ys,SqT K H2 p ys/\RDs K as2 H2 ys w.1):af7 K as H (Itt K p) w:=by
 intro as2 H2 s2 st rl so i
 obtain⟨ys,sq,rs⟩:=h as2 H2 s2 st rl so
 refine⟨fun hl=> ⟨ys,sq,by rw [rs.length];exact hl⟩,fun d hd=> ?_⟩
 obtain⟨v,hv,r⟩:=rs.get hd
 refine⟨⟨ys,v,sq,hv⟩,fun x H3 hy=> ?_⟩
 obtain⟨rfl,hx⟩:=hy
 have:=hx ys sq
 rw [hv]at this
 cases this
 exact⟨Step.refl _ _,rl,r⟩
theorem yj{p:Addr}{ds:List D}(rl:Rel K as H s)(hr: ∀q,as.ix[n]?=some (some q) -> q=p)(e:s[n]?=some (.lst ds)):as.ix[n]?=some (some p)/\ ∃xs,H p=some (.lst xs)/\RDs K as H xs ds:=by
 obtain⟨q,hq⟩:=rl.li n _ e (by intro z;cases z)
 cases hr q hq
 exact⟨hq,rl.ob n p _ hq e⟩
theorem bau(h:RE X a fa):RI X tg a (fIt fa):=by
 obtain⟨t,p,r⟩:=h.ex
 refine⟨_,a5e p,fun as σ H ρ s Q rl en h=> ?_⟩
 refine r as σ H ρ s _ rl en (Dn.bind h fun d s1 as1 H1 v st1 rl1 r1 h1=> ?_)
 cases r1 with
 |da t=>
  cases t with
  |tup n e rs=> exact⟨_,rfl,.inr ⟨⟨_,SqT.of e⟩,Dn.now (Q:=Q) h1 rl1 (atl (xs:=[]) fun as2 H2 s2 st rl so=> ⟨_,SqT.of (st.keep _ _ n e),(rs.mono0 st).rd⟩)⟩⟩
  |lst n e rs=> exact⟨_,rfl,.inl ⟨⟨_,SqL.of e⟩,Dn.now (Q:=Q) h1 rl1 (aln (xs:=[]) fun as2 H2 s2 st rl so=> ⟨_,SqL.of (st.keep _ _ n e),(rs.mono0 st).rd⟩)⟩⟩
  |_=> exact h1.elim
 |con q rs=> exact⟨_,rfl,.inr ⟨⟨_,q H1⟩,Dn.now (Q:=Q) h1 rl1 (atl (xs:=[]) fun as2 H2 s2 st rl so=> ⟨_,q H2,(rs.mono0 st).rd⟩)⟩⟩
 |frz q rs=> exact⟨_,rfl,.inl ⟨⟨_,q as1 H1 (Step.refl _ _).toStep0⟩,Dn.now (Q:=Q) h1 rl1 (aln (xs:=[]) fun as2 H2 s2 st rl so=> ⟨_,q as2 H2 st,(rs.mono0 st).rd⟩)⟩⟩
 | @ref pp n l hr=>
  have h1:Dn X.K (af7 X.K) as1 H1 (match s1[n]? with|some (O.lst ds)=> R.ok (ds,some (n,ds)) s1|_=> R.bad) Q:=h1
  split at h1
  ·rename_i ds e
   obtain⟨ha,xs,hx,rs⟩:=yj rl1 hr e
   refine⟨_,rfl,.inl ⟨⟨_,SqL.of hx⟩,Dn.now (Q:=Q) h1 rl1 (aln (xs:=[]) fun as2 H2 s2 st rl so=> ?_)⟩⟩
   have so':s2[_]?=some (O.lst ds):=so
   obtain⟨q,hq⟩:=rl.li _ _ so' (by intro z;cases z)
   have e2:=hq
   rcases st.old _ l with z|z
   ·rw [z]at e2
    cases hr q e2
    obtain⟨ys,hy,rs2⟩:=rl.ob _ _ _ hq so'
    exact⟨ys,SqL.of hy,rs2⟩
   ·rw [z]at e2;cases e2
  ·exact h1.elim
 |_=> exact h1.elim
noncomputable def aa3(lo:Int):Nat -> List D
 |0=> []
 |n+1=>.int lo::aa3 (lo+1) n
theorem kx: ∀(n:Nat) (lo:Int),(aa3 lo n).length=n
 |0,_=> rfl
 |n+1,lo=> congrArg (· +1) (kx n (lo+1))
theorem anp: ∀(n:Nat) (lo:Int) (i:Nat),i < n -> (aa3 lo n)[i]?=some (.int (lo+i))
 |n+1,lo,0,_=> by simp [aa3]
 |n+1,lo,i+1,h=> by
  rw [aa3,eO,anp n (lo+1) i (by lia)]
  have:lo+1+(i:Int)=lo+((i+1:Nat):Int):=by lia
  rw [this]
theorem a28(lo:Int)(n:Nat):af7 K as H (Itr lo n) (aa3 lo n,none):=by
 intro as2 H2 s2 st rl so i
 refine⟨fun hl=> by rw [kx]at hl;exact hl,fun d hd=> ?_⟩
 have hl:i < n:=by
  have:=(aC.mp hd).1
  rw [kx]at this;exact this
 rw [anp n lo i hl]at hd
 cases hd
 refine⟨hl,fun x H3 hy=> ?_⟩
 obtain⟨rfl,rfl⟩:=hy
 exact⟨Step.refl _ _,rl,.da (.int _)⟩
def alw(ds:List D)(s:S):R Wk:=match ds with
 |[.int j]=> if -(2^62) <=j/\j < 2^62 then .ok (aa3 0 j.toNat,none) s else .bad
 |_=>.bad
def y0(f:FA):FI:=fun ρ s=> (f ρ s).bind alw
theorem RD.int_inv(h:RD K as H v (.int i)):v=.int i:=by
 cases h with|da t=> cases t;rfl
theorem RD.str_inv{x:Str}(h:RD K as H v (.str x)):v=.str x:=by
 cases h with|da t=> cases t;rfl
theorem RD.bl_inv{x:Bool}(h:RD K as H v (.bl x)):v=.bl x:=by
 cases h with|da t=> cases t;rfl
theorem RDs.one{d:D}(h:RDs K as H vs [d]): ∃v,vs=[v]/\RD K as H v d:=by
 cases h with|cons a b=> cases b;exact⟨_,rfl,a⟩
theorem RDs.two{d e:D}(h:RDs K as H vs [d,e]): ∃v w,vs=[v,w]/\RD K as H v d/\RD K as H w e:=by
 cases h with|cons a b=> cases b with|cons b c=> cases c;exact⟨_,_,rfl,a,b⟩
theorem a3s{f:FA}{p:Pos}(hm:X.mg "range"=none)(h:RA X [a] f)(hg:Gl X "range":=by rfl)(hs:starEach [a] X.env=[(false,eval a X.env)]:=by rfl):RI X tg (.Call (.Name "range" p) [a] [] pos) (y0 f):=by
 obtain⟨t,p,r⟩:=h.ex
 refine⟨_,arr hg hm p hs,fun as σ H ρ s Q rl en h=> ?_⟩
 refine r as σ H ρ s _ rl en (Dn.bind h fun ds s1 as1 H1 vs st1 rl1 r1 h1=> ?_)
 unfold alw at h1
 split at h1
 ·rename_i j
  obtain⟨v,rfl,rv⟩:=r1.one
  cases rv.int_inv
  split at h1
  ·rename_i hb
   exact⟨j,rfl,hb.1,hb.2,Dn.now (Q:=Q) h1 rl1 (a28 0 _)⟩
  ·exact h1.elim
 ·exact h1.elim
def qi(g:Tg)(ft:FT)(fe:FE)(ρ0:En)(p:Wk):List D -> S -> R (List D)
 |[],s=>.ok [] s
 |d::r,s=> match vh g d ρ0 with
  |none=>.bad
  |some ρ1=> (ft ρ1 s).calm.bind fun b s2=> if b=true then (fe ρ1 s2).calm.bind fun x s3=> chk p s3 ((qi g ft fe ρ0 p r s3).bind fun xs s4=>.ok (x::xs) s4) else chk p s2 (qi g ft fe ρ0 p r s2)
theorem R.calm_ex{α:Type}(r:R α)(n:Nat)(ρ:En)(s:S):r.calm≠ .ex n ρ s:=by cases r <;> (intro h;cases h)
theorem aj1{α β:Type}{r:R α}{f:α -> S -> R β}(h1: ∀n ρ s,r≠ .ex n ρ s)(h2: ∀a s n ρ s',f a s≠ .ex n ρ s')(n:Nat)(ρ:En)(s:S):r.bind f≠ .ex n ρ s:=by
 cases r with
 |ok a s'=> exact h2 a s' n ρ s
 |bad=> intro h;cases h
 |ex n' ρ' s'=> exact absurd rfl (h1 n' ρ' s')
theorem asl{α:Type}{p:Wk}{k:R α}(h: ∀n ρ s',k≠ .ex n ρ s')(n:Nat)(ρ:En)(s':S):chk p s k≠ .ex n ρ s':=by
 by_cases c:xa p s
 ·rw [aap c];exact h n ρ s'
 ·have e:chk p s k=.bad:=if_neg c
  rw [e];intro z;cases z
theorem agj{g:Tg}{ft:FT}{fe:FE}{ρ0:En}{p:Wk}: ∀(ds:List D) (s:S) (n:Nat) (ρ:En) (s':S),qi g ft fe ρ0 p ds s≠ .ex n ρ s'
 |[],s,n,ρ,s'=> by intro h;cases h
 | d::r,s,n,ρ,s'=> by
  rw [qi]
  split
  ·intro h;cases h
  ·refine aj1 (R.calm_ex _) (fun b s2=> ?_) n ρ s'
   intro n ρ s'
   split
   ·exact aj1 (R.calm_ex _) (fun x s3=> asl (aj1 (fun n ρ s'=> agj r s3 n ρ s') fun xs s4 n ρ s' h=> by cases h)) n ρ s'
   ·exact asl (fun n ρ s'=> agj r s2 n ρ s') n ρ s'
noncomputable def aiy(ρ:En)(js:List Nat):En:=js.map fun j=> (ρ[j]?).join
def fLc(m:Bool)(js:List Nat)(k:Nat)(fi:FI)(g:Tg)(ft:FT)(fe:FE):FE:=fun ρ s=> (fi ρ s).bind fun p s1=> if p.1.length <=sizeLine then chk p s1 ((qi g ft fe (aA k none++aiy ρ js) p p.1 s1).bind fun ds s2=> vq m ds s2) else .bad
noncomputable def acx:FT:=fun _ s=>.ok true s
structure RIfs (X:Cx) (ifs:List Expr) (f:FT):Prop where
 run:ais X ifs (amx X.K f)
theorem a84:RIfs X [] acx:=⟨fun pins s σ H Q I ⟨as,ρ,s',rl,en,h⟩=> awo pins s σ H Q I (show Q true H from Dn.now h rl rfl)⟩
theorem a96{f:FT}(h:RT X a f):RIfs X [a] f:=⟨aup h.pt⟩
theorem Envs.caps(e:Envs K as H ρ σ)(js:List Nat):Envs K as H (aiy ρ js) (zi σ js):=by
 refine⟨by simp [aiy,zi],fun i d h=> ?_⟩
 unfold aiy at h
 unfold zi
 rw [aR]at h⊢
 cases q:js[i]? with
 |none=> rw [q]at h;cases h
 | some j=>
  rw [q]at h
  have h:(ρ[j]?).join=some d:=by simpa using h
  cases z:ρ[j]? with
  |none=> rw [z]at h;cases h
  | some o=>
   rw [z]at h
   cases o with
   |none=> cases h
   |some x=>
    cases h
    obtain⟨v,e1,r⟩:=e.get j d z
    exact⟨v,by simp [e1],r⟩
theorem Envs.own{vs:St}(e:Envs K as H ρ σ)(hl:vs.length=k):Envs K as H (aA k none++ρ) (vs++σ):=by
 refine⟨by simp [hl,e.len],fun i d h=> ?_⟩
 by_cases z:i < k
 ·rw [bu (by simpa using z),eN]at h
  simp [z]at h
 ·rw [cy (by simpa using cN z)]at h
  rw [cy (by rw [hl];exact cN z)]
  rw [hl]
  exact e.get _ d (by simpa using h)
theorem lcB {J:It} {p:Wk} {ρ0:En} {cap:St} {m:Bool} {Q:VK} (hg:abe k g=true) (hz:p.1.length <=sizeLine) (rl:Rel K as H s) (ri:af7 K as H J p) (so:xa p s) (en: ∀vs:St,vs.length=k -> Envs K as H ρ0 (vs++cap)) (h:Dn K (rD K) as H ((qi g ft fe ρ0 p p.1 s).bind fun ds s2=> vq m ds s2) Q):awu (gOf K g) (@amx XW.dft K ft) (@tOf XW.dft K fe) k cap J H Q:=by
 intro D hD
 have n0:New H D (.lst []) (upd H D (.lst [])):=⟨hD,rfl⟩
 have nh:D∉as.hd:=fun z=> by obtain⟨_,e⟩:=rl.hs D z;rw [hD]at e;cases e
 have s0:=ak2 (as:=as) n0
 refine⟨fun i mm ys H'=> ∃as2 s2 ds,mm=p.1.length - i/\i <=p.1.length/\ys.length <=i/\Step as H as2 H'/\D∈as2.hd/\Rel K as2 H' s2/\xa p s2/\RDs K as2 H' ys ds/\
   Dn K (rD K) as H ((qi g ft fe ρ0 p (p.1.drop i) s2).bind fun xs s3=> vq m (ds++xs) s3) Q,
  ⟨_,as.hide D,s,[],rfl,dw _,ao _,s0,aD,rl.hide n0,so,.nil,h⟩,?_⟩
 rintro i mm ys H' hDi ⟨as2,s2,ds,hm,hi,hys,st2,mD2,rl2,so2,rs,h2⟩
 have tn:=ri as2 H' s2 st2.toStep0 rl2 so2 i
 by_cases hl:i < p.1.length
 ·obtain⟨d,hd⟩: ∃d,p.1[i]?=some d:=⟨_,au hl⟩
  have hdr:p.1.drop i=d::p.1.drop (i+1):=by
   rw [ek hl]
   rw [au hl]at hd
   cases hd;rfl
  rw [hdr]at h2
  obtain⟨go,yl⟩:=tn.2 d hd
  unfold qi at h2
  split at h2
  ·exact h2.elim
  ·rename_i ρ3 q3
   refine .inr ⟨go,fun x H3 hy vs hv=> ?_⟩
   obtain⟨st3,rl3,rx⟩:=yl x H3 hy
   refine aaw g ((en vs hv).mono (st2.trans st3)) rx q3 fun σ3 en3 fr=> ?_
   refine⟨fr k hg vs cap hv rfl,as2,ρ3,s2,rl3,en3,?_⟩
   have eD3:H3 D=some (.lst ys):=st3.hh D mD2 _ hDi
   cases qt:ft ρ3 s2 with
   |bad=> rw [qt]at h2;exact h2.elim
   |ex _ _ _=> rw [qt]at h2;exact h2.elim
   | ok b s4=>
    rw [qt,R.calm_ok]at h2
    intro b' as4 H4 st4 rl4 eb
    have eb':b'=b:=eb
    subst eb'
    have mD4:D∈as4.hd:=st4.hk D mD2
    have eD4:H4 D=some (.lst ys):=st4.hh D mD2 _ eD3
    have st24:=(st2.trans st3).trans st4
    rw [R.bind_ok]at h2
    cases b' with
    | false=>
     rw [if_neg aw]at h2⊢
     by_cases c:xa p s4
     ·rw [aap c]at h2
      exact⟨eD4,_,by lia,as4,s4,ds,rfl,hl,by lia,st24,mD4,rl4,c,(rs.mono st3).mono st4,h2⟩
     ·have e:chk p s4 (qi g ft fe ρ0 p (p.1.drop (i+1)) s4)=.bad:=if_neg c
      rw [e]at h2;exact h2.elim
    | true=>
     rw [if_pos rfl]at h2⊢
     refine⟨as4,ρ3,s4,rl4,en3.mono st4,?_⟩
     cases qe:fe ρ3 s4 with
     |bad=> rw [qe]at h2;exact h2.elim
     |ex _ _ _=> rw [qe]at h2;exact h2.elim
     | ok x5 s5=>
      rw [qe,R.calm_ok]at h2
      intro v5 as5 H5 st5 rl5 r5
      rw [R.bind_ok]at h2
      have mD5:D∈as5.hd:=st5.hk D mD4
      have eD5:H5 D=some (.lst ys):=st5.hh D mD4 _ eD4
      have st25:=st24.trans st5
      by_cases c:xa p s5
      ·rw [aap c]at h2
       have cg:Chg H5 D (.lst (ys++ [v5])) (upd H5 D (.lst (ys++ [v5]))):=⟨rfl⟩
       have s05:=ab3 (.inr mD5) cg
       refine⟨eD5,by lia,_,by lia,as5,s5,ds++ [x5],rfl,hl,by simp;lia,awi st25 hD nh mD5 cg,mD5,rl5.chgH mD5 cg,c,((((rs.mono st3).mono st4).mono st5).append (.cons r5 .nil)).mono0 s05,?_⟩
       cases qc:qi g ft fe ρ0 p (p.1.drop (i+1)) s5 with
       |bad=> rw [qc]at h2;exact h2.elim
       |ex _ _ _=> exact absurd qc (agj _ _ _ _ _)
       |ok xs s6=>
        rw [qc]at h2
        show Dn K (rD K) as H (vq m ((ds++ [x5])++xs) s6) Q
        rw [cx]
        exact h2
      ·have e:chk p s5 ((qi g ft fe ρ0 p (p.1.drop (i+1)) s5).bind fun xs s4=>.ok (x5::xs) s4)=.bad:=if_neg c
       rw [e]at h2;exact h2.elim
 ·refine .inl ⟨tn.1 (cN hl),?_⟩
  rw [dN (cN hl)]at h2
  replace h2:Dn K (rD K) as H (vq m (ds++ []) s2) Q:=h2
  rw [cq]at h2
  unfold vq at h2
  cases m with
  |true=>
   rw [if_pos rfl]at h2
   refine h2 (.ref D) _ H' (aso st2 nh mD2) (rl2.take mD2 ⟨ys,hDi,rs.mono0 (aes mD2)⟩) (.ref (by simp [rl2.len]) fun q e=> ?_)
   rw [←rl2.len]at e
   simp at e
   exact e.symm
  | false=>
   rw [if_neg aw]at h2
   cases q:ku ds with
   |none=> rw [q]at h2;exact h2.elim
   |some zs=>
    rw [q]at h2
    have e:=zo q
    subst e
    have h2:Dn K (rD K) as H (R.ok (.lst zs) s2) Q:=h2
    refine h2 (.ref D) _ H' (awz st2 nh aet) rl2.show (.da (.lst (fun z=> ?_) hDi (rs.td.mono0 aet)))
    rcases z with z|z
    ·exact rl2.hx D mD2 z
    ·exact absurd rfl (of_decide_eq_true (bS.mp z).2)
end
end PF
namespace PF
open PySem PySem.Spec
open L2
open PyProof.Rows (envOfC)
section XWs
variable[XW]
section
variable{X:Cx}{own caps:List Str}{js:List Nat}{scope:gm}{tg iter elt a:Expr}{ifs:List Expr}{fi:FI}{g:Tg}{ft:FT}{fe fa:FE}{pos:Pos}
theorem aua{wi:TI}{m:Bool}(ri:a5r K wi fi)(hl:abe k g=true):aac K (tLc js k wi (gOf K g) (@amx XW.dft K ft) (@tOf XW.dft K fe)) (fLc m js k fi g ft fe):=by
 intro as σ H ρ s Q rl en h
 refine ri as σ H ρ s _ rl en (Dn.bind h fun p s1 as1 H1 J st1 rl1 r1 h1=> ?_)
 split at h1
 ·rename_i hz
  obtain⟨so,h1⟩:=Dn.chk h1
  exact lcB hl hz rl1 r1 so (fun vs hv=> ((en.mono st1).caps js).own hv) h1
 ·exact h1.elim
theorem aym(m:Bool)(hcalm:X.calm=true)(hkind:scope.kind=.function)(hnames:(scope.names.all fun p=> !(p.2==.local)||(scope.names.lookup p.1==some .local))=true)(hcell:(scope.names.any fun p=> p.2==.cell)=false)
  (hk:(scope.names.all fun p=> !(p.2==.free)||(X.env.kindOf p.1==some .cell||X.env.kindOf p.1==some .free))=true)
  (hcap:yz X scope caps js) (hl:abe own.length g=true) (hi:RI X tg iter fi) (hg: ∀C fp s H,RG (qu X own caps scope C fp s H) tg g) (ht: ∀(I:XW) C fp s H,XOk (qu X own caps scope C fp s H) I.xk -> @RIfs I (qu X own caps scope C fp s H) ifs ft) (he: ∀(I:XW) C fp s H,XOk (qu X own caps scope C fp s H) I.xk -> @RE I (qu X own caps scope C fp s H) elt fe)
  (hs: ∀x,d8 iter X.env x=pure x:=by intro _;rfl):RE X (.ListComp elt [⟨tg,iter,ifs,0⟩] scope pos) (fLc m js own.length fi g ft fe):=by
 obtain⟨wi,pi,ri⟩:=hi.ex
 exact⟨_,a68 hcalm hkind hnames hcell hk hcap pi (fun C fp s H=> (hg C fp s H).pg) (fun C fp s H=> @RIfs.run XW.dft _ _ _ (ht XW.dft C fp s H (XOk.never eY))) (fun C fp s H=> @RE.pe XW.dft _ _ _ (he XW.dft C fp s H (XOk.never eY))) hs,aua ri hl⟩
theorem aur(m:Bool){i:Nat}{py:Pos}{spos:Pos}(hsw:f9 (.ListComp elt [⟨tg,iter,ifs,0⟩] scope pos) (some (.Name y py)) spos.line X.env=pure true)(hN:X.N.Nodup)(hy:X.N[i]?=some y)(hyl:X.env.scope.names.lookup y=some .local)(hcalm:X.calm=true)(hkind:scope.kind=.function)(hnames:(scope.names.all fun p=> !(p.2==.local)||(scope.names.lookup p.1==some .local))=true)(hcell:(scope.names.any fun p=> p.2==.cell)=false)(hk:(scope.names.all fun p=> !(p.2==.free)||(X.env.kindOf p.1==some .cell||X.env.kindOf p.1==some .free))=true)(hcap:yz X scope caps js)(hl:abe own.length g=true)(hi:RI X tg iter fi)(hg: ∀C fp s H,RG (qu X own caps scope C fp s H) tg g)(ht: ∀(I:XW) C fp s H,XOk (qu X own caps scope C fp s H) I.xk -> @RIfs I (qu X own caps scope C fp s H) ifs ft)(he: ∀(I:XW) C fp s H,XOk (qu X own caps scope C fp s H) I.xk -> @RE I (qu X own caps scope C fp s H) elt fe)(hs: ∀x,d8 iter X.env x=pure x:=by intro _;rfl):RS X (.Assign [.Name y py] (.ListComp elt [⟨tg,iter,ifs,0⟩] scope pos) spos) (jl i (fLc m js own.length fi g ft fe)):=by
 obtain⟨wi,pi,ri⟩:=hi.ex
 refine⟨_,av6 (own:=own) (te:= @tOf XW.dft X.K fe) (tt:= @amx XW.dft X.K ft) (g:=gOf X.K g) hsw hN hy hyl hcalm hkind hnames hcell hk hcap pi (fun C fp s H=> (hg C fp s H).pg) (fun C fp s H=> @RIfs.run XW.dft _ _ _ (ht XW.dft C fp s H (XOk.never eY))) (fun C fp s H=> @RE.pe XW.dft _ _ _ (he XW.dft C fp s H (XOk.never eY))) hs,fun as σ H ρ s D rl en h=> ?_⟩
 exact aua (m:=m) ri hl as σ H ρ s _ rl en (Dn.bind h fun d s1 as1 H1 v st1 rl1 r1 h1=> Dn.now (b:=FV.nx (σ.set i (some v))) h1 rl1 (.nx ((en.mono st1).set i r1)))
def ax1(d:D)(s:S):R D:=match d with
 | .ref n=> match s[n]? with
  |some (.lst ds)=> match ku ds with
   |some xs=>.ok (.lst xs) (s.set n .gone)
   |none=>.bad
  |_=>.bad
 |d=>.ok d s
def aw4(f:FE):FE:=fun ρ s=> (f ρ s).bind ax1
theorem a4z{d:D}{Q:VK}(rl:Rel K as H s)(r:RD K as H v d)(h:Dn K (rD K) as H (ax1 d s) Q):Q v H:=by
 cases r with
 | @ref p n l hr=>
  have h1:Dn K (rD K) as H (match s[n]? with|some (O.lst ds)=> (match ku ds with|some xs=> R.ok (D.lst xs) (s.set n .gone)|none=>.bad)|_=> R.bad) Q:=h
  split at h1
  ·rename_i ds e
   split at h1
   ·rename_i xs q
    obtain⟨ha,vs,hv,rs⟩:=yj rl hr e
    have e2:=zo q
    subst e2
    refine h1 (.ref p) (as.cut n) H (ags n) rl.frz (.da (.lst ?_ hv (rs.td.mono (ags n))))
    rintro (z|z)
    ·obtain⟨i,hi⟩:=qp.mp z
     have hi':=ahd hi
     have:n=i:=rl.nd n i p ha hi'
     subst this
     rw [dF]at hi
     simp at hi
    ·exact rl.hx p z (qp.mpr ⟨n,ha⟩)
   ·exact h1.elim
  ·exact h1.elim
 |da t=> exact Dn.now (Q:=Q) h rl (.da t)
 |ty n=> exact Dn.now (Q:=Q) h rl (.ty n)
 |fn a=> exact Dn.now (Q:=Q) h rl (.fn a)
 |tabF a=> exact Dn.now (Q:=Q) h rl (.tabF a)
 |con q r=> exact Dn.now (Q:=Q) h rl (.con q r)
 |frz q r=> exact Dn.now (Q:=Q) h rl (.frz q r)
theorem bbm(h:RE X a fa):RE X a (aw4 fa):=by
 obtain⟨t,p,r⟩:=h.ex
 refine⟨_,p,fun as σ H ρ s Q rl en h=> ?_⟩
 exact r as σ H ρ s _ rl en (Dn.bind h fun d s1 as1 H1 v st1 rl1 r1 h1=> a4z rl1 r1 h1)
end
abbrev FF:=List D -> S -> R D
noncomputable def spF(K:ak)(n:Nat)(F:FF):Sp:=fun vs H Q E=> vs.length=n/\ ∃as ds s,Rel K as H s/\RDs K as H vs ds/\ @Dn (XW.of E) D V K (rD K) as H (F ds s) Q
structure CalF (P:aV) (w:aZ) (K:ak) (mg:Str -> Option af) (base:Heap) (x:Str) (k n:Nat) (F:FF):Prop where
 cal:avt P w K mg base x k (spF K n F)
def je(n:Nat)(F:FF)(f:FA):FE:=fun ρ s=> (f ρ s).bind fun ds s1=> if ds.length=n then (F ds s1).at ρ else .bad
section
variable{X:Cx}{x:Str}{k n:Nat}{F:FF}{p pos:Pos}{e:Expr}{es:List Expr}{f:FA}
theorem acv(c:CalF X.prog X.w X.K X.mg X.base x k n F)(hr:Room k X.A)(ha:RA X (e::es) f)(hx:XOk X XW.xk:=by assumption)(hg:Gl X x:=by rfl)(hdb:(x==("__debug__":Str))=false:=by decide)
  (he:starEach (e::es) X.env=(false,eval e X.env)::starEach es X.env:=by rfl) (hpl:(backTo pos (starEach es X.env)).any (·.1)=false:=by rfl):RE X (.Call (.Name x p) (e::es) [] pos) (je n F f):=by
 obtain⟨t,p,r⟩:=ha.ex
 refine⟨_,a6l c.cal hx hr p hg hdb he hpl,fun as σ H ρ s Q rl en h=> ?_⟩
 refine r as σ H ρ s _ rl en (Dn.bind h fun ds s1 as1 H1 vs st1 rl1 r1 h1=> ?_)
 split at h1
 ·rename_i hn
  refine⟨by rw [cq,r1.length];exact hn,as1,ds,s1,rl1,?_,h1.at (en.mono st1)⟩
  rw [cq];exact r1
 ·exact h1.elim
end
end XWs
def jz(m:Nat)(fb:FS):FF:=fun ds s=> (fb (ds.map some++aA (m - ds.length) none) s).bind fun fl s1=> match fl with
 |.rt d=>.ok d s1
 |.nx _=>.ok .non s1
 |_=>.bad
theorem aqb{ds:List D}(r:RDs K as H vs ds):Envs K as H (ds.map some++aA (N.length - ds.length) none) (L2.start N vs):=by
 unfold L2.start
 refine⟨by simp [r.length],fun i d h=> ?_⟩
 by_cases z:i < ds.length
 ·rw [bu (by simpa using z),aR]at h
  cases q:ds[i]? with
  |none=> rw [q]at h;cases h
  |some x=>
   rw [q]at h
   cases h
   obtain⟨v,hv,rv⟩:=r.get q
   exact⟨v,by rw [bu (by rw [am,r.length];exact z),aR,hv];rfl,rv⟩
 ·rw [cy (by simpa using cN z),eN]at h
  split at h
  ·cases h
  ·cases h
theorem avq[I:XW]{t:TS}{Q:VK}(r:agw K t fb)(rl:Rel K as H s)(en:Envs K as H ρ σ)(h:Dn K (rD K) as H ((fb ρ s).bind fun fl s1=> match fl with|.rt d=>.ok d s1|.nx _=>.ok .non s1|_=>.bad) Q):t {nx:=fun _ H'=> Q .non H',rt:=Q} σ H:=by
 refine r as _ H _ s _ rl en (Dn.bind h fun fl s1 as1 H1 fv st1 rl1 r1 h1=> ?_)
 cases r1 with
 |nx e=> exact Dn.now (Q:=Q) h1 rl1 (.da .non)
 |rt e=> exact Dn.now (Q:=Q) h1 rl1 e
 |bk e=> exact h1.elim
 |ct e=> exact h1.elim
abbrev BodyOk(P:aV)(w:aZ)(K:ak)(mg:Str -> Option af)(base:Heap)(N:List Str)(q:Str)(st:Stmt)(k:Nat)(fb:FS):Prop:=
 ∀(f:Addr) (cdv:af) (A:br) (outer:List Env) (s:aj) (H:Hp) (E:XK) (I:XW),XOk (zk (CX1 P w) P w K mg base N q (jg st) f cdv A outer s H E) I.xk -> Room k (A.deeper (envOfC q (jg st) s.heap.objs.size f cdv)) ->
  @RSs I (zk (CX1 P w) P w K mg base N q (jg st) f cdv A outer s H E) (vj st) fb
section
variable{P:aV}{w:aZ}{K:ak}{mg:Str -> Option af}{base:Heap}{x:Str}{st:Stmt}{N ps:List Str}{k:Nat}
theorem ai7{m:Nat}(hm:N.length=m)(hbody:BodyOk P w K mg base N q st k fb)(f:Addr)(cdv:af)(A:br)(outer:List Env)(s:aj)(H:Hp)(vs:List V)(Q:VK)(E:XK)(hr:Room k (A.deeper (envOfC q (jg st) s.heap.objs.size f cdv)))(h:spF K n (jz m fb) vs H Q E):
  ∃t,PSs (zk (CX1 P w) P w K mg base N q (jg st) f cdv A outer s H E) (vj st) t/\t {nx:=fun _ H'=> Q .non H',rt:=Q} (L2.start N vs) H:=by
 obtain⟨hv,as,ds,s',rl,rs,h⟩:=h
 obtain⟨t,p,r⟩:= @RSs.ex (XW.of E) _ _ _ (hbody f cdv A outer s H E (XW.of E) a70 hr)
 have en:Envs K as H (ds.map some++aA (m - ds.length) none) (L2.start N vs):=by rw [←hm];exact aqb rs
 exact⟨t,p,avq (I:=XW.of E) r rl en h⟩
theorem acp(h:Has K mg x st ps)(S:FnScope N ps (jg st)){m:Nat}(hm:N.length=m)(hn:ps.length=n)(hbody:BodyOk P w K mg base N x st k fb):CalF P w K mg base x (k+1) n (jz m fb):=
 ⟨h.calX S (fun vs H Q E h=> by rw [hn];exact h.1) fun f cdv A outer s H vs Q E hr h=> ai7 hm hbody f cdv A outer s H vs Q E hr h⟩
end
noncomputable def agz(K:ak):Sp:=fun vs H Q _=> ∃(a:Addr) (ns:List Int),vs=[.ref a]/\SqL K H a (ns.map V.int)/\ns.length <=63/\ ∀H',Q (.bl true) H'
theorem TDs.ints{as:As}{H:Hp}: ∀ns:List Int,TDs as H (ns.map V.int) (ns.map aG)
 |[]=>.nil
 |n::r=>.cons (.int n) (TDs.ints r)
end PF
namespace PF
open PySem PySem.Spec
open L2
variable[XW]
section
variable{X:Cx}{pins:List (Addr×Obj)}{σ:St}{H:Hp}{s:aj}{as:As}
theorem af0{a:Addr}(I:Inv X pins σ H s)(e:H a=some (.dK [])):(a==fJ)=false/\ ∃(o:Obj) (es:Array kL) (ep:Nat),s.heap.get? a=some o/\o.cls=.type "dict"/\o.data=.dict es ep/\es.toList=[]:=by
 obtain⟨_,hd,vs,rel,dd⟩:=ay4 I.hok e
 cases rel
 obtain⟨o,es,ep,h1,h2,h3,h4,h5⟩:=dd
 refine⟨hd,o,es,ep,h1,h2.1,h3,?_⟩
 cases h6:es.toList with
 |nil=> rfl
 |cons x r=> rw [h6]at h5;obtain⟨h5,_⟩:=h5;cases h5
theorem aiu{a:Addr}(I:Inv X pins σ H s)(e:H a=some (.dK [(.inl i,v)])):(a==fJ)=false/\ ∃(o:Obj) (es:Array kL) (ep:Nat) (hs:Int) (t:Tok) (u:af),RelV v u/\s.heap.get? a=some o/\o.cls=.type "dict"/\o.data=.dict es ep/\es.toList=[⟨hs,.int i t,u⟩]:=by
 obtain⟨_,hd,vs,rel,dd⟩:=ay4 I.hok e
 cases rel with
 | @cons _ b _ _ r1 r2=>
  cases r2
  obtain⟨k,u⟩:=b
  obtain⟨r0,r1⟩:=r1
  obtain rfl:gW i=k:=r0
  obtain⟨o,es,ep,h1,h2,h3,h4,h5,_⟩:=dd
  refine⟨hd,o,es,ep,?_⟩
  cases h6:es.toList with
  |nil=> rw [h6]at h5;cases h5
  | cons x r=>
   rw [h6]at h5
   cases h5 with
   | cons k1 k2 k3=>
    cases k3
    obtain⟨hs,key,val⟩:=x
    rcases qk (k:=.inl i) (v:=key) k1 with ⟨j,t,e1,e2⟩|⟨y,t,e1,_⟩
    ·cases e1
     obtain rfl:key=dH i t:=e2
     obtain rfl:val=u:=k2
     exact⟨hs,t,val,r1,h1,h2.1,h3,rfl⟩
    ·cases e1
mutual
theorem TD.reads(I:Inv X pins σ H s): ∀{v:V} {d:ag} {u:af},TD as H v d -> RelV v u -> ∃bs,fI s.heap u d bs
 |_,_,u,.non,r=> by cases (show u=bP from r);exact⟨_,.none⟩
 |_,_,u,.bl b,r=> by cases (show u=eV b from r);exact⟨_,.bool b⟩
 |_,_,u,.int i,r=> by obtain⟨t,e⟩:=(show∃t,u=dH i t from r);subst e;exact⟨_,.int i t⟩
 |_,_,u,.str x,r=> by obtain⟨t,e⟩:=(show∃t,u=fE x t from r);subst e;exact⟨_,.str x t⟩
 |_,_,u,.tup (p:=a) (xs:=xs) n e q,r=> by
  cases (show u=aH a from r)
  obtain⟨z,its,rv,p⟩:=(show j7 X.prog X.w H s.heap a (.tup xs) from I.hok a _ e)
  obtain⟨o,h1,h2,k,h3⟩:=p.tup
  obtain⟨bs,ra⟩:=TDs.reads I q rv
  exact⟨_,.tuple h1 h2 h3 ra⟩
 |_,_,u,.lst (p:=a) (xs:=xs) n e q,r=> by
  cases (show u=aH a from r)
  obtain⟨z,its,k,rv,h1⟩:=(show j7 X.prog X.w H s.heap a (.lst xs) from I.hok a _ e)
  obtain⟨bs,ra⟩:=TDs.reads I q rv
  exact⟨_,.list h1 rfl rfl ra⟩
 |_,_,u,.dct (p:=a) n e,r=> by
  cases (show u=aH a from r)
  obtain⟨_,o,es,ep,h1,h2,h3,h4⟩:=af0 I e
  exact⟨_,.dict (kvs:=[]) h1 h2 h3 (by rw [h4];exact .nil) (by rw [h4];exact .nil)⟩
 |_,_,u,.dc1 (p:=a) (i:=i) (d:=d) n e q,r=> by
  cases (show u=aH a from r)
  obtain⟨_,o,es,ep,hs,t,y,ry,h1,h2,h3,h4⟩:=aiu I e
  obtain⟨bs,ra⟩:=TD.reads I q ry
  exact⟨_,.dict (kvs:=[(.int i,d)]) h1 h2 h3 (by rw [h4];exact .cons (.int i t) .nil) (by rw [h4];exact .cons ra .nil)⟩
theorem TDs.reads(I:Inv X pins σ H s): ∀{vs:List V} {ds:List ag} {us:List af},TDs as H vs ds -> jo vs us -> ∃bs,gT s.heap us ds bs
 |_,_,_,.nil,r=> by cases r;exact⟨_,.nil⟩
 | _,_,_,.cons a b,r=> by
  cases r with
  |cons r1 r2=>
   obtain⟨as,h1⟩:=TD.reads I a r1
   obtain⟨bs,h2⟩:=TDs.reads I b r2
   exact⟨_,.cons h1 h2⟩
end
def toP(s:S):D -> Option ag
 |.da d=> some d
 |.con ds=> some (.tuple ds)
 |.frz ds=> some (.list ds)
 |.ref n=> match s[n]? with
  |some (.lst ds)=> (ku ds).map lq
  |_=> none
 |_=> none
noncomputable def toL(s:S):D -> Option (List D)
 |.lst ds=> some (ds.map D.da)
 |.ref n=> match s[n]? with
  |some (.lst ds)=> some ds
  |_=> none
 |_=> none
theorem ab0{st:S}{d:D}{ds:List D}(rl:Rel K as H st)(r:RD K as H v d)(h:toL st d=some ds): ∃p xs,v=.ref p/\H p=some (.lst xs)/\RDs K as H xs ds:=by
 cases r with
 |da t=>
  cases t with
  |lst n e q=> cases h;exact⟨_,_,rfl,e,q.rd⟩
  |_=> cases h
 | @ref p n l hr=>
  have h:(match st[n]? with|some (O.lst ds)=> some ds|_=> none)=some ds:=h
  split at h
  ·rename_i ys e
   cases h
   obtain⟨_,xs,hx,rs⟩:=yj rl hr e
   exact⟨p,xs,rfl,hx,rs⟩
  ·cases h
 |_=> cases h
theorem RD.reads{st:S}{d:D}{pd:ag}{u:af}(I:Inv X pins σ H s)(rl:Rel X.K as H st)(r:RD X.K as H v d)(h:toP st d=some pd)(ru:RelV v u): ∃bs,fI s.heap u pd bs:=by
 cases r with
 |da t=> cases h;exact t.reads I ru
 |con q rs=>
  cases h
  obtain⟨its,rv,⟨o,h1,h2,k,h3⟩,z⟩:=I.tuple (q H)
  obtain⟨bs,ra⟩:=rs.reads I rv
  cases ru
  exact⟨_,.tuple h1 h2 h3 ra⟩
 |frz q rs=>
  cases h
  obtain⟨its,rv,⟨o,k,h1,h2,h3,h4⟩,z⟩:=I.list (q as H (Step.refl _ _).toStep0)
  obtain⟨bs,ra⟩:=rs.reads I rv
  cases ru
  exact⟨_,.list h1 h2 h4 ra⟩
 | @ref p n l hr=>
  have h:(match st[n]? with|some (O.lst ds)=> (ku ds).map lq|_=> none)=some pd:=h
  split at h
  ·rename_i ds e
   cases q:ku ds with
   |none=> rw [q]at h;cases h
   |some xs=>
    rw [q]at h
    cases h
    have e2:=zo q
    subst e2
    obtain⟨_,vs,hv,rs⟩:=yj rl hr e
    obtain⟨z,its,k,rv,h1⟩:=(show j7 X.prog X.w H s.heap p (.lst vs) from I.hok p _ hv)
    obtain⟨bs,ra⟩:=rs.td.reads I rv
    cases ru
    exact⟨_,.list h1 rfl rfl ra⟩
  ·cases h
 |_=> cases h
end
noncomputable def okD(d:ag):Bool:=d.canLay0&&decide (d.depth <=64)
theorem qw{f:af -> af -> Sem af}{g:D -> D -> S -> R D}(h: ∀(pins:List (Addr×Obj)) (sh:aj) (σ:St) (H:Hp) (as:As) (s:S) (x y:V) (dx dy:D) (v u:af) (Q:VK),Inv X pins σ H sh -> Rel X.K as H s -> RD X.K as H x dx -> RD X.K as H y dy -> RelV x v -> RelV y u ->
  Dn X.K (rD X.K) as H (g dx dy s) Q -> wpAny (model X.prog X.w) X.A (f v u) (EP X pins σ Q) X.xe sh):Op2 X f g:=
 ⟨fun x y H Q=> ∃as s dx dy,Rel X.K as H s/\RD X.K as H x dx/\RD X.K as H y dy/\Dn X.K (rD X.K) as H (g dx dy s) Q,
  fun pins sh σ H x y v u Q I rx ry ⟨as,s,dx,dy,rl,r1,r2,q⟩=> h pins sh σ H as s x y dx dy v u Q I rl r1 r2 rx ry q,
  fun as H s x y dx dy Q rl r1 r2 q=> ⟨as,s,dx,dy,rl,r1,r2,q⟩⟩
def ar9(dx dy:D)(s:S):R D:=match toP s dx,toP s dy with
 |some a,some b=> if okD a=true/\okD b=true then .ok (.bl (aQ a b)) s else .bad
 |_,_=>.bad
def ar4(dx dy:D)(s:S):R D:=match toP s dx,toP s dy with
 |some a,some b=> if okD a=true/\okD b=true then .ok (.bl (!PyData.eqv a b)) s else .bad
 |_,_=>.bad
def gEq(dx dy:D)(s:S):R D:=match dx,dy with
 |.str x,.str y=>.ok (.bl (decide (x=y))) s
 |dx,dy=> ar9 dx dy s
def gNe(dx dy:D)(s:S):R D:=match dx,dy with
 |.str x,.str y=>.ok (.bl (!decide (x=y))) s
 |dx,dy=> ar4 dx dy s
theorem zr(h:okD d=true):d.canLay0=true/\d.depth <=64:=by
 unfold okD at h
 rw [aJ]at h
 exact⟨h.1,of_decide_eq_true h.2⟩
theorem a77(hu:X.A.units+64 < cLine):Op2 X (aY .Eq) ar9:=qw fun pins sh σ H as s x y dx dy v u Q I rl r1 r2 rx ry h=> by
 unfold ar9 at h
 split at h
 ·rename_i a b ea eb
  split at h
  ·rename_i hok
   obtain⟨bs1,q1⟩:=r1.reads I rl ea rx
   obtain⟨bs2,q2⟩:=r2.reads I rl eb ry
   obtain⟨c1,d1⟩:=zr hok.1
   obtain⟨c2,d2⟩:=zr hok.2
   exact SeqAt.compareEq_reads q1 q2 c1 c2 (by lia) ⟨.bl _,H,I,rfl,Dn.now (Q:=Q) h rl (.da (.bl _))⟩
  ·exact h.elim
 ·exact h.elim
theorem a7r(hu:X.A.units+64 < cLine):Op2 X (aY .NotEq) ar4:=qw fun pins sh σ H as s x y dx dy v u Q I rl r1 r2 rx ry h=> by
 unfold ar4 at h
 split at h
 ·rename_i a b ea eb
  split at h
  ·rename_i hok
   obtain⟨bs1,q1⟩:=r1.reads I rl ea rx
   obtain⟨bs2,q2⟩:=r2.reads I rl eb ry
   obtain⟨c1,d1⟩:=zr hok.1
   obtain⟨c2,d2⟩:=zr hok.2
   exact SeqAt.compareNe_reads q1 q2 c1 c2 (by lia) ⟨.bl _,H,I,rfl,Dn.now (Q:=Q) h rl (.da (.bl _))⟩
  ·exact h.elim
 ·exact h.elim
theorem aor(x y:Str):decide (V.str x=V.str y)=decide (x=y):=by
 rw [a9,decide_eq_true_eq,decide_eq_true_eq,V.str.injEq]
theorem adz{x:Str}(h:RD K as H v (.str x)):v=.str x:=by
 cases h with|da t=> cases t;rfl
theorem a8y(hu:X.A.units+64 < cLine):Op2 X (aY .Eq) gEq:=qw fun pins sh σ H as s x y dx dy v u Q I rl r1 r2 rx ry h=> by
 unfold gEq at h
 split at h
 ·cases adz r1;cases adz r2
  exact a7k pins sh σ H _ _ v u Q I rx ry ⟨rfl,by rw [aor];exact Dn.now (Q:=Q) h rl (.da (.bl _))⟩
 ·obtain⟨r,ho,hr⟩:=(a77 (X:=X) hu).ex
  exact ho pins sh σ H x y v u Q I rx ry (hr as H s x y _ _ Q rl r1 r2 h)
theorem a37(hu:X.A.units+64 < cLine):Op2 X (aY .NotEq) gNe:=qw fun pins sh σ H as s x y dx dy v u Q I rl r1 r2 rx ry h=> by
 unfold gNe at h
 split at h
 ·cases adz r1;cases adz r2
  exact a7i pins sh σ H _ _ v u Q I rx ry ⟨rfl,by rw [aor];exact Dn.now (Q:=Q) h rl (.da (.bl _))⟩
 ·obtain⟨r,ho,hr⟩:=(a7r (X:=X) hu).ex
  exact ho pins sh σ H x y v u Q I rx ry (hr as H s x y _ _ Q rl r1 r2 h)
noncomputable def at2:ag -> Option (List ag)
 |.list ds=> some ds
 |.tuple ds=> some ds
 |_=> none
noncomputable def nb(n b:Bool):Bool:=match n with
 |true=> !b
 |false=> b
def axa(neg:Bool)(dx dy:D)(s:S):R D:=match toP s dx,(toP s dy).bind at2 with
 |some a,some ds=> if okD a=true/\ds.all okD=true then .ok (.bl (nb neg (ds.any fun d=> aQ d a))) s else .bad
 |_,_=>.bad
def apt(neg:Bool)(dx dy:D)(s:S):R D:=match dx,dy with
 |.str a,.str b=>.ok (.bl (nb neg (!(eM b a 0 b.length 1).isEmpty))) s
 |dx,dy=> axa neg dx dy s
open Classical in
theorem ayi{sh:aj}{v:af}{bs:List Addr}(ra:fI sh.heap v a bs)(ha:okD a=true)(hu:A.units+64 < cLine){us:List af}{cs:List Addr}(h:gT sh.heap us ds cs)(hd:ds.all okD=true):
  ∃e:af -> Bool,(∀y∈us,lQ A sh y v (e y))/\us.any e=ds.any fun d=> aQ d a:=by
 refine⟨fun y=> decide (∃d cs,fI sh.heap y d cs/\aQ d a=true),?_⟩
 have one: ∀{y:af} {d:ag} {cs:List Addr},fI sh.heap y d cs -> decide (∃d cs,fI sh.heap y d cs/\aQ d a=true)=aQ d a:=fun {y d cs} r=> by
  (rw [a9,decide_eq_true_eq])
  constructor
  ·rintro⟨d',cs',r',e⟩
   obtain⟨q,_⟩:=PyProof.Rows.reads_det (fun _ _ e _=> e) r r'
   subst q;exact e
  ·exact fun e=> ⟨d,cs,r,e⟩
 induction us generalizing ds cs with
 |nil=>
  cases h
  exact⟨fun _ z=> (by cases z),rfl⟩
 | cons u us ih=>
  cases h with
  | cons r rs=>
   rw [dm,aJ]at hd
   obtain⟨i1,i2⟩:=ih rs hd.2
   obtain⟨l1,m1⟩:=zr hd.1
   obtain⟨l2,m2⟩:=zr ha
   refine⟨fun y hy=> ?_,?_⟩
   ·rcases aq.mp hy with z|z
    ·subst z
     show lQ A sh y v (decide (∃d cs,fI sh.heap y d cs/\aQ d a=true))
     rw [one r]
     exact SeqAt.eqAt_reads _ _ A sh _ _ _ _ r ra l1 l2 (by lia)
    ·exact i1 y z
   ·rw [gR,gR,i2,one r]
theorem arw(A:br):A.in1.units <=A.units+1:=by
 show (A.in1).units <=A.units+1
 first|exact ao _|(unfold Around.in1;simp)|simp [Around.in1]
theorem a4n(neg:Bool){op:mO}(hop:(neg=false/\op=.In)\/(neg=true/\op=.NotIn))(hu:X.A.units+65 < cLine):Op2 X (aY op) (axa neg):=qw fun pins sh σ H as s x y dx dy v u Q I rl r1 r2 rx ry h=> by
 unfold axa at h
 split at h
 ·rename_i a ds ea ed
  split at h
  ·rename_i hok
   obtain⟨bs1,q1⟩:=r1.reads I rl ea rx
   cases e2:toP s dy with
   |none=> rw [e2]at ed;cases ed
   | some pd=>
    rw [e2]at ed
    have ed:at2 pd=some ds:=ed
    obtain⟨bs2,q2⟩:=r2.reads I rl e2 ry
    have hin:=arw X.A
    cases q2 with
    | list k1 k2 k3 k4=>
     cases ed
     obtain⟨e,he,ha⟩:=ayi (A:=X.A.in1) q1 hok.1 (by lia) k4 hok.2
     rcases hop with ⟨rfl,rfl⟩|⟨rfl,rfl⟩
     ·refine SeqAt.in_listAt e ⟨_,k1,k2,_,k3⟩ (fun y hy=> he y (by simpa using hy)) ⟨.bl _,H,I,rfl,?_⟩
      rw [←gU,ha]
      exact Dn.now (Q:=Q) h rl (.da (.bl _))
     ·refine SeqAt.notIn_listAt e ⟨_,k1,k2,_,k3⟩ (fun y hy=> he y (by simpa using hy)) ⟨.bl _,H,I,rfl,?_⟩
      rw [←gU,ha]
      exact Dn.now (Q:=Q) h rl (.da (.bl _))
    | tuple k1 k2 k3 k4=>
     cases ed
     obtain⟨e,he,ha⟩:=ayi (A:=X.A.in1) q1 hok.1 (by lia) k4 hok.2
     rcases hop with ⟨rfl,rfl⟩|⟨rfl,rfl⟩
     ·refine SeqAt.in_tupleAt e ⟨_,k1,k2,_,k3⟩ (fun y hy=> he y (by simpa using hy)) ⟨.bl _,H,I,rfl,?_⟩
      rw [←gU,ha]
      exact Dn.now (Q:=Q) h rl (.da (.bl _))
     ·refine SeqAt.notIn_tupleAt e ⟨_,k1,k2,_,k3⟩ (fun y hy=> he y (by simpa using hy)) ⟨.bl _,H,I,rfl,?_⟩
      rw [←gU,ha]
      exact Dn.now (Q:=Q) h rl (.da (.bl _))
    |_=> cases ed
  ·exact h.elim
 ·exact h.elim
theorem ayl(neg:Bool){op:mO}(hop:(neg=false/\op=.In)\/(neg=true/\op=.NotIn))(hu:X.A.units+65 < cLine):Op2 X (aY op) (apt neg):=qw fun pins sh σ H as s x y dx dy v u Q I rl r1 r2 rx ry h=> by
 unfold apt at h
 split at h
 ·rename_i a b
  cases r2.str_inv
  cases r1.str_inv
  rcases hop with ⟨rfl,rfl⟩|⟨rfl,rfl⟩
  ·exact au3 pins sh σ H _ _ v u Q I rx ry ⟨a,b,rfl,rfl,Dn.now (Q:=Q) h rl (.da (.bl _))⟩
  ·exact akx pins sh σ H _ _ v u Q I rx ry ⟨a,b,rfl,rfl,Dn.now (Q:=Q) h rl (.da (.bl _))⟩
 ·obtain⟨r,ho,hr⟩:=(a4n (X:=X) neg hop hu).ex
  exact ho pins sh σ H x y v u Q I rx ry (hr as H s x y _ _ Q rl r1 r2 h)
abbrev gIn:=apt false
abbrev ac3:=apt true
theorem a91(hu:X.A.units+65 < cLine):Op2 X (aY .In) gIn:=ayl false (.inl ⟨rfl,rfl⟩) hu
theorem a0r(hu:X.A.units+65 < cLine):Op2 X (aY .NotIn) ac3:=ayl true (.inr ⟨rfl,rfl⟩) hu
def jr(m:Bool)(dx dy:D)(s:S):R D:=match dx,dy with
 |.int i,.int j=>.ok (.int (i+j)) s
 |.bl b,.int j=>.ok (.int (b01 b+j)) s
 |.str a,.str b=> if a.length+b.length <=sizeLine then .ok (.str (a++b)) s else .bad
 |.tup xs,.tup ys=> if xs.length+ys.length <=sizeLine then .ok (.tup (xs++ys)) s else .bad
 |dx,dy=> match toL s dx,toL s dy with
  |some xs,some ys=> if xs.length+ys.length <=sizeLine then vq m (xs++ys) s else .bad
  |_,_=>.bad
theorem RD.tup_inv(h:RD K as H v (.tup ds)): ∃p xs,v=.ref p/\ ¬as.has p/\H p=some (.tup xs)/\TDs as H xs ds:=by
 cases h with|da t=> cases t with|tup n e r=> exact⟨_,_,rfl,n,e,r⟩
theorem RD.lst_inv(h:RD K as H v (.lst ds)): ∃p xs,v=.ref p/\ ¬as.has p/\H p=some (.lst xs)/\TDs as H xs ds:=by
 cases h with|da t=> cases t with|lst n e r=> exact⟨_,_,rfl,n,e,r⟩
theorem axz(m:Bool):Op2 X (binaryOp .Add) (jr m):=qw fun pins sh σ H as s x y dx dy v u Q I rl r1 r2 rx ry h=> by
 unfold jr at h
 split at h
 ·rename_i i j
  cases r1.int_inv;cases r2.int_inv
  exact ast pins sh σ H _ _ v u Q I rx ry ⟨i,j,rfl,rfl,Dn.now (Q:=Q) h rl (.da (.int _))⟩
 ·rename_i b j
  cases r1.bl_inv;cases r2.int_inv
  exact a17 pins sh σ H _ _ v u Q I rx ry ⟨b01 b,j,rfl,rfl,Dn.now (Q:=Q) h rl (.da (.int _))⟩
 ·rename_i a b
  split at h
  ·rename_i hz
   cases r1.str_inv;cases r2.str_inv
   exact aqc pins sh σ H _ _ v u Q I rx ry ⟨a,b,rfl,rfl,hz,Dn.now (Q:=Q) h rl (.da (.str _))⟩
  ·exact h.elim
 ·rename_i xs ys
  split at h
  ·rename_i hz
   obtain⟨p,vs,rfl,n1,e1,t1⟩:=r1.tup_inv
   obtain⟨q,ws,rfl,n2,e2,t2⟩:=r2.tup_inv
   refine axf pins sh σ H _ _ v u Q I rx ry ⟨p,q,vs,ws,rfl,rfl,SqT.of e1,SqT.of e2,by rw [t1.length,t2.length];exact hz,fun e=> ?_,fun _ e=> ?_,fun _ _ r H' n=> ?_⟩
   ·subst e
    cases t1
    exact Dn.now (Q:=Q) h rl (.da (.tup n2 e2 t2))
   ·subst e
    cases t2
    rw [cq]at h
    exact Dn.now (Q:=Q) h rl (.da (.tup n1 e1 t1))
   ·exact h (.ref r) as H' (j4 n) (rl.new n) (.da (.tup (fun z=> rl.has z n.no) n.at ((t1.append t2).mono (j4 n))))
  ·exact h.elim
 ·split at h
  ·rename_i xs ys e1 e2
   split at h
   ·rename_i hz
    obtain⟨p,vs,rfl,h1,t1⟩:=ab0 rl r1 e1
    obtain⟨q,ws,rfl,h2,t2⟩:=ab0 rl r2 e2
    exact a0l pins sh σ H _ _ v u Q I rx ry ⟨p,q,vs,ws,rfl,rfl,h1,h2,by rw [t1.length,t2.length];exact hz,fun r H' n=> aah h rl (t1.append t2) n⟩
   ·exact h.elim
  ·exact h.elim
def v9(dx dy:D)(s:S):R D:=match dx,dy with
 |.int i,.int j=>.ok (.int (i - j)) s
 |.bl b,.int j=>.ok (.int (b01 b - j)) s
 |.int i,.bl b=>.ok (.int (i - b01 b)) s
 |_,_=>.bad
theorem a61:Op2 X (binaryOp .Sub) v9:=qw fun pins sh σ H as s x y dx dy v u Q I rl r1 r2 rx ry h=> by
 unfold v9 at h
 split at h
 ·rename_i i j
  cases r1.int_inv;cases r2.int_inv
  exact alh pins sh σ H _ _ v u Q I rx ry ⟨i,j,rfl,rfl,Dn.now (Q:=Q) h rl (.da (.int _))⟩
 ·rename_i b j
  cases r1.bl_inv;cases r2.int_inv
  exact a1d pins sh σ H _ _ v u Q I rx ry ⟨b01 b,j,rfl,rfl,Dn.now (Q:=Q) h rl (.da (.int _))⟩
 ·rename_i i b
  cases r1.int_inv;cases r2.bl_inv
  exact a0q pins sh σ H _ _ v u Q I rx ry ⟨i,b01 b,rfl,rfl,Dn.now (Q:=Q) h rl (.da (.int _))⟩
 ·exact h.elim
instance (i j:Int):Decidable (aij i j):=by unfold aij;infer_instance
instance (i j:Int):Decidable (apx i j):=by unfold apx;infer_instance
instance (i j:Int):Decidable (aqv i j):=by unfold aqv;infer_instance
noncomputable def gI2(C:Int -> Int -> Prop)[∀i j,Decidable (C i j)](f:Int -> Int -> Int)(dx dy:D)(s:S):R D:=match dx,dy with
 |.int i,.int j=> if C i j then .ok (.int (f i j)) s else .bad
 |_,_=>.bad
theorem akk{op:lS}{C:Int -> Int -> Prop}[∀i j,Decidable (C i j)]{f:Int -> Int -> Int}(o:OpR X (binaryOp op) (rI C fun i j=>.int (f i j))):Op2 X (binaryOp op) (gI2 C f):=qw fun pins sh σ H as s x y dx dy v u Q I rl r1 r2 rx ry h=> by
 unfold gI2 at h
 split at h
 ·rename_i i j
  split at h
  ·rename_i hc
   cases r1.int_inv;cases r2.int_inv
   exact o pins sh σ H _ _ v u Q I rx ry ⟨i,j,rfl,rfl,hc,Dn.now (Q:=Q) h rl (.da (.int _))⟩
  ·exact h.elim
 ·exact h.elim
def aao:D -> D -> S -> R D:=gI2 aij fun i j=> i*j
def af1:D -> D -> S -> R D:=gI2 apx fun i j=> i/j
def aaj:D -> D -> S -> R D:=gI2 (fun _ j=> 0 < j) fun i j=> i % j
def aqn:D -> D -> S -> R D:=gI2 aqv fun i j=> i^j.toNat
theorem ayw:Op2 X (binaryOp .Mult) aao:=akk a2v
theorem a78:Op2 X (binaryOp .FloorDiv) af1:=akk a20
theorem a75:Op2 X (binaryOp .Mod) aaj:=akk a3n
theorem a6n:Op2 X (binaryOp .Pow) aqn:=akk a39
noncomputable def gC2(f:Int -> Int -> Bool)(dx dy:D)(s:S):R D:=match dx,dy with
 |.int i,.int j=>.ok (.bl (f i j)) s
 |_,_=>.bad
theorem aq0{op:mO}{f:Int -> Int -> Bool}(o:OpR X (aY op) (rI0 fun i j=>.bl (f i j))):Op2 X (aY op) (gC2 f):=qw fun pins sh σ H as s x y dx dy v u Q I rl r1 r2 rx ry h=> by
 unfold gC2 at h
 split at h
 ·rename_i i j
  cases r1.int_inv;cases r2.int_inv
  exact o pins sh σ H _ _ v u Q I rx ry ⟨i,j,rfl,rfl,Dn.now (Q:=Q) h rl (.da (.bl _))⟩
 ·exact h.elim
def gLe:D -> D -> S -> R D:=gC2 fun i j=> decide (i <=j)
def gGt:D -> D -> S -> R D:=gC2 fun i j=> decide (j < i)
def gGe:D -> D -> S -> R D:=gC2 fun i j=> decide (j <=i)
noncomputable def gLt(dx dy:D)(s:S):R D:=match dx,dy with
 |.int i,.int j=>.ok (.bl (decide (i < j))) s
 |.str a,.str b=>.ok (.bl (decide (a.cps.toList < b.cps.toList))) s
 |_,_=>.bad
theorem a9i:Op2 X (aY .LtE) gLe:=aq0 a5z
theorem a89:Op2 X (aY .Gt) gGt:=aq0 a76
theorem a35:Op2 X (aY .GtE) gGe:=aq0 a7g
theorem a8w:Op2 X (aY .Lt) gLt:=qw fun pins sh σ H as s x y dx dy v u Q I rl r1 r2 rx ry h=> by
 unfold gLt at h
 split at h
 ·rename_i i j
  cases r1.int_inv;cases r2.int_inv
  exact a73 pins sh σ H _ _ v u Q I rx ry ⟨i,j,rfl,rfl,Dn.now (Q:=Q) h rl (.da (.bl _))⟩
 ·rename_i a b
  cases r1.str_inv;cases r2.str_inv
  exact aub pins sh σ H _ _ v u Q I rx ry ⟨a,b,rfl,rfl,Dn.now (Q:=Q) h rl (.da (.bl _))⟩
 ·exact h.elim
noncomputable def isN:D -> Bool
 |.non=> true
 |_=> false
theorem ayh{d:D}(r:RD K as H v d):decide (v=.non)=isN d:=by
 cases r with
 |da t=> cases t <;> rfl
 |_=> rfl
def gIs(dx dy:D)(s:S):R D:=match dy with
 |.non=>.ok (.bl (isN dx)) s
 |_=>.bad
def af6(dx dy:D)(s:S):R D:=match dy with
 |.non=>.ok (.bl (!isN dx)) s
 |_=>.bad
theorem RD.non_inv(h:RD K as H v .non):v=.non:=by
 cases h with|da t=> cases t;rfl
theorem a8h:Op2 X (aY .Is) gIs:=qw fun pins sh σ H as s x y dx dy v u Q I rl r1 r2 rx ry h=> by
 unfold gIs at h
 split at h
 ·cases r2.non_inv
  refine a3v pins sh σ H _ _ v u Q I rx ry ⟨rfl,?_⟩
  rw [ayh r1]
  exact Dn.now (Q:=Q) h rl (.da (.bl _))
 ·exact h.elim
theorem a26:Op2 X (aY .IsNot) af6:=qw fun pins sh σ H as s x y dx dy v u Q I rl r1 r2 rx ry h=> by
 unfold af6 at h
 split at h
 ·cases r2.non_inv
  refine azb pins sh σ H _ _ v u Q I rx ry ⟨rfl,?_⟩
  rw [ayh r1]
  exact Dn.now (Q:=Q) h rl (.da (.bl _))
 ·exact h.elim
def amb(f:FE):FE:=fun ρ s=> (f ρ s).bind fun d s1=> match d with
 |.int i=>.ok (.int (-i)) s1
 |_=>.bad
theorem bbl{a:Expr}(h:RE X a fa):RE X (.UnaryOp .USub a pos) (amb fa):=by
 obtain⟨t,p,r⟩:=h.ex
 refine⟨_,a6g a3h p,fun as σ H ρ s Q rl en h=> ?_⟩
 refine r as σ H ρ s _ rl en (Dn.bind h fun d s1 as1 H1 v st1 rl1 r1 h1=> ?_)
 split at h1
 ·cases r1.int_inv
  exact⟨_,rfl,Dn.now (Q:=Q) h1 rl1 (.da (.int _))⟩
 ·exact h1.elim
end PF
namespace PF
open PySem PySem.Spec
open L2
variable[XW]
noncomputable def adw(s:S):D -> Option (List D)
 |.lst ds=> some (ds.map D.da)
 |.tup ds=> some (ds.map D.da)
 |.con ds=> some (ds.map D.da)
 |.frz ds=> some (ds.map D.da)
 |.ref n=> match s[n]? with
  |some (.lst ds)=> some ds
  |_=> none
 |_=> none
theorem acy{d:D}{ds:List D}(rl:Rel K as H s)(r:RD K as H v d)(h:adw s d=some ds): ∃p xs,v=.ref p/\(SqL K H p xs\/SqT K H p xs)/\RDs K as H xs ds:=by
 cases r with
 |da t=>
  cases t with
  |lst n e q=> cases h;exact⟨_,_,rfl,.inl (SqL.of e),q.rd⟩
  |tup n e q=> cases h;exact⟨_,_,rfl,.inr (SqT.of e),q.rd⟩
  |_=> cases h
 |con q r=> cases h;exact⟨_,_,rfl,.inr (q H),r.rd⟩
 |frz q r=> cases h;exact⟨_,_,rfl,.inl (q as H (Step.refl _ _).toStep0),r.rd⟩
 | @ref p n l hr=>
  have h:(match s[n]? with|some (O.lst ds)=> some ds|_=> none)=some ds:=h
  split at h
  ·rename_i ys e
   cases h
   obtain⟨_,xs,hx,rs⟩:=yj rl hr e
   exact⟨p,xs,rfl,.inl (SqL.of hx),rs⟩
  ·cases h
 |_=> cases h
theorem RDs.atI{xs:List V}{ds:List D}{d:D}(r:RDs K as H xs ds)(h:atI ds i=some d): ∃v,atI xs i=some v/\RD K as H v d:=by
 unfold L2.atI at h⊢
 rw [r.length]
 cases q:ixN ds.length i with
 |none=> rw [q]at h;cases h
 |some j=>
  rw [q]at h
  obtain⟨v,hv,rv⟩:=r.get (show ds[j]?=some d from h)
  exact⟨v,hv,rv⟩
def gIx(dx dy:D)(s:S):R D:=match dx,dy with
 | .str z,.int i=> if z.length <=sizeLine then match atI z.cps.toList i with
   |some c=>.ok (.str ⟨#[c]⟩) s
   |none=>.bad
  else .bad
 | dx,.int i=> match adw s dx with
  |some ds=> match atI ds i with
   |some d=>.ok d s
   |none=>.bad
  |none=>.bad
 |_,_=>.bad
theorem a4b:alp K (rIx K) gIx:=by
 intro as H s x y dx dy Q rl r1 r2 h
 unfold gIx at h
 split at h
 ·rename_i z i
  cases r1.str_inv;cases r2.int_inv
  split at h
  ·rename_i hz
   split at h
   ·rename_i c e
    exact .inr (.inr ⟨z,i,c,rfl,rfl,hz,e,Dn.now (Q:=Q) h rl (.da (.str _))⟩)
   ·exact h.elim
  ·exact h.elim
 ·rename_i i _
  cases r2.int_inv
  split at h
  ·rename_i ds e
   split at h
   ·rename_i d e2
    obtain⟨p,xs,rfl,sq,rs⟩:=acy rl r1 e
    obtain⟨v,hv,rv⟩:=rs.atI e2
    rcases sq with sq|sq
    ·exact .inl ⟨p,xs,i,v,rfl,rfl,sq,hv,Dn.now (Q:=Q) h rl rv⟩
    ·exact .inr (.inl ⟨p,xs,i,v,rfl,rfl,sq,hv,Dn.now (Q:=Q) h rl rv⟩)
   ·exact h.elim
  ·exact h.elim
 ·exact h.elim
theorem a6p{a b:Expr}{fb:FE}(ha:RE X a fa)(hb:RE X b fb)(hs:ao8 b:=by exact fun _ _=> rfl):RE X (.Subscript a b pos) (fOp gIx fa fb):=by
 obtain⟨ta,pa,ra⟩:=ha.ex
 obtain⟨tb,pb,rb⟩:=hb.ex
 exact⟨_,a67 a27 pa pb hs,ahi a4b ra rb⟩
def vb{α:Type}(xs:List α)(lo hi:Option Int):List α:=(xs.drop (HT.sIx xs.length 0 lo)).take (HT.sIx xs.length xs.length hi - HT.sIx xs.length 0 lo)
theorem RDs.cut{xs:List V}{ds:List D}(r:RDs K as H xs ds)(lo hi:Option Int):RDs K as H (zh xs lo hi) (vb ds lo hi):=by
 unfold zh vb
 rw [r.length]
 exact (r.drop _).take _
theorem TDs.cut{xs:List V}(r:TDs as H xs ds)(lo hi:Option Int):TDs as H (zh xs lo hi) (vb ds lo hi):=by
 unfold zh vb
 rw [r.length]
 exact (r.drop _).take _
noncomputable def af3(z:Str)(lo hi:Option Int):Str:=if ((di lo hi 1 z.length).length==z.length)=true then z else ⟨((di lo hi 1 z.length).filterMap (z.cps[·]?)).toArray⟩
def a8d:V -> Option Int -> Option Int -> Hp -> VK -> Prop:=fun x lo hi H Q=> ∃z,x=.str z/\z.length <=sizeLine/\Q (.str (af3 z lo hi)) H
theorem aze:SlR X a8d:=by
 intro pins s σ H x v vl vu lo hi sl Q I rx hs pl pu h
 obtain⟨z,rfl,hz,q⟩:=h
 obtain⟨t,rfl⟩:=rx
 obtain⟨l,rfl,el⟩:=part_of pl
 obtain⟨u,rfl,eu⟩:=part_of pu
 refine⟨"str",_,PySem.F.slot_str_getitem.lookup,rfl,?_⟩
 have hs':s.heap.IsSlice sl l u none:=by
  obtain⟨o,ho,hc,hd⟩:=hs
  exact⟨o,ho,hc,hd⟩
 refine wpAny_getItem_str_slice hs' rfl ?_
 have ep:gL z l u none=di lo hi 1 z.length:=by
  unfold gL
  rw [el,eu];rfl
 have hlen:(gL z l u none).length <=z.length:=sliceIndices_le _ _ _
 have hfl:((gL z l u none).filterMap (z.cps[·]?)).length <=z.length:=ax (kC _ _) hlen
 unfold af3 at q
 rw [←ep]at q
 unfold sliceMade
 split
 ·rename_i c
  rw [if_pos (by simpa using c)]at q
  exact⟨.str z,H,I,⟨t,rfl⟩,q⟩
 ·rename_i c
  rw [if_neg (by simpa using c)]at q
  have len:(⟨((gL z l u none).filterMap (z.cps[·]?)).toArray⟩:Str).length <=z.length:=by
   show (((gL z l u none).filterMap (z.cps[·]?)).toArray).size <=z.length
   rw [az];exact hfl
  exact⟨ax len hz,.str _,H,I.tok _,⟨_,rfl⟩,q⟩
def gSl(m:Bool)(d:D)(lo hi:Option Int)(s:S):R D:=match d with
 |.str z=> if z.length <=sizeLine then .ok (.str (af3 z lo hi)) s else .bad
 |.tup ds=>.ok (.tup (vb ds lo hi)) s
 |.frz ds=> vq m (vb (ds.map D.da) lo hi) s
 |d=> match toL s d with
  |some ds=> vq m (vb ds lo hi) s
  |none=>.bad
abbrev FO:=En -> S -> R (Option Int)
noncomputable def fNo:FO:=fun _ s=>.ok none s
def kh(f:FE):FO:=fun ρ s=> (f ρ s).bind fun d s1=> match d with
 |.int i=>.ok (some i) s1
 |_=>.bad
def a9l(K:ak)(t:TO)(f:FO):Prop:= ∀as σ H ρ s Q,Rel K as H s -> Envs K as H ρ σ -> Dn K (fun _ _ (b a:Option Int)=> b=a) as H (f ρ s) Q -> t σ H Q
structure ROp (X:Cx) (e:Option Expr) (f:FO):Prop where
 ex: ∃t,PO X e t/\a9l X.K t f
theorem a9n:ROp X none fNo:=⟨_,a07,fun as σ H ρ s Q rl en h=> Dn.now (Q:=Q) h rl rfl⟩
theorem a9q{a:Expr}(h:RE X a fa):ROp X (some a) (kh fa):=by
 obtain⟨t,p,r⟩:=h.ex
 refine⟨_,a1e p,fun as σ H ρ s Q rl en h=> ?_⟩
 refine r as σ H ρ s _ rl en (Dn.bind h fun d s1 as1 H1 v st1 rl1 r1 h1=> ?_)
 split at h1
 ·cases r1.int_inv
  exact⟨_,rfl,Dn.now (Q:=Q) h1 rl1 rfl⟩
 ·exact h1.elim
def fSl(m:Bool)(f:FE)(lo hi:FO):FE:=fun ρ s=> (f ρ s).bind fun d s1=> (lo ρ s1).bind fun l s2=> (hi ρ s2).bind fun u s3=> gSl m d l u s3
theorem a8c(m:Bool){a:Expr}{lo hi:Option Expr}{fl fu:FO}{p2:Pos}(ha:RE X a fa)(hl:ROp X lo fl)(hu:ROp X hi fu):RE X (.Subscript a (.Slice lo hi none p2) pos) (fSl m fa fl fu):=by
 obtain⟨ta,pa,ra⟩:=ha.ex
 obtain⟨tl,pl,rl'⟩:=hl.ex
 obtain⟨tu,pu,ru⟩:=hu.ex
 refine⟨_,aum (aze.or (azu.or awx)) pa pl pu,fun as σ H ρ s Q rl en h=> ?_⟩
 refine ra as σ H ρ s _ rl en (Dn.bind h fun d s1 as1 H1 v st1 rl1 r1 h1=> ?_)
 refine rl' as1 σ H1 ρ s1 _ rl1 (en.mono st1) (Dn.bind h1 fun l s2 as2 H2 l' st2 rl2 e2 h2=> ?_)
 have e2:l'=l:=e2
 subst e2
 refine ru as2 σ H2 ρ s2 _ rl2 ((en.mono st1).mono st2) (Dn.bind h2 fun u s3 as3 H3 u' st3 rl3 e3 h3=> ?_)
 have e3:u'=u:=e3
 subst e3
 have r1:=(r1.mono st2).mono st3
 unfold gSl at h3
 split at h3
 ·cases r1.str_inv
  split at h3
  ·rename_i hz
   exact .inl ⟨_,rfl,hz,Dn.now (Q:=Q) h3 rl3 (.da (.str _))⟩
  ·exact h3.elim
 ·obtain⟨p,xs,rfl,n,e,t⟩:=r1.tup_inv
  refine .inr (.inl ⟨p,xs,rfl,SqT.of e,fun c=> ?_,fun q H' nw=> ?_⟩)
  ·have t2:=t.cut l' u'
   rw [c]at t2
   exact Dn.now (Q:=Q) h3 rl3 (.da (.tup n e t2))
  ·exact h3 (.ref q) as3 H' (j4 nw) (rl3.new nw) (.da (.tup (fun z=> rl3.has z nw.no) nw.at ((t.cut l' u').mono (j4 nw))))
 ·cases r1 with
  |frz q t=> exact .inr (.inr ⟨_,_,rfl,q as3 H3 (Step.refl _ _).toStep0,fun r H' nw=> aah h3 rl3 (t.rd.cut l' u') nw⟩)
 ·split at h3
  ·rename_i ds e
   obtain⟨p,xs,rfl,hx,rs⟩:=ab0 rl3 r1 e
   exact .inr (.inr ⟨p,xs,rfl,SqL.of hx,fun r H' nw=> aah h3 rl3 (rs.cut l' u') nw⟩)
  ·exact h3.elim
def awd(fa fs:FE):FE:=fun ρ s=> (fa ρ s).bind fun d s1=> (fs ρ s1).bind fun k s2=> match d,k with
 |.tup ds,.int (-1)=>.ok (.tup ds.reverse) s2
 |_,_=>.bad
theorem bb3{a st:Expr}{fs:FE}{p2:Pos}(ha:RE X a fa)(hs:RE X st fs):RE X (.Subscript a (.Slice none none (some st) p2) pos) (awd fa fs):=by
 obtain⟨ta,pa,ra⟩:=ha.ex
 obtain⟨tb,pb,rb⟩:=hs.ex
 refine⟨_,a5b pa pb,fun as σ H ρ s Q rl en h=> ?_⟩
 refine ra as σ H ρ s _ rl en (Dn.bind h fun d s1 as1 H1 v st1 rl1 r1 h1=> ?_)
 refine rb as1 σ H1 ρ s1 _ rl1 (en.mono st1) (Dn.bind h1 fun k s2 as2 H2 w st2 rl2 r2 h2=> ?_)
 split at h2
 ·obtain⟨p,xs,rfl,n,e,t⟩:=(r1.mono st2).tup_inv
  cases r2.int_inv
  refine⟨p,xs,rfl,rfl,SqT.of e,fun q H' nw=> ?_⟩
  exact h2 (.ref q) as2 H' (j4 nw) (rl2.new nw) (.da (.tup (fun z=> rl2.has z nw.no) nw.at (t.reverse.mono (j4 nw))))
 ·exact h2.elim
def apu(d:D)(s:S):R Bool:=match d with
 |.non=>.ok false s
 |.bl b=>.ok b s
 |.int i=>.ok (i !=0) s
 |.str z=> if z.length <=sizeLine then .ok ((z.length:Int) !=0) s else .bad
 |d=> match adw s d with
  |some ds=>.ok (!ds.isEmpty) s
  |none=>.bad
def j3(f:FE):FT:=fun ρ s=> (f ρ s).bind apu
theorem RDs.empty{xs:List V}{ds:List D}(r:RDs K as H xs ds):xs.isEmpty=ds.isEmpty:=by cases r <;> rfl
theorem aa9{a:Expr}(h:RE X a fa)(he: ∀whole,isTrue a X.env whole=(do let v←whole;standAt a.pos;holding [v] (truthy v)):=by exact fun _=> rfl):RT X a (j3 fa):=by
 obtain⟨t,p,r⟩:=h.ex
 refine⟨_,axk p he,fun as σ H ρ s Q rl en h=> ?_⟩
 refine r as σ H ρ s _ rl en (Dn.bind h fun d s1 as1 H1 v st1 rl1 r1 h1=> ?_)
 unfold apu at h1
 split at h1
 ·cases r1.non_inv;exact⟨false,rfl,Dn.now (Q:=Q) h1 rl1 rfl⟩
 ·cases r1.bl_inv;exact⟨_,rfl,Dn.now (Q:=Q) h1 rl1 rfl⟩
 ·cases r1.int_inv;exact⟨_,rfl,Dn.now (Q:=Q) h1 rl1 rfl⟩
 ·cases r1.str_inv
  split at h1
  ·rename_i hz
   exact⟨_,⟨hz,rfl⟩,Dn.now (Q:=Q) h1 rl1 rfl⟩
  ·exact h1.elim
 ·split at h1
  ·rename_i ds e
   obtain⟨p,xs,rfl,sq,rs⟩:=acy rl1 r1 e
   refine⟨!xs.isEmpty,?_,?_⟩
   ·rcases sq with sq|sq
    ·exact .inl ⟨xs,sq,rfl⟩
    ·exact .inr (.inl ⟨xs,sq,rfl⟩)
   ·rw [rs.empty];exact Dn.now (Q:=Q) h1 rl1 rfl
  ·exact h1.elim
structure CB (X:Cx) (f:af) (g:FF):Prop where
 ex: ∃r,ve X f r/\ ∀as H s xs ds Q,Rel X.K as H s -> RDs X.K as H xs ds -> Dn X.K (rD X.K) as H (g ds s) Q -> r xs H Q
theorem z9{f:af}{g:FF}(h: ∀(pins:List (Addr×Obj)) (sh:aj) (σ:St) (H:Hp) (as:As) (s:S) (xs:List V) (ds:List D) (us:List af) (Q:VK),Inv X pins σ H sh -> Rel X.K as H s -> RDs X.K as H xs ds -> jo xs us ->
  Dn X.K (rD X.K) as H (g ds s) Q -> wpAny (model X.prog X.w) X.A (call f us) (EP X pins σ Q) X.xe sh):CB X f g:=
 ⟨fun xs H Q=> ∃as s ds,Rel X.K as H s/\RDs X.K as H xs ds/\Dn X.K (rD X.K) as H (g ds s) Q,fun pins sh σ H xs us Q I r ⟨as,s,ds,rl,rs,q⟩=> h pins sh σ H as s xs ds us Q I rl rs r q,fun as H s xs ds Q rl rs q=> ⟨as,s,ds,rl,rs,q⟩⟩
def fCB(g:FF)(f:FA):FE:=fun ρ s=> (f ρ s).bind g
section
variable{x:Str}{id:String}{g:FF}{f:FA}{e:Expr}{es:List Expr}{p pos:Pos}
theorem asm{r:List V -> Hp -> VK -> Prop}{t:TA}(hr: ∀as H s xs ds Q,Rel K as H s -> RDs K as H xs ds -> Dn K (rD K) as H (g ds s) Q -> r xs H Q)(h:a5m K t f):aac K (tCB r t) (fCB g f):=by
 intro as σ H ρ s Q rl en q
 exact h as σ H ρ s _ rl en (Dn.bind q fun ds s1 as1 H1 vs st1 rl1 r1 h1=> hr as1 H1 s1 vs ds Q rl1 r1 h1)
theorem yq(c:CB X (.builtin id) g)(hm:X.mg x=none)(hv:bt x=some (.builtin id))(ha:RA X (e::es) f)(hg:Gl X x:=by rfl)(hn:x≠"__name__":=by decide)(hdb:(x==("__debug__":Str))=false:=by decide)
  (hs:starEach (e::es) X.env=(false,eval e X.env)::starEach es X.env:=by rfl) (hpl:(backTo pos (starEach es X.env)).any (·.1)=false:=by rfl):RE X (.Call (.Name x p) (e::es) [] pos) (fCB g f):=by
 obtain⟨r,hc,hr⟩:=c.ex
 obtain⟨t,pa,ra⟩:=ha.ex
 exact⟨_,adq hc hg hm hv pa hn hdb hs hpl,asm hr ra⟩
theorem akj(c:CB X (.type id) g)(hm:X.mg x=none)(hv:bt x=some (.type id))(ha:RA X (e::es) f)(hg:Gl X x:=by rfl)(hn:x≠"__name__":=by decide)(hdb:(x==("__debug__":Str))=false:=by decide)
  (hs:starEach (e::es) X.env=(false,eval e X.env)::starEach es X.env:=by rfl) (hpl:(backTo pos (starEach es X.env)).any (·.1)=false:=by rfl):RE X (.Call (.Name x p) (e::es) [] pos) (fCB g f):=by
 obtain⟨r,hc,hr⟩:=c.ex
 obtain⟨t,pa,ra⟩:=ha.ex
 exact⟨_,aep hc hg hm hv pa hn hdb hs hpl,asm hr ra⟩
end
def jv(ds:List D)(s:S):R D:=match ds with
 |[.str z]=> if z.length <=sizeLine then .ok (.int z.length) s else .bad
 |[d]=> match adw s d with
  |some xs=>.ok (.int xs.length) s
  |none=>.bad
 |_=>.bad
theorem aq6:CB X (.builtin "len") jv:=z9 fun pins sh σ H as s xs ds us Q I rl rs ru h=> by
 unfold jv at h
 split at h
 ·obtain⟨v,rfl,rv⟩:=rs.one
  cases rv.str_inv
  split at h
  ·rename_i hz
   exact alt pins sh σ H _ us Q I ru ⟨_,rfl,hz,Dn.now (Q:=Q) h rl (.da (.int _))⟩
  ·exact h.elim
 ·obtain⟨v,rfl,rv⟩:=rs.one
  split at h
  ·rename_i ys e
   obtain⟨p,zs,rfl,sq,rz⟩:=acy rl rv e
   refine alq pins sh σ H _ us Q I ru ⟨p,zs,rfl,sq,?_⟩
   rw [rz.length]
   exact Dn.now (Q:=Q) h rl (.da (.int _))
  ·exact h.elim
 ·exact h.elim
noncomputable def agn(ds:List D)(s:S):R D:=match ds with
 |[.int i,.int j]=>.ok (.int (if j < i then j else i)) s
 |_=>.bad
noncomputable def aif(ds:List D)(s:S):R D:=match ds with
 |[.int i,.int j]=>.ok (.int (if j > i then j else i)) s
 |_=>.bad
theorem a7q(hc:X.calm=true):CB X (.builtin "min") agn:=z9 fun pins sh σ H as s xs ds us Q I rl rs ru h=> by
 unfold agn at h
 split at h
 ·obtain⟨v,w,rfl,rv,rw⟩:=rs.two
  cases rv.int_inv;cases rw.int_inv
  exact arn hc pins sh σ H _ us Q I ru ⟨_,_,rfl,Dn.now (Q:=Q) h rl (.da (.int _))⟩
 ·exact h.elim
theorem a7s(hc:X.calm=true):CB X (.builtin "max") aif:=z9 fun pins sh σ H as s xs ds us Q I rl rs ru h=> by
 unfold aif at h
 split at h
 ·obtain⟨v,w,rfl,rv,rw⟩:=rs.two
  cases rv.int_inv;cases rw.int_inv
  exact atg hc pins sh σ H _ us Q I ru ⟨_,_,rfl,Dn.now (Q:=Q) h rl (.da (.int _))⟩
 ·exact h.elim
def abj(m:Bool)(ds:List D)(s:S):R D:=match ds with
 |[d]=> match adw s d with
  |some xs=> vq m xs s
  |none=>.bad
 |_=>.bad
theorem arq(m:Bool):CB X (.type "list") (abj m):=z9 fun pins sh σ H as s xs ds us Q I rl rs ru h=> by
 unfold abj at h
 split at h
 ·obtain⟨v,rfl,rv⟩:=rs.one
  split at h
  ·rename_i ys e
   obtain⟨p,zs,rfl,sq,rz⟩:=acy rl rv e
   exact aqa pins sh σ H _ us Q I ru ⟨p,zs,rfl,sq,fun r H' nw=> aah h rl rz nw⟩
  ·exact h.elim
 ·exact h.elim
def vf(ds:List D)(s:S):R D:=match ds with
 |[.tup xs]=>.ok (.tup xs) s
 |[.frz xs]=>.ok (.tup xs) s
 |[d]=> match toL s d with
  |some xs=> agl xs s
  |none=>.bad
 |_=>.bad
theorem a09:CB X (.type "tuple") vf:=z9 fun pins sh σ H as s xs ds us Q I rl rs ru h=> by
 unfold vf at h
 split at h
 ·obtain⟨v,rfl,rv⟩:=rs.one
  obtain⟨p,zs,rfl,n,e,t⟩:=rv.tup_inv
  exact aco pins sh σ H _ us Q I ru ⟨p,zs,rfl,.inr ⟨SqT.of e,Dn.now (Q:=Q) h rl (.da (.tup n e t))⟩⟩
 ·obtain⟨v,rfl,rv⟩:=rs.one
  cases rv with
  |frz q t=> exact aco pins sh σ H _ us Q I ru ⟨_,_,rfl,.inl ⟨q as H (Step.refl _ _).toStep0,fun r H' nw=> h (.ref r) as H' (j4 nw) (rl.new nw) (.da (.tup (fun z=> rl.has z nw.no) nw.at (t.mono (j4 nw))))⟩⟩
 ·obtain⟨v,rfl,rv⟩:=rs.one
  split at h
  ·rename_i ys e
   obtain⟨p,zs,rfl,hx,rz⟩:=ab0 rl rv e
   exact aco pins sh σ H _ us Q I ru ⟨p,zs,rfl,.inl ⟨SqL.of hx,fun r H' nw=> aow h rl rz nw⟩⟩
  ·exact h.elim
 ·exact h.elim
def qd (ds:List D) (s:S):R D:=match ds with
 | [d,.ty n]=> if n="str"\/n="int"\/n="bool"\/n="tuple"\/n="list" then match d with
   |.da d=>.ok (.bl (kn d n)) s
   |.ref k=> match s[k]? with
    |some (.lst _)=>.ok (.bl (n=="list")) s
    |_=>.bad
   |_=>.bad
  else .bad
 |_=>.bad
theorem TD.ty(t:TD as H v d):TyOf K H v (.type (tyD d)):=by
 cases t with
 |non=> exact .non
 |bl b=> exact .bl b
 |int i=> exact .int i
 |str x=> exact .str x
 |tup n e w=> exact .tup e
 |lst n e w=> exact .lst e
 |dct n e=> exact .dK e
 |dc1 n e q=> exact .dK e
theorem apg:CB X (.builtin "isinstance") qd:=z9 fun pins sh σ H as s xs ds us Q I rl rs ru h=> by
 unfold qd at h
 split at h
 ·rename_i d n
  obtain⟨v,w,rfl,rv,rw⟩:=rs.two
  obtain⟨u,u2,rfl,ru1,ru2⟩:=vals2 ru
  cases rw
  cases (show u2=cU n from ru2)
  split at h
  ·rename_i hn
   split at h
   ·rename_i d
    cases rv with
    |da t=> exact aj7 I ru1 t.ty (arf X.K d n hn) fun tk=> ⟨.bl _,H,I.tok _,rfl,Dn.now (Q:=Q) h rl (.da (.bl _))⟩
   ·rename_i k
    split at h
    ·rename_i ys e
     cases rv with
     |ref l hr=>
      obtain⟨_,zs,hz,_⟩:=yj rl hr e
      exact aj7 I ru1 (.lst hz) (arf X.K (.list []) n hn) fun tk=> ⟨.bl _,H,I.tok _,rfl,Dn.now (Q:=Q) h rl (.da (.bl _))⟩
    ·exact h.elim
   ·exact h.elim
  ·exact h.elim
 ·exact h.elim
end PF
namespace PF
open PySem PySem.Spec
open L2
variable[XW]
abbrev GM:=D -> List D -> S -> R D
def fMt(g:GM)(fo:FE)(fa:FA):FE:=fun ρ s=> (fo ρ s).bind fun d s1=> if (toL s1 d).isSome=true then (fa ρ s1).bind fun ds s2=> g d ds s2 else .bad
structure MB (X:Cx) (id:String) (g:GM):Prop where
 ex: ∃r,MtR X id r/\ ∀as H s x xs d ds Q,Rel X.K as H s -> RD X.K as H x d -> RDs X.K as H xs ds -> Dn X.K (rD X.K) as H (g d ds s) Q -> r x xs H Q
theorem a0i{d:D}(rl:Rel K as H s)(r:RD K as H v d)(h:(toL s d).isSome=true):tyV K "list" v H:=by
 cases e:toL s d with
 |none=> rw [e]at h;cases h
 |some ds=>
  obtain⟨p,xs,rfl,hx,_⟩:=ab0 rl r e
  exact .inl ⟨rfl,xs,SqL.of hx⟩
theorem ayr{o:Expr}{fa:FA}{name:Str}{id:String}{g:GM}{apos cpos:Pos}(slot:Slot "list" name id)(hty:typeOf (.builtin id)=pure (.type "method_descriptor"))(hm:MB X id g)(ho:RE X o fo)(ha:RA X (e::es) fa)(hbase:gQ o name X.env (eval o X.env)=eval o X.env:=by rfl)(hfew:((backTo cpos (starEach (e::es) X.env)).all (fun x=> !x.1)&&(backToKw cpos (gI [] X.env)).all (fun x=> x.1.isSome)
   &&decide ((e::es).length+([]:List Keyword).length+(if ([]:List Keyword).isEmpty then 0 else 1) < 30))=true:=by rfl) (hline:(apos.endLine==cpos.line)=true:=by rfl) (hs:starEach (e::es) X.env=(false,eval e X.env)::starEach es X.env:=by rfl) (hplain:(backTo cpos (starEach es X.env)).any (·.1)=false:=by rfl):
  RE X (.Call (.Attribute o name apos) (e::es) [] cpos) (fMt g fo fa):=by
 obtain⟨r,hr,hg⟩:=hm.ex
 obtain⟨to,po,ro⟩:=ho.ex
 obtain⟨ta,pa,ra⟩:=ha.ex
 refine⟨_,a6w PySem.F.plainAttrs_list slot hty hr po pa hbase hfew hline hs hplain,fun as σ H ρ s Q rl en h=> ?_⟩
 refine ro as σ H ρ s _ rl en (Dn.bind h fun d s1 as1 H1 v st1 rl1 r1 h1=> ?_)
 split at h1
 ·rename_i hl
  refine⟨a0i rl1 r1 hl,ra as1 σ H1 ρ s1 _ rl1 (en.mono st1) (Dn.bind h1 fun ds s2 as2 H2 vs st2 rl2 r2 h2=> ?_)⟩
  exact hg as2 H2 s2 v vs d ds Q rl2 (r1.mono st2) r2 h2
 ·exact h1.elim
theorem akz{p:Addr}{o:HO}{H':Hp}{d:D}{ys:List V}{es:List D}{Q:VK}(rl:Rel K as H s)(ha:as.ix[n]?=some (some p))(c:Chg H p (.lst ys) H')(rs:RDs K as H ys es)(rv:RD K as H v d)(h:Dn K (rD K) as H (.ok d (s.set n (.lst es))) Q):Q v H':=by
 have st:=agm (qp.mpr ⟨n,ha⟩) (fun z=> rl.hx p z (qp.mpr ⟨n,ha⟩)) c
 exact h v as H' st (rl.chg ha c ⟨ys,c.at,rs.mono st⟩) (rv.mono st)
noncomputable def onL(d:D)(s:S)(k:Nat -> List D -> R D):R D:=match d with
 |.ref n=> match s[n]? with
  |some (.lst ds)=> k n ds
  |_=>.bad
 |_=>.bad
theorem ami{d:D}{k:Nat -> List D -> R D}{Q:VK}(rl:Rel K as H s)(r:RD K as H v d)(h:Dn K (rD K) as H (onL d s k) Q): ∃p n xs ds,v=.ref p/\as.ix[n]?=some (some p)/\H p=some (.lst xs)/\RDs K as H xs ds/\Dn K (rD K) as H (k n ds) Q:=by
 cases r with
 | @ref p n l hr=>
  have h:Dn K (rD K) as H (match s[n]? with|some (O.lst ds)=> k n ds|_=>.bad) Q:=h
  split at h
  ·rename_i ds e
   obtain⟨ha,xs,hx,rs⟩:=yj rl hr e
   exact⟨p,n,xs,ds,rfl,ha,hx,rs,h⟩
  ·exact h.elim
 |_=> exact h.elim
def kz:GM:=fun d ds s=> match ds with
 |[x]=> onL d s fun n xs=> if xs.length < sizeLine then .ok .non (s.set n (.lst (xs++ [x]))) else .bad
 |_=>.bad
theorem ax5:MB X "list.append" kz:=⟨_,apw,fun as H s x xs d ds Q rl r rs h=> by
 unfold kz at h
 split at h
 ·obtain⟨v,rfl,rv⟩:=rs.one
  obtain⟨p,n,ys,es,rfl,ha,hy,re,h⟩:=ami rl r h
  split at h
  ·rename_i hz
   exact⟨p,ys,v,rfl,rfl,hy,by rw [re.length];exact hz,fun H' c=> akz (o:=.lst []) rl ha c (re.append (.cons rv .nil)) (.da .non) h⟩
  ·exact h.elim
 ·exact h.elim⟩
def ab7:GM:=fun d ds s=> match ds with
 | [.int i]=> onL d s fun n xs=> if -(2^63) <=i/\i < 2^63 then match iQ i xs.length with
   |some k=> match xs[k]? with
    |some y=>.ok y (s.set n (.lst (xs.eraseIdx k)))
    |none=>.bad
   |none=>.bad
  else .bad
 |_=>.bad
theorem a1r:MB X "list.pop" ab7:=⟨_,atw,fun as H s x xs d ds Q rl r rs h=> by
 unfold ab7 at h
 split at h
 ·obtain⟨v,rfl,rv⟩:=rs.one
  cases rv.int_inv
  obtain⟨p,n,ys,es,rfl,ha,hy,re,h⟩:=ami rl r h
  split at h
  ·rename_i hz
   split at h
   ·rename_i k e
    split at h
    ·rename_i y ey
     obtain⟨w,hw,rw⟩:=re.get ey
     exact⟨p,ys,_,k,w,rfl,rfl,hy,hz.1,hz.2,by rw [re.length];exact e,hw,fun H' c=> akz (o:=.lst []) rl ha c (re.eraseIdx k) rw h⟩
    ·exact h.elim
   ·exact h.elim
  ·exact h.elim
 ·exact h.elim⟩
def aba(o i v:D)(s:S):R D:=match i with
 |.int k=> onL o s fun n xs=> match ixN xs.length k with
  |some j=>.ok .non (s.set n (.lst (xs.set j v)))
  |none=>.bad
 |_=>.bad
def ad9(fv fo fi:FE):FS:=fun ρ s=> (fv ρ s).bind fun v s1=> (fo ρ s1).bind fun o s2=> (fi ρ s2).bind fun i s3=> (aba o i v s3).bind fun _ s4=>.ok (.nx ρ) s4
theorem bbt{o i:Expr}{fi fv:FE}{pos':Pos}(he:RE X e fv)(ho:RE X o fo)(hi:RE X i fi)(ha: ∀v,assign (.Subscript o i pos') X.env v=(do
   let ov←holding [v] (eval o X.env)
   let iv←holding [v,ov] (eval i X.env)
   standAt pos'
   holding [v,ov,iv] (setItem ov iv v)
   release [v,ov,iv] []):=by intro _;rfl) (hs:gO [.Subscript o i pos'] e pos.line X.env=pure false:=by rfl) (hw:gP [.Subscript o i pos'] e X.env=pure none:=by rfl) (h1:(bD [.Subscript o i pos'] X.env).map (·.2)=[assign (.Subscript o i pos') X.env]:=by rfl):RS X (.Assign [.Subscript o i pos'] e pos) (ad9 fv fo fi):=by
 obtain⟨te,pe,re⟩:=he.ex
 obtain⟨to,po,ro⟩:=ho.ex
 obtain⟨ti,pi,ri⟩:=hi.ex
 refine⟨_,atu pe (a3e po pi au5 ha) hs hw h1,fun as σ H ρ s D rl en h=> ?_⟩
 refine re as σ H ρ s _ rl en (Dn.bind h fun v s1 as1 H1 vv st1 rl1 r1 h1=> ?_)
 refine ro as1 σ H1 ρ s1 _ rl1 (en.mono st1) (Dn.bind h1 fun o s2 as2 H2 ov st2 rl2 r2 h2=> ?_)
 refine ri as2 σ H2 ρ s2 _ rl2 ((en.mono st1).mono st2) (Dn.bind h2 fun i s3 as3 H3 iv st3 rl3 r3 h3=> ?_)
 have en3:=((en.mono st1).mono st2).mono st3
 have h3:Dn X.K (rD X.K) as3 H3 (aba o i v s3) (fun _ H'=> D.nx σ H'):=Dn.bind h3 fun d s4 as4 H4 vv st4 rl4 r4 h4=> Dn.now (b:=FV.nx σ) h4 rl4 (.nx (en3.mono st4))
 unfold aba at h3
 split at h3
 ·cases r3.int_inv
  obtain⟨p,n,xs,ds,rfl,ha,hx,rs,h3⟩:=ami rl3 (r2.mono st3) h3
  split at h3
  ·rename_i j e
   refine⟨p,xs,_,j,rfl,rfl,hx,by rw [rs.length];exact e,fun H' c=> ?_⟩
   exact akz (v:=.non) (o:=.lst []) rl3 ha c (rs.set j ((r1.mono st2).mono st3)) (.da .non) h3
  ·exact h3.elim
 ·exact h3.elim
noncomputable def ace:List D -> Option (List Str)
 |[]=> some []
 |.str x::r=> match ace r with
  |some xs=> some (x::xs)
  |none=> none
 |_=> none
theorem ap9: ∀{xs:List V} {ds:List D} {ss:List Str},RDs K as H xs ds -> ace ds=some ss -> xs=ss.map V.str/\ds=ss.map D.str
 |_,[],ss,r,h=> by cases r;cases h;exact⟨rfl,rfl⟩
 | _,d::ds,ss,r,h=> by
  cases r with
  | cons r rs=>
   unfold ace at h
   split at h
   ·rename_i e;cases e
   ·rename_i x rr e
    cases e
    split at h
    ·rename_i ys e2
     cases h
     obtain⟨h1,h2⟩:=ap9 rs e2
     cases r.str_inv
     rw [h1,h2];exact⟨rfl,rfl⟩
    ·cases h
   ·cases h
theorem aka: ∀ss:List Str,ace (ss.map D.str)=some ss
 |[]=> rfl
 |s::r=> by rw [aL,ace,aka r]
noncomputable def aec:List D -> Option (List Bool)
 |[]=> some []
 |.bl x::r=> match aec r with
  |some xs=> some (x::xs)
  |none=> none
 |_=> none
theorem ash: ∀{xs:List V} {ds:List D} {bs:List Bool},RDs K as H xs ds -> aec ds=some bs -> xs=bs.map V.bl
 |_,[],ss,r,h=> by cases r;cases h;rfl
 | _,d::ds,ss,r,h=> by
  cases r with
  | cons r rs=>
   unfold aec at h
   split at h
   ·rename_i e;cases e
   ·rename_i x rr e
    cases e
    split at h
    ·rename_i ys e2
     cases h
     have h1:=ash rs e2
     cases r.bl_inv
     rw [h1];rfl
    ·cases h
   ·cases h
def aek(ds:List D)(s:S):R D:=match ds with
 |[d]=> match (toL s d).bind aec with
  |some bs=>.ok (.bl (bs.all id)) s
  |none=>.bad
 |_=>.bad
theorem a69(hc:X.calm=true):CB X (.builtin "all") aek:=z9 fun pins sh σ H as s xs ds us Q I rl rs ru h=> by
 unfold aek at h
 split at h
 ·obtain⟨v,rfl,rv⟩:=rs.one
  split at h
  ·rename_i bs e
   cases e2:toL s _ with
   |none=> rw [e2]at e;cases e
   |some ys=>
    rw [e2]at e
    obtain⟨p,zs,rfl,hx,rz⟩:=ab0 rl rv e2
    have ez:=ash rz (show aec ys=some bs from e)
    subst ez
    exact ass hc pins sh σ H _ us Q I ru ⟨p,bs,rfl,SqL.of hx,Dn.now (Q:=Q) h rl (.da (.bl _))⟩
  ·exact h.elim
 ·exact h.elim
end PF
namespace PF
open PySem PySem.Spec
open L2
variable[XW]
theorem u64(hr:Room k A):A.units+64 < cLine:=by have:=hr.un;lia
theorem u65(hr:Room k A):A.units+65 < cLine:=by have:=hr.un;lia
theorem am2{as:As}{H:Hp}: ∀ss:List Str,TDs as H (ss.map V.str) (ss.map aI)
 |[]=>.nil
 |s::r=>.cons (.str s) (am2 r)
theorem ap4{x:Str}(ss:List Str)(c:ar1 X.K X.mg x vs)(e:vs=ss.map V.str:=by rfl)(hg:Gl X x:=by rfl)(hd:(x==("__debug__":Str))=false:=by decide):RE X (.Name x pos) (fC (.con (ss.map aI))):=by
 obtain⟨a,hm,hs⟩:=c
 subst e
 exact afd (v:=.ref a) (fun as H=>.con hs (am2 ss)) hm rfl hg hd
section
variable{P:aV}{w:aZ}{K:ak}{mg:Str -> Option af}{base:Heap}{x:Str}{st:Stmt}{N ps:List Str}{k n:Nat}
noncomputable def aew:FF:=fun _ _=>.bad
theorem aag(h:Has K mg x st ps)(S:FnScope N ps (jg st))(hn:ps.length=n):CalF P w K mg base x (k+1) n aew:=by
 refine⟨h.calX S (fun vs H Q E h=> by rw [hn];exact h.1) fun f cdv A outer s H vs Q E hr h=> ?_⟩
 obtain⟨hv,as,ds,s',rl,rs,h⟩:=h
 exact h.elim
end
end PF
namespace PF
open PySem PySem.Spec
open L2
def R.Wk{α β:Type}(f:α -> S -> R β)(Q:β -> S -> Prop)(a:α)(s:S):Prop:=(f a s).W Q
theorem R.W_bindk{α β:Type}(r:R α)(f:α -> S -> R β)(Q:β -> S -> Prop):(r.bind f).W Q=r.W (R.Wk f Q):=R.W_bind r f Q
@[simp] theorem R.Wk_app{α β:Type}(f:α -> S -> R β)(Q:β -> S -> Prop)(a:α)(s:S):R.Wk f Q a s=(f a s).W Q:=(rfl)
section
variable{s:S}{m:Bool}{n:Nat}{i j:Int}{x y:Str}{b:Bool}{xs ys:List ag}{ds es:List D}{d e:D}{ρ:En}{Q:D -> S -> Prop}
theorem k9:sizeLine=16777216:=sizeLine_eq
@[simp] theorem a8o:jr m (.int i) (.int j) s=.ok (.int (i+j)) s:=(rfl)
@[simp] theorem a83:jr m (.bl b) (.int j) s=.ok (.int (b01 b+j)) s:=(rfl)
theorem aky(h:x.length+y.length <=16777216):jr m (.str x) (.str y) s=.ok (.str (x++y)) s:=if_pos (by rw [k9];exact h)
theorem qz(h:xs.length+ys.length <=16777216):jr m (.tup xs) (.tup ys) s=.ok (.tup (xs++ys)) s:=if_pos (by rw [k9];exact h)
theorem agy(h:xs.length+ys.length <=16777216):jr false (.lst xs) (.lst ys) s=.ok (.lst (xs++ys)) s:=by
 show (if (xs.map D.da).length+(ys.map D.da).length <=sizeLine then vq false (xs.map D.da++ys.map D.da) s else .bad)=_
 rw [if_pos (by rw [k9,am,am];exact h),←kZ]
 show (match ku _ with|some xs=> R.ok (D.lst xs) s|none=>.bad)=_
 rw [vc]
@[simp] theorem a93:PF.v9 (.int i) (.int j) s=.ok (.int (i - j)) s:=(rfl)
@[simp] theorem a81:PF.v9 (.bl b) (.int j) s=.ok (.int (b01 b - j)) s:=(rfl)
@[simp] theorem a7u:PF.v9 (.int i) (.bl b) s=.ok (.int (i - b01 b)) s:=(rfl)
theorem abr(h:(-(2^64) < i/\i < 2^64)\/(-(2^64) < j/\j < 2^64)):aao (.int i) (.int j) s=.ok (.int (i*j)) s:=if_pos h
theorem zj(h:0 < j)(h2:j < 1073741824):af1 (.int i) (.int j) s=.ok (.int (i/j)) s:=if_pos ⟨h,h2⟩
theorem xq(h:0 < j):aaj (.int i) (.int j) s=.ok (.int (i % j)) s:=if_pos h
theorem av8(h:0 <=j)(h1:j <=1000000)(h2:i.natAbs < 2^64):aqn (.int i) (.int j) s=.ok (.int (i^j.toNat)) s:=if_pos ⟨h,h1,h2⟩
@[simp] theorem ba2:gLt (.int i) (.int j) s=.ok (.bl (decide (i < j))) s:=(rfl)
@[simp] theorem a9u:gLe (.int i) (.int j) s=.ok (.bl (decide (i <=j))) s:=(rfl)
@[simp] theorem baf:gGt (.int i) (.int j) s=.ok (.bl (decide (j < i))) s:=(rfl)
@[simp] theorem bae:gGe (.int i) (.int j) s=.ok (.bl (decide (j <=i))) s:=(rfl)
@[simp] theorem ba8:gIs d .non s=.ok (.bl (isN d)) s:=(rfl)
@[simp] theorem a7o:af6 d .non s=.ok (.bl (!isN d)) s:=(rfl)
theorem amk(x y:Str):aQ (.str x) (.str y)=decide (x=y):=by
 show (x==y)=_
 (rw [a9,beq_iff_eq,decide_eq_true_eq])
theorem adf{p q:ag}(h1:okD p=true)(h2:okD q=true):gEq (.da p) (.da q) s=.ok (.bl (aQ p q)) s:=by
 have e:ar9 (.da p) (.da q) s=.ok (.bl (aQ p q)) s:=if_pos ⟨h1,h2⟩
 cases p <;> cases q <;> first|exact e|(rw [amk];rfl)
theorem a7w:gEq (.str x) (.str y) s=.ok (.bl (decide (x=y))) s:=(rfl)
theorem ayz:gNe (.str x) (.str y) s=.ok (.bl (!decide (x=y))) s:=(rfl)
theorem aby{p q:ag}(h1:okD p=true)(h2:okD q=true):gNe (.da p) (.da q) s=.ok (.bl (!PyData.eqv p q)) s:=by
 have e:ar4 (.da p) (.da q) s=.ok (.bl (!PyData.eqv p q)) s:=if_pos ⟨h1,h2⟩
 cases p <;> cases q <;> first|exact e|(rw [amk];rfl)
theorem aic(h:s[n]?=some (.lst ds))(h2:ds[k]?=some d):gIx (.ref n) (.int (k:Int)) s=.ok d s:=by
 show (match (match s[n]? with|some (O.lst ds)=> some ds|_=> none) with|some ds=> (match atI ds (k:Int) with|some d=> R.ok d s|none=>.bad)|none=>.bad)=_
 rw [h]
 show (match atI ds (k:Int) with|some d=> R.ok d s|none=>.bad)=_
 rw [afb h2]
theorem vi{p:ag}(h2:xs[k]?=some p):gIx (.tup xs) (.int (k:Int)) s=.ok (.da p) s:=by
 show (match atI (xs.map D.da) (k:Int) with|some d=> R.ok d s|none=>.bad)=_
 rw [afb (v:=D.da p) (by rw [aR,h2];rfl)]
theorem aft{p:ag}(h2:xs[k]?=some p):gIx (.lst xs) (.int (k:Int)) s=.ok (.da p) s:=by
 show (match atI (xs.map D.da) (k:Int) with|some d=> R.ok d s|none=>.bad)=_
 rw [afb (v:=D.da p) (by rw [aR,h2];rfl)]
theorem aw0(h:s[n]?=some (.lst ds))(h2:k < ds.length):aba (.ref n) (.int (k:Int)) d s=.ok .non (s.set n (.lst (ds.set k d))):=by
 show (match s[n]? with|some (O.lst xs)=> (match ixN xs.length (k:Int) with|some j=> R.ok D.non (s.set n (.lst (xs.set j d)))|none=>.bad)|_=>.bad)=_
 rw [h]
 have:ixN ds.length (k:Int)=some k:=by
  unfold ixN
  rw [if_pos (by lia),if_pos (by lia)]
  rfl
 show (match ixN ds.length (k:Int) with|some j=> R.ok D.non (s.set n (.lst (ds.set j d)))|none=>.bad)=_
 rw [this]
def a5u(g:D -> D -> S -> R D)(fb:FE)(ρ:En)(x:D)(s:S):R D:=(fb ρ s).bind fun y s2=> g x y s2
noncomputable def avg(g:D -> D -> S -> R D)(x y:D)(s:S):R D:=g x y s
@[simp] theorem bdk{g:D -> D -> S -> R D}{fb:FE}:fOp g fa fb ρ s=(fa ρ s).bind (a5u g fb ρ):=(rfl)
@[simp] theorem bc7{g:D -> D -> S -> R D}{fb:FE}:a5u g fb ρ d s=(fb ρ s).bind (avg g d):=(rfl)
@[simp] theorem bcw{g:D -> D -> S -> R D}:avg g d e s=g d e s:=(rfl)
@[simp] theorem e_c:fC d ρ s=.ok d s:=(rfl)
@[simp] theorem bc4{r:En}:jb 0 (some d::r) s=.ok d s:=(rfl)
@[simp] theorem bb7{r:En}:jb 1 (x0::some d::r) s=.ok d s:=(rfl)
@[simp] theorem bbg{r:En}:jb 2 (x0::x1::some d::r) s=.ok d s:=(rfl)
@[simp] theorem bby{r:En}:jb 3 (x0::x1::x2::some d::r) s=.ok d s:=(rfl)
@[simp] theorem bba{r:En}:jb 4 (x0::x1::x2::x3::some d::r) s=.ok d s:=(rfl)
@[simp] theorem bbz{r:En}:jb 5 (x0::x1::x2::x3::x4::some d::r) s=.ok d s:=(rfl)
@[simp] theorem bbb{r:En}{x5:Option D}:jb 6 (x0::x1::x2::x3::x4::x5::some d::r) s=.ok d s:=(rfl)
@[simp] theorem bb1{r:En}{x5 x6:Option D}:jb 7 (x0::x1::x2::x3::x4::x5::x6::some d::r) s=.ok d s:=(rfl)
@[simp] theorem baw{r:En}{x5 x6 x7 x8:Option D}:jb 9 (x0::x1::x2::x3::x4::x5::x6::x7::x8::some d::r) s=.ok d s:=(rfl)
@[simp] theorem bab{r:En}{x5 x6 x7 x8 x9:Option D}:jb 10 (x0::x1::x2::x3::x4::x5::x6::x7::x8::x9::some d::r) s=.ok d s:=(rfl)
@[simp] theorem a9v{r:En}{x5 x6 x7 x8 x9 x10:Option D}:jb 11 (x0::x1::x2::x3::x4::x5::x6::x7::x8::x9::x10::some d::r) s=.ok d s:=(rfl)
noncomputable def al2(g:FS)(fl:Fl)(s:S):R Fl:=match fl with
 |.nx ρ1=> g ρ1 s
 |fl=>.ok fl s
@[simp] theorem ayx{f g:FS}:jf f g ρ s=(f ρ s).bind (al2 g):=(rfl)
@[simp] theorem bbh{g:FS}:al2 g (.nx ρ) s=g ρ s:=(rfl)
@[simp] theorem bc0{g:FS}:al2 g (.rt d) s=.ok (.rt d) s:=(rfl)
noncomputable def a3o(d:D)(s:S):R Fl:=.ok (.rt d) s
@[simp] theorem bce:ji f ρ s=(f ρ s).bind a3o:=(rfl)
@[simp] theorem bav:a3o d s=.ok (.rt d) s:=(rfl)
@[simp] theorem bbd:jk ρ s=.ok (.nx ρ) s:=(rfl)
noncomputable def ara(ρ:En)(_:D)(s:S):R Fl:=.ok (.nx ρ) s
@[simp] theorem bbp:qo f ρ s=(f ρ s).bind (ara ρ):=(rfl)
@[simp] theorem bah:ara ρ d s=.ok (.nx ρ) s:=(rfl)
noncomputable def ado(i:Nat)(ρ:En)(d:D)(s:S):R Fl:=.ok (.nx (ρ.set i (some d))) s
@[simp] theorem ay3{i:Nat}:jl i f ρ s=(f ρ s).bind (ado i ρ):=(rfl)
@[simp] theorem bbr{i:Nat}:ado i ρ d s=.ok (.nx (ρ.set i (some d))) s:=(rfl)
noncomputable def ax4(f g:FS)(ρ:En)(k:Bool)(s:S):R Fl:=if k=true then f ρ s else g ρ s
@[simp] theorem bch{c:FT}{f g:FS}:jp c f g ρ s=(c ρ s).bind (ax4 f g ρ):=(rfl)
@[simp] theorem ays{f g:FS}:ax4 f g ρ true s=f ρ s:=(rfl)
@[simp] theorem bcs{f g:FS}:ax4 f g ρ false s=g ρ s:=(rfl)
noncomputable def kIf(f g:FE)(ρ:En)(k:Bool)(s:S):R D:=if k=true then f ρ s else g ρ s
@[simp] theorem bdi{c:FT}{g:FE}:fIf c f g ρ s=(c ρ s).bind (kIf f g ρ):=(rfl)
@[simp] theorem bbn{g:FE}:kIf f g ρ true s=f ρ s:=(rfl)
@[simp] theorem bc5{g:FE}:kIf f g ρ false s=g ρ s:=(rfl)
noncomputable def ayd(d:D)(s:S):R Bool:=match d with
 |.bl k=>.ok k s
 |_=>.bad
@[simp] theorem bas:jj f ρ s=(f ρ s).bind ayd:=(rfl)
@[simp] theorem aog:ayd (.bl b) s=.ok b s:=(rfl)
noncomputable def aq7(g:FT)(ρ:En)(c:Bool)(s:S):R Bool:=if c=true then g ρ s else .ok false s
noncomputable def ax0(g:FT)(ρ:En)(c:Bool)(s:S):R Bool:=if c=true then .ok true s else g ρ s
noncomputable def ayk(c:Bool)(s:S):R Bool:=.ok (!c) s
@[simp] theorem bb4{f g:FT}:qh f g ρ s=(f ρ s).bind (aq7 g ρ):=(rfl)
@[simp] theorem bd0{f g:FT}:qy f g ρ s=(f ρ s).bind (ax0 g ρ):=(rfl)
@[simp] theorem baz{f:FT}:jw f ρ s=(f ρ s).bind ayk:=(rfl)
@[simp] theorem a9z{g:FT}:aq7 g ρ true s=g ρ s:=(rfl)
@[simp] theorem baa{g:FT}:aq7 g ρ false s=.ok false s:=(rfl)
@[simp] theorem bc3{g:FT}:ax0 g ρ true s=.ok true s:=(rfl)
@[simp] theorem bbs{g:FT}:ax0 g ρ false s=g ρ s:=(rfl)
@[simp] theorem a9s:ayk b s=.ok (!b) s:=(rfl)
noncomputable def aw9(g:FE)(ρ:En)(d:D)(s:S):R D:=match d with
 |.bl true=> g ρ s
 |.bl false=>.ok (.bl false) s
 |_=>.bad
noncomputable def kOr(g:FE)(ρ:En)(d:D)(s:S):R D:=match d with
 |.bl false=> g ρ s
 |.bl true=>.ok (.bl true) s
 |_=>.bad
@[simp] theorem bcr{g:FE}:xj f g ρ s=(f ρ s).bind (aw9 g ρ):=(rfl)
@[simp] theorem bdp{g:FE}:fOr f g ρ s=(f ρ s).bind (kOr g ρ):=(rfl)
@[simp] theorem bbv{g:FE}:aw9 g ρ (.bl true) s=g ρ s:=(rfl)
@[simp] theorem bap{g:FE}:aw9 g ρ (.bl false) s=.ok (.bl false) s:=(rfl)
@[simp] theorem bc9{g:FE}:kOr g ρ (.bl true) s=.ok (.bl true) s:=(rfl)
@[simp] theorem bcn{g:FE}:kOr g ρ (.bl false) s=g ρ s:=(rfl)
def anx(g g':D -> D -> S -> R D)(fb fc:FE)(ρ:En)(x:D)(s:S):R D:=(fb ρ s).bind fun y s2=> (g x y s2).bind fun z s3=> match z with
 |.bl true=> (fc ρ s3).bind fun w s4=> g' y w s4
 |.bl false=>.ok (.bl false) s3
 |_=>.bad
def aof(g g':D -> D -> S -> R D)(fc:FE)(ρ:En)(x y:D)(s:S):R D:=(g x y s).bind fun z s3=> match z with
 |.bl true=> (fc ρ s3).bind fun w s4=> g' y w s4
 |.bl false=>.ok (.bl false) s3
 |_=>.bad
def aig(g':D -> D -> S -> R D)(fc:FE)(ρ:En)(y z:D)(s:S):R D:=match z with
 |.bl true=> (fc ρ s).bind fun w s4=> g' y w s4
 |.bl false=>.ok (.bl false) s
 |_=>.bad
@[simp] theorem ba3{g g':D -> D -> S -> R D}{fb fc:FE}:vt g g' fa fb fc ρ s=(fa ρ s).bind (anx g g' fb fc ρ):=(rfl)
@[simp] theorem a9h{g g':D -> D -> S -> R D}{fb fc:FE}:anx g g' fb fc ρ d s=(fb ρ s).bind (aof g g' fc ρ d):=(rfl)
@[simp] theorem a9k{g g':D -> D -> S -> R D}{fc:FE}:aof g g' fc ρ d e s=(g d e s).bind (aig g' fc ρ e):=(rfl)
@[simp] theorem a8k{g':D -> D -> S -> R D}{fc:FE}:aig g' fc ρ e (.bl true) s=(fc ρ s).bind (avg g' e):=(rfl)
@[simp] theorem a85{g':D -> D -> S -> R D}{fc:FE}:aig g' fc ρ e (.bl false) s=.ok (.bl false) s:=(rfl)
def atv(g:FA)(ρ:En)(x:D)(s:S):R (List D):=(g ρ s).bind fun xs s2=>.ok (x::xs) s2
noncomputable def als(x:D)(xs:List D)(s:S):R (List D):=.ok (x::xs) s
@[simp] theorem bcl:jc ρ s=.ok [] s:=(rfl)
@[simp] theorem bdd:fVs ds ρ s=.ok ds s:=(rfl)
@[simp] theorem baq{g:FA}:ja f g ρ s=(f ρ s).bind (atv g ρ):=(rfl)
@[simp] theorem ba7{g:FA}:atv g ρ d s=(g ρ s).bind (als d):=(rfl)
@[simp] theorem aid:als d ds s=.ok (d::ds) s:=(rfl)
def acq(ds:List D)(s:S):R D:=if ds.length <=sizeLine then agl ds s else .bad
def aa8(m:Bool)(ds:List D)(s:S):R D:=if ds.length <=sizeLine then vq m ds s else .bad
@[simp] theorem bck{f:FA}:jd f ρ s=(f ρ s).bind acq:=(rfl)
@[simp] theorem bcm{f:FA}:ko m f ρ s=(f ρ s).bind (aa8 m):=(rfl)
theorem a1t(h:ku ds=some xs)(hl:ds.length <=16777216):acq ds s=.ok (.tup xs) s:=by
 unfold acq agl
 rw [if_pos (by rw [k9];exact hl),h]
theorem azf(h:ku ds=some xs)(hl:ds.length <=16777216):aa8 false ds s=.ok (.lst xs) s:=by
 unfold aa8 vq
 rw [if_pos (by rw [k9];exact hl),if_neg aw,h]
@[simp] theorem bdf:acq [] s=.ok (.tup []) s:=(rfl)
@[simp] theorem bdr:aa8 false [] s=.ok (.lst []) s:=(rfl)
@[simp] theorem bcd:aa8 true [] s=.ok (.ref s.length) (s++ [.lst []]):=(rfl)
@[simp] theorem bdn:acq [.da a] s=.ok (.tup [a]) s:=(rfl)
@[simp] theorem bdl{b:ag}:acq [.da a,.da b] s=.ok (.tup [a,b]) s:=(rfl)
@[simp] theorem bdb{b c:ag}:acq [.da a,.da b,.da c] s=.ok (.tup [a,b,c]) s:=(rfl)
@[simp] theorem bdq{b c d:ag}:acq [.da a,.da b,.da c,.da d] s=.ok (.tup [a,b,c,d]) s:=(rfl)
@[simp] theorem bdc{b:ag}:aa8 false [.da a,.da b] s=.ok (.lst [a,b]) s:=(rfl)
@[simp] theorem bdh{b c:ag}:aa8 false [.da a,.da b,.da c] s=.ok (.lst [a,b,c]) s:=(rfl)
@[simp] theorem bd9{b c d:ag}:aa8 false [.da a,.da b,.da c,.da d] s=.ok (.lst [a,b,c,d]) s:=(rfl)
def a3g(m:Bool)(lo hi:FO)(ρ:En)(d:D)(s:S):R D:=(lo ρ s).bind fun l s2=> (hi ρ s2).bind fun u s3=> gSl m d l u s3
def a3a(m:Bool)(hi:FO)(ρ:En)(d:D)(l:Option Int)(s:S):R D:=(hi ρ s).bind fun u s3=> gSl m d l u s3
def a4t(m:Bool)(d:D)(l u:Option Int)(s:S):R D:=gSl m d l u s
@[simp] theorem bde{lo hi:FO}:fSl m f lo hi ρ s=(f ρ s).bind (a3g m lo hi ρ):=(rfl)
@[simp] theorem bct{lo hi:FO}:a3g m lo hi ρ d s=(lo ρ s).bind (a3a m hi ρ d):=(rfl)
@[simp] theorem bcq{hi:FO}{l:Option Int}:a3a m hi ρ d l s=(hi ρ s).bind (a4t m d l):=(rfl)
@[simp] theorem bcy{l u:Option Int}:a4t m d l u s=gSl m d l u s:=(rfl)
@[simp] theorem bd8:fNo ρ s=.ok none s:=(rfl)
noncomputable def ay7(d:D)(s:S):R (Option Int):=match d with
 |.int i=>.ok (some i) s
 |_=>.bad
@[simp] theorem bat:kh f ρ s=(f ρ s).bind ay7:=(rfl)
@[simp] theorem ba4:ay7 (.int i) s=.ok (some i) s:=(rfl)
def ayp(fs:FE)(ρ:En)(d:D)(s:S):R D:=(fs ρ s).bind fun k s2=> match d,k with
 |.tup ds,.int (-1)=>.ok (.tup ds.reverse) s2
 |_,_=>.bad
noncomputable def ayb(d k:D)(s:S):R D:=match d,k with
 |.tup ds,.int (-1)=>.ok (.tup ds.reverse) s
 |_,_=>.bad
@[simp] theorem bcc{g:FE}:awd f g ρ s=(f ρ s).bind (ayp g ρ):=(rfl)
@[simp] theorem bal{g:FE}:ayp g ρ d s=(g ρ s).bind (ayb d):=(rfl)
@[simp] theorem bao:ayb (.tup xs) (.int (-1)) s=.ok (.tup xs.reverse) s:=(rfl)
noncomputable def a2m(d:D)(s:S):R D:=match d with
 |.int i=>.ok (.int (-i)) s
 |_=>.bad
@[simp] theorem bcx:amb f ρ s=(f ρ s).bind a2m:=(rfl)
@[simp] theorem bbj:a2m (.int i) s=.ok (.int (-i)) s:=(rfl)
@[simp] theorem bcf:j3 f ρ s=(f ρ s).bind apu:=(rfl)
@[simp] theorem bbw:apu (.bl b) s=.ok b s:=(rfl)
@[simp] theorem bdm{g:FF}{f:FA}:fCB g f ρ s=(f ρ s).bind g:=(rfl)
def ahk(n:Nat)(F:FF)(ρ:En)(ds:List D)(s:S):R D:=if ds.length=n then (F ds s).at ρ else .bad
@[simp] theorem bbc{F:FF}{f:FA}:je n F f ρ s=(f ρ s).bind (ahk n F ρ):=(rfl)
@[simp] theorem baj{F:FF}:ahk 1 F ρ [d] s=(F [d] s).at ρ:=(rfl)
@[simp] theorem a9t{F:FF}:ahk 2 F ρ [d,e] s=(F [d,e] s).at ρ:=(rfl)
@[simp] theorem ba1{F:FF}{d3:D}:ahk 3 F ρ [d,e,d3] s=(F [d,e,d3] s).at ρ:=(rfl)
@[simp] theorem ba0{F:FF}{d3 d4:D}:ahk 4 F ρ [d,e,d3,d4] s=(F [d,e,d3,d4] s).at ρ:=(rfl)
@[simp] theorem a0u:jv [.tup xs] s=.ok (.int xs.length) s:=by show R.ok (D.int (xs.map D.da).length) s=_;rw [am]
@[simp] theorem a9r:jv [.lst xs] s=.ok (.int xs.length) s:=by show R.ok (D.int (xs.map D.da).length) s=_;rw [am]
theorem len_str(h:x.length <=16777216):jv [.str x] s=.ok (.int x.length) s:=if_pos (by rw [k9];exact h)
theorem aiw(h:s[n]?=some (.lst ds)):jv [.ref n] s=.ok (.int ds.length) s:=by
 show (match (match s[n]? with|some (O.lst ds)=> some ds|_=> none) with|some xs=> R.ok (D.int xs.length) s|none=>.bad)=_
 rw [h]
@[simp] theorem ba5:agn [.int i,.int j] s=.ok (.int (if j < i then j else i)) s:=(rfl)
@[simp] theorem a8b:abj false [.tup xs] s=.ok (.lst xs) s:=by
 show (match ku (xs.map D.da) with|some xs=> R.ok (D.lst xs) s|none=>.bad)=_
 rw [vc]
@[simp] theorem a9e:abj false [.lst xs] s=.ok (.lst xs) s:=by
 show (match ku (xs.map D.da) with|some xs=> R.ok (D.lst xs) s|none=>.bad)=_
 rw [vc]
@[simp] theorem a80:abj true [.lst xs] s=.ok (.ref s.length) (s++ [.lst (xs.map D.da)]):=(rfl)
@[simp] theorem a82:vf [.lst xs] s=.ok (.tup xs) s:=by
 show (match ku (xs.map D.da) with|some xs=> R.ok (D.tup xs) s|none=>.bad)=_
 rw [vc]
@[simp] theorem a9o{p:ag}:qd [.da p,.ty "tuple"] s=.ok (.bl (kn p "tuple")) s:=(rfl)
@[simp] theorem bag{p:ag}:qd [.da p,.ty "int"] s=.ok (.bl (kn p "int")) s:=(rfl)
@[simp] theorem bai{p:ag}:qd [.da p,.ty "str"] s=.ok (.bl (kn p "str")) s:=(rfl)
@[simp] theorem at6{lo hi:Option Int}:gSl m (.tup xs) lo hi s=.ok (.tup (vb xs lo hi)) s:=(rfl)
theorem aas{α β:Type}(f:α -> β)(l:List α)(lo hi:Option Int):vb (l.map f) lo hi=(vb l lo hi).map f:=by
 unfold vb
 rw [am,mf,List.map_drop]
@[simp] theorem bbu{lo hi:Option Int}:gSl false (.lst xs) lo hi s=.ok (.lst (vb xs lo hi)) s:=by
 show (match ku (vb (xs.map D.da) lo hi) with|some xs=> R.ok (D.lst xs) s|none=>.bad)=_
 rw [aas,vc]
@[simp] theorem bbk{lo hi:Option Int}:gSl false (.frz xs) lo hi s=.ok (.lst (vb xs lo hi)) s:=by
 show (match ku (vb (xs.map D.da) lo hi) with|some xs=> R.ok (D.lst xs) s|none=>.bad)=_
 rw [aas,vc]
theorem aon{lo hi:Option Int}(h:x.length <=16777216):gSl m (.str x) lo hi s=.ok (.str (af3 x lo hi)) s:=if_pos (by rw [k9];exact h)
noncomputable def jq(fl:Fl)(s:S):R D:=match fl with
 |.rt d=>.ok d s
 |.nx _=>.ok .non s
 |_=>.bad
@[simp] theorem bak:jq (.rt d) s=.ok d s:=(rfl)
@[simp] theorem ba6:jq (.nx ρ) s=.ok .non s:=(rfl)
def anl(fo fi:FE)(ρ:En)(v:D)(s:S):R Fl:=(fo ρ s).bind fun o s2=> (fi ρ s2).bind fun i s3=> (aba o i v s3).bind fun _ s4=>.ok (.nx ρ) s4
def aou(fi:FE)(ρ:En)(v o:D)(s:S):R Fl:=(fi ρ s).bind fun i s3=> (aba o i v s3).bind fun _ s4=>.ok (.nx ρ) s4
def aod(ρ:En)(v o i:D)(s:S):R Fl:=(aba o i v s).bind fun _ s4=>.ok (.nx ρ) s4
@[simp] theorem a9y{fv fi:FE}:ad9 fv fo fi ρ s=(fv ρ s).bind (anl fo fi ρ):=(rfl)
@[simp] theorem a9a{fi:FE}:anl fo fi ρ d s=(fo ρ s).bind (aou fi ρ d):=(rfl)
@[simp] theorem a8t{fi:FE}:aou fi ρ d e s=(fi ρ s).bind (aod ρ d e):=(rfl)
@[simp] theorem a8u{o:D}:aod ρ d e o s=(aba e o d s).bind (ara ρ):=(rfl)
def auv(g:GM)(fa:FA)(ρ:En)(d:D)(s:S):R D:=if (toL s d).isSome=true then (fa ρ s).bind fun ds s2=> g d ds s2 else .bad
noncomputable def a5p(g:GM)(d:D)(ds:List D)(s:S):R D:=g d ds s
@[simp] theorem bdg{g:GM}{fa:FA}:fMt g fo fa ρ s=(fo ρ s).bind (auv g fa ρ):=(rfl)
theorem abl{g:GM}{fa:FA}(h:s[n]?=some (.lst ds)):auv g fa ρ (.ref n) s=(fa ρ s).bind (a5p g (.ref n)):=by
 unfold auv
 rw [if_pos]
 ·rfl
 ·show ((match s[n]? with|some (O.lst ds)=> some ds|_=> none):Option (List D)).isSome=true
  rw [h];rfl
@[simp] theorem bd7{g:GM}:a5p g d ds s=g d ds s:=(rfl)
theorem yh(h:s[n]?=some (.lst ds))(hl:ds.length < 16777216):kz (.ref n) [d] s=.ok .non (s.set n (.lst (ds++ [d]))):=by
 show (match s[n]? with|some (O.lst xs)=> (if xs.length < sizeLine then R.ok D.non (s.set n (.lst (xs++ [d]))) else .bad)|_=>.bad)=_
 rw [h]
 show (if ds.length < sizeLine then _ else _)=_
 rw [if_pos (by rw [k9];exact hl)]
theorem av3(h:s[n]?=some (.lst ds))(hk:ds[k]?=some d)(hl:ds.length <=16777216):ab7 (.ref n) [.int (k:Int)] s=.ok d (s.set n (.lst (ds.eraseIdx k))):=by
 have hlt:k < ds.length:=(aC.mp hk).1
 have e1:iQ (k:Int) ds.length=some k:=by
  rw [PySem.StrLaws.seqIndex_nonneg (by lia) (by lia),cH]
 have b1: -(2^63) <=(k:Int)/\(k:Int) < 2^63:=by lia
 unfold ab7 onL
 simp only [h,e1,hk,b1,and_self,if_true]
def a4x(d:D)(s:S):R D:=ax1 d s
@[simp] theorem bd6:aw4 f ρ s=(f ρ s).bind a4x:=(rfl)
theorem a1z(h:s[n]?=some (.lst ds))(h2:ku ds=some xs):a4x (.ref n) s=.ok (.lst xs) (s.set n .gone):=by
 show (match s[n]? with|some (O.lst ds)=> (match ku ds with|some xs=> R.ok (D.lst xs) (s.set n .gone)|none=>.bad)|_=>.bad)=_
 rw [h]
 show (match ku ds with|some xs=> R.ok (D.lst xs) (s.set n .gone)|none=>.bad)=_
 rw [h2]
def axc(g:Tg)(ρ:En)(d:D)(s:S):R Fl:=match vh g d ρ with
 |some ρ1=>.ok (.nx ρ1) s
 |none=>.bad
@[simp] theorem bca:aqz g f ρ s=(f ρ s).bind (axc g ρ):=(rfl)
def kFor(g:Tg)(fb:FS)(ρ:En)(p:Wk)(s:S):R Fl:=chk p s (qv g fb p p.1 ρ s)
@[simp] theorem bcu{fi:FI}:xl fi g fb ρ s=(fi ρ s).bind (kFor g fb ρ):=(rfl)
@[simp] theorem bbq:kFor g fb ρ (ds,none) s=qv g fb (ds,none) ds ρ s:=aaa
@[simp] theorem bda:fIt f ρ s=(f ρ s).bind ahb:=(rfl)
@[simp] theorem bc2:ahb (.lst xs) s=.ok (xs.map D.da,none) s:=(rfl)
@[simp] theorem bb9:ahb (.tup xs) s=.ok (xs.map D.da,none) s:=(rfl)
@[simp] theorem bcb{f:FA}:y0 f ρ s=(f ρ s).bind alw:=(rfl)
theorem ab6(h: -(2^62) <=j)(h2:j < 2^62):alw [.int j] s=.ok (aa3 0 j.toNat,none) s:=if_pos ⟨h,h2⟩
def ae1(g:Tg)(fb:FS)(p:Wk)(r:List D)(fl:Fl)(s:S):R Fl:=match fl with
 |.nx ρ2=> chk p s (qv g fb p r ρ2 s)
 |.ct ρ2=> chk p s (qv g fb p r ρ2 s)
 |.bk ρ2=>.ok (.nx ρ2) s
 |.rt d=>.ok (.rt d) s
theorem ab9{p:Wk}(h:vh g d ρ=some ρ1):qv g fb p (d::r) ρ s=(fb ρ1 s).bind (ae1 g fb p r):=by
 rw [qv,h];rfl
@[simp] theorem ans:ae1 g fb (ds,none) r (.nx ρ) s=qv g fb (ds,none) r ρ s:=aaa
@[simp] theorem a0v:ae1 g fb (ds,none) r (.ct ρ) s=qv g fb (ds,none) r ρ s:=aaa
@[simp] theorem ao4{p:Wk}:ae1 g fb p r (.bk ρ) s=.ok (.nx ρ) s:=(rfl)
@[simp] theorem ann{p:Wk}:ae1 g fb p r (.rt d) s=.ok (.rt d) s:=(rfl)
def kLc(m:Bool)(js:List Nat)(k:Nat)(g:Tg)(ft:FT)(fe:FE)(ρ:En)(p:Wk)(s:S):R D:=if p.1.length <=sizeLine then chk p s ((qi g ft fe (aA k none++aiy ρ js) p p.1 s).bind fun ds s2=> vq m ds s2) else .bad
@[simp] theorem bdj{fi:FI}:fLc m js k fi g ft fe ρ s=(fi ρ s).bind (kLc m js k g ft fe ρ):=(rfl)
def ayf(m:Bool)(ds:List D)(s:S):R D:=vq m ds s
theorem zf{ρ0:En}(h:ds.length <=16777216)(e:aA k none++aiy ρ js=ρ0):kLc m js k g ft fe ρ (ds,none) s=(qi g ft fe ρ0 (ds,none) ds s).bind (ayf m):=by
 subst e
 unfold kLc
 rw [if_pos (by rw [k9];exact h),aaa];rfl
@[simp] theorem bb2:ayf false (xs.map D.da) s=.ok (.lst xs) s:=by
 show (match ku _ with|some xs=> R.ok (D.lst xs) s|none=>.bad)=_
 rw [vc]
@[simp] theorem axv{p:Wk}:qi g ft fe ρ p [] s=.ok [] s:=(rfl)
def amn(g:Tg)(ft:FT)(fe:FE)(ρ0:En)(p:Wk)(r:List D)(ρ1:En)(b:Bool)(s2:S):R (List D):=if b=true then (fe ρ1 s2).calm.bind fun x s3=> chk p s3 ((qi g ft fe ρ0 p r s3).bind fun xs s4=>.ok (x::xs) s4) else chk p s2 (qi g ft fe ρ0 p r s2)
def asd(g:Tg)(ft:FT)(fe:FE)(ρ0:En)(p:Wk)(r:List D)(x:D)(s3:S):R (List D):=chk p s3 ((qi g ft fe ρ0 p r s3).bind fun xs s4=>.ok (x::xs) s4)
theorem aei{p:Wk}(h:vh g d ρ=some ρ1):qi g ft fe ρ p (d::r) s=(ft ρ1 s).calm.bind (amn g ft fe ρ p r ρ1):=by
 rw [qi,h];rfl
@[simp] theorem aks{p:Wk}:amn g ft fe ρ p r ρ1 true s=(fe ρ1 s).calm.bind (asd g ft fe ρ p r):=(rfl)
@[simp] theorem alg:amn g ft fe ρ (ds,none) r ρ1 false s=qi g ft fe ρ (ds,none) r s:=aaa
@[simp] theorem amh:asd g ft fe ρ (ds,none) r d s=(qi g ft fe ρ (ds,none) r s).bind (als d):=aaa
@[simp] theorem bcp:acx ρ s=.ok true s:=(rfl)
theorem bdo{a0 a1 a2 a3 a4 a5 a6 a7 a8:ag}:aa8 false [.da a0,.da a1,.da a2,.da a3,.da a4,.da a5,.da a6,.da a7,.da a8] s=.ok (.lst [a0,a1,a2,a3,a4,a5,a6,a7,a8]) s:=(rfl)
theorem bcg:aa8 true [a0] s=.ok (.ref s.length) (s++ [.lst [a0]]):=(rfl)
theorem bcz:aa8 true [a0,a1] s=.ok (.ref s.length) (s++ [.lst [a0,a1]]):=(rfl)
theorem bc8{a2 a3:D}:aa8 true [a0,a1,a2,a3] s=.ok (.ref s.length) (s++ [.lst [a0,a1,a2,a3]]):=(rfl)
theorem bac(h:xs.length <=16777216):aa8 false (xs.map D.da) s=.ok (.lst xs) s:=azf (vc xs) (by rw [am];exact h)
theorem a9w(h:xs.length <=16777216):acq (xs.map D.da) s=.ok (.tup xs) s:=a1t (vc xs) (by rw [am];exact h)
theorem it0{a0:ag}{r:List ag}:gIx (.tup (a0::r)) (.int 0) s=.ok (.da a0) s:=vi (k:=0) rfl
theorem it1{a0 a1:ag}{r:List ag}:gIx (.tup (a0::a1::r)) (.int 1) s=.ok (.da a1) s:=vi (k:=1) rfl
theorem it2{a0 a1 a2:ag}{r:List ag}:gIx (.tup (a0::a1::a2::r)) (.int 2) s=.ok (.da a2) s:=vi (k:=2) rfl
theorem it3{a0 a1 a2 a3:ag}{r:List ag}:gIx (.tup (a0::a1::a2::a3::r)) (.int 3) s=.ok (.da a3) s:=vi (k:=3) rfl
theorem ayt{r:En}{y:Option D}:vh (.nm 0) d (y::r)=some (some d::r):=(rfl)
theorem bbo{r:En}{y:Option D}:ado 1 (x0::y::r) d s=.ok (.nx (x0::some d::r)) s:=(rfl)
theorem bb6{r:En}{y:Option D}:ado 2 (x0::x1::y::r) d s=.ok (.nx (x0::x1::some d::r)) s:=(rfl)
theorem bbe{r:En}{y:Option D}:ado 3 (x0::x1::x2::y::r) d s=.ok (.nx (x0::x1::x2::some d::r)) s:=(rfl)
theorem bay{r:En}{y:Option D}:ado 4 (x0::x1::x2::x3::y::r) d s=.ok (.nx (x0::x1::x2::x3::some d::r)) s:=(rfl)
theorem bbx{r:En}{y:Option D}:ado 5 (x0::x1::x2::x3::x4::y::r) d s=.ok (.nx (x0::x1::x2::x3::x4::some d::r)) s:=(rfl)
theorem bc1{r:En}{x5 x6 y:Option D}:ado 7 (x0::x1::x2::x3::x4::x5::x6::y::r) d s=.ok (.nx (x0::x1::x2::x3::x4::x5::x6::some d::r)) s:=(rfl)
theorem a9x{r:En}{x5 x6 x7 x8 x9 x10 y:Option D}:ado 11 (x0::x1::x2::x3::x4::x5::x6::x7::x8::x9::x10::y::r) d s=.ok (.nx (x0::x1::x2::x3::x4::x5::x6::x7::x8::x9::x10::some d::r)) s:=(rfl)
end
@[simp] theorem R.bind_ok'{α β:Type}(a:α)(s:S)(f:α -> S -> R β):(R.ok a s).bind f=f a s:=(rfl)
@[simp] theorem R.W_ok'{α:Type}(a:α)(s:S)(Q:α -> S -> Prop):(R.ok a s).W Q=Q a s:=(rfl)
def flW(J:En -> S -> Prop)(Q:Fl -> S -> Prop)(fl:Fl)(s:S):Prop:=match fl with
 |.nx ρ=> J ρ s
 |.ct ρ=> J ρ s
 |.bk ρ=> Q (.nx ρ) s
 |.rt d=> Q (.rt d) s
theorem yi{g:Tg}{fb:FS}{all:List D}{Q:Fl -> S -> Prop}(J:List D -> En -> S -> Prop)
  (step: ∀d r ρ s,J (d::r) ρ s -> ∃ρ1,vh g d ρ=some ρ1/\(fb ρ1 s).W (flW (J r) Q)) (fin: ∀ρ s,J [] ρ s -> Q (.nx ρ) s):
  ∀(ds:List D) (ρ:En) (s:S),J ds ρ s -> (qv g fb (all,none) ds ρ s).W Q
 |[],ρ,s,h=> fin ρ s h
 |d::r,ρ,s,h=> by
  obtain⟨ρ1,e,w⟩:=step d r ρ s h
  rw [ab9 e,R.W_bind]
  refine R.W_mono w fun fl s1 q=> ?_
  cases fl with
  |nx ρ2=> rw [ans];exact yi J step fin r ρ2 s1 q
  |ct ρ2=> rw [a0v];exact yi J step fin r ρ2 s1 q
  |bk ρ2=> rw [ao4];exact q
  |rt d=> rw [ann];exact q
theorem abo{g:Tg}{ft:FT}{fe:FE}{ρ0:En}{all:List D}{Q:List D -> S -> Prop}(J:List D -> List D -> S -> Prop)
  (step: ∀d r acc s,J (d::r) acc s -> ∃ρ1,vh g d ρ0=some ρ1/\(ft ρ1 s).W fun b s2=> if b=true then (fe ρ1 s2).W fun x s3=> J r (acc++ [x]) s3 else J r acc s2) (fin: ∀acc s,J [] acc s -> Q acc s):
  ∀(ds acc:List D) (s:S),J ds acc s -> (qi g ft fe ρ0 (all,none) ds s).W fun xs s'=> Q (acc++xs) s'
 |[],acc,s,h=> by
  rw [axv,R.W_ok,cq]
  exact fin acc s h
 | d::r,acc,s,h=> by
  obtain⟨ρ1,e,w⟩:=step d r acc s h
  rw [aei e,R.W_bind,R.W_calm]
  refine R.W_mono w fun b s1 q=> ?_
  cases b with
  |false=>
   rw [alg]
   rw [if_neg aw]at q
   exact abo J step fin r acc s1 q
  |true=>
   rw [aks,R.W_bind,R.W_calm]
   rw [if_pos rfl]at q
   refine R.W_mono q fun x s2 q2=> ?_
   rw [amh,R.W_bind]
   refine R.W_mono (abo J step fin r (acc++ [x]) s2 q2) fun xs s3 q3=> ?_
   rw [aid,R.W_ok]
   rw [cx]at q3
   exact q3
structure Ext (s s':S):Prop where
 ex: ∃g,s'=s++g
theorem Ext.refl(s:S):Ext s s:=⟨[],by simp⟩
theorem Ext.trans{a b c:S}(h1:Ext a b)(h2:Ext b c):Ext a c:=by
 obtain⟨g,rfl⟩:=h1.ex
 obtain⟨k,rfl⟩:=h2.ex
 exact⟨g++k,by rw [cx]⟩
theorem Ext.add(s g:S):Ext s (s++g):=⟨g,rfl⟩
theorem Ext.len{s':S}(h:Ext s s'):s.length <=s'.length:=by obtain⟨g,rfl⟩:=h.ex;simp
theorem Ext.get{s':S}(h:Ext s s'){o:O}(e:s[k]?=some o):s'[k]?=some o:=by
 obtain⟨g,rfl⟩:=h.ex
 rw [bu (aC.mp e).1];exact e
theorem Ext.getE{s':S}(h:Ext s s')(e:k < s.length):s'[k]?=s[k]?:=by
 obtain⟨g,rfl⟩:=h.ex
 rw [bu e]
structure j8 (n:Nat) (s s':S):Prop where
 len:s.length <=s'.length
 get: ∀k,k≠n -> k < s.length -> s'[k]?=s[k]?
theorem j8.refl(n:Nat)(s:S):j8 n s s:=⟨ao _,fun _ _ _=> rfl⟩
theorem j8.trans{a b c:S}(h1:j8 n a b)(h2:j8 n b c):j8 n a c:=⟨ax h1.len h2.len,fun k hk hl=> (h2.get k hk (aN hl h1.len)).trans (h1.get k hk hl)⟩
theorem Ext.same{s':S}(h:Ext s s')(n:Nat):j8 n s s':=⟨h.len,fun _ _ hl=> h.getE hl⟩
theorem ac5{o:O}:j8 n s (s.set n o):=⟨by simp,fun k hk hl=> aX (cP hk)⟩
theorem j8.own{s':S}{o:O}(h:j8 n s s')(hk:s.length <=k):j8 n s (s'.set k o):=⟨by simpa using h.len,fun j hj hl=> by rw [aX (by lia)];exact h.get j hj hl⟩
theorem ave{α:Type}{s:List α}{o:α}(e:s[n]?=some o):s.set n o=s:=by
 apply gE
 intro i
 by_cases z:n=i
 ·subst z
  have hl:=(aC.mp e).1
  rw [bn hl,e]
 ·rw [aX z]
end PF
namespace PF
open PySem PySem.Spec
open L2
open PyProof.Rows (envOfC)
section
variable{P:aV}{w:aZ}{K:ak}{mg:Str -> Option af}{base:Heap}{x:Str}{st:Stmt}{N ps:List Str}{k:Nat}
theorem fnF{f:Addr}(F:Fun K x x st f fd)(S:FnScope N ps (jg st)){m:Nat}(hm:N.length=m)(hn:ps.length=n)(hbody:BodyOk P w K mg base N x st k fb):FnOk P w K mg base (CX1 P w) (k+1) f fd ps (spF K n (jz m fb)):=
 F.okX S (fun vs H Q E h=> by rw [hn];exact h.1) fun cdv A outer s H vs Q E hr h=> ai7 hm hbody f cdv A outer s H vs Q E hr h
theorem a4m{f:Addr}{F:FF}(h:FnOk P w K mg base (CX1 P w) k f fd ps (spF K 1 F))(ht: ∀ns:List Int,ns.length <=63 -> (F [.frz (ns.map aG)] []).W fun d _=> d=.bl true):FnOk P w K mg base CX0 k f fd ps (agz K):=by
 have sp: ∀vs H Q E,agz K vs H Q E -> spF K 1 F vs H Q fun _ _ _=> False:=fun vs H Q E q=> by
  obtain⟨a,ns,rfl,hS,hl,hq⟩:=q
  have R0:Rel K ⟨[],[]⟩ H []:=⟨rfl,fun i j p e=> by simp at e,fun n p o e=> by simp at e,fun n o e=> by simp at e,fun p hp=> by simp at hp,fun p hp=> by simp at hp⟩
  refine⟨rfl,⟨[],[]⟩,[.frz (ns.map aG)],[],R0,.cons (.frz (fun as' H' st=> ?_) (TDs.ints ns)) .nil,?_⟩
  ·exact L2.j8.seq (fun b o hb=> st.keep b o (by simp [As.has]) hb) hS
  ·have t:=ht ns hl
   cases hr:F [.frz (ns.map aG)] []with
   |ok d s=>
    rw [hr]at t
    intro b as' H' st rl rb
    have:d=.bl true:=t
    subst this
    cases rb with
    |da z=> cases z;exact hq _
   |bad=> rw [hr]at t;exact t
   |ex n ρ s=> rw [hr]at t;exact t.elim
 refine⟨fun vs H Q E q=> h.len vs H Q _ (sp vs H Q E q),fun A outer s H args us vs Q E hr he hb hv hs=> dR (h.run A outer s H args us vs Q _ hr he hb hv (sp vs H Q E hs)) fun r s' hq=> ?_⟩
 cases r with
 |error e=> obtain⟨_,_,_,_,_,_,_,_,_,_,_,_,_,_,_,f⟩:=hq;exact f.elim
 |ok fl=> cases fl <;> exact hq
end
end PF
namespace PF
open PySem PySem.Spec
variable[XW]
open L2
variable[XW]
theorem abn{x:Str}(c: ∃t,X.mg x=some (.int i t))(hg:Gl X x:=by rfl)(hd:(x==("__debug__":Str))=false:=by decide):RE X (.Name x pos) (fC (.da (.int i))):=by
 obtain⟨t,hm⟩:=c
 exact afd (v:=.int i) (fun as H=>.da (.int i)) hm ⟨_,rfl⟩ hg hd
theorem a1m{x z:Str}(c: ∃t,X.mg x=some (.str z t))(hg:Gl X x:=by rfl)(hd:(x==("__debug__":Str))=false:=by decide):RE X (.Name x pos) (fC (.da (.str z))):=by
 obtain⟨t,hm⟩:=c
 exact afd (v:=.str z) (fun as H=>.da (.str z)) hm ⟨_,rfl⟩ hg hd
end PF
namespace PF
open PySem PySem.Spec
open L2
open PyProof.Rows (is_bool isnot_bool)
variable[XW]
theorem RD.bl_inv'(h:RD K as H v (.bl b)):v=.bl b:=by
 cases h with|da t=> cases t;rfl
noncomputable def amw(dx dy:D)(s:S):R D:=match dx,dy with
 |.da (.bool c),.da (.bool d)=>.ok (.bl (c==d)) s
 |_,_=>.bad
theorem a7b:Op2 X (aY .Is) amw:=qw fun pins sh σ H as s x y dx dy v u Q I rl r1 r2 rx ry h=> by
 unfold amw at h
 split at h
 ·cases r1.bl_inv';cases r2.bl_inv';cases rx;cases ry
  exact is_bool (j2 I (Dn.now (Q:=Q) h rl (.da (.bl _))) rfl)
 ·exact h.elim
end PF
namespace PF
open PySem PySem.Spec
open PySem.SeqAt
open AutoSeq1 (wpAny_loadPart') --
open MeetsSeq MeetsSeq2 MeetsSeq3 SeqRoads2 --
def amt(A:br)(s:aj)(x y:af)(b:Bool):Prop:= ∀(prog:aV) (w:aZ) (E:af -> aj -> Prop) (Q:af -> aj -> Prop),Q (.bool b) s -> wpAny (model prog w) A (mV .Lt x y) Q E s
inductive LexAt (A:br) (s:aj) (fin:Bool):List (af×af) -> Bool -> Prop
 |nil:LexAt A s fin [] fin
 |same {x y:af} {r:List (af×af)} {b:Bool}:EqAt A s x y true -> LexAt A s fin r b -> LexAt A s fin ((x,y)::r) b
 |diff {x y:af} {r:List (af×af)} {b:Bool}:EqAt A s x y false -> amt A s x y b -> LexAt A s fin ((x,y)::r) b
theorem a3b(l b:Addr)(us ws:Array af)(n n2:Nat)(dd dd2:Option Addr)(sl sl2:Array (Option af))(r:Bool):
  Meets (cF.«tuple.__lt__» ⟨[.ref l,.ref b],[]⟩)
   (fun A R s=> s.heap.get? l=some {cls:=.type "tuple",dict:=dd,data:=.seq us n,slots:=sl}/\s.heap.get? b=some {cls:=.type "tuple",dict:=dd2,data:=.seq ws n2,slots:=sl2}/\
    LexAt A.in1 s (decide (us.size < ws.size)) (us.toList.zip ws.toList) r/\R (.ok (.ret (.bool r))) s):=
 .of_wp fun prog w A R s h=> by
  (obtain⟨hp,g,d,tk,os⟩:=s)
  obtain⟨hl,hb,lx,hR⟩:=h
  have sub:=AutoSeq1.sub_tuple_tuple
  wp_walk using mY hl,mY hb,jT _ (fun jy b s'=> b.1=none/\s'=⟨hp,g,d,tk,os⟩/\LexAt A.in1 ⟨hp,g,d,tk,os⟩ (decide (us.size < ws.size)) jy r) _
  case turn=>
   rintro⟨y,x⟩ jy b s' ⟨hb',rfl,lx⟩
   cases lx with
   |same e t=>
    refine ae (e prog w _ _ ?_)
    wp_walk
    exact⟨rfl,rfl,t⟩
   |diff e t=>
    refine ae (e prog w _ _ ?_)
    have t': ∀(E:af -> aj -> Prop) (Q:af -> aj -> Prop),Q (.bool r) ⟨hp,g,d,tk,os⟩ -> wpAny (model prog w) A.in1 (mV .Lt y x) Q E ⟨hp,g,d,tk,os⟩:=fun E Q=> t prog w E Q
    generalize mV .Lt y x=m at t'⊢
    wp_walk
    refine t' _ _ ?_
    wp_walk
    exact⟨_,rfl,hR⟩
  case fin=>
   rintro⟨b1,b2⟩ s' ⟨hb',rfl,lx⟩
   simp only at hb'
   subst hb'
   cases lx
   wp_walk
   exact⟨_,rfl,by simpa [Builtin.Tuple.tupleCompareSizes] using hR⟩
  case h=> exact⟨rfl,rfl,lx⟩
section
variable{A:br}{s:aj} --
theorem amt.tuples{b:Addr}{us ws:Array af}{r:Bool}(hl:s.heap.IsTuple l us)(hb:s.heap.IsTuple b ws)(hu:A.units < cLine)(lx:LexAt A.in1 s (decide (us.size < ws.size)) (us.toList.zip ws.toList) r):amt A s (.ref l) (.ref b) r:=fun prog w E Q h=> by
 obtain⟨⟨c1,d1,e1,s1⟩,o1,k1,n1,q1⟩:=id hl
 obtain⟨⟨c2,d2,e2,s2⟩,o2,k2,n2,q2⟩:=id hb
 simp only at k1 q1 k2 q2
 subst k1 q1 k2 q2
 exact richCompare_meets_room (op:=.Lt) ⟨_,o1,rfl⟩ ⟨_,o2,rfl⟩ F.slot_tuple_lt F.entry_tuple_lt (F.args_tuple_lt_2 _ _) (a3b l b us ws n1 n2 d1 d2 s1 s2 r) ⟨o1,o2,lx,show eV r≠lW/\Q (.bool r) s from ⟨nofun,h⟩⟩ hu
end
mutual
noncomputable def ltP:ag -> ag -> Option Bool
 |.int i,.int j=> some (decide (i < j))
 |.str a,.str b=> some (decide (a.cps.toList < b.cps.toList))
 |.tuple xs,.tuple ys=> aai xs ys
 |_,_=> none
noncomputable def aai:List ag -> List ag -> Option Bool
 |[],[]=> some false
 |[],_::_=> some true
 |_::_,[]=> some false
 |x::xs,y::ys=> if aQ x y=true then aai xs ys else ltP x y
end
theorem al4:aai [] []=some false:=by simp only [aai]
theorem akg{y:ag}:aai [] (y::ys)=some true:=by simp only [aai]
theorem akc{y:ag}:aai (y::ys) []=some false:=by simp only [aai]
theorem ari{x y:ag}:aai (x::xs) (y::ys)=if aQ x y=true then aai xs ys else ltP x y:=by simp only [aai]
theorem aik{j:Int}:ltP (.int i) (.int j)=some (decide (i < j)):=by simp only [ltP]
theorem a24{a b:Str}:ltP (.str a) (.str b)=some (decide (a.cps.toList < b.cps.toList)):=by simp only [ltP]
theorem a1a:ltP (.tuple xs) (.tuple ys)=aai xs ys:=by simp only [ltP]
end PF
namespace PF
open PySem PySem.Spec
open PySem.SeqAt
mutual
theorem ahh: ∀(da db:ag) (A:br) (s:aj) (a b:af) (as bs:List Addr) (r:Bool),fI s.heap a da as -> fI s.heap b db bs -> da.canLay0=true -> db.canLay0=true -> A.units+min da.depth db.depth < cLine -> ltP da db=some r -> amt A s a b r
 | .int i,db,A,s,_,_,_,_,r,ra,rb,_,_,_,h=> by
  cases db with
  |int j=>
   rw [aik]at h
   cases h
   cases ra;cases rb
   exact fun prog w E Q q=> PyProof.Rows.lt_int q
  |none=> simp [ltP]at h
  |bool _=> simp [ltP]at h
  |str _=> simp [ltP]at h
  |list _=> simp [ltP]at h
  |tuple _=> simp [ltP]at h
  |dict _=> simp [ltP]at h
 | .str x,db,A,s,_,_,_,_,r,ra,rb,_,_,_,h=> by
  cases db with
  |str j=>
   rw [a24]at h
   cases h
   cases ra;cases rb
   exact fun prog w E Q q=> PyProof.Rows.lt_str q
  |none=> simp [ltP]at h
  |bool _=> simp [ltP]at h
  |int _=> simp [ltP]at h
  |list _=> simp [ltP]at h
  |tuple _=> simp [ltP]at h
  |dict _=> simp [ltP]at h
 | .tuple xs,db,A,s,_,_,_,_,r,ra,rb,ha,hb,hu,h=> by
  cases db with
  | tuple ys=>
   rw [a1a]at h
   cases ra with
   | tuple h1 h2 h3 h4=>
    cases rb with
    |tuple k1 k2 k3 k4=>
     refine amt.tuples ⟨_,h1,h2,_,h3⟩ ⟨_,k1,k2,_,k3⟩ (room_here hu) ?_
     have t:=ag7 xs ys A.in1 s _ _ _ _ r h4 k4 ha hb (room_in hu) h
     simpa using t
  |none=> simp [ltP]at h
  |bool _=> simp [ltP]at h
  |int _=> simp [ltP]at h
  |list _=> simp [ltP]at h
  |str _=> simp [ltP]at h
  |dict _=> simp [ltP]at h
 |.none,_,_,_,_,_,_,_,_,_,_,_,_,_,h=> by simp [ltP]at h
 |.bool _,_,_,_,_,_,_,_,_,_,_,_,_,_,h=> by simp [ltP]at h
 |.list _,_,_,_,_,_,_,_,_,_,_,_,_,_,h=> by simp [ltP]at h
 |.dict _,_,_,_,_,_,_,_,_,_,_,ha,_,_,_=> nomatch ha
theorem ag7: ∀(xs ys:List ag) (A:br) (s:aj) (vs ws:List af) (as bs:List Addr) (r:Bool),gT s.heap vs xs as -> gT s.heap ws ys bs -> b9 xs=true -> b9 ys=true -> A.units+min (aS xs) (aS ys) < cLine -> aai xs ys=some r -> LexAt A s (decide (vs.length < ws.length)) (vs.zip ws) r
 |[],[],A,s,_,_,_,_,r,ra,rb,_,_,_,h=> by
  cases ra;cases rb
  rw [al4]at h
  cases h
  exact .nil
 |[],_::_,A,s,_,_,_,_,r,ra,rb,_,_,_,h=> by
  cases ra;cases rb
  rw [akg]at h
  cases h
  simpa using LexAt.nil (A:=A) (s:=s) (fin:=true)
 |_::_,[],A,s,_,_,_,_,r,ra,rb,_,_,_,h=> by
  cases ra;cases rb
  rw [akc]at h
  cases h
  simpa using LexAt.nil (A:=A) (s:=s) (fin:=false)
 | x ::xs,y::ys,A,s,_,_,_,_,r,ra,rb,ha,hb,hu,h=> by
  have ha':x.canLay0=true/\b9 xs=true:=by simpa [b9] using ha
  have hb':y.canLay0=true/\b9 ys=true:=by simpa [b9] using hb
  rw [ari]at h
  cases ra with
  | cons r1 rs=>
   cases rb with
   | cons r2 rs2=>
    have e:=eqAt_reads x y A s _ _ _ _ r1 r2 ha'.1 hb'.1 (room_head hu)
    rw [List.zip_cons_cons,aK,aK]
    by_cases q:aQ x y=true
    ·rw [if_pos q]at h
     rw [q]at e
     have t:=ag7 xs ys A s _ _ _ _ r rs rs2 ha'.2 hb'.2 (room_tail hu) h
     refine .same e ?_
     simpa using t
    ·rw [if_neg q]at h
     rw [Bool.not_eq_true]at q
     rw [q]at e
     exact .diff e (ahh x y A s _ _ _ _ r r1 r2 ha'.1 hb'.1 (room_head hu) h)
end
end PF
namespace PF
open PySem PySem.Spec
def ltb(a b:ag):Bool:=match ltP a b with
 |some true=> true
 |_=> false
end PF
namespace KS
open PySem PySem.W PyProof.Rows
noncomputable def run{α:Type}(lt:Nat -> Nat -> Bool):KasT α -> α
 |.ret a=> a
 |.ask i j k=> run lt (k (lt i j))
section
variable{lt:Nat -> Nat -> Bool}
theorem gd(p:Array Nat)(k:Nat):p.getD k 0=(p[k]?).getD 0:=Array.getD_eq_getD_getElem? ..
end
end KS
namespace PF
open PySem PySem.Spec
open L2
variable[XW]
def aq1(dx dy:D)(s:S):R D:=match toP s dx,toP s dy with
 |some a,some b=> match ltP a b with
  |some r=> if okD a=true/\okD b=true then .ok (.bl r) s else .bad
  |none=>.bad
 |_,_=>.bad
theorem a7m(hu:X.A.units+64 < cLine):Op2 X (aY .Lt) aq1:=qw fun pins sh σ H as s x y dx dy v u Q I rl r1 r2 rx ry h=> by
 unfold aq1 at h
 split at h
 ·rename_i a b ea eb
  split at h
  ·rename_i r hr
   split at h
   ·rename_i hok
    obtain⟨bs1,q1⟩:=r1.reads I rl ea rx
    obtain⟨bs2,q2⟩:=r2.reads I rl eb ry
    obtain⟨c1,d1⟩:=zr hok.1
    obtain⟨c2,d2⟩:=zr hok.2
    exact ahh a b _ _ _ _ _ _ r q1 q2 c1 c2 (by lia) hr _ _ _ _ ⟨.bl _,H,I,rfl,Dn.now (Q:=Q) h rl (.da (.bl _))⟩
   ·exact h.elim
  ·exact h.elim
 ·exact h.elim
end PF
namespace PF
open PySem PySem.Spec
open PySem.SeqAt
variable[XW]
end PF
namespace PF
open PySem PySem.Spec
open L2
variable[XW]
def adl(ds:List D)(s:S):R D:=match ds with
 |[d]=> match (adw s d).bind ace with
  |some ss=> if ss.length < 4000 then .ok (.int (jm ss).length) s else .bad
  |none=>.bad
 |_=>.bad
theorem ars{f:FA}{p1 p2 pos2:Pos}(hc:X.calm=true)(hm1:X.mg "len"=none)(hm2:X.mg "set"=none)(ha:RA X [e] f)(hg1:Gl X "len":=by rfl)(hg2:Gl X "set":=by rfl)(hs:starEach [e] X.env=(false,eval e X.env)::starEach [] X.env:=by rfl)(hs2:starEach [.Call (.Name "set" p2) [e] [] pos2] X.env=(false,eval (.Call (.Name "set" p2) [e] [] pos2) X.env)::starEach [] X.env:=by rfl)(hpl:(backTo pos (starEach [] X.env)).any (·.1)=false:=by rfl)(hpl2:(backTo pos2 (starEach [] X.env)).any (·.1)=false:=by rfl):
  RE X (.Call (.Name "len" p1) [.Call (.Name "set" p2) [e] [] pos2] [] pos) (fCB adl f):=by
 obtain⟨t,pa,ra⟩:=ha.ex
 have pset:=aep (X:=X) (asx hc) hg2 hm2 ay8 pa (pos:=pos2) (p:=p2) (by decide) (by decide) hs hpl2
 have plen:=adq (X:=X) arv hg1 hm1 akn (aak pset ad6 hs2) (pos:=pos) (p:=p1) (by decide) (by decide) hs2 hpl
 refine⟨_,plen,fun as σ H ρ s Q rl en h=> ?_⟩
 refine ra as σ H ρ s _ rl en (Dn.bind h fun ds s1 as1 H1 vs st1 rl1 r1 h1=> ?_)
 unfold adl at h1
 split at h1
 ·obtain⟨v,rfl,rv⟩:=r1.one
  split at h1
  ·rename_i ss e
   split at h1
   ·rename_i hz
    cases e2:adw s1 _ with
    |none=> rw [e2]at e;cases e
    |some xs=>
     rw [e2]at e
     obtain⟨p,zs,rfl,sq,rz⟩:=acy rl1 rv e2
     obtain⟨ez,ex⟩:=ap9 rz (show ace xs=some ss from e)
     subst ez
     refine⟨p,ss,rfl,sq,hz,fun q H2 n2=> ⟨q,ss,rfl,n2.at,?_⟩⟩
     exact Dn.now (Q:=Q) (Dn.step h1 (j4 n2)) (rl1.new n2) (.da (.int _))
   ·exact h1.elim
  ·exact h1.elim
 ·exact h1.elim
end PF
namespace PF
open PySem PySem.Spec
open L2
variable[XW]
noncomputable def Its(x:Str):It:=⟨fun i _=> i < x.length,fun i H v H'=> H'=H/\ ∃c,x.cps.toList[i]?=some c/\v=.str ⟨#[c]⟩,fun i _=> x.length <=i⟩
theorem ar3(x:Str)(t:Tok)(it:Addr):Turn P w K tg (Its x) [it] it (fun i h=> h.IsStrIter it "str_ascii_iterator" x t i) where
 mem:=by simp
 obj:=fun i h st b hb=> by
  cases aO.mp hb
  obtain⟨o,e,c,d⟩:=st
  exact⟨o,e,fun v z=> by rw [d]at z;cases z⟩
 keep:=fun i h h' st k=> by
  obtain⟨o,e,c,d⟩:=st
  exact⟨o,k it (by simp) o e,c,d⟩
 item:=by
  intro X hP hw hK hc i pins s σ H E I hf st hg
  subst hP hw hK
  have hl:i < x.cps.size:=hg
  have hx:x.cps[i]?=some x.cps[i]:=bT hl
  obtain⟨f0,f1,f2,f3,f4,f5⟩:=hf it (by simp)
  refine wpAny_pyNext_ascii_item st hx fun h' st' sb=> ?_
  have I1:Inv X pins σ H {s with heap:=h',toks:=s.toks+1}:=I.turned (t':=s.toks+1) (fun b o hb e=> (sb.2 b hb).trans e) f0 f1 f3 f4 f5
  obtain⟨o,e,c,d⟩:=id st'
  exact⟨_,rfl,akp (s:={s with heap:=h',toks:=s.toks+1}) e c d (by decide) ⟨.str ⟨#[x.cps[i]]⟩,H,I1,⟨_,rfl⟩,⟨rfl,x.cps[i],by rw [←hx,cw],rfl⟩,st',fun b hb=> (hf b hb).1⟩⟩
 done:=by
  intro X hP hw hK hc i pins s σ H E I hf st hg
  subst hP hw hK
  have hl:x.cps.size <=i:=hg
  obtain⟨f0,f1,f2,f3,f4,f5⟩:=hf it (by simp)
  exact wpAny_pyNext_ascii_end (I.ok.hd hc) st (gK hl) fun h' eb=> ⟨rfl,I.turned (t':=s.toks) (fun b o hb e=> eb b o hb e) f0 f1 f3 f4 f5⟩
 self:=fun _ _ _ _ _ st h=> wpAny_pyIter_striter_ascii st h
section
variable{X:Cx}{tg a:Expr}{fa:FE}
def a9m(tl:TE):TI:=fun σ H R=> tl σ H fun v H1=> ∃x,v=.str x/\x.cps.all (· < 128)=true/\R (Its x) H1
theorem a45{l:Expr}{tl:TE}(hl:PE X l tl):PI X tg l (a9m tl):=by
 intro pins s σ H R I h
 refine thn (hl pins s σ H _ I h) fun v s1 ⟨z,H1,I1,r1,q1⟩=> ?_
 obtain⟨x,rfl,hx,q⟩:=q1
 obtain⟨t,rfl⟩:=r1
 refine wpAny_pyIter_ascii hx ?_
 exact⟨s1.heap.objs.size,[s1.heap.objs.size],_,_,H1,rfl,I1.kept (t':=s1.toks) fun b o e=> ai _ e,ar3 x t _,⟨_,ay _ rfl,rfl,rfl⟩,fun b hb=> by
  cases aO.mp hb
  exact I1.fpOk (ao _) (I1.hok.fresh (ao _)),q⟩
noncomputable def aaz(x:Str):List D:=x.cps.toList.map fun c=>.str ⟨#[c]⟩
theorem a5j(x:Str):af7 K as H (Its x) (aaz x,none):=by
 intro as2 H2 s2 st rl so i
 have ln:(aaz x).length=x.length:=by unfold aaz;rw [am,aM];rfl
 refine⟨fun hl=> by rw [ln]at hl;exact hl,fun d hd=> ?_⟩
 have hl:i < x.length:=by
  have:=(aC.mp hd).1
  rw [ln]at this;exact this
 unfold aaz at hd
 rw [aR]at hd
 cases e:x.cps.toList[i]? with
 |none=> rw [e]at hd;cases hd
 |some c=>
  rw [e]at hd
  cases hd
  refine⟨hl,fun v H3 hy=> ?_⟩
  obtain⟨rfl,c',ec,rfl⟩:=hy
  rw [e]at ec
  cases ec
  exact⟨Step.refl _ _,rl,.da (.str _)⟩
def ahc(d:D)(s:S):R Wk:=match d with
 |.da (.str x)=> if x.cps.all (· < 128)=true then .ok (aaz x,none) s else .bad
 |_=>.bad
def aph(f:FE):FI:=fun ρ s=> (f ρ s).bind ahc
theorem bax(h:RE X a fa):RI X tg a (aph fa):=by
 obtain⟨t,p,r⟩:=h.ex
 refine⟨_,a45 p,fun as σ H ρ s Q rl en h=> ?_⟩
 refine r as σ H ρ s _ rl en (Dn.bind h fun d s1 as1 H1 v st1 rl1 r1 h1=> ?_)
 unfold ahc at h1
 split at h1
 ·rename_i x
  cases r1.str_inv
  split at h1
  ·rename_i hx
   exact⟨x,rfl,hx,Dn.now (Q:=Q) h1 rl1 (a5j x)⟩
  ·exact h1.elim
 ·exact h1.elim
end
end PF
namespace PF
open PySem PySem.Spec
open L2
variable[XW]
noncomputable def amq(x y:Str):Bool:= !(eM x y 0 x.length 1).isEmpty
def aqk(dx dy:D)(s:S):R D:=match dx,dy with
 |.da (.str y),.da (.str x)=>.ok (.bl (amq x y)) s
 |_,_=>.bad
theorem a6z:Op2 X (aY .In) aqk:=qw fun pins sh σ H as s x y dx dy v u Q I rl r1 r2 rx ry h=> by
 unfold aqk at h
 split at h
 ·cases r1.str_inv;cases r2.str_inv
  obtain⟨t,rfl⟩:=rx
  obtain⟨t',rfl⟩:=ry
  exact PyProof.Rows.in_str (j2 I (Dn.now (Q:=Q) h rl (.da (.bl _))) rfl)
 ·exact h.elim
theorem an6: ∀c:Nat,c < 128 -> amq (bJ "abcdefghijklmnopqrstuvwxyz") ⟨#[c]⟩=(decide (97 <=c)&&decide (c <=122)):=by decide+kernel
end PF
namespace PF
open PySem PySem.Spec
open L2
section
variable{s:S}{a b:ag}{r c d:Bool}{x y:Str}{ρ:En}
theorem a25(h:ltP a b=some r)(h1:okD a=true)(h2:okD b=true):aq1 (.da a) (.da b) s=.ok (.bl r) s:=by
 show (match ltP a b with|some r=> if okD a=true/\okD b=true then R.ok (D.bl r) s else .bad|none=>.bad)=_
 rw [h]
 exact if_pos ⟨h1,h2⟩
theorem a1o:amw (.bl c) (.bl d) s=.ok (.bl (c==d)) s:=(rfl)
theorem a42:aqk (.str y) (.str x) s=.ok (.bl (amq x y)) s:=(rfl)
theorem ah2(h:ss.length < 4000):adl [.tup (ss.map aI)] s=.ok (.int (jm ss).length) s:=by
 show (match ace ((ss.map aI).map D.da) with|some ss=> if ss.length < 4000 then R.ok (D.int (jm ss).length) s else .bad|none=>.bad)=_
 rw [show (ss.map aI).map D.da=ss.map D.str by rw [dC];rfl,aka]
 exact if_pos h
theorem ao9(h:x.cps.all (· < 128)=true):ahc (.str x) s=.ok (aaz x,none) s:=if_pos h
theorem ayo:aph f ρ s=(f ρ s).bind ahc:=(rfl)
end
theorem amo{x:Str}(h:x.cps.all (· < 128)=true): ∀c∈x.cps.toList,amq (bJ "abcdefghijklmnopqrstuvwxyz") ⟨#[c]⟩=(decide (97 <=c)&&decide (c <=122)):=by
 intro c hc
 refine an6 c ?_
 rw [←kD,aT]at h
 exact of_decide_eq_true (h c hc)
variable[XW]
noncomputable def apf(ds:List D)(s:S):R D:=match ds with
 |[.da (.bool b)]=>.ok (.int (if b then 1 else 0)) s
 |_=>.bad
theorem a6y:CB X (.type "int") apf:=z9 fun pins sh σ H as s xs ds us Q I rl rs ru h=> by
 unfold apf at h
 split at h
 ·obtain⟨v,rfl,rv⟩:=rs.one
  cases rv.bl_inv
  obtain⟨u,rfl,r9⟩:=vals1 ru
  cases r9
  exact PySem.call_int_bool (show EP X pins σ Q _ _ from ⟨.int _,H,I.tok _,⟨_,rfl⟩,Dn.now (Q:=Q) h rl (.da (.int _))⟩)
 ·exact h.elim
end PF
namespace PF
open PySem PySem.Spec
open L2
variable[XW]
end PF
namespace PF
open PySem PySem.Spec PySem.W PyProof.Rows
variable[XW]
open PySem.SeqAt
variable[XW]
end PF
namespace PF
open PySem PySem.Spec
open L2
variable[XW]
end PF
namespace L2
open PySem PySem.Spec PyProof.Rows
section
variable{P:aV}{w:aZ}{H:Hp}{h:Heap}{a:Addr}
end
end L2
namespace PF
open PySem PySem.Spec
open L2
variable[XW]
end PF
namespace PF
open PySem PySem.Spec
open L2
open PyProof.Rows (subscriptTail subscriptTail_builtinR)
variable[XW]
end PF
namespace PF
open PySem PySem.Spec
open L2
variable[XW]
end PF
namespace PF
open PySem PySem.Spec
open L2
variable[XW]
end PF
namespace PF
open PySem PySem.Spec
open L2
variable[XW]
end PF
namespace L2
open PySem PySem.Spec PyProof.Rows
abbrev TBd:=Addr -> St -> Hp -> (St -> Hp -> Prop) -> Prop
end L2
namespace PF
open PySem PySem.Spec
open L2
variable[XW]
end PF
namespace L2
open PySem PySem.Spec PyProof.Rows
def kv(b:Bool)(h:Heap)(l:Addr)(xs:Array af):Prop:=if b=true then h.IsList l xs else h.IsTuple l xs
def vy(b:Bool)(h:Heap)(i l:Addr)(k:Nat):Prop:=if b=true then h.IsListIter i l k else h.IsTupleIter i l k
theorem kv.to{h':Heap}{xs:Array af}(x:kv b h l xs)(k: ∀o,h.get? l=some o -> h'.get? l=some o):kv b h' l xs:=by
 cases b with
 |true=> obtain⟨o,e,r⟩:=x;exact⟨o,k o e,r⟩
 |false=> obtain⟨o,e,r⟩:=x;exact⟨o,k o e,r⟩
theorem vy.to{h':Heap}{i:Addr}(x:vy b h i l n)(k: ∀o,h.get? i=some o -> h'.get? i=some o):vy b h' i l n:=by
 cases b with
 |true=> obtain⟨o,e,r⟩:=x;exact⟨o,k o e,r⟩
 |false=> obtain⟨o,e,r⟩:=x;exact⟨o,k o e,r⟩
theorem vy.obj{i:Addr}(x:vy b h i l n): ∃o,h.get? i=some o/\ ∃vs,o.data=.fields vs:=by
 cases b with
 |true=> obtain⟨o,e,_,r⟩:=x;exact⟨o,e,_,r⟩
 |false=> obtain⟨o,e,_,r⟩:=x;exact⟨o,e,_,r⟩
theorem kv.lt{xs:Array af}(x:kv b h l xs):l < h.objs.size:=by
 cases b with
 |true=> obtain⟨o,e,r⟩:=x;exact ar e
 |false=> obtain⟨o,e,r⟩:=x;exact ar e
section
variable{P:aV}{w:aZ}{A:br}{E:af -> aj -> Prop}{s:aj}
open PySem.F in
theorem aat{i:Addr}{xs:Array af}{x:af}(hi:vy b s.heap i l k)(hl:kv b s.heap l xs)(hx:xs[k]?=some x)(hQ: ∀h',vy b h' i l (k+1) -> bI i s.heap h' -> Q x {s with heap:=h'}):wpAny (model P w) A (cW (.ref i)) Q E s:=by
 cases b with
 |true=> exact wpAny_nextOf_list_item hi hl hx hQ
 |false=>
  have hi:s.heap.IsTupleIter i l k:=hi
  have hl:s.heap.IsTuple l xs:=hl
  obtain⟨o,ho,hc,hd⟩:=id hi
  (obtain⟨ol,hol,_,nl,hdl⟩:=hl)
  refine ae (bz (name:=bJ "__next__") hi.typeIs slot_tuple_iterator_next (bB slot_tuple_iterator_next hi.typeIs entry_tuple_iterator_next ?_ (args_tuple_iterator_next_1 _)))
  wp_walk using bc ho hd (x:=.ref l) rfl,bc ho hd (x:=.int k 0) rfl,dv hol hdl
  (simp only [cH,hx])
  refine ae (cz ho hd (by simp) (ah ⟨_,rfl,ah (hQ _ ?_ (.update ..))⟩))
  exact⟨_,bK _ ho (g9 (eX hd _)),by rw [Obj.cls_mapFields];exact hc,by rw [eX hd];simp [rawInt]⟩
open PySem.F in
theorem aea{i:Addr}{xs:Array af}(hh:A.handled=none)(hi:vy b s.heap i l k)(hl:kv b s.heap l xs)(hx:xs[k]?=none)(hE: ∀h' e,fj i s.heap h' -> (∃o,h'.get? e=some o/\o.cls=.type "StopIteration") -> E (.ref e) {s with heap:=h'}):wpAny (model P w) A (cW (.ref i)) Q E s:=by
 cases b with
 |true=> exact wpAny_nextOf_list_end hh hi hl hx hE
 |false=>
  have hi:s.heap.IsTupleIter i l k:=hi
  have hl:s.heap.IsTuple l xs:=hl
  obtain⟨o,ho,hc,hd⟩:=id hi
  (obtain⟨ol,hol,_,nl,hdl⟩:=hl)
  refine ae (bz (name:=bJ "__next__") hi.typeIs slot_tuple_iterator_next (bB slot_tuple_iterator_next hi.typeIs entry_tuple_iterator_next ?_ (args_tuple_iterator_next_1 _)))
  (have hh1:A.in1.handled=none:=hh)
  wp_walk using bc ho hd (x:=.ref l) rfl,bc ho hd (x:=.int k 0) rfl,dv hol hdl
  (simp only [cH,hx])
  (refine ae (cM (ae (cz ho hd (by simp) ?_))))
  wp_walk
  simp only [raiseNew]
  (refine ae (me ?_))
  rw [hh1]
  refine ae (ah (mU (hE _ _ (((b7 ..).extBut.push _).push _) ?_)))
  exact⟨_,ay _ rfl,rfl⟩
end
section
variable{P:aV}{w:aZ}{A:br}{E:af -> aj -> Prop}{s:aj}
structure ZAt (b1 b2:Bool) (l1 l2 z TI TO i1 i2:Addr) (f0:af) (k1 k2:Nat) (h:Heap):Prop where
 ap:ZipApart z TI TO i1 i2 l1 l2
 oz:iK h z TI TO f0
 oi:gi h TI (.ref i1) (.ref i2)
 oo: ∃a b,gi h TO a b
 c1:vy b1 h i1 l1 k1
 c2:vy b2 h i2 l2 k2
theorem a29{b1 b2:Bool}{z TI TO i1 i2 l1 l2:Addr}{k1 k2:Nat}{xs ys:Array af}{x y:af}(Z:ZAt b1 b2 l1 l2 z TI TO i1 i2 .none k1 k2 s.heap)(hl1:kv b1 s.heap l1 xs)(hl2:kv b2 s.heap l2 ys)(hx:xs[k1]?=some x)(hy:ys[k2]?=some y)(hQ: ∀h',ZAt b1 b2 l1 l2 z TI TO i1 i2 (rawInt s.heap.objs.size) (k1+1) (k2+1) h' -> gi h' s.heap.objs.size x y ->
   (∀c o,c≠z -> c≠TO -> c≠i1 -> c≠i2 -> s.heap.get? c=some o -> h'.get? c=some o) -> Q (.ref s.heap.objs.size) {s with heap:=h'}):
  wpAny (model P w) A (cF.«zip.__next__» ⟨[.ref z],[]⟩) (fun fin s'=> ∃v,fin=.done (.ret v)/\Q v s') E s:=by
 obtain⟨ap,oz,oi,⟨a,b,oo⟩,c1,c2⟩:=Z
 (show wpAny _ _ (field (.ref z) 2 >>=_) _ _ _);refine ae (bc oz rfl (x:=.bool false) rfl ?_)
 (show wpAny _ _ (field (.ref z) 3 >>=_) _ _ _);refine ae (bc oz rfl (x:=.ref TI) rfl (ae (dv oi rfl ?_)))
 (show wpAny _ _ (d5 (.ref z)>>=_) _ _ _);refine ae (ae (bc oz rfl (x:=.none) rfl (ah ?_)))
 simp only [if_true]
 refine ae (cM (ae (bc oz rfl (x:=.ref TO) rfl (ae (ci oz (by simp) fun g1 z1 e1=> ae ?_)))))
 have z1:iK g1 z TI TO .ellipsis:=z1
 (simp only [List.zipIdx_cons,List.zipIdx_nil,kQ,List.forIn_nil])
 (refine ae (ae (fU ?_)))
 (show wpAny _ _ (cW (.ref i1)>>=_) _ _ _);refine ae (aat (c1.to fun o=> e1.extBut _ _ ap.i1z) (hl1.to fun o=> e1.extBut _ _ ap.l1z) hx fun g2 c1' e2=> ah ?_)
 have o2:gi g2 TO a b:=e2.extBut _ _ ap.TOi1 (e1.extBut _ _ ap.TOz oo)
 refine ae (dv o2 rfl (ae (ie o2 fun g3 o3 e3=> ae (iJ (ah (ae (ae (fU ?_))))))))
 have o3:gi g3 TO x b:=o3
 have k3: ∀c o,c≠z -> c≠i1 -> c≠TO -> s.heap.get? c=some o -> g3.get? c=some o:=fun c o a1 a2 a3 e=> e3.extBut _ _ a3 (e2.extBut _ _ a2 (e1.extBut _ _ a1 e))
 (show wpAny _ _ (cW (.ref i2)>>=_) _ _ _);refine ae (aat (c2.to fun o=> k3 _ o ap.i2z ap.i12.symm ap.TOi2.symm) (hl2.to fun o=> k3 _ o ap.l2z ap.l2i1 ap.l2TO) hy fun g4 c2' e4=> ah ?_)
 have o4:gi g4 TO x b:=e4.extBut _ _ ap.TOi2 o3
 refine ae (dv o4 rfl (ae (ie o4 fun g5 o5 e5=> ae (iJ (ah (ah ?_))))))
 have o5:gi g5 TO x y:=o5
 refine ae (dv o5 rfl (ae (wpAny_newTuple ?_)))
 have sz:g5.objs.size=s.heap.objs.size:=by rw [e5.1,e4.1,e3.1,e2.1,e1.1]
 have z5:iK g5 z TI TO .ellipsis:=e5.extBut _ _ ap.TOz.symm (e4.extBut _ _ ap.i2z.symm (e3.extBut _ _ ap.TOz.symm (e2.extBut _ _ ap.i1z.symm z1)))
 have k5: ∀c o,c≠z -> c≠TO -> c≠i1 -> c≠i2 -> s.heap.get? c=some o -> g5.get? c=some o:=fun c o a1 a2 a3 a4 e=> e5.extBut _ _ a2 (e4.extBut _ _ a4 (k3 c o a1 a3 a2 e))
 have c15:vy b1 g5 i1 l1 (k1+1):=c1'.to fun o e=> e5.extBut _ _ ap.TOi1.symm (e4.extBut _ _ ap.i12 (e3.extBut _ _ ap.TOi1.symm e))
 have c25:vy b2 g5 i2 l2 (k2+1):=c2'.to fun o e=> e5.extBut _ _ ap.TOi2.symm e
 (show wpAny _ _ (gj (.ref z) (.ref g5.objs.size)>>=_) _ _ _);refine ae ?_
 have z6:iK (g5.push {cls:=.type "tuple",data:=.seq #[x,y]}) z TI TO .ellipsis:=ai _ z5
 refine ae (ci z6 (by simp) fun g7 z7 e7=> ?_)
 have z7:iK g7 z TI TO (rawInt g5.objs.size):=z7
 refine ci z7 (by simp) fun g8 z8 e8=> ?_
 have z8:iK g8 z TI TO (rawInt g5.objs.size):=z8
 have up: ∀c o,c≠z -> g5.get? c=some o -> g8.get? c=some o:=fun c o a1 e=> e8.extBut _ _ a1 (e7.extBut _ _ a1 (ai _ e))
 have nz:g5.objs.size≠z:=dP (ar z5)
 have t8:gi g8 g5.objs.size x y:=e8.extBut _ _ nz (e7.extBut _ _ nz (ay _ rfl))
 rw [sz]at z8 t8
 (refine ah ⟨_,rfl,?_⟩)
 show Q (.ref g5.objs.size) _
 rw [sz]
 exact hQ g8 ⟨ap,z8,up _ _ ap.TIz (k5 _ _ ap.TIz ap.TITO ap.TIi1 ap.TIi2 oi),⟨_,_,up _ _ ap.TOz o5⟩,c15.to fun o=> up _ o ap.i1z,c25.to fun o=> up _ o ap.i2z⟩ t8 fun c o a1 a2 a3 a4 e=> up c o a1 (k5 c o a1 a2 a3 a4 e)
theorem azm{b1 b2:Bool}{z TI TO i1 i2 l1 l2:Addr}{k1 k2:Nat}{xs ys:Array af}{Q:Fin -> aj -> Prop}(hh:A.handled=none)(Z:ZAt b1 b2 l1 l2 z TI TO i1 i2 .none k1 k2 s.heap)
  (hl1:kv b1 s.heap l1 xs) (hl2:kv b2 s.heap l2 ys) (hend:xs[k1]?=none\/ys[k2]?=none)
  (hE: ∀h' e,(∀c o,c≠z -> c≠TO -> c≠i1 -> c≠i2 -> s.heap.get? c=some o -> h'.get? c=some o) -> (∃o,h'.get? e=some o/\o.cls=.type "StopIteration") -> E (.ref e) {s with heap:=h'}):
  wpAny (model P w) A (cF.«zip.__next__» ⟨[.ref z],[]⟩) Q E s:=by
 obtain⟨ap,oz,oi,⟨a,b,oo⟩,c1,c2⟩:=Z
 (show wpAny _ _ (field (.ref z) 2 >>=_) _ _ _);refine ae (bc oz rfl (x:=.bool false) rfl ?_)
 (show wpAny _ _ (field (.ref z) 3 >>=_) _ _ _);refine ae (bc oz rfl (x:=.ref TI) rfl (ae (dv oi rfl ?_)))
 (show wpAny _ _ (d5 (.ref z)>>=_) _ _ _);refine ae (ae (bc oz rfl (x:=.none) rfl (ah ?_)))
 simp only [if_true]
 refine ae (cM (ae (bc oz rfl (x:=.ref TO) rfl (ae (ci oz (by simp) fun g1 z1 e1=> ae ?_)))))
 have z1:iK g1 z TI TO .ellipsis:=z1
 have stop: ∀(g:Heap) (o:Obj) (e:Addr),iK g z TI TO .ellipsis -> g.get? e=some o -> o.cls=.type "StopIteration" -> e≠z:=fun g o e hz ho hc q=> by
  subst q;rw [hz]at ho;cases ho;simp at hc
 (simp only [List.zipIdx_cons,List.zipIdx_nil,kQ,List.forIn_nil])
 (refine ae (ae (fU ?_)))
 (show wpAny _ _ (cW (.ref i1)>>=_) _ _ _);cases hx:xs[k1]? with
 |none=>
  refine ae (aea hh (c1.to fun o=> e1.extBut _ _ ap.i1z) (hl1.to fun o=> e1.extBut _ _ ap.l1z) hx fun g2 e e2 ⟨oe,he,ce⟩=> ?_)
  have z2:iK g2 z TI TO .ellipsis:=e2 _ _ ap.i1z.symm z1
  exact ci z2 (by simp) fun g3 _ e3=> hE g3 e (fun c o a1 _ a3 _ q=> e3.extBut _ _ a1 (e2 _ _ a3 (e1.extBut _ _ a1 q))) ⟨oe,e3.extBut _ _ (stop _ _ _ z2 he ce) he,ce⟩
 |some x=>
  have hy:ys[k2]?=none:=hend.elim (fun h=> by rw [hx]at h;cases h) id
  refine ae (aat (c1.to fun o=> e1.extBut _ _ ap.i1z) (hl1.to fun o=> e1.extBut _ _ ap.l1z) hx fun g2 c1' e2=> ah ?_)
  have o2:gi g2 TO a b:=e2.extBut _ _ ap.TOi1 (e1.extBut _ _ ap.TOz oo)
  refine ae (dv o2 rfl (ae (ie o2 fun g3 o3 e3=> ae (iJ (ah (ae (ae (fU ?_))))))))
  have k3: ∀c o,c≠z -> c≠i1 -> c≠TO -> s.heap.get? c=some o -> g3.get? c=some o:=fun c o a1 a2 a3 e=> e3.extBut _ _ a3 (e2.extBut _ _ a2 (e1.extBut _ _ a1 e))
  (show wpAny _ _ (cW (.ref i2)>>=_) _ _ _);refine ae (aea hh (c2.to fun o=> k3 _ o ap.i2z ap.i12.symm ap.TOi2.symm) (hl2.to fun o=> k3 _ o ap.l2z ap.l2i1 ap.l2TO) hy fun g4 e e4 ⟨oe,he,ce⟩=> ?_)
  have z4:iK g4 z TI TO .ellipsis:=e4 _ _ ap.i2z.symm (e3.extBut _ _ ap.TOz.symm (e2.extBut _ _ ap.i1z.symm z1))
  exact ci z4 (by simp) fun g5 _ e5=> hE g5 e (fun c o a1 a2 a3 a4 q=> e5.extBut _ _ a1 (e4 _ _ a4 (k3 c o a1 a3 a2 q))) ⟨oe,e5.extBut _ _ (stop _ _ _ z4 he ce) he,ce⟩
theorem a0n{b1 b2:Bool}{z TI TO i1 i2 l1 l2:Addr}{k1 k2:Nat}{xs ys:Array af}{x y:af}{Q:Option af -> aj -> Prop}(Z:ZAt b1 b2 l1 l2 z TI TO i1 i2 .none k1 k2 s.heap)
  (hl1:kv b1 s.heap l1 xs) (hl2:kv b2 s.heap l2 ys) (hx:xs[k1]?=some x) (hy:ys[k2]?=some y)
  (hQ: ∀h',ZAt b1 b2 l1 l2 z TI TO i1 i2 (rawInt s.heap.objs.size) (k1+1) (k2+1) h' -> gi h' s.heap.objs.size x y ->
   (∀c o,c≠z -> c≠TO -> c≠i1 -> c≠i2 -> s.heap.get? c=some o -> h'.get? c=some o) -> Q (some (.ref s.heap.objs.size)) {s with heap:=h'}):
  wpAny (model P w) A (pyNext (.ref z)) Q E s:=
 have hT:s.TypeIs (.ref z) "zip":=⟨_,Z.oz,rfl⟩
 ae (dq (bz (name:=bJ "__next__") hT ig (bB ig hT F.entry_zip_next (a29 Z hl1 hl2 hx hy fun h' a1 a2 a3=> ah (hQ h' a1 a2 a3)) (F.args_zip_next_1 _))))
theorem av7{b1 b2:Bool}{z TI TO i1 i2 l1 l2:Addr}{k1 k2:Nat}{xs ys:Array af}{Q:Option af -> aj -> Prop}(hh:A.handled=none)(Z:ZAt b1 b2 l1 l2 z TI TO i1 i2 .none k1 k2 s.heap)
  (hl1:kv b1 s.heap l1 xs) (hl2:kv b2 s.heap l2 ys) (hend:xs[k1]?=none\/ys[k2]?=none)
  (hQ: ∀h',(∀c o,c≠z -> c≠TO -> c≠i1 -> c≠i2 -> s.heap.get? c=some o -> h'.get? c=some o) -> Q none {s with heap:=h'}):wpAny (model P w) A (pyNext (.ref z)) Q E s:=
 have hT:s.TypeIs (.ref z) "zip":=⟨_,Z.oz,rfl⟩
 ae (dq (bz (name:=bJ "__next__") hT ig (bB ig hT F.entry_zip_next (azm hh Z hl1 hl2 hend fun h' e hk ⟨o,ho,hc⟩=>
  ae (eD (T:="StopIteration") (b:=true) ⟨o,ho,hc⟩ iE (ah (hQ _ hk)))) (F.args_zip_next_1 _))))
end
def SqB(K:ak)(b:Bool)(H:Hp)(l:Addr)(xs:List V):Prop:=if b=true then SqL K H l xs else SqT K H l xs
theorem Inv.seqB{s:aj}{xs:List V}(I:Inv X pins σ H s)(q:SqB X.K b H l xs): ∃its,jo xs its/\kv b s.heap l its.toArray:=by
 cases b with
 |true=> obtain⟨its,rv,p,_⟩:=I.list q;exact⟨its,rv,p.isList⟩
 |false=> obtain⟨its,rv,p,_⟩:=I.tuple q;exact⟨its,rv,p⟩
noncomputable def a2e(K:ak)(b1 b2:Bool)(l1 l2:Addr):It:=
 ⟨fun i H=> ∃xs ys x y,SqB K b1 H l1 xs/\SqB K b2 H l2 ys/\xs[i]?=some x/\ys[i]?=some y,
   fun i H v H'=> ∃T,v=.ref T/\ ∀xs ys,SqB K b1 H l1 xs -> SqB K b2 H l2 ys -> ∃x y,xs[i]?=some x/\ys[i]?=some y/\New H T (.tup [x,y]) H',
   fun i H=> ∃xs ys,SqB K b1 H l1 xs/\SqB K b2 H l2 ys/\(xs.length <=i\/ys.length <=i)⟩
theorem Inv.seqB_inj{s:aj}{xs ys:List V}(I:Inv X pins σ H s)(p:SqB X.K b H l xs)(q:SqB X.K b H l ys):xs=ys:=by
 cases b with
 |true=> exact I.list_inj p q
 |false=> exact I.tuple_inj p q
theorem ark{x1:Nat}{b1 b2:Bool}(l1 l2 z TI TO i1 i2:Addr):Turn P w K (.Tuple es x1 pos) (a2e K b1 b2 l1 l2) [z,TI,TO,i1,i2] z (fun i h=> ZAt b1 b2 l1 l2 z TI TO i1 i2 .none i i h) where
 mem:=by simp
 obj:=fun i h ⟨_,hz,hTI,⟨a,c,hTO⟩,q1,q2⟩ b hb=> by
  obtain⟨o1,e1,v1,d1⟩:=q1.obj
  obtain⟨o2,e2,v2,d2⟩:=q2.obj
  (simp only [aq,bf,or_false]at hb)
  rcases hb with rfl|rfl|rfl|rfl|rfl
  ·exact⟨_,hz,fun v y=> by cases y⟩
  ·exact⟨_,hTI,fun v y=> by cases y⟩
  ·exact⟨_,hTO,fun v y=> by cases y⟩
  ·exact⟨_,e1,fun v y=> by rw [d1]at y;cases y⟩
  ·exact⟨_,e2,fun v y=> by rw [d2]at y;cases y⟩
 keep:=fun i h h' ⟨D,hz,hTI,⟨a,c,hTO⟩,q1,q2⟩ k=>
  ⟨D,k z (by simp) _ hz,k TI (by simp) _ hTI,⟨a,c,k TO (by simp) _ hTO⟩,q1.to fun o e=> k i1 (by simp) o e,q2.to fun o e=> k i2 (by simp) o e⟩
 item:=by
  intro X hP hw hK hc i pins s σ H E I hf st hg
  subst hP hw hK
  obtain⟨xs,ys,x,y,q1,q2,hx,hy⟩:=hg
  obtain⟨its1,rv1,p1⟩:=I.seqB q1
  obtain⟨its2,rv2,p2⟩:=I.seqB q2
  obtain⟨u1,hu1,ru1⟩:=rv1.get hx
  obtain⟨u2,hu2,ru2⟩:=rv2.get hy
  refine a0n st p1 p2 (x:=u1) (y:=u2) (by simpa using hu1) (by simpa using hu2) fun h' Z a5 k=> ?_
  refine⟨_,rfl,wpAny_letOwnedTupleGo_zip (s:={s with heap:=h'}) Z.oz fun h2' hz' sb=> ?_⟩
  have lt: ∀b∈ [z,TI,TO,i1,i2],b < s.heap.objs.size:=fun b hb=> by
   obtain⟨_,hz,hTI,⟨_,_,hTO⟩,q1,q2⟩:=st
   obtain⟨o1,e1,_⟩:=q1.obj
   obtain⟨o2,e2,_⟩:=q2.obj
   (simp only [aq,bf,or_false]at hb)
   rcases hb with rfl|rfl|rfl|rfl|rfl
   ·exact ar hz
   ·exact ar hTI
   ·exact ar hTO
   ·exact ar e1
   ·exact ar e2
  have I1:Inv X pins σ (upd H s.heap.objs.size (.tup [x,y])) {s with heap:=s.heap.push {cls:=.type "tuple",data:=.seq #[u1,u2]},toks:=s.toks}:=
   I.laid (fun b u e=> ai _ e) (ao _) ⟨by show 2 <=sizeLine;decide,[u1,u2],.cons ru1 (.cons ru2 .nil),⟨_,ay _ rfl⟩⟩
  have nT: ∀b∈ [z,TI,TO,i1,i2],upd H s.heap.objs.size (.tup [x,y]) b=none:=fun b hb=> by
   rw [kq (aP (lt b hb))];exact (hf b hb).1
  have D:=Z.ap
  have I2:=I1.turnedL (h':=h2') (t':=s.toks) (ch:=[z,TI,TO,i1,i2]) (fun b o hb e=> by
   have hbz:b≠z:=fun y=> hb (by simp [y])
   rw [sb.2 b hbz]
   by_cases hT:b=s.heap.objs.size
   ·subst hT
    rw [ay _ rfl]at e
    cases e
    exact a5
   ·rw [jI _ _ _ hT]at e
    exact k b o hbz (fun y=> hb (by simp [y])) (fun y=> hb (by simp [y])) (fun y=> hb (by simp [y])) e) fun b hb=> ⟨nT b hb,(hf b hb).2⟩
  obtain⟨_,_,oi,⟨_,_,oo⟩,c1,c2⟩:=Z
  refine⟨.ref s.heap.objs.size,_,I2,rfl,⟨_,rfl,fun xs' ys' q1' q2'=> ?_⟩,⟨D,hz',sb.extBut _ _ D.TIz oi,⟨_,_,sb.extBut _ _ D.TOz oo⟩,c1.to fun o=> sb.extBut _ _ D.i1z,c2.to fun o=> sb.extBut _ _ D.i2z⟩,nT⟩
  rw [I.seqB_inj q1' q1,I.seqB_inj q2' q2]
  exact⟨x,y,hx,hy,I.fresh,rfl⟩
 done:=by
  intro X hP hw hK hc i pins s σ H E I hf st hg
  subst hP hw hK
  obtain⟨xs,ys,q1,q2,hx⟩:=hg
  obtain⟨its1,rv1,p1⟩:=I.seqB q1
  obtain⟨its2,rv2,p2⟩:=I.seqB q2
  have l1':=rv1.length
  have l2':=rv2.length
  refine av7 (I.ok.hd hc) st p1 p2 ?_ fun h' k=> ⟨rfl,I.turnedL (t':=s.toks) (ch:=[z,TI,TO,i1,i2]) (fun b o hb e=> k b o (fun y=> hb (by simp [y])) (fun y=> hb (by simp [y])) (fun y=> hb (by simp [y])) (fun y=> hb (by simp [y])) e) hf⟩
  rcases hx with hx|hx
  ·exact .inl (by simp;lia)
  ·exact .inr (by simp;lia)
 self:=fun _ _ _ _ _ st h=> wpAny_pyIter_zip st.oz h
noncomputable def adt(b:Bool):String:=if b=true then "list_iterator" else "tuple_iterator"
section
variable{P:aV}{w:aZ}{A:br}{E:af -> aj -> Prop}{s:aj}
theorem ahr{xs:Array af}(h:kv b s.heap l xs)(hQ:Q (.ref s.heap.objs.size) {s with heap:=s.heap.push {cls:=.type (adt b),data:=.fields #[.ref l,.int 0 0]}}):wpAny (model P w) A (pyIter (.ref l)) Q E s:=by
 cases b with
 |true=> exact ef h hQ
 |false=> exact iT h hQ
theorem awp{i:Addr}(e:h.get? i=some {cls:=.type (adt b),data:=.fields #[.ref l,.int 0 0]}):vy b h i l 0:=by
 cases b with
 |true=> exact⟨_,e,rfl,rfl⟩
 |false=> exact⟨_,e,rfl,rfl⟩
def zH(h:Heap)(b1 b2:Bool)(l1 l2:Addr):Heap:=
 ((((h.push {cls:=.type (adt b1),data:=.fields #[.ref l1,.int 0 0]}).push {cls:=.type (adt b2),data:=.fields #[.ref l2,.int 0 0]}).push {cls:=.type "tuple",data:=.seq #[.ref h.objs.size,.ref (h.objs.size+1)]}).push {cls:=.type "tuple",data:=.seq #[.none,.none]}).push
  {cls:=.type "zip",data:=.fields #[.none,.bool false,.bool false,.ref (h.objs.size+2),.ref (h.objs.size+3)]}
theorem apv(b1 b2:Bool)(l1 l2:Addr)(xs ys:Array af):
  Meets (cF.«zip.__new__» ⟨[.type "zip",.ref l1,.ref l2],[]⟩) (fun _ R s=> kv b1 s.heap l1 xs/\kv b2 s.heap l2 ys/\R (.ok (.ret (.ref (s.heap.objs.size+4)))) {s with heap:=zH s.heap b1 b2 l1 l2}):=
 .of_wp fun prog w A R s h=> by
  obtain⟨hp,g,d,tk,os⟩:=s;obtain⟨h1,h2,h⟩:=h
  have hsub:=sub_zip
  have L1:kv b1 (mW ⟨hp,g,d,tk,os⟩) l1 xs:=h1
  have L2:kv b2 (mW ⟨hp.push {cls:=.type (adt b1),data:=.fields #[.ref l1,.int 0 0]},g,d,tk,os⟩) l2 ys:=h2.to fun o=> ai _
  wp_walk using ahr L1,ahr L2
  refine⟨_,rfl,?_⟩
  simp only [bd]
  exact h
theorem at9{b1 b2:Bool}{l1 l2:Addr}{xs ys:Array af}(h1:kv b1 s.heap l1 xs)(h2:kv b2 s.heap l2 ys)(h: ∀h',ZAt b1 b2 l1 l2 (s.heap.objs.size+4) (s.heap.objs.size+2) (s.heap.objs.size+3) s.heap.objs.size (s.heap.objs.size+1) .none 0 0 h' -> (∀c o,s.heap.get? c=some o -> h'.get? c=some o) -> Q (.ref (s.heap.objs.size+4)) {s with heap:=h'}):
  wpAny (model P w) A (call (.type "zip") [.ref l1,.ref l2]) Q E s:=by
 refine callType_new F.called_zip (by decide) (F.typeCall_zip_2 _ _) (F.newCall_zip_2 _ _) (fun obj=> F.args_object_init_3 obj _ _) F.entry_zip_new (apv b1 b2 l1 l2 xs ys) ⟨h1,h2,?_⟩
 have q1:=h1.lt
 have q2:=h2.lt
 have up: ∀(g:Heap) (o:Obj) (n:Nat),n=g.objs.size -> o.isFreed=false -> (g.push o).get? n=some o:=fun g o n e hf=> by subst e;exact ay _ hf
 have sz: ∀(g:Heap) (o:Obj) (n:Nat),g.objs.size=n -> (g.push o).objs.size=n+1:=fun g o n e=> by rw [bd,e]
 have g5:iK (zH s.heap b1 b2 l1 l2) (s.heap.objs.size+4) (s.heap.objs.size+2) (s.heap.objs.size+3) .none:=up _ _ _ (by simp only [bd]) rfl
 have g4:gi (zH s.heap b1 b2 l1 l2) (s.heap.objs.size+3) .none .none:=ai _ (up _ _ _ (by simp only [bd]) rfl)
 have g3:gi (zH s.heap b1 b2 l1 l2) (s.heap.objs.size+2) (.ref s.heap.objs.size) (.ref (s.heap.objs.size+1)):=ai _ (ai _ (up _ _ _ (by simp only [bd]) rfl))
 have g2:(zH s.heap b1 b2 l1 l2).get? (s.heap.objs.size+1)=some {cls:=.type (adt b2),data:=.fields #[.ref l2,.int 0 0]}:=ai _ (ai _ (ai _ (up _ _ _ (by simp only [bd]) rfl)))
 have g1:(zH s.heap b1 b2 l1 l2).get? s.heap.objs.size=some {cls:=.type (adt b1),data:=.fields #[.ref l1,.int 0 0]}:=ai _ (ai _ (ai _ (ai _ (up _ _ _ rfl rfl))))
 refine⟨⟨_,g5,rfl⟩,h _ ⟨?_,g5,g3,⟨_,_,g4⟩,awp g1,awp g2⟩ fun c o x=> ai _ (ai _ (ai _ (ai _ (ai _ x))))⟩
 constructor <;> (unfold Addr at*;lia)
end
def a6v(K:ak)(ta:TA):TI:=fun σ H R=> ta σ H fun vs H1=> ∃l1 l2 xs ys b1 b2,vs=[.ref l1,.ref l2]/\SqB K b1 H1 l1 xs/\SqB K b2 H1 l2 ys/\R (a2e K b1 b2 l1 l2) H1
theorem az3{x1:Nat}{a b:Expr}{ta:TA}{p:Pos}(hg:Gl X "zip")(hm:X.mg "zip"=none)(ha:PA X [a,b] ta)(hs:starEach [a,b] X.env=[(false,eval a X.env),(false,eval b X.env)]:=by rfl)(hs2:starEach [b] X.env=[(false,eval b X.env)]:=by rfl):
  PI X (.Tuple es x1 tp) (.Call (.Name "zip" p) [a,b] [] pos) (a6v X.K ta):=by
 intro pins s σ H R I h
 refine Call_ (abp I hg hm a6m (dQ (thn (ha pos pins s σ H _ I h) fun us s1 ⟨vs,H1,I1,r1,q1⟩=> ?_) (by rw [hs,hs2]) (by rw [hs2];rfl)))
 obtain⟨l1,l2,xs,ys,b1,b2,e,q1,q2,q⟩:=q1
 subst e
 cases r1 with
 | cons r rr=>
  cases rr with
  | cons r' rr=>
   cases rr
   cases r
   cases r'
   obtain⟨its1,rv1,p1⟩:=I1.seqB q1
   obtain⟨its2,rv2,p2⟩:=I1.seqB q2
   refine at9 p1 p2 fun h' Z k=> wpAny_pyIter_zip (s:={s1 with heap:=h'}) Z.oz ?_
   refine⟨s1.heap.objs.size+4,_,_,_,H1,rfl,I1.kept (t':=s1.toks) k,ark l1 l2 _ _ _ _ _,Z,fun b hb=> ?_,q⟩
   have hb':s1.heap.objs.size <=b:=by
    (simp only [aq,bf,or_false]at hb)
    rcases hb with rfl|rfl|rfl|rfl|rfl <;> (unfold Addr at*;lia)
   exact I1.fpOk hb' (I1.hok.fresh hb')
end L2
namespace PF
open PySem PySem.Spec
open L2
variable[XW]
noncomputable def sqD:D -> Option (Bool×List ag)
 |.lst xs=> some (true,xs)
 |.tup xs=> some (false,xs)
 |_=> none
def aki(ds:List D)(s:S):R Wk:=match ds with
 |[a,b]=> match sqD a,sqD b with
  |some (_,xs),some (_,ys)=>.ok ((xs.zip ys).map fun p=> D.tup [p.1,p.2],none) s
  |_,_=>.bad
 |_=>.bad
def aqe(f:FA):FI:=fun ρ s=> (f ρ s).bind aki
theorem ai9{d:D}(r:RD K as H v d)(e:sqD d=some (b,xs)): ∃l vs,v=.ref l/\(∀as2 H2,Step0 as H as2 H2 -> SqB K b H2 l vs)/\TDs as H vs xs:=by
 cases d with
 | da d=>
  cases d with
  |list zs=>
   cases e
   obtain⟨l,vs,rfl,n,q,t⟩:=r.lst_inv
   exact⟨l,vs,rfl,fun as2 H2 st=> SqL.of (st.keep _ _ n q),t⟩
  | tuple zs=>
   cases e
   cases r with
   |da t=> cases t with
    |tup n q t=> exact⟨_,_,rfl,fun as2 H2 st=> SqT.of (st.keep _ _ n q),t⟩
  |_=> cases e
 |_=> cases e
theorem azs{x1:Nat}{a b:Expr}{f:FA}{p:Pos}(hm:X.mg "zip"=none)(h:RA X [a,b] f)(hg:Gl X "zip":=by rfl)(hs:starEach [a,b] X.env=[(false,eval a X.env),(false,eval b X.env)]:=by rfl)(hs2:starEach [b] X.env=[(false,eval b X.env)]:=by rfl):
  RI X (.Tuple es x1 tp) (.Call (.Name "zip" p) [a,b] [] pos) (aqe f):=by
 obtain⟨t,pa,ra⟩:=h.ex
 refine⟨_,az3 hg hm pa hs hs2,fun as σ H ρ s Q rl en h=> ?_⟩
 refine ra as σ H ρ s _ rl en (Dn.bind h fun ds s1 as1 H1 vs st1 rl1 r1 h1=> ?_)
 unfold aki at h1
 split at h1
 ·split at h1
  ·rename_i da db _ xd bx _ yd ea eb
   obtain⟨v,w,rfl,rv,rw⟩:=r1.two
   obtain⟨l1,xs,rfl,k1,t1⟩:=ai9 rv ea
   obtain⟨l2,ys,rfl,k2,t2⟩:=ai9 rw eb
   refine⟨l1,l2,xs,ys,_,_,rfl,k1 as1 H1 (Step.refl _ _).toStep0,k2 as1 H1 (Step.refl _ _).toStep0,Dn.now (Q:=Q) h1 rl1 ?_⟩
   intro as2 H2 s2 st2 rl2 _ i
   have sq1:=k1 as2 H2 st2
   have sq2:=k2 as2 H2 st2
   have u1:=t1.mono0 st2
   have u2:=t2.mono0 st2
   refine⟨fun hl=> ⟨xs,ys,sq1,sq2,?_⟩,fun d hd=> ?_⟩
   ·simp only [am,List.length_zip]at hl
    rw [u1.length,u2.length]
    lia
   ·rw [aR]at hd
    cases q:(List.zip _ _)[i]? with
    |none=> rw [q]at hd;cases hd
    |some pr=>
     rw [q]at hd
     cases hd
     rw [List.getElem?_zip_eq_some]at q
     obtain⟨x,hx,rx⟩:=u1.get q.1
     obtain⟨y,hy,ry⟩:=u2.get q.2
     refine⟨⟨xs,ys,x,y,sq1,sq2,hx,hy⟩,fun vv H3 hv=> ?_⟩
     obtain⟨T,rfl,hT⟩:=hv
     obtain⟨x',y',hx',hy',nw⟩:=hT xs ys sq1 sq2
     rw [hx]at hx';cases hx'
     rw [hy]at hy';cases hy'
     exact⟨j4 nw,rl2.new nw,.da (.tup (fun z=> rl2.has z nw.no) nw.at (.cons (rx.mono (j4 nw)) (.cons (ry.mono (j4 nw)) .nil)))⟩
  ·exact h1.elim
 ·exact h1.elim
end PF
namespace PF
open PySem PySem.Spec PyProof.Rows PyProof.Rows.KTD
open L2
variable[XW]
end PF
namespace PF
open PySem PySem.Spec
open L2
variable[XW]
end PF
namespace L2
open PySem PySem.Spec PyProof.Rows
theorem ar7:fillsNumberSlot (.type "tuple") "mul"=pure false:=PySem.fillsNumberSlot_seq (id:="tuple.__mul__") (r:=some (.builtin "tuple.__rmul__")) kE.lookup (by decide+kernel) F.slot_tuple_rmul.lookup (by decide+kernel)
theorem au1:seqRepeat? (.type "tuple")=pure (some (.builtin "tuple.__mul__")):=by
 unfold seqRepeat?
 rw [PySem.seqSlot_of (T:="tuple") (name:="__mul__") (id:="tuple.__mul__") kE.lookup (by decide+kernel),PySem.seqSlot_of (T:="tuple") (name:="__rmul__") (id:="tuple.__rmul__") F.slot_tuple_rmul.lookup (by decide+kernel)];rfl
theorem alr(items:Array af): ∀(k:Nat) (acc:Array af),((aA k items).foldl (· ++ ·) acc).size=acc.size+k*items.size
 |0,acc=> by simp
 |k+1,acc=> by
  rw [cG,dX,alr items k,Array.size_append,Nat.succ_mul];lia
theorem akv(items:List af): ∀(k:Nat) (acc:Array af),((aA k items.toArray).foldl (· ++ ·) acc).toList=acc.toList++(aA k items).flatten
 |0,acc=> by simp
 |k+1,acc=> by
  rw [cG,dX,akv items k,cG,dG];simp
theorem a10(l:Addr)(items:Array af)(n:Nat)(x:Int)(u:Tok)(h0: -1000 < x)(h1:x < 1000)(h2:items.size < 1000)(he:items.isEmpty=false):
  Meets (cF.«tuple.__mul__» ⟨[.ref l,.int x u],[]⟩) (fun _ R s=> s.heap.get? l=some {cls:=.type "tuple",data:=.seq items n}/\
   if x=1 then R (.ok (.ret (.ref l))) s else R (.ok (.ret (.ref s.heap.objs.size))) {s with heap:=s.heap.push {cls:=.type "tuple",data:=.seq ((aA x.toNat items).foldl (· ++ ·) #[])}}):=
 .of_wp fun prog w A R s h=> by
  (obtain⟨hp,g,d,tk,os⟩:=s;obtain⟨hl,h⟩:=h)
  wp_walk
  (refine eZ (by simp;lia) ?_)
  wp_walk
  by_cases e1:x=1
  ·rw [if_pos e1]at h
   refine wpAny_ite_true (by simp [e1]) ?_
   wp_walk
   exact⟨_,rfl,h⟩
  ·rw [if_neg e1]at h
   refine eZ (by simp [he,e1]) ?_
   by_cases e2:x <=0
   ·refine wpAny_ite_true (by simp [e2]) ?_
    have e3:x.toNat=0:=by lia
    rw [e3]at h
    wp_walk
    exact⟨_,rfl,h⟩
   ·refine eZ (by simp [he];lia) ?_
    obtain⟨k,rfl⟩: ∃k:Nat,x=(k:Int):=⟨x.toNat,by lia⟩
    have b0:items.size*k < 1000000:=gV (c:=1000) (d:=1000) h2 (by lia)
    have b1:(items.size:Int)*(k:Int) < 1000000:=by
     have hb:=Int.ofNat_lt.mpr b0
     rw [Int.natCast_mul]at hb
     exact hb
    generalize hp0:(items.size:Int)*(k:Int)=pr at b1⊢
    (refine eZ (by simp;lia) ?_)
    refine eZ (by unfold Builtin.Tuple.tupleTooMany;rw [sizeLine_eq];simp;lia) ?_
    rw [cH]at h⊢
    wp_walk
    have hz:((aA k items).foldl (· ++ ·) #[]).size <=sizeLine:=by
     rw [alr,sizeLine_eq,Nat.mul_comm];simp;lia
    refine eZ (decide_eq_false (jP.mpr hz)) ?_
    wp_walk
    exact⟨_,rfl,h⟩
theorem avw(a:Int)(t:Tok)(l:Addr)(items:Array af)(n:Nat):
  Meets (cF.«int.__rmul__» ⟨[.int a t,.ref l],[]⟩) (fun _ R s=> s.heap.get? l=some {cls:=.type "tuple",data:=.seq items n}/\R (.ok (.ret lW)) s):=
 .of_wp fun prog w A R s h=> by
  (obtain⟨hp,g,d,tk,os⟩:=s;obtain⟨hl,h⟩:=h)
  wp_walk
  exact⟨_,rfl,h⟩
section
variable{P:aV}{w:aZ}{A:br}{E:af -> aj -> Prop}{s:aj}
theorem az5{x:Int}{u:Tok}(ho:s.heap.get? l=some {cls:=.type "tuple",data:=.seq items n})(h0: -1000 < x)(h1:x < 1000)(h2:items.size < 1000)(he:items.isEmpty=false)(h:if x=1 then Q (.ref l) s else Q (.ref s.heap.objs.size) {s with heap:=s.heap.push {cls:=.type "tuple",data:=.seq ((aA x.toNat items).foldl (· ++ ·) #[])}}):wpAny (model P w) A (binaryOp .Mult (.ref l) (.int x u)) Q E s:=by
 refine jS (T:="tuple") (U:="int") (by decide) ⟨_,ho,rfl⟩ (fun s'=> jM s' x u) ar7 F.fills_int_mul ii au1 F.slot_int_index.lookup
  (h8 ii (jM s x u) F.entry_int_rmul (F.args_int_rmul_2 _ _) (avw x u l items n) ⟨ho,rfl,⟨_,ho,rfl⟩,h8 kE ⟨_,ho,rfl⟩ F.entry_tuple_mul (F.args_tuple_mul_2 _ _) (a10 l items n x u h0 h1 h2 he) ⟨ho,?_⟩⟩)
 by_cases e:x=1
 ·rw [if_pos e]at h⊢;exact h
 ·rw [if_neg e]at h⊢;exact h
end
end L2
namespace PF
open PySem PySem.Spec
open L2
variable[XW]
def aqg(dx dy:D)(s:S):R D:=match dx,dy with
 |.tup xs,.int i=> if -1000 < i/\i < 1000/\xs.length < 1000/\xs≠ [] then .ok (.tup (aA i.toNat xs).flatten) s else .bad
 |dx,dy=> aao dx dy s
theorem TDs.app: ∀{vs ws:List V} {ds es:List ag},TDs as H vs ds -> TDs as H ws es -> TDs as H (vs++ws) (ds++es)
 |_,_,_,_,.nil,s=> s
 |_,_,_,_,.cons a r,s=>.cons a (TDs.app r s)
theorem TDs.rep{vs:List V}{ds:List ag}(t:TDs as H vs ds): ∀k:Nat,TDs as H (aA k vs).flatten (aA k ds).flatten
 |0=>.nil
 |k+1=> by
  rw [cG,cG,dG,dG]
  exact t.app (TDs.rep t k)
theorem agx{vs:List V}{us:List af}(r:jo vs us): ∀k:Nat,jo (aA k vs).flatten (aA k us).flatten
 |0=>.nil
 |k+1=> by
  rw [cG,cG,dG,dG]
  exact r.append (agx r k)
theorem a49:Op2 X (binaryOp .Mult) aqg:=qw fun pins sh σ H as s x y dx dy v u Q I rl r1 r2 rx ry h=> by
 unfold aqg at h
 split at h
 ·rename_i xs i
  split at h
  ·rename_i hb
   obtain⟨b1,b2,b3,b4⟩:=hb
   obtain⟨p,vs,rfl,n,e,t⟩:=r1.tup_inv
   cases r2.int_inv
   cases rx
   obtain⟨tk,rfl⟩:=ry
   obtain⟨z,its,rv,c,eo⟩:=(show j7 X.prog X.w H sh.heap p (.tup vs) from I.hok p _ e)
   have hl1:=t.length
   have hl2:=rv.length
   have hne:its.toArray.isEmpty=false:=by
    cases its with
    |nil=> simp at hl2;rw [hl2]at hl1;simp at hl1;exact absurd hl1.symm (by simpa using b4)
    |cons a r=> rfl
   refine az5 eo b1 b2 (by rw [az];lia) hne ?_
   by_cases e1:i=1
   ·rw [if_pos e1]
    subst e1
    have:(aA (1:Int).toNat xs).flatten=xs:=by simp
    rw [this]at h
    exact⟨.ref p,H,I,rfl,Dn.now (Q:=Q) h rl (.da (.tup n e t))⟩
   ·rw [if_neg e1]
    have hz:(aA i.toNat vs).flatten.length <=sizeLine:=by
     rw [mx,List.map_replicate,lr,sizeLine_eq]
     have:=gV (a:=i.toNat) (c:=1000) (b:=vs.length) (d:=1000) (by lia) (by lia)
     lia
    have I2:Inv X pins σ (upd H sh.heap.objs.size (.tup (aA i.toNat vs).flatten)) {sh with heap:=sh.heap.push {cls:=.type "tuple",data:=.seq ((aA i.toNat its.toArray).foldl (· ++ ·) #[])},toks:=sh.toks}:=
     I.laid (fun b o e=> ai _ e) (ao _) ⟨hz,(aA i.toNat its).flatten,agx rv _,0,by
      have:=akv its i.toNat #[]
      rw [show ((aA i.toNat its).flatten).toArray=(aA i.toNat its.toArray).foldl (· ++ ·) #[] from by
       apply Array.toList_inj.mp;rw [this];simp]
      exact ay _ rfl⟩
    have nw:New H sh.heap.objs.size (.tup (aA i.toNat vs).flatten) (upd H sh.heap.objs.size (.tup (aA i.toNat vs).flatten)):=⟨I.hok.fresh (ao _),rfl⟩
    exact⟨.ref _,_,I2,rfl,h (.ref _) as _ (j4 nw) (rl.new nw) (.da (.tup (fun z=> rl.has z nw.no) nw.at ((t.rep _).mono (j4 nw))))⟩
  ·exact h.elim
 ·obtain⟨r,o,f⟩:=(ayw (X:=X)).ex
  exact o pins sh σ H x y v u Q I rx ry (f as H s x y dx dy Q rl r1 r2 h)
end PF
namespace PF
open PySem PySem.Spec
open L2
variable[XW]
end PF
namespace L2
open PySem PySem.Spec PyProof.Rows
section
variable{P:aV}{w:aZ}{A:br}{E:af -> aj -> Prop}{s:aj}
theorem az6{x:Int}{u:Tok}(ho:s.heap.get? l=some {cls:=.type "list",data:=.seq items n})(h0: -1000 < x)(h1:x < 1000)(h2:items.size < 1000)(h:Q (.ref s.heap.objs.size) {s with heap:=s.heap.push {cls:=.type "list",data:=.seq (aA x.toNat items.toList).flatten.toArray}}):wpAny (model P w) A (binaryOp .Mult (.ref l) (.int x u)) Q E s:=by
 have b0:items.size*x.toNat < 1000000:=gV (c:=1000) (d:=1000) h2 (by lia)
 refine jS (T:="list") (U:="int") (by decide) ⟨_,ho,rfl⟩ (fun s'=> jM s' x u) noFill_list_mul F.fills_int_mul ii repeat_list F.slot_int_index.lookup --
  (h8 ii (jM s x u) F.entry_int_rmul (F.args_int_rmul_2 _ _) (lm_int_rmul_list_any x u l items n none #[])
   ⟨ho,rfl,⟨_,ho,rfl⟩,h8 F.slot_list_mul ⟨_,ho,rfl⟩ F.entry_list_mul (F.args_list_mul_2 _ _) --
    (lm_list_mul_any l items n none #[] x u (by simp [Builtin.List.listFitsIndex];lia) (by lia) (by simp [Builtin.List.listTooLong,sizeLine];lia)) ⟨ho,?_⟩⟩)
 have e:=listMul_foldl_if items x.toNat
 show Q _ _
 rw [e]
 exact h
end
end L2
namespace PF
open PySem PySem.Spec
open L2
variable[XW]
def aht(m:Bool)(dx dy:D)(s:S):R D:=match toL s dx,dy with
 |some xs,.int i=> if -1000 < i/\i < 1000/\xs.length < 1000 then vq m (aA i.toNat xs).flatten s else .bad
 |_,_=> aqg dx dy s
theorem RDs.rep{K:ak}{as:As}{H:Hp}{vs:List V}{ds:List D}(t:RDs K as H vs ds): ∀k:Nat,RDs K as H (aA k vs).flatten (aA k ds).flatten
 |0=>.nil
 |k+1=> by
  rw [cG,cG,dG,dG]
  exact t.append (RDs.rep t k)
theorem a2t(m:Bool):Op2 X (binaryOp .Mult) (aht m):=qw fun pins sh σ H as s x y dx dy v u Q I rl r1 r2 rx ry h=> by
 unfold aht at h
 split at h
 ·rename_i xs i hx
  split at h
  ·rename_i hb
   obtain⟨b1,b2,b3⟩:=hb
   obtain⟨p,vs,rfl,e,t⟩:=ab0 rl r1 hx
   cases r2.int_inv
   cases rx
   obtain⟨tk,rfl⟩:=ry
   obtain⟨z,its,c,rv,eo⟩:=(show j7 X.prog X.w H sh.heap p (.lst vs) from I.hok p _ e)
   have hl1:=t.length
   have hl2:=rv.length
   refine az6 eo b1 b2 (by rw [az];lia) ?_
   have hz:(aA i.toNat vs).flatten.length <=sizeLine:=by
    rw [mx,List.map_replicate,lr,sizeLine_eq]
    have:=gV (a:=i.toNat) (c:=1000) (b:=vs.length) (d:=1000) (by lia) (by lia)
    lia
   have I2:Inv X pins σ (upd H sh.heap.objs.size (.lst (aA i.toNat vs).flatten)) {sh with heap:=sh.heap.push {cls:=.type "list",data:=.seq (aA i.toNat its.toArray.toList).flatten.toArray},toks:=sh.toks}:=
    I.laid (fun b o e=> ai _ e) (ao _) ⟨hz,(aA i.toNat its).flatten,0,agx rv _,ay _ rfl⟩
   have nw:New H sh.heap.objs.size (.lst (aA i.toNat vs).flatten) (upd H sh.heap.objs.size (.lst (aA i.toNat vs).flatten)):=⟨I.hok.fresh (ao _),rfl⟩
   exact⟨.ref _,_,I2,rfl,aah h rl (t.rep _) nw⟩
  ·exact h.elim
 ·obtain⟨r,o,f⟩:=(a49 (X:=X)).ex
  exact o pins sh σ H x y v u Q I rx ry (f as H s x y _ _ Q rl r1 r2 h)
end PF
namespace PF
open PySem PySem.Spec
open L2
variable[XW]
end PF
namespace PF
open PySem PySem.Spec L2
theorem u70(hr:Room k A):A.units+70 < cLine:=by have:=hr.un;lia
section
variable{s:S}{m:Bool}{n:Nat}{x y:Str}{b:Bool}{xs ys:List ag}{ds es:List D}{d e v o:D}{ρ:En}{kvs:List (ag×D)}{k:ag}
theorem bar{f:FA}:aqe f ρ s=(f ρ s).bind aki:=(rfl)
theorem a9p:aki [.tup xs,.tup ys] s=.ok ((xs.zip ys).map fun p=> D.tup [p.1,p.2],none) s:=(rfl)
theorem au0(h:s[n]?=some (.lst (xs.map D.da))):vf [.ref n] s=.ok (.tup xs) s:=by
 show (match (match s[n]? with|some (O.lst ds)=> some ds|_=> none) with|some xs=> agl xs s|none=>.bad)=_
 rw [h]
 show (match ku (xs.map D.da) with|some xs=> R.ok (D.tup xs) s|none=>.bad)=_
 rw [vc]
theorem a3q(h:s[n]?=some (.lst ds)):ahb (.ref n) s=.ok (ds,some (n,ds)) s:=by
 show (match s[n]? with|some (O.lst ds)=> R.ok (ds,some (n,ds)) s|_=>.bad)=_
 rw [h]
end
theorem afr{g:Tg}{ft:FT}{fe:FE}{ρ0:En}{all:List D}{s:S}{α:Type}(c:α -> D)(p:α -> Bool)(f:α -> ag): ∀(l:List α),(∀a∈l,∃ρ1,vh g (c a) ρ0=some ρ1/\ft ρ1 s=.ok (p a) s/\(p a=true -> fe ρ1 s=.ok (.da (f a)) s)) ->
  qi g ft fe ρ0 (all,none) (l.map c) s=.ok (((l.filter p).map f).map D.da) s
 |[],_=> rfl
 | a::r,h=> by
  obtain⟨ρ1,e,e1,e2⟩:=h a aD
  have ih:=afr (all:=all) c p f r fun b hb=> h b (aB _ hb)
  rw [aL,aei e,e1,R.calm_ok,R.bind_ok]
  cases hp:p a with
  |false=>
   rw [alg,ih,eP (by simp [hp])]
  |true=>
   rw [aks,e2 hp,R.calm_ok,R.bind_ok,amh,ih,R.bind_ok,aid,eQ hp]
   rfl
end PF
namespace PF
open PySem PySem.Spec
open L2
open PyProof.Rows (envOfC)
section XWs
variable[XW]
noncomputable def putN(f:Str)(d:D):List (Str×D) -> List (Str×D)
 |[]=> [(f,d)]
 |(g,x)::r=> if g=f then (g,d)::r else (g,x)::putN f d r
theorem FRs.put{f:Str}{v:V}{d:D}(r:RD K as H v d): ∀{l:List (Str×V)} {fs:List (Str×D)},FRs K as H l fs -> FRs K as H (vn f v l) (putN f d fs)
 |_,_,.nil=>.cons r .nil
 |_,_,.cons a t=> by
  unfold vn putN
  split
  ·exact .cons r t
  ·exact .cons a (FRs.put r t)
theorem FRs.look{f:Str}: ∀{l:List (Str×V)} {fs:List (Str×D)},FRs K as H l fs -> (∀d,fs.lookup f=some d -> ∃v,l.lookup f=some v/\RD K as H v d)/\(fs.lookup f=none -> l.lookup f=none)
 |_,_,.nil=> ⟨fun d e=> (by cases e),fun _=> rfl⟩
 | _,_,.cons (f:=g) (v:=v) (d:=x) a t=> by
  have ih:=FRs.look (f:=f) t
  by_cases z:(f==g)=true
  ·refine⟨fun d e=> ⟨v,?_,?_⟩,fun e=> ?_⟩
   ·rw [cv,z]
   ·rw [cv,z]at e;cases e;exact a
   ·rw [cv,z]at e;cases e
  ·rw [Bool.not_eq_true]at z
   refine⟨fun d e=> ?_,fun e=> ?_⟩
   ·rw [cv,z]at e
    obtain⟨v',h1,h2⟩:=ih.1 d e
    exact⟨v',by rw [cv,z];exact h1,h2⟩
   ·rw [cv,z]at e
    rw [cv,z];exact ih.2 e
theorem FRs.len: ∀{l:List (Str×V)} {fs:List (Str×D)},FRs K as H l fs -> l.length=fs.length
 |_,_,.nil=> rfl
 |_,_,.cons _ t=> congrArg (· +1) (FRs.len t)
abbrev a8g:=List (Str×List Str)
end XWs
noncomputable def axw(st:Stmt)(j:Nat):Stmt:=match st with
 |.ClassDef (body:=b) ..=> b.getD j (.Pass ⟨0,0,0,0⟩)
 |_=>.Pass ⟨0,0,0,0⟩
section
variable{P:aV}{w:aZ}{K:ak}{mg:Str -> Option af}{base:Heap}{x q C:Str}{st:Stmt}{N ps:List Str}{k:Nat}
theorem fnQ{f:Addr}(F:Fun K x q st f fd)(S:FnScope N ps (jg st)){m:Nat}(hm:N.length=m)(hn:ps.length=n)(hbody:BodyOk P w K mg base N q st k fb):FnOk P w K mg base (CX1 P w) (k+1) f fd ps (spF K n (jz m fb)):=
 F.okX S (fun vs H Q E h=> by rw [hn];exact h.1) fun cdv A outer s H vs Q E hr h=> ai7 hm hbody f cdv A outer s H vs Q E hr h
end
end PF
namespace PF
open PySem PySem.Spec
open L2
variable[XW]
section
variable{X:Cx}{pins:List (Addr×Obj)}{σ:St}{H:Hp}{s:aj}{as:As}
theorem am0(i:Int)(d:ag):d.shown.length <=(lu [(.int i,d)]).shown.length:=by
 obtain⟨p,hp,hl⟩:=PyData.shownKv_val_le [(.int i,d)] d.shown (by simp [cu])
 rw [show (lu [(.int i,d)]).shown=dictText (PyData.shownKv [(.int i,d)]) by simp only [bQ]]
 exact ax hl (dictText_mem_le hp)
mutual
theorem TD.repr(I:Inv X pins σ H s): ∀{v:V} {d:ag} {u:af},TD as H v d -> RelV v u -> d.showable=true -> d.shown.length <=sizeLine -> ∃bs,ReadAtMost s.heap d.depth bs/\ReprK X.prog X.w bs s.heap d.depth u d.shown
 |_,_,u,.non,r,_,_=> by
  cases (show u=bP from r)
  exact⟨[],(fun _ h=> nomatch h),by simp only [bQ];exact .of_is ReprIs.none _ _ _⟩
 |_,_,u,.bl b,r,_,_=> by
  cases (show u=eV b from r)
  exact⟨[],(fun _ h=> nomatch h),by simp only [bQ];exact .of_is (ReprIs.bool b) _ _ _⟩
 |_,_,u,.int i,r,hs,_=> by
  obtain⟨t,e⟩:=(show∃t,u=dH i t from r)
  subst e
  exact⟨[],(fun _ h=> nomatch h),by simp only [bQ];exact .of_is (ReprIs.int t (by simpa [bU] using hs)) _ _ _⟩
 |_,_,u,.str x,r,_,hz=> by
  obtain⟨t,e⟩:=(show∃t,u=fE x t from r)
  subst e
  exact⟨[],(fun _ h=> nomatch h),by simp only [bQ];exact .of_is (ReprIs.str x t (by simpa only [bQ] using hz)) _ _ _⟩
 |_,_,u,.tup (p:=a) (xs:=xs) (ds:=ds) n e q,r,hs,hz=> by
  obtain⟨cs,rd⟩:=TD.reads I (.tup n e q) r
  cases (show u=aH a from r)
  obtain⟨z,its,rv,p⟩:=(show j7 X.prog X.w H s.heap a (.tup xs) from I.hok a _ e)
  obtain⟨o,h1,h2,k,h3⟩:=p.tup
  have hz2:(tupleText (cu ds)).length <=sizeLine:=by simpa only [bQ] using hz
  obtain⟨bs,hb,hk⟩:=TDs.repr I q rv (by simpa [bU] using hs) (fun t ht=> ax (tupleText_mem_le ht) hz2)
  have hna:a∉bs:=eg rd (by simp only [aE];lia) hb
  refine⟨a::bs,ij rd (by simp only [aE];lia) hb,?_⟩
  (simp only [aE,bQ])
  exact ReprK.tuple h1 h2 h3 hna (by simpa using hk)
 | _,_,u,.lst (p:=a) (xs:=xs) (ds:=ds) n e q,r,hs,hz=> by
  obtain⟨cs,rd⟩:=TD.reads I (.lst n e q) r
  cases (show u=aH a from r)
  obtain⟨z,its,k,rv,h1⟩:=(show j7 X.prog X.w H s.heap a (.lst xs) from I.hok a _ e)
  have hz2:(listText (cu ds)).length <=sizeLine:=by simpa only [bQ] using hz
  obtain⟨bs,hb,hk⟩:=TDs.repr I q rv (by simpa [bU] using hs) (fun t ht=> ax (listText_mem_le ht) hz2)
  have hna:a∉bs:=eg rd (by simp only [aE];lia) hb
  refine⟨a::bs,ij rd (by simp only [aE];lia) hb,?_⟩
  (simp only [aE,bQ])
  cases its with
  |nil=>
   cases rv
   cases q
   (simp only [cu,listText_nil])
   exact ReprK.listEmpty h1 rfl rfl
  |cons x l=> exact ReprK.list h1 rfl rfl hna (by simpa using hk.length_eq) (fun i y ey=> hk.item i y (by simpa using ey))
 |_,_,u,.dct (p:=a) n e,r,hs,hz=> by
  obtain⟨cs,rd⟩:=TD.reads I (.dct n e) r
  cases (show u=aH a from r)
  obtain⟨hsys,o,es,ep,h1,h2,h3,h4⟩:=af0 I e
  refine⟨[a],ij (n:=0) rd (dw _) (fun _ h=> nomatch h),?_⟩
  (simp only [aE,bQ,gF])
  refine ReprK.dict (as:=[]) h1 h2 h3 hsys (by simp) (fX es.toList _ _ ?_ ?_)
  ·rw [h4];exact .nil
  ·rw [h4];exact .nil
 |_,_,u,.dc1 (p:=a) (i:=i) (d:=d) n e q,r,hs,hz=> by
  obtain⟨cs,rd⟩:=TD.reads I (.dc1 n e q) r
  cases (show u=aH a from r)
  obtain⟨hsys,o,es,ep,hh,t,y,ry,h1,h2,h3,h4⟩:=aiu I e
  have hs2:bU (.int i)=true/\d.showable=true:=by simpa [bU,PyData.showableKv] using hs
  have hd1:(lu [(.int i,d)]).depth=d.depth+1:=by simp [aE,PyData.depthKv]
  have hz2:d.shown.length <=sizeLine:=ax (am0 i d) hz
  obtain⟨bs,hb,hk⟩:=TD.repr I q ry hs2.2 hz2
  have hna:a∉bs:=eg rd (by rw [hd1];lia) hb
  refine⟨a::bs,ij rd (by rw [hd1];lia) hb,?_⟩
  rw [hd1]
  simp only [bQ,gF]
  refine ReprK.dict h1 h2 h3 hsys hna (fX es.toList _ _ ?_ ?_)
  ·rw [h4];exact .cons (.of_is (ReprIs.int t (by simpa [bU] using hs2.1)) _ _ _) .nil
  ·rw [h4];exact .cons hk .nil
theorem TDs.repr(I:Inv X pins σ H s): ∀{vs:List V} {ds:List ag} {us:List af},TDs as H vs ds -> jo vs us -> ff ds=true -> (∀t∈cu ds,t.length <=sizeLine) -> ∃bs,ReadAtMost s.heap (aS ds) bs/\ReprAllK X.prog X.w bs s.heap (aS ds) us (cu ds)
 |_,_,_,.nil,r,_,_=> by
  cases r
  exact⟨[],(fun _ h=> nomatch h),by simp only [cu];exact .nil⟩
 | _,_,_,.cons (d:=d) (ds:=ds) a b,r,hs,hz=> by
  cases r with
  |cons r1 r2=>
   have hs2:d.showable=true/\ff ds=true:=by simpa [ff] using hs
   obtain⟨b1,hb1,k1⟩:=TD.repr I a r1 hs2.1 (hz _ (by simp only [cu];exact aD ..))
   obtain⟨b2,hb2,k2⟩:=TDs.repr I b r2 hs2.2 (fun t ht=> hz t (by simp only [cu];exact aB _ ht))
   refine⟨b1++b2,(hb1.mono (by simp only [aS];exact lc _ _)).append (hb2.mono (by simp only [aS];exact kF _ _)),?_⟩
   simp only [aS,cu]
   (exact .cons ((k1.more fun b hb=> fK _ hb).level_le (lc _ _)) (k2.more_le (fun b hb=> bN _ hb) (kF _ _)))
end
noncomputable def okE(d:ag):Bool:=d.showable&&decide (d.depth <=64)&&decide (d.shown.length <=sizeLine)
def vm(ds:List D)(s:S):R D:=match ds with
 |[.da a]=> if okE a=true then .ok (.str a.shown) s else .bad
 |_=>.bad
theorem az2(hr:Room k X.A):CB X (.builtin "repr") vm:=z9 fun pins sh σ H as s xs ds us Q I rl rs ru h=> by
 unfold vm at h
 split at h
 ·rename_i a
  obtain⟨v,rfl,rv⟩:=rs.one
  obtain⟨u,rfl,ru1⟩:=vals1 ru
  split at h
  ·rename_i ok
   unfold okE at ok
   (simp only [aJ,decide_eq_true_eq]at ok)
   obtain⟨⟨ok2,ok3⟩,ok4⟩:=ok
   have hun:=hr.un
   have fin:Q (.str a.shown) H:=Dn.now (Q:=Q) h rl (.da (.str _))
   cases rv with
   | da t=>
    obtain⟨cs,rd⟩:=TD.reads I t ru1
    cases t with
    |non=> cases (show u=bP from ru1);exact PySem.P.repr_of_none ⟨.str "None",H,I.tok _,⟨_,rfl⟩,fin⟩
    |bl b=> cases (show u=eV b from ru1);exact PySem.P.repr_of_bool ⟨.str (if b then "True" else "False"),H,I.tok _,⟨_,rfl⟩,fin⟩
    |int i=> obtain⟨t,e⟩:=(show∃t,u=dH i t from ru1);subst e;exact PySem.P.repr_of_int (by simpa [bU] using ok2) ⟨.str (toString i),H,I.tok _,⟨_,rfl⟩,fin⟩
    |str x=> obtain⟨t,e⟩:=(show∃t,u=fE x t from ru1);subst e;exact PySem.P.repr_of_str ⟨.str (reprText x),H,I.tok _,⟨_,rfl⟩,fin⟩ (by simpa [bQ] using ok4)
    | @tup p xs ds n e q=>
     cases (show u=aH p from ru1)
     obtain⟨z,its,rw,pp⟩:=(show j7 X.prog X.w H sh.heap p (.tup xs) from I.hok p _ e)
     obtain⟨o,h1,h2,k,h3⟩:=pp.tup
     have hz2:(tupleText (cu ds)).length <=sizeLine:=by simpa only [bQ] using ok4
     obtain⟨bs,hb,hk⟩:=TDs.repr I q rw (by simpa [bU] using ok2) (fun t ht=> ax (tupleText_mem_le ht) hz2)
     have hna:p∉bs:=eg rd (by simp only [aE];lia) hb
     simp only [aE]at ok3
     simp only [bQ]at fin
     refine iG (by lia) ⟨o,h1,h2⟩ F.slot_tuple_repr (call_tuple_reprK h1 h2 h3 hna (by simpa using hk) hr.gd (fun b _=> mM b) (by show X.A.units+1+_ < cLine;lia) (fun _ _ e=> e) (fun h' u tk hk=> ⟨_,_,rfl,.str _,H,I.kept hk,⟨u,rfl⟩,fin⟩) hz2)
    | @lst p xs ds n e q=>
     cases (show u=aH p from ru1)
     obtain⟨z,its,k,rw,h1⟩:=(show j7 X.prog X.w H sh.heap p (.lst xs) from I.hok p _ e)
     have hz2:(listText (cu ds)).length <=sizeLine:=by simpa only [bQ] using ok4
     obtain⟨bs,hb,hk⟩:=TDs.repr I q rw (by simpa [bU] using ok2) (fun t ht=> ax (listText_mem_le ht) hz2)
     have hna:p∉bs:=eg rd (by simp only [aE];lia) hb
     simp only [aE]at ok3
     simp only [bQ]at fin
     refine iG (by lia) ⟨_,h1,rfl⟩ F.slot_list_repr.toG ?_
     cases its with
     |nil=>
      cases rw
      cases q
      simp only [cu,listText_nil]at fin
      exact call_list_repr_empty ⟨_,h1,rfl⟩ h1 rfl ⟨_,_,rfl,.str _,H,I.tok _,⟨_,rfl⟩,fin⟩
     |cons x l=> exact call_list_reprK h1 rfl rfl hna (by simpa using hk.length_eq) (fun i y ey=> hk.item i y (by simpa using ey)) hr.gd (fun b _=> mM b) (by show X.A.units+1+_ < cLine;lia) (fun _ _ e=> e) (fun h' u tk hk=> ⟨_,_,rfl,.str _,H,I.kept hk,⟨u,rfl⟩,fin⟩) hz2
    | @dct p n e=>
     cases (show u=aH p from ru1)
     obtain⟨hsys,o,es,ep,h1,h2,h3,h4⟩:=af0 I e
     simp only [bQ,gF]at fin
     refine iG (by lia) ⟨o,h1,h2⟩ F.slot_dict_repr (call_dict_reprK (as:=[]) (d:=0) h1 h2 h3 hsys (by simp) (fX es.toList [] [] (by rw [h4];exact .nil) (by rw [h4];exact .nil)) hr.gd (fun b _=> mM b) (by show X.A.units+1+_ < cLine;lia) (fun _ _ e=> e) (fun h' u tk hk=> ⟨_,_,rfl,.str _,H,I.kept hk,⟨u,rfl⟩,fin⟩) (by decide+kernel))
    | @dc1 p i v d n e q=>
     cases (show u=aH p from ru1)
     obtain⟨hsys,o,es,ep,hh,t,y,ry,h1,h2,h3,h4⟩:=aiu I e
     have hs2:bU (.int i)=true/\d.showable=true:=by simpa [bU,PyData.showableKv] using ok2
     have hd1:(lu [(.int i,d)]).depth=d.depth+1:=by simp [aE,PyData.depthKv]
     obtain⟨bs,hb,hk⟩:=TD.repr I q ry hs2.2 (ax (am0 i d) ok4)
     have hna:p∉bs:=eg rd (by rw [hd1];lia) hb
     rw [hd1]at ok3
     simp only [bQ,gF]at fin ok4
     refine iG (by lia) ⟨o,h1,h2⟩ F.slot_dict_repr (call_dict_reprK (d:=d.depth) h1 h2 h3 hsys hna (fX es.toList _ _ (by rw [h4];exact .cons (.of_is (ReprIs.int t (by simpa [bU] using hs2.1)) _ _ _) .nil) (by rw [h4];exact .cons hk .nil)) hr.gd (fun b _=> mM b) (by show X.A.units+1+_ < cLine;lia) (fun _ _ e=> e) (fun h' u tk hk=> ⟨_,_,rfl,.str _,H,I.kept hk,⟨u,rfl⟩,fin⟩) ok4)
  ·exact h.elim
 ·exact h.elim
end
end PF
namespace PF
open PySem PySem.Spec
open L2
variable[XW]
theorem u66(hr:Room k X.A):X.A.units+66 < cLine:=by have:=u70 hr;lia
end PF
namespace PF
open PySem PySem.Spec
open L2
open PyProof.Rows (envOfC)
section XWs
variable[XW]
def onX{α:Type}(d:D)(s:S)(k:Nat -> Str -> List (Str×D) -> R α):R α:=match d with
 |.ref n=> match s[n]? with
  |some (.exc C fs)=> k n C fs
  |_=>.bad
 |_=>.bad
theorem amc{α β:Type}{rel:As -> Hp -> β -> α -> Prop}{d:D}{k:Nat -> Str -> List (Str×D) -> R α}{Q:β -> Hp -> Prop}(rl:Rel K as H s)(r:RD K as H v d)(h:Dn K rel as H (onX d s k) Q):
  ∃p n C fs,v=.ref p/\d=.ref n/\as.ix[n]?=some (some p)/\s[n]?=some (.exc C fs)/\RO K as H p (.exc C fs)/\Dn K rel as H (k n C fs) Q:=by
 cases r with
 | @ref p n l hr=>
  have h:Dn K rel as H (match s[n]? with|some (O.exc C fs)=> k n C fs|_=>.bad) Q:=h
  split at h
  ·rename_i C fs e
   obtain⟨q,hq⟩:=rl.li n _ e (by intro z;cases z)
   cases hr q hq
   exact⟨p,n,C,fs,rfl,rfl,hq,e,rl.ob n p _ hq e,h⟩
  ·exact h.elim
 |_=> exact h.elim
structure XT (K:ak) (mg:Str -> Option af) (b:Str) (cs fl:List Str):Prop where
 ok: ∀C∈b::cs,∃Ca:Addr,bv K aU C=some (some (.ref Ca))/\mg C=some (.ref Ca)/\ClsX K Ca/\(∀f∈fl,yb K Ca f)/\ck K (.ref Ca) (.type "ValueError")=some true/\
  ∀D∈b::cs,∀Da:Addr,bv K aU D=some (some (.ref Da)) -> ck K (.ref Ca) (.ref Da)=some (D==C||D==b)
section
variable{b:Str}{cs fl:List Str}{mg:Str -> Option af}
theorem XT.at(x:XT K mg b cs fl)(h:(b::cs).contains C=true)(e:bv K aU C=some (some (.ref Ca))):ClsX K Ca/\(∀f,fl.contains f=true -> yb K Ca f)/\ck K (.ref Ca) (.type "ValueError")=some true/\
  ∀D,(b::cs).contains D=true -> ∀Da:Addr,bv K aU D=some (some (.ref Da)) -> ck K (.ref Ca) (.ref Da)=some (D==C||D==b):=by
 obtain⟨Ca',h1,_,h3,h4,h5,h6⟩:=x.ok C (cX.mp h)
 rw [e]at h1;cases h1
 exact⟨h3,fun f hf=> h4 f (cX.mp hf),h5,fun D hD=> h6 D (cX.mp hD)⟩
theorem a5c(x:XT X.K X.mg b cs fl)(h:(b::cs).contains C=true)(hg:Gl X C:=by rfl)(hd:(C==("__debug__":Str))=false:=by decide):RE X (.Name C pos) (fC (.fn C)):=by
 obtain⟨Ca,h1,h2,_⟩:=x.ok C (cX.mp h)
 exact afd (v:=.ref Ca) (fun as H=>.fn h1) h2 rfl hg hd
def ahs(b:Str)(cs fl:List Str)(f:Str)(fo fv:FE):FS:=fun ρ s=> (fv ρ s).bind fun x s1=> (fo ρ s1).bind fun d s2=> onX d s2 fun n C fs=> if ((b::cs).contains C=true/\fl.contains f=true)/\fs.length < 1000 then .ok (.nx ρ) (s2.set n (.exc C (putN f x fs))) else .bad
theorem ao2{p:Addr}{f:Str}{gs:List (Str×V)}{fs:List (Str×D)}{x:D}(rl:Rel K as H s)(ha:as.ix[n]?=some (some p))(e0:bv K aU C=some (some (.ref Ca)))(fr:FRs K as H gs fs)(rv:RD K as H v x):
  Step as H as (upd H p (.exn Ca (vn f v gs)))/\Rel K as (upd H p (.exn Ca (vn f v gs))) (s.set n (.exc C (putN f x fs))):=by
 have c:Chg H p (.exn Ca (vn f v gs)) (upd H p (.exn Ca (vn f v gs))):=⟨rfl⟩
 have st:=agm (qp.mpr ⟨n,ha⟩) (fun z=> rl.hx p z (qp.mpr ⟨n,ha⟩)) c
 exact⟨st,rl.chg ha c ⟨Ca,_,e0,c.at,(fr.put rv).mono0 st.toStep0⟩⟩
theorem ani{f:Str}{o value:Expr}{fv:FE}{pos':Pos}(x:XT X.K X.mg b cs fl)(ho:RE X o fo)(hv:RE X value fv)(hs:f9 value (some (.Attribute o f pos')) pos.line X.env=pure false:=by rfl):RS X (.Assign [.Attribute o f pos'] value pos) (ahs b cs fl f fo fv):=by
 obtain⟨to,po,ro⟩:=ho.ex
 obtain⟨tv,pv,rv⟩:=hv.ex
 refine⟨_,a14 po pv hs,fun as σ H ρ s D rl en h=> ?_⟩
 refine rv as σ H ρ s _ rl en (Dn.bind h fun y s1 as1 H1 yv st1 rl1 r1 h1=> ?_)
 refine ro as1 σ H1 ρ s1 _ rl1 (en.mono st1) (Dn.bind h1 fun d s2 as2 H2 z st2 rl2 r2 h2=> ?_)
 obtain⟨p,n,C,fs,rfl,rfl,ha,hs,⟨Ca,gs,e0,e1,fr⟩,h3⟩:=amc rl2 r2 h2
 split at h3
 ·rename_i hf
  obtain⟨c1,c2,_⟩:=x.at hf.1.1 e0
  refine⟨p,Ca,gs,rfl,e1,c1,c2 f hf.1.2,by rw [fr.len];exact hf.2,fun H3 w=> ?_⟩
  rcases w with rfl|⟨dx,hdx,rfl⟩
  ·obtain⟨st,rl3⟩:=ao2 (f:=f) rl2 ha e0 fr (r1.mono st2)
   exact h3 (FV.nx σ) as2 _ st rl3 (.nx (((en.mono st1).mono st2).mono st))
  ·have n1:New H2 dx (.own p) (upd H2 dx (.own p)):=⟨hdx,rfl⟩
   have st0:Step as2 H2 as2 (upd H2 dx (.own p)):=j4 n1
   have rl0:=rl2.new n1
   obtain⟨st,rl3⟩:=ao2 (f:=f) rl0 ha e0 (fr.mono0 st0.toStep0) ((r1.mono st2).mono st0)
   exact h3 (FV.nx σ) as2 _ (st0.trans st) rl3 (.nx ((((en.mono st1).mono st2).mono st0).mono st))
 ·exact h3.elim
end
structure InitX (P:aV) (w:aZ) (K:ak) (mg:Str -> Option af) (base:Heap) (C:Str) (k n:Nat) (F:FF):Prop where
 ex: ∃(Ca f:Addr) (fd:eF) (ps:List Str),bv K aU C=some (some (.ref Ca))/\mg C=some (.ref Ca)/\MkX K Ca f/\ClsM K Ca "__init__" f/\FnOk P w K mg base (CX1 P w) k f fd ps (spF K n F)/\Binds K fd ps []
def ye(C:Str)(n:Nat)(F:FF)(fa:FA):FE:=fun ρ s=> (fa ρ s).bind fun ds s1=> if ds.length+1=n/\n < 1000 then ((F (.ref s1.length::ds) (s1++ [.exc C []])).at ρ).bind fun d s2=> match d with
  |.da .none=>.ok (.ref s1.length) s2
  |_=>.bad
 else .bad
theorem aaf{x:Str}{F:FF}{fa:FA}{p:Pos}(c:InitX X.prog X.w X.K X.mg X.base x k n F)(hr:Room (k+1) X.A)(ha:RA X (e::es) fa)(hx:XOk X XW.xk:=by assumption)(hg:Gl X x:=by rfl)(hdb:(x==("__debug__":Str))=false:=by decide)(he:starEach (e::es) X.env=(false,eval e X.env)::starEach es X.env:=by rfl)(hpl:(backTo pos (starEach es X.env)).any (·.1)=false:=by rfl):RE X (.Call (.Name x p) (e::es) [] pos) (ye x n F fa):=by
 obtain⟨Ca,f,fd,ps,e0,hm,M,_,Fo,bi⟩:=c.ex
 obtain⟨ta,pa,ra⟩:=ha.ex
 refine⟨_,aw1 M Fo hr hg hm bi hx.pass pa hdb he hpl,?_⟩
 intro as σ H ρ s Q rl en h
 refine ra as σ H ρ s _ rl en (Dn.bind h fun ds s1 as1 H1 vs st1 rl1 r1 h1=> ?_)
 split at h1
 ·rename_i hn
  refine⟨by rw [r1.length,sizeLine_eq];lia,fun a na=> ?_⟩
  have n2:New H1 a (.exn Ca []) (upd H1 a (.exn Ca [])):=⟨na,rfl⟩
  have st:Step as1 H1 (as1.add a) (upd H1 a (.exn Ca [])):=acn n2
  have rl3:=rl1.laid (u:=.exc x []) n2 ⟨Ca,[],e0,n2.at,.nil⟩
  have rx:RD X.K (as1.add a) (upd H1 a (.exn Ca [])) (.ref a) (.ref s1.length):=.ref (by simp [rl1.len]) fun q e=> by
   rw [←rl1.len]at e
   simp at e
   exact e.symm
  refine⟨by rw [aK,r1.length];exact hn.1,as1.add a,.ref s1.length::ds,_,rl3,.cons rx (r1.mono st),?_⟩
  refine Dn.at (ρ:=ρ) (Dn.bind (Dn.step h1 st) fun d s2 as2 H2 v st2' rl2' r2 h2=> ?_) ((en.mono st1).mono st)
  split at h2
  ·cases r2 with
   |da t=> cases t;exact⟨rfl,Dn.now (Q:=Q) h2 rl2' (rx.mono st2')⟩
  ·exact h2.elim
 ·exact h1.elim
theorem aw3{x:Str}{F:FF}{fa:FA}{p apos:Pos}{pl:Sem Bool}(c:InitX X.prog X.w X.K X.mg X.base x k n F)(hr:Room k X.A)(ha:RA X (e::es) fa)(hx:XOk X XW.xk:=by assumption)(hg:Gl X x:=by rfl)(hdb:(x==("__debug__":Str))=false:=by decide)(he:starEach (e::es) X.env=(false,eval e X.env)::starEach es X.env:=by rfl)(hpl:(backTo pos (starEach es X.env)).any (·.1)=false:=by rfl)(ht:eval (.Call (.Attribute (.Name x p) "__init__" apos) (e::es) [] pos) X.env=(do
   let ov←eval (.Name x p) X.env
   standAt apos.atName
   let (f,first)←holding [ov] (kY ov "__init__" pl)
   callWith pos f first (backTo pos (starEach (e::es) X.env)) (backToKw pos (gI [] X.env))):=by rfl):RE X (.Call (.Attribute (.Name x p) "__init__" apos) (e::es) [] pos) (je n F fa):=by
 obtain⟨Ca,f,fd,ps,e0,hm,_,C,Fo,bi⟩:=c.ex
 obtain⟨ta,pa,ra⟩:=ha.ex
 refine⟨_,awe C hg hm pa hdb he hpl ht,?_⟩
 intro as σ H ρ s Q rl en h
 refine ra as σ H ρ s _ rl en (Dn.bind h fun ds s1 as1 H1 vs st1 rl1 r1 h1=> ?_)
 split at h1
 ·rename_i hn
  intro pins sh us I ru
  refine asv Fo hr bi .nil hx.pass I ru ⟨by rw [cq,r1.length];exact hn,as1,ds,s1,rl1,?_,h1.at (en.mono st1)⟩
  rw [cq];exact r1
 ·exact h1.elim
def aej(b:Str)(cs:List Str)(ds:List D)(s:S):R D:=match ds with
 |[d,_]=> onX d s fun _ C _=> if (b::cs).contains C=true then .ok .non s else .bad
 |_=>.bad
theorem axj{b:Str}{fa:FA}{p apos:Pos}{pl:Sem Bool}(x:XT X.K X.mg b cs fl)(hm:X.mg "ValueError"=none)(ha:RA X (e::es) fa)(hg:Gl X "ValueError":=by rfl)(he:starEach (e::es) X.env=(false,eval e X.env)::starEach es X.env:=by rfl)(hpl:(backTo pos (starEach es X.env)).any (·.1)=false:=by rfl)(ht:eval (.Call (.Attribute (.Name "ValueError" p) "__init__" apos) (e::es) [] pos) X.env=(do
   let ov←eval (.Name "ValueError" p) X.env
   standAt apos.atName
   let (f,first)←holding [ov] (kY ov "__init__" pl)
   callWith pos f first (backTo pos (starEach (e::es) X.env)) (backToKw pos (gI [] X.env))):=by rfl):RE X (.Call (.Attribute (.Name "ValueError" p) "__init__" apos) (e::es) [] pos) (fCB (aej b cs) fa):=by
 obtain⟨ta,pa,ra⟩:=ha.ex
 refine⟨_,aux hg hm pa he hpl ht,?_⟩
 intro as σ H ρ s Q rl en h
 refine ra as σ H ρ s _ rl en (Dn.bind h fun ds s1 as1 H1 vs st1 rl1 r1 h1=> ?_)
 unfold aej at h1
 split at h1
 ·obtain⟨v,w,rfl,rv,rw⟩:=r1.two
  obtain⟨p,n,C,fs,rfl,rfl,ha,hs,⟨Ca,gs,e0,e1,fr⟩,h2⟩:=amc rl1 rv h1
  split at h2
  ·rename_i hc
   exact⟨p,Ca,gs,[w],rfl,e1,(x.at hc e0).1,by rw [sizeLine_eq];simp,Dn.now (Q:=Q) h2 rl1 (.da .non)⟩
  ·exact h2.elim
 ·exact h1.elim
end XWs
structure HasX (K:ak) (mg:Str -> Option af) (C q:Str) (st:Stmt) (ps:List Str):Prop where
 ex: ∃(Ca f:Addr) (fd:eF),bv K aU C=some (some (.ref Ca))/\mg C=some (.ref Ca)/\MkX K Ca f/\ClsM K Ca "__init__" f/\Fun K "__init__" q st f fd/\Binds K fd ps []
theorem asj(h:HasX K mg C q st ps)(S:FnScope N ps (jg st)){m:Nat}(hm:N.length=m)(hn:ps.length=n)(hbody:BodyOk P w K mg base N q st k fb):InitX P w K mg base C (k+1) n (jz m fb):=by
 obtain⟨Ca,f,fd,e0,e1,M,c,F,b⟩:=h.ex
 exact⟨Ca,f,fd,ps,e0,e1,M,c,fnQ F S hm hn hbody,b⟩
end PF
namespace L2
open PySem PySem.Spec PyProof.Rows EX
section
variable{X:Cx}{pins:List (Addr×Obj)}{σ:St}{H:Hp}{s:aj}{a C:Addr}{fs:List (Str×V)}{f:Str}{v:V}{A:br}{E:af -> aj -> Prop}
theorem ait(hok:HOk X.prog X.w H s.heap)(e:H a=some (.exx C fs)):fs.length <=1000/\ ∃(t:Addr) (tb:af) (dxo:Option Addr),s.heap.get? a=some (y4 C dxo t tb)/\((dxo=none/\fs=[])\/ ∃dx,dxo=some dx/\H dx=some (.own a)/\dx≠a/\
   ∃mA,s.heap.Ns1 dx mA/\(∀f,abf (fs.lookup f) (mA f))/\eE mA (fs.map (·.1))):=
 (show j7 X.prog X.w H s.heap a (.exx C fs) from hok a _ e)
theorem an7(I:Inv X pins σ H s)(e:H a=some (.exx C fs))(c:ClsX X.K C)(n:yb X.K C f)(l:fs.lookup f=some v)(h: ∀u s',Inv X pins σ H s' -> RelV v u -> Q u s'):wpAny (model X.prog X.w) A (getAttr (.ref a) f b) Q E s:=by
 obtain⟨_,t,tb,dxo,hx,⟨_,q⟩|⟨dx,q,ho,ne,mA,N,r,wi⟩⟩:=ait I.hok e
 ·rw [q]at l;cases l
 ·subst q
  obtain⟨u,hu,ru⟩:=abf.some_of (v:=v) (o:=mA f) (by rw [←l];exact r f)
  obtain⟨od,hod,hl⟩:=ajj N
  exact a1v I.kIn (ox:=y4 C (some dx) t tb) (od:=some od) ⟨hx,rfl,rfl,hod⟩ c.toClsE (PySem.W.findObj_own c.toClsE.dict n rfl (by rw [hl,hu])) (asz ru) (h u _ (I.tok _) ru)
theorem atq{c:af}(I:Inv X pins σ H s)(e:H a=some (.exx C fs))(cl:ClsX X.K C)(k:ck X.K (.ref C) c=some b)(h: ∀tk,Q (.bool b) {s with toks:=tk}):
  wpAny (model X.prog X.w) A (call (.builtin "isinstance") [.ref a,c]) Q E s:=by
 obtain⟨_,t,tb,dxo,hx,⟨q,_⟩|⟨dx,q,ho,ne,mA,N,r,wi⟩⟩:=ait I.hok e
 ·subst q
  exact cr (EX.kitx_exc (ox:=y4 C none t tb) (od:=none) cl.toClsE cl.ca cl.cg cl.ct) I.kIn ⟨hx,rfl,rfl,dz⟩ k (fun z=> nomatch z) h
 ·subst q
  obtain⟨od,es,ep,hod,hc⟩:=id N
  exact cr (EX.kitx_exc (ox:=y4 C (some dx) t tb) (od:=some od) cl.toClsE cl.ca cl.cg cl.ct) I.kIn ⟨hx,rfl,rfl,hod⟩ k (fun z=> nomatch z) h
end
section
variable{X:Cx}{e:Expr}{f:Str}{pos:Pos}{ta:TE}
def a6k(K:ak)(ta:TE)(f:Str):TE:=fun σ H Q=> ta σ H fun x H1=> ∃a C fs v,x=.ref a/\H1 a=some (.exx C fs)/\ClsX K C/\yb K C f/\fs.lookup f=some v/\Q v H1
theorem a1i(he:PE X e ta)(hb:gQ e f X.env (eval e X.env)=eval e X.env):PE X (.Attribute e f pos) (a6k X.K ta f):=by
 refine⟨?_⟩;intro pins s σ H Q I h
 refine a0k hb (thn (he pins s σ H _ I h) fun u s1 ⟨x,H1,I1,rx,a,C,fs,v,ex,ea,c,n,l,q⟩=> ?_)
 subst ex
 obtain rfl:u=aH a:=rx
 exact an7 I1 ea c n l fun u' s2 I2 ru=> ⟨v,H1,I2,ru,q⟩
end
noncomputable def axl(j:Nat)(D:Ends):Ends:={nx:=fun σ H=> D.nx (σ.set j none) H,rt:=D.rt,bk:=fun σ H=> D.bk (σ.set j none) H,ct:=fun σ H=> D.ct (σ.set j none) H}
def hE(K:ak)(Ca:Addr)(j:Option Nat)(th:TS)(D:Ends):XE:=fun σ p H=> ∃C fs,H p=some (.exx C fs)/\ClsX K C/\lJ K (.ref C) (.ref Ca)=some true/\match j with
 |none=> th D σ H
 |some j=> th (axl j D) (σ.set j (some (.ref p))) H
def aue(K:ak)(Ca:Addr)(j:Option Nat)(tb:XE -> TS)(th:TS):TS:=fun D σ H=> tb (hE K Ca j th D) D σ H
section
variable{X:Cx}{pins:List (Addr×Obj)}{σ:St}{H:Hp}{s:aj}
theorem SP.unhand{e:af}{D:Ends}{f:Flow}{s':aj}(ok:X.Ok)(h:SP (X.hand e) pins D f s'):SP X pins D f s':=by
 cases f with
 |next=> obtain⟨σ',H',I,q⟩:=h;exact⟨σ',H',I.unhand ok,q⟩
 |brk=> obtain⟨σ',H',I,q⟩:=h;exact⟨σ',H',I.unhand ok,q⟩
 |cont=> obtain⟨σ',H',I,q⟩:=h;exact⟨σ',H',I.unhand ok,q⟩
 |ret u=> obtain⟨v,σ',H',I,r,q⟩:=h;exact⟨v,σ',H',I.unhand ok,r,q⟩
theorem ali{c:Str}{cp hp:Pos}{nm:Option Str}{j:Option Nat}{th:TS}{D:Ends}(ok:X.Ok)(hst:X.stack=X.env::X.outer/\X.env.frame=some X.env.locals)(hg:Gl X c)(hm:X.mg c=some (.ref Ca))(hdb:(c==("__debug__":Str))=false)(run: ∀(p:Addr) (σ:St) (H:Hp) (s:aj),Inv X pins σ H s -> (∃C t dx tb,s.heap.get? p=some (y4 C dx t tb)/\al5 s.heap p tb) -> (match j with|none=> th D σ H|some j=> th (axl j D) (σ.set j (some (.ref p))) H) -> codeAny (model X.prog X.w) (X.A.mark (some (.ref p))) (.handlers (.ref p) [.ExceptHandler none nm (b0::suite) hp] X.env) (fun r s₂=> match r with
     |.ok f=> (match nm with
      |none=> SP X pins D f s₂
      |some n=> wpAny (model X.prog X.w) X.A (do bindName X.env n .none;fN X.env n hp) (fun _ s₃=> SP X pins D f s₃) X.xe s₂)
     |.error x=> cameBackBy (model X.prog X.w) X.A X.env X.xe x s₂) s):
  XOk (X.tries (X.pn++pins) fun e s1=> wpAny (model X.prog X.w) X.A (kR e X.env) (fun _ s2=> wpAny (model X.prog X.w) X.A (iV e none) (fun _ s3=> wpAny (model X.prog X.w) X.A (handleBy e X.env [.ExceptHandler (some (.Name c cp)) nm (b0::suite) hp]) (SP X pins D) X.xe s3) X.xe s2) X.xe s1) (hE X.K Ca j th D):=by
 refine⟨fun pins1 σ1 H1 s1 e s' I1 hc=> ?_,PassesOwn.looking⟩
 obtain⟨p,H2,C,fs,t,dx,tb',rfl,os,bare,un,hok,hp,he,ht,p',ep,C',fs',hp',cl,hx,hr⟩:=hc
 cases ep
 rw [hp]at hp';cases hp'
 have J:Inv X pins σ1 H2 s':=(I1.call' (H':=H2) os un hok bare fun b z=> absurd z (by simp)).untries ok
 have fr:X.A.frames=some (X.env::X.outer):=by rw [←hst.1];exact J.ok.frames
 have fu:s'.heap.FunFrames X.base (X.env::X.outer):=by rw [←hst.1];exact J.stack
 show wpAny _ X.A (kR (.ref p) X.env) _ _ s'
 refine ato fr fu hst.2 he ht fun h' n=> ?_
 have n':Noted X.stack p C dx t s'.heap h':=by rw [hst.1];exact n
 have J2:Inv X pins σ1 H2 {s' with heap:=h'}:=J.call' (s':={s' with heap:=h'}) rfl (n'.un hp) (n'.hok J.hok hp ⟨tb',he⟩ J.stkFree) J.bare fun b z=> absurd z (by simp)
 obtain⟨oT,ts,e1,e2,e3⟩:=n.ent
 refine wpAny_handleBy_cons (codeAny_handlers_test ?_) (by intro q;cases q)
 refine adk (X:=X.hand (.ref p)) (J2.hand (.ref p)) hg hm ?_ hdb
 have LT:fT (model X.prog X.w) h' (typeOf (.ref p)) (.ref C):=(fT.ld n.exc).andThen .now
 refine (PySem.W.exm_one J2.kIn LT hx).here ?_
 exact run p σ1 H2 _ J2 ⟨C,t,dx,_,n.exc,.inr ⟨_,oT,ts,rfl,dP (ar he),e1,e2,e3⟩⟩ hr
end
section
variable{X:Cx}{body suite:List Stmt}{b0:Stmt}{c:Str}{cp hp pos:Pos}{Ca:Addr}{tb:XE -> TS}{th:TS}
theorem a4u(hst:X.stack=X.env::X.outer/\X.env.frame=some X.env.locals)(hg:Gl X c)(hm:X.mg c=some (.ref Ca))(hb: ∀E pn xe,XOk (X.tries pn xe) E -> PSs (X.tries pn xe) body (tb E))(hh: ∀e,PSs (X.hand e) (b0::suite) th)
  (hdb:(c==("__debug__":Str))=false:=by decide):PS X (.Try body [.ExceptHandler (some (.Name c cp)) none (b0::suite) hp] [] [] pos) (aue X.K Ca none tb th):=by
 refine⟨?_⟩;intro pins s σ H D I hw
 refine wpAny_Try_except ?_
 refine cA (hb _ _ _ (ali (cp:=cp) (hp:=hp) (nm:=none) (b0:=b0) (suite:=suite) (j:=none) (th:=th) (D:=D) I.ok hst hg hm hdb fun p σ1 H1 s1 J ⟨C,t,dx,tb',he,ht⟩ hr=> ?_) [] s σ H D (I.tries _) hw) (fun f s1 h1=> ?_) (fun e s1 h1=> h1)
 ·refine codeAny_handlers_suite (auc he ht ?_)
  exact cA (hh (.ref p) pins s1 σ1 H1 D (J.hand _) hr) (fun f s2 h2=> SP.unhand I.ok h2) fun _ _ z=> z.elim
 ·have h1':SP X pins D f s1:=SP.untries I.ok h1
  cases f with
  |next=> exact fY h1'
  |brk=> exact h1'
  |cont=> exact h1'
  |ret u=> exact h1'
theorem auh{n:Str}(hst:X.stack=X.env::X.outer/\X.env.frame=some X.env.locals)(hN:X.N.Nodup)(hj:X.N[j]?=some n)(hk:X.env.scope.names.lookup n=some .local)(hg:Gl X c)(hm:X.mg c=some (.ref Ca))(hb: ∀E pn xe,XOk (X.tries pn xe) E -> PSs (X.tries pn xe) body (tb E))(hh: ∀e,PSs (X.hand e) (b0::suite) th)(hdb:(c==("__debug__":Str))=false:=by decide):PS X (.Try body [.ExceptHandler (some (.Name c cp)) (some n) (b0::suite) hp] [] [] pos) (aue X.K Ca (some j) tb th):=by
 refine⟨?_⟩;intro pins s σ H D I hw
 refine wpAny_Try_except ?_
 refine cA (hb _ _ _ (ali (cp:=cp) (hp:=hp) (nm:=some n) (b0:=b0) (suite:=suite) (j:=some j) (th:=th) (D:=D) I.ok hst hg hm hdb fun p σ1 H1 s1 J ⟨C,t,dx,tb',he,ht⟩ hr=> ?_) [] s σ H D (I.tries _) hw) (fun f s1 h1=> ?_) (fun e s1 h1=> h1)
 ·refine codeAny_handlers_suite_as (auc he ht ?_)
  refine zl (X:=X) J hN hj (.inl hk) (v:=.ref p) rfl (fun s2 J2=> ?_) (.inr hk)
  refine cA (hh (.ref p) pins s2 _ H1 (axl j D) (J2.hand _) hr) (fun f s3 h3=> ?_) fun _ _ z=> z.elim
  have h3:=SP.unhand I.ok h3
  show wpAny _ X.A (do bindName X.env n .none;fN X.env n hp) (fun _ s₃=> SP X pins D f s₃) X.xe s3
  cases f with
  |next=> obtain⟨σ',H',K,q⟩:=h3;exact afc K hN hj hk fun s4 K4=> ⟨_,H',K4,q⟩
  |brk=> obtain⟨σ',H',K,q⟩:=h3;exact afc K hN hj hk fun s4 K4=> ⟨_,H',K4,q⟩
  |cont=> obtain⟨σ',H',K,q⟩:=h3;exact afc K hN hj hk fun s4 K4=> ⟨_,H',K4,q⟩
  |ret u=> obtain⟨v,σ',H',K,r,q⟩:=h3;exact afc K hN hj hk fun s4 K4=> ⟨v,_,H',K4,r,q⟩
 ·have h1':SP X pins D f s1:=SP.untries I.ok h1
  cases f with
  |next=> exact fY h1'
  |brk=> exact h1'
  |cont=> exact h1'
  |ret u=> exact h1'
end
variable{X:Cx}{e:Expr}{es:List Expr}{p pos tp:Pos}{k:ExprContext}{te:TE}
theorem avo:ve X (.builtin "isinstance") (fun vs H Q=> ∃(a q C:Addr) (fs:List (Str×V)) (Cs:List Addr) (b:Bool),vs=[.ref a,.ref q]/\H a=some (.exx C fs)/\ClsX X.K C/\H q=some (.tup (Cs.map V.ref))/\lK X.K (.ref C) (Cs.map aH)=some b/\Q (.bl b) H):=by
 intro pins s σ H vs us Q I r h
 obtain⟨a,q,C,fs,Cs,b,rfl,ea,cl,eq,hk,hq⟩:=h
 obtain⟨u,u2,rfl,ru1,ru2⟩:=vals2 r
 cases (show u=aH a from ru1)
 cases (show u2=aH q from ru2)
 obtain⟨_,its,rv,n,ht⟩:=(show j7 X.prog X.w H s.heap q (.tup (Cs.map V.ref)) from I.hok q _ eq)
 have hits:its=Cs.map aH:=by
  have: ∀(Cs:List Addr) (its:List af),jo (Cs.map V.ref) its -> its=Cs.map aH:=fun Cs=> by
   induction Cs with
   |nil=> intro its h;cases h;rfl
   |cons c r ih=>
    intro its h
    cases h with
    |cons a t=> rw [ih _ t];cases (show _=aH c from a);rfl
  exact this Cs its rv
 subst hits
 obtain⟨_,t,tb,dxo,hx,⟨z,_⟩|⟨dx,z,ho,ne,mA,N,r',wi⟩⟩:=ait I.hok ea
 ·subst z
  exact PySem.W.kia_tup (EX.kitx_exc (ox:=y4 C none t tb) (od:=none) cl.toClsE cl.ca cl.cg cl.ct) I.kIn ⟨hx,rfl,rfl,dz⟩ ht hk (fun z=> nomatch z) fun tk=> ⟨.bl b,H,I.tok _,rfl,hq⟩
 ·subst z
  obtain⟨od,es',ep,hod,hc⟩:=id N
  exact PySem.W.kia_tup (EX.kitx_exc (ox:=y4 C (some dx) t tb) (od:=some od) cl.toClsE cl.ca cl.cg cl.ct) I.kIn ⟨hx,rfl,rfl,hod⟩ ht hk (fun z=> nomatch z) fun tk=> ⟨.bl b,H,I.tok _,rfl,hq⟩
end L2
namespace PF
open PySem PySem.Spec
open L2 EX
variable[XW]
def onY{α:Type}(d:D)(s:S)(k:Nat -> Str -> List (Str×D) -> R α):R α:=match d with
 |.ref n=> match s[n]? with
  |some (.xcx C fs)=> k n C fs
  |_=>.bad
 |_=>.bad
theorem ahq{α β:Type}{rel:As -> Hp -> β -> α -> Prop}{d:D}{k:Nat -> Str -> List (Str×D) -> R α}{Q:β -> Hp -> Prop}(rl:Rel K as H s)(r:RD K as H v d)(h:Dn K rel as H (onY d s k) Q):
  ∃p n C fs,v=.ref p/\d=.ref n/\as.ix[n]?=some (some p)/\s[n]?=some (.xcx C fs)/\RO K as H p (.xcx C fs)/\Dn K rel as H (k n C fs) Q:=by
 cases r with
 | @ref p n l hr=>
  have h:Dn K rel as H (match s[n]? with|some (O.xcx C fs)=> k n C fs|_=>.bad) Q:=h
  split at h
  ·rename_i C fs e
   obtain⟨q,hq⟩:=rl.li n _ e (by intro z;cases z)
   cases hr q hq
   exact⟨p,n,C,fs,rfl,rfl,hq,e,rl.ob n p _ hq e,h⟩
  ·exact h.elim
 |_=> exact h.elim
section
variable{b:Str}{cs fl:List Str}{mg:Str -> Option af}
def af4(b:Str)(cs:List Str)(ds:List D)(s:S):R D:=match ds with
 |[d,.fn y]=> onY d s fun _ C _=> if (b::cs).contains C=true/\(b::cs).contains y=true then .ok (.bl (y==C||y==b)) s else .bad
 |[d,.ty t]=> onY d s fun _ C _=> if (b::cs).contains C=true/\t="ValueError" then .ok (.bl true) s else .bad
 |_=>.bad
theorem ayg(x:XT X.K X.mg b cs fl):CB X (.builtin "isinstance") (af4 b cs):=z9 fun pins sh σ H as s xs ds us Q I rl rs ru h=> by
 unfold af4 at h
 split at h
 ·obtain⟨v,w,rfl,rv,rw⟩:=rs.two
  obtain⟨u,u2,rfl,ru1,ru2⟩:=vals2 ru
  obtain⟨p,n,C,fs,rfl,rfl,ha,hs,⟨Ca,gs,e0,e1,fr⟩,h2⟩:=ahq rl rv h
  split at h2
  ·rename_i hc
   cases rw with
   | @fn f y hf=>
    cases (show u=aH p from ru1)
    cases (show u2=aH f from ru2)
    obtain⟨c1,_,_,c4⟩:=x.at hc.1 e0
    exact atq I e1 c1 (c4 _ hc.2 f hf) fun tk=> ⟨.bl _,H,I.tok _,rfl,Dn.now (Q:=Q) h2 rl (.da (.bl _))⟩
  ·exact h2.elim
 ·obtain⟨v,w,rfl,rv,rw⟩:=rs.two
  obtain⟨u,u2,rfl,ru1,ru2⟩:=vals2 ru
  obtain⟨p,n,C,fs,rfl,rfl,ha,hs,⟨Ca,gs,e0,e1,fr⟩,h2⟩:=ahq rl rv h
  split at h2
  ·rename_i hc
   obtain⟨hc,rfl⟩:=hc
   cases rw
   cases (show u=aH p from ru1)
   cases (show u2=cU "ValueError" from ru2)
   obtain⟨c1,_,c3,_⟩:=x.at hc e0
   exact atq I e1 c1 c3 fun tk=> ⟨.bl _,H,I.tok _,rfl,Dn.now (Q:=Q) h2 rl (.da (.bl _))⟩
  ·exact h2.elim
 ·exact h.elim
inductive NsAt (K:ak):List Str -> List Addr -> Prop
 |nil:NsAt K [] []
 |cons {n:Str} {C:Addr} {ns:List Str} {Cs:List Addr}:bv K aU n=some (some (.ref C)) -> NsAt K ns Cs -> NsAt K (n::ns) (C::Cs)
theorem NsAt.len{Cs:List Addr}(h:NsAt K ns Cs):ns.length=Cs.length:=by
 induction h with
 |nil=> rfl
 |cons _ _ ih=> simp [ih]
structure CNs (X:Cx) (es:List Expr) (ns:List Str):Prop where
 ex: ∃Cs:List Addr,PA X es (fun _ H Q=> Q (Cs.map V.ref) H)/\NsAt X.K ns Cs
theorem a1l:CNs X [] []:=⟨[],ad6,.nil⟩
theorem ac2(x:XT X.K X.mg b cs fl)(h:(b::cs).contains C=true)(t:CNs X es ns)(hg:Gl X C:=by rfl)(hd:(C==("__debug__":Str))=false:=by decide)(he:starEach (.Name C pos::es) X.env=(false,eval (.Name C pos) X.env)::starEach es X.env:=by rfl):CNs X (.Name C pos::es) (C::ns):=by
 obtain⟨Ca,h1,h2,_⟩:=x.ok C (cX.mp h)
 obtain⟨Cs,p,f⟩:=t.ex
 exact⟨Ca::Cs,aak (ap7 (v:=.ref Ca) hg h2 rfl hd) p,.cons h1 f⟩
def aw2(b:Str)(cs ns:List Str)(d:D)(s:S):R D:=onY d s fun _ C _=> if (b::cs).contains C=true/\(ns.all fun y=> (b::cs).contains y)=true then .ok (.bl (ns.any fun y=> y==C||y==b)) s else .bad
def apy(b:Str)(cs ns:List Str)(fe:FE):FE:=fun ρ s=> (fe ρ s).bind (aw2 b cs ns)
theorem ajk{C:Str}{Ca:Addr}(k: ∀D,(b::cs).contains D=true -> ∀Da:Addr,bv K aU D=some (some (.ref Da)) -> ck K (.ref Ca) (.ref Da)=some (D==C||D==b)):
  ∀{ns:List Str} {Cs:List Addr},NsAt K ns Cs -> (ns.all fun y=> (b::cs).contains y)=true -> lK K (.ref Ca) (Cs.map aH)=some (ns.any fun y=> y==C||y==b)
 |_,_,.nil,_=> rfl
 |n::ns,c::Cs,.cons h t,ha=> by
  (rw [dm,aJ]at ha)
  have ih:=ajk k t ha.2
  have e:=k n ha.1 c h
  rw [aL,lK,e,gR]
  cases (n==C||n==b) <;> simp [ih]
theorem a4p{p:Pos}{k}(x:XT X.K X.mg b cs fl)(hm:X.mg "isinstance"=none)(he:RE X e fe)(hc:CNs X es ns)(hg:Gl X "isinstance":=by rfl)(hs:starEach [e,.Tuple es k tp] X.env=(false,eval e X.env)::starEach [.Tuple es k tp] X.env:=by rfl)(hs2:starEach [.Tuple es k tp] X.env=(false,eval (.Tuple es k tp) X.env)::starEach [] X.env:=by rfl)(hpl:(backTo pos (starEach [.Tuple es k tp] X.env)).any (·.1)=false:=by rfl)(hz:ns.length <=1000:=by decide):RE X (.Call (.Name "isinstance" p) [e,.Tuple es k tp] [] pos) (apy b cs ns fe):=by
 obtain⟨t,pe,r⟩:=he.ex
 obtain⟨Cs,pc,fc⟩:=hc.ex
 refine⟨_,adq avo hg hm xi (aak pe (aak (a2r pc) ad6 hs2) hs) (by decide) (by decide) hs hpl,fun as σ H ρ s Q rl en h=> ?_⟩
 refine r as σ H ρ s _ rl en (Dn.bind h fun d s1 as1 H1 v st1 rl1 r1 h1=> ?_)
 obtain⟨p,n,C,fs,rfl,rfl,ha,hs,⟨Ca,gs,e0,e1,fr⟩,h2⟩:=ahq rl1 r1 h1
 split at h2
 ·rename_i hcc
  obtain⟨c1,_,_,c4⟩:=x.at hcc.1 e0
  refine⟨by rw [am,←fc.len];exact f8 (ajl hz),fun q nq=> ?_⟩
  have nw:New H1 q (.tup (Cs.map V.ref)) (upd H1 q (.tup (Cs.map V.ref))):=⟨nq,rfl⟩
  refine⟨p,q,Ca,gs,Cs,_,rfl,?_,c1,nw.at,ajk c4 fc hcc.2,?_⟩
  ·rw [kq];exact e1
   intro z;rw [z,nq]at e1;cases e1
  ·exact Dn.now (Q:=Q) (Dn.step h2 (j4 nw)) (rl1.new nw) (.da (.bl _))
 ·exact h2.elim
def aq3(b:Str)(cs fl:List Str)(f:Str)(d:D)(s:S):R D:=onY d s fun _ C fs=> if (b::cs).contains C=true/\fl.contains f=true then match fs.lookup f with
  |some x=>.ok x s
  |none=>.bad
 else .bad
def afh(b:Str)(cs fl:List Str)(f:Str)(fo:FE):FE:=fun ρ s=> (fo ρ s).bind (aq3 b cs fl f)
theorem ao3{f:Str}{o:Expr}(x:XT X.K X.mg b cs fl)(ho:RE X o fo)(hb:gQ o f X.env (eval o X.env)=eval o X.env:=by rfl):RE X (.Attribute o f pos) (afh b cs fl f fo):=by
 obtain⟨to,po,ro⟩:=ho.ex
 refine⟨_,a1i po hb,fun as σ H ρ s Q rl en h=> ?_⟩
 refine ro as σ H ρ s _ rl en (Dn.bind h fun d s1 as1 H1 v st1 rl1 r1 h1=> ?_)
 obtain⟨p,n,C,fs,rfl,rfl,ha,hs,⟨Ca,gs,e0,e1,fr⟩,h2⟩:=ahq rl1 r1 h1
 split at h2
 ·rename_i hc
  obtain⟨c1,c2,_⟩:=x.at hc.1 e0
  split at h2
  ·rename_i y hy
   obtain⟨w,hw,rw⟩:=(fr.look (f:=f)).1 y hy
   exact⟨p,Ca,gs,w,rfl,e1,c1,c2 f hc.2,hw,Dn.now (Q:=Q) h2 rl1 rw⟩
  ·exact h2.elim
 ·exact h2.elim
def ahm(b:Str)(cs:List Str)(ρ:En)(d:D)(s:S):R Fl:=onX d s fun n C fs=> if (b::cs).contains C=true then .ex n ρ (s.set n (.xcx C fs)) else .bad
def zy(b:Str)(cs:List Str)(fa:FE):FS:=fun ρ s=> (fa ρ s).bind (ahm b cs ρ)
theorem aae{a:Expr}(x:XT X.K X.mg b cs fl)(hc:X.calm=true)(h:RE X a fa)(hx:XOk X XW.xk:=by assumption):RS X (.Raise (some a) none pos) (zy b cs fa):=by
 obtain⟨t,p,r⟩:=h.ex
 refine⟨_,axr hx hc p,fun as σ H ρ s D rl en h=> ?_⟩
 refine r as σ H ρ s _ rl en (Dn.bind h fun d s1 as1 H1 v st1 rl1 r1 h1=> ?_)
 obtain⟨p,n,C,fs,rfl,rfl,ha,hs,⟨Ca,gs,e0,e1,fr⟩,h2⟩:=amc rl1 r1 h1
 split at h2
 ·rename_i hcc
  obtain⟨c1,_⟩:=x.at hcc e0
  have cg:Chg H1 p (.exx Ca gs) (upd H1 p (.exx Ca gs)):=⟨rfl⟩
  have st:=agm (qp.mpr ⟨n,ha⟩) (fun z=> rl1.hx p z (qp.mpr ⟨n,ha⟩)) cg
  have rl2:Rel X.K as1 (upd H1 p (.exx Ca gs)) (s1.set n (.xcx C fs)):=rl1.chg ha cg ⟨Ca,gs,e0,cg.at,fr.mono0 st.toStep0⟩
  exact⟨p,Ca,gs,rfl,e1,c1,h2 as1 _ p σ st rl2 ((en.mono st1).mono st) ha⟩
 ·exact h2.elim
end
end PF
namespace PF
open PySem PySem.Spec
open L2 EX
section
variable{K:ak}{mg:Str -> Option af}{b:Str}{cs fl:List Str}
theorem awr{C:Addr}(c:ClsE K C):iH K (.ref C) (.ref C)=some true:=by
 obtain⟨nm,q,N,bs,bm,sn,sub,ab,col,dd,k0,k1,k2,k3,k5,e,a⟩:=c.at_
 have h1:((eT K C).isSome&&iI K (.ref C)==some (.type "type"))=true:=by simp [eT,iI,e]
 unfold iH
 dsimp only
 rw [if_pos h1]
 simp [i7,iZ,eT,e]
theorem XT.exm(x:XT K mg b cs fl){c:Str}(hC:(b::cs).contains C=true)(hc:(b::cs).contains c=true){Da:Addr}(e:bv K aU C=some (some (.ref Ca)))(e2:bv K aU c=some (some (.ref Da))):
  lJ K (.ref Ca) (.ref Da)=some (c==C||c==b):=by
 obtain⟨c1,_,_,k⟩:=x.at hC e
 obtain⟨c2,_⟩:=x.at hc e2
 have h:=k c hc Da e2
 have hs:i7 K (.ref Da) (.type "BaseException")=some true:=c2.toClsE.sub (T:="BaseException") (b:=true) (by decide+kernel)
 unfold lJ
 rw [if_pos (by rw [hs];rfl)]
 by_cases z:Ca=Da
 ·subst z
  have:(c==C||c==b)=true:=by
   unfold ck at h
   rw [if_pos (by simp)]at h
   exact (bZ h).symm
  rw [this]
  exact awr c1.toClsE
 ·unfold ck at h
  rwa [if_neg (by simpa using z)]at h
theorem Envs.unset(e:Envs K as H ρ σ)(i:Nat):Envs K as H (ρ.set i none) (σ.set i none):=by
 refine⟨by simp [e.len],fun j x h=> ?_⟩
 by_cases z:i=j
 ·subst z
  rw [dF]at h
  split at h
  ·split at h <;> simp at h
  ·rename_i q;exact absurd rfl q
 ·rw [aX z]at h⊢
  exact e.get j x h
theorem RSs.pss[XW]{X:Cx}{st:List Stmt}{f:FS}(h:RSs X st f):PSs X st (aut X.K f):=by
 obtain⟨t,p,r⟩:=h.ex
 exact⟨fun pins s σ H D I ⟨as,ρ,s',a,b,c⟩=> p pins s σ H D I (r as σ H ρ s' D a b c)⟩
end
noncomputable def unF(j:Nat)(fl:Fl):Fl:=match fl with
 |.nx ρ=>.nx (ρ.set j none)
 |.rt d=>.rt d
 |.bk ρ=>.bk (ρ.set j none)
 |.ct ρ=>.ct (ρ.set j none)
def kUn(j:Nat)(fl:Fl)(s:S):R Fl:=.ok (unF j fl) s
def aer(b:Str)(cs:List Str)(c:Str)(j:Option Nat)(fh:FS)(n:Nat)(ρ:En)(s:S):R Fl:=match s[n]? with
 | some (.xcx C _)=> if (b::cs).contains C=true/\(c==C||c==b)=true then (match j with
   |none=> (fh ρ s).calm
   |some j=> (fh (ρ.set j (some (.ref n))) s).calm.bind (kUn j)) else .bad
 |_=>.bad
def abc(b:Str)(cs:List Str)(c:Str)(j:Option Nat)(fb fh:FS):FS:=fun ρ s=> match fb ρ s with
 |.ok fl s1=>.ok fl s1
 |.bad=>.bad
 |.ex n ρ1 s1=> aer b cs c j fh n ρ1 s1
section
variable[XW]{X:Cx}{b c:Str}{cs fl:List Str}{body suite:List Stmt}{b0:Stmt}{fb fh:FS}{cp hp pos:Pos}
theorem apb{j:Option Nat}(x:XT X.K X.mg b cs fl)(hc:(b::cs).contains c=true)(h1:bv X.K aU c=some (some (.ref Ca))):
  agw X.K (aue X.K Ca j (fun E=> @aut ⟨E⟩ X.K fb) (@aut XW.dft X.K fh)) (abc b cs c j fb fh):=by
 intro as σ H ρ s D rl en h
 refine⟨as,ρ,s,rl,en,?_⟩
 unfold abc at h
 cases q:fb ρ s with
 |ok fl s1=> rw [q]at h;exact h
 |bad=> rw [q]at h;exact h.elim
 | ex n ρ1 s1=>
  rw [q]at h
  intro as' H' p σ' st rl' en' ix
  have h:=Dn.step (r:=aer b cs c j fh n ρ1 s1) h st
  unfold aer at h
  split at h
  ·rename_i C fs e
   obtain⟨Ca',gs,e0,e1,fr⟩:=rl'.ob n p _ ix e
   split at h
   ·rename_i hcc
    refine⟨Ca',gs,e1,(x.at hcc.1 e0).1,by rw [x.exm hcc.1 hc e0 h1,hcc.2],?_⟩
    cases j with
    |none=> exact⟨as',ρ1,s1,rl',en',Dn.calm h⟩
    |some j=>
     have rd:RD X.K as' H' (.ref p) (.ref n):=.ref (aC.mp ix).1 fun r e'=> by rw [ix]at e';cases e';rfl
     refine⟨as',ρ1.set j (some (.ref n)),s1,rl',en'.set j rd,Dn.calm (Dn.bind h fun fl s2 as2 H2 fv st2 rl2 r2 h2=> ?_)⟩
     cases r2 with
     |nx e=> exact Dn.now (K:=X.K) (rel:=rF X.K) (Q:=ya D) (b:=FV.nx _) h2 rl2 (rF.nx (e.unset j))
     |rt e=> exact Dn.now (K:=X.K) (rel:=rF X.K) (Q:=ya D) (b:=FV.rt _) h2 rl2 (rF.rt e)
     |bk e=> exact Dn.now (K:=X.K) (rel:=rF X.K) (Q:=ya D) (b:=FV.bk _) h2 rl2 (rF.bk (e.unset j))
     |ct e=> exact Dn.now (K:=X.K) (rel:=rF X.K) (Q:=ya D) (b:=FV.ct _) h2 rl2 (rF.ct (e.unset j))
   ·exact h.elim
  ·exact h.elim
theorem a2n(x:XT X.K X.mg b cs fl)(hst:X.stack=X.env::X.outer/\X.env.frame=some X.env.locals)(hc:(b::cs).contains c=true)(hb: ∀(I:XW) pn xe,XOk (X.tries pn xe) I.xk -> @RSs I (X.tries pn xe) body fb)
  (hh: ∀(I:XW) e,XOk (X.hand e) I.xk -> @RSs I (X.hand e) (b0::suite) fh) (hg:Gl X c:=by rfl) (hdb:(c==("__debug__":Str))=false:=by decide):RS X (.Try body [.ExceptHandler (some (.Name c cp)) none (b0::suite) hp] [] [] pos) (abc b cs c none fb fh):=by
 obtain⟨Ca,h1,h2,_⟩:=x.ok c (cX.mp hc)
 exact⟨_,a4u hst hg h2 (fun E pn xe hx=> @RSs.pss ⟨E⟩ _ _ _ (hb ⟨E⟩ pn xe hx)) (fun e=> @RSs.pss XW.dft _ _ _ (hh XW.dft e (XOk.never eY))) hdb,apb x hc h1⟩
theorem awt(j:Nat){n:Str}(x:XT X.K X.mg b cs fl)(hst:X.stack=X.env::X.outer/\X.env.frame=some X.env.locals)(hN:X.N.Nodup)(hj:X.N[j]?=some n)(hk:X.env.scope.names.lookup n=some .local)(hc:(b::cs).contains c=true)(hb: ∀(I:XW) pn xe,XOk (X.tries pn xe) I.xk -> @RSs I (X.tries pn xe) body fb)
  (hh: ∀(I:XW) e,XOk (X.hand e) I.xk -> @RSs I (X.hand e) (b0::suite) fh) (hg:Gl X c:=by rfl) (hdb:(c==("__debug__":Str))=false:=by decide):RS X (.Try body [.ExceptHandler (some (.Name c cp)) (some n) (b0::suite) hp] [] [] pos) (abc b cs c (some j) fb fh):=by
 obtain⟨Ca,h1,h2,_⟩:=x.ok c (cX.mp hc)
 exact⟨_,auh hst hN hj hk hg h2 (fun E pn xe hx=> @RSs.pss ⟨E⟩ _ _ _ (hb ⟨E⟩ pn xe hx)) (fun e=> @RSs.pss XW.dft _ _ _ (hh XW.dft e (XOk.never eY))) hdb,apb x hc h1⟩
end
section
variable{b c:Str}{cs fl ns:List Str}{ρ ρ1:En}{s s1:S}{n:Nat}{C f:Str}{fs:List (Str×D)}{x d:D}{fa fe:FE}{fb fh:FS}
theorem ba9:zy b cs fa ρ s=(fa ρ s).bind (ahm b cs ρ):=(rfl)
theorem as0(h:s[n]?=some (.exc C fs))(hc:(b::cs).contains C=true):ahm b cs ρ (.ref n) s=.ex n ρ (s.set n (.xcx C fs)):=by
 show (match s[n]? with|some (O.exc C fs)=> (if (b::cs).contains C=true then (R.ex n ρ (s.set n (.xcx C fs)):R Fl) else .bad)|_=>.bad)=_
 rw [h];exact if_pos hc
theorem bcj:apy b cs ns fe ρ s=(fe ρ s).bind (aw2 b cs ns):=(rfl)
theorem a23(h:s[n]?=some (.xcx C fs))(hc:(b::cs).contains C=true)(ha:(ns.all fun y=> (b::cs).contains y)=true):aw2 b cs ns (.ref n) s=.ok (.bl (ns.any fun y=> y==C||y==b)) s:=by
 show (match s[n]? with|some (O.xcx C fs)=> (if (b::cs).contains C=true/\(ns.all fun y=> (b::cs).contains y)=true then R.ok (D.bl (ns.any fun y=> y==C||y==b)) s else .bad)|_=>.bad)=_
 rw [h];exact if_pos ⟨hc,ha⟩
theorem a1s(h:s[n]?=some (.xcx C fs))(hc:(b::cs).contains C=true)(ha:(b::cs).contains y=true):af4 b cs [.ref n,.fn y] s=.ok (.bl (y==C||y==b)) s:=by
 show (match s[n]? with|some (O.xcx C fs)=> (if (b::cs).contains C=true/\(b::cs).contains y=true then R.ok (D.bl (y==C||y==b)) s else .bad)|_=>.bad)=_
 rw [h];exact if_pos ⟨hc,ha⟩
theorem awa(h:s[n]?=some (.xcx C fs))(hc:(b::cs).contains C=true):af4 b cs [.ref n,.ty "ValueError"] s=.ok (.bl true) s:=by
 show (match s[n]? with|some (O.xcx C fs)=> (if (b::cs).contains C=true/\("ValueError":String)="ValueError" then R.ok (D.bl true) s else .bad)|_=>.bad)=_
 rw [h];exact if_pos ⟨hc,rfl⟩
theorem bc6:afh b cs fl f fa ρ s=(fa ρ s).bind (aq3 b cs fl f):=(rfl)
theorem amz(h:s[n]?=some (.xcx C fs))(hc:(b::cs).contains C=true)(hf:fl.contains f=true)(h3:fs.lookup f=some x):aq3 b cs fl f (.ref n) s=.ok x s:=by
 show (match s[n]? with|some (O.xcx C fs)=> (if (b::cs).contains C=true/\fl.contains f=true then (match fs.lookup f with|some x=> R.ok x s|none=>.bad) else .bad)|_=>.bad)=_
 rw [h]
 show (if (b::cs).contains C=true/\fl.contains f=true then (match fs.lookup f with|some x=> R.ok x s|none=>.bad) else .bad)=_
 rw [if_pos ⟨hc,hf⟩,h3]
theorem arj{j:Option Nat}{fl:Fl}(h:fb ρ s=.ok fl s1):abc b cs c j fb fh ρ s=.ok fl s1:=by unfold abc;rw [h]
theorem as8{j:Option Nat}(h:fb ρ s=.ex n ρ1 s1):abc b cs c j fb fh ρ s=aer b cs c j fh n ρ1 s1:=by unfold abc;rw [h]
theorem awv(h:s[n]?=some (.xcx C fs))(hc:(b::cs).contains C=true)(hm:(c==C||c==b)=true):aer b cs c none fh n ρ s=(fh ρ s).calm:=by
 unfold aer;rw [h];exact if_pos ⟨hc,hm⟩
theorem a5h(h:s[n]?=some (.xcx C fs))(hc:(b::cs).contains C=true)(hm:(c==C||c==b)=true):aer b cs c (some j) fh n ρ s=(fh (ρ.set j (some (.ref n))) s).calm.bind (kUn j):=by
 unfold aer;rw [h];exact if_pos ⟨hc,hm⟩
end
end PF
namespace L2
open PySem PySem.Spec PyProof.Rows
theorem acu(is:List Int): ∀k,preSum (fun i=> is.getD i 0) k=(is.take k).sum
 |0=> by simp [preSum]
 |k+1=> by
  rw [preSum,acu is k,jH]
  cases h:is[k]? with
  |none=> simp [bG,h]
  |some x=> simp [bG,h]
theorem ahf: ∀(l:List Int),(∀i∈l,0 <=i/\i <=1000000) -> 0 <=l.sum/\l.sum <=1000000*l.length
 |[],_=> by simp
 |x::r,h=> by
  have a:=h x aD
  have b:=ahf r fun i hi=> h i (aB _ hi)
  (simp only [d7,aK])
  lia
theorem arl(hc:X.calm=true):ve X (.builtin "sum") (fun vs H Q=> ∃(a:Addr) (is:List Int),vs=[.ref a]/\SqL X.K H a (is.map V.int)/\is.length <=100000/\(∀i∈is,0 <=i/\i <=1000000)/\Q (.int is.sum) H):=by
 intro pins s σ H vs us Q I r h
 obtain⟨a,is,rfl,hS,hz,hb,q⟩:=h
 obtain⟨u,rfl,ru⟩:=vals1 r
 cases ru
 have hh:X.A.in1.handled=none:=I.ok.hd hc
 obtain⟨its,rv,⟨o,n,e,c,dd,d⟩,z⟩:=I.list hS
 have l1:s.heap.IsList a its.toArray:=⟨o,e,c,n,d⟩
 have hl:=rv.length
 rw [am]at hl
 have tb: ∀k,0 <=(is.take k).sum/\(is.take k).sum <=1000000*100000:=fun k=> by
  have:=ahf (is.take k) fun i hi=> hb i (List.take_subset _ _ hi)
  have l:=List.length_take_le k is
  have l2:=List.length_take_le' k is
  lia
 refine call_sum_walk (ef l1 ⟨s.heap.objs.size,_,_,_,_,_,fun i=> is.getD i 0,rfl,Walks.list hh _ a (aP (ar e)) its.toArray,⟨⟨_,ay _ rfl,rfl,rfl⟩,l1.push _⟩,?_,?_,?_,fun h' tk t' k=> ?_⟩)
 ·intro b m
  rw [bd]
  simp only [aq,bf,or_false]at m
  rcases m with rfl|rfl
  ·exact eI _
  ·exact dh (ar e)
 ·intro i v hv
  have hi:i < is.length:=by
   have:=(bM.mp hv).1
   rw [az]at this
   lia
  have e1:(is.map V.int)[i]?=some (.int is[i]):=by rw [aR,au hi];rfl
  obtain⟨u,hu,ru⟩:=rv.get e1
  rw [lF,hu]at hv
  obtain rfl:u=v:=bZ hv
  obtain⟨t,rfl⟩:=ru
  exact⟨t,by show dH is[i] t=dH (is.getD i 0) t;rw [bG,au hi];rfl⟩
 ·intro j hj
  rw [az,←hl]at hj
  have b1:=hb is[j] (cE hj)
  have e3:is.getD j 0=is[j]:=by rw [bG,au hj];rfl
  refine⟨⟨?_,?_⟩,?_⟩
  ·show -2^63 <=is.getD j 0;rw [e3];lia
  ·show is.getD j 0 < 2^63;rw [e3];lia
  ·rw [acu]
   have:=tb (j+1)
   exact⟨by lia,by lia⟩
 ·have ks: ∀b u,s.heap.get? b=some u -> h'.get? b=some u:=fun b u hb=> k b u (fun m=> absurd (ar hb) (by rw [aO.mp m];exact cO _)) (ai _ hb)
  rw [acu,az,←hl,dM (ao _)]
  exact⟨.int is.sum,H,I.un (Un.kept ks) (I.hok.kept ks),⟨_,rfl⟩,q⟩
end L2
namespace PF
open PySem PySem.Spec
open L2
variable[XW]
end PF
namespace PF
open PySem PySem.Spec
open L2
variable[XW]
end PF
namespace PF
open PySem PySem.Spec
open L2
variable[XW]
end PF
namespace PF
open PySem PySem.Spec
open L2
variable[XW]
end PF
namespace L2
open PySem PySem.Spec PyProof.Rows
section
variable{P:aV}{w:aZ}{A:br}{E:af -> aj -> Prop}{s:aj}
structure NAt (b:Bool) (l e i:Addr) (n:Int) (k:Nat) (h:Heap):Prop where
 ne:e≠i
 oe: ∃old,lL h e i n old
 c:vy b h i l k
theorem a4a{e i:Addr}{n:Int}{xs:Array af}{x:af}(N:NAt b l e i n k s.heap)(hl:kv b s.heap l xs)(hx:xs[k]?=some x)(hQ: ∀h' t,mN h' e i (n+1) x s.heap.objs.size -> vy b h' i l (k+1) -> h'.get? s.heap.objs.size=some {cls:=.type "tuple",data:=.seq #[.int n s.toks,x]} ->
   (∀c o,c≠e -> c≠i -> s.heap.get? c=some o -> h'.get? c=some o) -> Q (.ref s.heap.objs.size) {s with heap:=h',toks:=t}):
  wpAny (model P w) A (cF.«enumerate.__next__» ⟨[.ref e],[]⟩) (fun fin s'=> ∃v,fin=.done (.ret v)/\Q v s') E s:=by
 (obtain⟨hp,g,d,tk,os⟩:=s)
 obtain⟨ne,⟨old,he⟩,hc⟩:=N
 (show wpAny _ _ (field (.ref e) 2 >>=_) _ _ _);refine ae (bc he rfl (x:=.ref i) rfl (ae (aat hc hl hx fun h1 c1 e1=> ?_)))
 have e1:bI i hp h1:=e1
 have he1:lL h1 e i n old:=(e1.2 e ne).trans he
 (show wpAny _ _ (field (.ref e) 3 >>=_) _ _ _);refine ae (bc he1 rfl (x:=rawInt n) rfl ?_)
 (show wpAny _ _ (field (.ref e) 4 >>=_) _ _ _);refine ae (bc he1 rfl (x:=.none) rfl ?_)
 (show wpAny _ _ (mkInt n >>=_) _ _ _);refine ae (wpAny_mkInt ?_)
 (show wpAny _ _ (setField (.ref e) 3 (rawInt (n+1))>>=_) _ _ _);refine ae (ci he1 (by simp) fun h2 he2 e2=> ?_)
 have e2:bI e h1 h2:=e2
 have he2:lL h2 e i (n+1) old:=he2
 (show wpAny _ _ (setField (.ref e) 4 .none >>=_) _ _ _);refine ae (ci he2 (by simp) fun h3 he3 e3=> ?_)
 have e3:bI e h2 h3:=e3
 have he3:lL h3 e i (n+1) old:=he3
 (show wpAny _ _ (newTuple [.int n tk,x]>>=_) _ _ _);refine ae (wpAny_newTuple ?_)
 have he4:lL (h3.push {cls:=.type "tuple",data:=.seq #[.int n tk,x]}) e i (n+1) old:=ai _ he3
 have sz:h3.objs.size=hp.objs.size:=by rw [e3.1,e2.1,e1.1]
 have lt:e < hp.objs.size:=ar he
 have ht4:(h3.push {cls:=.type "tuple",data:=.seq #[.int n tk,x]}).get? hp.objs.size=some {cls:=.type "tuple",data:=.seq #[.int n tk,x]}:=by rw [←sz];exact ay _ rfl
 have k4: ∀c o,c≠e -> c≠i -> hp.get? c=some o -> (h3.push {cls:=.type "tuple",data:=.seq #[.int n tk,x]}).get? c=some o:=fun c o a1 a2 q=> ai _ (e3.extBut _ _ a1 (e2.extBut _ _ a1 (e1.extBut _ _ a2 q)))
 have c4:vy b (h3.push {cls:=.type "tuple",data:=.seq #[.int n tk,x]}) i l (k+1):=c1.to fun o q=> ai _ (e3.extBut _ _ ne.symm (e2.extBut _ _ ne.symm q))
 generalize (h3.push {cls:=.type "tuple",data:=.seq #[.int n tk,x]})=h4 at he4 ht4 k4 c4⊢
 (show wpAny _ _ (d5 (.ref e)>>=_) _ _ ⟨h4,g,d,tk+1,os⟩);rw [sz]
 refine ae (ae (bc he4 rfl (x:=.none) rfl (ah ?_)))
 simp only [if_true]
 refine ae (cM (ae (bc he4 rfl (x:=old) rfl (ae (ci he4 (by simp) fun h5 he5 e5=> ?_)))))
 have e5:bI e h4 h5:=e5
 have he5:lL h5 e i (n+1) x:=he5
 (show wpAny _ _ (gj (.ref e) (.ref hp.objs.size)>>=_) _ _ ⟨h5,g,d,tk+1,os⟩);refine ae (ae (ci he5 (by simp) fun h6 he6 e6=> ?_))
 have e6:bI e h5 h6:=e6
 have he6:mN h6 e i (n+1) x hp.objs.size:=he6
 refine ci he6 (by simp) fun h7 he7 e7=> ?_
 have e7:bI e h6 h7:=e7
 have he7:mN h7 e i (n+1) x hp.objs.size:=he7
 have up: ∀c o,c≠e -> h4.get? c=some o -> h7.get? c=some o:=fun c o a1 q=> e7.extBut _ _ a1 (e6.extBut _ _ a1 (e5.extBut _ _ a1 q))
 exact ae (iJ (ah ⟨_,rfl,hQ h7 _ he7 (c4.to fun o=> up _ o ne.symm) (up _ _ (dP lt) ht4) fun c o a1 a2 q=> up c o a1 (k4 c o a1 a2 q)⟩))
theorem auf{e i:Addr}{n:Int}{xs:Array af}{x:af}{Q:Option af -> aj -> Prop}(N:NAt b l e i n k s.heap)(hl:kv b s.heap l xs)(hx:xs[k]?=some x)(hQ: ∀h' t,mN h' e i (n+1) x s.heap.objs.size -> vy b h' i l (k+1) -> h'.get? s.heap.objs.size=some {cls:=.type "tuple",data:=.seq #[.int n s.toks,x]} ->
   (∀c o,c≠e -> c≠i -> s.heap.get? c=some o -> h'.get? c=some o) -> Q (some (.ref s.heap.objs.size)) {s with heap:=h',toks:=t}):wpAny (model P w) A (pyNext (.ref e)) Q E s:=
 have hT:s.TypeIs (.ref e) "enumerate":=let ⟨_,h⟩:=N.oe;⟨_,h,rfl⟩
 ae (dq (bz (name:=bJ "__next__") hT fD (bB fD hT lw (a4a N hl hx fun h' t a1 a2 a3 a4=> ah (hQ h' t a1 a2 a3 a4)) (kK _))))
theorem az8{e i:Addr}{n:Int}{xs:Array af}{Q:Option af -> aj -> Prop}(hh:A.handled=none)(N:NAt b l e i n k s.heap)(hl:kv b s.heap l xs)(hx:xs[k]?=none)(hQ: ∀h',fj i s.heap h' -> Q none {s with heap:=h'}):wpAny (model P w) A (pyNext (.ref e)) Q E s:=by
 obtain⟨ne,⟨old,he⟩,hc⟩:=N
 (have hT:s.TypeIs (.ref e) "enumerate":=⟨_,he,rfl⟩)
 refine ae (dq (bz (name:=bJ "__next__") hT fD (bB fD hT lw ?_ (kK _))))
 (show wpAny _ _ (field (.ref e) 2 >>=_) _ _ _);refine ae (bc he rfl (x:=.ref i) rfl ?_)
 exact ae (aea hh hc hl hx fun h' x e1 ⟨o,ho,hcl⟩=> ae (eD (T:="StopIteration") (b:=true) ⟨o,ho,hcl⟩ iE (ah (hQ _ e1))))
end
noncomputable def Itn(K:ak)(b:Bool)(l:Addr)(n:Int):It:=
 ⟨fun i H=> ∃xs x,SqB K b H l xs/\xs[i]?=some x,
   fun i H v H'=> ∃T,v=.ref T/\ ∀xs,SqB K b H l xs -> ∃x,xs[i]?=some x/\New H T (.tup [.int (n+i),x]) H',
   fun i H=> ∃xs,SqB K b H l xs/\xs.length <=i⟩
theorem aun{x1:Nat}{n:Int}(l e i:Addr):Turn P w K (.Tuple es x1 pos) (Itn K b l n) [e,i] e (fun k h=> NAt b l e i (n+k) k h) where
 mem:=by simp
 obj:=fun k h ⟨_,⟨old,he⟩,q⟩ c hb=> by
  obtain⟨o1,e1,v1,d1⟩:=q.obj
  (simp only [aq,bf,or_false]at hb)
  rcases hb with rfl|rfl
  ·exact⟨_,he,fun v y=> by cases y⟩
  ·exact⟨_,e1,fun v y=> by rw [d1]at y;cases y⟩
 keep:=fun k h h' ⟨ne,⟨old,he⟩,q⟩ kp=> ⟨ne,⟨old,kp e (by simp) _ he⟩,q.to fun o z=> kp i (by simp) o z⟩
 item:=by
  intro X hP hw hK hc k pins s σ H E I hf st hg
  subst hP hw hK
  obtain⟨xs,x,q1,hx⟩:=hg
  obtain⟨its1,rv1,p1⟩:=I.seqB q1
  obtain⟨u1,hu1,ru1⟩:=rv1.get hx
  have lt: ∀c∈ [e,i],c < s.heap.objs.size:=fun c hb=> by
   obtain⟨_,⟨old,he⟩,q⟩:=st
   obtain⟨o1,e1,_⟩:=q.obj
   (simp only [aq,bf,or_false]at hb)
   rcases hb with rfl|rfl
   ·exact ar he
   ·exact ar e1
  refine auf st p1 (x:=u1) (by simpa using hu1) fun h' t a1 a2 a3 kp=> ?_
  refine⟨_,rfl,wpAny_letOwnedTupleGo_enum (s:={s with heap:=h',toks:=t}) a1 fun h2 he2 sb=> ?_⟩
  have I1:Inv X pins σ (upd H s.heap.objs.size (.tup [.int (n+k),x])) {s with heap:=s.heap.push {cls:=.type "tuple",data:=.seq #[.int (n+k) s.toks,u1]},toks:=t}:=
   I.laid (t':=t) (fun c u q=> ai _ q) (ao _) ⟨by show 2 <=sizeLine;decide,[.int (n+k) s.toks,u1],.cons ⟨_,rfl⟩ (.cons ru1 .nil),⟨_,ay _ rfl⟩⟩
  have nT: ∀c∈ [e,i],upd H s.heap.objs.size (.tup [.int (n+k),x]) c=none:=fun c hb=> by
   rw [kq (aP (lt c hb))];exact (hf c hb).1
  have I2:=I1.turnedL (h':=h2) (t':=t) (ch:=[e,i]) (fun c o hb q=> by
   have hbe:c≠e:=fun y=> hb (by simp [y])
   rw [sb.2 c hbe]
   by_cases hT:c=s.heap.objs.size
   ·subst hT
    rw [ay _ rfl]at q
    cases q
    exact a3
   ·rw [jI _ _ _ hT]at q
    exact kp c o hbe (fun y=> hb (by simp [y])) q) fun c hb=> ⟨nT c hb,(hf c hb).2⟩
  refine⟨.ref s.heap.objs.size,_,I2,rfl,⟨_,rfl,fun xs' q1'=> ?_⟩,⟨st.ne,⟨u1,?_⟩,a2.to fun o=> sb.extBut _ _ st.ne.symm⟩,nT⟩
  ·rw [I.seqB_inj q1' q1]
   exact⟨x,hx,I.fresh,rfl⟩
  ·have:n+((k+1:Nat):Int)=n+k+1:=by lia
   rw [this];exact he2
 done:=by
  intro X hP hw hK hc k pins s σ H E I hf st hg
  subst hP hw hK
  obtain⟨xs,q1,hx⟩:=hg
  obtain⟨its1,rv1,p1⟩:=I.seqB q1
  have l1':=rv1.length
  exact az8 (I.ok.hd hc) st p1 (by simp;lia) fun h' kp=> ⟨rfl,I.turnedL (t':=s.toks) (ch:=[e,i]) (fun c o hb q=> kp c o (fun y=> hb (by simp [y])) q) hf⟩
 self:=fun _ _ _ _ _ st h=> let ⟨_,he⟩:=st.oe;wpAny_pyIter_enum he h
section
variable{P:aV}{w:aZ}{A:br}{E:af -> aj -> Prop}{s:aj}
def nH(h:Heap)(b:Bool)(l:Addr)(n:Int):Heap:=(h.push {cls:=.type (adt b),data:=.fields #[.ref l,.int 0 0]}).push {cls:=.type "enumerate",data:=.fields #[.none,.bool false,.ref h.objs.size,rawInt n,.none,.none]}
theorem au4(b:Bool)(l:Addr)(xs:Array af):
  Meets (cF.«enumerate.__new__» ⟨[.type "enumerate",.ref l],[]⟩) (fun _ R s=> kv b s.heap l xs/\R (.ok (.ret (.ref (s.heap.objs.size+1)))) {s with heap:=nH s.heap b l 0}):=
 .of_wp fun prog w A R s h=> by
  obtain⟨hp,g,d,tk,os⟩:=s;obtain⟨h1,h⟩:=h
  have hsub:=sub_enumerate
  have L1:kv b (mW ⟨hp,g,d,tk,os⟩) l xs:=h1
  wp_walk
  (refine wpAny_stack_any fun st=> ah ?_)
  split
  ·rename_i c _ _ _ _ _
   (cases (c==cU "enumerate"))
   ·wp_walk using ahr L1
    refine⟨_,rfl,?_⟩
    simp only [bd];exact h
   ·wp_walk using ahr L1
    refine⟨_,rfl,?_⟩
    simp only [bd];exact h
  ·wp_walk using ahr L1
   refine⟨_,rfl,?_⟩
   simp only [bd];exact h
theorem axn{n:Int}:NAt b l (h.objs.size+1) h.objs.size n 0 (nH h b l n):=by
 have g2:lL (nH h b l n) (h.objs.size+1) h.objs.size n .none:=by
  have:=ay (h.push {cls:=.type (adt b),data:=.fields #[.ref l,.int 0 0]}) (o:={cls:=.type "enumerate",data:=.fields #[.none,.bool false,.ref h.objs.size,rawInt n,.none,.none]}) rfl
  rw [bd]at this;exact this
 exact⟨by unfold Addr at*;lia,⟨_,g2⟩,awp (ai _ (ay _ rfl))⟩
theorem avh{xs:Array af}(h1:kv b s.heap l xs)(h: ∀h',NAt b l (s.heap.objs.size+1) s.heap.objs.size 0 0 h' -> (∀c o,s.heap.get? c=some o -> h'.get? c=some o) -> Q (.ref (s.heap.objs.size+1)) {s with heap:=h'}):
  wpAny (model P w) A (call (.type "enumerate") [.ref l]) Q E s:=by
 refine callType_new F.called_enumerate (by decide) (F.typeCall_enumerate_1 _) (F.newCall_enumerate_1 _) (fun obj=> F.args_object_init_2 obj _) F.entry_enumerate_new (au4 b l xs) ⟨h1,?_⟩
 have z:=axn (b:=b) (l:=l) (n:=0) (h:=s.heap)
 refine⟨?_,h _ z fun c o x=> ai _ (ai _ x)⟩
 obtain⟨_,⟨o,q⟩,_⟩:=z
 exact⟨_,q,rfl⟩
end
theorem anc:bt "enumerate"=some (.type "enumerate"):=by decide+kernel
def a95(K:ak)(ta:TA):TI:=fun σ H R=> ta σ H fun vs H1=> ∃l xs b,vs=[.ref l]/\SqB K b H1 l xs/\R (Itn K b l 0) H1
theorem a4d{x1:Nat}{a:Expr}{ta:TA}{p:Pos}(hg:Gl X "enumerate")(hm:X.mg "enumerate"=none)(ha:PA X [a] ta)(hs:starEach [a] X.env=[(false,eval a X.env)]:=by rfl):
  PI X (.Tuple es x1 tp) (.Call (.Name "enumerate" p) [a] [] pos) (a95 X.K ta):=by
 intro pins s σ H R I h
 refine Call_ (abp I hg hm anc (dQ (thn (ha pos pins s σ H _ I h) fun us s1 ⟨vs,H1,I1,r1,q1⟩=> ?_) hs rfl))
 obtain⟨l,xs,b,e,q1,q⟩:=q1
 subst e
 obtain⟨u,rfl,r⟩:=vals1 r1
 cases r
 obtain⟨its1,rv1,p1⟩:=I1.seqB q1
 refine avh p1 fun h' Z k=> ?_
 obtain⟨old,he⟩:=Z.oe
 refine wpAny_pyIter_enum (s:={s1 with heap:=h'}) he ?_
 refine⟨s1.heap.objs.size+1,_,_,_,H1,rfl,I1.kept (t':=s1.toks) k,aun (n:=0) l _ _,Z,fun b hb=> ?_,q⟩
 have hb':s1.heap.objs.size <=b:=by
  (simp only [aq,bf,or_false]at hb)
  rcases hb with rfl|rfl <;> (unfold Addr at*;lia)
 exact I1.fpOk hb' (I1.hok.fresh hb')
end L2
namespace PF
open PySem PySem.Spec
open L2
variable[XW]
noncomputable def enD:Int -> List ag -> List D
 |_,[]=> []
 |n,x::r=>.tup [.int n,x]::enD (n+1) r
theorem air: ∀(xs:List ag) (n:Int) (i:Nat),(enD n xs)[i]?=xs[i]?.map fun x=> D.tup [.int (n+i),x]
 |[],n,i=> by simp [enD]
 |x::r,n,0=> by simp [enD]
 |x::r,n,i+1=> by
  have e:n+1+(i:Int)=n+((i+1:Nat):Int):=by lia
  rw [enD,eO,eO,air r (n+1) i,e]
theorem aj3: ∀(xs:List ag) (n:Int),(enD n xs).length=xs.length
 |[],_=> rfl
 |x::r,n=> by rw [enD,aK,aK,aj3 r]
def akr(n:Int)(ds:List D)(s:S):R Wk:=match ds with
 | [.ref a]=> match s[a]? with
  |some (.lst es)=> match ku es with
   |some xs=>.ok (enD n xs,some (a,es)) s
   |none=>.bad
  |_=>.bad
 |[a]=> match sqD a with
  |some (_,xs)=>.ok (enD n xs,none) s
  |_=>.bad
 |_=>.bad
def av4(n:Int)(f:FA):FI:=fun ρ s=> (f ρ s).bind (akr n)
theorem a38{n:Int}{ds:List D}{Q:It -> Hp -> Prop}(rl:Rel K as H s)(r:RDs K as H vs ds)(h:Dn K (af7 K) as H (akr n ds s) Q): ∃l xs b,vs=[.ref l]/\SqB K b H l xs/\Q (Itn K b l n) H:=by
 unfold akr at h
 split at h
 ·rename_i n0
  obtain⟨v,rfl,rv⟩:=r.one
  split at h
  ·rename_i es e
   split at h
   ·rename_i xd px
    cases rv with
    | @ref pp _ l hr=>
     obtain⟨ha,xs,hx,rs⟩:=yj rl hr e
     refine⟨pp,xs,true,rfl,SqL.of hx,Dn.now (Q:=Q) h rl ?_⟩
     intro as2 H2 s2 st2 rl2 so i
     have so':s2[n0]?=some (O.lst es):=so
     obtain⟨q,hq⟩:=rl2.li _ _ so' (by intro z;cases z)
     have e2:=hq
     have em:=zo px
     subst em
     rcases st2.old _ l with z|z
     ·rw [z]at e2
      cases hr q e2
      obtain⟨ys,hy,rs2⟩:=rl2.ob _ _ _ hq so'
      have sq1:SqB K true H2 pp ys:=SqL.of hy
      refine⟨fun hl=> ⟨ys,sq1,by rw [rs2.length,am];rw [aj3]at hl;exact hl⟩,fun d hd=> ?_⟩
      rw [air]at hd
      cases qq:xd[i]? with
      |none=> rw [qq]at hd;cases hd
      |some pr=>
       rw [qq]at hd
       cases hd
       obtain⟨x,hx,rx⟩:=rs2.get (d:=D.da pr) (by rw [aR,qq];rfl)
       refine⟨⟨ys,x,sq1,hx⟩,fun vv H3 hv=> ?_⟩
       obtain⟨T,rfl,hT⟩:=hv
       obtain⟨x',hx',nw⟩:=hT ys sq1
       rw [hx]at hx';cases hx'
       cases rx with
       |da rt=> exact⟨j4 nw,rl2.new nw,.da (.tup (fun z=> rl2.has z nw.no) nw.at (.cons (.int _) (.cons (rt.mono (j4 nw)) .nil)))⟩
     ·rw [z]at e2;cases e2
   ·exact h.elim
  ·exact h.elim
 ·split at h
  ·rename_i d _ b xd ea
   obtain⟨v,rfl,rv⟩:=r.one
   obtain⟨l,xs,rfl,k1,t1⟩:=ai9 rv ea
   refine⟨l,xs,_,rfl,k1 as H (Step.refl _ _).toStep0,Dn.now (Q:=Q) h rl ?_⟩
   intro as2 H2 s2 st2 rl2 _ i
   have sq1:=k1 as2 H2 st2
   have u1:=t1.mono0 st2
   refine⟨fun hl=> ⟨xs,sq1,by rw [u1.length];rw [aj3]at hl;exact hl⟩,fun d hd=> ?_⟩
   rw [air]at hd
   cases q:xd[i]? with
   |none=> rw [q]at hd;cases hd
   |some pr=>
    rw [q]at hd
    cases hd
    obtain⟨x,hx,rx⟩:=u1.get q
    refine⟨⟨xs,x,sq1,hx⟩,fun vv H3 hv=> ?_⟩
    obtain⟨T,rfl,hT⟩:=hv
    obtain⟨x',hx',nw⟩:=hT xs sq1
    rw [hx]at hx';cases hx'
    exact⟨j4 nw,rl2.new nw,.da (.tup (fun z=> rl2.has z nw.no) nw.at (.cons (.int _) (.cons (rx.mono (j4 nw)) .nil)))⟩
  ·exact h.elim
 ·exact h.elim
theorem a50{x1:Nat}{a:Expr}{f:FA}{p:Pos}(hm:X.mg "enumerate"=none)(h:RA X [a] f)(hg:Gl X "enumerate":=by rfl)(hs:starEach [a] X.env=[(false,eval a X.env)]:=by rfl):
  RI X (.Tuple es x1 tp) (.Call (.Name "enumerate" p) [a] [] pos) (av4 0 f):=by
 obtain⟨t,pa,ra⟩:=h.ex
 refine⟨_,a4d hg hm pa hs,fun as σ H ρ s Q rl en h=> ?_⟩
 exact ra as σ H ρ s _ rl en (Dn.bind h fun ds s1 as1 H1 vs st1 rl1 r1 h1=> a38 rl1 r1 h1)
end PF
namespace PF
open PySem PySem.Spec
open PySem.SeqAt
variable[XW]
end PF
namespace PF
open PySem PySem.Spec
open L2
variable[XW]
end PF
namespace PF
open PySem L2
theorem bco{k:Int}{f:FA}:av4 k f ρ s=(f ρ s).bind (akr k):=(rfl)
end PF
namespace PF
open PySem PySem.Spec
open L2
noncomputable def adx:List D -> Option (List Int)
 |[]=> some []
 |.da (.int i)::r=> match adx r with
  |some xs=> if 0 <=i/\i <=1000000 then some (i::xs) else none
  |none=> none
 |_=> none
def aqj(ds:List D)(s:S):R D:=match ds with
 | [d]=> match toL s d with
  |some xs=> match adx xs with
   |some is=> if is.length <=100000 then .ok (.int is.sum) s else .bad
   |none=>.bad
  |none=>.bad
 |_=>.bad
theorem al8{K:ak}{as:As}{H:Hp}: ∀{xs:List V} {ds:List D} {is:List Int},RDs K as H xs ds -> adx ds=some is -> xs=is.map V.int/\ ∀i∈is,0 <=i/\i <=1000000
 |_,_,is,.nil,h=> by cases h;exact⟨rfl,fun i hi=> by cases hi⟩
 | x ::xs,d::ds,is,.cons r rs,h=> by
  unfold adx at h
  split at h
  ·cases‹_::_=_›
  ·rename_i i r' e
   cases e
   split at h
   ·rename_i ys q
    split at h
    ·rename_i hb
     cases h
     obtain⟨e,hh⟩:=al8 rs q
     cases r.int_inv
     refine⟨by rw [e];rfl,fun j hj=> ?_⟩
     rcases aq.mp hj with rfl|hj
     ·exact hb
     ·exact hh j hj
    ·cases h
   ·cases h
  ·cases h
section
variable[XW]{X:Cx}{pos:Pos}
theorem a5w(hc:X.calm=true):CB X (.builtin "sum") aqj:=z9 fun pins sh σ H as s xs ds us Q I rl rs ru h=> by
 unfold aqj at h
 split at h
 ·obtain⟨v,rfl,rv⟩:=rs.one
  split at h
  ·rename_i ys e
   split at h
   ·rename_i is q
    split at h
    ·rename_i hz
     obtain⟨p,zs,rfl,hx,rz⟩:=ab0 rl rv e
     obtain⟨ez,hb⟩:=al8 rz q
     subst ez
     exact arl hc pins sh σ H _ us Q I ru ⟨p,is,rfl,SqL.of hx,hz,hb,Dn.now (Q:=Q) h rl (.da (.int _))⟩
    ·exact h.elim
   ·exact h.elim
  ·exact h.elim
 ·exact h.elim
noncomputable def aps(i:Nat)(x:Int)(ρ:En)(d:D)(s:S):R Fl:=match d with
 |.int j=>.ok (.nx (ρ.set i (some (.int (x+j))))) s
 |_=>.bad
def agi(i:Nat)(fv:FE):FS:=fun ρ s=> match ρ[i]? with
 |some (some (.int x))=> (fv ρ s).bind (aps i x ρ)
 |_=>.bad
theorem a2d{i:Nat}{x:Str}{fv:FE}{pos':Pos}(hN:X.N.Nodup)(hi:X.N[i]?=some x)(hx:Loc X.env.scope x)(he:RE X e fv)(hf:X.fn x=true\/X.env.scope.names.lookup x=some .local:=by first|exact .inl rfl|exact .inr rfl|assumption):RS X (.AugAssign (.Name x pos') .Add e pos) (agi i fv):=by
 obtain⟨t,p,r⟩:=he.ex
 refine⟨_,a43 hN hi hx p a3c hf,fun as σ H ρ s D rl en h=> ?_⟩
 unfold agi at h
 split at h
 ·rename_i j q
  obtain⟨v,hv,rv⟩:=en.get i _ q
  cases rv.int_inv
  refine⟨.int j,hv,r as σ H ρ s _ rl en (Dn.bind h fun d s1 as1 H1 w st1 rl1 r1 h1=> ?_)⟩
  unfold aps at h1
  split at h1
  ·cases r1.int_inv
   exact⟨j,_,rfl,rfl,Dn.now (b:=FV.nx (σ.set i (some (.int _)))) h1 rl1 (.nx ((en.mono st1).set i (.da (.int _))))⟩
  ·exact h1.elim
 ·exact h.elim
end
theorem a2g{i:Nat}{x:Int}{fv:FE}(h:ρ[i]?=some (some (.int x))):agi i fv ρ s=(fv ρ s).bind (aps i x ρ):=by unfold agi;rw [h]
theorem bb0{i:Nat}{x j:Int}:aps i x ρ (.int j) s=.ok (.nx (ρ.set i (some (.int (x+j))))) s:=(rfl)
end PF
namespace ST
open PySem PySem.SetTable
section
variable{α:Type}
noncomputable def liveL(m:Nat)(o:Array (Option Nat)):List (Nat×Nat):=(ej (m+1)).filterMap fun j=> (o.getD j none).map (j,·)
theorem live_ris(m:Nat)(o:Array (Option Nat)):Ris ((liveL m o).map (·.1)):=by
 unfold liveL Ris
 rw [List.pairwise_map,List.pairwise_filterMap]
 refine List.Pairwise.imp ?_ (List.pairwise_lt_range (n:=m+1))
 intro a b hab x hx y hy
 cases qa:o.getD a none with
 |none=> rw [qa]at hx;cases hx
 | some ka=>
  cases qb:o.getD b none with
  |none=> rw [qb]at hy;cases hy
  |some kb=>
   rw [qa]at hx;rw [qb]at hy
   simp only [ic,d9]at hx hy
   subst hx;subst hy
   exact hab
end
end ST
namespace L2
open PySem PySem.Spec PyProof.Rows
def ae0(w:aZ)(t:cS):Prop:=t.led= !(w.params.followText "set-order")/\(t.plain=false\/(ST.Ris t.place.toList/\t.dummies= #[]))
theorem ae0.x(h:ae0 w t)(k:Nat):aii w k t:=⟨h.1,fun _=> h.2.elim .inl fun z=>.inr z.1⟩
theorem ah7{t:cS}(nd:t.dummies= #[]){ha:Nat -> Int}{h:Int}{j:Nat}{d:Option Nat}: ∀(fuel:Nat) (p:SetTable.Probe),p.dummy=none -> lM.go t ha h fuel p=some (.empty j d) -> d=none/\t.slot j=.empty
 |0,_,_,e=> by cases e
 | fuel+1,p,hp,e=> by
  unfold lM.go at e
  split at e
  ·rename_i hs
   cases e
   exact⟨hp,hs⟩
  ·rename_i hs
   unfold SetTable.slot at hs
   dsimp only at hs
   rw [nd,ST.has_nil]at hs
   split at hs
   ·cases hs
   ·cases hs
  ·split at e
   ·cases e
   ·refine ah7 nd fuel (t.advance p) ?_ e
    exact (ST.adv_dummy t 1 p).trans hp
theorem azg(h:ST.Ris t.place.toList)(hs:t.slot j=.empty):ST.Ris (SetTable.insertAt t.place (cQ t.place j) j).toList:=by
 rw [SetTable.toList_insertAt]
 obtain⟨b1,b2,b3⟩:=ST.below_spec t.place j h
 have gd: ∀(k d:Nat) (hk:k < t.place.size),t.place.getD k d=t.place[k]:=fun k d hk=> by simp [h9,hk]
 have ne: ∀k,(hk:k < t.place.size) -> t.place[k]≠j:=fun k hk z=> by
  have:=ST.below_ix h (i:=k) (j:=j) (by rw [bT hk,z])
  unfold SetTable.slot at hs
  dsimp only at hs
  rw [this,bT hk,z,if_pos (by simp)]at hs
  cases hs
 have sub1:=lN (gC (cQ t.place j) t.place.toList) h
 have sub2:=lN (List.drop_sublist (cQ t.place j) t.place.toList) h
 have lo: ∀a∈t.place.toList.take (cQ t.place j),a < j:=fun a ha=> by
  obtain⟨i,hi,rfl⟩:=iq ha
  rw [bV,aM]at hi
  have:=b2 i (by lia)
  rw [gd i _ (by lia)]at this
  simpa using this
 have hi: ∀a∈t.place.toList.drop (cQ t.place j),j < a:=fun a ha=> by
  obtain⟨i,hi,rfl⟩:=iq ha
  rw [eG,aM]at hi
  have h3:=b3 (cQ t.place j+i) (by lia) (by lia)
  rw [gd _ _ (by lia)]at h3
  have h4:=ne (cQ t.place j+i) (by lia)
  simp only [List.getElem_drop,lU]
  lia
 refine lX.mpr ⟨sub1,dS.mpr ⟨hi,sub2⟩,fun a ha b hb=> ?_⟩
 (rcases aq.mp hb with rfl|hb)
 ·exact lo a ha
 ·exact mI (lo a ha) (hi b hb)
theorem a30(T:ae0 w t)(es:Array (Int×af))(h:Int)(x:af):ae0 w (layNew t es h x).2.1:=by
 refine⟨(aoa t es h x).trans T.1,?_⟩
 unfold layNew
 cases e:t.freeSlot h with
 |none=> exact .inl rfl
 | some q=>
  obtain⟨sl,wd⟩:=q
  dsimp only
  unfold SetTable.orStandIn
  split
  ·rcases T.2 with z|⟨z1,z2⟩
   ·exact .inl z
   ·refine .inr ?_
    unfold SetTable.freeSlot at e
    split at e
    ·rename_i j d hp
     unfold lM at hp
     obtain⟨rfl,hs⟩:=ah7 z2 _ _ rfl hp
     simp only [jW,d9,ma]at e
     obtain⟨rfl,_⟩:=e
     refine⟨azg z1 hs,?_⟩
     show (if SetTable.has t.dummies j then _ else t.dummies)= #[]
     rw [z2,ST.has_nil];rfl
    ·cases e
  ·exact .inl rfl
theorem avs(T:ae0 w t)(es:Array (Int×af))(wd:Nat):ae0 w (relayAll t es wd).2.1:=by
 obtain⟨k1,k2⟩:=ak0 t es wd
 refine⟨k1.trans T.1,?_⟩
 rcases T.2 with z|_
 ·exact .inl (k2 z)
 unfold relayAll
 cases c:t.relaid (es.map (·.1)) wd with
 |none=> exact .inl rfl
 | some q=>
  obtain⟨t',od⟩:=q
  dsimp only
  split
  ·refine .inr ?_
   unfold SetTable.relaid SetTable.laid at c
   cases c2:SetTable.layClean (iR wd - 1) (es.map (·.1)) with
   |none=> rw [c2]at c;cases c
   |some ow=>
    rw [c2]at c
    simp only [mj,du,Option.pure_def,d9,ma]at c
    obtain⟨rfl,_⟩:=c
    exact⟨by simpa [ST.liveL] using ST.live_ris (iR wd - 1) ow,rfl⟩
  ·exact .inl rfl
def xn(P:aV)(w:aZ)(h:Heap)(a:Addr)(S:Int -> Bool)(n:Nat):Prop:=
 ∃o es ep t,h.get? a=some o/\o.ExactSet/\o.data=.set es ep t/\(iz (bX P w) es.toList/\(∀k,S k=true ↔ ∃e∈es.toList,(bX P w).is k e.2=true)
  /\es.size < bE/\t.fits es.size=true/\es.size=n)/\ae0 w t
theorem xn.congr{a:Addr}{S S':Int -> Bool}{n':Nat}(z:xn P w h a S n)(hS: ∀k,S' k=S k)(hn:n'=n):xn P w h a S' n':=by
 subst hn
 obtain⟨o,es,ep,t,e,ex,d,⟨q1,q2,q3⟩,q4⟩:=z
 exact⟨o,es,ep,t,e,ex,d,⟨q1,fun k=> by rw [hS k];exact q2 k,q3⟩,q4⟩
section
variable{prog:aV}{w:aZ}{A:br}{E:af -> aj -> Prop}{s:aj}
theorem at7{a:Addr}{o:Obj}{es:Array (Int×af)}{ep:Nat}(ho:h.get? a=some o)(hex:o.ExactSet)(hd:o.data=.set es ep t){es':Array (Int×af)}{t':cS}{S':Int -> Bool}(q:iz (bX prog w) es'.toList/\(∀k,S' k=true ↔ ∃e∈es'.toList,(bX prog w).is k e.2=true)/\es'.size < bE/\t'.fits es'.size=true)(tx:ae0 w t'):
  (h.update a (ia es' t')).get? a=some {o with data:=.set es' (ep+1) t'}/\xn prog w (h.update a (ia es' t')) a S' es'.size:=by
 obtain⟨g,_⟩:=SetOf_store (knd:=bX prog w) ho hex hd q.1 q.2.1 q.2.2.1 q.2.2.2
 exact⟨g,_,es',ep+1,t',g,hex,rfl,⟨q.1,q.2.1,q.2.2.1,q.2.2.2,rfl⟩,tx⟩
theorem ay9{g:Bool -> Sem Unit}(hg: ∀(b:Bool) (s1:aj) (Q':Unit -> aj -> Prop),Q' () s1 -> wpAny (model prog w) A (g b) Q' E s1){a:Addr}{o:Obj}{es:Array (Int×af)}{ep:Nat}(ho:s.heap.get? a=some o)(hex:o.ExactSet)(hd:o.data=.set es ep t){es1:Array (Int×af)}{t2:cS}{S':Int -> Bool}(q:iz (bX prog w) es1.toList/\(∀k,S' k=true ↔ ∃e∈es1.toList,(bX prog w).is k e.2=true)/\es1.size < bE/\t2.fits es1.size=true)(tx:ae0 w t2){wasDummy:Bool}{R:Option Bool -> aj -> Prop}(h: ∀h',bI a s.heap h' -> xn prog w h' a S' es1.size -> R (some true) {s with heap:=h'}):
  wpAny (model prog w) A (do
   storeSet a es1 t2
   if (!wasDummy&&t2.tooFull)=true then do g (relayAll t2 es1 (cn es1.size)).2.2;storeSet a (relayAll t2 es1 (cn es1.size)).1 (relayAll t2 es1 (cn es1.size)).2.1;pure (some true) else pure (some true)) R E s:=by
 obtain⟨q1,q2,q3,q4⟩:=q
 refine ae (gD ho hd ?_ (ee q3))
 obtain⟨g1,x1⟩:=at7 (w:=w) (prog:=prog) ho hex hd ⟨q1,q2,q3,q4⟩ tx
 have b1:=b7 s.heap a (ia es1 t2)
 split
 ·have p:=relayAll_perm t2 es1 (cn es1.size)
  have f:=relayAll_fits t2 es1 (cn es1.size)
  have tt:=avs tx es1 (cn es1.size)
  revert p f tt
  generalize relayAll t2 es1 (cn es1.size)=Rl
  obtain⟨es2,t3,gv⟩:=Rl
  intro p f tt
  dsimp only at p f tt⊢
  have z:es2.size=es1.size:=by
   have:=p.length_eq
   rwa [aM,aM]at this
  have b2:es2.size < bE:=z▸q3
  refine ae (hg _ _ _ (ae (gD g1 rfl ?_ (ee b2))))
  obtain⟨_,x2⟩:=at7 (w:=w) (prog:=prog) (S':=S') g1 hex rfl ⟨q1.perm p,fun k=> (q2 k).trans ⟨fun⟨e,m,y⟩=> ⟨e,p.mem_iff.mpr m,y⟩,fun⟨e,m,y⟩=> ⟨e,p.mem_iff.mp m,y⟩⟩,b2,f⟩ tt
  exact ah (h _ (b1.trans (b7 _ a _)) (z▸x2))
 ·exact ah (h _ b1 x1)
theorem a97{a:Addr}{S:Int -> Bool}{k:Int}{tk:Tok}{Q:Bool -> aj -> Prop}(hS:xn prog w s.heap a S n)(hroom:n+1 < bE)(h: ∀h',bI a s.heap h' -> xn prog w h' a (fun y=> S y||decide (y=k)) (if S k then n else n+1) -> Q (!S k) {s with heap:=h'}):
  wpAny (model prog w) A (jZ a (.int k tk) ((bX prog w).hash k)) Q E s:=by
 have hkey:(bX prog w).is k (.int k tk)=true:=by show fV k (.int k tk)=true;simp [fV]
 obtain⟨o,es,ep,t,ho,hex,hd,⟨hel,hmem,hb,hf,hn⟩,tx⟩:=hS
 have hgw: ∀(b:Bool) {s1:aj} {Q':Unit -> aj -> Prop},Q' () s1 -> wpAny (model prog w) A (match b with|true=> rule "set.scan.the-table-gave-way"|false=> pure ()) Q' E s1:=by
  intro b s1 Q' z
  cases b
  ·exact ah z
  ·exact cM z
 unfold jZ setAddHashedIn;refine bw (ae (dE ho hd hf ?_))
 dsimp only
 rw [byScan_of (knd:=bX prog w) rfl hb hel,if_pos rfl]
 unfold setAddByScan
 refine ae (ae (cM (ae (wpAny_setScan_of hkey ho hd hf hel ?_))))
 cases hr:List.findIdx? (fun e=> (bX prog w).is k e.2) es.toList with
 | some j=>
  obtain⟨hj,hpj,_⟩:=gJ.mp hr;have sk:S k=true:=(hmem k).mpr ⟨es.toList[j],cE hj,hpj⟩
  dsimp only
  refine ah (ah ?_);have z:=h s.heap (jF a s.heap) ⟨o,es,ep,t,ho,hex,hd,⟨hel,fun y=> by
   rw [kS,decide_eq_true_eq,←hmem y]
   exact⟨fun c=> c.elim id (fun e=> e▸sk),.inl⟩,hb,hf,by rw [sk];exact hn⟩,tx⟩
  rw [sk]at z
  exact z
 | none=>
  dsimp only
  have sk:S k=false:=by
   cases c:S k with
   |false=> rfl
   |true=>
    obtain⟨e,m,y⟩:=(hmem k).mp c
    exact Bool.noConfusion (y.symm.trans (jO.mp hr e m))
  have p:=layNew_perm t es ((bX prog w).hash k) (.int k tk)
  have f:=layNew_fits t es ((bX prog w).hash k) (.int k tk)
  have ld:=a30 tx es ((bX prog w).hash k) (.int k tk)
  revert p f ld
  generalize layNew t es ((bX prog w).hash k) (.int k tk)=L
  obtain⟨es1,t1,wd,gv⟩:=L
  intro p f ld
  dsimp only at p f ld⊢
  rw [jG]at p
  have z1:es1.size=n+1:=by
   have:=p.length_eq
   rw [aM,bq,aM,hn]at this
   exact this
  have b1:es1.size < bE:=z1▸hroom
  have q:iz (bX prog w) es1.toList/\(∀y,(fun y=> S y||decide (y=k)) y=true ↔ ∃e∈es1.toList,(bX prog w).is y e.2=true)/\es1.size < bE:=
   ⟨(hel.push hkey rfl).perm p,fun y=> mem_push_iff hkey hmem p y,b1⟩
  have fin: ∀h',bI a s.heap h' -> xn prog w h' a (fun y=> S y||decide (y=k)) es1.size -> Q true {s with heap:=h'}:=fun h' u v=> by
   have:=h h' u
   rw [sk,if_neg aw,←z1]at this
   exact this v
  refine ae (hgw _ ?_)
  split
  ·refine ae ?_
   rw [lC 8 rfl]
   refine ah (ay9 (t2:=t1) (fun b s1 Q' z=> ?_) ho hex hd ⟨q.1,q.2.1,q.2.2,f⟩ ld fun h' u v=> ?_)
   ·cases b
    ·exact ah z
    ·exact cM z
   ·dsimp only;exact ah (fin h' u v)
  ·rename_i hpl
   refine ae (ah ?_);simp only [↓reduceIte]
   refine ay9 (fun b s1 Q' z=> ?_) ho hex hd ⟨q.1,q.2.1,q.2.2,f⟩ ld fun h' u v=> ?_
   ·cases b
    ·exact ah z
    ·exact cM z
   ·dsimp only;exact ah (fin h' u v)
end
section
variable{prog:aV}{w:aZ}{A:br}{R:hV -> aj -> Prop}{I:Addr}{wr fp:List Addr}{G:Array iu -> Array iu -> Prop}{n:Nat}{P:Nat -> af -> Prop}{St:Nat -> aj -> Prop}
theorem asp(W:WalksS prog w A.in1 I fp wr G n P St)(p:Addr)(hp:p∉fp)(xs:List Int)(hn:xs.length=n)(hval: ∀i v,P i v -> ∃x t,xs[i]?=some x/\v=.int x t)(hb:n+1 < bE):
  ∀(j i:Nat) (s:aj),i+j=n -> St i s -> xn prog w s.heap p (fun y=> decide (y∈jm (xs.take i))) (jm (xs.take i)).length ->
   (∀s',mX (p::wr) G s s' -> xn prog w s'.heap p (fun y=> decide (y∈jm xs)) (jm xs).length -> R (.ok (.ret .none)) s') ->
   codeAny (model prog w) A (.builtin "set.update.loop" ⟨[.ref p,.ref I],[]⟩) R s:=by
 have hpw:p∉wr:=fun z=> hp (W.sub _ z)
 have up: ∀b∈wr,b∈p::wr:=fun b z=> aB _ z
 have stays: ∀{s s':aj} {S:Int -> Bool} {m:Nat},mX wr G s s' -> xn prog w s.heap p S m -> xn prog w s'.heap p S m:=fun mv z=> by
  obtain⟨o,es,ep,t,ho,q⟩:=z
  exact⟨o,es,ep,t,mv.heap p _ hpw ho,q⟩
 intro j
 induction j with
 |zero=>
  intro i s hij hst hS hR
  have ei:i=n:=by lia
  subst ei
  refine dB c8 ?_
  rw [dg bY _]
  refine (show wpAny _ A.in1 (pyNext (.ref I)>>=_) _ _ s from ae (W.done s _ _ hst fun s' mv=> ?_))
  refine ah (hR s' (mv.mono up) ?_)
  have:=stays mv hS
  rw [dM (fA hn)]at this
  exact this
 | succ j ih=>
  intro i s hij hst hS hR
  refine dB c8 ?_
  rw [dg bY _]
  refine (show wpAny _ A.in1 (pyNext (.ref I)>>=_) _ _ s from ae (W.item i s _ _ (by lia) hst fun v s' hP hst' mv=> ?_))
  obtain⟨x,t,hx,rfl⟩:=hval i v hP
  show wpAny _ A.in1 (holding [dH x t] (setAdd p (.int x t))>>=_) _ _ s'
  refine ae (bw ?_);unfold setAdd
  refine bw (ae ((intKind prog w).pyHash (k:=x) (by show fV x (.int x t)=true;simp [fV]) ?_))
  have few:(jm (xs.take i)).length <=i:=ax (aa2 _).2.2 (by rw [bV];lia)
  refine a97 (s:={s' with toks:=s'.toks+1}) (show xn prog w s'.heap p _ _ from stays mv hS) (by lia) fun h' sb hS2=> ?_
  have et:xs.take (i+1)=xs.take i++ [x]:=by rw [jH,hx];rfl
  have hS3:xn prog w h' p (fun y=> decide (y∈jm (xs.take (i+1)))) (jm (xs.take (i+1))).length:=by
   refine xn.congr hS2 (fun y=> ?_) ?_
   ·rw [et,aci]
    by_cases h1:y∈jm (xs.take i)
    ·simp [h1,zm]
    ·by_cases h2:y=x
     ·simp [h1,h2,zm]
     ·simp [h1,h2,zm]
   ·rw [et,aci]
    by_cases h1:x∈jm (xs.take i)
    ·rw [show k8 (jm (xs.take i)) x=jm (xs.take i) from by unfold k8;rw [if_pos h1]];simp [h1]
    ·rw [show k8 (jm (xs.take i)) x=jm (xs.take i)++ [x] from by unfold k8;rw [if_neg h1]];simp [h1]
  refine ah ⟨fR bY _,ih (i+1) _ (by lia) (W.frame _ s' _ _ hst' (eB _) fun b hbm o e=> ?_) hS3 fun s'' mv2 hS''=> ?_⟩
  ·rw [sb.2 b (fun z:b=p=> hp (by rw [←z];exact hbm))];exact e
  ·refine hR s'' (Moved.trans W.gtrans ((mv.mono up).then_heap (eB _) fun b o hbm e=> ?_) mv2) hS''
   rw [sb.2 b (fun z:b=p=> hbm (by rw [z];exact aD))];exact e
end
section
variable{prog:aV}{w:aZ}{A:br}{s:aj}{E:af -> aj -> Prop}
theorem aju{a:Addr}{T:String}{oc:Obj}(hh:A.handled=none)(hT:T="list"\/T="tuple")(ho:s.heap.get? a=some oc)(hc:oc.cls=.type T){its:Array af}(hd:oc.data=.seq its k)(xs:List Int)(hx:jo (xs.map V.int) its.toList)(hb:its.size+1 < bE)(h: ∀(h':Heap) (tk:Nat),xn prog w h' s.heap.objs.size (fun y=> decide (y∈jm xs)) (jm xs).length -> (∀b o,b < s.heap.objs.size -> s.heap.get? b=some o -> h'.get? b=some o) -> Q (.ref s.heap.objs.size) {s with heap:=h',toks:=tk}):
  wpAny (model prog w) A (call (.type "set") [.ref a]) Q E s:=by
 have hlen:xs.length=its.size:=by
  have:=hx.length
  rw [am]at this
  simpa using this
 refine ajp hh hT ho hc hd (fun A' I fp wr P St s0 R W hP nf st g0 k=> ?_) h
 obtain⟨led,hled,g0⟩:=g0
 refine asp W s.heap.objs.size nf xs hlen (fun i v hv=> ?_) hb its.size 0 s0 (by lia) st ⟨_,#[],0,_,g0,⟨rfl,rfl,rfl⟩,rfl,⟨fun e he=> by simp at he,fun k=> by simp [jm],by decide,rfl,rfl⟩,hled,.inr ⟨jE,rfl⟩⟩ k
 have hv:=hP i v hv
 have hi:i < its.size:=(bM.mp hv).1
 have hxi:(xs.map V.int)[i]?=some (.int xs[i]):=by rw [aR,au (by lia)];rfl
 obtain⟨u,hu,ru⟩:=hx.get hxi
 rw [cw,hv]at hu
 cases hu
 obtain⟨t,e⟩:=(show∃t,v=dH xs[i] t from ru)
 exact⟨xs[i],t,au (by lia),e⟩
end
def aho(P:aV)(w:aZ)(p:Addr)(xs:List Int):HO:=.ext fun h=> xn P w h p (fun y=> decide (y∈jm xs)) (jm xs).length
theorem avy{p:Addr}{xs:List Int}(hS:xn P w h p (fun y=> decide (y∈jm xs)) (jm xs).length):j7 P w H h p (aho P w p xs):=by
 refine⟨hS,?_,fun h1 h2 z k=> ?_⟩
 ·obtain⟨o,_,_,_,e,_⟩:=hS
  exact⟨o,e⟩
 ·obtain⟨o,es,ep,t,e,q⟩:=z
  exact⟨o,es,ep,t,k o e,q⟩
theorem asu(hc:X.calm=true):ve X (.type "set") (fun vs H Q=> ∃a xs,vs=[.ref a]/\(SqL X.K H a (xs.map V.int)\/SqT X.K H a (xs.map V.int))/\xs.length < 4000/\ ∀p H',New H p (aho X.prog X.w p xs) H' -> Q (.ref p) H'):=by
 intro pins s σ H vs us Q I r h
 obtain⟨a,xs,rfl,hS,hl,q⟩:=h
 obtain⟨u,rfl,ru⟩:=vals1 r
 cases ru
 have hh:=I.ok.hd hc
 have fin: ∀(h':Heap) (tk:Nat),xn X.prog X.w h' s.heap.objs.size (fun y=> decide (y∈jm xs)) (jm xs).length -> (∀b o,b < s.heap.objs.size -> s.heap.get? b=some o -> h'.get? b=some o) ->
   EP X pins σ Q (.ref s.heap.objs.size) {s with heap:=h',toks:=tk}:=fun h' tk z k=>
  ⟨.ref s.heap.objs.size,upd H s.heap.objs.size (aho X.prog X.w s.heap.objs.size xs),I.laid (fun b u e=> k b u (ar e) e) (ao _) (avy z),rfl,q _ _ ⟨I.fresh,rfl⟩⟩
 rcases hS with hS|hS
 ·obtain⟨its,rv,⟨o,n,e,c,dd,d⟩,z⟩:=I.list hS
  have hsz:its.toArray.size+1 < bE:=by
   have:=rv.length
   rw [am]at this
   rw [az]
   unfold bE
   lia
  exact aju hh (.inl rfl) e c d xs (by simpa using rv) hsz fin
 ·obtain⟨its,rv,⟨o,e,c,n,d⟩,z⟩:=I.tuple hS
  have hsz:its.toArray.size+1 < bE:=by
   have:=rv.length
   rw [am]at this
   rw [az]
   unfold bE
   lia
  exact aju hh (.inr rfl) e c d xs (by simpa using rv) hsz fin
section
variable{prog:aV}{w:aZ}{A:br}{E:af -> aj -> Prop}{s:aj}
theorem ax3{r:Addr}{ks:List Int}(h64:ks.length < 64)(coll: ∀(R:List af -> aj -> Prop),(∀h' d' tk (vs:List af) (xs:List Int),iy vs xs -> xs.Perm ks -> (∀b u,s.heap.get? b=some u -> h'.get? b=some u) -> R vs {s with heap:=h',drawn:=d',toks:=tk}) -> wpAny (model prog w) A.in1 (collect (.ref r)) R E s)(h: ∀(h1 h':Heap) (d':Drawn) (tk e:Nat) (out:Array af) (xs:List Int),iy out.toList xs -> xs.Perm ks -> xs.Pairwise (· <= ·) -> (∀b u,s.heap.get? b=some u -> h1.get? b=some u) -> h'.get? h1.objs.size=some (seqObj "list" out e) -> (∀b u,h1.get? b=some u -> h'.get? b=some u) ->
   Q (.ref h1.objs.size) {s with heap:=h',drawn:=d',toks:=tk}):wpAny (model prog w) A (call (.builtin "sorted") [.ref r]) Q E s:=by
 refine Calls.call_function_entry kind_sorted plain_sorted entry_sorted (args_sorted1 _) ?_;unfold cF.«sorted»
 refine ae (m:=checkCount "sorted" 1 1 _) (ah (ae (coll _ fun h' d' tk vs xs st pm k=> ?_)))
 have lv:vs.length < 64:=by
  have:vs.length=xs.length:=by rw [←st.nums,am]
  rw [this,pm.length_eq];exact h64
 refine ae (wpAny_newList ?_ (by rw [sizeLine_eq];lia));have g:(h'.push {cls:=.type "list",data:=.seq vs.toArray}).get? h'.objs.size=some (seqObj "list" vs.toArray 0):=ay _ rfl
 refine ae (bw (bB slot_list_sort ⟨_,g,rfl⟩ entry_list_sort (list_sort_tree g st lv fun out ys y1 y2 y3=> ⟨_,rfl,?_⟩) (args_list_sort _)))
 obtain⟨e,ge⟩:=sortedHeap_at (out:=out) g
 refine ah ⟨_,rfl,h h' _ d' tk e _ ys y1 (y2.trans pm) y3 k ge fun b u eb=> ?_⟩
 have lb:=ar eb
 rw [sortedHeap_old (aP lb) (by rw [bd];exact dh lb)]
 exact ai _ eb
end
theorem al1: ∀{vs:List af} {xs:List Int},iy vs xs -> jo (xs.map V.int) vs
 |_,_,.nil=>.nil
 |_,_,.cons n t h=>.cons ⟨t,rfl⟩ (al1 h)
end L2
namespace PF
open PySem PySem.Spec
open L2
noncomputable def z3(ks:List Int):List Int:=ks.mergeSort fun a b=> decide (a <=b)
theorem ak7(ks:List Int):(z3 ks).Perm ks:=List.mergeSort_perm _ _
theorem ajv(ks:List Int):(z3 ks).Pairwise (· <= ·):=
 (List.pairwise_mergeSort (le:=fun a b:Int=> decide (a <=b)) (fun a b c h k=> decide_eq_true (Int.le_trans (of_decide_eq_true h) (of_decide_eq_true k))) (fun a b=> by
  rcases Int.le_total a b with h|h
  ·rw [decide_eq_true h];rfl
  ·rw [decide_eq_true h,gh]) ks).imp fun h=> of_decide_eq_true h
theorem ak6: ∀{l m:List Int},l.Perm m -> l.Pairwise (· <= ·) -> m.Pairwise (· <= ·) -> l=m
 |[],m,p,_,_=> (List.nil_perm.mp p).symm
 |a::l,[],p,_,_=> by have:=p.length_eq;simp at this
 | a::l,b::m,p,h,k=> by
  have ha:=dS.mp h
  have hb:=dS.mp k
  have e:a=b:=by
   have h1:a∈b::m:=p.mem_iff.mp aD
   have h2:b∈a::l:=p.mem_iff.mpr aD
   rcases aq.mp h1 with z|z
   ·exact z
   ·rcases aq.mp h2 with y|y
    ·exact y.symm
    ·exact Int.le_antisymm (ha.1 b y) (hb.1 a z)
  subst e
  rw [ak6 (gZ.cons_inv p) ha.2 hb.2]
theorem ao6{ks js:List Int}(p:js.Perm ks)(h:js.Pairwise (· <= ·)):js=z3 ks:=ak6 (p.trans (ak7 ks).symm) h (ajv ks)
open PyProof.Rows in
theorem amv(hc:X.calm=true)(hu:X.A.units+70 < cLine):ve X (.builtin "sorted") (fun vs H Q=> ∃a xs,vs=[.ref a]/\H a=some (aho X.prog X.w a xs)/\(jm xs).length < 64/\ ∀p H',New H p (.lst ((z3 (jm xs)).map V.int)) H' -> Q (.ref p) H'):=by
 intro pins s σ H vs us Q I r h
 obtain⟨a,xs,rfl,e,hl,q⟩:=h
 obtain⟨u,rfl,ru⟩:=vals1 r
 cases ru
 have hh:=I.ok.hd hc
 obtain⟨hx,_,_⟩:=(show j7 X.prog X.w H s.heap a (aho X.prog X.w a xs) from I.hok a _ e)
 obtain⟨o,es,ep,t,eo,ex,d,⟨hel,hmem,hb,hf,hn⟩,tx⟩:=hx
 refine ax3 hl (fun R k=> av0 (by exact hh) eo ex d hf hb (tx.x _) fun h' d' tk ord p kp=> ?_) ?_
 ·have al: ∀v∈ord,∃i t,v=dH i t:=fun v hv=> by
   obtain⟨en,m,rfl⟩:=bj.mp (p.mem_iff.mp hv)
   obtain⟨⟨y,hy,_⟩,_⟩:=hel en m
   obtain⟨t,z⟩:=jA (show fV y en.2=true from hy)
   exact⟨y,t,z⟩
  refine k h' d' tk ord (ord.map numOf) (intsAre_map ord al) ?_ kp
  refine (aol (aa2 xs).1 (fun y hy=> ?_) ?_).symm
  ·obtain⟨en,m,hy'⟩:=(hmem y).mp (by simpa using hy)
   obtain⟨t,z⟩:=jA (show fV y en.2=true from hy')
   exact bj.mpr ⟨en.2,p.mem_iff.mpr (bj.mpr ⟨en,m,rfl⟩),by rw [z];rfl⟩
  ·rw [am,p.length_eq,am,aM,hn]
   exact ao _
 ·intro h1 h' d' tk e out ys st pm so k1 g k2
  have I1:Inv X pins σ H {s with heap:=h1,toks:=s.toks}:=I.un (Un.kept k1) (I.hok.kept k1)
  have lx:ys.length < 64:=by rw [pm.length_eq];exact hl
  have ey:=ao6 pm so
  subst ey
  have I2:Inv X pins σ (upd H h1.objs.size (.lst ((z3 (jm xs)).map V.int))) {s with heap:=h',toks:=tk}:=I1.laid (t':=tk) k2 (ao _) ⟨by rw [am,sizeLine_eq];lia,out.toList,e,al1 st,by simpa [seqObj] using g⟩
  exact⟨.ref h1.objs.size,_,I2.drew d',rfl,q _ _ ⟨I1.hok.fresh (ao _),rfl⟩⟩
noncomputable def aca:List D -> Option (List Int)
 |[]=> some []
 |.da (.int i)::r=> match aca r with
  |some xs=> some (i::xs)
  |none=> none
 |_=> none
theorem akw{K:ak}{as:As}{H:Hp}: ∀{xs:List V} {ds:List D} {is:List Int},RDs K as H xs ds -> aca ds=some is -> xs=is.map V.int
 |_,_,is,.nil,h=> by cases h;rfl
 | x::xs,d::ds,is,.cons r rs,h=> by
  unfold aca at h
  split at h
  ·cases‹_::_=_›
  ·rename_i i r' e
   cases e
   split at h
   ·rename_i ys q
    cases h
    rw [akw rs q]
    cases r.int_inv
    rfl
   ·cases h
  ·cases h
theorem ajc{K:ak}{as:As}{H:Hp}: ∀is:List Int,RDs K as H (is.map V.int) (is.map D.int)
 |[]=>.nil
 |i::r=>.cons (.da (.int i)) (ajc r)
def acd(m:Bool)(ds:List D)(s:S):R D:=match ds with
 |[d]=> match (adw s d).bind aca with
  |some is=> if is.length < 4000/\(jm is).length < 64 then vq m ((z3 (jm is)).map D.int) s else .bad
  |none=>.bad
 |_=>.bad
section
variable[XW]{X:Cx}
theorem anf(m:Bool){f:FA}{p1 p2 pos2:Pos}(hc:X.calm=true)(hu:X.A.units+70 < cLine)(hm1:X.mg "sorted"=none)(hm2:X.mg "set"=none)(ha:RA X [e] f)(hg1:Gl X "sorted":=by rfl)(hg2:Gl X "set":=by rfl)(hs:starEach [e] X.env=(false,eval e X.env)::starEach [] X.env:=by rfl)(hs2:starEach [.Call (.Name "set" p2) [e] [] pos2] X.env=(false,eval (.Call (.Name "set" p2) [e] [] pos2) X.env)::starEach [] X.env:=by rfl)(hpl:(backTo pos (starEach [] X.env)).any (·.1)=false:=by rfl)(hpl2:(backTo pos2 (starEach [] X.env)).any (·.1)=false:=by rfl):
  RE X (.Call (.Name "sorted" p1) [.Call (.Name "set" p2) [e] [] pos2] [] pos) (fCB (acd m) f):=by
 obtain⟨t,pa,ra⟩:=ha.ex
 have pset:=aep (X:=X) (asu hc) hg2 hm2 ay8 pa (pos:=pos2) (p:=p2) (by decide) (by decide) hs hpl2
 have psort:=adq (X:=X) (amv hc hu) hg1 hm1 aug (aak pset ad6 hs2) (pos:=pos) (p:=p1) (by decide) (by decide) hs2 hpl
 refine⟨_,psort,fun as σ H ρ s Q rl en h=> ?_⟩
 refine ra as σ H ρ s _ rl en (Dn.bind h fun ds s1 as1 H1 vs st1 rl1 r1 h1=> ?_)
 unfold acd at h1
 split at h1
 ·obtain⟨v,rfl,rv⟩:=r1.one
  split at h1
  ·rename_i is e
   split at h1
   ·rename_i hz
    cases e2:adw s1 _ with
    |none=> rw [e2]at e;cases e
    |some xs=>
     rw [e2]at e
     obtain⟨p,zs,rfl,sq,rz⟩:=acy rl1 rv e2
     have ez:=akw rz (show aca xs=some is from e)
     subst ez
     refine⟨p,is,rfl,sq,hz.1,fun q H2 n2=> ⟨q,is,rfl,n2.at,hz.2,fun r H3 n3=> ?_⟩⟩
     exact aah (Dn.step h1 (j4 n2)) (rl1.new n2) (ajc _) n3
   ·exact h1.elim
  ·exact h1.elim
 ·exact h1.elim
end
variable[XW]
section
variable{X:Cx}{a b:Expr}{fa:FA}{pos:Pos}
noncomputable def aqw(i j:Nat)(ρ:En)(ds:List D)(s:S):R Fl:=match ds with
 |[d,e]=>.ok (.nx ((ρ.set i (some d)).set j (some e))) s
 |_=>.bad
def aq5(i j:Nat)(f:FA):FS:=fun ρ s=> (f ρ s).bind (aqw i j ρ)
theorem bd5{i:Nat}{f:FA}:aq5 i j f ρ s=(f ρ s).bind (aqw i j ρ):=(rfl)
theorem ban{i:Nat}{d e:D}:aqw i j ρ [d,e] s=.ok (.nx ((ρ.set i (some d)).set j (some e))) s:=(rfl)
theorem a2l{i:Nat}{x:Str}{px py pt:Pos}{kt k2 pt2}(hc:X.calm=true)(hN:X.N.Nodup)(hi:X.N[i]?=some x)(hj:X.N[j]?=some y)(hij:i≠j)(hx:X.env.scope.names.lookup x=some .local)(hy:X.env.scope.names.lookup y=some .local)(ha:RA X [a,b] fa)(hw:gP [.Tuple [.Name x px,.Name y py] kt pt] (.Tuple [a,b] k2 pt2) X.env=pure (some [x,y]):=by rfl)(hs:gO [.Tuple [.Name x px,.Name y py] kt pt] (.Tuple [a,b] k2 pt2) pos.line X.env=pure false:=by rfl):
  RS X (.Assign [.Tuple [.Name x px,.Name y py] kt pt] (.Tuple [a,b] k2 pt2) pos) (aq5 i j fa):=by
 obtain⟨t,p,r⟩:=ha.ex
 refine⟨_,a44 hc hN hi hj hij hx hy p hw hs,fun as σ H ρ s D rl en h=> ?_⟩
 refine r as σ H ρ s _ rl en (Dn.bind h fun ds s1 as1 H1 xs st1 rl1 r1 h1=> ?_)
 unfold aqw at h1
 cases r1 with
 |nil=> exact h1.elim
 | cons r1 r2=>
  cases r2 with
  |nil=> exact h1.elim
  |cons r2 r3=>
   cases r3 with
   |nil=> exact⟨_,_,rfl,Dn.now (b:=FV.nx _) h1 rl1 (.nx (((en.mono st1).set i r1).set j r2))⟩
   |cons _ _=> exact h1.elim
end
end PF
namespace Ln
open PySem L2 PF
def top(i:Nat):Stmt:=PySem.Challenge.pw_mannerports_k02_nets_or_what_is_amiss.main.body.getD i (.Pass ⟨0,0,0,0⟩)
noncomputable abbrev ahl:Stmt:=top 9
noncomputable abbrev ahu:Stmt:=top 10
noncomputable abbrev ag1:Stmt:=top 11
noncomputable abbrev ajq:Stmt:=top 15
abbrev ab8:Stmt:=top 16
noncomputable abbrev agh:Stmt:=top 25
noncomputable abbrev ajb:Stmt:=top 26
noncomputable abbrev am7:Stmt:=top 27
abbrev ag4:Stmt:=top 28
noncomputable abbrev ahe:Stmt:=top 29
noncomputable abbrev ajw:Stmt:=top 30
noncomputable abbrev ak3:Stmt:=top 31
noncomputable abbrev ajr:Stmt:=top 32
noncomputable abbrev adm:Stmt:=top 33
abbrev ab4:Stmt:=top 34
abbrev aee:Stmt:=top 35
abbrev age:Stmt:=top 36
abbrev aen:Stmt:=top 37
abbrev adi:Stmt:=top 38
abbrev aga:Stmt:=top 40
abbrev agf:Stmt:=top 41
abbrev ach:Stmt:=top 42
abbrev af9:Stmt:=top 43
abbrev ag3:Stmt:=top 44
abbrev agb:Stmt:=top 45
abbrev acg:Stmt:=top 46
abbrev ad1:Stmt:=top 47
abbrev abu:Stmt:=top 48
abbrev acf:Stmt:=top 49
abbrev acm:Stmt:=top 50
abbrev afa:Stmt:=top 51
abbrev aeg:Stmt:=top 52
abbrev agc:Stmt:=top 53
abbrev ag8:Stmt:=top 54
abbrev aeq:Stmt:=top 55
abbrev agd:Stmt:=top 56
abbrev aeu:Stmt:=top 57
abbrev aav:Stmt:=top 58
abbrev xb:Str:="MannerError"
abbrev xcs:List Str:=["NoNet","NoText","NoMoment","TooMany","NoJoin","NoAlike"]
abbrev xfl:List Str:=["word","path"]
abbrev ad0:Stmt:=axw (top 1) 0
abbrev amm:Stmt:=axw (top 2) 0
structure Txt0 (K:ak) (mg:Str -> Option af):Prop where
 x:XT K mg xb xcs xfl
 hx_MannerError:HasX K mg "MannerError" "MannerError.__init__" ad0 ["self","text"]
 hx_NoNet:HasX K mg "NoNet" "NoNet.__init__" amm ["self","word","path"]
 h_is_whole:Has K mg "is_whole" ahl ["thing"]
 h_is_below:Has K mg "is_below" ahu ["many","thing"]
 h_is_rising:Has K mg "is_rising" ag1 ["things"]
 h_is_port:Has K mg "is_port" ajq ["thing"]
 h_are_unlike_ports:Has K mg "are_unlike_ports" ab8 ["thing"]
 h_is_things:Has K mg "is_things" agh ["thing"]
 h_is_seen:Has K mg "is_seen" ajb ["thing"]
 h_is_net:Has K mg "is_net" am7 ["thing"]
 h_right_net:Has K mg "right_net" ag4 ["thing"]
 h_is_thing:Has K mg "is_thing" ahe ["things","thing"]
 h_is_held:Has K mg "is_held" ajw ["things","thing"]
 h_is_told:Has K mg "is_told" ak3 ["things","thing"]
 h_is_knot:Has K mg "is_knot" ajr ["single","several"]
 h_is_flat_part:Has K mg "is_flat_part" adm ["things","thing"]
 h_has_within_shape:Has K mg "has_within_shape" ab4 ["thing"]
 h_fits_within:Has K mg "fits_within" aee ["things","part"]
 h_check_net:Has K mg "check_net" age ["thing","path"]
 h_check_part:Has K mg "check_part" aen ["things","part","path"]
 h_parts_in_all:Has K mg "parts_in_all" adi ["net"]
 h__law_feed:Has K mg "_law_feed" aga ["_law_script"]
 h__law_draw:Has K mg "_law_draw" agf ["_law_feed_here","_law_many"]
 h__law_shuffled:Has K mg "_law_shuffled" ach ["_law_feed_here","_law_some"]
 h__law_ports:Has K mg "_law_ports" af9 ["_law_feed_here","_law_many"]
 h__law_part:Has K mg "_law_part" ag3 ["_law_feed_here","_law_things","_law_ports_here"]
 h__law_nest:Has K mg "_law_nest" agb ["_law_feed_here","_law_deep_here","_law_things","_law_seen"]
 h__law_is_whole:Has K mg "_law_is_whole" acg ["_law_thing"]
 h__law_is_port:Has K mg "_law_is_port" ad1 ["_law_thing"]
 h__law_are_ports:Has K mg "_law_are_ports" abu ["_law_thing"]
 h__law_are_told:Has K mg "_law_are_told" acf ["_law_things","_law_thing"]
 h__law_is_plain:Has K mg "_law_is_plain" acm ["_law_things","_law_part_here"]
 h__law_fault:Has K mg "_law_fault" afa ["_law_thing","_law_path","_law_deep_here"]
 h__law_count:Has K mg "_law_count" aeg ["_law_net"]
 h__law_bent:Has K mg "_law_bent" agc ["_law_feed_here","_law_thing"]
 h__law_deep:Has K mg "_law_deep" ag8 ["_law_feed_here","_law_many"]
 h__law_great:Has K mg "_law_great" aeq ["_law_feed_here"]
 h__law_told:Has K mg "_law_told" agd ["_law_thing"]
 h__law_right:Has K mg "_law_right" aeu ["_law_thing"]
 h_law:Has K mg "law" aav ["_law_script"]
 c_SMALL_LETTERS: ∃t,mg "SMALL_LETTERS"=some (.str "abcdefghijklmnopqrstuvwxyz" t)
 c_MOST_LETTERS: ∃t,mg "MOST_LETTERS"=some (.int 8 t)
 c_MOST_THINGS: ∃t,mg "MOST_THINGS"=some (.int 3 t)
 c_MOST_SEEN: ∃t,mg "MOST_SEEN"=some (.int 6 t)
 c_MOST_ENDS: ∃t,mg "MOST_ENDS"=some (.int 12 t)
 c_MOST_DEEP: ∃t,mg "MOST_DEEP"=some (.int 4 t)
 c_MOST_PARTS: ∃t,mg "MOST_PARTS"=some (.int 120 t)
 c_TWO_PORTS_ALONE:ar1 K mg "TWO_PORTS_ALONE" [.str "both",.str "loose",.str "drain",.str "either"]
 c_HOLDING:ar1 K mg "HOLDING" [.str "place",.str "last"]
 n_len:mg "len"=none
 n_min:mg "min"=none
 n_max:mg "max"=none
 n_repr:mg "repr"=none
 n_sorted:mg "sorted"=none
 n_list:mg "list"=none
 n_tuple:mg "tuple"=none
 n_set:mg "set"=none
 n_range:mg "range"=none
 n_isinstance:mg "isinstance"=none
 n_str:mg "str"=none
 n_int:mg "int"=none
 n_bool:mg "bool"=none
 n_all:mg "all"=none
 n_zip:mg "zip"=none
 n_sum:mg "sum"=none
 n_enumerate:mg "enumerate"=none
 n_ValueError:mg "ValueError"=none
local macro_rules | `(tactic| walk_at $s:str) => do
 let n := s.getString
 unless n.startsWith "ok" do Lean.Macro.throwUnsupported
 let x := (n.drop 2).toString
 let i (p : String) := bR (p ++ x).toName
 let sc := bR `sc
 let hr := bR `hr
 `(tactic| (have $sc:ident := $(i "sc"); exact acp $(i "T.h_") $sc rfl rfl fun f cdv A outer s H E I hx $hr => by unfold $(i "B"):ident; walk_at "dr"))
local macro_rules | `(tactic| walk_at "cl") => do
 let T := bR `T
 let ns := "aim awm okis_whole okis_below okis_rising okis_port okare_unlike_ports okis_things okis_seen okis_thing okis_held okis_told okis_knot okis_flat_part okhas_within_shape okfits_within okright_net okis_net ok_law_feed ok_law_draw ok_law_shuffled ok_law_ports ok_law_part ok_law_is_whole ok_law_is_port ok_law_are_ports ok_law_are_told ok_law_is_plain ok_law_deep ok_law_great ok_law_told ok_law_right"
 let a : ik `tactic ← `(tactic| first | assumption | exact $(bR `an2) $T _ | exact $(bR `am1) $T _ | exact $(bR `ad3) $T _ | exact $(bR `ok_law_nest) $T _ | exact $(bR `ok_law_fault) $T _ | exact $(bR `ok_law_count) $T _ | exact $(bR `ok_law_bent) $T _)
 let r ← (ns.splitOn " ").foldrM (init := a) fun n (acc : ik `tactic) => `(tactic| first | exact $(bR n.toName) $T | $acc:tactic)
 return r
theorem avm:yz X scope [] []:=trivial
theorem atm{ys:List Str}(h:apj X scope y j)(k:yz X scope ys js):yz X scope (y::ys) (j::js):=⟨h,k⟩
local macro_rules | `(tactic| walk_at "dr") => do
 let T := bR `T
 let hr := bR `hr
 let sc := bR `sc
 let ns := "jx:_ at0: ahg:? a6p:?? a6d:??? ac6: bbi:_? bb8:??? a8c:_??? aye: bbf:? bam:?? a2z: a86:????? bbl:? bb5:? bci:?? bbm:? bcv:??? bb3:??|jn:?? kj:|vk:?? ky:? aar:|alx:? acj:??? afk:? bbt:??? a3z:??|alf:??? aa9:? adc:? a9b:?????|ayu:?? a3k:? ard:?? a19:?|bau:? bax:?|ad8:????|a9q:? a9n:|a84: a96:?"
 let q ← `(?_)
 let u ← `(_)
 let gs ← (ns.splitOn "|").mapM fun l => do
  let e ← `(tactic| fail)
  (l.splitOn " ").foldrM (init := e) fun x (acc : ik `tactic) => do
   let p := x.splitOn ":"
   let f := bR p.head!.toName
   let as := (p.getLast!.toList.map fun c => if c == '?' then q else u).toArray
   if as.isEmpty then `(tactic| first | exact $f | $acc:tactic) else `(tactic| first | refine $f $as* | $acc:tactic)
 let g (i : Nat) : ik `tactic := gs.getD i ⟨.missing⟩
 `(tactic|
  ((repeat' first
 | (show RE _ _ _; first
  | $(g 0):tactic
  | refine acv (by walk_at "cl") (($hr).mono (by first | decide | lia)) ?_
  | refine yq aq6 ($T).n_len akn ?_
  | refine yq apg ($T).n_isinstance xi ?_
  | exact aab ($T).n_tuple afl
  | refine ayr PySem.F.slot_list_append PySem.F.type_list_append ax5 ?_ ?_
  | refine akj a09 ($T).n_tuple afl ?_
  | refine yq (az2 $hr) ($T).n_repr a2u ?_
  | refine yq (a69 rfl) ($T).n_all a7p ?_
  | exact aab ($T).n_str a6u
  | exact aab ($T).n_int ayq
  | refine akj (arq _) ($T).n_list atd ?_
  | exact aab ($T).n_bool a2x
  | refine ars rfl ($T).n_len ($T).n_set ?_
  | refine yq (a7q rfl) ($T).n_min a7n ?_
  | exact abn ($T).c_MOST_LETTERS
  | exact a1m ($T).c_SMALL_LETTERS
  | exact abn ($T).c_MOST_THINGS
  | exact abn ($T).c_MOST_SEEN
  | exact abn ($T).c_MOST_ENDS
  | exact ap4 ["place", "last"] ($T).c_HOLDING
  | exact ap4 ["both", "loose", "drain", "either"] ($T).c_TWO_PORTS_ALONE
  | exact abn ($T).c_MOST_PARTS
  | refine aaf (by walk_at "cl") (($hr).mono (by first | decide | lia)) ?_
  | refine akj (arq true) ($T).n_list atd ?_
  | refine ayr PySem.F.slot_list_pop PySem.F.type_list_pop a1r ?_ ?_
  | refine yq (a7s rfl) ($T).n_max a65 ?_
  | refine anf false rfl (u70 $hr) ($T).n_sorted ($T).n_set ?_
  | refine akj a6y ($T).n_int ayq ?_
  | refine yq (a5w rfl) ($T).n_sum a7t ?_
  | refine' aym _ (own := [_]) (caps := _) _ _ _ _ _ _ _ _ _ _ _
  | refine' aym _ (own := [_, _]) (caps := _) _ _ _ _ _ _ _ _ _ _ _)
 | (show RA _ _ _; first
  | $(g 1):tactic
  | exact atk rfl)
 | (show RSs _ _ _; first
  | $(g 2):tactic)
 | (show RS _ _ _; first
  | refine' aur _ (own := [_]) (caps := _) _ _ _ _ _ _ _ _ _ _ _ _ _ _ _
  | $(g 3):tactic
  | refine ac8 ?_ rfl (by first | exact c7 rfl | exact fB rfl) ?_
  | refine aro rfl ?_ ?_ ?_
  | refine a2d ?_ rfl (by first | exact c7 rfl | exact fB rfl) ?_
  | refine aae ($T).x rfl ?_
  | refine a2l rfl ?_ rfl rfl (by decide) rfl rfl ?_)
 | (show RT _ _ _; first
  | $(g 4):tactic
  | refine RW.rt ?_)
 | (show RW _ _ _; first
  | $(g 5):tactic)
 | (show RI _ _ _ _; first
  | $(g 6):tactic
  | refine a3s ($T).n_range ?_
  | refine azs ($T).n_zip ?_)
 | (show RG _ _ _; first
  | $(g 7):tactic
  | refine aya rfl ?_ ?_
  | refine ayn rfl ?_ ?_ ?_)
 | (show ROp _ _ _; first
  | $(g 8):tactic)
 | (show RIfs _ _ _; first
  | $(g 9):tactic)
 | (show Op2 _ _ _; with_reducible first | refine a8y ?_ | refine a91 ?_ | refine a7m ?_ | exact a2t false | refine a37 ?_ | refine a0r ?_ | exact axz _ | exact a78 | exact a35 | exact a89 | exact a6z | exact a8h | exact a26 | exact a9i | exact a8w | exact a75 | exact ayw | exact a6n | exact a61)
 | (show _ < cLine; first | exact u64 $hr | exact u65 $hr | exact u66 $hr | exact u70 $hr)
 | exact c7 ⟨rfl, rfl⟩
 | exact avm
 | refine' atm ⟨rfl, by first | exact fB (c7 rfl) | exact c7 rfl | exact fB (fB rfl), rfl, rfl⟩ _
 | (show _ = _; exact rfl)
 | (show Loc _ _; first | exact c7 rfl | exact fB rfl)
 | (show _ \/ _; first | exact c7 rfl | exact fB rfl)
 | (intro _ _ _ _ _ _; show RE _ _ _)
 | (intro _ _ _ _; show RG _ _ _)
 | (intro _ _ _ _ _ _; show RIfs _ _ _)
 | (intro _ _ _ _; show RI _ _ _ _)); all_goals first | exact ($sc).nd | exact (show (_ ++ _ : List Str).Nodup by decide +kernel)))
variable{P:aV}{w:aZ}{K:ak}{mg:Str -> Option af}{base:Heap}
def akf:FS:=
  (qo (fCB (aej xb xcs) (ja (jb 0) (ja (jb 1) jc))))
def xv:FF:=jz 2 akf
theorem aiv:FnScope ["self","text"] ["self","text"] (jg ad0):=⟨rfl,rfl,rfl,by decide+kernel,rfl,by decide+kernel,by decide+kernel⟩
theorem aim(T:Txt0 K mg):InitX P w K mg base "MannerError" 1 2 xv:=by
 exact asj (k:=0) T.hx_MannerError aiv rfl rfl (fun f cdv A outer s H E I hx hr=>
   (ky (afk (axj T.x T.n_ValueError (jn (jx 0) (jn (jx 1) kj))))))
def ain:FS:=
  (jf (qo (je 2 xv (ja (jb 0) (ja (fC (.da (.str "this is no net"))) jc))))
  (jf (ahs xb xcs xfl "word" (jb 0) (jb 1))
  (ahs xb xcs xfl "path" (jb 0) (jb 2))))
def vx:FF:=jz 3 ain
theorem a0e{a2:D}:vx [a0,a1,a2] s=(ain [some a0,some a1,some a2] s).bind jq:=rfl
theorem axs:FnScope ["self","word","path"] ["self","word","path"] (jg amm):=⟨rfl,rfl,rfl,by decide+kernel,rfl,by decide+kernel,by decide+kernel⟩
theorem awm(T:Txt0 K mg):InitX P w K mg base "NoNet" 3 3 vx:=by
 have ciMannerError:=aim (P:=P) (w:=w) (base:=base) T
 exact asj (k:=2) T.hx_NoNet axs rfl rfl (fun f cdv A outer s H E I hx hr=>
   (vk (afk (aw3 ciMannerError (hr.mono (by decide)) (jn (jx 0) (jn ac6 kj))))
   (vk (ani T.x (jx 0) (jx 1))
   (ky (ani T.x (jx 0) (jx 2))))))
def Bis_whole:FS:=
  (ji (xj (fCB qd (ja (jb 0) (ja (fC (.ty "int")) jc))) (auy (fCB qd (ja (jb 0) (ja (fC (.ty "bool")) jc))))))
def ab2:FF:=jz 1 Bis_whole
theorem au2:ab2 [a0] s=(Bis_whole [some a0] s).bind jq:=rfl
theorem scis_whole:FnScope ["thing"] ["thing"] (jg ahl):=⟨rfl,rfl,rfl,by decide+kernel,rfl,by decide+kernel,by decide+kernel⟩
theorem okis_whole(T:Txt0 K mg):CalF P w K mg base "is_whole" 1 1 ab2:=by walk_at "okis_whole"
def Bis_below:FS:=
  (ji (xj (je 1 ab2 (ja (jb 1) jc)) (vt gLe gLt (fC (.da (.int 0))) (jb 1) (jb 0))))
def acl:FF:=jz 2 Bis_below
theorem arz:acl [a0,a1] s=(Bis_below [some a0,some a1] s).bind jq:=rfl
theorem scis_below:FnScope ["many","thing"] ["many","thing"] (jg ahu):=⟨rfl,rfl,rfl,by decide+kernel,rfl,by decide+kernel,by decide+kernel⟩
theorem okis_below(T:Txt0 K mg):CalF P w K mg base "is_below" 2 2 acl:=by walk_at "okis_below"
def Bis_rising:FS:=
  (ji (fCB aek (ja (fLc false [] 2 (aqe (ja (jb 0) (ja (fSl false (jb 0) (kh (fC (.da (.int 1)))) fNo) jc))) (.t2 (.nm 0) (.nm 1)) acx (fOp aq1 (jb 0) (jb 1))) jc)))
def abk:FF:=jz 1 Bis_rising
theorem aq9:abk [a0] s=(Bis_rising [some a0] s).bind jq:=rfl
theorem scis_rising:FnScope ["things"] ["things"] (jg ag1):=⟨rfl,rfl,rfl,by decide+kernel,rfl,by decide+kernel,by decide+kernel⟩
theorem okis_rising(T:Txt0 K mg):CalF P w K mg base "is_rising" 1 1 abk:=by walk_at "okis_rising"
def Bis_port:FS:=
  (jf (jp (qy (jw (j3 (fCB qd (ja (jb 0) (ja (fC (.ty "str")) jc))))) (jw (jj (vt gLe gLe (fC (.da (.int 1))) (fCB jv (ja (jb 0) jc)) (fC (.da (.int 8))))))) (ji (fC (.da (.bool false)))) jk)
  (ji (fCB aek (ja (fLc false [] 1 (aph (jb 0)) (.nm 0) acx (fOp aqk (jb 0) (fC (.da (.str "abcdefghijklmnopqrstuvwxyz"))))) jc))))
def ae3:FF:=jz 1 Bis_port
theorem ax9:ae3 [a0] s=(Bis_port [some a0] s).bind jq:=rfl
theorem scis_port:FnScope ["thing"] ["thing"] (jg ajq):=⟨rfl,rfl,rfl,by decide+kernel,rfl,by decide+kernel,by decide+kernel⟩
theorem okis_port(T:Txt0 K mg):CalF P w K mg base "is_port" 1 1 ae3:=by walk_at "okis_port"
def Bare_unlike_ports:FS:=
  (jf (jp (qy (jw (j3 (fCB qd (ja (jb 0) (ja (fC (.ty "tuple")) jc))))) (jw (j3 (fCB aek (ja (fLc false [] 1 (fIt (jb 0)) (.nm 0) acx (je 1 ae3 (ja (jb 0) jc))) jc))))) (ji (fC (.da (.bool false)))) jk)
  (ji (fOp gEq (fCB adl (ja (jb 0) jc)) (fCB jv (ja (jb 0) jc)))))
def ki:FF:=jz 1 Bare_unlike_ports
theorem ag0:ki [a0] s=(Bare_unlike_ports [some a0] s).bind jq:=rfl
theorem scare_unlike_ports:FnScope ["thing"] ["thing"] (jg ab8):=⟨rfl,rfl,rfl,by decide+kernel,rfl,by decide+kernel,by decide+kernel⟩
theorem okare_unlike_ports(T:Txt0 K mg):CalF P w K mg base "are_unlike_ports" 2 1 ki:=by walk_at "okare_unlike_ports"
def Bis_things:FS:=
  (ji (xj (je 1 ab2 (ja (jb 0) jc)) (vt gLe gLe (fC (.da (.int 1))) (jb 0) (fC (.da (.int 3))))))
def abh:FF:=jz 1 Bis_things
theorem ar5:abh [a0] s=(Bis_things [some a0] s).bind jq:=rfl
theorem scis_things:FnScope ["thing"] ["thing"] (jg agh):=⟨rfl,rfl,rfl,by decide+kernel,rfl,by decide+kernel,by decide+kernel⟩
theorem okis_things(T:Txt0 K mg):CalF P w K mg base "is_things" 2 1 abh:=by walk_at "okis_things"
def Bis_seen:FS:=
  (ji (xj (je 1 ki (ja (jb 0) jc)) (fOp gLe (fCB jv (ja (jb 0) jc)) (fC (.da (.int 6))))))
def aeb:FF:=jz 1 Bis_seen
theorem axh:aeb [a0] s=(Bis_seen [some a0] s).bind jq:=rfl
theorem scis_seen:FnScope ["thing"] ["thing"] (jg ajb):=⟨rfl,rfl,rfl,by decide+kernel,rfl,by decide+kernel,by decide+kernel⟩
theorem okis_seen(T:Txt0 K mg):CalF P w K mg base "is_seen" 3 1 aeb:=by walk_at "okis_seen"
def Bis_thing:FS:=
  (ji (je 2 acl (ja (jb 0) (ja (jb 1) jc))))
def aax:FF:=jz 2 Bis_thing
theorem ate:aax [a0,a1] s=(Bis_thing [some a0,some a1] s).bind jq:=rfl
theorem scis_thing:FnScope ["things","thing"] ["things","thing"] (jg ahe):=⟨rfl,rfl,rfl,by decide+kernel,rfl,by decide+kernel,by decide+kernel⟩
theorem okis_thing(T:Txt0 K mg):CalF P w K mg base "is_thing" 3 2 aax:=by walk_at "okis_thing"
def Bis_held:FS:=
  (ji (fOr (fOp gIs (jb 1) (fC (.da (.none)))) (je 2 aax (ja (jb 0) (ja (jb 1) jc)))))
def ae2:FF:=jz 2 Bis_held
theorem axg:ae2 [a0,a1] s=(Bis_held [some a0,some a1] s).bind jq:=rfl
theorem scis_held:FnScope ["things","thing"] ["things","thing"] (jg ajw):=⟨rfl,rfl,rfl,by decide+kernel,rfl,by decide+kernel,by decide+kernel⟩
theorem okis_held(T:Txt0 K mg):CalF P w K mg base "is_held" 4 2 ae2:=by walk_at "okis_held"
def Bis_told:FS:=
  (jf (jp (qy (jw (j3 (fCB qd (ja (jb 1) (ja (fC (.ty "tuple")) jc))))) (jw (j3 (fCB aek (ja (fLc false [0] 1 (fIt (jb 1)) (.nm 0) acx (je 2 aax (ja (jb 1) (ja (jb 0) jc)))) jc))))) (ji (fC (.da (.bool false)))) jk)
  (ji (je 1 abk (ja (jb 1) jc))))
def ae7:FF:=jz 2 Bis_told
theorem avu:ae7 [a0,a1] s=(Bis_told [some a0,some a1] s).bind jq:=rfl
theorem scis_told:FnScope ["things","thing"] ["things","thing"] (jg ak3):=⟨rfl,rfl,rfl,by decide+kernel,rfl,by decide+kernel,by decide+kernel⟩
theorem okis_told(T:Txt0 K mg):CalF P w K mg base "is_told" 4 2 ae7:=by walk_at "okis_told"
def Bis_knot:FS:=
  (jf (jp (qy (jw (j3 (fCB qd (ja (jb 1) (ja (fC (.ty "tuple")) jc))))) (jw (jj (vt gLe gLe (fC (.da (.int 1))) (fCB jv (ja (jb 1) jc)) (fC (.da (.int 12))))))) (ji (fC (.da (.bool false)))) jk)
  (ji (je 1 ki (ja (fOp (jr false) (jd (ja (jb 0) jc)) (jb 1)) jc))))
def ac4:FF:=jz 2 Bis_knot
theorem avi:ac4 [a0,a1] s=(Bis_knot [some a0,some a1] s).bind jq:=rfl
theorem scis_knot:FnScope ["single","several"] ["single","several"] (jg ajr):=⟨rfl,rfl,rfl,by decide+kernel,rfl,by decide+kernel,by decide+kernel⟩
theorem okis_knot(T:Txt0 K mg):CalF P w K mg base "is_knot" 3 2 ac4:=by walk_at "okis_knot"
def Bis_flat_part:FS:=
  (jf (jp (qy (jw (j3 (fCB qd (ja (jb 1) (ja (fC (.ty "tuple")) jc))))) (jw (jj (vt gLe gLe (fC (.da (.int 3))) (fCB jv (ja (jb 1) jc)) (fC (.da (.int 4))))))) (ji (fC (.da (.bool false)))) jk)
  (jf (jl 2 (fOp gIx (jb 1) (fC (.da (.int 0)))))
  (jf (jp (jj (fOp gEq (fCB jv (ja (jb 1) jc)) (fC (.da (.int 4))))) (jf (jp (jw (j3 (je 1 ki (ja (fSl false (jb 1) (kh (fC (.da (.int 1)))) (kh (fC (.da (.int 3))))) jc)))) (ji (fC (.da (.bool false)))) jk)
  (jf (jp (jj (fOp gIn (jb 2) (fC (.con (bH aI ["place","last"]))))) (ji (je 2 ae2 (ja (jb 0) (ja (fOp gIx (jb 1) (fC (.da (.int 3)))) jc)))) jk)
  (ji (xj (fOp gEq (jb 2) (fC (.da (.str "only")))) (je 2 ae7 (ja (jb 0) (ja (fOp gIx (jb 1) (fC (.da (.int 3)))) jc))))))) jk)
  (jf (jp (jj (fOp gEq (jb 2) (fC (.da (.str "copy"))))) (ji (je 2 ac4 (ja (fOp gIx (jb 1) (fC (.da (.int 1)))) (ja (fOp gIx (jb 1) (fC (.da (.int 2)))) jc)))) jk)
  (jf (jp (jj (fOp gEq (jb 2) (fC (.da (.str "merge"))))) (ji (je 2 ac4 (ja (fOp gIx (jb 1) (fC (.da (.int 2)))) (ja (fOp gIx (jb 1) (fC (.da (.int 1)))) jc)))) jk)
  (ji (xj (fOp gIn (jb 2) (fC (.con (bH aI ["both","loose","drain","either"])))) (je 1 ki (ja (fSl false (jb 1) (kh (fC (.da (.int 1)))) fNo) jc)))))))))
def vw:FF:=jz 3 Bis_flat_part
theorem abb:vw [a0,a1] s=(Bis_flat_part [some a0,some a1,none] s).bind jq:=rfl
theorem scis_flat_part:FnScope ["things","thing","word"] ["things","thing"] (jg adm):=⟨rfl,rfl,rfl,by decide+kernel,rfl,by decide+kernel,by decide+kernel⟩
theorem okis_flat_part(T:Txt0 K mg):CalF P w K mg base "is_flat_part" 5 2 vw:=by walk_at "okis_flat_part"
def Bhas_within_shape:FS:=
  (jf (jp (qy (jw (j3 (fCB qd (ja (jb 0) (ja (fC (.ty "tuple")) jc))))) (jj (fOp gNe (fCB jv (ja (jb 0) jc)) (fC (.da (.int 3)))))) (ji (fC (.da (.bool false)))) jk)
  (ji (xj (fOp gEq (fOp gIx (jb 0) (fC (.da (.int 0)))) (fC (.da (.str "net")))) (je 1 ki (ja (fOp gIx (jb 0) (fC (.da (.int 2)))) jc)))))
def xc:FF:=jz 1 Bhas_within_shape
theorem afy:xc [a0] s=(Bhas_within_shape [some a0] s).bind jq:=rfl
theorem schas_within_shape:FnScope ["thing"] ["thing"] (jg ab4):=⟨rfl,rfl,rfl,by decide+kernel,rfl,by decide+kernel,by decide+kernel⟩
theorem okhas_within_shape(T:Txt0 K mg):CalF P w K mg base "has_within_shape" 3 1 xc:=by walk_at "okhas_within_shape"
def Bfits_within:FS:=
  (jf (aqz (.t3 (.nm 2) (.nm 3) (.nm 4)) (fOp gIx (jb 1) (fC (.da (.int 1)))))
  (ji (xj (fOp gEq (jb 2) (jb 0)) (fOp gEq (fCB jv (ja (jb 3) jc)) (fCB jv (ja (fOp gIx (jb 1) (fC (.da (.int 2)))) jc))))))
def aa7:FF:=jz 5 Bfits_within
theorem alm:aa7 [a0,a1] s=(Bfits_within [some a0,some a1,none,none,none] s).bind jq:=rfl
theorem scfits_within:FnScope ["things","part","inner_things","seen","parts"] ["things","part"] (jg aee):=⟨rfl,rfl,rfl,by decide+kernel,rfl,by decide+kernel,by decide+kernel⟩
theorem okfits_within(T:Txt0 K mg):CalF P w K mg base "fits_within" 1 2 aa7:=by walk_at "okfits_within"
def yy(ke km:FF):FS:=
  (jf (jp (qy (jw (j3 (fCB qd (ja (jb 0) (ja (fC (.ty "tuple")) jc))))) (qy (jj (fOp gNe (fCB jv (ja (jb 0) jc)) (fC (.da (.int 3))))) (jj (fOp gGe (fCB jv (ja (jb 1) jc)) (fC (.da (.int 4))))))) (zy xb xcs (ye "NoNet" 3 vx (ja (fC (.da (.str "net"))) (ja (jb 1) jc)))) jk)
  (jf (aqz (.t3 (.nm 2) (.nm 3) (.nm 4)) (jb 0))
  (jf (jp (jw (j3 (je 1 abh (ja (jb 2) jc)))) (zy xb xcs (ye "NoNet" 3 vx (ja (fC (.da (.str "things"))) (ja (jb 1) jc)))) jk)
  (jf (jp (jw (j3 (je 1 aeb (ja (jb 3) jc)))) (zy xb xcs (ye "NoNet" 3 vx (ja (fC (.da (.str "seen"))) (ja (jb 1) jc)))) jk)
  (jf (jp (jw (j3 (fCB qd (ja (jb 4) (ja (fC (.ty "tuple")) jc))))) (zy xb xcs (ye "NoNet" 3 vx (ja (fC (.da (.str "parts"))) (ja (jb 1) jc)))) jk)
  (xl (av4 0 (ja (jb 4) jc)) (.t2 (.nm 5) (.nm 6)) (qo (je 3 km (ja (jb 2) (ja (jb 6) (ja (fOp (jr false) (jb 1) (jd (ja (jb 5) jc))) jc)))))))))))
def y6(ke km:FF):FS:=
  (jf (jp (j3 (je 1 xc (ja (jb 1) jc))) (jf (qo (je 2 ke (ja (fOp gIx (jb 1) (fC (.da (.int 1)))) (ja (jb 2) jc))))
  (jl 3 (je 2 aa7 (ja (jb 0) (ja (jb 1) jc))))) (jl 3 (je 2 vw (ja (jb 0) (ja (jb 1) jc)))))
  (jp (jw (j3 (jb 3))) (zy xb xcs (ye "NoNet" 3 vx (ja (fC (.da (.str "part"))) (ja (jb 2) jc)))) jk))
def yt:Nat -> FF×FF
 |0=> (aew,aew)
 |n+1=> (jz 7 (yy (yt n).1 (yt n).2),jz 4 (y6 (yt n).1 (yt n).2))
def ke(n:Nat):FF:=(yt n).1
def km(n:Nat):FF:=(yt n).2
theorem arb:ke (n+1) [a0,a1] s=(yy (ke n) (km n) [some a0,some a1,none,none,none,none,none] s).bind jq:=rfl
theorem v8:FnScope ["thing","path","things","seen","parts","number","part"] ["thing","path"] (jg age):=⟨rfl,rfl,rfl,by decide+kernel,rfl,by decide+kernel,by decide+kernel⟩
theorem an9{a2:D}:km (n+1) [a0,a1,a2] s=(y6 (ke n) (km n) [some a0,some a1,some a2,none] s).bind jq:=rfl
theorem zz:FnScope ["things","part","path","right"] ["things","part","path"] (jg aen):=⟨rfl,rfl,rfl,by decide+kernel,rfl,by decide+kernel,by decide+kernel⟩
theorem acw(T:Txt0 K mg): ∀n:Nat,CalF P w K mg base "check_net" (6+n) 2 (ke n)/\CalF P w K mg base "check_part" (6+n) 3 (km n)
 |0=> ⟨(aag (k:=5) T.h_check_net v8 rfl),(aag (k:=5) T.h_check_part zz rfl)⟩
 | n+1=> by
  have ciNoNet:=awm (P:=P) (w:=w) (base:=base) T
  have cis_things:=okis_things (P:=P) (w:=w) (base:=base) T
  have cis_seen:=okis_seen (P:=P) (w:=w) (base:=base) T
  have cis_flat_part:=okis_flat_part (P:=P) (w:=w) (base:=base) T
  have chas_within_shape:=okhas_within_shape (P:=P) (w:=w) (base:=base) T
  have cfits_within:=okfits_within (P:=P) (w:=w) (base:=base) T
  obtain⟨ihcheck_net,ihcheck_part⟩:=acw T n
  exact⟨acp (k:=6+n) T.h_check_net v8 rfl rfl (fun f cdv A outer s H E I hx hr=>
   (vk (acj (RW.rt (ayu (adc (aa9 (yq apg T.n_isinstance xi (jn (jx 0) (jn (aab T.n_tuple afl) kj))))) (ayu (alf (a37 (u64 hr)) (yq aq6 T.n_len akn (jn (jx 0) kj)) at0) (a3k (alf a35 (yq aq6 T.n_len akn (jn (jx 1) kj)) (abn T.c_MOST_DEEP)))))) (ky (aae T.x rfl (aaf ciNoNet (hr.mono (by first|decide|lia)) (jn ac6 (jn (jx 1) kj))))) aar)
   (vk (a3z (jx 0) (ayn rfl (ad8 (i:=2) v8.nd rfl (c7 rfl)) (ad8 (i:=3) v8.nd rfl (c7 rfl)) (ad8 (i:=4) v8.nd rfl (c7 rfl))))
   (vk (acj (adc (aa9 (acv cis_things (hr.mono (by lia)) (jn (jx 2) kj)))) (ky (aae T.x rfl (aaf ciNoNet (hr.mono (by first|decide|lia)) (jn ac6 (jn (jx 1) kj))))) aar)
   (vk (acj (adc (aa9 (acv cis_seen (hr.mono (by lia)) (jn (jx 3) kj)))) (ky (aae T.x rfl (aaf ciNoNet (hr.mono (by first|decide|lia)) (jn ac6 (jn (jx 1) kj))))) aar)
   (vk (acj (adc (aa9 (yq apg T.n_isinstance xi (jn (jx 4) (jn (aab T.n_tuple afl) kj))))) (ky (aae T.x rfl (aaf ciNoNet (hr.mono (by first|decide|lia)) (jn ac6 (jn (jx 1) kj))))) aar)
   (ky (aro rfl (a50 T.n_enumerate (jn (jx 4) kj)) (aya rfl (ad8 (i:=5) v8.nd rfl (c7 rfl)) (ad8 (i:=6) v8.nd rfl (c7 rfl))) (ky (afk (acv ihcheck_part (hr.mono (by lia)) (jn (jx 2) (jn (jx 6) (jn (a6d (axz false) (jx 1) (ahg (jn (jx 5) kj))) kj)))))))))))))),acp (k:=6+n) T.h_check_part zz rfl rfl (fun f cdv A outer s H E I hx hr=>
   (vk (acj (aa9 (acv chas_within_shape (hr.mono (by lia)) (jn (jx 1) kj))) (vk (afk (acv ihcheck_net (hr.mono (by lia)) (jn (a6p (jx 1) at0) (jn (jx 2) kj))))
   (ky (ac8 (i:=3) zz.nd rfl (c7 rfl) (acv cfits_within (hr.mono (by lia)) (jn (jx 0) (jn (jx 1) kj)))))) (ky (ac8 (i:=3) zz.nd rfl (c7 rfl) (acv cis_flat_part (hr.mono (by lia)) (jn (jx 0) (jn (jx 1) kj))))))
   (ky (acj (adc (aa9 (jx 3))) (ky (aae T.x rfl (aaf ciNoNet (hr.mono (by first|decide|lia)) (jn ac6 (jn (jx 2) kj))))) aar))))⟩
theorem an2(T:Txt0 K mg)(n:Nat):CalF P w K mg base "check_net" (6+n) 2 (ke n):=(acw T n).1
theorem am1(T:Txt0 K mg)(n:Nat):CalF P w K mg base "check_part" (6+n) 3 (km n):=(acw T n).2
def zd(kr:FF):FS:=
  (jf (jl 1 (fCB jv (ja (fOp gIx (jb 0) (fC (.da (.int 2)))) jc)))
  (jf (xl (fIt (fOp gIx (jb 0) (fC (.da (.int 2))))) (.nm 2) (jp (jj (fOp gEq (fOp gIx (jb 2) (fC (.da (.int 0)))) (fC (.da (.str "net"))))) (agi 1 (je 1 kr (ja (fOp gIx (jb 2) (fC (.da (.int 1)))) jc))) jk))
  (ji (jb 1))))
def kr:Nat -> FF
 |0=> aew
 |n+1=> jz 3 (zd (kr n))
theorem akd:kr (n+1) [a0] s=(zd (kr n) [some a0,none,none] s).bind jq:=rfl
theorem acz:FnScope ["net","many","part"] ["net"] (jg adi):=⟨rfl,rfl,rfl,by decide+kernel,rfl,by decide+kernel,by decide+kernel⟩
theorem ad3(T:Txt0 K mg): ∀n:Nat,CalF P w K mg base "parts_in_all" (1+n) 1 (kr n)
 |0=> (aag (k:=0) T.h_parts_in_all acz rfl)
 | n+1=> by
  have ih:=ad3 T n
  have sc:=acz
  exact acp (k:=1+n) T.h_parts_in_all sc rfl rfl fun f cdv A outer s H E I hx hr=> by
   unfold zd
   walk_at "dr"
def Bright_net:FS:=
  (jf (qo (je 2 (ke 10) (ja (jb 0) (ja (jd jc) jc))))
  (jf (jp (jj (fOp gGt (je 1 (kr 8) (ja (jb 0) jc)) (fC (.da (.int 120))))) (zy xb xcs (ye "NoNet" 3 vx (ja (fC (.da (.str "many"))) (ja (jd jc) jc)))) jk)
  (ji (fC (.da (.bool true))))))
def kc:FF:=jz 1 Bright_net
theorem ar8:kc [a0] s=(Bright_net [some a0] s).bind jq:=rfl
theorem scright_net:FnScope ["thing"] ["thing"] (jg ag4):=⟨rfl,rfl,rfl,by decide+kernel,rfl,by decide+kernel,by decide+kernel⟩
theorem okright_net(T:Txt0 K mg):CalF P w K mg base "right_net" 17 1 kc:=by walk_at "okright_net"
def Bis_net:FS:=
  (abc xb xcs "NoNet" none (ji (je 1 kc (ja (jb 0) jc))) (ji (fC (.da (.bool false)))))
def aan:FF:=jz 1 Bis_net
theorem apd:aan [a0] s=(Bis_net [some a0] s).bind jq:=rfl
theorem scis_net:FnScope ["thing"] ["thing"] (jg am7):=⟨rfl,rfl,rfl,by decide+kernel,rfl,by decide+kernel,by decide+kernel⟩
theorem okis_net(T:Txt0 K mg):CalF P w K mg base "is_net" 18 1 aan:=by
 have cright_net:=okright_net (P:=P) (w:=w) (base:=base) T
 exact acp (k:=17) T.h_is_net scis_net rfl rfl (fun f cdv A outer s H E I hx hr=>
   (ky (a2n T.x ⟨rfl,rfl⟩ rfl (fun I _ _ hx=> (ky (alx (acv cright_net (hr.mono (by decide)) (jn (jx 0) kj))))) (fun I _ hx=> (ky (alx aye))))))
def B_law_feed:FS:=
  (ji (ko true (ja (fCB (abj false) (ja (fSl false (jb 0) fNo (kh (fC (.da (.int 63))))) jc)) (ja (fC (.da (.int 0))) (ja (fC (.da (.int 0))) (ja (fC (.da (.int 0))) jc))))))
def aa4:FF:=jz 1 B_law_feed
theorem aqt:aa4 [a0] s=(B_law_feed [some a0] s).bind jq:=rfl
theorem sc_law_feed:FnScope ["_law_script"] ["_law_script"] (jg aga):=⟨rfl,rfl,rfl,by decide+kernel,rfl,by decide+kernel,by decide+kernel⟩
theorem ok_law_feed(T:Txt0 K mg):CalF P w K mg base "_law_feed" 1 1 aa4:=by walk_at "ok_law_feed"
def B_law_draw:FS:=
  (jf (ad9 (fOp (jr false) (fOp gIx (jb 0) (fC (.da (.int 3)))) (fC (.da (.int 1)))) (jb 0) (fC (.da (.int 3))))
  (jf (jp (jj (fOp gGt (fOp gIx (jb 0) (fC (.da (.int 2)))) (fC (.da (.int 0))))) (jf (jl 2 (fOp aaj (fOp gIx (jb 0) (fC (.da (.int 2)))) (jb 1)))
  (jf (ad9 (fOp af1 (fOp gIx (jb 0) (fC (.da (.int 2)))) (jb 1)) (jb 0) (fC (.da (.int 2))))
  (ji (jb 2)))) jk)
  (jf (jl 3 (fC (.da (.int 5))))
  (jf (jp (jj (fOp gNe (fOp gIx (jb 0) (fC (.da (.int 0)))) (ko false jc))) (jl 3 (fOp gIx (fOp gIx (jb 0) (fC (.da (.int 0)))) (fOp aaj (fOp gIx (jb 0) (fC (.da (.int 1)))) (fCB jv (ja (fOp gIx (jb 0) (fC (.da (.int 0)))) jc))))) jk)
  (jf (ad9 (fOp (jr false) (fOp gIx (jb 0) (fC (.da (.int 1)))) (fC (.da (.int 1)))) (jb 0) (fC (.da (.int 1))))
  (jf (jp (qh (jj (fOp gGe (jb 3) (fOp aqn (fC (.da (.int 10))) (fC (.da (.int 18)))))) (jj (fOp gLe (fOp gIx (jb 0) (fC (.da (.int 1)))) (fCB jv (ja (fOp gIx (jb 0) (fC (.da (.int 0)))) jc))))) (jf (ad9 (fOp af1 (jb 3) (jb 1)) (jb 0) (fC (.da (.int 2))))
  (ji (fOp aaj (jb 3) (jb 1)))) jk)
  (jf (jl 4 (fOp aaj (fOp aao (fOp (jr false) (fOp aaj (jb 3) (fC (.da (.int 998244353)))) (fOp aao (fC (.da (.int 5003))) (fOp gIx (jb 0) (fC (.da (.int 3)))))) (fC (.da (.int 69621)))) (fC (.da (.int 2147483629)))))
  (jf (jl 4 (fOp aaj (fOp aao (fOp (jr false) (fOp af1 (jb 4) (fC (.da (.int 13)))) (fOp aao (fOp aao (fC (.da (.int 7919))) (fOp gIx (jb 0) (fC (.da (.int 3))))) (fOp gIx (jb 0) (fC (.da (.int 3)))))) (fC (.da (.int 48271)))) (fC (.da (.int 2147483587)))))
  (ji (fOp aaj (fOp af1 (jb 4) (fC (.da (.int 64)))) (jb 1)))))))))))
def jh:FF:=jz 5 B_law_draw
theorem apn:jh [a0,a1] s=(B_law_draw [some a0,some a1,none,none,none] s).bind jq:=rfl
theorem sc_law_draw:FnScope ["_law_feed_here","_law_many","_law_found","_law_cell","_law_mixed"] ["_law_feed_here","_law_many"] (jg agf):=⟨rfl,rfl,rfl,by decide+kernel,rfl,by decide+kernel,by decide+kernel⟩
theorem ok_law_draw(T:Txt0 K mg):CalF P w K mg base "_law_draw" 1 2 jh:=by walk_at "ok_law_draw"
def B_law_shuffled:FS:=
  (jf (jl 2 (fCB (abj true) (ja (jb 1) jc)))
  (jf (jl 3 (ko true jc))
  (jf (xl (y0 (ja (fCB jv (ja (jb 2) jc)) jc)) (.nm 4) (qo (fMt kz (jb 3) (ja (fMt ab7 (jb 2) (ja (je 2 jh (ja (jb 0) (ja (fCB jv (ja (jb 2) jc)) jc))) jc)) jc))))
  (ji (aw4 (jb 3))))))
def qg:FF:=jz 5 B_law_shuffled
theorem aib:qg [a0,a1] s=(B_law_shuffled [some a0,some a1,none,none,none] s).bind jq:=rfl
theorem sc_law_shuffled:FnScope ["_law_feed_here","_law_some","_law_left","_law_found","_law_k"] ["_law_feed_here","_law_some"] (jg ach):=⟨rfl,rfl,rfl,by decide+kernel,rfl,by decide+kernel,by decide+kernel⟩
theorem ok_law_shuffled(T:Txt0 K mg):CalF P w K mg base "_law_shuffled" 2 2 qg:=by walk_at "ok_law_shuffled"
def B_law_ports:FS:=
  (jf (jl 2 (ko true (ja (ko false (fVs (bH D.da [.str "a",.str "b",.str "c",.str "d",.str "e",.str "f",.str "g",.str "h"]))) (ja (ko false (fVs (bH D.da [.str "net",.str "end",.str "within",.str "place",.str "last",.str "to",.str "a",.str "table"]))) jc))))
  (jf (qo (fMt kz (jb 2) (ja (ko false (fVs (bH D.da [.str "a",.str "ab",.str "abc",.str "abcd",.str "b",.str "ba",.str "abcdefgh",.str "abcdefgi"]))) jc)))
  (jf (qo (fMt kz (jb 2) (ja (ko false (fVs (bH D.da [.str "zzzzzzzz",.str "z",.str "zz",.str "y",.str "only",.str "onlya",.str "copy",.str "aa"]))) jc)))
  (jf (jl 3 (fOp gIx (jb 2) (je 2 jh (ja (jb 0) (ja (fC (.da (.int 4))) jc)))))
  (jf (jl 4 (je 2 jh (ja (jb 0) (ja (fC (.da (.int 8))) jc))))
  (ji (fSl false (fOp (jr false) (fSl false (jb 3) (kh (jb 4)) fNo) (fSl false (jb 3) fNo (kh (jb 4)))) fNo (kh (jb 1)))))))))
def za:FF:=jz 5 B_law_ports
theorem an3:za [a0,a1] s=(B_law_ports [some a0,some a1,none,none,none] s).bind jq:=rfl
theorem sc_law_ports:FnScope ["_law_feed_here","_law_many","_law_pools","_law_pool","_law_turn"] ["_law_feed_here","_law_many"] (jg af9):=⟨rfl,rfl,rfl,by decide+kernel,rfl,by decide+kernel,by decide+kernel⟩
theorem ok_law_ports(T:Txt0 K mg):CalF P w K mg base "_law_ports" 2 2 za:=by walk_at "ok_law_ports"
def B_law_part:FS:=
  (jf (jl 3 (je 2 qg (ja (jb 0) (ja (jb 2) jc))))
  (jf (jl 4 (fOp gIx (ko false (fVs (bH D.da [.str "both",.str "loose",.str "place",.str "last",.str "drain",.str "either",.str "only",.str "copy",.str "merge",.str "place"]))) (je 2 jh (ja (jb 0) (ja (fC (.da (.int 10))) jc)))))
  (jf (jp (jj (fOp gIn (jb 4) (jd (fVs (bH D.da [.str "copy",.str "merge"]))))) (jf (jl 5 (fCB vf (ja (fSl false (jb 3) (kh (fC (.da (.int 1)))) (kh (fOp (jr false) (fC (.da (.int 2))) (je 2 jh (ja (jb 0) (ja (fCB agn (ja (fC (.da (.int 4))) (ja (fOp v9 (fCB jv (ja (jb 3) jc)) (fC (.da (.int 1)))) jc))) jc)))))) jc)))
  (ji (fIf (jj (fOp gEq (jb 4) (fC (.da (.str "copy"))))) (jd (ja (jb 4) (ja (fOp gIx (jb 3) (fC (.da (.int 0)))) (ja (jb 5) jc)))) (jd (ja (jb 4) (ja (jb 5) (ja (fOp gIx (jb 3) (fC (.da (.int 0)))) jc))))))) jk)
  (jf (jp (jj (fOp gIn (jb 4) (jd (fVs (bH D.da [.str "place",.str "last"]))))) (ji (jd (ja (jb 4) (ja (fOp gIx (jb 3) (fC (.da (.int 0)))) (ja (fOp gIx (jb 3) (fC (.da (.int 1)))) (ja (fOp gIx (ko false (ja (fC (.da (.none))) (ja (fC (.da (.none))) (ja (fC (.da (.int 0))) (ja (fOp v9 (jb 1) (fC (.da (.int 1)))) jc))))) (je 2 jh (ja (jb 0) (ja (fC (.da (.int 4))) jc)))) jc)))))) jk)
  (jf (jp (jj (fOp gEq (jb 4) (fC (.da (.str "only"))))) (ji (jd (ja (jb 4) (ja (fOp gIx (jb 3) (fC (.da (.int 0)))) (ja (fOp gIx (jb 3) (fC (.da (.int 1)))) (ja (fCB vf (ja (fLc false [0] 1 (y0 (ja (jb 1) jc)) (.nm 0) (jj (fOp gGt (je 2 jh (ja (jb 1) (ja (fC (.da (.int 3))) jc))) (fC (.da (.int 0))))) (jb 0)) jc)) jc)))))) jk)
  (ji (jd (ja (jb 4) (ja (fOp gIx (jb 3) (fC (.da (.int 0)))) (ja (fOp gIx (jb 3) (fC (.da (.int 1)))) jc))))))))))
def xu:FF:=jz 6 B_law_part
theorem api{a2:D}:xu [a0,a1,a2] s=(B_law_part [some a0,some a1,some a2,none,none,none] s).bind jq:=rfl
theorem sc_law_part:FnScope ["_law_feed_here","_law_things","_law_ports_here","_law_some","_law_word","_law_many"] ["_law_feed_here","_law_things","_law_ports_here"] (jg ag3):=⟨rfl,rfl,rfl,by decide+kernel,rfl,by decide+kernel,by decide+kernel⟩
theorem ok_law_part(T:Txt0 K mg):CalF P w K mg base "_law_part" 3 3 xu:=by walk_at "ok_law_part"
def B_law_nest(vo:FF):FS:=
  (jf (jl 4 (je 2 za (ja (jb 0) (ja (fOp (jr false) (fCB aif (ja (fC (.da (.int 2))) (ja (jb 3) jc))) (je 2 jh (ja (jb 0) (ja (fC (.da (.int 3))) jc)))) jc))))
  (jf (jl 5 (ko true jc))
  (jf (xl (y0 (ja (je 2 jh (ja (jb 0) (ja (fC (.da (.int 4))) jc))) jc)) (.nm 6) (jp (qh (jj (fOp gGt (jb 1) (fC (.da (.int 1))))) (jj (fOp gEq (je 2 jh (ja (jb 0) (ja (fC (.da (.int 2))) jc))) (fC (.da (.int 0)))))) (jf (jl 7 (fSl false (je 2 qg (ja (jb 0) (ja (jb 4) jc))) fNo (kh (je 2 jh (ja (jb 0) (ja (fOp (jr false) (fCB agn (ja (fC (.da (.int 3))) (ja (fCB jv (ja (jb 4) jc)) jc))) (fC (.da (.int 1)))) jc))))))
  (qo (fMt kz (jb 5) (ja (jd (ja (fC (.da (.str "net"))) (ja (je 4 vo (ja (jb 0) (ja (fOp v9 (jb 1) (fC (.da (.int 1)))) (ja (jb 2) (ja (fCB jv (ja (jb 7) jc)) jc))))) (ja (fCB vf (ja (jb 7) jc)) jc)))) jc)))) (qo (fMt kz (jb 5) (ja (je 3 xu (ja (jb 0) (ja (jb 2) (ja (jb 4) jc)))) jc)))))
  (ji (jd (ja (jb 2) (ja (fCB vf (ja (fSl false (je 2 qg (ja (jb 0) (ja (jb 4) jc))) fNo (kh (jb 3))) jc)) (ja (fCB vf (ja (jb 5) jc)) jc))))))))
def vo:Nat -> FF
 |0=> aew
 |n+1=> jz 8 (B_law_nest (vo n))
theorem sc_law_nest:FnScope ["_law_feed_here","_law_deep_here","_law_things","_law_seen","_law_ports_here","_law_parts","_law_k","_law_told_here"] ["_law_feed_here","_law_deep_here","_law_things","_law_seen"] (jg agb):=⟨rfl,rfl,rfl,by decide+kernel,rfl,by decide+kernel,by decide+kernel⟩
theorem ok_law_nest(T:Txt0 K mg): ∀n:Nat,CalF P w K mg base "_law_nest" (4+n) 4 (vo n)
 |0=> (aag (k:=3) T.h__law_nest sc_law_nest rfl)
 | n+1=> by
  have ih:=ok_law_nest T n
  have sc:=sc_law_nest
  exact acp (k:=4+n) T.h__law_nest sc rfl rfl fun f cdv A outer s H E I hx hr=> by
   unfold B_law_nest
   walk_at "dr"
def B_law_is_whole:FS:=
  (ji (xj (fCB qd (ja (jb 0) (ja (fC (.ty "int")) jc))) (auy (fCB qd (ja (jb 0) (ja (fC (.ty "bool")) jc))))))
def vp:FF:=jz 1 B_law_is_whole
theorem aj0:vp [a0] s=(B_law_is_whole [some a0] s).bind jq:=rfl
theorem sc_law_is_whole:FnScope ["_law_thing"] ["_law_thing"] (jg acg):=⟨rfl,rfl,rfl,by decide+kernel,rfl,by decide+kernel,by decide+kernel⟩
theorem ok_law_is_whole(T:Txt0 K mg):CalF P w K mg base "_law_is_whole" 1 1 vp:=by walk_at "ok_law_is_whole"
def B_law_is_port:FS:=
  (jf (jl 1 (fC (.da (.str "abcdefghijklmnopqrstuvwxyz"))))
  (ji (xj (fCB qd (ja (jb 0) (ja (fC (.ty "str")) jc))) (xj (vt gLt gLt (fC (.da (.int 0))) (fCB jv (ja (jb 0) jc)) (fC (.da (.int 9)))) (fOp gEq (fLc false [1] 1 (aph (jb 0)) (.nm 0) (jj (fOp ac3 (jb 0) (jb 1))) (jb 0)) (ko false jc))))))
def zc:FF:=jz 2 B_law_is_port
theorem ake:zc [a0] s=(B_law_is_port [some a0,none] s).bind jq:=rfl
theorem sc_law_is_port:FnScope ["_law_thing","_law_letters"] ["_law_thing"] (jg ad1):=⟨rfl,rfl,rfl,by decide+kernel,rfl,by decide+kernel,by decide+kernel⟩
theorem ok_law_is_port(T:Txt0 K mg):CalF P w K mg base "_law_is_port" 1 1 zc:=by walk_at "ok_law_is_port"
def B_law_are_ports:FS:=
  (jf (jp (qy (jw (j3 (fCB qd (ja (jb 0) (ja (fC (.ty "tuple")) jc))))) (jj (fOp gNe (fLc false [] 1 (fIt (jb 0)) (.nm 0) (jw (j3 (je 1 zc (ja (jb 0) jc)))) (jb 0)) (ko false jc)))) (ji (fC (.da (.bool false)))) jk)
  (ji (fOp gEq (fCB adl (ja (jb 0) jc)) (fCB jv (ja (jb 0) jc)))))
def kg:FF:=jz 1 B_law_are_ports
theorem aha:kg [a0] s=(B_law_are_ports [some a0] s).bind jq:=rfl
theorem sc_law_are_ports:FnScope ["_law_thing"] ["_law_thing"] (jg abu):=⟨rfl,rfl,rfl,by decide+kernel,rfl,by decide+kernel,by decide+kernel⟩
theorem ok_law_are_ports(T:Txt0 K mg):CalF P w K mg base "_law_are_ports" 2 1 kg:=by walk_at "ok_law_are_ports"
def B_law_are_told:FS:=
  (jf (jp (qy (jw (j3 (fCB qd (ja (jb 1) (ja (fC (.ty "tuple")) jc))))) (jj (fOp gNe (fLc false [] 1 (fIt (jb 1)) (.nm 0) (jw (j3 (je 1 vp (ja (jb 0) jc)))) (jb 0)) (ko false jc)))) (ji (fC (.da (.bool false)))) jk)
  (ji (xj (fOp gEq (fCB (abj false) (ja (jb 1) jc)) (fCB (acd false) (ja (jb 1) jc))) (fOp gEq (fLc false [0] 1 (fIt (jb 1)) (.nm 0) (jw (jj (vt gLe gLt (fC (.da (.int 0))) (jb 0) (jb 1)))) (jb 0)) (ko false jc)))))
def xh:FF:=jz 2 B_law_are_told
theorem aiq:xh [a0,a1] s=(B_law_are_told [some a0,some a1] s).bind jq:=rfl
theorem sc_law_are_told:FnScope ["_law_things","_law_thing"] ["_law_things","_law_thing"] (jg acf):=⟨rfl,rfl,rfl,by decide+kernel,rfl,by decide+kernel,by decide+kernel⟩
theorem ok_law_are_told(T:Txt0 K mg):CalF P w K mg base "_law_are_told" 2 2 xh:=by walk_at "ok_law_are_told"
def B_law_is_plain:FS:=
  (jf (jp (qy (jw (j3 (fCB qd (ja (jb 1) (ja (fC (.ty "tuple")) jc))))) (qy (jj (fOp ac3 (fCB jv (ja (jb 1) jc)) (jd (fVs (bH D.da [.int 3,.int 4]))))) (jw (j3 (fCB qd (ja (fOp gIx (jb 1) (fC (.da (.int 0)))) (ja (fC (.ty "str")) jc))))))) (ji (fC (.da (.bool false)))) jk)
  (jf (jl 2 (fCB apf (ja (fOp gEq (fOp gIx (jb 1) (fC (.da (.int 0)))) (fC (.da (.str "merge")))) jc)))
  (jf (jp (jj (fOp gIn (fOp gIx (jb 1) (fC (.da (.int 0)))) (jd (fVs (bH D.da [.str "copy",.str "merge"]))))) (jf (jl 3 (fOp gIx (jb 1) (fOp v9 (fC (.da (.int 2))) (jb 2))))
  (jf (jp (qy (jw (j3 (fCB qd (ja (jb 3) (ja (fC (.ty "tuple")) jc))))) (jw (jj (vt gLe gLe (fC (.da (.int 1))) (fCB jv (ja (jb 3) jc)) (fC (.da (.int 12))))))) (ji (fC (.da (.bool false)))) jk)
  (ji (xj (fOp gEq (fCB jv (ja (jb 1) jc)) (fC (.da (.int 3)))) (je 1 kg (ja (fOp (jr false) (jb 3) (jd (ja (fOp gIx (jb 1) (fOp (jr false) (fC (.da (.int 1))) (jb 2))) jc))) jc)))))) jk)
  (jf (jp (jw (j3 (je 1 kg (ja (fSl false (jb 1) (kh (fC (.da (.int 1)))) (kh (fC (.da (.int 3))))) jc)))) (ji (fC (.da (.bool false)))) jk)
  (jf (jp (jj (fOp gIn (fOp gIx (jb 1) (fC (.da (.int 0)))) (jd (fVs (bH D.da [.str "both",.str "loose",.str "drain",.str "either"]))))) (ji (fOp gEq (fCB jv (ja (jb 1) jc)) (fC (.da (.int 3))))) jk)
  (jf (jp (jj (fOp gIn (fOp gIx (jb 1) (fC (.da (.int 0)))) (jd (fVs (bH D.da [.str "place",.str "last"]))))) (ji (xj (fOp gEq (fCB jv (ja (jb 1) jc)) (fC (.da (.int 4)))) (fOr (fOp gIs (fOp gIx (jb 1) (fC (.da (.int 3)))) (fC (.da (.none)))) (je 2 xh (ja (jb 0) (ja (jd (ja (fOp gIx (jb 1) (fC (.da (.int 3)))) jc)) jc)))))) jk)
  (ji (xj (fOp gEq (fOp gIx (jb 1) (fC (.da (.int 0)))) (fC (.da (.str "only")))) (xj (fOp gEq (fCB jv (ja (jb 1) jc)) (fC (.da (.int 4)))) (je 2 xh (ja (jb 0) (ja (fOp gIx (jb 1) (fC (.da (.int 3)))) jc))))))))))))
def va:FF:=jz 4 B_law_is_plain
theorem aal:va [a0,a1] s=(B_law_is_plain [some a0,some a1,none,none] s).bind jq:=rfl
theorem sc_law_is_plain:FnScope ["_law_things","_law_part_here","_law_turned","_law_many"] ["_law_things","_law_part_here"] (jg acm):=⟨rfl,rfl,rfl,by decide+kernel,rfl,by decide+kernel,by decide+kernel⟩
theorem ok_law_is_plain(T:Txt0 K mg):CalF P w K mg base "_law_is_plain" 3 2 va:=by walk_at "ok_law_is_plain"
def B_law_fault(qf:FF):FS:=
  (jf (jp (qy (jw (j3 (fCB qd (ja (jb 0) (ja (fC (.ty "tuple")) jc))))) (qy (jj (fOp gNe (fCB jv (ja (jb 0) jc)) (fC (.da (.int 3))))) (jj (fOp gGt (jb 2) (fC (.da (.int 4))))))) (ji (jd (ja (fC (.da (.str "net"))) (ja (jb 1) jc)))) jk)
  (jf (jp (qy (jw (j3 (je 1 vp (ja (fOp gIx (jb 0) (fC (.da (.int 0)))) jc)))) (jw (jj (vt gLe gLe (fC (.da (.int 1))) (fOp gIx (jb 0) (fC (.da (.int 0)))) (fC (.da (.int 3))))))) (ji (jd (ja (fC (.da (.str "things"))) (ja (jb 1) jc)))) jk)
  (jf (jp (qy (jw (j3 (je 1 kg (ja (fOp gIx (jb 0) (fC (.da (.int 1)))) jc)))) (jj (fOp gGt (fCB jv (ja (fOp gIx (jb 0) (fC (.da (.int 1)))) jc)) (fC (.da (.int 6)))))) (ji (jd (ja (fC (.da (.str "seen"))) (ja (jb 1) jc)))) jk)
  (jf (jp (jw (j3 (fCB qd (ja (fOp gIx (jb 0) (fC (.da (.int 2)))) (ja (fC (.ty "tuple")) jc))))) (ji (jd (ja (fC (.da (.str "parts"))) (ja (jb 1) jc)))) jk)
  (jf (xl (y0 (ja (fCB jv (ja (fOp gIx (jb 0) (fC (.da (.int 2)))) jc)) jc)) (.nm 3) (jf (jl 4 (fOp gIx (fOp gIx (jb 0) (fC (.da (.int 2)))) (jb 3)))
  (jp (qh (j3 (fCB qd (ja (jb 4) (ja (fC (.ty "tuple")) jc)))) (qh (jj (fOp gEq (fCB jv (ja (jb 4) jc)) (fC (.da (.int 3))))) (qh (jj (fOp gEq (fOp gIx (jb 4) (fC (.da (.int 0)))) (fC (.da (.str "net"))))) (j3 (je 1 kg (ja (fOp gIx (jb 4) (fC (.da (.int 2)))) jc)))))) (jf (jl 5 (je 3 qf (ja (fOp gIx (jb 4) (fC (.da (.int 1)))) (ja (fOp (jr false) (jb 1) (jd (ja (jb 3) jc))) (ja (fOp (jr false) (jb 2) (fC (.da (.int 1)))) jc)))))
  (jf (jp (jj (fOp af6 (jb 5) (fC (.da (.none))))) (ji (jb 5)) jk)
  (jp (jj (fOp gNe (jd (ja (fOp gIx (fOp gIx (jb 4) (fC (.da (.int 1)))) (fC (.da (.int 0)))) (ja (fCB jv (ja (fOp gIx (fOp gIx (jb 4) (fC (.da (.int 1)))) (fC (.da (.int 1)))) jc)) jc))) (jd (ja (fOp gIx (jb 0) (fC (.da (.int 0)))) (ja (fCB jv (ja (fOp gIx (jb 4) (fC (.da (.int 2)))) jc)) jc))))) (ji (jd (ja (fC (.da (.str "part"))) (ja (fOp (jr false) (jb 1) (jd (ja (jb 3) jc))) jc)))) jk))) (jp (jw (j3 (je 2 va (ja (fOp gIx (jb 0) (fC (.da (.int 0)))) (ja (jb 4) jc))))) (ji (jd (ja (fC (.da (.str "part"))) (ja (fOp (jr false) (jb 1) (jd (ja (jb 3) jc))) jc)))) jk))))
  (ji (fC (.da (.none)))))))))
def qf:Nat -> FF
 |0=> aew
 |n+1=> jz 6 (B_law_fault (qf n))
theorem agg{a2:D}:qf (n+1) [a0,a1,a2] s=(B_law_fault (qf n) [some a0,some a1,some a2,none,none,none] s).bind jq:=rfl
theorem sc_law_fault:FnScope ["_law_thing","_law_path","_law_deep_here","_law_k","_law_part_here","_law_found"] ["_law_thing","_law_path","_law_deep_here"] (jg afa):=⟨rfl,rfl,rfl,by decide+kernel,rfl,by decide+kernel,by decide+kernel⟩
theorem ok_law_fault(T:Txt0 K mg): ∀n:Nat,CalF P w K mg base "_law_fault" (4+n) 3 (qf n)
 |0=> (aag (k:=3) T.h__law_fault sc_law_fault rfl)
 | n+1=> by
  have ih:=ok_law_fault T n
  have sc:=sc_law_fault
  exact acp (k:=4+n) T.h__law_fault sc rfl rfl fun f cdv A outer s H E I hx hr=> by
   unfold B_law_fault
   walk_at "dr"
def B_law_count(vd:FF):FS:=
  (ji (fOp (jr false) (fCB jv (ja (fOp gIx (jb 0) (fC (.da (.int 2)))) jc)) (fCB aqj (ja (fLc false [] 1 (fIt (fOp gIx (jb 0) (fC (.da (.int 2))))) (.nm 0) (jj (fOp gEq (fOp gIx (jb 0) (fC (.da (.int 0)))) (fC (.da (.str "net"))))) (je 1 vd (ja (fOp gIx (jb 0) (fC (.da (.int 1)))) jc))) jc))))
def vd:Nat -> FF
 |0=> aew
 |n+1=> jz 1 (B_law_count (vd n))
theorem an4:vd (n+1) [a0] s=(B_law_count (vd n) [some a0] s).bind jq:=rfl
theorem sc_law_count:FnScope ["_law_net"] ["_law_net"] (jg aeg):=⟨rfl,rfl,rfl,by decide+kernel,rfl,by decide+kernel,by decide+kernel⟩
theorem ok_law_count(T:Txt0 K mg): ∀n:Nat,CalF P w K mg base "_law_count" (1+n) 1 (vd n)
 |0=> (aag (k:=0) T.h__law_count sc_law_count rfl)
 | n+1=> by
  have ih:=ok_law_count T n
  have sc:=sc_law_count
  exact acp (k:=1+n) T.h__law_count sc rfl rfl fun f cdv A outer s H E I hx hr=> by
   unfold B_law_count
   walk_at "dr"
def abt(jt:FF):FS:=
  (ji (fOp gIx (jb 4) (je 2 jh (ja (jb 0) (ja (fC (.da (.int 19))) jc)))))
def ym(jt:FF):FS:=
  (jf (jl 4 (ko false (ja (fC (.da (.none))) (ja (fC (.da (.bool true))) (ja (fC (.da (.bool false))) (ja (fC (.da (.int 0))) (ja (fC (.da (.int 1))) (ja (fC (.da (.int 2))) (ja (fC (.da (.int 3))) (ja (amb (fC (.da (.int 1)))) (ja (fC (.da (.str "a"))) (ja (fC (.da (.str ""))) (ja (fC (.da (.str "ab"))) (ja (fC (.da (.str "A"))) (ja (fC (.da (.str "ninesigns"))) (ja (fC (.da (.str "net"))) (ja (fC (.da (.str "merge"))) (ja (fC (.da (.str "place"))) (ja (jd jc) (ja (ko false jc) (ja (jd (ja (fC (.da (.str "a"))) jc)) jc)))))))))))))))))))))
  (abt jt))
def aa5(jt:FF):FS:=
  (jf (jp (qh (j3 (fCB qd (ja (jb 1) (ja (fC (.ty "str")) jc)))) (qh (jj (fOp gNe (jb 1) (fC (.da (.str ""))))) (jj (fOp gGt (jb 3) (fC (.da (.int 1))))))) (jf (jl 2 (je 2 jh (ja (jb 0) (ja (fCB jv (ja (jb 1) jc)) jc))))
  (ji (fOp (jr false) (fOp (jr false) (fSl false (jb 1) fNo (kh (jb 2))) (fOp gIx (fC (.da (.str "abcdefghijklmnopqrstuvwxyz"))) (je 2 jh (ja (jb 0) (ja (fC (.da (.int 26))) jc))))) (fSl false (jb 1) (kh (fOp (jr false) (jb 2) (fC (.da (.int 1))))) fNo)))) jk)
  (ym jt))
def yc(jt:FF):FS:=
  (jf (jp (qh (j3 (fCB qd (ja (jb 1) (ja (fC (.ty "int")) jc)))) (jj (fOp gGt (jb 3) (fC (.da (.int 0)))))) (ji (fOp gIx (ko false (ja (fOp v9 (amb (fC (.da (.int 1)))) (jb 1)) (ja (fOp (jr false) (jb 1) (fC (.da (.int 1)))) (ja (fOp v9 (jb 1) (fC (.da (.int 1)))) (ja (fOp gEq (jb 1) (fC (.da (.int 1)))) jc))))) (fOp v9 (jb 3) (fC (.da (.int 1)))))) jk)
  (aa5 jt))
def zx(jt:FF):FS:=
  (jf (jp (qh (j3 (fCB qd (ja (jb 1) (ja (fC (.ty "tuple")) jc)))) (jj (fOp gGt (jb 3) (fC (.da (.int 0)))))) (jf (jl 2 (je 2 jh (ja (jb 0) (ja (fOp (jr false) (fCB jv (ja (jb 1) jc)) (fC (.da (.int 1)))) jc))))
  (ji (fOp gIx (ko false (ja (fCB (abj false) (ja (jb 1) jc)) (ja (fOp (jr false) (fSl false (jb 1) fNo (kh (jb 2))) (fSl false (jb 1) (kh (fOp (jr false) (jb 2) (fC (.da (.int 1))))) fNo)) (ja (fOp (jr false) (fSl false (jb 1) fNo (kh (fOp (jr false) (jb 2) (fC (.da (.int 1)))))) (fSl false (jb 1) (kh (jb 2)) fNo)) (ja (awd (jb 1) (amb (fC (.da (.int 1))))) jc))))) (fOp v9 (jb 3) (fC (.da (.int 1))))))) jk)
  (yc jt))
def yk(jt:FF):FS:=
  (jf (jl 3 (je 2 jh (ja (jb 0) (ja (fC (.da (.int 5))) jc))))
  (zx jt))
def B_law_bent(jt:FF):FS:=
  (jf (jp (qh (j3 (fCB qd (ja (jb 1) (ja (fC (.ty "tuple")) jc)))) (qh (jj (fOp gNe (jb 1) (jd jc))) (jj (fOp gGt (je 2 jh (ja (jb 0) (ja (fC (.da (.int 4))) jc))) (fC (.da (.int 0))))))) (jf (jl 2 (je 2 jh (ja (jb 0) (ja (fCB jv (ja (jb 1) jc)) jc))))
  (ji (fOp (jr false) (fOp (jr false) (fSl false (jb 1) fNo (kh (jb 2))) (jd (ja (je 2 jt (ja (jb 0) (ja (fOp gIx (jb 1) (jb 2)) jc))) jc))) (fSl false (jb 1) (kh (fOp (jr false) (jb 2) (fC (.da (.int 1))))) fNo)))) jk)
  (yk jt))
def jt:Nat -> FF
 |0=> aew
 |n+1=> jz 5 (B_law_bent (jt n))
theorem aqo:jt (n+1) [a0,a1] s=(B_law_bent (jt n) [some a0,some a1,none,none,none] s).bind jq:=rfl
theorem sc_law_bent:FnScope ["_law_feed_here","_law_thing","_law_at","_law_way","_law_some"] ["_law_feed_here","_law_thing"] (jg agc):=⟨rfl,rfl,rfl,by decide+kernel,rfl,by decide+kernel,by decide+kernel⟩
theorem ok_law_bent(T:Txt0 K mg): ∀n:Nat,CalF P w K mg base "_law_bent" (2+n) 2 (jt n)
 |0=> (aag (k:=1) T.h__law_bent sc_law_bent rfl)
 | n+1=> by
  have ih:=ok_law_bent T n
  have sc:=sc_law_bent
  exact acp (k:=2+n) T.h__law_bent sc rfl rfl fun f cdv A outer s H E I hx hr=> by
   unfold B_law_bent yk zx yc aa5 ym abt
   walk_at "dr"
def B_law_deep:FS:=
  (jf (jl 2 (jd (ja (fC (.da (.int 2))) (ja (jd (ja (fC (.da (.str "a"))) jc)) (ja (jd (ja (jd (fVs (bH D.da [.str "both",.str "a",.str "b"]))) jc)) jc)))))
  (jf (xl (y0 (ja (fOp v9 (jb 1) (fC (.da (.int 1)))) jc)) (.nm 3) (jf (jl 4 (fLc false [0] 1 (y0 (ja (je 2 jh (ja (jb 0) (ja (fC (.da (.int 3))) jc))) jc)) (.nm 0) acx (je 3 xu (ja (jb 1) (ja (fC (.da (.int 2))) (ja (ko false (fVs (bH D.da [.str "a",.str "b",.str "c"]))) jc))))))
  (jf (jl 2 (jd (ja (fC (.da (.int 2))) (ja (jd (ja (fC (.da (.str "ab"))) jc)) (ja (fOp (jr false) (fCB vf (ja (jb 4) jc)) (jd (ja (jd (ja (fC (.da (.str "net"))) (ja (jb 2) (ja (jd (ja (fOp gIx (ko false (fVs (bH D.da [.str "ab",.str "c"]))) (je 2 jh (ja (jb 0) (ja (fC (.da (.int 2))) jc)))) jc)) jc)))) jc))) jc)))))
  (jf (jp (jj (fOp gEq (je 2 jh (ja (jb 0) (ja (fC (.da (.int 2))) jc))) (fC (.da (.int 0))))) (jl 2 (jd (ja (fC (.da (.int 2))) (ja (jd (ja (fC (.da (.str "ab"))) jc)) (ja (fOp (jr false) (fOp gIx (jb 2) (fC (.da (.int 2)))) (jd (ja (jd (fVs (bH D.da [.str "either",.str "ab",.str "b"]))) jc))) jc))))) jk)
  (jl 2 (jd (ja (fC (.da (.int 2))) (ja (jd (ja (fC (.da (.str "a"))) jc)) (ja (fOp (jr false) (jd (ja (jd (fVs (bH D.da [.str "both",.str "a",.str "ab"]))) jc)) (fOp gIx (jb 2) (fC (.da (.int 2))))) jc)))))))))
  (ji (jb 2))))
def aa1:FF:=jz 5 B_law_deep
theorem aqm:aa1 [a0,a1] s=(B_law_deep [some a0,some a1,none,none,none] s).bind jq:=rfl
theorem sc_law_deep:FnScope ["_law_feed_here","_law_many","_law_found","_law_k","_law_ahead"] ["_law_feed_here","_law_many"] (jg ag8):=⟨rfl,rfl,rfl,by decide+kernel,rfl,by decide+kernel,by decide+kernel⟩
theorem ok_law_deep(T:Txt0 K mg):CalF P w K mg base "_law_deep" 4 2 aa1:=by walk_at "ok_law_deep"
def B_law_great:FS:=
  (jf (jl 1 (fOp (jr false) (fC (.da (.int 119))) (je 2 jh (ja (jb 0) (ja (fC (.da (.int 4))) jc)))))
  (jf (jl 2 (je 2 jh (ja (jb 0) (ja (fC (.da (.int 40))) jc))))
  (jf (jl 3 (jd (ja (fC (.da (.int 1))) (ja (jd (ja (fC (.da (.str "a"))) jc)) (ja (fOp (aht false) (jd (ja (jd (fVs (bH D.da [.str "drain",.str "a",.str "b"]))) jc)) (jb 2)) jc)))))
  (jf (jl 4 (fOp (aht false) (jd (ja (jd (fVs (bH D.da [.str "either",.str "a",.str "b"]))) jc)) (fOp v9 (fOp v9 (jb 1) (jb 2)) (fC (.da (.int 1))))))
  (jf (jl 5 (je 2 jh (ja (jb 0) (ja (fOp (jr false) (fCB jv (ja (jb 4) jc)) (fC (.da (.int 1)))) jc))))
  (ji (jd (ja (fC (.da (.int 1))) (ja (jd jc) (ja (fOp (jr false) (fOp (jr false) (fSl false (jb 4) fNo (kh (jb 5))) (jd (ja (jd (ja (fC (.da (.str "net"))) (ja (jb 3) (ja (jd (ja (fC (.da (.str "c"))) jc)) jc)))) jc))) (fSl false (jb 4) (kh (jb 5)) fNo)) jc))))))))))
def y9:FF:=jz 6 B_law_great
theorem an5:y9 [a0] s=(B_law_great [some a0,none,none,none,none,none] s).bind jq:=rfl
theorem sc_law_great:FnScope ["_law_feed_here","_law_many","_law_within","_law_inner","_law_parts","_law_at"] ["_law_feed_here"] (jg aeq):=⟨rfl,rfl,rfl,by decide+kernel,rfl,by decide+kernel,by decide+kernel⟩
theorem ok_law_great(T:Txt0 K mg):CalF P w K mg base "_law_great" 2 1 y9:=by walk_at "ok_law_great"
def B_law_told:FS:=
  (jf (jl 1 (jd (ja (fC (.da (.str "other"))) (ja (jd jc) jc))))
  (jf (abc xb xcs "MannerError" (some 3) (jp (jj (fOp amw (je 1 kc (ja (jb 0) jc)) (fC (.da (.bool true))))) (jl 1 (fC (.da (.none)))) jk) (jf (jl 2 (apy xb xcs ["NoAlike","NoJoin","NoMoment","NoText","TooMany"] (jb 3)))
  (jp (qh (j3 (fCB (af4 xb xcs) (ja (jb 3) (ja (fC (.fn "NoNet")) jc)))) (qh (j3 (fCB (af4 xb xcs) (ja (jb 3) (ja (fC (.ty "ValueError")) jc)))) (jw (j3 (jb 2))))) (jl 1 (jd (ja (afh xb xcs xfl "word" (jb 3)) (ja (afh xb xcs xfl "path" (jb 3)) jc)))) jk)))
  (ji (jb 1))))
def aa0:FF:=jz 4 B_law_told
theorem aql:aa0 [a0] s=(B_law_told [some a0,none,none,none] s).bind jq:=rfl
theorem sc_law_told:FnScope ["_law_thing","_law_found","_law_strange","e"] ["_law_thing"] (jg agd):=⟨rfl,rfl,rfl,by decide+kernel,rfl,by decide+kernel,by decide+kernel⟩
theorem ok_law_told(T:Txt0 K mg):CalF P w K mg base "_law_told" 18 1 aa0:=by
 have cright_net:=okright_net (P:=P) (w:=w) (base:=base) T
 exact acp (k:=17) T.h__law_told sc_law_told rfl rfl (fun f cdv A outer s H E I hx hr=>
   (vk (ac8 (i:=1) sc_law_told.nd rfl (c7 rfl) (ahg (jn ac6 (jn (ahg kj) kj))))
   (vk (awt 3 T.x ⟨rfl,rfl⟩ sc_law_told.nd rfl rfl rfl (fun I _ _ hx=> (ky (acj (alf a7b (acv cright_net (hr.mono (by decide)) (jn (jx 0) kj)) aye) (ky (ac8 (i:=1) sc_law_told.nd rfl (c7 rfl) a2z)) aar))) (fun I _ hx=> (vk (ac8 (i:=2) sc_law_told.nd rfl (c7 rfl) (a4p T.x T.n_isinstance (jx 3) (ac2 T.x rfl (ac2 T.x rfl (ac2 T.x rfl (ac2 T.x rfl (ac2 T.x rfl a1l)))))))
   (ky (acj (RW.rt (ard (aa9 (yq (ayg T.x) T.n_isinstance xi (jn (jx 3) (jn (a5c T.x rfl) kj)))) (ard (aa9 (yq (ayg T.x) T.n_isinstance xi (jn (jx 3) (jn (aab T.n_ValueError PyProof.Rows.Boot.«ValueError») kj)))) (a19 (adc (aa9 (jx 2))))))) (ky (ac8 (i:=1) sc_law_told.nd rfl (c7 rfl) (ahg (jn (ao3 T.x (jx 3)) (jn (ao3 T.x (jx 3)) kj))))) aar)))))
   (ky (alx (jx 1))))))
def B_law_right:FS:=
  (jf (jl 1 (fCB vm (ja (jb 0) jc)))
  (jf (jl 2 (je 3 (qf 8) (ja (jb 0) (ja (jd jc) (ja (fC (.da (.int 1))) jc)))))
  (jf (jp (qh (jj (fOp gIs (jb 2) (fC (.da (.none))))) (jj (fOp gGt (je 1 (vd 8) (ja (jb 0) jc)) (fC (.da (.int 120)))))) (jl 2 (jd (ja (fC (.da (.str "many"))) (ja (jd jc) jc)))) jk)
  (jf (jp (qy (jj (fOp gNe (fCB vm (ja (je 1 aa0 (ja (jb 0) jc)) jc)) (fCB vm (ja (jb 2) jc)))) (jj (fOp gNe (fCB vm (ja (je 1 aan (ja (jb 0) jc)) jc)) (fCB vm (ja (fOp gIs (jb 2) (fC (.da (.none)))) jc))))) (ji (fC (.da (.bool false)))) jk)
  (ji (fOp gEq (fCB vm (ja (jb 0) jc)) (jb 1)))))))
def xx:FF:=jz 3 B_law_right
theorem an1:xx [a0] s=(B_law_right [some a0,none,none] s).bind jq:=rfl
theorem sc_law_right:FnScope ["_law_thing","_law_kept","_law_due"] ["_law_thing"] (jg aeu):=⟨rfl,rfl,rfl,by decide+kernel,rfl,by decide+kernel,by decide+kernel⟩
theorem ok_law_right(T:Txt0 K mg):CalF P w K mg base "_law_right" 19 1 xx:=by walk_at "ok_law_right"
def Blaw:FS:=
  (jf (jl 1 (je 1 aa4 (ja (jb 0) jc)))
  (jf (jl 2 (jd (fVs (bH D.da [.str "a",.str "b",.str "c",.str "d",.str "e",.str "f",.str "g"]))))
  (jf (jl 3 (ko false (ja (fC (.da (.none))) (ja (jd jc) (ja (jd (ja (fC (.da (.int 1))) (ja (jd jc) (ja (jd jc) jc)))) (ja (ko false (ja (fC (.da (.int 1))) (ja (jd jc) (ja (jd jc) jc)))) (ja (jd (ja (fC (.da (.int 0))) (ja (jd jc) (ja (jd jc) jc)))) (ja (jd (ja (fC (.da (.bool true))) (ja (jd jc) (ja (jd jc) jc)))) (ja (jd (ja (fC (.da (.int 4))) (ja (jd jc) (ja (jd jc) jc)))) (ja (jd (ja (fC (.da (.int 1))) (ja (ko false jc) (ja (jd jc) jc)))) (ja (fC (.da (.str "net"))) jc)))))))))))
  (jf (xl (fIt (fOp (jr false) (jb 3) (ko false (ja (jd (ja (fC (.da (.int 1))) (ja (jb 2) (ja (jd jc) jc)))) (ja (jd (ja (fC (.da (.int 3))) (ja (fSl false (jb 2) (kh (fC (.da (.int 1)))) fNo) (ja (jd jc) jc)))) (ja (jd (ja (fC (.da (.int 2))) (ja (jd jc) (ja (jd (ja (jd (ja (fC (.da (.str "net"))) (ja (jd (ja (fC (.da (.int 2))) (ja (jb 2) (ja (jd jc) jc)))) (ja (jb 2) jc)))) jc)) jc)))) jc)))))) (.nm 4) (jp (jw (j3 (je 1 xx (ja (jb 4) jc)))) (ji (fC (.da (.bool false)))) jk))
  (jf (jl 5 (fLc false [1] 1 (y0 (ja (fC (.da (.int 3))) jc)) (.nm 0) acx (je 4 (vo 8) (ja (jb 1) (ja (fOp (jr false) (fC (.da (.int 1))) (je 2 jh (ja (jb 1) (ja (fC (.da (.int 4))) jc)))) (ja (fOp (jr false) (fC (.da (.int 1))) (je 2 jh (ja (jb 1) (ja (fC (.da (.int 3))) jc)))) (ja (je 2 jh (ja (jb 1) (ja (fC (.da (.int 4))) jc))) jc)))))))
  (jf (jl 5 (fOp (jr false) (jb 5) (ko false (ja (je 2 aa1 (ja (jb 1) (ja (fOp (jr false) (fC (.da (.int 3))) (je 2 jh (ja (jb 1) (ja (fC (.da (.int 3))) jc)))) jc))) (ja (je 1 y9 (ja (jb 1) jc)) jc)))))
  (jf (xl (fIt (jb 5)) (.nm 6) (jf (jl 7 (ko true (ja (jb 6) jc)))
  (jf (xl (y0 (ja (fC (.da (.int 3))) jc)) (.nm 8) (qo (fMt kz (jb 7) (ja (je 2 (jt 24) (ja (jb 1) (ja (fOp gIx (jb 7) (je 2 jh (ja (jb 1) (ja (fCB jv (ja (jb 7) jc)) jc)))) jc))) jc))))
  (jf (aq5 9 10 (ja (je 2 (jt 24) (ja (jb 1) (ja (jb 6) jc))) (ja (je 2 (jt 24) (ja (jb 1) (ja (jb 6) jc))) jc)))
  (jf (jl 11 (fCB vf (ja (fSl false (ko false (fVs (bH D.da [.str "a",.str "b",.str "c",.str "d",.str "e",.str "f"]))) fNo (kh (fCB jv (ja (fOp gIx (jb 6) (fC (.da (.int 1)))) jc)))) jc)))
  (jf (qo (fMt kz (jb 7) (ja (jd (ja (fOp gIx (jb 6) (fC (.da (.int 0)))) (ja (jd jc) (ja (jd (ja (jd (ja (fC (.da (.str "net"))) (ja (jb 9) (ja (jb 11) jc)))) (ja (jd (ja (fC (.da (.str "net"))) (ja (jb 10) (ja (jb 11) jc)))) jc))) jc)))) jc)))
  (jf (qo (fMt kz (jb 7) (ja (jd (ja (fOp gIx (jb 6) (fC (.da (.int 0)))) (ja (jd jc) (ja (jd (ja (jd (ja (fC (.da (.str "net"))) (ja (jb 6) (ja (jb 11) jc)))) (ja (jd (ja (fC (.da (.str "net"))) (ja (jb 10) (ja (jb 11) jc)))) (ja (jd (fVs (bH D.da [.str "both",.str "a",.str "a"]))) jc)))) jc)))) jc)))
  (xl (fIt (jb 7)) (.nm 4) (jp (jw (j3 (je 1 xx (ja (jb 4) jc)))) (ji (fC (.da (.bool false)))) jk)))))))))
  (ji (fC (.da (.bool true)))))))))))
def auk:FF:=jz 12 Blaw
theorem a9f:auk [a0] s=(Blaw [some a0,none,none,none,none,none,none,none,none,none,none,none] s).bind jq:=rfl
theorem sclaw:FnScope ["_law_script","_law_feed_here","_law_seven","_law_some","_law_thing","_law_nets","_law_net","_law_things","_law_k","_law_one","_law_other","_law_told_here"] ["_law_script"] (jg aav):=⟨rfl,rfl,rfl,by decide+kernel,rfl,by decide+kernel,by decide+kernel⟩
theorem a5x{f:Addr}(F:Fun K "law" "law" aav f fd)(T:Txt0 K mg):FnOk P w K mg base (CX1 P w) 27 f fd ["_law_script"] (spF K 1 auk):=by
 have sc:=sclaw
 exact fnF (k:=26) F sc rfl rfl fun f cdv A outer s H E I hx hr=> by
  unfold Blaw
  walk_at "dr"
end Ln
namespace PF
open PySem PySem.Spec PyProof.Rows
open L2
variable[XW]
end PF
namespace PF
open PySem L2
variable{ρ:En}{s:S}{ct:a8g}{f m C:Str}{n k:Nat}{fs:List (Str×D)}{x d:D}
end PF
local macro_rules | `(tactic| walk_at "ev") => do
  let ns := "PF.bd5 PF.ban PF.R.calm_ok PF.R.at_ok PF.R.W_calm PF.R.W_at PF.ba9 PF.bcj PF.bc6 PF.bb0 PF.bco PF.bar PF.a9p PF.a8o PF.a83 PF.a93 PF.a81 PF.a7u PF.ba2 PF.a9u PF.baf PF.bae PF.ba8 PF.a7o PF.bdk PF.bc7 PF.bcw PF.e_c PF.bc4 PF.bb7 PF.bbg PF.bby PF.bba PF.bbz PF.bbb PF.bb1 PF.baw PF.bab PF.a9v PF.ayx PF.bbh PF.bc0 PF.bce PF.bav PF.bbd PF.bbp PF.bah PF.ay3 PF.bch PF.ays PF.bcs PF.bdi PF.bbn PF.bc5 PF.bas PF.aog PF.bb4 PF.bd0 PF.baz PF.a9z PF.baa PF.bc3 PF.bbs PF.a9s PF.bcr PF.bdp PF.bbv PF.bap PF.bc9 PF.bcn PF.ba3 PF.a9h PF.a9k PF.a8k PF.a85 PF.bcl PF.bdd PF.baq PF.ba7 PF.aid PF.bck PF.bcm PF.bdf PF.bdr PF.bcd PF.bdn PF.bdl PF.bdb PF.bdq PF.bdc PF.bdh PF.bd9 PF.bde PF.bct PF.bcq PF.bcy PF.bd8 PF.bat PF.ba4 PF.bcc PF.bal PF.bao PF.bcx PF.bbj PF.bcf PF.bbw PF.bdm PF.bbc PF.baj PF.a9t PF.ba1 PF.ba0 PF.a0u PF.a9r PF.ba5 PF.a8b PF.a9e PF.a80 PF.a82 PF.a9o PF.bag PF.bai PF.at6 PF.bbu PF.bbk PF.bak PF.ba6 PF.a9y PF.a9a PF.a8t PF.a8u PF.bdg PF.bd7 PF.bd6 PF.bca PF.bcu PF.bbq PF.bda PF.bc2 PF.bb9 PF.bcb PF.ans PF.a0v PF.ao4 PF.ann PF.bdj PF.bb2 PF.axv PF.aks PF.alg PF.amh PF.bcp PF.R.bind_ok' PF.R.W_ok' PF.R.Wk_app PF.bbo PF.bb6 PF.bbe PF.bay PF.bbx PF.bc1 PF.a9x PF.ayt Bool.not_true Bool.not_false decide_true decide_false Bool.and_true Bool.and_false Bool.true_and Bool.false_and List.length_append List.length_cons List.length_nil List.append_assoc List.cons_append List.nil_append Nat.zero_add Nat.reduceAdd PF.bdo PF.bcg PF.bcz PF.bc8 PF.bac PF.a9w Nat.reduceLeDiff PF.it0 PF.it1 PF.it2 PF.it3 if_true if_false Bool.false_eq_true".splitOn " "
  let ids : Array (ik `term) := ns.toArray.map fun n => bR n.toName
  `(tactic| try simp only [$[$ids:term],*])
local macro_rules | `(tactic| walk_at "go") => `(tactic| (walk_at "ev"; (try simp only [PF.R.W_bindk, PF.R.W_at, PF.R.W_calm])))
namespace Ln
open PySem L2 PF
section
variable{s:S}{n:Nat}{a b c d v:D}
theorem ix4(k:Nat){ds:List D}{x:D}(hl:n < s.length)(h:ds[k]?=some x):gIx (.ref n) (.int (k:Int)) (s.set n (.lst ds))=.ok x (s.set n (.lst ds)):=aic (bn hl) h
theorem st4(k:Nat){ds:List D}(hl:n < s.length)(h:k < ds.length):aba (.ref n) (.int (k:Int)) v (s.set n (.lst ds))=.ok .non (s.set n (.lst (ds.set k v))):=by
 rw [aw0 (bn hl) h,List.set_set]
theorem ix0(hl:n < s.length):gIx (.ref n) (.int 0) (s.set n (.lst [a,b,c,d]))=.ok a (s.set n (.lst [a,b,c,d])):=ix4 0 hl rfl
theorem ix1(hl:n < s.length):gIx (.ref n) (.int 1) (s.set n (.lst [a,b,c,d]))=.ok b (s.set n (.lst [a,b,c,d])):=ix4 1 hl rfl
theorem ix2(hl:n < s.length):gIx (.ref n) (.int 2) (s.set n (.lst [a,b,c,d]))=.ok c (s.set n (.lst [a,b,c,d])):=ix4 2 hl rfl
theorem ix3(hl:n < s.length):gIx (.ref n) (.int 3) (s.set n (.lst [a,b,c,d]))=.ok d (s.set n (.lst [a,b,c,d])):=ix4 3 hl rfl
theorem st1(hl:n < s.length):aba (.ref n) (.int 1) v (s.set n (.lst [a,b,c,d]))=.ok .non (s.set n (.lst [a,v,c,d])):=st4 1 hl (by simp)
theorem st2(hl:n < s.length):aba (.ref n) (.int 2) v (s.set n (.lst [a,b,c,d]))=.ok .non (s.set n (.lst [a,b,v,d])):=st4 2 hl (by simp)
theorem st3(hl:n < s.length):aba (.ref n) (.int 3) v (s.set n (.lst [a,b,c,d]))=.ok .non (s.set n (.lst [a,b,c,v])):=st4 3 hl (by simp)
end
structure Fd (s:S) (n c:Nat):Prop where
 ex: ∃(xs:List Int) (i j k:Int),s[n]?=some (.lst [.lst (xs.map aG),.int i,.int j,.int k])/\xs.length <=63/\0 <=i/\0 <=k/\k <=c
theorem Fd.lt(h:Fd s n c):n < s.length:=by
 obtain⟨xs,i,j,k,e,_⟩:=h.ex
 exact (aC.mp e).1
theorem aez{xs:List Int}{j k:Int}(hl:n < s.length)(hx:xs.length <=63)(hi:0 <=i)(hk:0 <=k)(hc:k <=c):Fd (s.set n (.lst [.lst (xs.map aG),.int i,.int j,.int k])) n c:=⟨xs,i,j,k,bn hl,hx,hi,hk,hc⟩
theorem aj2(xs:List ag):aQ (.list xs) (.list [])=xs.isEmpty:=by cases xs <;> rfl
theorem amf: ∀xs:List Int,b9 (xs.map aG)=true
 |[]=> rfl
 |x::r=> by simp only [aL,b9,gy,amf r,gS]
theorem ah0: ∀xs:List Int,aS (xs.map aG) <=1
 |[]=> by (simp [aS])
 |x::r=> by simp only [aL,aS,aE];have:=ah0 r;lia
theorem ago(xs:List Int):okD (.list (xs.map aG))=true:=by
 unfold okD
 rw [aJ]
 refine⟨by simp only [gy];exact amf xs,decide_eq_true ?_⟩
 simp only [aE]
 have:=ah0 xs
 lia
theorem j5(h:Fd s n c)(hm:0 < m)(hm2:m < 1073741824)(hc:c < 2^40):(jh [.ref n,.int m] s).W fun d s'=> ∃i,d=.int i/\0 <=i/\i < m/\Fd s' n (c+1)/\j8 n s s':=by
 obtain⟨xs,i,j,k,e,hx,hi,hk,hkc⟩:=h.ex
 have hl:n < s.length:=(aC.mp e).1
 have e0:jh [.ref n,.int m] s=jh [.ref n,.int m] (s.set n (.lst [.lst (xs.map aG),.int i,.int j,.int k])):=by rw [ave e]
 rw [e0,apn];unfold B_law_draw
 have fin: ∀x:Int,0 <=x % m/\x % m < m:=fun x=> ⟨Int.emod_nonneg _ (by lia),Int.emod_lt_of_pos _ hm⟩
 have p18: ∀s:S,aqn (.int 10) (.int 18) s=.ok (.int 1000000000000000000) s:=fun s=> av8 (by decide) (by decide) (by decide)
 by_cases hj:0 < j
 ·simp [ix0 hl,ix1 hl,ix2 hl,ix3 hl,st1 hl,st2 hl,st3 hl,hj,xq hm,zj hm hm2]
  exact⟨(fin _).1,(fin _).2,aez hl hx hi (by lia) (by lia),ac5⟩
 ·have q1: ∀(x:Int) (s:S),aaj (.int x) (.int 998244353) s=.ok (.int (x % 998244353)) s:=fun x s=> xq (by decide)
  have q2: ∀(x:Int) (s:S),aao (.int 5003) (.int x) s=.ok (.int (5003*x)) s:=fun x s=> abr (.inl (by decide))
  have q3: ∀(x:Int) (s:S),aao (.int x) (.int 69621) s=.ok (.int (x*69621)) s:=fun x s=> abr (.inr (by decide))
  have q4: ∀(x:Int) (s:S),aaj (.int x) (.int 2147483629) s=.ok (.int (x % 2147483629)) s:=fun x s=> xq (by decide)
  have q5: ∀(x:Int) (s:S),af1 (.int x) (.int 13) s=.ok (.int (x/13)) s:=fun x s=> zj (by decide) (by decide)
  have q6: ∀(x:Int) (s:S),aao (.int 7919) (.int x) s=.ok (.int (7919*x)) s:=fun x s=> abr (.inl (by decide))
  have q7: ∀(x:Int) (s:S),aao (.int x) (.int (k+1)) s=.ok (.int (x*(k+1))) s:=fun x s=> abr (.inr (by lia))
  have q8: ∀(x:Int) (s:S),aao (.int x) (.int 48271) s=.ok (.int (x*48271)) s:=fun x s=> abr (.inr (by decide))
  have q9: ∀(x:Int) (s:S),aaj (.int x) (.int 2147483587) s=.ok (.int (x % 2147483587)) s:=fun x s=> xq (by decide)
  have q10: ∀(x:Int) (s:S),af1 (.int x) (.int 64) s=.ok (.int (x/64)) s:=fun x s=> zj (by decide) (by decide)
  have qe: ∀(s:S),gNe (.lst (xs.map aG)) (.lst []) s=.ok (.bl (!xs.isEmpty)) s:=fun s=> by
   rw [aby (ago xs) rfl,aj2]
   cases xs <;> rfl
  cases hxs:xs with
  |nil=>
   subst hxs
   have qe0: ∀s:S,gNe (.lst []) (.lst []) s=.ok (.bl false) s:=fun s=> aby rfl rfl
   simp [qe0,ix0 hl,ix1 hl,ix2 hl,ix3 hl,st1 hl,st2 hl,st3 hl,hj,xq hm,zj hm hm2,p18,q1,q2,q3,q4,q5,q6,q7,q8,q9,q10,qe]
   exact⟨(fin _).1,(fin _).2,aez (xs:=[]) hl (by simp) (by lia) (by lia) (by lia),ac5⟩
  | cons y ys=>
   have hne:xs≠ []:=by rw [hxs];simp
   have hlen:0 < (xs.length:Int):=by rw [hxs];simp
   rw [←hxs]
   have qe':xs.isEmpty=false:=by rw [hxs];rfl
   have ixx: ∀s:S,gIx (.lst (xs.map aG)) (.int (i % (xs.length:Int))) s=.ok (.int (xs.getD (i % (xs.length:Int)).toNat 0)) s:=fun s=> by
    have h0:=Int.emod_nonneg i (show (xs.length:Int)≠0 by lia)
    have h1:=Int.emod_lt_of_pos i hlen
    obtain⟨q,hq⟩: ∃q:Nat,i % (xs.length:Int)=q:=⟨(i % (xs.length:Int)).toNat,by lia⟩
    rw [hq]
    have hlt:q < xs.length:=by lia
    rw [aft (p:=.int (xs.getD q 0)) (by rw [aR,au hlt,bG,au hlt];rfl)]
    rfl
   generalize hcell:xs.getD (i % (xs.length:Int)).toNat 0=cell at ixx
   have qm: ∀s:S,aaj (.int i) (.int (xs.length:Int)) s=.ok (.int (i % (xs.length:Int))) s:=fun s=> xq hlen
   by_cases hb:1000000000000000000 <=cell
   ·by_cases hb2:i+1 <=(xs.length:Int)
    ·simp [ix0 hl,ix1 hl,ix2 hl,ix3 hl,st1 hl,st2 hl,st3 hl,hj,xq hm,zj hm hm2,p18,q1,q2,q3,q4,q5,q6,q7,q8,q9,q10,qe,qe',ixx,qm,hb,hb2]
     exact⟨(fin _).1,(fin _).2,aez hl hx (by lia) (by lia) (by lia),ac5⟩
    ·simp [ix0 hl,ix1 hl,ix2 hl,ix3 hl,st1 hl,st2 hl,st3 hl,hj,xq hm,zj hm hm2,p18,q1,q2,q3,q4,q5,q6,q7,q8,q9,q10,qe,qe',ixx,qm,hb,hb2]
     exact⟨(fin _).1,(fin _).2,aez hl hx (by lia) (by lia) (by lia),ac5⟩
   ·simp [ix0 hl,ix1 hl,ix2 hl,ix3 hl,st1 hl,st2 hl,st3 hl,hj,xq hm,zj hm hm2,p18,q1,q2,q3,q4,q5,q6,q7,q8,q9,q10,qe,qe',ixx,qm,hb]
    exact⟨(fin _).1,(fin _).2,aez hl hx (by lia) (by lia) (by lia),ac5⟩
theorem Fd.le{c':Nat}(h:Fd s n c)(hc:c <=c'):Fd s n c':=by
 obtain⟨xs,i,j,k,e,hx,hi,hk,hkc⟩:=h.ex
 exact⟨xs,i,j,k,e,hx,hi,hk,by lia⟩
theorem Fd.ext{s':S}(h:Fd s n c)(x:Ext s s'):Fd s' n c:=by
 obtain⟨xs,i,j,k,e,r⟩:=h.ex
 exact⟨xs,i,j,k,x.get e,r⟩
theorem Fd.set{o:O}(h:Fd s n c)(hk:k≠n):Fd (s.set k o) n c:=by
 obtain⟨xs,i,j,q,e,r⟩:=h.ex
 exact⟨xs,i,j,q,by rw [aX hk];exact e,r⟩
theorem atf{α β:Type}(f:α -> β)(l:List α)(k:Nat):(l.map f).eraseIdx k=(l.eraseIdx k).map f:=by
 induction l generalizing k with -- own
 |nil=> rfl
 |cons x r ih=>
  cases k with
  |zero=> rfl
  |succ k=> simp [ih]
theorem z0{α:Type}{l:List α}{x:α}(h:l[k]?=some x):(x::l.eraseIdx k).Perm l:=by
 induction l generalizing k with -- own
 |nil=> simp at h
 | cons y r ih=>
  cases k with
  |zero=> simp at h;subst h;exact gZ.refl _
  |succ k=>
   have:=ih (k:=k) (by simpa using h)
   rw [kH]
   exact (gZ.swap y x _).trans (this.cons y)
structure ShufJ (s:S) (n c:Nat) (xs:List ag) (r:List D) (ρ:En) (s':S):Prop where
 ex: ∃(ls fs:List ag) (u:Option D) (c':Nat),ρ=[some (.ref n),some (.lst xs),some (.ref s.length),some (.ref (s.length+1)),u]/\s'[s.length]?=some (.lst (ls.map D.da))/\s'[s.length+1]?=some (.lst (fs.map D.da))/\
  (fs++ls).Perm xs/\ls.length=r.length/\Fd s' n c'/\c'+r.length <=c+xs.length/\j8 n s s'
theorem a4s:jv [.ref s.length] (s++ [O.lst (xs.map D.da),O.lst []])=.ok (.int xs.length) (s++ [O.lst (xs.map D.da),O.lst []]):=by
 rw [aiw (ds:=xs.map D.da) (by simp),am]
theorem a3u(hx:xs.length <=1000)(s:S):alw [.int xs.length] s=.ok (aa3 0 xs.length,none) s:=by rw [ab6 (by lia) (by lia)];rfl
theorem a53(h:Fd s n c):ShufJ s n c xs (aa3 0 xs.length) [some (.ref n),some (.lst xs),some (.ref s.length),some (.ref (s.length+1)),none] (s++ [O.lst (xs.map D.da),O.lst []]):=
 ⟨xs,[],none,c,rfl,by simp,by simp,by simp,by rw [kx],h.ext (Ext.add _ _),by rw [kx];lia,(Ext.add _ _).same n⟩
def ay2:FS:=qo (fMt kz (jb 3) (ja (fMt ab7 (jb 2) (ja (je 2 jh (ja (jb 0) (ja (fCB jv (ja (jb 2) jc)) jc))) jc)) jc))
theorem a0g{ls fs:List ag}{d:D}{Q:Fl -> S -> Prop}(hl:s1[s.length]?=some (.lst (ls.map D.da)))(hf:s1[s.length+1]?=some (.lst (fs.map D.da)))(k:(jh [.ref n,.int ls.length] s1).W fun i s2=> (ab7 (.ref s.length) [i] s2).W fun y s3=> (kz (.ref (s.length+1)) [y] s3).W fun _ s4=> Q (.nx [some (.ref n),some (.lst xs),some (.ref s.length),some (.ref (s.length+1)),some d]) s4):
  (ay2 [some (.ref n),some (.lst xs),some (.ref s.length),some (.ref (s.length+1)),some d] s1).W Q:=by
 have e3:jv [.ref s.length] s1=.ok (.int ls.length) s1:=by rw [aiw hl,am]
 unfold ay2
 walk_at "ev"
 rw [abl hf]
 walk_at "ev"
 rw [abl hl]
 walk_at "ev"
 rw [e3]
 walk_at "ev"
 simp only [R.W_bindk,R.W_at]
 refine R.W_mono k fun i s2 q=> ?_
 walk_at "ev"
 exact q
theorem a0t{c':Nat}{ls fs:List ag}{d:D}(hx:xs.length <=1000)(hc:c+xs.length < 2^40)(hn:n < s.length)(hl:s1[s.length]?=some (.lst (ls.map D.da)))(hf:s1[s.length+1]?=some (.lst (fs.map D.da)))(pm:(fs++ls).Perm xs)(ln:ls.length=r.length+1)(fd:Fd s1 n c')(hcc:c'+(r.length+1) <=c+xs.length)(sm:j8 n s s1):
  (jh [.ref n,.int ls.length] s1).W fun i s2=> (ab7 (.ref s.length) [i] s2).W fun y s3=> (kz (.ref (s.length+1)) [y] s3).W fun _ s4=> ShufJ s n c xs r [some (.ref n),some (.lst xs),some (.ref s.length),some (.ref (s.length+1)),some d] s4:=by
 have hpl:=pm.length_eq
 rw [bq]at hpl
 refine R.W_mono (j5 fd (by lia) (by lia) (by lia)) ?_
 rintro _ s2 ⟨i,rfl,h0,h1,fd2,sm2⟩
 obtain⟨q,rfl⟩: ∃q:Nat,i=(q:Int):=⟨i.toNat,by lia⟩
 have hq:q < ls.length:=by lia
 have l1:s.length < s1.length:=(aC.mp hl).1
 have l2:s.length+1 < s1.length:=(aC.mp hf).1
 have hl2:s2[s.length]?=some (.lst (ls.map D.da)):=by rw [sm2.get _ (by lia) l1];exact hl
 have hf2:s2[s.length+1]?=some (.lst (fs.map D.da)):=by rw [sm2.get _ (by lia) l2];exact hf
 have hq2:(ls.map D.da)[q]?=some (D.da ls[q]):=by rw [aR,au hq];rfl
 rw [av3 hl2 hq2 (by rw [am];lia),R.W_ok]
 have hf3:(s2.set s.length (.lst ((ls.map D.da).eraseIdx q)))[s.length+1]?=some (.lst (fs.map D.da)):=by rw [aX (by lia)];exact hf2
 rw [yh (d:=D.da ls[q]) hf3 (by rw [am];lia),R.W_ok]
 refine⟨ls.eraseIdx q,fs++ [ls[q]],_,c'+1,rfl,?_,?_,?_,?_,?_,by lia,?_⟩
 ·rw [aX (by lia),bn (aN l1 sm2.len),atf]
 ·rw [bn (by simp;exact aN l2 sm2.len)]
  simp
 ·refine gZ.trans ?_ pm
  rw [cx]
  exact (z0 (au hq)).append_left fs
 ·rw [List.length_eraseIdx,if_pos hq];lia
 ·exact (fd2.set (by lia)).set (by lia)
 ·exact ((sm.trans sm2).own (by lia)).own (by lia)
theorem aih(h:Fd s n c)(hx:xs.length <=1000)(hc:c+xs.length < 2^40):(qg [.ref n,.lst xs] s).W fun d s'=> ∃ys,d=.lst ys/\ys.Perm xs/\Fd s' n (c+xs.length)/\j8 n s s':=by
 rw [aib];unfold B_law_shuffled
 have hn:=h.lt
 walk_at "ev"
 rw [a4s]
 walk_at "ev"
 rw [a3u hx]
 walk_at "ev"
 simp only [R.W_bindk,R.W_at]
 refine yi (ShufJ s n c xs) ?_ ?_ _ _ _ (a53 h)
 ·rintro d r ρ s1 ⟨ls,fs,u,c',rfl,hl,hf,pm,ln,fd,hcc,sm⟩
  exact⟨_,rfl,a0g hl hf (a0t hx hc hn hl hf pm ln fd hcc sm)⟩
 ·rintro ρ s1 ⟨ls,fs,u,c',rfl,hl,hf,pm,ln,fd,hcc,sm⟩
  have:ls=[]:=gA.mp ln
  subst this
  walk_at "ev"
  rw [a1z hf (vc fs)]
  walk_at "ev"
  exact⟨fs,rfl,by rw [cq]at pm;exact pm,(fd.set (by lia)).le hcc,sm.own (by lia)⟩
noncomputable def prB(x:Str):Bool:=(decide (1 <=x.length)&&decide (x.length <=8))&&x.cps.toList.all fun c=> decide (97 <=c)&&decide (c <=122)
noncomputable def ai0:List (List Str):=[["a","b","c","d","e","f","g","h"],["net","end","within","place","last","to","a","table"],["a","ab","abc","abcd","b","ba","abcdefgh","abcdefgi"],["zzzzzzzz","z","zz","y","only","onlya","copy","aa"]]
theorem axd: ∀p∈ai0,p.length=8/\p.Nodup/\ ∀x∈p,prB x=true:=by decide+kernel
theorem amd{α:Type}(l:List α)(t:Nat)(h:t <=l.length):vb l (some (t:Int)) none=l.drop t:=by
 unfold vb
 rw [HT.sIx_nat,HT.sIx_none,Nat.min_eq_left h,dM (by simp)]
theorem y8{α:Type}(l:List α)(t:Nat):vb l none (some (t:Int))=l.take t:=by
 unfold vb
 rw [HT.sIx_nat,HT.sIx_none,iF,Nat.sub_zero,List.take_eq_take_iff]
 lia
theorem a4r{α β:Type}{f:α -> β}{l:List α}{x:α}(h:l[k]?=some x):(l.map f)[k]?=some (f x):=by rw [aR,h];rfl
theorem av1(h:Fd s n c)(hk:k <=8)(hc:c+2 < 2^40):(za [.ref n,.int (k:Int)] s).W fun d s'=> ∃ps:List Str,d=.lst (ps.map aI)/\ps.length=k/\ps.Nodup/\(∀x∈ps,prB x=true)/\Fd s' n (c+2)/\j8 n s s':=by
 rw [an3];unfold B_law_ports
 have hn:=h.lt
 walk_at "ev"
 have g0: ∀(x y:D),(s++ [O.lst [x,y]])[s.length]?=some (O.lst [x,y]):=fun x y=> by simp
 rw [abl (g0 _ _)]
 walk_at "ev"
 rw [yh (g0 _ _) (by simp)]
 walk_at "ev"
 have g1: ∀(x y z:D),((s++ [O.lst [x,y]]).set s.length (O.lst ([x,y]++ [z])))=s++ [O.lst [x,y,z]]:=fun x y z=> by simp
 have g2: ∀(x y z:D),(s++ [O.lst [x,y,z]])[s.length]?=some (O.lst [x,y,z]):=fun x y z=> by simp
 have g3: ∀(x y z w:D),((s++ [O.lst [x,y,z]]).set s.length (O.lst ([x,y,z]++ [w])))=s++ [O.lst [x,y,z,w]]:=fun x y z w=> by simp
 simp only [cD,cB]at g1 g3
 rw [g1,abl (g2 _ _ _)]
 walk_at "ev"
 rw [yh (g2 _ _ _) (by simp)]
 walk_at "ev"
 rw [g3]
 have e4: ∀x:List D,x=ai0.map (fun p=> D.lst (p.map aI)) -> ∀i:Nat,i < 4 -> ∃p∈ai0,x[i]?=some (D.lst (p.map aI)):=by
  rintro _ rfl i hi
  have hl:i < ai0.length:=hi
  exact⟨ai0[i],cE hl,by rw [aR,au hl];rfl⟩
 generalize hp:([_,_,_,_]:List D)=P0
 have e5:=e4 P0 (by rw [←hp];rfl)
 have hP:(s++ [O.lst P0])[s.length]?=some (O.lst P0):=by simp
 clear hp g0 g1 g2 g3 e4
 walk_at "go"
 refine R.W_mono (j5 (h.ext (Ext.add s _)) (by decide) (by decide) (by lia)) ?_
 rintro _ s1 ⟨i,rfl,h0,h1,fd1,sm1⟩
 obtain⟨q,rfl⟩: ∃q:Nat,i=(q:Int):=⟨i.toNat,by lia⟩
 obtain⟨p,pm,hp⟩:=e5 q (by lia)
 obtain⟨pl,pn,pk⟩:=axd p pm
 have hP1:s1[s.length]?=some (O.lst P0):=by rw [sm1.get _ (by lia) (by simp)];exact hP
 walk_at "go"
 rw [aic hP1 hp]
 walk_at "go"
 refine R.W_mono (j5 fd1 (by decide) (by decide) (by lia)) ?_
 rintro _ s2 ⟨j,rfl,j0,j1,fd2,sm2⟩
 obtain⟨t,rfl⟩: ∃t:Nat,j=(t:Int):=⟨j.toNat,by lia⟩
 walk_at "go"
 rw [agy (by simp [vb];lia)]
 walk_at "go"
 rw [amd _ _ (by rw [am];lia),y8,y8,←List.map_drop,←mf,←kZ,←mf]
 refine⟨_,rfl,?_,?_,fun x hx=> ?_,fd2,((Ext.add s _).same n).trans (sm1.trans sm2)⟩
 ·simp;lia
 ·refine List.Nodup.sublist (gC _ _) ?_
  have:(p.drop t++p.take t).Perm p:=by
   refine lO.trans ?_
   rw [hJ]
  exact this.nodup_iff.mpr pn
 ·have:=cc hx
  rcases bg.mp this with z|z
  ·exact pk x (cC z)
  ·exact pk x (cc z)
theorem az4{x:Str}(h1:okD (.str x)=true)(h2:okD (.str y)=true):gEq (.str x) (.str y) s=.ok (.bl (decide (x=y))) s:=by
 rw [adf h1 h2]
 have:aQ (.str x) (.str y)=decide (x=y):=by
  show (x==y)=_
  (rw [a9,beq_iff_eq,decide_eq_true_eq])
 rw [this]
theorem k6{x:Str}(h:okD (.str x)=true/\okD (.str y)=true/\decide (x=y)=b)(s:S):gEq (.str x) (.str y) s=.ok (.bl b) s:=by rw [az4 h.1 h.2.1,h.2.2]
theorem agp{w:Str}: ∀ss:List Str,((ss.map aI).any fun d=> aQ d (.str w))=decide (w∈ss)
 |[]=> by simp
 | x::r=> by
  rw [aL,gR,agp r]
  have:aQ (.str x) (.str w)=decide (x=w):=by
   show (x==w)=_
   (rw [a9,beq_iff_eq,decide_eq_true_eq])
  rw [this,a9,kS,decide_eq_true_eq,decide_eq_true_eq,decide_eq_true_eq,aq]
  exact⟨fun h=> h.imp Eq.symm id,fun h=> h.imp Eq.symm id⟩
theorem all_strs(h: ∀x∈ss,okD (.str x)=true):(ss.map aI).all okD=true:=by
 rw [aT]
 intro d hd
 obtain⟨x,hx,rfl⟩:=bj.mp hd
 exact h x hx
theorem awq{w:Str}(h1:okD (.str w)=true)(h2: ∀x∈ss,okD (.str x)=true):gIn (.str w) (.tup (ss.map aI)) s=.ok (.bl (decide (w∈ss))) s:=by
 show (if okD (.str w)=true/\(ss.map aI).all okD=true then R.ok (D.bl (nb false ((ss.map aI).any fun d=> aQ d (.str w)))) s else .bad)=_
 rw [if_pos ⟨h1,all_strs h2⟩,agp];rfl
theorem k7{w:Str}(ss:List Str){l:List ag}(e:l=ss.map aI)(h:okD (.str w)=true/\(∀x∈ss,okD (.str x)=true)/\decide (w∈ss)=b)(s:S):gIn (.str w) (.tup l) s=.ok (.bl b) s:=by
 subst e
 rw [awq h.1 h.2.1,h.2.2]
inductive PartD (m:Int) (ps:List Str):ag -> List Str -> Prop
 |two {w a b:Str}:w∈(["both","loose","drain","either"]:List Str) -> a∈ps -> b∈ps -> a≠b -> PartD m ps (.tuple [.str w,.str a,.str b]) [a,b]
 |held {w a b:Str} {x:ag}:w∈(["place","last"]:List Str) -> a∈ps -> b∈ps -> a≠b -> (x=.none\/ ∃i,x=.int i/\0 <=i/\i < m) -> PartD m ps (.tuple [.str w,.str a,.str b,x]) [a,b]
 |only {a b:Str} {ts:List Int}:a∈ps -> b∈ps -> a≠b -> (∀t∈ts,0 <=t/\t < m) -> ts.length <=m -> ts.Pairwise (· < ·) -> PartD m ps (.tuple [.str "only",.str a,.str b,.tuple (ts.map .int)]) [a,b]
 |copy {a:Str} {bs:List Str}:a∈ps -> (∀b∈bs,b∈ps) -> 1 <=bs.length/\bs.length <=4 -> (a::bs).Nodup -> PartD m ps (.tuple [.str "copy",.str a,.tuple (bs.map .str)]) (a::bs)
 |merge {a:Str} {bs:List Str}:a∈ps -> (∀b∈bs,b∈ps) -> 1 <=bs.length/\bs.length <=4 -> (a::bs).Nodup -> PartD m ps (.tuple [.str "merge",.tuple (bs.map .str),.str a]) (bs++ [a])
noncomputable def afx:List Str:=["both","loose","place","last","drain","either","only","copy","merge","place"]
structure WordIs (w:Str) (b1 b2 b3 b4:Bool):Prop where
 i1: ∀s,gIn (.str w) (.tup [.str "copy",.str "merge"]) s=.ok (.bl b1) s
 i2: ∀s,gEq (.str w) (.str "copy") s=.ok (.bl b2) s
 i3: ∀s,gIn (.str w) (.tup [.str "place",.str "last"]) s=.ok (.bl b3) s
 i4: ∀s,gEq (.str w) (.str "only") s=.ok (.bl b4) s
 i5:(b1=true/\b2=true/\w="copy")\/(b1=true/\b2=false/\w="merge")\/(b1=false/\b3=true/\w∈(["place","last"]:List Str))\/(b1=false/\b3=false/\b4=true/\w="only")\/(b1=false/\b3=false/\b4=false/\w∈(["both","loose","drain","either"]:List Str))
theorem a08(w:Str)(h:w∈afx): ∃b1 b2 b3 b4,WordIs w b1 b2 b3 b4:=by
 have h:w="both"\/w="loose"\/w="place"\/w="last"\/w="drain"\/w="either"\/w="only"\/w="copy"\/w="merge"\/w="place":=by simpa [afx] using h
 rcases h with rfl|rfl|rfl|rfl|rfl|rfl|rfl|rfl|rfl|rfl
 ·exact⟨false,false,false,false,k7 ["copy","merge"] rfl (by decide+kernel),k6 (by decide+kernel),k7 ["place","last"] rfl (by decide+kernel),k6 (by decide+kernel),by decide⟩
 ·exact⟨false,false,false,false,k7 ["copy","merge"] rfl (by decide+kernel),k6 (by decide+kernel),k7 ["place","last"] rfl (by decide+kernel),k6 (by decide+kernel),by decide⟩
 ·exact⟨false,false,true,false,k7 ["copy","merge"] rfl (by decide+kernel),k6 (by decide+kernel),k7 ["place","last"] rfl (by decide+kernel),k6 (by decide+kernel),by decide⟩
 ·exact⟨false,false,true,false,k7 ["copy","merge"] rfl (by decide+kernel),k6 (by decide+kernel),k7 ["place","last"] rfl (by decide+kernel),k6 (by decide+kernel),by decide⟩
 ·exact⟨false,false,false,false,k7 ["copy","merge"] rfl (by decide+kernel),k6 (by decide+kernel),k7 ["place","last"] rfl (by decide+kernel),k6 (by decide+kernel),by decide⟩
 ·exact⟨false,false,false,false,k7 ["copy","merge"] rfl (by decide+kernel),k6 (by decide+kernel),k7 ["place","last"] rfl (by decide+kernel),k6 (by decide+kernel),by decide⟩
 ·exact⟨false,false,false,true,k7 ["copy","merge"] rfl (by decide+kernel),k6 (by decide+kernel),k7 ["place","last"] rfl (by decide+kernel),k6 (by decide+kernel),by decide⟩
 ·exact⟨true,true,false,false,k7 ["copy","merge"] rfl (by decide+kernel),k6 (by decide+kernel),k7 ["place","last"] rfl (by decide+kernel),k6 (by decide+kernel),by decide⟩
 ·exact⟨true,false,false,false,k7 ["copy","merge"] rfl (by decide+kernel),k6 (by decide+kernel),k7 ["place","last"] rfl (by decide+kernel),k6 (by decide+kernel),by decide⟩
 ·exact⟨false,false,true,false,k7 ["copy","merge"] rfl (by decide+kernel),k6 (by decide+kernel),k7 ["place","last"] rfl (by decide+kernel),k6 (by decide+kernel),by decide⟩
theorem a51{α:Type}{f:α -> ag}{l:List α}{x:α}(h:l[k]?=some x):gIx (.lst (l.map f)) (.int (k:Int)) s=.ok (.da (f x)) s:=aft (a4r h)
theorem ad5{l:List ag}{x:ag}(k:Nat)(hi:i=(k:Int))(h:l[k]?=some x):gIx (.lst l) (.int i) s=.ok (.da x) s:=by subst hi;exact aft h
theorem aot{α:Type}(l:List α)(a b:Nat):vb l (some (a:Int)) (some (b:Int))=(l.drop a).take (min b l.length - min a l.length):=by
 unfold vb
 rw [HT.sIx_nat,HT.sIx_nat]
 by_cases h:a <=l.length
 ·rw [Nat.min_eq_left h]
 ·rw [dN (by lia),dN (by lia)]
theorem agv{α β:Type}{f:α -> β}{l:List α}: ∀{ys:List β},ys.Perm (l.map f) -> ∃qs:List α,qs.Perm l/\qs.map f=ys:=by
 intro ys h
 generalize hz:l.map f=zs at h
 induction h generalizing l with
 |nil=>
  cases l with
  |nil=> exact⟨[],.refl _,rfl⟩
  |cons a b=> cases hz
 | cons x h ih=>
  cases l with
  |nil=> cases hz
  |cons a b=>
   cases hz
   obtain⟨qs,p,e⟩:=ih rfl
   exact⟨a::qs,p.cons a,by rw [aL,e]⟩
 | swap x y r=>
  match l,hz with
  |a::b::c,hz=>
   cases hz
   exact⟨b::a::c,.swap _ _ _,rfl⟩
 |trans h1 h2 ih1 ih2=>
  obtain⟨q2,p2,e2⟩:=ih2 hz
  obtain⟨q1,p1,e1⟩:=ih1 e2
  exact⟨q1,p1.trans p2,e1⟩
structure OnlyJ (s0:S) (n c:Nat) (m:Int) (r acc:List D) (s:S):Prop where
 ex: ∃ts:List Int,acc=ts.map D.int/\(∀t∈ts,0 <=t/\t < m)/\ts.length+r.length <=m/\(∃lo k,r=aa3 lo k/\0 <=lo/\lo+k <=m/\(∀t∈ts,t < lo)/\ts.Pairwise (· < ·))/\ ∃c',Fd s n c'/\c'+r.length <=c+m.toNat/\j8 n s0 s
theorem ap1(h:Fd s n c)(hm:1 <=m)(hm3:m <=3)(hp:2 <=ps.length)(hp8:ps.length <=8)(nd:ps.Nodup)(hc:c+ps.length+10 < 2^40):
  (xu [.ref n,.int m,.lst (ps.map aI)] s).W fun d s'=> ∃p qs,d=.da p/\PartD m ps p qs/\Fd s' n (c+ps.length+5)/\j8 n s s':=by
 rw [api];unfold B_law_part
 walk_at "go"
 refine R.W_mono (aih h (by rw [am];lia) (by rw [am];lia)) ?_
 rintro _ s1 ⟨ys,rfl,pm,fd1,sm1⟩
 obtain⟨qs,pmq,rfl⟩: ∃qs:List Str,qs.Perm ps/\qs.map aI=ys:=by
  exact agv pm
 have ql:=pmq.length_eq
 rw [am]at fd1
 walk_at "go"
 refine R.W_mono (j5 fd1 (by decide) (by decide) (by lia)) ?_
 rintro _ s2 ⟨i,rfl,h0,h1,fd2,sm2⟩
 obtain⟨k,rfl⟩: ∃k:Nat,i=(k:Int):=⟨i.toNat,by lia⟩
 have hk:k < afx.length:=by show k < 10;lia
 obtain⟨b1,b2,b3,b4,W⟩:=a08 afx[k] (cE hk)
 generalize hw:afx[k]=w at W
 walk_at "go"
 rw [show gIx (.lst [.str "both",.str "loose",.str "place",.str "last",.str "drain",.str "either",.str "only",.str "copy",.str "merge",.str "place"]) (.int (k:Int)) s2=.ok (.str w) s2 from a51 (f:=aI) (l:=afx) (x:=w) (by rw [au hk,hw])]
 walk_at "ev"
 rw [W.i1]
 obtain⟨q0,q1,qr,rfl⟩: ∃q0 q1 qr,qs=q0::q1::qr:=by
  match qs,ql with
  |[],e=> simp at e;lia
  |[_],e=> simp at e;lia
  |a::b::c,_=> exact⟨a,b,c,rfl⟩
 have nq:(q0::q1::qr).Nodup:=pmq.nodup_iff.mpr nd
 have m0:q0∈ps:=pmq.mem_iff.mp (by simp)
 have n01:q0≠q1:=by simp at nq;exact nq.1.1
 have m1:q1∈ps:=pmq.mem_iff.mp (by simp)
 have x0: ∀s:S,gIx (.lst ((q0::q1::qr).map aI)) (.int 0) s=.ok (.str q0) s:=fun s=> ad5 0 rfl rfl
 have x1: ∀s:S,gIx (.lst ((q0::q1::qr).map aI)) (.int 1) s=.ok (.str q1) s:=fun s=> ad5 1 rfl rfl
 have many:b1=true -> ∀Q:D -> S -> Prop,(∀(bs:List Str) (s3:S),1 <=bs.length/\bs.length <=4 -> (∀b∈bs,b∈ps) -> (q0::bs).Nodup -> Fd s3 n (c+ps.length+2) -> j8 n s s3 -> Q (.tup (bs.map aI)) s3) ->
   (fCB vf (ja (fSl false (jb 3) (kh (fC (D.da (aG 1)))) (kh (fOp (jr false) (fC (D.da (aG 2))) (je 2 jh (ja (jb 0) (ja (fCB agn (ja (fC (D.da (aG 4))) (ja (fOp PF.v9 (fCB jv (ja (jb 3) jc)) (fC (D.da (aG 1)))) jc))) jc)))))) jc)
    [some (.ref n),some (.int m),some (.lst (ps.map aI)),some (.lst ((q0::q1::qr).map aI)),some (.str w),none] s2).W Q:=fun _ Q hQ=> by
  walk_at "go"
  refine R.W_mono (j5 fd2 (by rw [am,ql];split <;> lia) (by rw [am,ql];split <;> lia) (by lia)) ?_
  rintro _ s3 ⟨j,rfl,j0,j1,fd3,sm3⟩
  obtain⟨t,rfl⟩: ∃t:Nat,j=(t:Int):=⟨j.toNat,by lia⟩
  walk_at "go"
  have e2:(2:Int)+(t:Int)=((2+t:Nat):Int):=by lia
  have e1:(1:Int)=((1:Nat):Int):=rfl
  rw [e2,e1,aas,aot]
  have tb:t < 4:=by
   rw [am,ql]at j1
   split at j1 <;> lia
  refine hQ _ s3 ?_ ?_ ?_ fd3 (sm1.trans (sm2.trans sm3))
  ·rw [bV];simp;lia
  ·intro b hb
   exact pmq.mem_iff.mp (cC (cc hb))
  ·have:(q0::((q0::q1::qr).drop 1).take (min (2+t) (q0::q1::qr).length - min 1 (q0::q1::qr).length)).Sublist (q0::q1::qr):=(gC _ _).cons₂ q0
   exact this.nodup nq
 clear hw hk
 rcases W.i5 with ⟨rfl,rfl,rfl⟩|⟨rfl,rfl,rfl⟩|⟨rfl,rfl,hw⟩|⟨rfl,rfl,rfl,rfl⟩|⟨rfl,rfl,rfl,hw⟩
 ·simp only [R.W_ok',R.Wk_app,aog,ays,ayx,ay3,R.W_bindk]
  refine many rfl _ fun bs s3 hl hb hnd fd3 sm3=> ?_
  walk_at "go"
  rw [W.i2]
  walk_at "go"
  rw [x0]
  walk_at "go"
  exact⟨_,_,rfl,.copy m0 hb hl hnd,fd3.le (by lia),sm3⟩
 ·simp only [R.W_ok',R.Wk_app,aog,ays,ayx,ay3,R.W_bindk]
  refine many rfl _ fun bs s3 hl hb hnd fd3 sm3=> ?_
  walk_at "go"
  rw [W.i2]
  walk_at "go"
  rw [x0]
  walk_at "go"
  exact⟨_,_,rfl,.merge m0 hb hl hnd,fd3.le (by lia),sm3⟩
 ·walk_at "go"
  rw [W.i3]
  walk_at "go"
  rw [x0]
  walk_at "go"
  rw [x1]
  walk_at "go"
  refine R.W_mono (j5 fd2 (by decide) (by decide) (by lia)) ?_
  rintro _ s3 ⟨j,rfl,j0,j1,fd3,sm3⟩
  obtain⟨x,hx,hx2⟩: ∃x:ag,(x=.none\/ ∃i,x=.int i/\0 <=i/\i < m)/\ ∀s:S,gIx (.lst [.none,.none,.int 0,.int (m - 1)]) (.int j) s=.ok (.da x) s:=by
   have:j=0\/j=1\/j=2\/j=3:=by lia
   rcases this with rfl|rfl|rfl|rfl
   ·exact⟨_,.inl rfl,fun s=> ad5 0 rfl rfl⟩
   ·exact⟨_,.inl rfl,fun s=> ad5 1 rfl rfl⟩
   ·exact⟨_,.inr ⟨0,rfl,by lia,by lia⟩,fun s=> ad5 2 rfl rfl⟩
   ·exact⟨_,.inr ⟨m - 1,rfl,by lia,by lia⟩,fun s=> ad5 3 rfl rfl⟩
  walk_at "go"
  rw [hx2]
  walk_at "go"
  exact⟨_,_,rfl,.held hw m0 m1 n01 hx,fd3.le (by lia),sm1.trans (sm2.trans sm3)⟩
 ·walk_at "go"
  rw [W.i3]
  walk_at "go"
  rw [W.i4]
  walk_at "go"
  rw [x0]
  walk_at "go"
  rw [x1]
  walk_at "go"
  rw [ab6 (by lia) (by lia)]
  walk_at "go"
  rw [zf (ρ0:=[none,some (D.ref n)]) (by rw [kx];lia) rfl]
  simp only [R.W_bindk,R.W_at]
  refine R.W_mono (abo (acc:=[]) (Q:=fun xs s'=> ∃ts:List Int,xs=ts.map D.int/\(∀t∈ts,0 <=t/\t < m)/\ts.length <=m/\ts.Pairwise (· < ·)/\Fd s' n (c+ps.length+1+m.toNat)/\j8 n s s') (OnlyJ s n (c+ps.length+1) m) ?_ ?_ _ _ ?_) ?_
  ·rintro d r acc s3 ⟨ts,rfl,ht,hl,⟨lo,k,hr,l0,lk,hlt,pw⟩,c',fd3,hcc,sm3⟩
   cases k with
   |zero=> cases hr
   | succ k=>
    cases hr
    rw [aK]at hl hcc
    refine⟨_,ayt,?_⟩
    walk_at "go"
    refine R.W_mono (j5 fd3 (by decide) (by decide) (by lia)) ?_
    rintro _ s4 ⟨j,rfl,j0,j1,fd4,sm4⟩
    walk_at "go"
    split
    ·refine⟨ts++ [lo],by simp,fun t h=> ?_,by simp;lia,⟨lo+1,k,rfl,by lia,by lia,fun t h=> ?_,?_⟩,c'+1,fd4,by lia,sm3.trans sm4⟩
     ·rcases bg.mp h with z|z
      ·exact ht t z
      ·have:t=lo:=by simpa using z
       subst this;exact⟨l0,by lia⟩
     ·rcases bg.mp h with z|z
      ·have:=hlt t z;lia
      ·have:t=lo:=by simpa using z
       lia
     ·rw [lX]
      exact⟨pw,List.pairwise_singleton _ _,fun a ha b hb=> by rw [aO.mp hb];exact hlt a ha⟩
    ·exact⟨ts,rfl,ht,by lia,⟨lo+1,k,rfl,by lia,by lia,fun t h=> by have:=hlt t h;lia,pw⟩,c'+1,fd4,by lia,sm3.trans sm4⟩
  ·rintro acc s3 ⟨ts,rfl,ht,hl,⟨lo,k,hr,l0,lk,hlt,pw⟩,c',fd3,hcc,sm3⟩
   simp only [dZ]at hl hcc
   exact⟨ts,rfl,ht,by lia,pw,fd3.le (by lia),sm3⟩
  ·exact⟨[],rfl,fun t h=> (by cases h),by rw [kx];simp;lia,⟨0,m.toNat,rfl,by lia,by lia,(fun t h=> by cases h),jE⟩,c+ps.length+1,fd2,by rw [kx];lia,sm1.trans sm2⟩
  ·rintro xs s3 ⟨ts,e,ht,hl,pw,fd3,sm3⟩
   rw [cB]at e
   subst e
   rw [show ts.map D.int=(ts.map aG).map D.da by rw [dC];rfl]
   walk_at "go"
   exact⟨_,_,rfl,.only m0 m1 n01 ht hl pw,fd3.le (by lia),sm3⟩
 ·walk_at "go"
  rw [W.i3]
  walk_at "go"
  rw [W.i4]
  walk_at "go"
  rw [x0]
  walk_at "go"
  rw [x1]
  walk_at "go"
  exact⟨_,_,rfl,.two hw m0 m1 n01,fd2.le (by lia),sm1.trans sm2⟩
theorem ze(i:Int)(h:0 <=i): ∃q:Nat,i=(q:Int):=⟨i.toNat,by lia⟩
theorem zw{j:Int}:gEq (.int i) (.int j) s=.ok (.bl (decide (i=j))) s:=by
 rw [adf rfl rfl]
 have:aQ (.int i) (.int j)=decide (i=j):=by
  show (i==j)=_
  (rw [a9,beq_iff_eq,decide_eq_true_eq])
 rw [this]
theorem zb{j:Int}:gEq (.int i) (.da (.int j)) s=.ok (.bl (decide (i=j))) s:=zw
end Ln
namespace PF
open PySem L2
theorem yo{s:S}{ft:FT}{fe:FE}{jy:En}{all:List D}(pr:ag -> Bool)(f:ag -> D): ∀(xs:List ag),(∀x∈xs,ft (some (.da x)::jy) s=.ok (pr x) s) -> (∀x∈xs,pr x=true -> fe (some (.da x)::jy) s=.ok (f x) s) ->
  qi (.nm 0) ft fe (none::jy) (all,none) (xs.map D.da) s=.ok ((xs.filter pr).map f) s
 |[],_,_=> rfl
 |x::r,h1,h2=> by
  have ih:=yo (all:=all) pr f r (fun y hy=> h1 y (aB _ hy)) (fun y hy=> h2 y (aB _ hy))
  rw [aL,aei ayt,h1 x aD,R.calm_ok,R.bind_ok']
  cases q:pr x with
  |false=> rw [alg,ih,eP (by rw [q];exact aw)]
  |true=> rw [aks,h2 x aD q,R.calm_ok,R.bind_ok',amh,ih,R.bind_ok',aid,eQ q,aL]
theorem ap5: ∀bs:List Bool,aec (bs.map D.bl)=some bs
 |[]=> rfl
 |b::r=> by rw [aL,aec,ap5 r]
theorem aie{bs:List Bool}:aek [.lst (bs.map cj)] s=.ok (.bl (bs.all id)) s:=by
 show (match (some ((bs.map cj).map D.da)).bind aec with|some bs=> R.ok (D.bl (bs.all id)) s|none=>.bad)=_
 rw [show (bs.map cj).map D.da=bs.map D.bl by rw [dC];rfl]
 show (match aec (bs.map D.bl) with|some bs=> R.ok (D.bl (bs.all id)) s|none=>.bad)=_
 rw [ap5]
theorem all_map{f:ag -> Bool}:aek [.lst (xs.map fun x=>.bool (f x))] s=.ok (.bl (xs.all f)) s:=by
 have:xs.map (fun x=> cj (f x))=(xs.map f).map cj:=by rw [dC];rfl
 rw [this,aie,List.all_map];rfl
theorem ad4(i j:Int):aQ (.int i) (.int j)=decide (i=j):=by
 show (i==j)=_
 (rw [a9,beq_iff_eq,decide_eq_true_eq])
theorem aad{j:Int}:gNe (.int i) (.int j) s=.ok (.bl (!decide (i=j))) s:=by rw [aby rfl rfl,ad4]
end PF
namespace Ln
open PySem L2 PF
theorem zt{α:Type}(l:List α)(t:Nat):vb l (some (t:Int)) none=l.drop t:=by
 by_cases h:t <=l.length
 ·exact amd l t h
 ·unfold vb
  rw [HT.sIx_nat,HT.sIx_none,Nat.min_eq_right (by lia),List.drop_length,dN (by lia)]
  simp
theorem adg{g:S}{o:O}:(s++o::g)[s.length]?=some o:=by simp
theorem aip{g:S}{o o':O}:(s++o::g).set s.length o'=s++o'::g:=by simp
noncomputable def vz:ag -> Bool
 |.int _=> true
 |_=> false
noncomputable def qx(m:Int):ag -> Bool
 |.int i=> decide (0 <=i)&&decide (i < m)
 |_=> false
theorem ao5:ab2 [.da d] s=.ok (.bl (vz d)) s:=by
 rw [au2];unfold Bis_whole
 walk_at "ev"
 cases d <;> simp only [kn] <;> rfl
theorem a1y:acl [.int m,.da d] s=.ok (.bl (qx m d)) s:=by
 rw [arz];unfold Bis_below
 walk_at "ev"
 rw [ao5]
 cases d with
 | int i=>
  simp only [vz]
  walk_at "ev"
  by_cases h0:0 <=i
  ·simp only [h0,decide_true,qx]
   walk_at "ev"
  ·simp only [h0,decide_false,qx]
   walk_at "ev"
 |_=> rfl
theorem aoc:aax [.int m,.da d] s=.ok (.bl (qx m d)) s:=by
 rw [ate];unfold Bis_thing
 walk_at "ev"
 rw [a1y];rfl
noncomputable def ai1(c:Nat):Bool:=decide (97 <=c)&&decide (c <=122)
def afm(x:Str):Bool:=(decide (1 <=x.length)&&decide (x.length <=8))&&x.cps.toList.all ai1
def qj:ag -> Bool
 |.str x=> afm x
 |_=> false
noncomputable def asc(x:Str):Bool:=x.cps.toList.all fun c=> decide (9 <=c)&&decide (c < 127)
theorem afw{x:Str}(h:asc x=true):x.cps.all (· < 128)=true:=by
 unfold asc at h
 simp only [aT,aJ,decide_eq_true_eq]at h
 (rw [←kD,aT])
 intro c hc
 have:=h c hc
 (exact decide_eq_true (by lia))
theorem ajs(x:Str):aaz x=x.cps.toList.map fun c=> D.str ⟨#[c]⟩:=by first|rfl|(unfold aaz;rfl)
theorem a2c(h: ∀x,d=.str x -> asc x=true/\x.length <=100000):ae3 [.da d] s=.ok (.bl (qj d)) s:=by
 rw [ax9];unfold Bis_port
 walk_at "ev"
 cases d with
 | str x=>
  obtain⟨ha,hl⟩:=h x rfl
  rw [show kn (.str x) "str"=true from rfl]
  walk_at "ev"
  rw [len_str (by lia)]
  walk_at "ev"
  show _=R.ok (D.bl (afm x)) s
  unfold afm
  by_cases h1:1 <=x.length
  ·rw [decide_eq_true (show (1:Int) <=(x.length:Int) by lia),decide_eq_true h1]
   walk_at "ev"
   by_cases h2:x.length <=8
   ·rw [decide_eq_true (show (x.length:Int) <=8 by lia),decide_eq_true h2]
    walk_at "ev"
    rw [ayo]
    walk_at "ev"
    rw [ao9 (afw ha)]
    walk_at "ev"
    rw [ajs,zf (ρ0:=[none]) (by rw [am,aM];show x.length <=_;lia) rfl]
    rw [afr (fun c:Nat=> D.str ⟨#[c]⟩) (fun _=> true) (fun c=> cj (ai1 c)) x.cps.toList (fun c hc=> ⟨[some (.str ⟨#[c]⟩)],rfl,rfl,fun _=> by
     walk_at "ev"
     rw [a42,amo (afw ha) c hc];rfl⟩)]
    (rw [eL.mpr (fun _ _=> rfl)])
    walk_at "ev"
    rw [show x.cps.toList.map (fun c=> cj (ai1 c))=(x.cps.toList.map ai1).map cj by rw [dC];rfl,aie,List.all_map]
    rfl
   ·rw [decide_eq_false (show¬(x.length:Int) <=8 by lia),decide_eq_false h2]
    walk_at "ev"
  ·rw [decide_eq_false (show¬(1:Int) <=(x.length:Int) by lia),decide_eq_false h1]
   walk_at "ev"
 |_=> rfl
noncomputable def ah1(ds:List ag):List Str:=ds.filterMap fun d=> match d with
 |.str x=> some x
 |_=> none
theorem zu(xs:List Str):ah1 (xs.map aI)=xs:=by
 induction xs with
 |nil=> rfl
 |cons x r ih=>
  show x::ah1 (r.map aI)=_
  rw [ih]
theorem ab5: ∀{ds:List ag},ds.all qj=true -> ∃ss:List Str,ds=ss.map .str/\ ∀x∈ss,afm x=true
 |[],_=> ⟨[],rfl,fun _ h=> by cases h⟩
 |d::r,h=> by
  (rw [dm,aJ]at h)
  obtain⟨ss,rfl,hs⟩:=ab5 h.2
  cases d with
  | str x=> exact⟨x::ss,rfl,fun y hy=> by
    rcases aq.mp hy with z|z
    ·subst z;exact h.1
    ·exact hs y z⟩
  |_=> exact absurd h.1 aw
def zn(ds:List ag):Bool:=decide ((jm (ah1 ds)).length=ds.length)
def j6:ag -> Bool
 |.tuple ds=> ds.all qj&&zn ds
 |_=> false
def aed:ag -> Bool
 |.tuple ds=> (ds.all qj&&zn ds)&&decide (ds.length <=6)
 |_=> false
structure It (d:ag):Prop where
 s: ∀x,d=.str x -> asc x=true/\x.length <=100000
 l:d.canLay0=true
 d:d.depth <=60
theorem It.ok(h:It d):okD d=true:=by
 unfold okD
 rw [h.l,i8]
 exact decide_eq_true (ax h.d (by decide))
theorem aob: ∀{ds:List ag},(∀x∈ds,It x) -> b9 ds=true
 |[],_=> rfl
 |x::r,h=> by simp only [b9,(h x aD).l,aob fun y hy=> h y (aB _ hy),gS]
theorem yg{x:ag}: ∀{ds:List ag},x∈ds -> x.depth <=aS ds
 |d::r,h=> by
  simp only [aS]
  rcases aq.mp h with e|e
  ·subst e;exact lc _ _
  ·exact ax (yg e) (kF _ _)
theorem vg{n:Nat}: ∀{ds:List ag},(∀x∈ds,x.depth <=n) -> aS ds <=n
 |[],_=> dw _
 |d::r,h=> by
  simp only [aS]
  exact Nat.max_le.mpr ⟨h d aD,vg fun y hy=> h y (aB _ hy)⟩
theorem afj(h: ∀x∈ds,It x):okD (.list ds)=true:=by
 unfold okD
 rw [aJ]
 refine⟨by simp only [gy];exact aob h,decide_eq_true ?_⟩
 simp only [aE]
 have:=vg fun x hx=> (h x hx).d
 lia
theorem adp(hl:ds.length <=1000)(hx: ∀x∈ds,It x):ki [.tup ds] s=.ok (.bl (j6 (.tuple ds))) s:=by
 rw [ag0];unfold Bare_unlike_ports
 walk_at "ev"
 rw [show kn (.tuple ds) "tuple"=true from rfl]
 walk_at "ev"
 rw [zf (ρ0:=[none]) (by rw [am];lia) rfl]
 rw [yo (fun _=> true) (fun x=> D.bl (qj x)) ds (fun x _=> rfl) (fun x hm _=> by
  walk_at "ev"
  rw [a2c (hx x hm).s];rfl),eL.mpr (fun _ _=> rfl)]
 rw [show ds.map (fun x=> D.bl (qj x))=(ds.map fun x=> cj (qj x)).map D.da by rw [dC];rfl]
 walk_at "ev"
 rw [all_map]
 show _=R.ok (D.bl (ds.all qj&&zn ds)) s
 cases hp:ds.all qj with
 |false=> walk_at "ev"
 |true=>
  walk_at "ev"
  obtain⟨ss,rfl,hs⟩:=ab5 hp
  rw [am]at hl
  rw [ah2 (by lia)]
  walk_at "ev"
  rw [zw]
  walk_at "ev"
  unfold zn
  rw [zu]
  have e:(((jm ss).length:Int)=((ss.map aI).length:Int))=((jm ss).length=(ss.map aI).length):=propext (by lia)
  congr 3
structure Gv (d:ag):Prop where
 i:It d
 t: ∀ds,d=.tuple ds -> ds.length <=1000/\ ∀x∈ds,It x
theorem ak1(h:Gv d):ki [.da d] s=.ok (.bl (j6 d)) s:=by
 cases d with
 |tuple ds=> exact adp (h.t ds rfl).1 (h.t ds rfl).2
 |_=> rfl
theorem a3p(h:Gv d):aeb [.da d] s=.ok (.bl (aed d)) s:=by
 rw [axh];unfold Bis_seen
 walk_at "ev"
 rw [ak1 h]
 cases d with
 | tuple ds=>
  show _=R.ok (D.bl ((ds.all qj&&zn ds)&&decide (ds.length <=6))) s
  rw [show j6 (.tuple ds)=(ds.all qj&&zn ds) from rfl]
  cases ds.all qj&&zn ds with
  |false=> walk_at "ev"
  |true=>
   walk_at "ev"
   have e:((ds.length:Int) <=6)=(ds.length <=6):=propext (by lia)
   congr 3
 |_=> rfl
noncomputable def yx:ag -> Bool
 |.int i=> decide (1 <=i)&&decide (i <=3)
 |_=> false
theorem aw7:abh [.da d] s=.ok (.bl (yx d)) s:=by
 rw [ar5];unfold Bis_things
 walk_at "ev"
 rw [ao5]
 cases d with
 | int i=>
  simp only [vz]
  walk_at "ev"
  by_cases h0:1 <=i
  ·simp only [h0,decide_true,yx]
   walk_at "ev"
  ·simp only [h0,decide_false,yx]
   walk_at "ev"
 |_=> rfl
def afu(m:Int)(d:ag):Bool:=isN (.da d)||qx m d
theorem a5d:ae2 [.int m,.da d] s=.ok (.bl (afu m d)) s:=by
 rw [axg];unfold Bis_held
 walk_at "ev"
 unfold afu
 cases isN (.da d) with
 |true=> walk_at "ev";rfl
 |false=>
  walk_at "ev"
  rw [aoc];rfl
def zg:List ag -> Bool
 |x::y::r=> ltb x y&&zg (y::r)
 |_=> true
theorem av2{b:ag}(h:(ltP a b).isSome=true):ltP a b=some (ltb a b):=by
 unfold ltb
 match ltP a b,h with
 |some true,_=> rfl
 |some false,_=> rfl
theorem amy: ∀xs:List ag,((xs.zip (xs.drop 1)).map fun p=> ltb p.1 p.2).all id=zg xs
 |[]=> rfl
 |[_]=> rfl
 |x::y::r=> by
  have ih:=amy (y::r)
  simp only [my,iF,List.zip_cons_cons,aL,dm,id]at ih⊢
  rw [ih];rfl
theorem a0y{p:ag×ag}(h:p∈xs.zip (xs.drop 1)):p.1∈xs/\p.2∈xs:=⟨(f6 h).1,cC (f6 h).2⟩
structure CmpR (xs:List ag):Prop where
 lt: ∀a∈xs,∀b∈xs,(ltP a b).isSome=true
 ok: ∀a∈xs,okD a=true
theorem aul(h:CmpR xs)(hl:xs.length <=1000):abk [.tup xs] s=.ok (.bl (zg xs)) s:=by
 rw [aq9];unfold Bis_rising
 walk_at "ev"
 rw [show vb xs (some 1) none=xs.drop 1 from zt xs 1]
 rw [zf (ρ0:=[none,none]) (by rw [am,List.length_zip];lia) rfl]
 rw [afr (fun p:ag×ag=> D.tup [p.1,p.2]) (fun _=> true) (fun p=> cj (ltb p.1 p.2)) (xs.zip (xs.drop 1)) (fun p hp=> ⟨[some (.da p.1),some (.da p.2)],rfl,rfl,fun _=> by
  obtain⟨m1,m2⟩:=a0y hp
  walk_at "ev"
  rw [a25 (av2 (h.lt _ m1 _ m2)) (h.ok _ m1) (h.ok _ m2)]⟩),eL.mpr (fun _ _=> rfl)]
 walk_at "ev"
 rw [show (xs.zip (xs.drop 1)).map (fun p=> cj (ltb p.1 p.2))=((xs.zip (xs.drop 1)).map fun p=> ltb p.1 p.2).map cj by rw [dC];rfl,aie,amy]
 rfl
theorem aeo: ∀{ds:List ag},ds.all vz=true -> ∃is:List Int,ds=is.map .int
 |[],_=> ⟨[],rfl⟩
 |d::r,h=> by
  (rw [dm,aJ]at h)
  obtain⟨is,rfl⟩:=aeo h.2
  cases d with
  |int i=> exact⟨i::is,rfl⟩
  |_=> exact absurd h.1 aw
theorem ag9(h:qx m d=true):vz d=true:=by
 cases d with
 |int i=> rfl
 |_=> exact absurd h aw
theorem aui(is:List Int):CmpR (is.map aG):=⟨fun a ha b hb=> by
  obtain⟨i,_,rfl⟩:=bj.mp ha
  obtain⟨j,_,rfl⟩:=bj.mp hb
  rw [aik];rfl,fun a ha=> by
  obtain⟨i,_,rfl⟩:=bj.mp ha
  rfl⟩
def afg(m:Int):ag -> Bool
 |.tuple ds=> ds.all (qx m)&&zg ds
 |_=> false
theorem a3j(h:Gv d):ae7 [.int m,.da d] s=.ok (.bl (afg m d)) s:=by
 rw [avu];unfold Bis_told
 walk_at "ev"
 cases d with
 | tuple ds=>
  obtain⟨hl,hx⟩:=h.t ds rfl
  rw [show kn (.tuple ds) "tuple"=true from rfl]
  walk_at "ev"
  rw [zf (ρ0:=[none,some (.int m)]) (by simp;lia) rfl]
  rw [yo (fun _=> true) (fun x=> D.bl (qx m x)) ds (fun x _=> rfl) (fun x hx _=> by
   walk_at "ev"
   rw [aoc];rfl)]
  rw [eL.mpr (fun _ _=> rfl),show ds.map (fun x=> D.bl (qx m x))=(ds.map fun x=> cj (qx m x)).map D.da by rw [dC];rfl]
  walk_at "ev"
  rw [all_map]
  show _=R.ok (D.bl (ds.all (qx m)&&zg ds)) s
  cases hp:ds.all (qx m) with
  |false=> walk_at "ev"
  | true=>
   walk_at "ev"
   obtain⟨is,rfl⟩:=aeo (ds:=ds) (by
    rw [aT]at hp⊢
    exact fun x hx=> ag9 (hp x hx))
   have:=aul (s:=s) (aui is) hl
   rw [this];rfl
 |_=> rfl
def abm(a:ag):ag -> Bool
 |.tuple ds=> (decide (1 <=ds.length)&&decide (ds.length <=12))&&j6 (.tuple (a::ds))
 |_=> false
theorem asg(ha:It a)(h:Gv d):ac4 [.da a,.da d] s=.ok (.bl (abm a d)) s:=by
 rw [avi];unfold Bis_knot
 walk_at "ev"
 cases d with
 | tuple ds=>
  obtain⟨hl,hx⟩:=h.t ds rfl
  rw [show kn (.tuple ds) "tuple"=true from rfl]
  walk_at "ev"
  show _=R.ok (D.bl ((decide (1 <=ds.length)&&decide (ds.length <=12))&&j6 (.tuple (a::ds)))) s
  by_cases h1:1 <=ds.length
  ·rw [decide_eq_true (show (1:Int) <=(ds.length:Int) by lia),decide_eq_true h1]
   walk_at "ev"
   by_cases h2:ds.length <=12
   ·rw [decide_eq_true (show (ds.length:Int) <=(12:Int) by lia),decide_eq_true h2]
    walk_at "ev"
    rw [qz (by simp;lia)]
    walk_at "ev"
    rw [adp (by simp;lia) (fun x hx'=> by
     rcases aq.mp hx' with z|z
     ·subst z;exact ha
     ·exact hx x z)]
    rfl
   ·rw [decide_eq_false (show¬(ds.length:Int) <=(12:Int) by lia),decide_eq_false h2]
    walk_at "ev"
  ·rw [decide_eq_false (show¬(1:Int) <=(ds.length:Int) by lia),decide_eq_false h1]
   walk_at "ev"
 |_=> rfl
inductive Lf (n:Nat):ag -> Prop
 |none:Lf n .none
 |bool (b:Bool):Lf n (.bool b)
 |int {i:Int}:i.natAbs <=1000+n -> Lf n (.int i)
 |str {x:Str}:asc x=true -> x.length <=40*4^n -> Lf n (.str x)
 |tup {ds:List ag}:ds.length <=140+n -> (ds.filter vz).length <=30+n -> (∀x∈ds,Lf n x) -> Lf n (.tuple ds)
 |lst {ds:List ag}:ds.length <=140+n -> (∀x∈ds,Lf n x) -> Lf n (.list ds)
theorem Lf.mono{m:Nat}(h:Lf n d)(hm:n <=m):Lf m d:=by
 induction h with
 |none=> exact .none
 |bool b=> exact .bool b
 |int h=> exact .int (by lia)
 |str h l=> exact .str h (ax l (mz _ (lY (by decide) hm)))
 |tup hl hw _ ih=> exact .tup (by lia) (by lia) ih
 |lst hl _ ih=> exact .lst (by lia) ih
theorem ai8: ∀{ds:List ag},(∀x∈ds,x.canLay0=true) -> b9 ds=true
 |[],_=> rfl
 |x::r,h=> by simp only [b9,h x aD,ai8 fun y hy=> h y (aB _ hy),gS]
theorem Lf.lay(h:Lf n d):d.canLay0=true:=by
 induction h with
 |none=> rfl
 |bool b=> rfl
 |int _=> rfl
 | @str x h _=>
  show PyData.strOk x=true
  unfold asc at h
  unfold PyData.strOk
  simp only [aT,aJ,decide_eq_true_eq]at h
  (rw [←kD,aT])
  intro c hc
  have:=h c hc
  (exact decide_eq_true (by lia))
 |tup _ _ _ ih=> simp only [gy];exact ai8 ih
 |lst _ _ ih=> simp only [gy];exact ai8 ih
structure Gd (d:ag):Prop where
 lf:Lf 3 d
 dp:d.depth <=60
 bk:d.bulk <=340000
theorem am8{x:ag}: ∀{ds:List ag},x∈ds -> x.bulk+1 <=aF ds
 |d::r,h=> by
  simp only [aF]
  rcases aq.mp h with e|e
  ·subst e;lia
  ·have:=am8 e;lia
theorem Gd.it(h:Gd d):It d:=⟨fun x e=> by
 subst e
 cases h.lf with
 |str a b=> exact⟨a,ax b (by decide)⟩,h.lf.lay,h.dp⟩
theorem Gd.kid{x:ag}(h:Gd (.tuple ds))(hx:x∈ds):Gd x:=by
 refine⟨?_,?_,?_⟩
 ·cases h.lf with
  |tup _ _ a=> exact a x hx
 ·have:=h.dp
  simp only [aE]at this
  have:=yg hx
  lia
 ·have:=h.bk
  simp only [aW]at this
  have:=am8 hx
  lia
theorem Gd.len(h:Gd (.tuple ds)):ds.length <=143/\(ds.filter vz).length <=33:=by
 cases h.lf with
 |tup a b _=> exact⟨a,b⟩
theorem Gd.gv(h:Gd d):Gv d:=⟨h.it,fun ds e=> by
 subst e
 exact⟨ax h.len.1 (by decide),fun x hx=> (h.kid hx).it⟩⟩
noncomputable def isS(z:Str):ag -> Bool
 |.str x=> decide (x=z)
 |_=> false
noncomputable def isIn(ss:List Str):ag -> Bool
 |.str x=> decide (x∈ss)
 |_=> false
theorem ayj(w:ag)(z:Str):aQ w (.str z)=isS z w:=by
 cases w with
 |str x=>
  show (x==z)=decide (x=z)
  (rw [a9,beq_iff_eq,decide_eq_true_eq])
 |_=> rfl
theorem abd{w:ag}(z:Str)(h:It w)(hz:okD (.str z)=true:=by decide+kernel):gEq (.da w) (.da (.str z)) s=.ok (.bl (isS z w)) s:=by rw [adf h.ok hz,ayj]
theorem asn(w:ag)(ss:List Str):((ss.map aI).any fun d=> aQ d w)=isIn ss w:=by
 cases w with
 |str x=> exact agp ss
 |_=>
  rw [show∀b:Bool,(b=isIn ss _)=(b=false) from fun b=> rfl,jC]
  intro d hd
  obtain⟨x,_,rfl⟩:=bj.mp hd
  exact aw
theorem az0{w:ag}(ss:List Str)(h:It w)(hs: ∀x∈ss,okD (.str x)=true:=by decide+kernel):gIn (.da w) (.con (ss.map aI)) s=.ok (.bl (isIn ss w)) s:=by
 have key: ∀w,okD w=true -> (if okD w=true/\(ss.map aI).all okD=true then R.ok (D.bl (nb false ((ss.map aI).any fun d=> aQ d w))) s else .bad)=.ok (.bl (isIn ss w)) s:=fun w hw=> by
  rw [if_pos ⟨hw,all_strs hs⟩,asn];rfl
 have:=h.ok
 cases w <;> exact key _ this
theorem aqs{w:ag}(ss:List Str){l:List ag}(e:l=ss.map aI)(h:It w)(hs: ∀x∈ss,okD (.str x)=true:=by decide+kernel):gIn (.da w) (.tup l) s=.ok (.bl (isIn ss w)) s:=by
 subst e
 have key: ∀w,okD w=true -> (if okD w=true/\(ss.map aI).all okD=true then R.ok (D.bl (nb false ((ss.map aI).any fun d=> aQ d w))) s else .bad)=.ok (.bl (isIn ss w)) s:=fun w hw=> by
  rw [if_pos ⟨hw,all_strs hs⟩,asn];rfl
 have:=h.ok
 cases w <;> exact key _ this
def yp(m:Int):ag -> Bool
 |.tuple [w,a,b]=> if isS "copy" w=true then abm a b else if isS "merge" w=true then abm b a else isIn ["both","loose","drain","either"] w&&j6 (.tuple [a,b])
 |.tuple [w,a,b,x]=> j6 (.tuple [a,b])&&(if isIn ["place","last"] w=true then afu m x else isS "only" w&&afg m x)
 |_=> false
theorem aff{b c:ag}{r:List ag}:vb (a::b::c::r) (some 1) (some 3)=[b,c]:=by
 rw [show (1:Int)=((1:Nat):Int) from rfl,show (3:Int)=((3:Nat):Int) from rfl,aot];simp
theorem a2w{r:List ag}:vb (a::r) (some 1) none=r:=zt _ 1
section
variable{m:Int}{w a b x:ag}{s:S}
theorem azk(h:Gd (.tuple [w,a,b])):vw [.int m,.tup [w,a,b]] s=.ok (.bl (yp m (.tuple [w,a,b]))) s:=by
 have hw:=(h.kid (x:=w) (by simp))
 have ha:=(h.kid (x:=a) (by simp))
 have hb:=(h.kid (x:=b) (by simp))
 rw [abb];unfold Bis_flat_part
 walk_at "ev"
 rw [show kn (.tuple [w,a,b]) "tuple"=true from rfl]
 walk_at "ev"
 rw [decide_eq_true (show (3:Int) <=((3:Nat):Int) by decide)]
 walk_at "ev"
 rw [decide_eq_true (show ((3:Nat):Int) <=(4:Int) by decide)]
 walk_at "ev"
 rw [zb,decide_eq_false (by decide)]
 walk_at "ev"
 rw [abd "copy" hw.it]
 show _=R.ok (D.bl (if isS "copy" w=true then abm a b else if isS "merge" w=true then abm b a else isIn ["both","loose","drain","either"] w&&j6 (.tuple [a,b]))) s
 cases isS "copy" w with
 |true=>
  walk_at "ev"
  rw [asg ha.it hb.gv];rfl
 | false=>
  walk_at "ev"
  rw [abd "merge" hw.it]
  cases isS "merge" w with
  |true=>
   walk_at "ev"
   rw [asg hb.it ha.gv];rfl
  | false=>
   walk_at "ev"
   rw [az0 ["both","loose","drain","either"] hw.it]
   cases isIn ["both","loose","drain","either"] w with
   |false=> walk_at "ev"
   |true=>
    walk_at "ev"
    rw [a2w,adp (by simp) (fun y hy=> (h.kid (aB _ hy)).it)];rfl
theorem a05(h:Gd (.tuple [w,a,b,x])):vw [.int m,.tup [w,a,b,x]] s=.ok (.bl (yp m (.tuple [w,a,b,x]))) s:=by
 have hw:=(h.kid (x:=w) (by simp))
 have hx:=(h.kid (x:=x) (by simp))
 rw [abb];unfold Bis_flat_part
 walk_at "ev"
 rw [show kn (.tuple [w,a,b,x]) "tuple"=true from rfl]
 walk_at "ev"
 rw [decide_eq_true (show (3:Int) <=((4:Nat):Int) by decide)]
 walk_at "ev"
 rw [decide_eq_true (show ((4:Nat):Int) <=(4:Int) by decide)]
 walk_at "ev"
 rw [zb,decide_eq_true (by decide)]
 walk_at "ev"
 rw [aff,adp (by simp) (fun y hy=> (h.kid (by rcases aq.mp hy with z|z <;> simp_all)).it)]
 show _=R.ok (D.bl (j6 (.tuple [a,b])&&(if isIn ["place","last"] w=true then afu m x else isS "only" w&&afg m x))) s
 cases j6 (.tuple [a,b]) with
 |false=> walk_at "ev"
 | true=>
  walk_at "ev"
  rw [az0 ["place","last"] hw.it]
  cases isIn ["place","last"] w with
  |true=>
   walk_at "ev"
   rw [a5d];rfl
  | false=>
   walk_at "ev"
   rw [abd "only" hw.it]
   cases isS "only" w with
   |false=> walk_at "ev"
   |true=>
    walk_at "ev"
    rw [a3j hx.gv];rfl
theorem a59(h:Gd d):vw [.int m,.da d] s=.ok (.bl (yp m d)) s:=by
 cases d with
 | tuple ds=>
  by_cases h3:ds.length=3
  ·obtain⟨w,a,b,rfl⟩: ∃w a b,ds=[w,a,b]:=by
    match ds,h3 with
    |[w,a,b],_=> exact⟨w,a,b,rfl⟩
   exact azk h
  ·by_cases h4:ds.length=4
   ·obtain⟨w,a,b,x,rfl⟩: ∃w a b x,ds=[w,a,b,x]:=by
     match ds,h4 with
     |[w,a,b,x],_=> exact⟨w,a,b,x,rfl⟩
    exact a05 h
   ·have e:yp m (.tuple ds)=false:=by
     match ds,h3,h4 with
     |[],_,_=> rfl
     |[_],_,_=> rfl
     |[_,_],_,_=> rfl
     |_::_::_::_::_::_,_,_=> rfl
    rw [e,abb];unfold Bis_flat_part
    walk_at "ev"
    rw [show kn (.tuple ds) "tuple"=true from rfl]
    walk_at "ev"
    by_cases h1:3 <=ds.length
    ·rw [decide_eq_true (show (3:Int) <=(ds.length:Int) by lia)]
     walk_at "ev"
     rw [decide_eq_false (show¬(ds.length:Int) <=(4:Int) by lia)]
     walk_at "ev"
    ·rw [decide_eq_false (show¬(3:Int) <=(ds.length:Int) by lia)]
     walk_at "ev"
 |_=> rfl
end
abbrev Fa:=Str×List Nat
noncomputable def pd(p:List Nat):ag:=.tuple (p.map fun i:Nat=> aG (i:Int))
structure Ex {α:Type} (r:R α) (s:S) (f:Fa):Prop where
 ex: ∃(n:Nat) (ρ:En) (s':S),r=.ex n ρ s'/\s'[n]?=some (.xcx "NoNet" [("word",.str f.1),("path",.da (pd f.2))])/\Ext s s'
theorem Ex.bind{α β:Type}{r:R α}{f:Fa}{g:α -> S -> R β}(h:Ex r s f):Ex (r.bind g) s f:=by
 obtain⟨n,ρ,s',rfl,a,b⟩:=h.ex
 exact⟨n,ρ,s',rfl,a,b⟩
theorem Ex.at{α:Type}{r:R α}{f:Fa}(h:Ex r s f):Ex (r.at ρ) s f:=by
 obtain⟨n,ρ',s',rfl,a,b⟩:=h.ex
 exact⟨n,ρ,s',rfl,a,b⟩
abbrev isC(C:Str):Prop:=(xb::xcs).contains C=true
theorem a8i{fs:List (Str×D)}{t:D}(h:s[n]?=some (.exc C fs))(hc:isC C):xv [.ref n,t] s=.ok .non s:=by
 have e:aej xb xcs [.ref n,t] s=.ok .non s:=by
  show (match s[n]? with|some (O.exc C fs)=> (if (xb::xcs).contains C=true then R.ok D.non s else .bad)|_=>.bad)=_
  rw [h]
  exact if_pos hc
 show ((R.bind (aej xb xcs [.ref n,t] s) fun _ s1=> R.ok (Fl.nx [some (.ref n),some t]) s1).bind _)=_
 rw [e]
 rfl
theorem ant{f:Str}{fs:List (Str×D)}{x:D}{fv:FE}(hv:fv ρ s=.ok x s)(ho:fo ρ s=.ok (.ref n) s)(h:s[n]?=some (.exc C fs))(hc:isC C)(hf:xfl.contains f=true)(hl:fs.length < 1000):
  ahs xb xcs xfl f fo fv ρ s=.ok (.nx ρ) (s.set n (.exc C (putN f x fs))):=by
 unfold ahs
 rw [hv,R.bind_ok,ho,R.bind_ok]
 show (match s[n]? with|some (O.exc C fs)=> (if ((xb::xcs).contains C=true/\xfl.contains f=true)/\fs.length < 1000 then R.ok (Fl.nx ρ) (s.set n (.exc C (putN f x fs))) else .bad)|_=>.bad)=_
 rw [h]
 exact if_pos ⟨⟨hc,hf⟩,hl⟩
theorem asq{a b:FS}{ρ':En}(h:a ρ s=.ok (.nx ρ') s1):jf a b ρ s=b ρ' s1:=by
 unfold jf;rw [h];rfl
theorem a56{fs:List (Str×D)}{t:D}{r:En}(h:s[n]?=some (.exc C fs))(hc:isC C):qo (je 2 xv (ja (jb 0) (ja (fC t) jc))) (some (.ref n)::r) s=.ok (.nx (some (.ref n)::r)) s:=by
 show (R.bind ((xv [.ref n,t] s).at _) fun _ s1=> R.ok (Fl.nx (some (.ref n)::r)) s1)=_
 rw [a8i h hc];rfl
theorem az1{d e:D}:vx [.ref s.length,d,e] (s++ [.exc "NoNet" []])=.ok .non (s++ [.exc "NoNet" [("word",d),("path",e)]]):=by
 have hp:putN "path" e (putN "word" d [])=[(("word":Str),d),(("path":Str),e)]:=by
  show (if ("word":Str)="path" then [(("word":Str),e)] else (("word":Str),d)::putN "path" e [])=_
  rw [if_neg (by decide+kernel)];rfl
 rw [a0e];unfold ain
 rw [asq (a56 adg (by decide+kernel)),asq (ant (n:=s.length) (x:=d) rfl rfl adg (by decide+kernel) (by decide+kernel) (by simp)),aip,ant (n:=s.length) (x:=e) rfl rfl adg (by decide+kernel) (by decide+kernel) (by simp [putN]),aip,hp];rfl
theorem zq{w:Str}{fp:FE}(h:fp ρ s=.ok (.da (pd p)) s):Ex ((ye "NoNet" 3 vx (ja (fC (.da (.str w))) (ja fp jc)) ρ s).bind (ahm xb xcs ρ)) s (w,p):=by
 have e1:ja (fC (.da (.str w))) (ja fp jc) ρ s=.ok [.da (.str w),.da (pd p)] s:=by
  show ((fp ρ s).bind fun x s1=> (R.ok [x] s1:R (List D))).bind (fun xs s2=> R.ok (D.da (.str w)::xs) s2)=_
  rw [h];rfl
 have e2:ye "NoNet" 3 vx (ja (fC (.da (.str w))) (ja fp jc)) ρ s=.ok (.ref s.length) (s++ [.exc "NoNet" [("word",.da (.str w)),("path",.da (pd p))]]):=by
  unfold ye
  rw [e1,R.bind_ok,if_pos ⟨rfl,by decide⟩,az1];rfl
 rw [e2,R.bind_ok,as0 adg (by decide+kernel),aip]
 exact⟨_,_,_,rfl,adg,Ext.add _ _⟩
def j9:ag -> Bool
 |.tuple [w,_,q]=> isS "net" w&&j6 q
 |_=> false
noncomputable def xz:ag -> ag
 |.tuple [_,x,_]=> x
 |_=>.none
noncomputable def ar0(m:Int):ag -> Bool
 |.tuple [_,.tuple [.int j,.tuple sn,_],.tuple q]=> decide (j=m)&&decide (sn.length=q.length)
 |_=> false
noncomputable def intD:ag -> Int
 |.int i=> i
 |_=> 0
def xf(F:ag -> List Nat -> Option Fa)(m:Int)(d:ag)(p:List Nat):Option Fa:=
 if j9 d=true then (match F (xz d) p with
  |some f=> some f
  |none=> if ar0 m d=true then none else some ("part",p))
 else if yp m d=true then none else some ("part",p)
def v0(F:ag -> List Nat -> Option Fa)(m:Int)(p:List Nat):List ag -> Nat -> Option Fa
 |[],_=> none
 |d::r,i=> match xf F m d (p++ [i]) with
  |some f=> some f
  |none=> v0 F m p r (i+1)
def agr(F:ag -> List Nat -> Option Fa)(d:ag)(p:List Nat):Option Fa:=match d with
 | .tuple [t,sn,ps]=> if yx t=true then (if aed sn=true then (match ps with
   |.tuple ds=> v0 F (intD t) p ds 0
   |_=> some ("parts",p)) else some ("seen",p)) else some ("things",p)
 |_=> some ("net",p)
def ju:Nat -> ag -> List Nat -> Option Fa
 |0=> fun _ p=> some ("net",p)
 |k+1=> agr (ju k)
def Out(r:R D)(s:S):Option Fa -> Prop
 |none=> r=.ok .non s
 |some f=> Ex r s f
theorem ahz(h:yx d=true): ∃i:Int,d=.int i/\1 <=i/\i <=3:=by
 cases d with
 |int i=>
  simp only [yx,aJ,decide_eq_true_eq]at h
  exact⟨i,rfl,h⟩
 |_=> exact absurd h aw
theorem ax2(h:aed d=true): ∃ds,d=.tuple ds:=by
 cases d with
 |tuple ds=> exact⟨ds,rfl⟩
 |_=> exact absurd h aw
theorem aqi(h:j6 d=true): ∃ds,d=.tuple ds:=by
 cases d with
 |tuple ds=> exact⟨ds,rfl⟩
 |_=> exact absurd h aw
theorem v6(h:j9 d=true): ∃w x q,d=.tuple [w,x,.tuple q]:=by
 unfold j9 at h
 split at h
 ·rename_i w x q
  rw [aJ]at h
  obtain⟨q,rfl⟩:=aqi h.2
  exact⟨w,x,q,rfl⟩
 ·exact absurd h aw
theorem ae8(h:ju k d p=none): ∃(j:Int) (sn ps:List ag),d=.tuple [.int j,.tuple sn,.tuple ps]/\1 <=j/\j <=3:=by
 cases k with
 |zero=> cases h
 | succ k=>
  simp only [ju,agr]at h
  split at h
  ·rename_i t sn ps
   split at h
   ·rename_i ht
    obtain⟨j,rfl,a,b⟩:=ahz ht
    split at h
    ·rename_i hs
     obtain⟨ds,rfl⟩:=ax2 hs
     split at h
     ·exact⟨j,ds,_,rfl,a,b⟩
     ·cases h
    ·cases h
   ·cases h
  ·cases h
theorem axp(h:Gd d):xc [.da d] s=.ok (.bl (j9 d)) s:=by
 rw [afy];unfold Bhas_within_shape
 walk_at "ev"
 cases d with
 | tuple ds=>
  rw [show kn (.tuple ds) "tuple"=true from rfl]
  walk_at "ev"
  rw [aad]
  by_cases h3:ds.length=3
  ·obtain⟨w,x,q,rfl⟩: ∃w a b,ds=[w,a,b]:=by
    match ds,h3 with
    |[w,a,b],_=> exact⟨w,a,b,rfl⟩
   rw [decide_eq_true (show (([w,x,q].length:Nat):Int)=3 from rfl)]
   walk_at "ev"
   rw [abd "net" (h.kid (x:=w) (by simp)).it]
   show _=R.ok (D.bl (isS "net" w&&j6 q)) s
   cases isS "net" w with
   |false=> walk_at "ev"
   |true=>
    walk_at "ev"
    rw [ak1 (h.kid (x:=q) (by simp)).gv];rfl
  ·rw [decide_eq_false (show¬(ds.length:Int)=3 by lia)]
   have e:j9 (.tuple ds)=false:=by
    match ds,h3 with
    |[],_=> rfl
    |[_],_=> rfl
    |[_,_],_=> rfl
    |_::_::_::_::_,_=> rfl
   rw [e]
   walk_at "ev"
 |_=> rfl
theorem a4f{j:Int}{w ps:ag}{sn q:List ag}:aa7 [.int m,.tup [w,.tuple [.int j,.tuple sn,ps],.tuple q]] s=.ok (.bl (ar0 m (.tuple [w,.tuple [.int j,.tuple sn,ps],.tuple q]))) s:=by
 rw [alm];unfold Bfits_within
 walk_at "ev"
 rw [show∀ρ s,axc (.t3 (.nm 2) (.nm 3) (.nm 4)) [some (.int m),some ρ,none,none,none] (.da (.tuple [.int j,.tuple sn,ps])) s=.ok (.nx [some (.int m),some ρ,some (.int j),some (.da (.tuple sn)),some (.da ps)]) s from fun _ _=> rfl]
 walk_at "ev"
 rw [zw]
 show _=R.ok (D.bl (decide (j=m)&&decide (sn.length=q.length))) s
 cases decide (j=m) with
 |false=> walk_at "ev"
 |true=>
  walk_at "ev"
  rw [zw]
  walk_at "ev"
  have e:((sn.length:Int)=(q.length:Int))=(sn.length=q.length):=propext (by lia)
  congr 3
structure NetOk (k:Nat) (F:FF):Prop where
 ok: ∀(d:ag) (p:List Nat) (s:S),Gd d -> k+p.length=4 -> Out (F [.da d,.da (pd p)] s) s (ju k d p)
structure PartOk (k:Nat) (F:FF):Prop where
 ok: ∀(m:Int) (d:ag) (p:List Nat) (s:S),Gd d -> k+p.length=4 -> Out (F [.int m,.da d,.da (pd p)] s) s (xf (ju k) m d p)
theorem akt:Out (((jp (jw (j3 (jb 3))) (zy xb xcs (ye "NoNet" 3 vx (ja (fC (.da (.str "part"))) (ja (jb 2) jc)))) jk) [some (.int m),some (.da d),some (.da (pd p)),some (.bl b)] s).bind jq) s (if b=true then none else some ("part",p)):=by
 cases b with
 |true=>
  show _=_
  walk_at "ev"
 |false=>
  show Ex _ _ _
  walk_at "ev"
  exact Ex.bind (zq rfl)
theorem avv{F G:FF}(hF:NetOk k F):PartOk k (fun as s=> (y6 F G (as.map some++ [none]) s).bind jq):=by
 refine⟨fun m d p s gd hk=> ?_⟩
 simp only [aL,dO,cD,cB]
 unfold y6
 unfold xf
 walk_at "ev"
 rw [axp gd]
 cases hw:j9 d with
 |false=>
  walk_at "ev"
  rw [a59 gd]
  rw [R.at_ok,R.bind_ok']
  exact akt (b:=yp m d)
 | true=>
  obtain⟨w,x,q,rfl⟩:=v6 hw
  rw [show xz (.tuple [w,x,.tuple q])=x from rfl]
  have h:=hF.ok x p s (gd.kid (by simp)) hk
  cases hf:ju k x p with
  |some f=>
   rw [hf]at h
   walk_at "ev"
   show Ex _ _ _
   repeat (first|exact h|apply Ex.bind|apply Ex.at)
  |none=>
   rw [hf]at h
   have h:F [.da x,.da (pd p)] s=.ok .non s:=h
   obtain⟨j,sn,ps,rfl,_⟩:=ae8 hf
   walk_at "ev"
   rw [h]
   walk_at "ev"
   rw [a4f]
   rw [R.at_ok,R.bind_ok']
   exact akt (b:=ar0 m _)
theorem aiz{i:Nat}(h:p.length <=1000):jr false (.da (pd p)) (.tup [.int (i:Int)]) s=.ok (.da (pd (p++ [i]))) s:=by
 unfold pd
 rw [show (D.da (.tuple (p.map fun i:Nat=> aG (i:Int))))=D.tup (p.map fun i:Nat=> aG (i:Int)) from rfl,qz (by simp;lia),kZ]
 rfl
theorem asy:jv [.da (pd p)] s=.ok (.int p.length) s:=by
 unfold pd
 rw [show (D.da (.tuple (p.map fun i:Nat=> aG (i:Int))))=D.tup (p.map fun i:Nat=> aG (i:Int)) from rfl,a0u,am]
theorem a0f{k:Int}:akr k [.tup xs] s=.ok (enD k xs,none) s:=(rfl)
def aq4(r:R Fl)(s:S):Option Fa -> Prop
 |none=> ∃ρ,r=.ok (.nx ρ) s
 |some f=> Ex r s f
theorem aq4.body{r:R Fl}{o:Option Fa}(h:aq4 r s o):Out (r.bind jq) s o:=by
 cases o with
 |none=>
  obtain⟨ρ,rfl⟩:=h
  rfl
 |some f=> exact Ex.bind h
def cnB(G:FF):FS:=qo (je 3 G (ja (jb 2) (ja (jb 6) (ja (fOp (jr false) (jb 1) (jd (ja (jb 5) jc))) jc))))
theorem al0{k:Nat}{G:FF}{m:Int}{p:List Nat}{a sn ps:D}{all:List D}{s:S}(hG:PartOk k G)(hk:k+1+p.length=4): ∀(ds:List ag) (i:Nat) (u v:Option D),(∀x∈ds,Gd x) ->
  aq4 (qv (.t2 (.nm 5) (.nm 6)) (cnB G) (all,none) (enD (i:Int) ds) [some a,some (.da (pd p)),some (.int m),some sn,some ps,u,v] s) s (v0 (ju k) m p ds i)
 |[],i,u,v,_=> ⟨_,rfl⟩
 | d::r,i,u,v,hd=> by
  rw [show enD (i:Int) (d::r)=.tup [.int i,d]::enD ((i:Int)+1) r from rfl,show ((i:Int)+1)=((i+1:Nat):Int) by lia]
  rw [ab9 (ρ1:=[some a,some (.da (pd p)),some (.int m),some sn,some ps,some (.int i),some (.da d)]) rfl]
  have h:=hG.ok m d (p++ [i]) s (hd d aD) (by rw [bq];simp;lia)
  have ih:=fun u v=> al0 hG hk (m:=m) (a:=a) (sn:=sn) (ps:=ps) (all:=all) (s:=s) r (i+1) u v fun x hx=> hd x (aB _ hx)
  show aq4 _ _ (match xf (ju k) m d (p++ [i]) with|some f=> some f|none=> v0 (ju k) m p r (i+1))
  unfold cnB
  walk_at "ev"
  rw [aiz (by lia)]
  walk_at "ev"
  cases hf:xf (ju k) m d (p++ [i]) with
  |some f=>
   rw [hf]at h
   show Ex _ _ _
   repeat (first|exact h|apply Ex.bind|apply Ex.at)
  |none=>
   rw [hf]at h
   rw [show G [.int m,.da d,.da (pd (p++ [i]))] s=.ok .non s from h]
   walk_at "ev"
   exact ih _ _
theorem a2s{A B u v w x y:Option D}{b m e:ag}:axc (.t3 (.nm 2) (.nm 3) (.nm 4)) [A,B,u,v,w,x,y] (.tup [b,m,e]) s=.ok (.nx [A,B,some (.da b),some (.da m),some (.da e),x,y]) s:=rfl
theorem afi(h:ds.length=3): ∃a b c,ds=[a,b,c]:=by
 match ds,h with
 |[a,b,c],_=> exact⟨a,b,c,rfl⟩
theorem aje{F:ag -> List Nat -> Option Fa}(h:ds.length≠3):agr F (.tuple ds) p=some (("net":Str),p):=by
 match ds,h with
 |[],_=> rfl
 |[_],_=> rfl
 |[_,_],_=> rfl
 |[_,_,_],h=> exact absurd rfl h
 |_::_::_::_::_,_=> rfl
abbrev cnR(F G:FF):FF:=fun as s=> (yy F G (as.map some++ [none,none,none,none,none]) s).bind jq
theorem aom{F G:FF}(h: ∀a b c,d≠ .tuple [a,b,c]):Ex (cnR F G [.da d,.da (pd p)] s) s ("net",p):=by
 unfold cnR
 simp only [aL,dO,cD,cB]
 unfold yy
 walk_at "ev"
 cases hd:kn d "tuple" with
 |false=>
  walk_at "ev"
  exact Ex.bind (Ex.bind (zq rfl))
 | true=>
  cases d with
  | tuple ds=>
   walk_at "ev"
   rw [aad,decide_eq_false (show¬(ds.length:Int)=3 from fun z=> by
    obtain⟨a,b,c,rfl⟩:=afi (ds:=ds) (by lia)
    exact h a b c rfl)]
   walk_at "ev"
   exact Ex.bind (Ex.bind (zq rfl))
  |_=> cases hd
theorem awf{F G:FF}:NetOk 0 (cnR F G):=by
 refine⟨fun d p s gd hk=> ?_⟩
 show Ex _ _ ("net",p)
 by_cases h: ∃a b c,d=.tuple [a,b,c]
 ·obtain⟨a,b,c,rfl⟩:=h
  unfold cnR
  simp only [aL,dO,cD,cB]
  unfold yy
  walk_at "ev"
  rw [show kn (.tuple [a,b,c]) "tuple"=true from rfl]
  walk_at "ev"
  rw [aad,decide_eq_true (show ((3:Nat):Int)=3 from rfl)]
  walk_at "ev"
  rw [asy]
  walk_at "ev"
  rw [decide_eq_true (show (4:Int) <=(p.length:Int) by lia)]
  walk_at "ev"
  exact Ex.bind (Ex.bind (zq rfl))
 ·exact aom fun a b c e=> h ⟨a,b,c,e⟩
theorem azl{F G:FF}(hG:PartOk k G):NetOk (k+1) (cnR F G):=by
 refine⟨fun d p s gd hk=> ?_⟩
 by_cases h: ∃a b c,d=.tuple [a,b,c]
 ·obtain⟨t,sn,ps,rfl⟩:=h
  have g1:=gd.kid (x:=sn) (by simp)
  have g2:=gd.kid (x:=ps) (by simp)
  show Out _ _ (if yx t=true then (if aed sn=true then (match (generalizing:=false) ps with
   |.tuple ds=> v0 (ju k) (intD t) p ds 0
   |_=> some ("parts",p)) else some ("seen",p)) else some ("things",p))
  unfold cnR
  simp only [aL,dO,cD,cB]
  unfold yy
  walk_at "ev"
  rw [show kn (.tuple [t,sn,ps]) "tuple"=true from rfl]
  walk_at "ev"
  rw [aad,decide_eq_true (show ((3:Nat):Int)=3 from rfl)]
  walk_at "ev"
  rw [asy]
  walk_at "ev"
  rw [decide_eq_false (show¬(4:Int) <=(p.length:Int) by lia)]
  walk_at "ev"
  rw [a2s]
  walk_at "ev"
  rw [aw7]
  cases ht:yx t with
  |false=>
   walk_at "ev"
   exact Ex.bind (Ex.bind (zq rfl))
  | true=>
   obtain⟨j,rfl,_,_⟩:=ahz ht
   walk_at "ev"
   rw [a3p g1.gv]
   cases hs:aed sn with
   |false=>
    walk_at "ev"
    exact Ex.bind (Ex.bind (zq rfl))
   | true=>
    walk_at "ev"
    cases ps with
    |tuple ds=>
     rw [show kn (.tuple ds) "tuple"=true from rfl]
     walk_at "ev"
     rw [a0f]
     walk_at "ev"
     exact (al0 hG (by lia) ds 0 _ _ fun x hx=> g2.kid hx).body
    |_=> exact Ex.bind (Ex.bind (zq rfl))
 ·have e:ju (k+1) d p=some (("net":Str),p):=by
   show agr (ju k) d p=_
   cases d with
   |tuple ds=> exact aje fun z=> h (by obtain⟨a,b,c,rfl⟩:=afi z;exact⟨a,b,c,rfl⟩)
   |_=> rfl
  rw [e]
  exact aom fun a b c e=> h ⟨a,b,c,e⟩
theorem NetOk.of{F F':FF}(h:NetOk k F')(e: ∀a b s,F [a,b] s=F' [a,b] s):NetOk k F:=⟨fun d p s g hk=> by rw [e];exact h.ok d p s g hk⟩
theorem PartOk.of{F F':FF}(h:PartOk k F')(e: ∀a b c s,F [a,b,c] s=F' [a,b,c] s):PartOk k F:=⟨fun m d p s g hk=> by rw [e];exact h.ok m d p s g hk⟩
theorem a2q{f:Nat}(a b:D)(s:S):ke (f+1) [a,b] s=cnR (ke f) (km f) [a,b] s:=arb
theorem a8n{f:Nat}(a b c:D)(s:S):km (f+1) [a,b,c] s=(fun as s=> (y6 (ke f) (km f) (as.map some++ [none]) s).bind jq:FF) [a,b,c] s:=an9
theorem aj9: ∀k f:Nat,2*k+1 <=f -> NetOk k (ke f)
 |0,f+1,_=> (awf (F:=ke f) (G:=km f)).of a2q
 |k+1,f+2,h=> (azl (F:=ke (f+1)) (G:=km (f+1)) ((avv (G:=km f) (aj9 k f (by lia))).of a8n)).of a2q
theorem a04(h:Gd d):Out (ke 10 [.da d,.tup []] s) s (ju 4 d []):=(aj9 4 10 (by decide)).ok d [] s h rfl
def axo(F:ag -> Nat):ag -> Nat
 |.tuple [_,_,.tuple ps]=> ps.length+(ps.map fun d=> if j9 d=true then F (xz d) else 0).sum
 |_=> 0
def kd:Nat -> ag -> Nat
 |0=> fun _=> 0
 |k+1=> axo (kd k)
theorem arm(h:yp m d=true): ∃w r,d=.tuple (w::r)/\isS "net" w=false:=by
 have key: ∀w:ag,isS "net" w=true -> isS "copy" w=false/\isS "merge" w=false/\isIn ["both","loose","drain","either"] w=false/\isIn ["place","last"] w=false/\isS "only" w=false:=by
  intro w hw
  cases w with
  |str x=>
   simp only [isS,decide_eq_true_eq]at hw
   subst hw
   decide+kernel
  |_=> exact absurd hw aw
 unfold yp at h
 split at h
 ·rename_i w a b
  refine⟨w,[a,b],rfl,?_⟩
  cases q:isS "net" w with
  |false=> rfl
  |true=>
   obtain⟨a1,a2,a3,a4,a5⟩:=key w q
   simp [a1,a2,a3]at h
 ·rename_i w a b x
  refine⟨w,[a,b,x],rfl,?_⟩
  cases q:isS "net" w with
  |false=> rfl
  |true=>
   obtain⟨a1,a2,a3,a4,a5⟩:=key w q
   simp [a4,a5]at h
 ·exact absurd h aw
theorem ak4{F:ag -> List Nat -> Option Fa}(h:xf F m d p=none): ∃w r,d=.tuple (w::r)/\isS "net" w=j9 d:=by
 unfold xf at h
 cases hw:j9 d with
 |true=>
  obtain⟨w,x,q,rfl⟩:=v6 hw
  have:(isS "net" w&&j6 (.tuple q))=true:=hw
  rw [aJ]at this
  exact⟨w,_,rfl,this.1⟩
 | false=>
  rw [hw,if_neg aw]at h
  split at h
  ·rename_i hf
   obtain⟨w,r,rfl,e⟩:=arm hf
   exact⟨w,r,rfl,e⟩
  ·cases h
theorem ame{F:ag -> List Nat -> Option Fa}(h:xf F m d p=none)(hw:j9 d=true):F (xz d) p=none:=by
 unfold xf at h
 rw [if_pos hw]at h
 split at h
 ·cases h
 ·assumption
theorem ahj{F:ag -> List Nat -> Option Fa}{m:Int}{p:List Nat}: ∀{ds:List ag} {i:Nat},v0 F m p ds i=none -> ∀x∈ds,∃q,xf F m x q=none
 |[],_,_,x,hx=> by cases hx
 | d::r,i,h,x,hx=> by
  simp only [v0]at h
  split at h
  ·cases h
  ·rename_i e
   rcases aq.mp hx with z|z
   ·subst z;exact⟨_,e⟩
   ·exact ahj h x z
theorem ag2(h:ju (k+1) d p=none): ∃(j:Int) (sn ps:List ag),d=.tuple [.int j,.tuple sn,.tuple ps]/\ ∀x∈ps,∃q,xf (ju k) j x q=none:=by
 obtain⟨j,sn,ps,rfl,_⟩:=ae8 h
 refine⟨j,sn,ps,rfl,?_⟩
 simp only [ju,agr]at h
 split at h
 ·split at h
  ·exact ahj h
  ·cases h
 ·cases h
def ctB(F:FF):FS:=jp (jj (fOp gEq (fOp gIx (jb 2) (fC (.da (.int 0)))) (fC (.da (.str "net"))))) (agi 1 (je 1 F (ja (fOp gIx (jb 2) (fC (.da (.int 1)))) jc))) jk
theorem al7{F:FF}{C:ag -> Nat}{d:D}{all:List D}{s:S}: ∀(ds:List ag) (n:Nat) (u:Option D),(∀x∈ds,Gd x/\(∃w r,x=.tuple (w::r)/\isS "net" w=j9 x)/\(j9 x=true -> F [.da (xz x)] s=.ok (.int (C (xz x))) s)) ->
  ∃u',qv (.nm 2) (ctB F) (all,none) (ds.map D.da) [some d,some (.int n),u] s=.ok (.nx [some d,some (.int ((n+(ds.map fun x=> if j9 x=true then C (xz x) else 0).sum:Nat):Int)),u']) s
 |[],n,u,_=> ⟨u,rfl⟩
 | x::r,n,u,h=> by
  obtain⟨g,⟨w,q,rfl,hw⟩,hF⟩:=h x aD
  have ih:=fun n u=> al7 (F:=F) (C:=C) (d:=d) (all:=all) (s:=s) r n u fun y hy=> h y (aB _ hy)
  rw [aL,ab9 (ρ1:=[some d,some (.int n),some (.da (.tuple (w::q)))]) rfl]
  have gw:=g.kid (x:=w) aD
  (rw [aL,d7])
  unfold ctB
  walk_at "ev"
  rw [abd "net" gw.it,hw]
  cases hb:j9 (.tuple (w::q)) with
  |false=>
   walk_at "ev"
   obtain⟨u',e⟩:=ih n (some (.da (.tuple (w::q))))
   exact⟨u',e⟩
  |true=>
   obtain⟨w',y,z,e0⟩:=v6 hb
   cases e0
   have hF:=hF hb
   rw [show xz (.tuple [w,y,.tuple z])=y from rfl]at hF⊢
   walk_at "ev"
   rw [a2g (x:=(n:Int)) rfl]
   walk_at "ev"
   rw [hF]
   walk_at "ev"
   obtain⟨u',e⟩:=ih (n+C y) (some (.da (.tuple [w,y,.tuple z])))
   refine⟨u',?_⟩
   rw [show ((n:Int)+(C y:Int))=((n+C y:Nat):Int) by lia]
   rw [gM]at e
   exact e
theorem v_count: ∀(k f:Nat) (d:ag) (p:List Nat) (s:S),k <=f -> Gd d -> ju k d p=none -> kr f [.da d] s=.ok (.int (kd k d)) s
 |0,_,d,p,_,_,_,h=> by cases h
 | k+1,f+1,d,p,s,hf,gd,h=> by
  obtain⟨j,sn,ps,rfl,hp⟩:=ag2 h
  rw [akd];unfold zd
  walk_at "ev"
  have gp:=gd.kid (x:=.tuple ps) (by simp)
  obtain⟨u',e⟩:=al7 (F:=kr f) (C:=kd k) (d:=.tup [.int j,.tuple sn,.tuple ps]) (all:=ps.map D.da) (s:=s) ps ps.length none fun x hx=> by
   obtain⟨q,e⟩:=hp x hx
   have gx:=gp.kid hx
   refine⟨gx,ak4 e,fun hw=> ?_⟩
   obtain⟨w,y,z,rfl⟩:=v6 hw
   exact v_count k f y q s (by lia) (gx.kid (by simp)) (ame e hw)
  rw [show (jp (jj (fOp gEq (fOp gIx (jb 2) (fC (.da (.int 0)))) (fC (.da (.str "net"))))) (agi 1 (je 1 (kr f) (ja (fOp gIx (jb 2) (fC (.da (.int 1)))) jc))) jk)=ctB (kr f) from rfl,e]
  walk_at "ev"
  rfl
def aqp(d:ag):Bool:=(ju 4 d []).isNone&&decide (kd 4 d <=120)
def aqd(r:R D)(s:S)(d:ag):Prop:=match ju 4 d []with
 |some f=> Ex r s f
 |none=> if kd 4 d <=120 then r=.ok (.bl true) s else Ex r s ("many",[])
theorem aov(h:Gd d):aqd (kc [.da d] s) s d:=by
 have hc:=a04 (s:=s) h
 rw [ar8];unfold Bright_net
 unfold aqd
 walk_at "ev"
 cases hf:ju 4 d []with
 |some f=>
  rw [hf]at hc
  show Ex _ _ _
  repeat (first|exact hc|apply Ex.bind|apply Ex.at)
 | none=>
  rw [hf]at hc
  rw [show ke 10 [.da d,.tup []] s=.ok .non s from hc]
  walk_at "ev"
  rw [v_count 4 8 d [] s (by decide) h hf]
  walk_at "ev"
  show if kd 4 d <=120 then _ else _
  by_cases h1:kd 4 d <=120
  ·rw [if_pos h1,decide_eq_false (show¬(120:Int) < (kd 4 d:Int) by lia)]
   walk_at "ev"
  ·rw [if_neg h1,decide_eq_true (show (120:Int) < (kd 4 d:Int) by lia)]
   walk_at "ev"
   exact Ex.bind (Ex.bind (zq rfl))
theorem a2o(h:kc [.da d] s=.ok (.bl true) s):aan [.da d] s=.ok (.bl true) s:=by
 rw [apd];unfold Bis_net
 have e:ji (je 1 kc (ja (jb 0) jc)) [some (.da d)] s=.ok (.rt (.bl true)) s:=by
  walk_at "ev"
  rw [h]
  walk_at "ev"
 rw [arj e];rfl
theorem au8{f:Fa}(h:Ex (kc [.da d] s) s f): ∃s',aan [.da d] s=.ok (.bl false) s'/\Ext s s':=by
 rw [apd];unfold Bis_net
 have e:Ex (ji (je 1 kc (ja (jb 0) jc)) [some (.da d)] s) s f:=by
  walk_at "ev"
  repeat (first|exact h|apply Ex.bind|apply Ex.at)
 obtain⟨n,ρ,s',e,a,b⟩:=e.ex
 refine⟨s',?_,b⟩
 rw [as8 e,awv a (by decide+kernel) (by decide+kernel)]
 rfl
theorem a71(h:Gd d): ∃s',aan [.da d] s=.ok (.bl (aqp d)) s'/\Ext s s':=by
 have hr:=aov (s:=s) h
 unfold aqd at hr
 unfold aqp
 cases hf:ju 4 d []with
 |some f=>
  rw [hf]at hr
  exact au8 hr
 | none=>
  rw [hf]at hr
  have hr:if kd 4 d <=120 then kc [.da d] s=.ok (.bl true) s else Ex (kc [.da d] s) s ("many",[]):=hr
  by_cases h1:kd 4 d <=120
  ·rw [if_pos h1]at hr
   rw [decide_eq_true h1]
   exact⟨s,a2o hr,Ext.refl _⟩
  ·rw [if_neg h1]at hr
   rw [decide_eq_false h1]
   exact au8 hr
theorem aok(h:okD (.list xs)=true):gEq (.lst xs) (.lst []) s=.ok (.bl xs.isEmpty) s:=by rw [adf h rfl,aj2]
theorem anz(h:okD (.list xs)=true):gNe (.lst xs) (.lst []) s=.ok (.bl (!xs.isEmpty)) s:=by rw [aby h rfl,aj2]
theorem adu{α:Type}(p:α -> Bool)(xs:List α):(xs.filter fun x=> !p x).isEmpty=xs.all p:=by
 induction xs with
 |nil=> rfl
 |cons x r ih=>
  cases h:p x with
  |true=> rw [eP (by simp [h]),ih,dm,h,i8]
  |false=> rw [eQ (by simp [h]),dm,h];rfl
theorem ane{α β:Type}(f:α -> β)(l:List α):(l.map f).isEmpty=l.isEmpty:=by cases l <;> rfl
theorem a3d(h: ∀x,d=.str x -> asc x=true/\x.length <=100000):zc [.da d] s=.ok (.bl (qj d)) s:=by
 rw [ake];unfold B_law_is_port
 walk_at "ev"
 cases d with
 | str x=>
  obtain⟨ha,hl⟩:=h x rfl
  rw [show kn (.str x) "str"=true from rfl]
  walk_at "ev"
  rw [len_str (by lia)]
  walk_at "ev"
  show _=R.ok (D.bl (afm x)) s
  unfold afm
  by_cases h1:1 <=x.length
  ·rw [decide_eq_true (show (0:Int) < (x.length:Int) by lia),decide_eq_true h1]
   walk_at "ev"
   by_cases h2:x.length <=8
   ·rw [decide_eq_true (show (x.length:Int) < 9 by lia),decide_eq_true h2]
    walk_at "ev"
    rw [ayo]
    walk_at "ev"
    rw [ao9 (afw ha)]
    walk_at "ev"
    rw [ajs,zf (ρ0:=[none,some (.str "abcdefghijklmnopqrstuvwxyz")]) (by rw [am,aM];show x.length <=_;lia) rfl]
    rw [afr (fun c:Nat=> D.str ⟨#[c]⟩) (fun c=> !ai1 c) (fun c=> aI ⟨#[c]⟩) x.cps.toList (fun c hc=> ⟨[some (.str ⟨#[c]⟩),some (.str "abcdefghijklmnopqrstuvwxyz")],rfl,by
     walk_at "ev"
     rw [show∀s:S,ac3 (.str ⟨#[c]⟩) (.str (bJ "abcdefghijklmnopqrstuvwxyz")) s=.ok (.bl (!amq (bJ "abcdefghijklmnopqrstuvwxyz") ⟨#[c]⟩)) s from fun s=> rfl,amo (afw ha) c hc];rfl,fun _=> by
     walk_at "ev"⟩)]
    walk_at "ev"
    rw [aok (afj (by
     intro y hy
     obtain⟨c,hc,rfl⟩:=bj.mp hy
     have hc':=(bS.mp hc).1
     unfold asc at ha
     rw [aT]at ha
     have l:=Lf.str (n:=0) (x:=⟨#[c]⟩) (by
      show ([c].all fun c=> decide (9 <=c)&&decide (c < 127))=true
      rw [dm,ha c hc'];rfl) (by show 1 <=_;decide)
     exact Gd.it ⟨l.mono (by decide),by simp [aE],by simp only [aW];show 1 <=340000;decide⟩)),ane,adu]
    rfl
   ·rw [decide_eq_false (show¬(x.length:Int) < 9 by lia),decide_eq_false h2]
    walk_at "ev"
  ·rw [decide_eq_false (show¬(0:Int) < (x.length:Int) by lia),decide_eq_false h1]
   walk_at "ev"
 |_=> rfl
theorem anj:vp [.da d] s=.ok (.bl (vz d)) s:=by
 rw [aj0];unfold B_law_is_whole
 walk_at "ev"
 cases d <;> simp only [kn] <;> rfl
theorem aam(hl:ds.length <=1000)(hx: ∀x∈ds,It x):kg [.tup ds] s=.ok (.bl (j6 (.tuple ds))) s:=by
 rw [aha];unfold B_law_are_ports
 walk_at "ev"
 rw [show kn (.tuple ds) "tuple"=true from rfl]
 walk_at "ev"
 rw [zf (ρ0:=[none]) (by rw [am];lia) rfl]
 rw [yo (fun x=> !qj x) (fun x=> D.da x) ds (fun x hm=> by
  walk_at "ev"
  rw [a3d (hx x hm).s];rfl) (fun x hm _=> by
  walk_at "ev")]
 walk_at "ev"
 rw [anz (afj fun x hm=> hx x (bS.mp hm).1),adu]
 show _=R.ok (D.bl (ds.all qj&&zn ds)) s
 cases hp:ds.all qj with
 |false=> walk_at "ev"
 |true=>
  walk_at "ev"
  obtain⟨ss,rfl,hs⟩:=ab5 hp
  rw [am]at hl
  rw [ah2 (by lia)]
  walk_at "ev"
  rw [zw]
  walk_at "ev"
  unfold zn
  rw [zu]
  have e:(((jm ss).length:Int)=((ss.map aI).length:Int))=((jm ss).length=(ss.map aI).length):=propext (by lia)
  congr 3
theorem al3(h:Gv d):kg [.da d] s=.ok (.bl (j6 d)) s:=by
 cases d with
 |tuple ds=> exact aam (h.t ds rfl).1 (h.t ds rfl).2
 |_=> rfl
theorem aoh: ∀is:List Int,zg (is.map aG)=decide (is.Pairwise (· < ·))
 |[]=> by simp [zg]
 |[_]=> by simp [zg]
 | i::j::r=> by
  have ih:=aoh (j::r)
  show (ltb (.int i) (.int j)&&zg ((j::r).map aG))=_
  have e:ltb (.int i) (.int j)=decide (i < j):=by
   unfold ltb
   rw [aik]
   by_cases z:i < j
   ·rw [decide_eq_true z]
   ·rw [decide_eq_false z]
  rw [ih,e,a9,aJ,decide_eq_true_eq,decide_eq_true_eq,decide_eq_true_eq]
  constructor
  ·rintro⟨h1,h2⟩
   refine dS.mpr ⟨fun x hx=> ?_,h2⟩
   rcases aq.mp hx with z|z
   ·subst z;exact h1
   ·have:=(dS.mp h2).1 x z;lia
  ·intro h
   have:=dS.mp h
   exact⟨this.1 j aD,this.2⟩
theorem ajd: ∀is:List Int,aca ((is.map aG).map D.da)=some is
 |[]=> rfl
 |i::r=> by
  show (match aca ((r.map aG).map D.da) with|some xs=> some (i::xs)|none=> none)=_
  rw [ajd r]
theorem ajo: ∀a b:List Int,c9 (a.map aG) (b.map aG)=decide (a=b)
 |[],[]=> rfl
 |[],_::_=> rfl
 |_::_,[]=> rfl
 |i::a,j::b=> by
  show (aQ (.int i) (.int j)&&c9 (a.map aG) (b.map aG))=_
  rw [ajo a b,ad4,a9,aJ,decide_eq_true_eq,decide_eq_true_eq,decide_eq_true_eq,eU]
theorem ath{a b:List Int}:gEq (.lst (a.map aG)) (.lst (b.map aG)) s=.ok (.bl (decide (a=b))) s:=by
 rw [adf (ago a) (ago b)]
 rw [show aQ (.list (a.map aG)) (.list (b.map aG))=c9 (a.map aG) (b.map aG) from rfl,ajo]
theorem atp{is:List Int}(h:is.length < 64):acd false [.tup (is.map aG)] s=.ok (.lst ((z3 (jm is)).map aG)) s:=by
 have hu:=(aa2 is).2.2
 show (match aca ((is.map aG).map D.da) with|some is=> if is.length < 4000/\(jm is).length < 64 then vq false ((z3 (jm is)).map D.int) s else .bad|none=>.bad)=_
 rw [ajd]
 show (if is.length < 4000/\(jm is).length < 64 then vq false ((z3 (jm is)).map D.int) s else .bad)=_
 rw [if_pos ⟨by lia,by lia⟩]
 rw [show (z3 (jm is)).map D.int=((z3 (jm is)).map aG).map D.da by rw [dC];rfl]
 unfold vq
 rw [if_neg aw,vc]
theorem avx{is:List Int}:(is=z3 (jm is)) ↔ is.Pairwise (· < ·):=by
 constructor
 ·intro e
  rw [e]
  have h1:=ajv (jm is)
  have h2:(z3 (jm is)).Nodup:=(ak7 _).nodup_iff.mpr (aa2 is).1
  exact (h1.and h2).imp fun {a b} h=> by have:=h.1;have:=h.2;lia
 ·intro h
  have nd:is.Nodup:=h.imp fun {a b} h=> by lia
  rw [ahp nd]
  exact ao6 (gZ.refl _) (h.imp fun {a b} h=> by lia)
theorem arx(hl:ds.length <=1000)(hx: ∀x∈ds,It x)(hw:(ds.filter vz).length < 64):xh [.int m,.tup ds] s=.ok (.bl (afg m (.tuple ds))) s:=by
 rw [aiq];unfold B_law_are_told
 walk_at "ev"
 rw [show kn (.tuple ds) "tuple"=true from rfl]
 walk_at "ev"
 rw [zf (ρ0:=[none]) (by rw [am];lia) rfl]
 rw [yo (fun x=> !vz x) (fun x=> D.da x) ds (fun x hm=> by
  walk_at "ev"
  rw [anj];rfl) (fun x hm _=> by
  walk_at "ev")]
 walk_at "ev"
 rw [anz (afj fun x hm=> hx x (bS.mp hm).1),adu]
 show _=R.ok (D.bl (ds.all (qx m)&&zg ds)) s
 cases hp:ds.all vz with
 | false=>
  have e:ds.all (qx m)=false:=by
   cases q:ds.all (qx m) with
   |false=> rfl
   |true=>
    rw [←hp,aT.mpr]
    intro x hx
    exact ag9 (aT.mp q x hx)
  rw [e]
  walk_at "ev"
 | true=>
  obtain⟨is,rfl⟩:=aeo hp
  rw [eL.mpr (fun x hx=> aT.mp hp x hx),am]at hw
  walk_at "ev"
  rw [atp hw]
  walk_at "ev"
  rw [ath,aoh,show decide (is=z3 (jm is))=decide (is.Pairwise (· < ·)) from by
   rw [a9,decide_eq_true_eq,decide_eq_true_eq];exact avx]
  cases decide (is.Pairwise (· < ·)) with
  |false=>
   rw [eC]
   walk_at "ev"
  | true=>
   rw [Bool.and_true]
   walk_at "ev"
   rw [zf (ρ0:=[none,some (.int m)]) (by rw [am];lia) rfl]
   rw [yo (fun x=> !qx m x) (fun x=> D.da x) (is.map aG) (fun x hm=> by
    obtain⟨i,_,rfl⟩:=bj.mp hm
    walk_at "ev"
    show _=R.ok (!(decide (0 <=i)&&decide (i < m))) s
    cases decide (0 <=i) with
    |false=> walk_at "ev"
    |true=> walk_at "ev") (fun x hm _=> by
    walk_at "ev")]
   walk_at "ev"
   rw [aok (afj fun x hm=> hx x (bS.mp hm).1),adu]
   rfl
theorem ary:apf [.bl b] s=.ok (.int (if b=true then 1 else 0)) s:=rfl
def wc(w:ag):List Bool:=[isS "copy" w,isS "merge" w,isIn ["copy","merge"] w,isIn ["both","loose","drain","either"] w,isIn ["place","last"] w,isS "only" w]
theorem alv(w:ag):wc w=[true,false,true,false,false,false]\/wc w=[false,true,true,false,false,false]\/wc w=[false,false,false,true,false,false]\/wc w=[false,false,false,false,true,false]\/wc w=[false,false,false,false,false,true]\/wc w=[false,false,false,false,false,false]:=by
 cases w with
 | str x=>
  by_cases h1:x="copy"
  ·subst h1;left;decide+kernel
  by_cases h2:x="merge"
  ·subst h2;right;left;decide+kernel
  by_cases h3:x∈(["both","loose","drain","either"]:List Str)
  ·right;right;left
   have: ∀x∈(["both","loose","drain","either"]:List Str),wc (.str x)=[false,false,false,true,false,false]:=by decide+kernel
   exact this x h3
  by_cases h4:x∈(["place","last"]:List Str)
  ·right;right;right;left
   have: ∀x∈(["place","last"]:List Str),wc (.str x)=[false,false,false,false,true,false]:=by decide+kernel
   exact this x h4
  by_cases h5:x="only"
  ·subst h5;right;right;right;right;left;decide+kernel
  right;right;right;right;right
  have h6: ¬x∈(["copy","merge"]:List Str):=by
   intro z
   rcases aq.mp z with z|z
   ·exact h1 z
   ·exact h2 (aO.mp z)
  show [decide (x="copy"),decide (x="merge"),decide (x∈(["copy","merge"]:List Str)),decide (x∈(["both","loose","drain","either"]:List Str)),decide (x∈(["place","last"]:List Str)),decide (x="only")]=_
  rw [decide_eq_false h1,decide_eq_false h2,decide_eq_false h3,decide_eq_false h4,decide_eq_false h5,decide_eq_false h6]
 |_=> right;right;right;right;right;rfl
theorem ai2{w:ag}{a c d e f:Bool}(h:wc w=[a,b,c,d,e,f]):isS "copy" w=a/\isS "merge" w=b/\isIn ["copy","merge"] w=c/\isIn ["both","loose","drain","either"] w=d/\isIn ["place","last"] w=e/\isS "only" w=f:=by
 unfold wc at h
 simp only [eU,and_true]at h
 exact h
theorem aqy{es:List ag}(h:ds.Perm es):(ah1 ds).Perm (ah1 es):=h.filterMap _
theorem anq:((jm ss).length=ss.length) ↔ ss.Nodup:=⟨avd,fun h=> by rw [ahp h]⟩
theorem ana{es:List ag}(h:ds.Perm es):j6 (.tuple ds)=j6 (.tuple es):=by
 show (ds.all qj&&zn ds)=(es.all qj&&zn es)
 have e:ds.all qj=es.all qj:=by
  (rw [a9,aT,aT])
  exact⟨fun q x hx=> q x (h.mem_iff.mpr hx),fun q x hx=> q x (h.mem_iff.mp hx)⟩
 rw [e]
 cases hp:es.all qj with
 |false=> rfl
 |true=>
  obtain⟨ss,rfl,_⟩:=ab5 (e.trans hp)
  obtain⟨ts,rfl,_⟩:=ab5 hp
  have hh:=aqy h
  rw [zu,zu]at hh
  unfold zn
  rw [zu,zu,am,am]
  congr 1
  rw [a9,decide_eq_true_eq,decide_eq_true_eq,anq,anq]
  exact hh.nodup_iff
theorem aoq:ac3 (.int (n:Int)) (.tup [.int 3,.int 4]) s=.ok (.bl (!(decide (n=3)||decide (n=4)))) s:=by
 show (if okD (.int n)=true/\ [aG 3,aG 4].all okD=true then R.ok (D.bl (nb true ([aG 3,aG 4].any fun d=> aQ d (.int n)))) s else .bad)=_
 rw [if_pos ⟨rfl,rfl⟩]
 simp only [gR,List.any_nil,ad4,l9]
 have e3:decide ((3:Int)=(n:Int))=decide (n=3):=by rw [a9,decide_eq_true_eq,decide_eq_true_eq];lia
 have e4:decide ((4:Int)=(n:Int))=decide (n=4):=by rw [a9,decide_eq_true_eq,decide_eq_true_eq];lia
 rw [e3,e4];rfl
def kn3(i:FE):FS:=(jf (jp (qy (jw (j3 (fCB qd (ja (jb 3) (ja (fC (.ty "tuple")) jc))))) (jw (jj (vt gLe gLe (fC (.da (.int 1))) (fCB jv (ja (jb 3) jc)) (fC (.da (.int 12))))))) (ji (fC (.da (.bool false)))) jk)
  (ji (xj (fOp gEq (fCB jv (ja (jb 1) jc)) (fC (.da (.int 3)))) (je 1 kg (ja (fOp (jr false) (jb 3) (jd (ja (fOp gIx (jb 1) i) jc))) jc)))))
theorem akm{m t:D}{ps:List ag}{i:FE}(ha:It a)(h:Gv d)(hi: ∀ρ1:En,ρ1=[some m,some (.tup ps),some t,some (.da d)] -> (fOp gIx (jb 1) i) ρ1 s=.ok (.da a) s):
  kn3 i [some m,some (.tup ps),some t,some (.da d)] s=.ok (.rt (.bl (decide (ps.length=3)&&abm a d))) s:=by
 have hi:=hi _ rfl
 unfold kn3
 generalize fOp gIx (jb 1) i=fi at hi⊢
 walk_at "ev"
 cases d with
 | tuple ds=>
  obtain⟨hl,hx⟩:=h.t ds rfl
  rw [show kn (.tuple ds) "tuple"=true from rfl]
  walk_at "ev"
  show _=R.ok (Fl.rt (D.bl (decide (ps.length=3)&&((decide (1 <=ds.length)&&decide (ds.length <=12))&&j6 (.tuple (a::ds)))))) s
  have e3:decide ((ps.length:Int)=3)=decide (ps.length=3):=by rw [a9,decide_eq_true_eq,decide_eq_true_eq];lia
  by_cases h1:1 <=ds.length
  ·rw [decide_eq_true (show (1:Int) <=(ds.length:Int) by lia),decide_eq_true h1]
   walk_at "ev"
   by_cases h2:ds.length <=12
   ·rw [decide_eq_true (show (ds.length:Int) <=(12:Int) by lia),decide_eq_true h2]
    walk_at "ev"
    rw [zb,e3]
    cases decide (ps.length=3) with
    |false=> walk_at "ev"
    | true=>
     walk_at "ev"
     rw [hi]
     walk_at "ev"
     rw [qz (by simp;lia)]
     walk_at "ev"
     rw [aam (by simp;lia) (fun x hx'=> by
      rcases bg.mp hx' with z|z
      ·exact hx x z
      ·rw [aO.mp z];exact ha),ana (lO (l₁:=ds) (l₂:=[a]))]
     rfl
   ·rw [decide_eq_false (show¬(ds.length:Int) <=(12:Int) by lia),decide_eq_false h2]
    simp only [eC,fx]
    walk_at "ev"
  ·rw [decide_eq_false (show¬(1:Int) <=(ds.length:Int) by lia),decide_eq_false h1]
   simp only [eC,fx]
   walk_at "ev"
 |_=>
  rw [show∀e:ag,abm a _=false from fun e=> rfl,eC]
  ·walk_at "ev";rfl
  ·exact .none
theorem ay1{w:ag}(h:kn w "str"=false):wc w=[false,false,false,false,false,false]:=by
 cases w with
 |str x=> cases h
 |_=> rfl
theorem art{x:ag}:afg m (.tuple [x])=qx m x:=by
 show ([x].all (qx m)&&zg [x])=_
 simp [zg]
theorem asb(h:n=3\/n=4):ac3 (.int (n:Int)) (.tup [.int 3,.int 4]) s=.ok (.bl false) s:=by
 rw [aoq]
 rcases h with rfl|rfl <;> rfl
theorem a5a(h:n≠3)(h2:n≠4):ac3 (.int (n:Int)) (.tup [.int 3,.int 4]) s=.ok (.bl true) s:=by
 rw [aoq,decide_eq_false h,decide_eq_false h2];rfl
theorem a32{w:ag}(h:It w):gIn (.da w) (.tup [.str "copy",.str "merge"]) s=.ok (.bl (isIn ["copy","merge"] w)) s:=aqs ["copy","merge"] rfl h
theorem ahy{w:ag}(h:It w):gIn (.da w) (.tup [.str "both",.str "loose",.str "drain",.str "either"]) s=.ok (.bl (isIn ["both","loose","drain","either"] w)) s:=aqs ["both","loose","drain","either"] rfl h
theorem ahv{w:ag}(h:It w):gIn (.da w) (.tup [.str "place",.str "last"]) s=.ok (.bl (isIn ["place","last"] w)) s:=aqs ["place","last"] rfl h
section
variable{m:Int}{w a b x:ag}{s:S}
theorem awy(h:Gd (.tuple [w,a,b])):va [.int m,.tup [w,a,b]] s=.ok (.bl (yp m (.tuple [w,a,b]))) s:=by
 have hw:=(h.kid (x:=w) (by simp))
 have ha:=(h.kid (x:=a) (by simp))
 have hb:=(h.kid (x:=b) (by simp))
 rw [aal];unfold B_law_is_plain
 rw [←kn3.eq_1 (fOp (jr false) (fC (.da (.int 1))) (jb 2))]
 walk_at "ev"
 rw [show kn (.tuple [w,a,b]) "tuple"=true from rfl]
 walk_at "ev"
 rw [asb (c7 rfl)]
 show _=R.ok (D.bl (if isS "copy" w=true then abm a b else if isS "merge" w=true then abm b a else isIn ["both","loose","drain","either"] w&&j6 (.tuple [a,b]))) s
 walk_at "ev"
 cases hs:kn w "str" with
 |false=>
  obtain⟨c1,c2,c3,c4,c5,c6⟩:=ai2 (ay1 hs)
  rw [c1,c2,c4]
  walk_at "ev"
 | true=>
  walk_at "ev"
  rw [abd "merge" hw.it]
  walk_at "ev"
  rw [ary]
  walk_at "ev"
  rw [a32 hw.it]
  rcases alv w with q|q|q|q|q|q <;> obtain⟨c1,c2,c3,c4,c5,c6⟩:=ai2 q
  ·rw [c3,c2,c1]
   walk_at "ev"
   rw [show∀s:S,gIx (.tup [w,a,b]) (.int (2 - 0)) s=.ok (.da b) s from fun s=> vi (k:=2) rfl]
   walk_at "ev"
   rw [akm (s:=s) (m:=.int m) (ps:=[w,a,b]) (t:=.int 0) ha.it hb.gv (i:=fOp (jr false) (fC (.da (.int 1))) (jb 2)) fun ρ e=> by
    subst e
    walk_at "ev"
    exact vi (k:=1) rfl]
   rw [show decide ([w,a,b].length=3)=true from rfl,i8]
   walk_at "ev"
  ·rw [c3,c2,c1]
   walk_at "ev"
   rw [show∀s:S,gIx (.tup [w,a,b]) (.int (2 - 1)) s=.ok (.da a) s from fun s=> vi (k:=1) rfl]
   walk_at "ev"
   rw [akm (s:=s) (m:=.int m) (ps:=[w,a,b]) (t:=.int 1) hb.it ha.gv (i:=fOp (jr false) (fC (.da (.int 1))) (jb 2)) fun ρ e=> by
    subst e
    walk_at "ev"
    exact vi (k:=2) rfl]
   rw [show decide ([w,a,b].length=3)=true from rfl,i8]
   walk_at "ev"
  all_goals
   rw [c3,c2,c1,c4]
   walk_at "ev"
   rw [aff,aam (by simp) (fun y hy=> (h.kid (aB _ hy)).it)]
   cases j6 (.tuple [a,b]) with
   |false=>
    walk_at "ev"
    try rfl
   |true=>
    walk_at "ev"
    rw [ahy hw.it,c4]
    walk_at "ev"
    first
    |(rw [zb,decide_eq_true (by decide)];walk_at "ev";done)
    |(rw [ahv hw.it,c5];walk_at "ev";first|(rw [zb,decide_eq_false (by decide)];walk_at "ev";done)|(rw [abd "only" hw.it,c6];walk_at "ev";try (rw [zb,decide_eq_false (by decide)];walk_at "ev")))
theorem aus(h:Gd (.tuple [w,a,b,x])):va [.int m,.tup [w,a,b,x]] s=.ok (.bl (yp m (.tuple [w,a,b,x]))) s:=by
 have hw:=(h.kid (x:=w) (by simp))
 have ha:=(h.kid (x:=a) (by simp))
 have hb:=(h.kid (x:=b) (by simp))
 have hx:=(h.kid (x:=x) (by simp))
 rw [aal];unfold B_law_is_plain
 rw [←kn3.eq_1 (fOp (jr false) (fC (.da (.int 1))) (jb 2))]
 walk_at "ev"
 rw [show kn (.tuple [w,a,b,x]) "tuple"=true from rfl]
 walk_at "ev"
 rw [asb (fB rfl)]
 show _=R.ok (D.bl (j6 (.tuple [a,b])&&(if isIn ["place","last"] w=true then afu m x else isS "only" w&&afg m x))) s
 walk_at "ev"
 cases hs:kn w "str" with
 |false=>
  obtain⟨c1,c2,c3,c4,c5,c6⟩:=ai2 (ay1 hs)
  rw [c5,c6]
  simp only [fx,eC,if_neg aw]
  walk_at "ev"
 | true=>
  walk_at "ev"
  rw [abd "merge" hw.it]
  walk_at "ev"
  rw [ary]
  walk_at "ev"
  rw [a32 hw.it]
  rcases alv w with q|q|q|q|q|q <;> obtain⟨c1,c2,c3,c4,c5,c6⟩:=ai2 q
  ·rw [c3,c2,c5,c6]
   walk_at "ev"
   rw [show∀s:S,gIx (.tup [w,a,b,x]) (.int (2 - 0)) s=.ok (.da b) s from fun s=> vi (k:=2) rfl]
   walk_at "ev"
   rw [akm (s:=s) (m:=.int m) (ps:=[w,a,b,x]) (t:=.int 0) ha.it hb.gv (i:=fOp (jr false) (fC (.da (.int 1))) (jb 2)) fun ρ e=> by
    subst e
    walk_at "ev"
    exact vi (k:=1) rfl]
   rw [show decide ([w,a,b,x].length=3)=false from rfl,fx]
   walk_at "ev"
  ·rw [c3,c2,c5,c6]
   walk_at "ev"
   rw [show∀s:S,gIx (.tup [w,a,b,x]) (.int (2 - 1)) s=.ok (.da a) s from fun s=> vi (k:=1) rfl]
   walk_at "ev"
   rw [akm (s:=s) (m:=.int m) (ps:=[w,a,b,x]) (t:=.int 1) hb.it ha.gv (i:=fOp (jr false) (fC (.da (.int 1))) (jb 2)) fun ρ e=> by
    subst e
    walk_at "ev"
    exact vi (k:=2) rfl]
   rw [show decide ([w,a,b,x].length=3)=false from rfl,fx]
   walk_at "ev"
  ·rw [c3,c2,c5,c6]
   walk_at "ev"
   rw [aff,aam (by simp) (fun y hy=> (h.kid (by rcases aq.mp hy with z|z <;> simp_all)).it)]
   cases j6 (.tuple [a,b]) with
   |false=> walk_at "ev"
   |true=>
    walk_at "ev"
    rw [ahy hw.it,c4]
    walk_at "ev"
    rw [zb,decide_eq_false (by decide)]
    walk_at "ev"
  ·rw [c3,c2,c5,c6]
   walk_at "ev"
   rw [aff,aam (by simp) (fun y hy=> (h.kid (by rcases aq.mp hy with z|z <;> simp_all)).it)]
   cases j6 (.tuple [a,b]) with
   |false=> walk_at "ev"
   | true=>
    walk_at "ev"
    rw [ahy hw.it,c4]
    walk_at "ev"
    rw [ahv hw.it,c5]
    walk_at "ev"
    rw [zb,decide_eq_true (by decide)]
    walk_at "ev"
    unfold afu
    cases isN (.da x) with
    |true=> walk_at "ev";rfl
    |false=>
     walk_at "ev"
     rw [arx (by simp) (fun y hy=> by rw [aO.mp hy];exact hx.it) (gg (bO _ _) (by simp)),art]
     rfl
  ·rw [c3,c2,c5,c6]
   walk_at "ev"
   rw [aff,aam (by simp) (fun y hy=> (h.kid (by rcases aq.mp hy with z|z <;> simp_all)).it)]
   cases j6 (.tuple [a,b]) with
   |false=> walk_at "ev"
   |true=>
    walk_at "ev"
    rw [ahy hw.it,c4]
    walk_at "ev"
    rw [ahv hw.it,c5]
    walk_at "ev"
    rw [abd "only" hw.it,c6]
    walk_at "ev"
    rw [zb,decide_eq_true (by decide)]
    walk_at "ev"
    cases x with
    |tuple ds=> rw [arx (ax hx.len.1 (by decide)) (fun y hy=> (hx.kid hy).it) (gg hx.len.2 (by decide))];rfl
    |_=> rfl
  ·rw [c3,c2,c5,c6]
   walk_at "ev"
   rw [aff,aam (by simp) (fun y hy=> (h.kid (by rcases aq.mp hy with z|z <;> simp_all)).it)]
   cases j6 (.tuple [a,b]) with
   |false=> walk_at "ev"
   |true=>
    walk_at "ev"
    rw [ahy hw.it,c4]
    walk_at "ev"
    rw [ahv hw.it,c5]
    walk_at "ev"
    rw [abd "only" hw.it,c6]
    walk_at "ev"
theorem azd(h:Gd d):va [.int m,.da d] s=.ok (.bl (yp m d)) s:=by
 cases d with
 | tuple ds=>
  by_cases h3:ds.length=3
  ·obtain⟨w,a,b,rfl⟩:=afi h3
   exact awy h
  ·by_cases h4:ds.length=4
   ·obtain⟨w,a,b,x,rfl⟩: ∃w a b x,ds=[w,a,b,x]:=by
     match ds,h4 with
     |[w,a,b,x],_=> exact⟨w,a,b,x,rfl⟩
    exact aus h
   ·have e:yp m (.tuple ds)=false:=by
     match ds,h3,h4 with
     |[],_,_=> rfl
     |[_],_,_=> rfl
     |[_,_],_,_=> rfl
     |_::_::_::_::_::_,_,_=> rfl
    rw [e,aal];unfold B_law_is_plain
    walk_at "ev"
    rw [show kn (.tuple ds) "tuple"=true from rfl]
    walk_at "ev"
    rw [a5a h3 h4]
    walk_at "ev"
 |_=> rfl
end
def faD:Option Fa -> D
 |none=>.da .none
 |some f=>.tup [.str f.1,pd f.2]
structure LfOk (k:Nat) (F:FF):Prop where
 ok: ∀(d:ag) (p:List Nat) (s:S),Gd d -> k+p.length=4 -> F [.da d,.da (pd p),.int ((p.length:Int)+1)] s=.ok (faD (ju k d p)) s
def a4j(r:R Fl)(s:S)(h:En):Option Fa -> Prop
 |none=> ∃v w,r=.ok (.nx (h++ [v,w])) s
 |some f=> r=.ok (.rt (faD (some f))) s
def alk(r:R Fl)(s:S):Option Fa -> Prop
 |none=> ∃ρ,r=.ok (.nx ρ) s
 |some f=> r=.ok (.rt (faD (some f))) s
def lfC:FT:=(qh (j3 (fCB qd (ja (jb 4) (ja (fC (.ty "tuple")) jc)))) (qh (jj (fOp gEq (fCB jv (ja (jb 4) jc)) (fC (.da (.int 3))))) (qh (jj (fOp gEq (fOp gIx (jb 4) (fC (.da (.int 0)))) (fC (.da (.str "net"))))) (j3 (je 1 kg (ja (fOp gIx (jb 4) (fC (.da (.int 2)))) jc))))))
theorem a4e{a b c e g:Option D}(h:Gd d):lfC [a,b,c,e,some (.da d),g] s=.ok (j9 d) s:=by
 unfold lfC
 walk_at "ev"
 cases d with
 | tuple ds=>
  rw [show kn (.tuple ds) "tuple"=true from rfl]
  walk_at "ev"
  rw [zb]
  by_cases h3:ds.length=3
  ·obtain⟨w,x,q,rfl⟩:=afi h3
   rw [decide_eq_true (show (([w,x,q].length:Nat):Int)=3 from rfl)]
   walk_at "ev"
   rw [abd "net" (h.kid (x:=w) (by simp)).it]
   show _=R.ok (isS "net" w&&j6 q) s
   cases isS "net" w with
   |false=> walk_at "ev"
   |true=>
    walk_at "ev"
    rw [al3 (h.kid (x:=q) (by simp)).gv]
    walk_at "ev"
  ·rw [decide_eq_false (show¬(ds.length:Int)=3 by lia)]
   have e:j9 (.tuple ds)=false:=by
    match ds,h3 with
    |[],_=> rfl
    |[_],_=> rfl
    |[_,_],_=> rfl
    |_::_::_::_::_,_=> rfl
   rw [e]
   walk_at "ev"
 |_=> rfl
def lfP:FE:=(jd (ja (fC (.da (.str "part"))) (ja (fOp (jr false) (jb 1) (jd (ja (jb 3) jc))) jc)))
theorem asr{a c e g:Option D}{i:Nat}(h:p.length <=1000):lfP [a,some (.da (pd p)),c,some (.int i),e,g] s=.ok (faD (some ("part",p++ [i]))) s:=by
 unfold lfP
 walk_at "ev"
 rw [aiz h]
 rfl
def lfB(F:FF):FS:=(jf (jl 4 (fOp gIx (fOp gIx (jb 0) (fC (.da (.int 2)))) (jb 3)))
  (jp lfC (jf (jl 5 (je 3 F (ja (fOp gIx (jb 4) (fC (.da (.int 1)))) (ja (fOp (jr false) (jb 1) (jd (ja (jb 3) jc))) (ja (fOp (jr false) (jb 2) (fC (.da (.int 1)))) jc)))))
  (jf (jp (jj (fOp af6 (jb 5) (fC (.da (.none))))) (ji (jb 5)) jk)
  (jp (jj (fOp gNe (jd (ja (fOp gIx (fOp gIx (jb 4) (fC (.da (.int 1)))) (fC (.da (.int 0)))) (ja (fCB jv (ja (fOp gIx (fOp gIx (jb 4) (fC (.da (.int 1)))) (fC (.da (.int 1)))) jc)) jc))) (jd (ja (fOp gIx (jb 0) (fC (.da (.int 0)))) (ja (fCB jv (ja (fOp gIx (jb 4) (fC (.da (.int 2)))) jc)) jc))))) (ji lfP) jk))) (jp (jw (j3 (je 2 va (ja (fOp gIx (jb 0) (fC (.da (.int 0)))) (ja (jb 4) jc))))) (ji lfP) jk)))
theorem a0c{j:Int}{a b:Nat}:gNe (.tup [.int i,.int (a:Int)]) (.tup [.int j,.int (b:Int)]) s=.ok (.bl (!(decide (i=j)&&decide (a=b)))) s:=by
 rw [show (D.tup [.int i,.int (a:Int)])=.da (.tuple [.int i,.int (a:Int)]) from rfl,show (D.tup [.int j,.int (b:Int)])=.da (.tuple [.int j,.int (b:Int)]) from rfl,aby rfl rfl]
 rw [show aQ (.tuple [.int i,.int (a:Int)]) (.tuple [.int j,.int (b:Int)])=(aQ (.int i) (.int j)&&(aQ (.int a) (.int b)&&true)) from rfl,ad4,ad4,Bool.and_true]
 have e:decide ((a:Int)=(b:Int))=decide (a=b):=by rw [a9,decide_eq_true_eq,decide_eq_true_eq];lia
 rw [e]
theorem a4g{F:FF}{j:Int}{sn:ag}{ps:List ag}{i:Nat}{u v:Option D}(hF:LfOk k F)(hk:k+1+p.length=4)(hd:ps[i]?=some d)(gd:Gd d):
  a4j (lfB F [some (.tup [.int j,sn,.tuple ps]),some (.da (pd p)),some (.int ((p.length:Int)+1)),some (.int i),u,v] s) s [some (.tup [.int j,sn,.tuple ps]),some (.da (pd p)),some (.int ((p.length:Int)+1)),some (.int i)] (xf (ju k) j d (p++ [i])):=by
 have e0: ∀s:S,gIx (.tup ps) (.int i) s=.ok (.da d) s:=fun s=> vi hd
 have hp:p.length <=1000:=by lia
 unfold lfB
 walk_at "ev"
 rw [e0]
 walk_at "ev"
 rw [a4e gd]
 unfold xf
 cases hw:j9 d with
 | false=>
  walk_at "ev"
  rw [azd gd]
  cases yp j d with
  |true=>
   walk_at "ev"
   exact⟨_,_,rfl⟩
  |false=>
   walk_at "ev"
   rw [asr hp]
   show _=_
   walk_at "ev"
 | true=>
  obtain⟨w,x,q,rfl⟩:=v6 hw
  rw [show xz (.tuple [w,x,.tuple q])=x from rfl]
  have h:=hF.ok x (p++ [i]) s (gd.kid (by simp)) (by simp;lia)
  rw [bq,show (([i].length:Nat))=1 from rfl,show (((p.length+1:Nat):Int)+1)=((p.length:Int)+1+1) by lia]at h
  walk_at "ev"
  rw [aiz hp]
  walk_at "ev"
  rw [h]
  walk_at "ev"
  cases hf:ju k x (p++ [i]) with
  |some f=>
   show _=_
   rw [show (!isN (faD (some f)))=true from rfl]
   walk_at "ev"
  | none=>
   obtain⟨t,sm,qs,rfl,_⟩:=ae8 hf
   rw [show (!isN (faD none))=false from rfl]
   walk_at "ev"
   rw [a0c]
   show a4j _ _ _ (if (decide (t=j)&&decide (sm.length=q.length))=true then none else some ("part",p++ [i]))
   cases decide (t=j)&&decide (sm.length=q.length) with
   |true=>
    walk_at "ev"
    exact⟨_,_,rfl⟩
   |false=>
    walk_at "ev"
    rw [asr hp]
    show _=_
    walk_at "ev"
theorem aoo{k:Nat}{F:FF}{j:Int}{sn:ag}{ps:List ag}{p:List Nat}{all:List D}{s:S}(hF:LfOk k F)(hk:k+1+p.length=4)(gp: ∀x∈ps,Gd x): ∀(ds:List ag) (i:Nat) (u v w:Option D),ps.drop i=ds ->
  alk (qv (.nm 3) (lfB F) (all,none) (aa3 (i:Int) ds.length) [some (.tup [.int j,sn,.tuple ps]),some (.da (pd p)),some (.int ((p.length:Int)+1)),u,v,w] s) s (v0 (ju k) j p ds i)
 |[],i,u,v,w,_=> ⟨_,rfl⟩
 | d::r,i,u,v,w,e=> by
  have hi:ps[i]?=some d:=by
   have:(ps.drop i)[0]?=some d:=by rw [e];rfl
   rwa [List.getElem?_drop,kG]at this
  have er:ps.drop (i+1)=r:=by
   have:=congrArg (List.drop 1) e
   rwa [List.drop_drop,my,iF]at this
  have gd:=gp d (hW hi)
  have h:=a4g (F:=F) (j:=j) (sn:=sn) (u:=v) (v:=w) (s:=s) hF hk hi gd
  have ih:=fun u v w=> aoo (j:=j) (sn:=sn) (all:=all) (s:=s) hF hk gp r (i+1) u v w er
  rw [show aa3 (i:Int) (d::r).length=.int i::aa3 ((i+1:Nat):Int) r.length from rfl,ab9 (ρ1:=[some (.tup [.int j,sn,.tuple ps]),some (.da (pd p)),some (.int ((p.length:Int)+1)),some (.int i),v,w]) rfl]
  show alk _ _ (match xf (ju k) j d (p++ [i]) with|some f=> some f|none=> v0 (ju k) j p r (i+1))
  cases hf:xf (ju k) j d (p++ [i]) with
  |some f=>
   rw [hf]at h
   rw [show lfB F _ s=.ok (.rt (faD (some f))) s from h]
   rfl
  |none=>
   rw [hf]at h
   obtain⟨v',w',h⟩:=h
   rw [h,R.bind_ok',ans]
   exact ih _ _ _
theorem alk.fin{r:R Fl}{o:Option Fa}(h:alk r s o):((r.bind (al2 (ji (fC (.da .none))))).bind jq)=.ok (faD o) s:=by
 cases o with
 |none=>
  obtain⟨ρ,rfl⟩:=h
  rfl
 |some f=>
  rw [show r=.ok (.rt (faD (some f))) s from h]
  rfl
abbrev lfR(F:FF):FF:=fun as s=> (B_law_fault F (as.map some++ [none,none,none]) s).bind jq
theorem a3x{F:FF}:B_law_fault F=(jf (jp (qy (jw (j3 (fCB qd (ja (jb 0) (ja (fC (.ty "tuple")) jc))))) (qy (jj (fOp gNe (fCB jv (ja (jb 0) jc)) (fC (.da (.int 3))))) (jj (fOp gGt (jb 2) (fC (.da (.int 4))))))) (ji (jd (ja (fC (.da (.str "net"))) (ja (jb 1) jc)))) jk)
  (jf (jp (qy (jw (j3 (je 1 vp (ja (fOp gIx (jb 0) (fC (.da (.int 0)))) jc)))) (jw (jj (vt gLe gLe (fC (.da (.int 1))) (fOp gIx (jb 0) (fC (.da (.int 0)))) (fC (.da (.int 3))))))) (ji (jd (ja (fC (.da (.str "things"))) (ja (jb 1) jc)))) jk)
  (jf (jp (qy (jw (j3 (je 1 kg (ja (fOp gIx (jb 0) (fC (.da (.int 1)))) jc)))) (jj (fOp gGt (fCB jv (ja (fOp gIx (jb 0) (fC (.da (.int 1)))) jc)) (fC (.da (.int 6)))))) (ji (jd (ja (fC (.da (.str "seen"))) (ja (jb 1) jc)))) jk)
  (jf (jp (jw (j3 (fCB qd (ja (fOp gIx (jb 0) (fC (.da (.int 2)))) (ja (fC (.ty "tuple")) jc))))) (ji (jd (ja (fC (.da (.str "parts"))) (ja (jb 1) jc)))) jk)
  (jf (xl (y0 (ja (fCB jv (ja (fOp gIx (jb 0) (fC (.da (.int 2)))) jc)) jc)) (.nm 3) (lfB F)) (ji (fC (.da (.none))))))))):=rfl
theorem a15{w:Str}:acq [.da (.str w),.da (pd p)] s=.ok (faD (some (w,p))) s:=rfl
theorem a03{F:FF}:LfOk 0 (lfR F):=by
 refine⟨fun d p s gd hk=> ?_⟩
 show _=R.ok (faD (some ("net",p))) s
 unfold lfR
 simp only [aL,dO,cD,cB]
 rw [a3x]
 walk_at "ev"
 cases hd:kn d "tuple" with
 |false=>
  walk_at "ev"
  rfl
 | true=>
  cases d with
  | tuple ds=>
   walk_at "ev"
   rw [aad]
   cases decide ((ds.length:Int)=3) with
   |false=>
    walk_at "ev"
    rfl
   |true=>
    walk_at "ev"
    rw [decide_eq_true (show (4:Int) < (p.length:Int)+1 by lia)]
    walk_at "ev"
    rfl
  |_=> cases hd
theorem azw {F:FF} (hF:LfOk k F):LfOk (k+1) (lfR F):=by
 refine⟨fun d p s gd hk=> ?_⟩
 unfold lfR
 simp only [aL,dO,cD,cB]
 rw [a3x]
 by_cases h: ∃a b c,d=.tuple [a,b,c]
 ·obtain ⟨t,sn,ps,rfl⟩:=h
  have g1:=gd.kid (x:=sn) (by simp)
  have g2:=gd.kid (x:=ps) (by simp)
  show _=R.ok (faD (if yx t=true then (if aed sn=true then (match (generalizing:=false) ps with
   |.tuple ds=> v0 (ju k) (intD t) p ds 0
   |_=> some ("parts",p)) else some ("seen",p)) else some ("things",p))) s
  walk_at "ev"
  rw [show kn (.tuple [t,sn,ps]) "tuple"=true from rfl]
  walk_at "ev"
  rw [aad,decide_eq_true (show ((3:Nat):Int)=3 from rfl)]
  walk_at "ev"
  rw [decide_eq_false (show¬(4:Int) < (p.length:Int)+1 by lia)]
  walk_at "ev"
  rw [anj]
  cases t with
  | int j=>
   show _=R.ok (faD (if (decide (1 <=j)&&decide (j <=3))=true then (if aed sn=true then (match (generalizing:=false) ps with
    |.tuple ds=> v0 (ju k) j p ds 0
    |_=> some ("parts",p)) else some ("seen",p)) else some ("things",p))) s
   simp only [vz]
   walk_at "ev"
   by_cases h1:1 <=j
   ·rw [decide_eq_true h1]
    walk_at "ev"
    by_cases h3:j <=3
    ·rw [decide_eq_true h3]
     walk_at "ev"
     rw [al3 g1.gv]
     cases sn with
     | tuple es=>
      show _=R.ok (faD (if ((es.all qj&&zn es)&&decide (es.length <=6))=true then (match (generalizing:=false) ps with
       |.tuple ds=> v0 (ju k) j p ds 0
       |_=> some ("parts",p)) else some ("seen",p))) s
      rw [show j6 (.tuple es)=(es.all qj&&zn es) from rfl]
      cases es.all qj&&zn es with
      |false=>
       walk_at "ev"
       rfl
      | true=>
       walk_at "ev"
       by_cases h6:es.length <=6
       ·rw [decide_eq_true h6,decide_eq_false (show¬(6:Int) < (es.length:Int) by lia)]
        walk_at "ev"
        cases ps with
        |tuple ds=>
         rw [show kn (.tuple ds) "tuple"=true from rfl]
         walk_at "ev"
         rw [ab6 (by lia) (by have:=g2.len.1;lia)]
         walk_at "ev"
         exact alk.fin (aoo hF (by lia) (fun x hx=> g2.kid hx) ds 0 _ _ _ rfl)
        |_=> rfl
       ·rw [decide_eq_false h6,decide_eq_true (show (6:Int) < (es.length:Int) by lia)]
        walk_at "ev"
        rfl
     |_=> rfl
    ·rw [decide_eq_false h3]
     walk_at "ev"
     rfl
   ·rw [decide_eq_false h1]
    walk_at "ev"
    rfl
  |_=> rfl
 ·have e:ju (k+1) d p=some (("net":Str),p):=by
   show agr (ju k) d p=_
   cases d with
   |tuple ds=> exact aje fun z=> h (by obtain⟨a,b,c,rfl⟩:=afi z;exact⟨a,b,c,rfl⟩)
   |_=> rfl
  rw [e]
  walk_at "ev"
  cases hd:kn d "tuple" with
  |false=>
   walk_at "ev"
   rfl
  | true=>
   cases d with
   | tuple ds=>
    walk_at "ev"
    rw [aad,decide_eq_false (show¬(ds.length:Int)=3 from fun z=> by
     obtain⟨a,b,c,rfl⟩:=afi (ds:=ds) (by lia)
     exact h ⟨a,b,c,rfl⟩)]
    walk_at "ev"
    rfl
   |_=> cases hd
theorem LfOk.of{F F':FF}(h:LfOk k F')(e: ∀a b c s,F [a,b,c] s=F' [a,b,c] s):LfOk k F:=⟨fun d p s g hk=> by rw [e];exact h.ok d p s g hk⟩
theorem ati: ∀k f:Nat,k < f -> LfOk k (qf f)
 |0,f+1,_=> (a03 (F:=qf f)).of fun a b c s=> agg
 |k+1,f+1,h=> (azw (ati k f (by lia))).of fun a b c s=> agg
theorem a1f(h:Gd d):qf 8 [.da d,.tup [],.int 1] s=.ok (faD (ju 4 d [])) s:=(ati 4 8 (by decide)).ok d [] s h rfl
theorem ajg: ∀ns:List Nat,(∀n∈ns,n <=1000000) -> adx ((ns.map fun n:Nat=> aG (n:Int)).map D.da)=some (ns.map fun n:Nat=> (n:Int))
 |[],_=> rfl
 |n::r,h=> by
  show (match adx ((r.map fun n:Nat=> aG (n:Int)).map D.da) with|some xs=> if 0 <=(n:Int)/\(n:Int) <=1000000 then some ((n:Int)::xs) else none|none=> none)=_
  rw [ajg r fun x hx=> h x (aB _ hx)]
  have:=h n aD
  exact if_pos ⟨by lia,by lia⟩
theorem anw: ∀ns:List Nat,(ns.map fun n:Nat=> (n:Int)).sum=(ns.sum:Nat)
 |[]=> rfl
 |n::r=> by rw [aL,d7,d7,anw r];lia
theorem avr{ns:List Nat}(h: ∀n∈ns,n <=1000000)(hl:ns.length <=100000):aqj [.lst (ns.map fun n:Nat=> aG (n:Int))] s=.ok (.int (ns.sum:Nat)) s:=by
 show (match adx ((ns.map fun n:Nat=> aG (n:Int)).map D.da) with|some is=> if is.length <=100000 then R.ok (D.int is.sum) s else .bad|none=>.bad)=_
 rw [ajg ns h]
 show (if (ns.map fun n:Nat=> (n:Int)).length <=100000 then R.ok (D.int (ns.map fun n:Nat=> (n:Int)).sum) s else .bad)=_
 rw [if_pos (by rw [am];exact hl),anw]
theorem sum_filter{p:ag -> Bool}{g:ag -> Nat}: ∀ps:List ag,((ps.filter p).map g).sum=(ps.map fun x=> if p x=true then g x else 0).sum
 |[]=> rfl
 |x::r=> by
  cases h:p x with
  |true=> rw [eQ h,aL,aL,d7,d7,sum_filter r,h];rfl
  |false=> rw [eP (by rw [h];exact aw),aL,d7,sum_filter r,h];simp
theorem am5(x:ag)(h:j9 x=true):(xz x).bulk <=x.bulk:=by
 obtain⟨w,y,q,rfl⟩:=v6 h
 show y.bulk <=_
 simp only [aW,aF]
 lia
theorem amg: ∀(k:Nat) (d:ag),kd k d <=d.bulk
 |0,_=> dw _
 | k + 1,d=> by
  show axo (kd k) d <=_
  unfold axo
  split
  ·rename_i a b ps
   have: ∀ps:List ag,ps.length+(ps.map fun d=> if j9 d=true then kd k (xz d) else 0).sum <=aF ps:=by
    intro ps
    induction ps with
    |nil=> simp [aF]
    | cons x r ih=>
     simp only [aK,aL,d7,aF]
     have:(if j9 x=true then kd k (xz x) else 0) <=x.bulk:=by
      split
      ·rename_i h
       exact ax (amg k _) (am5 x h)
      ·exact dw _
     lia
   have:=this ps
   simp only [aW,aF]
   lia
  ·exact dw _
theorem aoe: ∀(k f:Nat) (d:ag) (p:List Nat) (s:S),k <=f -> Gd d -> ju k d p=none -> vd f [.da d] s=.ok (.int (kd k d)) s
 |0,_,d,p,_,_,_,h=> by cases h
 | k+1,f+1,d,p,s,hf,gd,h=> by
  obtain⟨j,sn,ps,rfl,hp⟩:=ag2 h
  have gp:=gd.kid (x:=.tuple ps) (by simp)
  have hl:=gp.len.1
  rw [an4];unfold B_law_count
  walk_at "ev"
  rw [zf (ρ0:=[none]) (by rw [am];lia) rfl]
  rw [yo j9 (fun x=> D.int (kd k (xz x))) ps (fun x hx=> by
   obtain⟨q,e⟩:=hp x hx
   obtain⟨w,r,rfl,hw⟩:=ak4 e
   walk_at "ev"
   rw [abd "net" ((gp.kid hx).kid (x:=w) aD).it,hw]
   walk_at "ev") (fun x hx hw=> by
   obtain⟨q,e⟩:=hp x hx
   obtain⟨w,y,z,rfl⟩:=v6 hw
   walk_at "ev"
   rw [aoe k f y q s (by lia) ((gp.kid hx).kid (by simp)) (ame e hw)]
   rfl)]
  walk_at "ev"
  rw [show (ps.filter j9).map (fun x=> D.int (kd k (xz x)))=(((ps.filter j9).map fun x=> kd k (xz x)).map fun n:Nat=> aG (n:Int)).map D.da by simp only [dC];rfl]
  walk_at "ev"
  rw [avr (fun n hn=> by
   obtain⟨x,hx,rfl⟩:=bj.mp hn
   have hx:=bS.mp hx
   have:=amg k (xz x)
   have:=am5 x hx.2
   have:=(gp.kid hx.1).bk
   lia) (by
   rw [am]
   exact ax (bO _ _) (by lia))]
  walk_at "ev"
  rw [sum_filter]
  show R.ok (D.int ((ps.length:Int)+((ps.map fun x=> if j9 x=true then kd k (xz x) else 0).sum:Nat))) s=R.ok (D.int ((ps.length+(ps.map fun d=> if j9 d=true then kd k (xz d) else 0).sum:Nat):Int)) s
  rw [Int.natCast_add]
structure Core (d:ag):Prop where
 ls:d.leavesShort 45=true
 sh:d.showable=true
theorem ay5(h: ∀x∈ds,Core x):lP 45 ds=true/\ff ds=true:=by
 induction ds with
 |nil=> exact⟨rfl,rfl⟩
 |cons x r ih=>
  obtain⟨a,b⟩:=ih fun y hy=> h y (aB _ hy)
  obtain⟨p,q⟩:=h x aD
  exact⟨by simp only [lP,p,a,gS],by simp only [ff,q,b,gS]⟩
theorem at1(h:i.natAbs < 10^31):(toString i).length <=32:=int_text_length_le10 (k:=31) (by decide) h
theorem Lf.core(h:Lf n d)(hn:n <=5):Core d:=by
 induction h with
 |none=> exact⟨rfl,rfl⟩
 |bool b=> exact⟨by cases b <;> rfl,rfl⟩
 | @int i h=>
  have h31:i.natAbs < 10^31:=by
   have e:(10:Nat)^31=10000000000000000000000000000000:=by decide
   lia
  constructor
  ·simp only [gk,decide_eq_true_eq]
   have:=at1 h31
   show (bJ (toString i)).length <=45
   rw [ofString_length]
   lia
  ·simp only [bU,decide_eq_true_eq]
   by_cases z:i.natAbs=0
   ·rw [z];decide
   ·have h2:i.natAbs < 2^104:=by
     have e:(2:Nat)^104=20282409603651670423947251286016:=by decide
     lia
    have:=(Nat.log2_lt z).mpr h2
    lia
 | @str x h l=>
  unfold asc at h
  simp only [aT,aJ,decide_eq_true_eq]at h
  refine⟨?_,rfl⟩
  simp only [gk,aT,decide_eq_true_eq]
  intro c hc
  have:=(h c hc).2
  have e16:(16:Nat)^8=4294967296:=by decide
  lia
 |tup hl _ _ ih=>
  obtain⟨a,b⟩:=ay5 ih
  exact⟨by simpa only [gk] using a,by simpa only [bU] using b⟩
 |lst hl _ ih=>
  obtain⟨a,b⟩:=ay5 ih
  exact⟨by simpa only [gk] using a,by simpa only [bU] using b⟩
theorem Gd.okE(h:Gd d):okE d=true:=by
 unfold PF.okE
 (simp only [aJ,decide_eq_true_eq])
 refine⟨⟨(h.lf.core (by decide)).sh,ax h.dp (by decide)⟩,?_⟩
 have:=PyData.shown_le_bulk 45 (by decide) d (h.lf.core (by decide)).ls
 have:=h.bk
 rw [k9]
 lia
theorem afe(h:Gd d):vm [.da d] s=.ok (.str d.shown) s:=by
 show (if PF.okE d=true then R.ok (D.str d.shown) s else .bad)=_
 rw [if_pos h.okE]
theorem anh:vm [.bl b] s=.ok (.str (cj b).shown) s:=by
 show (if PF.okE (.bool b)=true then R.ok (D.str (cj b).shown) s else .bad)=_
 rw [if_pos (by cases b <;> decide+kernel)]
structure Sm (D B:Nat) (d:ag):Prop where
 lf:Lf 0 d
 dp:d.depth <=D
 bk:d.bulk <=B
theorem Sm.mono{D D' B':Nat}(h:Sm D B d)(h1:D <=D')(h2:B <=B'):Sm D' B' d:=⟨h.lf,ax h.dp h1,ax h.bk h2⟩
theorem ads{B:Nat}: ∀{ds:List ag},(∀x∈ds,x.bulk <=B) -> aF ds <=ds.length*(B+1)
 |[],_=> by simp [aF]
 |x::r,h=> by
  have:=ads (ds:=r) fun y hy=> h y (aB _ hy)
  have:=h x aD
  simp only [aF,aK,Nat.add_mul,Nat.one_mul]at*
  lia
theorem yn{D:Nat}(h: ∀x∈ds,Sm D B x)(hl:ds.length <=k)(hk:k <=30):Sm (D+1) (k*(B+1)) (.tuple ds):=by
 refine⟨.tup (by lia) (ax (bO _ _) (by lia)) fun x hx=> (h x hx).lf,?_,?_⟩
 ·simp only [aE]
  have:=vg fun x hx=> (h x hx).dp
  lia
 ·simp only [aW]
  exact ax (ads fun x hx=> (h x hx).bk) (il _ hl)
theorem af2{x:Str}(h:asc x=true)(hl:x.length <=9):Sm 0 9 (.str x):=⟨.str h (by lia),by simp [aE],hl⟩
theorem ab1(h:i.natAbs <=1000):Sm 0 9 (.int i):=⟨.int (by lia),by simp [aE],by simp [aW]⟩
theorem yr{x:Str}(h:prB x=true):Sm 0 9 (.str x):=by
 unfold prB at h
 simp only [aJ,decide_eq_true_eq,aT]at h
 refine af2 ?_ (by lia)
 unfold asc
 rw [aT]
 intro c hc
 have:=h.2 c hc
 (simp only [aJ,decide_eq_true_eq])
 lia
theorem yu{x:Str}(h:x∈(["both","loose","place","last","drain","either","only","copy","merge","net"]:List Str)):Sm 0 9 (.str x):=by
 have: ∀x∈(["both","loose","place","last","drain","either","only","copy","merge","net"]:List Str),asc x=true/\x.length <=9:=by decide+kernel
 exact af2 (this x h).1 (this x h).2
theorem ady{qs:List Str}(h: ∀x∈qs,prB x=true)(hl:qs.length <=k)(hk:k <=30):Sm 1 (k*10) (.tuple (qs.map aI)):=yn (D:=0) (B:=9) (fun x hx=> by
 (obtain⟨y,hy,rfl⟩:=bj.mp hx)
 exact yr (h y hy)) (by rw [am];exact hl) hk
theorem acs{P:ag -> Prop}{b c:ag}(ha:P a)(hb:P b)(hc:P c): ∀x∈ [a,b,c],P x:=by
 intro x hx
 (simp only [aq,bf,or_false]at hx)
 rcases hx with rfl|rfl|rfl <;> assumption
theorem a5n{P:ag -> Prop}{b c:ag}(ha:P a)(hb:P b)(hc:P c)(hd:P d): ∀x∈ [a,b,c,d],P x:=by
 intro x hx
 (simp only [aq,bf,or_false]at hx)
 rcases hx with rfl|rfl|rfl|rfl <;> assumption
theorem kl{D A C:Nat}{b c:ag}(ha:Sm D A a)(hb:Sm D B b)(hc:Sm D C c):Sm (D+1) (A+B+C+3) (.tuple [a,b,c]):=by
 refine⟨.tup (by simp) (ax (bO _ _) (by simp)) (acs ha.lf hb.lf hc.lf),?_,?_⟩
 ·simp only [aE]
  have:=vg (acs (P:=fun x=> x.depth <=D) ha.dp hb.dp hc.dp)
  lia
 ·simp only [aW,aF]
  have:=ha.bk
  have:=hb.bk
  have:=hc.bk
  lia
theorem aoz{qs:List Str}(h:PartD m ps d qs)(hm:m <=3)(hp: ∀x∈ps,prB x=true):Sm 2 170 d:=by
 have up: ∀{d:ag},Sm 0 9 d -> Sm 1 40 d:=fun h=> h.mono (by decide) (by decide)
 cases h with
 |two hw ha hb _=> exact (yn (k:=4) (acs (up (yu (by simp at hw⊢;rcases hw with rfl|rfl|rfl|rfl <;> simp))) (up (yr (hp _ ha))) (up (yr (hp _ hb)))) (by simp) (by decide)).mono (by decide) (by decide)
 |held hw ha hb _ hx=>
  refine (yn (k:=4) (a5n (up (yu (by simp at hw⊢;rcases hw with rfl|rfl <;> simp))) (up (yr (hp _ ha))) (up (yr (hp _ hb))) (up ?_)) (by simp) (by decide)).mono (by decide) (by decide)
  rcases hx with rfl|⟨i,rfl,i0,i1⟩
  ·exact⟨.none,by simp [aE],by simp [aW]⟩
  ·exact ab1 (by lia)
 | @only a b ts ha hb _ ht hl _=>
  refine (yn (k:=4) (a5n (up (yu (by simp))) (up (yr (hp _ ha))) (up (yr (hp _ hb))) ?_) (by simp) (by decide)).mono (by decide) (by decide)
  exact yn (D:=0) (B:=9) (k:=4) (fun x hx=> by
   (obtain⟨y,hy,rfl⟩:=bj.mp hx)
   have:=ht y hy
   exact ab1 (by lia)) (by rw [am];lia) (by decide)
 | @copy a bs ha hb hl _=>
  exact (yn (k:=4) (acs (up (yu (by simp))) (up (yr (hp _ ha))) (ady (k:=4) (fun x hx=> hp x (hb x hx)) hl.2 (by decide))) (by simp) (by decide)).mono (by decide) (by decide)
 | @merge a bs ha hb hl _=>
  exact (yn (k:=4) (acs (up (yu (by simp))) (ady (k:=4) (fun x hx=> hp x (hb x hx)) hl.2 (by decide)) (up (yr (hp _ ha)))) (by simp) (by decide)).mono (by decide) (by decide)
noncomputable def dr:Nat -> Nat
 |0=> 0
 |k+1=> 20+3*(20+dr k)
noncomputable def bb:Nat -> Nat
 |0=> 0
 |k+1=> 3*(bb k+260)+260
structure DW {α:Type} (r:R α) (Q:α -> S -> Prop):Prop where
 w:r.W Q
theorem DW.mono{α:Type}{r:R α}{Q Q':α -> S -> Prop}(h:DW r Q)(k: ∀a s,Q a s -> Q' a s):r.W Q':=R.W_mono h.w k
structure Shp (e:ag):Prop where
 ex: ∃(m:Int) (sn ps:List ag),e=.tuple [.int m,.tuple sn,.tuple ps]/\sn.length <=6/\0 <=m/\m <=3
structure NsQ (s0:S) (n c k:Nat) (d:D) (s:S):Prop where
 ex: ∃e:ag,d=.da e/\Sm (3*k+2) (bb k) e/\Shp e/\Fd s n (c+dr k)/\j8 n s0 s
def al6(k:Nat)(F:FF):Prop:= ∀(s:S) (n c:Nat) (m:Int) (t:Nat),Fd s n c -> 1 <=m -> m <=3 -> t <=3 -> c+dr k+400 < 2^40 -> DW (F [.ref n,.int (k:Int),.int m,.int (t:Int)] s) (NsQ s n c k)
structure NsJ (s0:S) (n a c k:Nat) (m:Int) (t:Nat) (ps:List Str) (r:List D) (ρ:En) (s:S):Prop where
 ex: ∃(P:List ag) (c':Nat) (u6 u7:Option D),ρ=[some (.ref n),some (.int ((k+1:Nat):Int)),some (.int m),some (.int (t:Int)),some (.lst (ps.map aI)),some (.ref a),u6,u7]/\s[a]?=some (.lst (P.map D.da))/\P.length+r.length <=3/\(∀x∈P,Sm (3*k+3) (bb k+250) x)/\Fd s n c'/\c'+r.length*(20+dr k) <=c+3*(20+dr k)/\j8 n s0 s/\s0.length <=a
def nsA(F:FF):FS:=(jf (jl 7 (fSl false (je 2 qg (ja (jb 0) (ja (jb 4) jc))) fNo (kh (je 2 jh (ja (jb 0) (ja (fOp (jr false) (fCB agn (ja (fC (.da (.int 3))) (ja (fCB jv (ja (jb 4) jc)) jc))) (fC (.da (.int 1)))) jc))))))
  (qo (fMt kz (jb 5) (ja (jd (ja (fC (.da (.str "net"))) (ja (je 4 F (ja (jb 0) (ja (fOp v9 (jb 1) (fC (.da (.int 1)))) (ja (jb 2) (ja (fCB jv (ja (jb 7) jc)) jc))))) (ja (fCB vf (ja (jb 7) jc)) jc)))) jc))))
def nsB:FS:=(qo (fMt kz (jb 5) (ja (je 3 xu (ja (jb 0) (ja (jb 2) (ja (jb 4) jc)))) jc)))
def nsL(F:FF):FS:=jp (qh (jj (fOp gGt (jb 1) (fC (.da (.int 1))))) (jj (fOp gEq (je 2 jh (ja (jb 0) (ja (fC (.da (.int 2))) jc))) (fC (.da (.int 0)))))) (nsA F) nsB
theorem asa{s0 s2:S}{a c2:Nat}{t:Nat}{P:List ag}{u6 u7:Option D}{p:ag}(ha:s1[a]?=some (.lst (P.map D.da)))(hl:P.length+(r.length+1) <=3)(hP: ∀x∈P,Sm (3*k+3) (bb k+250) x)(hpt:Sm (3*k+3) (bb k+250) p)(fd:Fd s2 n c2)(h2:c2+r.length*(20+dr k) <=c+3*(20+dr k))(sm:j8 n s0 s1)(sm2:j8 n s1 s2)(hs0:s0.length <=a)(hn:n < s0.length):
  (kz (.ref a) [.da p] s2).W fun _ s'=> NsJ s0 n a c k m t ps r [some (.ref n),some (.int ((k+1:Nat):Int)),some (.int m),some (.int (t:Int)),some (.lst (ps.map aI)),some (.ref a),u6,u7] s':=by
 have la:a < s1.length:=(aC.mp ha).1
 have ha2:s2[a]?=some (.lst (P.map D.da)):=by rw [sm2.get _ (by lia) la];exact ha
 rw [yh ha2 (by rw [am];lia),R.W_ok]
 refine⟨P++ [p],c2,_,_,rfl,?_,by simp;lia,?_,fd.set (by lia),h2,(sm.trans sm2).own (by lia),hs0⟩
 ·rw [bn (aN la sm2.len)];simp
 ·intro x hx
  rcases bg.mp hx with z|z
  ·exact hP x z
  ·rw [aO.mp z];exact hpt
theorem apa{s0 s2:S}{a c2:Nat}{t:Nat}{P:List ag}{u6 u7:Option D}{Q:Fl -> S -> Prop}(hm:1 <=m)(hm3:m <=3)(hp:2 <=ps.length)(hp5:ps.length <=5)(nd:ps.Nodup)(pr: ∀x∈ps,prB x=true)(hc:c+3*(20+dr k)+390 < 2^40)(ha:s1[a]?=some (.lst (P.map D.da)))(hl:P.length+(r.length+1) <=3)(hP: ∀x∈P,Sm (3*k+3) (bb k+250) x)(fd:Fd s2 n c2)(h2:c2+19+dr k+r.length*(20+dr k) <=c+3*(20+dr k))(sm:j8 n s0 s1)(sm2:j8 n s1 s2)(hs0:s0.length <=a)(hn:n < s0.length):
  (nsB [some (.ref n),some (.int ((k+1:Nat):Int)),some (.int m),some (.int (t:Int)),some (.lst (ps.map aI)),some (.ref a),u6,u7] s2).W (flW (NsJ s0 n a c k m t ps r) Q):=by
 have la:a < s1.length:=(aC.mp ha).1
 have ha2:s2[a]?=some (.lst (P.map D.da)):=by rw [sm2.get _ (by lia) la];exact ha
 unfold nsB
 walk_at "go"
 rw [abl ha2]
 walk_at "go"
 refine R.W_mono (ap1 fd hm hm3 hp (by lia) nd (by lia)) ?_
 rintro _ s3 ⟨d,qs,rfl,hd,fd3,sm3⟩
 walk_at "go"
 refine R.W_mono (asa (m:=m) (c:=c) (t:=t) (ps:=ps) (u6:=u6) (u7:=u7) ha hl hP ((aoz hd hm3 pr).mono (by lia) (by lia)) fd3 (by lia) sm (sm2.trans sm3) hs0 hn) fun _ s4 q=> ?_
 walk_at "go"
 exact q
theorem ajh{qs:List Str}(h:qs.Perm ps)(t:Nat)(pr: ∀x∈ps,prB x=true): ∀x∈qs.take t,prB x=true:=fun x hx=> pr x (h.mem_iff.mp (cc hx))
theorem a2y{F:FF}{s0 s2:S}{a c2:Nat}{t:Nat}{P:List ag}{u6 u7:Option D}{Q:Fl -> S -> Prop}(hF:al6 k F)(hk:1 <=k)(hm:1 <=m)(hm3:m <=3)(hp:2 <=ps.length)(hp5:ps.length <=5)(nd:ps.Nodup)(pr: ∀x∈ps,prB x=true)(hc:c+3*(20+dr k)+390 < 2^40)(ha:s1[a]?=some (.lst (P.map D.da)))(hl:P.length+(r.length+1) <=3)(hP: ∀x∈P,Sm (3*k+3) (bb k+250) x)(fd:Fd s2 n c2)(h2:c2+19+dr k+r.length*(20+dr k) <=c+3*(20+dr k))(sm:j8 n s0 s1)(sm2:j8 n s1 s2)(hs0:s0.length <=a)(hn:n < s0.length):
  (nsA F [some (.ref n),some (.int ((k+1:Nat):Int)),some (.int m),some (.int (t:Int)),some (.lst (ps.map aI)),some (.ref a),u6,u7] s2).W (flW (NsJ s0 n a c k m t ps r) Q):=by
 have la:a < s1.length:=(aC.mp ha).1
 unfold nsA
 walk_at "go"
 refine R.W_mono (aih fd (by rw [am];lia) (by rw [am];lia)) ?_
 rintro _ s3 ⟨ys,rfl,pm,fd3,sm3⟩
 obtain⟨qs,pmq,rfl⟩:=agv pm
 have ql:=pmq.length_eq
 rw [am]at fd3
 walk_at "go"
 refine R.W_mono (j5 fd3 (by split <;> lia) (by split <;> lia) (by lia)) ?_
 rintro _ s4 ⟨i,rfl,h0,h1,fd4,sm4⟩
 obtain⟨w,rfl⟩: ∃w:Nat,i=(w:Int):=⟨i.toNat,by lia⟩
 have w3:w <=3:=by split at h1 <;> lia
 walk_at "go"
 have ha4:s4[a]?=some (.lst (P.map D.da)):=by rw [((sm2.trans sm3).trans sm4).get _ (by lia) la];exact ha
 rw [abl ha4]
 walk_at "go"
 rw [show (((k+1:Nat):Int) - 1)=((k:Nat):Int) by lia,aas,y8,am]
 have tl:(qs.take w).length <=3:=by rw [bV];lia
 refine (hF s4 n (c2+ps.length+1) m (qs.take w).length fd4 hm hm3 tl (by lia)).mono ?_
 rintro _ s5 ⟨N,rfl,hN,_,fd5,sm5⟩
 walk_at "go"
 refine R.W_mono (asa (m:=m) (p:=.tuple [.str "net",N,.tuple ((qs.take w).map aI)]) (c:=c) (t:=t) (ps:=ps) (u6:=u6) (u7:=some (D.lst ((qs.take w).map aI))) ha hl hP ?_ fd5 (by lia) sm (sm2.trans (sm3.trans (sm4.trans sm5))) hs0 hn) fun _ s6 q=> ?_
 ·exact (kl (D:=3*k+2) (A:=9) (B:=bb k) (C:=30) ((yu (by simp)).mono (by lia) (by lia)) hN ((ady (k:=3) (ajh pmq w pr) tl (by decide)).mono (by lia) (by lia))).mono (by lia) (by lia)
 walk_at "go"
 exact q
theorem azp{F:FF}{s0:S}{a:Nat}{t:Nat}{d:D}{Q:Fl -> S -> Prop}(hF:1 <=k -> al6 k F)(hm:1 <=m)(hm3:m <=3)(hn:n < s0.length)(hp:2 <=ps.length)(hp5:ps.length <=5)(nd:ps.Nodup)(pr: ∀x∈ps,prB x=true)(hc:c+3*(20+dr k)+390 < 2^40)(h:NsJ s0 n a c k m t ps (d::r) ρ s1):
  ∃ρ1,vh (.nm 6) d ρ=some ρ1/\(nsL F ρ1 s1).W (flW (NsJ s0 n a c k m t ps r) Q):=by
 obtain⟨P,c',u6,u7,rfl,ha,hl,hP,fd,h2,sm,hs0⟩:=h
 simp only [aK,Nat.add_mul,Nat.one_mul]at hl h2
 refine⟨[some (.ref n),some (.int ((k+1:Nat):Int)),some (.int m),some (.int (t:Int)),some (.lst (ps.map aI)),some (.ref a),some d,u7],rfl,?_⟩
 unfold nsL
 walk_at "go"
 by_cases hk:k=0
 ·subst hk
  walk_at "go"
  exact apa hm hm3 hp hp5 nd pr hc ha hl hP fd (by lia) sm (j8.refl _ _) hs0 hn
 ·have h1:(1:Int) < ((k+1:Nat):Int):=by lia
  rw [decide_eq_true h1]
  walk_at "go"
  refine R.W_mono (j5 fd (by decide) (by decide) (by lia)) ?_
  rintro _ s2 ⟨i,rfl,h0,h3,fd2,sm2⟩
  walk_at "go"
  rw [zw]
  by_cases hi:i=0
  ·rw [decide_eq_true hi]
   walk_at "go"
   exact a2y (hF (by lia)) (by lia) hm hm3 hp hp5 nd pr hc ha hl hP fd2 (by lia) sm sm2 hs0 hn
  ·rw [decide_eq_false hi]
   walk_at "go"
   exact apa hm hm3 hp hp5 nd pr hc ha hl hP fd2 (by lia) sm sm2 hs0 hn
theorem a2j{F:FF}:B_law_nest F=(jf (jl 4 (je 2 za (ja (jb 0) (ja (fOp (jr false) (fCB aif (ja (fC (.da (.int 2))) (ja (jb 3) jc))) (je 2 jh (ja (jb 0) (ja (fC (.da (.int 3))) jc)))) jc))))
  (jf (jl 5 (ko true jc))
  (jf (xl (y0 (ja (je 2 jh (ja (jb 0) (ja (fC (.da (.int 4))) jc))) jc)) (.nm 6) (nsL F))
  (ji (jd (ja (jb 2) (ja (fCB vf (ja (fSl false (je 2 qg (ja (jb 0) (ja (jb 4) jc))) fNo (kh (jb 3))) jc)) (ja (fCB vf (ja (jb 5) jc)) jc)))))))):=rfl
theorem a1g{j:Int}:aif [.int i,.int j] s=.ok (.int (if j > i then j else i)) s:=(rfl)
theorem max_two{t:Nat}:aif [.da (.int 2),.int (t:Int)] s=.ok (.int ((max 2 t:Nat):Int)) s:=by
 rw [show (D.da (.int 2))=.int 2 from rfl,a1g]
 congr 2
 split <;> lia
theorem am6{F:FF}(hF:1 <=k -> al6 k F):al6 (k+1) (fun as s=> (B_law_nest F (as.map some++ [none,none,none,none]) s).bind jq):=by
 intro s n c m t fd hm hm3 ht hc
 have hn:=fd.lt
 simp only [dr]at hc
 refine⟨?_⟩
 rw [a2j]
 simp only [aL,dO]
 walk_at "go"
 rw [max_two]
 walk_at "go"
 refine R.W_mono (j5 fd (by decide) (by decide) (by lia)) ?_
 rintro _ s1 ⟨i,rfl,h0,h1,fd1,sm1⟩
 obtain⟨w,rfl⟩: ∃w:Nat,i=(w:Int):=⟨i.toNat,by lia⟩
 walk_at "go"
 rw [show (((max 2 t:Nat):Int)+(w:Int))=((max 2 t+w:Nat):Int) by lia]
 refine R.W_mono (av1 fd1 (by lia) (by lia)) ?_
 rintro _ s2 ⟨ps,rfl,pl,nd,pr,fd2,sm2⟩
 walk_at "go"
 have x0:=Ext.add s2 [O.lst []]
 refine R.W_mono (j5 (fd2.ext x0) (by decide) (by decide) (by lia)) ?_
 rintro _ s3 ⟨i,rfl,g0,g1,fd3,sm3⟩
 obtain⟨q,rfl⟩: ∃q:Nat,i=(q:Int):=⟨i.toNat,by lia⟩
 walk_at "go"
 rw [ab6 (by lia) (by lia)]
 walk_at "go"
 have hn2:n < s2.length:=fd2.lt
 have hl3:s2.length < s3.length:=aN (by simp) sm3.len
 refine yi (NsJ s2 n s2.length (c+4) k m t ps) (fun d r ρ s' h=> azp hF hm hm3 hn2 (by lia) (by lia) nd pr (by lia) h) ?_ _ _ _ ⟨[],c+4,_,_,rfl,?_,?_,(fun _ h=> by cases h),fd3,?_,x0.same n|>.trans sm3,ao _⟩
 ·rintro ρ s4 ⟨P,c',u6,u7,rfl,ha,hl,hP,fd4,h4,sm4,_⟩
  walk_at "go"
  refine R.W_mono (aih fd4 (by rw [am];lia) (by rw [am];lia)) ?_
  rintro _ s5 ⟨ys,rfl,pm,fd5,sm5⟩
  obtain⟨qs,pmq,rfl⟩:=agv pm
  rw [am]at fd5
  walk_at "go"
  rw [au0 (xs:=P) (by rw [sm5.get _ (by lia) (aC.mp ha).1];exact ha)]
  walk_at "go"
  rw [aas,y8]
  have tl:(qs.take t).length <=3:=by rw [bV];lia
  simp only [dZ,Nat.zero_mul,kG]at h4 hl
  refine⟨.tuple [.int m,.tuple ((qs.take t).map aI),.tuple P],rfl,?_,⟨_,_,_,rfl,by rw [am];lia,by lia,hm3⟩,?_,((sm1.trans sm2).trans sm4).trans sm5⟩
  ·exact (kl (D:=3*k+4) (A:=9) (B:=30) (C:=3*(bb k+251)) ((ab1 (by lia)).mono (by lia) (by lia)) ((ady (k:=3) (ajh pmq t pr) tl (by decide)).mono (by lia) (by lia)) ((yn (D:=3*k+3) (B:=bb k+250) (k:=3) hP hl (by decide)).mono (by lia) (by lia))).mono (by lia) (by show _ <=3*(bb k+260)+260;lia)
  ·refine fd5.le ?_
   show _ <=c+(20+3*(20+dr k))
   lia
 ·rw [sm3.get _ (by lia) (by simp)];simp
 ·simp [kx];lia
 ·rw [kx]
  have:(q:Int).toNat <=3:=by lia
  have:=il (20+dr k) this
  lia
theorem ap8: ∀k f:Nat,k < f -> al6 (k+1) (vo f)
 |0,f+1,_=> am6 (k:=0) (F:=vo f) (fun h=> absurd h (by decide))
 |k+1,f+1,h=> am6 (F:=vo f) (fun _=> ap8 k f (by lia))
theorem ae6(z:Str)(lo hi:Option Int):(af3 z lo hi).length <=z.length/\ ∀c∈(af3 z lo hi).cps.toList,c∈z.cps.toList:=by
 unfold af3
 split
 ·exact⟨ao _,fun _ h=> h⟩
 ·constructor
  ·show (((di lo hi 1 z.length).filterMap (z.cps[·]?)).toArray).size <=z.length
   rw [az]
   exact ax (kC _ _) (sliceIndices_le _ _ _)
  ·intro c hc
   have hc':c∈(di lo hi 1 z.length).filterMap (z.cps[·]?):=by simpa using hc
   obtain⟨i,_,e⟩:=iN.mp hc'
   exact lT.mpr (Array.mem_of_getElem? e)
theorem anm{z:Str}(h:asc z=true)(lo hi:Option Int):asc (af3 z lo hi)=true:=by
 unfold asc at h⊢
 rw [aT]at h⊢
 exact fun c hc=> h c ((ae6 z lo hi).2 c hc)
theorem avj(x y:Str):(x++y).cps.toList=x.cps.toList++y.cps.toList:=by
 show (x.cps++y.cps).toList=_
 rw [Array.toList_append]
theorem ape{x:Str}(h1:asc x=true)(h2:asc y=true):asc (x++y)=true:=by
 unfold asc at h1 h2⊢
 rw [avj,List.all_append,h1,h2];rfl
theorem adb(x y:Str):(x++y).length=x.length+y.length:=by
 show (x.cps++y.cps).size=_
 rw [Array.size_append];rfl
theorem aaq(xs ys:List ag):aF (xs++ys)=aF xs+aF ys:=by
 induction xs with
 |nil=> simp [aF]
 |cons x r ih=> simp only [cD,aF,ih];lia
theorem avk(xs:List ag):aF xs.reverse=aF xs:=by
 induction xs with
 |nil=> rfl
 |cons x r ih=> simp only [fw,aaq,ih,aF];lia
theorem ael(xs:List ag)(k:Nat):aF (xs.take k)+aF (xs.drop k)=aF xs:=by rw [←aaq,hJ]
def wN(ds:List ag):Nat:=(ds.filter vz).length
theorem y7(xs ys:List ag):wN (xs++ys)=wN xs+wN ys:=by unfold wN;rw [List.filter_append,bq]
theorem afs(xs:List ag)(k:Nat):wN (xs.take k)+wN (xs.drop k)=wN xs:=by rw [←y7,hJ]
theorem ac7(xs:List ag):wN xs <=xs.length:=bO _ _
theorem a55(xs:List ag):wN xs.reverse=wN xs:=by unfold wN;rw [List.filter_reverse,mn]
theorem alz{α:Type}(xs:List α)(t:Nat):xs.take (t+1)=xs.take t++(xs.drop t).take 1:=by rw [List.take_add]
theorem avf{α:Type}{xs:List α}{x:α}(h:xs[k]?=some x):xs.drop k=x::xs.drop (k+1):=by
 obtain⟨hk,e⟩:=aC.mp h
 rw [ek hk,e]
theorem ald{z:Str}(hz:z.length <=16777216)(h:z.cps.toList[j]?=some c):gIx (.str z) (.int (j:Int)) s=.ok (.str ⟨#[c]⟩) s:=by
 show (if z.length <=sizeLine then (match atI z.cps.toList (j:Int) with|some c=> R.ok (D.str ⟨#[c]⟩) s|none=>.bad) else .bad)=_
 rw [if_pos (by rw [k9];exact hz),afb h]
theorem ixP{w:Int}{P:ag -> Prop}(h0:0 <=w)(h1:w < L.length)(h: ∀x∈L,P x): ∃x,P x/\gIx (.lst L) (.int w) s=.ok (.da x) s:=by
 obtain⟨q,rfl⟩:=ze w (by assumption)
 have hq:q < L.length:=by lia
 exact⟨L[q],h _ (cE hq),aft (au hq)⟩
theorem asw: ∀j:Nat,j < 26 -> ∃c,(bJ "abcdefghijklmnopqrstuvwxyz").cps.toList[j]?=some c/\9 <=c/\c < 127:=by decide+kernel
theorem a8m(n:Nat):4^(n+1)=4*4^n:=by rw [Nat.pow_succ,Nat.mul_comm]
theorem ala(n:Nat):1 <=4^n:=Nat.pow_pos (by decide)
theorem a4w{x:Str}(h:Lf n (.str x))(hn:n <=3):asc x=true/\x.length <=40*4^n/\x.length <=2560:=by
 cases h with
 |str a b=> exact⟨a,b,ax b (mz 40 (lY (n:=4) (by decide) hn))⟩
structure BentK (n B dp:Nat) (d:ag):Prop where
 lf:Lf (n+1) d
 bk:d.bulk <=2*B+60
 dp:d.depth <=dp+2
structure BentQ (s:S) (k c n B dp:Nat) (r:D) (s':S):Prop where
 ex: ∃d',r=.da d'/\BentK n B dp d'/\Fd s' k c/\j8 k s s'
noncomputable def apl:List ag:=[.none,.bool true,.bool false,.int 0,.int 1,.int 2,.int 3,.int (-1),.str "a",.str "",.str "ab",.str "A",.str "ninesigns",.str "net",.str "merge",.str "place",.tuple [],.list [],.tuple [.str "a"]]
theorem aku: ∀x∈(["","a","ab","A","ninesigns","net","merge","place"]:List Str),asc x=true/\x.cps.size <=9:=by decide+kernel
theorem yw(n B dp:Nat){x:Str}(h:x∈(["","a","ab","A","ninesigns","net","merge","place"]:List Str)):BentK n B dp (.str x):=by
 obtain⟨a,b⟩:=aku x h
 have:=ala (n+1)
 exact⟨.str a (by show x.cps.size <=_;lia),by show x.cps.size <=_;lia,by simp [aE]⟩
theorem ada(n B dp:Nat)(h:i.natAbs <=1000):BentK n B dp (.int i):=⟨.int (by lia),by simp [aW],by simp [aE]⟩
theorem a13(n B dp:Nat): ∀x∈apl,BentK n B dp x:=by
 intro x hx
 simp only [apl,aq,bf,or_false]at hx
 rcases hx with rfl|rfl|rfl|rfl|rfl|rfl|rfl|rfl|rfl|rfl|rfl|rfl|rfl|rfl|rfl|rfl|rfl|rfl|rfl
 ·exact⟨.none,by simp [aW],by simp [aE]⟩
 ·exact⟨.bool _,by simp [aW],by simp [aE]⟩
 ·exact⟨.bool _,by simp [aW],by simp [aE]⟩
 ·exact ada n B dp (by decide)
 ·exact ada n B dp (by decide)
 ·exact ada n B dp (by decide)
 ·exact ada n B dp (by decide)
 ·exact ada n B dp (by decide)
 ·exact yw n B dp (by simp)
 ·exact yw n B dp (by simp)
 ·exact yw n B dp (by simp)
 ·exact yw n B dp (by simp)
 ·exact yw n B dp (by simp)
 ·exact yw n B dp (by simp)
 ·exact yw n B dp (by simp)
 ·exact yw n B dp (by simp)
 ·exact⟨.tup (by simp) (by simp) (fun x h=> by cases h),by simp [aW,aF],by simp [aE,aS]⟩
 ·exact⟨.lst (by simp) (fun x h=> by cases h),by simp [aW,aF],by simp [aE,aS]⟩
 ·have h1:=yw n B dp (x:="a") (by simp)
  have h2:=(aku "a" (by simp)).2
  refine⟨.tup (by simp;lia) (ax (bO _ _) (by simp;lia)) (fun x h=> by rw [aO.mp h];exact h1.lf),?_,by simp [aE,aS]⟩
  simp only [aW,aF]
  lia
section
variable{s s1:S}{k c0 c n B:Nat}{d:ag}{ρ2:Option D}{F:FF}{w:Int}
theorem a6i{dp:Nat}(h:Fd s1 k c0)(sm:j8 k s s1)(hc:c0+1 <=c)(hc2:c < 2^40):
  (ym F [some (.ref k),some (.da d),ρ2,some (.int w),none] s1).W fun fl s'=> (jq fl s').W (BentQ s k c n B dp):=by
 unfold ym abt
 walk_at "go"
 rw [show∀s:S,aa8 false [D.da .none,.da (.bool true),.da (.bool false),.da (.int 0),.da (.int 1),.da (.int 2),.da (.int 3),.int (-1),.da (.str "a"),.da (.str ""),.da (.str "ab"),.da (.str "A"),.da (.str "ninesigns"),.da (.str "net"),.da (.str "merge"),.da (.str "place"),.tup [],.lst [],.tup [.str "a"]] s=.ok (.lst apl) s from fun s=> rfl]
 walk_at "go"
 refine R.W_mono (j5 h (by decide) (by decide) (by lia)) ?_
 rintro _ s2 ⟨j,rfl,j0,j1,fd2,sm2⟩
 obtain⟨z,pz,ez⟩:=ixP (s:=s2) (L:=apl) (P:=BentK n B dp) j0 j1 (a13 n B dp)
 walk_at "go"
 rw [ez]
 walk_at "go"
 exact⟨z,rfl,pz,fd2.le hc,sm.trans sm2⟩
theorem a7f(h:Fd s1 k c0)(sm:j8 k s s1)(hc:c0+3 <=c)(hc2:c < 2^40)(hn:n <=3)(hd:Lf n d)(hB:d.bulk <=B):
  (aa5 F [some (.ref k),some (.da d),ρ2,some (.int w),none] s1).W fun fl s'=> (jq fl s').W (BentQ s k c n B d.depth):=by
 have go: ∀ρ2:Option D,(ym F [some (.ref k),some (.da d),ρ2,some (.int w),none] s1).W fun fl s'=> (jq fl s').W (BentQ s k c n B d.depth):=fun ρ2=> a6i (F:=F) h sm (by lia) hc2
 unfold aa5
 walk_at "go"
 cases d with
 | str x=>
  obtain⟨ha,hx1,hx2⟩:=a4w hd hn
  have hx:x.length <=B:=hB
  rw [show kn (.str x) "str"=true from rfl]
  walk_at "go"
  rw [aby (It.ok ⟨fun y e=> by cases e;exact⟨ha,by lia⟩,hd.lay,by simp [aE]⟩) (by decide+kernel),ayj]
  by_cases hz:x=""
  ·rw [show (!isS "" (.str x))=false by simp [isS,hz]]
   walk_at "go"
   exact go _
  ·rw [show (!isS "" (.str x))=true by simp [isS,hz]]
   walk_at "go"
   by_cases hw:1 < w
   ·rw [decide_eq_true hw]
    walk_at "go"
    rw [len_str (by lia)]
    walk_at "go"
    have lp:0 < x.length:=by
     rcases Nat.eq_zero_or_pos x.length with e|e
     ·exact absurd (show x=bJ "" by cases x with|mk a=> have z:a= #[]:=Array.eq_empty_of_size_eq_zero e;subst z;rfl) hz
     ·exact e
    refine R.W_mono (j5 h (by lia) (by lia) (by lia)) ?_
    rintro _ s2 ⟨a,rfl,a0,a1,fd2,sm2⟩
    walk_at "go"
    rw [aon (by lia)]
    walk_at "go"
    refine R.W_mono (j5 fd2 (by decide) (by decide) (by lia)) ?_
    rintro _ s3 ⟨t,rfl,t0,t1,fd3,sm3⟩
    obtain⟨q,rfl⟩:=ze t (by assumption)
    obtain⟨ch,hch,c1,c2⟩:=asw q (by lia)
    walk_at "go"
    rw [ald (by decide+kernel) hch]
    walk_at "go"
    have l1:=(ae6 x none (some a)).1
    have l2:=(ae6 x (some (a+1)) none).1
    have l3:(⟨#[ch]⟩:Str).length=1:=rfl
    have ac:asc ⟨#[ch]⟩=true:=by
     show ([ch].all fun c=> decide (9 <=c)&&decide (c < 127))=true
     simp [c1,c2]
    rw [aky (by lia)]
    walk_at "go"
    rw [aon (by lia)]
    walk_at "go"
    rw [aky (by rw [adb];lia)]
    walk_at "go"
    have p4:=a8m n
    have p0:=ala n
    refine⟨_,rfl,⟨.str (ape (ape (anm ha _ _) ac) (anm ha _ _)) ?_,?_,by simp [aE]⟩,fd3.le (by lia),sm.trans (sm2.trans sm3)⟩
    ·rw [adb,adb];lia
    ·show Str.length _ <=_
     rw [adb,adb];lia
   ·rw [decide_eq_false hw]
    walk_at "go"
    exact go _
 |none=> exact go _
 |bool b=> exact go _
 |int _=> exact go _
 |tuple _=> exact go _
 |list _=> exact go _
 |_=> cases hd
theorem a6s(h:Fd s1 k c0)(sm:j8 k s s1)(hc:c0+3 <=c)(hc2:c < 2^40)(hn:n <=3)(hd:Lf n d)(hB:d.bulk <=B)(w0:0 <=w)(w5:w < 5):
  (yc F [some (.ref k),some (.da d),ρ2,some (.int w),none] s1).W fun fl s'=> (jq fl s').W (BentQ s k c n B d.depth):=by
 have go:=a7f (F:=F) (ρ2:=ρ2) (w:=w) h sm hc hc2 hn hd hB
 have ip: ∀i:Int,i.natAbs <=1000+(n+1) -> BentK n B d.depth (.int i):=fun i hi=> ⟨.int hi,by simp [aW],by simp [aE]⟩
 have bp: ∀b:Bool,BentK n B d.depth (.bool b):=fun b=> ⟨.bool b,by simp [aW],by simp [aE]⟩
 unfold yc
 walk_at "go"
 cases hd with
 | @int i hi=>
  rw [show kn (.int i) "int"=true from rfl]
  walk_at "go"
  by_cases hw:0 < w
  ·rw [decide_eq_true hw]
   walk_at "go"
   rw [zw]
   walk_at "go"
   obtain⟨x,px,ex⟩:=ixP (s:=s1) (L:=[.int (-1 - i),.int (i+1),.int (i - 1),.bool (decide (i=1))]) (P:=BentK n B (aG i).depth) (w:=w - 1) (by lia) (by simp;lia) (by
    intro x hx
    (simp only [aq,bf,or_false]at hx)
    rcases hx with rfl|rfl|rfl|rfl
    ·exact ip _ (by lia)
    ·exact ip _ (by lia)
    ·exact ip _ (by lia)
    ·exact bp _)
   rw [ex]
   walk_at "go"
   exact⟨x,rfl,px,h.le (by lia),sm⟩
  ·rw [decide_eq_false hw]
   walk_at "go"
   exact go
 | bool b=>
  rw [show kn (.bool b) "int"=true from rfl]
  walk_at "go"
  by_cases hw:0 < w
  ·rw [decide_eq_true hw]
   walk_at "go"
   rw [adf rfl rfl]
   walk_at "go"
   have hb:(b01 b).natAbs <=1:=by cases b <;> decide
   obtain⟨x,px,ex⟩:=ixP (s:=s1) (L:=[.int (-1 - b01 b),.int (b01 b+1),.int (b01 b - 1),.bool (aQ (.bool b) (.int 1))]) (P:=BentK n B (cj b).depth) (w:=w - 1) (by lia) (by simp;lia) (by
    intro x hx
    (simp only [aq,bf,or_false]at hx)
    rcases hx with rfl|rfl|rfl|rfl
    ·exact ip _ (by lia)
    ·exact ip _ (by lia)
    ·exact ip _ (by lia)
    ·exact bp _)
   rw [ex]
   walk_at "go"
   exact⟨x,rfl,px,h.le (by lia),sm⟩
  ·rw [decide_eq_false hw]
   walk_at "go"
   exact go
 |none=> exact go
 |str _ _=> exact go
 |tup _ _ _=> exact go
 |lst _ _=> exact go
theorem alu(h:Lf n (.tuple ds)):ds.length <=140+n/\wN ds <=30+n/\ ∀x∈ds,Lf n x:=by
 cases h with
 |tup a b c=> exact⟨a,b,c⟩
theorem a7j(h:Fd s1 k c0)(sm:j8 k s s1)(hc:c0+4 <=c)(hc2:c < 2^40)(hn:n <=3)(hd:Lf n d)(hB:d.bulk <=B)(w0:0 <=w)(w5:w < 5):
  (zx F [some (.ref k),some (.da d),ρ2,some (.int w),none] s1).W fun fl s'=> (jq fl s').W (BentQ s k c n B d.depth):=by
 have go: ∀ρ2:Option D,(yc F [some (.ref k),some (.da d),ρ2,some (.int w),none] s1).W fun fl s'=> (jq fl s').W (BentQ s k c n B d.depth):=fun ρ2=> a6s (F:=F) (ρ2:=ρ2) (w:=w) h sm (by lia) hc2 hn hd hB w0 w5
 unfold zx
 walk_at "go"
 cases d with
 | tuple ds=>
  obtain⟨hl,hw0,hx⟩:=alu hd
  have hB':aF ds <=B:=by simpa only [aW] using hB
  rw [show kn (.tuple ds) "tuple"=true from rfl]
  walk_at "go"
  by_cases hw:0 < w
  ·rw [decide_eq_true hw]
   walk_at "go"
   refine R.W_mono (j5 h (by lia) (by lia) (by lia)) ?_
   rintro _ s2 ⟨j,rfl,j0,j1,fd2,sm2⟩
   obtain⟨t,rfl⟩:=ze j (by assumption)
   walk_at "go"
   rw [show (t:Int)+1=((t+1:Nat):Int) by lia,y8,zt]
   rw [qz (by simp;lia)]
   walk_at "go"
   try rw [show (t:Int)+1=((t+1:Nat):Int) by lia]
   rw [y8,zt]
   rw [qz (by simp;lia)]
   walk_at "go"
   have u1:=ael ds t
   have u2:=ael ds (t+1)
   have v1:=afs ds t
   have v2:=afs ds (t+1)
   have v3:wN (ds.take (t+1)) <=wN (ds.take t)+1:=by
    rw [alz,y7]
    have:=ac7 ((ds.drop t).take 1)
    have:((ds.drop t).take 1).length <=1:=by rw [bV];lia
    lia
   have v4:wN (ds.take t) <=wN (ds.take (t+1)):=by rw [alz,y7];lia
   have all: ∀(f:List ag -> ag) (es:List ag),(f=bF\/f=lq) -> es.length <=ds.length+1 -> wN es <=wN ds+1 -> (∀y∈es,y∈ds) -> aF es <=2*B+60 -> BentK n B (bF ds).depth (f es):=by
    intro f es hf h1 hw h2 h3
    have h4:aS es <=aS ds:=vg fun y hy=> yg (h2 y hy)
    have m: ∀y∈es,Lf (n+1) y:=fun y hy=> (hx y (h2 y hy)).mono (by lia)
    rcases hf with rfl|rfl
    ·exact⟨.tup (by lia) (by show wN es <=_;lia) m,by simpa only [aW] using h3,by simp only [aE];lia⟩
    ·exact⟨.lst (by lia) m,by simpa only [aW] using h3,by simp only [aE];lia⟩
   obtain⟨z,pz,ez⟩:=ixP (s:=s2) (L:=[.list ds,.tuple (ds.take t++ds.drop (t+1)),.tuple (ds.take (t+1)++ds.drop t),.tuple ds.reverse]) (P:=BentK n B (bF ds).depth) (w:=w - 1) (by lia) (by simp;lia) (by
    intro y hy
    simp only [aq,bf,or_false]at hy
    rcases hy with rfl|rfl|rfl|rfl
    ·exact all lq ds (.inr rfl) (by lia) (by lia) (fun _ h=> h) (by lia)
    ·exact all bF _ (.inl rfl) (by rw [bq,bV,eG];lia) (by rw [y7];lia) (fun y hm=> (bg.mp hm).elim cc cC) (by rw [aaq];lia)
    ·exact all bF _ (.inl rfl) (by rw [bq,bV,eG];lia) (by rw [y7];lia) (fun y hm=> (bg.mp hm).elim cc cC) (by rw [aaq];lia)
    ·exact all bF _ (.inl rfl) (by simp) (by rw [a55];lia) (fun y hm=> List.mem_reverse.mp hm) (by rw [avk];lia))
   rw [ez]
   walk_at "go"
   exact⟨z,rfl,pz,fd2.le (by lia),sm.trans sm2⟩
  ·rw [decide_eq_false hw]
   walk_at "go"
   exact go _
 |none=> exact go _
 |bool b=> exact go _
 |int _=> exact go _
 |str _=> exact go _
 |list _=> exact go _
 |_=> cases hd
theorem a6c{ρ3:Option D}(h:Fd s1 k c0)(sm:j8 k s s1)(hc:c0+5 <=c)(hc2:c < 2^40)(hn:n <=3)(hd:Lf n d)(hB:d.bulk <=B):
  (yk F [some (.ref k),some (.da d),ρ2,ρ3,none] s1).W fun fl s'=> (jq fl s').W (BentQ s k c n B d.depth):=by
 unfold yk
 walk_at "go"
 refine R.W_mono (j5 h (by decide) (by decide) (by lia)) ?_
 rintro _ s2 ⟨j,rfl,j0,j1,fd2,sm2⟩
 walk_at "go"
 exact a7j fd2 (sm.trans sm2) (by lia) hc2 hn hd hB j0 j1
end
theorem auq(xs:List ag):aQ (.tuple xs) (.tuple [])=xs.isEmpty:=by cases xs <;> rfl
theorem ao1: ∀(f:Nat) {s:S} {k c n B:Nat} {d:ag},Fd s k c -> Lf n d -> d.bulk <=B -> d.depth < f -> n <=3 -> f <=60 -> c+8*f < 2^40 -> (jt f [.ref k,.da d] s).W (BentQ s k (c+8*f) n B d.depth)
 |0,s,k,c,n,B,d,_,_,_,h,_,_,_=> by lia
 | f + 1,s,k,c,n,B,d,h,hd,hB,hf,hn,f60,hc=> by
  rw [aqo,R.W_bind]
  unfold B_law_bent
  have go: ∀s1 ρ2 ρ3,Fd s1 k (c+2) -> j8 k s s1 -> (yk (jt f) [some (.ref k),some (.da d),ρ2,ρ3,none] s1).W fun fl s'=> (jq fl s').W (BentQ s k (c+8*(f+1)) n B d.depth):=fun s1 ρ2 ρ3 fd sm=> a6c fd sm (by lia) hc hn hd hB
  walk_at "go"
  by_cases ht: ∃ds,d=.tuple ds
  ·obtain⟨ds,rfl⟩:=ht
   rw [show kn (.tuple ds) "tuple"=true from rfl]
   walk_at "go"
   rw [show (D.tup [])=.da (.tuple []) from rfl,aby (It.ok ⟨fun y e=> (by cases e),hd.lay,by lia⟩) rfl,auq]
   by_cases hds:0 < ds.length
   ·rw [show (!ds.isEmpty)=true by cases ds <;> simp at hds⊢]
    walk_at "go"
    refine R.W_mono (j5 h (by decide) (by decide) (by lia)) ?_
    rintro _ s1 ⟨j,rfl,j0,j1,fd1,sm1⟩
    walk_at "go"
    by_cases hj:0 < j
    ·rw [decide_eq_true hj]
     obtain⟨hl,hw,hx⟩:=alu hd
     walk_at "go"
     refine R.W_mono (j5 fd1 (by lia) (by lia) (by lia)) ?_
     rintro _ s2 ⟨t,rfl,t0,t1,fd2,sm2⟩
     obtain⟨q,rfl⟩:=ze t (by assumption)
     have hq:q < ds.length:=by lia
     have gq:ds[q]?=some ds[q]:=au hq
     have hB':aF ds <=B:=by simpa only [aW] using hB
     have b1:=ael ds q
     have b2:(ds[q]).depth <=aS ds:=yg (cE hq)
     have b3:=afs ds q
     rw [avf gq]at b1 b3
     have b4:wN (ds[q]::ds.drop (q+1))=wN [ds[q]]+wN (ds.drop (q+1)):=y7 [_] _
     simp only [aF]at b1
     have dd:(bF ds).depth=aS ds+1:=by simp only [aE]
     walk_at "go"
     rw [vi gq]
     walk_at "go"
     refine R.W_mono (ao1 f (B:=(ds[q]).bulk) fd2 (hx _ (cE hq)) (ao _) (by lia) hn (by lia) (by lia)) ?_
     rintro _ s3 ⟨d',rfl,⟨lf,bk,dp⟩,fd3,sm3⟩
     walk_at "go"
     rw [y8]
     rw [qz (by simp;lia)]
     walk_at "go"
     rw [show (q:Int)+1=((q+1:Nat):Int) by lia,zt]
     rw [qz (by simp;lia)]
     walk_at "go"
     refine⟨_,rfl,⟨.tup (by simp;lia) ?_ (fun x hm=> ?_),?_,?_⟩,fd3.le (by lia),sm1.trans (sm2.trans sm3)⟩
     ·show wN _ <=_
      have b5:=ac7 [d']
      have b6:wN (ds.take q++d'::ds.drop (q+1))=wN (ds.take q)+(wN [d']+wN (ds.drop (q+1))):=by rw [y7,←y7 [d']];rfl
      first|rw [b6]|(rw [cx];show wN (ds.take q++d'::ds.drop (q+1)) <=_;rw [b6])
      simp only [gX]at b5
      lia
     ·have hm:x∈ds.take q++d'::ds.drop (q+1):=by simpa using hm
      rcases bg.mp hm with z|z
      ·exact (hx x (cc z)).mono (by lia)
      ·rcases aq.mp z with rfl|z
       ·exact lf
       ·exact (hx x (cC z)).mono (by lia)
     ·show aF _ <=_
      simp only [aaq,aF]
      lia
     ·have:aS (ds.take q++d'::ds.drop (q+1)) <=aS ds+2:=vg fun x hm=> by
       rcases bg.mp hm with z|z
       ·exact ax (yg (cc z)) (Nat.le_add_right _ _)
       ·rcases aq.mp z with z|z
        ·rw [z];exact ax dp (Nat.add_le_add_right (yg (cE hq)) 2)
        ·exact ax (yg (cC z)) (Nat.le_add_right _ _)
      simp only [aE]
      first|exact jX this|(rw [cx];exact jX this)
    ·rw [decide_eq_false hj]
     walk_at "go"
     exact go s1 _ _ (fd1.le (by lia)) sm1
   ·rw [show (!ds.isEmpty)=false by cases ds <;> simp at hds⊢]
    walk_at "go"
    exact go s _ _ (h.le (by lia)) (j8.refl _ _)
  ·rw [show kn d "tuple"=false by cases d <;> first|rfl|exact absurd ⟨_,rfl⟩ ht]
   walk_at "go"
   exact go s _ _ (h.le (by lia)) (j8.refl _ _)
structure PthOk (n:Nat) (p:List Nat):Prop where
 l:p.length <=n
 b: ∀i∈p,i <=1000
structure FaOk (f:Fa):Prop where
 w:f.1∈(["net","things","seen","parts","part","many"]:List Str)
 p:PthOk 4 f.2
theorem PthOk.snoc{i:Nat}(h:PthOk n p)(hi:i <=1000):PthOk (n+1) (p++ [i]):=⟨by rw [bq];have:=h.l;simp;lia,fun j hj=> by
 rcases bg.mp hj with z|z
 ·exact h.b j z
 ·rw [aO.mp z];exact hi⟩
theorem PthOk.mono{m:Nat}(h:PthOk n p)(hm:n <=m):PthOk m p:=⟨ax h.l hm,h.b⟩
theorem ac9{w:Str}(h:PthOk n p)(hn:n <=4)(hw:w∈(["net","things","seen","parts","part","many"]:List Str)):FaOk (w,p):=⟨hw,h.mono hn⟩
theorem alo{F:ag -> List Nat -> Option Fa}{m:Int}{p:List Nat}{n:Nat}(hF: ∀d q f,Gd d -> PthOk (n+1) q -> F d q=some f -> FaOk f)(hn:n+1 <=4)(hp:PthOk n p): ∀(ds:List ag) (i:Nat) (f:Fa),(∀x∈ds,Gd x) -> i+ds.length <=1000 -> v0 F m p ds i=some f -> FaOk f
 |[],_,_,_,_,h=> by cases h --
 | d ::r,i,f,hd,hi,h=> by
  simp only [aK]at hi
  have hq:=hp.snoc (i:=i) (by lia)
  simp only [v0]at h
  split at h
  ·rename_i g hg
   cases h
   unfold xf at hg
   split at hg
   ·rename_i hw
    split at hg
    ·rename_i g' hg'
     cases hg
     obtain⟨w,x,q,rfl⟩:=v6 hw
     exact hF _ _ _ ((hd _ aD).kid (x:=x) (by simp)) hq hg'
    ·split at hg
     ·cases hg
     ·cases hg;exact ac9 hq hn (by simp)
   ·split at hg
    ·cases hg
    ·cases hg;exact ac9 hq hn (by simp)
  ·exact alo hF hn hp r (i+1) f (fun x hx=> hd x (aB _ hx)) (by lia) h
theorem alb: ∀(k n:Nat) (d:ag) (p:List Nat) (f:Fa),k+n=4 -> Gd d -> PthOk n p -> ju k d p=some f -> FaOk f
 |0,n,d,p,f,hk,gd,hp,h=> by
  cases h
  exact ac9 hp (by lia) (by simp)
 | k +1,n,d,p,f,hk,gd,hp,h=> by
  simp only [ju,agr]at h
  split at h
  ·rename_i t sn ps
   split at h
   ·split at h
    ·split at h
     ·rename_i ds
      have g:=gd.kid (x:=.tuple ds) (by simp)
      exact alo (fun d q f=> alb k (n+1) d q f (by lia)) (by lia) hp ds 0 f (fun x hx=> g.kid hx) (by have:=g.len.1;lia) h
     ·cases h;exact ac9 hp (by lia) (by simp)
    ·cases h;exact ac9 hp (by lia) (by simp)
   ·cases h;exact ac9 hp (by lia) (by simp)
  ·cases h;exact ac9 hp (by lia) (by simp)
def xt(d:ag):Option Fa:=match ju 4 d []with
 |some f=> some f
 |none=> if kd 4 d <=120 then none else some (("many":Str),[])
theorem a2b{f:Fa}(h:Gd d)(e:xt d=some f):FaOk f:=by
 unfold xt at e
 have nl:PthOk 0 []:=⟨ao _,fun i hi=> by cases hi⟩
 split at e
 ·rename_i g hg
  cases e
  exact alb 4 0 d [] _ rfl h nl hg
 ·split at e
  ·cases e
  ·cases e;exact ac9 nl (by decide) (by simp)
theorem a0d(d:ag):aqp d=(xt d).isNone:=by
 unfold aqp xt
 cases ju 4 d []with
 |some f=> rfl
 |none=>
  by_cases h:kd 4 d <=120
  ·simp [h]
  ·simp [h]
def faP:Option Fa -> ag
 |none=>.none
 |some f=>.tuple [.str f.1,pd f.2]
theorem axy(o:Option Fa):faD o=.da (faP o):=by cases o <;> rfl
theorem avp: ∀x∈(["net","things","seen","parts","part","many"]:List Str),asc x=true/\x.cps.size <=6:=by decide+kernel
theorem a79{f:Fa}(h:FaOk f):Gd (faP (some f)):=by
 obtain⟨a,b⟩:=avp f.1 h.w
 have hl:=h.p.l
 have l1:Lf 3 (.str f.1):=.str a (by show f.1.cps.size <=_;lia)
 have l2:Lf 3 (pd f.2):=by
  refine .tup (by rw [am];lia) (ax (bO _ _) (by rw [am];lia)) fun x hx=> ?_
  obtain⟨i,hi,rfl⟩:=bj.mp hx
  exact .int (by have:=h.p.b i hi;lia)
 have d2:(pd f.2).depth <=1:=by
  simp only [pd,aE]
  have:=vg (n:=0) (ds:=f.2.map fun i:Nat=> aG (i:Int)) fun x hx=> by
   obtain⟨i,hi,rfl⟩:=bj.mp hx
   simp [aE]
  lia
 have b2:(pd f.2).bulk <=100:=by
  simp only [pd,aW]
  have:=ads (B:=0) (ds:=f.2.map fun i:Nat=> aG (i:Int)) fun x hx=> by
   obtain⟨i,hi,rfl⟩:=bj.mp hx
   simp [aW]
  rw [am]at this
  lia
 have b1:(aI f.1).bulk <=6:=b
 refine⟨.tup (by simp) (ax (bO _ _) (by simp)) fun x hx=> ?_,?_,?_⟩
 ·simp only [aq,bf,or_false]at hx
  rcases hx with rfl|rfl
  ·exact l1
  ·exact l2
 ·simp only [faP,aE,aS]
  lia
 ·simp only [faP,aW,aF]at b1⊢
  lia
theorem a47(h:Gd d):Gd (faP (xt d)):=by
 cases e:xt d with
 |none=> exact⟨.none,by simp [faP,aE],by simp [faP,aW]⟩
 |some f=> exact a79 (a2b h e)
theorem ayv(o:Option Fa):isN (faD o)=o.isNone:=by cases o <;> rfl
structure ExA {α:Type} (r:R α) (s:S) (f:Fa) (ρ:En):Prop where
 ex: ∃(n:Nat) (s':S),r=.ex n ρ s'/\s'[n]?=some (.xcx "NoNet" [("word",.str f.1),("path",.da (pd f.2))])/\Ext s s'
theorem Ex.atA{α:Type}{r:R α}{f:Fa}(h:Ex r s f):ExA (r.at ρ) s f ρ:=by
 obtain⟨n,ρ',s',rfl,a,b⟩:=h.ex
 exact⟨n,s',rfl,a,b⟩
theorem ExA.bind{α β:Type}{r:R α}{f:Fa}{g:α -> S -> R β}(h:ExA r s f ρ):ExA (r.bind g) s f ρ:=by
 obtain⟨n,s',rfl,a,b⟩:=h.ex
 exact⟨n,s',rfl,a,b⟩
def tdB:FS:=(jp (jj (fOp amw (je 1 kc (ja (jb 0) jc)) (fC (.da (.bool true))))) (jl 1 (fC (.da (.none)))) jk)
def tdH:FS:=(jf (jl 2 (apy xb xcs ["NoAlike","NoJoin","NoMoment","NoText","TooMany"] (jb 3)))
  (jp (qh (j3 (fCB (af4 xb xcs) (ja (jb 3) (ja (fC (.fn "NoNet")) jc)))) (qh (j3 (fCB (af4 xb xcs) (ja (jb 3) (ja (fC (.ty "ValueError")) jc)))) (jw (j3 (jb 2))))) (jl 1 (jd (ja (afh xb xcs xfl "word" (jb 3)) (ja (afh xb xcs xfl "path" (jb 3)) jc)))) jk))
theorem a8r:B_law_told=(jf (jl 1 (jd (ja (fC (.da (.str "other"))) (ja (jd jc) jc)))) (jf (abc xb xcs "MannerError" (some 3) tdB tdH) (ji (jb 1)))):=rfl
theorem a54{a x y:Option D}{f:Fa}(h:s[n]?=some (.xcx "NoNet" [("word",.str f.1),("path",.da (pd f.2))])):tdH [a,x,y,some (.ref n)] s=.ok (.nx [a,some (faD (some f)),some (.bl false),some (.ref n)]) s:=by
 unfold tdH
 walk_at "ev"
 rw [a23 h (by decide+kernel) (by decide+kernel),show ((["NoAlike","NoJoin","NoMoment","NoText","TooMany"]:List Str).any fun y=> y=="NoNet"||y==xb)=false by decide+kernel]
 walk_at "ev"
 rw [a1s (y:="NoNet") h (by decide+kernel) (by decide+kernel),show (("NoNet":Str)=="NoNet"||("NoNet":Str)==xb)=true by decide+kernel]
 walk_at "ev"
 rw [awa h (by decide+kernel)]
 walk_at "ev"
 rw [amz h (x:=.str f.1) (by decide+kernel) (by decide+kernel) (by rw [cv,show (("word":Str)=="word")=true by decide+kernel])]
 walk_at "ev"
 rw [amz h (x:=.da (pd f.2)) (by decide+kernel) (by decide+kernel) (by rw [cv,show (("path":Str)=="word")=false by decide+kernel];rw [cv,show (("path":Str)=="path")=true by decide+kernel])]
 walk_at "ev"
 first|rfl|(rw [a15];rfl)
theorem a00(h:Gd d): ∃s',aa0 [.da d] s=.ok (faD (xt d)) s'/\Ext s s':=by
 rw [aql,a8r]
 have hr:=aov (s:=s) h
 unfold aqd at hr
 unfold xt
 walk_at "ev"
 generalize (D.tup [aI "other",bF []])=d0
 have good:kc [.da d] s=.ok (.bl true) s -> tdB [some (.da d),some d0,none,none] s=.ok (.nx [some (.da d),some (.da .none),none,none]) s:=fun e=> by
  unfold tdB
  walk_at "ev"
  rw [e]
  walk_at "ev"
  rw [a1o]
  rfl
 have bad: ∀f:Fa,Ex (kc [.da d] s) s f -> ∃(n:Nat) (s':S),tdB [some (.da d),some d0,none,none] s=.ex n [some (.da d),some d0,none,none] s'/\s'[n]?=some (.xcx "NoNet" [("word",.str f.1),("path",.da (pd f.2))])/\Ext s s':=fun f e=> by
  have:ExA (tdB [some (.da d),some d0,none,none] s) s f [some (.da d),some d0,none,none]:=by
   unfold tdB
   walk_at "ev"
   repeat (first|exact e.atA|apply ExA.bind)
  exact this.ex
 have fin: ∀f:Fa,Ex (kc [.da d] s) s f -> ∃s',((abc xb xcs "MannerError" (some 3) tdB tdH [some (.da d),some d0,none,none] s).bind (al2 (ji (jb 1)))).bind jq=.ok (faD (some f)) s'/\Ext s s':=fun f e=> by
  obtain⟨n,s',e1,e2,ex⟩:=bad f e
  refine⟨s',?_,ex⟩
  rw [as8 e1,a5h e2 (by decide+kernel) (by decide+kernel)]
  rw [show (List.set [some (.da d),some d0,none,none] 3 (some (D.ref n)))=[some (.da d),some d0,none,some (.ref n)] from rfl,a54 e2]
  rfl
 cases hf:ju 4 d []with
 |some f=>
  rw [hf]at hr
  exact fin f hr
 | none=>
  rw [hf]at hr
  have hr:if kd 4 d <=120 then kc [.da d] s=.ok (.bl true) s else Ex (kc [.da d] s) s ("many",[]):=hr
  show∃s',_=R.ok (faD (if kd 4 d <=120 then none else some (("many":Str),[]))) s'/\_
  by_cases h1:kd 4 d <=120
  ·rw [if_pos h1]at hr⊢
   refine⟨s,?_,Ext.refl _⟩
   rw [arj (good hr)]
   rfl
  ·rw [if_neg h1]at hr⊢
   exact fin _ hr
def rtT:FS:=(jf (jp (qy (jj (fOp gNe (fCB vm (ja (je 1 aa0 (ja (jb 0) jc)) jc)) (fCB vm (ja (jb 2) jc)))) (jj (fOp gNe (fCB vm (ja (je 1 aan (ja (jb 0) jc)) jc)) (fCB vm (ja (fOp gIs (jb 2) (fC (.da (.none)))) jc))))) (ji (fC (.da (.bool false)))) jk)
  (ji (fOp gEq (fCB vm (ja (jb 0) jc)) (jb 1))))
theorem a8a:B_law_right=(jf (jl 1 (fCB vm (ja (jb 0) jc)))
  (jf (jl 2 (je 3 (qf 8) (ja (jb 0) (ja (jd jc) (ja (fC (.da (.int 1))) jc)))))
  (jf (jp (qh (jj (fOp gIs (jb 2) (fC (.da (.none))))) (jj (fOp gGt (je 1 (vd 8) (ja (jb 0) jc)) (fC (.da (.int 120)))))) (jl 2 (jd (ja (fC (.da (.str "many"))) (ja (jd jc) jc)))) jk)
  rtT))):=rfl
theorem ama(h:Gd d): ∃s',xx [.da d] s=.ok (.bl true) s'/\Ext s s':=by
 obtain⟨s1,e1,x1⟩:=a00 (s:=s) h
 obtain⟨s2,e2,x2⟩:=a71 (s:=s1) h
 refine⟨s2,?_,x1.trans x2⟩
 rw [a0d]at e2
 have hg:=a47 h
 have tail:(rtT [some (.da d),some (.str d.shown),some (faD (xt d))] s).bind jq=.ok (.bl true) s2:=by
  unfold rtT
  walk_at "ev"
  rw [e1]
  walk_at "ev"
  rw [axy,afe hg]
  walk_at "ev"
  rw [afe hg]
  walk_at "ev"
  rw [ayz,show (!decide ((faP (xt d)).shown=(faP (xt d)).shown))=false by simp]
  walk_at "ev"
  rw [e2]
  walk_at "ev"
  rw [anh]
  walk_at "ev"
  rw [←axy,ayv]
  walk_at "ev"
  rw [anh]
  walk_at "ev"
  rw [ayz,show (!decide ((cj (xt d).isNone).shown=(cj (xt d).isNone).shown))=false by simp]
  walk_at "ev"
  rw [afe h]
  walk_at "ev"
  rw [a7w,decide_eq_true rfl]
  walk_at "ev"
 rw [an1,a8a]
 walk_at "ev"
 rw [afe h]
 walk_at "ev"
 rw [a1f h]
 walk_at "ev"
 rw [ayv]
 cases hf:ju 4 d []with
 |some f=>
  have hd:xt d=some f:=by unfold xt;rw [hf]
  rw [hd]at tail
  walk_at "ev"
  exact tail
 | none=>
  rw [show (none:Option Fa).isNone=true from rfl]
  walk_at "ev"
  rw [aoe 4 8 d [] s (by decide) h hf]
  walk_at "ev"
  by_cases h1:kd 4 d <=120
  ·have hd:xt d=none:=by unfold xt;rw [hf];exact if_pos h1
   rw [hd]at tail
   rw [decide_eq_false (show¬(120:Int) < (kd 4 d:Int) by lia)]
   walk_at "ev"
   exact tail
  ·have hd:xt d=some (("many":Str),[]):=by unfold xt;rw [hf];exact if_neg h1
   rw [hd]at tail
   rw [decide_eq_true (show (120:Int) < (kd 4 d:Int) by lia)]
   walk_at "ev"
   exact tail
structure SL (D B:Nat) (ds:List ag):Prop where
 al: ∀x∈ds,Lf 0 x/\x.depth <=D
 bk:aF ds <=B
theorem SL.nil{D:Nat}:SL D 0 []:=⟨fun x hx=> (by cases hx),by simp [aF]⟩
theorem SL.one{D:Nat}{x:ag}(h:Sm D B x):SL D (B+1) [x]:=⟨fun y hy=> by rw [aO.mp hy];exact⟨h.lf,h.dp⟩,by simp only [aF];have:=h.bk;lia⟩
theorem SL.app{D A:Nat}(h:SL D A xs)(k:SL D B ys):SL D (A+B) (xs++ys):=⟨fun x hx=> (bg.mp hx).elim (h.al x) (k.al x),by rw [aaq];have:=h.bk;have:=k.bk;lia⟩
theorem SL.cons{D A:Nat}{x:ag}(h:Sm D A x)(k:SL D B ys):SL D (A+1+B) (x::ys):=(SL.one h).app k
theorem SL.mono{D D' B':Nat}(h:SL D B xs)(hD:D <=D')(hB:B <=B'):SL D' B' xs:=⟨fun x hx=> ⟨(h.al x hx).1,ax (h.al x hx).2 hD⟩,ax h.bk hB⟩
theorem SL.of{D:Nat}(h: ∀x∈xs,Sm D B x)(hl:xs.length <=k):SL D (k*(B+1)) xs:=⟨fun x hx=> ⟨(h x hx).lf,(h x hx).dp⟩,ax (ads fun x hx=> (h x hx).bk) (il _ hl)⟩
theorem SL.tup{D:Nat}(h:SL D B xs)(hl:xs.length <=140)(hw:wN xs <=30):Sm (D+1) B (.tuple xs):=by
 refine⟨.tup (by lia) hw fun x hx=> (h.al x hx).1,?_,by simp only [aW];exact h.bk⟩
 simp only [aE]
 have:=vg fun x hx=> (h.al x hx).2
 lia
theorem a1h(h: ∀x∈ds,vz x=false):wN ds=0:=by
 unfold wN
 rw [List.filter_eq_nil_iff.mpr fun x hx=> by rw [h x hx];exact aw]
 rfl
theorem aud{x:ag}(hk:k < 1000)(s:S):aht false (.tup [x]) (.int (k:Int)) s=.ok (.tup (aA k x)) s:=by
 show (if -1000 < (k:Int)/\(k:Int) < 1000/\ [x].length < 1000/\ [x]≠ [] then R.ok (D.tup (aA (k:Int).toNat [x]).flatten) s else .bad)=_
 rw [if_pos ⟨by lia,by lia,by simp,by simp⟩,cH,List.flatten_replicate_singleton]
theorem apc: ∀x∈(["both","drain","either","net","a","b","c","ab"]:List Str),asc x=true/\x.cps.size <=6:=by decide+kernel
theorem ad7{x:Str}(h:x∈(["both","drain","either","net","a","b","c","ab"]:List Str)):Sm 0 9 (.str x):=af2 (apc x h).1 (by have:=(apc x h).2;exact ax this (by decide))
theorem afq{w a b:Str}(hw:w∈(["both","drain","either","net","a","b","c","ab"]:List Str))(ha:a∈(["both","drain","either","net","a","b","c","ab"]:List Str))(hb:b∈(["both","drain","either","net","a","b","c","ab"]:List Str)):Sm 1 30 (.tuple [.str w,.str a,.str b]):=kl (ad7 hw) (ad7 ha) (ad7 hb)
theorem af5{a:Str}(ha:a∈(["both","drain","either","net","a","b","c","ab"]:List Str)):Sm 1 10 (.tuple [.str a]):=(SL.one (ad7 ha)).tup (by simp) (ax (ac7 _) (by simp))
structure DpQ (s0:S) (n c:Nat) (d:D) (s:S):Prop where
 ex: ∃e:ag,d=.da e/\Sm 16 5400 e/\Shp e/\Fd s n c/\j8 n s0 s
structure DpJ (s0:S) (n c M:Nat) (A1:Option D) (r:List D) (ρ:En) (s:S):Prop where
 ex: ∃(k c':Nat) (ps:List ag) (u v:Option D),ρ=[some (.ref n),A1,some (.tup [.int 2,.tuple [.str "a"],.tuple ps]),u,v]/\k+r.length=M/\Sm (3*k+3) (200+1000*k) (.tuple [.int 2,.tuple [.str "a"],.tuple ps])/\SL (3*k+1) (180+1000*k) ps/\ps.length <=5/\Fd s n c'/\c'+40*r.length <=c+40*M/\j8 n s0 s
def dpB:FS:=(jf (jl 4 (fLc false [0] 1 (y0 (ja (je 2 jh (ja (jb 0) (ja (fC (.da (.int 3))) jc))) jc)) (.nm 0) acx (je 3 xu (ja (jb 1) (ja (fC (.da (.int 2))) (ja (ko false (fVs (bH D.da [.str "a",.str "b",.str "c"]))) jc))))))
  (jf (jl 2 (jd (ja (fC (.da (.int 2))) (ja (jd (ja (fC (.da (.str "ab"))) jc)) (ja (fOp (jr false) (fCB vf (ja (jb 4) jc)) (jd (ja (jd (ja (fC (.da (.str "net"))) (ja (jb 2) (ja (jd (ja (fOp gIx (ko false (fVs (bH D.da [.str "ab",.str "c"]))) (je 2 jh (ja (jb 0) (ja (fC (.da (.int 2))) jc)))) jc)) jc)))) jc))) jc)))))
  (jf (jp (jj (fOp gEq (je 2 jh (ja (jb 0) (ja (fC (.da (.int 2))) jc))) (fC (.da (.int 0))))) (jl 2 (jd (ja (fC (.da (.int 2))) (ja (jd (ja (fC (.da (.str "ab"))) jc)) (ja (fOp (jr false) (fOp gIx (jb 2) (fC (.da (.int 2)))) (jd (ja (jd (fVs (bH D.da [.str "either",.str "ab",.str "b"]))) jc))) jc))))) jk)
  (jl 2 (jd (ja (fC (.da (.int 2))) (ja (jd (ja (fC (.da (.str "a"))) jc)) (ja (fOp (jr false) (jd (ja (jd (fVs (bH D.da [.str "both",.str "a",.str "ab"]))) jc)) (fOp gIx (jb 2) (fC (.da (.int 2))))) jc))))))))
structure AhJ (s:S) (n c:Nat) (r acc:List D) (s':S):Prop where
 ex: ∃(L:List ag) (c':Nat),acc=L.map D.da/\(∀x∈L,Sm 2 170 x)/\L.length+r.length <=2/\Fd s' n c'/\c'+8*r.length <=c+16/\j8 n s s'
theorem atz:(["a","b","c"]:List Str).Nodup/\ ∀x∈(["a","b","c"]:List Str),prB x=true:=by decide+kernel
theorem azc{s0:S}{M:Nat}{A1:Option D}{d:D}{Q:Fl -> S -> Prop}(hM:M <=4)(hc:c+1000 < 2^40)(J:DpJ s0 n c M A1 (d::r) ρ s): ∃ρ1,vh (.nm 3) d ρ=some ρ1/\(dpB ρ1 s).W (flW (DpJ s0 n c M A1 r) Q):=by
 obtain⟨k,c',ps,u,v,rfl,hk,hs,hps,hl,fd,hcc,sm⟩:=J
 simp only [aK]at hk hcc
 refine⟨[some (.ref n),A1,some (.tup [.int 2,.tuple [.str "a"],.tuple ps]),some d,v],rfl,?_⟩
 unfold dpB
 walk_at "go"
 refine R.W_mono (j5 fd (by decide) (by decide) (by lia)) ?_
 rintro _ s1 ⟨i,rfl,i0,i1,fd1,sm1⟩
 obtain⟨q,rfl⟩:=ze i (by assumption)
 walk_at "go"
 rw [ab6 (by lia) (by lia),cH]
 walk_at "go"
 rw [zf (ρ0:=[none,some (.ref n)]) (by rw [kx];lia) rfl,R.W_bindk]
 refine R.W_mono (abo (Q:=fun xs s'=> ∃L:List ag,xs=L.map D.da/\(∀x∈L,Sm 2 170 x)/\L.length <=2/\Fd s' n (c'+17)/\j8 n s0 s') (AhJ s0 n (c'+1)) ?_ ?_ _ [] s1 ⟨[],c'+1,rfl,(fun _ h=> by cases h),by rw [kx];simp;lia,fd1,by rw [kx];lia,sm.trans sm1⟩) ?_
 ·rintro d' r' acc s' ⟨L,c2,rfl,hL,hlen,fd2,hc2,sm2⟩
  simp only [aK]at hlen hc2
  refine⟨[some d',some (.ref n)],rfl,?_⟩
  walk_at "go"
  refine R.W_mono (ap1 (m:=2) (ps:=["a","b","c"]) fd2 (by decide) (by decide) (by decide) (by decide) atz.1 (by simp;lia)) ?_
  rintro _ s3 ⟨p,qs,rfl,hd,fd3,sm3⟩
  refine⟨L++ [p],c2+8,by simp,?_,by simp;lia,fd3,by lia,sm2.trans sm3⟩
  intro z hz
  rcases bg.mp hz with w|w
  ·exact hL z w
  ·rw [aO.mp w];exact aoz hd (by decide) atz.2
 ·rintro acc s' ⟨L,c2,rfl,hL,hlen,fd2,hc2,sm2⟩
  exact⟨L,rfl,hL,by simpa using hlen,fd2.le (by simp at hc2;lia),sm2⟩
 ·rintro xs s2 ⟨L,e,hL,hlen,fd2,sm2⟩
  rw [cB]at e
  subst e
  walk_at "go"
  refine R.W_mono (j5 fd2 (by decide) (by decide) (by lia)) ?_
  rintro _ s3 ⟨j,rfl,j0,j1,fd3,sm3⟩
  obtain⟨z,⟨y,rfl,hy⟩,ez⟩:=ixP (s:=s3) (L:=[.str "ab",.str "c"]) (P:=fun x=> ∃y:Str,x=.str y/\y∈(["both","drain","either","net","a","b","c","ab"]:List Str)) j0 j1 (by
   intro x hx
   (simp only [aq,bf,or_false]at hx)
   rcases hx with rfl|rfl
   ·exact⟨_,rfl,by simp⟩
   ·exact⟨_,rfl,by simp⟩)
  walk_at "go"
  rw [ez]
  walk_at "go"
  rw [qz (by simp;lia)]
  walk_at "go"
  refine R.W_mono (j5 fd3 (by decide) (by decide) (by lia)) ?_
  rintro _ s4 ⟨h,rfl,h0,h1,fd4,sm4⟩
  have nt:Sm (3*k+4) (230+1000*k) (.tuple [.str "net",.tuple [.int 2,.tuple [.str "a"],.tuple ps],.tuple [.str y]]):=(kl (D:=3*k+3) ((ad7 (x:="net") (by simp)).mono (by lia) (ao _)) hs ((af5 hy).mono (by lia) (ao _))).mono (by lia) (by lia)
  have l1:SL (3*k+4) (342+(231+1000*k)) (L++ [.tuple [.str "net",.tuple [.int 2,.tuple [.str "a"],.tuple ps],.tuple [.str y]]]):=((SL.of hL hlen).mono (by lia) (by lia)).app ((SL.one nt).mono (ao _) (by lia))
  have ei:=SL.one ((afq (w:="either") (a:="ab") (b:="b") (by simp) (by simp) (by simp)).mono (show 1 <=3*k+4 by lia) (ao _))
  walk_at "go"
  rw [zw]
  have fin: ∀qs:List ag,SL (3*k+4) (620+1000*k) qs -> qs.length <=4 -> DpJ s0 n c M A1 r [some (.ref n),A1,some (.tup [.int 2,.tuple [.str "a"],.tuple (.tuple [.str "both",.str "a",.str "ab"]::qs)]),some d,some (.lst L)] s4:=fun qs hq hql=> by
   have a1:=SL.cons ((afq (w:="both") (a:="a") (b:="ab") (by simp) (by simp) (by simp)).mono (show 1 <=3*k+4 by lia) (ao _)) hq
   have a2:=a1.tup (by simp;lia) (ax (ac7 _) (by simp;lia))
   have a3:=(kl (D:=3*k+5) ((ab1 (i:=2) (by decide)).mono (by lia) (ao _)) ((af5 (a:="a") (by simp)).mono (by lia) (ao _)) a2)
   exact⟨k+1,c'+20,_,_,_,rfl,by lia,a3.mono (by lia) (by lia),a1.mono (by lia) (by lia),by simp;lia,fd4.le (by lia),by lia,(sm2.trans sm3).trans sm4⟩
  by_cases hh:h=0
  ·rw [decide_eq_true hh]
   walk_at "go"
   rw [qz (by simp;lia)]
   walk_at "go"
   rw [qz (by simp;lia)]
   walk_at "go"
   have z:=fin _ ((l1.app ei).mono (D':=3*k+4) (B':=620+1000*k) (by lia) (by lia)) (by simp;lia)
   simp only [cx,cD,cB]at z
   exact z
  ·rw [decide_eq_false hh]
   walk_at "go"
   rw [qz (by simp;lia)]
   walk_at "go"
   exact fin _ (l1.mono (by lia) (by lia)) (by simp;lia)
theorem azr{m:Nat}(h:Fd s n c)(hm:3 <=m)(hm5:m <=5)(hc:c+2000 < 2^40):(aa1 [.ref n,.int (m:Int)] s).W (DpQ s n (c+160)):=by
 rw [aqm,show B_law_deep=(jf (jl 2 (jd (ja (fC (.da (.int 2))) (ja (jd (ja (fC (.da (.str "a"))) jc)) (ja (jd (ja (jd (fVs (bH D.da [.str "both",.str "a",.str "b"]))) jc)) jc)))))
  (jf (xl (y0 (ja (fOp v9 (jb 1) (fC (.da (.int 1)))) jc)) (.nm 3) dpB)
  (ji (jb 2)))) from rfl]
 walk_at "go"
 rw [ab6 (by lia) (by lia),show ((m:Int) - 1).toNat=m - 1 by lia]
 walk_at "go"
 have b0:=afq (w:="both") (a:="a") (b:="b") (by simp) (by simp) (by simp)
 have b1:=(SL.one b0).tup (by simp) (ax (ac7 _) (by simp))
 have b2:=kl (D:=2) ((ab1 (i:=2) (by decide)).mono (by decide) (ao _)) ((af5 (a:="a") (by simp)).mono (by decide) (ao _)) b1
 refine yi (DpJ s n c (m - 1) (some (.int (m:Int)))) (fun d r ρ s J=> azc (by lia) (by lia) J) ?_ _ _ _ ⟨0,c,[.tuple [.str "both",.str "a",.str "b"]],_,_,rfl,by rw [kx];lia,b2.mono (by decide) (by decide),(SL.one b0).mono (by decide) (by decide),by simp,h,by rw [kx];lia,j8.refl _ _⟩
 rintro ρ s1 ⟨k,c',ps,u,v,rfl,hk,hs,hps,hl,fd,hcc,sm⟩
 simp only [dZ,kG,Nat.mul_zero]at hk hcc
 walk_at "go"
 exact⟨_,rfl,hs.mono (by lia) (by lia),⟨_,_,_,rfl,by simp,by decide,by decide⟩,fd.le (by lia),sm⟩
theorem ax8(h:Fd s n c)(hc:c+10 < 2^40):(y9 [.ref n] s).W (DpQ s n (c+3)):=by
 rw [an5];unfold B_law_great
 walk_at "go"
 refine R.W_mono (j5 h (by decide) (by decide) (by lia)) ?_
 rintro _ s1 ⟨i,rfl,i0,i1,fd1,sm1⟩
 obtain⟨a,rfl⟩:=ze i (by assumption)
 walk_at "go"
 refine R.W_mono (j5 fd1 (by decide) (by decide) (by lia)) ?_
 rintro _ s2 ⟨i,rfl,j0,j1,fd2,sm2⟩
 obtain⟨b,rfl⟩:=ze i (by assumption)
 walk_at "go"
 rw [aud (by lia)]
 walk_at "go"
 rw [show (119+(a:Int) - (b:Int) - 1)=((118+a - b:Nat):Int) by lia,aud (by lia)]
 walk_at "go"
 rw [fy]
 refine R.W_mono (j5 fd2 (by lia) (by lia) (by lia)) ?_
 rintro _ s3 ⟨i,rfl,l0,l1,fd3,sm3⟩
 obtain⟨t,rfl⟩:=ze i (by assumption)
 walk_at "go"
 rw [y8]
 rw [qz (by simp;lia)]
 walk_at "go"
 rw [zt]
 rw [qz (by simp;lia)]
 walk_at "go"
 have ht:t <=118+a - b:=by lia
 generalize hk:118+a - b=k at ht
 have er: ∀x∈aA k (bF [.str "either",.str "a",.str "b"]),Sm 1 30 x:=fun x hx=> by rw [gl hx];exact afq (by simp) (by simp) (by simp)
 have dn: ∀x∈aA b (bF [.str "drain",.str "a",.str "b"]),Sm 1 30 x:=fun x hx=> by rw [gl hx];exact afq (by simp) (by simp) (by simp)
 have w0: ∀{k:Nat} {y:List ag},wN (aA k (.tuple y))=0:=fun {k y}=> a1h fun x hx=> by rw [gl hx];rfl
 have i1:=(SL.of dn (k:=40) (by simp;lia)).tup (by simp;lia) (by rw [w0];lia)
 have i2:=kl (D:=2) ((ab1 (i:=1) (by decide)).mono (by decide) (ao _)) ((af5 (a:="a") (by simp)).mono (by decide) (ao _)) i1
 have i3:=kl (D:=3) ((ad7 (x:="net") (by simp)).mono (by decide) (ao _)) i2 ((af5 (a:="c") (by simp)).mono (by decide) (ao _))
 have p1:SL 4 (t*31) ((aA k (bF [.str "either",.str "a",.str "b"])).take t):=(SL.of (fun x hx=> er x (cc hx)) (k:=t) (by rw [bV];lia)).mono (by decide) (ao _)
 have p2:SL 4 ((k - t)*31) ((aA k (bF [.str "either",.str "a",.str "b"])).drop t):=(SL.of (fun x hx=> er x (cC hx)) (k:=k - t) (by rw [eG,fy];lia)).mono (by decide) (ao _)
 have p3:=(p1.app (SL.one i3)).app p2
 have z1:=afs (aA k (bF [.str "either",.str "a",.str "b"])) t
 have z2:=ac7 [bF [.str "net",.tuple [.int 1,.tuple [.str "a"],.tuple (aA b (.tuple [.str "drain",.str "a",.str "b"]))],.tuple [.str "c"]]]
 rw [w0]at z1
 have p4:=p3.tup (by simp;lia) (by rw [y7,y7];simp only [gX]at z2;lia)
 have n1:Sm 5 0 (.tuple []):=(SL.nil (D:=4)).tup (by simp) (by simp [wN])
 have p5:=kl (D:=5) ((ab1 (i:=1) (by decide)).mono (by decide) (ao _)) n1 p4
 have e1:t*31+(k - t)*31 <=3800:=by lia
 have p6:=p5.mono (D':=16) (B':=5400) (by decide) (by lia)
 refine⟨_,rfl,?_,⟨_,_,_,rfl,by simp,by decide,by decide⟩,fd3,(sm1.trans sm2).trans sm3⟩
 simpa using p6
theorem af8{g:Tg}{fb:FS}{p:Wk}{Q:Fl -> S -> Prop}(J:List D -> En -> S -> Prop)(src: ∀r ρ s,J r ρ s -> xa p s)
  (step: ∀d r ρ s,J (d::r) ρ s -> ∃ρ1,vh g d ρ=some ρ1/\(fb ρ1 s).W (flW (J r) Q)) (fin: ∀ρ s,J [] ρ s -> Q (.nx ρ) s):
  ∀(ds:List D) (ρ:En) (s:S),J ds ρ s -> (qv g fb p ds ρ s).W Q
 |[],ρ,s,h=> fin ρ s h
 | d::r,ρ,s,h=> by
  obtain⟨ρ1,e,w⟩:=step d r ρ s h
  rw [ab9 e,R.W_bind]
  refine R.W_mono w fun fl s1 q=> ?_
  cases fl with
  |nx ρ2=>
   have q:J r ρ2 s1:=q
   rw [show ae1 g fb p r (.nx ρ2) s1=qv g fb p r ρ2 s1 from aap (src _ _ _ q)];exact af8 J src step fin r ρ2 s1 q
  |ct ρ2=>
   have q:J r ρ2 s1:=q
   rw [show ae1 g fb p r (.ct ρ2) s1=qv g fb p r ρ2 s1 from aap (src _ _ _ q)];exact af8 J src step fin r ρ2 s1 q
  |bk ρ2=> rw [ao4];exact q
  |rt d=> rw [ann];exact q
theorem a1q(ns:List Int):(aa4 [.frz (ns.map aG)] []).W fun d s'=> d=.ref 0/\Fd s' 0 0:=by
 rw [aqt];unfold B_law_feed
 walk_at "go"
 refine⟨trivial,ns.take 63,0,0,0,?_,by simp;lia,by decide,by decide,by decide⟩
 rw [aas,show (63:Int)=((63:Nat):Int) from rfl,y8]
 rfl
theorem Sm.gd{D:Nat}(h:Sm D B d)(h1:D <=60)(h2:B <=340000):Gd d:=⟨h.lf.mono (by decide),ax h.dp h1,ax h.bk h2⟩
noncomputable def abg:List ag:=[.str "a",.str "b",.str "c",.str "d",.str "e",.str "f",.str "g"]
noncomputable def nl:ag:=.tuple []
def ah3:List ag:=[.none,nl,.tuple [.int 1,nl,nl],.list [.int 1,nl,nl],.tuple [.int 0,nl,nl],.tuple [.bool true,nl,nl],.tuple [.int 4,nl,nl],.tuple [.int 1,.list [],nl],.str "net"]
def aqu:List ag:=[.tuple [.int 1,.tuple abg,nl],.tuple [.int 3,.tuple (abg.drop 1),nl],.tuple [.int 2,nl,.tuple [.tuple [.str "net",.tuple [.int 2,.tuple abg,nl],.tuple abg]]]]
theorem ahw:Sm 1 70 (.tuple abg)/\Sm 1 70 (.tuple (abg.drop 1)):=by
 have lit: ∀x∈(["a","b","c","d","e","f","g"]:List Str),asc x=true/\x.length <=9:=by decide+kernel
 have h: ∀x∈abg,Sm 0 9 x:=fun x hx=> by
  obtain⟨y,hy,rfl⟩:=bj.mp (show x∈(["a","b","c","d","e","f","g"]:List Str).map aI from hx)
  exact af2 (lit y hy).1 (lit y hy).2
 exact⟨(yn (k:=7) h (by decide) (by decide)),(yn (k:=7) (fun x hx=> h x (cC hx)) (by decide) (by decide))⟩
theorem azj: ∀x∈ah3++aqu,Gd x:=by
 have n1:Sm 1 0 nl:=(SL.nil (D:=0)).tup (by simp) (by simp [wN])
 have it: ∀{i:Int},i.natAbs <=1000 -> Sm 1 9 (.int i):=fun h=> (ab1 h).mono (by decide) (ao _)
 have up: ∀{D B:Nat} {d:ag},Sm D B d -> D <=60 -> B <=340000 -> Gd d:=fun h=> h.gd
 have wd:Sm 3 9 (.str "net"):=(yu (by simp)).mono (by decide) (by decide)
 intro x hx
 simp only [ah3,aqu,cD,cB,aq,bf,or_false]at hx
 rcases hx with rfl|rfl|rfl|rfl|rfl|rfl|rfl|rfl|rfl|rfl|rfl|rfl
 ·exact⟨.none,by simp [aE],by simp [aW]⟩
 ·exact up n1 (by decide) (by decide)
 ·exact up (kl (it (by decide)) n1 n1) (by decide) (by decide)
 ·have t:=kl (it (i:=1) (by decide)) n1 n1
  refine⟨.lst (by simp) ?_,ax t.dp (by decide),ax t.bk (by decide)⟩
  exact acs ((it (by decide)).lf.mono (by decide)) (n1.lf.mono (by decide)) (n1.lf.mono (by decide))
 ·exact up (kl (it (by decide)) n1 n1) (by decide) (by decide)
 ·exact up (kl (D:=1) (A:=0) ⟨.bool _,by simp [aE],by simp [aW]⟩ n1 n1) (by decide) (by decide)
 ·exact up (kl (it (by decide)) n1 n1) (by decide) (by decide)
 ·exact up (kl (D:=1) (B:=0) (it (by decide)) ⟨.lst (by simp) (fun x h=> by cases h),by simp [aE,aS],by simp [aW,aF]⟩ n1) (by decide) (by decide)
 ·exact up wd (by decide) (by decide)
 ·exact up (kl (it (by decide)) ahw.1 n1) (by decide) (by decide)
 ·exact up (kl (it (by decide)) ahw.2 n1) (by decide) (by decide)
 ·have a:=kl (it (i:=2) (by decide)) ahw.1 n1
  have b:=kl (D:=2) ((yu (x:="net") (by simp)).mono (D':=2) (B':=9) (by decide) (ao _)) a (ahw.1.mono (by decide) (ao _))
  have c:=(SL.one b).tup (by simp) (ax (ac7 _) (by simp))
  exact up (kl (D:=4) ((it (i:=2) (by decide)).mono (by decide) (ao _)) (n1.mono (by decide) (ao _)) c) (by decide) (by decide)
noncomputable def Bj:Nat -> Nat
 |0=> 42000
 |j+1=> 2*Bj j+60
structure Lv (j:Nat) (x:ag):Prop where
 lf:Lf j x
 bk:x.bulk <=Bj j
 dp:x.depth <=16+2*j
theorem Lv.up{x:ag}(h:Lv j x):Lv (j+1) x:=⟨h.lf.mono (by lia),by have:=h.bk;show _ <=2*Bj j+60;lia,by have:=h.dp;lia⟩
theorem a6f: ∀j:Nat,j <=3 -> Bj j <=336420:=by decide
theorem Lv.gd{x:ag}(h:Lv j x)(hj:j <=3):Gd x:=⟨h.lf.mono hj,by have:=h.dp;lia,ax h.bk (ax (a6f j hj) (by decide))⟩
structure BvQ (s:S) (k c j:Nat) (r:D) (s':S):Prop where
 ex: ∃d',r=.da d'/\Lv j d'/\Fd s' k c/\j8 k s s'
theorem aia{x:ag}(fd:Fd s k c)(h:Lv j x)(hj:j <=2)(hc:c+1000 < 2^40):(jt 24 [.ref k,.da x] s).W (BvQ s k (c+192) (j+1)):=by
 have:=h.dp
 refine R.W_mono (ao1 24 fd h.lf h.bk (by lia) (by lia) (by decide) (by lia)) ?_
 rintro _ s1 ⟨b,rfl,kb,fd1,sm1⟩
 exact⟨b,rfl,⟨kb.lf,kb.bk,by have:=kb.dp;lia⟩,fd1,sm1⟩
structure NtX (x:ag):Prop where
 sm:Sm 16 42000 x
 sh:Shp x
theorem NtX.lv{x:ag}(h:NtX x):Lv 0 x:=⟨h.sm.lf,h.sm.bk,h.sm.dp⟩
def lwA:FS:=(jp (jw (j3 (je 1 xx (ja (jb 4) jc)))) (ji (fC (.da (.bool false)))) jk)
structure LaJ (A0 A2 A3:Option D) (r:List D) (ρ:En) (s:S):Prop where
 ex: ∃(ds:List ag) (u:Option D),r=ds.map D.da/\(∀x∈ds,Gd x)/\ρ=[A0,some (.ref 0),A2,A3,u,none,none,none,none,none,none,none]/\Fd s 0 0
theorem a1b{A0 A2 A3:Option D}{d:D}{Q:Fl -> S -> Prop}(J:LaJ A0 A2 A3 (d::r) ρ s): ∃ρ1,vh (.nm 4) d ρ=some ρ1/\(lwA ρ1 s).W (flW (LaJ A0 A2 A3 r) Q):=by
 obtain⟨ds,u,er,hd,rfl,fd⟩:=J
 cases ds with
 |nil=> cases er
 |cons x ds=>
  rw [aL,eU]at er
  obtain⟨rfl,rfl⟩:=er
  refine⟨[A0,some (.ref 0),A2,A3,some (.da x),none,none,none,none,none,none,none],rfl,?_⟩
  obtain⟨s',e,ex⟩:=ama (s:=s) (hd x aD)
  unfold lwA
  walk_at "go"
  rw [e]
  walk_at "go"
  exact⟨ds,_,rfl,fun y hy=> hd y (aB _ hy),rfl,fd.ext ex⟩
structure LrJ (s0:S) (c a:Nat) (L:List ag) (A0 A2 A3 A5 A6 A8 A9 A10 A11:Option D) (r:List D) (ρ:En) (s:S):Prop where
 ex: ∃(ds:List ag) (u:Option D),r=ds.map D.da/\(∀x∈ds,Gd x)/\ρ=[A0,some (.ref 0),A2,A3,u,A5,A6,some (.ref a),A8,A9,A10,A11]/\Fd s 0 c/\Ext s0 s
theorem a11{s0:S}{a:Nat}{A0 A2 A3 A5 A6 A8 A9 A10 A11:Option D}{d:D}{Q:Fl -> S -> Prop}(J:LrJ s0 c a L A0 A2 A3 A5 A6 A8 A9 A10 A11 (d::r) ρ s): ∃ρ1,vh (.nm 4) d ρ=some ρ1/\(lwA ρ1 s).W (flW (LrJ s0 c a L A0 A2 A3 A5 A6 A8 A9 A10 A11 r) Q):=by
 obtain⟨ds,u,er,hd,rfl,fd,x0⟩:=J
 cases ds with
 |nil=> cases er
 |cons x ds=>
  rw [aL,eU]at er
  obtain⟨rfl,rfl⟩:=er
  refine⟨[A0,some (.ref 0),A2,A3,some (.da x),A5,A6,some (.ref a),A8,A9,A10,A11],rfl,?_⟩
  obtain⟨s',e,ex⟩:=ama (s:=s) (hd x aD)
  unfold lwA
  walk_at "go"
  rw [e]
  walk_at "go"
  exact⟨ds,_,rfl,fun y hy=> hd y (aB _ hy),rfl,fd.ext ex,x0.trans ex⟩
def lwT:FS:=(qo (fMt kz (jb 7) (ja (je 2 (jt 24) (ja (jb 1) (ja (fOp gIx (jb 7) (je 2 jh (ja (jb 1) (ja (fCB jv (ja (jb 7) jc)) jc)))) jc))) jc)))
structure LtJ (c a:Nat) (A0 A2 A3 A4 A5 A6 A9 A10 A11:Option D) (r:List D) (ρ:En) (s:S):Prop where
 ex: ∃(j c':Nat) (L:List ag) (u:Option D),j+r.length=3/\L.length=j+1/\(∀x∈L,Lv j x)/\s[a]?=some (.lst (L.map D.da))/\ρ=[A0,some (.ref 0),A2,A3,A4,A5,A6,some (.ref a),u,A9,A10,A11]/\Fd s 0 c'/\c'+200*r.length <=c+600/\0 < a
theorem aza{a:Nat}{A0 A2 A3 A4 A5 A6 A9 A10 A11:Option D}{d:D}{Q:Fl -> S -> Prop}(hc:c+5000 < 2^40)(J:LtJ c a A0 A2 A3 A4 A5 A6 A9 A10 A11 (d::r) ρ s): ∃ρ1,vh (.nm 8) d ρ=some ρ1/\(lwT ρ1 s).W (flW (LtJ c a A0 A2 A3 A4 A5 A6 A9 A10 A11 r) Q):=by
 obtain⟨j,c',L,u,hj,hl,hL,ha,rfl,fd,hcc,a0⟩:=J
 simp only [aK]at hj hcc
 refine⟨[A0,some (.ref 0),A2,A3,A4,A5,A6,some (.ref a),some d,A9,A10,A11],rfl,?_⟩
 have la:=(aC.mp ha).1
 unfold lwT
 walk_at "go"
 rw [abl ha]
 walk_at "go"
 rw [aiw ha]
 walk_at "go"
 rw [am]
 refine R.W_mono (j5 fd (by lia) (by lia) (by lia)) ?_
 rintro _ s1 ⟨i,rfl,i0,i1,fd1,sm1⟩
 obtain⟨q,rfl⟩:=ze i (by assumption)
 have hq:q < L.length:=by lia
 have ha1:s1[a]?=some (.lst (L.map D.da)):=by rw [sm1.get _ (by lia) la];exact ha
 walk_at "go"
 rw [aic ha1 (show (L.map D.da)[q]?=some (.da L[q]) by rw [aR,au hq];rfl)]
 walk_at "go"
 refine R.W_mono (aia fd1 (hL _ (cE hq)) (by lia) (by lia)) ?_
 rintro _ s2 ⟨b,rfl,hb,fd2,sm2⟩
 have ha2:s2[a]?=some (.lst (L.map D.da)):=by rw [sm2.get _ (by lia) (aC.mp ha1).1];exact ha1
 walk_at "go"
 rw [yh ha2 (by rw [am];lia)]
 walk_at "go"
 refine⟨j+1,c'+1+192,L++ [b],_,by lia,by simp;lia,?_,?_,rfl,fd2.set (by lia),by lia,a0⟩
 ·intro x hx
  rcases bg.mp hx with z|z
  ·exact (hL x z).up
  ·rw [aO.mp z];exact hb
 ·rw [bn (aC.mp ha2).1];simp
def lwS:FS:=(jf (aq5 9 10 (ja (je 2 (jt 24) (ja (jb 1) (ja (jb 6) jc))) (ja (je 2 (jt 24) (ja (jb 1) (ja (jb 6) jc))) jc)))
  (jf (jl 11 (fCB vf (ja (fSl false (ko false (fVs (bH D.da [.str "a",.str "b",.str "c",.str "d",.str "e",.str "f"]))) fNo (kh (fCB jv (ja (fOp gIx (jb 6) (fC (.da (.int 1)))) jc)))) jc)))
  (jf (qo (fMt kz (jb 7) (ja (jd (ja (fOp gIx (jb 6) (fC (.da (.int 0)))) (ja (jd jc) (ja (jd (ja (jd (ja (fC (.da (.str "net"))) (ja (jb 9) (ja (jb 11) jc)))) (ja (jd (ja (fC (.da (.str "net"))) (ja (jb 10) (ja (jb 11) jc)))) jc))) jc)))) jc)))
  (jf (qo (fMt kz (jb 7) (ja (jd (ja (fOp gIx (jb 6) (fC (.da (.int 0)))) (ja (jd jc) (ja (jd (ja (jd (ja (fC (.da (.str "net"))) (ja (jb 6) (ja (jb 11) jc)))) (ja (jd (ja (fC (.da (.str "net"))) (ja (jb 10) (ja (jb 11) jc)))) (ja (jd (fVs (bH D.da [.str "both",.str "a",.str "a"]))) jc)))) jc)))) jc)))
  (xl (fIt (jb 7)) (.nm 4) lwA)))))
def lwN:FS:=(jf (jl 7 (ko true (ja (jb 6) jc)))
  (jf (xl (y0 (ja (fC (.da (.int 3))) jc)) (.nm 8) lwT) lwS))
theorem a57(k:Nat):Sm 1 60 (.tuple (([.str "a",.str "b",.str "c",.str "d",.str "e",.str "f"]:List ag).take k)):=by
 have lit: ∀x∈(["a","b","c","d","e","f"]:List Str),asc x=true/\x.length <=9:=by decide+kernel
 refine yn (D:=0) (B:=9) (k:=6) (fun x hx=> ?_) (by rw [bV];simp;lia) (by decide)
 obtain⟨y,hy,rfl⟩:=bj.mp (show x∈(["a","b","c","d","e","f"]:List Str).map aI from cc hx)
 exact af2 (lit y hy).1 (lit y hy).2
theorem ap2{b:ag}{ts:List ag}{x y:ag}(hm0:0 <=m)(hm:m <=3)(hx:Lv 1 x)(hy:Lv 1 y)(ht:Sm 1 60 (.tuple ts))(more:List ag)(hmo:more=[]\/more=[.tuple [.str "both",.str "a",.str "a"]]):
  Gd (.tuple [.int m,.tuple [],.tuple (.tuple [.str "net",x,.tuple ts]:: .tuple [.str "net",y,.tuple ts]::more)]):=by
 have nw:=(yu (x:="net") (by simp))
 have sh: ∀{z:ag},Lv 1 z -> Lf 1 (.tuple [.str "net",z,.tuple ts])/\(bF [.str "net",z,.tuple ts]).depth <=19/\(bF [.str "net",z,.tuple ts]).bulk <=84200:=fun {z} hz=> by
  refine⟨.tup (by simp) (ax (bO _ _) (by simp)) (acs (nw.lf.mono (by decide)) hz.lf (ht.lf.mono (by decide))),?_,?_⟩
  ·simp only [aE]
   have:=vg (n:=18) (acs (P:=fun x=> x.depth <=18) (ax nw.dp (by decide)) hz.dp (ax ht.dp (by decide)))
   lia
  ·simp only [aW,aF]
   have a:=nw.bk
   have b:=hz.bk
   have c:=ht.bk
   simp only [aW]at a c
   have:Bj 1=84060:=rfl
   lia
 have bo:=afq (w:="both") (a:="a") (b:="a") (by simp) (by simp) (by simp)
 have mo:(∀z∈more,Lf 1 z/\z.depth <=19)/\aF more <=40/\more.length <=1:=by
  rcases hmo with rfl|rfl
  ·exact⟨fun z hz=> (by cases hz),by simp [aF],by simp⟩
  ·refine⟨fun z hz=> by rw [aO.mp hz];exact⟨bo.lf.mono (by decide),ax bo.dp (by decide)⟩,?_,by simp⟩
   simp only [aF]
   have:=bo.bk
   lia
 have al: ∀z∈(bF [.str "net",x,.tuple ts]:: .tuple [.str "net",y,.tuple ts]::more),Lf 1 z/\z.depth <=19:=fun z hz=> by
  (rcases aq.mp hz with rfl|hz)
  ·exact⟨(sh hx).1,(sh hx).2.1⟩
  ·rcases aq.mp hz with rfl|hz
   ·exact⟨(sh hy).1,(sh hy).2.1⟩
   ·exact mo.1 z hz
 have tp:Lf 1 (.tuple (.tuple [.str "net",x,.tuple ts]:: .tuple [.str "net",y,.tuple ts]::more)):=.tup (by simp;lia) (ax (bO _ _) (by simp;lia)) fun z hz=> (al z hz).1
 have td:(bF (.tuple [.str "net",x,.tuple ts]:: .tuple [.str "net",y,.tuple ts]::more)).depth <=20:=by
  simp only [aE]
  have:=vg fun z hz=> (al z hz).2
  first|lia|(simp only [aE]at this;lia)
 have tb:(bF (.tuple [.str "net",x,.tuple ts]:: .tuple [.str "net",y,.tuple ts]::more)).bulk <=168500:=by
  have a:=(sh hx).2.2
  have b:=(sh hy).2.2
  have c:=mo.2.1
  simp only [aW,aF]at a b⊢
  lia
 refine⟨Lf.mono (n:=1) (.tup (by simp) (ax (bO _ _) (by simp)) (acs (.int (by lia)) (.tup (by simp) (by simp) (fun x h=> by cases h)) tp)) (by decide),?_,?_⟩
 ·have:=vg (n:=20) (acs (P:=fun x=> x.depth <=20) (a:=.int m) (b:=.tuple []) (by simp [aE]) (by simp [aE,aS]) td)
  rw [aE]
  lia
 ·rw [aW,aF,aF,aF,aF]
  have e1:(aG m).bulk=0:=by simp [aW]
  have e2:(bF []).bulk=0:=by simp [aW,aF]
  lia
theorem ahn{a:Nat}{x:ag}(h:s[a]?=some (.lst (L.map D.da))):(s.set a (.lst (L.map D.da++ [D.da x])))[a]?=some (.lst ((L++ [x]).map D.da)):=by
 rw [bn (aC.mp h).1];simp
structure LnJ (A0 A2 A3 A5:Option D) (r:List D) (ρ:En) (s:S):Prop where
 ex: ∃(ds:List ag) (c:Nat) (u4 u6 u7 u8 u9 u10 u11:Option D),r=ds.map D.da/\(∀x∈ds,NtX x)/\ρ=[A0,some (.ref 0),A2,A3,u4,A5,u6,u7,u8,u9,u10,u11]/\Fd s 0 c/\c+2000*r.length <=40000
theorem a60{A0 A2 A3 A4 A5 A8 A9 A10 A11:Option D}{x:ag}{a:Nat}{Q:Fl -> S -> Prop}{R':List D -> En -> S -> Prop}(hx:NtX x)(hc:c+2000 < 2^40)(ha:s[a]?=some (.lst (L.map D.da)))(hl:L.length <=4)(hL: ∀y∈L,Gd y)(fd:Fd s 0 c)(a0:0 < a)(fin: ∀(s':S) (u4 u9 u10 u11:Option D),Fd s' 0 (c+384) -> R' r [A0,some (.ref 0),A2,A3,u4,A5,some (.da x),some (.ref a),A8,u9,u10,u11] s'):
  (lwS [A0,some (.ref 0),A2,A3,A4,A5,some (.da x),some (.ref a),A8,A9,A10,A11] s).W (flW (R' r) Q):=by
 unfold lwS
 walk_at "go"
 refine R.W_mono (aia fd hx.lv (by decide) (by lia)) ?_
 rintro _ s1 ⟨b1,rfl,h1,fd1,sm1⟩
 walk_at "go"
 refine R.W_mono (aia fd1 hx.lv (by decide) (by lia)) ?_
 rintro _ s2 ⟨b2,rfl,h2,fd2,sm2⟩
 have lx:=hx.lv.up
 obtain⟨m,sn,ps,rfl,hsn,hm0,hm3⟩:=hx.sh.ex
 walk_at "go"
 rw [show (List.set (List.set [A0,some (D.ref 0),A2,A3,A4,A5,some (D.da (.tuple [.int m,.tuple sn,.tuple ps])),some (D.ref a),A8,A9,A10,A11] 9 (some (D.da b1))) 10 (some (D.da b2)))=[A0,some (.ref 0),A2,A3,A4,A5,some (.da (.tuple [.int m,.tuple sn,.tuple ps])),some (.ref a),A8,some (.da b1),some (.da b2),A11] from rfl]
 walk_at "go"
 rw [y8]
 generalize hts:([.str "a",.str "b",.str "c",.str "d",.str "e",.str "f"]:List ag).take sn.length=ts
 have ht:Sm 1 60 (.tuple ts):=hts▸a57 sn.length
 have la:=(aC.mp ha).1
 have ha2:s2[a]?=some (.lst (L.map D.da)):=by rw [(sm1.trans sm2).get _ (by lia) la];exact ha
 have g1:Gd (.tuple [.int m,.tuple [],.tuple [.tuple [.str "net",b1,.tuple ts],.tuple [.str "net",b2,.tuple ts]]]):=ap2 (b:=.none) hm0 hm3 h1 h2 ht [] (.inl rfl)
 have g2:Gd (.tuple [.int m,.tuple [],.tuple [.tuple [.str "net",.tuple [.int m,.tuple sn,.tuple ps],.tuple ts],.tuple [.str "net",b2,.tuple ts],.tuple [.str "both",.str "a",.str "a"]]]):=ap2 (b:=.none) hm0 hm3 lx h2 ht _ (.inr rfl)
 rw [abl ha2]
 walk_at "go"
 generalize hX:(bF [.int m,.tuple [],.tuple [.tuple [.str "net",b1,.tuple ts],.tuple [.str "net",b2,.tuple ts]]])=X at g1
 rw [show (D.tup [.int m,.tuple [],.tuple [.tuple [.str "net",b1,.tuple ts],.tuple [.str "net",b2,.tuple ts]]])=.da X by rw [←hX],yh ha2 (by rw [am];lia)]
 walk_at "go"
 have ha3:=ahn (x:=X) ha2
 generalize hs3:s2.set a (.lst (L.map D.da++ [D.da X]))=s3 at ha3⊢
 have fd3:Fd s3 0 (c+384):=hs3▸fd2.set (by lia)
 rw [abl ha3]
 walk_at "go"
 generalize hY:(bF [.int m,.tuple [],.tuple [.tuple [.str "net",.tuple [.int m,.tuple sn,.tuple ps],.tuple ts],.tuple [.str "net",b2,.tuple ts],.tuple [.str "both",.str "a",.str "a"]]])=Y at g2
 rw [show (D.tup [.int m,.tuple [],.tuple [.tuple [.str "net",.tuple [.int m,.tuple sn,.tuple ps],.tuple ts],.tuple [.str "net",b2,.tuple ts],.tuple [.str "both",.str "a",.str "a"]]])=.da Y by rw [←hY],yh ha3 (by rw [am];simp;lia)]
 have ha4:=ahn (x:=Y) ha3
 generalize hs4:s3.set a (.lst ((L++ [X]).map D.da++ [D.da Y]))=s4 at ha4⊢
 have fd4:Fd s4 0 (c+384):=hs4▸fd3.set (by lia)
 have gd: ∀y∈L++ [X]++ [Y],Gd y:=by
  intro y hy
  rcases bg.mp hy with hy|hy
  ·rcases bg.mp hy with hy|hy
   ·exact hL y hy
   ·rw [aO.mp hy];exact g1
  ·rw [aO.mp hy];exact g2
 generalize L++ [X]++ [Y]=Ls at ha4 gd
 walk_at "go"
 rw [a3q ha4]
 walk_at "go"
 rw [show∀(g:Tg) (fb:FS) (ρ:En) (p:Wk) (s:S),kFor g fb ρ p s=chk p s (qv g fb p p.1 ρ s) from fun _ _ _ _ _=> rfl,aap (show xa (Ls.map D.da,some (a,Ls.map D.da)) s4 from ha4)]
 refine af8 (LrJ s4 (c+384) a Ls A0 A2 A3 A5 (some (.da (.tuple [.int m,.tuple sn,.tuple ps]))) A8 (some (.da b1)) (some (.da b2)) (some (.tup ts))) (fun r ρ s' J=> ?_) (fun d r ρ s' J=> a11 J) (fun ρ s' J=> ?_) _ _ _ ⟨Ls,_,rfl,gd,rfl,fd4,Ext.refl _⟩
 ·obtain⟨ds,u,_,_,_,_,x⟩:=J
  show s'[a]?=some (.lst (Ls.map D.da))
  exact x.get ha4
 ·obtain⟨ds,u,_,_,rfl,fd5,x⟩:=J
  exact fin s' _ _ _ _ fd5
theorem a0h{A0 A2 A3 A5:Option D}{d:D}{Q:Fl -> S -> Prop}(J:LnJ A0 A2 A3 A5 (d::r) ρ s): ∃ρ1,vh (.nm 6) d ρ=some ρ1/\(lwN ρ1 s).W (flW (LnJ A0 A2 A3 A5 r) Q):=by
 obtain⟨ds,c,u4,u6,u7,u8,u9,u10,u11,er,hd,rfl,fd,hc⟩:=J
 cases ds with
 |nil=> cases er
 |cons x ds=>
  rw [aL,eU]at er
  obtain⟨rfl,rfl⟩:=er
  simp only [aK,am]at hc
  have hx:=hd x aD
  have h0:0 < s.length:=fd.lt
  refine⟨[A0,some (.ref 0),A2,A3,u4,A5,some (.da x),u7,u8,u9,u10,u11],rfl,?_⟩
  unfold lwN
  walk_at "go"
  rw [ab6 (by decide) (by decide),show ((3:Int)).toNat=3 from rfl]
  walk_at "go"
  have x1:=Ext.add s [O.lst [D.da x]]
  refine yi (LtJ c s.length A0 A2 A3 u4 A5 (some (.da x)) u9 u10 u11) (fun d r ρ s J=> aza (by lia) J) ?_ _ _ _ ⟨0,c,[x],_,by rw [kx],rfl,fun y hy=> by rw [aO.mp hy];exact hx.lv,by simp,rfl,fd.ext x1,by rw [kx];lia,h0⟩
  rintro ρ s1 ⟨j,c',L,u,hj,hl,hL,ha,rfl,fd1,hcc,_⟩
  simp only [dZ,kG,Nat.mul_zero]at hj hcc
  subst hj
  walk_at "go"
  refine a60 (R':=LnJ A0 A2 A3 A5) hx (by lia) ha (by lia) (fun y hy=> (hL y hy).gd (by decide)) fd1 h0 fun s' u4 u9 u10 u11 fd'=> ?_
  exact⟨ds,c'+384,_,_,_,_,_,_,_,rfl,fun y hy=> hd y (aB _ hy),rfl,fd',by rw [am];lia⟩
structure NeJ (r acc:List D) (s':S):Prop where
 ex: ∃(L:List ag) (c':Nat),acc=L.map D.da/\(∀x∈L,NtX x)/\L.length+r.length=3/\Fd s' 0 c'/\c'+4000*r.length <=12000
theorem a7c: ∀k:Nat,k <=4 -> dr k <=3200/\bb k <=41600:=by decide
theorem a6t:Blaw=(jf (jl 1 (je 1 aa4 (ja (jb 0) jc)))
  (jf (jl 2 (jd (fVs (bH D.da [.str "a",.str "b",.str "c",.str "d",.str "e",.str "f",.str "g"]))))
  (jf (jl 3 (ko false (ja (fC (.da (.none))) (ja (jd jc) (ja (jd (ja (fC (.da (.int 1))) (ja (jd jc) (ja (jd jc) jc)))) (ja (ko false (ja (fC (.da (.int 1))) (ja (jd jc) (ja (jd jc) jc)))) (ja (jd (ja (fC (.da (.int 0))) (ja (jd jc) (ja (jd jc) jc)))) (ja (jd (ja (fC (.da (.bool true))) (ja (jd jc) (ja (jd jc) jc)))) (ja (jd (ja (fC (.da (.int 4))) (ja (jd jc) (ja (jd jc) jc)))) (ja (jd (ja (fC (.da (.int 1))) (ja (ko false jc) (ja (jd jc) jc)))) (ja (fC (.da (.str "net"))) jc)))))))))))
  (jf (xl (fIt (fOp (jr false) (jb 3) (ko false (ja (jd (ja (fC (.da (.int 1))) (ja (jb 2) (ja (jd jc) jc)))) (ja (jd (ja (fC (.da (.int 3))) (ja (fSl false (jb 2) (kh (fC (.da (.int 1)))) fNo) (ja (jd jc) jc)))) (ja (jd (ja (fC (.da (.int 2))) (ja (jd jc) (ja (jd (ja (jd (ja (fC (.da (.str "net"))) (ja (jd (ja (fC (.da (.int 2))) (ja (jb 2) (ja (jd jc) jc)))) (ja (jb 2) jc)))) jc)) jc)))) jc)))))) (.nm 4) lwA)
  (jf (jl 5 (fLc false [1] 1 (y0 (ja (fC (.da (.int 3))) jc)) (.nm 0) acx (je 4 (vo 8) (ja (jb 1) (ja (fOp (jr false) (fC (.da (.int 1))) (je 2 jh (ja (jb 1) (ja (fC (.da (.int 4))) jc)))) (ja (fOp (jr false) (fC (.da (.int 1))) (je 2 jh (ja (jb 1) (ja (fC (.da (.int 3))) jc)))) (ja (je 2 jh (ja (jb 1) (ja (fC (.da (.int 4))) jc))) jc)))))))
  (jf (jl 5 (fOp (jr false) (jb 5) (ko false (ja (je 2 aa1 (ja (jb 1) (ja (fOp (jr false) (fC (.da (.int 3))) (je 2 jh (ja (jb 1) (ja (fC (.da (.int 3))) jc)))) jc))) (ja (je 1 y9 (ja (jb 1) jc)) jc)))))
  (jf (xl (fIt (jb 5)) (.nm 6) lwN)
  (ji (fC (.da (.bool true))))))))))):=rfl
theorem auj(ns:List Int):(auk [.frz (ns.map aG)] []).W fun d _=> d=.bl true:=by
 rw [a9f,a6t]
 walk_at "go"
 refine R.W_mono (a1q ns) fun d s1 q=> ?_
 obtain⟨rfl,fd⟩:=q
 walk_at "go"
 generalize (some (D.frz (ns.map aG)))=A0
 rw [a2w,agy (by simp)]
 walk_at "go"
 refine yi (LaJ A0 (some (.tup abg)) (some (.lst ah3))) (fun d r ρ s J=> a1b J) ?_ _ _ _ ⟨ah3++aqu,_,rfl,azj,rfl,fd⟩
 rintro ρ s2 ⟨ds,u,_,_,rfl,fd2⟩
 walk_at "go"
 rw [ab6 (by decide) (by decide),show ((3:Int)).toNat=3 from rfl]
 walk_at "go"
 rw [zf (ρ0:=[none,some (.ref 0)]) (by rw [kx];lia) rfl,R.W_bindk]
 refine R.W_mono (abo (Q:=fun xs s'=> ∃L:List ag,xs=L.map D.da/\(∀x∈L,NtX x)/\L.length=3/\Fd s' 0 12000) NeJ ?_ ?_ _ [] s2 ⟨[],0,rfl,(fun _ h=> by cases h),by rw [kx];rfl,fd2,by rw [kx];decide⟩) ?_
 ·rintro d' r acc s' ⟨L,c',rfl,hL,hlen,fd',hcc⟩
  simp only [aK]at hlen hcc
  refine⟨[some d',some (.ref 0)],rfl,?_⟩
  walk_at "go"
  refine R.W_mono (j5 fd' (by decide) (by decide) (by lia)) ?_
  rintro _ s3 ⟨i,rfl,i0,i1,fd3,sm3⟩
  obtain⟨k,rfl⟩:=ze i (by assumption)
  walk_at "go"
  refine R.W_mono (j5 fd3 (by decide) (by decide) (by lia)) ?_
  rintro _ s4 ⟨j,rfl,j0,j1,fd4,sm4⟩
  walk_at "go"
  refine R.W_mono (j5 fd4 (by decide) (by decide) (by lia)) ?_
  rintro _ s5 ⟨i,rfl,t0,t1,fd5,sm5⟩
  obtain⟨t,rfl⟩:=ze i (by assumption)
  walk_at "go"
  have dk:=a7c (k+1) (by lia)
  rw [show ((1:Int)+(k:Int))=((k+1:Nat):Int) by lia]
  refine (ap8 k 8 (by lia) s5 0 (c'+1+1+1) (1+j) t fd5 (by lia) (by lia) (by lia) (by lia)).mono ?_
  rintro _ s6 ⟨N,rfl,hN,hsh,fd6,sm6⟩
  refine⟨L++ [N],c'+1+1+1+dr (k+1),by simp,?_,by simp;lia,fd6,by lia⟩
  intro z hz
  rcases bg.mp hz with q|q
  ·exact hL z q
  ·rw [aO.mp q];exact⟨hN.mono (by lia) (by lia),hsh⟩
 ·rintro acc s' ⟨L,c',rfl,hL,hlen,fd',hcc⟩
  exact⟨L,rfl,hL,by simpa using hlen,fd'.le (by simp at hcc;lia)⟩
 ·rintro xs s3 ⟨L,e,hL,hlen,fd3⟩
  rw [cB]at e
  subst e
  walk_at "go"
  refine R.W_mono (j5 fd3 (by decide) (by decide) (by decide)) ?_
  rintro _ s4 ⟨i,rfl,i0,i1,fd4,sm4⟩
  obtain⟨k,rfl⟩:=ze i (by assumption)
  walk_at "go"
  rw [show ((3:Int)+(k:Int))=((3+k:Nat):Int) by lia]
  refine R.W_mono (azr fd4 (by lia) (by lia) (by decide)) ?_
  rintro _ s5 ⟨N1,rfl,h1,q1,fd5,sm5⟩
  walk_at "go"
  refine R.W_mono (ax8 fd5 (by decide)) ?_
  rintro _ s6 ⟨N2,rfl,h2,q2,fd6,sm6⟩
  walk_at "go"
  rw [agy (by simp;lia)]
  walk_at "go"
  refine yi (LnJ A0 (some (.tup abg)) (some (.lst ah3)) (some (.lst (L++ [N1,N2])))) (fun d r ρ s J=> a0h J) ?_ _ _ _ ⟨L++ [N1,N2],_,_,_,_,_,_,_,_,rfl,?_,rfl,fd6,by rw [am];simp;lia⟩
  ·rintro ρ s7 ⟨ds,c,u4,u6,u7,u8,u9,u10,u11,_,_,rfl,_,_⟩
   walk_at "go"
  ·intro z hz
   rcases bg.mp hz with q|q
   ·exact hL z q
   ·simp only [aq,bf,or_false]at q
    rcases q with rfl|rfl
    ·exact⟨h1.mono (by decide) (by decide),q1⟩
    ·exact⟨h2.mono (by decide) (by decide),q2⟩
end Ln
namespace PF
open PySem PySem.Spec
open L2 EX
structure XC (K:ak) (C:Str) (Ca f:Addr) (bm:List af) (fl:List Str):Prop where
 at_:bv K aU C=some (some (.ref Ca))
 lk: ∃nm q N bs sn sub ab col dd k0 k1 k2 k3 k5,K.lookup Ca=some (fk nm q Ca N bs bm true sn sub ab col dd k0 k1 k2 k3 k5 "ValueError.__new__")
 cl:ClsX K Ca
 mkx:MkX K Ca f
 cm:ClsM K Ca "__init__" f
 na: ∀g∈fl,yb K Ca g
inductive XCs (K:ak) (bm:List af) (fl:List Str):List (Str×Addr) -> Prop
 |nil:XCs K bm fl []
 |cons {C:Str} {Ca f:Addr} {l:List (Str×Addr)}:XC K C Ca f bm fl -> XCs K bm fl l -> XCs K bm fl ((C,Ca)::l)
section
variable{K:ak}{mg:Str -> Option af}{b:Str}{M:Addr}{L:List (Str×Addr)}{fl:List Str}{bm:List af}
theorem XCs.mem(x:XCs K bm fl L): ∀{p:Str×Addr},p∈L -> ∃f,XC K p.1 p.2 f bm fl:=by
 induction x with
 |nil=> intro p hp;cases hp
 |cons a _ ih=>
  intro p hp
  rcases aq.mp hp with rfl|hp
  ·exact⟨_,a⟩
  ·exact ih hp
theorem XC.kit{D:Str}{f Da g:Addr}{bm':List af}(x:XC K C Ca f bm fl)(y:XC K D Da g bm' fl):ck K (.ref Ca) (.ref Da)=some ((Da==Ca)||bm.contains (.ref Da)):=by
 obtain⟨nm,q,N,bs,sn,sub,ab,col,dd,k0,k1,k2,k3,k5,e⟩:=x.lk
 obtain⟨nm',q',N',bs',sn',sub',ab',col',dd',l0,l1,l2,l3,l5,e'⟩:=y.lk
 unfold ck
 by_cases z:Ca=Da
 ·subst z
  rw [if_pos (by simp)]
  simp
 ·rw [if_neg (by simpa using z)]
  have h1:((eT K Da).isSome&&iI K (.ref Da)==some (.type "type"))=true:=by
   simp [eT,iI,e']
  have z':(Da==Ca)=false:=beq_eq_false_iff_ne.mpr (cP z)
  unfold iH
  dsimp only
  rw [if_pos h1]
  simp only [i7,iZ,eT,e,du]
  rw [if_neg (by simp),z',cf]
  have:(aH Da==aH Ca)=false:=beq_eq_false_iff_ne.mpr fun q=> z (fS q).symm
  rw [this]
theorem XC.kitV{f:Addr}(x:XC K C Ca f bm fl)(av:Above bm):ck K (.ref Ca) (.type "ValueError")=some true:=by
 obtain⟨nm,q,N,bs,sn,sub,ab,col,dd,k0,k1,k2,k3,k5,e⟩:=x.lk
 unfold ck
 rw [if_neg (by simp)]
 have hk:PySem.W.kitMeta "ValueError"=true:=by decide+kernel
 simp only [iH,hk,if_true,i7,iZ,eT,e,du]
 rw [if_neg (by simp),cf,av.has (T:="ValueError") (b:=true) (by decide+kernel),gh]
theorem atc: ∀{L:List (Str×Addr)},(L.map (·.2)).Nodup -> ∀p∈L,∀q∈L,p.2=q.2 -> p=q
 |[],_,p,hp,_,_,_=> by cases hp
 |a::r,nd,p,hp,q,hq,e=> by
  rw [aL,dW]at nd
  rcases aq.mp hp with h1|h1 <;> rcases aq.mp hq with h2|h2
  ·rw [h1,h2]
  ·subst h1;exact absurd (bj.mpr ⟨q,h2,e.symm⟩) nd.1
  ·subst h2;exact absurd (bj.mpr ⟨p,h1,e⟩) nd.1
  ·exact atc nd.2 p h1 q h2 e
theorem a66{fb:Addr}(G: ∀(C:Str) (Ca:Addr),bv K aU C=some (some (.ref Ca)) -> mg C=some (.ref Ca))(x0:XC K b M fb bmV fl)(x:XCs K (.ref M::bmV) fl L)(nd:(M::L.map (·.2)).Nodup):XT K mg b (L.map (·.1)) fl:=by
 have hv: ∀Da:Addr,bmV.contains (.ref Da)=false:=fun Da=> by simp
 obtain⟨nM,nd⟩:=dW.mp nd
 have inj:=atc nd
 refine⟨fun C hC=> ?_⟩
 rcases aq.mp hC with rfl|hC
 ·refine⟨M,x0.at_,G _ _ x0.at_,x0.cl,x0.na,x0.kitV .base,fun D hD Da hDa=> ?_⟩
  rcases aq.mp hD with rfl|hD
  ·have e:=x0.at_.symm.trans hDa;cases e
   rw [x0.kit x0,hv];simp
  ·obtain⟨q,hq,rfl⟩:=bj.mp hD
   obtain⟨g,y⟩:=x.mem hq
   have e:=y.at_.symm.trans hDa;cases e
   have ne:q.2≠M:=fun z=> nM (z▸bj.mpr ⟨q,hq,rfl⟩)
   have ne2:q.1≠C:=fun z=> by
    have:=y.at_
    rw [z,x0.at_]at this
    injection this with this;injection this with this
    exact ne (fS this).symm
   rw [x0.kit y,hv,beq_eq_false_iff_ne.mpr ne,beq_eq_false_iff_ne.mpr ne2]
 ·obtain⟨p,hp,rfl⟩:=bj.mp hC
  obtain⟨f,xp⟩:=x.mem hp
  have neM:p.2≠M:=fun z=> nM (z▸bj.mpr ⟨p,hp,rfl⟩)
  refine⟨p.2,xp.at_,G _ _ xp.at_,xp.cl,xp.na,xp.kitV (.own M .base),fun D hD Da hDa=> ?_⟩
  rcases aq.mp hD with rfl|hD
  ·have e:=x0.at_.symm.trans hDa;cases e
   rw [xp.kit x0];simp
  ·obtain⟨q,hq,rfl⟩:=bj.mp hD
   obtain⟨g,y⟩:=x.mem hq
   have e:=y.at_.symm.trans hDa;cases e
   have ne:q.2≠M:=fun z=> nM (z▸bj.mpr ⟨q,hq,rfl⟩)
   have ne2:q.1≠b:=fun z=> by
    have:=y.at_
    rw [z,x0.at_]at this
    injection this with this;injection this with this
    exact ne (fS this).symm
   rw [xp.kit y,cf,hv]
   by_cases z:q.2=p.2
   ·have:=inj q hq p hp z
    subst this
    simp
   ·have z2:q.1≠p.1:=fun w=> by
     have:=y.at_
     rw [w,xp.at_]at this
     injection this with this;injection this with this
     exact z (fS this).symm
    have e3:(aH q.2==aH M)=false:=beq_eq_false_iff_ne.mpr fun w=> ne (fS w)
    rw [e3,beq_eq_false_iff_ne.mpr z,beq_eq_false_iff_ne.mpr z2,beq_eq_false_iff_ne.mpr ne2];rfl
theorem ano{f:Addr}{an:Option Addr}{oc kV dc pm cd ct:af}(G: ∀(C:Str) (Ca:Addr),bv K aU C=some (some (.ref Ca)) -> mg C=some (.ref Ca))(x:XC K C Ca f bm fl)(l:K.lookup f=some ⟨oc,od,.func (cY "__init__" q (xw st) (vj st) (jg st) .none kV dc pm an cd ct),sl⟩)(c:fz K cd q=true)(b: ∀(kV doc pm:af) (an:Option Addr) (cdv ct:af) (us:List af),us.length=ps.length -> bindArgs (cY "__init__" q (xw st) (vj st) (jg st) .none kV doc pm an cdv ct) ⟨us,[]⟩=pure (ps.zip us)):HasX K mg C q st ps:=
 ⟨Ca,f,_,x.at_,G _ _ x.at_,x.mkx,x.cm,aem (st:=st) l c x.cm.kp,(aem (st:=st) l c x.cm.kp).binds b⟩
end
end PF
namespace Ln
open PySem L2 PF
def BN(x q:Str)(st:Stmt)(ps:List Str)(us:List af):Prop:= ∀(kV doc pm:af) (an:Option Addr) (cdv ct:af),bindArgs (cY x q (xw st) (vj st) (jg st) .none kV doc pm an cdv ct) ⟨us,[]⟩=pure (ps.zip us)
theorem bd1{x:Str}{p0:Str}(h: ∀a0,BN x q st [p0] [a0]): ∀us,us.length=1 -> BN x q st [p0] us|[a0],_=> h a0
theorem bd2{x:Str}{p0 p1:Str}(h: ∀a0 a1,BN x q st [p0,p1] [a0,a1]): ∀us,us.length=2 -> BN x q st [p0,p1] us|[a0,a1],_=> h a0 a1
theorem bd3{x:Str}{p0 p1 p2:Str}(h: ∀a0 a1 a2,BN x q st [p0,p1,p2] [a0,a1,a2]): ∀us,us.length=3 -> BN x q st [p0,p1,p2] us|[a0,a1,a2],_=> h a0 a1 a2
theorem bd4{x:Str}{p0 p1 p2 p3:Str}(h: ∀a0 a1 a2 a3,BN x q st [p0,p1,p2,p3] [a0,a1,a2,a3]): ∀us,us.length=4 -> BN x q st [p0,p1,p2,p3] us|[a0,a1,a2,a3],_=> h a0 a1 a2 a3
theorem a58(X:K.In h)(G:h.Ns aU mg){x:Str}{f:Addr}{an:Option Addr}{oc kV dc pm cd ct:af}(a:bv K aU x=some (some (.ref f)))(l:K.lookup f=some ⟨oc,od,.func (cY x x (xw st) (vj st) (jg st) .none kV dc pm an cd ct),sl⟩)(c:fz K cd x=true)(k:df K (.ref f)=true)(b: ∀us,us.length=ps.length -> BN x x st ps us):Has K mg x st ps:=
 ⟨f,_,aem (st:=st) l c k,cJ X G a,(aem (st:=st) l c k).binds fun kV doc pm an cdv ct us hl=> b us hl kV doc pm an cdv ct⟩
theorem ase(X:K.In h)(G:h.Ns aU mg){x:Str}{g:Addr}{its:Array af}(a:bv K aU x=some (some (.ref g)))(l:K.lookup g=some ⟨.type "tuple",od,.seq its n,sl⟩)(hz:its.size <=1000)(hv:jo vs its.toList):ar1 K mg x vs:=
 ⟨g,cJ X G a,fun H=>.inr ⟨_,its,n,l,rfl,rfl,f8 (ajl hz),hv⟩⟩
theorem a2i{f N:Addr}{bm bs sub:List af}{nm:Str}{sn:List Str}{ab:Bool}{col:Option Bool}{dd:Option Addr}{k0 k1 k2 k3 k5:Option af}(a:bv K aU C=some (some (.ref Ca)))(l:K.lookup Ca=some (fk nm q Ca N bs bm true sn sub ab col dd k0 k1 k2 k3 k5 "ValueError.__new__"))(av:EX.Above bm)(ga:cK K (.ref Ca) "__getattribute__"=some (some (.builtin "BaseException.__getattribute__")))(gt:cK K (.ref Ca) "__getattr__"=some none)(sa:cK K (.ref Ca) "__setattr__"=some (some (.builtin "object.__setattr__")))(ca:cK K (.ref Ca) "__class__"=some (some (.builtin "object.__class__")))(cg:fq K (.builtin "object.__class__") "__get__"=some (some (.builtin "getset_descriptor.__get__")))(ct:kN K (.builtin "object.__class__")=some true)(i:cK K (.ref Ca) "__init__"=some (some (.ref f)))(n:PySem.W.isFn K (.ref f)=true)(k:df K (.ref Ca)=true)(r:PySem.W.readsIn K Ca (.type "type")=true)(m:kX K (.ref Ca) (.type "type") "__init__"=some (.val (.ref f)))(sg:fq K (.ref Ca) "__getattribute__"=some (some (.builtin "type.__getattribute__")))(kf:df K (.ref f)=true)(na: ∀g∈fl,yb K Ca g):XC K C Ca f bm fl:=
 have cl:ClsX K Ca:=⟨⟨⟨nm,q,N,bs,bm,sn,sub,ab,col,dd,k0,k1,k2,k3,k5,l,av⟩,ga,gt,sa⟩,ca,cg,ct⟩
 ⟨a,⟨nm,q,N,bs,sn,sub,ab,col,dd,k0,k1,k2,k3,k5,l⟩,cl,⟨cl,i,n,k⟩,⟨r,m,sg,kf⟩,na⟩
theorem a0x: ∀f∈([]:List Str),yb K Ca f:=fun f h=> by cases h
theorem aww{g:Str}(h:cK K (.ref Ca) g=some none)(t: ∀f∈fl,yb K Ca f): ∀f∈g::fl,yb K Ca f:=fun f hf=> by
 rcases aq.mp hf with rfl|hf
 ·exact h
 ·exact t f hf
theorem a40{l:kO}{fa f:Addr}{an:Option Addr}{oc kV dc pm cd ct:af}(X:K.In h)(G:h.Ns aU mg)(hfa:mg "law"=some (.ref fa))(a:bv K aU "law"=some (some (.ref f)))(l0:K.lookup f=some ⟨oc,od,.func (cY "law" "law" (xw aav) (vj aav) (jg aav) .none kV dc pm an cd ct),sl⟩)(c:fz K cd "law"=true)(k:df K (.ref f)=true)(T:Txt0 K mg):
  ∃fd:eF,(∀(s:aj) (v:af),lB s fd ⟨[v],[]⟩ [("_law_script",v)])/\ ∀base:Heap,K.In base -> base.Ns aU mg -> FnOk l.prog w K mg base CX0 27 fa fd ["_law_script"] (agz K):=by
 have e:=hfa.symm.trans (cJ X G a)
 cases e
 exact⟨cY "law" "law" (xw aav) (vj aav) (jg aav) .none kV dc pm an cd ct,fun s v=>.of_eq rfl,fun base _ _=> a4m (a5x (aem (st:=aav) l0 c k) T) fun ns _=> auj ns⟩
theorem walk{l:kO}{q:aV}{loose:List Str}{XP:(Str -> Option af) -> Heap -> Prop}{YP:aZ -> Heap -> Prop}{d:DefRec}{K:Params -> ak}(hn:l.most=some 63)(hdf:d.params.defaults=[])
  (hY: ∀(w:aZ) (h:Heap),YP w h -> (K w.params).In h)
  (F: ∀(w:aZ) (mg:Str -> Option af) (fa:Addr) (h:Heap),(K w.params).In h -> h.Ns aU mg -> mg d.name=some (.ref fa) ->
   ∃fd:eF,(∀(s:aj) (u:af),lB s fd ⟨[u],[]⟩ [("_law_script",u)])/\ ∀base:Heap,(K w.params).In base -> base.Ns aU mg -> FnOk l.prog w (K w.params) mg base CX0 27 fa fd ["_law_script"] (agz (K w.params))):
  PySem.W.WalkO q loose XP YP l.row.toRowW d [] (fun f vs=> PySem.call f vs):=
 L2.a1w (n:=63) (k:=27) (x:="_law_script") (CX:=fun _=> CX0) (sp:=fun w=> agz (K w.params)) hn (by decide) hdf ⟨rfl,by decide,by decide,rfl⟩ hY F (fun _ _ a ns hl _ hS=> ⟨a,ns,rfl,hS,hl,fun _=> rfl⟩) fun _ _ _ _ _ z=> z
end Ln
open PySem PySem.W PyProof.Rows
local macro_rules | `(tactic| walk_at "hm") => do
 let X := bR `KX
 let G := bR `G
 `(tactic| refine Ln.a58 $X $G (by k_is) (by k_is) (by k_is) (by k_is) ?_)
local macro_rules | `(tactic| walk_at "xc") => `(tactic| exact Ln.a2i (by k_is) (by k_is) (by first | exact .base | exact .own _ .base) (by k_is) (by k_is) (by k_is) (by k_is) (by k_is) (by k_is) (by k_is) (by k_is) (by k_is) (by k_is) (by k_is) (by k_is) (by k_is) (by repeat first | exact Ln.a0x | refine Ln.aww (by k_is) ?_))
namespace PySem.W.Fast
def tw15181598634622743100:=()
def tw9556304029370234650:=()
def tw12115531470071296275:=()
def tw13324776593891420672:=()
def tw14951690660013904199:=()
def tw4060442603936253942:=()
def tw14625297388271805802:=()
def tw4196113043731375722:=()
def tw3526115795867107268:=()
def tw5344408885041803344:=()
def tw11898320963424916350:=()
def tw10955481306143519069:=()
def tw3210581127811123414:=()
def tw17690131716174722581:=()
def tw9035494696457094645:=()
def tw6013474485386186363:=()
def tw1807518167501416400:=()
def tw7821772588404433987:=()
def tw39638911183438037:=()
def tw10365339973811772409:=()
def tw17065809941624939280:=()
def tw4097724236068423307:=()
def tw7016469687348700428:=()
def tw5956206972897990:=()
def tw5960679092136402831:=()
def tw10017882538334464751:=()
def tw3262485202093538268:=()
def tw6973950789969934567:=()
def tw16913129010144377918:=()
def tw6320653036950819148:=()
def tw7745689254606985258:=()
def tw5747030790791901765:=()
def tw2502122043066188330:=()
def tw10789089528651611312:=()
def tw1775683746257040733:=()
def tw2119617692860107379:=()
def tw11921149648327609502:=()
def tw10927194562443987452:=()
def tw7209364041083784508:=()
def tw10926231728129740138:=()
def tw13845491530364715754:=()
def tw12705337900580228462:=()
def tw10995343357411042426:=()
def tw16050990912614161305:=()
def tw13204817360400687315:=()
def tw14965695031722912946:=()
def tw3355451135694140785:=()
def tw14724814692276718464:=()
def tw8251361881415322154:=()
def tw2762331332705662487:=()
def tw350095567670251118:=()
def tw13747179748503719914:=()
def tw8121013894913263966:=()
def tw2842574647257832909:=()
def tw2851369842665740147:=()
def tw13349919034249251225:=()
def tw3999890818793863104:=()
def tw9563537391116833150:=()
def tw13477666131886825272:=()
def tw13421463943384877913:=()
def tw6625257748757584260:=()
def tw8026670213529541407:=()
def tw4841660772345680771:=()
def tw2422393637281801752:=()
def tw441652095289251849:=()
def tw13914666322576758022:=()
def tw7351237215627935742:=()
def tw8273846590679071869:=()
def tw4667168032050176527:=()
def tw3347222411104818813:=()
def tw17913297577922986193:=()
def tw2230766795822269981:=()
def tw7844294059615409270:=()
def tw4234286419049028891:=()
def tw7952186914933259242:=()
def tw15391382588942433367:=()
def tw1265594382607653186:=()
def tw12245088762372870322:=()
def tw6515337913113897104:=()
def tw2975901583628046721:=()
def tw18217434692843348068:=()
def tw5694683923038171984:=()
def tw5461370544336159775:=()
def tw15581449134603048543:=()
def tw2429516463558514276:=()
def tw6481587568952374514:=()
def tw6974504082428052597:=()
def tw10686673304177051774:=()
def tw17700876074257359007:=()
def tw8338991257365529570:=()
def tw13171602930423192027:=()
def tw16517213291500057743:=()
def tw13233636709290499478:=()
def tw3896142373860684518:=()
def tw16880340488423508970:=()
def tw111048757763815857:=()
def tw3884893171442267760:=()
def tw15199656652291693372:=()
def tw12470435998006738413:=()
def tw8812191335333038142:=()
def tw18053835240511076570:=()
def tw14049505651757386350:=()
def tw5700843077384757863:=()
def tw5825563870645102842:=()
def tw12379270991596516311:=()
def tw5196205820597700386:=()
end PySem.W.Fast
set_option maxRecDepth 100000 in
set_option maxHeartbeats 0 in
theorem PySem.Challenge.cw_mannerports_k02_nets_or_what_is_amiss_holds : PySem.Challenge.rw_mannerports_k02_nets_or_what_is_amiss.Holds := by
 w_on;o_law;k_head;(case hw=> w_witness2)
 k_fill
 refine Ln.walk (l:=dL) rfl rfl (fun w h Y=> PySem.W.kIn_of Y) ?F
 case F=>
  intro w mg fa h KX G hmg
  refine Ln.a40 KX G hmg (by k_is) (by k_is) (by k_is) (by k_is) ?_
  constructor
  ·exact PF.a66 (L:=[("NoNet",_),("NoText",_),("NoMoment",_),("TooMany",_),("NoJoin",_),("NoAlike",_)]) (fun C Ca e=> cJ KX G e) (by walk_at "xc") (.cons (by walk_at "xc") (.cons (by walk_at "xc") (.cons (by walk_at "xc") (.cons (by walk_at "xc") (.cons (by walk_at "xc") (.cons (by walk_at "xc") .nil)))))) (by decide)
  ·refine PF.ano (fun C Ca e=> cJ KX G e) (by walk_at "xc") (by k_is) (by k_is) ?_;exact fun kV doc pm an cdv ct us hl=> Ln.bd2 (fun _ _ _ _ _ _ _ _=> rfl) us hl kV doc pm an cdv ct
  ·refine PF.ano (fun C Ca e=> cJ KX G e) (by walk_at "xc") (by k_is) (by k_is) ?_;exact fun kV doc pm an cdv ct us hl=> Ln.bd3 (fun _ _ _ _ _ _ _ _ _=> rfl) us hl kV doc pm an cdv ct
  ·walk_at "hm";exact Ln.bd1 fun _ _ _ _ _ _ _=> rfl
  ·walk_at "hm";exact Ln.bd2 fun _ _ _ _ _ _ _ _=> rfl
  ·walk_at "hm";exact Ln.bd1 fun _ _ _ _ _ _ _=> rfl
  ·walk_at "hm";exact Ln.bd1 fun _ _ _ _ _ _ _=> rfl
  ·walk_at "hm";exact Ln.bd1 fun _ _ _ _ _ _ _=> rfl
  ·walk_at "hm";exact Ln.bd1 fun _ _ _ _ _ _ _=> rfl
  ·walk_at "hm";exact Ln.bd1 fun _ _ _ _ _ _ _=> rfl
  ·walk_at "hm";exact Ln.bd1 fun _ _ _ _ _ _ _=> rfl
  ·walk_at "hm";exact Ln.bd1 fun _ _ _ _ _ _ _=> rfl
  ·walk_at "hm";exact Ln.bd2 fun _ _ _ _ _ _ _ _=> rfl
  ·walk_at "hm";exact Ln.bd2 fun _ _ _ _ _ _ _ _=> rfl
  ·walk_at "hm";exact Ln.bd2 fun _ _ _ _ _ _ _ _=> rfl
  ·walk_at "hm";exact Ln.bd2 fun _ _ _ _ _ _ _ _=> rfl
  ·walk_at "hm";exact Ln.bd2 fun _ _ _ _ _ _ _ _=> rfl
  ·walk_at "hm";exact Ln.bd1 fun _ _ _ _ _ _ _=> rfl
  ·walk_at "hm";exact Ln.bd2 fun _ _ _ _ _ _ _ _=> rfl
  ·walk_at "hm";exact Ln.bd2 fun _ _ _ _ _ _ _ _=> rfl
  ·walk_at "hm";exact Ln.bd3 fun _ _ _ _ _ _ _ _ _=> rfl
  ·walk_at "hm";exact Ln.bd1 fun _ _ _ _ _ _ _=> rfl
  ·walk_at "hm";exact Ln.bd1 fun _ _ _ _ _ _ _=> rfl
  ·walk_at "hm";exact Ln.bd2 fun _ _ _ _ _ _ _ _=> rfl
  ·walk_at "hm";exact Ln.bd2 fun _ _ _ _ _ _ _ _=> rfl
  ·walk_at "hm";exact Ln.bd2 fun _ _ _ _ _ _ _ _=> rfl
  ·walk_at "hm";exact Ln.bd3 fun _ _ _ _ _ _ _ _ _=> rfl
  ·walk_at "hm";exact Ln.bd4 fun _ _ _ _ _ _ _ _ _ _=> rfl
  ·walk_at "hm";exact Ln.bd1 fun _ _ _ _ _ _ _=> rfl
  ·walk_at "hm";exact Ln.bd1 fun _ _ _ _ _ _ _=> rfl
  ·walk_at "hm";exact Ln.bd1 fun _ _ _ _ _ _ _=> rfl
  ·walk_at "hm";exact Ln.bd2 fun _ _ _ _ _ _ _ _=> rfl
  ·walk_at "hm";exact Ln.bd2 fun _ _ _ _ _ _ _ _=> rfl
  ·walk_at "hm";exact Ln.bd3 fun _ _ _ _ _ _ _ _ _=> rfl
  ·walk_at "hm";exact Ln.bd1 fun _ _ _ _ _ _ _=> rfl
  ·walk_at "hm";exact Ln.bd2 fun _ _ _ _ _ _ _ _=> rfl
  ·walk_at "hm";exact Ln.bd2 fun _ _ _ _ _ _ _ _=> rfl
  ·walk_at "hm";exact Ln.bd1 fun _ _ _ _ _ _ _=> rfl
  ·walk_at "hm";exact Ln.bd1 fun _ _ _ _ _ _ _=> rfl
  ·walk_at "hm";exact Ln.bd1 fun _ _ _ _ _ _ _=> rfl
  ·walk_at "hm";exact Ln.bd1 fun _ _ _ _ _ _ _=> rfl
  ·exact⟨_,cJ KX G (by k_is)⟩
  ·exact⟨_,cJ KX G (by k_is)⟩
  ·exact⟨_,cJ KX G (by k_is)⟩
  ·exact⟨_,cJ KX G (by k_is)⟩
  ·exact⟨_,cJ KX G (by k_is)⟩
  ·exact⟨_,cJ KX G (by k_is)⟩
  ·exact⟨_,cJ KX G (by k_is)⟩
  ·exact Ln.ase KX G (by k_is) (by k_is) (by decide) (.cons ⟨_,rfl⟩ (.cons ⟨_,rfl⟩ (.cons ⟨_,rfl⟩ (.cons ⟨_,rfl⟩ (.nil)))))
  ·exact Ln.ase KX G (by k_is) (by k_is) (by decide) (.cons ⟨_,rfl⟩ (.cons ⟨_,rfl⟩ (.nil)))
  ·exact bh KX G (by k_is)
  ·exact bh KX G (by k_is)
  ·exact bh KX G (by k_is)
  ·exact bh KX G (by k_is)
  ·exact bh KX G (by k_is)
  ·exact bh KX G (by k_is)
  ·exact bh KX G (by k_is)
  ·exact bh KX G (by k_is)
  ·exact bh KX G (by k_is)
  ·exact bh KX G (by k_is)
  ·exact bh KX G (by k_is)
  ·exact bh KX G (by k_is)
  ·exact bh KX G (by k_is)
  ·exact bh KX G (by k_is)
  ·exact bh KX G (by k_is)
  ·exact bh KX G (by k_is)
  ·exact bh KX G (by k_is)
  ·exact bh KX G (by k_is)
