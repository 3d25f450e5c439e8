import PyProof.Rows.All
import Wide.All
import OpenK.AllK
import Wide.FinOn
import Lean
import PyProof.EqAt
import PyProof.EqKinds
import PyProof.TupleCall
import PyProof.NeKinds
import PyProof.Rows.SetFrom
import PyProof.WalksMore
import KE.KDictSum
import PyProof.AttrMissHeap
import PyProof.P3Eq
import PyProof.NeData
import PySem.SetTable
import PyProof.SetScanFacts
import PyProof.ConsumeWalk
import PyProof.ZipIter
import PyProof.Rows.TupAdd
import PyProof.Rows.IntBool
import PyProof.SliceStr2
import PyProof.StrBlockI
import KE.KTab
import KE.KIsAll
import OpenK.KCls
import OpenK.KMore
import PyProof.ExcInit
import PyProof.ExcBaseAll.ValueError
import PyProof.ExcAttrAll.ValueError
import PyProof.InstStore
import PyProof.InstStoreFacts
import PyProof.StationsW
import PyProof.PassesOwn
import PyProof.RulesAs
import KE.KTryMore
import PyProof.NsDelKeeps
import KE.KSortAsk
import KE.KSortTup
import PyProof.TupleOfSeq
import PyProof.FString5
import PyProof.StrWalks
import PyProof.CallStr
import PyProof.Conv_int_bool
import PyProof.StrCalls
import PyProof.DictWalks
import PyProof.Rows.TupDisplay
import PyProof.DictTruth
import PyProof.ListMulAny
import PyProof.FactsAll.tuple_2
import PyProof.ListRange
import KE.KxMul
import PyProof.FactsAll.dict_1
import PyProof.FactsAll.subtypes_4
import PyProof.FactsAll.subtypes_3
import PyProof.FactsAll.tuple_0
import PyProof.SetKind
import PyProof.SetRoads
import KE.KDictLaws
import PyProof.Rows.SortShell
import PyProof.EnumMake
import PyProof.StrBlockG
import PyProof.StrCalls2
import KE.KIntText
import PyProof.CollectWalk
import PyProof.TupleOfGen
import PyProof.StrLawsReplace
import PyProof.Rows.ReprOcc
import PySem.Challenge.RW_mannerports_k38_rows_of_tables
import PyProof.SumWalk
import KE.KTabLook
set_option Elab.async false
set_option linter.all false
set_option bootstrap.genMatcherCode false
set_option genSizeOfSpec false
set_option maxRecDepth 100000
set_option maxHeartbeats 4000001
variable{xs:List m9}{a b:eg}{A:ng}{E:cM -> fz -> Prop}{s:fz}{h h':PySem.Heap}{P:mF}{w:nI}{t' i:Nat}{ch:List eg}{e tg:jN}{M:PySem.Model}{u:cM}{Q:Unit -> fz -> Prop}{pos:PySem.Pos}{pins:List (eg×PySem.Obj)}{K:aj}
noncomputable section
open PySem renaming wpAny_bind -> aa,PyData -> ac,Value -> ae,wpAny_pure -> af,Shared -> ag,Program -> aI,World -> aM,mainGlobals -> aY,Around -> aZ,wpAny_call_entry -> bh,wpAny_holding -> bo,SetTable -> bq,wpAny_callSpecial?_slot -> br,wpAny_mono -> bw,assignEach -> bz,compareOp -> bG,sysModules -> bI,wpAny_newObj_type -> bJ,foldedSetIterable -> bN,intKind -> bO,bootBuiltins -> bT,sizeLine_eq -> b6,wpAny_field -> b7,wpAny_setState_of -> b8,ReadsAll -> cf,Reads -> ck,wpAny_rule -> cn,wpAny_setField -> cA,Builtin -> cG,scanBound -> cL,Value -> cM,mem_of_lookup -> cW,wpAny_standAt -> c6,DictEntry -> c8,wpAny_specialOf -> dg,codeAny_mono -> dm,call_meetsIn -> dB,FuncData -> dM,Scope -> dS,letOwnedTupleGo -> dU,attributeBase -> dZ,wpAny_attempt -> d6,ofAClassStatement -> ef,Addr -> eg,wpAny_forIn_list -> eM,wpAny_isInstance -> eN,wpAny_typeOf -> eQ,wpAny_askSetting -> eS,wpAny_setEntries_of -> eV,entryOfKey -> eZ,codeAny_builtin -> fg,wpAny_setField_rec -> fh,NameKind -> fk,Shared -> fz,wpAny_callSpecialIfBoundUnlessNone?_slot -> fM,behindInMarks -> fS,sliceBounds -> fW,keywordEach -> fX,wpAny_passesOwn -> fY,size_of_entries -> f8,Within -> gc,swapsWith -> gg,Result -> gh,wpAny_Call_Name_kw -> gi,wpAny_comprehension_free -> gm,wpAny_seqItems -> gx,Keyword -> gz,wpAny_pyIter_list -> gM,fits_of_scanBound -> gN,wpAny_storeSet_of -> gP,IsPart -> gR,slicePicked -> gT,plainId_quiet -> gV,tupleKind -> g7,noteFrame -> g9,builtinLookup_eq_fast -> hG,pickOrder -> hU,codeAny_of_tree -> ie,wpAny_ite_split -> ig,callSpecialIfBoundUnlessNone? -> ip,isSubtype_type -> iE,wpAny_fieldsOf -> iF,firstArgMember -> iG,isSubtype_stop -> iH,typeIs_none -> iK,Str -> iN,tupleKind_room_in1 -> iQ,wpAny_pyIter_tuple -> iU,wpAny_handled -> i5,eqIsQuiet_byValue -> jB,wpAny_truthy_bool -> jE,wpAny_sequenceKey -> jH,wpAny_pyIter_slot -> jJ,atKey_none_of_get -> jL,searchCouldBeSeen -> jM,Expr -> jN,wpAny_load -> jP,Paired -> jT,noFill_tuple_add -> jV,setAddHashed -> kH,meetsH_dict_get_default -> kJ,wpAny_execs_nil -> kO,theTreesLotGoes -> kW,wpAny_updateSeq -> kX,typeLookup_type -> lg,wpAny_pyNext_list_item -> lj,wpAny_Call_method_late -> lq,wpAny_throw -> lu,wpAny_pyNext_list_end -> lF,BindsTo -> lG,wpAny_runValue -> lK,wpAny_notOrdered_dict -> lO,dictSetDefault -> lR,IsEnum -> lU,HeapKind -> lX,call_meets -> l6,wpAny_newFunctionEnv -> l8,wpAny_pyIter_keyiter -> mr,wpAny_updateDictKeys -> mz,Program -> mF,swapsWithSole -> mG,swappedStores -> mH,seq_tuple_add -> mI,signature?_of -> mK,wpAny_newList -> mO,wpAny_dictFind_heap -> mW,not_mem_keys_of_get -> mX,kt_meets_setdefault -> mY,PyData -> m9,Around -> ng,getMethod -> ni,concat_meets -> nk,seqIndex_neg -> np,codeAny_loop -> nq,drawOrder -> nt,compStart -> nC,IsEnumOut -> nD,World -> nI,seqIndex_of -> nK,wpAny_noted -> nO,wpAny_of_eq -> nP,richCompare -> nQ,storedH_old -> nS,hashByValue -> nU,wpAny_loadPart' -> nV,SetTable -> nW,PassesOwn -> nX
open PySem.W renaming Frag -> aj,nsIn -> bE,findIn -> bM,kia_one -> cv,mg_none_of -> cx,keepIn -> cz,emptyDict -> cB,fnOf -> cI,instObj -> dh,codeIn -> eI,plainGet -> eO,hasDictIn -> fx,kas_place -> gq,kas_asc -> gA,plainOver -> gJ,kas_rev -> hW,isFn -> ib,plainGet_of -> iu,lookIn -> iA,callWith_K -> iP,mg_of -> jA,methodObj -> jD,kas_sort -> kD,takerIn -> kQ,makesIn -> kR,OpenLaw -> kU,cellsFrom_some -> lm,kas_desc -> ml,kas_tail3 -> ny,kas_descPart -> nz,kas_count -> nA,kas_bin -> nG
open PySem.Heap renaming get?_push_of_some -> ak,get?_push_size -> aA,lt_size -> aD,SameBut -> bi,get?_update_self -> bt,size_push -> bA,get?_update_other -> bQ,ExtBut -> eG,get?_push_ne -> fy,size_update -> gY,size_after_update -> lw
open List renaming length_map -> am,getElem?_eq_some_iff -> ap,getElem?_eq_getElem -> aq,mem_cons_self -> av,mem_cons_of_mem -> aw,all_eq_true -> ay,length_cons -> az,size_toArray -> aC,mem_cons -> aE,getElem?_set_ne -> aF,length_append -> aG,getElem?_append_left -> aJ,mem_singleton -> aL,map_cons -> aN,append_nil -> aP,getElem?_map -> aR,mem_append -> aS,getElem?_append_right -> aW,mem_append_right -> a7,mem_map -> a8,range -> a9,getElem?_set_self -> bc,length_take -> bd,mem_of_getElem? -> bp,map_map -> bx,replicate -> bB,mem_range -> bD,mem_filter -> bR,map_append -> bS,pairwise_cons -> ce,lookup_cons -> cj,length_range -> cp,find?_cons -> cw,nodup_cons -> cE,drop_eq_getElem_cons -> cF,getElem?_eq_none -> cH,length_drop -> cJ,not_mem_nil -> cK,getElem?_cons_succ -> cQ,append_assoc -> cR,ext_getElem? -> cS,pairwise_map -> cT,find?_cons_of_neg -> cZ,getElem?_eq_none_iff -> df,length_nil -> dA,getElem?_replicate -> dJ,nodup_nil -> dN,length -> dO,all_map -> dQ,length_singleton -> dW,foldl_cons -> dX,any_cons -> d5,nodup_append -> d7,getElem?_set -> d8,getElem?_of_mem -> eC,lookup -> eF,getElem?_take_of_lt -> eP,getElem?_range -> eW,mem_map_of_mem -> eX,drop_eq_nil_of_le -> fq,toArray -> fE,length_filter_le -> fG,map -> fP,any_eq_true -> fQ,getD_eq_getElem?_getD -> fV,pairwise_iff_getElem -> f6,nil_append -> f9,getElem?_drop -> gu,length_eq_zero_iff -> gH,filter_cons_of_neg -> gI,mapM_toArray -> gO,all_cons -> gU,nodup_range -> gW,length_replicate -> g8,Perm -> hJ,mem_iff_getElem? -> hV,map_nil -> hZ,Nodup -> im,filterMap_cons -> ir,map_congr_left -> iy,mem_filterMap -> iO,length_eraseIdx_of_lt -> i6,Pairwise -> i9,any_eq_false -> jF,take_sublist -> jG,length_erase_of_mem -> kB,all_toArray -> kE,getElem_mem -> kG,lookup_eq_none_iff -> kK,filter_cons_of_pos -> kM,of_mem_zip -> kS,take_of_length_le -> ly,find?_cons_of_pos -> lB,sublist_cons_self -> lE,drop_zero -> lL,take_append_drop -> lP,pairwise_and_iff -> lV,mem_append_left -> l4,perm_cons_erase -> mf,mem_erase_of_ne -> mh,set_append_left -> mi,mem_of_mem_drop -> mC,pairwise_append -> mD,getElem_of_mem -> mZ,Sublist -> nZ
open Nat renaming le_refl -> ao,ne_of_lt -> aH,lt_of_lt_of_le -> aQ,le_trans -> bb,le_of_not_lt -> bC,zero_le -> bP,lt_succ_of_lt -> cq,lt_irrefl -> cN,le_of_eq -> dj,lt_succ_self -> dL,ne_of_gt -> fA,lt_trans -> fB,mod_lt -> fN,le_of_lt -> gf,min_eq_left -> ik,le_succ -> iM,lt_of_le_of_lt -> iR,add_assoc -> iW,zero_add -> jX,mul_le_mul -> lW,not_lt -> md,sub_self -> nB
open Array renaming length_toList -> au,getElem?_eq_getElem -> bf,getElem?_toList -> bj,getElem?_eq_some_iff -> cb,getD -> cO,mem_toList_iff -> di,getElem?_eq_none_iff -> fU,forIn_toList -> gb,getElem?_eq_none -> gS,any_toList -> gX,replicate -> io,perm_iff_toList_perm -> i8,mem_of_getElem? -> lI,getElem_toList -> l9
open Bool renaming false_ne_true -> ax,and_eq_true -> aB,false_eq_true -> aT,eq_iff_iff -> cc,not_true -> cy,not_eq_true -> fO,and_self -> i7,and_false -> lH,not_false -> lQ,true_and -> mQ
open PySem.PyData renaming str -> aK,eqv -> aU,int -> aX,canLayAll0 -> bL,depthAll -> cV,tuple -> cY,eqvAll -> dY,depth -> eK,shown -> gn,leavesShort -> gp,showable -> ii,list -> lA,leavesShortAll -> lM,canLay0 -> lN
open Or renaming inl -> aO,inr -> bX
open PySem.Value renaming none -> aV,ref -> bn,type -> bu,int -> eE,isInt -> fj,str -> g6,bool -> ia,isInt_shape -> jC,float -> nJ
open PySem.Heap.SameBut renaming update -> bg,refl -> jK
open PySem.NameKind renaming free -> bF,cell -> fT
open Option.some renaming inj -> bH,injEq -> dG
open PySem.SetTable renaming below -> bK,grown -> bW,insertAt -> cU,sizeAbove -> c9,toList_insertAt -> eU,relaid -> kZ,probe -> lS,laid -> mJ,fits -> mM,fill -> mP
open Int renaming toNat_natCast -> bU,eq_ofNat_of_zero_le -> eY,emod_lt_of_pos -> iS,emod_nonneg -> kY
open Classical renaming byContradiction -> bV
open Ne renaming symm -> bY
open PySem.F renaming slot_dict_get -> bZ,slot_dict_setdefault -> cu,slot_dict_keyiterator_next -> cP,entry_dict_get -> cX,slot_list_append -> dE,type_list_append -> dF,entry_dict_setdefault -> dI,called_set -> eT,slot_tuple_hash -> fw,slot_enumerate_next -> fF,slot_NoneType_hash -> fL,args_tuple_add_2 -> gk,entry_tuple_add -> gE,args_dict_get_2 -> gF,args_dict_get_3 -> gG,slot_tuple_add -> gQ,type_dict_get -> hX,args_dict_keyiterator_next_1 -> ij,entry_dict_keyiterator_next -> iq,type_dict_setdefault -> iJ,plain_extend_loop -> jQ,plain_list_iadd -> kL,args_enumerate_next_1 -> kN,slot_tuple_lt -> lh,entry_enumerate_next -> lD,plain_set_new -> lJ,args_list_extend_2 -> l7,entry_list_extend -> mS
open PyProof.Rows renaming slot_tuple_getitem -> b9,callWith_type1 -> fH,AllBare -> gy,IntsAre -> iC,subscriptTail_builtinR -> ln,SortKind -> mq,listUpdate_at -> mN,entry_tuple_getitem -> mR,seqObj -> mU,seqEpoch_at -> nR,subscriptTail -> nY
open PySem.Str renaming ofString -> cr
open PySem.Builtin.Tuple renaming tupleHashOf -> cC,tupleExact -> eR,tupleItemsOf -> fR
open True renaming intro -> cD
open PySem.Obj renaming mapFields -> c7,data_mapFields -> de,mapSeq -> dP,isFreed_of_fields -> fD,putSet -> gC,data_mapDictKeys -> mw,isFreed_of_dict -> mV
open False renaming elim -> dq
open PySem.Builtin.List renaming listTooLong -> dw,listExtendWith -> fI,listLengthHint -> iV,listSameRef -> kA
open PySem.PassesOwn renaming never -> dC
open PySem.Paired renaming length -> dH,snoc -> nM
open PyProof.Rows.F renaming plain_set_update_loop -> dR,entry_set_update_loop -> gw
open PySem.Builtin.Slice renaming slicePlaces -> eA,sliceAdjust -> fZ,sliceApplied -> iY
open PySem.Around renaming under_plainId -> eD,in1 -> jO,under -> jU
open PySem.Challenge renaming rw_mannerports_k38_rows_of_tables -> eJ
open ForInStep renaming yield -> ff
open PySem.Builtin.Str renaming strSliceIndices -> fJ,occurrences -> gD
open PyProof.Rows.ReadsAll renaming keeps -> fK
open Option renaming map_some -> f7,isSome_iff_exists -> gj,bind_eq_bind -> iw,isSome_map -> jI,getD_none -> jW,bind_some -> jY,pure_def -> lf,map_eq_some_iff -> lC,map -> mE
open List.Pairwise renaming nil -> gK,imp_of_mem -> kF,sublist -> lT
open Sum renaming inl -> gZ,inr -> iz
open PySem.AutoSeq1 renaming wpAny_loadPart' -> ic
open PySem.Builtin.Frozenset renaming updateFrom -> iD,addrOf -> jZ
open PySem.Builtin.Dict_items renaming ownsTuple -> iI
open PySem.Calls renaming Name_function_global -> iX,call_function_entry -> jR,callWith_builtin -> lr,evalArgs_plain -> l5
open Prod.mk renaming injEq -> iZ
open PySem.Builtin.SmallTypes renaming nextOf -> jS
open List.Sublist renaming append_left -> kI
open PySem.SeqAt renaming eqAt_reads -> lY,EqAt -> lZ,room_head -> nv
open PySem.EntryCells renaming newEntry -> mT
open PySem.Code renaming isFrame -> nj
open PySem.pickOrder renaming go -> nu
open Lean renaming mkIdent -> nF
open PySem.Sem renaming onRaise -> nN
namespace PF
open PySem PySem.Spec PySem.SeqAt --
mutual
noncomputable def plD:ac -> Bool
 |.none=> true
 |.int _=> true
 |.str _=> true
 |.tuple xs=> vq xs
 |_=> false
noncomputable def vq:List ac -> Bool
 |[]=> true
 |x::xs=> plD x&&vq xs
end
theorem kz:plD (.tuple xs)=vq xs:=by simp only [plD]
theorem vb{x:ac}:vq (x::xs)=(plD x&&vq xs):=by simp only [vq]
theorem ac1: ∀xs:List ac,vq xs=xs.all plD
 |[]=> by simp only [vq,List.all_nil]
 |x::r=> by rw [vb,gU,ac1 r]
theorem evt{ys:List ac}:aU (.tuple xs) (.tuple ys)=dY xs ys:=by simp only [aU]
theorem evs{x y:ac}{ys:List ac}:dY (x::xs) (y::ys)=(aU x y&&dY xs ys):=by simp only [dY]
mutual
theorem zv: ∀a b:ac,plD a=true -> plD b=true -> (aU a b=true ↔ a=b)
 |.none,b,_,hb=> by cases b <;> simp [plD]at hb <;> simp [aU]
 |.int i,b,_,hb=> by cases b <;> simp [plD]at hb <;> simp [aU]
 |.str i,b,_,hb=> by cases b <;> simp [plD]at hb <;> simp [aU]
 |.tuple xs,.tuple ys,ha,hb=> by
  rw [evt,aon xs ys (by rw [←kz];exact ha) (by rw [←kz];exact hb)]
  simp
 |.tuple xs,.none,_,_=> by simp [aU]
 |.tuple xs,.int _,_,_=> by simp [aU]
 |.tuple xs,.str _,_,_=> by simp [aU]
 |.tuple xs,.bool _,_,hb=> by simp [plD]at hb
 |.tuple xs,.list _,_,hb=> by simp [plD]at hb
 |.tuple xs,.dict _,_,hb=> by simp [plD]at hb
 |.bool _,_,ha,_=> by simp [plD]at ha
 |.list _,_,ha,_=> by simp [plD]at ha
 |.dict _,_,ha,_=> by simp [plD]at ha
theorem aon: ∀xs ys:List ac,vq xs=true -> vq ys=true -> (dY xs ys=true ↔ xs=ys)
 |[],[],_,_=> by simp [dY]
 |[],_::_,_,_=> by simp [dY]
 |_::_,[],_,_=> by simp [dY]
 |x::xs,y::ys,ha,hb=> by
  rw [vb,aB]at ha hb
  rw [evs,aB,zv x y ha.1 hb.1,aon xs ys ha.2 hb.2,List.cons.injEq]
end
theorem au8{a:ac}(h:plD a=true):aU a a=true:=(zv a a h h).mpr rfl
mutual
noncomputable def jo(w:aM):ac -> Int
 |.none=> 0xFCA86420
 |.int i=> hashInt i
 |.str x=> hashStr w x
 |.tuple xs=> reduceHash (cC (aaj w xs))
 |_=> 0
noncomputable def aaj(w:aM):List ac -> List Int
 |[]=> []
 |x::xs=> jo w x::aaj w xs
end
mutual
noncomputable def zw:ac -> Nat
 |.tuple xs=> xz xs+1
 |_=> 1
noncomputable def xz:List ac -> Nat
 |[]=> 0
 |x::xs=> zw x+xz xs
end
theorem ai9(w:aM): ∀xs:List ac,aaj w xs=xs.map (jo w)
 |[]=> by simp only [aaj,hZ]
 |x::r=> by simp only [aaj,aN,ai9 w r]
theorem acz: ∀xs ys:List ac,xz (xs++ys)=xz xs+xz ys
 |[],ys=> by simp [xz]
 |x::r,ys=> by simp only [List.cons_append,xz,acz r ys];lia
theorem acs: ∀{xs:List ac} {x:ac},x∈xs -> x.depth <=cV xs
 |[],x,h=> by cases h
 |y::r,x,h=> by
  simp only [cV]
  (rcases aE.mp h with rfl|h)
  ·lia
  ·have:=acs h;lia
section
variable{prog:aI}{w:aM} --
theorem arw{Q:Int -> ag -> Prop}(h:Q 0xFCA86420 {s with toks:=s.toks+1}):wpAny (model prog w) A (pyHash .none) Q E s:=by
 unfold pyHash
 have hv:[aV].any Value.onHeap=false:=rfl
 refine aa ?_
 (rw [cRoomFor,if_neg (by rw [hv];exact ax)];refine af ?_)
 refine aa (dg (iK s) fL.lookup ?_)
 show wpAny _ _ (if (some (Value.builtin "NoneType.__hash__")==some aV)=true then _ else _) Q E s
 (rw [if_neg (by rw [beq_builtin_none];exact ax)])
 refine aa (dg (iK s) fL.lookup ?_)
 show wpAny _ _ (ip .none "__hash__" _ >>=_) Q E s
 refine aa (fM (iK s) fL
  (bh fL (iK s) F.entry_NoneType_hash
   (show wpAny _ _ (do ret (←mkInt 0xFCA86420)) _ _ s from wpAny_ret_mkInt ?_) (F.args_NoneType_hash_1 _)))
 show wpAny _ _ (if (decide (-(2:Int)^63 <=0xFCA86420)&&decide ((0xFCA86420:Int) < 2^63))=true then _ else _) Q E _
 rw [if_pos (by decide)]
 exact af h
mutual
theorem aiw: ∀(d:ac) {A:aZ} {E:ae -> ag -> Prop} {s:ag} {v:ae} {bs:List Addr} {Q:Int -> ag -> Prop},plD d=true -> ck s.heap v d bs -> A.units+d.depth < cLine -> Q (jo w d) {s with toks:=s.toks+zw d} -> wpAny (model prog w) A (pyHash v) Q E s
 |.none,A,E,s,v,bs,Q,_,r,_,h=> by cases r;simp only [jo,zw]at h;exact arw h
 |.int i,A,E,s,v,bs,Q,_,r,_,h=> by cases r;simp only [jo,zw]at h;exact wpAny_pyHash_int h
 |.str x,A,E,s,v,bs,Q,_,r,_,h=> by cases r;simp only [jo,zw]at h;exact wpAny_pyHash_str h
 | .tuple xs,A,E,s,v,bs,Q,hp,r,hu,h=> by
  have ih:=ajh xs
  rw [kz,ac1,ay]at hp
  (simp only [eK]at hu)
  cases r with
  | @tuple a o items n _ _ ho hc hd hi=>
  have hT:s.TypeIs (.ref a) "tuple":=⟨o,ho,hc⟩
  unfold pyHash pyHashByItsType
  refine aa (wpAny_cRoomFor_or (.inr (by lia)) ?_)
  (refine aa (dg hT fw.lookup ?_))
  show wpAny _ _ (if (some (Value.builtin "tuple.__hash__")==some aV)=true then _ else _) Q E s --
  (rw [if_neg (by rw [beq_builtin_none];exact ax)])
  (refine aa (dg hT fw.lookup ?_))
  show wpAny _ _ (ip (.ref a) "__hash__" _ >>=_) Q E s --
  (refine aa (fM hT fw (bh fw hT F.entry_tuple_hash ?_ (F.args_tuple_hash_1 _))))
  show wpAny _ _ (fR (.ref a)>>=_) _ _ s --
  (refine aa (wpAny_tupleItemsOf ho hd ?_))
  refine aa ?_
  rw [←gb]
  refine eM _
   (fun rest (b:Array Int) s'=> ∃done left cs,xs=done++left/\cf s.heap rest left cs/\b.toList=done.map (jo w)/\s'={s with toks:=s.toks+xz done})
   _ ?_ ?_ _ _ ⟨[],xs,_,rfl,hi,rfl,rfl⟩
  ·rintro x rest b s' ⟨done,left,cs,e,hl,hb,rfl⟩
   cases hl with
   | @cons _ _ k ks' _ _ h1 hl'=>
    have hm:k∈xs:=by rw [e];simp
    have hdk:=acs hm
    have e1: ∀A:aZ,A.in1.units <=A.units+1:=fun A=> by first|exact ao _|(unfold jO;simp)
    have e1A:=e1 A
    refine aa (ih k hm (s:={s with toks:=s.toks+xz done}) (hp k hm) h1 (by lia) ?_)
    first
     |exact af ⟨done++ [k],ks',_,by rw [e];simp,hl',by simp [hb],by simp [acz,xz,iW]⟩
     |exact aa (af (af ⟨done++ [k],ks',_,by rw [e];simp,hl',by simp [hb],by simp [acz,xz,iW]⟩))
  ·rintro b s' ⟨done,left,cs,e,hl,hb,rfl⟩
   cases hl
   rw [aP]at e
   subst e
   show wpAny _ _ (retInt (cC b.toList)) _ _ _ --
   rw [hb,←ai9]
   refine wpAny_ret_mkInt ?_
   show wpAny _ _ (if (decide (-(2:Int)^63 <=cC (aaj w xs))&&decide (cC (aaj w xs) < 2^63))=true then _ else _) Q E _
   simp only [jo,zw]at h
   unfold reduceHash at h
   by_cases hr:(decide (-(2:Int)^63 <=cC (aaj w xs))&&decide (cC (aaj w xs) < 2^63))=true
   ·rw [if_pos hr]
    rw [if_pos hr]at h
    (exact af (by simpa [iW] using h))
   ·rw [if_neg hr]
    rw [if_neg hr]at h
    (exact aa (cn (af (by simpa [iW] using h))))
 |.bool _,_,_,_,_,_,_,hp,_,_,_=> by simp [plD]at hp
 |.list _,_,_,_,_,_,_,hp,_,_,_=> by simp [plD]at hp
 |.dict _,_,_,_,_,_,_,hp,_,_,_=> by simp [plD]at hp
theorem ajh: ∀(xs:List ac),∀d∈xs,∀{A:aZ} {E:ae -> ag -> Prop} {s:ag} {v:ae} {bs:List Addr} {Q:Int -> ag -> Prop},plD d=true -> ck s.heap v d bs -> A.units+d.depth < cLine -> Q (jo w d) {s with toks:=s.toks+zw d} -> wpAny (model prog w) A (pyHash v) Q E s
 |[],d,m=> by cases m
 | x::r,d,m=> by
  intro h1 h2 h3 h4
  rcases aE.mp m with e|m
  ·rw [e]at h1 h2 h3 h4
   exact aiw x h1 h2 h3 h4
  ·exact ajh r d m h1 h2 h3 h4
end
mutual
theorem ae5: ∀(d:ac) {n:Nat} {A:aZ} {E:ae -> ag -> Prop} {s:ag} {v:ae} {bs:List Addr} {Q:Bool -> ag -> Prop},plD d=true -> ck s.heap v d bs -> d.depth <=n -> Q true s -> wpAny (model prog w) A (eqIsQuiet n v) Q E s
 |.none,n,A,E,s,v,bs,Q,_,r,_,h=> by cases r;rw [jB n rfl];exact af h
 |.int i,n,A,E,s,v,bs,Q,_,r,_,h=> by cases r;rw [jB n rfl];exact af h
 |.str x,n,A,E,s,v,bs,Q,_,r,_,h=> by cases r;rw [jB n rfl];exact af h
 | .tuple xs,n,A,E,s,v,bs,Q,hp,r,hu,h=> by
  have ih:=ak5 xs
  rw [kz,ac1,ay]at hp
  (simp only [eK]at hu)
  obtain⟨m,rfl⟩: ∃m,n=m+1:=⟨n - 1,by lia⟩
  cases r with
  | @tuple a o items n _ _ ho hc hd hi=>
  have hT:s.TypeIs (.ref a) "tuple":=⟨o,ho,hc⟩
  unfold eqIsQuiet
  (refine aa (dg hT F.slot_tuple_eq.lookup ?_))
  show wpAny _ _ (isInstance (.ref a) (.type "tuple")>>=_) _ _ s --
  (refine aa (eN hT isSubtype_tuple_tuple ?_))
  (simp only [cy,aT,if_false])
  (refine aa (gx ho hd ?_))
  refine aa ?_
  show wpAny _ _ (forIn items _ _) _ _ s --
  rw [←gb]
  refine eM _ (fun rest r s'=> r.1=none/\s'=s/\ ∃left cs,(∀x∈left,x∈xs)/\cf s.heap rest left cs) _ ?_ ?_ _ _ ⟨rfl,rfl,xs,_,fun _ m=> m,hi⟩
  ·rintro v rest r s' ⟨hr,rfl,left,cs,sub,hl⟩
   cases hl with
   | @cons _ _ k ks' _ _ h1 hl'=>
    have hm:=sub k av
    have hdk:=acs hm
    refine aa (ih k hm (hp k hm) h1 (by lia) ?_)
    (simp only [cy,aT,if_false])
    exact af ⟨rfl,rfl,ks',_,fun x m=> sub x (aw _ m),hl'⟩
  ·rintro⟨r1,r2⟩ s' ⟨hr,rfl,_⟩
   simp only at hr
   subst hr
   exact af h
 |.bool _,_,_,_,_,_,_,_,hp,_,_,_=> by simp [plD]at hp
 |.list _,_,_,_,_,_,_,_,hp,_,_,_=> by simp [plD]at hp
 |.dict _,_,_,_,_,_,_,_,hp,_,_,_=> by simp [plD]at hp
theorem ak5: ∀(xs:List ac),∀d∈xs,∀{n:Nat} {A:aZ} {E:ae -> ag -> Prop} {s:ag} {v:ae} {bs:List Addr} {Q:Bool -> ag -> Prop},plD d=true -> ck s.heap v d bs -> d.depth <=n -> Q true s -> wpAny (model prog w) A (eqIsQuiet n v) Q E s
 |[],d,m=> by cases m
 | x::r,d,m=> by
  intro h1 h2 h3 h4
  rcases aE.mp m with e|m
  ·rw [e]at h1 h2 h3
   exact ae5 x h1 h2 h3 h4
  ·exact ak5 r d m h1 h2 h3 h4
end
mutual
theorem ajy: ∀(d:ac) {h h':Heap} {v:ae} {bs:List Addr} {a:Addr} {o:Obj} {es:Array c8} {ep:Nat},plD d=true -> ck h v d bs -> h.get? a=some o -> o.data=.dict es ep -> bi a h h' -> ck h' v d bs
 |.none,_,_,_,_,_,_,_,_,_,r,_,_,_=> by cases r;exact .none
 |.int i,_,_,_,_,_,_,_,_,_,r,_,_,_=> by cases r;exact .int _ _
 |.str x,_,_,_,_,_,_,_,_,_,r,_,_,_=> by cases r;exact .str _ _
 | .tuple xs,h,h',v,bs,a,o,es,ep,hp,r,ho,hd,hs=> by
  rw [kz]at hp
  cases r with
  | @tuple b ob items n _ _ h1 h2 h3 h4=>
   have ne:b≠a:=by
    rintro rfl
    rw [h1]at ho
    cases ho
    rw [hd]at h3;cases h3
   exact .tuple ((hs.2 b ne).trans h1) h2 h3 (ah8 xs hp h4 ho hd hs)
 |.bool _,_,_,_,_,_,_,_,_,hp,_,_,_,_=> by simp [plD]at hp
 |.list _,_,_,_,_,_,_,_,_,hp,_,_,_,_=> by simp [plD]at hp
 |.dict _,_,_,_,_,_,_,_,_,hp,_,_,_,_=> by simp [plD]at hp
theorem ah8: ∀(xs:List ac) {h h':Heap} {vs:List ae} {bs:List Addr} {a:Addr} {o:Obj} {es:Array c8} {ep:Nat},vq xs=true -> cf h vs xs bs -> h.get? a=some o -> o.data=.dict es ep -> bi a h h' -> cf h' vs xs bs
 |[],_,_,_,_,_,_,_,_,_,r,_,_,_=> by cases r;exact .nil
 |x::xs,_,_,_,_,_,_,_,_,hp,r,ho,hd,hs=> by
  rw [vb,aB]at hp
  cases r with
  |cons r1 r2=> exact .cons (ajy x hp.1 r1 ho hd hs) (ah8 xs hp.2 r2 ho hd hs)
end
def xt(d:ac):Bool:=plD d&&d.canLay0&&decide (d.depth <=8)
theorem kq{d:ac}:xt d=true ↔ plD d=true/\d.canLay0=true/\d.depth <=8:=by
 unfold xt
 simp only [aB,decide_eq_true_eq,and_assoc]
noncomputable instance:DecidableEq ac:=fun a b=> Classical.propDecidable (a=b)
def qo(prog:aI)(w:aM):lX prog w ac where
 is h k a:=xt k=true/\ ∃bs,ck h (.ref a) k bs
 hash:=jo w
 draws:=zw
 room A:=A.units+10 < cLine
 inj:=by
  rintro h a x y ⟨k1,b1,r1⟩ ⟨k2,b2,r2⟩
  exact Reads.unique x y _ _ _ (kq.mp k1).2.1 r1 r2
 keeps:=by
  rintro h h' k a d o es ep ⟨k1,b1,r1⟩ ho hd hs
  exact⟨k1,b1,ajy k (kq.mp k1).1 r1 ho hd hs⟩
 pyHash:=by
  rintro A E s k a Q hu ⟨k1,b1,r1⟩ h
  obtain⟨p,c,d⟩:=kq.mp k1
  exact aiw k p r1 (by lia) h
 eqBool:=by
  rintro A E s x y a b Q hu ⟨k1,b1,r1⟩ ⟨k2,b2,r2⟩ h
  obtain⟨p,c,d⟩:=kq.mp k1
  obtain⟨p',c',d'⟩:=kq.mp k2
  refine lY x y A s _ _ _ _ r1 r2 c c' (by lia) prog w E Q ?_
  have:aU x y=decide (x=y):=by
   (rw [cc,decide_eq_true_eq])
   exact zv x y p p'
  rw [this];exact h
 quiet:=by
  rintro A E s k a Q ⟨k1,b1,r1⟩ h
  obtain⟨p,c,d⟩:=kq.mp k1
  exact ae5 k p r1 (by lia) h
end
end PF
namespace L2
open PySem PySem.Spec PyProof.Rows
abbrev Key:=Sum Int Str
noncomputable def ae3:Key -> ae -> Bool
 |.inl k,v=> fj k v
 |.inr x,v=> Value.isStrOf x v
noncomputable def a5o(w:aM):Key -> Int
 |.inl k=> hashInt k
 |.inr x=> hashStr w x
theorem ql: ∀{k:Key} {v:ae},ae3 k v=true -> (∃i t,k=gZ i/\v=eE i t)\/(∃x t,k=iz x/\v=g6 x t)
 |.inl i,v,h=> by
  obtain⟨t,e⟩:=jC (k:=i) (v:=v) h
  exact .inl ⟨i,t,rfl,e⟩
 |.inr x,v,h=> by
  obtain⟨t,e⟩:=Value.isStrOf_shape (x:=x) (v:=v) h
  exact .inr ⟨x,t,rfl,e⟩
theorem arr(i:Int)(t:Tok):ae3 (.inl i) (.int i t)=true:=by simp [ae3,fj]
theorem asu(x:Str)(t:Tok):ae3 (.inr x) (.str x t)=true:=by simp [ae3,Value.isStrOf]
theorem a26(a b:Int):decide ((gZ a:Key)=gZ b)=(a==b):=by
 by_cases e:a=b
 ·subst e;simp
 ·have h: ¬(gZ a:Key)=gZ b:=fun q=> e (gZ.inj q)
  rw [decide_eq_false h]
  exact (beq_eq_false_iff_ne.mpr e).symm
theorem a3d(a b:Str):decide ((iz a:Key)=iz b)=decide (a=b):=by
 by_cases e:a=b
 ·subst e;simp
 ·have h: ¬(iz a:Key)=iz b:=fun q=> e (iz.inj q)
  rw [decide_eq_false h,decide_eq_false e]
theorem a3i(a:Int)(b:Str):decide ((gZ a:Key)=iz b)=false:=decide_eq_false (fun q=> nomatch q)
theorem a2o(a:Str)(b:Int):decide ((iz a:Key)=gZ b)=false:=decide_eq_false (fun q=> nomatch q)
def ko(prog:aI)(w:aM):PySem.KeyKind prog w Key where
 is:=ae3
 hash:=a5o w
 inj:=fun v a b ha hb=> by
  rcases ql ha with ⟨i,t,rfl,rfl⟩|⟨x,t,rfl,rfl⟩
  ·rcases ql hb with ⟨j,u,rfl,e⟩|⟨y,u,rfl,e⟩
   ·injection e with e1 _;rw [e1]
   ·exact nomatch e
  ·rcases ql hb with ⟨j,u,rfl,e⟩|⟨y,u,rfl,e⟩
   ·exact nomatch e
   ·injection e with e1 _;rw [e1]
 byValue:=fun k v h=> by
  rcases ql h with ⟨i,t,rfl,rfl⟩|⟨x,t,rfl,rfl⟩ <;> rfl
 pyHash:=fun hv h=> by
  rcases ql hv with ⟨i,t,rfl,rfl⟩|⟨x,t,rfl,rfl⟩
  ·exact wpAny_pyHash_int h
  ·exact wpAny_pyHash_str h
 eqBool:=fun hu hv h=> by
  rcases ql hu with ⟨i,t,rfl,rfl⟩|⟨x,t,rfl,rfl⟩
  ·rcases ql hv with ⟨j,u,rfl,rfl⟩|⟨y,u,rfl,rfl⟩
   ·rw [a26]at h;exact wpAny_eqBool_int h
   ·rw [a3i]at h;exact lZ.int_str i t y u _ _ _ _ h
  ·rcases ql hv with ⟨j,u,rfl,rfl⟩|⟨y,u,rfl,rfl⟩
   ·rw [a2o]at h;exact lZ.str_int x t j u _ _ _ _ h
   ·rw [a3d]at h;exact wpAny_eqBool_str h
 «strs»:=fun k x t v h=> by
  rcases ql h with ⟨i,u,rfl,e⟩|⟨y,u,rfl,e⟩
  ·exact nomatch e
  ·injection e with e1 _
   subst e1
   cases v <;> rfl
theorem ani(prog:aI)(w:aM)(i:Int)(t:Tok):(ko prog w).is (.inl i) (.int i t)=true:=arr i t
theorem anj(prog:aI)(w:aM)(x:Str)(t:Tok):(ko prog w).is (.inr x) (.str x t)=true:=asu x t
inductive V where
 |non|bl (b:Bool)|int (i:Int)|str (x:Str)|byt (b:Array UInt8)|flt (b:UInt64)|ref (a:Addr)|ty (n:String)
 deriving DecidableEq
def RelV:V -> ae -> Prop
 |.non,u=> u=aV
 |.bl b,u=> u=ia b
 |.int i,u=> ∃t,u=eE i t
 |.str x,u=> ∃t,u=g6 x t
 |.byt b,u=> ∃t,u=Value.bytes b t
 |.flt b,u=> ∃t,u=nJ b t
 |.ref a,u=> u=bn a
 |.ty n,u=> u=bu n
abbrev jj:List V -> List ae -> Prop:=jT RelV
theorem jj.length{xs:List V}{us:List ae}(r:jj xs us):xs.length=us.length:=dH r
theorem jj.get: ∀{xs:List V} {us:List ae} {i:Nat} {x:V},jj xs us -> xs[i]?=some x -> ∃u,us[i]?=some u/\RelV x u
 |_,_,_,_,.nil,e=> by simp at e
 |_,_,0,_,.cons r _,e=> by simp at e;subst e;exact⟨_,rfl,r⟩
 |_,_,i+1,x,.cons _ t,e=> by
  obtain⟨u,h1,h2⟩:=jj.get (i:=i) (x:=x) t (by simpa using e)
  exact⟨u,by simpa using h1,h2⟩
theorem jj.set{x:V}{u:ae}(r:RelV x u): ∀{xs:List V} {us:List ae} (i:Nat),jj xs us -> jj (xs.set i x) (us.set i u)
 |_,_,_,.nil=>.nil
 |_,_,0,.cons _ t=>.cons r t
 |_,_,i+1,.cons q t=>.cons q (jj.set r i t)
theorem jj.append: ∀{xs ys:List V} {us ws:List ae},jj xs us -> jj ys ws -> jj (xs++ys) (us++ws)
 |_,_,_,_,.nil,s=> s
 |_,_,_,_,.cons r t,s=>.cons r (jj.append t s)
theorem jj.take: ∀{xs:List V} {us:List ae} (n:Nat),jj xs us -> jj (xs.take n) (us.take n)
 |_,_,0,_=>.nil
 |_,_,_+1,.nil=>.nil
 |_,_,n+1,.cons r t=>.cons r (jj.take n t)
theorem jj.drop: ∀{xs:List V} {us:List ae} (n:Nat),jj xs us -> jj (xs.drop n) (us.drop n)
 |_,_,0,r=> r
 |_,_,_+1,.nil=>.nil
 |_,_,n+1,.cons _ t=> jj.drop n t
def xp:Option V -> Option ae -> Prop
 |some v,some u=> RelV v u
 |none,none=> True
 |_,_=> False
def KV{κ:Type}:List (κ×V) -> List (κ×ae) -> Prop:=jT fun (p:κ×V) (q:κ×ae)=> p.1=q.1/\RelV p.2 q.2
noncomputable def kV:Key -> V
 |.inl i=>.int i
 |.inr x=>.str x
inductive HO where
 /-- a list -/
 |lst (xs:List V)
 /-- a tuple (never changes) -/
 |tup (xs:List V)
 /-- a dict whose keys are ints and texts;one whose keys are tuples of ints and texts (the empty one is both) -/
 |dK (kvs:List (Key×V))|dT (kvs:List (List Key×V))
 /-- one whose keys are plain tuples -/
 |dD (kvs:List (ac×V))
 /-- a set of ints:its members,its size -/
 |set (S:Int -> Bool) (n:Nat)
 /-- an instance of the class at C,its dict at dx,its attributes -/
 |ins (C dx:Addr) (fs:List (Str×V))
 /-- the dict of the instance at x -/
 |own (x:Addr)
 /-- the dict of an exception -/
 |xd (fs:List (Str×V))
 /-- a bound method,f of x -/
 |met (f x:Addr)
 /-- a range object lo,lo+1,.. below hi -/
 |rng (lo hi:Int)
 /-- a thing that is known to the object (the script;a dict while a loop walks it):read,never written while it is so -/
 |frz (o:Obj) (u:HO)
 /-- a code object's table -/
 |tbl (ps:Array ae)
 /-- an exception of the class at C,its attributes -/
 |exn (C:Addr) (fs:List (Str×V))
 /-- an exception that was raised:its class,its attributes -/
 |exx (C:Addr) (fs:List (Str×V))
 /-- any other thing,by what is true of its one object (a def of one's own:SetO a S n:=HO.ext fun h=>..) -/
 |ext (φ:Heap -> Prop)
abbrev Hp:=Addr -> Option HO
mutual
inductive KD (H:Hp):V -> ac -> Prop
 |non:KD H .non .none
 |int (i:Int):KD H (.int i) (.int i)
 |str (x:Str):KD H (.str x) (.str x)
 |tup {p:Addr} {xs:List V} {ds:List ac}:H p=some (.tup xs) -> KDs H xs ds -> KD H (.ref p) (.tuple ds)
inductive KDs (H:Hp):List V -> List ac -> Prop
 |nil:KDs H [] []
 |cons {x:V} {xs:List V} {d:ac} {ds:List ac}:KD H x d -> KDs H xs ds -> KDs H (x::xs) (d::ds)
end
mutual
theorem KD.mono{H H':Hp}(ht: ∀b xs,H b=some (.tup xs) -> H' b=some (.tup xs)): ∀{v:V} {d:ac},KD H v d -> KD H' v d
 |_,_,.non=>.non
 |_,_,.int i=>.int i
 |_,_,.str x=>.str x
 |_,_,.tup e r=>.tup (ht _ _ e) (KDs.mono ht r)
theorem KDs.mono{H H':Hp}(ht: ∀b xs,H b=some (.tup xs) -> H' b=some (.tup xs)): ∀{v:List V} {d:List ac},KDs H v d -> KDs H' v d
 |_,_,.nil=>.nil
 |_,_,.cons a r=>.cons (KD.mono ht a) (KDs.mono ht r)
end
noncomputable def upd(H:Hp)(a:Addr)(o:HO):Hp:=fun b=> if b=a then some o else H b
theorem aa5{H:Hp}{o:HO}:upd H a o a=some o:=by unfold upd;rw [if_pos rfl]
theorem j7{H:Hp}{o:HO}(h:b≠a):upd H a o b=H b:=by unfold upd;rw [if_neg h]
theorem a48{H:Hp}{o u:HO}(h:H a=some o)(h':H b=some u)(d:o≠u):a≠b:=by
 intro e;subst e;rw [h]at h';exact d (bH h')
theorem yn{H:Hp}{o:HO}(h:H a=some o)(h':H b=none):a≠b:=by
 intro e;subst e;rw [h]at h';cases h'
def af0(h:Heap)(a:Addr)(its:Array ae):Prop:= ∃n,h.get? a=some {cls:=.type "tuple",data:=.seq its n}
theorem af0.tup{its:Array ae}(x:af0 h a its):IsTup h a its:=let ⟨n,e⟩:=x;⟨_,e,rfl,n,rfl⟩
theorem af0.new(h:Heap)(its:Array ae):af0 (h.push {cls:=.type "tuple",data:=.seq its}) h.objs.size its:=⟨_,aA _ rfl⟩
abbrev a6k(C:Addr)(dx:Option Addr)(t:Addr):Obj:={cls:=.ref C,dict:=dx,data:=.fields #[.ref t,.none,.none,.none,.bool false,.none]}
abbrev afl(C:Addr)(dx:Option Addr)(t:Addr)(tb:ae):Obj:={cls:=.ref C,dict:=dx,data:=.fields #[.ref t,tb,.none,.none,.bool false,.none]}
def Emp(h:Heap)(a:Addr):Prop:= ∃o,h.get? a=some o/\o.ExactDict/\o.data=.dict #[] 0
section
variable(P:aI)(w:aM)
def jx(H:Hp)(h:Heap)(a:Addr):HO -> Prop
 |.lst xs=> xs.length <=sizeLine/\ ∃(its:List ae) (n:Nat),jj xs its/\h.get? a=some {cls:=.type "list",data:=.seq its.toArray n}
 |.tup xs=> xs.length <=sizeLine/\ ∃its:List ae,jj xs its/\af0 h a its.toArray
 |.dK kvs=> (kvs=[] -> Emp h a)/\kvs.length <=sizeLine/\(a==bI)=false/\ ∃vs,KV kvs vs/\h.DictOf (ko P w) a vs
 | .dT kvs=> kvs.length <=sizeLine/\(a==bI)=false/\ ∃xs:List (List Key×Addr×ae),
   jT (fun (p:List Key×V) (q:List Key×Addr×ae)=> p.1=q.1/\H q.2.1=some (.tup (p.1.map kV))/\RelV p.2 q.2.2) kvs xs/\
   ∃o es ep,h.get? a=some o/\o.ExactDict/\o.data=.dict es ep/\es.toList=xs.map (eZ (g7 (ko P w)))/\(xs.map (·.1)).Nodup
 | .dD kvs=> kvs.length <=sizeLine/\(a==bI)=false/\ ∃xs:List (ac×Addr×ae),
   jT (fun (p:ac×V) (q:ac×Addr×ae)=> p.1=q.1/\(PF.xt p.1=true/\KD H (.ref q.2.1) p.1)/\RelV p.2 q.2.2) kvs xs/\
   ∃o es ep,h.get? a=some o/\o.ExactDict/\(o.data=.dict es ep/\ep=es.size)/\es.toList=xs.map (eZ (PF.qo P w))/\(xs.map (·.1)).Nodup
 |.set S n=> h.SetOf (intKind P w) a S n
 | .ins C dx fs=> H dx=some (.own a)/\fs.length <=1000/\dx≠a/\h.get? a=some (dh C dx)/\
   ∃mA,h.Ns1 dx mA/\(∀f,xp (fs.lookup f) (mA f))/\gc mA (fs.map (·.1))
 | .exn C fs=> fs.length <=1000/\ ∃(t:Addr) (dxo:Option Addr),h.get? a=some (a6k C dxo t)/\((dxo=none/\fs=[])\/ ∃dx,dxo=some dx/\H dx=some (.own a)/\dx≠a/\
   ∃mA,h.Ns1 dx mA/\(∀f,xp (fs.lookup f) (mA f))/\gc mA (fs.map (·.1)))
 | .exx C fs=> fs.length <=1000/\ ∃(t:Addr) (tb:ae) (dxo:Option Addr),h.get? a=some (afl C dxo t tb)/\((dxo=none/\fs=[])\/ ∃dx,dxo=some dx/\H dx=some (.own a)/\dx≠a/\
   ∃mA,h.Ns1 dx mA/\(∀f,xp (fs.lookup f) (mA f))/\gc mA (fs.map (·.1)))
 |.own _=> ∃o,h.get? a=some o
 |.xd fs=> ∃mA,h.Ns1 a mA/\ ∀f,xp (fs.lookup f) (mA f)
 |.rng lo hi=> ∃t u v,h.get? a=some {cls:=.type "range",data:=.fields #[.int lo t,.int hi u,.int 1 v]}
 |.frz o u=> h.get? a=some o/\jx H h a u
 |.tbl ps=> h.get? a=some {cls:=.none,data:=.fields ps}
 |.met f x=> h.get? a=some (jD (.ref f) (.ref x))
 |.ext φ=> φ h/\(∃o,h.get? a=some o)/\ ∀h1 h2:Heap,φ h1 -> (∀o,h1.get? a=some o -> h2.get? a=some o) -> φ h2
def HOk(H:Hp)(h:Heap):Prop:= ∀a o,H a=some o -> jx P w H h a o
end
section
variable{P:aI}{w:aM}{H H':Hp}{h h':Heap}{a:Addr}{o:HO}
theorem jx.lt(x:jx P w H h a o):a < h.objs.size:=by
 cases o with
 |lst xs=> obtain⟨_,_,_,_,e⟩:=x;exact aD e
 |tup xs=> obtain⟨_,_,_,p⟩:=x;exact p.tup.lt
 |dK kvs=> obtain⟨_,_,_,_,_,o,_,_,e,_⟩:=x;exact aD e
 |dT kvs=> obtain⟨_,_,_,_,o,_,_,e,_⟩:=x;exact aD e
 |dD kvs=> obtain⟨_,_,_,_,o,_,_,e,_⟩:=x;exact aD e
 |set S n=> obtain⟨o,_,_,_,e,_⟩:=x;exact aD e
 |ins C dx fs=> obtain⟨_,_,_,e,_⟩:=x;exact aD e
 |exn C fs=> obtain⟨_,_,_,e,_⟩:=x;exact aD e
 |exx C fs=> obtain⟨_,_,_,_,e,_⟩:=x;exact aD e
 |own y=> obtain⟨_,e⟩:=x;exact aD e
 |xd fs=> obtain⟨_,⟨_,_,_,e,_⟩,_⟩:=x;exact aD e
 |rng lo hi=> obtain⟨_,_,_,e⟩:=x;exact aD e
 |frz ob u=> obtain⟨e,_⟩:=x;exact aD e
 |tbl ps=> exact aD (show h.get? a=some _ from x)
 |met f y=> exact aD (show h.get? a=some _ from x)
 |ext φ=> obtain⟨_,⟨_,e⟩,_⟩:=x;exact aD e
theorem Paired.mapP{α β:Type}{F G:α -> β -> Prop}: ∀{l₁:List α} {l₂:List β},jT F l₁ l₂ -> (∀a b,F a b -> G a b) -> jT G l₁ l₂
 |_,_,.nil,_=>.nil
 |_,_,.cons r t,f=>.cons (f _ _ r) (Paired.mapP t f)
theorem jx.stay(x:jx P w H h a o)(k: ∀b u,(b=a\/H b=some (.own a)) -> h.get? b=some u -> h'.get? b=some u)
  (ho: ∀b,H b=some (.own a) -> H' b=some (.own a)) (ht: ∀b xs,H b=some (.tup xs) -> H' b=some (.tup xs)):jx P w H' h' a o:=by
 induction o with
 |lst xs=> obtain⟨z,its,n,r,e⟩:=x;exact⟨z,its,n,r,k _ _ (.inl rfl) e⟩
 |tup xs=> obtain⟨z,its,r,n,e⟩:=x;exact⟨z,its,r,n,k _ _ (.inl rfl) e⟩
 |dK kvs=> obtain⟨n,z,y,vs,r,ob,es,ep,e,c⟩:=x;exact⟨fun m=> let ⟨o,q,r⟩:=n m;⟨o,k _ _ (.inl rfl) q,r⟩,z,y,vs,r,ob,es,ep,k _ _ (.inl rfl) e,c⟩
 |dT kvs=>
  obtain⟨z,y,xs,r,ob,es,ep,e,c⟩:=x
  exact⟨z,y,xs,Paired.mapP r fun p q z=> ⟨z.1,ht _ _ z.2.1,z.2.2⟩,ob,es,ep,k _ _ (.inl rfl) e,c⟩
 |dD kvs=>
  obtain⟨z,y,xs,r,ob,es,ep,e,c⟩:=x
  exact⟨z,y,xs,Paired.mapP r fun p q z=> ⟨z.1,⟨z.2.1.1,z.2.1.2.mono ht⟩,z.2.2⟩,ob,es,ep,k _ _ (.inl rfl) e,c⟩
 |set S n=> obtain⟨ob,es,ep,t,e,c⟩:=x;exact⟨ob,es,ep,t,k _ _ (.inl rfl) e,c⟩
 |ins C dx fs=>
  obtain⟨d,z,ne,e,mA,⟨od,es,ep,e2,c⟩,r⟩:=x
  exact⟨ho _ d,z,ne,k _ _ (.inl rfl) e,mA,⟨od,es,ep,k _ _ (.inr d) e2,c⟩,r⟩
 |exn C fs=>
  obtain⟨z,t,dxo,e,q⟩:=x
  refine⟨z,t,dxo,k _ _ (.inl rfl) e,?_⟩
  rcases q with q|⟨dx,q,d,ne,mA,⟨od,es,ep,e2,c⟩,r⟩
  ·exact .inl q
  ·exact .inr ⟨dx,q,ho _ d,ne,mA,⟨od,es,ep,k _ _ (.inr d) e2,c⟩,r⟩
 |exx C fs=>
  obtain⟨z,t,tb,dxo,e,q⟩:=x
  refine⟨z,t,tb,dxo,k _ _ (.inl rfl) e,?_⟩
  rcases q with q|⟨dx,q,d,ne,mA,⟨od,es,ep,e2,c⟩,r⟩
  ·exact .inl q
  ·exact .inr ⟨dx,q,ho _ d,ne,mA,⟨od,es,ep,k _ _ (.inr d) e2,c⟩,r⟩
 |own y=> obtain⟨ob,e⟩:=x;exact⟨ob,k _ _ (.inl rfl) e⟩
 |xd fs=> obtain⟨mA,⟨od,es,ep,e,c⟩,r⟩:=x;exact⟨mA,⟨od,es,ep,k _ _ (.inl rfl) e,c⟩,r⟩
 |rng lo hi=> obtain⟨t,u,v,e⟩:=x;exact⟨t,u,v,k _ _ (.inl rfl) e⟩
 |frz ob u ih=> obtain⟨e,q⟩:=x;exact⟨k _ _ (.inl rfl) e,ih q⟩
 |tbl ps=>
  have e:h.get? a=some {cls:=.none,data:=.fields ps}:=x
  show h'.get? a=some {cls:=.none,data:=.fields ps}
  exact k a _ (.inl rfl) e
 |met f y=>
  have e:h.get? a=some (jD (.ref f) (.ref y)):=x
  show h'.get? a=some (jD (.ref f) (.ref y))
  exact k a _ (.inl rfl) e
 |ext φ=> obtain⟨p,⟨o,e⟩,st⟩:=x;exact⟨st _ _ p fun o q=> k _ _ (.inl rfl) q,⟨o,k _ _ (.inl rfl) e⟩,st⟩
theorem HOk.lt(x:HOk P w H h)(e:H a=some o):a < h.objs.size:=(x a o e).lt
theorem HOk.fresh(x:HOk P w H h)(e:h.objs.size <=a):H a=none:=by
 cases q:H a with
 |none=> rfl
 |some u=> exact absurd (aQ (x.lt q) e) (cN _)
theorem HOk.kept(x:HOk P w H h)(k: ∀b u,h.get? b=some u -> h'.get? b=some u):HOk P w H h':=fun a o e=>
 (x a o e).stay (fun b u _ q=> k b u q) (fun _ q=> q) fun _ _ q=> q
theorem HOk.laid(x:HOk P w H h)(k: ∀b u,h.get? b=some u -> h'.get? b=some u)(hp:h.objs.size <=a)(new:jx P w (upd H a o) h' a o):HOk P w (upd H a o) h':=fun b u e=> by
 have hn:=x.fresh hp
 by_cases hb:b=a
 ·subst hb;rw [aa5]at e;cases e;exact new
 ·rw [j7 hb]at e
  exact (x b u e).stay (fun c v _ q=> k c v q) (fun c q=> by rw [j7 (yn q hn)];exact q) fun c xs q=> by rw [j7 (yn q hn)];exact q
end
def Rd(H:Hp)(a:Addr)(u:HO):Prop:=H a=some u\/ ∃o,H a=some (.frz o u)
theorem Rd.ok{H:Hp}{u:HO}(r:Rd H a u)(x:HOk P w H h):jx P w H h a u:=by
 rcases r with r|⟨o,r⟩
 ·exact x a u r
 ·obtain⟨_,q⟩:=x a _ r
  exact q
def Mut:Option HO -> Prop
 |some (.lst _)=> True
 |some (.dK _)=> True
 |some (.dT _)=> True
 |some (.dD _)=> True
 |some (.set _ _)=> True
 |some (.ins _ _ _)=> True
 |some (.ext _)=> True
 |some (.exx _ _)=> True
 |some (.exn _ _)=> True
 |_=> False
section
variable{P:aI}{w:aM}{H:Hp}{h h':Heap}{x e:Addr}{o':HO}
theorem HOk.write(ok:HOk P w H h)(mu:Mut (H x))(he:e=x\/H e=some (.own x))(k: ∀b u,b≠e -> h.get? b=some u -> h'.get? b=some u)(heo: ∃u,h'.get? e=some u)
  (new:jx P w (upd H x o') h' x o'):HOk P w (upd H x o') h':=fun b u q=> by
 have nown: ∀c y,H c=some (.own y) -> c≠x:=fun c y r z=> by subst z;rw [r]at mu;exact mu
 have ntup: ∀c xs,H c=some (.tup xs) -> c≠x:=fun c xs r z=> by subst z;rw [r]at mu;exact mu
 by_cases hb:b=x
 ·subst hb;rw [aa5]at q;cases q;exact new
 ·rw [j7 hb]at q
  by_cases hbe:b=e
  ·have q':H b=some (.own x):=by
    rcases he with z|z
    ·exact absurd (hbe.trans z) hb
    ·rw [hbe];exact z
   rw [q]at q';cases q'
   obtain⟨v,hv⟩:=heo
   exact⟨v,by rw [hbe];exact hv⟩
  ·refine (ok b u q).stay (fun c v hc r=> k c v ?_ r) (fun c r=> by rw [j7 (nown c b r)];exact r) fun c xs r=> by rw [j7 (ntup c xs r)];exact r
   rcases hc with rfl|hc
   ·exact hbe
   ·rintro rfl
    rcases he with z|z
    ·exact nown c b hc z
    ·rw [hc]at z;cases z;exact hb rfl
end
structure Un (fs ex:List Addr) (H H':Hp) (h h':Heap):Prop where
 keep: ∀b o,h.get? b=some o -> H b=none -> b∉fs -> b∉ex -> h'.get? b=some o
 slot: ∀b o,h.get? b=some o -> H b=none -> b∈fs -> b∉ex -> ∃sl,h'.get? b=some {o with slots:=sl}
 free: ∀b o,h.get? b=some o -> H b=none -> b∉ex -> H' b=none
 there: ∀b o,h.get? b=some o -> b∉ex -> ∃o',h'.get? b=some o'
 tups: ∀b xs,H b=some (.tup xs) -> H' b=some (.tup xs)
 frzs: ∀b o u,H b=some (.frz o u) -> H' b=some (.frz o u)
 tbls: ∀b ps,H b=some (.tbl ps) -> ∃more,H' b=some (.tbl (ps++more))
section
variable{fs fs' ex ex':List Addr}{H H1 H2:Hp}{h h1 h2 h':Heap}{a x e:Addr}{o:HO}
theorem Un.any(u:Un fs ex H H1 h h1){ob:Obj}(q:h.get? b=some ob)(n:H b=none)(hx:b∉ex): ∃sl,h1.get? b=some {ob with slots:=sl}:=by
 by_cases hb:b∈fs
 ·exact u.slot b ob q n hb hx
 ·exact⟨ob.slots,u.keep b ob q n hb hx⟩
theorem Un.kept(k: ∀b u,h.get? b=some u -> h'.get? b=some u):Un fs ex H H h h':=
 ⟨fun b ob q _ _ _=> k b ob q,fun b ob q _ _ _=> ⟨ob.slots,k b ob q⟩,fun _ _ _ n _=> n,fun b ob q _=> ⟨ob,k b ob q⟩,fun _ _ q=> q,fun _ _ _ q=> q,fun _ ps q=> ⟨#[],by rw [q];simp⟩⟩
theorem Un.refl:Un fs ex H H h h:=Un.kept fun _ _ q=> q
theorem Un.laid(k: ∀b u,h.get? b=some u -> h'.get? b=some u)(hp:h.objs.size <=a)(hn:H a=none):Un fs ex H (upd H a o) h h' where
 keep:=fun b u q _ _ _=> k b u q
 slot:=fun b u q _ _ _=> ⟨u.slots,k b u q⟩
 free:=fun b u q n _=> by rw [j7 (aH (aQ (aD q) hp))];exact n
 there:=fun b u q _=> ⟨u,k b u q⟩
 tups:=fun b xs q=> by rw [j7 (yn q hn)];exact q
 frzs:=fun b u xs q=> by rw [j7 (yn q hn)];exact q
 tbls:=fun b ps q=> ⟨#[],by rw [j7 (yn q hn),q];simp⟩
theorem Un.write(mu:Mut (H x))(he:e=x\/H e=some (.own x))(k: ∀b u,b≠e -> h.get? b=some u -> h'.get? b=some u)(heo: ∃u,h'.get? e=some u):Un fs ex H (upd H x o) h h':=by
 have hx: ∀b,H b=none -> b≠x:=fun b n z=> by subst z;rw [n]at mu;exact mu
 have hb: ∀b,H b=none -> b≠e:=fun b n z=> by
  subst z
  rcases he with r|r
  ·exact hx b n r
  ·rw [n]at r;cases r
 have hm: ∀b u,H b=some u -> ¬Mut (some u) -> b≠x:=fun b u q nm z=> by subst z;rw [q]at mu;exact nm mu
 refine⟨fun b u q n _ _=> k b u (hb b n) q,fun b u q n _ _=> ⟨u.slots,k b u (hb b n) q⟩,fun b u q n _=> by rw [j7 (hx b n)];exact n,fun b u q _=> ?_,
  fun b xs q=> by rw [j7 (hm b _ q fun z=> z)];exact q,fun b u xs q=> by rw [j7 (hm b _ q fun z=> z)];exact q,fun b ps q=> ⟨#[],by rw [j7 (hm b _ q fun z=> z),q];simp⟩⟩
 by_cases hbe:b=e
 ·subst hbe;exact heo
 ·exact⟨u,k b u hbe q⟩
end
noncomputable def trk(h:Heap)(H:Hp):List Addr:=(a9 h.objs.size).filter fun a=> (H a).isSome
def adq(h:Heap)(H:Hp):Heap:=PySem.W.hideAll h (trk h H)
theorem ati(h:Heap)(H:Hp):(adq h H).objs.size=h.objs.size:=PySem.W.hideAll_size _ _
theorem awc{H:Hp}{o:Obj}(e:h.get? b=some o)(n:H b=none):(adq h H).get? b=some o:=
 PySem.W.hideAll_get _ e fun hm=> by
  have q:(H b).isSome=true:=(bR.mp hm).2
  rw [n]at q;simp at q
theorem ayq{H:Hp}{o:Obj}(e:(adq h H).get? b=some o):h.get? b=some o/\H b=none:=by
 have e':h.get? b=some o:=PySem.W.of_hideAll (trk h H) e
 refine⟨e',?_⟩
 cases q:H b with
 |none=> rfl
 |some x=>
  have hm:b∈trk h H:=bR.mpr ⟨bD.mpr (aD e'),by simp [q]⟩
  have z:(adq h H).get? b=none:=PySem.W.hideAll_none (trk h H) hm
  rw [z]at e;cases e
noncomputable def az3(g h:Heap)(L:Addr):List (Addr×Obj):=(a9 h.objs.size).filterMap fun a=> if a=L\/(g.get? a).isSome=true then none else (h.get? a).map fun o=> (a,o)
def rest(g h:Heap)(L d:Addr):List (Addr×Obj):=(az3 g h L).filter fun p=> decide (p.1≠d)
structure Mod (K:aj) (mg:Str -> Option ae) (base:Heap):Prop where
 kin:K.In base
 glob:base.Ns aY mg
 blt: ∃mb,base.Ns builtinsNs mb/\ ∀x:Str,x≠"__name__" -> mb x=bT x
 nolimit:base.NoLimit
structure Cx where
 prog:aI
 w:aM
 K:aj
 mg:Str -> Option ae
 base:Heap
 A:aZ
 N:List Str
 s₀:ag
 H₀:Hp
 env:Env
 outer:List Env
 stack:List Env
 ex:List Addr
 fn:Str -> Bool
 calm:Bool
 pn:List (Addr×Obj)
 xe:ae -> ag -> Prop
noncomputable def frs(l:List Env):List Addr:=l.filterMap (·.frame)
abbrev Cx.fs(X:Cx):List Addr:=frs X.outer
def Vis(sc:dS)(x:Str):Prop:=sc.names.lookup x=some .local\/sc.names.lookup x=some .cell\/sc.names.lookup x=some .free
def Loc(sc:dS)(x:Str):Prop:=sc.names.lookup x=some .local\/sc.names.lookup x=some .cell
def Look(env:Env)(h:Heap)(m:Str -> Option ae)(x:Str)(u:ae):Prop:=
 (env.kindOf x=some .local/\m x=some u)\/((env.kindOf x=some .cell\/env.kindOf x=some .free)/\ ∃c,env.cells.lookup x=some c/\h.IsCell c (some u))
structure Cx.Ok (X:Cx):Prop where
 mod:Mod X.K X.mg X.base
 kind:X.env.scope.kind=.function
 glob:X.env.globals=aY
 blt:X.env.builtins=builtinsNs
 above:X.s₀.heap.objs.size <=X.env.locals
 inj: ∀x y c,X.env.cells.lookup x=some c -> X.env.cells.lookup y=some c -> x=y
 has: ∀x,(X.env.kindOf x=some .cell\/X.env.kindOf x=some .free) -> ∃c,X.env.cells.lookup x=some c
 cab: ∀x c,X.fn x=true -> X.env.cells.lookup x=some c -> X.s₀.heap.objs.size <=c
 hd:X.calm=true -> X.A.handled=none
 frames:X.A.frames=some X.stack
 stk:X.stack=X.outer\/(X.stack=X.env::X.outer/\X.env.frame=some X.env.locals)
 exf: ∀b∈X.ex,b≠X.env.locals/\ ∀x c,X.env.cells.lookup x=some c -> c≠b
 bs: ∀b o,X.base.get? b=some o -> X.s₀.heap.get? b=some o/\X.H₀ b=none
 bsz:X.base.objs.size <=X.s₀.heap.objs.size
 noex: ∀b o,X.base.get? b=some o -> b∉X.ex
 exfs: ∀b∈X.ex,b∉X.fs
 funs:X.s₀.heap.FunFrames X.base X.outer
 frf: ∀b∈X.fs,X.H₀ b=none
structure Inv (X:Cx) (pins:List (Addr×Obj)) (σ:List (Option V)) (H:Hp) (s:ag):Prop where
 ok:X.Ok
 os:s.os=X.s₀.os
 bare:gy s.gens
 base:Un X.fs X.ex X.H₀ H X.s₀.heap s.heap
 loc: ∃m,s.heap.Ns X.env.locals m/\ ∀(i:Nat) (x:Str) (v:V),X.N[i]?=some x -> σ[i]?=some (some v) -> Vis X.env.scope x -> ∃u,RelV v u/\Look X.env s.heap m x u
 cell: ∀x c,X.env.cells.lookup x=some c -> ∃v,s.heap.IsCell c v
 free:H X.env.locals=none
 freeC: ∀x c,X.env.cells.lookup x=some c -> H c=none
 pin: ∀p∈X.pn++pins,s.heap.get? p.1=some p.2/\H p.1=none/\p.1≠X.env.locals/\p.1∉X.fs/\ ∀v,p.2.data≠ .cell v
 hok:HOk X.prog X.w H s.heap
 len:σ.length=X.N.length
section
variable{X:Cx}{pins:List (Addr×Obj)}{σ:List (Option V)}{H H':Hp}{s:ag}{h':Heap}
theorem Cx.Ok.nofr(ok:X.Ok){o:Obj}(e:X.base.get? b=some o):b∉X.fs:=fun hb=> by
 have:=(ok.funs.mem hb).1
 rw [e]at this;cases this
theorem Inv.bs(I:Inv X pins σ H s): ∀b o,X.base.get? b=some o -> s.heap.get? b=some o/\H b=none:=fun b o e=>
 ⟨I.base.keep b o (I.ok.bs b o e).1 (I.ok.bs b o e).2 (I.ok.nofr e) (I.ok.noex b o e),I.base.free b o (I.ok.bs b o e).1 (I.ok.bs b o e).2 (I.ok.noex b o e)⟩
theorem Inv.bk(I:Inv X pins σ H s): ∀b o,X.base.get? b=some o -> s.heap.get? b=some o:=fun b o e=> (I.bs b o e).1
theorem Inv.mod(I:Inv X pins σ H s):Mod X.K X.mg X.base:=I.ok.mod
theorem Inv.kIn(I:Inv X pins σ H s):X.K.In s.heap:=I.ok.mod.kin.keeps I.bk
theorem Inv.lt(I:Inv X pins σ H s):X.env.locals < s.heap.objs.size:=let ⟨_,hn,_⟩:=I.loc;hn.lt
theorem Inv.sz(I:Inv X pins σ H s):X.s₀.heap.objs.size <=s.heap.objs.size:=bb I.ok.above (gf I.lt)
theorem Inv.nofs(I:Inv X pins σ H s)(h:s.heap.objs.size <=a):a∉X.fs:=fun hb=> by
 obtain⟨_,o,ho,_⟩:=I.ok.funs.mem hb
 exact absurd (aQ (aD ho) (bb I.sz h)) (cN _)
theorem Inv.cne(I:Inv X pins σ H s): ∀x c,X.env.cells.lookup x=some c -> c≠X.env.locals:=fun x c e z=> by
 obtain⟨v,o,ho,hd⟩:=I.cell x c e
 obtain⟨m,⟨o',es,ep,ho',hd',_⟩,_⟩:=I.loc
 rw [z,ho']at ho;cases ho;rw [hd']at hd;cases hd
theorem Inv.funs(I:Inv X pins σ H s):s.heap.FunFrames X.base X.outer:=by
 have all: ∀(l:List Env),(∀b∈frs l,b∈X.fs) -> X.s₀.heap.FunFrames X.base l -> s.heap.FunFrames X.base l:=by
  intro l
  induction l with
  |nil=> intro _ _;trivial
  |cons env r ih=>
   intro hs hl
   obtain⟨hk,⟨L,o,hf,hn,ho,hd⟩,hr⟩:=hl
   have hL:L∈X.fs:=hs L (by unfold frs;rw [ir,hf];exact av)
   obtain⟨sl,e⟩:=I.base.slot L o ho (I.ok.frf L hL) hL fun z=> I.ok.exfs L z hL
   exact⟨hk,⟨L,_,hf,hn,e,hd⟩,ih (fun b hb=> hs b (by unfold frs;rw [ir,hf];exact aw _ hb)) hr⟩
 exact all X.outer (fun _ hb=> hb) I.ok.funs
theorem Inv.stack(I:Inv X pins σ H s):s.heap.FunFrames X.base X.stack:=by
 rcases I.ok.stk with e|⟨e,hf⟩
 ·rw [e];exact I.funs
 ·rw [e]
  obtain⟨m,hn,_⟩:=I.loc
  refine .cons (by rw [I.ok.kind];decide) hf hn ?_ I.funs
  exact Heap.get?_none_of_le (bb I.ok.bsz I.ok.above)
theorem Inv.stkSub(I:Inv X pins σ H s): ∀b∈frs X.stack,b∈X.env.locals::X.fs:=fun b hb=> by
 rcases I.ok.stk with e|⟨e,hf⟩
 ·rw [e]at hb;exact aw _ hb
 ·rw [e]at hb
  unfold frs at hb
  rw [ir,hf]at hb
  exact hb
theorem Inv.stkFree(I:Inv X pins σ H s): ∀b∈frs X.stack,H b=none:=fun b hb=> by
 rcases aE.mp (I.stkSub b hb) with e|hb
 ·rw [e];exact I.free
 ·obtain⟨_,o,ho,_⟩:=I.ok.funs.mem hb
  exact I.base.free b o ho (I.ok.frf b hb) fun z=> I.ok.exfs b z hb
theorem Inv.step{g':Array GenState}{d':Drawn}(I:Inv X pins σ H s)(hch: ∀b∈ch,(b∈X.ex\/X.s₀.heap.objs.size <=b)/\b≠X.env.locals/\(∀x c,X.env.cells.lookup x=some c -> c≠b)/\ ∀p∈X.pn++pins,p.1≠b)(keep: ∀b o,b≠X.env.locals -> b∉X.fs -> b∉ch -> s.heap.get? b=some o -> H b=none -> h'.get? b=some o)(slot: ∀b o,b≠X.env.locals -> b∈X.fs -> b∉ch -> s.heap.get? b=some o -> H b=none -> ∃sl,h'.get? b=some {o with slots:=sl})(free: ∀b o,b∉ch -> s.heap.get? b=some o -> H b=none -> H' b=none)(there: ∀b o,b∉ch -> s.heap.get? b=some o -> ∃o',h'.get? b=some o')(tups: ∀b xs,H b=some (.tup xs) -> H' b=some (.tup xs))(frzs: ∀b o u,H b=some (.frz o u) -> H' b=some (.frz o u))(tbls: ∀b ps,H b=some (.tbl ps) -> ∃more,H' b=some (.tbl (ps++more)))(ns: ∀m,s.heap.Ns X.env.locals m -> h'.Ns X.env.locals m)(hok:HOk X.prog X.w H' h')(hg:gy g'):
  Inv X pins σ H' {s with heap:=h',gens:=g',drawn:=d',toks:=t'}:=by
 have neL: ∀b o,X.s₀.heap.get? b=some o -> b≠X.env.locals:=fun b o e=> aH (aQ (aD e) I.ok.above)
 have neC: ∀b o,X.s₀.heap.get? b=some o -> b∉X.ex -> b∉ch:=fun b o e hx hb=> by
  rcases (hch b hb).1 with z|z
  ·exact hx z
  ·exact absurd (aQ (aD e) z) (cN _)
 have cellK: ∀x c,X.env.cells.lookup x=some c -> ∀v,s.heap.IsCell c v -> h'.IsCell c v:=fun x c e v ⟨o,ho,hd⟩=> by
  have nch:c∉ch:=fun z=> (hch c z).2.2.1 x c e rfl
  by_cases hc:c∈X.fs
  ·obtain⟨sl,q⟩:=slot c o (I.cne x c e) hc nch ho (I.freeC x c e)
   exact⟨_,q,hd⟩
  ·exact⟨o,keep c o (I.cne x c e) hc nch ho (I.freeC x c e),hd⟩
 refine⟨I.ok,I.os,hg,⟨fun b o e n hb hx=> ?_,fun b o e n hb hx=> ?_,fun b o e n hx=> ?_,fun b o e hx=> ?_,fun b xs e=> tups b xs (I.base.tups b xs e),fun b o xs e=> frzs b o xs (I.base.frzs b o xs e),fun b ps e=> ?_⟩,?_,fun x c e=> ?_,?_,fun x c e=> ?_,fun p hp=> ?_,hok,I.len⟩
 ·exact keep b o (neL b o e) hb (neC b o e hx) (I.base.keep b o e n hb hx) (I.base.free b o e n hx)
 ·obtain⟨sl,e1⟩:=I.base.slot b o e n hb hx
  obtain⟨sl',e2⟩:=slot b _ (neL b o e) hb (neC b o e hx) e1 (I.base.free b o e n hx)
  exact⟨sl',e2⟩
 ·obtain⟨o',e1⟩:=I.base.there b o e hx
  exact free b o' (neC b o e hx) e1 (I.base.free b o e n hx)
 ·obtain⟨o',e1⟩:=I.base.there b o e hx
  exact there b o' (neC b o e hx) e1
 ·obtain⟨m1,e1⟩:=I.base.tbls b ps e
  obtain⟨m2,e2⟩:=tbls b _ e1
  exact⟨m1++m2,by rw [e2,Array.append_assoc]⟩
 ·obtain⟨m,hn,hl⟩:=I.loc
  refine⟨m,ns m hn,fun i x v e1 e2 e3=> ?_⟩
  obtain⟨u,r,l⟩:=hl i x v e1 e2 e3
  refine⟨u,r,?_⟩
  rcases l with l|⟨k,c,e,z⟩
  ·exact .inl l
  ·exact .inr ⟨k,c,e,cellK x c e _ z⟩
 ·obtain⟨v,z⟩:=I.cell x c e
  exact⟨v,cellK x c e v z⟩
 ·obtain⟨m,⟨o,_,_,ho,_⟩,_⟩:=I.loc
  exact free _ o (fun z=> (hch _ z).2.1 rfl) ho I.free
 ·obtain⟨v,o,ho,hd⟩:=I.cell x c e
  exact free c o (fun z=> (hch c z).2.2.1 x c e rfl) ho (I.freeC x c e)
 ·obtain⟨e,n,ne,nf,d⟩:=I.pin p hp
  have nch:p.1∉ch:=fun z=> (hch p.1 z).2.2.2 p hp rfl
  exact⟨keep p.1 p.2 ne nf nch e n,free p.1 p.2 nch e n,ne,nf,d⟩
theorem Inv.un(I:Inv X pins σ H s)(u:Un X.fs [] H H' s.heap h')(hok:HOk X.prog X.w H' h'):Inv X pins σ H' {s with heap:=h',toks:=t'}:=by
 obtain⟨m,⟨o,es,ep,ho,r⟩,_⟩:=id I.loc
 obtain⟨sl,hL⟩:=u.any ho I.free (by simp)
 exact I.step (g':=s.gens) (d':=s.drawn) (ch:=[]) (fun _ z=> nomatch z) (fun b o _ hb _ e n=> u.keep b o e n hb (by simp)) (fun b o _ hb _ e n=> u.slot b o e n hb (by simp)) (fun b o _ e n=> u.free b o e n (by simp)) (fun b o _ e=> u.there b o e (by simp)) u.tups u.frzs u.tbls (fun m' hm=> by
  obtain⟨o',es',ep',ho',r'⟩:=hm
  rw [ho]at ho';cases ho'
  exact⟨_,es',ep',hL,r'⟩) hok I.bare
theorem Inv.call{g':Array GenState}{d':Drawn}(I:Inv X pins σ H s)(u:Un (frs X.stack) ch H H' s.heap h')(hok:HOk X.prog X.w H' h')(hg:gy g')(hch: ∀b∈ch,(b∈X.ex\/X.s₀.heap.objs.size <=b)/\b≠X.env.locals/\(∀x c,X.env.cells.lookup x=some c -> c≠b)/\ ∀p∈X.pn++pins,p.1≠b):
  Inv X pins σ H' {s with heap:=h',gens:=g',drawn:=d',toks:=t'}:=by
 obtain⟨m,⟨o,es,ep,ho,r⟩,_⟩:=id I.loc
 obtain⟨sl,hL⟩:=u.any ho I.free fun z=> (hch _ z).2.1 rfl
 exact I.step (ch:=ch) hch (fun b o hL hb hc e n=> u.keep b o e n (fun z=> (aE.mp (I.stkSub b z)).elim hL hb) hc) (fun b o _ _ hc e n=> u.any e n hc) (fun b o hc e n=> u.free b o e n hc) (fun b o hc e=> u.there b o e hc) u.tups u.frzs u.tbls (fun m' hm=> by
  obtain⟨o',es',ep',ho',r'⟩:=hm
  rw [ho]at ho';cases ho'
  exact⟨_,es',ep',hL,r'⟩) hok hg
theorem Inv.turned{it:Addr}(I:Inv X pins σ H s)(k: ∀b o,b≠it -> s.heap.get? b=some o -> h'.get? b=some o)(hn:H it=none)(hL:it≠X.env.locals)(h1:it∈X.ex\/X.s₀.heap.objs.size <=it)(h2: ∀x c,X.env.cells.lookup x=some c -> c≠it)(h3: ∀p∈X.pn++pins,p.1≠it):Inv X pins σ H {s with heap:=h',toks:=t'}:=by
 have nit: ∀b u,H b=some u -> b≠it:=fun b u e z=> by rw [z,hn]at e;cases e
 refine I.step (g':=s.gens) (d':=s.drawn) (ch:=[it]) (fun b hb=> ?_) (fun b o _ _ hc e _=> k b o (fun z=> hc (by simp [z])) e) (fun b o _ _ hc e _=> ⟨o.slots,k b o (fun z=> hc (by simp [z])) e⟩) (fun _ _ _ _ n=> n)
  (fun b o hc e=> ⟨o,k b o (fun z=> hc (by simp [z])) e⟩) (fun _ _ e=> e) (fun _ _ _ e=> e) (fun b ps e=> ⟨#[],by rw [e];simp⟩) (fun m hm=> ?_) (fun b u e=> ?_) I.bare
 ·have e:b=it:=by simpa using hb
  subst e
  exact⟨h1,hL,h2,h3⟩
 ·obtain⟨o,es,ep,ho,r⟩:=hm
  exact⟨o,es,ep,k _ o (bY hL) ho,r⟩
 ·refine (I.hok b u e).stay (fun c v hc q=> k c v ?_ q) (fun _ q=> q) fun _ _ q=> q
  rcases hc with z|z
  ·rw [z];exact nit b u e
  ·exact nit c _ z
theorem Inv.tok(I:Inv X pins σ H s)(t:Nat):Inv X pins σ H {s with toks:=t}:=I.un (h':=s.heap) (t':=t) Un.refl I.hok
theorem Inv.kept(I:Inv X pins σ H s)(k: ∀b u,s.heap.get? b=some u -> h'.get? b=some u):Inv X pins σ H {s with heap:=h',toks:=t'}:=I.un (Un.kept k) (I.hok.kept k)
theorem Inv.laid{o:HO}(I:Inv X pins σ H s)(k: ∀b u,s.heap.get? b=some u -> h'.get? b=some u)(hp:s.heap.objs.size <=a)(new:jx X.prog X.w (upd H a o) h' a o):
  Inv X pins σ (upd H a o) {s with heap:=h',toks:=t'}:=I.un (Un.laid k hp (I.hok.fresh hp)) (I.hok.laid k hp new)
theorem Inv.write{x e:Addr}{o:HO}(I:Inv X pins σ H s)(mu:Mut (H x))(he:e=x\/H e=some (.own x))(k: ∀b u,b≠e -> s.heap.get? b=some u -> h'.get? b=some u)(heo: ∃u,h'.get? e=some u)(new:jx X.prog X.w (upd H x o) h' x o):Inv X pins σ (upd H x o) {s with heap:=h',toks:=t'}:=I.un (Un.write mu he k heo) (I.hok.write mu he k heo new)
theorem Inv.pins_of{pins':List (Addr×Obj)}(I:Inv X pins σ H s)(h: ∀p∈pins',s.heap.get? p.1=some p.2/\H p.1=none/\p.1≠X.env.locals/\p.1∉X.fs/\ ∀v,p.2.data≠ .cell v):Inv X pins' σ H s:=
 ⟨I.ok,I.os,I.bare,I.base,I.loc,I.cell,I.free,I.freeC,fun p hp=> (aS.mp hp).elim (fun z=> I.pin p (l4 _ z)) (h p),I.hok,I.len⟩
theorem alq{N:List Str}(hN:N.Nodup){j:Nat}{x:Str}(a:N[i]?=some x)(b:N[j]?=some x):i=j:=by
 obtain⟨h1,e1⟩:=ap.mp a
 obtain⟨h2,e2⟩:=ap.mp b
 exact (List.getElem_inj hN).mp (e1.trans e2.symm)
theorem akd{x:Str}{v:V}(I:Inv X pins σ H s)(hN:X.N.Nodup)(hi:X.N[i]?=some x)(hx:Loc X.env.scope x)(r:RelV v u)(h: ∀s',Inv X pins (σ.set i (some v)) H s' -> (∃a,bi a s.heap s'.heap/\(a=X.env.locals\/X.env.cells.lookup x=some a)) -> Q () s')(hf:X.fn x=true\/X.env.scope.names.lookup x=some .local:=by first|exact .inl rfl|exact .inr rfl|assumption):wpAny M A (storeName X.env x u) Q E s:=by
 obtain⟨m,hn,hl⟩:=id I.loc
 have hcls:(X.env.scope.kind==.class||(X.env.scope.kind==.module&&X.env.locals !=X.env.globals))=false:=by rw [I.ok.kind];rfl
 have hiσ:i < σ.length:=by rw [I.len];exact (ap.mp hi).1
 have cne:=I.cne
 have tracked: ∀{a:Addr} {h':Heap},(∃o,s.heap.get? a=some o/\H a=none) -> bi a s.heap h' -> HOk X.prog X.w H h':=fun {a h'} ha hs b ob e=> by
  obtain⟨_,_,hfree⟩:=ha
  refine (I.hok b ob e).stay (fun c w' hc q=> (hs.2 c ?_).trans q) (fun _ q=> q) fun _ _ q=> q
  rintro rfl
  rcases hc with rfl|hc
  ·rw [hfree]at e;cases e
  ·rw [hfree]at hc;cases hc
 rcases hx with hk|hk
 ·refine wpAny_storeName_local hk hn (fun h' hn' hs=> ?_) hcls
  obtain⟨oL,_,_,hoL,_⟩:=id hn
  refine h _ ⟨I.ok,I.os,I.bare,⟨fun b o e n hb hx=> ?_,fun b o e n hb hx=> ?_,I.base.free,fun b o e hx=> ?_,I.base.tups,I.base.frzs,I.base.tbls⟩,⟨_,hn',fun j y v' e1 e2 e3=> ?_⟩,fun y c e=> ?_,I.free,I.freeC,fun p hp=> ?_,tracked ⟨oL,hoL,I.free⟩ hs,by simpa using I.len⟩ ⟨_,hs,.inl rfl⟩
  ·exact (hs.2 b (aH (aQ (aD e) I.ok.above))).trans (I.base.keep b o e n hb hx)
  ·obtain⟨sl,e1⟩:=I.base.slot b o e n hb hx
   exact⟨sl,(hs.2 b (aH (aQ (aD e) I.ok.above))).trans e1⟩
  ·obtain⟨o',e1⟩:=I.base.there b o e hx
   exact⟨o',(hs.2 b (aH (aQ (aD e) I.ok.above))).trans e1⟩
  ·by_cases hj:j=i
   ·subst hj
    rw [hi]at e1;cases e1
    rw [bc hiσ]at e2
    cases e2
    exact⟨u,r,.inl ⟨hk,by simp⟩⟩
   ·rw [aF (bY hj)]at e2
    obtain⟨u',r',q⟩:=hl j y v' e1 e2 e3
    refine⟨u',r',?_⟩
    rcases q with ⟨k,e⟩|⟨k,c,e,z⟩
    ·refine .inl ⟨k,?_⟩
     have:y≠x:=fun e=> hj (alq hN e1 (e▸hi))
     simp [this,e]
    ·exact .inr ⟨k,c,e,z.sameBut hs (cne y c e)⟩
  ·obtain⟨w',z⟩:=I.cell y c e
   exact⟨w',z.sameBut hs (cne y c e)⟩
  ·obtain⟨e,n,ne,nf,d⟩:=I.pin p hp
   exact⟨(hs.2 p.1 ne).trans e,n,ne,nf,d⟩
 ·have hfn:X.fn x=true:=by
   rcases hf with z|z
   ·exact z
   ·rw [z]at hk;cases hk
  obtain⟨c,hc⟩:=I.ok.has x (.inl hk)
  obtain⟨w',z⟩:=I.cell x c hc
  refine wpAny_storeName_cell I.ok.kind hk hc z (fun h' hc' hs=> ?_)
  obtain⟨oc,hoc,hocd⟩:=id z
  refine h {s with heap:=h'} ⟨I.ok,I.os,I.bare,⟨fun b o e n hb hx=> ?_,fun b o e n hb hx=> ?_,I.base.free,fun b o e hx=> ?_,I.base.tups,I.base.frzs,I.base.tbls⟩,⟨m,hn.sameBut hs (bY (cne x c hc)),fun j y v' e1 e2 e3=> ?_⟩,fun y c' e=> ?_,I.free,I.freeC,fun p hp=> ?_,tracked ⟨oc,hoc,I.freeC x c hc⟩ hs,by simpa using I.len⟩ ⟨c,hs,.inr hc⟩
  ·exact (hs.2 b (aH (aQ (aD e) (I.ok.cab x c hfn hc)))).trans (I.base.keep b o e n hb hx)
  ·obtain⟨sl,e1⟩:=I.base.slot b o e n hb hx
   exact⟨sl,(hs.2 b (aH (aQ (aD e) (I.ok.cab x c hfn hc)))).trans e1⟩
  ·obtain⟨o',e1⟩:=I.base.there b o e hx
   exact⟨o',(hs.2 b (aH (aQ (aD e) (I.ok.cab x c hfn hc)))).trans e1⟩
  ·by_cases hj:j=i
   ·subst hj
    rw [hi]at e1;cases e1
    rw [bc hiσ]at e2
    cases e2
    exact⟨u,r,.inr ⟨.inl hk,c,hc,hc'⟩⟩
   ·rw [aF (bY hj)]at e2
    obtain⟨u',r',q⟩:=hl j y v' e1 e2 e3
    refine⟨u',r',?_⟩
    rcases q with q|⟨k,c',e,z'⟩
    ·exact .inl q
    ·refine .inr ⟨k,c',e,z'.sameBut hs ?_⟩
     rintro rfl
     exact hj (alq hN e1 (I.ok.inj _ _ _ e hc▸hi))
  ·by_cases hcc:c'=c
   ·subst hcc;exact⟨_,hc'⟩
   ·obtain⟨w2,z2⟩:=I.cell y c' e
    exact⟨w2,z2.sameBut hs hcc⟩
  ·obtain⟨e,n,ne,nf,d⟩:=I.pin p hp
   refine⟨(hs.2 p.1 ?_).trans e,n,ne,nf,d⟩
   intro q
   rw [q,hoc]at e
   have q':oc=p.2:=bH e
   exact d w' (by rw [←q'];exact hocd)
theorem anb{x:Str}{v:V}(I:Inv X pins σ H s)(hN:X.N.Nodup)(hi:X.N[i]?=some x)(hx:Loc X.env.scope x)(r:RelV v u)(h: ∀s',Inv X pins (σ.set i (some v)) H s' -> Q () s')(hf:X.fn x=true\/X.env.scope.names.lookup x=some .local:=by first|exact .inl rfl|exact .inr rfl|assumption):wpAny M A (storeName X.env x u) Q E s:=
 akd I hN hi hx r (fun s' I' _=> h s' I') hf
theorem Inv.call'{s':ag}(I:Inv X pins σ H s)(ho:s'.os=s.os)(u:Un (frs X.stack) ch H H' s.heap s'.heap)(hok:HOk X.prog X.w H' s'.heap)(hg:gy s'.gens)(hch: ∀b∈ch,(b∈X.ex\/X.s₀.heap.objs.size <=b)/\b≠X.env.locals/\(∀x c,X.env.cells.lookup x=some c -> c≠b)/\ ∀p∈X.pn++pins,p.1≠b):Inv X pins σ H' s':=by
 obtain⟨h',g',d',t',o'⟩:=s'
 have e:o'=s.os:=ho
 subst e
 exact I.call (g':=g') (t':=t') (d':=d') u hok hg hch
end
abbrev XK:=ae -> Option Addr -> Hp -> Prop
abbrev St:=List (Option V)
abbrev SK:=St -> XK
abbrev VK:=V -> Hp -> Prop
abbrev TE:=St -> Hp -> VK -> Prop
abbrev TT:=St -> Hp -> (Bool -> Hp -> Prop) -> Prop
abbrev TA:=St -> Hp -> (List V -> Hp -> Prop) -> Prop
structure Ends where
 nx:St -> Hp -> Prop
 rt:VK
 bk:St -> Hp -> Prop:=fun _ _=> False
 ct:St -> Hp -> Prop:=fun _ _=> False
abbrev TS:=Ends -> St -> Hp -> Prop
def EP(X:Cx)(pins:List (Addr×Obj))(σ:St)(Q:VK)(u:ae)(s':ag):Prop:= ∃v H',Inv X pins σ H' s'/\RelV v u/\Q v H'
def TP(X:Cx)(pins:List (Addr×Obj))(σ:St)(Q:Bool -> Hp -> Prop)(b:Bool)(s':ag):Prop:= ∃H',Inv X pins σ H' s'/\Q b H'
def AP(X:Cx)(pins:List (Addr×Obj))(σ:St)(Q:List V -> Hp -> Prop)(us:List ae)(s':ag):Prop:= ∃vs H',Inv X pins σ H' s'/\jj vs us/\Q vs H'
def SP(X:Cx)(pins:List (Addr×Obj))(D:Ends)(f:Flow)(s':ag):Prop:=
 match f with
 |.next=> ∃σ' H',Inv X pins σ' H' s'/\D.nx σ' H'
 |.brk=> ∃σ' H',Inv X pins σ' H' s'/\D.bk σ' H'
 |.cont=> ∃σ' H',Inv X pins σ' H' s'/\D.ct σ' H'
 |.ret u=> ∃v σ' H',Inv X pins σ' H' s'/\RelV v u/\D.rt v H'
structure PE (X:Cx) (e:Expr) (t:TE):Prop where
 run: ∀(pins:List (Addr×Obj)) (s:ag) (σ:St) (H:Hp) (Q:VK),Inv X pins σ H s -> t σ H Q -> wpAny (model X.prog X.w) X.A (eval e X.env) (EP X pins σ Q) X.xe s
instance {X:Cx} {e:Expr} {t:TE}:CoeFun (PE X e t) fun _=> ∀(pins:List (Addr×Obj)) (s:ag) (σ:St) (H:Hp) (Q:VK),Inv X pins σ H s -> t σ H Q -> wpAny (model X.prog X.w) X.A (eval e X.env) (EP X pins σ Q) X.xe s:=⟨PE.run⟩
structure PT (X:Cx) (e:Expr) (t:TT):Prop where
 run: ∀(pins:List (Addr×Obj)) (s:ag) (σ:St) (H:Hp) (Q:Bool -> Hp -> Prop),Inv X pins σ H s -> t σ H Q -> wpAny (model X.prog X.w) X.A (isTrue e X.env (eval e X.env)) (TP X pins σ Q) X.xe s
instance {X:Cx} {e:Expr} {t:TT}:CoeFun (PT X e t) fun _=> ∀(pins:List (Addr×Obj)) (s:ag) (σ:St) (H:Hp) (Q:Bool -> Hp -> Prop),Inv X pins σ H s -> t σ H Q -> wpAny (model X.prog X.w) X.A (isTrue e X.env (eval e X.env)) (TP X pins σ Q) X.xe s:=⟨PT.run⟩
structure PW (X:Cx) (e:Expr) (t:TT):Prop where
 run: ∀(whole:Sem ae) (pins:List (Addr×Obj)) (s:ag) (σ:St) (H:Hp) (Q:Bool -> Hp -> Prop),Inv X pins σ H s -> t σ H Q -> wpAny (model X.prog X.w) X.A (isTrue e X.env whole) (TP X pins σ Q) X.xe s
instance {X:Cx} {e:Expr} {t:TT}:CoeFun (PW X e t) fun _=> ∀(whole:Sem ae) (pins:List (Addr×Obj)) (s:ag) (σ:St) (H:Hp) (Q:Bool -> Hp -> Prop),Inv X pins σ H s -> t σ H Q -> wpAny (model X.prog X.w) X.A (isTrue e X.env whole) (TP X pins σ Q) X.xe s:=⟨PW.run⟩
theorem PW.pt{X:Cx}{t:TT}(h:PW X e t):PT X e t:=⟨h _⟩
structure PA (X:Cx) (es:List Expr) (t:TA):Prop where
 run: ∀(pos:Pos) (pins:List (Addr×Obj)) (s:ag) (σ:St) (H:Hp) (Q:List V -> Hp -> Prop),Inv X pins σ H s -> t σ H Q -> wpAny (model X.prog X.w) X.A (spliced (backTo pos (starEach es X.env))) (AP X pins σ Q) X.xe s
instance {X:Cx} {es:List Expr} {t:TA}:CoeFun (PA X es t) fun _=> ∀(pos:Pos) (pins:List (Addr×Obj)) (s:ag) (σ:St) (H:Hp) (Q:List V -> Hp -> Prop),Inv X pins σ H s -> t σ H Q -> wpAny (model X.prog X.w) X.A (spliced (backTo pos (starEach es X.env))) (AP X pins σ Q) X.xe s:=⟨PA.run⟩
structure PS (X:Cx) (st:Stmt) (t:TS):Prop where
 run: ∀(pins:List (Addr×Obj)) (s:ag) (σ:St) (H:Hp) (D:Ends),Inv X pins σ H s -> t D σ H -> wpAny (model X.prog X.w) X.A (exec st X.env) (SP X pins D) X.xe s
instance {X:Cx} {st:Stmt} {t:TS}:CoeFun (PS X st t) fun _=> ∀(pins:List (Addr×Obj)) (s:ag) (σ:St) (H:Hp) (D:Ends),Inv X pins σ H s -> t D σ H -> wpAny (model X.prog X.w) X.A (exec st X.env) (SP X pins D) X.xe s:=⟨PS.run⟩
structure PSs (X:Cx) (st:List Stmt) (t:TS):Prop where
 run: ∀(pins:List (Addr×Obj)) (s:ag) (σ:St) (H:Hp) (D:Ends),Inv X pins σ H s -> t D σ H -> wpAny (model X.prog X.w) X.A (execs st X.env) (SP X pins D) X.xe s
instance {X:Cx} {st:List Stmt} {t:TS}:CoeFun (PSs X st t) fun _=> ∀(pins:List (Addr×Obj)) (s:ag) (σ:St) (H:Hp) (D:Ends),Inv X pins σ H s -> t D σ H -> wpAny (model X.prog X.w) X.A (execs st X.env) (SP X pins D) X.xe s:=⟨PSs.run⟩
theorem thn{α:Type}{t:Sem α}{Q Q':α -> ag -> Prop}(h:wpAny M A t Q E s)(hQ: ∀a s,Q a s -> Q' a s):wpAny M A t Q' E s:=bw h hQ fun _ _ x=> x
section
variable{X:Cx}
noncomputable def aty(i:Nat):TE:=fun σ H Q=> ∃v,σ[i]?=some (some v)/\Q v H
noncomputable def tC(v:V):TE:=fun _ H Q=> Q v H
theorem at9{x:Str}(hN:X.N[i]?=some x)(hv:Vis X.env.scope x)(hd:(x==("__debug__":Str))=false:=by decide)(hcd:(x==("__classdict__":Str))=false:=by decide):PE X (.Name x pos) (aty i):=by
 (first|refine⟨?_⟩|skip);intro pins s σ H Q I h
 obtain⟨v,e,h⟩:=h
 obtain⟨m,hn,hl⟩:=I.loc
 obtain⟨u,r,l⟩:=hl i x v hN e hv
 have fin:EP X pins σ Q u s:=⟨v,H,I,r,h⟩
 rcases l with ⟨hk,hm⟩|⟨hk,c,hc,hcell⟩
 ·exact wpAny_Name (wpAny_loadName_local I.ok.kind hk hn hm fin) hd
 ·rcases hk with hk|hk
  ·exact wpAny_Name (wpAny_loadName_cell I.ok.kind hk hc hcell fin) hd
  ·exact wpAny_Name (wpAny_loadName_free I.ok.kind hk hc hcell fin hcd) hd
theorem arx{i j pos}:PE X (.Constant (.int i) j pos) (tC (.int i)):=.mk <|fun _ _ _ H _ I h=> wpAny_Constant_int ⟨.int i,H,I.tok _,⟨_,rfl⟩,h⟩
theorem axb{b j pos}:PE X (.Constant (.bool b) j pos) (tC (.bl b)):=.mk <|fun _ _ _ H _ I h=> Constant_bool ⟨.bl b,H,I,rfl,h⟩
theorem at4{j pos}:PE X (.Constant .none j pos) (tC .non):=.mk <|fun _ _ _ H _ I h=> Constant_none ⟨.non,H,I,rfl,h⟩
theorem a1g{x j pos}:PE X (.Constant (.str x) j pos) (tC (.str x)):=.mk <|fun _ _ _ H _ I h=> Calls.Constant_str ⟨.str x,H,I.tok _,⟨_,rfl⟩,h⟩
def Gl(X:Cx)(x:Str):Prop:=X.env.kindOf x=some .globalImplicit
theorem aid{σ:St}{H:Hp}{x:Str}{Q:ae -> ag -> Prop}(I:Inv X pins σ H s)(hg:Gl X x)(hm:X.mg x=some u)(h:Q u s)(hd:(x==("__debug__":Str))=false:=by decide):wpAny (model X.prog X.w) X.A (eval (.Name x pos) X.env) Q E s:=
 iX I.ok.kind hg (Calls.loadGlobal_global (by rw [I.ok.glob];exact I.mod.glob.keeps I.bk) hm h) hd
theorem afc{σ:St}{H:Hp}{x:Str}{Q:ae -> ag -> Prop}(I:Inv X pins σ H s)(hg:Gl X x)(hm:X.mg x=none)(hv:bT x=some u)(h:Q u s)(hn:x≠"__name__":=by decide)(hd:(x==("__debug__":Str))=false:=by decide):wpAny (model X.prog X.w) X.A (eval (.Name x pos) X.env) Q E s:=by
 obtain⟨mb,h1,h2⟩:=I.mod.blt
 exact iX I.ok.kind hg (Calls.loadGlobal_builtin (by rw [I.ok.glob];exact I.mod.glob.keeps I.bk) hm (by rw [I.ok.blt];exact h1.keeps I.bk) ((h2 x hn).trans hv) h) hd
theorem a0w{x:Str}{v:V}(hg:Gl X x)(hm:X.mg x=some u)(r:RelV v u)(hd:(x==("__debug__":Str))=false:=by decide):PE X (.Name x pos) (tC v):=
 .mk <|fun _ _ _ H _ I h=> aid I hg hm ⟨v,H,I,r,h⟩ hd
theorem ayw{x:Str}{v:V}(hg:Gl X x)(hm:X.mg x=none)(hv:bT x=some u)(r:RelV v u)(hn:x≠"__name__":=by decide)(hd:(x==("__debug__":Str))=false:=by decide):PE X (.Name x pos) (tC v):=
 .mk <|fun _ _ _ H _ I h=> afc I hg hm hv ⟨v,H,I,r,h⟩ hn hd
variable{a b:Expr}{ta tb:TE}{pos:Pos}
variable{tA tB':TT}{rest:List Expr}
noncomputable def a1h(t u:TT):TT:=fun σ H Q=> t σ H fun c H1=> if c=true then u σ H1 Q else Q false H1
noncomputable def tOr(t u:TT):TT:=fun σ H Q=> t σ H fun c H1=> if c=true then Q true H1 else u σ H1 Q
noncomputable def a3o(t:TT):TT:=fun σ H Q=> t σ H fun c H1=> Q (!c) H1
theorem ayf(ha:PT X a tA):PW X (.BoolOp .And [a] pos) tA:=by
 (first|refine⟨?_⟩|skip);intro wh pins s σ H Q I h
 refine isTrue_and (thn (ha pins s σ H Q I h) fun c s1 e=> ?_)
 cases c with
 |true=> exact isTrue_and_nil e
 |false=> exact e
theorem a3w(ha:PT X a tA):PW X (.BoolOp .Or [a] pos) tA:=by
 (first|refine⟨?_⟩|skip);intro wh pins s σ H Q I h
 refine isTrue_or (thn (ha pins s σ H Q I h) fun c s1 e=> ?_)
 cases c with
 |false=> exact isTrue_or_nil e
 |true=> exact e
theorem a1y(ha:PT X a tA)(hb:PW X (.BoolOp .And (b::rest) pos) tB'):PW X (.BoolOp .And (a::b::rest) pos) (a1h tA tB'):=by
 (first|refine⟨?_⟩|skip);intro wh pins s σ H Q I h
 refine isTrue_and (thn (ha pins s σ H _ I h) fun c s1 ⟨H1,I1,q1⟩=> ?_)
 cases c with
 |true=> exact hb wh pins s1 σ H1 Q I1 q1
 |false=> exact⟨H1,I1,q1⟩
theorem a4w(ha:PT X a tA)(hb:PW X (.BoolOp .Or (b::rest) pos) tB'):PW X (.BoolOp .Or (a::b::rest) pos) (tOr tA tB'):=by
 (first|refine⟨?_⟩|skip);intro wh pins s σ H Q I h
 refine isTrue_or (thn (ha pins s σ H _ I h) fun c s1 ⟨H1,I1,q1⟩=> ?_)
 cases c with
 |true=> exact⟨H1,I1,q1⟩
 |false=> exact hb wh pins s1 σ H1 Q I1 q1
theorem a39(ha:PT X a tA):PT X (.UnaryOp .Not a pos) (a3o tA):=by
 (first|refine⟨?_⟩|skip);intro pins s σ H Q I h
 exact isTrue_not (ha pins s σ H (fun c H1=> Q (!c) H1) I h)
end
def SqL(K:aj)(H:Hp)(a:Addr)(xs:List V):Prop:=
 Rd H a (.lst xs)\/
  ∃(o:Obj) (its:Array ae) (n:Nat),K.lookup a=some o/\o.cls=.type "list"/\o.dict=none/\o.data=.seq its n/\its.size <=sizeLine/\jj xs its.toList
def SqT(K:aj)(H:Hp)(a:Addr)(xs:List V):Prop:=
 Rd H a (.tup xs)\/
  ∃(o:Obj) (its:Array ae) (n:Nat),K.lookup a=some o/\o.cls=.type "tuple"/\o.data=.seq its n/\its.size <=sizeLine/\jj xs its.toList
noncomputable def a5x:ae -> Option V
 |.none=> some .non
 |.bool b=> some (.bl b)
 |.int i _=> some (.int i)
 |.str x _=> some (.str x)
 |.bytes b _=> some (.byt b)
 |.float b _=> some (.flt b)
 |.ref a=> some (.ref a)
 |.type n=> some (.ty n)
 |_=> none
theorem RelV.abs{x:V}(r:RelV x u):a5x u=some x:=by
 cases x with
 |non=> cases r;rfl
 |bl _=> cases r;rfl
 |int _=> obtain⟨t,rfl⟩:=r;rfl
 |str _=> obtain⟨t,rfl⟩:=r;rfl
 |byt _=> obtain⟨t,rfl⟩:=r;rfl
 |flt _=> obtain⟨t,rfl⟩:=r;rfl
 |ref _=> cases r;rfl
 |ty _=> cases r;rfl
theorem RelV.inj{x y:V}(r:RelV x u)(q:RelV y u):x=y:=bH (r.abs.symm.trans q.abs)
theorem jj.inj: ∀{xs ys:List V} {us:List ae},jj xs us -> jj ys us -> xs=ys
 |_,_,_,.nil,.nil=> rfl
 |_,_,_,.cons r t,.cons r' t'=> by rw [r.inj r',jj.inj t t']
section
variable{X:Cx}{pins:List (Addr×Obj)}{σ:St}{H:Hp}{s:ag}{a:Addr}{xs ys:List V}
theorem SqL.of(h:H a=some (.lst xs)):SqL K H a xs:=.inl (.inl h)
theorem SqT.of(h:H a=some (.tup xs)):SqT K H a xs:=.inl (.inl h)
theorem Inv.list(I:Inv X pins σ H s)(h:SqL X.K H a xs): ∃its:List ae,jj xs its/\PlainL s.heap a its.toArray/\xs.length <=sizeLine:=by
 rcases h with h|⟨o,its,n,hk,hc,hd,hs,hz,r⟩
 ·obtain⟨z,its,n,r,e⟩:=h.ok I.hok
  exact⟨its,r,⟨_,n,e,rfl,rfl,rfl⟩,z⟩
 ·refine⟨its.toList,r,⟨o,n,I.kIn a o hk,hc,hd,by simpa using hs⟩,?_⟩
  have e:=r.length
  simp only [au]at e
  lia
theorem Inv.tuple(I:Inv X pins σ H s)(h:SqT X.K H a xs): ∃its:List ae,jj xs its/\IsTup s.heap a its.toArray/\xs.length <=sizeLine:=by
 rcases h with h|⟨o,its,n,hk,hc,hs,hz,r⟩
 ·obtain⟨z,its,r,p⟩:=h.ok I.hok
  exact⟨its,r,p.tup,z⟩
 ·refine⟨its.toList,r,⟨o,I.kIn a o hk,hc,n,by simpa using hs⟩,?_⟩
  have e:=r.length
  simp only [au]at e
  lia
theorem Inv.list_inj(I:Inv X pins σ H s)(h:SqL X.K H a xs)(h':SqL X.K H a ys):xs=ys:=by
 obtain⟨its,r,⟨o,n,e,_,_,d⟩,_⟩:=I.list h
 obtain⟨its',r',⟨o',n',e',_,_,d'⟩,_⟩:=I.list h'
 rw [e]at e';cases e'
 rw [d]at d'
 injection d' with d1 _
 have:its=its':=by simpa using congrArg Array.toList d1
 subst this
 exact r.inj r'
theorem Inv.tuple_inj(I:Inv X pins σ H s)(h:SqT X.K H a xs)(h':SqT X.K H a ys):xs=ys:=by
 obtain⟨its,r,⟨o,e,_,n,d⟩,_⟩:=I.tuple h
 obtain⟨its',r',⟨o',e',_,n',d'⟩,_⟩:=I.tuple h'
 rw [e]at e';cases e'
 rw [d]at d'
 injection d' with d1 _
 have:its=its':=by simpa using congrArg Array.toList d1
 subst this
 exact r.inj r'
end
section
variable{X:Cx}{st:Stmt}{rest:List Stmt}{t u:TS}{e:Expr}{te:TE}{pos:Pos}
noncomputable def a4z:TS:=fun D σ H=> D.nx σ H
noncomputable def a10(t u:TS):TS:=fun D σ H=> t {D with nx:=u D} σ H
theorem az8:PSs X [] a4z:=.mk <|fun _ _ σ H _ I h=> kO ⟨σ,H,I,h⟩
theorem ava(h1:PS X st t)(h2:PSs X rest u):PSs X (st::rest) (a10 t u):=by
 (first|refine⟨?_⟩|skip);intro pins s σ H D I h
 refine wpAny_execs_cons (thn (h1 pins s σ H {D with nx:=u D} I h) fun f s1 q=> ?_)
 cases f with
 |next=>
  obtain⟨σ',H',I',q⟩:=q
  exact h2 pins s1 σ' H' D I' q
 |ret v=> exact q
 |brk=> exact q
 |cont=> exact q
theorem aym(h1:PS X st t):PSs X [st] t:=by
 (first|refine⟨?_⟩|skip);intro pins s σ H D I h
 refine wpAny_execs_cons (thn (h1 pins s σ H D I h) fun f s1 q=> ?_)
 cases f with
 |next=> exact kO q
 |ret v=> exact q
 |brk=> exact q
 |cont=> exact q
theorem Inv.quiet{σ:St}{H:Hp}(I:Inv X pins σ H s):interactive X.env=false:=by simp [interactive,I.ok.kind]
noncomputable def a40(te:TE):TS:=fun D σ H=> te σ H fun _ H1=> D.nx σ H1
theorem ay0(he:PE X e te)(hs:gg e none pos.line X.env=pure false:=by rfl):PS X (.Expr e pos) (a40 te):=by
 (first|refine⟨?_⟩|skip);intro pins s σ H D I h
 exact wpAny_Expr_any (thn (he pins s σ H _ I h) fun v s1 ⟨x,H1,I1,r1,q1⟩=> ⟨σ,H1,I1,q1⟩) I.quiet hs
noncomputable def a6f(te:TE):TS:=fun D σ H=> te σ H D.rt
theorem a21(he:PE X e te):PS X (.Return (some e) pos) (a6f te):=by
 (first|refine⟨?_⟩|skip);intro pins s σ H D I h
 exact wpAny_Return_some (thn (he pins s σ H _ I h) fun v s1 ⟨x,H1,I1,r1,q1⟩=> ⟨x,σ,H1,I1,r1,q1⟩)
noncomputable def a6g(c:TT)(t u:TS):TS:=fun D σ H=> c σ H fun b H1=> if b=true then t D σ H1 else u D σ H1
theorem a4p{c:Expr}{a b:List Stmt}{tc:TT}(hc:PT X c tc)(ha:PSs X a t)(hb:PSs X b u):PS X (.If c a b pos) (a6g tc t u):=by
 (first|refine⟨?_⟩|skip);intro pins s σ H D I h
 refine wpAny_If (thn (hc pins s σ H _ I h) fun d s1 ⟨H1,I1,q1⟩=> ?_)
 cases d with
 |true=> exact ha pins s1 σ H1 D I1 q1
 |false=> exact hb pins s1 σ H1 D I1 q1
end
abbrev TG:=V -> St -> Hp -> (St -> Hp -> Prop) -> Prop
abbrev TGs:=List V -> St -> Hp -> (St -> Hp -> Prop) -> Prop
def PG(X:Cx)(target:Expr)(t:TG):Prop:=
 ∀(pins:List (Addr×Obj)) (s:ag) (σ:St) (H:Hp) (v:V) (u:ae) (Q:St -> Hp -> Prop),Inv X pins σ H s -> RelV v u -> t v σ H Q ->
  wpAny (model X.prog X.w) X.A (assign target X.env u) (fun _ s'=> ∃σ' H',Inv X pins σ' H' s'/\Q σ' H') X.xe s
def PGs(X:Cx)(ts:List Expr)(t:TGs):Prop:=
 ∀(pins:List (Addr×Obj)) (s:ag) (σ:St) (H:Hp) (vs:List V) (us:List ae) (Q:St -> Hp -> Prop),Inv X pins σ H s -> jj vs us -> t vs σ H Q ->
  wpAny (model X.prog X.w) X.A (assignInOrder ((bz ts X.env).map (·.2)) us) (fun _ s'=> ∃σ' H',Inv X pins σ' H' s'/\Q σ' H') X.xe s
abbrev aqm:=V -> V -> V -> Hp -> (Hp -> Prop) -> Prop
def agv(X:Cx)(t:aqm):Prop:=
 ∀(pins:List (Addr×Obj)) (s:ag) (σ:St) (H:Hp) (o i v:V) (ov iv u:ae) (Q:Hp -> Prop),Inv X pins σ H s -> RelV o ov -> RelV i iv -> RelV v u -> t o i v H Q ->
  wpAny (model X.prog X.w) X.A (setItem ov iv u) (fun _ s'=> ∃H',Inv X pins σ H' s'/\Q H') X.xe s
section
variable{X:Cx}{pos:Pos}
noncomputable def akl(i:Nat):TG:=fun v σ H Q=> Q (σ.set i (some v)) H
theorem axr{x:Str}(hN:X.N.Nodup)(hi:X.N[i]?=some x)(hx:Loc X.env.scope x)(hf:X.fn x=true\/X.env.scope.names.lookup x=some .local:=by first|exact .inl rfl|exact .inr rfl|assumption):PG X (.Name x pos) (akl i):=by
 (first|refine⟨?_⟩|skip);intro pins s σ H v u Q I r h
 exact wpAny_assign_Name (anb I hN hi hx r (fun s' I'=> ⟨_,H,I',h⟩) hf)
noncomputable def ap5:TGs:=fun vs σ H Q=> vs=[]/\Q σ H
noncomputable def aeh(t:TG)(u:TGs):TGs:=fun vs σ H Q=> ∃v r,vs=v::r/\t v σ H fun σ' H'=> u r σ' H' Q
theorem aof:PGs X [] ap5:=by
 (first|refine⟨?_⟩|skip);intro pins s σ H vs us Q I r h
 obtain⟨e,h⟩:=h
 subst e
 cases r
 exact assignInOrder_nil ⟨σ,H,I,h⟩
theorem ac0{es:List Expr}{t:TG}{u:TGs}(h1:PG X e t)(h2:PGs X es u)(hs:(bz (e::es) X.env).map (·.2)=assign e X.env::(bz es X.env).map (·.2):=by rfl):PGs X (e::es) (aeh t u):=by
 (first|refine⟨?_⟩|skip);intro pins s σ H vs us Q I r h
 obtain⟨v,vr,e1,h⟩:=h
 subst e1
 cases r with
 |cons r rr=>
  rw [hs]
  refine assignInOrder_cons (thn (h1 pins s σ H _ _ _ I r h) fun _ s1 ⟨σ1,H1,I1,q1⟩=> ?_)
  exact h2 pins s1 σ1 H1 _ _ Q I1 rr q1
noncomputable def a6c(K:aj)(n:Nat)(t:TGs):TG:=fun v σ H Q=> ∃a xs,v=.ref a/\SqT K H a xs/\xs.length=n/\t xs σ H Q
theorem a11{es:List Expr}{k:Nat}{t:TGs}{n:Nat}(hc:X.calm=true)(h:PGs X es t)
  (hn:(bz es X.env).length=n:=by rfl) (hst:(bz es X.env).findIdx? (·.1)=none:=by rfl):PG X (.Tuple es k pos) (a6c X.K n t):=by
 (first|refine⟨?_⟩|skip);intro pins s σ H v u Q I r hw
 obtain⟨a,xs,e1,hq,hl,hw⟩:=hw
 subst e1
 cases r
 obtain⟨its,rv,ht,hz⟩:=I.tuple hq
 refine assign_Tuple_tuple (I.ok.hd hc) ht (by simp [hn,←hl,rv.length]) hst fun h' hx=> ?_
 have I1:Inv X pins σ H {s with heap:=h'}:=I.kept (t':=s.toks) fun b o e=> hx b o (aH (aD e)) e
 exact h pins _ σ H xs _ Q I1 (by simpa using rv) hw
noncomputable def a60(to ti:TE)(t:aqm):TG:=fun v σ H Q=> to σ H fun o H1=> ti σ H1 fun i H2=> t o i v H2 fun H3=> Q σ H3
theorem arf{o i:Expr}{to ti:TE}{t:aqm}(ho:PE X o to)(hi:PE X i ti)(hs:agv X t)
  (ha: ∀v,assign (.Subscript o i pos) X.env v=(do
   let ov←holding [v] (eval o X.env)
   let iv←holding [v,ov] (eval i X.env)
   standAt pos
   holding [v,ov,iv] (setItem ov iv v)
   release [v,ov,iv] []):=by intro _;rfl):PG X (.Subscript o i pos) (a60 to ti t):=by
 (first|refine⟨?_⟩|skip);intro pins s σ H v u Q I r h
 rw [ha]
 refine aa (bo (thn (ho pins s σ H _ I h) fun ov s1 ⟨x,H1,I1,r1,q1⟩=> ?_))
 refine aa (bo (thn (hi pins s1 σ H1 _ I1 q1) fun iv s2 ⟨y,H2,I2,r2,q2⟩=> ?_))
 refine aa (c6 (aa (bo (thn (hs pins s2 σ H2 x y v ov iv u _ I2 r1 r2 r q2) fun _ s3 ⟨H3,I3,q3⟩=> ?_))))
 exact wpAny_release ⟨σ,H3,I3,q3⟩
noncomputable def a14(te:TE)(g:TG):TS:=fun D σ H=> te σ H fun x H1=> g x σ H1 D.nx
theorem at1{te:TE}{g:TG}(he:PE X e te)(hg:PG X tg g)(hs:mG [tg] e pos.line X.env=pure false:=by rfl)(hw:mH [tg] e X.env=pure none:=by rfl)(h1:(bz [tg] X.env).map (·.2)=[assign tg X.env]:=by rfl):PS X (.Assign [tg] e pos) (a14 te g):=by
 (first|refine⟨?_⟩|skip);intro pins s σ H D I h
 refine wpAny_Assign_stores (thn (he pins s σ H _ I h) fun v s1 ⟨x,H1,I1,r1,q1⟩=> ?_) hs hw
 rw [h1]
 exact thn (hg pins s1 σ H1 x v _ I1 r1 q1) fun _ s2 q=> q
theorem a2t{x:Str}{te:TE}{pos':Pos}(hN:X.N.Nodup)(hi:X.N[i]?=some x)(hx:Loc X.env.scope x)(he:PE X e te)(hs:gg e (some (.Name x pos')) pos.line X.env=pure false:=by rfl)(hf:X.fn x=true\/X.env.scope.names.lookup x=some .local:=by first|exact .inl rfl|exact .inr rfl|assumption):
  PS X (.Assign [.Name x pos'] e pos) (a14 te (akl i)):=by
 (first|refine⟨?_⟩|skip);intro pins s σ H D I h
 refine wpAny_Assign_Name (thn (he pins s σ H _ I h) fun v s1 ⟨y,H1,I1,r1,q1⟩=> ?_) hs
 exact anb I1 hN hi hx r1 (fun s2 I2=> ⟨_,H1,I2,q1⟩) hf
end
structure It where
 go:Nat -> Hp -> Prop
 yld:Nat -> Hp -> V -> Hp -> Prop
 stop:Nat -> Hp -> Prop
def zo(X:Cx)(pins:List (Addr×Obj))(H:Hp)(b:Addr):Prop:=
 H b=none/\b≠X.env.locals/\b∉X.fs/\(b∈X.ex\/X.s₀.heap.objs.size <=b)/\(∀x c,X.env.cells.lookup x=some c -> c≠b)/\ ∀p∈X.pn++pins,p.1≠b
theorem Inv.fpOk{X:Cx}{σ:St}{H H':Hp}(I:Inv X pins σ H s)(hb:s.heap.objs.size <=b)(hn:H' b=none):zo X pins H' b:=by
 refine⟨hn,fA (aQ I.lt hb),I.nofs hb,.inr (bb I.sz hb),fun x c e z=> ?_,fun p hp z=> ?_⟩
 ·obtain⟨v,q⟩:=I.cell x c e
  exact absurd (aQ q.lt (by rw [z];exact hb)) (cN _)
 ·exact absurd (aQ (aD (I.pin p hp).1) (by rw [z];exact hb)) (cN _)
structure Turn (P:aI) (w:aM) (K:aj) (tg:Expr) (J:It) (fp:List Addr) (it:Addr) (tn:Nat -> Heap -> Prop):Prop where
 mem:it∈fp
 obj: ∀i h,tn i h -> ∀b∈fp,∃o,h.get? b=some o/\ ∀v,o.data≠ .cell v
 keep: ∀i h h',tn i h -> (∀b∈fp,∀o,h.get? b=some o -> h'.get? b=some o) -> tn i h'
 item: ∀(X:Cx),X.prog=P -> X.w=w -> X.K=K -> X.calm=true -> ∀(i:Nat) (pins:List (Addr×Obj)) (s:ag) (σ:St) (H:Hp) (E:ae -> ag -> Prop),Inv X pins σ H s -> (∀b∈fp,zo X pins H b) -> tn i s.heap -> J.go i H ->
  wpAny (model P w) X.A (pyNext (.ref it)) (fun r s1=> ∃u,r=some u/\
   wpAny (model P w) X.A (dU tg (.ref it) u) (fun _ s2=> ∃x H',Inv X pins σ H' s2/\RelV x u/\J.yld i H x H'/\tn (i+1) s2.heap/\ ∀b∈fp,H' b=none) E s1) E s
 done: ∀(X:Cx),X.prog=P -> X.w=w -> X.K=K -> X.calm=true -> ∀(i:Nat) (pins:List (Addr×Obj)) (s:ag) (σ:St) (H:Hp) (E:ae -> ag -> Prop),Inv X pins σ H s -> (∀b∈fp,zo X pins H b) -> tn i s.heap -> J.stop i H ->
  wpAny (model P w) X.A (pyNext (.ref it)) (fun r s1=> r=none/\Inv X pins σ H s1) E s
 self: ∀(A:aZ) (i:Nat) (s:ag) (Q:ae -> ag -> Prop) (E:ae -> ag -> Prop),tn i s.heap -> Q (.ref it) s -> wpAny (model P w) A (pyIter (.ref it)) Q E s
abbrev TI:=St -> Hp -> (It -> Hp -> Prop) -> Prop
def PIE(X:Cx)(pins:List (Addr×Obj))(σ:St)(tg:Expr)(R:It -> Hp -> Prop)(itv:ae)(s2:ag):Prop:=
 ∃(it:Addr) (fp:List Addr) (tn:Nat -> Heap -> Prop) (J:It) (H':Hp),itv=.ref it/\Inv X pins σ H' s2/\Turn X.prog X.w X.K tg J fp it tn/\tn 0 s2.heap/\(∀b∈fp,zo X pins H' b)/\R J H'
def PI(X:Cx)(tg iter:Expr)(wi:TI):Prop:=
 ∀(pins:List (Addr×Obj)) (s:ag) (σ:St) (H:Hp) (R:It -> Hp -> Prop),Inv X pins σ H s -> wi σ H R ->
  wpAny (model X.prog X.w) X.A (eval iter X.env) (fun v s1=> wpAny (model X.prog X.w) X.A (pyIter v) (PIE X pins σ tg R) X.xe s1) X.xe s
theorem akr{it:Addr}{o:Obj}{n:String}{vs:Array ae}(ho:s.heap.get? it=some o)(hc:o.cls=.type n)(hd:o.data=.fields vs)(hn:["enumerate","zip","dict_itemiterator","dict_reverseitemiterator","odict_iterator","itertools.zip_longest","itertools.pairwise"].contains n=false)(hQ:Q () s):wpAny M A (dU tg (.ref it) u) Q E s:=by
 unfold dU
 cases tg <;> first
  |exact af hQ
  | (cases u <;> first
    |exact af hQ
    | (refine aa (jP ho ?_)
       rw [hc,hd]
       show wpAny M A (if (["enumerate","zip","dict_itemiterator","dict_reverseitemiterator","odict_iterator","itertools.zip_longest","itertools.pairwise"].contains n&&vs[0]?==some (rawInt _))=true then _ else _) Q E s
       rw [if_neg (by intro h;rw [hn,Bool.false_and]at h;cases h)]
       exact af hQ))
noncomputable def Itl(K:aj)(a:Addr):It:=
 ⟨fun i H=> ∃xs x,SqL K H a xs/\xs[i]?=some x,fun i H x H'=> H'=H/\ ∀xs,SqL K H a xs -> xs[i]?=some x,fun i H=> ∃xs,SqL K H a xs/\xs.length <=i⟩
noncomputable def Itt(K:aj)(a:Addr):It:=
 ⟨fun i H=> ∃xs x,SqT K H a xs/\xs[i]?=some x,fun i H x H'=> H'=H/\ ∀xs,SqT K H a xs -> xs[i]?=some x,fun i H=> ∃xs,SqT K H a xs/\xs.length <=i⟩
noncomputable def Itr(lo:Int)(n:Nat):It:=⟨fun i _=> i < n,fun i H x H'=> H'=H/\x=.int (lo+i),fun i _=> n <=i⟩
theorem at3(a it:Addr):Turn P w K tg (Itl K a) [it] it (fun i h=> h.IsListIter it a i) where
 mem:=by simp
 obj:=fun i h st b hb=> by
  have e:b=it:=by simpa using hb
  subst e
  obtain⟨o,e,c,d⟩:=st
  exact⟨o,e,fun v z=> by rw [d]at z;cases z⟩
 keep:=fun i h h' st k=> st.at fun o e=> k it (by simp) o e
 item:=by
  intro X hP hw hK hc i pins s σ H E I hf st hg
  subst hP hw hK
  obtain⟨xs,x,hq,hx⟩:=hg
  obtain⟨its,rv,p,hz⟩:=I.list hq
  obtain⟨u,hu,ru⟩:=rv.get hx
  obtain⟨f0,f1,f2,f3,f4,f5⟩:=hf it (by simp)
  refine lj st p.isList (x:=u) (by simpa using hu) fun h' st' sb=> ?_
  have I1:Inv X pins σ H {s with heap:=h'}:=I.turned (t':=s.toks) (fun b o hb e=> (sb.2 b hb).trans e) f0 f1 f3 f4 f5
  obtain⟨o,e,c,d⟩:=id st'
  exact⟨u,rfl,akr (s:={s with heap:=h'}) e c d (by decide) ⟨x,H,I1,ru,⟨rfl,fun ys hy=> by rw [I.list_inj hy hq];exact hx⟩,st',fun b hb=> (hf b hb).1⟩⟩
 done:=by
  intro X hP hw hK hc i pins s σ H E I hf st hg
  subst hP hw hK
  obtain⟨xs,hq,hx⟩:=hg
  obtain⟨its,rv,p,hz⟩:=I.list hq
  obtain⟨f0,f1,f2,f3,f4,f5⟩:=hf it (by simp)
  have hl:=rv.length
  exact lF (I.ok.hd hc) st p.isList (by simp;lia) fun h' eb=> ⟨rfl,I.turned (t':=s.toks) (fun b o hb e=> eb b o hb e) f0 f1 f3 f4 f5⟩
 self:=fun _ _ _ _ _ st h=> wpAny_pyIter_listiter st h
theorem apf(a it:Addr):Turn P w K tg (Itt K a) [it] it (fun i h=> h.IsTupleIter it a i) where
 mem:=by simp
 obj:=fun i h st b hb=> by
  have e:b=it:=by simpa using hb
  subst e
  obtain⟨o,e,c,d⟩:=st
  exact⟨o,e,fun v z=> by rw [d]at z;cases z⟩
 keep:=fun i h h' st k=> st.at fun o e=> k it (by simp) o e
 item:=by
  intro X hP hw hK hc i pins s σ H E I hf st hg
  subst hP hw hK
  obtain⟨xs,x,hq,hx⟩:=hg
  obtain⟨its,rv,p,hz⟩:=I.tuple hq
  obtain⟨u,hu,ru⟩:=rv.get hx
  obtain⟨f0,f1,f2,f3,f4,f5⟩:=hf it (by simp)
  refine wpAny_pyNext_tuple_item st (show s.heap.IsTuple a its.toArray from p) (x:=u) (by simpa using hu) fun h' st' sb=> ?_
  have I1:Inv X pins σ H {s with heap:=h'}:=I.turned (t':=s.toks) (fun b o hb e=> (sb.2 b hb).trans e) f0 f1 f3 f4 f5
  obtain⟨o,e,c,d⟩:=id st'
  exact⟨u,rfl,akr (s:={s with heap:=h'}) e c d (by decide) ⟨x,H,I1,ru,⟨rfl,fun ys hy=> by rw [I.tuple_inj hy hq];exact hx⟩,st',fun b hb=> (hf b hb).1⟩⟩
 done:=by
  intro X hP hw hK hc i pins s σ H E I hf st hg
  subst hP hw hK
  obtain⟨xs,hq,hx⟩:=hg
  obtain⟨its,rv,p,hz⟩:=I.tuple hq
  obtain⟨f0,f1,f2,f3,f4,f5⟩:=hf it (by simp)
  have hl:=rv.length
  exact wpAny_pyNext_tuple_end (I.ok.hd hc) st (show s.heap.IsTuple a its.toArray from p) (by simp;lia) fun h' eb=> ⟨rfl,I.turned (t':=s.toks) (fun b o hb e=> eb b o hb e) f0 f1 f3 f4 f5⟩
 self:=fun _ _ _ _ _ st h=> wpAny_pyIter_tupleiter st h
theorem aql(it:Addr)(lo:Int)(n:Nat):Turn P w K tg (Itr lo n) [it] it (fun i h=> IsRangeIter h it (lo+(i:Nat)*1) ((n:Int) - (i:Nat)) 1) where
 mem:=by simp
 obj:=fun i h st b hb=> by
  have e:b=it:=by simpa using hb
  subst e
  exact⟨_,st,fun v z=> by
   have z':Data.fields _=Data.cell v:=z
   cases z'⟩
 keep:=fun i h h' st k=> k it (by simp) _ st
 item:=by
  intro X hP hw hK hc i pins s σ H E I hf st hg
  subst hP hw hK
  obtain⟨f0,f1,f2,f3,f4,f5⟩:=hf it (by simp)
  have W:=Walks.range (prog:=X.prog) (w:=X.w) (I.ok.hd hc) it lo 1 n
  refine W.item i s _ _ hg st fun v h' tk hv st' kk=> ?_
  obtain⟨t,rfl⟩:=hv
  have I1:Inv X pins σ H {s with heap:=h',toks:=tk}:=I.turned (fun b o hb e=> kk b o (by simpa using hb) e) f0 f1 f3 f4 f5
  refine⟨_,rfl,akr (s:={s with heap:=h',toks:=tk}) (n:="range_iterator") st' rfl rfl (by decide) ⟨.int (lo+i),H,I1,⟨t,?_⟩,⟨rfl,rfl⟩,st',fun b hb=> (hf b hb).1⟩⟩
  rw [Int.mul_one]
 done:=by
  intro X hP hw hK hc i pins s σ H E I hf st hg
  subst hP hw hK
  obtain⟨f0,f1,f2,f3,f4,f5⟩:=hf it (by simp)
  exact wpAny_pyNext_range_end (I.ok.hd hc) st (by have:n <=i:=hg;lia) fun h' eb=> ⟨rfl,I.turned (t':=s.toks) (fun b o hb e=> eb b o hb e) f0 f1 f3 f4 f5⟩
 self:=fun _ _ _ _ _ st h=> wpAny_pyIter_rangeiter st h
end L2
variable{pins:List (eg×PySem.Obj)}{σ:L2.St}{H H':L2.Hp}{s:fz}{E Q:cM -> fz -> Prop}{t:nW}{u:cM}{v y:L2.V}{a p b C f:eg}{ta te:L2.TE}{pos:PySem.Pos}{fp:List eg}{h base h':PySem.Heap}{o:L2.HO}{iter e:jN}{body:List PySem.Stmt}{op:PySem.CmpOp}{i j n ep:Nat}{xs:List L2.V}{its us vs:List cM}{dx:Option eg}{mA mg:iN -> Option cM}{K:aj}{prog P:mF}{w:nI}{env:PySem.Env}{A:ng}{fd:PySem.FuncData}{ps N:List iN}{qual name:iN}{scope:PySem.Scope}{osl:Array (Option cM)}{items:Array cM}{T:String}{X:L2.Cx}{es:List jN}
namespace L2
open PySem PySem.Spec PyProof.Rows
section
variable{X:Cx}{tg:Expr}
theorem aw2{R:It -> Hp -> Prop}{lo hi:Int}{t u v:Tok}{tk:Nat}(I:Inv X pins σ H s)(h1: -(2^62) <=lo)(h2:lo < 2^62)(h3: -(2^62) <=hi)(h4:hi < 2^62)(q:R (Itr lo (hi - lo).toNat) H):wpAny (model X.prog X.w) X.A (pyIter (.ref s.heap.objs.size)) (PIE X pins σ tg R) E {s with heap:=s.heap.push {cls:=.type "range",data:=.fields #[.int lo t,.int hi u,.int 1 v]},toks:=tk}:=by
 refine wpAny_pyIter_range (IsRange.new ..) (small_one h1 h2 h3 h4) ?_
 have I1:Inv X pins σ H {s with heap:=s.heap.push {cls:=.type "range",data:=.fields #[.int lo t,.int hi u,.int 1 v]},toks:=tk}:=I.kept fun b o e=> ak _ e
 refine⟨(s.heap.push {cls:=.type "range",data:=.fields #[.int lo t,.int hi u,.int 1 v]}).objs.size,[(s.heap.push {cls:=.type "range",data:=.fields #[.int lo t,.int hi u,.int 1 v]}).objs.size],_,_,H,rfl,
  I1.kept (t':=tk) fun b o e=> ak _ e,aql _ lo (hi - lo).toNat,?_,fun b hb=> ?_,q⟩
 ·have e1:lo+((0:Nat):Int)*1=lo:=by simp
  have e2:(((hi - lo).toNat:Nat):Int) - ((0:Nat):Int)=Builtin.Range.rangeSize lo hi 1:=by rw [rangeSize_one];split <;> lia
  show IsRangeIter _ _ (lo+((0:Nat):Int)*1) ((((hi - lo).toNat:Nat):Int) - ((0:Nat):Int)) 1
  rw [e1,e2]
  exact aA _ rfl
 ·have e:b=(s.heap.push {cls:=.type "range",data:=.fields #[.int lo t,.int hi u,.int 1 v]}).objs.size:=by simpa using hb
  subst e
  exact I1.fpOk (ao _) (I1.hok.fresh (ao _))
def a5f(ta:TA):TI:=fun σ H R=> ta σ H fun vs H1=> ∃j:Int,vs=[.int j]/\ -(2^62) <=j/\j < 2^62/\R (Itr 0 j.toNat) H1
theorem asa{a:Expr}{ta:TA}{p:Pos}(hg:Gl X "range")(hm:X.mg "range"=none)(ha:PA X [a] ta)(hs:starEach [a] X.env=[(false,eval a X.env)]:=by rfl):PI X tg (.Call (.Name "range" p) [a] [] pos) (a5f ta):=by
 (first|refine⟨?_⟩|skip);intro pins s σ H R I h
 refine Call_ (afc I hg hm boot_range (fH (thn (ha pos pins s σ H _ I h) fun us s1 ⟨vs,H1,I1,r1,q1⟩=> ?_) hs rfl))
 obtain⟨j,e,q1,q2,q⟩:=q1
 subst e
 cases r1 with
 |cons r rr=>
  cases rr
  obtain⟨t,rfl⟩:=r
  exact call_range_1 (aw2 I1 (by lia) (by lia) q1 q2 (by simpa using q))
noncomputable def a68(wi:TI)(g:TG)(tb:TS):TS:=fun D σ H=> wi σ H fun J H1=> ∃W:Nat -> Nat -> St -> Hp -> Prop,(∃m,W 0 m σ H1)/\ ∀i m σ H,W i m σ H ->
 (J.stop i H/\D.nx σ H)\/(J.go i H/\ ∃N:St -> Hp -> Prop,(∀σ' H',N σ' H' -> ∃m',m' < m/\W (i+1) m' σ' H')/\ ∀x H',J.yld i H x H' -> g x σ H' fun σ2 H2=> tb {D with nx:=N,ct:=N,bk:=D.nx} σ2 H2)
noncomputable def abz(fp:List Addr)(h:Heap):List (Addr×Obj):=fp.filterMap fun b=> (h.get? b).map fun o=> (b,o)
theorem xm{o:Obj}(hb:b∈fp)(e:h.get? b=some o):(b,o)∈abz fp h:=iO.mpr ⟨b,hb,by rw [e];rfl⟩
theorem asb{p:Addr×Obj}(hp:p∈abz fp h):p.1∈fp/\h.get? p.1=some p.2:=by
 obtain⟨b,hb,e⟩:=iO.mp hp
 cases q:h.get? b with
 |none=> rw [q]at e;cases e
 |some o=>
  rw [q]at e
  have e':(b,o)=p:=bH e
  subst e'
  exact⟨hb,q⟩
theorem Inv.pinned(I:Inv X pins σ H s)(hf: ∀b∈fp,zo X pins H b)(ho: ∀b∈fp,∃o,s.heap.get? b=some o/\ ∀v,o.data≠ .cell v):Inv X (pins++abz fp s.heap) σ H s:=
 I.pins_of fun p hp=> (aS.mp hp).elim (fun z=> I.pin p (a7 _ z)) fun z=> by
  obtain⟨hb,e⟩:=asb z
  obtain⟨f0,f1,f2,_⟩:=hf p.1 hb
  obtain⟨o,e',d⟩:=ho p.1 hb
  rw [e]at e';cases e'
  exact⟨e,f0,f1,f2,d⟩
theorem Inv.unpinned{pl:List (Addr×Obj)}(I:Inv X (pins++pl) σ H s):Inv X pins σ H s:=I.pins_of fun p hp=> I.pin p (a7 _ (l4 _ hp))
theorem a3q{wi:TI}{g:TG}{tb:TS}(hp:nX (model X.prog X.w) X.A X.env X.xe)(hc:X.calm=true)(hi:PI X tg iter wi)(hg:PG X tg g)(hb:PSs X body tb)(hs: ∀x,bN iter X.env x=pure x:=by intro _;rfl):PS X (.For tg iter body [] pos) (a68 wi g tb):=by
 (first|refine⟨?_⟩|skip);intro pins s σ H D I h
 refine wpAny_For (thn (hi pins s σ H _ I h) fun v s1 h1=> thn h1 fun itv s2 h2=> ?_) hs
 obtain⟨it,fp,tn,J,H2,e,I2,T,st2,f2,W,⟨m0,w0⟩,turn⟩:=h2
 subst e
 -- what stays true of the iterator's objects through the loop
 have stat: ∀{H':Hp},(∀b∈fp,H' b=none) -> ∀b∈fp,zo X pins H' b:=fun hn b hb=> ⟨hn b hb,(f2 b hb).2⟩
 refine codeAny_forLoop_any (fun n s'=> ∃i σ' H',Inv X pins σ' H' s'/\tn i s'.heap/\(∀b∈fp,H' b=none)/\W i n σ' H') ?_ m0 ⟨0,σ,H2,I2,st2,fun b hb=> (f2 b hb).1,w0⟩
 rintro n s3 ⟨i,σ3,H3,I3,st3,fr3,w3⟩
 rcases turn i n σ3 H3 w3 with ⟨stop,qn⟩|⟨go,N,hN,step⟩
 ·refine fY hp (thn (T.done X rfl rfl rfl hc i pins s3 σ3 H3 X.xe I3 (stat fr3) st3 stop) fun r s4 ⟨hr,I4⟩=> ?_)
  subst hr
  exact kO ⟨σ3,H3,I4,qn⟩
 ·refine fY hp (thn (T.item X rfl rfl rfl hc i pins s3 σ3 H3 X.xe I3 (stat fr3) st3 go) fun r s4 ⟨u,hr,h4⟩=> ?_)
  subst hr
  refine fY hp (thn h4 fun _ s5 ⟨x,H5,I5,r5,y5,st5,fr5⟩=> ?_)
  have I5':=I5.pinned (stat fr5) (T.obj _ _ st5)
  refine fY hp (thn (hg _ s5 σ3 H5 x u _ I5' r5 (step x H5 y5)) fun _ s6 ⟨σ6,H6,I6,q6⟩=> ?_)
  refine fY hp (thn (hb _ s6 σ6 H6 _ I6 q6) fun f s7 q7=> ?_)
  have again: ∀{σ7:St} {H7:Hp},Inv X (pins++abz fp s5.heap) σ7 H7 s7 -> N σ7 H7 -> ∃m,m < n/\ ∃i σ' H',Inv X pins σ' H' s7/\tn i s7.heap/\(∀b∈fp,H' b=none)/\W i m σ' H':=fun {σ7 H7} I7 n7=> by
   obtain⟨m',hm,w7⟩:=hN σ7 H7 n7
   refine⟨m',hm,i+1,σ7,H7,I7.unpinned,T.keep _ _ _ st5 fun b hb o e=> (I7.pin (b,o) (a7 _ (a7 _ (xm hb e)))).1,fun b hb=> ?_,w7⟩
   obtain⟨o,e,d⟩:=T.obj _ _ st5 b hb
   exact (I7.pin (b,o) (a7 _ (a7 _ (xm hb e)))).2.1
  cases f with
  |next=> obtain⟨σ7,H7,I7,n7⟩:=q7;exact again I7 n7
  |cont=> obtain⟨σ7,H7,I7,n7⟩:=q7;exact again I7 n7
  |brk=> obtain⟨σ7,H7,I7,q7⟩:=q7;exact⟨σ7,H7,I7.unpinned,q7⟩
  |ret v=> obtain⟨x7,σ7,H7,I7,r7,q7⟩:=q7;exact⟨x7,σ7,H7,I7.unpinned,r7,q7⟩
end
abbrev R2:=V -> V -> Hp -> VK -> Prop
def OpR(X:Cx)(f:ae -> ae -> Sem ae)(r:R2):Prop:=
 ∀(pins:List (Addr×Obj)) (s:ag) (σ:St) (H:Hp) (x y:V) (v u:ae) (Q:VK),Inv X pins σ H s -> RelV x v -> RelV y u -> r x y H Q ->
  wpAny (model X.prog X.w) X.A (f v u) (EP X pins σ Q) X.xe s
def UnR(X:Cx)(f:ae -> Sem ae)(r:V -> Hp -> VK -> Prop):Prop:=
 ∀(pins:List (Addr×Obj)) (s:ag) (σ:St) (H:Hp) (x:V) (v:ae) (Q:VK),Inv X pins σ H s -> RelV x v -> r x H Q ->
  wpAny (model X.prog X.w) X.A (f v) (EP X pins σ Q) X.xe s
def xv(X:Cx)(f:ae)(r:List V -> Hp -> VK -> Prop):Prop:=
 ∀(pins:List (Addr×Obj)) (s:ag) (σ:St) (H:Hp) (xs:List V) (us:List ae) (Q:VK),Inv X pins σ H s -> jj xs us -> r xs H Q ->
  wpAny (model X.prog X.w) X.A (call f us) (EP X pins σ Q) X.xe s
def a5n(X:Cx)(r:V -> Hp -> (Bool -> Hp -> Prop) -> Prop):Prop:=
 ∀(pins:List (Addr×Obj)) (s:ag) (σ:St) (H:Hp) (x:V) (v:ae) (Q:Bool -> Hp -> Prop),Inv X pins σ H s -> RelV x v -> r x H Q ->
  wpAny (model X.prog X.w) X.A (truthy v) (TP X pins σ Q) X.xe s
noncomputable def tOp(r:R2)(ta tb:TE):TE:=fun σ H Q=> ta σ H fun x H1=> tb σ H1 fun y H2=> r x y H2 Q
noncomputable def tUn(r:V -> Hp -> VK -> Prop)(ta:TE):TE:=fun σ H Q=> ta σ H fun x H1=> r x H1 Q
noncomputable def rI(C:Int -> Int -> Prop)(g:Int -> Int -> V):R2:=fun x y H Q=> ∃i j,x=.int i/\y=.int j/\C i j/\Q (g i j) H
noncomputable def rI0(g:Int -> Int -> V):R2:=fun x y H Q=> ∃i j,x=.int i/\y=.int j/\Q (g i j) H
def rU(g:Int -> V):V -> Hp -> VK -> Prop:=fun x H Q=> ∃i,x=.int i/\Q (g i) H
section
variable{X:Cx}{a b c:Expr}{ta tb tc:TE}{pos:Pos}
theorem av3(ha:PE X a ta)(hb:PE X b tb){R:V -> V -> Hp -> Prop}(I:Inv X pins σ H s)(h:ta σ H fun x H1=> tb σ H1 fun y H2=> R x y H2){f:ae -> ae -> Sem ae}(hf: ∀v u s2 x y H2,Inv X pins σ H2 s2 -> RelV x v -> RelV y u -> R x y H2 -> wpAny (model X.prog X.w) X.A (f v u) Q X.xe s2):
  wpAny (model X.prog X.w) X.A (eval a X.env) (fun v s₁=> wpAny (model X.prog X.w) X.A (eval b X.env) (fun u s₂=> wpAny (model X.prog X.w) X.A (f v u) Q X.xe s₂) X.xe s₁) X.xe s:=by
 refine thn (ha pins s σ H _ I h) fun v s1 ⟨x,H1,I1,r1,q1⟩=> ?_
 refine thn (hb pins s1 σ H1 _ I1 q1) fun u s2 ⟨y,H2,I2,r2,q2⟩=> ?_
 exact hf v u s2 x y H2 I2 r1 r2 q2
theorem a4i{op:Operator}{r:R2}(ho:OpR X (binaryOp op) r)(ha:PE X a ta)(hb:PE X b tb):PE X (.BinOp a op b pos) (tOp r ta tb):=by
 (first|refine⟨?_⟩|skip);intro pins s σ H Q I h
 exact wpAny_BinOp (av3 ha hb I h fun v u s2 x y H2 I2 rx ry q=> ho pins s2 σ H2 x y v u Q I2 rx ry q)
theorem a44{op:UnaryOp}{r:V -> Hp -> VK -> Prop}(ho:UnR X (unaryOp op) r)(ha:PE X a ta):PE X (.UnaryOp op a pos) (tUn r ta):=by
 (first|refine⟨?_⟩|skip);intro pins s σ H Q I h
 exact UnaryOp_ (thn (ha pins s σ H _ I h) fun v s1 ⟨x,H1,I1,r1,q1⟩=> ho pins s1 σ H1 x v Q I1 r1 q1)
theorem opI{f:ae -> ae -> Sem ae}{C:Int -> Int -> Prop}{g:Int -> Int -> Int}
  (rule: ∀(i j:Int) (t u:Tok) (s:ag) (Q:ae -> ag -> Prop) (E:ae -> ag -> Prop),C i j -> Q (.int (g i j) s.toks) {s with toks:=s.toks+1} -> wpAny (model X.prog X.w) X.A (f (.int i t) (.int j u)) Q E s):
  OpR X f (rI C fun i j=>.int (g i j)):=by
 (first|refine⟨?_⟩|skip);intro pins s σ H x y v u Q I rx ry h
 obtain⟨i,j,rfl,rfl,hc,q⟩:=h
 obtain⟨t,rfl⟩:=rx
 obtain⟨t',rfl⟩:=ry
 exact rule i j t t' s _ _ hc ⟨.int (g i j),H,I.tok _,⟨_,rfl⟩,q⟩
theorem a62{f:ae -> ae -> Sem ae}{g:Int -> Int -> Int}
  (rule: ∀(i j:Int) (t u:Tok) (s:ag) (Q:ae -> ag -> Prop) (E:ae -> ag -> Prop),Q (.int (g i j) s.toks) {s with toks:=s.toks+1} -> wpAny (model X.prog X.w) X.A (f (.int i t) (.int j u)) Q E s):
  OpR X f (rI0 fun i j=>.int (g i j)):=by
 (first|refine⟨?_⟩|skip);intro pins s σ H x y v u Q I rx ry h
 obtain⟨i,j,rfl,rfl,q⟩:=h
 obtain⟨t,rfl⟩:=rx
 obtain⟨t',rfl⟩:=ry
 exact rule i j t t' s _ _ ⟨.int (g i j),H,I.tok _,⟨_,rfl⟩,q⟩
theorem avu{f:ae -> ae -> Sem ae}{g:Int -> Int -> Bool}
  (rule: ∀(i j:Int) (t u:Tok) (s:ag) (Q:ae -> ag -> Prop) (E:ae -> ag -> Prop),Q (.bool (g i j)) s -> wpAny (model X.prog X.w) X.A (f (.int i t) (.int j u)) Q E s):
  OpR X f (rI0 fun i j=>.bl (g i j)):=by
 (first|refine⟨?_⟩|skip);intro pins s σ H x y v u Q I rx ry h
 obtain⟨i,j,rfl,rfl,q⟩:=h
 obtain⟨t,rfl⟩:=rx
 obtain⟨t',rfl⟩:=ry
 exact rule i j t t' s _ _ ⟨.bl (g i j),H,I,rfl,q⟩
def aq7(i j:Int):Prop:=0 < j/\j < 1073741824
def aph(i j:Int):Prop:=0 <=j/\j <=1000000/\i.natAbs < 2^64
def aie(i j:Int):Prop:=(-(2^64) < i/\i < 2^64)\/(-(2^64) < j/\j < 2^64)
theorem aie.ok{i j:Int}(h:aie i j):IntMulOk i j:=by
 rcases h with ⟨h1,h2⟩|⟨h1,h2⟩
 ·exact .of_left (intBits_le_64 h1 h2)
 ·exact .of_right (intBits_le_64 h1 h2)
theorem ath:OpR X (binaryOp .Add) (rI0 fun i j=>.int (i+j)):=a62 fun _ _ _ _ _ _ _ q=> add_int q
theorem a3f:OpR X (binaryOp .Mult) (rI aie fun i j=>.int (i*j)):=opI fun _ _ _ _ _ _ _ hc q=> mul_int q hc.ok
theorem ay6:OpR X (binaryOp .FloorDiv) (rI aq7 fun i j=>.int (i/j)):=opI fun i j _ _ _ _ _ hc q=> by
 have h1:(0:Int) < j:=hc.1
 have h2:j < 1073741824:=hc.2
 exact floordiv_int (by lia) (by rw [Int.fdiv_eq_ediv_of_nonneg i (by lia)];exact q) (.inl (PyProof.noPylong_small (by lia)))
theorem a1z:OpR X (binaryOp .Mod) (rI (fun _ j=> 0 < j) fun i j=>.int (i % j)):=opI fun i j _ _ _ _ _ hc q=> by
 have h1:(0:Int) < j:=hc
 exact mod_int' (by lia) (by rw [Int.fmod_eq_emod_of_nonneg i (by lia)];exact q)
theorem a1n:OpR X (binaryOp .Pow) (rI aph fun i j=>.int (i^j.toNat)):=opI fun _ _ _ _ _ _ _ hc q=> pow_int_small hc.1 hc.2.1 hc.2.2 q
theorem unI{f:ae -> Sem ae}{g:Int -> Int}
  (rule: ∀(i:Int) (t:Tok) (s:ag) (Q:ae -> ag -> Prop) (E:ae -> ag -> Prop),Q (.int (g i) s.toks) {s with toks:=s.toks+1} -> wpAny (model X.prog X.w) X.A (f (.int i t)) Q E s):
  UnR X f (rU fun i=>.int (g i)):=by
 (first|refine⟨?_⟩|skip);intro pins s σ H x v Q I rx h
 obtain⟨i,rfl,q⟩:=h
 obtain⟨t,rfl⟩:=rx
 exact rule i t s _ _ ⟨.int (g i),H,I.tok _,⟨_,rfl⟩,q⟩
theorem a3h:UnR X (unaryOp .USub) (rU fun i=>.int (-i)):=unI fun _ _ _ _ _ q=> neg_int q
end
noncomputable def a35:V -> V -> Bool
 |.non,.non=> true|.non,.int _=> true|.int _,.non=> true|.non,.bl _=> true|.bl _,.non=> true|.non,.str _=> true|.str _,.non=> true
 |.int _,.int _=> true|.bl _,.bl _=> true|.str _,.str _=> true|.byt _,.byt _=> true
 |.int _,.str _=> true|.str _,.int _=> true|.bl _,.str _=> true|.str _,.bl _=> true
 |_,_=> false
def rEq:R2:=fun x y H Q=> a35 x y=true/\Q (.bl (decide (x=y))) H
def rNe:R2:=fun x y H Q=> a35 x y=true/\Q (.bl (!decide (x=y))) H
theorem ant{i j:Int}:decide (V.int i=V.int j)=(i==j):=by
 rw [cc]
 simp
theorem aqx{i j:Bool}:decide (V.bl i=V.bl j)=(i==j):=by
 rw [cc]
 simp
theorem anv{i j:Str}:decide (V.str i=V.str j)=(i==j):=by
 rw [cc]
 simp
theorem aoc{i j:Array UInt8}:decide (V.byt i=V.byt j)=(i.toList==j.toList):=by
 rw [cc]
 cases i
 cases j
 simp
section
variable{X:Cx}{a b c:Expr}{ta tb tc:TE}{pos:Pos}
theorem jw{Q:VK}{k k':Bool}(I:Inv X pins σ H s)(q:Q (.bl k) H)(e:k=k'):EP X pins σ Q (.bool k') s:=by
 subst e
 exact⟨.bl k,H,I,rfl,q⟩
theorem a5e:OpR X (bG .Eq) rEq:=by
 (first|refine⟨?_⟩|skip);intro pins s σ H x y v u Q I rx ry h
 obtain⟨hs,q⟩:=h
 cases x with
 |non=>
  cases rx
  cases y with
  |non=> cases ry;exact PySem.EqNone.eq_none_none (jw I q (by simp))
  |bl j=> cases ry;exact PySem.EqNone.eq_none_bool (jw I q (by simp))
  |int j=> obtain⟨t',rfl⟩:=ry;exact PySem.EqNone.eq_none_int (jw I q (by simp))
  |str j=> obtain⟨t',rfl⟩:=ry;exact PySem.EqNone.eq_none_str (jw I q (by simp))
  |_=> exact absurd (show false=true from hs) ax
 |bl i=>
  cases rx
  cases y with
  |non=> cases ry;exact PySem.EqNone.eq_bool_none (jw I q (by simp))
  |bl j=> cases ry;exact eq_bool (jw I q aqx)
  |str j=> obtain⟨t',rfl⟩:=ry;exact PySem.EqMixed.eq_bool_str (jw I q (by simp))
  |_=> exact absurd (show false=true from hs) ax
 |int i=>
  obtain⟨t,rfl⟩:=rx
  cases y with
  |non=> cases ry;exact PySem.EqNone.eq_int_none (jw I q (by simp))
  |int j=> obtain⟨t',rfl⟩:=ry;exact eq_int (jw I q ant)
  |str j=> obtain⟨t',rfl⟩:=ry;exact PySem.EqMixed.eq_int_str (jw I q (by simp))
  |_=> exact absurd (show false=true from hs) ax
 |str i=>
  obtain⟨t,rfl⟩:=rx
  cases y with
  |non=> cases ry;exact PySem.EqNone.eq_str_none (jw I q (by simp))
  |bl j=> cases ry;exact PySem.EqMixed.eq_str_bool (jw I q (by simp))
  |int j=> obtain⟨t',rfl⟩:=ry;exact PySem.EqMixed.eq_str_int (jw I q (by simp))
  |str j=> obtain⟨t',rfl⟩:=ry;exact eq_str (jw I q anv)
  |_=> exact absurd (show false=true from hs) ax
 |byt i=>
  obtain⟨t,rfl⟩:=rx
  cases y with
  |byt j=> obtain⟨t',rfl⟩:=ry;exact PySem.W.eq_bytes (jw I q aoc)
  |_=> exact absurd (show false=true from hs) ax
 |_=> cases y <;> exact absurd (show false=true from hs) ax
theorem a46:OpR X (bG .NotEq) rNe:=by
 (first|refine⟨?_⟩|skip);intro pins s σ H x y v u Q I rx ry h
 obtain⟨hs,q⟩:=h
 cases x with
 |non=>
  cases rx
  cases y with
  |non=> cases ry;exact PySem.EqNone.ne_none_none (jw I q (by simp))
  |bl j=> cases ry;exact PySem.EqNone.ne_none_bool (jw I q (by simp))
  |int j=> obtain⟨t',rfl⟩:=ry;exact PySem.EqNone.ne_none_int (jw I q (by simp))
  |str j=> obtain⟨t',rfl⟩:=ry;exact PySem.EqNone.ne_none_str (jw I q (by simp))
  |_=> exact absurd (show false=true from hs) ax
 |bl i=>
  cases rx
  cases y with
  |non=> cases ry;exact PySem.EqNone.ne_bool_none (jw I q (by simp))
  |bl j=> cases ry;exact ne_bool (jw I q (congrArg not aqx))
  |str j=> obtain⟨t',rfl⟩:=ry;exact PySem.EqMixed.ne_bool_str (jw I q (by simp))
  |_=> exact absurd (show false=true from hs) ax
 |int i=>
  obtain⟨t,rfl⟩:=rx
  cases y with
  |non=> cases ry;exact PySem.EqNone.ne_int_none (jw I q (by simp))
  |int j=> obtain⟨t',rfl⟩:=ry;exact ne_int (jw I q (congrArg not ant))
  |str j=> obtain⟨t',rfl⟩:=ry;exact PySem.EqMixed.ne_int_str (jw I q (by simp))
  |_=> exact absurd (show false=true from hs) ax
 |str i=>
  obtain⟨t,rfl⟩:=rx
  cases y with
  |non=> cases ry;exact PySem.EqNone.ne_str_none (jw I q (by simp))
  |bl j=> cases ry;exact PySem.EqMixed.ne_str_bool (jw I q (by simp))
  |int j=> obtain⟨t',rfl⟩:=ry;exact PySem.EqMixed.ne_str_int (jw I q (by simp))
  |str j=> obtain⟨t',rfl⟩:=ry;exact ne_str (jw I q (congrArg not anv))
  |_=> exact absurd (show false=true from hs) ax
 |byt i=>
  obtain⟨t,rfl⟩:=rx
  cases y with
  |byt j=> obtain⟨t',rfl⟩:=ry;exact PySem.W.ne_bytes (jw I q (congrArg not aoc))
  |_=> exact absurd (show false=true from hs) ax
 |_=> cases y <;> exact absurd (show false=true from hs) ax
theorem a59:OpR X (bG .Lt) (rI0 fun i j=>.bl (decide (i < j))):=avu fun _ _ _ _ _ _ _ q=> lt_int q
theorem a4f:OpR X (bG .Gt) (rI0 fun i j=>.bl (decide (j < i))):=avu fun _ _ _ _ _ _ _ q=> gt_int q
theorem a4m:OpR X (bG .GtE) (rI0 fun i j=>.bl (decide (j <=i))):=avu fun _ _ _ _ _ _ _ q=> ge_int q
theorem ari:OpR X (bG .Lt) (fun x y H Q=> ∃i j,x=.str i/\y=.str j/\Q (.bl (decide (i.cps.toList < j.cps.toList))) H):=by
 (first|refine⟨?_⟩|skip);intro pins s σ H x y v u Q I rx ry h
 obtain⟨i,j,rfl,rfl,q⟩:=h
 obtain⟨t,rfl⟩:=rx
 obtain⟨t',rfl⟩:=ry
 exact lt_str (jw I q rfl)
theorem asn:OpR X (bG .In) (fun x y H Q=> ∃i j,x=.str i/\y=.str j/\Q (.bl (!(gD j i 0 j.length 1).isEmpty)) H):=by
 (first|refine⟨?_⟩|skip);intro pins s σ H x y v u Q I rx ry h
 obtain⟨i,j,rfl,rfl,q⟩:=h
 obtain⟨t,rfl⟩:=rx
 obtain⟨t',rfl⟩:=ry
 exact in_str (jw I q rfl)
theorem a2p:OpR X (bG .Is) (fun x y H Q=> y=.non/\Q (.bl (decide (x=.non))) H):=by
 (first|refine⟨?_⟩|skip);intro pins s σ H x y v u Q I rx ry h
 obtain⟨rfl,q⟩:=h
 cases ry
 refine is_none_gen (jw I q ?_)
 cases x <;> first
  |(cases rx;rfl)
  |(obtain⟨t,rfl⟩:=rx;rfl)
theorem amb:OpR X (bG .NotIn) (fun x y H Q=> ∃i j,x=.str i/\y=.str j/\Q (.bl (!(!(gD j i 0 j.length 1).isEmpty))) H):=by
 (first|refine⟨?_⟩|skip);intro pins s σ H x y v u Q I rx ry h
 obtain⟨i,j,rfl,rfl,q⟩:=h
 obtain⟨t,rfl⟩:=rx
 obtain⟨t',rfl⟩:=ry
 exact notIn_str (jw I q rfl)
theorem asz(b:Expr)(h:op≠ .In:=by decide)(h2:op≠ .NotIn:=by decide):fS op b=false:=by
 have e1:(op==CmpOp.In)=false:=by cases op <;> first|rfl|exact absurd rfl h
 have e2:(op==CmpOp.NotIn)=false:=by cases op <;> first|rfl|exact absurd rfl h2
 cases b <;> simp [fS,e1,e2]
theorem a05{r:R2}(ho:OpR X (bG op) r)(ha:PE X a ta)(hb:PE X b tb)(hm:fS op b=false):PE X (.Compare a [op] [b] pos) (tOp r ta tb):=by
 (first|refine⟨?_⟩|skip);intro pins s σ H Q I h
 exact wpAny_Compare1 (av3 ha hb I h fun v u s2 x y H2 I2 rx ry q=> ho pins s2 σ H2 x y v u Q I2 rx ry q) hm
noncomputable def awu(t:TE):TT:=fun σ H Q=> t σ H fun x H'=> ∃k,x=.bl k/\Q k H'
theorem aza{r:R2}(ho:OpR X (bG op) r)(ha:PE X a ta)(hb:PE X b tb)(hm:fS op b=false):PT X (.Compare a [op] [b] pos) (awu (tOp r ta tb)):=by
 (first|refine⟨?_⟩|skip);intro pins s σ H Q I h
 refine wpAny_isTrue_Compare1 (thn (ha pins s σ H _ I h) fun v s1 ⟨x,H1,I1,r1,q1⟩=> thn (hb pins s1 σ H1 _ I1 q1) fun u s2 ⟨y,H2,I2,r2,q2⟩=>
  thn (ho pins s2 σ H2 x y v u _ I2 r1 r2 q2) fun c s3 ⟨z,H3,I3,r3,k,e,q3⟩=> ?_) hm
 subst e
 cases r3
 exact jE ⟨H3,I3,q3⟩
def a2i(K:aj)(x:V)(H:Hp)(k:Bool):Prop:=
 match x with
 |.non=> k=false
 |.bl b=> k=b
 |.int i=> k=(i !=0)
 |.str y=> y.length <=sizeLine/\k=((y.length:Int) !=0)
 |.byt y=> y.size <=sizeLine/\k=((y.size:Int) !=0)
 |.ref p=> (∃xs,SqL K H p xs/\k= !xs.isEmpty)\/(∃xs,SqT K H p xs/\k= !xs.isEmpty)\/ ∃kvs,H p=some (.dK kvs)/\k= !kvs.isEmpty
 |_=> False
theorem aqc{κ:Type}{kvs:List (κ×V)}{vs:List (κ×ae)}(r:KV kvs vs):(!vs.isEmpty)= !kvs.isEmpty:=by
 cases r <;> rfl
theorem aia(r:jj xs its):(!its.toArray.isEmpty)= !xs.isEmpty:=by
 cases r <;> simp
theorem acj:(sizeLine:Nat) < 2^63:=by rw [b6];decide
theorem a3m:a5n X (fun x H Q=> ∃k,a2i X.K x H k/\Q k H):=by
 (first|refine⟨?_⟩|skip);intro pins s σ H x v Q I rx h
 obtain⟨k,e,q⟩:=h
 have hl:=acj
 have hs:sizeLine=16777216:=b6
 cases x with
 |non=>
  cases rx
  have e':k=false:=e
  subst e'
  exact truthy_none ⟨H,I,q⟩
 |bl b=>
  cases rx
  have e':k=b:=e
  subst e'
  exact jE ⟨H,I,q⟩
 |int i=>
  obtain⟨t,rfl⟩:=rx
  have e':k=(i !=0):=e
  subst e'
  exact PySem.P.truthy_int ⟨H,I,q⟩
 |str y=>
  obtain⟨t,rfl⟩:=rx
  obtain⟨hy,e'⟩:y.length <=sizeLine/\k=((y.length:Int) !=0):=e
  subst e'
  exact PySem.P.truthy_str (by lia) ⟨H,I.tok _,q⟩
 |byt y=>
  obtain⟨t,rfl⟩:=rx
  obtain⟨hy,e'⟩:y.size <=sizeLine/\k=((y.size:Int) !=0):=e
  subst e'
  exact PySem.W.truthy_bytes (by lia) ⟨H,I.tok _,q⟩
 | ref p=>
  cases rx
  have e':(∃xs,SqL X.K H p xs/\k= !xs.isEmpty)\/(∃xs,SqT X.K H p xs/\k= !xs.isEmpty)\/ ∃kvs,H p=some (.dK kvs)/\k= !kvs.isEmpty:=e
  rcases e' with ⟨xs,hx,e'⟩|⟨xs,hx,e'⟩|⟨kvs,hx,e'⟩
  ·subst e'
   obtain⟨its,r,pl,hz⟩:=I.list hx
   have hlen:=r.length
   exact wpAny_truthy_list pl.isList (by simp only [aC];lia) ⟨H,I.tok _,by rw [aia r];exact q⟩
  ·subst e'
   obtain⟨its,r,pl,hz⟩:=I.tuple hx
   have hlen:=r.length
   exact truthy_tuple pl (by simp only [aC];lia) ⟨H,I.tok _,by rw [aia r];exact q⟩
  ·subst e'
   obtain⟨hz,hS,vs,r,m⟩:kvs.length <=sizeLine/\(p==bI)=false/\ ∃vs,KV kvs vs/\s.heap.DictOf (ko X.prog X.w) p vs:=(show jx X.prog X.w H s.heap p (.dK kvs) from I.hok p _ hx).2
   have hlen:kvs.length=vs.length:=dH r
   exact wpAny_truthy_dict hS m (by lia) ⟨H,I.tok _,by rw [aqc r];exact q⟩
 |_=> exact (show False from e).elim
theorem av5(ha:PE X a ta)(he: ∀whole,isTrue a X.env whole=(do let v←whole;standAt a.pos;holding [v] (truthy v))):
  PT X a (fun σ H Q=> ta σ H fun x H'=> ∃k,a2i X.K x H' k/\Q k H'):=by
 (first|refine⟨?_⟩|skip);intro pins s σ H Q I h
 exact isTrue_plain (thn (ha pins s σ H _ I h) fun v s1 ⟨x,H1,I1,r1,q1⟩=> a3m pins s1 σ H1 x v Q I1 r1 q1) (he _)
theorem apt:OpR X (binaryOp .Add) (fun x y H Q=> ∃i j,x=.str i/\y=.str j/\i.length+j.length <=sizeLine/\Q (.str (i++j)) H):=by
 (first|refine⟨?_⟩|skip);intro pins s σ H x y v u Q I rx ry h
 obtain⟨i,j,rfl,rfl,hz,q⟩:=h
 obtain⟨t,rfl⟩:=rx
 obtain⟨t',rfl⟩:=ry
 exact add_str (fun t' tk=> ⟨.str (i++j),H,I.tok _,⟨_,rfl⟩,q⟩) hz
theorem vals1{x:V}(r:jj [x] us): ∃u,us=[u]/\RelV x u:=by
 cases r with
 |cons r1 r2=> cases r2;exact⟨_,rfl,r1⟩
theorem vals2{x:V}(r:jj [x,y] us): ∃u w',us=[u,w']/\RelV x u/\RelV y w':=by
 cases r with
 |cons r1 r2=>
  cases r2 with
  |cons r3 r4=> cases r4;exact⟨_,_,rfl,r1,r3⟩
end
structure ObjM (h:Heap) (x dx C:Addr) (mA:Str -> Option ae):Prop where
 obj:h.get? x=some (dh C dx)
 ns:h.Ns1 dx mA
 ne:dx≠x
theorem ard{dx:Addr}(n:h.Ns1 dx mA): ∃od,h.get? dx=some od/\ ∀name,iA name od=some (mA name):=by
 obtain⟨o,es,ep,ho,hd,hk,_,hm⟩:=n
 refine⟨o,ho,fun name=> ?_⟩
 have e:=hm name
 unfold nsFind findBy at e
 rw [←Array.find?_toList]at e
 unfold iA
 rw [hd]
 dsimp only
 split
 ·rename_i y q
  rw [q]at e
  exact congrArg some e
 ·rename_i q
  rw [q]at e
  have a:es.toList.any (·.refKey)=false:=by
   rw [jF]
   intro y hy
   obtain⟨z,t,hkey⟩:=hk y (di.mp hy)
   simp [DictEntry.refKey,hkey]
  have a': ¬es.toList.any (·.refKey)=true:=by rw [a];exact ax
  rw [if_neg a']
  exact congrArg some e
theorem ObjM.look{x dx:Addr}(I:ObjM h x dx C mA): ∃od,PySem.W.InstAt h x (dh C dx) C (some od)/\ ∀name,iA name od=some (mA name):=
 let ⟨od,ho,hl⟩:=ard I.ns
 ⟨od,⟨I.obj,rfl,rfl,ho⟩,hl⟩
section
variable{prog:aI}{w:aM}{A:aZ}{E:ae -> ag -> Prop}{s:ag}{K:aj}{x dx C f:Addr}{mA:Str -> Option ae}{name:Str}{v:ae}
theorem azu{expr:Bool}(X:K.In s.heap)(I:ObjM s.heap x dx C mA)(hg:eO K C name=true)(hh:fx K C=true)(ha:bM K (.ref C) name=some none)(hv:mA name=some v)(hv':PySem.W.handedIn v=true)(h:Q v {s with toks:=s.toks+1}):
  wpAny (model prog w) A (getAttr (.ref x) name expr) Q E s:=by
 obtain⟨od,J,hl⟩:=I.look
 exact PySem.W.get_value X J (iu hg).1 (PySem.W.findObj_own hh ha rfl (by rw [hl,hv])) hv' h
theorem atx{pl:Sem Bool}{Q:ae×List ae -> ag -> Prop}(X:K.In s.heap)(I:ObjM s.heap x dx C mA)(hg:eO K C name=true)
  (hf:bM K (.ref C) name=some (some (.ref f))) (ht:ib K (.ref f)=true) (hv:mA name=none) (h:Q (.ref f,[.ref x]) s):
  wpAny (model prog w) A (ni (.ref x) name pl) Q E s:=by
 obtain⟨od,J,hl⟩:=I.look
 exact PySem.W.method_fn X J (iu hg).1 (iu hg).2 hf (beq_iff_eq.mp ht) (by show (iA name od).map (·.isSome)=some false;rw [hl,hv];rfl) h
theorem a0f{ns:List Str}{Q:Unit -> ag -> Prop}(X:K.In s.heap)(I:ObjM s.heap x dx C mA)
  (hs:bM K (.ref C) "__setattr__"=some (some (.builtin "object.__setattr__"))) (hp:gJ K C=true) (ht:kQ K C name=some none) (hh:fx K C=true)
  (hw:gc mA ns) (hsz:ns.length <=sizeLine)
  (h: ∀h',ObjM h' x dx C (fun y=> if y=name then some v else mA y) -> bi dx s.heap h' -> Q () {s with heap:=h',toks:=s.toks+2}):
  wpAny (model prog w) A (setAttr (.ref x) name v) Q E s:=by
 obtain⟨od,J,hl⟩:=I.look
 refine PySem.W.set_plain X J hs (PySem.W.osa_open (s:={s with toks:=s.toks+1}) (r:=none) X J hp ht fun b=> ?_)
 obtain⟨cd,hc,hd'⟩:=PySem.W.any_some hh
 have hx:s.heap.get? x=some ⟨.ref C,some dx,.plain,#[]⟩:=I.obj
 refine aa (af (aa (aa (wpAny_loadPart hx (aa (PySem.W.Looks.here (s:={s with toks:=s.toks+1}) (PySem.W.looks_clsIn X hc) ?_))))))
 rw [hd']
 refine af (a:=some dx) (aa (af (aa ?_)))
 refine wpAny_nsSet1 (s:={s with toks:=s.toks+1}) I.ns fun h' hn2 hs2=> ?_
 obtain⟨oD,esD,epD,hoD,hdD,hcD⟩:=hn2.count (gc.cons name v hw)
 refine aa (wpAny_lookBehind hoD (by rw [hdD];exact pastItsLine_dict (bb hcD (by rw [az];lia))) ?_)
 exact af (h _ ⟨(hs2.2 _ (bY I.ne)).trans I.obj,hn2,I.ne⟩ hs2)
theorem awn{R:gh -> ag -> Prop}{kw:List (Str×ae)}(X:K.In s.heap)(hm:kR K C=true)(hi:bM K (.ref C) "__init__"=some (some (.ref f)))(hf:PySem.W.typeIn K (.ref f)=some (.type "function"))(h:codeAny (model prog w) (A.under (.builtin "type.__call__" ⟨.ref C::vs,kw⟩)) (.call (.ref f) ⟨.ref (s.heap.objs.size+1)::vs,kw⟩) (PySem.W.InitBack (s.heap.objs.size+1) R)
   {s with heap:=(s.heap.push cB).push (dh C s.heap.objs.size)}):
  codeAny (model prog w) A (.call (.ref C) ⟨vs,kw⟩) R s:=by
 obtain⟨hh,g,d,t,os⟩:=s
 exact PySem.W.make_core (PySem.W.makes_of X hm) (PySem.W.looks_findIn X hi) (fun self=> PySem.W.bind_fn X self hf) (.inl rfl) h
end
noncomputable def xb(f:Str)(v:V):List (Str×V) -> List (Str×V)
 |[]=> [(f,v)]
 |(g,x)::r=> if g=f then (g,v)::r else (g,x)::xb f v r
theorem agd(f g:Str)(v:V): ∀fs:List (Str×V),(xb f v fs).lookup g=if g=f then some v else fs.lookup g
 | []=> by
  show eF g [(f,v)]=_
  by_cases h:g=f
  ·have hb:(g==f)=true:=beq_iff_eq.mpr h
   simp only [eF,hb,if_pos h]
  ·have hb:(g==f)=false:=beq_eq_false_iff_ne.mpr h
   simp only [eF,hb,if_neg h]
 | (k,x)::r=> by
  have ih:=agd f g v r
  rw [show xb f v ((k,x)::r)=(if k=f then (k,v)::r else (k,x)::xb f v r) from rfl]
  by_cases hk:k=f
  ·rw [if_pos hk]
   by_cases h:g=k
   ·have hb:(g==k)=true:=beq_iff_eq.mpr h
    simp only [eF,hb,if_pos (h.trans hk)]
   ·have hb:(g==k)=false:=beq_eq_false_iff_ne.mpr h
    simp only [eF,hb,if_neg (fun e:g=f=> h (e.trans hk.symm))]
  ·rw [if_neg hk]
   by_cases h:g=k
   ·have hb:(g==k)=true:=beq_iff_eq.mpr h
    simp only [eF,hb,if_neg (fun e:g=f=> hk (h.symm.trans e))]
   ·have hb:(g==k)=false:=beq_eq_false_iff_ne.mpr h
    simp only [eF,hb]
    exact ih
theorem afe(f:Str)(v:V): ∀fs:List (Str×V),f∈(xb f v fs).map (·.1)/\ ∀g,g∈fs.map (·.1) -> g∈(xb f v fs).map (·.1)
 |[]=> ⟨by simp [xb],fun g h=> by simp at h⟩
 | (k,x)::r=> by
  obtain⟨i1,i2⟩:=afe f v r
  rw [show xb f v ((k,x)::r)=(if k=f then (k,v)::r else (k,x)::xb f v r) from rfl]
  by_cases hk:k=f
  ·rw [if_pos hk]
   subst hk
   exact⟨by simp,fun g h=> by simpa using h⟩
  ·rw [if_neg hk]
   refine⟨?_,fun g h=> ?_⟩
   ·rw [aN]
    exact aw _ i1
   ·rw [aN]at h⊢
    rcases aE.mp h with e|e
    ·exact aE.mpr (.inl e)
    ·exact aw _ (i2 g e)
theorem ag7(f:Str)(v:V): ∀fs:List (Str×V),(xb f v fs).length <=fs.length+1
 |[]=> by simp [xb]
 |(k,x)::r=> by
  have ih:=ag7 f v r
  rw [show xb f v ((k,x)::r)=(if k=f then (k,v)::r else (k,x)::xb f v r) from rfl]
  by_cases hk:k=f
  ·rw [if_pos hk,az,az];lia
  ·rw [if_neg hk,az,az];lia
theorem xp.some_of{o:Option ae}(r:xp (some v) o): ∃u,o=some u/\RelV v u:=by
 cases o with
 |none=> exact (show False from r).elim
 |some u=> exact⟨u,rfl,r⟩
theorem xp.none_of{o:Option ae}(r:xp none o):o=none:=by
 cases o with
 |none=> rfl
 |some u=> exact (show False from r).elim
theorem ats(r:RelV v u):PySem.W.handedIn u=true:=by
 cases v with
 |non=> cases (show u=aV from r);rfl
 |bl b=> cases (show u=ia b from r);rfl
 |int i=> obtain⟨t,e⟩:=(show∃t,u=eE i t from r);cases e;rfl
 |str x=> obtain⟨t,e⟩:=(show∃t,u=g6 x t from r);cases e;rfl
 |byt b=> obtain⟨t,e⟩:=(show∃t,u=Value.bytes b t from r);cases e;rfl
 |flt b=> obtain⟨t,e⟩:=(show∃t,u=nJ b t from r);cases e;rfl
 |ref a=> cases (show u=bn a from r);rfl
 |ty n=> cases (show u=bu n from r);rfl
section
variable{P:aI}{w:aM}{H H':Hp}{h h':Heap}{a C dx:Addr}{fs fs':List (Str×V)}
theorem ins_get(hok:HOk P w H h)(e:H a=some (.ins C dx fs)): ∃mA,ObjM h a dx C mA/\(∀f,xp (fs.lookup f) (mA f))/\gc mA (fs.map (·.1))/\fs.length <=1000/\H dx=some (.own a):=by
 obtain⟨d,z,ne,ob,mA,n,r,q⟩:=(show jx P w H h a (.ins C dx fs) from hok a _ e)
 exact⟨mA,⟨ob,n,ne⟩,r,q,z,d⟩
end
structure Cls (K:aj) (C:Addr):Prop where
 pg:eO K C Str.empty=true
 hd:fx K C=true
 po:gJ K C=true
 sa:bM K (.ref C) "__setattr__"=some (some (.builtin "object.__setattr__"))
theorem Cls.get(c:Cls K C)(f:Str):eO K C f=true:=c.pg
def yc(K:aj)(C:Addr)(f:Str):Prop:=bM K (.ref C) f=some none
theorem yc.taker{f:Str}(n:yc K C f):kQ K C f=some none:=by
 unfold kQ
 rw [show bM K (.ref C) f=some none from n]
 rfl
structure Meth (K:aj) (C:Addr) (m:Str) (f:Addr):Prop where
 at_:bM K (.ref C) m=some (some (.ref f))
 fn:ib K (.ref f)=true
 kp:cz K (.ref f)=true
section
variable{X:Cx}{pins:List (Addr×Obj)}{σ:St}{H:Hp}{s:ag}{a C dx:Addr}{fs:List (Str×V)}{f:Str}{v:V}{A:aZ}{E:ae -> ag -> Prop}
theorem apn{b:Bool}(I:Inv X pins σ H s)(e:H a=some (.ins C dx fs))(c:Cls X.K C)(n:yc X.K C f)(l:fs.lookup f=some v)(h: ∀u s',Inv X pins σ H s' -> RelV v u -> Q u s'):wpAny (model X.prog X.w) A (getAttr (.ref a) f b) Q E s:=by
 obtain⟨mA,O,r,_,_,_⟩:=ins_get I.hok e
 obtain⟨u,hu,ru⟩:=xp.some_of (v:=v) (o:=mA f) (by rw [←l];exact r f)
 exact azu I.kIn O (c.get f) c.hd n hu (ats ru) (h u _ (I.tok _) ru)
theorem aqo{m:Str}{g:Addr}{pl:Sem Bool}{Q:ae×List ae -> ag -> Prop}(I:Inv X pins σ H s)(e:H a=some (.ins C dx fs))(c:Cls X.K C)(k:Meth X.K C m g)(l:fs.lookup m=none)
  (h:Q (.ref g,[.ref a]) s):wpAny (model X.prog X.w) A (ni (.ref a) m pl) Q E s:=by
 obtain⟨mA,O,r,_,_,_⟩:=ins_get I.hok e
 have hn:mA m=none:=xp.none_of (by rw [←l];exact r m)
 exact atx I.kIn O (c.get m) k.at_ k.fn hn h
theorem aqj{Q:Unit -> ag -> Prop}(I:Inv X pins σ H s)(e:H a=some (.ins C dx fs))(c:Cls X.K C)(n:yc X.K C f)(hl:fs.length < 1000)(ry:RelV y u)(h: ∀s',Inv X pins σ (upd H a (.ins C dx (xb f y fs))) s' -> Q () s'):wpAny (model X.prog X.w) A (setAttr (.ref a) f u) Q E s:=by
 obtain⟨mA,O,r,wi,_,ho⟩:=ins_get I.hok e
 have hz:(fs.map (·.1)).length <=sizeLine:=by rw [am,b6];lia
 refine a0f I.kIn O c.sa c.po n.taker c.hd wi hz fun h' O' sb=> h _ ?_
 have hd: ∃o,h'.get? dx=some o:=let ⟨o,_,_,e',_⟩:=O'.ns;⟨o,e'⟩
 refine I.write (x:=a) (e:=dx) (by rw [e];exact cD) (.inr ho) (fun b q hb z=> (sb.2 b hb).trans z) hd ?_
 refine⟨by rw [j7 O.ne];exact ho,?_,O.ne,O'.obj,_,O'.ns,fun g=> ?_,fun g hg=> ?_⟩
 ·have:=ag7 f y fs;lia
 ·show xp ((xb f y fs).lookup g) (if g=f then some u else mA g)
  rw [agd]
  by_cases q:g=f
  ·rw [if_pos q,if_pos q];exact ry
  ·rw [if_neg q,if_neg q];exact r g
 ·by_cases q:g=f
  ·rw [q];exact (afe f y fs).1
  ·refine (afe f y fs).2 g (wi g fun z=> hg ?_)
   show (if g=f then some u else mA g)=none
   rw [if_neg q];exact z
theorem Inv.made(I:Inv X pins σ H s):Inv X pins σ (upd (upd H s.heap.objs.size (.own (s.heap.objs.size+1))) (s.heap.objs.size+1) (.ins C s.heap.objs.size []))
  {s with heap:=(s.heap.push cB).push (dh C s.heap.objs.size)}:=by
 have e1:(s.heap.push cB).get? s.heap.objs.size=some cB:=aA s.heap rfl
 have e2:((s.heap.push cB).push (dh C s.heap.objs.size)).get? (s.heap.objs.size+1)=some (dh C s.heap.objs.size):=by
  have:=aA (s.heap.push cB) (o:=dh C s.heap.objs.size) rfl
  rwa [bA]at this
 have e3:(s.heap.push cB).Ns s.heap.objs.size (fun _=> none):=⟨cB,#[],_,e1,rfl,(fun e he=> absurd he (by simp)),fun _=> rfl⟩
 have I1:=I.laid (a:=s.heap.objs.size) (o:=.own (s.heap.objs.size+1)) (h':=s.heap.push cB) (t':=s.toks) (fun b u q=> ak _ q) (ao _) ⟨_,e1⟩
 refine I1.laid (a:=s.heap.objs.size+1) (o:=.ins C s.heap.objs.size []) (t':=s.toks) (fun b u q=> ak _ q) (dj (bA _ _)) ?_
 have ne:s.heap.objs.size≠s.heap.objs.size+1:=aH (dL _)
 refine⟨by rw [j7 ne,aa5],bP _,ne,e2,fun _=> none,(Heap.Ns1.of_empty e3).at fun o q=> ak _ q,fun _=> cD,fun y hy=> absurd rfl hy⟩
theorem azs{f:Str}(hb:dZ e f env (eval e env)=eval e env)(h:wpAny (model prog w) A (eval e env) (fun o s₁=> wpAny (model prog w) A (getAttr o f true) Q E s₁) E s):wpAny (model prog w) A (eval (.Attribute e f pos) env) Q E s:=
 Attribute_any_ h (by rw [arm_eval_Attribute,hb])
end
def a5t(K:aj)(ta:TE)(f:Str):TE:=fun σ H Q=> ta σ H fun x H1=> ∃a C dx fs v,x=.ref a/\H1 a=some (.ins C dx fs)/\Cls K C/\yc K C f/\fs.lookup f=some v/\Q v H1
def a6l(K:aj)(ta tv:TE)(f:Str):TS:=fun D σ H=> tv σ H fun y H1=> ta σ H1 fun x H2=> ∃a C dx fs,x=.ref a/\H2 a=some (.ins C dx fs)/\Cls K C/\yc K C f/\fs.length < 1000/\
 D.nx σ (upd H2 a (.ins C dx (xb f y fs)))
section
variable{X:Cx}{o e value:Expr}{f:Str}{pos pos' tpos:Pos}{ta tv:TE}
theorem a24(he:PE X e ta)(hb:dZ e f X.env (eval e X.env)=eval e X.env):PE X (.Attribute e f pos) (a5t X.K ta f):=by
 (first|refine⟨?_⟩|skip);intro pins s σ H Q I h
 refine azs hb (thn (he pins s σ H _ I h) fun u s1 ⟨x,H1,I1,rx,a,C,dx,fs,v,ex,ea,c,n,l,q⟩=> ?_)
 subst ex
 obtain rfl:u=bn a:=rx
 exact apn I1 ea c n l fun u' s2 I2 ru=> ⟨v,H1,I2,ru,q⟩
theorem a2v(ha:PE X o ta)(hv:PE X value tv)(hs:gg value (some (.Attribute o f pos')) pos.line X.env=pure false):PS X (.Assign [.Attribute o f pos'] value pos) (a6l X.K ta tv f):=by
 (first|refine⟨?_⟩|skip);intro pins s σ H D I h
 refine plainObj_wpAny_Assign_Attribute (thn (hv pins s σ H _ I h) fun u s1 ⟨y,H1,I1,ry,q⟩=> thn (ha pins s1 σ H1 _ I1 q) fun ov s2 ⟨x,H2,I2,rx,a,C,dx,fs,ex,ea,c,n,l,q2⟩=> ?_) hs
 subst ex
 obtain rfl:ov=bn a:=rx
 exact aqj I2 ea c n l ry fun s3 I3=> ⟨σ,_,I3,q2⟩
end
section
variable{X:Cx}{pins:List (Addr×Obj)}{σ:St}{H:Hp}{s:ag}{A:aZ}{E:ae -> ag -> Prop}{Q:ae -> ag -> Prop}{c:ae}{b:Bool}
inductive TyOf (K:aj) (H:Hp):V -> ae -> Prop where
 |non:TyOf K H .non (.type "NoneType")
 |bl (x:Bool):TyOf K H (.bl x) (.type "bool")
 |int (i:Int):TyOf K H (.int i) (.type "int")
 |str (x:Str):TyOf K H (.str x) (.type "str")
 |flt (x:UInt64):TyOf K H (.flt x) (.type "float")
 |lst {a:Addr} {xs:List V} (e:H a=some (.lst xs)):TyOf K H (.ref a) (.type "list")
 |frz {a:Addr} {o:Obj} {xs:List V} (e:H a=some (.frz o (.lst xs))):TyOf K H (.ref a) (.type "list")
 |tup {a:Addr} {xs:List V} (e:H a=some (.tup xs)):TyOf K H (.ref a) (.type "tuple")
 |dK {a:Addr} {kvs:List (Key×V)} (e:H a=some (.dK kvs)):TyOf K H (.ref a) (.type "dict")
 |dT {a:Addr} {kvs:List (List Key×V)} (e:H a=some (.dT kvs)):TyOf K H (.ref a) (.type "dict")
 | ins {a C dx:Addr} {fs:List (Str×V)} (e:H a=some (.ins C dx fs)) (cl:Cls K C) (ha:bM K (.ref C) "__class__"=some (some (.builtin "object.__class__")))
   (hn:PySem.W.specialIn K (.builtin "object.__class__") "__get__"=some (some (.builtin "getset_descriptor.__get__"))) (htk:PySem.W.takesIn K (.builtin "object.__class__")=some true)
   (hm:PySem.W.mroIn K C (.type "object")=some true):TyOf K H (.ref a) (.ref C)
theorem ak7{x:V}{t:ae}(I:Inv X pins σ H s)(rx:RelV x u)(ty:TyOf X.K H x t)(e:PySem.W.kitOne X.K t c=some b)(h: ∀tk,Q (.bool b) {s with toks:=tk}):
  wpAny (model X.prog X.w) A (call (.builtin "isinstance") [u,c]) Q E s:=by
 cases ty with
 |non=> cases (show u=aV from rx);exact cv PySem.W.kitx_none I.kIn cD e (fun z=> nomatch z) h
 |bl y=> cases (show u=ia y from rx);exact cv PySem.W.kitx_bool I.kIn cD e (fun z=> nomatch z) h
 |int i=> obtain⟨t,q⟩:=(show∃t,u=eE i t from rx);cases q;exact cv PySem.W.kitx_int I.kIn cD e (fun z=> nomatch z) h
 |str y=> obtain⟨t,q⟩:=(show∃t,u=g6 y t from rx);cases q;exact cv PySem.W.kitx_str I.kIn cD e (fun z=> nomatch z) h
 |flt y=> obtain⟨t,q⟩:=(show∃t,u=nJ y t from rx);cases q;exact cv PySem.W.kitx_float I.kIn cD e (fun z=> nomatch z) h
 | @lst a xs ea=>
  cases (show u=bn a from rx)
  obtain⟨_,_,n,_,h1⟩:=(show jx X.prog X.w H s.heap a (.lst xs) from I.hok a _ ea)
  exact cv PySem.W.kitx_list I.kIn ⟨_,h1,rfl⟩ e (fun z=> nomatch z) h
 | @frz a ob xs ea=>
  cases (show u=bn a from rx)
  obtain⟨_,_,_,n,_,h1⟩:=(show jx X.prog X.w H s.heap a (.frz ob (.lst xs)) from I.hok a _ ea)
  exact cv PySem.W.kitx_list I.kIn ⟨_,h1,rfl⟩ e (fun z=> nomatch z) h
 | @tup a xs ea=>
  cases (show u=bn a from rx)
  obtain⟨_,_,_,p⟩:=(show jx X.prog X.w H s.heap a (.tup xs) from I.hok a _ ea)
  obtain⟨o,h1,h2,_⟩:=p.tup
  exact cv PySem.W.kitx_tuple I.kIn ⟨o,h1,h2⟩ e (fun z=> nomatch z) h
 | @dK a kvs ea=>
  cases (show u=bn a from rx)
  obtain⟨_,_,_,vs,_,p⟩:=(show jx X.prog X.w H s.heap a (.dK kvs) from I.hok a _ ea)
  obtain⟨o,es,ep,h1,h2,_⟩:=p
  exact cv PySem.W.kitx_dict I.kIn ⟨o,h1,h2.1⟩ e (fun z=> nomatch z) h
 | @dT a kvs ea=>
  cases (show u=bn a from rx)
  obtain⟨_,_,xs,_,o,es,ep,h1,h2,_⟩:=(show jx X.prog X.w H s.heap a (.dT kvs) from I.hok a _ ea)
  exact cv PySem.W.kitx_dict I.kIn ⟨o,h1,h2.1⟩ e (fun z=> nomatch z) h
 | @ins a C dx fs ea cl ha hn htk hm=>
  cases (show u=bn a from rx)
  obtain⟨mA,O,_⟩:=ins_get I.hok ea
  obtain⟨od,J,_⟩:=O.look
  exact cv (PySem.W.kitx_own (cl.get _) cl.hd ha hn htk hm) I.kIn J e (fun z=> nomatch z) h
end
structure Room (k:Nat) (A:aZ):Prop where
 hd:A.handled=none
 dp:A.depth+3*k+5 < recursionLimit
 un:A.units+16*k+200 < cLine
 gd:A.guards=some []
theorem Room.mono{k:Nat}(r:Room k A)(h:j <=k):Room j A:=⟨r.hd,by have:=r.dp;lia,by have:=r.un;lia,r.gd⟩
theorem Room.deeper{k:Nat}(r:Room (k+1) A)(env:Env):Room k (A.deeper env):=
 ⟨r.hd,by have:=r.dp;show A.depth+1+3*k+5 < _;lia,by have:=r.un;show A.units+3+16*k+200 < _;lia,r.gd⟩
theorem apx{kw:List (Str×ae)}:(A.under (.builtin "type.__call__" ⟨.ref C::us,kw⟩)).depth=A.depth+1:=by
 first|rfl|simp [jU,Code.weight,Code.isCreation,Code.isGuard,Code.isCaller,Code.frames,nj,guardIds]
theorem aqk{kw:List (Str×ae)}:(A.under (.builtin "type.__call__" ⟨.ref C::us,kw⟩)).units=A.units+1:=by
 first|rfl|simp [jU,Code.cUnits,Code.frames,nj]
theorem Room.make{k:Nat}(r:Room (k+1) A)(C:Addr)(us:List ae)(kw:List (Str×ae)):Room k (A.under (.builtin "type.__call__" ⟨.ref C::us,kw⟩)):=
 ⟨r.hd,by have:=r.dp;rw [apx];lia,by have:=r.un;rw [aqk];lia,by first|exact r.gd|(simpa [jU,Code.isGuard,guardIds] using r.gd)⟩
theorem Room.depth{k:Nat}(r:Room k A):A.depth < recursionLimit:=by have:=r.dp;lia
noncomputable def a5v:TA:=fun _ H Q=> Q [] H
noncomputable def a5b(ta:TE)(tr:TA):TA:=fun σ H Q=> ta σ H fun x H1=> tr σ H1 fun xs H2=> Q (x::xs) H2
section
variable{X:Cx}{e:Expr}{es:List Expr}{te:TE}{t:TA}{pos:Pos}
theorem ahw:PA X [] a5v:=.mk <|fun _ _ _ _ H Q I h=> Calls.spliced_nil ⟨[],H,I,.nil,h⟩
theorem afq(ha:PE X e te)(hr:PA X es t)(hs:starEach (e::es) X.env=(false,eval e X.env)::starEach es X.env:=by rfl):PA X (e::es) (a5b te t):=by
 (first|refine⟨?_⟩|skip);intro pos pins s σ H Q I h
 rw [hs]
 show wpAny _ _ (spliced ((false,eval e X.env)::backTo pos (starEach es X.env))) _ _ s
 refine Calls.spliced_cons (thn (ha pins s σ H _ I h) fun u s1 ⟨x,H1,I1,r1,q1⟩=> ?_)
 exact thn (hr pos pins s1 σ H1 _ I1 q1) fun us s2 ⟨xs,H2,I2,r2,q2⟩=> ⟨x::xs,H2,I2,.cons r1 r2,q2⟩
end
abbrev Sp:=List V -> Hp -> VK -> XK -> Prop
abbrev CXT:=List Env -> Hp -> ag -> XK -> ae -> ag -> Prop
structure Env0 (P:aI) (w:aM) (K:aj) (mg:Str -> Option ae) (base:Heap) (A:aZ) (outer:List Env) (s:ag) (H:Hp):Prop where
 frames:A.frames=some outer
 mod:Mod K mg base
 bs: ∀b o,base.get? b=some o -> s.heap.get? b=some o/\H b=none
 bsz:base.objs.size <=s.heap.objs.size
 funs:s.heap.FunFrames base outer
 frf: ∀b∈frs outer,H b=none
 hok:HOk P w H s.heap
 bare:gy s.gens
def CE(outer:List Env)(P:aI)(w:aM)(H:Hp)(s:ag)(Q:VK)(u:ae)(s':ag):Prop:=
 ∃v H',s'.os=s.os/\gy s'.gens/\Un (frs outer) [] H H' s.heap s'.heap/\HOk P w H' s'.heap/\RelV v u/\Q v H'
def CR(CX:CXT)(outer:List Env)(P:aI)(w:aM)(H:Hp)(s:ag)(Q:VK)(E:XK)(r:gh)(s':ag):Prop:=
 match r with
 |.ok (.ret u)=> CE outer P w H s Q u s'
 |.ok _=> False
 |.error e=> CX outer H s E e s'
structure FnOk (P:aI) (w:aM) (K:aj) (mg:Str -> Option ae) (base:Heap) (CX:CXT) (k:Nat) (f:Addr) (fd:dM) (ps:List Str) (sp:Sp):Prop where
 len: ∀vs H Q E,sp vs H Q E -> vs.length=ps.length
 run: ∀(A:aZ) (outer:List Env) (s:ag) (H:Hp) (args:Args) (us:List ae) (vs:List V) (Q:VK) (E:XK),Room k A -> Env0 P w K mg base A outer s H -> lG s fd args (ps.zip us) -> jj vs us -> sp vs H Q E ->
  codeAny (model P w) A (.call (.ref f) args) (CR CX outer P w H s Q E) s
theorem Env0.make{outer:List Env}(e:Env0 P w K mg base A outer s H)(C:Addr)(us:List ae)(kw:List (Str×ae)):
  Env0 P w K mg base (A.under (.builtin "type.__call__" ⟨.ref C::us,kw⟩)) outer s H:=⟨by first|exact e.frames|(simpa [jU,Code.envs,nj,pushEnvs] using e.frames),e.mod,e.bs,e.bsz,e.funs,e.frf,e.hok,e.bare⟩
section
variable{X:Cx}{pins:List (Addr×Obj)}{σ:St}{H:Hp}{s s':ag}
theorem Inv.env0(I:Inv X pins σ H s):Env0 X.prog X.w X.K X.mg X.base X.A X.stack s H:=
 ⟨I.ok.frames,I.ok.mod,I.bs,bb I.ok.bsz I.sz,I.stack,I.stkFree,I.hok,I.bare⟩
theorem Inv.after{Q:VK}(I:Inv X pins σ H s)(h:CE X.stack X.prog X.w H s Q u s'):EP X pins σ Q u s':=by
 obtain⟨v,H',os,bare,un,hok,r,q⟩:=h
 obtain⟨hh,g,d,t,os'⟩:=s'
 obtain rfl:os'=s.os:=os
 exact⟨v,H',I.call (h':=hh) (g':=g) (d':=d) (t':=t) (ch:=[]) un hok bare (fun b z=> absurd z (by simp)),r,q⟩
end
noncomputable def awv(sp:Sp)(dvs:List V)(E:SK)(t:TA):TE:=fun σ H Q=> t σ H fun vs H1=> sp (vs++dvs) H1 Q (E σ)
def awy(C:Addr)(sp:Sp)(dvs:List V)(E:SK)(t:TA):TE:=fun σ H Q=> t σ H fun vs H1=> ∀x dx,H1 x=none -> H1 dx=none -> dx≠x ->
 sp (.ref x::(vs++dvs)) (upd (upd H1 dx (.own x)) x (.ins C dx [])) (fun v H2=> v=.non/\Q (.ref x) H2) (E σ)
def Binds(K:aj)(fd:dM)(ps:List Str)(ds:List ae):Prop:=
 ∀(s:ag) (us:List ae),K.In s.heap -> (us++ds).length=ps.length -> lG s fd ⟨us,[]⟩ (ps.zip (us++ds))
theorem Binds.all(h: ∀us:List ae,us.length=ps.length -> bindArgs fd ⟨us,[]⟩=pure (ps.zip us)):Binds K fd ps []:=fun s us _ hl=> by
 rw [aP]at hl⊢
 exact .of_eq (h us hl)
def afg(CX:CXT)(X:Cx)(E:SK):Prop:= ∀(pins:List (Addr×Obj)) (σ:St) (H:Hp) (s:ag) (e:ae) (s':ag),Inv X pins σ H s -> CX X.stack H s (E σ) e s' -> X.xe e s'
section
variable{X:Cx}{CX:CXT}{k:Nat}{f C:Addr}{fd:dM}{ps:List Str}{sp:Sp}{dvs:List V}{ds:List ae}{E:SK}{x m:Str}{p pos apos:Pos}{e o:Expr}{es:List Expr}{ta:TE}{t:TA}
theorem ash{Q:VK}{vs:List V}(F:FnOk X.prog X.w X.K X.mg X.base CX k f fd ps sp)(hr:Room k X.A)(hb:Binds X.K fd ps ds)(hd:jj dvs ds)(hx:afg CX X E)(I:Inv X pins σ H s)(r:jj vs us)(h:sp (vs++dvs) H Q (E σ)):wpAny (model X.prog X.w) X.A (call (.ref f) us) (EP X pins σ Q) X.xe s:=by
 have r2:jj (vs++dvs) (us++ds):=r.append hd
 have hl:(us++ds).length=ps.length:=by rw [←r2.length];exact F.len _ _ _ _ h
 refine wpAny_call (dm (F.run X.A X.stack s H ⟨us,[]⟩ (us++ds) (vs++dvs) Q (E σ) hr I.env0 (hb s us I.kIn hl) r2 h) fun r s' hq=> ?_)
 cases r with
 |error e=> exact hx pins σ H s e s' I hq
 |ok fl=>
  cases fl with
  |ret u=> exact I.after hq
  |next=> exact dq hq
  |brk=> exact dq hq
  |cont=> exact dq hq
theorem azn(F:FnOk X.prog X.w X.K X.mg X.base CX k f fd ps sp)(hr:Room k X.A)(hg:Gl X x)(hm:X.mg x=some (.ref f))(hk:cz X.K (.ref f)=true)(hb:Binds X.K fd ps ds)(hd:jj dvs ds)(hx:afg CX X E)
  (ha:PA X (e::es) t) (hdb:(x==("__debug__":Str))=false:=by decide) (he:starEach (e::es) X.env=(false,eval e X.env)::starEach es X.env:=by rfl) (hpl:(backTo pos (starEach es X.env)).any (·.1)=false:=by rfl):
  PE X (.Call (.Name x p) (e::es) [] pos) (awv sp dvs E t):=by
 (first|refine⟨?_⟩|skip);intro pins s σ H Q I h
 refine gi (aid I hg hm ?_ hdb)
 refine iP (h₀:=X.base) I.ok.mod.kin hk (thn (ha pos pins s σ H _ I h) fun us s1 ⟨vs,H1,I1,r,q⟩=> ⟨I1.kIn,?_⟩) he hpl
 exact ash F hr hb hd hx I1 r q
structure Mk (K:aj) (C f:Addr):Prop where
 makes:kR K C=true
 init:bM K (.ref C) "__init__"=some (some (.ref f))
 fn:ib K (.ref f)=true
 kp:cz K (.ref C)=true
theorem avb{Q:VK}{vs:List V}(M:Mk X.K C f)(F:FnOk X.prog X.w X.K X.mg X.base CX k f fd ps sp)(hr:Room (k+1) X.A)(hb:Binds X.K fd ps ds)(hd:jj dvs ds)(hx:afg CX X E)(I:Inv X pins σ H s)(r:jj vs us)(h: ∀x dx,H x=none -> H dx=none -> dx≠x -> sp (.ref x::(vs++dvs)) (upd (upd H dx (.own x)) x (.ins C dx [])) (fun v H2=> v=.non/\Q (.ref x) H2) (E σ)):
  wpAny (model X.prog X.w) X.A (call (.ref C) us) (EP X pins σ Q) X.xe s:=by
 have hq:=h (s.heap.objs.size+1) s.heap.objs.size (I.hok.fresh (iM _)) (I.hok.fresh (ao _)) (aH (dL _))
 have I2:=Inv.made (C:=C) I
 have r2:jj (V.ref (s.heap.objs.size+1)::(vs++dvs)) (bn (s.heap.objs.size+1)::(us++ds)):=.cons rfl (r.append hd)
 have hl:(bn (s.heap.objs.size+1)::us++ds).length=ps.length:=by
  have e:=r2.length
  rw [F.len _ _ _ _ hq]at e
  exact e.symm
 refine wpAny_call (awn (f:=f) I.kIn M.makes M.init (beq_iff_eq.mp M.fn) (dm (F.run _ X.stack _ _ ⟨bn (s.heap.objs.size+1)::us,[]⟩ (bn (s.heap.objs.size+1)::(us++ds)) _ _ (E σ) (hr.make C us [])
  (I2.env0.make C us []) (hb _ (bn (s.heap.objs.size+1)::us) I2.kIn hl) r2 hq) fun r s' hq'=> ?_))
 cases r with
 |error e=> exact hx pins σ _ _ e s' I2 hq'
 | ok fl=>
  cases fl with
  |ret u=>
   obtain⟨v,H',I3,rv,ev,q3⟩:=I2.after hq'
   subst ev
   exact⟨rv,⟨V.ref (s.heap.objs.size+1),H',I3,rfl,q3⟩⟩
  |next=> exact dq hq'
  |brk=> exact dq hq'
  |cont=> exact dq hq'
theorem axu(M:Mk X.K C f)(F:FnOk X.prog X.w X.K X.mg X.base CX k f fd ps sp)(hr:Room (k+1) X.A)(hg:Gl X x)(hm:X.mg x=some (.ref C))(hb:Binds X.K fd ps ds)(hd:jj dvs ds)(hx:afg CX X E)
  (ha:PA X (e::es) t) (hdb:(x==("__debug__":Str))=false:=by decide) (he:starEach (e::es) X.env=(false,eval e X.env)::starEach es X.env:=by rfl) (hpl:(backTo pos (starEach es X.env)).any (·.1)=false:=by rfl):
  PE X (.Call (.Name x p) (e::es) [] pos) (awy C sp dvs E t):=by
 (first|refine⟨?_⟩|skip);intro pins s σ H Q I h
 refine gi (aid I hg hm ?_ hdb)
 refine iP (h₀:=X.base) I.ok.mod.kin M.kp (thn (ha pos pins s σ H _ I h) fun us s1 ⟨vs,H1,I1,r,q⟩=> ⟨I1.kIn,?_⟩) he hpl
 exact avb M F hr hb hd hx I1 r q
end
structure FnScope (N P:List Str) (sc:dS):Prop where
 kind:sc.kind=.function
 co:sc.isCoroutine=false
 gen:sc.isGenerator=false
 nd:N.Nodup
 pre:N.take P.length=P
 par: ∀x∈P,sc.names.lookup x=some .local\/sc.names.lookup x=some .cell
 nofree: ∀y∈sc.names,y.2≠ .free
theorem ak0{kindOf:Str -> Option fk}{x:Str}: ∀{binds:List (Str×ae)} {m:Str -> Option ae},(∀v,(x,v)∉binds) -> bindL kindOf binds m x=m x
 |[],_,_=> rfl
 | (n,v)::r,m,h=> by
  unfold bindL
  rw [ak0 fun w hw=> h w (aw _ hw)]
  split
  ·have:x≠n:=by rintro rfl;exact h v av
   simp [this]
  ·rfl
theorem ajg{kindOf:Str -> Option fk}{x:Str}: ∀{binds:List (Str×ae)} {m:Str -> Option ae},(∀v,(x,v)∉binds) -> bindC kindOf binds m x=m x
 |[],_,_=> rfl
 | (n,v)::r,m,h=> by
  unfold bindC
  rw [ajg fun w hw=> h w (aw _ hw)]
  split
  ·rfl
  ·have:x≠n:=by rintro rfl;exact h v av
   simp [this]
theorem ak8{kindOf:Str -> Option fk}{x:Str}{v:ae}: ∀{P:List Str} {vs:List ae} {i:Nat} {m:Str -> Option ae},P.Nodup -> P[i]?=some x -> vs[i]?=some v -> kindOf x=some .local ->
  bindL kindOf (P.zip vs) m x=some v
 |[],_,_,_,_,h,_,_=> by simp at h
 |_::_,[],_,_,_,_,h,_=> by simp at h
 |p::P,w::vs,0,m,nd,h1,h2,hk=> by
  simp at h1 h2;subst h1;subst h2
  show bindL kindOf ((p,w)::P.zip vs) m p=_
  unfold bindL
  rw [ak0 fun v hv=> (cE.mp nd).1 (kS hv).1,if_pos hk]
  simp
 |p::P,w::vs,i+1,m,nd,h1,h2,hk=> by
  show bindL kindOf ((p,w)::P.zip vs) m x=_
  unfold bindL
  exact ak8 (i:=i) (cE.mp nd).2 (by simpa using h1) (by simpa using h2) hk
theorem ajr{kindOf:Str -> Option fk}{x:Str}{v:ae}: ∀{P:List Str} {vs:List ae} {i:Nat} {m:Str -> Option ae},P.Nodup -> P[i]?=some x -> vs[i]?=some v -> kindOf x≠some .local ->
  bindC kindOf (P.zip vs) m x=some v
 |[],_,_,_,_,h,_,_=> by simp at h
 |_::_,[],_,_,_,_,h,_=> by simp at h
 |p::P,w::vs,0,m,nd,h1,h2,hk=> by
  simp at h1 h2;subst h1;subst h2
  show bindC kindOf ((p,w)::P.zip vs) m p=_
  unfold bindC
  rw [ajg fun v hv=> (cE.mp nd).1 (kS hv).1,if_neg hk]
  simp
 |p::P,w::vs,i+1,m,nd,h1,h2,hk=> by
  show bindC kindOf ((p,w)::P.zip vs) m x=_
  unfold bindC
  exact ajr (i:=i) (cE.mp nd).2 (by simpa using h1) (by simpa using h2) hk
noncomputable def start(N:List Str)(vs:List V):St:=vs.map some++bB (N.length - vs.length) none
noncomputable def aa4(CX:CXT)(P:aI)(w:aM)(K:aj)(mg:Str -> Option ae)(base:Heap)(N:List Str)(qual:Str)(scope:dS)(f:Addr)(cd:ae)(A:aZ)(outer:List Env)(s:ag)(H:Hp)(E:XK):Cx where
 prog:=P
 w:=w
 K:=K
 mg:=mg
 base:=base
 A:=A.deeper (envOfC qual scope s.heap.objs.size f cd)
 N:=N
 s₀:=s
 H₀:=H
 env:=envOfC qual scope s.heap.objs.size f cd
 outer:=outer
 stack:=envOfC qual scope s.heap.objs.size f cd::outer
 ex:=[]
 calm:=true
 fn:=fun _=> true
 pn:=[]
 xe:=fun e s'=> wpAny (model P w) (A.deeper (envOfC qual scope s.heap.objs.size f cd)) (leaving (envOfC qual scope s.heap.objs.size f cd) e) (fun _ s''=> CX outer H s E e s'') (fun e' s''=> CX outer H s E e' s'') s'
theorem am5{sc:dS}{x:Str}(h:sc.names.lookup x=some .cell): ∃c,(cellsFrom n sc.names []).lookup x=some c:=by
 have q:=lm sc.names n [] (.inl h)
 exact gj.mp q
theorem ass{CX:CXT}{cd:ae}{outer:List Env}{s1:ag}{E:XK}{vs:List V}(S:FnScope N ps scope)(hd:A.handled=none)(e0:Env0 P w K mg base A outer s H)(hl:vs.length=ps.length)(r:jj vs us)(x:InCallC s s.heap.objs.size (bindL (envOfC qual scope s.heap.objs.size f cd).kindOf (ps.zip us) fun _=> none) (cellsFrom (s.heap.objs.size+1) scope.names []) (bindC (envOfC qual scope s.heap.objs.size f cd).kindOf (ps.zip us) fun _=> none) s1):
  Inv (aa4 CX P w K mg base N qual scope f cd A outer s H E) [] (start N vs) H s1:=by
 have hpl:ps.length <=N.length:=by have:=congrArg dO S.pre;rw [bd]at this;lia
 obtain⟨h1,tk,rfl,hk⟩:=x.done
 have noA: ∀b:Addr,b∉(aa4 CX P w K mg base N qual scope f cd A outer s H E).ex:=fun b z=> absurd (show b∈([]:List Addr) from z) (by simp)
 refine⟨⟨e0.mod,S.kind,rfl,rfl,ao _,fun y z c h1 h2=> ?_,fun y hy=> ?_,fun y c _ h=> ?_,fun _=> hd,Around.frames_deeper e0.frames,.inr ⟨rfl,rfl⟩,fun b z=> absurd z (noA b),e0.bs,e0.bsz,fun b _ _=> noA b,fun b z=> absurd z (noA b),e0.funs,e0.frf⟩,
  rfl,e0.bare,Un.kept hk,⟨_,x.toInCall.ns,fun i y v h1 h2 h3=> ?_⟩,fun y c h=> ⟨_,x.cell y c h⟩,e0.hok.fresh (ao _),fun y c h=> ?_,fun p hp=> absurd (show p∈([]:List (Addr×Obj)) from hp) (by simp),e0.hok.kept hk,?_⟩
 ·exact name_of_addr x.apart (cW h1) (cW h2)
 ·have hy:scope.names.lookup y=some .cell\/scope.names.lookup y=some .free:=hy
  rcases hy with hy|hy
  ·exact am5 hy
  ·exact absurd rfl (S.nofree _ (cW hy))
 ·exact gf (x.above y c (cW h))
 ·have hi:i < vs.length:=by
   unfold start at h2
   by_cases hi:i < vs.length
   ·exact hi
   ·rw [aW (by simpa using hi)]at h2
    rw [dJ]at h2
    split at h2 <;> cases h2
  have ha:vs[i]?=some v:=by
   unfold start at h2
   rw [aJ (by simpa using hi),aR]at h2
   cases e:vs[i]? with
   |none=> rw [e]at h2;cases h2
   |some a=> rw [e]at h2;cases h2;rfl
  obtain⟨u,hu,rv⟩:=r.get ha
  have hp:ps[i]?=some y:=by
   rw [←S.pre,eP (by lia)];exact h1
  have ndP:ps.Nodup:=by rw [←S.pre];exact S.nd.sublist (jG _ _)
  refine⟨u,rv,?_⟩
  rcases S.par y (bp hp) with k|k
  ·exact .inl ⟨k,ak8 ndP hp hu k⟩
  ·obtain⟨c,e⟩:=am5 (n:=s.heap.objs.size+1) k
   refine .inr ⟨.inl k,c,e,?_⟩
   have q:=x.cell y c e
   rw [ajr ndP hp hu (by show scope.names.lookup y≠_;rw [k];decide)]at q
   exact q
 ·exact e0.hok.fresh (gf (x.above y c (cW h)))
 ·unfold start
  show _=N.length
  rw [aG,am,g8]
  lia
theorem a5c{CX:CXT}{k:Nat}{params:Arguments}{dV kV doc pm cdv ct oc:ae}{an od:Option Addr}{sp:Sp}(lk:K.lookup f=some ⟨oc,od,.func (cI name qual params body scope dV kV doc pm an cdv ct),osl⟩)(hcd:eI K cdv qual=true)(S:FnScope N ps scope)(len: ∀vs H Q E,sp vs H Q E -> vs.length=ps.length)(hbody: ∀(A:aZ) (outer:List Env) (s:ag) (H:Hp) (vs:List V) (Q:VK) (E:XK),Room k (A.deeper (envOfC qual scope s.heap.objs.size f cdv)) -> sp vs H Q E ->
   ∃t,PSs (aa4 CX P w K mg base N qual scope f cdv A outer s H E) body t/\t {nx:=fun _ H'=> Q .non H',rt:=Q} (start N vs) H):
  FnOk P w K mg base CX (k+1) f (cI name qual params body scope dV kV doc pm an cdv ct) ps sp:=by
 refine⟨len,fun A outer s H args us vs Q E hr e0 hb r hsp=> ?_⟩
 have hl:=len _ _ _ _ hsp
 have KX:K.In s.heap:=e0.mod.kin.keeps fun b o e=> (e0.bs b o e).1
 have lim:s.heap.NoLimit:=e0.mod.nolimit.keeps fun b o e=> (e0.bs b o e).1
 have hkind: ∀y∈ps.zip us,scope.names.lookup y.1=some .local\/(scope.names.lookup y.1=some .cell/\((cellsFrom (s.heap.objs.size+1) scope.names []).lookup y.1).isSome=true):=fun⟨n,v⟩ hy=> by
  rcases S.par n (kS hy).1 with q|q
  ·exact .inl q
  ·exact .inr ⟨q,lm _ _ _ (.inl q)⟩
 refine codeAny_call_function hr.depth (KX _ _ lk) rfl S.co S.gen rfl (PySem.W.codeRec_of KX hcd) (hb _ _ _ _ ?_)
 refine wpAny_newFunctionEnv_cells S.kind hkind fun env he s1 x=> ?_
 subst he
 refine⟨lim.keeps x.toInCall.keep,codeAny_func ?_⟩
 obtain⟨t,ht,hq⟩:=hbody A outer s H vs Q E (hr.deeper _) hsp
 have I:Inv (aa4 CX P w K mg base N qual scope f cdv A outer s H E) [] (start N vs) H s1:=ass S hr.hd e0 hl r x
 refine bw (ht [] s1 (start N vs) H _ I hq) (fun fl s' hs=> ?_) fun e s' hs=> hs
 have fin: ∀{σ':St} {H':Hp} {v:V} {u:ae},Inv (aa4 CX P w K mg base N qual scope f cdv A outer s H E) [] σ' H' s' -> RelV v u -> Q v H' -> CE outer P w H s Q u s':=
  fun {σ' H' v u} J rv q=> ⟨v,H',J.os,J.bare,J.base,J.hok,rv,q⟩
 cases fl with
 |ret u=>
  obtain⟨v,σ',H',J,rv,q⟩:=hs
  exact fin J rv q
 |next=>
  obtain⟨σ',H',J,q⟩:=hs
  exact fin (v:=V.non) (u:=aV) J rfl q
 |brk=>
  obtain⟨_,_,_,q⟩:=hs
  exact dq q
 |cont=>
  obtain⟨_,_,_,q⟩:=hs
  exact dq q
section
variable{X:Cx}{x:Str}{p pos:Pos}{e:Expr}{es:List Expr}{t:TA}{id T:String}{r:List V -> Hp -> VK -> Prop}
noncomputable def tCB(r:List V -> Hp -> VK -> Prop)(t:TA):TE:=fun σ H Q=> t σ H fun vs H1=> r vs H1 Q
theorem agz(hc:xv X (.builtin id) r)(hg:Gl X x)(hm:X.mg x=none)(hv:bT x=some (.builtin id))(ha:PA X (e::es) t)(hn:x≠"__name__":=by decide)(hdb:(x==("__debug__":Str))=false:=by decide)
  (he:starEach (e::es) X.env=(false,eval e X.env)::starEach es X.env:=by rfl) (hpl:(backTo pos (starEach es X.env)).any (·.1)=false:=by rfl):PE X (.Call (.Name x p) (e::es) [] pos) (tCB r t):=by
 (first|refine⟨?_⟩|skip);intro pins s σ H Q I h
 refine gi (afc I hg hm hv ?_ hn hdb)
 exact PyProof.Rows.callWith_builtin1 (thn (ha pos pins s σ H _ I h) fun us s1 ⟨vs,H1,I1,r1,q1⟩=> hc pins s1 σ H1 vs us Q I1 r1 q1) he hpl
theorem ak2(hc:xv X (.type T) r)(hg:Gl X x)(hm:X.mg x=none)(hv:bT x=some (.type T))(ha:PA X (e::es) t)(hn:x≠"__name__":=by decide)(hdb:(x==("__debug__":Str))=false:=by decide)
  (he:starEach (e::es) X.env=(false,eval e X.env)::starEach es X.env:=by rfl) (hpl:(backTo pos (starEach es X.env)).any (·.1)=false:=by rfl):PE X (.Call (.Name x p) (e::es) [] pos) (tCB r t):=by
 (first|refine⟨?_⟩|skip);intro pins s σ H Q I h
 refine gi (afc I hg hm hv ?_ hn hdb)
 exact fH (thn (ha pos pins s σ H _ I h) fun us s1 ⟨vs,H1,I1,r1,q1⟩=> hc pins s1 σ H1 vs us Q I1 r1 q1) he hpl
end
end L2
namespace HT
open PySem PyProof.Rows
theorem cat_tup{t:Addr}{ws:List ae}(ht:IsTup s.heap t vs.toArray)(hb:IsTup s.heap b ws.toArray)(hv:vs≠ [])(h1:ws=[] -> Q (.ref t) s)(h2:ws≠ [] -> Q (.ref s.heap.objs.size) {s with heap:=s.heap.push {cls:=.type "tuple",data:=.seq (vs++ws).toArray}})(hsz:vs.length+ws.length <=sizeLine):wpAny (model prog w) A (binaryOp .Add (.ref t) (.ref b)) Q E s:=by
 obtain⟨⟨cls,dd,data,sl⟩,ho,hc,n,hd⟩:=id ht
 obtain⟨⟨cls2,dd2,data2,sl2⟩,ho2,hc2,n2,hd2⟩:=id hb
 simp only at hc hd hc2 hd2
 subst hc hd hc2 hd2
 have e:vs.toArray++ws.toArray=(vs++ws).toArray:=by simp
 by_cases hw:ws=[]
 ·exact nk ⟨_,ho,rfl⟩ ⟨_,ho2,rfl⟩ jV mI gQ gE (gk _ _)
   (tuple_addW1 t b vs.toArray ws.toArray n n2 dd dd2 sl sl2 (by simpa using hv) (by simp [hw])) ⟨ho,ho2,h1 hw⟩
 ·refine nk ⟨_,ho,rfl⟩ ⟨_,ho2,rfl⟩ jV mI gQ gE (gk _ _)
   (tuple_addW2 t b vs.toArray ws.toArray n n2 dd dd2 sl sl2 (by simpa using hv) (by simpa using hw) (by rw [aC,aC];exact hsz)) ⟨ho,ho2,?_⟩
  rw [e]
  exact h2 hw
noncomputable def sIx(n d:Nat):Option Int -> Nat
 |none=> d
 |some v=> if v < 0 then (v+(n:Int)).toNat else min v.toNat n
theorem sIx_nat(n d k:Nat):sIx n d (some (k:Int))=min k n:=by
 show (if (k:Int) < 0 then ((k:Int)+(n:Int)).toNat else min (k:Int).toNat n)=min k n
 rw [if_neg (by lia),bU]
theorem a1i(n d:Nat)(hd:d <=n)(o:Option Int):sIx n d o <=n:=by
 cases o with
 |none=> exact hd
 |some v=>
  show (if v < 0 then (v+(n:Int)).toNat else min v.toNat n) <=n
  by_cases hv:v < 0
  ·rw [if_pos hv];lia
  ·rw [if_neg hv];exact Nat.min_le_right _ _
theorem aok(v:Int)(n d:Nat):(if v < 0 then max (v+(n:Int)) 0 else min v (n:Int))=((sIx n d (some v):Nat):Int):=by
 show (if v < 0 then max (v+(n:Int)) 0 else min v (n:Int))=(((if v < 0 then (v+(n:Int)).toNat else min v.toNat n):Nat):Int)
 by_cases hv:v < 0
 ·simp only [if_pos hv];lia
 ·simp only [if_neg hv];lia
theorem ape(lo hi:Option Int)(n:Nat):fZ lo hi 1 (n:Int)=(((sIx n 0 lo:Nat):Int),((sIx n n hi:Nat):Int)):=by
 have h1: ¬((1:Int) < 0):=by lia
 unfold fZ
 simp only [h1,if_false]
 refine Prod.ext ?_ ?_
 ·cases lo with
  |none=> rfl
  |some v=> exact aok v n 0
 ·cases hi with
  |none=> rfl
  |some v=> exact aok v n n
theorem apm(i j:Nat):eA (i:Int) (j:Int) 1=j - i:=by
 unfold eA
 have h1:(1:Int)> 0:=by lia
 simp only [h1,if_true,Int.ediv_one]
 split <;> lia
theorem ahn{v:ae}{o:Option Int}{Q:Option Int -> ag -> Prop}(p:gR v o)(h:Q o s):wpAny (model prog w) A (Builtin.Slice.slicePartIndex v) Q E s:=by
 cases p with
 |none=> exact slicePart_none h
 |int i t=> exact slicePart_int h
theorem ac3{sl:Addr}{vl vu:ae}{lo hi:Option Int}{Q:Int×Int×Nat -> ag -> Prop}(hs:s.heap.IsSliceOf sl vl vu .none)(pl:gR vl lo)(pu:gR vu hi)(h:Q (((sIx n 0 lo:Nat):Int),1,sIx n n hi - sIx n 0 lo) s):wpAny (model prog w) A (iY (.ref sl) (pure (n:Int))) Q E s:=by
 obtain⟨os,hos,hcs,hds⟩:=id hs
 unfold iY Builtin.Slice.sliceFields
 refine aa (aa (b7 hos hds (x:=vl) rfl (aa (b7 hos hds (x:=vu) rfl (aa (b7 hos hds (x:=.none) rfl (af ?_)))))))
 refine aa (slicePart_none ?_)
 show wpAny _ _ (if ((1:Int)==0)=true then _ else _) _ _ s
 rw [if_neg (by decide)]
 refine aa (ahn pl (aa (ahn pu (aa (af ?_)))))
 show wpAny _ _ (match fZ lo hi 1 (n:Int) with|(lo,hi)=> pure (lo,(1:Int),eA lo hi 1)) _ _ s
 rw [ape lo hi n]
 show wpAny _ _ (pure (((sIx n 0 lo:Nat):Int),(1:Int),eA ((sIx n 0 lo:Nat):Int) ((sIx n n hi:Nat):Int) 1)) _ _ s
 rw [apm]
 exact af h
theorem avs(xs:Array ae)(i k:Nat):((a9 k).filterMap fun (m:Nat)=> xs[((i:Int)+(m:Int)*1).toNat]?).toArray=((xs.toList.drop i).take k).toArray:=by
 have e:(fun (m:Nat)=> xs[((i:Int)+(m:Int)*1).toNat]?)=fun m=> xs[i+m]?:=by
  funext m
  have:((i:Int)+(m:Int)*1).toNat=i+m:=by lia
  rw [this]
 rw [e]
 have:=pick_run xs i k
 rw [List.filterMap_map]at this
 have e2:((fun x=> xs[x]?)∘fun x=> i+x)=fun m=> xs[i+m]?:=rfl
 rw [e2]at this
 rw [this]
theorem getItem_tuple_cut{t sl:Addr}{vl vu:ae}{lo hi:Option Int}(ht:IsTup s.heap t items)(hs:s.heap.IsSliceOf sl vl vu .none)(pl:gR vl lo)(pu:gR vu hi)(hw: ¬(sIx items.size 0 lo=0/\sIx items.size items.size hi=items.size))(h:Q (.ref s.heap.objs.size) {s with heap:=s.heap.push {cls:=.type "tuple",data:=.seq ((items.toList.drop (sIx items.size 0 lo)).take (sIx items.size items.size hi - sIx items.size 0 lo)).toArray}})(hsz:items.size <=sizeLine):wpAny (model prog w) A (getItem (.ref t) (.ref sl)) Q E s:=by
 have htake:sizeOk (.seq ((items.toList.drop (sIx items.size 0 lo)).take (sIx items.size items.size hi - sIx items.size 0 lo)).toArray):=by
  show ((items.toList.drop (sIx items.size 0 lo)).take (sIx items.size items.size hi - sIx items.size 0 lo)).toArray.size <=sizeLine
  rw [aC,bd,cJ,au]
  lia
 have hj:sIx items.size items.size hi <=items.size:=a1i _ _ (ao _) hi
 obtain⟨os,hos,hcs,hds⟩:=id hs
 have hTs:s.TypeIs (.ref sl) "slice":=⟨os,hos,hcs⟩
 unfold getItem
 try with_reducible refine bo ?_
 first|refine aa (af ?_)|skip
 refine aa (jH ht.typeIs (by decide) ?_)
 refine aa (br (name:=cr "__getitem__") ht.typeIs b9
  (bh b9 ht.typeIs mR ?_ (args_tuple_getitem _ _)))
 show wpAny _ _ (fR (.ref t)>>=_) _ _ s
 refine aa (tupleItemsOf_ ht ?_)
 refine aa (eQ hTs ?_)
 rw [if_pos (by decide)]
 refine aa (ac3 hs pl pu ?_)
 have hno: ¬((((sIx items.size 0 lo:Nat):Int)==0&&(1:Int)==1&&(sIx items.size items.size hi - sIx items.size 0 lo)==items.size)=true):=by
  intro q
  rw [aB,aB]at q
  have q1:((sIx items.size 0 lo:Nat):Int)=0:=eq_of_beq q.1.1
  have q2:sIx items.size items.size hi - sIx items.size 0 lo=items.size:=eq_of_beq q.2
  exact hw ⟨by lia,by lia⟩
 show wpAny _ _ (if (((sIx items.size 0 lo:Nat):Int)==0&&(1:Int)==1&&(sIx items.size items.size hi - sIx items.size 0 lo)==items.size)=true then _ else _) _ _ s
 rw [if_neg hno,avs]
 first
  |exact aa (m:=eR _) (bJ (af ⟨_,rfl,af h⟩) htake)
  |exact aa (m:=eR _) (bJ (aa (af (af ⟨_,rfl,af h⟩))) htake)
  |exact aa (aa (m:=eR _) (bJ (af (af ⟨_,rfl,af h⟩)) htake))
  |exact aa (aa (m:=eR _) (bJ (af ⟨_,rfl,af h⟩) htake))
end HT
namespace L2
open PySem PySem.Spec PyProof.Rows
abbrev TO:=St -> Hp -> (Option Int -> Hp -> Prop) -> Prop
def PO(X:Cx)(e:Option Expr)(t:TO):Prop:=
 ∀(pins:List (Addr×Obj)) (s:ag) (σ:St) (H:Hp) (Q:Option Int -> Hp -> Prop),Inv X pins σ H s -> t σ H Q ->
  wpAny (model X.prog X.w) X.A (evalPart e X.env) (fun u s'=> ∃o H',Inv X pins σ H' s'/\gR u o/\Q o H') X.xe s
noncomputable def az9:TO:=fun _ H Q=> Q none H
noncomputable def a4a(t:TE):TO:=fun σ H Q=> t σ H fun x H1=> ∃i,x=.int i/\Q (some i) H1
section
variable{X:Cx}{e:Expr}{te:TE}{lo hi:Option Expr}{tl th:TO}{pos p2:Pos}
theorem a0y:PO X none az9:=by
 (first|refine⟨?_⟩|skip);intro pins s σ H Q I h
 rw [evalPart_none]
 exact af ⟨none,H,I,.none,h⟩
theorem a0c(h:PE X e te):PO X (some e) (a4a te):=by
 (first|refine⟨?_⟩|skip);intro pins s σ H Q I hw
 rw [evalPart_some]
 refine thn (h pins s σ H _ I hw) fun u s1 ⟨x,H1,I1,r1,q1⟩=> ?_
 obtain⟨i,rfl,q⟩:=q1
 obtain⟨t,rfl⟩:=r1
 exact⟨some i,H1,I1,.int i t,q⟩
def SlR(X:Cx)(r:V -> Option Int -> Option Int -> Hp -> VK -> Prop):Prop:=
 ∀(pins:List (Addr×Obj)) (s:ag) (σ:St) (H:Hp) (x:V) (v vl vu:ae) (lo hi:Option Int) (sl:Addr) (Q:VK),Inv X pins σ H s -> RelV x v -> s.heap.IsSliceOf sl vl vu .none -> gR vl lo -> gR vu hi -> r x lo hi H Q ->
  ∃T id,typeLookup (.type T) "__getitem__"=pure (some (.builtin id))/\s.TypeIs v T/\wpAny (model X.prog X.w) X.A (getItem v (.ref sl)) (EP X pins σ Q) X.xe s
theorem SlR.or{r r':V -> Option Int -> Option Int -> Hp -> VK -> Prop}(h:SlR X r)(h':SlR X r'):SlR X (fun x lo hi H Q=> r x lo hi H Q\/r' x lo hi H Q):=by
 (first|refine⟨?_⟩|skip);intro pins s σ H x v vl vu lo hi sl Q I rx hs pl pu q
 rcases q with q|q
 ·exact h pins s σ H x v vl vu lo hi sl Q I rx hs pl pu q
 ·exact h' pins s σ H x v vl vu lo hi sl Q I rx hs pl pu q
noncomputable def tSl(r:V -> Option Int -> Option Int -> Hp -> VK -> Prop)(te:TE)(tl th:TO):TE:=fun σ H Q=> te σ H fun x H1=> tl σ H1 fun l H2=> th σ H2 fun u H3=> r x l u H3 Q
theorem awl{r:V -> Option Int -> Option Int -> Hp -> VK -> Prop}(hr:SlR X r)(he:PE X e te)(hl:PO X lo tl)(hu:PO X hi th):PE X (.Subscript e (.Slice lo hi none p2) pos) (tSl r te tl th):=by
 (first|refine⟨?_⟩|skip);intro pins s σ H Q I h
 refine Subscript_ (thn (he pins s σ H _ I h) fun v s1 ⟨x,H1,I1,r1,q1⟩=> ?_)
 refine wpAny_Slice (thn (hl pins s1 σ H1 _ I1 q1) fun vl s2 ⟨l,H2,I2,pl,q2⟩=> thn (hu pins s2 σ H2 _ I2 q2) fun vu s3 ⟨u,H3,I3,pu,q3⟩=> ?_)
 rw [evalPart_none]
 refine af ?_
 have I4:Inv X pins σ H3 {s3 with heap:=s3.heap.push {cls:=.type "slice",data:=.fields #[vl,vu,.none]}}:=I3.kept (t':=s3.toks) fun b ob q=> ak _ q
 obtain⟨T,id,hT,ht,hg⟩:=hr pins {s3 with heap:=s3.heap.push {cls:=.type "slice",data:=.fields #[vl,vu,.none]}} σ H3 x v vl vu l u s3.heap.objs.size Q I4 r1 (Heap.IsSliceOf.new ..) pl pu q3
 show wpAny (model X.prog X.w) X.A (nY e (.Slice lo hi none p2) v (.ref s3.heap.objs.size)) (EP X pins σ Q) X.xe {s3 with heap:=s3.heap.push {cls:=.type "slice",data:=.fields #[vl,vu,.none]}}
 exact tail_any (ops:=[.ref s3.heap.objs.size,v]) ht hT hg (by with_unfolding_all rfl)
def aa0(xs:List V)(lo hi:Option Int):List V:=(xs.drop (HT.sIx xs.length 0 lo)).take (HT.sIx xs.length xs.length hi - HT.sIx xs.length 0 lo)
theorem ag8(xs:List V)(lo hi:Option Int):(aa0 xs lo hi).length <=xs.length:=by
 unfold aa0
 rw [bd,cJ]
 lia
def a67(K:aj):V -> Option Int -> Option Int -> Hp -> VK -> Prop:=fun x lo hi H Q=> ∃a xs,x=.ref a/\SqT K H a xs/\
 ¬(HT.sIx xs.length 0 lo=0/\HT.sIx xs.length xs.length hi=xs.length)/\ ∀p,H p=none -> Q (.ref p) (upd H p (.tup (aa0 xs lo hi)))
theorem arb:SlR X (a67 X.K):=by
 (first|refine⟨?_⟩|skip);intro pins s σ H x v vl vu lo hi sl Q I rx hs pl pu h
 obtain⟨a,xs,rfl,hx,hw,q⟩:=h
 cases rx
 obtain⟨its,r,ht,hz⟩:=I.tuple hx
 have hlen:its.toArray.size=xs.length:=by rw [aC];exact r.length.symm
 refine⟨"tuple",_,b9.lookup,ht.typeIs,?_⟩
 refine HT.getItem_tuple_cut ht hs pl pu (by rw [hlen];exact hw) ?_ (by rw [hlen];exact hz)
 rw [hlen]
 refine⟨.ref s.heap.objs.size,_,I.laid (t':=s.toks) (o:=.tup (aa0 xs lo hi)) (fun b ob q=> ak _ q) (ao _) ?_,rfl,q _ (I.hok.fresh (ao _))⟩
 exact⟨bb (ag8 xs lo hi) hz,_,(r.drop (HT.sIx xs.length 0 lo)).take (HT.sIx xs.length xs.length hi - HT.sIx xs.length 0 lo),af0.new _ _⟩
def a4h(K:aj):R2:=fun x y H Q=> ∃a b xs ys,x=.ref a/\y=.ref b/\SqT K H a xs/\SqT K H b ys/\xs≠ []/\xs.length+ys.length <=sizeLine/\
 (ys=[] -> Q (.ref a) H)/\(ys≠ [] -> ∀p,H p=none -> Q (.ref p) (upd H p (.tup (xs++ys))))
theorem jj.nil_iff(r:jj xs us):us=[] ↔ xs=[]:=by
 cases r with
 |nil=> simp
 |cons _ _=> simp
theorem azx:OpR X (binaryOp .Add) (a4h X.K):=by
 (first|refine⟨?_⟩|skip);intro pins s σ H x y v u Q I rx ry h
 obtain⟨a,b,xs,ys,rfl,rfl,ha,hb,hx,hz,q1,q2⟩:=h
 cases rx
 cases ry
 obtain⟨its,r1,p1,_⟩:=I.tuple ha
 obtain⟨its2,r2,p2,_⟩:=I.tuple hb
 refine HT.cat_tup p1 p2 (fun z=> hx (r1.nil_iff.mp z)) (fun z=> ⟨.ref a,H,I,rfl,q1 (r2.nil_iff.mp z)⟩) (fun z=> ?_) (by rw [←r1.length,←r2.length];exact hz)
 refine⟨.ref s.heap.objs.size,_,I.laid (t':=s.toks) (o:=.tup (xs++ys)) (fun b ob q=> ak _ q) (ao _) ?_,rfl,q2 (fun w=> z (r2.nil_iff.mpr w)) _ (I.hok.fresh (ao _))⟩
 exact⟨by rw [aG];exact hz,_,r1.append r2,af0.new _ _⟩
end
noncomputable def ixN(n:Nat)(i:Int):Option Nat:=if 0 <=i then (if i < n then some i.toNat else none) else if -(n:Int) <=i then some (i+n).toNat else none
def atI{α:Type}(xs:List α)(i:Int):Option α:=(ixN xs.length i).bind fun j=> xs[j]?
theorem ano{i:Int}(h:ixN n i=some j):seqIndex? i n=some j/\j < n/\ -(n:Int) <=i/\i < n:=by
 unfold ixN at h
 by_cases h0:0 <=i
 ·rw [if_pos h0]at h
  by_cases h1:i < n
  ·rw [if_pos h1]at h
   have e:i.toNat=j:=bH h
   exact⟨by rw [nK h0 h1,e],by lia,by lia,h1⟩
  ·rw [if_neg h1]at h;cases h
 ·rw [if_neg h0]at h
  by_cases h1: -(n:Int) <=i
  ·rw [if_pos h1]at h
   have e:(i+n).toNat=j:=bH h
   exact⟨by rw [np (by lia) h1,e],by lia,h1,by lia⟩
  ·rw [if_neg h1]at h;cases h
theorem aim{α:Type}{xs:List α}{i:Int}{v:α}(h:atI xs i=some v): ∃j,seqIndex? i xs.length=some j/\xs[j]?=some v/\j < xs.length/\ -(xs.length:Int) <=i/\i < xs.length:=by
 unfold atI at h
 cases e:ixN xs.length i with
 |none=> rw [e]at h;cases h
 |some j=>
  rw [e]at h
  obtain⟨h1,h2,h3,h4⟩:=ano e
  exact⟨j,h1,h,h2,h3,h4⟩
theorem aip{α:Type}{xs:List α}{v:α}(h:xs[j]?=some v):atI xs (j:Int)=some v:=by
 have hj:j < xs.length:=(ap.mp h).1
 have e:ixN xs.length (j:Int)=some j:=by
  unfold ixN
  rw [if_pos (by lia),if_pos (by lia)];simp
 unfold atI;rw [e];exact h
def ao1(b:Expr):Prop:= ∀o i,subscripted b false o i=operate [o,i] (getItem o i)
def IxR(X:Cx)(r:R2):Prop:=
 ∀(value slice:Expr) (pins:List (Addr×Obj)) (s:ag) (σ:St) (H:Hp) (x y:V) (v u:ae) (Q:VK),Inv X pins σ H s -> RelV x v -> RelV y u -> r x y H Q ->
  subscripted slice false v u=operate [v,u] (getItem v u) -> wpAny (model X.prog X.w) X.A (nY value slice v u) (EP X pins σ Q) X.xe s
def MtR(X:Cx)(id:String)(r:V -> List V -> Hp -> VK -> Prop):Prop:=
 ∀(pins:List (Addr×Obj)) (s:ag) (σ:St) (H:Hp) (x:V) (xs:List V) (v:ae) (us:List ae) (Q:VK),Inv X pins σ H s -> RelV x v -> jj xs us -> r x xs H Q ->
  wpAny (model X.prog X.w) X.A (call (.builtin id) (v::us)) (EP X pins σ Q) X.xe s
section
variable{X:Cx}{a b:Expr}{ta tb:TE}{pos:Pos}
theorem IxR.or{r r':R2}(h:IxR X r)(h':IxR X r'):IxR X (fun x y H Q=> r x y H Q\/r' x y H Q):=by
 intro value slice pins s σ H x y v u Q I rx ry q hs
 rcases q with q|q
 ·exact h value slice pins s σ H x y v u Q I rx ry q hs
 ·exact h' value slice pins s σ H x y v u Q I rx ry q hs
theorem MtR.or{id:String}{r r':V -> List V -> Hp -> VK -> Prop}(h:MtR X id r)(h':MtR X id r'):MtR X id (fun x xs H Q=> r x xs H Q\/r' x xs H Q):=by
 (first|refine⟨?_⟩|skip);intro pins s σ H x xs v us Q I rx rs q
 rcases q with q|q
 ·exact h pins s σ H x xs v us Q I rx rs q
 ·exact h' pins s σ H x xs v us Q I rx rs q
theorem a49{r:R2}(hr:IxR X r)(ha:PE X a ta)(hb:PE X b tb)(hs:ao1 b):PE X (.Subscript a b pos) (tOp r ta tb):=by
 (first|refine⟨?_⟩|skip);intro pins s σ H Q I h
 exact Subscript_ (av3 ha hb I h fun v u s2 x y H2 I2 rx ry q=> hr a b pins s2 σ H2 x y v u Q I2 rx ry q (hs _ _))
def a3n(K:aj):R2:=fun x y H Q=> ∃p xs i v,x=.ref p/\y=.int i/\SqL K H p xs/\atI xs i=some v/\Q v H
def a1w(K:aj):R2:=fun x y H Q=> ∃p xs i v,x=.ref p/\y=.int i/\SqT K H p xs/\atI xs i=some v/\Q v H
def a1a:R2:=fun x y H Q=> ∃z i c,x=.str z/\y=.int i/\z.length <=sizeLine/\atI z.cps.toList i=some c/\Q (.str ⟨#[c]⟩) H
theorem a02:IxR X (a3n X.K):=by
 intro value slice pins s σ H x y v u Q I rx ry h hs
 obtain⟨p,xs,i,z,rfl,rfl,hq,he,q⟩:=h
 cases rx
 obtain⟨t,rfl⟩:=ry
 obtain⟨its,r,pl,hz⟩:=I.list hq
 obtain⟨j,h1,h2,h3,h4,h5⟩:=aim he
 obtain⟨w,ew,rw'⟩:=r.get h2
 have hl:=r.length
 have hn:=acj
 have fin:EP X pins σ Q w s:=⟨z,H,I,rw',q⟩
 by_cases h0:0 <=i
 ·have hj:i.toNat=j:=by
   rw [nK h0 h5]at h1
   exact bH h1
  exact item_listR pl.isList h0 (by lia) (by rw [hj];simpa using ew) fin hs
 ·have hj:(i+(its.toArray.size:Int)).toNat=j:=by
   rw [np (by lia) h4]at h1
   rw [aC,←hl]
   exact bH h1
  exact ln (x:=w) pl.isList.typeIs slot_list_getitem.lookup
   (wpAny_getItem_list_neg (Q:=fun r s'=> r=w/\EP X pins σ Q r s') pl.isList (by lia) (by rw [aC] <;> lia) (by lia) (by rw [hj];simpa using ew) ⟨rfl,fin⟩) hs
theorem a2r:IxR X (a1w X.K):=by
 intro value slice pins s σ H x y v u Q I rx ry h hs
 obtain⟨p,xs,i,z,rfl,rfl,hq,he,q⟩:=h
 cases rx
 obtain⟨t,rfl⟩:=ry
 obtain⟨its,r,pl,hz⟩:=I.tuple hq
 obtain⟨j,h1,h2,h3,h4,h5⟩:=aim he
 obtain⟨w,ew,rw'⟩:=r.get h2
 have hl:=r.length
 have hn:=acj
 have fin:EP X pins σ Q w s:=⟨z,H,I,rw',q⟩
 exact ln (x:=w) pl.typeIs slot_tuple_getitem.lookup
  (getItem_tuple (j:=j) (Q:=fun r s'=> r=w/\EP X pins σ Q r s') pl (by lia) (by lia) (by rw [aC,←hl];exact h1) (by simpa using ew) ⟨rfl,fin⟩) hs
theorem a3a:IxR X a1a:=by
 intro value slice pins s σ H x y v u Q I rx ry h hs
 obtain⟨z,i,c,rfl,rfl,hz,he,q⟩:=h
 obtain⟨t,rfl⟩:=rx
 obtain⟨t',rfl⟩:=ry
 obtain⟨j,h1,h2,h3,h4,h5⟩:=aim he
 have hl:z.cps.toList.length=z.length:=by simp [Str.length]
 rw [hl]at h1 h4 h5
 have hn:=acj
 exact tail_any (typeIs_str s z t) slot_str_getitem.lookup (getItem_str (c:=c) (by
  have e1:decide (i < -(2^63:Int))=false:=decide_eq_false (by lia)
  have e2:decide (i≥2^63)=false:=decide_eq_false (by lia)
  rw [e1,e2,Bool.or_false]) (by rw [h1];simpa using h2) ⟨.str ⟨#[c]⟩,H,I.tok _,⟨_,rfl⟩,q⟩) hs
def rIx(K:aj):R2:=fun x y H Q=> a3n K x y H Q\/a1w K x y H Q\/a1a x y H Q
theorem a1v:IxR X (rIx X.K):=a02.or (a2r.or a3a)
theorem apw(its:List ae)(n j:Nat)(u:ae):dP (·.setIfInBounds j u) {cls:=.type "list",data:=.seq its.toArray n}={cls:=.type "list",data:=.seq (its.set j u).toArray n}:=by
 simp [dP]
theorem Inv.lst(I:Inv X pins σ H s)(h:H p=some (.lst xs)):
  ∃(its:List ae) (n:Nat),jj xs its/\s.heap.get? p=some {cls:=.type "list",data:=.seq its.toArray n}/\xs.length <=sizeLine:=by
 obtain⟨z,its,n,r,e⟩:=I.hok p _ h
 exact⟨its,n,r,e,z⟩
theorem Inv.lstUpd{ys:List V}{its':List ae}{n':Nat}{f:Obj -> Obj}(I:Inv X pins σ H s)(h:H p=some (.lst xs))(ho:s.heap.get? p=some {cls:=.type "list",data:=.seq its.toArray n})(hf:f {cls:=.type "list",data:=.seq its.toArray n}={cls:=.type "list",data:=.seq its'.toArray n'})(r:jj ys its')(hz:ys.length <=sizeLine)(t:Nat):
  Inv X pins σ (upd H p (.lst ys)) {s with heap:=s.heap.update p f,toks:=t}:=by
 have e:(s.heap.update p f).get? p=some {cls:=.type "list",data:=.seq its'.toArray n'}:=by
  rw [bt f ho (by rw [hf] <;> rfl),hf]
 refine I.write (x:=p) (e:=p) (by rw [h];trivial) (.inl rfl) (fun b u hb q=> (bQ _ _ (bY hb)).trans q) ⟨_,e⟩ ?_
 exact⟨hz,its',n',r,e⟩
def a4g:V -> V -> V -> Hp -> (Hp -> Prop) -> Prop:=fun o i v H Q=> ∃p xs k j,o=.ref p/\i=.int k/\H p=some (.lst xs)/\ixN xs.length k=some j/\Q (upd H p (.lst (xs.set j v)))
theorem au5:agv X a4g:=by
 (first|refine⟨?_⟩|skip);intro pins s σ H o i v ov iv u Q I ro ri rv h
 obtain⟨p,xs,k,j,rfl,rfl,hp,hj,q⟩:=h
 cases ro
 obtain⟨t,rfl⟩:=ri
 obtain⟨its,n,r,ho,hz⟩:=I.lst hp
 obtain⟨h1,h2,h3,h4⟩:=ano hj
 have hl:=r.length
 have hn:=acj
 have I':Inv X pins σ (upd H p (.lst (xs.set j v))) {s with heap:=s.heap.update p (dP (·.setIfInBounds j u))}:=
  I.lstUpd hp ho (apw its n j u) (r.set rv j) (by rw [List.length_set];exact hz) s.toks
 by_cases h0:0 <=k
 ·have hk:k.toNat=j:=by
   rw [nK h0 h4]at h1
   exact bH h1
  exact PySem.W.ki_setAt ho h0 (by lia) (by rw [aC,←hl];exact h4) (by rw [hk];exact⟨_,I',q⟩)
 ·have hk:(k+(its.toArray.size:Int)).toNat=j:=by
   rw [np (by lia) h3]at h1
   rw [aC,←hl]
   exact bH h1
  exact PySem.W.ki_setBack ho (by lia) (by rw [aC,←hl];exact h3) (by lia) (by rw [hk];exact⟨_,I',q⟩)
theorem amd(lo hi:Option Int)(n:Nat):(fW lo hi none n).1=((HT.sIx n 0 lo:Nat):Int)/\(fW lo hi none n).2.1=((HT.sIx n n hi:Nat):Int)/\(fW lo hi none n).2.2=1:=by
 refine⟨?_,?_,rfl⟩
 ·cases lo with
  |none=> simp [fW,HT.sIx]
  |some i=>
   simp only [fW,HT.sIx,jW,show (1:Int)> 0 by decide,if_true]
   by_cases h:i < 0
   ·simp only [h,if_true] <;> lia
   ·simp only [h,if_false] <;> lia
 ·cases hi with
  |none=> simp [fW,HT.sIx]
  |some i=>
   simp only [fW,HT.sIx,jW,show (1:Int)> 0 by decide,if_true]
   by_cases h:i < 0
   ·simp only [h,if_true] <;> lia
   ·simp only [h,if_false] <;> lia
theorem akh(its:List ae)(lo hi:Option Int):slicePick its.toArray lo hi none=((its.drop (HT.sIx its.length 0 lo)).take (HT.sIx its.length its.length hi - HT.sIx its.length 0 lo)).toArray:=by
 obtain⟨h1,h2,h3⟩:=amd lo hi its.toArray.size
 unfold slicePick
 rw [h1,h2,h3]
 simp only [sliceRange_one,pick_run,aC] <;> rfl
def a66(K:aj):V -> Option Int -> Option Int -> Hp -> VK -> Prop:=fun x lo hi H Q=> ∃a xs,x=.ref a/\SqL K H a xs/\ ∀p,H p=none -> Q (.ref p) (upd H p (.lst (aa0 xs lo hi)))
theorem a0j:SlR X (a66 X.K):=by
 (first|refine⟨?_⟩|skip);intro pins s σ H x v vl vu lo hi sl Q I rx hs pl pu h
 obtain⟨a,xs,rfl,hx,q⟩:=h
 cases rx
 obtain⟨its,r,ht,hz⟩:=I.list hx
 have hlen:=r.length
 refine⟨"list",_,slot_list_getitem.lookup,ht.isList.typeIs,?_⟩
 refine wpAny_getItem_list_slice ht.isList hs pl pu .none (by simp) ?_ (by rw [aC] <;> lia)
 rw [akh,←hlen]
 refine⟨.ref s.heap.objs.size,_,I.laid (t':=s.toks) (o:=.lst (aa0 xs lo hi)) (fun b ob q=> ak _ q) (ao _) ?_,rfl,q _ (I.hok.fresh (ao _))⟩
 exact⟨bb (ag8 xs lo hi) hz,_,0,(r.drop (HT.sIx xs.length 0 lo)).take (HT.sIx xs.length xs.length hi - HT.sIx xs.length 0 lo),aA _ rfl⟩
theorem alp:xv X (.builtin "len") (fun xs H Q=> ∃p ys,xs=[.ref p]/\(SqL X.K H p ys\/SqT X.K H p ys)/\Q (.int ys.length) H):=by
 (first|refine⟨?_⟩|skip);intro pins s σ H xs us Q I r h
 obtain⟨p,ys,rfl,hq,q⟩:=h
 obtain⟨u,rfl,rx⟩:=vals1 r
 cases rx
 have hn:=acj
 rcases hq with hq|hq
 ·obtain⟨its,r',pl,hz⟩:=I.list hq
  have hlen:=r'.length
  exact Calls.call_len_list pl.isList (by simp only [aC] <;> lia) ⟨.int ys.length,H,I.tok _,⟨s.toks+1,by rw [aC,hlen]⟩,q⟩
 ·obtain⟨its,r',pl,hz⟩:=I.tuple hq
  have hlen:=r'.length
  exact len_tuple pl (by simp only [aC] <;> lia) ⟨.int ys.length,H,I.tok _,⟨s.toks+1,by rw [aC,hlen]⟩,q⟩
theorem alr:xv X (.builtin "len") (fun xs H Q=> ∃z,xs=[.str z]/\z.length <=sizeLine/\Q (.int z.length) H):=by
 (first|refine⟨?_⟩|skip);intro pins s σ H xs us Q I r h
 obtain⟨z,rfl,hz,q⟩:=h
 obtain⟨u,rfl,t,rfl⟩:=vals1 r
 have hn:=acj
 exact len_str (by lia) ⟨.int z.length,H,I.tok _,⟨_,rfl⟩,q⟩
theorem alf:xv X (.type "list") (fun xs H Q=> ∃p ys,xs=[.ref p]/\(SqL X.K H p ys\/SqT X.K H p ys)/\ ∀l,H l=none -> Q (.ref l) (upd H l (.lst ys))):=by
 (first|refine⟨?_⟩|skip);intro pins s σ H xs us Q I r h
 obtain⟨p,ys,rfl,hq,q⟩:=h
 obtain⟨u,rfl,rx⟩:=vals1 r
 cases rx
 have fin: ∀(its:List ae),jj ys its -> ys.length <=sizeLine -> ∀(h':Heap) (c':Nat),(∀b o',s.heap.get? b=some o' -> h'.get? b=some o') ->
   h'.get? s.heap.objs.size=some {cls:=.type "list",dict:=none,data:=.seq its.toArray c',slots:= #[]} -> EP X pins σ Q (.ref s.heap.objs.size) {s with heap:=h'}:=fun its r' hz h' c' kp e=>
  ⟨.ref s.heap.objs.size,_,I.laid (t':=s.toks) kp (ao _) (show jx X.prog X.w _ h' _ (.lst ys) from ⟨hz,its,c',r',e⟩),rfl,q _ (I.hok.fresh (ao _))⟩
 rcases hq with hq|hq
 ·obtain⟨its,r',pl,hz⟩:=I.list hq
  have hlen:=r'.length
  obtain⟨o,ho,hc,n,hd⟩:=pl.isList
  exact call_list_seq p (.inl rfl) ho hc hd (fun h' c' kp e=> fin its r' hz h' c' kp e) (by simp only [aC] <;> lia)
 ·obtain⟨its,r',pl,hz⟩:=I.tuple hq
  have hlen:=r'.length
  obtain⟨o,ho,hc,n,hd⟩:=pl
  exact call_list_seq p (.inr rfl) ho hc hd (fun h' c' kp e=> fin its r' hz h' c' kp e) (by simp only [aC] <;> lia)
theorem aki:xv X (.type "tuple") (fun xs H Q=> ∃p ys,xs=[.ref p]/\((SqL X.K H p ys/\ ∀l,H l=none -> Q (.ref l) (upd H l (.tup ys)))\/(SqT X.K H p ys/\Q (.ref p) H))):=by
 (first|refine⟨?_⟩|skip);intro pins s σ H xs us Q I r h
 obtain⟨p,ys,rfl,h⟩:=h
 obtain⟨u,rfl,rx⟩:=vals1 r
 cases rx
 rcases h with ⟨hq,q⟩|⟨hq,q⟩
 ·obtain⟨its,r',pl,hz⟩:=I.list hq
  have hlen:=r'.length
  refine call_tuple_list pl.isList (fun h' kp=> ?_) (by simp only [aC] <;> lia)
  have I1:Inv X pins σ H {s with heap:=h'}:=I.kept (t':=s.toks) kp
  have I2:Inv X pins σ (upd H h'.objs.size (.tup ys)) {s with heap:=h'.push {cls:=.type "tuple",data:=.seq its.toArray}}:=
   I1.laid (t':=s.toks) (fun b o e=> ak _ e) (ao _) (show jx X.prog X.w _ _ _ (.tup ys) from ⟨hz,its,r',af0.new _ _⟩)
  exact⟨.ref h'.objs.size,_,I2,rfl,q _ (I1.hok.fresh (ao _))⟩
 ·obtain⟨its,r',pl,hz⟩:=I.tuple hq
  exact call_tuple_same pl ⟨.ref p,H,I,rfl,q⟩
def tyV(K:aj)(T:String)(x:V)(H:Hp):Prop:=match x with
 |.str _=> T="str"
 |.int _=> T="int"
 | .ref p=> (T="list"/\ ∃xs,SqL K H p xs)\/(T="tuple"/\ ∃o,K.lookup p=some o/\o.cls=.type "tuple"/\o.dict=none)\/
   (T="dict"/\((∃kvs,H p=some (.dK kvs))\/ ∃kvs,H p=some (.dT kvs)))\/(T="set"/\ ∃S n,H p=some (.set S n))
 |_=> False
theorem a25{x:V}{v:ae}(I:Inv X pins σ H s)(r:RelV x v)(ty:tyV X.K T x H):
  s.TypeIs v T/\ ∀a,v=.ref a -> ∃ob,s.heap.get? a=some ob/\ob.dict=none:=by
 cases x with
 |str z=>
  obtain⟨t,rfl⟩:=r
  cases (show T="str" from ty)
  exact⟨typeIs_str s z t,fun _ e=> nomatch e⟩
 |int i=>
  obtain⟨t,rfl⟩:=r
  cases (show T="int" from ty)
  exact⟨typeIs_int s i t,fun _ e=> nomatch e⟩
 | ref p=>
  cases r
  rcases ty with ⟨rfl,xs,hq⟩|⟨rfl,o,hk,hc,hd⟩|⟨rfl,hk⟩|⟨rfl,S,n,hk⟩
  ·obtain⟨its,_,pl,_⟩:=I.list hq
   refine⟨pl.isList.typeIs,fun a e=> ?_⟩
   cases e
   obtain⟨o,n,e,c,hd,_⟩:=pl
   exact⟨o,e,hd⟩
  ·refine⟨⟨o,I.kIn p o hk,hc⟩,fun a e=> ?_⟩
   cases e
   exact⟨o,I.kIn _ o hk,hd⟩
  ·have z: ∃o,s.heap.get? p=some o/\o.ExactDict:=by
    rcases hk with ⟨kvs,hk⟩|⟨kvs,hk⟩
    ·obtain⟨_,_,_,_,_,o,_,_,e,ex,_⟩:=I.hok p _ hk
     exact⟨o,e,ex⟩
    ·obtain⟨_,_,_,_,o,_,_,e,ex,_⟩:=I.hok p _ hk
     exact⟨o,e,ex⟩
   obtain⟨o,e,ex⟩:=z
   refine⟨⟨o,e,ex.1⟩,fun a e2=> ?_⟩
   cases e2
   exact⟨o,e,ex.2.1⟩
  ·obtain⟨o,_,_,_,e,ex,_⟩:=I.hok p _ hk
   refine⟨⟨o,e,ex.1⟩,fun a e2=> ?_⟩
   cases e2
   exact⟨o,e,ex.2.1⟩
 |_=> exact dq ty
noncomputable def tBM(K:aj)(T:String)(r:V -> List V -> Hp -> VK -> Prop)(to:TE)(t:TA):TE:=fun σ H Q=> to σ H fun x H1=> tyV K T x H1/\t σ H1 fun xs H2=> r x xs H2 Q
variable{o e:Expr}{es:List Expr}{to:TE}{t:TA}{name:Str}{apos cpos:Pos}{T id:String}{r:V -> List V -> Hp -> VK -> Prop}
theorem a4j(pa:PlainAttrs T)(slot:Slot T name id)(hty:typeOf (.builtin id)=pure (.type "method_descriptor"))(hm:MtR X id r)(ho:PE X o to)(ha:PA X (e::es) t)
  (hbase:dZ o name X.env (eval o X.env)=eval o X.env:=by rfl)
  (hfew:((backTo cpos (starEach (e::es) X.env)).all (fun x=> !x.1)&&(backToKw cpos (fX [] X.env)).all (fun x=> x.1.isSome)
   &&decide ((e::es).length+([]:List gz).length+(if ([]:List gz).isEmpty then 0 else 1) < 30))=true:=by rfl)
  (hline:(apos.endLine==cpos.line)=true:=by rfl) (hs:starEach (e::es) X.env=(false,eval e X.env)::starEach es X.env:=by rfl) (hplain:(backTo cpos (starEach es X.env)).any (·.1)=false:=by rfl):
  PE X (.Call (.Attribute o name apos) (e::es) [] cpos) (tBM X.K T r to t):=by
 (first|refine⟨?_⟩|skip);intro pins s σ H Q I h
 refine lq hbase hfew hline rfl (thn (ho pins s σ H _ I h) fun v s1 ⟨x,H1,I1,r1,ty,q1⟩=> ?_)
 obtain⟨h1,h2⟩:=a25 I1 r1 ty
 refine⟨T,id,pa,slot,hty,h1,h2,?_⟩
 have hA:=ha cpos pins s1 σ H1 _ I1 q1
 rw [hs]at hA⊢
 refine lr (by show (false||(backTo cpos (starEach es X.env)).any (·.1))=false;rw [hplain] <;> rfl) (l5 ?_)
 exact thn hA fun us s2 ⟨vs,H2,I2,r2,q2⟩=> hm pins s2 σ H2 x vs v us Q I2 r1 r2 q2
end
def MtM(X:Cx)(id:String)(r:V -> List V -> Hp -> VK -> Prop):Prop:=
 ∀(pins:List (Addr×Obj)) (s:ag) (σ:St) (H:Hp) (x:V) (xs:List V) (v:ae) (us:List ae) (Q:VK),Inv X pins σ H s -> RelV x v -> jj xs us -> r x xs H Q ->
  wpAny (model X.prog X.w) X.A (call (.builtin id) (v::us)) (EP X pins σ Q) X.xe s
theorem jj.one: ∀{x:V} {us:List ae},jj [x] us -> ∃u,us=[u]/\RelV x u
 |_,_,.cons r .nil=> ⟨_,rfl,r⟩
theorem jj.two: ∀{x y:V} {us:List ae},jj [x,y] us -> ∃u v,us=[u,v]/\RelV x u/\RelV y v
 |_,_,_,.cons r (.cons q .nil)=> ⟨_,_,rfl,r,q⟩
section
variable{X:Cx}{pins:List (Addr×Obj)}{σ:St}{H:Hp}{s:ag}{l b:Addr}{xs ys zs:List V}
theorem Inv.lset{its':List ae}{f:Array ae -> Array ae}{t':Nat}(I:Inv X pins σ H s)(hH:H l=some (.lst xs))(e:s.heap.get? l=some {cls:=.type "list",data:=.seq its.toArray n})(hf:f its.toArray=its'.toArray)(hv:jj ys its')(hz:ys.length <=sizeLine):
  Inv X pins σ (upd H l (.lst ys)) {s with heap:=s.heap.update l (dP f),toks:=t'}:=by
 have q:=PySem.IsL.update e f
 rw [hf]at q
 refine I.write (x:=l) (e:=l) (by rw [hH];exact trivial) (.inl rfl) (fun b' u hb hu=> (bQ s.heap (dP f) (bY hb)).trans hu) ⟨_,q⟩ ?_
 exact⟨hz,its',_,hv,q⟩
theorem Inv.lnew{t':Nat}(I:Inv X pins σ H s)(hv:jj ys its)(hz:ys.length <=sizeLine):
  Inv X pins σ (upd H s.heap.objs.size (.lst ys)) {s with heap:=s.heap.push {cls:=.type "list",data:=.seq its.toArray},toks:=t'}:=
 I.laid (fun _ _ q=> ak _ q) (ao _) ⟨hz,its,0,hv,aA _ rfl⟩
theorem Inv.fresh(I:Inv X pins σ H s):H s.heap.objs.size=none:=I.hok.fresh (ao _)
theorem Inv.lstM(I:Inv X pins σ H s)(hH:H l=some (.lst xs)):xs.length <=sizeLine/\ ∃(its:List ae) (n:Nat),jj xs its/\xs.length=its.length/\s.heap.get? l=some {cls:=.type "list",data:=.seq its.toArray n}:=by
 obtain⟨z,its,n,r,e⟩:=I.hok l _ hH
 exact⟨z,its,n,r,r.length,e⟩
theorem amt(h:n <=sizeLine):dw n=false:=by
 unfold dw
 exact decide_eq_false (by lia)
end
def a0o:V -> List V -> Hp -> VK -> Prop:=fun x vs H Q=> ∃l xs y,x=.ref l/\vs=[y]/\H l=some (.lst xs)/\xs.length < sizeLine/\Q .non (upd H l (.lst (xs++ [y])))
theorem ak3:MtM X "list.append" a0o:=by
 (first|refine⟨?_⟩|skip);intro pins s σ H x vs v us Q I rx rv h
 obtain⟨l,xs,y,rfl,rfl,hH,hz,q⟩:=h
 cases rx
 obtain⟨u,rfl,ru⟩:=rv.one
 obtain⟨z,its,n,r,hl,e⟩:=I.lstM hH
 refine l6 F.slot_list_append ⟨_,e,rfl⟩ F.entry_list_append (F.args_list_append_2 _ _) (PySem.list_append l its.toArray n u (by rw [aC];lia)) ⟨e,?_⟩
 refine⟨.non,_,I.lset (its':=its++ [u]) hH e (by simp) (r.append (.cons ru .nil)) ?_,rfl,q⟩
 rw [aG,dW]
 lia
def axv:V -> List V -> Hp -> VK -> Prop:=fun x vs H Q=> ∃l b xs zs,x=.ref l/\vs=[.ref b]/\H l=some (.lst xs)/\H b=some (.lst zs)/\xs.length+zs.length <=sizeLine/\Q .non (upd H l (.lst (xs++zs)))
theorem asc:MtM X "list.extend" axv:=by
 (first|refine⟨?_⟩|skip);intro pins s σ H x vs v us Q I rx rv h
 obtain⟨l,b,xs,zs,rfl,rfl,hH,hB,hz,q⟩:=h
 cases rx
 obtain⟨u,rfl,ru⟩:=rv.one
 cases ru
 obtain⟨z,its,n,r,hl,e⟩:=I.lstM hH
 obtain⟨z2,its2,n2,r2,hl2,e2⟩:=I.lstM hB
 have hsz:its.toArray.size+its2.toArray.size <=sizeLine:=by rw [aC,aC];lia
 have hlong: ¬(!its.toArray.isEmpty&&dw (its.toArray.size+its2.toArray.size))=true:=by
  rw [amt hsz,lH]
  exact ax
 refine l6 F.slot_list_extend ⟨_,e,rfl⟩ mS (l7 _ _)
  (AutoSeq1.list_extend_list_list_0 l its.toArray n b its2.toArray n2 hlong (by rw [aC];lia) (by lia)) ⟨e,e2,?_⟩
 refine⟨.non,_,I.lset (its':=its++its2) hH e (by simp) (r.append r2) ?_,rfl,q⟩
 rw [aG]
 lia
def a5h:R2:=fun x y H Q=> ∃l b xs zs,x=.ref l/\y=.ref b/\H l=some (.lst xs)/\H b=some (.lst zs)/\xs.length+zs.length <=sizeLine/\ ∀p,H p=none -> Q (.ref p) (upd H p (.lst (xs++zs)))
theorem a2w:OpR X (binaryOp .Add) a5h:=by
 (first|refine⟨?_⟩|skip);intro pins s σ H x y v u Q I rx ry h
 obtain⟨l,b,xs,zs,rfl,rfl,hH,hB,hz,q⟩:=h
 cases rx
 cases ry
 obtain⟨z,its,n,r,hl,e⟩:=I.lstM hH
 obtain⟨z2,its2,n2,r2,hl2,e2⟩:=I.lstM hB
 refine PySem.P.add_list e e2 ?_ (by rw [aC,aC];lia)
 have ea:its.toArray++its2.toArray=(its++its2).toArray:=by simp
 rw [ea]
 exact⟨.ref _,_,I.lnew (t':=s.toks) (r.append r2) (by rw [aG];lia),rfl,q _ I.fresh⟩
section
variable{κ:Type}[DecidableEq κ]
noncomputable def yh(kvs:List (κ×V))(k:κ):Option V:=(kvs.find? fun kv=> decide (kv.1=k)).map (·.2)
noncomputable def ki(kvs:List (κ×V))(k:κ)(v:V):List (κ×V):=
 if (kvs.any fun kv=> decide (kv.1=k))=true then kvs.map (fun kv=> if kv.1=k then (kv.1,v) else kv) else kvs++ [(k,v)]
theorem z6{p:κ×V}{r:List (κ×V)}{k:κ}(e:p.1=k):yh (p::r) k=some p.2:=by simp [yh,cw,e]
theorem aa3{p:κ×V}{r:List (κ×V)}{k:κ}(e: ¬p.1=k):yh (p::r) k=yh r k:=by simp [yh,cw,e]
theorem ac5(k:κ): ∀kvs:List (κ×V),(kvs.any fun kv=> decide (kv.1=k))=(yh kvs k).isSome
 |[]=> rfl
 |p::r=> by
  rw [d5]
  by_cases e:p.1=k
  ·simp only [z6 e,decide_eq_true e,Bool.true_or,Option.isSome_some]
  ·rw [aa3 e,decide_eq_false e,Bool.false_or];exact ac5 k r
theorem z4(kvs:List (κ×V))(k:κ)(v:V):(ki kvs k v).length <=kvs.length+1:=by
 unfold ki
 split
 ·rw [am];lia
 ·rw [aG,az,dA];lia
theorem xp.isSome_eq{o:Option V}{u:Option ae}(r:xp o u):o.isSome=u.isSome:=by
 cases o with
 |none=> cases u with
  |none=> rfl
  |some _=> exact (show False from r).elim
 |some _=> cases u with
  |none=> exact (show False from r).elim
  |some _=> rfl
theorem xp.getD{o:Option V}{u:Option ae}{d:V}{d':ae}(r:xp o u)(rd:RelV d d'):RelV (o.getD d) (u.getD d'):=by
 cases o with
 |none=> cases u with
  |none=> exact rd
  |some _=> exact (show False from r).elim
 |some _=> cases u with
  |none=> exact (show False from r).elim
  |some _=> exact r
theorem KV.val{kvs:List (κ×V)}{vs:List (κ×ae)}(r:KV kvs vs)(k:κ):xp (yh kvs k) (valueAt vs k):=by
 unfold KV at r
 induction r with
 |nil=> exact cD
 | @cons p q ps qs h t ih=>
  obtain⟨h1,h2⟩:=h
  by_cases e:p.1=k
  ·have e':q.1=k:=h1.symm.trans e
   have b:valueAt (q::qs) k=some q.2:=by simp [valueAt,cw,e']
   rw [z6 e,b];exact h2
  ·have e': ¬q.1=k:=fun z=> e (h1.trans z)
   have b:valueAt (q::qs) k=valueAt qs k:=by simp [valueAt,cw,e']
   rw [aa3 e,b];exact ih
theorem KV.any{kvs:List (κ×V)}{vs:List (κ×ae)}(r:KV kvs vs)(k:κ):(kvs.any fun kv=> decide (kv.1=k))=vs.any fun kv=> decide (kv.1=k):=by
 unfold KV at r
 induction r with
 |nil=> rfl
 |cons h t ih=> rw [d5,d5,ih,h.1]
theorem KV.repl{kvs:List (κ×V)}{vs:List (κ×ae)}(r:KV kvs vs)(k:κ)(ry:RelV y u):
  KV (kvs.map fun kv=> if kv.1=k then (kv.1,y) else kv) (vs.map fun kv=> if kv.1=k then (kv.1,u) else kv):=by
 unfold KV at r⊢
 induction r with
 |nil=> exact .nil
 | @cons p q ps qs h t ih=>
  rw [aN,aN]
  refine .cons ?_ ih
  obtain⟨h1,h2⟩:=h
  by_cases e:p.1=k
  ·rw [if_pos e,if_pos (h1.symm.trans e)];exact⟨h1,ry⟩
  ·rw [if_neg e,if_neg (fun z=> e (h1.trans z))];exact⟨h1,h2⟩
theorem KV.put{kvs:List (κ×V)}{vs:List (κ×ae)}(r:KV kvs vs)(k:κ)(ry:RelV y u):KV (ki kvs k y) (stored vs k u):=by
 unfold ki stored
 rw [r.any k]
 by_cases e:(vs.any fun kv=> decide (kv.1=k))=true
 ·rw [if_pos e,if_pos e];exact r.repl k ry
 ·rw [if_neg e,if_neg e];exact nM r ⟨rfl,ry⟩
theorem KV.length{kvs:List (κ×V)}{vs:List (κ×ae)}(r:KV kvs vs):kvs.length=vs.length:=dH r
end
theorem afo{k:Key}(r:RelV (kV k) u):(ko P w).is k u=true:=by
 cases k with
 |inl i=> obtain⟨t,e⟩:=(show∃t,u=eE i t from r);subst e;exact ani P w i t
 |inr x=> obtain⟨t,e⟩:=(show∃t,u=g6 x t from r);subst e;exact anj P w x t
theorem ajv{P:aI}{w:aM}: ∀{ks:List Key} {us:List ae},jj (ks.map kV) us -> ItemsAre (ko P w) ks us
 |[],_,r=> by rw [hZ]at r;cases r;exact .nil
 |k::ks,_,r=> by
  rw [aN]at r
  cases r with
  |cons h t=> exact .cons (afo h) (ajv t)
abbrev KT(H:Hp):List (List Key×V) -> List (List Key×Addr×ae) -> Prop:=jT fun p q=> p.1=q.1/\H q.2.1=some (.tup (p.1.map kV))/\RelV p.2 q.2.2
theorem KT.val{kvs:List (List Key×V)}{xs:List (List Key×Addr×ae)}(r:KT H kvs xs)(k:List Key):xp (yh kvs k) ((atKey xs k).map (·.2)):=by
 induction r with
 |nil=> exact cD
 | @cons p q ps qs h t ih=>
  obtain⟨h1,_,h2⟩:=h
  by_cases e:p.1=k
  ·have e':q.1=k:=h1.symm.trans e
   have b:atKey (q::qs) k=some q.2:=by simp [atKey,cw,e']
   rw [z6 e,b];exact h2
  ·have e': ¬q.1=k:=fun z=> e (h1.trans z)
   have b:atKey (q::qs) k=atKey qs k:=by simp [atKey,cw,e']
   rw [aa3 e,b];exact ih
theorem KT.repl{kvs:List (List Key×V)}{xs:List (List Key×Addr×ae)}(r:KT H kvs xs)(k:List Key)(ry:RelV y u):
  KT H (kvs.map fun kv=> if kv.1=k then (kv.1,y) else kv) (xs.map (putAt k u)):=by
 induction r with
 |nil=> exact .nil
 | @cons p q ps qs h t ih=>
  rw [aN,aN]
  refine .cons ?_ ih
  obtain⟨h1,h2,h3⟩:=h
  unfold putAt
  by_cases e:p.1=k
  ·rw [if_pos e,if_pos (h1.symm.trans e)];exact⟨h1,h2,ry⟩
  ·rw [if_neg e,if_neg (fun z=> e (h1.trans z))];exact⟨h1,h2,h3⟩
theorem KT.put{kvs:List (List Key×V)}{xs:List (List Key×Addr×ae)}(r:KT H kvs xs)(k:List Key)(hb:H b=some (.tup (k.map kV)))(ry:RelV y u):
  KT H (ki kvs k y) (storedH xs k b u):=by
 have e:(kvs.any fun kv=> decide (kv.1=k))=(atKey xs k).isSome:=by
  rw [ac5,(r.val k).isSome_eq,jI]
 unfold ki storedH
 rw [e]
 by_cases q:(atKey xs k).isSome=true
 ·rw [if_pos q,if_pos q];exact r.repl k ry
 ·rw [if_neg q,if_neg q];exact nM r ⟨rfl,hb,ry⟩
theorem KT.keeps{kvs:List (List Key×V)}{xs:List (List Key×Addr×ae)}(r:KT H kvs xs)(ht: ∀b ys,H b=some (.tup ys) -> H' b=some (.tup ys)):KT H' kvs xs:=
 Paired.mapP r fun _ _ z=> ⟨z.1,ht _ _ z.2.1,z.2.2⟩
theorem axj{u:HO}(ok:HOk P w H h)(e:Rd H a u):jx P w H h a u:=e.ok ok
theorem aqb{kvs:List (Key×V)}(ok:HOk P w H h)(e:Rd H a (.dK kvs)):kvs.length <=sizeLine/\(a==bI)=false/\ ∃vs,KV kvs vs/\h.DictOf (ko P w) a vs:=
 (show jx P w H h a (.dK kvs) from axj ok e).2
theorem ai8{kvs:List (Key×V)}(ok:HOk P w H h)(e:H a=some (.dK kvs)):kvs.length <=sizeLine/\(a==bI)=false/\ ∃vs,KV kvs vs/\h.DictOf (ko P w) a vs:=aqb ok (.inl e)
theorem ahb{ks:List Key}(ok:HOk P w H h)(e:H a=some (.tup (ks.map kV))):(g7 (ko P w)).is h ks a:=by
 obtain⟨_,its,r,p⟩:=(show jx P w H h a (.tup (ks.map kV)) from ok a _ e)
 obtain⟨o,h1,h2,n,h3⟩:=p.tup
 exact⟨o,its.toArray,n,h1,h2,h3,by simpa using ajv r⟩
theorem aqd{kvs:List (List Key×V)}(ok:HOk P w H h)(e:Rd H a (.dT kvs)):kvs.length <=sizeLine/\(a==bI)=false/\
  ∃xs,KT H kvs xs/\h.DictOfH (g7 (ko P w)) a xs:=by
 obtain⟨z,y,xs,r,o,es,ep,h1,h2,h3,h4,h5⟩:=(show jx P w H h a (.dT kvs) from axj ok e)
 refine⟨z,y,xs,r,o,es,ep,h1,h2,h3,h4,fun x hx=> ?_,h5⟩
 have all: ∀{l:List (List Key×V)} {m:List (List Key×Addr×ae)},KT H l m -> ∀x∈m,(g7 (ko P w)).is h x.1 x.2.1:=by
  intro l m q
  induction q with
  |nil=> intro x hx;exact nomatch hx
  | @cons p q ps qs hq t ih=>
   intro x hx
   rcases aE.mp hx with e|hx
   ·subst e
    exact ahb ok (by rw [←hq.1];exact hq.2.1)
   ·exact ih x hx
 exact all r x hx
theorem a4v{kvs:List (List Key×V)}(ok:HOk P w H h)(e:H a=some (.dT kvs)):kvs.length <=sizeLine/\(a==bI)=false/\
  ∃xs,KT H kvs xs/\h.DictOfH (g7 (ko P w)) a xs:=aqd ok (.inl e)
def aig(H:Hp)(a:Addr)(y:V)(r:Option V):Prop:=
 (∃kvs k,Rd H a (.dK kvs)/\y=kV k/\r=yh kvs k)\/ ∃kvs k b,Rd H a (.dT kvs)/\y=.ref b/\H b=some (.tup (k.map kV))/\r=yh kvs k
def apa(H:Hp)(a:Addr)(y v:V)(H':Hp):Prop:=
 (∃kvs k,H a=some (.dK kvs)/\y=kV k/\kvs.length < sizeLine/\H'=upd H a (.dK (ki kvs k v)))\/
 ∃kvs k b,H a=some (.dT kvs)/\y=.ref b/\H b=some (.tup (k.map kV))/\kvs.length < sizeLine/\H'=upd H a (.dT (ki kvs k v))
theorem aig.k{kvs:List (Key×V)}{k:Key}(e:H a=some (.dK kvs)):aig H a (kV k) (yh kvs k):=.inl ⟨kvs,k,.inl e,rfl,rfl⟩
theorem apa.k{kvs:List (Key×V)}{k:Key}(e:H a=some (.dK kvs))(hl:kvs.length < sizeLine):apa H a (kV k) v (upd H a (.dK (ki kvs k v))):=.inl ⟨kvs,k,e,rfl,hl,rfl⟩
section
variable{X:Cx}{pins:List (Addr×Obj)}{σ:St}{H:Hp}{s:ag}{a:Addr}{y v:V}{u r:ae}{o:Option V}{A:aZ}{E:ae -> ag -> Prop}
theorem Inv.big(I:Inv X pins σ H s):bI < s.heap.objs.size:=by
 have h:aY < s.heap.objs.size:=(I.mod.glob.keeps I.bk).lt
 exact fB (by decide) h
theorem abt{t':Nat}{ob:HO}(I:Inv X pins σ H s)(mu:Mut (H a))(hs:bi a s.heap h')(he: ∃q,h'.get? a=some q)(new:jx X.prog X.w (upd H a ob) h' a ob):
  Inv X pins σ (upd H a ob) {s with heap:=h',toks:=t'}:=
 I.write (x:=a) (e:=a) mu (.inl rfl) (fun b q hb z=> (hs.2 b hb).trans z) he new
theorem ar8{κ:Type}[DecidableEq κ](kvs:List (κ×V))(k:κ)(v:V):ki kvs k v≠ []:=by
 unfold ki
 split
 ·rename_i c
  intro z
  rw [List.map_eq_nil_iff]at z
  subst z;simp at c
 ·simp
theorem at2{kvs:List (Key×V)}{vs:List (Key×ae)}(z:kvs.length <=sizeLine)(hd:(a==bI)=false)(rel:KV kvs vs)(dd:h'.DictOf (ko P w) a vs)(ne:kvs=[] -> Emp h' a:=by exact fun z=> absurd z (ar8 _ _ _)):
  jx P w H' h' a (.dK kvs):=⟨ne,z,hd,vs,rel,dd⟩
theorem ast{Q:Unit -> ag -> Prop}(hu:A.units+1 < cLine)(I:Inv X pins σ H s)(g:apa H a y v H')(ry:RelV y u)(rv:RelV v r)(h: ∀s',Inv X pins σ H' s' -> Q () s'):
  wpAny (model X.prog X.w) A (setItem (.ref a) u r) Q E s:=by
 rcases g with ⟨kvs,k,e,ey,l,eH⟩|⟨kvs,k,b,e,ey,eb,l,eH⟩
 ·subst ey eH
  obtain⟨z,hd,vs,rel,dd⟩:=ai8 I.hok e
  have hz:vs.length <=sizeLine:=by rw [←rel.length];exact z
  have hl:(ki kvs k v).length <=sizeLine:=by have:=z4 kvs k v;lia
  refine wpAny_setItem_pairs (hsz:=hz) (afo ry) dd fun h' dd' hs=> h _ ?_
  have he: ∃q,h'.get? a=some q:=let ⟨q,_,_,hq,_⟩:=dd';⟨q,hq⟩
  exact abt I (by rw [e];exact cD) hs he (at2 hl hd (rel.put k rv) dd')
 ·subst ey eH
  cases (show u=bn b from ry)
  obtain⟨z,hd,xs,rel,dd⟩:=a4v I.hok e
  have hz:xs.length <=sizeLine:=by rw [←dH rel];exact z
  have hl:(ki kvs k v).length <=sizeLine:=by have:=z4 kvs k v;lia
  refine wpAny_setItem_heap (hsz:=hz) (iQ hu) (ahb I.hok eb) dd fun h' dd' hs=> h _ ?_
  obtain⟨q,es,ep,hq,h2,h3,h4,_,h5⟩:=dd'
  refine abt I (by rw [e];exact cD) hs ⟨q,hq⟩ ⟨hl,hd,_,(rel.put k eb rv).keeps fun c ys ec=> ?_,q,es,ep,hq,h2,h3,h4,h5⟩
  rw [j7 (a48 ec e (fun z=> nomatch z))]
  exact ec
end
theorem aus(h:Heap)(hb:bI < h.objs.size):jx P w H (h.push {cls:=.type "dict",data:=.dict #[]}) h.objs.size (.dK []):=
 ⟨fun _=> ⟨_,aA _ rfl,⟨rfl,rfl,rfl⟩,rfl⟩,bP _,beq_eq_false_iff_ne.mpr (bY (aH hb)),[],.nil,Heap.DictOf.new h⟩
def a3g:TE:=fun _ H Q=> ∀p,H p=none -> Q (.ref p) (upd H p (.dK []))
theorem awp:PE X (.Dict [] [] pos) a3g:=.mk <|fun pins s σ H Q I h=>
 wpAny_Dict_empty ⟨.ref s.heap.objs.size,_,I.laid (a:=s.heap.objs.size) (o:=.dK []) (t':=s.toks) (fun _ _ q=> ak _ q) (ao _) (aus s.heap I.big),rfl,h _ (I.hok.fresh (ao _))⟩
structure M1 (X:Cx) (o:Expr) (m:Str) (apos:Pos) (e:Expr) (cpos:Pos):Prop where
 base:dZ o m X.env (eval o X.env)=eval o X.env
 few:((backTo cpos (starEach [e] X.env)).all (fun x=> !x.1)&&(backToKw cpos (fX [] X.env)).all (fun x=> x.1.isSome)
  &&decide (([e]:List Expr).length+([]:List gz).length+(if ([]:List gz).isEmpty then 0 else 1) < 30))=true
 line:(apos.endLine==cpos.line)=true
 trees:backTo cpos (starEach [e] X.env)=[(false,eval e X.env)]
structure M2 (X:Cx) (o:Expr) (m:Str) (apos:Pos) (e f:Expr) (cpos:Pos):Prop where
 base:dZ o m X.env (eval o X.env)=eval o X.env
 few:((backTo cpos (starEach [e,f] X.env)).all (fun x=> !x.1)&&(backToKw cpos (fX [] X.env)).all (fun x=> x.1.isSome)
  &&decide (([e,f]:List Expr).length+([]:List gz).length+(if ([]:List gz).isEmpty then 0 else 1) < 30))=true
 line:(apos.endLine==cpos.line)=true
 trees:backTo cpos (starEach [e,f] X.env)=[(false,eval e X.env),(false,eval f X.env)]
section
variable{X:Cx}{pins:List (Addr×Obj)}{σ:St}{H:Hp}{s:ag}{a:Addr}{y d:V}{u r:ae}{o:Option V}{A:aZ}{E:ae -> ag -> Prop}
theorem a31(hu:A.units+1 < cLine)(I:Inv X pins σ H s)(g:aig H a y o)(ry:RelV y u)(h: ∀w' s',Inv X pins σ H s' -> RelV (o.getD .non) w' -> Q w' s'):
  wpAny (model X.prog X.w) A (call (.builtin "dict.get") [.ref a,u]) Q E s:=by
 rcases g with ⟨kvs,k,e,ey,l⟩|⟨kvs,k,b,e,ey,eb,l⟩
 ·subst ey
  obtain⟨z,hd,vs,rel,dd⟩:=aqb I.hok e
  refine dB bZ dd.typeIs cX (gF _ _) (meets_dict_get (ko X.prog X.w) a (afo ry) hd) ⟨_,dd.mapOf,h _ _ (I.tok _) ?_⟩
  rw [l]
  exact (rel.val k).getD rfl
 ·subst ey
  cases (show u=bn b from ry)
  obtain⟨z,hd,xs,rel,dd⟩:=aqd I.hok e
  refine dB bZ dd.typeIs cX (gF _ _) (meetsH_dict_get (g7 (ko X.prog X.w)) a b hd) ⟨iQ hu,k,xs,ahb I.hok eb,dd,h _ _ (I.tok _) ?_⟩
  rw [l]
  exact (rel.val k).getD rfl
theorem a1b(hu:A.units+1 < cLine)(I:Inv X pins σ H s)(g:aig H a y o)(ry:RelV y u)(rd:RelV d r)(h: ∀w' s',Inv X pins σ H s' -> RelV (o.getD d) w' -> Q w' s'):
  wpAny (model X.prog X.w) A (call (.builtin "dict.get") [.ref a,u,r]) Q E s:=by
 rcases g with ⟨kvs,k,e,ey,l⟩|⟨kvs,k,b,e,ey,eb,l⟩
 ·subst ey
  obtain⟨z,hd,vs,rel,dd⟩:=aqb I.hok e
  refine dB bZ dd.typeIs cX (gG _ _ _) (meets_dict_get_default (ko X.prog X.w) a (afo ry) hd r) ⟨_,dd.mapOf,h _ _ (I.tok _) ?_⟩
  rw [l]
  exact (rel.val k).getD rd
 ·subst ey
  cases (show u=bn b from ry)
  obtain⟨z,hd,xs,rel,dd⟩:=aqd I.hok e
  refine dB bZ dd.typeIs cX (gG _ _ _) (kJ (g7 (ko X.prog X.w)) a b hd r) ⟨iQ hu,k,xs,ahb I.hok eb,dd,h _ _ (I.tok _) ?_⟩
  rw [l]
  exact (rel.val k).getD rd
end
end L2
namespace Att
open PySem PySem.W PySem.Calls PyProof.Rows
theorem ai3{P:Params}: ∀(ns:List Int) (vs:List ae),WellAll P h vs (ns.map WData.int) -> iC vs ns:=by
 intro ns
 induction ns with
 |nil=>
  intro vs w
  rw [hZ]at w
  cases w
  exact .nil
 | cons n ns ih=>
  intro vs w
  rw [aN]at w
  cases w with
  |cons a b=>
   cases a
   exact .cons _ _ (ih _ b)
theorem aqv{l:OpenLaw}(hn:l.most=some n){P:Params}{args:List WData}{vals:List ae}(hpre:l.row.toRowW.claim.pre args=true)(hwl:WellAll P h vals args):
  ∃a vs ns,vals=[bn a]/\args=[WData.list (ns.map WData.int)]/\h.get? a=some {cls:=.type "list",data:=.seq vs.toArray}/\iC vs ns/\ns.length <=n:=by
 have hsh:WShape.hasAll [] args [.list .int]=true:=(pre_splitW hpre).1
 have hc:l.pre.holds [] {args:=args}=true:=(pre_splitW hpre).2
 obtain⟨d,r,rfl,h1,h2⟩:=hasAllW_cons hsh
 obtain rfl:=hasAllW_nil h2
 obtain⟨xs,rfl,h3⟩:=hasW_list h1
 obtain⟨ns,rfl⟩:=items_int h3
 have hlen:ns.length <=n:=by
  unfold OpenLaw.pre at hc
  have h4:(WTm.not (.lt (.lit (.int (n:Int))) (.len (.arg 0)))).holds [] {args:=[.list (ns.map .int)]}=true:=by
   have h4:=(holds_andW hc).1
   rw [hn]at h4
   exact h4
  have h5:=condW_of h4 (w_not (w_lt w_lit (w_len_list (w_arg rfl))))
  rw [am]at h5
  refine bC fun q=> ?_
  have q':(n:Int) < ((ns.length:Nat):Int):=by lia
  first
   |(rw [decide_eq_true q']at h5;exact absurd h5 (by decide))
   |(simp at h5;lia)
 cases hwl with
 |cons w1 w2=>
  cases w2
  cases w1 with
  |list ho hall=> exact⟨_,_,ns,rfl,rfl,ho,ai3 ns _ hall,hlen⟩
theorem att(l:OpenLaw)(args:List WData):l.row.toRowW.claim.post args (.bool true) args=true:=
 postW_of (r:=l.row.toRowW) (X:=(true==true))
  (show WShape.has [] (.bool true) .bool=true by first|rfl|decide|simp [WShape.has,WShape.arms,WShape.armsAll])
  (show (WTm.eq .res (.lit (.bool true))).value [] {args:=args,res:=some (.bool true),after:=args}=some (.bool (true==true)) from w_eq_bool (w_res rfl) w_lit) rfl
theorem attach_call{l:OpenLaw}{q:aI}{loose:List Str}{XP:(Str -> Option ae) -> Heap -> Prop}{YP:aM -> Heap -> Prop}{d:DefRec}(hn:l.most=some n)(hdf:d.params.defaults=[])(call: ∀(w:aM) (s₀ s₁:ag) (mg mb:Str -> Option ae) (fa:Addr) (o:Obj) (pm cd doc:ae) (a:Addr) (vs:List ae) (ns:List Int),
   Ground q loose [] XP w s₀ mg mb s₁.heap -> YP w s₁.heap ->
   s₁.heap.get? fa=some o -> o.data=.func (docDef d.name d.params d.body d.scope pm cd doc) -> s₁.heap.CodeRec cd d.name -> mg d.name=some (.ref fa) ->
   s₁.heap.get? a=some {cls:=.type "list",data:=.seq vs.toArray} -> iC vs ns -> ns.length <=n -> s₁.gens= #[] ->
   codeAny (model l.prog w) callerA (.call (.ref fa) ⟨[.ref a],[]⟩) (fun r s'=> r=.ok (.ret (.bool true))/\OldK s₁.heap s'.heap/\s'.os=s₁.os/\gy s'.gens) s₁):
  WalkO q loose XP YP l.row.toRowW d [] (fun f vs=> PySem.call f vs):=by
 intro w s₀ s₁ mg mb G Y fa o pm cd doc dV kV ho hd hcd hD hmg hg args vals as hpre hlay hrd hwl hlo
 obtain rfl:dV=.none:=Dflts.none hD hdf
 obtain rfl:kV=.none:=Dflts.noKw hD
 obtain⟨a,vs,ns,rfl,rfl,hobj,hints,hlen⟩:=aqv hn hpre hwl
 refine enter_call (dm (call w s₀ s₁ mg mb fa o pm cd doc a vs ns G Y ho (fd_plain hd) hcd hmg hobj hints hlen hg) fun r s' hq=> ?_)
 obtain⟨rfl,h2,h3,h4⟩:=hq
 exact⟨.inl ⟨.bool true,.bool true,[],rfl,fun _=> rfl,.bool true,att l _,fun _=> ⟨gK,fun _ hm=> (nomatch hm)⟩⟩,h2,h3,h4⟩
end Att
namespace L2
open PySem PySem.Spec PyProof.Rows
theorem aju: ∀{vs:List ae} {ns:List Int},iC vs ns -> jj (ns.map V.int) vs
 |_,_,.nil=>.nil
 |_,_,.cons n t h=>.cons ⟨t,rfl⟩ (aju h)
def awb(H:Hp):Prop:= ∀b,H b=none\/ ∃o xs,H b=some (.frz o (.lst xs))
theorem avc{mb:Str -> Option ae}{CX:CXT}{k:Nat}{fa:Addr}{x:Str}{sp:Sp}{s₁:ag}{ns:List Int}(KX:K.In s₁.heap)(hns:s₁.heap.Ns aY mg)(hb:s₁.heap.Ns builtinsNs mb)(hbb: ∀x:Str,x≠"__name__" -> mb x=bT x)(hlim:s₁.heap.NoLimit)(hg:s₁.gens= #[])(ha:s₁.heap.get? a=some {cls:=.type "list",data:=.seq vs.toArray})(hi:iC vs ns)(hl:ns.length <=sizeLine)(hr:Room k callerA)(F: ∀base:Heap,K.In base -> base.Ns aY mg -> FnOk P w K mg base CX k fa fd [x] sp)(hbind: ∀(s:ag) (u:ae),lG s fd ⟨[u],[]⟩ [(x,u)])(hsp: ∀H:Hp,awb H -> SqL K H a (ns.map V.int) -> sp [.ref a] H (fun v _=> v=.bl true) fun _ _ _=> False)(hCX: ∀H e s',CX [] H s₁ (fun _ _ _=> False) e s' -> False):
  codeAny (model P w) callerA (.call (.ref fa) ⟨[.ref a],[]⟩) (fun r s'=> r=.ok (.ret (.bool true))/\OldK s₁.heap s'.heap/\s'.os=s₁.os/\gy s'.gens) s₁:=by
 have rv:=aju hi
 have lenV:=hi.length
 -- from an abstract heap in which nothing but the script may be tracked
 have core: ∀H:Hp,awb H -> SqL K H a (ns.map V.int) -> HOk P w H s₁.heap -> (∀b,H b≠none -> b=a) -> (H a≠none -> K.lookup a=none) ->
   codeAny (model P w) callerA (.call (.ref fa) ⟨[.ref a],[]⟩) (fun r s'=> r=.ok (.ret (.bool true))/\OldK s₁.heap s'.heap/\s'.os=s₁.os/\gy s'.gens) s₁:=by
  intro H hO hS hok hA hK
  have base_of: ∀{b:Addr} {o:Obj},s₁.heap.get? b=some o -> H b=none -> (adq s₁.heap H).get? b=some o:=fun e n=> awc e n
  have noA: ∀{b:Addr} {o:Obj} {es:Array c8} {ep:Nat},s₁.heap.get? b=some o -> o.data=.dict es ep -> H b=none:=fun {b o es ep} e d=> by
   cases q:H b with
   |none=> rfl
   |some u=>
    have e':b=a:=hA b (by rw [q];simp)
    subst e'
    rw [ha]at e;cases e
    have d':Data.seq vs.toArray _=Data.dict es ep:=d
    cases d'
  have nsK: ∀{b:Addr} {m:Str -> Option ae},s₁.heap.Ns b m -> (adq s₁.heap H).Ns b m:=fun {b m} ⟨o,es,ep,e,d,r⟩=> ⟨o,es,ep,base_of e (noA e d),d,r⟩
  have hKb:K.In (adq s₁.heap H):=fun b o e=> base_of (KX b o e) (by
   cases q:H b with
   |none=> rfl
   |some u=>
    have e':b=a:=hA b (by rw [q];simp)
    subst e'
    rw [hK (by rw [q];simp)]at e;cases e)
  have hM:Mod K mg (adq s₁.heap H):=⟨hKb,nsK hns,⟨mb,nsK hb,hbb⟩,let ⟨mc,h1,h2⟩:=hlim;⟨mc,nsK h1,h2⟩⟩
  have e0:Env0 P w K mg (adq s₁.heap H) callerA [] s₁ H:=⟨rfl,hM,fun b o e=> ayq e,dj (ati _ _),trivial,fun b hb=> absurd (show b∈([]:List Addr) from hb) (by simp),hok,.of_eq hg⟩
  refine dm ((F _ hKb (nsK hns)).run callerA [] s₁ H ⟨[.ref a],[]⟩ [.ref a] [.ref a] _ _ hr e0 (hbind s₁ (.ref a)) (.cons rfl .nil) (hsp H hO hS)) fun r s' h=> ?_
  cases r with
  |error e=> exact (hCX H e s' h).elim
  | ok fl=>
   cases fl with
   |next=> exact dq h
   |brk=> exact dq h
   |cont=> exact dq h
   | ret u=>
    obtain⟨v,H',os,bare,un,hok',r',q⟩:=h
    have q':v=.bl true:=q
    subst q'
    obtain rfl:u=ia true:=r'
    refine⟨rfl,OldK.of_keep fun b o e=> ?_,os,bare⟩
    cases q:H b with
    |none=> exact un.keep b o e q (by intro z;exact absurd (show b∈([]:List Addr) from z) (by simp)) (by simp)
    | some u=>
     rcases hO b with z|⟨ob,xs,z⟩
     ·rw [q]at z;cases z
     ·have z2:=un.frzs b ob _ z
      obtain⟨e1,_⟩:=hok b _ z
      obtain⟨e2,_⟩:=hok' b _ z2
      rw [e]at e1;cases e1
      exact e2
 cases hk:K.lookup a with
 |some o=>
  -- the script is one of the module's own objects
  have e:=KX a o hk
  rw [ha]at e
  cases e
  refine core (fun _=> none) (fun _=>.inl rfl) (.inr ⟨_,vs.toArray,_,hk,rfl,rfl,rfl,by rw [aC,lenV];exact hl,by simpa using rv⟩) (fun b u z=> by have z':(none:Option HO)=some u:=z;cases z') (fun b z=> absurd rfl z) fun z=> absurd rfl z
 | none=>
  refine core (fun b=> if b=a then some (.frz {cls:=.type "list",data:=.seq vs.toArray} (.lst (ns.map V.int))) else none) (fun b=> ?_) (.inl (.inr ⟨{cls:=.type "list",data:=.seq vs.toArray},if_pos rfl⟩)) (fun b u z=> ?_) (fun b z=> ?_) fun _=> hk
  ·by_cases hb:b=a
   ·exact .inr ⟨_,_,if_pos hb⟩
   ·exact .inl (if_neg hb)
  ·by_cases hb:b=a
   ·have z':=(if_pos hb).symm.trans z
    cases z'
    subst hb
    exact⟨ha,by rw [am];exact hl,vs,_,rv,ha⟩
   ·have z':=(if_neg hb).symm.trans z
    cases z'
  ·by_cases hb:b=a
   ·exact hb
   ·exact absurd (if_neg hb) z
theorem az2{l:kU}{k:Nat}{q:aI}{loose:List Str}{XP:(Str -> Option ae) -> Heap -> Prop}{YP:aM -> Heap -> Prop}{d:DefRec}{K:Params -> aj}{CX:aM -> CXT}{sp:aM -> Sp}{x:Str}(hn:l.most=some n)(hn2:n <=sizeLine)(hdf:d.params.defaults=[])(hr:Room k callerA)(hY: ∀(w:aM) (h:Heap),YP w h -> (K w.params).In h)(F: ∀(w:aM) (mg:Str -> Option ae) (fa:Addr) (h:Heap),(K w.params).In h -> h.Ns aY mg -> mg d.name=some (.ref fa) ->
   ∃fd:dM,(∀(s:ag) (u:ae),lG s fd ⟨[u],[]⟩ [(x,u)])/\
    ∀base:Heap,(K w.params).In base -> base.Ns aY mg -> FnOk l.prog w (K w.params) mg base (CX w) k fa fd [x] (sp w)) (hsp: ∀(w:aM) (H:Hp) (a:Addr) (ns:List Int),ns.length <=n -> awb H -> SqL (K w.params) H a (ns.map V.int) -> sp w [.ref a] H (fun v _=> v=.bl true) fun _ _ _=> False) (hCX: ∀(w:aM) (H:Hp) (s:ag) (e:ae) (s':ag),CX w [] H s (fun _ _ _=> False) e s' -> False):
  PySem.W.WalkO q loose XP YP l.row.toRowW d [] (fun f vs=> PySem.call f vs):=by
 refine Att.attach_call hn hdf fun w s₀ s₁ mg mb fa o pm cd doc a vs ns G Y ho hd hcd hmg hobj hints hlen hg=> ?_
 have KX:=hY w _ Y
 obtain⟨fd,hb,hF⟩:=F w mg fa _ KX G.T.g hmg
 exact avc KX G.T.g G.T.b G.T.builtins G.T.nolimit hg hobj hints (bb hlen hn2) hr hF hb (fun H hO hS=> hsp w H a ns hlen hO hS) fun H e s'=> hCX w H s₁ e s'
noncomputable def yz(s:Stmt):Arguments:=match s with
 |.FunctionDef _ a _ _ _ _ _ _ _ _=> a
 |_=> {posonlyargs:=[],args:=[],vararg:=none,kwonlyargs:=[],kw_defaults:=[],kwarg:=none,defaults:=[]}
noncomputable def vn(s:Stmt):List Stmt:=match s with
 |.FunctionDef _ _ b _ _ _ _ _ _ _=> b
 |_=> []
noncomputable def ji(s:Stmt):dS:=match s with
 |.FunctionDef _ _ _ _ _ _ sc _ _ _=> sc
 |_=> {kind:=.function,names:=[],isGenerator:=false,isCoroutine:=false}
abbrev CX0:CXT:=fun _ _ _ _ _ _=> False
structure Fun (K:aj) (x qual:Str) (st:Stmt) (f:Addr) (fd:dM):Prop where
 ex: ∃(oc:ae) (od:Option Addr) (kV doc pm:ae) (an:Option Addr) (cdv ct:ae) (osl:Array (Option ae)),
  fd=cI x qual (yz st) (vn st) (ji st) .none kV doc pm an cdv ct/\K.lookup f=some ⟨oc,od,.func fd,osl⟩/\eI K cdv qual=true
 kp:cz K (.ref f)=true
theorem Fun.binds{x:Str}{st:Stmt}(F:Fun K x qual st f fd)(h: ∀(kV doc pm:ae) (an:Option Addr) (cdv ct:ae) (us:List ae),us.length=ps.length -> bindArgs (cI x qual (yz st) (vn st) (ji st) .none kV doc pm an cdv ct) ⟨us,[]⟩=pure (ps.zip us)):Binds K fd ps []:=by
 obtain⟨oc,od,kV,doc,pm,an,cdv,ct,osl,rfl,lk,hcd⟩:=F.ex
 exact .all (h kV doc pm an cdv ct)
theorem acd{x:Str}{st:Stmt}{oc:ae}{od an:Option Addr}{kV doc pm cdv ct:ae}(l:K.lookup f=some ⟨oc,od,.func (cI x qual (yz st) (vn st) (ji st) .none kV doc pm an cdv ct),osl⟩)(c:eI K cdv qual=true)(k:cz K (.ref f)=true):Fun K x qual st f (cI x qual (yz st) (vn st) (ji st) .none kV doc pm an cdv ct):=⟨⟨oc,od,kV,doc,pm,an,cdv,ct,osl,rfl,l,c⟩,k⟩
theorem as7(h:n <=1000):n < sizeLine:=iR h (by decide)
theorem pv(i:Nat){x:Str}(hN:X.N[i]?=some x:=by rfl)(hv:Vis X.env.scope x:=by first|exact aO rfl|exact bX (aO rfl)|exact bX (bX rfl))(hd:(x==("__debug__":Str))=false:=by decide)(hcd:(x==("__classdict__":Str))=false:=by decide):PE X (.Name x pos) (aty i):=at9 hN hv hd hcd
def j3(H H':Hp):Prop:= ∀b o,H b=some o -> H' b=some o
theorem j3.seq(e:j3 H H')(h:SqL K H a xs):SqL K H' a xs:=by
 rcases h with (h|⟨o,h⟩)|h
 ·exact .inl (.inl (e _ _ h))
 ·exact .inl (.inr ⟨o,e _ _ h⟩)
 ·exact .inr h
noncomputable def vi(env:Env):List (Str×fk) -> List (Str×Addr) -> List (Str×Addr)
 |[],cs=> cs
 |(n,k)::r,cs=> vi env r (if k==.free then (match env.cells.lookup n with|some c=> (n,c)::cs|none=> cs) else cs)
theorem agn{env:Env}: ∀{l:List (Str×fk)} {cs:List (Str×Addr)},(∀n c,(n,c)∈cs -> env.cells.lookup n=some c) -> ∀n c,(n,c)∈vi env l cs -> env.cells.lookup n=some c
 |[],cs,h,n,c,m=> h n c m
 | (n',k)::r,cs,h,n,c,m=> by
  unfold vi at m
  refine agn (l:=r) (fun a b q=> ?_) n c m
  split at q
  ·split at q
   ·rename_i c' hc
    rcases aE.mp q with z|z
    ·cases z;exact hc
    ·exact h a b z
   ·exact h a b q
  ·exact h a b q
theorem akb{env:Env}: ∀{l:List (Str×fk)} {cs:List (Str×Addr)} {p},p∈cs -> p∈vi env l cs
 |[],_,_,h=> h
 | (n,k)::r,cs,p,h=> by
  unfold vi
  refine akb (l:=r) ?_
  split
  ·split
   ·exact aw _ h
   ·exact h
  ·exact h
theorem agq{env:Env}: ∀{l:List (Str×fk)} {cs:List (Str×Addr)} {n:Str} {c:Addr},(n,bF)∈l -> env.cells.lookup n=some c -> (n,c)∈vi env l cs
 |[],_,_,_,h,_=> by cases h
 | (n',k)::r,cs,n,c,h,e=> by
  unfold vi
  rcases aE.mp h with z|z
  ·cases z
   refine akb ?_
   simp [e]
  ·exact agq z e
theorem abh(h: ∀n,(n,bF)∈scope.names -> ∃c,env.cells.lookup n=some c):closureFor scope env=pure (vi env scope.names []):=by
 have all: ∀(l:List (Str×fk)) (cs:List (Str×Addr)),(∀n,(n,bF)∈l -> ∃c,env.cells.lookup n=some c) ->
   (forIn l cs (fun (x:Str×fk) (r:List (Str×Addr))=> (match x with|(name,kind)=> if (kind==bF)=true then (do let a←cellOf env name;pure (ff ((name,a)::r))) else pure (ff r):Sem (ForInStep (List (Str×Addr))))))=(pure (vi env l cs):Sem (List (Str×Addr))):=by
  intro l
  induction l with
  |nil=> intro cs _;rfl
  | cons p r ih=>
   intro cs hl
   obtain⟨n,k⟩:=p
   have hr: ∀n,(n,bF)∈r -> ∃c,env.cells.lookup n=some c:=fun n m=> hl n (aw _ m)
   rw [List.forIn_cons]
   unfold vi
   by_cases hk:k=.free
   ·subst hk
    obtain⟨c,hc⟩:=hl n av
    have e:cellOf env n=pure c:=by unfold cellOf;rw [hc]
    simp only [beq_self_eq_true,if_true,e,hc]
    exact ih _ hr
   ·have hb:(k==bF)=false:=by simpa using hk
    simp only [hb,aT,if_false];exact ih _ hr
 unfold closureFor
 exact (congrArg (fun (z:Sem (List (Str×Addr)))=> z >>=fun r=> pure r) (all scope.names [] h)).trans rfl
def ju(X:Cx)(own caps:List Str)(scope:dS)(C:Addr)(fp:List Addr)(s:ag)(H:Hp):Cx where
 prog:=X.prog
 w:=X.w
 K:=X.K
 mg:=X.mg
 base:=X.base
 A:=X.A
 N:=own++caps
 s₀:=s
 H₀:=H
 env:=compEnvC scope (vi X.env scope.names []) C X.env
 outer:=X.stack
 stack:=X.stack
 ex:=fp
 fn:=fun _=> false
 calm:=X.calm
 pn:=[]
 xe:=fun _ _=> False
def ax7(X:Cx)(scope:dS)(y:Str)(j:Nat):Prop:=X.N[j]?=some y/\Vis X.env.scope y/\(X.env.kindOf y==some .local)=false/\((relabel scope X.env).names.lookup y==some .cell||(relabel scope X.env).names.lookup y==some .free)=true
def y9(X:Cx)(scope:dS):List Str -> List Nat -> Prop
 |[],[]=> True
 |y::ys,j::js=> ax7 X scope y j/\y9 X scope ys js
 |_,_=> False
noncomputable def xc(σ:St)(js:List Nat):St:=js.map fun j=> (σ[j]?).join
theorem y9.at{X:Cx}{scope:dS}{σ:St}: ∀{ys:List Str} {js:List Nat} {i:Nat} {y:Str} {v:V},y9 X scope ys js -> ys[i]?=some y -> (xc σ js)[i]?=some (some v) -> ∃j,ax7 X scope y j/\σ[j]?=some (some v)
 |[],[],i,y,v,_,h,_=> by simp at h
 | a::ys,j::js,0,y,v,c,h,e=> by
  simp at h;subst h
  refine⟨j,c.1,?_⟩
  simp [xc]at e
  cases q:σ[j]? with
  |none=>
   rw [q]at e
   cases e
  |some o=>
   rw [q]at e
   simp at e
   rw [e]
 |a::ys,j::js,i+1,y,v,c,h,e=> y9.at (i:=i) c.2 (by simpa using h) (by simpa [xc] using e)
 |[],_::_,_,_,_,c,_,_=> c.elim
 |_::_,[],_,_,_,c,_,_=> c.elim
theorem y9.len{X:Cx}{scope:dS}{σ:St}: ∀{ys:List Str} {js:List Nat},y9 X scope ys js -> (xc σ js).length=ys.length
 |[],[],_=> rfl
 |a::ys,j::js,c=> by simp only [xc,aN,az];exact congrArg (· +1) (y9.len (σ:=σ) c.2)
 |[],_::_,c=> c.elim
 |_::_,[],c=> c.elim
theorem zi{env:Env}: ∀{names:List (Str×fk)} {x:Str},(∀p∈names,p.2≠ .cell) ->
  ((names.map fun (n,k)=> if (k==bF&&env.scope.kind==.function&&env.kindOf n==some .cell) then (n,fT) else (n,k)).lookup x=some .cell\/
    (names.map fun (n,k)=> if (k==bF&&env.scope.kind==.function&&env.kindOf n==some .cell) then (n,fT) else (n,k)).lookup x=some .free) -> (x,bF)∈names
 |[],_,_,h=> by simp at h
 | (n,k)::r,x,hc,h=> by
  have hr: ∀p∈r,p.2≠ .cell:=fun p hp=> hc p (aw _ hp)
  have hk:k≠ .cell:=hc (n,k) av
  have step: ∀(b:Bool),(eF x ((if b=true then (n,fT) else (n,k))::r.map fun (n,k)=> if (k==bF&&env.scope.kind==.function&&env.kindOf n==some .cell) then (n,fT) else (n,k))=some .cell\/
     eF x ((if b=true then (n,fT) else (n,k))::r.map fun (n,k)=> if (k==bF&&env.scope.kind==.function&&env.kindOf n==some .cell) then (n,fT) else (n,k))=some .free) -> (b=true -> k=.free) -> (x,bF)∈(n,k)::r:=by
   intro b q hb
   cases hx:x==n with
   | true=>
    have e:x=n:=by simpa using hx
    subst e
    cases b with
    |true=> rw [hb rfl];exact av
    |false=>
     simp [cj]at q
     rcases q with q|q
     ·exact absurd q hk
     ·rw [q];exact av
   |false=>
    refine aw _ (zi (env:=env) hr ?_)
    cases b <;> simpa [cj,hx] using q
  exact step _ h fun q=> by simp at q;exact q.1.1
def adt(X:Cx)(ifs:List Expr)(t:TT):Prop:=
 ∀(pins:List (Addr×Obj)) (s:ag) (σ:St) (H:Hp) (Q:Bool -> Hp -> Prop),Inv X pins σ H s -> t σ H Q ->
  wpAny (model X.prog X.w) X.A (forIn ifs true fun c r=> if r=true then do let ok←isTrue c X.env (eval c X.env);pure (ff ok) else pure (ff r)) (TP X pins σ Q) X.xe s
noncomputable def a5p:TT:=fun _ H Q=> Q true H
theorem aur:adt X [] a5p:=fun _ _ _ H _ I h=> wpAny_tests_nil ⟨H,I,h⟩
theorem avp{c:Expr}{t:TT}(h:PT X c t):adt X [c] t:=fun pins s σ H Q I q=> wpAny_tests_one (h pins s σ H Q I q)
abbrev Wn(P:aI)(w:aM)(A:aZ){α:Type}(m:Sem α)(Q:α -> ag -> Prop)(s:ag):Prop:=wpAny (model P w) A m Q (fun _ _=> False) s
abbrev ah5(env:Env)(l:List Expr):Sem Bool:=forIn l true fun c r=> if r=true then do let b←isTrue c env (eval c env);pure (ff b) else pure (ff r)
def a3p (P:aI) (w:aM) (A:aZ) (it acc:ae) (tg elt:Expr) (l:List Expr) (env:Env) (fin:ag -> Prop) (again:ag -> Prop) (s:ag):Prop:=
 Wn P w A (pyNext it) (fun r a=> match r with
  |none=> fin a
  | some v=> Wn P w A (dU tg it v) (fun _ b=> Wn P w A (assign tg env v) (fun _ c=> Wn P w A (ah5 env l) (fun ok d=>
    if ok=true then Wn P w A (eval elt env) (fun x e=> Wn P w A (call (.builtin "list.append") [acc,x]) (fun _ g=> again g) e) d else again d) c) b) a) s
theorem azz{R:gh -> ag -> Prop}{elt tg:Expr}{l:List Expr}{sc:dS}{it acc:ae}(J:Nat -> ag -> Prop)(turn: ∀n s,J n s -> a3p P w A it acc tg elt l env (R (.ok .next)) (fun z=> ∃m,m < n/\J m z) s)(n:Nat)(h:J n s):codeAny (model P w) A (.compLoop (.ListComp elt [⟨tg,iter,l,0⟩] sc pos) 0 it acc env) R s:=by
 refine nq rfl J (fun k z hz=> ?_) n h
 have one:=turn k z hz
 show wpAny _ A (nN (compTurn (.ListComp elt [⟨tg,iter,l,0⟩] sc pos) 0 it acc env) fun x=> do g9 x env;kW x) _ _ z
 refine nO ?_
 rw [compTurn_list]
 refine aa (c6 (aa (bw one (fun r a ha=> ?_) fun _ _ f=> f.elim)))
 cases r with
 |none=> exact af ha
 | some v=>
  refine aa (bw ha (fun _ b hb=> aa (bw hb (fun _ c hc=> aa (bw hc (fun ok d hd=> ?_) fun _ _ f=> f.elim)) fun _ _ f=> f.elim)) fun _ _ f=> f.elim)
  cases ok with
  |false=>
   have q: ∃m,m < k/\J m d:=hd
   exact af ⟨rfl,q⟩
  |true=>
   have q:Wn P w A (eval elt env) (fun x e=> Wn P w A (call (.builtin "list.append") [acc,x]) (fun _ g=> ∃m,m < k/\J m g) e) d:=hd
   exact aa (aa (bw q (fun x e he=> aa (bw he (fun _ g hg=> af (af ⟨rfl,hg⟩)) fun _ _ f=> f.elim)) fun _ _ f=> f.elim))
def aw3(g:TG)(tt:TT)(te:TE)(k:Nat)(cap:St)(J:It)(H1:Hp)(Q:VK):Prop:=
 ∀ D,H1 D=none -> ∃W:Nat -> Nat -> List V -> Hp -> Prop,(∃m,W 0 m [] (upd H1 D (.lst [])))/\ ∀i m ys H,H D=some (.lst ys) -> W i m ys H ->
  (J.stop i H/\Q (.ref D) H)\/(J.go i H/\ ∀x H',J.yld i H x H' -> ∀vs:St,vs.length=k -> g x (vs++cap) H' fun σ2 H2=> (∃vs':St,vs'.length=k/\σ2=vs'++cap)/\tt σ2 H2 fun b H3=>
   if b=true then te σ2 H3 fun v H4=> H4 D=some (.lst ys)/\ys.length < sizeLine/\ ∃m',m' < m/\W (i+1) m' (ys++ [v]) (upd H4 D (.lst (ys++ [v]))) else H3 D=some (.lst ys)/\ ∃m',m' < m/\W (i+1) m' ys H3)
def tLc(js:List Nat)(k:Nat)(wi:TI)(g:TG)(tt:TT)(te:TE):TE:=fun σ H Q=> wi σ H fun J H1=> aw3 g tt te k (xc σ js) J H1 Q
section
variable{X:Cx}{own caps:List Str}{js:List Nat}{scope:dS}{tg iter elt:Expr}{ifs:List Expr}{wi:TI}{g:TG}{tt:TT}{te:TE}{pos:Pos}
theorem ar9{H2:Hp}{s2:ag}{it:Addr}{tn:Nat -> Heap -> Prop}{J:It}{Q:VK}{post:ae -> Addr -> gh -> ag -> Prop}(hcalm:X.calm=true)(hkind:scope.kind=.function)(hcell:(scope.names.any fun p=> p.2==.cell)=false)(hk:(scope.names.all fun p=> !(p.2==.free)||(X.env.kindOf p.1==some .cell||X.env.kindOf p.1==some .free))=true)(hcap:y9 X scope caps js)(hg: ∀C fp s H,PG (ju X own caps scope C fp s H) tg g)(hi: ∀C fp s H,adt (ju X own caps scope C fp s H) ifs tt)(he: ∀C fp s H,PE (ju X own caps scope C fp s H) elt te)(I2:Inv X pins σ H2 s2)(T:Turn X.prog X.w X.K tg J fp it tn)(st2:tn 0 s2.heap)(f2: ∀b∈fp,zo X pins H2 b)(hw:aw3 g tt te own.length (xc σ js) J H2 Q)(hpost: ∀D C s' m H',s'.heap.Ns C m -> s2.heap.objs.size <=C -> zo X pins H' C -> Inv X pins σ H' s' -> Q (.ref D) H' -> post (.ref D) C (.ok .next) s'):
  wpAny (model X.prog X.w) X.A (newList []) (fun acc s₃=> wpAny (model X.prog X.w) X.A (newFunctionEnv scope X.env.globals (vi X.env scope.names []) [] X.env.qual none .none (some X.env)) (fun cenv s₄=>
   codeAny (model X.prog X.w) X.A (.compStart (.ListComp elt [⟨tg,iter,ifs,0⟩] scope pos) 0 (.ref it) acc {cenv with scope:=relabel scope X.env}) (post acc cenv.locals) s₄) E s₃) E s2:=by
 have hcell': ∀y∈scope.names,y.2≠ .cell:=fun y hy e=> by
  have:=(jF.mp hcell) y hy
  simp [e]at this
 have hfr: ∀n,(n,bF)∈scope.names -> X.env.kindOf n=some .cell\/X.env.kindOf n=some .free:=fun n hn=> by
  have:=(ay.mp hk) _ hn
  simpa using this
 refine bJ (l8 hcell' (by intro y hy;simp at hy) (fun h₁ hns₁ hsb₁=> ?_) hkind)
 dsimp only at hns₁ hsb₁⊢
 generalize hHp:s2.heap.push {cls:=.type "list",dict:=none,data:=.seq ([]:List ae).toArray}=G2 at hns₁ hsb₁⊢
 have hC:G2.objs.size=s2.heap.objs.size+1:=by rw [←hHp,bA]
 obtain⟨D,hDe⟩: ∃D:Nat,s2.heap.objs.size=D:=⟨_,rfl⟩
 obtain⟨C,hCe⟩: ∃C:Nat,G2.objs.size=C:=⟨_,rfl⟩
 rw [hCe]at hns₁ hsb₁
 rw [hDe,hCe]at hC
 show codeAny _ _ (.compStart _ 0 (.ref it) (.ref s2.heap.objs.size) (compEnvC scope (vi X.env scope.names []) G2.objs.size X.env)) (post (.ref s2.heap.objs.size) G2.objs.size) _
 rw [hDe,hCe]
 have hDC:D≠C:=by lia
 have hDCl:D < C:=by lia
 have old: ∀b o,s2.heap.get? b=some o -> h₁.get? b=some o:=fun b o e=> by
  have hlt:b < D:=hDe▸aD e
  exact hsb₁.extBut b o (aH (fB hlt hDCl)) (ak _ (hHp▸ak _ e))
 have hD2:H2 D=none:=I2.hok.fresh (dj hDe)
 have hC2:H2 C=none:=I2.hok.fresh (by rw [hDe];lia)
 have accD:h₁.get? D=some {cls:=.type "list",data:=.seq ([]:List ae).toArray}:=hsb₁.extBut _ _ hDC (ak _ (hHp▸hDe▸aA _ rfl))
 obtain⟨W,⟨m0,w0⟩,turn⟩:=hw D hD2
 -- the block's own state
 have fpn: ∀b∈fp,H2 b=none:=fun b hb=> (f2 b hb).1
 have fplt: ∀b∈fp,b < D:=fun b hb=> by obtain⟨o,e,_⟩:=T.obj _ _ st2 b hb;exact hDe▸aD e
 have clsub: ∀n c,(n,c)∈vi X.env scope.names [] -> X.env.cells.lookup n=some c:=agn (by intro _ _ z;cases z)
 have cllook: ∀n c,(vi X.env scope.names []).lookup n=some c -> X.env.cells.lookup n=some c:=fun n c e=> clsub n c (cW e)
 have clhas: ∀n,(n,bF)∈scope.names -> ∃c,(vi X.env scope.names []).lookup n=some c/\X.env.cells.lookup n=some c:=fun n hn=> by
  obtain⟨c,e⟩:=I2.ok.has n (hfr n hn)
  have m:=agq (cs:=[]) hn e
  cases q:(vi X.env scope.names []).lookup n with
  |none=>
   have:=kK.mp q _ m
   simp at this
  |some c'=> exact⟨c',rfl,cllook n c' q⟩
 have clt: ∀x c,(vi X.env scope.names []).lookup x=some c -> c < D:=fun x c e=> by
  obtain⟨v,z⟩:=I2.cell x c (cllook x c e)
  exact hDe▸z.lt
 have ok':(ju X own caps scope C fp s2 H2).Ok:=by
  refine⟨I2.ok.mod,hkind,I2.ok.glob,I2.ok.blt,?_,fun x y c e1 e2=> I2.ok.inj x y c (cllook x c e1) (cllook y c e2),fun x hx=> ?_,fun x c z=> (by cases z),I2.ok.hd,I2.ok.frames,.inl rfl,fun b hb=> ⟨?_,fun x c e=> ?_⟩,I2.bs,bb I2.ok.bsz I2.sz,fun b o e hb=> ?_,fun b hb hs=> ?_,I2.stack,I2.stkFree⟩
  ·show s2.heap.objs.size <=C
   rw [hDe];lia
  ·have hx':(relabel scope X.env).names.lookup x=some .cell\/(relabel scope X.env).names.lookup x=some .free:=hx
   obtain⟨c,e,_⟩:=clhas x (zi hcell' hx')
   exact⟨c,e⟩
  ·exact aH (fB (fplt b hb) hDCl)
  ·exact (f2 b hb).2.2.2.2.1 x c (cllook x c e)
  ·rcases (f2 b hb).2.2.2.1 with z|z
   ·exact I2.ok.noex b o e z
   ·exact absurd (aQ (aD (I2.ok.bs b o e).1) z) (cN _)
  ·rcases aE.mp (I2.stkSub b hs) with z|z
   ·exact (f2 b hb).2.1 z
   ·exact (f2 b hb).2.2.1 z
 have I4:Inv (ju X own caps scope C fp s2 H2) [] (bB own.length none++xc σ js) (upd H2 D (.lst [])) {s2 with heap:=h₁,toks:=s2.toks+([]:List (Str×ae)).length}:=by
  refine⟨ok',rfl,I2.bare,Un.laid old (dj hDe) hD2,⟨_,hns₁,fun i x v e1 e2 e3=> ?_⟩,fun x c e=> ?_,?_,fun x c e=> ?_,fun p hp=> absurd (show p∈([]:List (Addr×Obj)) from hp) (by simp),?_,?_⟩
  ·have e1:(own++caps)[i]?=some x:=e1
   by_cases hio:i < own.length
   ·rw [aJ (by simpa using hio),dJ]at e2
    split at e2 <;> cases e2
   ·have hle:own.length <=i:=bC hio
    rw [aW hle]at e1
    rw [aW (by simpa using hle)]at e2
    obtain⟨j,c,e⟩:=y9.at (σ:=σ) hcap e1 (by simpa using e2)
    obtain⟨c1,c2,c3,c4⟩:=c
    obtain⟨m,hn,hl⟩:=I2.loc
    obtain⟨u,r,lk⟩:=hl j x v c1 e c2
    refine⟨u,r,.inr ⟨?_,?_⟩⟩
    ·have c4':(relabel scope X.env).names.lookup x=some .cell\/(relabel scope X.env).names.lookup x=some .free:=by simpa using c4
     exact c4'
    ·have c4':(relabel scope X.env).names.lookup x=some .cell\/(relabel scope X.env).names.lookup x=some .free:=by simpa using c4
     obtain⟨c',q1,q2⟩:=clhas x (zi hcell' c4')
     rcases lk with ⟨k1,_⟩|⟨_,c'',k2,k3⟩
     ·rw [k1]at c3;simp at c3
     ·rw [q2]at k2;cases k2
      obtain⟨oc,hoc,hod⟩:=k3
      exact⟨c',q1,oc,old _ _ hoc,hod⟩
  ·obtain⟨v,oc,hoc,hod⟩:=I2.cell x c (cllook x c e)
   exact⟨v,oc,old _ _ hoc,hod⟩
  ·show upd H2 D (.lst []) C=none
   rw [j7 (bY hDC)];exact hC2
  ·rw [j7 (aH (clt x c e))];exact I2.freeC x c (cllook x c e)
  ·exact I2.hok.laid old (dj hDe) ⟨bP _,[],0,.nil,accD⟩
  ·show (bB own.length none++xc σ js).length=(own++caps).length
   rw [aG,aG,g8,hcap.len]
 have stat: ∀{H':Hp},(∀b∈fp,H' b=none) -> ∀b∈fp,zo (ju X own caps scope C fp s2 H2) [] H' b:=fun hn b hb=>
  ⟨hn b hb,(ok'.exf b hb).1,ok'.exfs b hb,.inl hb,(ok'.exf b hb).2,fun p hp=> absurd (show p∈([]:List (Addr×Obj)) from hp) (by simp)⟩
 have loop: ∀s₃:ag,s₃={s2 with heap:=h₁,toks:=s2.toks+([]:List (Str×ae)).length} ->
   codeAny (model X.prog X.w) X.A (.compLoop (.ListComp elt [⟨tg,iter,ifs,0⟩] scope pos) 0 (.ref it) (.ref D) (compEnvC scope (vi X.env scope.names []) C X.env)) (post (.ref D) C) s₃:=by
  rintro s₃ rfl
  refine azz (fun n s'=> ∃i vs ys H',vs.length=own.length/\Inv (ju X own caps scope C fp s2 H2) [] (vs++xc σ js) H' s'/\tn i s'.heap/\(∀b∈fp,H' b=none)/\H' D=some (.lst ys)/\W i n ys H') ?_ m0
   ⟨0,bB own.length none,[],upd H2 D (.lst []),by simp,I4,T.keep _ _ _ st2 fun b _ o e=> old b o e,fun b hb=> by rw [j7 (aH (fplt b hb))];exact fpn b hb,aa5,w0⟩
  rintro n s3 ⟨i,vs,ys,H3,hvs,I3,st3,fr3,hD3,w3⟩
  rcases turn i n ys H3 hD3 w3 with ⟨stop,qn⟩|⟨go,step⟩
  ·refine thn (T.done (ju X own caps scope C fp s2 H2) rfl rfl rfl hcalm i [] s3 _ H3 (fun _ _=> False) I3 (stat fr3) st3 stop) fun r s5 ⟨hr,I5⟩=> ?_
   subst hr
   obtain⟨m5,hn5,_⟩:=id I5.loc
   refine hpost D C s5 m5 H3 hn5 (by rw [hDe];lia) (I2.fpOk (by rw [hDe];lia) I5.free) ?_ qn
   exact I2.call' (ch:=fp) I5.os I5.base I5.hok I5.bare fun b hb=> ⟨(f2 b hb).2.2.2.1,(f2 b hb).2.1,(f2 b hb).2.2.2.2⟩
  ·refine thn (T.item (ju X own caps scope C fp s2 H2) rfl rfl rfl hcalm i [] s3 _ H3 (fun _ _=> False) I3 (stat fr3) st3 go) fun r s4 ⟨u,hr,h4⟩=> ?_
   subst hr
   refine thn h4 fun _ s5 ⟨x,H5,I5,r5,y5,st5,fr5⟩=> ?_
   have I5':=I5.pinned (stat fr5) (T.obj _ _ st5);refine thn (hg C fp s2 H2 _ s5 _ H5 x u _ I5' r5 (step x H5 y5 vs hvs)) fun _ s6 ⟨σ6,H6,I6,⟨vs6,hvs6,e6⟩,q6⟩=> ?_
   subst e6
   refine thn (hi C fp s2 H2 _ s6 _ H6 _ I6 q6) fun b s7 ⟨H7,I7,q7⟩=> ?_
   have again: ∀{H8:Hp} {s8:ag} {ys':List V},Inv (ju X own caps scope C fp s2 H2) ([]++abz fp s5.heap) (vs6++xc σ js) H8 s8 -> H8 D=some (.lst ys') -> (∃m',m' < n/\W (i+1) m' ys' H8) ->
     ∃m,m < n/\ ∃i vs ys H',vs.length=own.length/\Inv (ju X own caps scope C fp s2 H2) [] (vs++xc σ js) H' s8/\tn i s8.heap/\(∀b∈fp,H' b=none)/\H' D=some (.lst ys)/\W i m ys H':=fun {H8 s8 ys'} I8 hD8 w8=> by
    obtain⟨m',hm,w8⟩:=w8
    refine⟨m',hm,i+1,vs6,ys',H8,hvs6,I8.unpinned,T.keep _ _ _ st5 fun b hb o e=> (I8.pin (b,o) (a7 _ (a7 _ (xm hb e)))).1,fun b hb=> ?_,hD8,w8⟩
    obtain⟨o,e,d⟩:=T.obj _ _ st5 b hb
    exact (I8.pin (b,o) (a7 _ (a7 _ (xm hb e)))).2.1
   cases b with
   |false=> exact again I7 q7.1 q7.2
   |true=>
    refine thn (he C fp s2 H2 _ s7 _ H7 _ I7 q7) fun y s8 ⟨v,H8,I8,r8,hD8,hz8,q8⟩=> ?_
    refine thn (ak3 (X:=ju X own caps scope C fp s2 H2) _ s8 _ H8 (.ref D) [v] (.ref D) [y] (fun z H9=> H9=upd H8 D (.lst (ys++ [v]))) I8 rfl (.cons r8 .nil) ⟨D,ys,v,rfl,rfl,hD8,hz8,rfl⟩) fun _ s9 ⟨z,H9,I9,_,e9⟩=> ?_
    subst e9
    exact again I9 aa5 q8
 refine codeAny_compStart_list (loop _ rfl) (T.self _ 0 _ _ _ (T.keep _ _ _ st2 fun b _ o e=> old b o e) (loop _ rfl))
theorem a4y(hcalm:X.calm=true)(hkind:scope.kind=.function)(hnames:(scope.names.all fun p=> !(p.2==.local)||(scope.names.lookup p.1==some .local))=true)(hcell:(scope.names.any fun p=> p.2==.cell)=false)
  (hk:(scope.names.all fun p=> !(p.2==.free)||(X.env.kindOf p.1==some .cell||X.env.kindOf p.1==some .free))=true)
  (hcap:y9 X scope caps js) (hi:PI X tg iter wi) (hg: ∀C fp s H,PG (ju X own caps scope C fp s H) tg g) (ht: ∀C fp s H,adt (ju X own caps scope C fp s H) ifs tt) (he: ∀C fp s H,PE (ju X own caps scope C fp s H) elt te)
  (hs: ∀x,bN iter X.env x=pure x:=by intro _;rfl):PE X (.ListComp elt [⟨tg,iter,ifs,0⟩] scope pos) (tLc js own.length wi g tt te):=by
 refine⟨?_⟩
 intro pins s σ H Q I h
 have hfr: ∀n,(n,bF)∈scope.names -> X.env.kindOf n=some .cell\/X.env.kindOf n=some .free:=fun n hn=> by
  have:=(ay.mp hk) _ hn
  simpa using this
 have hn': ∀x∈scope.names,x.2=.local -> scope.names.lookup x.1=some .local:=fun x hx e=> by
  have:=(ay.mp hnames) _ hx
  simpa [e] using this
 rw [eval_ListComp]
 refine gm (use:=none) rfl hs (abh fun n hn=> I.ok.has n (hfr n hn)) hkind hn' (thn (hi pins s σ H _ I h) fun v s1 h1=> thn h1 fun itv s2 h2=> ?_)
 obtain⟨it,fp,tn,J,H2,e,I2,T,st2,f2,hw⟩:=h2
 subst e
 refine ar9 (iter:=iter) (pos:=pos) (post:=fun acc C=> compPost (model X.prog X.w) X.A X.xe none (EP X pins σ Q) acc C) hcalm hkind hcell hk hcap hg ht he I2 T st2 f2 hw ?_
 intro D C s' m H' hn _ f hI hq
 exact⟨m,hn,fun h' hs'=> ⟨.ref D,H',hI.turned (t':=s'.toks) (fun b o hb e=> (hs'.2 b hb).trans e) f.1 f.2.1 f.2.2.2.1 f.2.2.2.2.1 f.2.2.2.2.2,rfl,hq⟩⟩
theorem av1{y:Str}{py:Pos}{spos:Pos}(hsw:gg (.ListComp elt [⟨tg,iter,ifs,0⟩] scope pos) (some (.Name y py)) spos.line X.env=pure true)(hN:X.N.Nodup)(hy:X.N[i]?=some y)(hyl:X.env.scope.names.lookup y=some .local)(hcalm:X.calm=true)(hkind:scope.kind=.function)(hnames:(scope.names.all fun p=> !(p.2==.local)||(scope.names.lookup p.1==some .local))=true)(hcell:(scope.names.any fun p=> p.2==.cell)=false)(hk:(scope.names.all fun p=> !(p.2==.free)||(X.env.kindOf p.1==some .cell||X.env.kindOf p.1==some .free))=true)(hcap:y9 X scope caps js)(hi:PI X tg iter wi)(hg: ∀C fp s H,PG (ju X own caps scope C fp s H) tg g)(ht: ∀C fp s H,adt (ju X own caps scope C fp s H) ifs tt)(he: ∀C fp s H,PE (ju X own caps scope C fp s H) elt te)(hs: ∀x,bN iter X.env x=pure x:=by intro _;rfl):PS X (.Assign [.Name y py] (.ListComp elt [⟨tg,iter,ifs,0⟩] scope pos) spos) (fun D σ H=> tLc js own.length wi g tt te σ H fun v H'=> D.nx (σ.set i (some v)) H'):=by
 refine⟨?_⟩
 intro pins s σ H D I h
 have hfr: ∀n,(n,bF)∈scope.names -> X.env.kindOf n=some .cell\/X.env.kindOf n=some .free:=fun n hn=> by
  have:=(ay.mp hk) _ hn
  simpa using this
 have hn': ∀x∈scope.names,x.2=.local -> scope.names.lookup x.1=some .local:=fun x hx e=> by
  have:=(ay.mp hnames) _ hx
  simpa [e] using this
 rw [exec_Assign_Name_used _ _ _ _ hsw];refine aa (c6 (aa ?_))
 show wpAny _ _ (do let _←comprehension (.ListComp elt [⟨tg,iter,ifs,0⟩] scope pos) scope X.env _ (newList []) false (eval iter X.env) (some (assign (.Name y py) X.env))) _ _ s
 refine aa (bw (gm (use:=some (assign (.Name y py) X.env)) (Q:=fun _ s'=> SP X pins D .next s') rfl hs (abh fun n hn=> I.ok.has n (hfr n hn)) hkind hn'
  (thn (hi pins s σ H _ I h) fun v s1 h1=> thn h1 fun itv s2 h2=> ?_)) (fun _ s' hq=> af (af hq)) fun _ _ e=> e)
 obtain⟨it,fp,tn,J,H2,e,I2,T,st2,f2,hw⟩:=h2
 subst e
 refine ar9 (iter:=iter) (pos:=pos) (post:=fun acc C=> compPost (model X.prog X.w) X.A X.xe (some (assign (.Name y py) X.env)) (fun _ s'=> SP X pins D .next s') acc C) hcalm hkind hcell hk hcap hg ht he I2 T st2 f2 hw ?_
 intro Da C s' m H' hn hCs f I' hq
 show wpAny _ _ (assign (.Name y py) X.env (.ref Da)) _ _ _
 refine wpAny_assign_Name (akd (v:=.ref Da) (u:=.ref Da) I' hN hy (.inl hyl) rfl (fun s6 I6 hs6=> ?_) (.inr hyl))
 obtain⟨a,hsb,ha⟩:=hs6
 have haC:a≠C:=by
  rcases ha with z|z
  ·rw [z];exact bY f.2.1
  ·exact f.2.2.2.2.1 y a z
 exact⟨m,hn.sameBut hsb (bY haC),fun h' hs'=> ⟨σ.set i (some (.ref Da)),H',I6.turned (t':=s6.toks) (fun b o hb e=> (hs'.2 b hb).trans e) f.1 f.2.1 f.2.2.2.1 f.2.2.2.2.1 f.2.2.2.2.2,hq⟩⟩
end
def Has(K:aj)(mg:Str -> Option ae)(x:Str)(st:Stmt)(ps:List Str):Prop:=
 ∃(f:Addr) (fd:dM),Fun K x x st f fd/\mg x=some (.ref f)/\Binds K fd ps []
theorem ahr:bT "len"=some (.builtin "len"):=by decide+kernel
theorem yq:bT "repr"=some (.builtin "repr"):=by decide+kernel
theorem aav:bT "sorted"=some (.builtin "sorted"):=by decide+kernel
theorem ami:bT "isinstance"=some (.builtin "isinstance"):=by decide+kernel
theorem atm:bT "list"=some (.type "list"):=by decide+kernel
theorem abx:bT "tuple"=some (.type "tuple"):=by decide+kernel
theorem a3y:bT "set"=some (.type "set"):=by decide+kernel
noncomputable def tyD:ac -> String
 |.none=> "NoneType"
 |.bool _=> "bool"
 |.int _=> "int"
 |.str _=> "str"
 |.list _=> "list"
 |.tuple _=> "tuple"
 |.dict _=> "dict"
noncomputable def a2e(d:ac)(n:String):Bool:=match d with
 |.none=> n=="NoneType"
 |.bool _=> n=="bool"||n=="int"
 |.int _=> n=="int"
 |.str _=> n=="str"
 |.list _=> n=="list"
 |.tuple _=> n=="tuple"
 |.dict _=> n=="dict"
theorem aqy(K:aj)(d:ac)(n:String)(hn:n="str"\/n="int"\/n="bool"\/n="tuple"\/n="list"):PySem.W.kitOne K (.type (tyD d)) (.type n)=some (a2e d n):=by
 rcases hn with rfl|rfl|rfl|rfl|rfl <;> cases d <;> rfl
theorem azv(l:Addr)(its:Array ae)(n:Nat)(b:Addr)(jts:Array ae)(m:Nat)(dd:Option Addr)(sl:Array (Option ae))(z0: ¬(!its.isEmpty&&dw (its.size+jts.size))=true)(z1:its.size <=sizeLine)(z2:its.size+jts.size <=sizeLine+1):
  Meets (cG.«list.extend» ⟨[.ref l,.ref b],[]⟩) (fun _ R s=> s.heap.get? l=some {cls:=.type "list",data:=.seq its n}/\s.heap.get? b=some {cls:=.type "tuple",dict:=dd,data:=.seq jts m,slots:=sl}/\
   R (.ok (.ret aV)) {s with heap:=s.heap.update l (dP fun x=> x++jts),toks:=s.toks}):=
 .of_wp fun pr wo ar re st h=> by
  obtain⟨he,ge,dr,tk,oz⟩:=st
  obtain⟨hl,hb,h⟩:=h
  have f1:=PySem.AutoSeq1.idx_int
  have f2:=PySem.AutoSeq1.sub_tuple_tuple
  have f3:=PySem.AutoSeq1.sub_list_list
  have f4:=PySem.AutoSeq1.sub_tuple_list
  have f5:=PySem.AutoSeq1.sub_list_tuple
  have z3:(its++jts).size <=sizeLine+1:=by
   rw [Array.size_append]
   exact z2
  wp_walk using (kX hl rfl (hz:=z1) (_hz':=z3)),ic hl,ic hb
  exact⟨_,rfl,h⟩
def ave(K:aj):V -> List V -> Hp -> VK -> Prop:=fun x vs H Q=> ∃l b xs zs,x=.ref l/\vs=[.ref b]/\H l=some (.lst xs)/\SqT K H b zs/\xs.length+zs.length <=sizeLine/\Q .non (upd H l (.lst (xs++zs)))
theorem aqh:MtM X "list.extend" (ave X.K):=by
 intro pins s σ H x vs v us Q I rx rv h
 obtain⟨l,b,xs,zs,rfl,rfl,hH,hB,hz,q⟩:=h
 cases rx
 obtain⟨u,rfl,ru⟩:=rv.one
 cases ru
 obtain⟨z,its,n,r,hl,e⟩:=I.lstM hH
 obtain⟨jts,r2,p2,z2⟩:=I.tuple hB
 have hl2:=r2.length
 obtain⟨⟨c,dd,dt,sl⟩,e2,c2,m,d2⟩:=p2
 simp only at c2 d2
 subst c2 d2
 have hsz:its.toArray.size+jts.toArray.size <=sizeLine:=by rw [aC,aC];lia
 have hlong: ¬(!its.toArray.isEmpty&&dw (its.toArray.size+jts.toArray.size))=true:=by
  rw [amt hsz,lH]
  exact ax
 refine l6 F.slot_list_extend ⟨_,e,rfl⟩ mS (l7 _ _) (azv l its.toArray n b jts.toArray m dd sl hlong (by rw [aC];lia) (by lia)) ⟨e,e2,?_⟩
 refine⟨.non,_,I.lset (its':=its++jts) hH e (by simp) (r.append r2) ?_,rfl,q⟩
 rw [aG]
 lia
noncomputable def akx:Const -> Option V
 |.str x=> some (.str x)
 |.int i=> some (.int i)
 |.bool b=> some (.bl b)
 |.none=> some .non
 |_=> none
def adw:List Expr -> Option (List V)
 |[]=> some []
 | .Constant c _ _::r=> match akx c with
  |some v=> match adw r with
   |some vs=> some (v::vs)
   |none=> none
  |none=> none
 |_=> none
theorem avy{c:Const}:starEach (.Constant c j pos::es) env=(false,eval (.Constant c j pos) env)::starEach es env:=by rfl
noncomputable def tVs(vs:List V):TA:=fun _ H Q=> Q vs H
theorem aya{c:Const}(h:akx c=some v):PE X (.Constant c j pos) (tC v):=by
 cases c <;> simp [akx]at h <;> subst h
 all_goals first
  |exact a1g
  |exact arx
  |exact axb
  |exact at4
theorem ajp: ∀{es:List Expr} {vs:List V},adw es=some vs -> PA X es (tVs vs)
 |[],vs,h=> by
  cases h
  exact ahw
 | e ::es,vs,h=> by
  cases e with
  | Constant c j pos=>
   simp only [adw]at h
   cases h1:akx c with
   |none=>
    rw [h1]at h
    cases h
   | some v=>
    rw [h1]at h
    cases h2:adw es with
    |none=> rw [h2]at h;cases h
    |some ws=>
     rw [h2]at h
     cases h
     have p:=afq (aya (X:=X) (pos:=pos) (j:=j) h1) (ajp h2) avy
     exact p
  |_=> simp [adw]at h
structure New (H:Hp) (p:Addr) (o:HO) (H':Hp):Prop where
 no:H p=none
 eq:H'=upd H p o
theorem New.at(n:New H p o H'):H' p=some o:=by rw [n.eq,aa5]
theorem New.keep{u:HO}(n:New H p o H')(e:H b=some u):H' b=some u:=by rw [n.eq,j7 (yn e n.no)];exact e
structure Chg (H:Hp) (p:Addr) (o:HO) (H':Hp):Prop where
 eq:H'=upd H p o
theorem Chg.at(n:Chg H p o H'):H' p=some o:=by rw [n.eq,aa5]
theorem Chg.keep{u:HO}(n:Chg H p o H')(h:b≠p)(e:H b=some u):H' b=some u:=by rw [n.eq,j7 h];exact e
theorem PE.weak{t t':TE}(h:PE X e t)(k: ∀σ H Q,t' σ H Q -> t σ H Q):PE X e t':=.mk <|fun pins s σ H Q I q=> h pins s σ H Q I (k σ H Q q)
theorem OpR.weak{f:ae -> ae -> Sem ae}{r r':R2}(h:OpR X f r)(k: ∀x y H Q,r' x y H Q -> r x y H Q):OpR X f r':=fun pins s σ H x y v u Q I rx ry q=> h pins s σ H x y v u Q I rx ry (k x y H Q q)
theorem xv.weak{f:ae}{r r':List V -> Hp -> VK -> Prop}(h:xv X f r)(k: ∀xs H Q,r' xs H Q -> r xs H Q):xv X f r':=fun pins s σ H xs us Q I rv q=> h pins s σ H xs us Q I rv (k xs H Q q)
theorem MtM.weak{id:String}{r r':V -> List V -> Hp -> VK -> Prop}(h:MtM X id r)(k: ∀x xs H Q,r' x xs H Q -> r x xs H Q):MtM X id r':=fun pins s σ H x xs v us Q I rx rv q=> h pins s σ H x xs v us Q I rx rv (k x xs H Q q)
theorem SlR.weak{r r':V -> Option Int -> Option Int -> Hp -> VK -> Prop}(h:SlR X r)(k: ∀x lo hi H Q,r' x lo hi H Q -> r x lo hi H Q):SlR X r':=by
 intro pins s σ H x v vl vu lo hi sl Q I rx hs pl pu q
 exact h pins s σ H x v vl vu lo hi sl Q I rx hs pl pu (k x lo hi H Q q)
theorem agv.weak{t t':aqm}(h:agv X t)(k: ∀o i v H Q,t' o i v H Q -> t o i v H Q):agv X t':=fun pins s σ H o i v ov iv u Q I ro ri rv q=> h pins s σ H o i v ov iv u Q I ro ri rv (k o i v H Q q)
noncomputable def a51(t:TA):TE:=fun σ H Q=> t σ H fun xs H1=> xs.length <=sizeLine/\ ∀p H',New H1 p (.tup xs) H' -> Q (.ref p) H'
noncomputable def a57(t:TA):TE:=fun σ H Q=> t σ H fun xs H1=> xs.length <=sizeLine/\ ∀p H',New H1 p (.lst xs) H' -> Q (.ref p) H'
theorem ayt{t:TA}{x1 pos}(h:PA X es t):PE X (.Tuple es x1 pos) (a51 t):=by
 refine⟨?_⟩
 intro pins s σ H Q I hq
 refine wpAny_Tuple_spliced (thn (h pos pins s σ H _ I hq) fun us s1 ⟨xs,H1,I1,r,z,q⟩=> ⟨by rw [←r.length];exact z,?_⟩)
 have hf:H1 s1.heap.objs.size=none:=I1.hok.fresh (ao _)
 refine⟨.ref s1.heap.objs.size,upd H1 s1.heap.objs.size (.tup xs),I1.laid (t':=s1.toks) (fun b u e=> ak _ e) (ao _) ?_,rfl,q _ _ ⟨hf,rfl⟩⟩
 exact⟨z,us,r,⟨_,aA _ rfl⟩⟩
theorem azt{t:TA}{pos}(h:PA X es t):PE X (.List es pos) (a57 t):=by
 refine⟨?_⟩
 intro pins s σ H Q I hq
 refine wpAny_List_spliced (thn (h pos pins s σ H _ I hq) fun us s1 ⟨xs,H1,I1,r,z,q⟩=> ⟨by rw [←r.length];exact z,?_⟩)
 have hf:H1 s1.heap.objs.size=none:=I1.hok.fresh (ao _)
 refine⟨.ref s1.heap.objs.size,upd H1 s1.heap.objs.size (.lst xs),I1.laid (t':=s1.toks) (fun b u e=> ak _ e) (ao _) ?_,rfl,q _ _ ⟨hf,rfl⟩⟩
 exact⟨z,us,0,r,aA _ rfl⟩
def a50(K:aj):V -> Option Int -> Option Int -> Hp -> VK -> Prop:=fun x lo hi H Q=> ∃a xs,x=.ref a/\SqL K H a xs/\ ∀p H',New H p (.lst (aa0 xs lo hi)) H' -> Q (.ref p) H'
theorem avg:SlR X (a50 X.K):=a0j.weak fun x lo hi H Q ⟨a,xs,e,h,q⟩=> ⟨a,xs,e,h,fun p hp=> q p _ ⟨hp,rfl⟩⟩
def a4b(K:aj):V -> Option Int -> Option Int -> Hp -> VK -> Prop:=fun x lo hi H Q=> ∃a xs,x=.ref a/\SqT K H a xs/\ ¬(HT.sIx xs.length 0 lo=0/\HT.sIx xs.length xs.length hi=xs.length)/\ ∀p H',New H p (.tup (aa0 xs lo hi)) H' -> Q (.ref p) H'
theorem azy:SlR X (a4b X.K):=arb.weak fun x lo hi H Q ⟨a,xs,e,h,n,q⟩=> ⟨a,xs,e,h,n,fun p hp=> q p _ ⟨hp,rfl⟩⟩
noncomputable def a4r:R2:=fun x y H Q=> ∃l b xs zs,x=.ref l/\y=.ref b/\H l=some (.lst xs)/\H b=some (.lst zs)/\xs.length+zs.length <=sizeLine/\ ∀p H',New H p (.lst (xs++zs)) H' -> Q (.ref p) H'
theorem a0s:OpR X (binaryOp .Add) a4r:=a2w.weak fun x y H Q ⟨l,b,xs,zs,e1,e2,h1,h2,n,q⟩=> ⟨l,b,xs,zs,e1,e2,h1,h2,n,fun p hp=> q p _ ⟨hp,rfl⟩⟩
theorem aqr:xv X (.type "list") (fun xs H Q=> ∃p ys,xs=[.ref p]/\(SqL X.K H p ys\/SqT X.K H p ys)/\ ∀l H',New H l (.lst ys) H' -> Q (.ref l) H'):=
 alf.weak fun xs H Q ⟨p,ys,e,h,q⟩=> ⟨p,ys,e,h,fun l hl=> q l _ ⟨hl,rfl⟩⟩
theorem ad3:xv X (.type "tuple") (fun xs H Q=> ∃p ys,xs=[.ref p]/\((SqL X.K H p ys/\ ∀l H',New H l (.tup ys) H' -> Q (.ref l) H')\/(SqT X.K H p ys/\Q (.ref p) H))):=
 aki.weak fun xs H Q ⟨p,ys,e,h⟩=> ⟨p,ys,e,h.imp (fun⟨a,q⟩=> ⟨a,fun l hl=> q l _ ⟨hl,rfl⟩⟩) id⟩
def aw9:V -> List V -> Hp -> VK -> Prop:=fun x vs H Q=> ∃l xs y,x=.ref l/\vs=[y]/\H l=some (.lst xs)/\xs.length < sizeLine/\ ∀H',Chg H l (.lst (xs++ [y])) H' -> Q .non H'
theorem aqa:MtM X "list.append" aw9:=ak3.weak fun x vs H Q ⟨l,xs,y,e1,e2,h,n,q⟩=> ⟨l,xs,y,e1,e2,h,n,q _ ⟨rfl⟩⟩
def aug:V -> List V -> Hp -> VK -> Prop:=fun x vs H Q=> ∃l b xs zs,x=.ref l/\vs=[.ref b]/\H l=some (.lst xs)/\H b=some (.lst zs)/\xs.length+zs.length <=sizeLine/\ ∀H',Chg H l (.lst (xs++zs)) H' -> Q .non H'
theorem apq:MtM X "list.extend" aug:=asc.weak fun x vs H Q ⟨l,b,xs,zs,e1,e2,h,hb,n,q⟩=> ⟨l,b,xs,zs,e1,e2,h,hb,n,q _ ⟨rfl⟩⟩
def ar7(K:aj):V -> List V -> Hp -> VK -> Prop:=fun x vs H Q=> ∃l b xs zs,x=.ref l/\vs=[.ref b]/\H l=some (.lst xs)/\SqT K H b zs/\xs.length+zs.length <=sizeLine/\ ∀H',Chg H l (.lst (xs++zs)) H' -> Q .non H'
theorem anf:MtM X "list.extend" (ar7 X.K):=aqh.weak fun x vs H Q ⟨l,b,xs,zs,e1,e2,h,hb,n,q⟩=> ⟨l,b,xs,zs,e1,e2,h,hb,n,q _ ⟨rfl⟩⟩
def a2m:V -> V -> V -> Hp -> (Hp -> Prop) -> Prop:=fun o i v H Q=> ∃p xs k j,o=.ref p/\i=.int k/\H p=some (.lst xs)/\ixN xs.length k=some j/\ ∀H',Chg H p (.lst (xs.set j v)) H' -> Q H'
theorem ajl:agv X a2m:=au5.weak fun o i v H Q ⟨p,xs,k,j,e1,e2,h,n,q⟩=> ⟨p,xs,k,j,e1,e2,h,n,q _ ⟨rfl⟩⟩
end L2
namespace ST
open PySem PySem.SetTable
noncomputable def it(m:Nat):Nat -> Nat -> Nat
 |0,i=> i
 |r+1,i=> it m r ((i*5+1) % (m+1))
theorem am8(m a b i:Nat):it m (a+b) i=it m b (it m a i):=by
 induction a generalizing i with
 |zero=> rw [jX];rfl
 |succ a ih=> rw [show a+1+b=(a+b)+1 by lia];exact ih _
noncomputable def aqn(m:Nat):Nat -> Nat -> List Nat
 |0,_=> []
 |n+1,i=> i::aqn m n ((i*5+1) % (m+1))
theorem aet{m:Nat}: ∀{n i j:Nat},j∈aqn m n i -> ∃r,r < n/\it m r i=j
 |0,_,_,h=> by cases h
 | n+1,i,j,h=> by
  (rcases aE.mp h with rfl|h)
  ·exact⟨0,by lia,rfl⟩
  ·obtain⟨r,hr,e⟩:=aet h
   exact⟨r+1,by lia,e⟩
def cyc(m:Nat):Bool:=((a9 (m+1)).all fun j=> (aqn m (m+1) 0).contains j)&&(it m (m+1) 0==0)
theorem reach{m:Nat}(hc:cyc m=true)(hi:i <=m)(hj:j <=m): ∃r,r <=m/\it m r i=j:=by
 unfold cyc at hc
 simp only [aB,ay,bD,List.contains_iff_mem,beq_iff_eq]at hc
 obtain⟨a,ha,ea⟩:=aet (hc.1 i (by lia))
 obtain⟨b,hb,eb⟩:=aet (hc.1 j (by lia))
 by_cases h:a <=b
 ·refine⟨b - a,by lia,?_⟩
  rw [←ea,←am8,show a+(b - a)=b by lia,eb]
 ·refine⟨b+(m+1) - a,by lia,?_⟩
  rw [←ea,←am8,show a+(b+(m+1) - a)=(m+1)+b by lia,am8,hc.2,eb]
theorem cyc7:cyc 7=true:=by decide+kernel
theorem cyc31:cyc 31=true:=by decide+kernel
theorem cyc127:cyc 127=true:=by decide+kernel
noncomputable def lp(m:Nat):Nat -> Nat×Nat -> Nat×Nat
 |0,p=> p
 |n+1,p=> lp m n (leap m p.1 p.2)
theorem atr(m a b:Nat)(p:Nat×Nat):lp m (a+b) p=lp m b (lp m a p):=by
 induction a generalizing p with
 |zero=> rw [jX];rfl
 |succ a ih=> rw [show a+1+b=(a+b)+1 by lia];exact ih _
theorem aoi(m n:Nat)(p:Nat×Nat):lp m (n+1) p=leap m (lp m n p).1 (lp m n p).2:=by rw [atr];rfl
theorem aob(m:Nat): ∀(n:Nat) (p:Nat×Nat),(lp m n p).2=p.2/32^n
 |0,p=> by simp [lp]
 |n+1,p=> by
  rw [aoi]
  show (lp m n p).2/32=_
  rw [aob m n p,Nat.div_div_eq_div_mul,Nat.pow_succ]
theorem a41(m n:Nat)(p:Nat×Nat)(h:p.1 <=m):(lp m n p).1 <=m:=by
 cases n with
 |zero=> exact h
 |succ n=>
  rw [aoi]
  show _ % (m+1) <=m
  have:=fN ((lp m n p).1*5+1+(lp m n p).2/32) (show 0 < m+1 by lia)
  lia
theorem ax2(m:Nat): ∀(n i:Nat),lp m n (i,0)=(it m n i,0)
 |0,_=> rfl
 |n+1,i=> by
  show lp m n ((i*5+1+0/32) % (m+1),0/32)=_
  rw [Nat.zero_div,Nat.add_zero,ax2 m n]
  rfl
theorem an9{m p:Nat}(hc:cyc m=true)(hi:i <=m)(hp:p < 2^64)(hj:j <=m): ∃n,n <=13+m/\(lp m n (i,p)).1=j:=by
 have h13:lp m 13 (i,p)=((lp m 13 (i,p)).1,0):=by
  have:=aob m 13 (i,p)
  rw [Nat.div_eq_of_lt (aQ hp (by decide))]at this
  exact Prod.ext rfl this
 obtain⟨r,hr,e⟩:=reach hc (a41 m 13 (i,p) hi) hj
 refine⟨13+r,by lia,?_⟩
 rw [atr,h13,ax2,e]
noncomputable def adv(t:bq):Nat -> Probe -> Probe
 |0,p=> p
 |n+1,p=> adv t n (t.advance p)
theorem aby(t:bq)(a b:Nat)(p:Probe):adv t (a+b) p=adv t b (adv t a p):=by
 induction a generalizing p with
 |zero=> rw [jX];rfl
 |succ a ih=> rw [show a+1+b=(a+b)+1 by lia];exact ih _
theorem aay(t:bq)(n:Nat)(p:Probe):adv t (n+1) p=t.advance (adv t n p):=by rw [aby];rfl
theorem aj6(t:bq): ∀(n:Nat) (p:Probe),n <=p.more -> adv t n p={p with j:=p.j+n,more:=p.more - n}
 |0,p,_=> rfl
 |n+1,p,h=> by
  rw [aay,aj6 t n p (by lia)]
  unfold advance
  rw [if_pos (show p.more - n > 0 by lia)]
  simp only [Probe.mk.injEq,and_true,true_and]
  lia
noncomputable def blk(m:Nat)(p:Nat×Nat):Probe:={j:=p.1,more:=runEnd m p.1 - p.1,i:=p.1,perturb:=p.2,dummy:=none}
theorem a5i(m i:Nat):runEnd m i - i <=9:=by unfold runEnd;split <;> lia
theorem alw(t:bq)(p:Nat×Nat):adv t (runEnd t.mask p.1 - p.1+1) (blk t.mask p)=blk t.mask (leap t.mask p.1 p.2):=by
 rw [aay,aj6 t (runEnd t.mask p.1 - p.1) (blk t.mask p) (ao _)]
 unfold advance
 rw [if_neg (by simp [blk])]
 rfl
theorem arc(t:bq): ∀(n:Nat) (p:Nat×Nat),∃k,k <=10*n/\adv t k (blk t.mask p)=blk t.mask (lp t.mask n p)
 |0,p=> ⟨0,by lia,rfl⟩
 |n+1,p=> by
  obtain⟨k,hk,e⟩:=arc t n (leap t.mask p.1 p.2)
  refine⟨(runEnd t.mask p.1 - p.1+1)+k,by have:=a5i t.mask p.1;lia,?_⟩
  rw [aby,alw,e]
  rfl
theorem ajq(t:bq)(h:Int):t.probeStart h=blk t.mask (bits h % (t.mask+1),bits h):=rfl
theorem ao2(h:Int):bits h < 2^64:=by
 unfold bits
 have h0:=kY h (show (2^64:Int)≠0 by decide)
 have h1:=iS h (show (0:Int) < 2^64 by decide)
 have:(2:Int)^64=18446744073709551616:=by decide
 lia
theorem a4t(t:bq)(hc:cyc t.mask=true)(h:Int)(hj:j <=t.mask): ∃k,k < 10*turns t.mask/\(adv t k (t.probeStart h)).j=j:=by
 have hi:bits h % (t.mask+1) <=t.mask:=by have:=fN (bits h) (show 0 < t.mask+1 by lia);lia
 obtain⟨n,hn,e⟩:=an9 hc hi (ao2 h) hj
 obtain⟨k,hk,e2⟩:=arc t n (bits h % (t.mask+1),bits h)
 refine⟨k,by unfold turns;lia,?_⟩
 rw [ajq,e2]
 exact e
theorem adv_dummy(t:bq): ∀(n:Nat) (p:Probe),(adv t n p).dummy=p.dummy
 |0,_=> rfl
 |n+1,p=> by
  rw [aay,←adv_dummy t n p]
  unfold advance
  split <;> rfl
structure MeetE (t:bq) (ha:Nat -> Int) (h:Int) (p:Probe) (k:Nat):Prop where
 empty:t.slot (adv t k p).j=.empty
 live: ∀k',k' < k -> ∃i,t.slot (adv t k' p).j=.live i/\ha i≠h
structure MeetC (t:bq) (ha:Nat -> Int) (h:Int) (p:Probe) (k i:Nat):Prop where
 cand:t.slot (adv t k p).j=.live i
 hash:ha i=h
 live: ∀k',k' < k -> ∃i,t.slot (adv t k' p).j=.live i/\ha i≠h
theorem ale(t:bq)(ha:Nat -> Int)(h:Int)(nd: ∀j,t.slot j≠ .dummy): ∀(fuel:Nat) (p:Probe),p.dummy=none -> (∃k,k < fuel/\t.slot (adv t k p).j=.empty) ->
  (∃k,k < fuel/\MeetE t ha h p k/\probe.go t ha h fuel p=some (.empty (adv t k p).j none))\/(∃k i,k < fuel/\MeetC t ha h p k i/\probe.go t ha h fuel p=some (.candidate (adv t k p).j i (adv t (k+1) p)))
 |0,_,_,⟨k,hk,_⟩=> by lia
 | fuel+1,p,hd,⟨k,hk,e⟩=> by
  cases hs:t.slot p.j with
  |empty=> exact .inl ⟨0,by lia,⟨hs,fun k' h=> by lia⟩,by unfold probe.go;rw [hs];simp only [hd];rfl⟩
  |dummy=> exact absurd hs (nd _)
  | live i=>
   by_cases hh:ha i=h
   ·exact .inr ⟨0,i,by lia,⟨hs,hh,fun k' h=> by lia⟩,by unfold probe.go;rw [hs];simp only [hh,beq_self_eq_true,if_true];rfl⟩
   ·have hk0:k≠0:=fun z=> by subst z;rw [show adv t 0 p=p from rfl,hs]at e;cases e
    obtain⟨k2,rfl⟩: ∃k2,k=k2+1:=⟨k - 1,by lia⟩
    have g:probe.go t ha h (fuel+1) p=probe.go t ha h fuel (t.advance p):=by
     conv=> lhs;unfold probe.go
     rw [hs];simp only [beq_iff_eq,hh,if_false]
    have hl: ∀n,(∀k',k' < n -> ∃i,t.slot (adv t k' (t.advance p)).j=.live i/\ha i≠h) -> ∀k',k' < n+1 -> ∃i,t.slot (adv t k' p).j=.live i/\ha i≠h:=by
     intro n hn k' hk'
     cases k' with
     |zero=> exact⟨i,hs,hh⟩
     |succ k'=> exact hn k' (by lia)
    rcases ale t ha h nd fuel (t.advance p) (by have:=adv_dummy t 1 p;exact this.trans hd) ⟨k2,by lia,e⟩with ⟨n,a,b,c⟩|⟨n,i2,a,b,c⟩
    ·exact .inl ⟨n+1,by lia,⟨b.empty,hl n b.live⟩,g.trans c⟩
    ·exact .inr ⟨n+1,i2,by lia,⟨b.cand,b.hash,hl n b.live⟩,g.trans c⟩
abbrev Ris(l:List Nat):Prop:=l.Pairwise (· < ·)
theorem ris_get{l:List Nat}(h:Ris l){a b:Nat}(ha:a < b)(hb:b < l.length):l[a]'(by lia) < l[b]:=(f6.mp h) a b (by lia) hb ha
theorem agg(xs:Array Nat)(j:Nat)(h:Ris xs.toList): ∀(fuel lo hi:Nat),lo <=hi -> hi <=xs.size -> hi - lo <=fuel -> (∀i,i < lo -> xs.getD i j < j) -> (∀i,hi <=i -> i < xs.size -> j <=xs.getD i j) ->
  below.go xs j fuel lo hi <=xs.size/\(∀i,i < below.go xs j fuel lo hi -> xs.getD i j < j)/\(∀i,below.go xs j fuel lo hi <=i -> i < xs.size -> j <=xs.getD i j)
 |0,lo,hi,h1,h2,h3,h4,h5=> by
  unfold below.go
  exact⟨by lia,h4,fun i a b=> h5 i (by lia) b⟩
 | fuel+1,lo,hi,h1,h2,h3,h4,h5=> by
  unfold below.go
  split
  ·rename_i hlt
   have mono: ∀a b,a <=b -> b < xs.size -> xs.getD a j <=xs.getD b j:=by
    intro a b hab hb
    rcases Nat.lt_or_eq_of_le hab with z|z
    ·have:=ris_get h z (by rw [au];exact hb)
     simp only [cO,show a < xs.size by lia,hb,dif_pos]
     simpa using gf this
    ·subst z;exact ao _
   dsimp only
   split
   ·rename_i c
    refine agg xs j h fuel _ _ (by lia) h2 (by lia) (fun i hi'=> ?_) h5
    exact iR (mono i ((lo+hi)/2) (by lia) (by lia)) c
   ·rename_i c
    refine agg xs j h fuel _ _ (by lia) (by lia) (by lia) h4 (fun i a b=> ?_)
    exact bb (by lia) (mono ((lo+hi)/2) i a b)
  ·exact⟨by lia,h4,fun i a b=> h5 i (by lia) b⟩
theorem below_spec(xs:Array Nat)(j:Nat)(h:Ris xs.toList):below xs j <=xs.size/\(∀i,i < below xs j -> xs.getD i j < j)/\(∀i,below xs j <=i -> i < xs.size -> j <=xs.getD i j):=
 agg xs j h xs.size 0 xs.size (bP _) (ao _) (by lia) (fun i hi=> by lia) (fun i a b=> by lia)
theorem below_ix{xs:Array Nat}(h:Ris xs.toList)(e:xs[i]?=some j):below xs j=i:=by
 obtain⟨b1,b2,b3⟩:=below_spec xs j h
 have hi:i < xs.size:=(cb.mp e).1
 have ei:xs.getD i j=j:=by simp only [cO,hi,dif_pos];exact (cb.mp e).2
 have h1: ¬i < below xs j:=fun z=> by have:=b2 i z;lia
 have h2: ¬below xs j < i:=fun z=> by
  have hb:below xs j < xs.size:=by lia
  have:=b3 _ (ao _) hb
  have q:=ris_get h z (by rw [au];exact hi)
  have e2:xs.getD (below xs j) j=xs[below xs j]:=by simp only [cO,hb,dif_pos];rfl
  have e3:xs[i]=j:=(cb.mp e).2
  simp only [l9]at q
  lia
 lia
structure Ok (t:bq):Prop where
 nd:t.dummies= #[]
 ris:Ris t.place.toList
 le: ∀j∈t.place.toList,j <=t.mask
 room:t.place.size <=t.mask
 cyc:cyc t.mask=true
theorem has_nil(j:Nat):has #[] j=false:=by unfold has;simp
theorem slot_live(h:Ok t):t.slot j=.live i ↔ t.place[i]?=some j:=by
 unfold slot
 rw [h.nd,has_nil]
 dsimp only
 constructor
 ·intro e
  split at e
  ·rename_i c
   injection e with e
   rw [←e];simpa using c
  ·simp at e
 ·intro e
  rw [below_ix h.ris e,e]
  simp
theorem ae0(h:Ok t):t.slot j=.empty ↔ j∉t.place.toList:=by
 constructor
 ·intro e m
  obtain⟨i,hi⟩:=eC m
  rw [(slot_live h (i:=i)).mpr (by simpa using hi)]at e
  cases e
 ·intro m
  unfold slot
  rw [h.nd,has_nil]
  dsimp only
  split
  ·rename_i c
   exact absurd (di.mpr (lI (by simpa using c))) m
  ·simp
theorem azr(h:Ok t)(j:Nat):t.slot j≠ .dummy:=by
 unfold slot
 rw [h.nd,has_nil]
 dsimp only
 split <;> simp
theorem awf(h:Ok t): ∃j,j <=t.mask/\t.slot j=.empty:=by
 apply bV
 intro z
 have all: ∀j∈a9 (t.mask+1),j∈t.place.toList:=by
  intro j hj
  apply bV
  intro m
  exact z ⟨j,by have:=bD.mp hj;lia,(ae0 h).mpr m⟩
 have:=(gW (n:=t.mask+1)).length_le_of_subset all
 rw [cp,au]at this
 have:=h.room
 lia
end ST
namespace L2
open PySem PySem.Spec PyProof.Rows
def al1(w:aM)(k:Nat)(t:bq):Prop:=t.led= !(w.params.followText "set-order")/\(k≠0 -> t.plain=false\/ST.Ris t.place.toList)
theorem azf(t:bq)(es:Array (Int×ae))(h:Int)(x:ae):(layNew t es h x).2.1.led=t.led:=by
 have si: ∀(u:bq) (m:Nat),(u.orStandIn m).led=u.led:=fun u m=> by
  unfold SetTable.orStandIn
  by_cases c:u.fits m=true
  ·rw [if_pos c]
  ·rw [if_neg c];rfl
 unfold layNew
 cases t.freeSlot h with
 |none=> rfl
 |some q=>
  obtain⟨sl,wd⟩:=q
  exact (si _ _).trans rfl
theorem amz{t':bq}{hs:Array Int}{wd:Nat}{od:Array Nat}(e:t.relaid hs wd=some (t',od)):t'.led=t.led/\t'.plain=t.plain:=by
 unfold kZ mJ at e
 cases c:SetTable.layClean (c9 wd - 1) hs with
 |none=> rw [c]at e;cases e
 |some ow=>
  rw [c]at e
  simp only [iw,jY,lf,dG,iZ]at e
  obtain⟨rfl,_⟩:=e
  exact⟨rfl,rfl⟩
theorem ate(t:bq)(es:Array (Int×ae))(wd:Nat):(relayAll t es wd).2.1.led=t.led/\(t.plain=false -> (relayAll t es wd).2.1.plain=false):=by
 unfold relayAll
 cases c:t.relaid (es.map (·.1)) wd with
 |none=> exact⟨rfl,fun _=> rfl⟩
 |some q=>
  obtain⟨t',od⟩:=q
  obtain⟨k1,k2⟩:=amz c
  dsimp only
  split
  ·exact⟨k1,fun z=> k2.trans z⟩
  ·exact⟨rfl,fun _=> rfl⟩
theorem a5q(a:ae){Q1:ae -> ag -> Prop}(h:Q1 (.ref s.heap.objs.size) {s with heap:=s.heap.push {cls:=.type "set",dict:=none,data:=.set #[] 0 (.fresh 0 0 (!(w.params.followText "set-order")))}}):
  codeAny (model prog w) A (.call (.builtin "set.__new__") ⟨[.type "set",a],[]⟩) (wants Q1 E) s:=by
 refine ie (show wpAny _ A.in1 (do checkBuiltinCall "set.__new__" ⟨[.type "set",a],[]⟩;again (.builtin "set.__new__" ⟨[.type "set",a],[]⟩)) _ _ s from ?_)
 refine aa (nP (PySem.F.newCall_set_1 a) (af ⟨gV lJ _,fg PySem.F.entry_set_new ?_⟩))
 rw [eD lJ _];unfold cG.«set.__new__» Builtin.Frozenset.newClass
 have sb:=PySem.sub_set_self
 obtain⟨hp,g,d,tk,os⟩:=s;dsimp only
 wp_walk
 refine eS (af ?_);dsimp only;simp only [newObj]
 exact aa (wpAny_alloc (af (af h)))
noncomputable def qy{α:Type}[DecidableEq α](l:List α)(x:α):List α:=if x∈l then l else l++ [x]
def jt{α:Type}[DecidableEq α](xs:List α):List α:=xs.foldl qy []
theorem aer{α:Type}[DecidableEq α](xs:List α)(x:α):jt (xs++ [x])=qy (jt xs) x:=by unfold jt;rw [List.foldl_append];rfl
theorem ach{α:Type}[DecidableEq α]{l:List α}{x y:α}:y∈qy l x ↔ y∈l\/y=x:=by
 unfold qy
 split
 ·constructor
  ·exact aO
  ·rintro (h|rfl)
   ·exact h
   ·assumption
 ·simp
theorem apl{α:Type}[DecidableEq α]{l:List α}{x:α}(h:l.Nodup):(qy l x).Nodup:=by
 unfold qy
 split
 ·exact h
 ·rename_i hx
  rw [d7]
  refine⟨h,by simp,fun a ha b hb=> ?_⟩
  rw [aL.mp hb]
  rintro rfl
  exact hx ha
theorem ah1{α:Type}[DecidableEq α](xs:List α):(jt xs).Nodup/\(∀y,y∈jt xs ↔ y∈xs)/\(jt xs).length <=xs.length:=by
 have all: ∀(ys acc:List α),acc.Nodup -> (ys.foldl qy acc).Nodup/\(∀y,y∈ys.foldl qy acc ↔ y∈acc\/y∈ys)/\(ys.foldl qy acc).length <=acc.length+ys.length:=by
  intro ys
  induction ys with
  |nil=> intro acc h;exact⟨h,by simp,ao _⟩
  | cons z r ih=>
   intro acc h
   obtain⟨h1,h2,h3⟩:=ih (qy acc z) (apl h)
   refine⟨h1,fun y=> ?_,?_⟩
   ·rw [dX,h2,ach,aE]
    constructor
    ·rintro ((a|a)|a)
     ·exact .inl a
     ·exact .inr (.inl a)
     ·exact .inr (.inr a)
    ·rintro (a|a|a)
     ·exact .inl (.inl a)
     ·exact .inl (.inr a)
     ·exact .inr a
   ·rw [dX,az]
    have:(qy acc z).length <=acc.length+1:=by unfold qy;split <;> simp
    lia
 have h:=all xs [] dN
 refine⟨h.1,fun y=> ?_,?_⟩
 ·show y∈xs.foldl qy [] ↔ _
  simpa using h.2.1 y
 ·show (xs.foldl qy []).length <=_
  simpa using h.2.2
set_option maxHeartbeats 8000000 in
theorem ark{oc:Obj}(hh:A.handled=none)(hT:T="list"\/T="tuple")(ho:s.heap.get? a=some oc)(hc:oc.cls=.type T){its:Array ae}{k:Nat}(hd:oc.data=.seq its k){SF:Heap -> Prop}(run: ∀(A':aZ) (I:Addr) (fp wr:List Addr) (P:Nat -> ae -> Prop) (St:Nat -> ag -> Prop) (s0:ag) (R:gh -> ag -> Prop),WalksS prog w A'.in1 I fp wr (fun x y=> y=x) its.size P St -> (∀i v,P i v -> its[i]?=some v) -> s.heap.objs.size∉fp -> St 0 s0 ->
   (∃led:Bool,led= !(w.params.followText "set-order")/\s0.heap.get? s.heap.objs.size=some {cls:=.type "set",dict:=none,data:=.set #[] 0 (.fresh 0 0 led)}) -> (∀s',Moved (s.heap.objs.size::wr) (fun x y=> y=x) s0 s' -> SF s'.heap -> R (.ok (.ret .none)) s') -> codeAny (model prog w) A' (.builtin "set.update.loop" ⟨[.ref s.heap.objs.size,.ref I],[]⟩) R s0) (h: ∀(h':Heap) (tk:Nat),SF h' -> (∀b o,b < s.heap.objs.size -> s.heap.get? b=some o -> h'.get? b=some o) -> Q (.ref s.heap.objs.size) {s with heap:=h',toks:=tk}):
  wpAny (model prog w) A (call (.type "set") [.ref a]) Q E s:=by
 obtain⟨cm,mrest,m0⟩:=eT.mro
 have m1:=eT.made
 have m2:=eT.sub
 refine wpAny_call (ie (show wpAny _ _ (callAny (.type "set") _) _ _ _ from af ⟨Code.quiet_builtin _ (by decide+kernel),fg F.entry_type_call ?_⟩))
 rw [Around.under_plain (weight_type_call_type "set" [.ref a] []) rfl]
 have m3:=eT.notType
 have m4:=eT.canCreate
 have m5:=PySem.F.typeCall_set_1 (.ref a)
 repeat any_goals (first|assumption|wp_step)
 refine dm (a5q (.ref a) (E:=E) (Q1:=fun ob s1=> ∃led:Bool,led= !(w.params.followText "set-order")/\ob=.ref s.heap.objs.size/\s1={s with heap:=s.heap.push {cls:=.type "set",dict:=none,data:=.set #[] 0 (.fresh 0 0 led)}}) ⟨_,rfl,rfl,rfl⟩) fun r s1 hr=> ?_
 cases r with
 |error e=> exact hr
 | ok fl=>
  cases fl with
  | ret ob=>
   obtain⟨led,hled,rfl,rfl⟩:=hr
   have g0:(s.heap.push {cls:=.type "set",dict:=none,data:=.set #[] 0 (.fresh 0 0 led)}).get? s.heap.objs.size=some {cls:=.type "set",dict:=none,data:=.set #[] 0 (.fresh 0 0 led)}:=aA _ rfl
   have g1:Shared.TypeIs {s with heap:=s.heap.push {cls:=.type "set",dict:=none,data:=.set #[] 0 (.fresh 0 0 led)}} (.ref s.heap.objs.size) "set":=⟨_,g0,rfl⟩
   have m6:=eT.init.lookup
   have m7:=eT.init.bind (.ref s.heap.objs.size)
   repeat any_goals (first|assumption|wp_step)
   refine dm (codeAny_call_builtin (R:=wants (fun r s2=> r=.none/\ ∃h' tk,s2={s with heap:=h',toks:=tk}/\SF h'/\
     (∀b o,b < s.heap.objs.size -> s.heap.get? b=some o -> h'.get? b=some o)) E) eT.init.plain F.entry_set_init (check_set_init_1 g1 ?_)) fun r2 s2 hr2=> ?_
   ·have halt:a < s.heap.objs.size:=aD ho
    obtain⟨o1,o2,o3,o4⟩:=oc
    simp only at hc hd
    subst hc hd
    have g2:(s.heap.push {cls:=.type "set",dict:=none,data:=.set #[] 0 (.fresh 0 0 led)}).get? a=some {cls:=.type T,dict:=o2,data:=.seq its k,slots:=o4}:=ak _ ho
    have h3:A.in1.in1.in1.handled=none:=by simp [hh]
    have neI:a≠(s.heap.push {cls:=.type "set",dict:=none,data:=.set #[] 0 (.fresh 0 0 led)}).objs.size:=by
     rw [bA]
     exact aH (cq halt)
    have nf:s.heap.objs.size∉ [(s.heap.push {cls:=.type "set",dict:=none,data:=.set #[] 0 (.fresh 0 0 led)}).objs.size,a]:=by
     rw [bA]
     simp only [aE,cK,or_false,not_or]
     exact⟨aH (dL _),fA halt⟩
    have fin: ∀(o:Obj) (s':ag),Moved [s.heap.objs.size,(s.heap.push {cls:=.type "set",dict:=none,data:=.set #[] 0 (.fresh 0 0 led)}).objs.size] (fun x y=> y=x) {s with heap:=(s.heap.push {cls:=.type "set",dict:=none,data:=.set #[] 0 (.fresh 0 0 led)}).push o} s' ->
      SF s'.heap ->
      ∃h' tk,s'={s with heap:=h',toks:=tk}/\SF h'/\(∀b o,b < s.heap.objs.size -> s.heap.get? b=some o -> h'.get? b=some o):=by
     intro o s' mv hS'
     obtain⟨h',ge,dr,tk',oz⟩:=s'
     have e1:ge=s.gens:=mv.gens
     have e2:dr=s.drawn:=mv.drawn
     have e3:oz=s.os:=mv.os
     subst e1 e2 e3
     refine⟨h',tk',rfl,hS',fun b o' hb' e=> mv.heap b o' ?_ (ak _ (ak _ e))⟩
     rw [bA]
     simp only [aE,cK,or_false,not_or]
     exact⟨aH hb',aH (cq hb')⟩
    rcases hT with rfl|rfl
    ·have n1:=PySem.F.sub_list_set
     have n2:=PySem.F.sub_list_frozenset
     have n3:(bu "list"==bu "dict")=false:=by decide
     have l1:(s.heap.push {cls:=.type "set",dict:=none,data:=.set #[] 0 (.fresh 0 0 led)}).IsList a its:=⟨_,g2,rfl,k,rfl⟩
     unfold cG.«set.__init__» noKeywords iD;generalize hPI:pyIter=PI
     wp_walk
     subst hPI
     refine gM l1 (aa (lK ?_))
     refine run _ _ _ _ _ _ _ _ ((Walks.list h3 _ a neI its).toS) (fun i v hv=> hv) nf ⟨⟨_,aA _ rfl,rfl,rfl⟩,l1.push _⟩ ⟨led,hled,ak _ g0⟩ ?_
     intro s' mv hS'
     obtain⟨h',tk,rfl,z1,z2⟩:=fin _ s' mv hS'
     exact af (show wpAny _ _ (ret aV) _ _ _ from af ⟨rfl,h',tk,rfl,z1,z2⟩)
    ·have n1:=PySem.F.sub_tuple_set
     have n2:=PySem.F.sub_tuple_frozenset
     have n3:(bu "tuple"==bu "dict")=false:=by decide
     have l1:(s.heap.push {cls:=.type "set",dict:=none,data:=.set #[] 0 (.fresh 0 0 led)}).IsTuple a its:=⟨_,g2,rfl,k,rfl⟩
     unfold cG.«set.__init__» noKeywords iD;generalize hPI:pyIter=PI
     wp_walk
     subst hPI
     refine iU l1 (aa (lK ?_))
     refine run _ _ _ _ _ _ _ _ ((Walks.tuple h3 _ a neI its).toS) (fun i v hv=> hv) nf ⟨⟨_,aA _ rfl,rfl,rfl⟩,?_⟩ ⟨led,hled,ak _ g0⟩ ?_
     ·exact⟨_,ak _ g2,rfl,k,rfl⟩
     intro s' mv hS'
     obtain⟨h',tk,rfl,z1,z2⟩:=fin _ s' mv hS'
     exact af (show wpAny _ _ (ret aV) _ _ _ from af ⟨rfl,h',tk,rfl,z1,z2⟩)
   ·cases r2 with
    |error e=> exact hr2
    | ok f2=>
     cases f2 with
     |ret u=>
      obtain⟨rfl,h',tk,rfl,z1,z2⟩:=hr2
      repeat any_goals (first|assumption|wp_step)
      exact h h' tk z1 z2
     |next=> exact hr2.elim
     |brk=> exact hr2.elim
     |cont=> exact hr2.elim
  |next=> exact hr.elim
  |brk=> exact hr.elim
  |cont=> exact hr.elim
theorem yy:Slot "set_iterator" "__next__" "set_iterator.__next__":=.of (owner:="set_iterator") (n:="__next__") (by rw [lg,hG];kernel_rfl) (by decide+kernel) (by decide+kernel) (by decide+kernel) (by first|exact .inl (by decide+kernel)|exact .inr (by decide+kernel)) (by rw [iE];kernel_rfl)
theorem ae7:entryFor table "set_iterator.__next__"=some cG.«set_iterator.__next__»:=entryFor_of_tree (by kernel_rfl)
theorem amx:Manifest.owners.lookup (String.ofList ['r','o','t','a','r','e','t','i','_','t','e','s'].reverse)=some Manifest.sig_set_iterator:=by kernel_rfl
theorem ag4(a:ae):argsOk "set_iterator.__next__" ⟨[a],[]⟩:=by
 unfold argsOk;rw [mK (id:="set_iterator.__next__") (n:=['_','_','t','x','e','n','_','_']) (o:=['r','o','t','a','r','e','t','i','_','t','e','s']) (by kernel_rfl) amx];kernel_rfl
theorem aog:Slot "set" "__iter__" "set.__iter__":=.of (owner:="set") (n:="__iter__") (by rw [lg,hG];kernel_rfl) (by decide+kernel) (by decide+kernel) (by decide+kernel) (by first|exact .inl (by decide+kernel)|exact .inr (by decide+kernel)) (by rw [iE];kernel_rfl)
theorem awh:entryFor table "set.__iter__"=some cG.«frozenset.__iter__»:=entryFor_alias (id':="frozenset.__iter__") (by kernel_rfl) rfl (by decide+kernel) (by kernel_rfl)
theorem ayy(a:ae):argsOk "set.__iter__" ⟨[a],[]⟩:=by
 unfold argsOk;rw [mK (id:="set.__iter__") (n:=['_','_','r','e','t','i','_','_']) (o:=['t','e','s']) (by kernel_rfl) PySem.F.owner_set];kernel_rfl
noncomputable def sIt(fst:ae)(i:Nat)(a:Addr)(n ep:Nat):Obj:={cls:=.type "set_iterator",dict:=none,data:=.fields #[fst,rawInt i,.ref a,rawInt n,rawInt ep],slots:= #[]}
section
variable{prog:aI}{w:aM}{A:aZ}{E:ae -> ag -> Prop}{s:ag}{I a:Addr}{i n ep:Nat}{o:Obj}{es:Array (Int×ae)}{t:bq}{Q:Option ae -> ag -> Prop}
theorem awa{sl nx:Nat}{x:ae}(hI:s.heap.get? I=some (sIt (rawInt sl) i a n ep))(ho:s.heap.get? a=some o)(hd:o.data=.set es ep t)(hf:t.fits es.size=true)(hn:es.size=n)
  (hx: ∀(E':ae -> ag -> Prop) (Q':Option (ae×Nat) -> ag -> Prop),Q' (some (x,nx)) s -> wpAny (model prog w) A.in1 (setNext a sl i ep) Q' E' s)
  (hQ: ∀h',h'.get? I=some (sIt (rawInt nx) (i+1) a n ep) -> bi I s.heap h' -> Q (some x) {s with heap:=h'}):wpAny (model prog w) A (pyNext (.ref I)) Q E s:=by
 unfold pyNext
 refine aa (d6 (br (name:=cr "__next__") ⟨_,hI,rfl⟩ yy (bh yy ⟨_,hI,rfl⟩ ae7 ?_ (ag4 _))))
 unfold cG.«set_iterator.__next__»
 refine aa (af ?_);refine aa (iF hI rfl ?_)
 dsimp only [rawInt]
 refine aa (eV ho hd hf ?_)
 rw [if_neg (by rw [hn];simp)]
 refine aa (hx _ _ ?_)
 refine aa (cA hI rfl (by simp) ?_)
 have g1:=bt (c7 (·.setIfInBounds 0 (rawInt nx))) hI rfl
 refine aa (cA g1 rfl (by simp [c7,sIt]) ?_)
 have g2:=bt (c7 (·.setIfInBounds 1 (rawInt ((i:Int)+1)))) g1 rfl
 refine af ⟨_,rfl,af (hQ _ ?_ ((bg ..).trans (bg ..)))⟩
 exact g2
theorem av0{sl:Nat}(hh:A.handled=none)(hI:s.heap.get? I=some (sIt (rawInt sl) i a n ep))(ho:s.heap.get? a=some o)(hd:o.data=.set es ep t)(hf:t.fits es.size=true)(hn:es.size=n)
  (hx: ∀(E':ae -> ag -> Prop) (Q':Option (ae×Nat) -> ag -> Prop),Q' none s -> wpAny (model prog w) A.in1 (setNext a sl i ep) Q' E' s)
  (hQ: ∀h',eG I s.heap h' -> Q none {s with heap:=h'}):wpAny (model prog w) A (pyNext (.ref I)) Q E s:=by
 unfold pyNext
 refine aa (d6 (br (name:=cr "__next__") ⟨_,hI,rfl⟩ yy (bh yy ⟨_,hI,rfl⟩ ae7 ?_ (ag4 _))))
 unfold cG.«set_iterator.__next__»
 refine aa (af ?_);refine aa (iF hI rfl ?_)
 dsimp only [rawInt]
 refine aa (eV ho hd hf ?_)
 rw [if_neg (by rw [hn];simp)]
 refine aa (hx _ _ ?_)
 refine aa (cA hI rfl (by simp) ?_)
 refine aa ?_
 simp only [newExc,newTuple]
 refine aa (bJ ?_ (by size_fits));refine aa (m:=iG _ _) (nP (a:=aV) (by first|rfl|(simp only [iG];rfl)) ?_)
 refine bJ ?_ (by size_fits);simp only [raiseNew]
 refine aa (i5 ?_);rw [show A.in1.handled=none from hh]
 refine aa (af (lu ?_));refine aa (eN (T:="StopIteration") (b:=true) ⟨_,aA _ rfl,rfl⟩ iH ?_);exact af (hQ _ (((bg ..).extBut.push _).push _))
theorem awi{T:Addr}{oT:Obj}{ps:Array ae}{kT p:Nat}{x:ae}{hv:Int}{tp:Tok}(hI:s.heap.get? I=some (sIt (.ref T) i a n ep))(ho:s.heap.get? a=some o)(hd:o.data=.set es ep t)(hf:t.fits es.size=true)(hn:es.size=n)
  (hT:s.heap.get? T=some oT) (hTd:oT.data=.seq ps kT) (hp:ps[i]?=some (.int p tp)) (hx:es[p]?=some (hv,x))
  (hQ: ∀h',h'.get? I=some (sIt (.ref T) (i+1) a n ep) -> bi I s.heap h' -> Q (some x) {s with heap:=h'}):wpAny (model prog w) A (pyNext (.ref I)) Q E s:=by
 unfold pyNext
 refine aa (d6 (br (name:=cr "__next__") ⟨_,hI,rfl⟩ yy (bh yy ⟨_,hI,rfl⟩ ae7 ?_ (ag4 _))))
 unfold cG.«set_iterator.__next__»
 refine aa (af ?_);refine aa (iF hI rfl ?_)
 dsimp only [rawInt]
 refine aa (eV ho hd hf ?_)
 rw [if_neg (by rw [hn];simp)]
 refine aa ?_
 unfold seqItems?
 refine aa (jP hT ?_)
 rw [hTd]
 refine af ?_
 dsimp only
 rw [show (Int.toNat (i:Int))=i from bU i,hp]
 dsimp only
 refine aa ?_
 unfold setNextDrawn
 refine aa (b8 ho hd hf ?_);dsimp only
 rw [if_neg (by simp)]
 rw [show (Int.toNat (p:Int))=p from bU p,hx]
 refine af ?_
 refine aa (cA hI rfl (by simp) ?_)
 have g1:=bt (c7 (·.setIfInBounds 1 (rawInt ((i:Int)+1)))) hI rfl
 refine af ⟨_,rfl,af (hQ _ ?_ (bg ..))⟩
 exact g1
theorem au3{T:Addr}{oT:Obj}{ps:Array ae}{kT:Nat}(hh:A.handled=none)(hI:s.heap.get? I=some (sIt (.ref T) i a n ep))(ho:s.heap.get? a=some o)(hd:o.data=.set es ep t)(hf:t.fits es.size=true)(hn:es.size=n)
  (hT:s.heap.get? T=some oT) (hTd:oT.data=.seq ps kT) (hp:ps[i]?=none)
  (hQ: ∀h',eG I s.heap h' -> Q none {s with heap:=h'}):wpAny (model prog w) A (pyNext (.ref I)) Q E s:=by
 unfold pyNext
 refine aa (d6 (br (name:=cr "__next__") ⟨_,hI,rfl⟩ yy (bh yy ⟨_,hI,rfl⟩ ae7 ?_ (ag4 _))))
 unfold cG.«set_iterator.__next__»
 refine aa (af ?_);refine aa (iF hI rfl ?_)
 dsimp only [rawInt]
 refine aa (eV ho hd hf ?_)
 rw [if_neg (by rw [hn];simp)]
 refine aa ?_
 unfold seqItems?
 refine aa (jP hT ?_)
 rw [hTd]
 refine af ?_
 dsimp only
 rw [show (Int.toNat (i:Int))=i from bU i,hp]
 dsimp only
 refine aa (cA hI rfl (by simp) ?_)
 have g1:=bt (c7 (·.setIfInBounds 0 (rawInt 0))) hI rfl
 refine aa (cA g1 rfl (by simp [c7,sIt]) ?_)
 refine aa ?_
 simp only [newExc,newTuple]
 refine aa (bJ ?_ (by size_fits));refine aa (m:=iG _ _) (nP (a:=aV) (by first|rfl|(simp only [iG];rfl)) ?_)
 refine bJ ?_ (by size_fits);simp only [raiseNew]
 refine aa (i5 ?_);rw [show A.in1.handled=none from hh]
 refine aa (af (lu ?_));refine aa (eN (T:="StopIteration") (b:=true) ⟨_,aA _ rfl,rfl⟩ iH ?_)
 exact af (hQ _ ((((bg ..).trans (bg ..)).extBut.push _).push _))
end
theorem ao0:Slot "set_iterator" "__iter__" "set_iterator.__iter__":=.of (owner:="set_iterator") (n:="__iter__") (by rw [lg,hG];kernel_rfl) (by decide+kernel) (by decide+kernel) (by decide+kernel) (by first|exact .inl (by decide+kernel)|exact .inr (by decide+kernel)) (by rw [iE];kernel_rfl)
theorem aua:entryFor table "set_iterator.__iter__"=some cG.«dict_keyiterator.__iter__»:=entryFor_alias (id':="dict_keyiterator.__iter__") (by kernel_rfl) rfl (by decide+kernel) (by kernel_rfl)
theorem a0h(a:ae):argsOk "set_iterator.__iter__" ⟨[a],[]⟩:=by
 unfold argsOk;rw [mK (id:="set_iterator.__iter__") (n:=['_','_','r','e','t','i','_','_']) (o:=['r','o','t','a','r','e','t','i','_','t','e','s']) (by kernel_rfl) amx];kernel_rfl
section
variable{prog:aI}{w:aM}{A:aZ}{E:ae -> ag -> Prop}{s:ag}{I a:Addr}{i n ep:Nat}{o:Obj}{es:Array (Int×ae)}{t:bq}
theorem anq{fst:ae}(hI:s.heap.get? I=some (sIt fst i a n ep))(h:Q (.ref I) s):wpAny (model prog w) A (pyIter (.ref I)) Q E s:=by
 refine jJ ⟨_,hI,rfl⟩ ao0 (bh ao0 ⟨_,hI,rfl⟩ aua ?_ (a0h _))
 show wpAny _ _ (ret (.ref I)) _ _ s
 exact af ⟨_,rfl,"set_iterator",_,⟨_,hI,rfl⟩,yy.lookup,h⟩
theorem axf(hh:A.handled=none)(hne:a≠I)(hd:o.data=.set es ep t)(hf:t.fits es.size=true)(ord:List ae)(hn:es.size=ord.length)(sl:Nat -> Nat)
  (step: ∀(i:Nat) (x:ae) (s:ag) (E':ae -> ag -> Prop) (Q':Option (ae×Nat) -> ag -> Prop),s.heap.get? a=some o -> ord[i]?=some x -> Q' (some (x,sl (i+1))) s -> wpAny (model prog w) A.in1 (setNext a (sl i) i ep) Q' E' s)
  (stop: ∀(s:ag) (E':ae -> ag -> Prop) (Q':Option (ae×Nat) -> ag -> Prop),s.heap.get? a=some o -> Q' none s -> wpAny (model prog w) A.in1 (setNext a (sl ord.length) ord.length ep) Q' E' s):
  Walks prog w A I [I,a] [I] ord.length (fun i v=> ord[i]?=some v) (fun i h=> h.get? I=some (sIt (rawInt (sl i)) i a ord.length ep)/\h.get? a=some o) where
 sub:=fun b hb=> (aL.mp hb)▸av
 frame:=fun _ _ _ st k=> ⟨k I (by simp) _ st.1,k a (by simp) _ st.2⟩
 item:=fun i s R E hi st hQ=> by
  refine awa st.1 st.2 hd hf hn (fun E' Q' z=> step i ord[i] s E' Q' st.2 (aq hi) z) fun h' g sb=> ?_
  exact hQ _ h' s.toks (aq hi) ⟨g,(sb.2 a hne).trans st.2⟩ fun b u hb e=> (sb.2 b (fun z=> hb (by simp [z]))).trans e
 done:=fun s Q E st hQ=> av0 hh st.1 st.2 hd hf hn (fun E' Q' z=> stop s E' Q' st.2 z) fun h' x=> hQ h' s.toks fun b u hb e=> x b u (fun z=> hb (by simp [z])) e
 self:=fun _ _ _ _ st hQ=> anq st.1 hQ
theorem a4n{T:Addr}{oT:Obj}{ps:Array ae}{kT:Nat}(hh:A.handled=none)(hne:a≠I)(hT:T≠I)(hd:o.data=.set es ep t)(hf:t.fits es.size=true)(ord:List ae)(hn:es.size=ord.length)(hTd:oT.data=.seq ps kT)
  (hps:ps.size=ord.length) (step: ∀(i:Nat) (x:ae),ord[i]?=some x -> ∃(p:Nat) (tp:Tok) (hv:Int),ps[i]?=some (.int p tp)/\es[p]?=some (hv,x)):
  Walks prog w A I [I,a,T] [I] ord.length (fun i v=> ord[i]?=some v) (fun i h=> h.get? I=some (sIt (.ref T) i a ord.length ep)/\h.get? a=some o/\h.get? T=some oT) where
 sub:=fun b hb=> (aL.mp hb)▸av
 frame:=fun _ _ _ st k=> ⟨k I (by simp) _ st.1,k a (by simp) _ st.2.1,k T (by simp) _ st.2.2⟩
 item:=fun i s R E hi st hQ=> by
  obtain⟨p,tp,hv,e1,e2⟩:=step i ord[i] (aq hi)
  refine awi st.1 st.2.1 hd hf hn st.2.2 hTd e1 e2 fun h' g sb=> ?_
  exact hQ _ h' s.toks (aq hi) ⟨g,(sb.2 a hne).trans st.2.1,(sb.2 T hT).trans st.2.2⟩ fun b u hb e=> (sb.2 b (fun z=> hb (by simp [z]))).trans e
 done:=fun s Q E st hQ=> au3 hh st.1 st.2.1 hd hf hn st.2.2 hTd (by rw [←hps];simp) fun h' x=> hQ h' s.toks fun b u hb e=> x b u (fun z=> hb (by simp [z])) e
 self:=fun _ _ _ _ st hQ=> anq st.1 hQ
theorem asx{src:Source}{k:Nat}{Q:Nat -> ag -> Prop}(hk:k≠0)(h: ∀j d',j < k -> Q j {s with drawn:=d'}):wpAny (model prog w) A (choose src k) Q E s:=
 fun Γ p _=> by
  unfold choose
  rw [Sem.wp_choose]
  exact⟨hk,h _ _ (fN _ (Nat.pos_of_ne_zero hk))⟩
theorem ae4{α:Type}: ∀{xs:List α} {j:Nat} {x:α},xs[j]?=some x -> (x::xs.eraseIdx j).Perm xs
 |[],_,_,e=> by simp at e
 |y::r,0,x,e=> by simp at e;subst e;exact .refl _
 |y::r,j+1,x,e=> by
  rw [cQ]at e
  rw [List.eraseIdx_cons_succ]
  exact (hJ.swap _ _ _).trans ((ae4 e).cons _)
theorem aly{α:Type}: ∀(k:Nat) (xs:List α) (s:ag) (Q:List α -> ag -> Prop),xs.length <=k -> (∀ys d',ys.Perm xs -> Q ys {s with drawn:=d'}) -> wpAny (model prog w) A (nt k xs) Q E s
 |0,[],s,Q,_,h=> by unfold nt;exact af (h [] s.drawn (.refl _))
 |_+1,[],s,Q,_,h=> by unfold nt;exact af (h [] s.drawn (.refl _))
 |0,_::_,_,_,z,_=> absurd z (by simp)
 |k+1,y::r,s,Q,z,h=> by
  unfold nt
  refine aa (asx (by simp) fun j d' hj=> ?_)
  rw [aq hj]
  dsimp only
  have l:((y::r).eraseIdx j).length <=k:=by rw [i6 hj];simpa using z
  refine aa (aly k _ _ _ l fun ys d'' p=> af (h _ d'' ?_))
  exact (p.cons _).trans (ae4 (aq hj))
theorem ar2{α:Type}(nx:Nat -> Nat)(xs:Array α):(hU nx xs).toList.Perm xs.toList:=by
 have all: ∀(f k:Nat) (left:List α) (out:Array α),left.length <=f -> (nu nx f k left out).toList.Perm (out.toList++left):=by
  intro f
  induction f with
  |zero=>
   intro k left out z
   have:left=[]:=gH.mp (Nat.le_zero.mp z)
   subst this
   unfold nu
   simp
  | succ f ih=>
   intro k left out z
   unfold nu
   cases left with
   |nil=> simp
   |cons y r=>
    have hj:nx k % (y::r).length < (y::r).length:=fN _ (by simp)
    rw [aq hj]
    dsimp only
    refine (ih _ _ _ (by rw [i6 hj];simpa using z)).trans ?_
    rw [Array.toList_push,cR]
    exact hJ.append_left _ (ae4 (aq hj))
 unfold hU
 have:=all xs.size 0 xs.toList #[] (by simp)
 simpa using this
end
section
variable{prog:aI}{w:aM}{A:aZ}{E:ae -> ag -> Prop}{s:ag}{I a:Addr}{i n ep:Nat}{o:Obj}{es:Array (Int×ae)}{t:bq}
theorem acu{Q:Bool -> ag -> Prop}(h:Q (w.params.followText "set-order") s):wpAny (model prog w) A setsByText Q E s:=by
 unfold setsByText;exact aa (eS (af h))
theorem ajw{sl:Nat}{Q:Option (ae×Nat) -> ag -> Prop}(hb:w.params.followText "set-order"=true)(ho:s.heap.get? a=some o)(hd:o.data=.set es ep t)(hf:t.fits es.size=true)
  (h:Q (((hU (w.params.setOrder a ep) es).toList.map (·.2))[i]?.map fun x=> (x,sl)) s):wpAny (model prog w) A (setNext a sl i ep) Q E s:=by
 unfold setNext
 refine aa (b8 ho hd hf ?_);refine aa (acu ?_)
 rw [hb,if_pos rfl]
 dsimp only
 rw [if_neg (by simp)]
 refine aa ?_
 unfold setWalk
 refine aa (b8 ho hd hf ?_);refine aa (acu ?_)
 rw [hb,if_pos rfl]
 refine aa (eS (af (af ?_)))
 have e:((hU (w.params.setOrder a ep) es).toList.map (·.2))[i]?.map (fun x=> (x,sl))=((hU (w.params.setOrder a ep) es)[i]?).map fun e=> (e.2,sl):=by
  rw [aR,bj]
  cases (hU (w.params.setOrder a ep) es)[i]? <;> rfl
 rw [e]at h
 exact h
theorem ahh{sl:Nat}{Q:Option (ae×Nat) -> ag -> Prop}(hb:w.params.followText "set-order"=false)(hl:t.led=true)(hz:(!t.plain&&decide (es.size > 1))=false)(ho:s.heap.get? a=some o)(hd:o.data=.set es ep t)(hf:t.fits es.size=true)
  (h:Q (match es[bK t.place sl]?,t.place[bK t.place sl]? with|some (_,x),some j=> some (x,j+1)|_,_=> none) s):wpAny (model prog w) A (setNext a sl i ep) Q E s:=by
 unfold setNext
 refine aa (b8 ho hd hf ?_);refine aa (acu ?_)
 rw [hb,if_neg ax];dsimp only
 refine ig (fun c=> ?_) (fun _=> ?_)
 ·have c':(!t.plain&&decide (es.size > 1))=true:=c
  rw [hz]at c'
  cases c'
 refine aa ?_
 show wpAny _ _ (if (!t.led&& !es.isEmpty)=true then unsupported "set:maker-not-led" else pure ()) _ _ _
 rw [hl,if_neg (by simp)];exact af (af h)
theorem ahi{p:Array Nat}(h:ST.Ris p.toList)(hi:i <=p.size):bK p (if i=0 then 0 else p.getD (i - 1) 0+1)=i:=by
 obtain⟨b1,b2,b3⟩:=ST.below_spec p (if i=0 then 0 else p.getD (i - 1) 0+1) h
 generalize hb:bK p (if i=0 then 0 else p.getD (i - 1) 0+1)=b at b1 b2 b3
 have gd: ∀(k d:Nat) (hk:k < p.size),p.getD k d=p[k]:=fun k d hk=> by simp [cO,hk]
 have lt: ∀(x y:Nat) (hx:x < y) (hy:y < p.size),p[x] < p[y]:=fun x y hx hy=> by
  have:=ST.ris_get h hx (by rw [au];exact hy)
  simpa using this
 rcases Nat.lt_trichotomy b i with z|z|z
 ·have hi0:i≠0:=by lia
  rw [if_neg hi0]at b3
  have:=b3 (i - 1) (by lia) (by lia)
  rw [gd (i - 1) _ (by lia),gd (i - 1) _ (by lia)]at this
  lia
 ·exact z
 ·have:=b2 i z
  rw [gd i _ (by lia)]at this
  by_cases hi0:i=0
  ·rw [if_pos hi0]at this;lia
  ·rw [if_neg hi0,gd (i - 1) _ (by lia)]at this
   have:=lt (i - 1) i (by lia) (by lia)
   lia
structure Beg (prog:aI) (w:aM) (A:aZ) (s:ag) (a:Addr) (es:Array (Int×ae)) (I:Addr) (h1:Heap) (ord:List ae) (fp:List Addr) (St:Nat -> Heap -> Prop):Prop where
 perm:ord.Perm (es.toList.map (·.2))
 keep: ∀b u,s.heap.get? b=some u -> h1.get? b=some u
 new:s.heap.objs.size <=I
 away: ∀b∈fp,b=a\/s.heap.objs.size <=b
 lt: ∀b∈fp,b < h1.objs.size
 walk:Walks prog w A I fp [I] ord.length (fun i v=> ord[i]?=some v) St
 st:St 0 h1
theorem aq3(es:Array (Int×ae)):(a9 es.size).map (fun p=> (es[p]?.map (·.2)).getD .none)=es.toList.map (·.2):=by
 refine cS fun j=> ?_
 rw [aR,aR,bj (xs:=es)]
 by_cases c:j < es.size
 ·rw [eW c,bf c];simp [c]
 ·rw [cH (by simpa using c),gS (by lia)];rfl
theorem az4(hh:A.handled=none)(ho:s.heap.get? a=some o)(hex:o.ExactSet)(hd:o.data=.set es ep t)(hf:t.fits es.size=true)(hz:es.size < cL)(tx:al1 w es.size t)(hQ: ∀I h1 d' ord fp St,Beg prog w A s a es I h1 ord fp St -> Q (.ref I) {s with heap:=h1,drawn:=d'}):wpAny (model prog w) A (pyIter (.ref a)) Q E s:=by
 have hT:s.TypeIs (.ref a) "set":=⟨o,ho,hex.1⟩;have hal:a < s.heap.objs.size:=aD ho
 refine jJ hT aog (bh aog hT awh ?_ (ayy _))
 unfold cG.«frozenset.__iter__» Builtin.Frozenset.slot0 slotArgs
 simp only [List.isEmpty_nil,cy,aT,↓reduceIte,bind_assoc,dA,bne_self_eq_false];unfold jZ Builtin.Frozenset.sizeOf
 refine aa (af ?_);try dsimp only
 refine aa (af ?_);refine aa (aa (eV ho hd hf (af ?_)))
 refine aa ?_
 unfold setDrawn
 refine aa (b8 ho hd hf ?_);refine aa (acu (af ?_))
 have fin: ∀(fst:ae) (h0:Heap) (d':Drawn) (ord:List ae) (fp:List Addr) (St:Nat -> Heap -> Prop),(∀b u,s.heap.get? b=some u -> h0.get? b=some u) -> ord.Perm (es.toList.map (·.2)) ->
   (∀b∈fp,b=a\/s.heap.objs.size <=b) -> (∀b∈fp,b < h0.objs.size+1) -> s.heap.objs.size <=h0.objs.size ->
   Walks prog w A h0.objs.size fp [h0.objs.size] ord.length (fun i v=> ord[i]?=some v) St -> St 0 (h0.push (sIt fst 0 a es.size ep)) ->
   wpAny (model prog w) A.in1 (do
    let e←setEpoch a
    let v←newFields "set_iterator" [fst,rawInt 0,bn a,rawInt es.size,rawInt e]
    ret v) (fun f s'=> ∃v,f=Fin.done (Flow.ret v)/\ ∃T' r,s'.TypeIs v T'/\typeLookup (bu T') (cr "__next__")=pure (some r)/\Q v s') E {s with heap:=h0,drawn:=d'}:=by
  intro fst h0 d' ord fp St k p f1 f2 l W z
  refine aa (wpAny_setEpoch_of (k _ _ ho) hd hf ?_)
  unfold newFields
  refine aa (bJ ?_);refine af ⟨_,rfl,"set_iterator",_,⟨_,aA _ rfl,rfl⟩,yy.lookup,hQ _ _ d' ord fp St ⟨p,fun b u e=> ak _ (k b u e),l,f1,fun b hb=> by rw [bA];exact f2 b hb,W,z⟩⟩
 have len: ∀{ord:List ae},ord.Perm (es.toList.map (·.2)) -> es.size=ord.length:=fun p=> by
  rw [p.length_eq,am,au]
 have two1: ∀b∈ [s.heap.objs.size,a],b=a\/s.heap.objs.size <=b:=fun b m=> by
  rcases aE.mp m with e|m
  ·exact .inr (dj e.symm)
  ·exact .inl (aL.mp m)
 have two2: ∀b∈ [s.heap.objs.size,a],b < s.heap.objs.size+1:=fun b m=> by
  rcases aE.mp m with e|m
  ·exact e▸dL _
  ·rw [aL.mp m];exact cq hal
 cases hb:w.params.followText "set-order" with
 | true=>
  rw [if_neg (by simp)]
  have p:=((ar2 (w.params.setOrder a ep) es).map (·.2))
  refine aa (af (fin _ _ _ ((hU (w.params.setOrder a ep) es).toList.map (·.2)) [s.heap.objs.size,a] _ (fun _ _ e=> e) p two1 two2 (ao _) (axf hh (aH hal) hd hf _ (len p) (fun _=> 0) ?_ ?_) ⟨?_,ak _ ho⟩))
  ·intro i x s E' Q' e1 e2 z
   refine ajw hb e1 hd hf ?_
   rw [e2];exact z
  ·intro s E' Q' e1 z
   refine ajw hb e1 hd hf ?_
   rw [cH (ao _)];exact z
  ·rw [←len p];exact aA _ rfl
 | false=>
  by_cases hz2:(!t.plain&&decide (es.size > 1))=true
  ·rw [aB,Bool.not_eq_true',decide_eq_true_eq]at hz2
   obtain⟨hp,hz1⟩:=hz2
   rw [if_pos (by show (!false&&(!t.plain&&decide (es.size > 1)))=true;rw [hp,decide_eq_true hz1];rfl)]
   refine aa (aly _ _ _ _ (by simp) fun ys d' p=> ?_)
   have l:ys.length=es.size:=by rw [p.length_eq,cp]
   have big:es.size <=sizeLine:=gN hz
   unfold newTuple
   refine aa (bJ ?_ (by show (ys.map fun (i:Nat)=> rawInt i).toArray.size <=sizeLine;simpa [l] using big))
   have q:(ys.map fun p=> (es[p]?.map (·.2)).getD .none).Perm (es.toList.map (·.2)):=by rw [←aq3 es];exact p.map _
   refine fin (.ref s.heap.objs.size) _ d' (ys.map fun p=> (es[p]?.map (·.2)).getD .none) [(s.heap.push _).objs.size,a,s.heap.objs.size] _ (fun _ _ e=> ak _ e) q ?_ ?_ (by rw [bA];exact iM _)
    (a4n (oT:={cls:=.type "tuple",data:=.seq (ys.map fun (i:Nat)=> rawInt i).toArray}) (ps:=(ys.map fun (i:Nat)=> rawInt i).toArray) hh (by rw [bA];exact aH (cq hal)) (by rw [bA];exact aH (dL _)) hd hf _ (len q) rfl (by simp) ?_) ⟨?_,?_,?_⟩
   ·intro b m
    rw [bA]at m
    simp only [aE,cK,or_false]at m
    rcases m with rfl|rfl|rfl
    ·exact .inr (iM _)
    ·exact .inl rfl
    ·exact .inr (ao _)
   ·intro b m
    rw [bA]at m⊢
    simp only [aE,cK,or_false]at m
    rcases m with rfl|rfl|rfl
    ·exact dL _
    ·exact cq (cq hal)
    ·exact Nat.le_succ_of_le (dL _)
   ·intro i x e
    rw [aR]at e
    cases c:ys[i]? with
    |none=> rw [c]at e;cases e
    | some j=>
     rw [c]at e
     have hj:j < es.size:=by
      have:=p.mem_iff.mp (bp c)
      simpa using this
     have hx:x=es[j].2:=by
      simp only [f7,dG]at e
      rw [←e,bf hj];rfl
     exact⟨j,0,es[j].1,by simp [c,rawInt],by rw [bf hj,hx]⟩
   ·rw [←len q];exact aA _ rfl
   ·exact ak _ (ak _ ho)
   ·exact ak _ (by exact aA _ rfl)
  ·have hz2:(!t.plain&&decide (es.size > 1))=false:=by simpa using hz2
   rw [if_neg (by
    show¬((!false&&(!t.plain&&decide (es.size > 1)))=true)
    rw [hz2];simp)]
   have hl:t.led=true:=by rw [tx.1,hb];rfl
   have hpl:t.place.size=es.size:=by
    simp only [mM,aB,beq_iff_eq]at hf
    exact hf.1
   have hr:ST.Ris t.place.toList:=by
    by_cases h1:es.size > 1
    ·rcases tx.2 (by lia) with z|z
     ·rw [z,decide_eq_true h1]at hz2;cases hz2
     ·exact z
    ·refine f6.mpr fun i j hi hj hij=> ?_
     rw [au]at hj
     lia
   refine aa (af (fin _ _ _ (es.toList.map (·.2)) [s.heap.objs.size,a] _ (fun _ _ e=> e) (.refl _) two1 two2 (ao _) (axf hh (aH hal) hd hf _ (len (.refl _)) (fun i=> if i=0 then 0 else t.place.getD (i - 1) 0+1) ?_ ?_) ⟨?_,ak _ ho⟩))
   ·intro i x s E' Q' e1 e2 z
    have hi:i < es.size:=by
     rw [aR]at e2
     cases c:es.toList[i]? with
     |none=> rw [c]at e2;cases e2
     |some _=> simpa using (ap.mp c).1
    refine ahh hb hl hz2 e1 hd hf ?_
    rw [ahi hr (by lia)]
    have g1:es[i]?=some (es[i].1,x):=by
     rw [bf hi]
     rw [aR,bj,bf hi]at e2
     simp only [f7,dG]at e2
     rw [←e2]
    have g2:t.place[i]?=some (t.place.getD i 0):=by
     have:i < t.place.size:=by lia
     rw [bf this]
     simp [cO,this]
    rw [g1,g2]
    exact z
   ·intro s E' Q' e1 z
    refine ahh hb hl hz2 e1 hd hf ?_
    rw [show (es.toList.map (·.2)).length=t.place.size by simp [hpl],ahi hr (ao _)]
    rw [gS (by lia)]
    exact z
   ·rw [←len (.refl _)];exact aA _ rfl
end
theorem Inv.drew(I:Inv X pins σ H s)(d':Drawn):Inv X pins σ H {s with drawn:=d'}:=
 ⟨I.ok,I.os,I.bare,I.base,I.loc,I.cell,I.free,I.freeC,I.pin,I.hok,I.len⟩
section
variable{prog:aI}{w:aM}{A:aZ}{E:ae -> ag -> Prop}{s:ag}{a:Addr}{ep:Nat}{o:Obj}{es:Array (Int×ae)}{t:bq}
theorem auc{Q:Bool -> ag -> Prop}(hT:s.TypeIs (.ref a) "set")(h:Q false s):wpAny (model prog w) A (iV (.ref a)) Q E s:=by
 unfold iV;refine aa (dg hT PySem.F.slot_set_len.lookup ?_)
 generalize hid:("set.__len__":String)=id0
 wp_delta
 rw [show splitId id0=some ("set","__len__") from by subst hid;decide+kernel]
 subst hid
 refine aa (eN (T:="set") (b:=true) hT (by rw [iE];kernel_rfl) ?_)
 refine ig (fun z=> absurd z (by decide)) (fun _=> ?_)
 refine ig (fun _=> ?_) (fun z=> absurd (by decide+kernel) z)
 exact aa (eQ hT (af h))
theorem ayk{R:gh -> ag -> Prop}(hh:A.handled=none)(ho:s.heap.get? a=some o)(hex:o.ExactSet)(hd:o.data=.set es ep t)(hf:t.fits es.size=true)(hz:es.size < cL)(tx:al1 w es.size t)
  (S:Addr) (hSa:S≠a) (res:ae) (hS:s.heap.get? S=some {cls:=.type "list",data:=.seq #[] 0})
  (hR: ∀h' d' tk (acc:Array ae) c,acc.toList.Perm (es.toList.map (·.2)) -> (∀b u,b≠S -> s.heap.get? b=some u -> h'.get? b=some u) -> h'.get? S=some {cls:=.type "list",dict:=none,data:=.seq acc c,slots:= #[]} -> R (.ok (.ret res)) {s with heap:=h',drawn:=d',toks:=tk}):
  wpAny (model prog w) A.in1 (fI (.ref S) (.ref a) res) (fun fin s'=> match fin with|.done f=> R (.ok f) s'|.again c'=> c'.quiet=true/\codeAny (model prog w) A c' R s') (fun e s'=> R (.error e) s') s:=by
 have hT:s.TypeIs (.ref a) "set":=⟨o,ho,hex.1⟩;have hSl:S < s.heap.objs.size:=aD hS
 unfold fI;refine aa (eQ (T:="set") hT ?_)
 have n1:kA (.ref S) (.ref a)=false:=by simp [kA,hSa]
 have n2:(bu "set"==bu "list")=false:=by decide
 have n3:(bu "set"==bu "tuple")=false:=by decide
 simp only [n1,n2,n3,Bool.or_false,aT,if_false]
 refine aa (az4 hh ho hex hd hf hz tx fun I h1 d' ord fp St B=> ?_)
 have hSf:S∉fp:=fun m=> by
  rcases B.away S m with e|e
  ·exact hSa e
  ·exact absurd hSl (md.mpr e)
 have hSI:S≠I:=fun e=> absurd hSl (md.mpr (e▸B.new))
 have hlen:ord.length <=sizeLine:=by
  rw [B.perm.length_eq,am,au];exact gN hz
 have key: ∀(h:Heap) (c1 tk:Nat),St 0 h -> (∀b u,b≠S -> s.heap.get? b=some u -> h.get? b=some u) -> h.get? S=some {cls:=.type "list",data:=.seq #[] c1} ->
   codeAny (model prog w) A (.builtin "list.extend.loop" ⟨[.ref S,.ref I,res],[]⟩) R {s with heap:=h,drawn:=d',toks:=tk}:=by
  intro h c1 tk st k g
  refine codeAny_extend_loopS B.walk.toS hlen S hSf res ord.length 0 _ #[] c1 rfl (bP _) st g (ItemsOf.nil _) fun s' acc c mv g' it=> ?_
  rw [Moved.eq_with mv]
  have ea:acc.toList=ord:=by
   refine cS fun j=> ?_
   rw [bj]
   cases c:acc[j]? with
   |some v=> exact (it.2 j v c).symm
   |none=>
    have:acc.size <=j:=fU.mp c
    rw [it.1]at this
    exact (cH this).symm
  refine hR s'.heap d' s'.toks acc c (ea▸B.perm) (fun b u hb e=> mv.heap b u (fun m=> ?_) (k b u hb e)) g'
  rcases aE.mp m with e'|m
  ·exact hb e'
  ·exact absurd (aD e) (by rw [aL.mp m];exact md.mpr B.new)
 have g1:=B.keep _ _ hS
 refine aa (bo (auc (a:=a) ⟨o,B.keep _ _ ho,hex.1⟩ ?_))
 refine ig (fun _=> ?_) (fun _=> af ⟨gV jQ _,key _ 0 _ B.st (fun b u _ e=> B.keep b u e) g1⟩)
 refine aa (cn (aa ?_))
 show wpAny _ _ (updateSeq S (·.push .none)>>=fun _=> updateSeq S (·.pop)) _ _ _;refine aa (kX g1 rfl ?_)
 have g2:=bt (dP (·.push aV)) g1 rfl
 refine kX (hz:=by seq_fits) g2 rfl ?_
 have g3:=bt (dP (·.pop)) g2 rfl
 refine af ⟨gV jQ _,key _ _ _ ?_ (fun b u hb e=> ?_) g3⟩
 ·refine B.walk.frame 0 _ _ B.st fun b hb u e=> ?_
  have hbS:S≠b:=fun z=> hSf (z▸hb)
  exact (bQ _ _ hbS).trans ((bQ _ _ hbS).trans e)
 ·exact (bQ _ _ (bY hb)).trans ((bQ _ _ (bY hb)).trans (B.keep _ _ e))
theorem am2{R:List ae -> ag -> Prop}(hh:A.handled=none)(ho:s.heap.get? a=some o)(hex:o.ExactSet)(hd:o.data=.set es ep t)(hf:t.fits es.size=true)(hz:es.size < cL)(tx:al1 w es.size t)
  (h: ∀h' d' tk (ord:List ae),ord.Perm (es.toList.map (·.2)) -> (∀b u,s.heap.get? b=some u -> h'.get? b=some u) -> R ord {s with heap:=h',drawn:=d',toks:=tk}):wpAny (model prog w) A (collect (.ref a)) R E s:=by
 unfold collect
 refine aa (lK (fg entry_proto_collect' ?_));rw [eD PySem.F.plain_proto_collect _]
 refine (show wpAny _ A.in1 (newList []>>=fun l=> again (.builtin "list.__iadd__" ⟨[l,.ref a],[]⟩)) _ _ s from aa (bJ (af ⟨gV kL _,fg entry_list_iadd' ?_⟩)))
 rw [eD kL _];have g1:(s.heap.push {cls:=.type "list",data:=.seq ([]:List ae).toArray}).get? s.heap.objs.size=some {cls:=.type "list",data:=.seq #[]}:=aA _ rfl
 show wpAny _ A.in1 (fI (.ref s.heap.objs.size) (.ref a) (.ref s.heap.objs.size)) _ _ _
 have key:=ayk (prog:=prog) (A:=A) (s:={s with heap:=s.heap.push {cls:=.type "list",data:=.seq ([]:List ae).toArray}})
  (R:=fun (q:gh) (s':ag)=> ∃(h':Heap) (d':Drawn) (tk:Nat) (acc:Array ae) (c:Nat),q=.ok (.ret (.ref s.heap.objs.size))/\s'={s with heap:=h',drawn:=d',toks:=tk}/\
   (∀b u,s.heap.get? b=some u -> h'.get? b=some u)/\h'.get? s.heap.objs.size=some {cls:=.type "list",dict:=none,data:=.seq acc c,slots:= #[]}/\acc.toList.Perm (es.toList.map (·.2)))
  hh (ak _ ho) hex hd hf hz tx s.heap.objs.size (fA (aD ho)) (.ref s.heap.objs.size) g1
  (fun h' d' tk acc c p k g=> ⟨h',d',tk,acc,c,rfl,rfl,fun b u e=> k b u (aH (aD e)) (ak _ e),g,p⟩)
 refine bw key (fun fn s' x=> ?_) fun e s' x=> ?_
 ·cases fn with
  |done f=>
   obtain⟨h',d',tk,acc,c,e,rfl,k,g,p⟩:=x
   cases e
   exact (show wpAny _ A (load s.heap.objs.size >>=_) _ _ _ from aa (jP g (af (h h' d' tk _ p k))))
  |again c1=>
   refine⟨x.1,dm x.2 fun q s2 y=> ?_⟩
   obtain⟨h',d',tk,acc,c,rfl,rfl,k,g,p⟩:=y
   exact (show wpAny _ A (load s.heap.objs.size >>=_) _ _ _ from aa (jP g (af (h h' d' tk _ p k))))
 ·obtain⟨_,_,_,_,_,e',_⟩:=x;cases e'
end
theorem ao3{α:Type}[DecidableEq α]: ∀{l m:List α},l.Nodup -> (∀x∈l,x∈m) -> m.length <=l.length -> l.Perm m
 |[],m,_,_,z=> by
  have:m=[]:=gH.mp (Nat.le_zero.mp z)
  rw [this]
 | x::r,m,nd,sub,z=> by
  have hx:=sub x av
  rw [cE]at nd
  have p:=mf hx
  refine ((ao3 nd.2 (fun y hy=> ?_) ?_).cons x).trans p.symm
  ·have:y≠x:=fun e=> nd.1 (e▸hy)
   exact (mh this).mpr (sub y (aw _ hy))
  ·rw [kB hx]
   simp only [az]at z
   lia
def Nx(n:Nat)(Pv:Addr -> Nat -> List V -> Hp -> Prop)(D:Addr)(i:Nat)(ys:List V)(H:Hp):Prop:= ∃m',m' < n - i/\m'=n - (i+1)/\i+1 <=n/\ys.length <=i+1/\Pv D (i+1) ys H
theorem nx{Pv:Addr -> Nat -> List V -> Hp -> Prop}{D:Addr}{ys:List V}(hi:i < n)(hl:ys.length <=i+1)(p:Pv D (i+1) ys H):Nx n Pv D i ys H:=⟨n - (i+1),by lia,rfl,hi,hl,p⟩
def aw1(K:aj)(mg:Str -> Option ae)(x:Str)(vs:List V):Prop:= ∃a,mg x=some (.ref a)/\ ∀H,SqT K H a vs
noncomputable def inD(d:ac)(ss:List Str):Bool:=match d with
 |.str y=> decide (y∈ss)
 |_=> false
theorem Inv.turnedL{t':Nat}{ch:List Addr}(I:Inv X pins σ H s)(k: ∀b o,b∉ch -> s.heap.get? b=some o -> h'.get? b=some o)(hf: ∀b∈ch,zo X pins H b):Inv X pins σ H {s with heap:=h',toks:=t'}:=by
 have no: ∀b u,H b=some u -> b∉ch:=fun b u e m=> by rw [(hf b m).1]at e;cases e
 refine I.step (g':=s.gens) (d':=s.drawn) (ch:=ch) (fun b m=> ⟨(hf b m).2.2.2.1,(hf b m).2.1,(hf b m).2.2.2.2.1,(hf b m).2.2.2.2.2⟩) (fun b o _ _ hc e _=> k b o hc e) (fun b o _ _ hc e _=> ⟨o.slots,k b o hc e⟩) (fun _ _ _ _ n=> n)
  (fun b o hc e=> ⟨o,k b o hc e⟩) (fun _ _ e=> e) (fun _ _ _ e=> e) (fun b ps e=> ⟨#[],by rw [e];simp⟩) (fun m hm=> ?_) (fun b u e=> ?_) I.bare
 ·obtain⟨o,es,ep,ho,r⟩:=hm
  exact⟨o,es,ep,k _ o (fun z=> (hf _ z).2.1 rfl) ho,r⟩
 ·refine (I.hok b u e).stay (fun c v hc q=> k c v ?_ q) (fun _ q=> q) fun _ _ q=> q
  rcases hc with z|z
  ·rw [z];exact no b u e
  ·exact no c _ z
section
open HT
variable{prog:aI}{w:aM}{A:aZ}{E:ae -> ag -> Prop}{s:ag}
theorem atg{t sl:Addr}{vl vu:ae}{lo hi:Option Int}(ht:IsTup s.heap t items)(hs:s.heap.IsSliceOf sl vl vu .none)(pl:gR vl lo)(pu:gR vu hi)(hw:sIx items.size 0 lo=0/\sIx items.size items.size hi=items.size)(h:Q (.ref t) s):wpAny (model prog w) A (getItem (.ref t) (.ref sl)) Q E s:=by
 obtain⟨os,hos,hcs,hds⟩:=id hs
 have hTs:s.TypeIs (.ref sl) "slice":=⟨os,hos,hcs⟩
 unfold getItem
 try with_reducible refine bo ?_
 first|refine aa (af ?_)|skip
 refine aa (jH ht.typeIs (by decide) (aa (br (name:=cr "__getitem__") ht.typeIs b9
  (bh b9 ht.typeIs mR ?_ (args_tuple_getitem _ _)))))
 show wpAny _ _ (fR (.ref t)>>=_) _ _ s
 refine aa (tupleItemsOf_ ht (aa (eQ hTs ?_)))
 rw [if_pos (by decide)]
 refine aa (ac3 hs pl pu ?_)
 have yes:(((sIx items.size 0 lo:Nat):Int)==0&&(1:Int)==1&&(sIx items.size items.size hi - sIx items.size 0 lo)==items.size)=true:=by
  rw [hw.1,hw.2];simp
 show wpAny _ _ (if (((sIx items.size 0 lo:Nat):Int)==0&&(1:Int)==1&&(sIx items.size items.size hi - sIx items.size 0 lo)==items.size)=true then _ else _) _ _ s
 rw [if_pos yes]
 unfold Builtin.Tuple.tupleIsExact
 refine aa (aa (eQ ht.typeIs (af ?_)))
 rw [if_pos (by decide)]
 exact aa (cn (af ⟨_,rfl,af h⟩))
end
def a4u(K:aj):V -> Option Int -> Option Int -> Hp -> VK -> Prop:=fun x lo hi H Q=> ∃a xs,x=.ref a/\SqT K H a xs/\(aa0 xs lo hi=xs -> Q (.ref a) H)/\ ∀p H',New H p (.tup (aa0 xs lo hi)) H' -> Q (.ref p) H'
theorem ayu:SlR X (a4u X.K):=by
 intro pins s σ H x v vl vu lo hi sl Q I rx hs pl pu h
 obtain⟨a,xs,rfl,hx,q1,q2⟩:=h
 by_cases c:HT.sIx xs.length 0 lo=0/\HT.sIx xs.length xs.length hi=xs.length
 ·cases rx
  obtain⟨its,r,ht,hz⟩:=I.tuple hx
  have hlen:its.toArray.size=xs.length:=by rw [aC];exact r.length.symm
  refine⟨"tuple",_,b9.lookup,ht.typeIs,?_⟩
  refine atg ht hs pl pu (by rw [hlen];exact c) ⟨.ref a,H,I,rfl,q1 ?_⟩
  unfold aa0
  rw [c.1,c.2];simp
 ·exact azy pins s σ H (.ref a) v vl vu lo hi sl Q I rx hs pl pu ⟨a,xs,rfl,hx,c,q2⟩
noncomputable def a2d(K:aj):R2:=fun x y H Q=> ∃a b xs ys,x=.ref a/\y=.ref b/\SqT K H a xs/\SqT K H b ys/\xs.length+ys.length <=sizeLine/\(xs=[] -> Q (.ref b) H)/\(xs≠ [] -> ys=[] -> Q (.ref a) H)/\(xs≠ [] -> ys≠ [] -> ∀p H',New H p (.tup (xs++ys)) H' -> Q (.ref p) H')
theorem awr:OpR X (binaryOp .Add) (a2d X.K):=by
 intro pins s σ H x y v u Q I rx ry h
 obtain⟨a,b,xs,ys,rfl,rfl,ha,hb,hz,q0,q1,q2⟩:=h
 by_cases c:xs=[]
 ·cases rx
  cases ry
  obtain⟨its,r1,p1,_⟩:=I.tuple ha
  obtain⟨its2,r2,p2,_⟩:=I.tuple hb
  have e0:its=[]:=r1.nil_iff.mpr c
  subst e0
  obtain⟨⟨cls,dd,data,sl⟩,ho,hc,n,hd⟩:=id p1
  obtain⟨⟨cls2,dd2,data2,sl2⟩,ho2,hc2,n2,hd2⟩:=id p2
  simp only at hc hd hc2 hd2
  subst hc hd hc2 hd2
  exact nk ⟨_,ho,rfl⟩ ⟨_,ho2,rfl⟩ jV mI gQ gE (gk _ _) (tuple_addW0 a b _ _ n n2 dd dd2 sl sl2 (by simp)) ⟨ho,ho2,⟨.ref b,H,I,rfl,q0 c⟩⟩
 ·exact azx pins s σ H (.ref a) (.ref b) v u Q I rx ry ⟨a,b,xs,ys,rfl,rfl,ha,hb,c,hz,q1 c,fun d p hp=> q2 c d p _ ⟨hp,rfl⟩⟩
noncomputable def b01(b:Bool):Int:=if b=true then 1 else 0
def a6j:V -> Option Int
 |.int i=> some i
 |.bl b=> some (b01 b)
 |_=> none
theorem axx:OpR X (binaryOp .Add) (fun x y H Q=> ∃i j,a6j x=some i/\y=.int j/\Q (.int (i+j)) H):=by
 intro pins s σ H x y v u Q I rx ry h
 obtain⟨i,j,hx,rfl,q⟩:=h
 cases x with
 |int k=> cases hx;exact ath pins s σ H _ _ v u Q I rx ry ⟨_,j,rfl,rfl,q⟩
 |bl b=>
  cases hx
  cases rx
  obtain⟨t',rfl⟩:=ry
  exact PySem.IntBool.add_bool_int ⟨.int (b01 b+j),H,I.tok _,⟨_,rfl⟩,q⟩
 |_=> cases hx
theorem part_of{v:ae}{o:Option Int}(p:gR v o): ∃q:Option (Int×Tok),v=partValue q/\q.map (·.1)=o:=by
 cases p with
 |none=> exact⟨none,rfl,rfl⟩
 |int i t=> exact⟨some (i,t),rfl,rfl⟩
end L2
namespace L2
open PySem PySem.Spec PyProof.Rows PyProof.Rows.KTD
structure TabF (K:aj) (d:Addr) (D:List (Str×Str)):Prop where
 tab: ∀h:Heap,K.In h -> TabOf (fun y v=> bE K aY y=some (some v)) h d D
 refs: ∀k y,datumAt k D=some y -> ∃f:Addr,bE K aY y=some (some (.ref f))
def a5z(X:Cx)(f:Addr)(σ:St)(vs:List V)(H:Hp)(Q:VK):Prop:= ∀(pins:List (Addr×Obj)) (s:ag) (us:List ae),Inv X pins σ H s -> jj vs us -> wpAny (model X.prog X.w) X.A (call (.ref f) us) (EP X pins σ Q) X.xe s
end L2
namespace PF
open PySem PySem.Spec
open L2
inductive D where
 |da (d:ac)|con (ds:List ac)|frz (ds:List ac)|set (ds:List ac)
 |ref (n:Nat)|fn (x:Str)|tabF (T:List (Str×Str))|ty (n:String)
abbrev D.non:D:=.da .none
abbrev D.bl(b:Bool):D:=.da (.bool b)
abbrev D.int(i:Int):D:=.da (.int i)
abbrev D.str(x:Str):D:=.da (.str x)
abbrev D.tup(ds:List ac):D:=.da (.tuple ds)
abbrev D.lst(ds:List ac):D:=.da (.list ds)
inductive O where
 |lst (ds:List D)|dct (kvs:List (ac×D))|set (ds:List D)|ins (C:Str) (fs:List (Str×D))|exc (C:Str) (fs:List (Str×D))|xcx (C:Str) (fs:List (Str×D))|gone
abbrev S:=List O
abbrev En:=List (Option D)
inductive R (α:Type) where
 |ok (a:α) (s:S)
 |bad
 /-- the exception at n was raised,where the names stood as ρ tells -/
 |ex (n:Nat) (ρ:En) (s:S)
noncomputable def R.bind{α β:Type}(r:R α)(f:α -> S -> R β):R β:=match r with
 |.ok a s=> f a s
 |.bad=>.bad
 |.ex n ρ s=>.ex n ρ s
noncomputable def R.calm{α:Type}(r:R α):R α:=match r with
 |.ok a s=>.ok a s
 |.bad=>.bad
 |.ex _ _ _=>.bad
noncomputable def R.at{α:Type}(r:R α)(ρ:En):R α:=match r with
 |.ok a s=>.ok a s
 |.bad=>.bad
 |.ex n _ s=>.ex n ρ s
theorem R.calm_ok{α:Type}(a:α)(s:S):(R.ok a s).calm=.ok a s:=rfl
theorem R.bind_ok{α β:Type}(a:α)(s:S)(f:α -> S -> R β):(R.ok a s).bind f=f a s:=rfl
def R.W{α:Type}(r:R α)(Q:α -> S -> Prop):Prop:=match r with
 |.ok a s=> Q a s
 |.bad=> False
 |.ex _ _ _=> False
theorem R.W_calm{α:Type}(r:R α)(Q:α -> S -> Prop):r.calm.W Q=r.W Q:=by cases r <;> rfl
theorem R.W_at{α:Type}(r:R α)(ρ:En)(Q:α -> S -> Prop):(r.at ρ).W Q=r.W Q:=by cases r <;> rfl
theorem R.W_ok{α:Type}(a:α)(s:S)(Q:α -> S -> Prop):(R.ok a s).W Q=Q a s:=rfl
theorem R.W_bind{α β:Type}(r:R α)(f:α -> S -> R β)(Q:β -> S -> Prop):(r.bind f).W Q=r.W fun a s=> (f a s).W Q:=by cases r <;> rfl
theorem R.W_mono{α:Type}{r:R α}{Q Q':α -> S -> Prop}(h:r.W Q)(k: ∀a s,Q a s -> Q' a s):r.W Q':=by
 cases r with
 |ok a s=> exact k a s h
 |bad=> exact h
 |ex n ρ s=> exact h
structure As where
 ix:List (Option Addr)
 hd:List Addr
def As.has(as:As)(p:Addr):Prop:=some p∈as.ix\/p∈as.hd
abbrev As.add(as:As)(p:Addr):As:={as with ix:=as.ix++ [some p]}
abbrev As.cut(as:As)(n:Nat):As:={as with ix:=as.ix.set n none}
abbrev As.hide(as:As)(p:Addr):As:={as with hd:=p::as.hd}
abbrev As.show(as:As)(p:Addr):As:={as with hd:=as.hd.filter fun q=> decide (q≠p)}
structure Step0 (as:As) (H:Hp) (as':As) (H':Hp):Prop where
 len:as.ix.length <=as'.ix.length
 old: ∀n:Nat,n < as.ix.length -> as'.ix[n]?=as.ix[n]?\/as'.ix[n]?=some none
 back: ∀p,as'.has p -> as.has p\/H p=none
 keep: ∀b o,¬as.has b -> H b=some o -> H' b=some o
 dom: ∀b,H b≠none -> H' b≠none
structure Step (as:As) (H:Hp) (as':As) (H':Hp):Prop extends Step0 as H as' H' where
 hk: ∀p∈as.hd,p∈as'.hd
 hh: ∀p∈as.hd,∀o,H p=some o -> H' p=some o
theorem Step.refl(as:As)(H:Hp):Step as H as H where
 len:=ao _
 old _ _:=.inl rfl
 back _ h:=.inl h
 keep _ _ _ e:=e
 dom _ e:=e
 hk _ h:=h
 hh _ _ _ e:=e
theorem kc{as:As}:some p∈as.ix ↔ ∃n:Nat,as.ix[n]?=some (some p):=by
 rw [hV]
theorem Step0.out{as as':As}(st:Step0 as H as' H')(n: ¬as.has b)(e:H b=some o): ¬as'.has b:=fun m=> by
 rcases st.back b m with q|q
 ·exact n q
 ·rw [e]at q;cases q
theorem Step0.trans{as as1 as2:As}{H1 H2:Hp}(a:Step0 as H as1 H1)(b:Step0 as1 H1 as2 H2):Step0 as H as2 H2 where
 len:=bb a.len b.len
 old n hn:=by
  rcases b.old n (aQ hn a.len) with q|q
  ·rw [q];exact a.old n hn
  ·exact .inr q
 back p h:=by
  rcases b.back p h with q|q
  ·exact a.back p q
  ·right
   cases z:H p with
   |none=> rfl
   |some o=> exact absurd q (a.dom p (by rw [z];simp))
 keep b' o n e:=b.keep b' o (a.out n e) (a.keep b' o n e)
 dom b' e:=b.dom b' (a.dom b' e)
theorem Step.trans{as as1 as2:As}{H1 H2:Hp}(a:Step as H as1 H1)(b:Step as1 H1 as2 H2):Step as H as2 H2:=⟨a.toStep0.trans b.toStep0,fun p h=> b.hk p (a.hk p h),fun p h o e=> b.hh p (a.hk p h) o (a.hh p h o e)⟩
mutual
inductive TD (as:As) (H:Hp):V -> ac -> Prop
 |non:TD as H .non .none
 |bl (b:Bool):TD as H (.bl b) (.bool b)
 |int (i:Int):TD as H (.int i) (.int i)
 |str (x:Str):TD as H (.str x) (.str x)
 |tup {p:Addr} {xs:List V} {ds:List ac}: ¬as.has p -> H p=some (.tup xs) -> TDs as H xs ds -> TD as H (.ref p) (.tuple ds)
 |lst {p:Addr} {xs:List V} {ds:List ac}: ¬as.has p -> H p=some (.lst xs) -> TDs as H xs ds -> TD as H (.ref p) (.list ds)
 |dct {p:Addr}: ¬as.has p -> H p=some (.dK []) -> TD as H (.ref p) (.dict [])
 |dc1 {p:Addr} {i:Int} {v:V} {d:ac}: ¬as.has p -> H p=some (.dK [(.inl i,v)]) -> TD as H v d -> TD as H (.ref p) (.dict [(.int i,d)])
inductive TDs (as:As) (H:Hp):List V -> List ac -> Prop
 |nil:TDs as H [] []
 |cons {x:V} {xs:List V} {d:ac} {ds:List ac}:TD as H x d -> TDs as H xs ds -> TDs as H (x::xs) (d::ds)
end
inductive RD (K:aj) (as:As) (H:Hp):V -> D -> Prop
 |da {v:V} {d:ac}:TD as H v d -> RD K as H v (.da d)
 |ty (n:String):RD K as H (.ty n) (.ty n)
 |fn {f:Addr} {x:Str}:bE K aY x=some (some (.ref f)) -> RD K as H (.ref f) (.fn x)
 |tabF {d:Addr} {T:List (Str×Str)}:TabF K d T -> RD K as H (.ref d) (.tabF T)
 |con {p:Addr} {xs:List V} {ds:List ac}:(∀H',SqT K H' p xs) -> TDs as H xs ds -> RD K as H (.ref p) (.con ds)
 |frz {p:Addr} {xs:List V} {ds:List ac}:(∀as' H',Step0 as H as' H' -> SqL K H' p xs) -> TDs as H xs ds -> RD K as H (.ref p) (.frz ds)
 |ref {p:Addr} {n:Nat}:n < as.ix.length -> (∀q,as.ix[n]?=some (some q) -> q=p) -> RD K as H (.ref p) (.ref n)
inductive RDs (K:aj) (as:As) (H:Hp):List V -> List D -> Prop
 |nil:RDs K as H [] []
 |cons {x:V} {xs:List V} {d:D} {ds:List D}:RD K as H x d -> RDs K as H xs ds -> RDs K as H (x::xs) (d::ds)
noncomputable def kP:Key -> ac
 |.inl i=>.int i
 |.inr x=>.str x
def isT:ac -> Bool
 |.tuple xs=> xt (.tuple xs)
 |_=> false
inductive DRs (K:aj) (as:As) (H:Hp):List (ac×V) -> List (ac×D) -> Prop
 |nil:DRs K as H [] []
 |cons {k:ac} {v:V} {d:D} {l:List (ac×V)} {kvs:List (ac×D)}:RD K as H v d -> DRs K as H l kvs -> DRs K as H ((k,v)::l) ((k,d)::kvs)
inductive FRs (K:aj) (as:As) (H:Hp):List (Str×V) -> List (Str×D) -> Prop
 |nil:FRs K as H [] []
 |cons {f:Str} {v:V} {d:D} {l:List (Str×V)} {fs:List (Str×D)}:RD K as H v d -> FRs K as H l fs -> FRs K as H ((f,v)::l) ((f,d)::fs)
def pvK(l:List (Key×V)):List (ac×V):=l.map fun e=> (kP e.1,e.2)
def RO(K:aj)(as:As)(H:Hp)(p:Addr):O -> Prop
 |.lst ds=> ∃xs,H p=some (.lst xs)/\RDs K as H xs ds
 |.dct kvs=> (∃l:List (Key×V),H p=some (.dK l)/\DRs K as H (pvK l) kvs)\/ ∃l:List (ac×V),(l≠ []/\(l.all fun e=> isT e.1)=true)/\H p=some (.dD l)/\DRs K as H l kvs
 |.ins C fs=> ∃(Ca dx:Addr) (gs:List (Str×V)),bE K aY C=some (some (.ref Ca))/\H p=some (.ins Ca dx gs)/\FRs K as H gs fs
 |.exc C fs=> ∃(Ca:Addr) (gs:List (Str×V)),bE K aY C=some (some (.ref Ca))/\H p=some (.exn Ca gs)/\FRs K as H gs fs
 |.xcx C fs=> ∃(Ca:Addr) (gs:List (Str×V)),bE K aY C=some (some (.ref Ca))/\H p=some (.exx Ca gs)/\FRs K as H gs fs
 |_=> False
noncomputable def aq8:HO -> Bool
 |.tup _=> false
 |_=> true
structure Rel (K:aj) (as:As) (H:Hp) (s:S):Prop where
 len:as.ix.length=s.length
 nd: ∀(i j:Nat) (p:Addr),as.ix[i]?=some (some p) -> as.ix[j]?=some (some p) -> i=j
 ob: ∀(n:Nat) (p:Addr) (o:O),as.ix[n]?=some (some p) -> s[n]?=some o -> RO K as H p o
 li: ∀(n:Nat) (o:O),s[n]?=some o -> o≠ .gone -> ∃p,as.ix[n]?=some (some p)
 hs: ∀p∈as.hd,∃o,H p=some o/\aq8 o=true
 hx: ∀p∈as.hd,some p∉as.ix
mutual
theorem TD.mono0{as as':As}{H H':Hp}(st:Step0 as H as' H'): ∀{v:V} {d:ac},TD as H v d -> TD as' H' v d
 |_,_,.non=>.non
 |_,_,.bl b=>.bl b
 |_,_,.int i=>.int i
 |_,_,.str x=>.str x
 |_,_,.tup n e r=>.tup (st.out n e) (st.keep _ _ n e) (TDs.mono0 st r)
 |_,_,.lst n e r=>.lst (st.out n e) (st.keep _ _ n e) (TDs.mono0 st r)
 |_,_,.dct n e=>.dct (st.out n e) (st.keep _ _ n e)
 |_,_,.dc1 n e t=>.dc1 (st.out n e) (st.keep _ _ n e) (TD.mono0 st t)
theorem TDs.mono0{as as':As}{H H':Hp}(st:Step0 as H as' H'): ∀{vs:List V} {ds:List ac},TDs as H vs ds -> TDs as' H' vs ds
 |_,_,.nil=>.nil
 |_,_,.cons a r=>.cons (TD.mono0 st a) (TDs.mono0 st r)
end
theorem RD.mono0{as as':As}(st:Step0 as H as' H'){d:D}(h:RD K as H v d):RD K as' H' v d:=by
 cases h with
 |da t=> exact .da (t.mono0 st)
 |ty n=> exact .ty n
 |fn a=> exact .fn a
 |tabF a=> exact .tabF a
 |con h r=> exact .con h (r.mono0 st)
 |frz h r=> exact .frz (fun as' H' s2=> h as' H' (st.trans s2)) (r.mono0 st)
 |ref l h=>
  refine .ref (aQ l st.len) fun q e=> ?_
  rcases st.old _ l with z|z
  ·rw [z]at e;exact h q e
  ·rw [z]at e;cases e
theorem RDs.mono0{K:aj}{as as':As}{H H':Hp}(st:Step0 as H as' H'): ∀{vs:List V} {ds:List D},RDs K as H vs ds -> RDs K as' H' vs ds
 |_,_,.nil=>.nil
 |_,_,.cons a r=>.cons (RD.mono0 st a) (RDs.mono0 st r)
theorem FRs.mono0{K:aj}{as as':As}{H H':Hp}(st:Step0 as H as' H'): ∀{l:List (Str×V)} {fs:List (Str×D)},FRs K as H l fs -> FRs K as' H' l fs
 |_,_,.nil=>.nil
 |_,_,.cons a r=>.cons (a.mono0 st) (FRs.mono0 st r)
theorem DRs.mono0{K:aj}{as as':As}{H H':Hp}(st:Step0 as H as' H'): ∀{l:List (ac×V)} {kvs:List (ac×D)},DRs K as H l kvs -> DRs K as' H' l kvs
 |_,_,.nil=>.nil
 |_,_,.cons a r=>.cons (RD.mono0 st a) (DRs.mono0 st r)
theorem DRs.mono{as as':As}(st:Step as H as' H'){l:List (ac×V)}{kvs:List (ac×D)}(h:DRs K as H l kvs):DRs K as' H' l kvs:=h.mono0 st.toStep0
theorem TD.mono{as as':As}(st:Step as H as' H'){d:ac}(h:TD as H v d):TD as' H' v d:=h.mono0 st.toStep0
theorem TDs.mono{as as':As}(st:Step as H as' H'){v:List V}{d:List ac}(h:TDs as H v d):TDs as' H' v d:=h.mono0 st.toStep0
theorem RD.mono{as as':As}(st:Step as H as' H'){d:D}(h:RD K as H v d):RD K as' H' v d:=h.mono0 st.toStep0
theorem RDs.mono{as as':As}(st:Step as H as' H'){v:List V}{d:List D}(h:RDs K as H v d):RDs K as' H' v d:=h.mono0 st.toStep0
section
variable{K:aj}{as:As}{H:Hp}
theorem RDs.length: ∀{vs:List V} {ds:List D},RDs K as H vs ds -> vs.length=ds.length
 |_,_,.nil=> rfl
 |_,_,.cons _ r=> congrArg (· +1) (RDs.length r)
theorem RDs.append: ∀{vs ws:List V} {ds es:List D},RDs K as H vs ds -> RDs K as H ws es -> RDs K as H (vs++ws) (ds++es)
 |_,_,_,_,.nil,s=> s
 |_,_,_,_,.cons a r,s=>.cons a (RDs.append r s)
theorem RDs.get: ∀{vs:List V} {ds:List D} {i:Nat} {d:D},RDs K as H vs ds -> ds[i]?=some d -> ∃v,vs[i]?=some v/\RD K as H v d
 |_,_,_,_,.nil,e=> by simp at e
 |_,_,0,_,.cons a _,e=> by simp at e;subst e;exact⟨_,rfl,a⟩
 |_,_,i+1,d,.cons _ r,e=> by
  obtain⟨v,h1,h2⟩:=RDs.get (i:=i) (d:=d) r (by simpa using e)
  exact⟨v,by simpa using h1,h2⟩
theorem RDs.set: ∀{vs:List V} {ds:List D} (i:Nat) {v:V} {d:D},RD K as H v d -> RDs K as H vs ds -> RDs K as H (vs.set i v) (ds.set i d)
 |_,_,_,_,_,_,.nil=>.nil
 |_,_,0,_,_,r,.cons _ t=>.cons r t
 |_,_,i+1,_,_,r,.cons q t=>.cons q (RDs.set i r t)
theorem RDs.take: ∀{vs:List V} {ds:List D} (n:Nat),RDs K as H vs ds -> RDs K as H (vs.take n) (ds.take n)
 |_,_,0,_=>.nil
 |_,_,_+1,.nil=>.nil
 |_,_,n+1,.cons r t=>.cons r (RDs.take n t)
theorem RDs.drop: ∀{vs:List V} {ds:List D} (n:Nat),RDs K as H vs ds -> RDs K as H (vs.drop n) (ds.drop n)
 |_,_,0,r=> r
 |_,_,_+1,.nil=>.nil
 |_,_,n+1,.cons _ t=> RDs.drop n t
end
section
variable{as:As}{H:Hp}
theorem TDs.length: ∀{vs:List V} {ds:List ac},TDs as H vs ds -> vs.length=ds.length
 |_,_,.nil=> rfl
 |_,_,.cons _ r=> congrArg (· +1) (TDs.length r)
theorem TDs.append: ∀{vs ws:List V} {ds es:List ac},TDs as H vs ds -> TDs as H ws es -> TDs as H (vs++ws) (ds++es)
 |_,_,_,_,.nil,s=> s
 |_,_,_,_,.cons a r,s=>.cons a (TDs.append r s)
theorem TDs.get: ∀{vs:List V} {ds:List ac} {i:Nat} {d:ac},TDs as H vs ds -> ds[i]?=some d -> ∃v,vs[i]?=some v/\TD as H v d
 |_,_,_,_,.nil,e=> by simp at e
 |_,_,0,_,.cons a _,e=> by simp at e;subst e;exact⟨_,rfl,a⟩
 |_,_,i+1,d,.cons _ r,e=> by
  obtain⟨v,h1,h2⟩:=TDs.get (i:=i) (d:=d) r (by simpa using e)
  exact⟨v,by simpa using h1,h2⟩
theorem TDs.take: ∀{vs:List V} {ds:List ac} (n:Nat),TDs as H vs ds -> TDs as H (vs.take n) (ds.take n)
 |_,_,0,_=>.nil
 |_,_,_+1,.nil=>.nil
 |_,_,n+1,.cons r t=>.cons r (TDs.take n t)
theorem TDs.drop: ∀{vs:List V} {ds:List ac} (n:Nat),TDs as H vs ds -> TDs as H (vs.drop n) (ds.drop n)
 |_,_,0,r=> r
 |_,_,_+1,.nil=>.nil
 |_,_,n+1,.cons _ t=> TDs.drop n t
end
theorem TDs.rd{K:aj}{as:As}{H:Hp}: ∀{vs:List V} {ds:List ac},TDs as H vs ds -> RDs K as H vs (ds.map D.da)
 |_,_,.nil=>.nil
 |_,_,.cons a r=>.cons (.da a) (TDs.rd r)
noncomputable def j8:List D -> Option (List ac)
 |[]=> some []
 |.da d::r=> match j8 r with
  |some ds=> some (d::ds)
  |none=> none
 |_=> none
theorem vg: ∀ds:List ac,j8 (ds.map D.da)=some ds
 |[]=> rfl
 |d::r=> by rw [aN,j8,vg r]
theorem yg: ∀{ds:List D} {xs:List ac},j8 ds=some xs -> ds=xs.map D.da
 |[],xs,h=> by cases h;rfl
 |.da d::r,xs,h=> by
  rw [j8]at h
  cases q:j8 r with
  |none=> rw [q]at h;cases h
  |some ys=> rw [q]at h;cases h;rw [yg q];rfl
 |.con _::_,_,h=> by cases h
 |.frz _::_,_,h=> by cases h
 |.set _::_,_,h=> by cases h
 |.ref _::_,_,h=> by cases h
 |.fn _::_,_,h=> by cases h
 |.tabF _::_,_,h=> by cases h
 |.ty _::_,_,h=> by cases h
theorem RDs.td{K:aj}{as:As}{H:Hp}: ∀{vs:List V} {ds:List ac},RDs K as H vs (ds.map D.da) -> TDs as H vs ds
 |_,[],h=> by cases h;exact .nil
 |_,d::r,h=> by
  cases h with
  |cons a b=> cases a with|da a=> exact .cons a (RDs.td b)
theorem aiy(n:New H p o H')(e:H b≠none):H' b≠none:=by
 cases q:H b with
 |none=> exact absurd q e
 |some u=> rw [n.keep q];simp
theorem k8{as:As}(n:New H p o H'):Step as H as H' where
 len:=ao _
 old _ _:=.inl rfl
 back _ h:=.inl h
 keep _ _ _ e:=n.keep e
 dom _ e:=aiy n e
 hk _ h:=h
 hh _ _ _ e:=n.keep e
theorem xq{α:Type}{l:List α}{x y:α}(e:(l++ [x])[i]?=some y):(i < l.length/\l[i]?=some y)\/(i=l.length/\y=x):=by
 by_cases h:i < l.length
 ·rw [aJ h]at e;exact .inl ⟨h,e⟩
 ·have h2:i - l.length=0\/1 <=i - l.length:=by lia
  rw [aW (bC h)]at e
  rcases h2 with z|z
  ·rw [z]at e
   simp at e
   exact .inr ⟨by lia,e.symm⟩
  ·rw [df.mpr (by simpa using z)]at e
   cases e
theorem aoy{as:As}{q:Addr}(h:(as.add p).has q):as.has q\/q=p:=by
 rcases h with h|h
 ·rcases aS.mp h with z|z
  ·exact .inl (.inl z)
  ·exact .inr (by simpa using z)
 ·exact .inl (.inr h)
theorem abc{as:As}(n:New H p o H'):Step as H (as.add p) H' where
 len:=by simp
 old i h:=.inl (aJ h)
 back q h:=by
  rcases aoy h with z|z
  ·exact .inl z
  ·subst z;exact .inr n.no
 keep _ _ _ e:=n.keep e
 dom _ e:=aiy n e
 hk _ h:=h
 hh _ _ _ e:=n.keep e
theorem aa9{as:As}(m:as.has p)(c:Chg H p o H'):Step0 as H as H' where
 len:=ao _
 old _ _:=.inl rfl
 back _ h:=.inl h
 keep b u n e:=c.keep (fun z=> n (z▸m)) e
 dom b e:=by
  by_cases z:b=p
  ·subst z;rw [c.at];simp
  ·cases q:H b with
   |none=> exact absurd q e
   |some u=> rw [c.keep z q];simp
theorem z8{as:As}(m:some p∈as.ix)(nh:p∉as.hd)(c:Chg H p o H'):Step as H as H':=⟨aa9 (.inl m) c,fun _ h=> h,fun q h u e=> c.keep (fun z=> nh (z▸h)) e⟩
theorem amu{as as2:As}{H1 H2:Hp}(st:Step as H as2 H1)(no:H p=none)(nh:p∉as.hd)(m:p∈as2.hd)(c:Chg H1 p o H2):Step as H as2 H2:=
 ⟨⟨st.len,st.old,st.back,fun b u n e=> c.keep (yn e no) (st.keep b u n e),fun b e=> (aa9 (.inr m) c).dom b (st.dom b e)⟩,st.hk,fun q h u e=> c.keep (fun z=> nh (z▸h)) (st.hh q h u e)⟩
theorem ahp{as:As}{q:Addr}(e:(as.cut n).ix[i]?=some (some q)):as.ix[i]?=some (some q):=by
 by_cases z:n=i
 ·subst z
  rw [d8]at e
  simp at e
 ·rw [aF z]at e;exact e
theorem agj{as:As}(n:Nat):Step as H (as.cut n) H where
 len:=by simp
 old i h:=by
  by_cases z:n=i
  ·subst z;right;simp [h]
  ·left;rw [aF z]
 back p h:=by
  rcases h with h|h
  ·obtain⟨i,hi⟩:=kc.mp h
   exact .inl (.inl (kc.mpr ⟨i,ahp hi⟩))
  ·exact .inl (.inr h)
 keep _ _ _ e:=e
 dom _ e:=e
 hk _ h:=h
 hh _ _ _ e:=e
theorem afk{as:As}(n:New H p o H'):Step as H (as.hide p) H' where
 len:=ao _
 old _ _:=.inl rfl
 back q h:=by
  rcases h with h|h
  ·exact .inl (.inl h)
  ·rcases aE.mp h with z|z
   ·subst z;exact .inr n.no
   ·exact .inl (.inr z)
 keep _ _ _ e:=n.keep e
 dom _ e:=aiy n e
 hk _ h:=aw _ h
 hh _ _ _ e:=n.keep e
theorem alz{as:As}{q:Addr}(h:(as.show p).has q):as.has q:=by
 rcases h with h|h
 ·exact .inl h
 ·exact .inr (bR.mp h).1
theorem abd{as:As}:Step0 as H (as.show p) H where
 len:=ao _
 old _ _:=.inl rfl
 back q h:=.inl (alz h)
 keep _ _ _ e:=e
 dom _ e:=e
theorem af7{as:As}(m:p∈as.hd):Step0 as H ((as.show p).add p) H where
 len:=by simp
 old i h:=.inl (aJ h)
 back q h:=by
  rcases aoy h with z|z
  ·exact .inl (alz z)
  ·subst z;exact .inl (.inr m)
 keep _ _ _ e:=e
 dom _ e:=e
theorem ala{as as2:As}{H2:Hp}(st:Step as H as2 H2)(nh:p∉as.hd)(st2:Step0 as2 H2 (as2.show p) H2):Step as H (as2.show p) H2:=
 ⟨st.toStep0.trans st2,fun q h=> bR.mpr ⟨st.hk q h,by
  have:q≠p:=fun z=> nh (z▸h)
  simp [this]⟩,st.hh⟩
theorem asf{as as2:As}{H2:Hp}(st:Step as H as2 H2)(nh:p∉as.hd)(m:p∈as2.hd):Step as H ((as2.show p).add p) H2:=
 ⟨st.toStep0.trans (af7 m),fun q h=> bR.mpr ⟨st.hk q h,by
  have:q≠p:=fun z=> nh (z▸h)
  simp [this]⟩,st.hh⟩
section
variable{K:aj}{as as':As}{H H':Hp}{s:S}{p:Addr}
theorem RO.mono0(st:Step0 as H as' H'){o:O}(e:H' p=H p)(h:RO K as H p o):RO K as' H' p o:=by
 cases o with
 |lst ds=>
  obtain⟨xs,e1,r⟩:=h
  exact⟨xs,e.trans e1,r.mono0 st⟩
 |dct kvs=>
  rcases h with ⟨l,e1,r⟩|⟨l,e0,e1,r⟩
  ·exact .inl ⟨l,e.trans e1,r.mono0 st⟩
  ·exact .inr ⟨l,e0,e.trans e1,r.mono0 st⟩
 |ins C fs=>
  obtain⟨Ca,dx,gs,e0,e1,r⟩:=h
  exact⟨Ca,dx,gs,e0,e.trans e1,r.mono0 st⟩
 |exc C fs=>
  obtain⟨Ca,gs,e0,e1,r⟩:=h
  exact⟨Ca,gs,e0,e.trans e1,r.mono0 st⟩
 |xcx C fs=>
  obtain⟨Ca,gs,e0,e1,r⟩:=h
  exact⟨Ca,gs,e0,e.trans e1,r.mono0 st⟩
 |_=> exact h.elim
theorem RO.some{o:O}(h:RO K as H p o):H p≠none:=by
 cases o with
 |lst ds=>
  obtain⟨xs,e1,r⟩:=h
  rw [e1];simp
 |dct kvs=>
  rcases h with ⟨l,e1,r⟩|⟨l,e0,e1,r⟩ <;> (rw [e1];simp)
 |ins C fs=>
  obtain⟨Ca,dx,gs,e0,e1,r⟩:=h
  rw [e1];simp
 |exc C fs=>
  obtain⟨Ca,gs,e0,e1,r⟩:=h
  rw [e1];simp
 |xcx C fs=>
  obtain⟨Ca,gs,e0,e1,r⟩:=h
  rw [e1];simp
 |_=> exact h.elim
theorem Rel.at(r:Rel K as H s)(e:as.ix[n]?=some (some p)):H p≠none:=by
 have hl:n < s.length:=by
  rw [←r.len]
  exact (ap.mp e).1
 exact (r.ob n p _ e (aq hl)).some
theorem Rel.has(r:Rel K as H s)(h:as.has p):H p≠none:=by
 rcases h with h|h
 ·obtain⟨i,hi⟩:=kc.mp h
  exact r.at hi
 ·obtain⟨xs,e,_⟩:=r.hs p h
  rw [e];simp
theorem ad7{q:Addr}(k: ∀o,H q=some o -> H' q=some o)(h:H q≠none):H' q=H q:=by
 cases z:H q with
 |none=> exact absurd z h
 |some x=> rw [k x z]
theorem Rel.new(r:Rel K as H s)(n:New H p o H'):Rel K as H' s where
 len:=r.len
 nd:=r.nd
 ob i q u e1 e2:=(r.ob i q u e1 e2).mono0 (k8 n).toStep0 (ad7 (fun _=> n.keep) (r.at e1))
 li:=r.li
 hs q h:=let ⟨xs,e,t⟩:=r.hs q h;⟨xs,n.keep e,t⟩
 hx:=r.hx
theorem Rel.laid{u:O}(r:Rel K as H s)(n:New H p o H')(h:RO K (as.add p) H' p u):Rel K (as.add p) H' (s++ [u]) where
 len:=by simp [r.len]
 nd i j q e1 e2:=by
  rcases xq e1 with ⟨l1,z1⟩|⟨l1,z1⟩ <;> rcases xq e2 with ⟨l2,z2⟩|⟨l2,z2⟩
  ·exact r.nd i j q z1 z2
  ·cases z2;exact absurd n.no (r.at z1)
  ·cases z1;exact absurd n.no (r.at z2)
  ·rw [l1,l2]
 ob i q x e1 e2:=by
  rcases xq e1 with ⟨l1,z1⟩|⟨l1,z1⟩ <;> rcases xq e2 with ⟨l2,z2⟩|⟨l2,z2⟩
  ·exact (r.ob i q x z1 z2).mono0 (abc n).toStep0 (ad7 (fun _=> n.keep) (r.at z1))
  ·rw [l2,←r.len]at l1;exact absurd l1 (cN _)
  ·rw [l1,r.len]at l2;exact absurd l2 (cN _)
  ·cases z1;subst z2;exact h
 li i x e g:=by
  rcases xq e with ⟨l1,z1⟩|⟨l1,z1⟩
  ·obtain⟨q,hq⟩:=r.li i x z1 g
   exact⟨q,by rw [aJ (by rw [r.len];exact l1)];exact hq⟩
  ·exact⟨p,by rw [l1,←r.len];simp⟩
 hs q h:=let ⟨xs,e,t⟩:=r.hs q h;⟨xs,n.keep e,t⟩
 hx q h m:=by
  rcases aS.mp m with z|z
  ·exact r.hx q h z
  ·have:q=p:=by simpa using z
   subst this
   obtain⟨xs,e,_⟩:=r.hs q h
   rw [n.no]at e;cases e
theorem Rel.chg{u:O}(r:Rel K as H s)(e:as.ix[n]?=some (some p))(c:Chg H p o H')(h:RO K as H' p u):Rel K as H' (s.set n u) where
 len:=by simp [r.len]
 nd:=r.nd
 ob i q x e1 e2:=by
  by_cases z:n=i
  ·subst z
   rw [e]at e1;cases e1
   have hl:n < s.length:=by rw [←r.len];exact (ap.mp e).1
   rw [bc hl]at e2
   cases e2;exact h
  ·rw [aF z]at e2
   have ne:q≠p:=fun w=> z (r.nd n i p e (w▸e1))
   exact (r.ob i q x e1 e2).mono0 (aa9 (.inl (kc.mpr ⟨n,e⟩)) c) (ad7 (fun _=> c.keep ne) (r.at e1))
 li i x e2 g:=by
  by_cases z:n=i
  ·subst z;exact⟨p,e⟩
  ·rw [aF z]at e2
   exact r.li i x e2 g
 hs q h:=let ⟨xs,e',t⟩:=r.hs q h;⟨xs,c.keep (fun z=> r.hx q h (kc.mpr ⟨n,z▸e⟩)) e',t⟩
 hx:=r.hx
theorem Rel.chgH(r:Rel K as H s)(m:p∈as.hd)(c:Chg H p o H')(ht:aq8 o=true:=by exact rfl):Rel K as H' s where
 len:=r.len
 nd:=r.nd
 ob i q x e1 e2:=by
  have ne:q≠p:=fun w=> r.hx p m (kc.mpr ⟨i,w▸e1⟩)
  exact (r.ob i q x e1 e2).mono0 (aa9 (.inr m) c) (ad7 (fun _=> c.keep ne) (r.at e1))
 li:=r.li
 hs q h:=by
  by_cases z:q=p
  ·subst z;exact⟨_,c.at,ht⟩
  ·obtain⟨xs,e,t⟩:=r.hs q h
   exact⟨xs,c.keep z e,t⟩
 hx:=r.hx
theorem Rel.hide(r:Rel K as H s)(n:New H p o H')(ht:aq8 o=true:=by exact rfl):Rel K (as.hide p) H' s where
 len:=r.len
 nd:=r.nd
 ob i q u e1 e2:=(r.ob i q u e1 e2).mono0 (afk n).toStep0 (ad7 (fun _=> n.keep) (r.at e1))
 li:=r.li
 hs q h:=by
  rcases aE.mp h with z|z
  ·subst z;exact⟨_,n.at,ht⟩
  ·obtain⟨xs,e,t⟩:=r.hs q z
   exact⟨xs,n.keep e,t⟩
 hx q h m:=by
  rcases aE.mp h with z|z
  ·subst z
   obtain⟨i,hi⟩:=kc.mp m
   exact r.at hi n.no
  ·exact r.hx q z m
theorem Rel.show(r:Rel K as H s):Rel K (as.show p) H s where
 len:=r.len
 nd:=r.nd
 ob i q u e1 e2:=(r.ob i q u e1 e2).mono0 abd rfl
 li:=r.li
 hs q h:=r.hs q (bR.mp h).1
 hx q h:=r.hx q (bR.mp h).1
theorem Rel.take{u:O}(r:Rel K as H s)(m:p∈as.hd)(h:RO K ((as.show p).add p) H p u):Rel K ((as.show p).add p) H (s++ [u]) where
 len:=by simp [r.len]
 nd i j q e1 e2:=by
  rcases xq e1 with ⟨l1,z1⟩|⟨l1,z1⟩ <;> rcases xq e2 with ⟨l2,z2⟩|⟨l2,z2⟩
  ·exact r.nd i j q z1 z2
  ·cases z2;exact absurd (kc.mpr ⟨i,z1⟩) (r.hx p m)
  ·cases z1;exact absurd (kc.mpr ⟨j,z2⟩) (r.hx p m)
  ·rw [l1,l2]
 ob i q x e1 e2:=by
  rcases xq e1 with ⟨l1,z1⟩|⟨l1,z1⟩ <;> rcases xq e2 with ⟨l2,z2⟩|⟨l2,z2⟩
  ·exact (r.ob i q x z1 z2).mono0 (af7 m) rfl
  ·rw [l2,←r.len]at l1;exact absurd l1 (cN _)
  ·rw [l1]at l2
   have:as.ix.length < s.length:=l2
   rw [r.len]at this;exact absurd this (cN _)
  ·cases z1;subst z2;exact h
 li i x e g:=by
  rcases xq e with ⟨l1,z1⟩|⟨l1,z1⟩
  ·obtain⟨q,hq⟩:=r.li i x z1 g
   exact⟨q,by rw [aJ (by rw [r.len];exact l1)];exact hq⟩
  ·exact⟨p,by rw [l1,←r.len];simp⟩
 hs q h:=r.hs q (bR.mp h).1
 hx q h m2:=by
  obtain⟨h1,h2⟩:=bR.mp h
  rcases aS.mp m2 with z|z
  ·exact r.hx q h1 z
  ·have:q=p:=by simpa using z
   exact absurd this (of_decide_eq_true h2)
theorem Rel.frz(r:Rel K as H s):Rel K (as.cut n) H (s.set n .gone) where
 len:=by simp [r.len]
 nd i j q e1 e2:=by
  exact r.nd i j q (ahp e1) (ahp e2)
 ob i q x e1 e2:=by
  by_cases z:n=i
  ·subst z
   rw [d8]at e1
   simp at e1
  ·rw [aF z]at e1 e2
   exact (r.ob i q x e1 e2).mono0 (agj n).toStep0 rfl
 li i x e2 g:=by
  by_cases z:n=i
  ·subst z
   rw [d8]at e2
   simp at e2
   exact absurd e2.2.symm g
  ·rw [aF z]at e2⊢
   exact r.li i x e2 g
 hs:=r.hs
 hx q h m:=by
  obtain⟨i,hi⟩:=kc.mp m
  by_cases z:n=i
  ·subst z
   rw [d8]at hi
   simp at hi
  ·rw [aF z]at hi
   exact r.hx q h (kc.mpr ⟨i,hi⟩)
end
end PF
namespace EX
open PySem PySem.W PySem.Spec PySem.Calls PyProof.Rows Builtin Builtin.ObjectAttr
abbrev bmV:List ae:=[.type "ValueError",.type "Exception",.type "BaseException",.type "object"]
inductive Above:List ae -> Prop
 |base:Above bmV
 |own (a:Addr) {l:List ae}:Above l -> Above (.ref a::l)
structure ClsE (K:Frag) (C:Addr):Prop where
 at_: ∃nm q N bs bm sn sub ab col dd k0 k1 k2 k3 k5,K.lookup C=some (excClassObj nm q C N bs bm true sn sub ab col dd k0 k1 k2 k3 k5 "ValueError.__new__")/\Above bm
 ga:findIn K (.ref C) "__getattribute__"=some (some (.builtin "BaseException.__getattribute__"))
 gt:findIn K (.ref C) "__getattr__"=some none
 sa:findIn K (.ref C) "__setattr__"=some (some (.builtin "object.__setattr__"))
end EX
namespace L2
open PySem PySem.Spec PyProof.Rows EX
structure ClsX (K:aj) (C:Addr):Prop extends ClsE K C where
 ca:bM K (.ref C) "__class__"=some (some (.builtin "object.__class__"))
 cg:PySem.W.specialIn K (.builtin "object.__class__") "__get__"=some (some (.builtin "getset_descriptor.__get__"))
 ct:PySem.W.takesIn K (.builtin "object.__class__")=some true
end L2
namespace L2
open PySem PySem.Spec
structure Noted (l:List Env) (p C:Addr) (dx:Option Addr) (t:Addr) (h h':Heap):Prop where
 sz:h'.objs.size=h.objs.size+1
 keep: ∀b o,h.get? b=some o -> b≠p -> b∉frs l -> h'.get? b=some o
 slot: ∀b o,h.get? b=some o -> b≠p -> ∃sl,h'.get? b=some {o with slots:=sl}
 exc:h'.get? p=some (afl C dx t (.ref h.objs.size))
 ent: ∃oT ts,h'.get? h.objs.size=some oT/\oT.data=.fields ts/\ts[3]?=some .none
theorem anw{M:Model}{outer:List Env}{L t:Addr}{tb head:ae}{hadNext:Bool}{Q:Unit -> ag -> Prop}(hfr:A.frames=some (env::outer))(hl:s.heap.FunFrames base (env::outer))(hf:env.frame=some L)(he:s.heap.get? p=some (afl C dx t tb))(h: ∀h',Noted (env::outer) p C dx t s.heap h' -> Q () {s with heap:=h'}):
  wpAny M A (do let a←frameOf env;let pl←entryPlaceOf L hadNext;let b←mT head a .none (rawInt L) .none pl;setField (.ref p) 1 b) (fun _ s'=> wpAny M A (setFlight (.ref p) none) Q E s') E s:=by
 have hene:p∉(env::outer).filterMap (·.frame):=fun hm=> by
  (obtain⟨_,o,ho,hnf⟩:=hl.mem hm)
  rw [he]at ho;injection ho with ho;subst ho;exact hnf _ rfl
 (refine aa (wpAny_frameOf_fun hfr hl hf fun h₁ hs₁=> ?_))
 (refine aa (wpAny_entryPlaceOf fun pl hpl=> ?_))
 (unfold mT newFields)
 (refine aa (bJ ?_ (hpl.sizeOk5 _ _ _ _ _)))
 have he₁:h₁.get? p=some (afl C dx t tb):=(hs₁.2.1 p hene).trans he
 (have he₂:=ak (h:=h₁) {cls:=.type "traceback",dict:=none,data:=.fields ([head,.ref L,.none,rawInt L,.none]++(if pl.isEmpty then bB 6 aV else pl)).toArray} he₁)
 refine cA he₂ rfl (show 1 < 6 by decide) ?_
 have hTe:h₁.objs.size≠p:=fA (aD he₁)
 have he₃:=bt (c7 (·.setIfInBounds 1 (bn h₁.objs.size))) he₂ (fD (de rfl _))
 have hT₃:=(bQ (h₁.push {cls:=.type "traceback",dict:=none,data:=.fields ([head,.ref L,.none,rawInt L,.none]++(if pl.isEmpty then bB 6 aV else pl)).toArray}) --
  (c7 (·.setIfInBounds 1 (bn h₁.objs.size))) (bY hTe)).trans (aA h₁ rfl) --
 unfold setFlight
 refine aa (b7 he₃ rfl (x:=.ref h₁.objs.size) rfl ?_)
 (rw [if_pos (show (bn h₁.objs.size !=aV)=true from by simp)])
 (refine cA hT₃ rfl (by simp only [aC,aG,az,dA] <;> lia) (h _ ?_))
 have keep: ∀b o,b≠p -> h₁.get? b=some o ->
   (((h₁.push {cls:=.type "traceback",dict:=none,data:=.fields ([head,.ref L,.none,rawInt L,.none]++(if pl.isEmpty then bB 6 aV else pl)).toArray}).update p (c7 (·.setIfInBounds 1 (bn h₁.objs.size)))).update h₁.objs.size
    (c7 (·.setIfInBounds 3 ((none:Option Addr).elim aV fun f=> rawInt f)))).get? b=some o:=fun b o hbe hb=> by --
  (have hbT:h₁.objs.size≠b:=fA (aD hb))
  (rw [bQ _ _ hbT,bQ _ _ (bY hbe)])
  (exact ak _ hb)
 refine⟨?_,fun b o hb hbp hbf=> keep b o hbp ((hs₁.2.1 b hbf).trans hb),fun b o hb hbp=> ?_,?_,?_⟩
 ·rw [lw,lw,←hs₁.1]
  simp [Heap.push]
 ·obtain⟨sl,hs⟩:=hs₁.2.2 b o hb
  exact⟨sl,keep b _ hbp hs⟩
 ·rw [bQ _ _ hTe,he₃,←hs₁.1];rfl
 ·rw [←hs₁.1]
  exact⟨_,_,bt _ hT₃ (fD (de rfl _)),de rfl _,by first|(simp;done)|(rcases hpl with rfl|⟨_,_,_,_,_,_,_,rfl⟩ <;> simp)⟩
def auj(h:Heap)(p:Addr)(tb:ae):Prop:=tb=.none\/ ∃T oT ts,tb=.ref T/\T≠p/\h.get? T=some oT/\oT.data=.fields ts/\ts[3]?=some .none
theorem a3u{M:Model}{outer:List Env}{L t:Addr}{tb:ae}{Q:Unit -> ag -> Prop}(hfr:A.frames=some (env::outer))(hl:s.heap.FunFrames base (env::outer))(hf:env.frame=some L)(he:s.heap.get? p=some (afl C dx t tb))(ht:auj s.heap p tb)(h: ∀h',Noted (env::outer) p C dx t s.heap h' -> Q () {s with heap:=h'}):wpAny M A (g9 (.ref p) env) (fun _ s'=> wpAny M A (setFlight (.ref p) none) Q E s') E s:=by
 unfold g9
 simp only [hf]
 rcases ht with rfl|⟨T,oT,ts,rfl,hTp,hT,hd,h3⟩
 ·refine aa (b7 he rfl (x:=.none) rfl ?_)
  rw [if_neg (by decide)]
  exact anw hfr hl hf he h
 ·refine aa (b7 he rfl (x:=.ref T) rfl ?_)
  (rw [if_pos (show (bn T !=aV)=true from by simp)])
  refine aa (b7 hT hd h3 ?_)
  (rw [if_neg (show¬((aV==rawInt L)=true) from by simp [rawInt])])
  refine aa (cA hT hd (cb.mp h3).1 ?_)
  rw [Heap.update_setField_same _ _ _ _ _ _ hT hd h3]
  exact anw hfr hl hf he h
theorem a0z{M:Model}{outer:List Env}{L t:Addr}{tb:ae}{Q:Unit -> ag -> Prop}(hfr:A.frames=some (env::outer))(hl:s.heap.FunFrames base (env::outer))(hf:env.frame=some L)(he:s.heap.get? p=some (afl C dx t tb))(ht:auj s.heap p tb)(h: ∀h',Noted (env::outer) p C dx t s.heap h' -> Q () {s with heap:=h'}):wpAny M A (leaving env (.ref p)) Q E s:=by
 unfold leaving
 exact aa (a3u hfr hl hf he ht h)
end L2
namespace L2
open PySem PySem.Spec PyProof.Rows EX
section
variable{P:aI}{w:aM}{H H':Hp}{h h':Heap}{l:List Env}{p C t:Addr}{dx:Option Addr}{fs:List (Str×V)}
theorem Noted.hok(n:Noted l p C dx t h h')(ok:HOk P w H h)(hp:H p=some (.exx C fs))(he: ∃tb,h.get? p=some (afl C dx t tb))(hf: ∀b∈frs l,H b=none):HOk P w H h':=fun a o q=> by
 by_cases z:a=p
 ·subst z
  rw [hp]at q;cases q
  obtain⟨b0,t',tb',dxo,e,r⟩:=(show jx P w H h a (.exx C fs) from ok a _ hp)
  obtain⟨tb,he⟩:=he
  rw [he]at e
  have e:=bH e
  have ed:dx=dxo:=congrArg Obj.dict e
  subst ed
  refine⟨b0,t,_,dx,n.exc,?_⟩
  rcases r with r|⟨d,r,d1,ne,mA,⟨od,es,ep,e2,c⟩,r'⟩
  ·exact .inl r
  ·refine .inr ⟨d,r,d1,ne,mA,⟨od,es,ep,n.keep d od e2 ne (fun m=> ?_),c⟩,r'⟩
   rw [hf d m]at d1;cases d1
 ·refine (ok a o q).stay (fun b u hb e=> n.keep b u e ?_ ?_) (fun _ r=> r) fun _ _ r=> r
  ·rcases hb with rfl|hb
   ·exact z
   ·intro y;rw [y,hp]at hb;cases hb
  ·intro m
   rcases hb with rfl|hb
   ·rw [hf b m]at q;cases q
   ·rw [hf b m]at hb;cases hb
end
def CX1(P:aI)(w:aM):CXT:=fun outer H s E e s'=> ∃(p:Addr) (H':Hp) (C:Addr) (fs:List (Str×V)) (t:Addr) (dx:Option Addr) (tb:ae),e=.ref p/\s'.os=s.os/\gy s'.gens/\
 Un (frs outer) [] H H' s.heap s'.heap/\HOk P w H' s'.heap/\H' p=some (.exx C fs)/\s'.heap.get? p=some (afl C dx t tb)/\auj s'.heap p tb/\E (.ref p) none H'
abbrev XE:=St -> Addr -> Hp -> Prop
noncomputable def XE.sk(E:XE):SK:=fun σ v _ H=> ∃p,v=.ref p/\E σ p H
structure XOk (X:Cx) (E:XE):Prop where
 pass:afg (CX1 X.prog X.w) X E.sk
 own:nX (model X.prog X.w) X.A X.env X.xe
theorem XOk.never(h:nX (model X.prog X.w) X.A X.env X.xe):XOk X fun _ _ _=> False:=⟨fun _ _ _ _ _ _ _ ⟨_,_,_,_,_,_,_,_,_,_,_,_,_,_,_,_,_,f⟩=> f.elim,h⟩
theorem a4o{cd:ae}{outer:List Env}{E:XK}:
  XOk (aa4 (CX1 P w) P w K mg base N qual scope f cd A outer s H E) fun _ p H=> E (.ref p) none H:=by
 refine⟨fun pins σ H1 s1 e s' I hc=> ?_,PassesOwn.leaving⟩
 obtain⟨p,H2,C,fs,t,dx,tb,rfl,os,bare,un,hok,hp,he,ht,p',ep,hE⟩:=hc
 cases ep
 have J:=I.call' (H':=H2) os un hok bare fun b z=> absurd z (by simp)
 refine a0z (M:=model P w) J.ok.frames J.stack rfl he ht fun h' n=> ?_
 have fr: ∀b∈frs (aa4 (CX1 P w) P w K mg base N qual scope f cd A outer s H E).stack,H2 b=none:=J.stkFree
 have B:Un (frs outer) [] H H2 s.heap s'.heap:=J.base
 have hL:s.heap.objs.size <=(aa4 (CX1 P w) P w K mg base N qual scope f cd A outer s H E).env.locals:=J.ok.above
 have inF: ∀b,b∈frs (aa4 (CX1 P w) P w K mg base N qual scope f cd A outer s H E).stack -> b=(aa4 (CX1 P w) P w K mg base N qual scope f cd A outer s H E).env.locals\/b∈frs outer:=fun b z=> aE.mp (J.stkSub b z)
 refine⟨p,H2,C,fs,t,dx,.ref s'.heap.objs.size,rfl,J.os,J.bare,⟨fun b o e hn hf hx=> ?_,fun b o e hn hf hx=> ?_,B.free,fun b o e hx=> ?_,B.tups,B.frzs,B.tbls⟩,n.hok hok hp ⟨tb,he⟩ fr,hp,n.exc,.inr ?_,hE⟩
 ·refine n.keep b o (B.keep b o e hn hf hx) (fun z=> ?_) fun z=> ?_
  ·have:=B.free b o e hn hx;rw [z,hp]at this;cases this
  ·rcases inF b z with z|z
   ·exact absurd (aD e) (by rw [z];exact md.mpr hL)
   ·exact hf z
 ·obtain⟨sl,q⟩:=B.slot b o e hn hf hx
  obtain⟨sl2,q2⟩:=n.slot b _ q fun z=> by have:=B.free b o e hn hx;rw [z,hp]at this;cases this
  exact⟨sl2,q2⟩
 ·obtain⟨o',q⟩:=B.there b o e hx
  by_cases z:b=p
  ·rw [z];exact⟨_,n.exc⟩
  ·obtain⟨sl,q2⟩:=n.slot b o' q z;exact⟨_,q2⟩
 ·obtain⟨oT,ts,e1,e2,e3⟩:=n.ent
  exact⟨_,oT,ts,rfl,fA (aD he),e1,e2,e3⟩
theorem Fun.okX{x:Str}{st:Stmt}{k:Nat}{sp:Sp}(F:Fun K x qual st f fd)(S:FnScope N ps (ji st))(len: ∀vs H Q E,sp vs H Q E -> vs.length=ps.length)(hbody: ∀(cdv:ae) (A:aZ) (outer:List Env) (s:ag) (H:Hp) (vs:List V) (Q:VK) (E:XK),Room k (A.deeper (envOfC qual (ji st) s.heap.objs.size f cdv)) -> sp vs H Q E ->
   ∃t,PSs (aa4 (CX1 P w) P w K mg base N qual (ji st) f cdv A outer s H E) (vn st) t/\t {nx:=fun _ H'=> Q .non H',rt:=Q} (start N vs) H):FnOk P w K mg base (CX1 P w) (k+1) f fd ps sp:=by
 obtain⟨oc,od,kV,doc,pm,an,cdv,ct,osl,rfl,lk,hcd⟩:=F.ex
 exact a5c lk hcd S len fun A outer s H vs Q E hr h=> hbody cdv A outer s H vs Q E hr h
def aw7(P:aI)(w:aM)(K:aj)(mg:Str -> Option ae)(base:Heap)(x:Str)(k:Nat)(sp:Sp):Prop:=
 ∃(f:Addr) (fd:dM) (ps:List Str),FnOk P w K mg base (CX1 P w) k f fd ps sp/\mg x=some (.ref f)/\cz K (.ref f)=true/\Binds K fd ps []
theorem Has.calX{x:Str}{st:Stmt}{k:Nat}{sp:Sp}(h:Has K mg x st ps)(S:FnScope N ps (ji st))(len: ∀vs H Q E,sp vs H Q E -> vs.length=ps.length)(hbody: ∀(f:Addr) (cdv:ae) (A:aZ) (outer:List Env) (s:ag) (H:Hp) (vs:List V) (Q:VK) (E:XK),Room k (A.deeper (envOfC x (ji st) s.heap.objs.size f cdv)) -> sp vs H Q E ->
   ∃t,PSs (aa4 (CX1 P w) P w K mg base N x (ji st) f cdv A outer s H E) (vn st) t/\t {nx:=fun _ H'=> Q .non H',rt:=Q} (start N vs) H):aw7 P w K mg base x (k+1) sp:=by
 obtain⟨f,fd,F,m,b⟩:=h
 exact⟨f,fd,ps,F.okX S len (hbody f),m,F.kp,b⟩
section
variable{X:Cx}{x:Str}{k:Nat}{sp:Sp}{p pos:Pos}{e:Expr}{es:List Expr}{t:TA}{E:XE}
theorem a5d(c:aw7 X.prog X.w X.K X.mg X.base x k sp)(hx:XOk X E)(hr:Room k X.A)(ha:PA X (e::es) t)(hg:Gl X x:=by rfl)(hdb:(x==("__debug__":Str))=false:=by decide)
  (he:starEach (e::es) X.env=(false,eval e X.env)::starEach es X.env:=by rfl) (hpl:(backTo pos (starEach es X.env)).any (·.1)=false:=by rfl):PE X (.Call (.Name x p) (e::es) [] pos) (awv sp [] E.sk t):=by
 obtain⟨f,fd,ps,F,m,kk,b⟩:=c
 exact azn F hr hg m kk b .nil hx.pass ha hdb he hpl
end
end L2
namespace PF
open PySem PySem.Spec
open L2
structure Envs (K:aj) (as:As) (H:Hp) (ρ:En) (σ:St):Prop where
 len:ρ.length=σ.length
 get: ∀(i:Nat) (d:D),ρ[i]?=some (some d) -> ∃v,σ[i]?=some (some v)/\RD K as H v d
theorem Envs.mono{as as':As}{ρ:En}(e:Envs K as H ρ σ)(st:Step as H as' H'):Envs K as' H' ρ σ:=⟨e.len,fun i d h=> let ⟨v,a,b⟩:=e.get i d h;⟨v,a,b.mono st⟩⟩
theorem Envs.set{as:As}{ρ:En}(e:Envs K as H ρ σ)(i:Nat){d:D}(r:RD K as H v d):Envs K as H (ρ.set i (some d)) (σ.set i (some v)):=by
 refine⟨by simp [e.len],fun j x h=> ?_⟩
 by_cases z:i=j
 ·subst z
  rw [d8]at h⊢
  by_cases hl:i < ρ.length
  ·simp [hl]at h
   subst h
   exact⟨v,by simp [←e.len,hl],r⟩
  ·simp [hl]at h
 ·rw [aF z]at h⊢
  exact e.get j x h
class XW where
 xk:XE
instance (priority:=low) XW.dft:XW:=⟨fun _ _ _=> False⟩
abbrev XW.of(E:XK):XW:=⟨fun _ p H=> E (.ref p) none H⟩
variable[XW]
def Dn{α β:Type}(K:aj)(rel:As -> Hp -> β -> α -> Prop)(as:As)(H:Hp)(r:R α)(Q:β -> Hp -> Prop):Prop:=match r with
 |.ok a s=> ∀b as' H',Step as H as' H' -> Rel K as' H' s -> rel as' H' b a -> Q b H'
 |.bad=> False
 |.ex n ρ s=> ∀as' H' p σ,Step as H as' H' -> Rel K as' H' s -> Envs K as' H' ρ σ -> as'.ix[n]?=some (some p) -> XW.xk σ p H'
theorem Dn.step{α β:Type}{rel:As -> Hp -> β -> α -> Prop}{as as1:As}{H1:Hp}{r:R α}{Q:β -> Hp -> Prop}(h:Dn K rel as H r Q)(st:Step as H as1 H1):Dn K rel as1 H1 r Q:=by
 cases r with
 |ok a s=> exact fun b as' H' s2 rl rb=> h b as' H' (st.trans s2) rl rb
 |bad=> exact h
 |ex n ρ s=> exact fun as' H' p σ s2 rl en e=> h as' H' p σ (st.trans s2) rl en e
theorem Dn.bind{α β γ δ:Type}{r1:As -> Hp -> β -> α -> Prop}{r2:As -> Hp -> δ -> γ -> Prop}{as:As}{r:R α}{f:α -> S -> R γ}{Q:δ -> Hp -> Prop}{Q':β -> Hp -> Prop}(h:Dn K r2 as H (r.bind f) Q)(k: ∀a s as1 H1 b,Step as H as1 H1 -> Rel K as1 H1 s -> r1 as1 H1 b a -> Dn K r2 as1 H1 (f a s) Q -> Q' b H1):Dn K r1 as H r Q':=by
 cases r with
 |ok a s=> exact fun b as' H' st rl rb=> k a s as' H' b st rl rb (Dn.step (r:=f a s) h st)
 |bad=> exact h
 |ex n ρ s=> exact h
theorem Dn.now{α β:Type}{rel:As -> Hp -> β -> α -> Prop}{as:As}{a:α}{s:S}{Q:β -> Hp -> Prop}{b:β}(h:Dn K rel as H (.ok a s) Q)(rl:Rel K as H s)(rb:rel as H b a):Q b H:=h b as H (Step.refl _ _) rl rb
theorem Dn.at{α β:Type}{rel:As -> Hp -> β -> α -> Prop}{as:As}{r:R α}{ρ:En}{Q:β -> Hp -> Prop}(h:Dn K rel as H (r.at ρ) Q)(en:Envs K as H ρ σ): @Dn (XW.of (XE.sk XW.xk σ)) α β K rel as H r Q:=by
 cases r with
 |ok a s=> exact h
 |bad=> exact h
 |ex n ρ' s=> exact fun as' H' p σ' st rl _ e=> ⟨p,rfl,h as' H' p σ st rl (en.mono st) e⟩
abbrev rD(K:aj):As -> Hp -> V -> D -> Prop:=fun as H v d=> RD K as H v d
abbrev rB:As -> Hp -> Bool -> Bool -> Prop:=fun _ _ b a=> b=a
abbrev rL(K:aj):As -> Hp -> List V -> List D -> Prop:=fun as H v d=> RDs K as H v d
inductive Fl where
 |nx (ρ:En)|rt (d:D)|bk (ρ:En)|ct (ρ:En)
inductive FV where
 |nx (σ:St)|rt (v:V)|bk (σ:St)|ct (σ:St)
inductive rF (K:aj) (as:As) (H:Hp):FV -> Fl -> Prop
 |nx {σ:St} {ρ:En}:Envs K as H ρ σ -> rF K as H (.nx σ) (.nx ρ)
 |rt {v:V} {d:D}:RD K as H v d -> rF K as H (.rt v) (.rt d)
 |bk {σ:St} {ρ:En}:Envs K as H ρ σ -> rF K as H (.bk σ) (.bk ρ)
 |ct {σ:St} {ρ:En}:Envs K as H ρ σ -> rF K as H (.ct σ) (.ct ρ)
def aax(D:Ends)(f:FV)(H:Hp):Prop:=match f with
 |.nx σ=> D.nx σ H
 |.rt v=> D.rt v H
 |.bk σ=> D.bk σ H
 |.ct σ=> D.ct σ H
abbrev FE:=En -> S -> R D
abbrev FT:=En -> S -> R Bool
abbrev FA:=En -> S -> R (List D)
abbrev FS:=En -> S -> R Fl
def ab0(K:aj)(t:TE)(f:FE):Prop:= ∀as σ H ρ s Q,Rel K as H s -> Envs K as H ρ σ -> Dn K (rD K) as H (f ρ s) Q -> t σ H Q
def ac9(K:aj)(t:TT)(f:FT):Prop:= ∀as σ H ρ s Q,Rel K as H s -> Envs K as H ρ σ -> Dn K rB as H (f ρ s) Q -> t σ H Q
def apu(K:aj)(t:TA)(f:FA):Prop:= ∀as σ H ρ s Q,Rel K as H s -> Envs K as H ρ σ -> Dn K (rL K) as H (f ρ s) Q -> t σ H Q
def aij(K:aj)(t:TS)(f:FS):Prop:= ∀as σ H ρ s D,Rel K as H s -> Envs K as H ρ σ -> Dn K (rF K) as H (f ρ s) (aax D) -> t D σ H
structure RE (X:Cx) (e:Expr) (f:FE):Prop where
 ex: ∃t,PE X e t/\ab0 X.K t f
structure RT (X:Cx) (e:Expr) (f:FT):Prop where
 ex: ∃t,PT X e t/\ac9 X.K t f
structure RW (X:Cx) (e:Expr) (f:FT):Prop where
 ex: ∃t,PW X e t/\ac9 X.K t f
structure RA (X:Cx) (es:List Expr) (f:FA):Prop where
 ex: ∃t,PA X es t/\apu X.K t f
structure RS (X:Cx) (st:Stmt) (f:FS):Prop where
 ex: ∃t,PS X st t/\aij X.K t f
structure RSs (X:Cx) (st:List Stmt) (f:FS):Prop where
 ex: ∃t,PSs X st t/\aij X.K t f
section
variable{X:Cx}{a b:Expr}{fa fb:FE}{pos:Pos}
noncomputable def jb(i:Nat):FE:=fun ρ s=> match ρ[i]? with
 |some (some d)=>.ok d s
 |_=>.bad
noncomputable def fC(d:D):FE:=fun _ s=>.ok d s
theorem ay8(i:Nat):ab0 K (aty i) (jb i):=by
 intro as σ H ρ s Q rl en h
 unfold jb at h
 cases q:ρ[i]? with
 |none=> rw [q]at h;exact h.elim
 | some o=>
  cases o with
  |none=> rw [q]at h;exact h.elim
  |some d=>
   rw [q]at h
   obtain⟨v,e,r⟩:=en.get i d q
   exact⟨v,e,Dn.now h rl r⟩
theorem jc(i:Nat){x:Str}(hN:X.N[i]?=some x:=by rfl)(hv:Vis X.env.scope x:=by first|exact aO rfl|exact bX (aO rfl)|exact bX (bX rfl))(hd:(x==("__debug__":Str))=false:=by decide)(hcd:(x==("__classdict__":Str))=false:=by decide):RE X (.Name x pos) (jb i):=⟨_,at9 hN hv hd hcd,ay8 i⟩
theorem ahm{d:D}(r: ∀as H,RD K as H v d):ab0 K (tC v) (fC d):=fun as σ H ρ s Q rl en h=> Dn.now (K:=K) (rel:=rD K) h rl (r as H)
theorem jh{i j pos}:RE X (.Constant (.int i) j pos) (fC (.int i)):=⟨_,arx,ahm fun _ _=>.da (.int i)⟩
theorem abo{b j pos}:RE X (.Constant (.bool b) j pos) (fC (.bl b)):=⟨_,axb,ahm fun _ _=>.da (.bl b)⟩
theorem ade{j pos}:RE X (.Constant .none j pos) (fC .non):=⟨_,at4,ahm fun _ _=>.da .non⟩
theorem ays{x:Str}{d:D}(r: ∀as H,RD X.K as H v d)(hm:X.mg x=some u)(rv:RelV v u)(hg:Gl X x:=by rfl)(hd:(x==("__debug__":Str))=false:=by decide):RE X (.Name x pos) (fC d):=⟨_,a0w hg hm rv hd,ahm r⟩
theorem axp{x:Str}{n:String}(hm:X.mg x=none)(hv:bT x=some (.type n))(hg:Gl X x:=by rfl)(hn:x≠"__name__":=by decide)(hd:(x==("__debug__":Str))=false:=by decide):RE X (.Name x pos) (fC (.ty n)):=
 ⟨_,ayw (v:=.ty n) hg hm hv rfl hn hd,ahm fun _ _=>.ty n⟩
def fOp(g:D -> D -> S -> R D)(fa fb:FE):FE:=fun ρ s=> (fa ρ s).bind fun x s1=> (fb ρ s1).bind fun y s2=> g x y s2
def avq(K:aj)(r:R2)(g:D -> D -> S -> R D):Prop:= ∀as H s x y dx dy Q,Rel K as H s -> RD K as H x dx -> RD K as H y dy -> Dn K (rD K) as H (g dx dy s) Q -> r x y H Q
theorem aho{r:R2}{g:D -> D -> S -> R D}{tb:TE}(hr:avq K r g)(ha:ab0 K ta fa)(hb:ab0 K tb fb):ab0 K (tOp r ta tb) (fOp g fa fb):=by
 intro as σ H ρ s Q rl en h
 refine ha as σ H ρ s _ rl en (Dn.bind h fun d1 s1 as1 H1 x st1 rl1 r1 h1=> ?_)
 refine hb as1 σ H1 ρ s1 _ rl1 (en.mono st1) (Dn.bind h1 fun d2 s2 as2 H2 y st2 rl2 r2 h2=> ?_)
 exact hr as2 H2 s2 x y d1 d2 Q rl2 (r1.mono st2) r2 h2
structure Op2 (X:Cx) (f:ae -> ae -> Sem ae) (g:D -> D -> S -> R D):Prop where
 ex: ∃r,OpR X f r/\avq X.K r g
theorem jv{op:Operator}{g:D -> D -> S -> R D}(o:Op2 X (binaryOp op) g)(ha:RE X a fa)(hb:RE X b fb):RE X (.BinOp a op b pos) (fOp g fa fb):=by
 obtain⟨r,ho,hr⟩:=o.ex
 obtain⟨ta,pa,ra⟩:=ha.ex
 obtain⟨tb,pb,rb⟩:=hb.ex
 exact⟨_,a4i ho pa pb,aho hr ra rb⟩
theorem ahz{g:D -> D -> S -> R D}(o:Op2 X (bG op) g)(ha:RE X a fa)(hb:RE X b fb)(hm:fS op b=false:=by first|exact asz _|with_unfolding_all rfl):RE X (.Compare a [op] [b] pos) (fOp g fa fb):=by
 obtain⟨r,ho,hr⟩:=o.ex
 obtain⟨ta,pa,ra⟩:=ha.ex
 obtain⟨tb,pb,rb⟩:=hb.ex
 exact⟨_,a05 ho pa pb hm,aho hr ra rb⟩
def jy(f:FE):FT:=fun ρ s=> (f ρ s).bind fun d s1=> match d with
 |.bl k=>.ok k s1
 |_=>.bad
theorem avf{t:TE}{f:FE}(h:ab0 K t f):ac9 K (awu t) (jy f):=by
 intro as σ H ρ s Q rl en q
 refine h as σ H ρ s _ rl en (Dn.bind q fun d1 s1 as1 H1 x st1 rl1 r1 h1=> ?_)
 cases r1 with
 |da t=>
  cases t with
  |bl k=> exact⟨k,rfl,Dn.now h1 rl1 rfl⟩
  |_=> exact h1.elim
 |_=> exact h1.elim
theorem qk{g:D -> D -> S -> R D}(o:Op2 X (bG op) g)(ha:RE X a fa)(hb:RE X b fb)(hm:fS op b=false:=by first|exact asz _|with_unfolding_all rfl):RT X (.Compare a [op] [b] pos) (jy (fOp g fa fb)):=by
 obtain⟨r,ho,hr⟩:=o.ex
 obtain⟨ta,pa,ra⟩:=ha.ex
 obtain⟨tb,pb,rb⟩:=hb.ex
 exact⟨_,aza ho pa pb hm,avf (aho hr ra rb)⟩
def ado(f g:FT):FT:=fun ρ s=> (f ρ s).bind fun c s1=> if c=true then g ρ s1 else .ok false s1
def agp(f g:FT):FT:=fun ρ s=> (f ρ s).bind fun c s1=> if c=true then .ok true s1 else g ρ s1
def acx(f:FT):FT:=fun ρ s=> (f ρ s).bind fun c s1=>.ok (!c) s1
theorem azq{t u:TT}{f g:FT}(h1:ac9 K t f)(h2:ac9 K u g):ac9 K (a1h t u) (ado f g):=by
 intro as σ H ρ s Q rl en h
 refine h1 as σ H ρ s _ rl en (Dn.bind h fun c s1 as1 H1 b st1 rl1 r1 q1=> ?_)
 have e1:b=c:=r1
 subst e1
 cases b with
 |true=> rw [if_pos rfl]at q1⊢;exact h2 as1 σ H1 ρ s1 Q rl1 (en.mono st1) q1
 |false=> rw [if_neg ax]at q1⊢;exact Dn.now q1 rl1 rfl
theorem a3j{t u:TT}{f g:FT}(h1:ac9 K t f)(h2:ac9 K u g):ac9 K (tOr t u) (agp f g):=by
 intro as σ H ρ s Q rl en h
 refine h1 as σ H ρ s _ rl en (Dn.bind h fun c s1 as1 H1 b st1 rl1 r1 q1=> ?_)
 have e1:b=c:=r1
 subst e1
 cases b with
 |false=> rw [if_neg ax]at q1⊢;exact h2 as1 σ H1 ρ s1 Q rl1 (en.mono st1) q1
 |true=> rw [if_pos rfl]at q1⊢;exact Dn.now q1 rl1 rfl
theorem a0m{t:TT}{f:FT}(h1:ac9 K t f):ac9 K (a3o t) (acx f):=by
 intro as σ H ρ s Q rl en h
 refine h1 as σ H ρ s _ rl en (Dn.bind h fun c s1 as1 H1 b st1 rl1 r1 q1=> ?_)
 have e1:b=c:=r1
 subst e1
 exact Dn.now q1 rl1 rfl
theorem RW.rt{f:FT}(h:RW X e f):RT X e f:=let ⟨t,p,r⟩:=h.ex;⟨t,p.pt,r⟩
theorem aow{f:FT}(h:RT X a f):RW X (.BoolOp .And [a] pos) f:=let ⟨t,p,r⟩:=h.ex;⟨t,ayf p,r⟩
theorem atp{f:FT}(h:RT X a f):RW X (.BoolOp .Or [a] pos) f:=let ⟨t,p,r⟩:=h.ex;⟨t,a3w p,r⟩
theorem ar4{f g:FT}{rest:List Expr}(h:RT X a f)(k:RW X (.BoolOp .And (b::rest) pos) g):RW X (.BoolOp .And (a::b::rest) pos) (ado f g):=let ⟨t,p,r⟩:=h.ex;let ⟨t',p',r'⟩:=k.ex;⟨_,a1y p p',azq r r'⟩
theorem axk{f g:FT}{rest:List Expr}(h:RT X a f)(k:RW X (.BoolOp .Or (b::rest) pos) g):RW X (.BoolOp .Or (a::b::rest) pos) (agp f g):=let ⟨t,p,r⟩:=h.ex;let ⟨t',p',r'⟩:=k.ex;⟨_,a4w p p',a3j r r'⟩
theorem amr{f:FT}(h:RT X a f):RT X (.UnaryOp .Not a pos) (acx f):=let ⟨t,p,r⟩:=h.ex;⟨_,a39 p,a0m r⟩
noncomputable def je:FA:=fun _ s=>.ok [] s
def ja(f:FE)(g:FA):FA:=fun ρ s=> (f ρ s).bind fun x s1=> (g ρ s1).bind fun xs s2=>.ok (x::xs) s2
noncomputable def fVs(ds:List D):FA:=fun _ s=>.ok ds s
theorem jf:RA X [] je:=⟨_,ahw,fun as σ H ρ s Q rl en h=> Dn.now h rl .nil⟩
theorem jd{f:FE}{g:FA}(h:RE X e f)(k:RA X es g)(hs:starEach (e::es) X.env=(false,eval e X.env)::starEach es X.env:=by rfl):RA X (e::es) (ja f g):=by
 obtain⟨t,p,r⟩:=h.ex
 obtain⟨t',p',r'⟩:=k.ex
 refine⟨_,afq p p' hs,fun as σ H ρ s Q rl en h=> ?_⟩
 refine r as σ H ρ s _ rl en (Dn.bind h fun d1 s1 as1 H1 x st1 rl1 r1 h1=> ?_)
 refine r' as1 σ H1 ρ s1 _ rl1 (en.mono st1) (Dn.bind h1 fun d2 s2 as2 H2 xs st2 rl2 r2 h2=> ?_)
 exact Dn.now h2 rl2 (.cons (r1.mono st2) r2)
noncomputable def aqi:Const -> Option ac
 |.str x=> some (.str x)
 |.int i=> some (.int i)
 |.bool b=> some (.bool b)
 |.none=> some .none
 |_=> none
def ag3:List Expr -> Option (List ac)
 |[]=> some []
 | .Constant c _ _::r=> match aqi c with
  |some v=> match ag3 r with
   |some vs=> some (v::vs)
   |none=> none
  |none=> none
 |_=> none
noncomputable def pV:ac -> V
 |.none=>.non
 |.bool b=>.bl b
 |.int i=>.int i
 |.str x=>.str x
 |_=>.non
theorem a30{c:Const}{d:ac}(h:aqi c=some d):akx c=some (pV d)/\ ∀as H,TD as H (pV d) d:=by
 cases c <;> simp [aqi]at h <;> subst h
 all_goals first
  |exact⟨rfl,fun _ _=>.str _⟩
  |exact⟨rfl,fun _ _=>.int _⟩
  |exact⟨rfl,fun _ _=>.bl _⟩
  |exact⟨rfl,fun _ _=>.non⟩
theorem aot: ∀{es:List Expr} {ds:List ac},ag3 es=some ds -> adw es=some (ds.map pV)/\ ∀as H,TDs as H (ds.map pV) ds
 |[],ds,h=> by cases h;exact⟨rfl,fun _ _=>.nil⟩
 | e ::es,ds,h=> by
  cases e with
  | Constant c j pos=>
   simp only [ag3]at h
   cases h1:aqi c with
   |none=> (rw [h1]at h;cases h)
   | some v=>
    rw [h1]at h
    cases h2:ag3 es with
    |none=> rw [h2]at h;cases h
    |some ws=>
     rw [h2]at h
     cases h
     obtain⟨a1,a2⟩:=a30 h1
     obtain⟨b1,b2⟩:=aot h2
     exact⟨by simp only [adw,a1,b1,aN],fun as H=>.cons (a2 as H) (b2 as H)⟩
  |_=> simp [ag3]at h
theorem ajn{ds:List ac}(h:ag3 es=some ds):RA X es (fVs (ds.map D.da)):=by
 obtain⟨a,b⟩:=aot h
 exact⟨_,ajp a,fun as σ H ρ s Q rl en h=> Dn.now h rl (b as H).rd⟩
def kj(m:Bool)(ds:List D)(s:S):R D:=if m=true then .ok (.ref s.length) (s++ [.lst ds]) else match j8 ds with
 |some xs=>.ok (.lst xs) s
 |none=>.bad
def amw(ds:List D)(s:S):R D:=match j8 ds with
 |some xs=>.ok (.tup xs) s
 |none=>.bad
theorem zl{as:As}{s:S}{m:Bool}{ds:List D}{Q:VK}(h:Dn K (rD K) as H (kj m ds s) Q)(rl:Rel K as H s)(r:RDs K as H xs ds)(n:New H p (.lst xs) H'):Q (.ref p) H':=by
 unfold kj at h
 cases m with
 |true=>
  rw [if_pos rfl]at h
  refine h (.ref p) (as.add p) H' (abc n) (rl.laid n ⟨xs,n.at,r.mono (abc n)⟩) (.ref (by simp [rl.len]) fun q e=> ?_)
  rw [←rl.len]at e
  simp at e
  exact e.symm
 | false=>
  rw [if_neg ax]at h
  cases q:j8 ds with
  |none=> rw [q]at h;exact h.elim
  |some ys=>
   rw [q]at h
   have e:=yg q
   subst e
   exact h (.ref p) as H' (k8 n) (rl.new n) (.da (.lst (fun z=> rl.has z n.no) n.at (r.td.mono (k8 n))))
theorem aox{as:As}{s:S}{ds:List D}{Q:VK}(h:Dn K (rD K) as H (amw ds s) Q)(rl:Rel K as H s)(r:RDs K as H xs ds)(n:New H p (.tup xs) H'):Q (.ref p) H':=by
 unfold amw at h
 cases q:j8 ds with
 |none=> rw [q]at h;exact h.elim
 |some ys=>
  rw [q]at h
  have e:=yg q
  subst e
  exact h (.ref p) as H' (k8 n) (rl.new n) (.da (.tup (fun z=> rl.has z n.no) n.at (r.td.mono (k8 n))))
def xf(m:Bool)(f:FA):FE:=fun ρ s=> (f ρ s).bind fun ds s1=> if ds.length <=sizeLine then kj m ds s1 else .bad
def ve(f:FA):FE:=fun ρ s=> (f ρ s).bind fun ds s1=> if ds.length <=sizeLine then amw ds s1 else .bad
theorem xi{f:FA}(m:Bool)(h:RA X es f):RE X (.List es pos) (xf m f):=by
 obtain⟨t,p,r⟩:=h.ex
 refine⟨_,azt p,fun as σ H ρ s Q rl en h=> ?_⟩
 refine r as σ H ρ s _ rl en (Dn.bind h fun ds s1 as1 H1 xs st1 rl1 r1 h1=> ?_)
 split at h1
 ·rename_i hz
  exact⟨by rw [r1.length];exact hz,fun p H' n=> zl h1 rl1 r1 n⟩
 ·exact h1.elim
theorem vt{f:FA}{x1:Nat}(h:RA X es f):RE X (.Tuple es x1 pos) (ve f):=by
 obtain⟨t,p,r⟩:=h.ex
 refine⟨_,ayt p,fun as σ H ρ s Q rl en h=> ?_⟩
 refine r as σ H ρ s _ rl en (Dn.bind h fun ds s1 as1 H1 xs st1 rl1 r1 h1=> ?_)
 split at h1
 ·rename_i hz
  exact⟨by rw [r1.length];exact hz,fun p H' n=> aox h1 rl1 r1 n⟩
 ·exact h1.elim
end
end PF
namespace L2
open PySem PySem.Spec PyProof.Rows
theorem aka{it t:Addr}{items:Array ae}(hne:t≠it): ∀(n i:Nat) (s:ag) (Q:List ae -> ag -> Prop),s.heap.IsListIter it t i -> s.heap.IsList t items -> i+n <=items.size ->
  (∀h',h'.IsListIter it t (i+n) -> bi it s.heap h' -> Q ((items.toList.drop i).take n) {s with heap:=h'}) -> wpAny (model prog w) A (draw (.ref it) n) Q E s
 |0,i,s,Q,hit,_,_,hQ=> by --
  show wpAny _ _ (pure []) Q E s --
  (exact af (by simpa using hQ s.heap hit (jK ..)))
 | n+1,i,s,Q,hit,ht,hle,hQ=> by --
  (have hlt:i < items.size:=by lia)
  show wpAny _ _ (pyNext (.ref it)>>=_) Q E s --
  refine aa (lj hit ht (x:=items[i]) (by simp [hlt]) fun h₁ hit₁ hs₁=> ?_)
  have ht₁:h₁.IsList t items:=by
   obtain⟨o,ho,c⟩:=ht
   exact⟨o,hs₁.extBut t o hne ho,c⟩
  refine aa (bo (aka hne n (i+1) _ _ hit₁ ht₁ (by lia) fun h₂ hit₂ hs₂=> af ?_))
  (have hd:items.toList.drop i=items[i]::items.toList.drop (i+1):=by simp [cF,hlt])
  (have:=hQ h₂ (by rw [show i+(n+1)=i+1+n by lia];exact hit₂) (hs₁.trans hs₂))
  (rw [hd,List.take_succ_cons]at this)
  exact this
theorem agm{t:Addr}{Q:List ae -> ag -> Prop}(hh:A.handled=none)(ht:s.heap.IsList t items)(hQ: ∀h',eG s.heap.objs.size s.heap h' -> Q items.toList {s with heap:=h'}):wpAny (model prog w) A (unpackItems (.ref t) items.size none) Q E s:=by
 (have hlt:t≠s.heap.objs.size:=by obtain⟨o,ho,_⟩:=ht;exact aH (aD ho))
 have up: ∀h':Heap,eG s.heap.objs.size s.heap h' -> h'.IsList t items:=fun h' x=> by
  obtain⟨o,ho,c⟩:=ht
  exact⟨o,x t o hlt ho,c⟩
 unfold unpackItems
 refine aa ?_
 unfold notIterableAtAll
 refine aa (dg ht.typeIs slot_list_iter.lookup ?_)
 refine af ?_
 (simp only [aT,if_false])
 refine aa (bo (gM ht ?_))
 refine aa (bo (aka hlt items.size 0 _ _ ⟨_,aA _ rfl,rfl,rfl⟩ (up _ fun b o hb e=> ak _ e) (by lia) fun h₁ hit₁ hs₁=> ?_))
 have hall:List.take items.size (List.drop 0 items.toList)=items.toList:=by --
  (rw [lL];exact ly (by simp))
 rw [hall]
 rw [if_neg (by simp)]
 have x₁:eG s.heap.objs.size s.heap h₁:=fun b o hb e=> hs₁.extBut b o hb (ak _ e)
 refine aa (bo (lF hh (by simpa using hit₁) (up _ x₁) (by simp) fun h₂ he₂=> ?_))
 (simp only [Option.isSome_none,aT,if_false])
 refine af (hQ h₂ fun b o hb e=> he₂ b o hb (x₁ b o hb e))
theorem ag6{elts:List Expr}{x1}{t:Addr}{Q:Unit -> ag -> Prop}(hh:A.handled=none)(ht:s.heap.IsList t items)(hn:(bz elts env).length=items.size)(hstar:(bz elts env).findIdx? (·.1)=none) --
  (h: ∀h',eG s.heap.objs.size s.heap h' -> wpAny (model prog w) A (assignInOrder ((bz elts env).map (·.2)) items.toList) Q E {s with heap:=h'}):
  wpAny (model prog w) A (assign (.Tuple elts x1 pos) env (.ref t)) Q E s:=by --
 rw [assign_Tuple]
 refine aa (c6 ?_)
 unfold unpack
 rw [hn,hstar]
 exact aa (bo (agm hh ht h))
noncomputable def akk(K:aj)(n:Nat)(t:TGs):TG:=fun v σ H Q=> ∃a xs,v=.ref a/\(SqT K H a xs\/SqL K H a xs)/\xs.length=n/\t xs σ H Q
theorem anu{k:Nat}{t:TGs}(hc:X.calm=true)(h:PGs X es t)(hn:(bz es X.env).length=n:=by rfl)(hst:(bz es X.env).findIdx? (·.1)=none:=by rfl):PG X (.Tuple es k pos) (akk X.K n t):=by
 intro pins s σ H v u Q I r hw
 obtain⟨a,xs,e1,hq,hl,hw⟩:=hw
 rcases hq with hq|hq
 ·exact a11 hc h hn hst pins s σ H v u Q I r ⟨a,xs,e1,hq,hl,hw⟩
 ·subst e1
  cases r
  obtain⟨its,rv,⟨o,m,ho,hcl,_,hd⟩,hz⟩:=I.list hq
  refine ag6 (I.ok.hd hc) ⟨o,ho,hcl,m,hd⟩ (by simp [hn,←hl,rv.length]) hst fun h' hx=> ?_
  have I1:Inv X pins σ H {s with heap:=h'}:=I.kept (t':=s.toks) fun b o e=> hx b o (aH (aD e)) e
  exact h pins _ σ H xs _ Q I1 (by simpa using rv) hw
end L2
namespace PF
open PySem PySem.Spec
open L2
variable[XW]
noncomputable def tOf(K:aj)(f:FE):TE:=fun σ H Q=> ∃as ρ s,Rel K as H s/\Envs K as H ρ σ/\Dn K (rD K) as H (f ρ s) Q
noncomputable def acb(K:aj)(f:FT):TT:=fun σ H Q=> ∃as ρ s,Rel K as H s/\Envs K as H ρ σ/\Dn K rB as H (f ρ s) Q
theorem RE.pe{X:Cx}{e:Expr}{f:FE}(h:RE X e f):PE X e (tOf X.K f):=by
 obtain⟨t,p,r⟩:=h.ex
 exact p.weak fun σ H Q ⟨as,ρ,s,a,b,c⟩=> r as σ H ρ s Q a b c
theorem RT.pt{f:FT}(h:RT X e f):PT X e (acb X.K f):=by
 obtain⟨t,p,r⟩:=h.ex
 exact⟨fun pins s σ H Q I ⟨as,ρ,s',a,b,c⟩=> p pins s σ H Q I (r as σ H ρ s' Q a b c)⟩
inductive Tg where
 |nm (i:Nat)|t2 (a b:Tg)|t3 (a b c:Tg)|tn (is:List Nat)
def gNs:List Nat -> TGs
 |[]=> ap5
 |i::r=> aeh (akl i) (gNs r)
def gOf(K:aj):Tg -> TG
 |.nm i=> akl i
 |.t2 a b=> akk K 2 (aeh (gOf K a) (aeh (gOf K b) ap5))
 |.t3 a b c=> akk K 3 (aeh (gOf K a) (aeh (gOf K b) (aeh (gOf K c) ap5)))
 |.tn is=> akk K is.length (gNs is)
noncomputable def aq0:D -> Option (List D)
 |.tup ds=> some (ds.map D.da)
 |.lst ds=> some (ds.map D.da)
 |.con ds=> some (ds.map D.da)
 |_=> none
noncomputable def apc:List Nat -> List D -> En -> Option En
 |[],[],ρ=> some ρ
 |i::r,d::ds,ρ=> apc r ds (ρ.set i (some d))
 |_,_,_=> none
def ky:Tg -> D -> En -> Option En
 |.nm i,d,ρ=> some (ρ.set i (some d))
 | .t2 a b,d,ρ=> match aq0 d with
  |some [x,y]=> match ky a x ρ with
   |some ρ1=> ky b y ρ1
   |none=> none
  |_=> none
 | .t3 a b c,d,ρ=> match aq0 d with
  | some [x,y,z]=> match ky a x ρ with
   |some ρ1=> match ky b y ρ1 with
    |some ρ2=> ky c z ρ2
    |none=> none
   |none=> none
  |_=> none
 |.tn is,d,ρ=> match aq0 d with
  |some xs=> apc is xs ρ
  |none=> none
noncomputable def y4(k:Nat):Tg -> Bool
 |.nm i=> decide (i < k)
 |.t2 a b=> y4 k a&&y4 k b
 |.t3 a b c=> y4 k a&&y4 k b&&y4 k c
 |.tn is=> is.all fun i=> decide (i < k)
def Fra(k:Nat)(σ σ':St):Prop:= ∀vs cap:St,vs.length=k -> σ=vs++cap -> ∃vs':St,vs'.length=k/\σ'=vs'++cap
theorem Fra.refl(k:Nat)(σ:St):Fra k σ σ:=fun vs cap h e=> ⟨vs,h,e⟩
theorem Fra.trans{k:Nat}{a b c:St}(h1:Fra k a b)(h2:Fra k b c):Fra k a c:=fun vs cap h e=> by
 obtain⟨v1,l1,e1⟩:=h1 vs cap h e
 exact h2 v1 cap l1 e1
theorem aih{as:As}{d:D}{ds:List D}(r:RD K as H v d)(h:aq0 d=some ds): ∃p xs,v=.ref p/\(SqT K H p xs\/SqL K H p xs)/\RDs K as H xs ds:=by
 cases r with
 |da t=>
  cases t with
  |tup n e r=> cases h;exact⟨_,_,rfl,.inl (SqT.of e),r.rd⟩
  |lst n e r=> cases h;exact⟨_,_,rfl,.inr (SqL.of e),r.rd⟩
  |_=> cases h
 |con q r=> cases h;exact⟨_,_,rfl,.inl (q H),r.rd⟩
 |_=> cases h
theorem asj{K:aj}{as:As}{H:Hp}{ρ':En}{Q:St -> Hp -> Prop}: ∀(is:List Nat) {xs:List V} {ds:List D} {σ:St} {ρ:En},Envs K as H ρ σ -> RDs K as H xs ds -> apc is ds ρ=some ρ' ->
  (∀σ',Envs K as H ρ' σ' -> (∀k,(is.all fun i=> decide (i < k))=true -> Fra k σ σ') -> Q σ' H) -> xs.length=is.length/\gNs is xs σ H Q
 |[],_,_,σ,ρ,en,rs,e,h=> by
  cases rs with
  |nil=> cases e;exact⟨rfl,rfl,h σ en fun k _=> Fra.refl k σ⟩
  |cons _ _=> cases e
 | i::r,_,_,σ,ρ,en,rs,e,h=> by
  cases rs with
  |nil=> cases e
  | @cons v _ d _ r1 rs=>
   obtain⟨hl,hg⟩:=asj r (en.set i r1) rs e (Q:=Q) fun σ' en' f=> h σ' en' fun k hk=> by
    rw [gU,aB]at hk
    refine Fra.trans (fun vs cap hl z=> ?_) (f k hk.2)
    have hi:i < k:=of_decide_eq_true hk.1
    subst z
    exact⟨vs.set i (some v),by simpa using hl,by rw [mi _ _ (by lia)]⟩
   exact⟨by rw [az,az,hl],_,_,rfl,hg⟩
theorem aac{K:aj}: ∀(tg:Tg) {as:As} {σ:St} {H:Hp} {ρ ρ':En} {v:V} {d:D} {Q:St -> Hp -> Prop},Envs K as H ρ σ -> RD K as H v d -> ky tg d ρ=some ρ' ->
  (∀σ',Envs K as H ρ' σ' -> (∀k,y4 k tg=true -> Fra k σ σ') -> Q σ' H) -> gOf K tg v σ H Q
 |.nm i,as,σ,H,ρ,ρ',v,d,Q,en,r,e,h=> by
  cases e
  refine h (σ.set i (some v)) (en.set i r) fun k hk vs cap hl z=> ?_
  have hi:i < k:=of_decide_eq_true hk
  subst z
  exact⟨vs.set i (some v),by simpa using hl,by rw [mi _ _ (by lia)]⟩
 | .t2 a b,as,σ,H,ρ,ρ',v,d,Q,en,r,e,h=> by
  unfold ky at e
  split at e
  ·rename_i x y q
   obtain⟨p,xs,rfl,sq,rs⟩:=aih r q
   cases rs with
   |cons r1 rs=>
   cases rs with
   |cons r2 rs=>
   cases rs
   split at e
   ·rename_i ρ1 q1
    refine⟨p,_,rfl,sq,rfl,_,_,rfl,aac a en r1 q1 fun σ1 en1 f1=> ⟨_,_,rfl,aac b en1 r2 e fun σ2 en2 f2=> ⟨rfl,h σ2 en2 fun k hk=> ?_⟩⟩⟩
    simp only [y4,aB]at hk
    exact (f1 k hk.1).trans (f2 k hk.2)
   ·cases e
  ·cases e
 | .t3 a b c,as,σ,H,ρ,ρ',v,d,Q,en,r,e,h=> by
  unfold ky at e
  split at e
  ·rename_i x y z q
   obtain⟨p,xs,rfl,sq,rs⟩:=aih r q
   cases rs with
   |cons r1 rs=>
   cases rs with
   |cons r2 rs=>
   cases rs with
   |cons r3 rs=>
   cases rs
   split at e
   ·rename_i ρ1 q1
    split at e
    ·rename_i ρ2 q2
     refine⟨p,_,rfl,sq,rfl,_,_,rfl,aac a en r1 q1 fun σ1 en1 f1=> ⟨_,_,rfl,aac b en1 r2 q2 fun σ2 en2 f2=> ⟨_,_,rfl,aac c en2 r3 e fun σ3 en3 f3=> ⟨rfl,h σ3 en3 fun k hk=> ?_⟩⟩⟩⟩
     simp only [y4,aB]at hk
     exact ((f1 k hk.1.1).trans (f2 k hk.1.2)).trans (f3 k hk.2)
    ·cases e
   ·cases e
  ·cases e
 | .tn is,as,σ,H,ρ,ρ',v,d,Q,en,r,e,h=> by
  unfold ky at e
  split at e
  ·rename_i ys q
   obtain⟨p,xs,rfl,sq,rs⟩:=aih r q
   obtain⟨hl,hg⟩:=asj is en rs e (Q:=Q) h
   exact⟨p,xs,rfl,sq,hl,hg⟩
  ·cases e
abbrev Wk:=List D×Option (Nat×O)
abbrev FI:=En -> S -> R Wk
def k6(p:Wk)(s:S):Prop:=match p.2 with
 |none=> True
 |some q=> s[q.1]?=some q.2
open Classical in
noncomputable def chk{α:Type}(p:Wk)(s:S)(k:R α):R α:=if k6 p s then k else .bad
theorem zf{α:Type}{ds:List D}{s:S}{k:R α}:chk (ds,none) s k=k:=if_pos trivial
theorem xx{α:Type}{p:Wk}{s:S}{k:R α}(h:k6 p s):chk p s k=k:=if_pos h
theorem Dn.chk{α β:Type}{rel:As -> Hp -> β -> α -> Prop}{as:As}{p:Wk}{s:S}{r:R α}{Q:β -> Hp -> Prop}(h:Dn K rel as H (chk p s r) Q):k6 p s/\Dn K rel as H r Q:=by
 by_cases c:k6 p s
 ·rw [xx c]at h;exact⟨c,h⟩
 ·have e:PF.chk p s r=.bad:=if_neg c
  rw [e]at h;exact h.elim
def ad1(K:aj)(as:As)(H:Hp)(J:It)(p:Wk):Prop:= ∀as2 H2 s2,Step0 as H as2 H2 -> Rel K as2 H2 s2 -> k6 p s2 -> ∀i:Nat,
 (p.1.length <=i -> J.stop i H2)/\ ∀d,p.1[i]?=some d -> J.go i H2/\ ∀x H3,J.yld i H2 x H3 -> Step as2 H2 as2 H3/\Rel K as2 H3 s2/\RD K as2 H3 x d
def avt(K:aj)(wi:TI)(f:FI):Prop:= ∀as σ H ρ s Q,Rel K as H s -> Envs K as H ρ σ -> Dn K (ad1 K) as H (f ρ s) Q -> wi σ H Q
structure RI (X:Cx) (tg iter:Expr) (f:FI):Prop where
 ex: ∃t,PI X tg iter t/\avt X.K t f
structure RG (X:Cx) (tg:Expr) (g:Tg):Prop where
 pg:PG X tg (gOf X.K g)
section
variable{X:Cx}{a b:Expr}{fa fb:FE}{pos:Pos}
theorem j4{x:Str}(hN:X.N.Nodup)(hi:X.N[i]?=some x)(hx:Loc X.env.scope x)(hf:X.fn x=true\/X.env.scope.names.lookup x=some .local:=by first|exact .inl rfl|exact .inr rfl|assumption):RG X (.Name x pos) (.nm i):=⟨axr hN hi hx hf⟩
theorem a52{e1 e2:Expr}{g1 g2:Tg}{k:Nat}(hc:X.calm=true)(h1:RG X e1 g1)(h2:RG X e2 g2)(hn:(bz [e1,e2] X.env).length=2:=by rfl)(hst:(bz [e1,e2] X.env).findIdx? (·.1)=none:=by rfl)
  (s1:(bz [e1,e2] X.env).map (·.2)=assign e1 X.env::(bz [e2] X.env).map (·.2):=by rfl) (s2:(bz [e2] X.env).map (·.2)=assign e2 X.env::(bz [] X.env).map (·.2):=by rfl):RG X (.Tuple [e1,e2] k pos) (.t2 g1 g2):=
 ⟨anu hc (ac0 h1.pg (ac0 h2.pg aof s2) s1) hn hst⟩
theorem a3z{e1 e2 e3:Expr}{g1 g2 g3:Tg}{k:Nat}(hc:X.calm=true)(h1:RG X e1 g1)(h2:RG X e2 g2)(h3:RG X e3 g3)(hn:(bz [e1,e2,e3] X.env).length=3:=by rfl)(hst:(bz [e1,e2,e3] X.env).findIdx? (·.1)=none:=by rfl)
  (s1:(bz [e1,e2,e3] X.env).map (·.2)=assign e1 X.env::(bz [e2,e3] X.env).map (·.2):=by rfl) (s2:(bz [e2,e3] X.env).map (·.2)=assign e2 X.env::(bz [e3] X.env).map (·.2):=by rfl) (s3:(bz [e3] X.env).map (·.2)=assign e3 X.env::(bz [] X.env).map (·.2):=by rfl):RG X (.Tuple [e1,e2,e3] k pos) (.t3 g1 g2 g3):=
 ⟨anu hc (ac0 h1.pg (ac0 h2.pg (ac0 h3.pg aof s3) s2) s1) hn hst⟩
def kr(f:FE):FS:=fun ρ s=> (f ρ s).bind fun d s1=>.ok (.rt d) s1
def y6(f:FE):FS:=fun ρ s=> (f ρ s).bind fun _ s1=>.ok (.nx ρ) s1
noncomputable def k7:FS:=fun ρ s=>.ok (.nx ρ) s
def jr(i:Nat)(f:FE):FS:=fun ρ s=> (f ρ s).bind fun d s1=>.ok (.nx (ρ.set i (some d))) s1
def vd(c:FT)(f g:FS):FS:=fun ρ s=> (c ρ s).bind fun k s1=> if k=true then f ρ s1 else g ρ s1
def jl(f g:FS):FS:=fun ρ s=> (f ρ s).bind fun fl s1=> match fl with
 |.nx ρ1=> g ρ1 s1
 |fl=>.ok fl s1
theorem kf(h:RE X a fa):RS X (.Return (some a) pos) (kr fa):=by
 obtain⟨t,p,r⟩:=h.ex
 refine⟨_,a21 p,fun as σ H ρ s D rl en h=> ?_⟩
 exact r as σ H ρ s _ rl en (Dn.bind h fun d s1 as1 H1 v st1 rl1 r1 h1=> Dn.now (b:=FV.rt v) h1 rl1 (.rt r1))
theorem abu(h:RE X a fa)(hs:gg a none pos.line X.env=pure false:=by rfl):RS X (.Expr a pos) (y6 fa):=by
 obtain⟨t,p,r⟩:=h.ex
 refine⟨_,ay0 p hs,fun as σ H ρ s D rl en h=> ?_⟩
 exact r as σ H ρ s _ rl en (Dn.bind h fun d s1 as1 H1 v st1 rl1 r1 h1=> Dn.now (b:=FV.nx σ) h1 rl1 (.nx (en.mono st1)))
theorem jq{x:Str}{pos':Pos}(hN:X.N.Nodup)(hi:X.N[i]?=some x)(hx:Loc X.env.scope x)(h:RE X a fa)(hs:gg a (some (.Name x pos')) pos.line X.env=pure false:=by rfl)(hf:X.fn x=true\/X.env.scope.names.lookup x=some .local:=by first|exact .inl rfl|exact .inr rfl|assumption):RS X (.Assign [.Name x pos'] a pos) (jr i fa):=by
 obtain⟨t,p,r⟩:=h.ex
 refine⟨_,a2t hN hi hx p hs hf,fun as σ H ρ s D rl en h=> ?_⟩
 exact r as σ H ρ s _ rl en (Dn.bind h fun d s1 as1 H1 v st1 rl1 r1 h1=> Dn.now (b:=FV.nx (σ.set i (some v))) h1 rl1 (.nx ((en.mono st1).set i r1)))
theorem xu{c:Expr}{st su:List Stmt}{fc:FT}{f g:FS}(hc:RT X c fc)(h1:RSs X st f)(h2:RSs X su g):RS X (.If c st su pos) (vd fc f g):=by
 obtain⟨tc,pc,rc⟩:=hc.ex
 obtain⟨t,p,r⟩:=h1.ex
 obtain⟨t',p',r'⟩:=h2.ex
 refine⟨_,a4p pc p p',fun as σ H ρ s D rl en h=> ?_⟩
 refine rc as σ H ρ s _ rl en (Dn.bind h fun k s1 as1 H1 x st1 rl1 r1 h1=> ?_)
 have e1:x=k:=r1
 subst e1
 cases x with
 |true=> rw [if_pos rfl]at h1⊢;exact r as1 σ H1 ρ s1 D rl1 (en.mono st1) h1
 |false=> rw [if_neg ax]at h1⊢;exact r' as1 σ H1 ρ s1 D rl1 (en.mono st1) h1
theorem va:RSs X [] k7:=⟨_,az8,fun as σ H ρ s D rl en h=> Dn.now (b:=FV.nx σ) h rl (.nx en)⟩
theorem jm{st:Stmt}{f:FS}(h:RS X st f):RSs X [st] f:=let ⟨t,p,r⟩:=h.ex;⟨_,aym p,r⟩
theorem a0n{t u:TS}{f g:FS}(h1:aij K t f)(h2:aij K u g):aij K (a10 t u) (jl f g):=by
 intro as σ H ρ s D rl en h
 refine h1 as σ H ρ s _ rl en (Dn.bind h fun fl s1 as1 H1 fv st1 rl1 r1 h1=> ?_)
 cases r1 with
 |nx e=> exact h2 as1 _ H1 _ s1 D rl1 e h1
 |rt e=> exact (show aax D (.rt _) H1 from Dn.now (K:=K) (rel:=rF K) (Q:=aax D) (b:=FV.rt _) h1 rl1 (rF.rt e))
 |bk e=> exact (show aax D (.bk _) H1 from Dn.now (K:=K) (rel:=rF K) (Q:=aax D) (b:=FV.bk _) h1 rl1 (rF.bk e))
 |ct e=> exact (show aax D (.ct _) H1 from Dn.now (K:=K) (rel:=rF K) (Q:=aax D) (b:=FV.ct _) h1 rl1 (rF.ct e))
theorem jg{st:Stmt}{rest:List Stmt}{f g:FS}(h:RS X st f)(k:RSs X rest g):RSs X (st::rest) (jl f g):=by
 obtain⟨t,p,r⟩:=h.ex
 obtain⟨t',p',r'⟩:=k.ex
 exact⟨_,ava p p',a0n r r'⟩
def xl(g:Tg)(fb:FS)(p:Wk):List D -> En -> S -> R Fl
 |[],ρ,s=>.ok (.nx ρ) s
 | d::r,ρ,s=> match ky g d ρ with
  |none=>.bad
  |some ρ1=> (fb ρ1 s).bind fun fl s2=> match fl with
   |.nx ρ2=> chk p s2 (xl g fb p r ρ2 s2)
   |.ct ρ2=> chk p s2 (xl g fb p r ρ2 s2)
   |.bk ρ2=>.ok (.nx ρ2) s2
   |.rt d=>.ok (.rt d) s2
def ze(fi:FI)(g:Tg)(fb:FS):FS:=fun ρ s=> (fi ρ s).bind fun p s1=> chk p s1 (xl g fb p p.1 ρ s1)
theorem xj{tg:Expr}{fi:FI}{g:Tg}{fb:FS}(hc:X.calm=true)(hi:RI X tg iter fi)(hg:RG X tg g)(hb:RSs X body fb)(hx:XOk X XW.xk:=by assumption)(hs: ∀x,bN iter X.env x=pure x:=by intro _;rfl):RS X (.For tg iter body [] pos) (ze fi g fb):=by
 obtain⟨wi,pi,ri⟩:=hi.ex
 obtain⟨tb,pb,rb⟩:=hb.ex
 refine⟨_,a3q hx.own hc pi hg.pg pb hs,fun as σ H ρ s D rl en h=> ?_⟩
 refine ri as σ H ρ s _ rl en (Dn.bind h fun p s1 as1 H1 J st1 rl1 r1 h1=> ?_)
 obtain⟨so,h1⟩:=Dn.chk h1
 refine⟨fun i m σ' H'=> ∃as2 ρ2 s2,m=p.1.length - i/\i <=p.1.length/\Step as1 H1 as2 H'/\Rel X.K as2 H' s2/\Envs X.K as2 H' ρ2 σ'/\k6 p s2/\Dn X.K (rF X.K) as2 H' (xl g fb p (p.1.drop i) ρ2 s2) (aax D),
  ⟨_,as1,ρ,s1,rfl,bP _,Step.refl _ _,rl1,en.mono st1,so,h1⟩,?_⟩
 rintro i m σ' H' ⟨as2,ρ2,s2,hm,hi,st2,rl2,en2,so2,h2⟩
 have tn:=r1 as2 H' s2 st2.toStep0 rl2 so2 i
 by_cases hl:i < p.1.length
 ·obtain⟨d,hd⟩: ∃d,p.1[i]?=some d:=⟨_,aq hl⟩
  have hdr:p.1.drop i=d::p.1.drop (i+1):=by
   rw [cF hl]
   rw [aq hl]at hd
   cases hd;rfl
  rw [hdr]at h2
  obtain⟨go,yl⟩:=tn.2 d hd
  unfold xl at h2
  split at h2
  ·exact h2.elim
  ·rename_i ρ3 q3
   refine .inr ⟨go,fun σ4 H4=> ∃as4 ρ4 s4,Step as1 H1 as4 H4/\Rel X.K as4 H4 s4/\Envs X.K as4 H4 ρ4 σ4/\k6 p s4/\Dn X.K (rF X.K) as4 H4 (xl g fb p (p.1.drop (i+1)) ρ4 s4) (aax D),?_,fun x H3 hy=> ?_⟩
   ·rintro σ4 H4 ⟨as4,ρ4,s4,a1,a2,a3,a4,a5⟩
    exact⟨p.1.length - (i+1),by lia,as4,ρ4,s4,rfl,hl,a1,a2,a3,a4,a5⟩
   ·obtain⟨st3,rl3,rx⟩:=yl x H3 hy
    refine aac g (en2.mono st3) rx q3 fun σ3 en3 _=> ?_
    refine rb as2 σ3 H3 ρ3 s2 _ rl3 en3 (Dn.bind (Dn.step h2 st3) fun fl s5 as5 H5 fv st5 rl5 r5 h5=> ?_)
    cases r5 with
    |nx e=>
     obtain⟨so5,h5⟩:=Dn.chk h5
     exact⟨as5,_,s5,(st2.trans st3).trans st5,rl5,e,so5,h5⟩
    |ct e=>
     obtain⟨so5,h5⟩:=Dn.chk h5
     exact⟨as5,_,s5,(st2.trans st3).trans st5,rl5,e,so5,h5⟩
    |rt e=> exact (show aax D (.rt _) H5 from Dn.now (K:=X.K) (rel:=rF X.K) (Q:=aax D) (b:=FV.rt _) h5 rl5 (rF.rt e))
    |bk e=> exact (show aax D (.nx _) H5 from Dn.now (K:=X.K) (rel:=rF X.K) (Q:=aax D) (b:=FV.nx _) h5 rl5 (rF.nx e))
 ·refine .inl ⟨tn.1 (bC hl),?_⟩
  rw [fq (bC hl)]at h2
  exact Dn.now (b:=FV.nx σ') h2 rl2 (.nx en2)
end
end PF
variable{l xs ds ys kt sts row:List m9}{K:aj}{as:PF.As}{H:L2.Hp}{p a Ca:eg}{w:nI}{s s' s0:PF.S}{n c ep:Nat}{v:L2.V}{i j many few:Int}{vs:List L2.V}{d a0 a1:PF.D}{e o iter tg elt tg2 iter2:jN}{f fa:PF.FA}{ρ:PF.En}{σ:L2.St}{g:PF.Tg}{ft:PF.FT}{fe fo fi:PF.FE}{m:m9}{y x0 x1 x2 x3 x4:Option PF.D}{N fl ps ss:List iN}{fb:PF.FS}{t t':nW}{q C:iN}{u:cM}{sh:fz}{A:ng}{us:List cM}{pos:PySem.Pos}{b:Bool}{es ifs ifs2:List jN}{r:List PF.D}{js:List Nat}{fd:PySem.FuncData}{Q E:cM -> fz -> Prop}{h base:PySem.Heap}{prog P:mF}{pins:List (eg×PySem.Obj)}{acc hl is:List Int}{env:PySem.Env}{X:L2.Cx}{mg:iN -> Option cM}{od an:Option eg}{sl:Array (Option cM)}{scope:PySem.Scope}
namespace PF
open PySem PySem.Spec
open L2
variable[XW]
noncomputable def acq(d:D)(s:S):R Wk:=match d with
 |.lst ds=>.ok (ds.map D.da,none) s
 |.tup ds=>.ok (ds.map D.da,none) s
 |.con ds=>.ok (ds.map D.da,none) s
 |.frz ds=>.ok (ds.map D.da,none) s
 |.ref n=> match s[n]? with
  |some (.lst ds)=>.ok (ds,some (n,.lst ds)) s
  |_=>.bad
 |_=>.bad
def fIt(f:FE):FI:=fun ρ s=> (f ρ s).bind acq
section
variable{X:Cx}{tg a b:Expr}{fa fb:FE}{pos:Pos}
def a6d(K:aj)(tl:TE):TI:=fun σ H R=> tl σ H fun x H1=> ∃a,x=.ref a/\(((∃xs,SqL K H1 a xs)/\R (Itl K a) H1)\/((∃xs,SqT K H1 a xs)/\R (Itt K a) H1))
theorem a32{l:Expr}{tl:TE}(hl:PE X l tl):PI X tg l (a6d X.K tl):=by
 intro pins s σ H R I h
 refine thn (hl pins s σ H _ I h) fun v s1 ⟨x,H1,I1,r1,q1⟩=> ?_
 obtain⟨a,e,q1⟩:=q1
 subst e
 cases r1
 have fp: ∀b∈ [s1.heap.objs.size],zo X pins H1 b:=fun b hb=> by
  have e:b=s1.heap.objs.size:=by simpa using hb
  subst e
  exact I1.fpOk (ao _) (I1.hok.fresh (ao _))
 rcases q1 with ⟨⟨xs,hq⟩,q⟩|⟨⟨xs,hq⟩,q⟩
 ·obtain⟨its,rv,p,hz⟩:=I1.list hq
  refine gM p.isList ?_
  exact⟨s1.heap.objs.size,[s1.heap.objs.size],_,_,H1,rfl,I1.kept (t':=s1.toks) fun b o e=> ak _ e,at3 a _,⟨_,aA _ rfl,rfl,rfl⟩,fp,q⟩
 ·obtain⟨its,rv,p,hz⟩:=I1.tuple hq
  refine iU (show s1.heap.IsTuple a its.toArray from p) ?_
  exact⟨s1.heap.objs.size,[s1.heap.objs.size],_,_,H1,rfl,I1.kept (t':=s1.toks) fun b o e=> ak _ e,apf a _,⟨_,aA _ rfl,rfl,rfl⟩,fp,q⟩
theorem am0{xs:List V}{w:Wk}(h: ∀as2 H2 s2,Step0 as H as2 H2 -> Rel K as2 H2 s2 -> k6 w s2 -> ∃ys,SqL K H2 p ys/\RDs K as2 H2 ys w.1):ad1 K as H (Itl K p) w:=by
 intro as2 H2 s2 st rl so i
 obtain⟨ys,sq,rs⟩:=h as2 H2 s2 st rl so
 refine⟨fun hl=> ⟨ys,sq,by rw [rs.length];exact hl⟩,fun d hd=> ?_⟩
 obtain⟨v,hv,r⟩:=rs.get hd
 refine⟨⟨ys,v,sq,hv⟩,fun x H3 hy=> ?_⟩
 obtain⟨rfl,hx⟩:=hy
 have:=hx ys sq
 rw [hv]at this
 cases this
 exact⟨Step.refl _ _,rl,r⟩
theorem aqt{xs:List V}{w:Wk}(h: ∀as2 H2 s2,Step0 as H as2 H2 -> Rel K as2 H2 s2 -> k6 w s2 -> ∃ys,SqT K H2 p ys/\RDs K as2 H2 ys w.1):ad1 K as H (Itt K p) w:=by
 intro as2 H2 s2 st rl so i
 obtain⟨ys,sq,rs⟩:=h as2 H2 s2 st rl so
 refine⟨fun hl=> ⟨ys,sq,by rw [rs.length];exact hl⟩,fun d hd=> ?_⟩
 obtain⟨v,hv,r⟩:=rs.get hd
 refine⟨⟨ys,v,sq,hv⟩,fun x H3 hy=> ?_⟩
 obtain⟨rfl,hx⟩:=hy
 have:=hx ys sq
 rw [hv]at this
 cases this
 exact⟨Step.refl _ _,rl,r⟩
theorem zc{ds:List D}(rl:Rel K as H s)(hr: ∀q,as.ix[n]?=some (some q) -> q=p)(e:s[n]?=some (.lst ds)):as.ix[n]?=some (some p)/\ ∃xs,H p=some (.lst xs)/\RDs K as H xs ds:=by
 obtain⟨q,hq⟩:=rl.li n _ e (by intro z;cases z)
 cases hr q hq
 exact⟨hq,rl.ob n p _ hq e⟩
theorem zb(h:RE X a fa):RI X tg a (fIt fa):=by
 obtain⟨t,p,r⟩:=h.ex
 refine⟨_,a32 p,fun as σ H ρ s Q rl en h=> ?_⟩
 refine r as σ H ρ s _ rl en (Dn.bind h fun d s1 as1 H1 v st1 rl1 r1 h1=> ?_)
 cases r1 with
 |da t=>
  cases t with
  |tup n e rs=> exact⟨_,rfl,.inr ⟨⟨_,SqT.of e⟩,Dn.now (Q:=Q) h1 rl1 (aqt (xs:=[]) fun as2 H2 s2 st rl so=> ⟨_,SqT.of (st.keep _ _ n e),(rs.mono0 st).rd⟩)⟩⟩
  |lst n e rs=> exact⟨_,rfl,.inl ⟨⟨_,SqL.of e⟩,Dn.now (Q:=Q) h1 rl1 (am0 (xs:=[]) fun as2 H2 s2 st rl so=> ⟨_,SqL.of (st.keep _ _ n e),(rs.mono0 st).rd⟩)⟩⟩
  |_=> exact h1.elim
 |con q rs=> exact⟨_,rfl,.inr ⟨⟨_,q H1⟩,Dn.now (Q:=Q) h1 rl1 (aqt (xs:=[]) fun as2 H2 s2 st rl so=> ⟨_,q H2,(rs.mono0 st).rd⟩)⟩⟩
 |frz q rs=> exact⟨_,rfl,.inl ⟨⟨_,q as1 H1 (Step.refl _ _).toStep0⟩,Dn.now (Q:=Q) h1 rl1 (am0 (xs:=[]) fun as2 H2 s2 st rl so=> ⟨_,q as2 H2 st,(rs.mono0 st).rd⟩)⟩⟩
 | @ref pp n l hr=>
  have h1:Dn X.K (ad1 X.K) as1 H1 (match s1[n]? with|some (O.lst ds)=> R.ok (ds,some (n,O.lst ds)) s1|_=> R.bad) Q:=h1
  split at h1
  ·rename_i ds e
   obtain⟨ha,xs,hx,rs⟩:=zc rl1 hr e
   refine⟨_,rfl,.inl ⟨⟨_,SqL.of hx⟩,Dn.now (Q:=Q) h1 rl1 (am0 (xs:=[]) fun as2 H2 s2 st rl so=> ?_)⟩⟩
   have so':s2[_]?=some (O.lst ds):=so
   obtain⟨q,hq⟩:=rl.li _ _ so' (by intro z;cases z)
   have e2:=hq
   rcases st.old _ l with z|z
   ·rw [z]at e2
    cases hr q e2
    obtain⟨ys,hy,rs2⟩:=rl.ob _ _ _ hq so'
    exact⟨ys,SqL.of hy,rs2⟩
   ·rw [z]at e2;cases e2
  ·exact h1.elim
 |_=> exact h1.elim
noncomputable def abf(lo:Int):Nat -> List D
 |0=> []
 |n+1=>.int lo::abf (lo+1) n
theorem xg: ∀(n:Nat) (lo:Int),(abf lo n).length=n
 |0,_=> rfl
 |n+1,lo=> congrArg (· +1) (xg n (lo+1))
theorem aic: ∀(n:Nat) (lo:Int) (i:Nat),i < n -> (abf lo n)[i]?=some (.int (lo+i))
 |n+1,lo,0,_=> by simp [abf]
 |n+1,lo,i+1,h=> by
  rw [abf,cQ,aic n (lo+1) i (by lia)]
  have:lo+1+(i:Int)=lo+((i+1:Nat):Int):=by lia
  rw [this]
theorem a2h(lo:Int)(n:Nat):ad1 K as H (Itr lo n) (abf lo n,none):=by
 intro as2 H2 s2 st rl so i
 refine⟨fun hl=> by rw [xg]at hl;exact hl,fun d hd=> ?_⟩
 have hl:i < n:=by
  have:=(ap.mp hd).1
  rw [xg]at this;exact this
 rw [aic n lo i hl]at hd
 cases hd
 refine⟨hl,fun x H3 hy=> ?_⟩
 obtain⟨rfl,rfl⟩:=hy
 exact⟨Step.refl _ _,rl,.da (.int _)⟩
def apg(ds:List D)(s:S):R Wk:=match ds with
 |[.int j]=> if -(2^62) <=j/\j < 2^62 then .ok (abf 0 j.toNat,none) s else .bad
 |_=>.bad
def abg(f:FA):FI:=fun ρ s=> (f ρ s).bind apg
theorem RD.int_inv(h:RD K as H v (.int i)):v=.int i:=by
 cases h with|da t=> cases t;rfl
theorem RD.str_inv{x:Str}(h:RD K as H v (.str x)):v=.str x:=by
 cases h with|da t=> cases t;rfl
theorem RD.bl_inv{x:Bool}(h:RD K as H v (.bl x)):v=.bl x:=by
 cases h with|da t=> cases t;rfl
theorem RDs.one(h:RDs K as H vs [d]): ∃v,vs=[v]/\RD K as H v d:=by
 cases h with|cons a b=> cases b;exact⟨_,rfl,a⟩
theorem RDs.two{e:D}(h:RDs K as H vs [d,e]): ∃v w,vs=[v,w]/\RD K as H v d/\RD K as H w e:=by
 cases h with|cons a b=> cases b with|cons b c=> cases c;exact⟨_,_,rfl,a,b⟩
theorem aah{p:Pos}(hm:X.mg "range"=none)(h:RA X [a] f)(hg:Gl X "range":=by rfl)(hs:starEach [a] X.env=[(false,eval a X.env)]:=by rfl):RI X tg (.Call (.Name "range" p) [a] [] pos) (abg f):=by
 obtain⟨t,p,r⟩:=h.ex
 refine⟨_,asa hg hm p hs,fun as σ H ρ s Q rl en h=> ?_⟩
 refine r as σ H ρ s _ rl en (Dn.bind h fun ds s1 as1 H1 vs st1 rl1 r1 h1=> ?_)
 unfold apg at h1
 split at h1
 ·rename_i j
  obtain⟨v,rfl,rv⟩:=r1.one
  cases rv.int_inv
  split at h1
  ·rename_i hb
   exact⟨j,rfl,hb.1,hb.2,Dn.now (Q:=Q) h1 rl1 (a2h 0 _)⟩
  ·exact h1.elim
 ·exact h1.elim
def j9(g:Tg)(ft:FT)(fe:FE)(ρ0:En)(p:Wk):List D -> S -> R (List D)
 |[],s=>.ok [] s
 |d::r,s=> match ky g d ρ0 with
  |none=>.bad
  |some ρ1=> (ft ρ1 s).calm.bind fun b s2=> if b=true then (fe ρ1 s2).calm.bind fun x s3=> chk p s3 ((j9 g ft fe ρ0 p r s3).bind fun xs s4=>.ok (x::xs) s4) else chk p s2 (j9 g ft fe ρ0 p r s2)
theorem R.calm_ex{α:Type}(r:R α)(n:Nat)(ρ:En)(s:S):r.calm≠ .ex n ρ s:=by cases r <;> (intro h;cases h)
theorem aaq{α β:Type}{r:R α}{f:α -> S -> R β}(h1: ∀n ρ s,r≠ .ex n ρ s)(h2: ∀a s n ρ s',f a s≠ .ex n ρ s')(n:Nat)(ρ:En)(s:S):r.bind f≠ .ex n ρ s:=by
 cases r with
 |ok a s'=> exact h2 a s' n ρ s
 |bad=> intro h;cases h
 |ex n' ρ' s'=> exact absurd rfl (h1 n' ρ' s')
theorem aez{α:Type}{p:Wk}{k:R α}(h: ∀n ρ s',k≠ .ex n ρ s')(n:Nat)(ρ:En)(s':S):chk p s k≠ .ex n ρ s':=by
 by_cases c:k6 p s
 ·rw [xx c];exact h n ρ s'
 ·have e:chk p s k=.bad:=if_neg c
  rw [e];intro z;cases z
theorem aau{g:Tg}{ft:FT}{fe:FE}{ρ0:En}{p:Wk}: ∀(ds:List D) (s:S) (n:Nat) (ρ:En) (s':S),j9 g ft fe ρ0 p ds s≠ .ex n ρ s'
 |[],s,n,ρ,s'=> by intro h;cases h
 | d::r,s,n,ρ,s'=> by
  rw [j9]
  split
  ·intro h;cases h
  ·refine aaq (R.calm_ex _) (fun b s2=> ?_) n ρ s'
   intro n ρ s'
   split
   ·exact aaq (R.calm_ex _) (fun x s3=> aez (aaq (fun n ρ s'=> aau r s3 n ρ s') fun xs s4 n ρ s' h=> by cases h)) n ρ s'
   ·exact aez (fun n ρ s'=> aau r s2 n ρ s') n ρ s'
noncomputable def aex(ρ:En)(js:List Nat):En:=js.map fun j=> (ρ[j]?).join
def fLc(m:Bool)(js:List Nat)(k:Nat)(fi:FI)(g:Tg)(ft:FT)(fe:FE):FE:=fun ρ s=> (fi ρ s).bind fun p s1=> if p.1.length <=sizeLine then chk p s1 ((j9 g ft fe (bB k none++aex ρ js) p p.1 s1).bind fun ds s2=> kj m ds s2) else .bad
noncomputable def vk:FT:=fun _ s=>.ok true s
structure RIfs (X:Cx) (ifs:List Expr) (f:FT):Prop where
 run:adt X ifs (acb X.K f)
theorem aeg:RIfs X [] vk:=⟨fun pins s σ H Q I ⟨as,ρ,s',rl,en,h⟩=> aur pins s σ H Q I (show Q true H from Dn.now h rl rfl)⟩
theorem ady{f:FT}(h:RT X a f):RIfs X [a] f:=⟨avp h.pt⟩
theorem Envs.caps(e:Envs K as H ρ σ)(js:List Nat):Envs K as H (aex ρ js) (xc σ js):=by
 refine⟨by simp [aex,xc],fun i d h=> ?_⟩
 unfold aex at h
 unfold xc
 rw [aR]at h⊢
 cases q:js[i]? with
 |none=> rw [q]at h;cases h
 | some j=>
  rw [q]at h
  have h:(ρ[j]?).join=some d:=by simpa using h
  cases z:ρ[j]? with
  |none=> rw [z]at h;cases h
  | some o=>
   rw [z]at h
   cases o with
   |none=> cases h
   |some x=>
    cases h
    obtain⟨v,e1,r⟩:=e.get j d z
    exact⟨v,by simp [e1],r⟩
theorem Envs.own{vs:St}{k:Nat}(e:Envs K as H ρ σ)(hl:vs.length=k):Envs K as H (bB k none++ρ) (vs++σ):=by
 refine⟨by simp [hl,e.len],fun i d h=> ?_⟩
 by_cases z:i < k
 ·rw [aJ (by simpa using z),dJ]at h
  simp [z]at h
 ·rw [aW (by simpa using bC z)]at h
  rw [aW (by rw [hl];exact bC z)]
  rw [hl]
  exact e.get _ d (by simpa using h)
theorem lcB {J:It} {p:Wk} {ρ0:En} {k:Nat} {cap:St} {m:Bool} {Q:VK} (hg:y4 k g=true) (hz:p.1.length <=sizeLine) (rl:Rel K as H s) (ri:ad1 K as H J p) (so:k6 p s) (en: ∀vs:St,vs.length=k -> Envs K as H ρ0 (vs++cap)) (h:Dn K (rD K) as H ((j9 g ft fe ρ0 p p.1 s).bind fun ds s2=> kj m ds s2) Q):aw3 (gOf K g) (@acb XW.dft K ft) (@tOf XW.dft K fe) k cap J H Q:=by
 intro D hD
 have n0:New H D (.lst []) (upd H D (.lst [])):=⟨hD,rfl⟩
 have nh:D∉as.hd:=fun z=> by obtain⟨_,e,_⟩:=rl.hs D z;rw [hD]at e;cases e
 have s0:=afk (as:=as) n0
 refine⟨fun i mm ys H'=> ∃as2 s2 ds,mm=p.1.length - i/\i <=p.1.length/\ys.length <=i/\Step as H as2 H'/\D∈as2.hd/\Rel K as2 H' s2/\k6 p s2/\RDs K as2 H' ys ds/\
   Dn K (rD K) as H ((j9 g ft fe ρ0 p (p.1.drop i) s2).bind fun xs s3=> kj m (ds++xs) s3) Q,
  ⟨_,as.hide D,s,[],rfl,bP _,ao _,s0,av,rl.hide n0,so,.nil,h⟩,?_⟩
 rintro i mm ys H' hDi ⟨as2,s2,ds,hm,hi,hys,st2,mD2,rl2,so2,rs,h2⟩
 have tn:=ri as2 H' s2 st2.toStep0 rl2 so2 i
 by_cases hl:i < p.1.length
 ·obtain⟨d,hd⟩: ∃d,p.1[i]?=some d:=⟨_,aq hl⟩
  have hdr:p.1.drop i=d::p.1.drop (i+1):=by
   rw [cF hl]
   rw [aq hl]at hd
   cases hd;rfl
  rw [hdr]at h2
  obtain⟨go,yl⟩:=tn.2 d hd
  unfold j9 at h2
  split at h2
  ·exact h2.elim
  ·rename_i ρ3 q3
   refine .inr ⟨go,fun x H3 hy vs hv=> ?_⟩
   obtain⟨st3,rl3,rx⟩:=yl x H3 hy
   refine aac g ((en vs hv).mono (st2.trans st3)) rx q3 fun σ3 en3 fr=> ?_
   refine⟨fr k hg vs cap hv rfl,as2,ρ3,s2,rl3,en3,?_⟩
   have eD3:H3 D=some (.lst ys):=st3.hh D mD2 _ hDi
   cases qt:ft ρ3 s2 with
   |bad=> rw [qt]at h2;exact h2.elim
   |ex _ _ _=> rw [qt]at h2;exact h2.elim
   | ok b s4=>
    rw [qt,R.calm_ok]at h2
    intro b' as4 H4 st4 rl4 eb
    have eb':b'=b:=eb
    subst eb'
    have mD4:D∈as4.hd:=st4.hk D mD2
    have eD4:H4 D=some (.lst ys):=st4.hh D mD2 _ eD3
    have st24:=(st2.trans st3).trans st4
    rw [R.bind_ok]at h2
    cases b' with
    | false=>
     rw [if_neg ax]at h2⊢
     by_cases c:k6 p s4
     ·rw [xx c]at h2
      exact⟨eD4,_,by lia,as4,s4,ds,rfl,hl,by lia,st24,mD4,rl4,c,(rs.mono st3).mono st4,h2⟩
     ·have e:chk p s4 (j9 g ft fe ρ0 p (p.1.drop (i+1)) s4)=.bad:=if_neg c
      rw [e]at h2;exact h2.elim
    | true=>
     rw [if_pos rfl]at h2⊢
     refine⟨as4,ρ3,s4,rl4,en3.mono st4,?_⟩
     cases qe:fe ρ3 s4 with
     |bad=> rw [qe]at h2;exact h2.elim
     |ex _ _ _=> rw [qe]at h2;exact h2.elim
     | ok x5 s5=>
      rw [qe,R.calm_ok]at h2
      intro v5 as5 H5 st5 rl5 r5
      rw [R.bind_ok]at h2
      have mD5:D∈as5.hd:=st5.hk D mD4
      have eD5:H5 D=some (.lst ys):=st5.hh D mD4 _ eD4
      have st25:=st24.trans st5
      by_cases c:k6 p s5
      ·rw [xx c]at h2
       have cg:Chg H5 D (.lst (ys++ [v5])) (upd H5 D (.lst (ys++ [v5]))):=⟨rfl⟩
       have s05:=aa9 (.inr mD5) cg
       refine⟨eD5,by lia,_,by lia,as5,s5,ds++ [x5],rfl,hl,by simp;lia,amu st25 hD nh mD5 cg,mD5,rl5.chgH mD5 cg,c,((((rs.mono st3).mono st4).mono st5).append (.cons r5 .nil)).mono0 s05,?_⟩
       cases qc:j9 g ft fe ρ0 p (p.1.drop (i+1)) s5 with
       |bad=> rw [qc]at h2;exact h2.elim
       |ex _ _ _=> exact absurd qc (aau _ _ _ _ _)
       |ok xs s6=>
        rw [qc]at h2
        show Dn K (rD K) as H (kj m ((ds++ [x5])++xs) s6) Q
        rw [cR]
        exact h2
      ·have e:chk p s5 ((j9 g ft fe ρ0 p (p.1.drop (i+1)) s5).bind fun xs s4=>.ok (x5::xs) s4)=.bad:=if_neg c
       rw [e]at h2;exact h2.elim
 ·refine .inl ⟨tn.1 (bC hl),?_⟩
  rw [fq (bC hl)]at h2
  replace h2:Dn K (rD K) as H (kj m (ds++ []) s2) Q:=h2
  rw [aP]at h2
  unfold kj at h2
  cases m with
  |true=>
   rw [if_pos rfl]at h2
   refine h2 (.ref D) _ H' (asf st2 nh mD2) (rl2.take mD2 ⟨ys,hDi,rs.mono0 (af7 mD2)⟩) (.ref (by simp [rl2.len]) fun q e=> ?_)
   rw [←rl2.len]at e
   simp at e
   exact e.symm
  | false=>
   rw [if_neg ax]at h2
   cases q:j8 ds with
   |none=> rw [q]at h2;exact h2.elim
   |some zs=>
    rw [q]at h2
    have e:=yg q
    subst e
    have h2:Dn K (rD K) as H (R.ok (.lst zs) s2) Q:=h2
    refine h2 (.ref D) _ H' (ala st2 nh abd) rl2.show (.da (.lst (fun z=> ?_) hDi (rs.td.mono0 abd)))
    rcases z with z|z
    ·exact rl2.hx D mD2 z
    ·exact absurd rfl (of_decide_eq_true (bR.mp z).2)
end
end PF
namespace PF
open PySem PySem.Spec
open L2
open PyProof.Rows (envOfC)
section XWs
variable[XW]
section
variable{X:Cx}{own caps:List Str}{js:List Nat}{scope:dS}{tg iter elt a:Expr}{ifs:List Expr}{fi:FI}{g:Tg}{ft:FT}{fe fa:FE}{pos:Pos}
theorem at8{wi:TI}{k:Nat}{m:Bool}(ri:avt K wi fi)(hl:y4 k g=true):ab0 K (tLc js k wi (gOf K g) (@acb XW.dft K ft) (@tOf XW.dft K fe)) (fLc m js k fi g ft fe):=by
 intro as σ H ρ s Q rl en h
 refine ri as σ H ρ s _ rl en (Dn.bind h fun p s1 as1 H1 J st1 rl1 r1 h1=> ?_)
 split at h1
 ·rename_i hz
  obtain⟨so,h1⟩:=Dn.chk h1
  exact lcB hl hz rl1 r1 so (fun vs hv=> ((en.mono st1).caps js).own hv) h1
 ·exact h1.elim
theorem ako(m:Bool)(hcalm:X.calm=true)(hkind:scope.kind=.function)(hnames:(scope.names.all fun p=> !(p.2==.local)||(scope.names.lookup p.1==some .local))=true)(hcell:(scope.names.any fun p=> p.2==.cell)=false)
  (hk:(scope.names.all fun p=> !(p.2==.free)||(X.env.kindOf p.1==some .cell||X.env.kindOf p.1==some .free))=true)
  (hcap:y9 X scope caps js) (hl:y4 own.length g=true) (hi:RI X tg iter fi) (hg: ∀C fp s H,RG (ju X own caps scope C fp s H) tg g) (ht: ∀(I:XW) C fp s H,XOk (ju X own caps scope C fp s H) I.xk -> @RIfs I (ju X own caps scope C fp s H) ifs ft) (he: ∀(I:XW) C fp s H,XOk (ju X own caps scope C fp s H) I.xk -> @RE I (ju X own caps scope C fp s H) elt fe)
  (hs: ∀x,bN iter X.env x=pure x:=by intro _;rfl):RE X (.ListComp elt [⟨tg,iter,ifs,0⟩] scope pos) (fLc m js own.length fi g ft fe):=by
 obtain⟨wi,pi,ri⟩:=hi.ex
 exact⟨_,a4y hcalm hkind hnames hcell hk hcap pi (fun C fp s H=> (hg C fp s H).pg) (fun C fp s H=> @RIfs.run XW.dft _ _ _ (ht XW.dft C fp s H (XOk.never dC))) (fun C fp s H=> @RE.pe XW.dft _ _ _ (he XW.dft C fp s H (XOk.never dC))) hs,at8 ri hl⟩
theorem amj(m:Bool){i:Nat}{y:Str}{py:Pos}{spos:Pos}(hsw:gg (.ListComp elt [⟨tg,iter,ifs,0⟩] scope pos) (some (.Name y py)) spos.line X.env=pure true)(hN:X.N.Nodup)(hy:X.N[i]?=some y)(hyl:X.env.scope.names.lookup y=some .local)
  (hcalm:X.calm=true) (hkind:scope.kind=.function) (hnames:(scope.names.all fun p=> !(p.2==.local)||(scope.names.lookup p.1==some .local))=true) (hcell:(scope.names.any fun p=> p.2==.cell)=false)
  (hk:(scope.names.all fun p=> !(p.2==.free)||(X.env.kindOf p.1==some .cell||X.env.kindOf p.1==some .free))=true)
  (hcap:y9 X scope caps js) (hl:y4 own.length g=true) (hi:RI X tg iter fi) (hg: ∀C fp s H,RG (ju X own caps scope C fp s H) tg g) (ht: ∀(I:XW) C fp s H,XOk (ju X own caps scope C fp s H) I.xk -> @RIfs I (ju X own caps scope C fp s H) ifs ft) (he: ∀(I:XW) C fp s H,XOk (ju X own caps scope C fp s H) I.xk -> @RE I (ju X own caps scope C fp s H) elt fe)
  (hs: ∀x,bN iter X.env x=pure x:=by intro _;rfl):RS X (.Assign [.Name y py] (.ListComp elt [⟨tg,iter,ifs,0⟩] scope pos) spos) (jr i (fLc m js own.length fi g ft fe)):=by
 obtain⟨wi,pi,ri⟩:=hi.ex
 refine⟨_,av1 (own:=own) (te:= @tOf XW.dft X.K fe) (tt:= @acb XW.dft X.K ft) (g:=gOf X.K g) hsw hN hy hyl hcalm hkind hnames hcell hk hcap pi (fun C fp s H=> (hg C fp s H).pg) (fun C fp s H=> @RIfs.run XW.dft _ _ _ (ht XW.dft C fp s H (XOk.never dC))) (fun C fp s H=> @RE.pe XW.dft _ _ _ (he XW.dft C fp s H (XOk.never dC))) hs,fun as σ H ρ s D rl en h=> ?_⟩
 exact at8 (m:=m) ri hl as σ H ρ s _ rl en (Dn.bind h fun d s1 as1 H1 v st1 rl1 r1 h1=> Dn.now (b:=FV.nx (σ.set i (some v))) h1 rl1 (.nx ((en.mono st1).set i r1)))
def auv(d:D)(s:S):R D:=match d with
 | .ref n=> match s[n]? with
  |some (.lst ds)=> match j8 ds with
   |some xs=>.ok (.lst xs) (s.set n .gone)
   |none=>.bad
  |_=>.bad
 |d=>.ok d s
def avv(f:FE):FE:=fun ρ s=> (f ρ s).bind auv
theorem a1u{Q:VK}(rl:Rel K as H s)(r:RD K as H v d)(h:Dn K (rD K) as H (auv d s) Q):Q v H:=by
 cases r with
 | @ref p n l hr=>
  have h1:Dn K (rD K) as H (match s[n]? with|some (O.lst ds)=> (match j8 ds with|some xs=> R.ok (D.lst xs) (s.set n .gone)|none=>.bad)|_=> R.bad) Q:=h
  split at h1
  ·rename_i ds e
   split at h1
   ·rename_i xs q
    obtain⟨ha,vs,hv,rs⟩:=zc rl hr e
    have e2:=yg q
    subst e2
    refine h1 (.ref p) (as.cut n) H (agj n) rl.frz (.da (.lst ?_ hv (rs.td.mono (agj n))))
    rintro (z|z)
    ·obtain⟨i,hi⟩:=kc.mp z
     have hi':=ahp hi
     have:n=i:=rl.nd n i p ha hi'
     subst this
     rw [d8]at hi
     simp at hi
    ·exact rl.hx p z (kc.mpr ⟨n,ha⟩)
   ·exact h1.elim
  ·exact h1.elim
 |da t=> exact Dn.now (Q:=Q) h rl (.da t)
 |ty n=> exact Dn.now (Q:=Q) h rl (.ty n)
 |fn a=> exact Dn.now (Q:=Q) h rl (.fn a)
 |tabF a=> exact Dn.now (Q:=Q) h rl (.tabF a)
 |con q r=> exact Dn.now (Q:=Q) h rl (.con q r)
 |frz q r=> exact Dn.now (Q:=Q) h rl (.frz q r)
theorem a1c(h:RE X a fa):RE X a (avv fa):=by
 obtain⟨t,p,r⟩:=h.ex
 refine⟨_,p,fun as σ H ρ s Q rl en h=> ?_⟩
 exact r as σ H ρ s _ rl en (Dn.bind h fun d s1 as1 H1 v st1 rl1 r1 h1=> a1u rl1 r1 h1)
end
abbrev FF:=List D -> S -> R D
noncomputable def spF(K:aj)(n:Nat)(F:FF):Sp:=fun vs H Q E=> vs.length=n/\ ∃as ds s,Rel K as H s/\RDs K as H vs ds/\ @Dn (XW.of E) D V K (rD K) as H (F ds s) Q
structure CalF (P:aI) (w:aM) (K:aj) (mg:Str -> Option ae) (base:Heap) (x:Str) (k n:Nat) (F:FF):Prop where
 cal:aw7 P w K mg base x k (spF K n F)
def jn(n:Nat)(F:FF)(f:FA):FE:=fun ρ s=> (f ρ s).bind fun ds s1=> if ds.length=n then (F ds s1).at ρ else .bad
section
variable{X:Cx}{x:Str}{k n:Nat}{F:FF}{p pos:Pos}{e:Expr}{es:List Expr}{f:FA}
theorem ku(c:CalF X.prog X.w X.K X.mg X.base x k n F)(hr:Room k X.A)(ha:RA X (e::es) f)(hx:XOk X XW.xk:=by assumption)(hg:Gl X x:=by rfl)(hdb:(x==("__debug__":Str))=false:=by decide)
  (he:starEach (e::es) X.env=(false,eval e X.env)::starEach es X.env:=by rfl) (hpl:(backTo pos (starEach es X.env)).any (·.1)=false:=by rfl):RE X (.Call (.Name x p) (e::es) [] pos) (jn n F f):=by
 obtain⟨t,p,r⟩:=ha.ex
 refine⟨_,a5d c.cal hx hr p hg hdb he hpl,fun as σ H ρ s Q rl en h=> ?_⟩
 refine r as σ H ρ s _ rl en (Dn.bind h fun ds s1 as1 H1 vs st1 rl1 r1 h1=> ?_)
 split at h1
 ·rename_i hn
  refine⟨by rw [aP,r1.length];exact hn,as1,ds,s1,rl1,?_,h1.at (en.mono st1)⟩
  rw [aP];exact r1
 ·exact h1.elim
end
end XWs
def qr(m:Nat)(fb:FS):FF:=fun ds s=> (fb (ds.map some++bB (m - ds.length) none) s).bind fun fl s1=> match fl with
 |.rt d=>.ok d s1
 |.nx _=>.ok .non s1
 |_=>.bad
theorem ap8{ds:List D}(r:RDs K as H vs ds):Envs K as H (ds.map some++bB (N.length - ds.length) none) (L2.start N vs):=by
 unfold L2.start
 refine⟨by simp [r.length],fun i d h=> ?_⟩
 by_cases z:i < ds.length
 ·rw [aJ (by simpa using z),aR]at h
  cases q:ds[i]? with
  |none=> rw [q]at h;cases h
  |some x=>
   rw [q]at h
   cases h
   obtain⟨v,hv,rv⟩:=r.get q
   exact⟨v,by rw [aJ (by rw [am,r.length];exact z),aR,hv];rfl,rv⟩
 ·rw [aW (by simpa using bC z),dJ]at h
  split at h
  ·cases h
  ·cases h
theorem au0[I:XW]{t:TS}{Q:VK}(r:aij K t fb)(rl:Rel K as H s)(en:Envs K as H ρ σ)(h:Dn K (rD K) as H ((fb ρ s).bind fun fl s1=> match fl with|.rt d=>.ok d s1|.nx _=>.ok .non s1|_=>.bad) Q):t {nx:=fun _ H'=> Q .non H',rt:=Q} σ H:=by
 refine r as _ H _ s _ rl en (Dn.bind h fun fl s1 as1 H1 fv st1 rl1 r1 h1=> ?_)
 cases r1 with
 |nx e=> exact Dn.now (Q:=Q) h1 rl1 (.da .non)
 |rt e=> exact Dn.now (Q:=Q) h1 rl1 e
 |bk e=> exact h1.elim
 |ct e=> exact h1.elim
abbrev BodyOk(P:aI)(w:aM)(K:aj)(mg:Str -> Option ae)(base:Heap)(N:List Str)(q:Str)(st:Stmt)(k:Nat)(fb:FS):Prop:=
 ∀(f:Addr) (cdv:ae) (A:aZ) (outer:List Env) (s:ag) (H:Hp) (E:XK) (I:XW),XOk (aa4 (CX1 P w) P w K mg base N q (ji st) f cdv A outer s H E) I.xk -> Room k (A.deeper (envOfC q (ji st) s.heap.objs.size f cdv)) ->
  @RSs I (aa4 (CX1 P w) P w K mg base N q (ji st) f cdv A outer s H E) (vn st) fb
section
variable{P:aI}{w:aM}{K:aj}{mg:Str -> Option ae}{base:Heap}{x:Str}{st:Stmt}{N ps:List Str}{k:Nat}
theorem aiq{m:Nat}(hm:N.length=m)(hbody:BodyOk P w K mg base N q st k fb)(f:Addr)(cdv:ae)(A:aZ)(outer:List Env)(s:ag)(H:Hp)(vs:List V)(Q:VK)(E:XK)(hr:Room k (A.deeper (envOfC q (ji st) s.heap.objs.size f cdv)))(h:spF K n (qr m fb) vs H Q E):
  ∃t,PSs (aa4 (CX1 P w) P w K mg base N q (ji st) f cdv A outer s H E) (vn st) t/\t {nx:=fun _ H'=> Q .non H',rt:=Q} (L2.start N vs) H:=by
 obtain⟨hv,as,ds,s',rl,rs,h⟩:=h
 obtain⟨t,p,r⟩:= @RSs.ex (XW.of E) _ _ _ (hbody f cdv A outer s H E (XW.of E) a4o hr)
 have en:Envs K as H (ds.map some++bB (m - ds.length) none) (L2.start N vs):=by rw [←hm];exact ap8 rs
 exact⟨t,p,au0 (I:=XW.of E) r rl en h⟩
theorem aag(h:Has K mg x st ps)(S:FnScope N ps (ji st)){m:Nat}(hm:N.length=m)(hn:ps.length=n)(hbody:BodyOk P w K mg base N x st k fb):CalF P w K mg base x (k+1) n (qr m fb):=
 ⟨h.calX S (fun vs H Q E h=> by rw [hn];exact h.1) fun f cdv A outer s H vs Q E hr h=> aiq hm hbody f cdv A outer s H vs Q E hr h⟩
end
noncomputable def ahf(K:aj):Sp:=fun vs H Q _=> ∃(a:Addr) (ns:List Int),vs=[.ref a]/\SqL K H a (ns.map V.int)/\ns.length <=63/\ ∀H',Q (.bl true) H'
theorem TDs.ints{as:As}{H:Hp}: ∀ns:List Int,TDs as H (ns.map V.int) (ns.map aX)
 |[]=>.nil
 |n::r=>.cons (.int n) (TDs.ints r)
end PF
namespace PF
open PySem PySem.Spec
open L2
variable[XW]
section
variable{X:Cx}{pins:List (Addr×Obj)}{σ:St}{H:Hp}{s:ag}{as:As}
theorem ar0(I:Inv X pins σ H s)(e:H a=some (.dK [])):(a==bI)=false/\ ∃(o:Obj) (es:Array c8) (ep:Nat),s.heap.get? a=some o/\o.cls=.type "dict"/\o.data=.dict es ep/\es.toList=[]:=by
 obtain⟨_,hd,vs,rel,dd⟩:=ai8 I.hok e
 cases rel
 obtain⟨o,es,ep,h1,h2,h3,h4,h5⟩:=dd
 refine⟨hd,o,es,ep,h1,h2.1,h3,?_⟩
 cases h6:es.toList with
 |nil=> rfl
 |cons x r=> rw [h6]at h5;obtain⟨h5,_⟩:=h5;cases h5
theorem a0d(I:Inv X pins σ H s)(e:H a=some (.dK [(.inl i,v)])):(a==bI)=false/\ ∃(o:Obj) (es:Array c8) (ep:Nat) (hs:Int) (t:Tok) (u:ae),RelV v u/\s.heap.get? a=some o/\o.cls=.type "dict"/\o.data=.dict es ep/\es.toList=[⟨hs,.int i t,u⟩]:=by
 obtain⟨_,hd,vs,rel,dd⟩:=ai8 I.hok e
 cases rel with
 | @cons _ b _ _ r1 r2=>
  cases r2
  obtain⟨k,u⟩:=b
  obtain⟨r0,r1⟩:=r1
  obtain rfl:gZ i=k:=r0
  obtain⟨o,es,ep,h1,h2,h3,h4,h5,_⟩:=dd
  refine⟨hd,o,es,ep,?_⟩
  cases h6:es.toList with
  |nil=> rw [h6]at h5;cases h5
  | cons x r=>
   rw [h6]at h5
   cases h5 with
   | cons k1 k2 k3=>
    cases k3
    obtain⟨hs,key,val⟩:=x
    rcases ql (k:=.inl i) (v:=key) k1 with ⟨j,t,e1,e2⟩|⟨y,t,e1,_⟩
    ·cases e1
     obtain rfl:key=eE i t:=e2
     obtain rfl:val=u:=k2
     exact⟨hs,t,val,r1,h1,h2.1,h3,rfl⟩
    ·cases e1
mutual
theorem TD.reads(I:Inv X pins σ H s): ∀{v:V} {d:ac} {u:ae},TD as H v d -> RelV v u -> ∃bs,ck s.heap u d bs
 |_,_,u,.non,r=> by cases (show u=aV from r);exact⟨_,.none⟩
 |_,_,u,.bl b,r=> by cases (show u=ia b from r);exact⟨_,.bool b⟩
 |_,_,u,.int i,r=> by obtain⟨t,e⟩:=(show∃t,u=eE i t from r);subst e;exact⟨_,.int i t⟩
 |_,_,u,.str x,r=> by obtain⟨t,e⟩:=(show∃t,u=g6 x t from r);subst e;exact⟨_,.str x t⟩
 |_,_,u,.tup (p:=a) (xs:=xs) n e q,r=> by
  cases (show u=bn a from r)
  obtain⟨z,its,rv,p⟩:=(show jx X.prog X.w H s.heap a (.tup xs) from I.hok a _ e)
  obtain⟨o,h1,h2,k,h3⟩:=p.tup
  obtain⟨bs,ra⟩:=TDs.reads I q rv
  exact⟨_,.tuple h1 h2 h3 ra⟩
 |_,_,u,.lst (p:=a) (xs:=xs) n e q,r=> by
  cases (show u=bn a from r)
  obtain⟨z,its,k,rv,h1⟩:=(show jx X.prog X.w H s.heap a (.lst xs) from I.hok a _ e)
  obtain⟨bs,ra⟩:=TDs.reads I q rv
  exact⟨_,.list h1 rfl rfl ra⟩
 |_,_,u,.dct (p:=a) n e,r=> by
  cases (show u=bn a from r)
  obtain⟨_,o,es,ep,h1,h2,h3,h4⟩:=ar0 I e
  exact⟨_,.dict (kvs:=[]) h1 h2 h3 (by rw [h4];exact .nil) (by rw [h4];exact .nil)⟩
 |_,_,u,.dc1 (p:=a) (i:=i) (d:=d) n e q,r=> by
  cases (show u=bn a from r)
  obtain⟨_,o,es,ep,hs,t,y,ry,h1,h2,h3,h4⟩:=a0d I e
  obtain⟨bs,ra⟩:=TD.reads I q ry
  exact⟨_,.dict (kvs:=[(.int i,d)]) h1 h2 h3 (by rw [h4];exact .cons (.int i t) .nil) (by rw [h4];exact .cons ra .nil)⟩
theorem TDs.reads(I:Inv X pins σ H s): ∀{vs:List V} {ds:List ac} {us:List ae},TDs as H vs ds -> jj vs us -> ∃bs,cf s.heap us ds bs
 |_,_,_,.nil,r=> by cases r;exact⟨_,.nil⟩
 | _,_,_,.cons a b,r=> by
  cases r with
  |cons r1 r2=>
   obtain⟨as,h1⟩:=TD.reads I a r1
   obtain⟨bs,h2⟩:=TDs.reads I b r2
   exact⟨_,.cons h1 h2⟩
end
def toP(s:S):D -> Option ac
 |.da d=> some d
 |.con ds=> some (.tuple ds)
 |.frz ds=> some (.list ds)
 |.ref n=> match s[n]? with
  |some (.lst ds)=> (j8 ds).map lA
  |_=> none
 |_=> none
noncomputable def toL(s:S):D -> Option (List D)
 |.lst ds=> some (ds.map D.da)
 |.ref n=> match s[n]? with
  |some (.lst ds)=> some ds
  |_=> none
 |_=> none
theorem ada{st:S}{ds:List D}(rl:Rel K as H st)(r:RD K as H v d)(h:toL st d=some ds): ∃p xs,v=.ref p/\H p=some (.lst xs)/\RDs K as H xs ds:=by
 cases r with
 |da t=>
  cases t with
  |lst n e q=> cases h;exact⟨_,_,rfl,e,q.rd⟩
  |_=> cases h
 | @ref p n l hr=>
  have h:(match st[n]? with|some (O.lst ds)=> some ds|_=> none)=some ds:=h
  split at h
  ·rename_i ys e
   cases h
   obtain⟨_,xs,hx,rs⟩:=zc rl hr e
   exact⟨p,xs,rfl,hx,rs⟩
  ·cases h
 |_=> cases h
theorem RD.reads{st:S}{pd:ac}(I:Inv X pins σ H s)(rl:Rel X.K as H st)(r:RD X.K as H v d)(h:toP st d=some pd)(ru:RelV v u): ∃bs,ck s.heap u pd bs:=by
 cases r with
 |da t=> cases h;exact t.reads I ru
 |con q rs=>
  cases h
  obtain⟨its,rv,⟨o,h1,h2,k,h3⟩,z⟩:=I.tuple (q H)
  obtain⟨bs,ra⟩:=rs.reads I rv
  cases ru
  exact⟨_,.tuple h1 h2 h3 ra⟩
 |frz q rs=>
  cases h
  obtain⟨its,rv,⟨o,k,h1,h2,h3,h4⟩,z⟩:=I.list (q as H (Step.refl _ _).toStep0)
  obtain⟨bs,ra⟩:=rs.reads I rv
  cases ru
  exact⟨_,.list h1 h2 h4 ra⟩
 | @ref p n l hr=>
  have h:(match st[n]? with|some (O.lst ds)=> (j8 ds).map lA|_=> none)=some pd:=h
  split at h
  ·rename_i ds e
   cases q:j8 ds with
   |none=> rw [q]at h;cases h
   |some xs=>
    rw [q]at h
    cases h
    have e2:=yg q
    subst e2
    obtain⟨_,vs,hv,rs⟩:=zc rl hr e
    obtain⟨z,its,k,rv,h1⟩:=(show jx X.prog X.w H s.heap p (.lst vs) from I.hok p _ hv)
    obtain⟨bs,ra⟩:=rs.td.reads I rv
    cases ru
    exact⟨_,.list h1 rfl rfl ra⟩
  ·cases h
 |_=> cases h
end
noncomputable def okD(d:ac):Bool:=d.canLay0&&decide (d.depth <=64)
theorem y8{f:ae -> ae -> Sem ae}{g:D -> D -> S -> R D}(h: ∀(pins:List (Addr×Obj)) (sh:ag) (σ:St) (H:Hp) (as:As) (s:S) (x y:V) (dx dy:D) (v u:ae) (Q:VK),Inv X pins σ H sh -> Rel X.K as H s -> RD X.K as H x dx -> RD X.K as H y dy -> RelV x v -> RelV y u ->
  Dn X.K (rD X.K) as H (g dx dy s) Q -> wpAny (model X.prog X.w) X.A (f v u) (EP X pins σ Q) X.xe sh):Op2 X f g:=
 ⟨fun x y H Q=> ∃as s dx dy,Rel X.K as H s/\RD X.K as H x dx/\RD X.K as H y dy/\Dn X.K (rD X.K) as H (g dx dy s) Q,
  fun pins sh σ H x y v u Q I rx ry ⟨as,s,dx,dy,rl,r1,r2,q⟩=> h pins sh σ H as s x y dx dy v u Q I rl r1 r2 rx ry q,
  fun as H s x y dx dy Q rl r1 r2 q=> ⟨as,s,dx,dy,rl,r1,r2,q⟩⟩
def ap4(dx dy:D)(s:S):R D:=match toP s dx,toP s dy with
 |some a,some b=> if okD a=true/\okD b=true then .ok (.bl (aU a b)) s else .bad
 |_,_=>.bad
def aps(dx dy:D)(s:S):R D:=match toP s dx,toP s dy with
 |some a,some b=> if okD a=true/\okD b=true then .ok (.bl (!PyData.eqv a b)) s else .bad
 |_,_=>.bad
def gEq(dx dy:D)(s:S):R D:=match dx,dy with
 |.str x,.str y=>.ok (.bl (decide (x=y))) s
 |dx,dy=> ap4 dx dy s
def gNe(dx dy:D)(s:S):R D:=match dx,dy with
 |.str x,.str y=>.ok (.bl (!decide (x=y))) s
 |dx,dy=> aps dx dy s
theorem abw{d:ac}(h:okD d=true):d.canLay0=true/\d.depth <=64:=by
 unfold okD at h
 rw [aB]at h
 exact⟨h.1,of_decide_eq_true h.2⟩
theorem a47(hu:X.A.units+64 < cLine):Op2 X (bG .Eq) ap4:=y8 fun pins sh σ H as s x y dx dy v u Q I rl r1 r2 rx ry h=> by
 unfold ap4 at h
 split at h
 ·rename_i a b ea eb
  split at h
  ·rename_i hok
   obtain⟨bs1,q1⟩:=r1.reads I rl ea rx
   obtain⟨bs2,q2⟩:=r2.reads I rl eb ry
   obtain⟨c1,d1⟩:=abw hok.1
   obtain⟨c2,d2⟩:=abw hok.2
   exact SeqAt.compareEq_reads q1 q2 c1 c2 (by lia) ⟨.bl _,H,I,rfl,Dn.now (Q:=Q) h rl (.da (.bl _))⟩
  ·exact h.elim
 ·exact h.elim
theorem a4e(hu:X.A.units+64 < cLine):Op2 X (bG .NotEq) aps:=y8 fun pins sh σ H as s x y dx dy v u Q I rl r1 r2 rx ry h=> by
 unfold aps at h
 split at h
 ·rename_i a b ea eb
  split at h
  ·rename_i hok
   obtain⟨bs1,q1⟩:=r1.reads I rl ea rx
   obtain⟨bs2,q2⟩:=r2.reads I rl eb ry
   obtain⟨c1,d1⟩:=abw hok.1
   obtain⟨c2,d2⟩:=abw hok.2
   exact SeqAt.compareNe_reads q1 q2 c1 c2 (by lia) ⟨.bl _,H,I,rfl,Dn.now (Q:=Q) h rl (.da (.bl _))⟩
  ·exact h.elim
 ·exact h.elim
theorem anp(x y:Str):decide (V.str x=V.str y)=decide (x=y):=by
 rw [cc,decide_eq_true_eq,decide_eq_true_eq,V.str.injEq]
theorem ae8{x:Str}(h:RD K as H v (.str x)):v=.str x:=by
 cases h with|da t=> cases t;rfl
theorem aj1(hu:X.A.units+64 < cLine):Op2 X (bG .Eq) gEq:=y8 fun pins sh σ H as s x y dx dy v u Q I rl r1 r2 rx ry h=> by
 unfold gEq at h
 split at h
 ·cases ae8 r1;cases ae8 r2
  exact a5e pins sh σ H _ _ v u Q I rx ry ⟨rfl,by rw [anp];exact Dn.now (Q:=Q) h rl (.da (.bl _))⟩
 ·obtain⟨r,ho,hr⟩:=(a47 (X:=X) hu).ex
  exact ho pins sh σ H x y v u Q I rx ry (hr as H s x y _ _ Q rl r1 r2 h)
theorem agh(hu:X.A.units+64 < cLine):Op2 X (bG .NotEq) gNe:=y8 fun pins sh σ H as s x y dx dy v u Q I rl r1 r2 rx ry h=> by
 unfold gNe at h
 split at h
 ·cases ae8 r1;cases ae8 r2
  exact a46 pins sh σ H _ _ v u Q I rx ry ⟨rfl,by rw [anp];exact Dn.now (Q:=Q) h rl (.da (.bl _))⟩
 ·obtain⟨r,ho,hr⟩:=(a4e (X:=X) hu).ex
  exact ho pins sh σ H x y v u Q I rx ry (hr as H s x y _ _ Q rl r1 r2 h)
noncomputable def arv:ac -> Option (List ac)
 |.list ds=> some ds
 |.tuple ds=> some ds
 |_=> none
noncomputable def nb(n b:Bool):Bool:=match n with
 |true=> !b
 |false=> b
def aiv(neg:Bool)(dx dy:D)(s:S):R D:=match toP s dx,(toP s dy).bind arv with
 |some a,some ds=> if okD a=true/\ds.all okD=true then .ok (.bl (nb neg (ds.any fun d=> aU d a))) s else .bad
 |_,_=>.bad
def ap1(neg:Bool)(dx dy:D)(s:S):R D:=match dx,dy with
 |.str a,.str b=>.ok (.bl (nb neg (!(gD b a 0 b.length 1).isEmpty))) s
 |dx,dy=> aiv neg dx dy s
open Classical in
theorem ax4{v:ae}{a:ac}{bs:List Addr}(ra:ck sh.heap v a bs)(ha:okD a=true)(hu:A.units+64 < cLine){cs:List Addr}(h:cf sh.heap us ds cs)(hd:ds.all okD=true):
  ∃e:ae -> Bool,(∀y∈us,lZ A sh y v (e y))/\us.any e=ds.any fun d=> aU d a:=by
 refine⟨fun y=> decide (∃d cs,ck sh.heap y d cs/\aU d a=true),?_⟩
 have one: ∀{y:ae} {d:ac} {cs:List Addr},ck sh.heap y d cs -> decide (∃d cs,ck sh.heap y d cs/\aU d a=true)=aU d a:=fun {y d cs} r=> by
  (rw [cc,decide_eq_true_eq])
  constructor
  ·rintro⟨d',cs',r',e⟩
   obtain⟨q,_⟩:=PyProof.Rows.reads_det (fun _ _ e _=> e) r r'
   subst q;exact e
  ·exact fun e=> ⟨d,cs,r,e⟩
 induction us generalizing ds cs with
 |nil=>
  cases h
  exact⟨fun _ z=> (by cases z),rfl⟩
 | cons u us ih=>
  cases h with
  | cons r rs=>
   rw [gU,aB]at hd
   obtain⟨i1,i2⟩:=ih rs hd.2
   obtain⟨l1,m1⟩:=abw hd.1
   obtain⟨l2,m2⟩:=abw ha
   refine⟨fun y hy=> ?_,?_⟩
   ·rcases aE.mp hy with z|z
    ·subst z
     show lZ A sh y v (decide (∃d cs,ck sh.heap y d cs/\aU d a=true))
     rw [one r]
     exact SeqAt.eqAt_reads _ _ A sh _ _ _ _ r ra l1 l2 (by lia)
    ·exact i1 y z
   ·rw [d5,d5,i2,one r]
theorem afb(A:aZ):A.in1.units <=A.units+1:=by
 show (A.in1).units <=A.units+1
 first|exact ao _|(unfold jO;simp)|simp [jO]
theorem a2c(neg:Bool){op:CmpOp}(hop:(neg=false/\op=.In)\/(neg=true/\op=.NotIn))(hu:X.A.units+65 < cLine):Op2 X (bG op) (aiv neg):=y8 fun pins sh σ H as s x y dx dy v u Q I rl r1 r2 rx ry h=> by
 unfold aiv at h
 split at h
 ·rename_i a ds ea ed
  split at h
  ·rename_i hok
   obtain⟨bs1,q1⟩:=r1.reads I rl ea rx
   cases e2:toP s dy with
   |none=> rw [e2]at ed;cases ed
   | some pd=>
    rw [e2]at ed
    have ed:arv pd=some ds:=ed
    obtain⟨bs2,q2⟩:=r2.reads I rl e2 ry
    have hin:=afb X.A
    cases q2 with
    | list k1 k2 k3 k4=>
     cases ed
     obtain⟨e,he,ha⟩:=ax4 (A:=X.A.in1) q1 hok.1 (by lia) k4 hok.2
     rcases hop with ⟨rfl,rfl⟩|⟨rfl,rfl⟩
     ·refine SeqAt.in_listAt e ⟨_,k1,k2,_,k3⟩ (fun y hy=> he y (by simpa using hy)) ⟨.bl _,H,I,rfl,?_⟩
      rw [←gX,ha]
      exact Dn.now (Q:=Q) h rl (.da (.bl _))
     ·refine SeqAt.notIn_listAt e ⟨_,k1,k2,_,k3⟩ (fun y hy=> he y (by simpa using hy)) ⟨.bl _,H,I,rfl,?_⟩
      rw [←gX,ha]
      exact Dn.now (Q:=Q) h rl (.da (.bl _))
    | tuple k1 k2 k3 k4=>
     cases ed
     obtain⟨e,he,ha⟩:=ax4 (A:=X.A.in1) q1 hok.1 (by lia) k4 hok.2
     rcases hop with ⟨rfl,rfl⟩|⟨rfl,rfl⟩
     ·refine SeqAt.in_tupleAt e ⟨_,k1,k2,_,k3⟩ (fun y hy=> he y (by simpa using hy)) ⟨.bl _,H,I,rfl,?_⟩
      rw [←gX,ha]
      exact Dn.now (Q:=Q) h rl (.da (.bl _))
     ·refine SeqAt.notIn_tupleAt e ⟨_,k1,k2,_,k3⟩ (fun y hy=> he y (by simpa using hy)) ⟨.bl _,H,I,rfl,?_⟩
      rw [←gX,ha]
      exact Dn.now (Q:=Q) h rl (.da (.bl _))
    |_=> cases ed
  ·exact h.elim
 ·exact h.elim
theorem aww(neg:Bool){op:CmpOp}(hop:(neg=false/\op=.In)\/(neg=true/\op=.NotIn))(hu:X.A.units+65 < cLine):Op2 X (bG op) (ap1 neg):=y8 fun pins sh σ H as s x y dx dy v u Q I rl r1 r2 rx ry h=> by
 unfold ap1 at h
 split at h
 ·rename_i a b
  cases r2.str_inv
  cases r1.str_inv
  rcases hop with ⟨rfl,rfl⟩|⟨rfl,rfl⟩
  ·exact asn pins sh σ H _ _ v u Q I rx ry ⟨a,b,rfl,rfl,Dn.now (Q:=Q) h rl (.da (.bl _))⟩
  ·exact amb pins sh σ H _ _ v u Q I rx ry ⟨a,b,rfl,rfl,Dn.now (Q:=Q) h rl (.da (.bl _))⟩
 ·obtain⟨r,ho,hr⟩:=(a2c (X:=X) neg hop hu).ex
  exact ho pins sh σ H x y v u Q I rx ry (hr as H s x y _ _ Q rl r1 r2 h)
abbrev gIn:=ap1 false
abbrev aai:=ap1 true
theorem a5m(hu:X.A.units+65 < cLine):Op2 X (bG .In) gIn:=aww false (.inl ⟨rfl,rfl⟩) hu
theorem ais(hu:X.A.units+65 < cLine):Op2 X (bG .NotIn) aai:=aww true (.inr ⟨rfl,rfl⟩) hu
def kg(m:Bool)(dx dy:D)(s:S):R D:=match dx,dy with
 |.int i,.int j=>.ok (.int (i+j)) s
 |.bl b,.int j=>.ok (.int (b01 b+j)) s
 |.str a,.str b=> if a.length+b.length <=sizeLine then .ok (.str (a++b)) s else .bad
 |.tup xs,.tup ys=> if xs.length+ys.length <=sizeLine then .ok (.tup (xs++ys)) s else .bad
 |dx,dy=> match toL s dx,toL s dy with
  |some xs,some ys=> if xs.length+ys.length <=sizeLine then kj m (xs++ys) s else .bad
  |_,_=>.bad
theorem RD.tup_inv(h:RD K as H v (.tup ds)): ∃p xs,v=.ref p/\ ¬as.has p/\H p=some (.tup xs)/\TDs as H xs ds:=by
 cases h with|da t=> cases t with|tup n e r=> exact⟨_,_,rfl,n,e,r⟩
theorem RD.lst_inv(h:RD K as H v (.lst ds)): ∃p xs,v=.ref p/\ ¬as.has p/\H p=some (.lst xs)/\TDs as H xs ds:=by
 cases h with|da t=> cases t with|lst n e r=> exact⟨_,_,rfl,n,e,r⟩
theorem qu(m:Bool):Op2 X (binaryOp .Add) (kg m):=y8 fun pins sh σ H as s x y dx dy v u Q I rl r1 r2 rx ry h=> by
 unfold kg at h
 split at h
 ·rename_i i j
  cases r1.int_inv;cases r2.int_inv
  exact ath pins sh σ H _ _ v u Q I rx ry ⟨i,j,rfl,rfl,Dn.now (Q:=Q) h rl (.da (.int _))⟩
 ·rename_i b j
  cases r1.bl_inv;cases r2.int_inv
  exact axx pins sh σ H _ _ v u Q I rx ry ⟨b01 b,j,rfl,rfl,Dn.now (Q:=Q) h rl (.da (.int _))⟩
 ·rename_i a b
  split at h
  ·rename_i hz
   cases r1.str_inv;cases r2.str_inv
   exact apt pins sh σ H _ _ v u Q I rx ry ⟨a,b,rfl,rfl,hz,Dn.now (Q:=Q) h rl (.da (.str _))⟩
  ·exact h.elim
 ·rename_i xs ys
  split at h
  ·rename_i hz
   obtain⟨p,vs,rfl,n1,e1,t1⟩:=r1.tup_inv
   obtain⟨q,ws,rfl,n2,e2,t2⟩:=r2.tup_inv
   refine awr pins sh σ H _ _ v u Q I rx ry ⟨p,q,vs,ws,rfl,rfl,SqT.of e1,SqT.of e2,by rw [t1.length,t2.length];exact hz,fun e=> ?_,fun _ e=> ?_,fun _ _ r H' n=> ?_⟩
   ·subst e
    cases t1
    exact Dn.now (Q:=Q) h rl (.da (.tup n2 e2 t2))
   ·subst e
    cases t2
    rw [aP]at h
    exact Dn.now (Q:=Q) h rl (.da (.tup n1 e1 t1))
   ·exact h (.ref r) as H' (k8 n) (rl.new n) (.da (.tup (fun z=> rl.has z n.no) n.at ((t1.append t2).mono (k8 n))))
  ·exact h.elim
 ·split at h
  ·rename_i xs ys e1 e2
   split at h
   ·rename_i hz
    obtain⟨p,vs,rfl,h1,t1⟩:=ada rl r1 e1
    obtain⟨q,ws,rfl,h2,t2⟩:=ada rl r2 e2
    exact a0s pins sh σ H _ _ v u Q I rx ry ⟨p,q,vs,ws,rfl,rfl,h1,h2,by rw [t1.length,t2.length];exact hz,fun r H' n=> zl h rl (t1.append t2) n⟩
   ·exact h.elim
  ·exact h.elim
instance (i j:Int):Decidable (aie i j):=by unfold aie;infer_instance
instance (i j:Int):Decidable (aq7 i j):=by unfold aq7;infer_instance
instance (i j:Int):Decidable (aph i j):=by unfold aph;infer_instance
noncomputable def gI2(C:Int -> Int -> Prop)[∀i j,Decidable (C i j)](f:Int -> Int -> Int)(dx dy:D)(s:S):R D:=match dx,dy with
 |.int i,.int j=> if C i j then .ok (.int (f i j)) s else .bad
 |_,_=>.bad
theorem akt{op:Operator}{C:Int -> Int -> Prop}[∀i j,Decidable (C i j)]{f:Int -> Int -> Int}(o:OpR X (binaryOp op) (rI C fun i j=>.int (f i j))):Op2 X (binaryOp op) (gI2 C f):=y8 fun pins sh σ H as s x y dx dy v u Q I rl r1 r2 rx ry h=> by
 unfold gI2 at h
 split at h
 ·rename_i i j
  split at h
  ·rename_i hc
   cases r1.int_inv;cases r2.int_inv
   exact o pins sh σ H _ _ v u Q I rx ry ⟨i,j,rfl,rfl,hc,Dn.now (Q:=Q) h rl (.da (.int _))⟩
  ·exact h.elim
 ·exact h.elim
def zt:D -> D -> S -> R D:=gI2 aie fun i j=> i*j
def aik:D -> D -> S -> R D:=gI2 aq7 fun i j=> i/j
def aad:D -> D -> S -> R D:=gI2 (fun _ j=> 0 < j) fun i j=> i % j
def api:D -> D -> S -> R D:=gI2 aph fun i j=> i^j.toNat
theorem acm:Op2 X (binaryOp .Mult) zt:=akt a3f
theorem ap3:Op2 X (binaryOp .FloorDiv) aik:=akt ay6
theorem acp:Op2 X (binaryOp .Mod) aad:=akt a1z
theorem a58:Op2 X (binaryOp .Pow) api:=akt a1n
noncomputable def gC2(f:Int -> Int -> Bool)(dx dy:D)(s:S):R D:=match dx,dy with
 |.int i,.int j=>.ok (.bl (f i j)) s
 |_,_=>.bad
theorem axa{op:CmpOp}{f:Int -> Int -> Bool}(o:OpR X (bG op) (rI0 fun i j=>.bl (f i j))):Op2 X (bG op) (gC2 f):=y8 fun pins sh σ H as s x y dx dy v u Q I rl r1 r2 rx ry h=> by
 unfold gC2 at h
 split at h
 ·rename_i i j
  cases r1.int_inv;cases r2.int_inv
  exact o pins sh σ H _ _ v u Q I rx ry ⟨i,j,rfl,rfl,Dn.now (Q:=Q) h rl (.da (.bl _))⟩
 ·exact h.elim
def gGt:D -> D -> S -> R D:=gC2 fun i j=> decide (j < i)
def gGe:D -> D -> S -> R D:=gC2 fun i j=> decide (j <=i)
noncomputable def gLt(dx dy:D)(s:S):R D:=match dx,dy with
 |.int i,.int j=>.ok (.bl (decide (i < j))) s
 |.str a,.str b=>.ok (.bl (decide (a.cps.toList < b.cps.toList))) s
 |_,_=>.bad
theorem a2j:Op2 X (bG .Gt) gGt:=axa a4f
theorem a6a:Op2 X (bG .GtE) gGe:=axa a4m
theorem a63:Op2 X (bG .Lt) gLt:=y8 fun pins sh σ H as s x y dx dy v u Q I rl r1 r2 rx ry h=> by
 unfold gLt at h
 split at h
 ·rename_i i j
  cases r1.int_inv;cases r2.int_inv
  exact a59 pins sh σ H _ _ v u Q I rx ry ⟨i,j,rfl,rfl,Dn.now (Q:=Q) h rl (.da (.bl _))⟩
 ·rename_i a b
  cases r1.str_inv;cases r2.str_inv
  exact ari pins sh σ H _ _ v u Q I rx ry ⟨a,b,rfl,rfl,Dn.now (Q:=Q) h rl (.da (.bl _))⟩
 ·exact h.elim
noncomputable def isN:D -> Bool
 |.non=> true
 |_=> false
theorem a45(r:RD K as H v d):decide (v=.non)=isN d:=by
 cases r with
 |da t=> cases t <;> rfl
 |_=> rfl
def gIs(dx dy:D)(s:S):R D:=match dy with
 |.non=>.ok (.bl (isN dx)) s
 |_=>.bad
theorem RD.non_inv(h:RD K as H v .non):v=.non:=by
 cases h with|da t=> cases t;rfl
theorem ap9:Op2 X (bG .Is) gIs:=y8 fun pins sh σ H as s x y dx dy v u Q I rl r1 r2 rx ry h=> by
 unfold gIs at h
 split at h
 ·cases r2.non_inv
  refine a2p pins sh σ H _ _ v u Q I rx ry ⟨rfl,?_⟩
  rw [a45 r1]
  exact Dn.now (Q:=Q) h rl (.da (.bl _))
 ·exact h.elim
def aq4(f:FE):FE:=fun ρ s=> (f ρ s).bind fun d s1=> match d with
 |.int i=>.ok (.int (-i)) s1
 |_=>.bad
theorem a2x{a:Expr}{fa:FE}(h:RE X a fa):RE X (.UnaryOp .USub a pos) (aq4 fa):=by
 obtain⟨t,p,r⟩:=h.ex
 refine⟨_,a44 a3h p,fun as σ H ρ s Q rl en h=> ?_⟩
 refine r as σ H ρ s _ rl en (Dn.bind h fun d s1 as1 H1 v st1 rl1 r1 h1=> ?_)
 split at h1
 ·cases r1.int_inv
  exact⟨_,rfl,Dn.now (Q:=Q) h1 rl1 (.da (.int _))⟩
 ·exact h1.elim
end PF
namespace PF
open PySem PySem.Spec
open L2
variable[XW]
noncomputable def aee(s:S):D -> Option (List D)
 |.lst ds=> some (ds.map D.da)
 |.tup ds=> some (ds.map D.da)
 |.con ds=> some (ds.map D.da)
 |.frz ds=> some (ds.map D.da)
 |.ref n=> match s[n]? with
  |some (.lst ds)=> some ds
  |_=> none
 |_=> none
theorem ad8{ds:List D}(rl:Rel K as H s)(r:RD K as H v d)(h:aee s d=some ds): ∃p xs,v=.ref p/\(SqL K H p xs\/SqT K H p xs)/\RDs K as H xs ds:=by
 cases r with
 |da t=>
  cases t with
  |lst n e q=> cases h;exact⟨_,_,rfl,.inl (SqL.of e),q.rd⟩
  |tup n e q=> cases h;exact⟨_,_,rfl,.inr (SqT.of e),q.rd⟩
  |_=> cases h
 |con q r=> cases h;exact⟨_,_,rfl,.inr (q H),r.rd⟩
 |frz q r=> cases h;exact⟨_,_,rfl,.inl (q as H (Step.refl _ _).toStep0),r.rd⟩
 | @ref p n l hr=>
  have h:(match s[n]? with|some (O.lst ds)=> some ds|_=> none)=some ds:=h
  split at h
  ·rename_i ys e
   cases h
   obtain⟨_,xs,hx,rs⟩:=zc rl hr e
   exact⟨p,xs,rfl,.inl (SqL.of hx),rs⟩
  ·cases h
 |_=> cases h
theorem RDs.atI{xs:List V}{ds:List D}(r:RDs K as H xs ds)(h:atI ds i=some d): ∃v,atI xs i=some v/\RD K as H v d:=by
 unfold L2.atI at h⊢
 rw [r.length]
 cases q:ixN ds.length i with
 |none=> rw [q]at h;cases h
 |some j=>
  rw [q]at h
  obtain⟨v,hv,rv⟩:=r.get (show ds[j]?=some d from h)
  exact⟨v,hv,rv⟩
def gIx(dx dy:D)(s:S):R D:=match dx,dy with
 | .str z,.int i=> if z.length <=sizeLine then match atI z.cps.toList i with
   |some c=>.ok (.str ⟨#[c]⟩) s
   |none=>.bad
  else .bad
 | dx,.int i=> match aee s dx with
  |some ds=> match atI ds i with
   |some d=>.ok d s
   |none=>.bad
  |none=>.bad
 |_,_=>.bad
theorem a2u:avq K (rIx K) gIx:=by
 intro as H s x y dx dy Q rl r1 r2 h
 unfold gIx at h
 split at h
 ·rename_i z i
  cases r1.str_inv;cases r2.int_inv
  split at h
  ·rename_i hz
   split at h
   ·rename_i c e
    exact .inr (.inr ⟨z,i,c,rfl,rfl,hz,e,Dn.now (Q:=Q) h rl (.da (.str _))⟩)
   ·exact h.elim
  ·exact h.elim
 ·rename_i i _
  cases r2.int_inv
  split at h
  ·rename_i ds e
   split at h
   ·rename_i d e2
    obtain⟨p,xs,rfl,sq,rs⟩:=ad8 rl r1 e
    obtain⟨v,hv,rv⟩:=rs.atI e2
    rcases sq with sq|sq
    ·exact .inl ⟨p,xs,i,v,rfl,rfl,sq,hv,Dn.now (Q:=Q) h rl rv⟩
    ·exact .inr (.inl ⟨p,xs,i,v,rfl,rfl,sq,hv,Dn.now (Q:=Q) h rl rv⟩)
   ·exact h.elim
  ·exact h.elim
 ·exact h.elim
theorem kx{a b:Expr}{fa fb:FE}(ha:RE X a fa)(hb:RE X b fb)(hs:ao1 b:=by exact fun _ _=> rfl):RE X (.Subscript a b pos) (fOp gIx fa fb):=by
 obtain⟨ta,pa,ra⟩:=ha.ex
 obtain⟨tb,pb,rb⟩:=hb.ex
 exact⟨_,a49 a1v pa pb hs,aho a2u ra rb⟩
def j6{α:Type}(xs:List α)(lo hi:Option Int):List α:=(xs.drop (HT.sIx xs.length 0 lo)).take (HT.sIx xs.length xs.length hi - HT.sIx xs.length 0 lo)
theorem RDs.cut{xs:List V}{ds:List D}(r:RDs K as H xs ds)(lo hi:Option Int):RDs K as H (aa0 xs lo hi) (j6 ds lo hi):=by
 unfold aa0 j6
 rw [r.length]
 exact (r.drop _).take _
theorem TDs.cut{xs:List V}(r:TDs as H xs ds)(lo hi:Option Int):TDs as H (aa0 xs lo hi) (j6 ds lo hi):=by
 unfold aa0 j6
 rw [r.length]
 exact (r.drop _).take _
noncomputable def aut(z:Str)(lo hi:Option Int):Str:=if ((fJ lo hi 1 z.length).length==z.length)=true then z else ⟨((fJ lo hi 1 z.length).filterMap (z.cps[·]?)).toArray⟩
def a65:V -> Option Int -> Option Int -> Hp -> VK -> Prop:=fun x lo hi H Q=> ∃z,x=.str z/\z.length <=sizeLine/\Q (.str (aut z lo hi)) H
theorem axz:SlR X a65:=by
 intro pins s σ H x v vl vu lo hi sl Q I rx hs pl pu h
 obtain⟨z,rfl,hz,q⟩:=h
 obtain⟨t,rfl⟩:=rx
 obtain⟨l,rfl,el⟩:=part_of pl
 obtain⟨u,rfl,eu⟩:=part_of pu
 refine⟨"str",_,PySem.F.slot_str_getitem.lookup,rfl,?_⟩
 have hs':s.heap.IsSlice sl l u none:=by
  obtain⟨o,ho,hc,hd⟩:=hs
  exact⟨o,ho,hc,hd⟩
 refine wpAny_getItem_str_slice hs' rfl ?_
 have ep:gT z l u none=fJ lo hi 1 z.length:=by
  unfold gT
  rw [el,eu];rfl
 have hlen:(gT z l u none).length <=z.length:=sliceIndices_le _ _ _
 have hfl:((gT z l u none).filterMap (z.cps[·]?)).length <=z.length:=bb (List.length_filterMap_le _ _) hlen
 unfold aut at q
 rw [←ep]at q
 unfold sliceMade
 split
 ·rename_i c
  rw [if_pos (by simpa using c)]at q
  exact⟨.str z,H,I,⟨t,rfl⟩,q⟩
 ·rename_i c
  rw [if_neg (by simpa using c)]at q
  have len:(⟨((gT z l u none).filterMap (z.cps[·]?)).toArray⟩:Str).length <=z.length:=by
   show (((gT z l u none).filterMap (z.cps[·]?)).toArray).size <=z.length
   rw [aC];exact hfl
  exact⟨bb len hz,.str _,H,I.tok _,⟨_,rfl⟩,q⟩
def gSl(m:Bool)(d:D)(lo hi:Option Int)(s:S):R D:=match d with
 |.str z=> if z.length <=sizeLine then .ok (.str (aut z lo hi)) s else .bad
 |.tup ds=>.ok (.tup (j6 ds lo hi)) s
 |.frz ds=> kj m (j6 (ds.map D.da) lo hi) s
 |d=> match toL s d with
  |some ds=> kj m (j6 ds lo hi) s
  |none=>.bad
abbrev FO:=En -> S -> R (Option Int)
noncomputable def fNo:FO:=fun _ s=>.ok none s
def vo(f:FE):FO:=fun ρ s=> (f ρ s).bind fun d s1=> match d with
 |.int i=>.ok (some i) s1
 |_=>.bad
def a5w(K:aj)(t:TO)(f:FO):Prop:= ∀as σ H ρ s Q,Rel K as H s -> Envs K as H ρ σ -> Dn K (fun _ _ (b a:Option Int)=> b=a) as H (f ρ s) Q -> t σ H Q
structure ROp (X:Cx) (e:Option Expr) (f:FO):Prop where
 ex: ∃t,PO X e t/\a5w X.K t f
theorem yu:ROp X none fNo:=⟨_,a0y,fun as σ H ρ s Q rl en h=> Dn.now (Q:=Q) h rl rfl⟩
theorem yv{a:Expr}{fa:FE}(h:RE X a fa):ROp X (some a) (vo fa):=by
 obtain⟨t,p,r⟩:=h.ex
 refine⟨_,a0c p,fun as σ H ρ s Q rl en h=> ?_⟩
 refine r as σ H ρ s _ rl en (Dn.bind h fun d s1 as1 H1 v st1 rl1 r1 h1=> ?_)
 split at h1
 ·cases r1.int_inv
  exact⟨_,rfl,Dn.now (Q:=Q) h1 rl1 rfl⟩
 ·exact h1.elim
def fSl(m:Bool)(f:FE)(lo hi:FO):FE:=fun ρ s=> (f ρ s).bind fun d s1=> (lo ρ s1).bind fun l s2=> (hi ρ s2).bind fun u s3=> gSl m d l u s3
theorem xo(m:Bool){a:Expr}{lo hi:Option Expr}{fa:FE}{fl fu:FO}{p2:Pos}(ha:RE X a fa)(hl:ROp X lo fl)(hu:ROp X hi fu):RE X (.Subscript a (.Slice lo hi none p2) pos) (fSl m fa fl fu):=by
 obtain⟨ta,pa,ra⟩:=ha.ex
 obtain⟨tl,pl,rl'⟩:=hl.ex
 obtain⟨tu,pu,ru⟩:=hu.ex
 refine⟨_,awl (axz.or (ayu.or avg)) pa pl pu,fun as σ H ρ s Q rl en h=> ?_⟩
 refine ra as σ H ρ s _ rl en (Dn.bind h fun d s1 as1 H1 v st1 rl1 r1 h1=> ?_)
 refine rl' as1 σ H1 ρ s1 _ rl1 (en.mono st1) (Dn.bind h1 fun l s2 as2 H2 l' st2 rl2 e2 h2=> ?_)
 have e2:l'=l:=e2
 subst e2
 refine ru as2 σ H2 ρ s2 _ rl2 ((en.mono st1).mono st2) (Dn.bind h2 fun u s3 as3 H3 u' st3 rl3 e3 h3=> ?_)
 have e3:u'=u:=e3
 subst e3
 have r1:=(r1.mono st2).mono st3
 unfold gSl at h3
 split at h3
 ·cases r1.str_inv
  split at h3
  ·rename_i hz
   exact .inl ⟨_,rfl,hz,Dn.now (Q:=Q) h3 rl3 (.da (.str _))⟩
  ·exact h3.elim
 ·obtain⟨p,xs,rfl,n,e,t⟩:=r1.tup_inv
  refine .inr (.inl ⟨p,xs,rfl,SqT.of e,fun c=> ?_,fun q H' nw=> ?_⟩)
  ·have t2:=t.cut l' u'
   rw [c]at t2
   exact Dn.now (Q:=Q) h3 rl3 (.da (.tup n e t2))
  ·exact h3 (.ref q) as3 H' (k8 nw) (rl3.new nw) (.da (.tup (fun z=> rl3.has z nw.no) nw.at ((t.cut l' u').mono (k8 nw))))
 ·cases r1 with
  |frz q t=> exact .inr (.inr ⟨_,_,rfl,q as3 H3 (Step.refl _ _).toStep0,fun r H' nw=> zl h3 rl3 (t.rd.cut l' u') nw⟩)
 ·split at h3
  ·rename_i ds e
   obtain⟨p,xs,rfl,hx,rs⟩:=ada rl3 r1 e
   exact .inr (.inr ⟨p,xs,rfl,SqL.of hx,fun r H' nw=> zl h3 rl3 (rs.cut l' u') nw⟩)
  ·exact h3.elim
def al3(d:D)(s:S):R Bool:=match d with
 |.non=>.ok false s
 |.bl b=>.ok b s
 |.int i=>.ok (i !=0) s
 |.str z=> if z.length <=sizeLine then .ok ((z.length:Int) !=0) s else .bad
 |d=> match aee s d with
  |some ds=>.ok (!ds.isEmpty) s
  |none=>.bad
def agi(f:FE):FT:=fun ρ s=> (f ρ s).bind al3
theorem RDs.empty{xs:List V}{ds:List D}(r:RDs K as H xs ds):xs.isEmpty=ds.isEmpty:=by cases r <;> rfl
theorem ams{a:Expr}{fa:FE}(h:RE X a fa)(he: ∀whole,isTrue a X.env whole=(do let v←whole;standAt a.pos;holding [v] (truthy v)):=by exact fun _=> rfl):RT X a (agi fa):=by
 obtain⟨t,p,r⟩:=h.ex
 refine⟨_,av5 p he,fun as σ H ρ s Q rl en h=> ?_⟩
 refine r as σ H ρ s _ rl en (Dn.bind h fun d s1 as1 H1 v st1 rl1 r1 h1=> ?_)
 unfold al3 at h1
 split at h1
 ·cases r1.non_inv;exact⟨false,rfl,Dn.now (Q:=Q) h1 rl1 rfl⟩
 ·cases r1.bl_inv;exact⟨_,rfl,Dn.now (Q:=Q) h1 rl1 rfl⟩
 ·cases r1.int_inv;exact⟨_,rfl,Dn.now (Q:=Q) h1 rl1 rfl⟩
 ·cases r1.str_inv
  split at h1
  ·rename_i hz
   exact⟨_,⟨hz,rfl⟩,Dn.now (Q:=Q) h1 rl1 rfl⟩
  ·exact h1.elim
 ·split at h1
  ·rename_i ds e
   obtain⟨p,xs,rfl,sq,rs⟩:=ad8 rl1 r1 e
   refine⟨!xs.isEmpty,?_,?_⟩
   ·rcases sq with sq|sq
    ·exact .inl ⟨xs,sq,rfl⟩
    ·exact .inr (.inl ⟨xs,sq,rfl⟩)
   ·rw [rs.empty];exact Dn.now (Q:=Q) h1 rl1 rfl
  ·exact h1.elim
structure CB (X:Cx) (f:ae) (g:FF):Prop where
 ex: ∃r,xv X f r/\ ∀as H s xs ds Q,Rel X.K as H s -> RDs X.K as H xs ds -> Dn X.K (rD X.K) as H (g ds s) Q -> r xs H Q
theorem aec{f:ae}{g:FF}(h: ∀(pins:List (Addr×Obj)) (sh:ag) (σ:St) (H:Hp) (as:As) (s:S) (xs:List V) (ds:List D) (us:List ae) (Q:VK),Inv X pins σ H sh -> Rel X.K as H s -> RDs X.K as H xs ds -> jj xs us ->
  Dn X.K (rD X.K) as H (g ds s) Q -> wpAny (model X.prog X.w) X.A (call f us) (EP X pins σ Q) X.xe sh):CB X f g:=
 ⟨fun xs H Q=> ∃as s ds,Rel X.K as H s/\RDs X.K as H xs ds/\Dn X.K (rD X.K) as H (g ds s) Q,fun pins sh σ H xs us Q I r ⟨as,s,ds,rl,rs,q⟩=> h pins sh σ H as s xs ds us Q I rl rs r q,fun as H s xs ds Q rl rs q=> ⟨as,s,ds,rl,rs,q⟩⟩
def fCB(g:FF)(f:FA):FE:=fun ρ s=> (f ρ s).bind g
section
variable{x:Str}{id:String}{g:FF}{f:FA}{e:Expr}{es:List Expr}{p pos:Pos}
theorem ata{r:List V -> Hp -> VK -> Prop}{t:TA}(hr: ∀as H s xs ds Q,Rel K as H s -> RDs K as H xs ds -> Dn K (rD K) as H (g ds s) Q -> r xs H Q)(h:apu K t f):ab0 K (tCB r t) (fCB g f):=by
 intro as σ H ρ s Q rl en q
 exact h as σ H ρ s _ rl en (Dn.bind q fun ds s1 as1 H1 vs st1 rl1 r1 h1=> hr as1 H1 s1 vs ds Q rl1 r1 h1)
theorem vf(c:CB X (.builtin id) g)(hm:X.mg x=none)(hv:bT x=some (.builtin id))(ha:RA X (e::es) f)(hg:Gl X x:=by rfl)(hn:x≠"__name__":=by decide)(hdb:(x==("__debug__":Str))=false:=by decide)
  (hs:starEach (e::es) X.env=(false,eval e X.env)::starEach es X.env:=by rfl) (hpl:(backTo pos (starEach es X.env)).any (·.1)=false:=by rfl):RE X (.Call (.Name x p) (e::es) [] pos) (fCB g f):=by
 obtain⟨r,hc,hr⟩:=c.ex
 obtain⟨t,pa,ra⟩:=ha.ex
 exact⟨_,agz hc hg hm hv pa hn hdb hs hpl,ata hr ra⟩
theorem ads(c:CB X (.type id) g)(hm:X.mg x=none)(hv:bT x=some (.type id))(ha:RA X (e::es) f)(hg:Gl X x:=by rfl)(hn:x≠"__name__":=by decide)(hdb:(x==("__debug__":Str))=false:=by decide)
  (hs:starEach (e::es) X.env=(false,eval e X.env)::starEach es X.env:=by rfl) (hpl:(backTo pos (starEach es X.env)).any (·.1)=false:=by rfl):RE X (.Call (.Name x p) (e::es) [] pos) (fCB g f):=by
 obtain⟨r,hc,hr⟩:=c.ex
 obtain⟨t,pa,ra⟩:=ha.ex
 exact⟨_,ak2 hc hg hm hv pa hn hdb hs hpl,ata hr ra⟩
end
def abi(ds:List D)(s:S):R D:=match ds with
 |[.str z]=> if z.length <=sizeLine then .ok (.int z.length) s else .bad
 |[d]=> match aee s d with
  |some xs=>.ok (.int xs.length) s
  |none=>.bad
 |_=>.bad
theorem ai2:CB X (.builtin "len") abi:=aec fun pins sh σ H as s xs ds us Q I rl rs ru h=> by
 unfold abi at h
 split at h
 ·obtain⟨v,rfl,rv⟩:=rs.one
  cases rv.str_inv
  split at h
  ·rename_i hz
   exact alr pins sh σ H _ us Q I ru ⟨_,rfl,hz,Dn.now (Q:=Q) h rl (.da (.int _))⟩
  ·exact h.elim
 ·obtain⟨v,rfl,rv⟩:=rs.one
  split at h
  ·rename_i ys e
   obtain⟨p,zs,rfl,sq,rz⟩:=ad8 rl rv e
   refine alp pins sh σ H _ us Q I ru ⟨p,zs,rfl,sq,?_⟩
   rw [rz.length]
   exact Dn.now (Q:=Q) h rl (.da (.int _))
  ·exact h.elim
 ·exact h.elim
def ah4(m:Bool)(ds:List D)(s:S):R D:=match ds with
 |[d]=> match aee s d with
  |some xs=> kj m xs s
  |none=>.bad
 |_=>.bad
theorem aqu(m:Bool):CB X (.type "list") (ah4 m):=aec fun pins sh σ H as s xs ds us Q I rl rs ru h=> by
 unfold ah4 at h
 split at h
 ·obtain⟨v,rfl,rv⟩:=rs.one
  split at h
  ·rename_i ys e
   obtain⟨p,zs,rfl,sq,rz⟩:=ad8 rl rv e
   exact aqr pins sh σ H _ us Q I ru ⟨p,zs,rfl,sq,fun r H' nw=> zl h rl rz nw⟩
  ·exact h.elim
 ·exact h.elim
def zg(ds:List D)(s:S):R D:=match ds with
 |[.tup xs]=>.ok (.tup xs) s
 |[.frz xs]=>.ok (.tup xs) s
 |[d]=> match toL s d with
  |some xs=> amw xs s
  |none=>.bad
 |_=>.bad
theorem abr:CB X (.type "tuple") zg:=aec fun pins sh σ H as s xs ds us Q I rl rs ru h=> by
 unfold zg at h
 split at h
 ·obtain⟨v,rfl,rv⟩:=rs.one
  obtain⟨p,zs,rfl,n,e,t⟩:=rv.tup_inv
  exact ad3 pins sh σ H _ us Q I ru ⟨p,zs,rfl,.inr ⟨SqT.of e,Dn.now (Q:=Q) h rl (.da (.tup n e t))⟩⟩
 ·obtain⟨v,rfl,rv⟩:=rs.one
  cases rv with
  |frz q t=> exact ad3 pins sh σ H _ us Q I ru ⟨_,_,rfl,.inl ⟨q as H (Step.refl _ _).toStep0,fun r H' nw=> h (.ref r) as H' (k8 nw) (rl.new nw) (.da (.tup (fun z=> rl.has z nw.no) nw.at (t.mono (k8 nw))))⟩⟩
 ·obtain⟨v,rfl,rv⟩:=rs.one
  split at h
  ·rename_i ys e
   obtain⟨p,zs,rfl,hx,rz⟩:=ada rl rv e
   exact ad3 pins sh σ H _ us Q I ru ⟨p,zs,rfl,.inl ⟨SqL.of hx,fun r H' nw=> aox h rl rz nw⟩⟩
  ·exact h.elim
 ·exact h.elim
def amo (ds:List D) (s:S):R D:=match ds with
 | [d,.ty n]=> if n="str"\/n="int"\/n="bool"\/n="tuple"\/n="list" then match d with
   |.da d=>.ok (.bl (a2e d n)) s
   |.ref k=> match s[k]? with
    |some (.lst _)=>.ok (.bl (n=="list")) s
    |_=>.bad
   |_=>.bad
  else .bad
 |_=>.bad
theorem TD.ty{d:ac}(t:TD as H v d):TyOf K H v (.type (tyD d)):=by
 cases t with
 |non=> exact .non
 |bl b=> exact .bl b
 |int i=> exact .int i
 |str x=> exact .str x
 |tup n e w=> exact .tup e
 |lst n e w=> exact .lst e
 |dct n e=> exact .dK e
 |dc1 n e q=> exact .dK e
theorem a42:CB X (.builtin "isinstance") amo:=aec fun pins sh σ H as s xs ds us Q I rl rs ru h=> by
 unfold amo at h
 split at h
 ·rename_i d n
  obtain⟨v,w,rfl,rv,rw⟩:=rs.two
  obtain⟨u,u2,rfl,ru1,ru2⟩:=vals2 ru
  cases rw
  cases (show u2=bu n from ru2)
  split at h
  ·rename_i hn
   split at h
   ·rename_i d
    cases rv with
    |da t=> exact ak7 I ru1 t.ty (aqy X.K d n hn) fun tk=> ⟨.bl _,H,I.tok _,rfl,Dn.now (Q:=Q) h rl (.da (.bl _))⟩
   ·rename_i k
    split at h
    ·rename_i ys e
     cases rv with
     |ref l hr=>
      obtain⟨_,zs,hz,_⟩:=zc rl hr e
      exact ak7 I ru1 (.lst hz) (aqy X.K (.list []) n hn) fun tk=> ⟨.bl _,H,I.tok _,rfl,Dn.now (Q:=Q) h rl (.da (.bl _))⟩
    ·exact h.elim
   ·exact h.elim
  ·exact h.elim
 ·exact h.elim
noncomputable def okS(d:ac):Bool:=d.canLay0&&d.showable&&decide (d.depth <=64)&&decide (d.shown.length <=sizeLine)
def kn(ds:List D)(s:S):R D:=match ds with
 |[d]=> match toP s d with
  |some a=> if okS a=true then .ok (.str a.shown) s else .bad
  |none=>.bad
 |_=>.bad
theorem yp{k:Nat}(hr:Room k X.A):CB X (.builtin "repr") kn:=aec fun pins sh σ H as s xs ds us Q I rl rs ru h=> by
 unfold kn at h
 split at h
 ·obtain⟨v,rfl,rv⟩:=rs.one
  obtain⟨u,rfl,ru1⟩:=vals1 ru
  split at h
  ·rename_i a e
   split at h
   ·rename_i ok
    unfold okS at ok
    (simp only [aB,decide_eq_true_eq]at ok)
    obtain⟨⟨⟨ok1,ok2⟩,ok3⟩,ok4⟩:=ok
    have hun:=hr.un
    obtain⟨bs,q⟩:=rv.reads I rl e ru1
    have fin:Q (.str a.shown) H:=Dn.now (Q:=Q) h rl (.da (.str _))
    have nd:=PyData.hasDict_of_canLay a ok1
    cases q with
    |none=> exact PySem.P.repr_of_none ⟨.str "None",H,I.tok _,⟨_,rfl⟩,fin⟩
    |bool b=> exact PySem.P.repr_of_bool ⟨.str (if b then "True" else "False"),H,I.tok _,⟨_,rfl⟩,fin⟩
    |int i t=> exact PySem.P.repr_of_int (by simpa [ii] using ok2) ⟨.str (toString i),H,I.tok _,⟨_,rfl⟩,fin⟩
    |str x t=> exact PySem.P.repr_of_str ⟨.str (reprText x),H,I.tok _,⟨_,rfl⟩,fin⟩ (by simpa [gn] using ok4)
    |tuple k1 k2 k3 k4=> exact repr_of_reads' (.tuple k1 k2 k3 k4) ok2 (fun z=> by rw [nd]at z;cases z) hr.gd (by lia) (fun _ _ e=> e) (fun h' u tk hk=> ⟨.str _,H,I.kept hk,⟨u,rfl⟩,fin⟩) ok4
    |list k1 k2 k3 k4=> exact repr_of_reads' (.list k1 k2 k3 k4) ok2 (fun z=> by rw [nd]at z;cases z) hr.gd (by lia) (fun _ _ e=> e) (fun h' u tk hk=> ⟨.str _,H,I.kept hk,⟨u,rfl⟩,fin⟩) ok4
    |dict=> cases ok1
   ·exact h.elim
  ·exact h.elim
 ·exact h.elim
end PF
namespace PF
open PySem PySem.Spec
open L2
variable[XW]
abbrev GM:=D -> List D -> S -> R D
def fMt(g:GM)(fo:FE)(fa:FA):FE:=fun ρ s=> (fo ρ s).bind fun d s1=> if (toL s1 d).isSome=true then (fa ρ s1).bind fun ds s2=> g d ds s2 else .bad
structure MB (X:Cx) (id:String) (g:GM):Prop where
 ex: ∃r,MtR X id r/\ ∀as H s x xs d ds Q,Rel X.K as H s -> RD X.K as H x d -> RDs X.K as H xs ds -> Dn X.K (rD X.K) as H (g d ds s) Q -> r x xs H Q
theorem ayz(rl:Rel K as H s)(r:RD K as H v d)(h:(toL s d).isSome=true):tyV K "list" v H:=by
 cases e:toL s d with
 |none=> rw [e]at h;cases h
 |some ds=>
  obtain⟨p,xs,rfl,hx,_⟩:=ada rl r e
  exact .inl ⟨rfl,xs,SqL.of hx⟩
theorem ag2{name:Str}{id:String}{g:GM}{apos cpos:Pos}(slot:Slot "list" name id)(hty:typeOf (.builtin id)=pure (.type "method_descriptor"))(hm:MB X id g)(ho:RE X o fo)(ha:RA X (e::es) fa)(hbase:dZ o name X.env (eval o X.env)=eval o X.env:=by rfl)(hfew:((backTo cpos (starEach (e::es) X.env)).all (fun x=> !x.1)&&(backToKw cpos (fX [] X.env)).all (fun x=> x.1.isSome)
   &&decide ((e::es).length+([]:List gz).length+(if ([]:List gz).isEmpty then 0 else 1) < 30))=true:=by rfl) (hline:(apos.endLine==cpos.line)=true:=by rfl) (hs:starEach (e::es) X.env=(false,eval e X.env)::starEach es X.env:=by rfl) (hplain:(backTo cpos (starEach es X.env)).any (·.1)=false:=by rfl):
  RE X (.Call (.Attribute o name apos) (e::es) [] cpos) (fMt g fo fa):=by
 obtain⟨r,hr,hg⟩:=hm.ex
 obtain⟨to,po,ro⟩:=ho.ex
 obtain⟨ta,pa,ra⟩:=ha.ex
 refine⟨_,a4j PySem.F.plainAttrs_list slot hty hr po pa hbase hfew hline hs hplain,fun as σ H ρ s Q rl en h=> ?_⟩
 refine ro as σ H ρ s _ rl en (Dn.bind h fun d s1 as1 H1 v st1 rl1 r1 h1=> ?_)
 split at h1
 ·rename_i hl
  refine⟨ayz rl1 r1 hl,ra as1 σ H1 ρ s1 _ rl1 (en.mono st1) (Dn.bind h1 fun ds s2 as2 H2 vs st2 rl2 r2 h2=> ?_)⟩
  exact hg as2 H2 s2 v vs d ds Q rl2 (r1.mono st2) r2 h2
 ·exact h1.elim
theorem af6{o:HO}{H':Hp}{ys:List V}{es:List D}{Q:VK}(rl:Rel K as H s)(ha:as.ix[n]?=some (some p))(c:Chg H p (.lst ys) H')(rs:RDs K as H ys es)(rv:RD K as H v d)(h:Dn K (rD K) as H (.ok d (s.set n (.lst es))) Q):Q v H':=by
 have st:=z8 (kc.mpr ⟨n,ha⟩) (fun z=> rl.hx p z (kc.mpr ⟨n,ha⟩)) c
 exact h v as H' st (rl.chg ha c ⟨ys,c.at,rs.mono st⟩) (rv.mono st)
noncomputable def onL(d:D)(s:S)(k:Nat -> List D -> R D):R D:=match d with
 |.ref n=> match s[n]? with
  |some (.lst ds)=> k n ds
  |_=>.bad
 |_=>.bad
theorem aeu{k:Nat -> List D -> R D}{Q:VK}(rl:Rel K as H s)(r:RD K as H v d)(h:Dn K (rD K) as H (onL d s k) Q): ∃p n xs ds,v=.ref p/\as.ix[n]?=some (some p)/\H p=some (.lst xs)/\RDs K as H xs ds/\Dn K (rD K) as H (k n ds) Q:=by
 cases r with
 | @ref p n l hr=>
  have h:Dn K (rD K) as H (match s[n]? with|some (O.lst ds)=> k n ds|_=>.bad) Q:=h
  split at h
  ·rename_i ds e
   obtain⟨ha,xs,hx,rs⟩:=zc rl hr e
   exact⟨p,n,xs,ds,rfl,ha,hx,rs,h⟩
  ·exact h.elim
 |_=> exact h.elim
def vx:GM:=fun d ds s=> match ds with
 |[x]=> onL d s fun n xs=> if xs.length < sizeLine then .ok .non (s.set n (.lst (xs++ [x]))) else .bad
 |_=>.bad
theorem acg:MB X "list.append" vx:=⟨_,aqa,fun as H s x xs d ds Q rl r rs h=> by
 unfold vx at h
 split at h
 ·obtain⟨v,rfl,rv⟩:=rs.one
  obtain⟨p,n,ys,es,rfl,ha,hy,re,h⟩:=aeu rl r h
  split at h
  ·rename_i hz
   exact⟨p,ys,v,rfl,rfl,hy,by rw [re.length];exact hz,fun H' c=> af6 (o:=.lst []) rl ha c (re.append (.cons rv .nil)) (.da .non) h⟩
  ·exact h.elim
 ·exact h.elim⟩
def aao:GM:=fun d ds s=> match ds with
 |[.tup ys]=> onL d s fun n xs=> if xs.length+ys.length <=sizeLine then .ok .non (s.set n (.lst (xs++ys.map D.da))) else .bad
 |[e]=> match toL s e with
  |some ys=> onL d s fun n xs=> if xs.length+ys.length <=sizeLine then .ok .non (s.set n (.lst (xs++ys))) else .bad
  |none=>.bad
 |_=>.bad
theorem a4d{id:String}{r r':V -> List V -> Hp -> VK -> Prop}(h:MtM X id r)(h':MtM X id r'):MtR X id (fun x xs H Q=> r x xs H Q\/r' x xs H Q):=MtR.or h h'
theorem awg:MB X "list.extend" aao:=⟨_,a4d apq anf,fun as H s x xs d ds Q rl r rs h=> by
 unfold aao at h
 split at h
 ·obtain⟨v,rfl,rv⟩:=rs.one
  obtain⟨p,n,ys,es,rfl,ha,hy,re,h⟩:=aeu rl r h
  split at h
  ·rename_i hz
   obtain⟨q,zs,rfl,_,e,t⟩:=rv.tup_inv
   exact .inr ⟨p,q,ys,zs,rfl,rfl,hy,SqT.of e,by rw [re.length,t.length];exact hz,fun H' c=> af6 (o:=.lst []) rl ha c (re.append t.rd) (.da .non) h⟩
  ·exact h.elim
 ·obtain⟨v,rfl,rv⟩:=rs.one
  split at h
  ·rename_i zs e
   obtain⟨q,ws,rfl,hq,rz⟩:=ada rl rv e
   obtain⟨p,n,ys,es,rfl,ha,hy,re,h⟩:=aeu rl r h
   split at h
   ·rename_i hz
    exact .inl ⟨p,q,ys,ws,rfl,rfl,hy,hq,by rw [re.length,rz.length];exact hz,fun H' c=> af6 (o:=.lst []) rl ha c (re.append rz) (.da .non) h⟩
   ·exact h.elim
  ·exact h.elim
 ·exact h.elim⟩
def z7(o i v:D)(s:S):R D:=match i with
 |.int k=> onL o s fun n xs=> match ixN xs.length k with
  |some j=>.ok .non (s.set n (.lst (xs.set j v)))
  |none=>.bad
 |_=>.bad
def afd(fv fo fi:FE):FS:=fun ρ s=> (fv ρ s).bind fun v s1=> (fo ρ s1).bind fun o s2=> (fi ρ s2).bind fun i s3=> (z7 o i v s3).bind fun _ s4=>.ok (.nx ρ) s4
theorem alm{i:Expr}{fv:FE}{pos':Pos}(he:RE X e fv)(ho:RE X o fo)(hi:RE X i fi)(ha: ∀v,assign (.Subscript o i pos') X.env v=(do
   let ov←holding [v] (eval o X.env)
   let iv←holding [v,ov] (eval i X.env)
   standAt pos'
   holding [v,ov,iv] (setItem ov iv v)
   release [v,ov,iv] []):=by intro _;rfl) (hs:mG [.Subscript o i pos'] e pos.line X.env=pure false:=by rfl) (hw:mH [.Subscript o i pos'] e X.env=pure none:=by rfl) (h1:(bz [.Subscript o i pos'] X.env).map (·.2)=[assign (.Subscript o i pos') X.env]:=by rfl):RS X (.Assign [.Subscript o i pos'] e pos) (afd fv fo fi):=by
 obtain⟨te,pe,re⟩:=he.ex
 obtain⟨to,po,ro⟩:=ho.ex
 obtain⟨ti,pi,ri⟩:=hi.ex
 refine⟨_,at1 pe (arf po pi ajl ha) hs hw h1,fun as σ H ρ s D rl en h=> ?_⟩
 refine re as σ H ρ s _ rl en (Dn.bind h fun v s1 as1 H1 vv st1 rl1 r1 h1=> ?_)
 refine ro as1 σ H1 ρ s1 _ rl1 (en.mono st1) (Dn.bind h1 fun o s2 as2 H2 ov st2 rl2 r2 h2=> ?_)
 refine ri as2 σ H2 ρ s2 _ rl2 ((en.mono st1).mono st2) (Dn.bind h2 fun i s3 as3 H3 iv st3 rl3 r3 h3=> ?_)
 have en3:=((en.mono st1).mono st2).mono st3
 have h3:Dn X.K (rD X.K) as3 H3 (z7 o i v s3) (fun _ H'=> D.nx σ H'):=Dn.bind h3 fun d s4 as4 H4 vv st4 rl4 r4 h4=> Dn.now (b:=FV.nx σ) h4 rl4 (.nx (en3.mono st4))
 unfold z7 at h3
 split at h3
 ·cases r3.int_inv
  obtain⟨p,n,xs,ds,rfl,ha,hx,rs,h3⟩:=aeu rl3 (r2.mono st3) h3
  split at h3
  ·rename_i j e
   refine⟨p,xs,_,j,rfl,rfl,hx,by rw [rs.length];exact e,fun H' c=> ?_⟩
   exact af6 (v:=.non) (o:=.lst []) rl3 ha c (rs.set j ((r1.mono st2).mono st3)) (.da .non) h3
  ·exact h3.elim
 ·exact h3.elim
end PF
namespace PF
open PySem PySem.Spec
open L2
variable[XW]
theorem u64{k:Nat}(hr:Room k A):A.units+64 < cLine:=by have:=hr.un;lia
theorem u65{k:Nat}(hr:Room k A):A.units+65 < cLine:=by have:=hr.un;lia
end PF
namespace PF
open PySem PySem.Spec
open L2
def R.Wk{α β:Type}(f:α -> S -> R β)(Q:β -> S -> Prop)(a:α)(s:S):Prop:=(f a s).W Q
theorem R.W_bindk{α β:Type}(r:R α)(f:α -> S -> R β)(Q:β -> S -> Prop):(r.bind f).W Q=r.W (R.Wk f Q):=R.W_bind r f Q
@[simp] theorem R.Wk_app{α β:Type}(f:α -> S -> R β)(Q:β -> S -> Prop)(a:α)(s:S):R.Wk f Q a s=(f a s).W Q:=(rfl)
section
variable{s:S}{m:Bool}{n:Nat}{i j:Int}{x y:Str}{b:Bool}{xs ys:List ac}{ds es:List D}{d e:D}{ρ:En}{Q:D -> S -> Prop}
theorem qx:sizeLine=16777216:=b6
@[simp] theorem a5l:kg m (.int i) (.int j) s=.ok (.int (i+j)) s:=(rfl)
theorem aa2(h:xs.length+ys.length <=16777216):kg m (.tup xs) (.tup ys) s=.ok (.tup (xs++ys)) s:=if_pos (by rw [qx];exact h)
theorem ald(h:xs.length+ys.length <=16777216):kg false (.lst xs) (.lst ys) s=.ok (.lst (xs++ys)) s:=by
 show (if (xs.map D.da).length+(ys.map D.da).length <=sizeLine then kj false (xs.map D.da++ys.map D.da) s else .bad)=_
 rw [if_pos (by rw [qx,am,am];exact h),←bS]
 show (match j8 _ with|some xs=> R.ok (D.lst xs) s|none=>.bad)=_
 rw [vg]
theorem yj(h:(-(2^64) < i/\i < 2^64)\/(-(2^64) < j/\j < 2^64)):zt (.int i) (.int j) s=.ok (.int (i*j)) s:=if_pos h
theorem ac4(h:0 < j)(h2:j < 1073741824):aik (.int i) (.int j) s=.ok (.int (i/j)) s:=if_pos ⟨h,h2⟩
theorem yf(h:0 < j):aad (.int i) (.int j) s=.ok (.int (i % j)) s:=if_pos h
theorem avo(h:0 <=j)(h1:j <=1000000)(h2:i.natAbs < 2^64):api (.int i) (.int j) s=.ok (.int (i^j.toNat)) s:=if_pos ⟨h,h1,h2⟩
@[simp] theorem a76:gLt (.int i) (.int j) s=.ok (.bl (decide (i < j))) s:=(rfl)
@[simp] theorem a6o:gGt (.int i) (.int j) s=.ok (.bl (decide (j < i))) s:=(rfl)
@[simp] theorem a6u:gGe (.int i) (.int j) s=.ok (.bl (decide (j <=i))) s:=(rfl)
@[simp] theorem a6q:gIs d .non s=.ok (.bl (isN d)) s:=(rfl)
theorem amf(x y:Str):aU (.str x) (.str y)=decide (x=y):=by
 show (x==y)=_
 (rw [cc,beq_iff_eq,decide_eq_true_eq])
theorem ahs{p q:ac}(h1:okD p=true)(h2:okD q=true):gEq (.da p) (.da q) s=.ok (.bl (aU p q)) s:=by
 have e:ap4 (.da p) (.da q) s=.ok (.bl (aU p q)) s:=if_pos ⟨h1,h2⟩
 cases p <;> cases q <;> first|exact e|(rw [amf];rfl)
theorem a1k{p q:ac}(h1:okD p=true)(h2:okD q=true):gNe (.da p) (.da q) s=.ok (.bl (!PyData.eqv p q)) s:=by
 have e:aps (.da p) (.da q) s=.ok (.bl (!PyData.eqv p q)) s:=if_pos ⟨h1,h2⟩
 cases p <;> cases q <;> first|exact e|(rw [amf];rfl)
theorem ayi{k:Nat}(h:s[n]?=some (.lst ds))(h2:ds[k]?=some d):gIx (.ref n) (.int (k:Int)) s=.ok d s:=by
 show (match (match s[n]? with|some (O.lst ds)=> some ds|_=> none) with|some ds=> (match atI ds (k:Int) with|some d=> R.ok d s|none=>.bad)|none=>.bad)=_
 rw [h]
 show (match atI ds (k:Int) with|some d=> R.ok d s|none=>.bad)=_
 rw [aip h2]
theorem ad5{k:Nat}{p:ac}(h2:xs[k]?=some p):gIx (.tup xs) (.int (k:Int)) s=.ok (.da p) s:=by
 show (match atI (xs.map D.da) (k:Int) with|some d=> R.ok d s|none=>.bad)=_
 rw [aip (v:=D.da p) (by rw [aR,h2];rfl)]
theorem afu{k:Nat}{p:ac}(h2:xs[k]?=some p):gIx (.lst xs) (.int (k:Int)) s=.ok (.da p) s:=by
 show (match atI (xs.map D.da) (k:Int) with|some d=> R.ok d s|none=>.bad)=_
 rw [aip (v:=D.da p) (by rw [aR,h2];rfl)]
theorem aw8{k:Nat}(h:s[n]?=some (.lst ds))(h2:k < ds.length):z7 (.ref n) (.int (k:Int)) d s=.ok .non (s.set n (.lst (ds.set k d))):=by
 show (match s[n]? with|some (O.lst xs)=> (match ixN xs.length (k:Int) with|some j=> R.ok D.non (s.set n (.lst (xs.set j d)))|none=>.bad)|_=>.bad)=_
 rw [h]
 have:ixN ds.length (k:Int)=some k:=by
  unfold ixN
  rw [if_pos (by lia),if_pos (by lia)]
  rfl
 show (match ixN ds.length (k:Int) with|some j=> R.ok D.non (s.set n (.lst (ds.set j d)))|none=>.bad)=_
 rw [this]
def a29(g:D -> D -> S -> R D)(fb:FE)(ρ:En)(x:D)(s:S):R D:=(fb ρ s).bind fun y s2=> g x y s2
noncomputable def a3x(g:D -> D -> S -> R D)(x y:D)(s:S):R D:=g x y s
@[simp] theorem a9c{g:D -> D -> S -> R D}{fa fb:FE}:fOp g fa fb ρ s=(fa ρ s).bind (a29 g fb ρ):=(rfl)
@[simp] theorem a8f{g:D -> D -> S -> R D}{fb:FE}:a29 g fb ρ d s=(fb ρ s).bind (a3x g d):=(rfl)
@[simp] theorem a8c{g:D -> D -> S -> R D}:a3x g d e s=g d e s:=(rfl)
@[simp] theorem e_c:fC d ρ s=.ok d s:=(rfl)
@[simp] theorem a7e{r:En}:jb 0 (some d::r) s=.ok d s:=(rfl)
@[simp] theorem a88{r:En}:jb 1 (x0::some d::r) s=.ok d s:=(rfl)
@[simp] theorem a7a{r:En}:jb 2 (x0::x1::some d::r) s=.ok d s:=(rfl)
@[simp] theorem a89{r:En}:jb 3 (x0::x1::x2::some d::r) s=.ok d s:=(rfl)
@[simp] theorem a7c{r:En}:jb 4 (x0::x1::x2::x3::some d::r) s=.ok d s:=(rfl)
@[simp] theorem a86{r:En}:jb 5 (x0::x1::x2::x3::x4::some d::r) s=.ok d s:=(rfl)
@[simp] theorem a82{r:En}{x5:Option D}:jb 6 (x0::x1::x2::x3::x4::x5::some d::r) s=.ok d s:=(rfl)
@[simp] theorem a7p{r:En}{x5 x6:Option D}:jb 7 (x0::x1::x2::x3::x4::x5::x6::some d::r) s=.ok d s:=(rfl)
@[simp] theorem a87{r:En}{x5 x6 x7:Option D}:jb 8 (x0::x1::x2::x3::x4::x5::x6::x7::some d::r) s=.ok d s:=(rfl)
@[simp] theorem a7o{r:En}{x5 x6 x7 x8:Option D}:jb 9 (x0::x1::x2::x3::x4::x5::x6::x7::x8::some d::r) s=.ok d s:=(rfl)
noncomputable def ap7(g:FS)(fl:Fl)(s:S):R Fl:=match fl with
 |.nx ρ1=> g ρ1 s
 |fl=>.ok fl s
@[simp] theorem a8o{f g:FS}:jl f g ρ s=(f ρ s).bind (ap7 g):=(rfl)
@[simp] theorem a80{g:FS}:ap7 g (.nx ρ) s=g ρ s:=(rfl)
@[simp] theorem a84{g:FS}:ap7 g (.rt d) s=.ok (.rt d) s:=(rfl)
noncomputable def a27(d:D)(s:S):R Fl:=.ok (.rt d) s
@[simp] theorem a90{f:FE}:kr f ρ s=(f ρ s).bind a27:=(rfl)
@[simp] theorem a7q:a27 d s=.ok (.rt d) s:=(rfl)
@[simp] theorem a7f:k7 ρ s=.ok (.nx ρ) s:=(rfl)
noncomputable def akp(ρ:En)(_:D)(s:S):R Fl:=.ok (.nx ρ) s
@[simp] theorem a7y{f:FE}:y6 f ρ s=(f ρ s).bind (akp ρ):=(rfl)
@[simp] theorem a71:akp ρ d s=.ok (.nx ρ) s:=(rfl)
noncomputable def ac8(i:Nat)(ρ:En)(d:D)(s:S):R Fl:=.ok (.nx (ρ.set i (some d))) s
@[simp] theorem a8j{i:Nat}{f:FE}:jr i f ρ s=(f ρ s).bind (ac8 i ρ):=(rfl)
@[simp] theorem a7s{i:Nat}:ac8 i ρ d s=.ok (.nx (ρ.set i (some d))) s:=(rfl)
noncomputable def aw0(f g:FS)(ρ:En)(k:Bool)(s:S):R Fl:=if k=true then f ρ s else g ρ s
@[simp] theorem a8g{c:FT}{f g:FS}:vd c f g ρ s=(c ρ s).bind (aw0 f g ρ):=(rfl)
@[simp] theorem a8d{f g:FS}:aw0 f g ρ true s=f ρ s:=(rfl)
@[simp] theorem a8y{f g:FS}:aw0 f g ρ false s=g ρ s:=(rfl)
noncomputable def ax9(d:D)(s:S):R Bool:=match d with
 |.bl k=>.ok k s
 |_=>.bad
@[simp] theorem a7h{f:FE}:jy f ρ s=(f ρ s).bind ax9:=(rfl)
@[simp] theorem a6n:ax9 (.bl b) s=.ok b s:=(rfl)
noncomputable def apb(g:FT)(ρ:En)(c:Bool)(s:S):R Bool:=if c=true then g ρ s else .ok false s
noncomputable def a37(g:FT)(ρ:En)(c:Bool)(s:S):R Bool:=if c=true then .ok true s else g ρ s
noncomputable def axe(c:Bool)(s:S):R Bool:=.ok (!c) s
@[simp] theorem a83{f g:FT}:ado f g ρ s=(f ρ s).bind (apb g ρ):=(rfl)
@[simp] theorem a8v{f g:FT}:agp f g ρ s=(f ρ s).bind (a37 g ρ):=(rfl)
@[simp] theorem a7j{f:FT}:acx f ρ s=(f ρ s).bind axe:=(rfl)
@[simp] theorem a6s{g:FT}:apb g ρ true s=g ρ s:=(rfl)
@[simp] theorem a6m{g:FT}:apb g ρ false s=.ok false s:=(rfl)
@[simp] theorem a7i{g:FT}:a37 g ρ false s=g ρ s:=(rfl)
@[simp] theorem a6r:axe b s=.ok (!b) s:=(rfl)
def arj(g:FA)(ρ:En)(x:D)(s:S):R (List D):=(g ρ s).bind fun xs s2=>.ok (x::xs) s2
noncomputable def al5(x:D)(xs:List D)(s:S):R (List D):=.ok (x::xs) s
@[simp] theorem a8a:je ρ s=.ok [] s:=(rfl)
@[simp] theorem a9i:fVs ds ρ s=.ok ds s:=(rfl)
@[simp] theorem a79{f:FE}{g:FA}:ja f g ρ s=(f ρ s).bind (arj g ρ):=(rfl)
@[simp] theorem a70{g:FA}:arj g ρ d s=(g ρ s).bind (al5 d):=(rfl)
@[simp] theorem ain:al5 d ds s=.ok (d::ds) s:=(rfl)
def am6(ds:List D)(s:S):R D:=if ds.length <=sizeLine then amw ds s else .bad
def acy(m:Bool)(ds:List D)(s:S):R D:=if ds.length <=sizeLine then kj m ds s else .bad
@[simp] theorem a8k:ve f ρ s=(f ρ s).bind am6:=(rfl)
@[simp] theorem a8z:xf m f ρ s=(f ρ s).bind (acy m):=(rfl)
theorem aze(h:j8 ds=some xs)(hl:ds.length <=16777216):acy false ds s=.ok (.lst xs) s:=by
 unfold acy kj
 rw [if_pos (by rw [qx];exact hl),if_neg ax,h]
@[simp] theorem a9b:am6 [] s=.ok (.tup []) s:=(rfl)
@[simp] theorem a94:acy false [] s=.ok (.lst []) s:=(rfl)
@[simp] theorem a8l:acy true [] s=.ok (.ref s.length) (s++ [.lst []]):=(rfl)
@[simp] theorem a93{a:ac}:am6 [.da a] s=.ok (.tup [a]) s:=(rfl)
@[simp] theorem a9a{a b:ac}:am6 [.da a,.da b] s=.ok (.tup [a,b]) s:=(rfl)
@[simp] theorem a9h{a b c:ac}:am6 [.da a,.da b,.da c] s=.ok (.tup [a,b,c]) s:=(rfl)
@[simp] theorem a9j{a b:ac}:acy false [.da a,.da b] s=.ok (.lst [a,b]) s:=(rfl)
@[simp] theorem a9e{a b c d:ac}:acy false [.da a,.da b,.da c,.da d] s=.ok (.lst [a,b,c,d]) s:=(rfl)
def a20(m:Bool)(lo hi:FO)(ρ:En)(d:D)(s:S):R D:=(lo ρ s).bind fun l s2=> (hi ρ s2).bind fun u s3=> gSl m d l u s3
def a1o(m:Bool)(hi:FO)(ρ:En)(d:D)(l:Option Int)(s:S):R D:=(hi ρ s).bind fun u s3=> gSl m d l u s3
def a23(m:Bool)(d:D)(l u:Option Int)(s:S):R D:=gSl m d l u s
@[simp] theorem a9g{f:FE}{lo hi:FO}:fSl m f lo hi ρ s=(f ρ s).bind (a20 m lo hi ρ):=(rfl)
@[simp] theorem a8u{lo hi:FO}:a20 m lo hi ρ d s=(lo ρ s).bind (a1o m hi ρ d):=(rfl)
@[simp] theorem a8m{hi:FO}{l:Option Int}:a1o m hi ρ d l s=(hi ρ s).bind (a23 m d l):=(rfl)
@[simp] theorem a92{l u:Option Int}:a23 m d l u s=gSl m d l u s:=(rfl)
@[simp] theorem a96:fNo ρ s=.ok none s:=(rfl)
noncomputable def axd(d:D)(s:S):R (Option Int):=match d with
 |.int i=>.ok (some i) s
 |_=>.bad
@[simp] theorem a7m{f:FE}:vo f ρ s=(f ρ s).bind axd:=(rfl)
@[simp] theorem a6t:axd (.int i) s=.ok (some i) s:=(rfl)
noncomputable def a2q(d:D)(s:S):R D:=match d with
 |.int i=>.ok (.int (-i)) s
 |_=>.bad
@[simp] theorem a8q{f:FE}:aq4 f ρ s=(f ρ s).bind a2q:=(rfl)
@[simp] theorem a7n:a2q (.int i) s=.ok (.int (-i)) s:=(rfl)
@[simp] theorem a8n{f:FE}:agi f ρ s=(f ρ s).bind al3:=(rfl)
@[simp] theorem a7x:al3 (.bl b) s=.ok b s:=(rfl)
@[simp] theorem a6z:al3 (.tup xs) s=.ok (!xs.isEmpty) s:=by show R.ok (!(xs.map D.da).isEmpty) s=_;cases xs <;> rfl
@[simp] theorem a97{g:FF}:fCB g f ρ s=(f ρ s).bind g:=(rfl)
def ahy(n:Nat)(F:FF)(ρ:En)(ds:List D)(s:S):R D:=if ds.length=n then (F ds s).at ρ else .bad
@[simp] theorem a81{F:FF}:jn n F f ρ s=(f ρ s).bind (ahy n F ρ):=(rfl)
@[simp] theorem a73{F:FF}:ahy 1 F ρ [d] s=(F [d] s).at ρ:=(rfl)
@[simp] theorem a74{F:FF}:ahy 2 F ρ [d,e] s=(F [d,e] s).at ρ:=(rfl)
@[simp] theorem a6w{F:FF}{d3:D}:ahy 3 F ρ [d,e,d3] s=(F [d,e,d3] s).at ρ:=(rfl)
@[simp] theorem a6x{F:FF}{d3 d4:D}:ahy 4 F ρ [d,e,d3,d4] s=(F [d,e,d3,d4] s).at ρ:=(rfl)
@[simp] theorem a6y:abi [.tup xs] s=.ok (.int xs.length) s:=by show R.ok (D.int (xs.map D.da).length) s=_;rw [am]
@[simp] theorem a6v:abi [.lst xs] s=.ok (.int xs.length) s:=by show R.ok (D.int (xs.map D.da).length) s=_;rw [am]
theorem len_str(h:x.length <=16777216):abi [.str x] s=.ok (.int x.length) s:=if_pos (by rw [qx];exact h)
@[simp] theorem a5g:zg [.lst xs] s=.ok (.tup xs) s:=by
 show (match j8 (xs.map D.da) with|some xs=> R.ok (D.tup xs) s|none=>.bad)=_
 rw [vg]
theorem zm{p:ac}(h:okS p=true):kn [.da p] s=.ok (.str p.shown) s:=if_pos h
@[simp] theorem arb{lo hi:Option Int}:gSl m (.tup xs) lo hi s=.ok (.tup (j6 xs lo hi)) s:=(rfl)
theorem agr{α β:Type}(f:α -> β)(l:List α)(lo hi:Option Int):j6 (l.map f) lo hi=(j6 l lo hi).map f:=by
 unfold j6
 rw [am,List.map_take,List.map_drop]
@[simp] theorem a3s{lo hi:Option Int}:gSl false (.lst xs) lo hi s=.ok (.lst (j6 xs lo hi)) s:=by
 show (match j8 (j6 (xs.map D.da) lo hi) with|some xs=> R.ok (D.lst xs) s|none=>.bad)=_
 rw [agr,vg]
@[simp] theorem a7r{lo hi:Option Int}:gSl false (.frz xs) lo hi s=.ok (.lst (j6 xs lo hi)) s:=by
 show (match j8 (j6 (xs.map D.da) lo hi) with|some xs=> R.ok (D.lst xs) s|none=>.bad)=_
 rw [agr,vg]
noncomputable def qf(fl:Fl)(s:S):R D:=match fl with
 |.rt d=>.ok d s
 |.nx _=>.ok .non s
 |_=>.bad
@[simp] theorem a75:qf (.rt d) s=.ok d s:=(rfl)
@[simp] theorem a6p:qf (.nx ρ) s=.ok .non s:=(rfl)
def aol(fo fi:FE)(ρ:En)(v:D)(s:S):R Fl:=(fo ρ s).bind fun o s2=> (fi ρ s2).bind fun i s3=> (z7 o i v s3).bind fun _ s4=>.ok (.nx ρ) s4
def aoz(fi:FE)(ρ:En)(v o:D)(s:S):R Fl:=(fi ρ s).bind fun i s3=> (z7 o i v s3).bind fun _ s4=>.ok (.nx ρ) s4
def aoa(ρ:En)(v o i:D)(s:S):R Fl:=(z7 o i v s).bind fun _ s4=>.ok (.nx ρ) s4
@[simp] theorem a77{fv:FE}:afd fv fo fi ρ s=(fv ρ s).bind (aol fo fi ρ):=(rfl)
@[simp] theorem a61:aol fo fi ρ d s=(fo ρ s).bind (aoz fi ρ d):=(rfl)
@[simp] theorem a64:aoz fi ρ d e s=(fi ρ s).bind (aoa ρ d e):=(rfl)
@[simp] theorem a5s{o:D}:aoa ρ d e o s=(z7 e o d s).bind (akp ρ):=(rfl)
def atv(g:GM)(fa:FA)(ρ:En)(d:D)(s:S):R D:=if (toL s d).isSome=true then (fa ρ s).bind fun ds s2=> g d ds s2 else .bad
noncomputable def aum(g:GM)(d:D)(ds:List D)(s:S):R D:=g d ds s
@[simp] theorem a99{g:GM}:fMt g fo fa ρ s=(fo ρ s).bind (atv g fa ρ):=(rfl)
theorem afn{g:GM}(h:s[n]?=some (.lst ds)):atv g fa ρ (.ref n) s=(fa ρ s).bind (aum g (.ref n)):=by
 unfold atv
 rw [if_pos]
 ·rfl
 ·show ((match s[n]? with|some (O.lst ds)=> some ds|_=> none):Option (List D)).isSome=true
  rw [h];rfl
@[simp] theorem a8t{g:GM}:aum g d ds s=g d ds s:=(rfl)
theorem abb(h:s[n]?=some (.lst ds))(hl:ds.length < 16777216):vx (.ref n) [d] s=.ok .non (s.set n (.lst (ds++ [d]))):=by
 show (match s[n]? with|some (O.lst xs)=> (if xs.length < sizeLine then R.ok D.non (s.set n (.lst (xs++ [d]))) else .bad)|_=>.bad)=_
 rw [h]
 show (if ds.length < sizeLine then _ else _)=_
 rw [if_pos (by rw [qx];exact hl)]
theorem apk(h:s[n]?=some (.lst ds))(hl:ds.length+xs.length <=16777216):aao (.ref n) [.lst xs] s=.ok .non (s.set n (.lst (ds++xs.map D.da))):=by
 show (match s[n]? with|some (O.lst ys)=> (if ys.length+(xs.map D.da).length <=sizeLine then R.ok D.non (s.set n (.lst (ys++xs.map D.da))) else .bad)|_=>.bad)=_
 rw [h]
 exact if_pos (by rw [qx,am];exact hl)
def a2f(d:D)(s:S):R D:=auv d s
@[simp] theorem a8s{f:FE}:avv f ρ s=(f ρ s).bind a2f:=(rfl)
theorem ayn(h:s[n]?=some (.lst ds))(h2:j8 ds=some xs):a2f (.ref n) s=.ok (.lst xs) (s.set n .gone):=by
 show (match s[n]? with|some (O.lst ds)=> (match j8 ds with|some xs=> R.ok (D.lst xs) (s.set n .gone)|none=>.bad)|_=>.bad)=_
 rw [h]
 show (match j8 ds with|some xs=> R.ok (D.lst xs) (s.set n .gone)|none=>.bad)=_
 rw [h2]
def kFor(g:Tg)(fb:FS)(ρ:En)(p:Wk)(s:S):R Fl:=chk p s (xl g fb p p.1 ρ s)
@[simp] theorem a8h{fi:FI}:ze fi g fb ρ s=(fi ρ s).bind (kFor g fb ρ):=(rfl)
@[simp] theorem a7z:kFor g fb ρ (ds,none) s=xl g fb (ds,none) ds ρ s:=zf
@[simp] theorem a98{f:FE}:fIt f ρ s=(f ρ s).bind acq:=(rfl)
@[simp] theorem a7d:acq (.lst xs) s=.ok (xs.map D.da,none) s:=(rfl)
@[simp] theorem af1:acq (.tup xs) s=.ok (xs.map D.da,none) s:=(rfl)
@[simp] theorem a91:abg f ρ s=(f ρ s).bind apg:=(rfl)
theorem aal(h: -(2^62) <=j)(h2:j < 2^62):apg [.int j] s=.ok (abf 0 j.toNat,none) s:=if_pos ⟨h,h2⟩
def ahv(g:Tg)(fb:FS)(p:Wk)(r:List D)(fl:Fl)(s:S):R Fl:=match fl with
 |.nx ρ2=> chk p s (xl g fb p r ρ2 s)
 |.ct ρ2=> chk p s (xl g fb p r ρ2 s)
 |.bk ρ2=>.ok (.nx ρ2) s
 |.rt d=>.ok (.rt d) s
theorem asw{p:Wk}{ρ1:En}(h:ky g d ρ=some ρ1):xl g fb p (d::r) ρ s=(fb ρ1 s).bind (ahv g fb p r):=by
 rw [xl,h];rfl
@[simp] theorem azh:ahv g fb (ds,none) r (.nx ρ) s=xl g fb (ds,none) r ρ s:=zf
@[simp] theorem a08:ahv g fb (ds,none) r (.ct ρ) s=xl g fb (ds,none) r ρ s:=zf
@[simp] theorem azw{p:Wk}:ahv g fb p r (.bk ρ) s=.ok (.nx ρ) s:=(rfl)
@[simp] theorem ayl{p:Wk}:ahv g fb p r (.rt d) s=.ok (.rt d) s:=(rfl)
def kLc(m:Bool)(js:List Nat)(k:Nat)(g:Tg)(ft:FT)(fe:FE)(ρ:En)(p:Wk)(s:S):R D:=if p.1.length <=sizeLine then chk p s ((j9 g ft fe (bB k none++aex ρ js) p p.1 s).bind fun ds s2=> kj m ds s2) else .bad
@[simp] theorem a9d{k:Nat}{fi:FI}:fLc m js k fi g ft fe ρ s=(fi ρ s).bind (kLc m js k g ft fe ρ):=(rfl)
def ax0(m:Bool)(ds:List D)(s:S):R D:=kj m ds s
theorem acn{k:Nat}{ρ0:En}(h:ds.length <=16777216)(e:bB k none++aex ρ js=ρ0):kLc m js k g ft fe ρ (ds,none) s=(j9 g ft fe ρ0 (ds,none) ds s).bind (ax0 m):=by
 subst e
 unfold kLc
 rw [if_pos (by rw [qx];exact h),zf];rfl
@[simp] theorem ai1:ax0 false (xs.map D.da) s=.ok (.lst xs) s:=by
 show (match j8 _ with|some xs=> R.ok (D.lst xs) s|none=>.bad)=_
 rw [vg]
@[simp] theorem awd{p:Wk}:j9 g ft fe ρ p [] s=.ok [] s:=(rfl)
def am3(g:Tg)(ft:FT)(fe:FE)(ρ0:En)(p:Wk)(r:List D)(ρ1:En)(b:Bool)(s2:S):R (List D):=if b=true then (fe ρ1 s2).calm.bind fun x s3=> chk p s3 ((j9 g ft fe ρ0 p r s3).bind fun xs s4=>.ok (x::xs) s4) else chk p s2 (j9 g ft fe ρ0 p r s2)
def atl(g:Tg)(ft:FT)(fe:FE)(ρ0:En)(p:Wk)(r:List D)(x:D)(s3:S):R (List D):=chk p s3 ((j9 g ft fe ρ0 p r s3).bind fun xs s4=>.ok (x::xs) s4)
theorem afh{p:Wk}{ρ1:En}(h:ky g d ρ=some ρ1):j9 g ft fe ρ p (d::r) s=(ft ρ1 s).calm.bind (am3 g ft fe ρ p r ρ1):=by
 rw [j9,h];rfl
@[simp] theorem am1{p:Wk}{ρ1:En}:am3 g ft fe ρ p r ρ1 true s=(fe ρ1 s).calm.bind (atl g ft fe ρ p r):=(rfl)
@[simp] theorem an8{ρ1:En}:am3 g ft fe ρ (ds,none) r ρ1 false s=j9 g ft fe ρ (ds,none) r s:=zf
@[simp] theorem ana:atl g ft fe ρ (ds,none) r d s=(j9 g ft fe ρ (ds,none) r s).bind (al5 d):=zf
@[simp] theorem a8p:vk ρ s=.ok true s:=(rfl)
theorem a8i:acy true [a0,a1] s=.ok (.ref s.length) (s++ [.lst [a0,a1]]):=(rfl)
theorem a8r{a2:D}:acy true [a0,a1,a2] s=.ok (.ref s.length) (s++ [.lst [a0,a1,a2]]):=(rfl)
theorem a72(h:xs.length <=16777216):acy false (xs.map D.da) s=.ok (.lst xs) s:=aze (vg xs) (by rw [am];exact h)
theorem it0{a0:ac}{r:List ac}:gIx (.tup (a0::r)) (.int 0) s=.ok (.da a0) s:=ad5 (k:=0) rfl
theorem it1{a0 a1:ac}{r:List ac}:gIx (.tup (a0::a1::r)) (.int 1) s=.ok (.da a1) s:=ad5 (k:=1) rfl
theorem it2{a0 a1 a2:ac}{r:List ac}:gIx (.tup (a0::a1::a2::r)) (.int 2) s=.ok (.da a2) s:=ad5 (k:=2) rfl
theorem a56{r:En}{y:Option D}:ky (.nm 0) d (y::r)=some (some d::r):=(rfl)
theorem a7t{r:En}{y:Option D}:ac8 1 (x0::y::r) d s=.ok (.nx (x0::some d::r)) s:=(rfl)
theorem a7g{r:En}{y:Option D}:ac8 2 (x0::x1::y::r) d s=.ok (.nx (x0::x1::some d::r)) s:=(rfl)
theorem a5a{r:En}{y:Option D}:ky (.nm 2) d (x0::x1::y::r)=some (x0::x1::some d::r):=(rfl)
theorem a7u{r:En}{y:Option D}:ac8 3 (x0::x1::x2::y::r) d s=.ok (.nx (x0::x1::x2::some d::r)) s:=(rfl)
theorem a4q{r:En}{y:Option D}:ky (.nm 3) d (x0::x1::x2::y::r)=some (x0::x1::x2::some d::r):=(rfl)
theorem a7w{r:En}{y:Option D}:ac8 4 (x0::x1::x2::x3::y::r) d s=.ok (.nx (x0::x1::x2::x3::some d::r)) s:=(rfl)
theorem aks{r:En}{y:Option D}:ky (.nm 4) d (x0::x1::x2::x3::y::r)=some (x0::x1::x2::x3::some d::r):=(rfl)
theorem a7b{r:En}{y:Option D}:ac8 5 (x0::x1::x2::x3::x4::y::r) d s=.ok (.nx (x0::x1::x2::x3::x4::some d::r)) s:=(rfl)
theorem akm{r:En}{y:Option D}:ky (.nm 5) d (x0::x1::x2::x3::x4::y::r)=some (x0::x1::x2::x3::x4::some d::r):=(rfl)
theorem a78{r:En}{x5 y:Option D}:ac8 6 (x0::x1::x2::x3::x4::x5::y::r) d s=.ok (.nx (x0::x1::x2::x3::x4::x5::some d::r)) s:=(rfl)
theorem a7k{r:En}{x5 x6 y:Option D}:ac8 7 (x0::x1::x2::x3::x4::x5::x6::y::r) d s=.ok (.nx (x0::x1::x2::x3::x4::x5::x6::some d::r)) s:=(rfl)
theorem axi{r:En}{x5 x6 y:Option D}:ky (.nm 7) d (x0::x1::x2::x3::x4::x5::x6::y::r)=some (x0::x1::x2::x3::x4::x5::x6::some d::r):=(rfl)
theorem a7l{r:En}{x5 x6 x7 y:Option D}:ac8 8 (x0::x1::x2::x3::x4::x5::x6::x7::y::r) d s=.ok (.nx (x0::x1::x2::x3::x4::x5::x6::x7::some d::r)) s:=(rfl)
theorem a7v{r:En}{x5 x6 x7 x8 y:Option D}:ac8 9 (x0::x1::x2::x3::x4::x5::x6::x7::x8::y::r) d s=.ok (.nx (x0::x1::x2::x3::x4::x5::x6::x7::x8::some d::r)) s:=(rfl)
end
@[simp] theorem R.bind_ok'{α β:Type}(a:α)(s:S)(f:α -> S -> R β):(R.ok a s).bind f=f a s:=(rfl)
@[simp] theorem R.W_ok'{α:Type}(a:α)(s:S)(Q:α -> S -> Prop):(R.ok a s).W Q=Q a s:=(rfl)
def flW(J:En -> S -> Prop)(Q:Fl -> S -> Prop)(fl:Fl)(s:S):Prop:=match fl with
 |.nx ρ=> J ρ s
 |.ct ρ=> J ρ s
 |.bk ρ=> Q (.nx ρ) s
 |.rt d=> Q (.rt d) s
theorem k9{g:Tg}{fb:FS}{all:List D}{Q:Fl -> S -> Prop}(J:List D -> En -> S -> Prop)
  (step: ∀d r ρ s,J (d::r) ρ s -> ∃ρ1,ky g d ρ=some ρ1/\(fb ρ1 s).W (flW (J r) Q)) (fin: ∀ρ s,J [] ρ s -> Q (.nx ρ) s):
  ∀(ds:List D) (ρ:En) (s:S),J ds ρ s -> (xl g fb (all,none) ds ρ s).W Q
 |[],ρ,s,h=> fin ρ s h
 |d::r,ρ,s,h=> by
  obtain⟨ρ1,e,w⟩:=step d r ρ s h
  rw [asw e,R.W_bind]
  refine R.W_mono w fun fl s1 q=> ?_
  cases fl with
  |nx ρ2=> rw [azh];exact k9 J step fin r ρ2 s1 q
  |ct ρ2=> rw [a08];exact k9 J step fin r ρ2 s1 q
  |bk ρ2=> rw [azw];exact q
  |rt d=> rw [ayl];exact q
theorem aa1{g:Tg}{ft:FT}{fe:FE}{ρ0:En}{all:List D}{Q:List D -> S -> Prop}(J:List D -> List D -> S -> Prop)
  (step: ∀d r acc s,J (d::r) acc s -> ∃ρ1,ky g d ρ0=some ρ1/\(ft ρ1 s).W fun b s2=> if b=true then (fe ρ1 s2).W fun x s3=> J r (acc++ [x]) s3 else J r acc s2) (fin: ∀acc s,J [] acc s -> Q acc s):
  ∀(ds acc:List D) (s:S),J ds acc s -> (j9 g ft fe ρ0 (all,none) ds s).W fun xs s'=> Q (acc++xs) s'
 |[],acc,s,h=> by
  rw [awd,R.W_ok,aP]
  exact fin acc s h
 | d::r,acc,s,h=> by
  obtain⟨ρ1,e,w⟩:=step d r acc s h
  rw [afh e,R.W_bind,R.W_calm]
  refine R.W_mono w fun b s1 q=> ?_
  cases b with
  |false=>
   rw [an8]
   rw [if_neg ax]at q
   exact aa1 J step fin r acc s1 q
  |true=>
   rw [am1,R.W_bind,R.W_calm]
   rw [if_pos rfl]at q
   refine R.W_mono q fun x s2 q2=> ?_
   rw [ana,R.W_bind]
   refine R.W_mono (aa1 J step fin r (acc++ [x]) s2 q2) fun xs s3 q3=> ?_
   rw [ain,R.W_ok]
   rw [cR]at q3
   exact q3
structure Ext (s s':S):Prop where
 ex: ∃g,s'=s++g
theorem Ext.refl(s:S):Ext s s:=⟨[],by simp⟩
theorem Ext.trans{a b c:S}(h1:Ext a b)(h2:Ext b c):Ext a c:=by
 obtain⟨g,rfl⟩:=h1.ex
 obtain⟨k,rfl⟩:=h2.ex
 exact⟨g++k,by rw [cR]⟩
theorem Ext.add(s g:S):Ext s (s++g):=⟨g,rfl⟩
theorem Ext.len(h:Ext s s'):s.length <=s'.length:=by obtain⟨g,rfl⟩:=h.ex;simp
theorem Ext.get(h:Ext s s'){k:Nat}{o:O}(e:s[k]?=some o):s'[k]?=some o:=by
 obtain⟨g,rfl⟩:=h.ex
 rw [aJ (ap.mp e).1];exact e
theorem Ext.getE(h:Ext s s'){k:Nat}(e:k < s.length):s'[k]?=s[k]?:=by
 obtain⟨g,rfl⟩:=h.ex
 rw [aJ e]
structure j3 (n:Nat) (s s':S):Prop where
 len:s.length <=s'.length
 get: ∀k,k≠n -> k < s.length -> s'[k]?=s[k]?
theorem j3.refl(n:Nat)(s:S):j3 n s s:=⟨ao _,fun _ _ _=> rfl⟩
theorem j3.trans{a b c:S}(h1:j3 n a b)(h2:j3 n b c):j3 n a c:=⟨bb h1.len h2.len,fun k hk hl=> (h2.get k hk (aQ hl h1.len)).trans (h1.get k hk hl)⟩
theorem Ext.same(h:Ext s s')(n:Nat):j3 n s s':=⟨h.len,fun _ _ hl=> h.getE hl⟩
theorem ae2{o:O}:j3 n s (s.set n o):=⟨by simp,fun k hk hl=> aF (bY hk)⟩
theorem j3.own{k:Nat}{o:O}(h:j3 n s s')(hk:s.length <=k):j3 n s (s'.set k o):=⟨by simpa using h.len,fun j hj hl=> by rw [aF (by lia)];exact h.get j hj hl⟩
theorem auw{α:Type}{s:List α}{o:α}(e:s[n]?=some o):s.set n o=s:=by
 apply cS
 intro i
 by_cases z:n=i
 ·subst z
  have hl:=(ap.mp e).1
  rw [bc hl,e]
 ·rw [aF z]
structure Nice (B D:Nat) (d:ac):Prop where
 ls:d.leavesShort 13=true
 sh:d.showable=true
 cl:d.canLay0=true
 bk:d.bulk <=B
 dp:d.depth <=D
structure Nices (B D:Nat) (ds:List ac):Prop where
 ls:lM 13 ds=true
 sh:PyData.showableAll ds=true
 cl:bL ds=true
 bk:PyData.bulkAll ds <=B
 dp:cV ds <=D
theorem Nice.mono{B D B' D':Nat}{d:ac}(h:Nice B D d)(hb:B <=B')(hd:D <=D'):Nice B' D' d:=⟨h.ls,h.sh,h.cl,bb h.bk hb,bb h.dp hd⟩
theorem Nices.mono{B D B' D':Nat}(h:Nices B D ds)(hb:B <=B')(hd:D <=D'):Nices B' D' ds:=⟨h.ls,h.sh,h.cl,bb h.bk hb,bb h.dp hd⟩
theorem Nices.nil{D:Nat}:Nices 0 D []:=⟨rfl,rfl,rfl,ao _,bP _⟩
theorem Nices.cons{B B' D:Nat}{d:ac}(h:Nice B D d)(t:Nices B' D ds):Nices (B+1+B') D (d::ds):=by
 obtain⟨a1,a2,a5,a3,a4⟩:=h
 obtain⟨b1,b2,b5,b3,b4⟩:=t
 refine⟨?_,?_,?_,?_,?_⟩
 ·simp only [lM,a1,b1,i7]
 ·simp only [PyData.showableAll,a2,b2,i7]
 ·simp only [bL,a5,b5,i7]
 ·simp only [PyData.bulkAll];lia
 ·simp only [cV];lia
theorem Nices.tup{B D:Nat}(h:Nices B D ds):Nice B (D+1) (.tuple ds):=by
 obtain⟨b1,b2,b5,b3,b4⟩:=h
 refine⟨?_,?_,?_,?_,?_⟩
 ·simpa only [gp] using b1
 ·simpa only [ii] using b2
 ·simpa only [lN] using b5
 ·simpa only [PyData.bulk] using b3
 ·simp only [eK];lia
theorem Nices.lst{B D:Nat}(h:Nices B D ds):Nice B (D+1) (.list ds):=by
 obtain⟨b1,b2,b5,b3,b4⟩:=h
 refine⟨?_,?_,?_,?_,?_⟩
 ·simpa only [gp] using b1
 ·simpa only [ii] using b2
 ·simpa only [lN] using b5
 ·simpa only [PyData.bulk] using b3
 ·simp only [eK];lia
theorem Nice.okS{B D:Nat}{d:ac}(h:Nice B D d)(hb:B <=1048576)(hd:D <=64):okS d=true:=by
 unfold PF.okS
 (simp only [aB,decide_eq_true_eq])
 exact⟨⟨⟨h.cl,h.sh⟩,bb h.dp hd⟩,PyData.shown_fits_bulk (by decide) (by decide) h.ls (bb h.bk hb)⟩
theorem Nice.okD{B D:Nat}{d:ac}(h:Nice B D d)(hd:D <=64):okD d=true:=by
 unfold PF.okD
 rw [aB]
 exact⟨h.cl,decide_eq_true (bb h.dp hd)⟩
theorem yd{B D:Nat}: ∀(ds:List ac),(∀d∈ds,Nice B D d) -> Nices ((B+1)*ds.length) D ds
 |[],_=> Nices.nil
 |d::r,h=> by
  refine (Nices.cons (h d av) (yd r fun y hy=> h y (aw _ hy))).mono ?_ (ao _)
  rw [az,Nat.mul_add];lia
theorem aat(h0:i.natAbs < 10^12):Nice 0 0 (.int i):=by
 refine⟨?_,?_,rfl,ao _,by simp [eK]⟩
 ·simp only [gp,decide_eq_true_eq]
  exact PyData.shown_int_le h0
 ·simp only [ii,decide_eq_true_eq]
  have:i.natAbs.log2 <=i.natAbs:=Nat.log2_le_self _
  by_cases z:i.natAbs=0
  ·rw [z];decide
  ·have h2:i.natAbs < 2^40:=by lia
   have:=(Nat.log2_lt z).mpr h2
   lia
noncomputable def aff(x:Str):Bool:=(decide (0 < x.length)&&decide (x.length <=20))&&x.cps.toList.all fun c=> decide (32 <=c)&&decide (c < 127)
theorem an0{x:Str}(h:aff x=true):Nice 20 0 (.str x):=by
 unfold aff at h
 simp only [aB,decide_eq_true_eq,ay]at h
 refine⟨?_,rfl,?_,h.1.2,by simp [eK]⟩
 ·simp only [gp,ay,decide_eq_true_eq]
  intro c hc
  have:=(h.2 c hc).2
  have e16:(16:Nat)^8=4294967296:=by decide
  lia
 ·simp only [lN]
  unfold PyData.strOk
  (rw [←Array.all_toList,ay])
  intro c hc
  have:=(h.2 c hc).2
  (exact decide_eq_true (by lia))
end PF
namespace PF
open PySem PySem.Spec
open L2
open PyProof.Rows (envOfC)
section
variable{P:aI}{w:aM}{K:aj}{mg:Str -> Option ae}{base:Heap}{x:Str}{st:Stmt}{N ps:List Str}{k:Nat}
theorem fnF{f:Addr}(F:Fun K x x st f fd)(S:FnScope N ps (ji st)){m:Nat}(hm:N.length=m)(hn:ps.length=n)(hbody:BodyOk P w K mg base N x st k fb):FnOk P w K mg base (CX1 P w) (k+1) f fd ps (spF K n (qr m fb)):=
 F.okX S (fun vs H Q E h=> by rw [hn];exact h.1) fun cdv A outer s H vs Q E hr h=> aiq hm hbody f cdv A outer s H vs Q E hr h
theorem a3e{f:Addr}{F:FF}(h:FnOk P w K mg base (CX1 P w) k f fd ps (spF K 1 F))(ht: ∀ns:List Int,ns.length <=63 -> (F [.frz (ns.map aX)] []).W fun d _=> d=.bl true):FnOk P w K mg base CX0 k f fd ps (ahf K):=by
 have sp: ∀vs H Q E,ahf K vs H Q E -> spF K 1 F vs H Q fun _ _ _=> False:=fun vs H Q E q=> by
  obtain⟨a,ns,rfl,hS,hl,hq⟩:=q
  have R0:Rel K ⟨[],[]⟩ H []:=⟨rfl,fun i j p e=> by simp at e,fun n p o e=> by simp at e,fun n o e=> by simp at e,fun p hp=> by simp at hp,fun p hp=> by simp at hp⟩
  refine⟨rfl,⟨[],[]⟩,[.frz (ns.map aX)],[],R0,.cons (.frz (fun as' H' st=> ?_) (TDs.ints ns)) .nil,?_⟩
  ·exact L2.j3.seq (fun b o hb=> st.keep b o (by simp [As.has]) hb) hS
  ·have t:=ht ns hl
   cases hr:F [.frz (ns.map aX)] []with
   |ok d s=>
    rw [hr]at t
    intro b as' H' st rl rb
    have:d=.bl true:=t
    subst this
    cases rb with
    |da z=> cases z;exact hq _
   |bad=> rw [hr]at t;exact t
   |ex n ρ s=> rw [hr]at t;exact t.elim
 refine⟨fun vs H Q E q=> h.len vs H Q _ (sp vs H Q E q),fun A outer s H args us vs Q E hr he hb hv hs=> dm (h.run A outer s H args us vs Q _ hr he hb hv (sp vs H Q E hs)) fun r s' hq=> ?_⟩
 cases r with
 |error e=> obtain⟨_,_,_,_,_,_,_,_,_,_,_,_,_,_,_,f⟩:=hq;exact f.elim
 |ok fl=> cases fl <;> exact hq
end
end PF
namespace PF
open PySem PySem.Spec
variable[XW]
open L2
variable[XW]
end PF
namespace PF
open PySem PySem.Spec
open L2
open PyProof.Rows (is_bool isnot_bool)
variable[XW]
end PF
namespace PF
open PySem PySem.Spec
open PySem.SeqAt
open AutoSeq1 (wpAny_loadPart') --
open MeetsSeq MeetsSeq2 MeetsSeq3 SeqRoads2 --
def ajc(A:aZ)(s:ag)(x y:ae)(b:Bool):Prop:= ∀(prog:aI) (w:aM) (E:ae -> ag -> Prop) (Q:ae -> ag -> Prop),Q (.bool b) s -> wpAny (model prog w) A (nQ .Lt x y) Q E s
inductive LexAt (A:aZ) (s:ag) (fin:Bool):List (ae×ae) -> Bool -> Prop
 |nil:LexAt A s fin [] fin
 |same {x y:ae} {r:List (ae×ae)} {b:Bool}:EqAt A s x y true -> LexAt A s fin r b -> LexAt A s fin ((x,y)::r) b
 |diff {x y:ae} {r:List (ae×ae)} {b:Bool}:EqAt A s x y false -> ajc A s x y b -> LexAt A s fin ((x,y)::r) b
theorem asm(l b:Addr)(us ws:Array ae)(n n2:Nat)(dd dd2:Option Addr)(sl sl2:Array (Option ae))(r:Bool):
  Meets (cG.«tuple.__lt__» ⟨[.ref l,.ref b],[]⟩)
   (fun A R s=> s.heap.get? l=some {cls:=.type "tuple",dict:=dd,data:=.seq us n,slots:=sl}/\s.heap.get? b=some {cls:=.type "tuple",dict:=dd2,data:=.seq ws n2,slots:=sl2}/\
    LexAt A.in1 s (decide (us.size < ws.size)) (us.toList.zip ws.toList) r/\R (.ok (.ret (.bool r))) s):=
 .of_wp fun prog w A R s h=> by
  (obtain⟨hp,g,d,tk,os⟩:=s)
  obtain⟨hl,hb,lx,hR⟩:=h
  have sub:=AutoSeq1.sub_tuple_tuple
  wp_walk using nV hl,nV hb,eM _ (fun rest b s'=> b.1=none/\s'=⟨hp,g,d,tk,os⟩/\LexAt A.in1 ⟨hp,g,d,tk,os⟩ (decide (us.size < ws.size)) rest r) _
  case turn=>
   rintro⟨y,x⟩ rest b s' ⟨hb',rfl,lx⟩
   cases lx with
   |same e t=>
    refine aa (e prog w _ _ ?_)
    wp_walk
    exact⟨rfl,rfl,t⟩
   |diff e t=>
    refine aa (e prog w _ _ ?_)
    have t': ∀(E:ae -> ag -> Prop) (Q:ae -> ag -> Prop),Q (.bool r) ⟨hp,g,d,tk,os⟩ -> wpAny (model prog w) A.in1 (nQ .Lt y x) Q E ⟨hp,g,d,tk,os⟩:=fun E Q=> t prog w E Q
    generalize nQ .Lt y x=m at t'⊢
    wp_walk
    refine t' _ _ ?_
    wp_walk
    exact⟨_,rfl,hR⟩
  case fin=>
   rintro⟨b1,b2⟩ s' ⟨hb',rfl,lx⟩
   simp only at hb'
   subst hb'
   cases lx
   wp_walk
   exact⟨_,rfl,by simpa [Builtin.Tuple.tupleCompareSizes] using hR⟩
  case h=> exact⟨rfl,rfl,lx⟩
section
variable{A:aZ}{s:ag} --
theorem ajc.tuples{l b:Addr}{us ws:Array ae}{r:Bool}(hl:s.heap.IsTuple l us)(hb:s.heap.IsTuple b ws)(hu:A.units < cLine)(lx:LexAt A.in1 s (decide (us.size < ws.size)) (us.toList.zip ws.toList) r):ajc A s (.ref l) (.ref b) r:=fun prog w E Q h=> by
 obtain⟨⟨c1,d1,e1,s1⟩,o1,k1,n1,q1⟩:=id hl
 obtain⟨⟨c2,d2,e2,s2⟩,o2,k2,n2,q2⟩:=id hb
 simp only at k1 q1 k2 q2
 subst k1 q1 k2 q2
 exact richCompare_meets_room (op:=.Lt) ⟨_,o1,rfl⟩ ⟨_,o2,rfl⟩ lh F.entry_tuple_lt (F.args_tuple_lt_2 _ _) (asm l b us ws n1 n2 d1 d2 s1 s2 r) ⟨o1,o2,lx,show ia r≠Value.notImplemented/\Q (.bool r) s from ⟨nofun,h⟩⟩ hu
end
mutual
noncomputable def ltP:ac -> ac -> Option Bool
 |.int i,.int j=> some (decide (i < j))
 |.str a,.str b=> some (decide (a.cps.toList < b.cps.toList))
 |.tuple xs,.tuple ys=> vh xs ys
 |_,_=> none
noncomputable def vh:List ac -> List ac -> Option Bool
 |[],[]=> some false
 |[],_::_=> some true
 |_::_,[]=> some false
 |x::xs,y::ys=> if aU x y=true then vh xs ys else ltP x y
end
theorem xw:vh [] []=some false:=by simp only [vh]
theorem xh{y:ac}:vh [] (y::ys)=some true:=by simp only [vh]
theorem vc{y:ac}:vh (y::ys) []=some false:=by simp only [vh]
theorem ye{x y:ac}:vh (x::xs) (y::ys)=if aU x y=true then vh xs ys else ltP x y:=by simp only [vh]
theorem aaw:ltP (.int i) (.int j)=some (decide (i < j)):=by simp only [ltP]
theorem adf{a b:Str}:ltP (.str a) (.str b)=some (decide (a.cps.toList < b.cps.toList)):=by simp only [ltP]
theorem xy:ltP (.tuple xs) (.tuple ys)=vh xs ys:=by simp only [ltP]
end PF
namespace PF
open PySem PySem.Spec
open PySem.SeqAt
mutual
theorem adx: ∀(da db:ac) (A:aZ) (s:ag) (a b:ae) (as bs:List Addr) (r:Bool),ck s.heap a da as -> ck s.heap b db bs -> da.canLay0=true -> db.canLay0=true -> A.units+min da.depth db.depth < cLine -> ltP da db=some r -> ajc A s a b r
 | .int i,db,A,s,_,_,_,_,r,ra,rb,_,_,_,h=> by
  cases db with
  |int j=>
   rw [aaw]at h
   cases h
   cases ra;cases rb
   exact fun prog w E Q q=> PyProof.Rows.lt_int q
  |none=> simp [ltP]at h
  |bool _=> simp [ltP]at h
  |str _=> simp [ltP]at h
  |list _=> simp [ltP]at h
  |tuple _=> simp [ltP]at h
  |dict _=> simp [ltP]at h
 | .str x,db,A,s,_,_,_,_,r,ra,rb,_,_,_,h=> by
  cases db with
  |str j=>
   rw [adf]at h
   cases h
   cases ra;cases rb
   exact fun prog w E Q q=> PyProof.Rows.lt_str q
  |none=> simp [ltP]at h
  |bool _=> simp [ltP]at h
  |int _=> simp [ltP]at h
  |list _=> simp [ltP]at h
  |tuple _=> simp [ltP]at h
  |dict _=> simp [ltP]at h
 | .tuple xs,db,A,s,_,_,_,_,r,ra,rb,ha,hb,hu,h=> by
  cases db with
  | tuple ys=>
   rw [xy]at h
   cases ra with
   | tuple h1 h2 h3 h4=>
    cases rb with
    |tuple k1 k2 k3 k4=>
     refine ajc.tuples ⟨_,h1,h2,_,h3⟩ ⟨_,k1,k2,_,k3⟩ (room_here hu) ?_
     have t:=ad4 xs ys A.in1 s _ _ _ _ r h4 k4 ha hb (room_in hu) h
     simpa using t
  |none=> simp [ltP]at h
  |bool _=> simp [ltP]at h
  |int _=> simp [ltP]at h
  |list _=> simp [ltP]at h
  |str _=> simp [ltP]at h
  |dict _=> simp [ltP]at h
 |.none,_,_,_,_,_,_,_,_,_,_,_,_,_,h=> by simp [ltP]at h
 |.bool _,_,_,_,_,_,_,_,_,_,_,_,_,_,h=> by simp [ltP]at h
 |.list _,_,_,_,_,_,_,_,_,_,_,_,_,_,h=> by simp [ltP]at h
 |.dict _,_,_,_,_,_,_,_,_,_,_,ha,_,_,_=> nomatch ha
theorem ad4: ∀(xs ys:List ac) (A:aZ) (s:ag) (vs ws:List ae) (as bs:List Addr) (r:Bool),cf s.heap vs xs as -> cf s.heap ws ys bs -> bL xs=true -> bL ys=true -> A.units+min (cV xs) (cV ys) < cLine -> vh xs ys=some r -> LexAt A s (decide (vs.length < ws.length)) (vs.zip ws) r
 |[],[],A,s,_,_,_,_,r,ra,rb,_,_,_,h=> by
  cases ra;cases rb
  rw [xw]at h
  cases h
  exact .nil
 |[],_::_,A,s,_,_,_,_,r,ra,rb,_,_,_,h=> by
  cases ra;cases rb
  rw [xh]at h
  cases h
  simpa using LexAt.nil (A:=A) (s:=s) (fin:=true)
 |_::_,[],A,s,_,_,_,_,r,ra,rb,_,_,_,h=> by
  cases ra;cases rb
  rw [vc]at h
  cases h
  simpa using LexAt.nil (A:=A) (s:=s) (fin:=false)
 | x ::xs,y::ys,A,s,_,_,_,_,r,ra,rb,ha,hb,hu,h=> by
  have ha':x.canLay0=true/\bL xs=true:=by simpa [bL] using ha
  have hb':y.canLay0=true/\bL ys=true:=by simpa [bL] using hb
  rw [ye]at h
  cases ra with
  | cons r1 rs=>
   cases rb with
   | cons r2 rs2=>
    have e:=lY x y A s _ _ _ _ r1 r2 ha'.1 hb'.1 (nv hu)
    rw [List.zip_cons_cons,az,az]
    by_cases q:aU x y=true
    ·rw [if_pos q]at h
     rw [q]at e
     have t:=ad4 xs ys A s _ _ _ _ r rs rs2 ha'.2 hb'.2 (room_tail hu) h
     refine .same e ?_
     simpa using t
    ·rw [if_neg q]at h
     rw [fO]at q
     rw [q]at e
     exact .diff e (adx x y A s _ _ _ _ r r1 r2 ha'.1 hb'.1 (nv hu) h)
end
end PF
namespace PF
open PySem PySem.Spec
theorem zx{x y:ac}(hx:plD x=true)(hy:plD y=true)(h:x≠y):vh (x::xs) (y::ys)=ltP x y:=by
 rw [ye,if_neg (fun z=> h ((zv x y hx hy).mp z))]
theorem af4{x:ac}(hx:plD x=true):vh (x::xs) (x::ys)=vh xs ys:=by
 rw [ye,if_pos (au8 hx)]
mutual
theorem a3r: ∀a:ac,plD a=true -> ltP a a≠some true
 |.none,_=> by simp [ltP]
 |.int i,_=> by simp [ltP]
 |.str i,_=> by rw [adf];simp [List.lt_irrefl]
 |.tuple xs,h=> by rw [xy];exact ap0 xs (by rw [←kz];exact h)
 |.bool _,h=> by simp [plD]at h
 |.list _,h=> by simp [plD]at h
 |.dict _,h=> by simp [plD]at h
theorem ap0: ∀xs:List ac,vq xs=true -> vh xs xs≠some true
 |[],_=> by rw [xw];simp
 |x::xs,h=> by
  rw [vb,aB]at h
  rw [af4 h.1]
  exact ap0 xs h.2
end
mutual
theorem axg: ∀a b:ac,plD a=true -> plD b=true -> ltP a b=some true -> ltP b a=some false
 |.int i,b,_,hb,h=> by
  cases b <;> simp [ltP]at h⊢
  lia
 |.str i,b,_,hb,h=> by
  cases b <;> simp [ltP]at h⊢
  exact List.le_of_lt h
 |.tuple xs,.tuple ys,ha,hb,h=> by
  rw [xy]at h⊢
  exact arn xs ys (by rw [←kz];exact ha) (by rw [←kz];exact hb) h
 |.tuple xs,.none,_,_,h=> by simp [ltP]at h
 |.tuple xs,.int _,_,_,h=> by simp [ltP]at h
 |.tuple xs,.str _,_,_,h=> by simp [ltP]at h
 |.tuple xs,.bool _,_,hb,_=> by simp [plD]at hb
 |.tuple xs,.list _,_,hb,_=> by simp [plD]at hb
 |.tuple xs,.dict _,_,hb,_=> by simp [plD]at hb
 |.none,_,_,_,h=> by simp [ltP]at h
 |.bool _,_,ha,_,_=> by simp [plD]at ha
 |.list _,_,ha,_,_=> by simp [plD]at ha
 |.dict _,_,ha,_,_=> by simp [plD]at ha
theorem arn: ∀xs ys:List ac,vq xs=true -> vq ys=true -> vh xs ys=some true -> vh ys xs=some false
 |[],[],_,_,h=> by rw [xw]at h;cases h
 |[],_::_,_,_,h=> by rw [vc]
 |_::_,[],_,_,h=> by rw [vc]at h;cases h
 | x::xs,y::ys,ha,hb,h=> by
  rw [vb,aB]at ha hb
  by_cases e:x=y
  ·subst e
   rw [af4 ha.1]at h⊢
   exact arn xs ys ha.2 hb.2 h
  ·rw [zx ha.1 hb.1 e]at h
   rw [zx hb.1 ha.1 (bY e)]
   exact axg x y ha.1 hb.1 h
end
theorem a54{a b:ac}(ha:plD a=true)(h:ltP a b=some true):a≠b:=fun e=> by subst e;exact a3r a ha h
mutual
theorem ar3: ∀a b:ac,plD a=true -> plD b=true -> ltP a b=some false -> a=b\/ltP b a=some true
 |.int i,b,_,hb,h=> by
  cases b <;> simp [ltP]at h⊢
  lia
 | .str i,b,_,hb,h=> by
  cases b with
  | str j=>
   simp [ltP]at h⊢
   rcases List.le_iff_lt_or_eq.mp h with z|z
   ·exact .inr z
   ·refine .inl ?_
    cases i;cases j
    simp at z
    simp [z]
  |_=> simp [ltP]at h
 |.tuple xs,.tuple ys,ha,hb,h=> by
  rw [xy]at h⊢
  rcases aoj xs ys (by rw [←kz];exact ha) (by rw [←kz];exact hb) h with z|z
  ·exact .inl (by rw [z])
  ·exact .inr z
 |.tuple xs,.none,_,_,h=> by simp [ltP]at h
 |.tuple xs,.int _,_,_,h=> by simp [ltP]at h
 |.tuple xs,.str _,_,_,h=> by simp [ltP]at h
 |.tuple xs,.bool _,_,hb,_=> by simp [plD]at hb
 |.tuple xs,.list _,_,hb,_=> by simp [plD]at hb
 |.tuple xs,.dict _,_,hb,_=> by simp [plD]at hb
 |.none,_,_,_,h=> by simp [ltP]at h
 |.bool _,_,ha,_,_=> by simp [plD]at ha
 |.list _,_,ha,_,_=> by simp [plD]at ha
 |.dict _,_,ha,_,_=> by simp [plD]at ha
theorem aoj: ∀xs ys:List ac,vq xs=true -> vq ys=true -> vh xs ys=some false -> xs=ys\/vh ys xs=some true
 |[],[],_,_,h=>.inl rfl
 |[],_::_,_,_,h=> by rw [xh]at h;cases h
 |_::_,[],_,_,h=>.inr xh
 | x::xs,y::ys,ha,hb,h=> by
  rw [vb,aB]at ha hb
  by_cases e:x=y
  ·subst e
   rw [af4 ha.1]at h⊢
   rcases aoj xs ys ha.2 hb.2 h with z|z
   ·exact .inl (by rw [z])
   ·exact .inr z
  ·rw [zx ha.1 hb.1 e]at h
   rw [zx hb.1 ha.1 (bY e)]
   rcases ar3 x y ha.1 hb.1 h with z|z
   ·exact absurd z e
   ·exact .inr z
end
mutual
theorem awz: ∀a b c:ac,plD a=true -> plD b=true -> plD c=true -> ltP a b=some true -> ltP b c=some true -> ltP a c=some true
 |.int i,b,c,_,_,_,h,k=> by
  cases b <;> simp [ltP]at h
  cases c <;> simp [ltP]at k⊢
  lia
 |.str i,b,c,_,_,_,h,k=> by
  cases b <;> simp [ltP]at h
  cases c <;> simp [ltP]at k⊢
  exact List.lt_trans h k
 |.tuple xs,.tuple ys,.tuple zs,ha,hb,hc,h,k=> by
  rw [xy]at h k⊢
  exact arp xs ys zs (by rw [←kz];exact ha) (by rw [←kz];exact hb) (by rw [←kz];exact hc) h k
 |.tuple xs,.tuple ys,.none,_,_,_,_,h=> by simp [ltP]at h
 |.tuple xs,.tuple ys,.int _,_,_,_,_,h=> by simp [ltP]at h
 |.tuple xs,.tuple ys,.str _,_,_,_,_,h=> by simp [ltP]at h
 |.tuple xs,.tuple ys,.bool _,_,_,hb,_,_=> by simp [plD]at hb
 |.tuple xs,.tuple ys,.list _,_,_,hb,_,_=> by simp [plD]at hb
 |.tuple xs,.tuple ys,.dict _,_,_,hb,_,_=> by simp [plD]at hb
 |.tuple xs,.none,_,_,_,_,h,_=> by simp [ltP]at h
 |.tuple xs,.int _,_,_,_,_,h,_=> by simp [ltP]at h
 |.tuple xs,.str _,_,_,_,_,h,_=> by simp [ltP]at h
 |.tuple xs,.bool _,_,_,hb,_,_,_=> by simp [plD]at hb
 |.tuple xs,.list _,_,_,hb,_,_,_=> by simp [plD]at hb
 |.tuple xs,.dict _,_,_,hb,_,_,_=> by simp [plD]at hb
 |.none,_,_,_,_,_,h,_=> by simp [ltP]at h
 |.bool _,_,_,ha,_,_,_,_=> by simp [plD]at ha
 |.list _,_,_,ha,_,_,_,_=> by simp [plD]at ha
 |.dict _,_,_,ha,_,_,_,_=> by simp [plD]at ha
theorem arp: ∀xs ys zs:List ac,vq xs=true -> vq ys=true -> vq zs=true -> vh xs ys=some true -> vh ys zs=some true -> vh xs zs=some true
 |[],ys,[],_,_,_,h,k=> by
  cases ys with
  |nil=> rw [xw]at h;cases h
  |cons y ys=> rw [vc]at k;cases k
 |[],_,_::_,_,_,_,_,_=> xh
 |_::_,[],_,_,_,_,h,_=> by rw [vc]at h;cases h
 |_::_,_::_,[],_,_,_,_,k=> by rw [vc]at k;cases k
 | x::xs,y::ys,z::zs,ha,hb,hc,h,k=> by
  rw [vb,aB]at ha hb hc
  by_cases e:x=y
  ·subst e
   rw [af4 ha.1]at h
   by_cases e2:x=z
   ·subst e2
    rw [af4 ha.1]at k⊢
    exact arp xs ys zs ha.2 hb.2 hc.2 h k
   ·rw [zx ha.1 hc.1 e2]at k⊢
    exact k
  ·rw [zx ha.1 hb.1 e]at h
   by_cases e2:y=z
   ·subst e2
    rw [zx ha.1 hb.1 e]
    exact h
   ·rw [zx hb.1 hc.1 e2]at k
    have t:=awz x y z ha.1 hb.1 hc.1 h k
    rw [zx ha.1 hc.1 (a54 ha.1 t)]
    exact t
end
def ltb(a b:ac):Bool:=match ltP a b with
 |some true=> true
 |_=> false
theorem aa7{a b:ac}:ltb a b=true ↔ ltP a b=some true:=by
 unfold ltb
 split
 ·rename_i h;simp [h]
 ·rename_i h
  constructor
  ·intro z;cases z
  ·intro z;exact absurd z h
def kh(ds:List ac):Bool:=ds.all fun a=> plD a&&ds.all fun b=> (ltP a b).isSome
theorem aaz(h:kh ds=true){a:ac}(m:a∈ds):plD a=true:=by
 have:=ay.mp h a m
 rw [aB]at this
 exact this.1
theorem af8(h:kh ds=true){a b:ac}(m:a∈ds)(k:b∈ds): ∃r,ltP a b=some r:=by
 have:=ay.mp h a m
 rw [aB]at this
 have:=ay.mp this.2 b k
 exact gj.mp this
theorem ahe(h:kh ds=true){a b:ac}(m:a∈ds)(k:b∈ds)(e:ltb a b=false):a=b\/ltb b a=true:=by
 obtain⟨r,hr⟩:=af8 h m k
 cases r with
 |true=> rw [aa7.mpr hr]at e;cases e
 |false=>
  rcases ar3 a b (aaz h m) (aaz h k) hr with z|z
  ·exact .inl z
  ·exact .inr (aa7.mpr z)
theorem al2(h:kh ds=true){a b:ac}(m:a∈ds)(k:b∈ds)(e:ltb a b=true):ltb b a=false:=by
 have:=axg a b (aaz h m) (aaz h k) (aa7.mp e)
 cases q:ltb b a with
 |false=> rfl
 |true=> rw [aa7.mp q]at this;cases this
theorem a16(h:kh ds=true){a b c:ac}(m:a∈ds)(k:b∈ds)(l:c∈ds)(e:ltb a b=true)(e2:ltb b c=true):ltb a c=true:=
 aa7.mpr (awz a b c (aaz h m) (aaz h k) (aaz h l) (aa7.mp e) (aa7.mp e2))
theorem anz(h:kh ds=true){a b c:ac}(m:a∈ds)(k:b∈ds)(l:c∈ds)(e:ltb a b=false)(e2:ltb b c=false):ltb a c=false:=by
 rcases ahe h m k e with rfl|z
 ·exact e2
 ·rcases ahe h k l e2 with rfl|z2
  ·exact e
  ·exact al2 h l m (a16 h l k m z2 z)
abbrev aaf(ds:List ac):Prop:=ds.Pairwise fun a b=> ltb b a=false
def aj4(x:ac):List ac -> List ac
 |[]=> [x]
 |y::r=> if ltb y x=true then y::aj4 x r else x::y::r
def j5:List ac -> List ac
 |[]=> []
 |x::r=> aj4 x (j5 r)
theorem agt(x:ac): ∀l:List ac,(aj4 x l).Perm (x::l)
 |[]=>.refl _
 |y::r=> by
  unfold aj4
  split
  ·exact ((agt x r).cons y).trans (.swap x y r)
  ·exact .refl _
theorem xn: ∀l:List ac,(j5 l).Perm l
 |[]=>.refl _
 |x::r=> (agt x _).trans ((xn r).cons x)
theorem amy{ds:List ac}(h:kh ds=true){x:ac}(hx:x∈ds): ∀l:List ac,(∀y∈l,y∈ds) -> aaf l -> aaf (aj4 x l)
 |[],_,_=> List.pairwise_singleton _ _
 | y::r,hl,hr=> by
  obtain⟨h1,h2⟩:=ce.mp hr
  have hy:=hl y av
  unfold aj4
  split
  ·rename_i c
   refine ce.mpr ⟨fun z hz=> ?_,amy h hx r (fun z hz=> hl z (aw _ hz)) h2⟩
   rcases aE.mp ((agt x r).mem_iff.mp hz) with rfl|hz
   ·exact al2 h hy hx c
   ·exact h1 z hz
  ·rename_i c
   have c':ltb y x=false:=by simpa using c
   refine ce.mpr ⟨fun z hz=> ?_,hr⟩
   (rcases aE.mp hz with rfl|hz)
   ·exact c'
   ·exact anz h (hl z (aw _ hz)) hy hx (h1 z hz) c'
theorem ahq{ds:List ac}(h:kh ds=true): ∀l:List ac,(∀y∈l,y∈ds) -> aaf (j5 l)
 |[],_=> gK
 |x::r,hl=> amy h (hl x av) _ (fun y hy=> hl y (aw _ ((xn r).mem_iff.mp hy))) (ahq h r fun y hy=> hl y (aw _ hy))
theorem ab9(h:kh ds=true):aaf (j5 ds):=ahq h ds fun _ y=> y
theorem awk{m:List ac}(h:kh ds=true)(pl:l.Perm ds)(pm:m.Perm ds)(hl:aaf l)(hm:aaf m):l=m:=by
 refine hJ.eq_of_pairwise (le:=fun a b=> ltb b a=false) ?_ hl hm (pl.trans pm.symm)
 intro a b ha hb e1 e2
 rcases ahe h (pm.mem_iff.mp hb) (pl.mem_iff.mp ha) e1 with z|z
 ·exact z.symm
 ·rw [e2]at z;cases z
theorem ae6(h:kh ds=true)(pl:l.Perm ds)(hl:aaf l):l=j5 ds:=awk h pl (xn ds) hl (ab9 h)
end PF
namespace KS
open PySem PySem.W PyProof.Rows
noncomputable def run{α:Type}(lt:Nat -> Nat -> Bool):KasT α -> α
 |.ret a=> a
 |.ask i j k=> run lt (k (lt i j))
section
variable{lt:Nat -> Nat -> Bool}
theorem aas{α β:Type}(f:α -> KasT β): ∀t:KasT α,run lt (t.bind f)=run lt (f (run lt t))
 |.ret a=> rfl
 |.ask i j k=> aas f (k (lt i j))
theorem zk{α:Type}(a:α):run lt (.ret a)=a:=rfl
theorem adl{α:Type}(i j:Nat)(k:Bool -> KasT α):run lt (.ask i j k)=run lt (k (lt i j)):=rfl
theorem abv{α:Type}(c:Prop)[Decidable c](a b:KasT α):run lt (if c then a else b)=if c then run lt a else run lt b:=by split <;> rfl
structure Swo (lt:Nat -> Nat -> Bool):Prop where
 tr: ∀{a b c},lt a b=false -> lt b c=false -> lt a c=false
 as: ∀{a b},lt a b=true -> lt b a=false
theorem Swo.irr(w:Swo lt)(a:Nat):lt a a=false:=by
 cases h:lt a a with
 |false=> rfl
 |true=> have:=w.as h;rw [h]at this;exact this
def Up(lt:Nat -> Nat -> Bool)(p:Array Nat)(m:Nat):Prop:= ∀k,0 < k -> k < m -> lt (p.getD k 0) (p.getD (k - 1) 0)=false
def zh(lt:Nat -> Nat -> Bool)(p:Array Nat)(m:Nat):Prop:= ∀k,0 < k -> k < m -> lt (p.getD (k - 1) 0) (p.getD k 0)=false
theorem Up.all(w:Swo lt){p:Array Nat}{m:Nat}(h:Up lt p m): ∀(d i:Nat),i+d < m -> lt (p.getD (i+d) 0) (p.getD i 0)=false
 |0,i,_=> w.irr _
 |d+1,i,hl=> by
  have a:=h (i+(d+1)) (by lia) hl
  rw [show i+(d+1) - 1=i+d by lia]at a
  exact w.tr a (Up.all w h d i (by lia))
theorem Up.le(w:Swo lt){p:Array Nat}{m:Nat}(h:Up lt p m){i j:Nat}(hij:i <=j)(hj:j < m):lt (p.getD j 0) (p.getD i 0)=false:=by
 have:=Up.all w h (j - i) i (by lia)
 rwa [show i+(j - i)=j by lia]at this
theorem zh.all(w:Swo lt){p:Array Nat}{m:Nat}(h:zh lt p m): ∀(d i:Nat),i+d < m -> lt (p.getD i 0) (p.getD (i+d) 0)=false
 |0,i,_=> w.irr _
 |d+1,i,hl=> by
  have a:=h (i+(d+1)) (by lia) hl
  rw [show i+(d+1) - 1=i+d by lia]at a
  exact w.tr (zh.all w h d i (by lia)) a
theorem zh.le(w:Swo lt){p:Array Nat}{m:Nat}(h:zh lt p m){i j:Nat}(hij:i <=j)(hj:j < m):lt (p.getD i 0) (p.getD j 0)=false:=by
 have:=zh.all w h (j - i) i (by lia)
 rwa [show i+(j - i)=j by lia]at this
theorem akz{p:Array Nat}: ∀(f n:Nat),0 < n -> Up lt p n -> n <=run lt (gA p f n)/\run lt (gA p f n) <=n+f/\Up lt p (run lt (gA p f n))/\(run lt (gA p f n) < n+f -> lt (p.getD (run lt (gA p f n)) 0) (p.getD (run lt (gA p f n) - 1) 0)=true)
 |0,n,_,h=> by
  rw [gA,zk]
  exact⟨ao _,ao _,h,fun z=> absurd z (by lia)⟩
 | f +1,n,h0,h=> by
  rw [gA,adl]
  cases e:lt (p.getD n 0) (p.getD (n - 1) 0) with
  |true=>
   rw [if_pos rfl,zk]
   exact⟨ao _,by lia,h,fun _=> e⟩
  | false=>
   rw [if_neg ax]
   have up:Up lt p (n+1):=fun k k0 k1=> by
    by_cases z:k < n
    ·exact h k k0 z
    ·have:k=n:=by lia
     subst this;exact e
   obtain⟨a,b,c,d⟩:=akz f (n+1) (by lia) up
   exact⟨by lia,by lia,c,fun z=> d (by lia)⟩
theorem agu(w:Swo lt){p:Array Nat}{k:Nat}(up:Up lt p k): ∀(f l r:Nat),l <=r -> r <=k -> r - l <=f -> (∀i,i < l -> lt (p.getD k 0) (p.getD i 0)=false) -> (∀i,r <=i -> i < k -> lt (p.getD k 0) (p.getD i 0)=true) ->
  run lt (gq p k f l r) <=k/\(∀i,i < run lt (gq p k f l r) -> lt (p.getD k 0) (p.getD i 0)=false)/\ ∀i,run lt (gq p k f l r) <=i -> i < k -> lt (p.getD k 0) (p.getD i 0)=true
 |0,l,r,hlr,hrk,hf,h1,h2=> by
  have:l=r:=by lia
  subst this
  rw [gq,zk]
  exact⟨hrk,h1,h2⟩
 | f +1,l,r,hlr,hrk,hf,h1,h2=> by
  rw [gq,abv]
  by_cases z:l≥r
  ·rw [if_pos z,zk]
   have:l=r:=by lia
   subst this
   exact⟨hrk,h1,h2⟩
  ·rw [if_neg z,adl]
   have m1:l <=(l+r)/2:=by lia
   have m2:(l+r)/2 < r:=by lia
   generalize (l+r)/2=m at m1 m2
   cases e:lt (p.getD k 0) (p.getD m 0) with
   | true=>
    rw [if_pos rfl]
    refine agu w up f l m m1 (by lia) (by lia) h1 fun i i0 i1=> ?_
    by_cases q:r <=i
    ·exact h2 i q i1
    ·cases e2:lt (p.getD k 0) (p.getD i 0) with
     |true=> rfl
     |false=>
      have:=w.tr e2 (up.le w (i:=m) (j:=i) i0 i1)
      rw [e]at this;cases this
   |false=>
    rw [if_neg ax]
    refine agu w up f (m+1) r (by lia) hrk (by lia) (fun i i0=> ?_) h2
    exact w.tr e (up.le w (i:=i) (j:=m) (by lia) (by lia))
end
section
variable{lt:Nat -> Nat -> Bool}
theorem gd(p:Array Nat)(k:Nat):p.getD k 0=(p[k]?).getD 0:=Array.getD_eq_getD_getElem? ..
theorem ao7{p:Array Nat}{k d:Nat}(hk:k < p.size)(hd:d <=k)(i:Nat):(bubble p k d).getD i 0=if i=k - d then p.getD k 0 else if k - d < i/\i <=k then p.getD (i - 1) 0 else p.getD i 0:=by
 rw [gd,getElem?_bubble hk d hd]
 by_cases c1:i=k - d
 ·rw [if_pos c1,if_pos c1];exact (gd p k).symm
 ·rw [if_neg c1,if_neg c1]
  by_cases c2:k - d < i/\i <=k
  ·rw [if_pos c2,if_pos c2];exact (gd p _).symm
  ·rw [if_neg c2,if_neg c2];exact (gd p _).symm
theorem yt{p:Array Nat}{i j:Nat}(hj:j <=p.size)(k:Nat):(hW p i j).getD k 0=if i <=k/\k < j then p.getD (i+j - 1 - k) 0 else p.getD k 0:=by
 unfold hW
 rw [gd,getElem?_mirror_all hj]
 split <;> rw [gd]
theorem yo(p:Array Nat)(i j:Nat):(hW p i j).Perm p:=mirror_perm _ _ _ _
theorem an6(p:Array Nat)(i j:Nat):(hW p i j).size=p.size:=mirror_size _ _ _ _
theorem art(w:Swo lt): ∀(f:Nat) (p:Array Nat) (k:Nat),k+f=p.size -> Up lt p k -> (run lt (nG f p k)).Perm p/\Up lt (run lt (nG f p k)) p.size
 |0,p,k,hs,up=> by
  rw [nG,zk]
  have:k=p.size:=by lia
  subst this
  exact⟨.refl _,up⟩
 | f +1,p,k,hs,up=> by
  rw [nG,aas]
  obtain⟨l1,l2,l3⟩:=agu w up k 0 k (bP _) (ao _) (by lia) (fun i h=> absurd h (Nat.not_lt_zero _)) (fun i h1 h2=> absurd h2 (by lia))
  generalize run lt (gq p k k 0 k)=l at l1 l2 l3
  have hk:k < p.size:=by lia
  have up1:Up lt (bubble p k (k - l)) (k+1):=fun i i0 i1=> by
   rw [ao7 hk (by lia),ao7 hk (by lia),show k - (k - l)=l by lia]
   by_cases c1:i < l
   ·rw [if_neg (by lia),if_neg (by lia),if_neg (by lia),if_neg (by lia)]
    exact up i i0 (by lia)
   ·by_cases c2:i=l
    ·subst c2
     rw [if_pos rfl,if_neg (by lia),if_neg (by lia)]
     exact l2 (i - 1) (by lia)
    ·by_cases c3:i=l+1
     ·subst c3
      rw [if_neg (by lia),if_pos (by lia),if_pos (by lia)]
      exact w.as (l3 _ (by lia) (by lia))
     ·rw [if_neg (by lia),if_pos (by lia),if_neg (by lia),if_pos (by lia)]
      exact up (i - 1) (by lia) (by lia)
  obtain⟨a,b⟩:=art w f (bubble p k (k - l)) (k+1) (by rw [bubble_size];lia) up1
  exact⟨a.trans (bubble_perm _ _ _),by rw [bubble_size]at b;exact b⟩
def Seg(lt:Nat -> Nat -> Bool)(p:Array Nat)(n q:Nat):Prop:= ∀k,n - 1 - q < k -> k < n -> lt (p.getD k 0) (p.getD (k - 1) 0)=false
theorem amq(w:Swo lt){p:Array Nat}{q:Nat}(hn:n <=p.size)(hq:q < n)(d:zh lt p n)(s:Seg lt p n q):zh lt (hW p (n - (q+1)) n) n:=fun k k0 k1=> by
 rw [yt hn,yt hn]
 by_cases c1:k < n - (q+1)
 ·rw [if_neg (by lia),if_neg (by lia)]
  exact d k k0 k1
 ·by_cases c2:k=n - (q+1)
  ·rw [if_neg (by lia),if_pos (by lia)]
   exact d.le w (by lia) (by lia)
  ·rw [if_pos (by lia),if_pos (by lia)]
   have:=s (n - (q+1)+n - 1 - (k - 1)) (by lia) (by lia)
   rwa [show n - (q+1)+n - 1 - (k - 1) - 1=n - (q+1)+n - 1 - k by lia]at this
theorem a2a{p:Array Nat}(hn:n <=p.size)(d:zh lt p n):Up lt (hW p 0 n) n:=fun k k0 k1=> by
 rw [yt hn,yt hn,if_pos (by lia),if_pos (by lia)]
 have:=d (0+n - 1 - (k - 1)) (by lia) (by lia)
 rwa [show 0+n - 1 - (k - 1) - 1=0+n - 1 - k by lia]at this
theorem a1t{p:Array Nat}(hn:n <=p.size)(d:Up lt p n):zh lt (hW p 0 n) n:=fun k k0 k1=> by
 rw [yt hn,yt hn,if_pos (by lia),if_pos (by lia)]
 have:=d (0+n - 1 - (k - 1)) (by lia) (by lia)
 rwa [show 0+n - 1 - (k - 1) - 1=0+n - 1 - k by lia]at this
theorem aba{p:Array Nat}(d:zh lt p n)(h:lt (p.getD (n - 1) 0) (p.getD n 0)=false):zh lt p (n+1):=fun k k0 k1=> by
 by_cases z:k < n
 ·exact d k k0 z
 ·have:k=n:=by lia
  subst this;exact h
structure DescOk (lt:Nat -> Nat -> Bool) (p:Array Nat) (n f:Nat) (r:Array Nat×Nat×Nat):Prop where
 pm:r.1.Perm p
 n1:n <=r.2.1
 n2:r.2.1 <=n+f
 q1:r.2.2 < r.2.1
 dn:zh lt r.1 r.2.1
 sg:Seg lt r.1 r.2.1 r.2.2
theorem afy(w:Swo lt): ∀(f:Nat) (p:Array Nat) (n q:Nat),n+f <=p.size -> q < n -> zh lt p n -> Seg lt p n q -> DescOk lt p n f (run lt (ml f p n q))
 |0,p,n,q,hs,hq,d,s=> by
  rw [ml,zk]
  exact⟨.refl _,ao _,ao _,hq,d,s⟩
 | f +1,p,n,q,hs,hq,d,s=> by
  rw [ml,adl]
  cases e:lt (p.getD n 0) (p.getD (n - 1) 0) with
  | true=>
   rw [if_pos rfl,abv]
   have sg0: ∀p:Array Nat,Seg lt p (n+1) 0:=fun p k k0 k1=> absurd k1 (by lia)
   by_cases z:q > 0
   ·rw [if_pos z]
    have hn:n <=p.size:=by lia
    have d1:zh lt (hW p (n - (q+1)) n) (n+1):=by
     refine aba (amq w hn hq d s) ?_
     rw [yt hn,yt hn,if_pos (by lia),if_neg (by lia),show n - (q+1)+n - 1 - (n - 1)=n - (q+1) by lia]
     exact w.tr (d.le w (i:=n - (q+1)) (j:=n - 1) (by lia) (by lia)) (w.as e)
    obtain⟨a1,a2,a3,a4,a5,a6⟩:=afy w f _ (n+1) 0 (by rw [an6];lia) (by lia) d1 (sg0 _)
    exact⟨a1.trans (yo _ _ _),by lia,by lia,a4,a5,a6⟩
   ·rw [if_neg z]
    obtain⟨a1,a2,a3,a4,a5,a6⟩:=afy w f p (n+1) 0 (by lia) (by lia) (aba d (w.as e)) (sg0 _)
    exact⟨a1,by lia,by lia,a4,a5,a6⟩
  | false=>
   rw [if_neg ax,adl]
   cases e2:lt (p.getD (n - 1) 0) (p.getD n 0) with
   |true=>
    rw [if_pos rfl,zk]
    exact⟨.refl _,ao _,by simp,hq,d,s⟩
   | false=>
    rw [if_neg ax]
    have s1:Seg lt p (n+1) (q+1):=fun k k0 k1=> by
     by_cases z:k < n
     ·exact s k (by lia) z
     ·have:k=n:=by lia
      subst this;exact e
    obtain⟨a1,a2,a3,a4,a5,a6⟩:=afy w f p (n+1) (q+1) (by lia) (by lia) (aba d e2) s1
    exact⟨a1,by lia,by lia,a4,a5,a6⟩
structure CountOk (lt:Nat -> Nat -> Bool) (p:Array Nat) (nrem:Nat) (r:Nat×Array Nat):Prop where
 pm:r.2.Perm p
 n1:1 <=r.1
 n2:r.1 <=nrem
 up:Up lt r.2 r.1
theorem amv{p p0:Array Nat}{nrem:Nat}(h0:0 < n)(hn:n <=nrem)(hz:nrem <=p.size)(pm:p.Perm p0)(d:zh lt p n):CountOk lt p0 nrem (run lt (ny n nrem p)):=by
 unfold ny
 rw [aas,zk]
 obtain⟨a,b,c,_⟩:=akz (lt:=lt) (p:=hW p 0 n) (nrem - n) n h0 (a2a (by lia) d)
 exact⟨(yo _ _ _).trans pm,by show 1 <=_;lia,by show _ <=nrem;lia,c⟩
theorem aga(w:Swo lt){p p0:Array Nat}{nrem:Nat}(h0:0 < n)(hn:n+1 <=nrem)(hz:nrem <=p.size)(pm:p.Perm p0)(d:zh lt p (n+1)):CountOk lt p0 nrem (run lt (nz n nrem p)):=by
 unfold nz
 rw [aas]
 have D:=afy w (nrem - (n+1)) p (n+1) 0 (by lia) (by lia) d (fun k k0 k1=> absurd k1 (by lia))
 generalize run lt (ml (nrem - (n+1)) p (n+1) 0)=r at D
 obtain⟨a1,a2,a3,a4,a5,a6⟩:=D
 have sz:r.1.size=p.size:=a1.size_eq
 rw [abv]
 split
 ·exact amv (by lia) (by lia) (by rw [an6];lia) ((yo _ _ _).trans (a1.trans pm)) (amq w (by lia) a4 a5 a6)
 ·exact amv (by lia) (by lia) (by lia) (a1.trans pm) a5
theorem avi(w:Swo lt){p:Array Nat}{nrem:Nat}(h1:1 <=nrem)(hz:nrem=p.size):CountOk lt p nrem (run lt (nA nrem p)):=by
 unfold nA
 rw [aas]
 obtain⟨a,b,c,d⟩:=akz (lt:=lt) (p:=p) (nrem - 1) 1 (by lia) (fun k k0 k1=> absurd k1 (by lia))
 generalize run lt (gA p (nrem - 1) 1)=n at a b c d
 rw [abv]
 split
 ·rename_i e
  exact⟨.refl _,a,by show n <=nrem;lia,c⟩
 ·rename_i e
  have hne:n≠nrem:=fun z=> e (by subst z;exact beq_self_eq_true n)
  have d':=d (by lia)
  rw [abv]
  split
  ·rename_i h
   rw [adl]
   cases e2:lt (p.getD 0 0) (p.getD (n - 1) 0) with
   |true=>
    rw [if_pos rfl,zk]
    exact⟨.refl _,a,by show n <=nrem;lia,c⟩
   |false=>
    rw [if_neg ax]
    refine aga w (by lia) (by lia) (by rw [an6];lia) (yo _ _ _) (aba (a1t (by lia) c) ?_)
    rw [yt (by lia),yt (by lia),if_pos (by lia),if_neg (by lia),show 0+n - 1 - (n - 1)=0 by lia]
    exact w.tr e2 (w.as d')
  ·rename_i h
   have:n=1:=by lia
   subst this
   exact aga w (by lia) (by lia) (by lia) (.refl _) (aba (fun k k0 k1=> absurd k1 (by lia)) (w.as d'))
theorem ay9(w:Swo lt)(h1:1 <=n):(run lt (kD n)).Perm (fE (a9 n))/\Up lt (run lt (kD n)) n:=by
 unfold kD
 rw [aas]
 have hz:n=(fE (a9 n)).size:=by simp
 obtain⟨a,b,c,d⟩:=avi w (p:=fE (a9 n)) h1 hz
 generalize run lt (nA n (fE (a9 n)))=r at a b c d
 have sz:r.2.size=n:=by rw [a.size_eq];exact hz.symm
 rw [abv]
 split
 ·rw [show max r.1 1=r.1 by lia]
  obtain⟨e,f⟩:=art w (n - r.1) r.2 r.1 (by lia) d
  exact⟨e.trans a,by rw [sz]at f;exact f⟩
 ·rename_i h
  have:r.1=n:=by lia
  rw [this]at d
  exact⟨a,d⟩
end
def ab2{α:Type}(n:Nat):KasT α -> (α -> Prop) -> Prop
 |.ret a,P=> P a
 |.ask i j k,P=> i < n/\j < n/\ ∀b,ab2 n (k b) P
section
variable{lt:Nat -> Nat -> Bool}{n:Nat}
theorem aa8{α β:Type}{f:α -> KasT β}{P:α -> Prop}{P':β -> Prop}(h: ∀a,P a -> ab2 n (f a) P'): ∀t:KasT α,ab2 n t P -> ab2 n (t.bind f) P'
 |.ret a,q=> h a q
 |.ask i j k,q=> ⟨q.1,q.2.1,fun b=> aa8 h (k b) (q.2.2 b)⟩
theorem asd{α:Type}{cmp:Nat -> Nat -> (Bool -> ag -> Prop) -> ag -> Prop}{s:ag}{P:α -> Prop}{Q:α -> ag -> Prop}(hc: ∀i j (C:Bool -> ag -> Prop),i < n -> j < n -> C (lt i j) s -> cmp i j C s): ∀t:KasT α,ab2 n t P -> Q (run lt t) s -> t.kasWp cmp Q s
 |.ret a,_,q=> q
 |.ask i j k,a,q=> hc i j _ a.1 a.2.1 (asd hc (k (lt i j)) (a.2.2 _) q)
def All(n:Nat)(p:Array Nat):Prop:= ∀x∈p.toList,x < n
theorem All.get{p:Array Nat}(h:All n p)(h0:0 < n)(k:Nat):p.getD k 0 < n:=by
 rw [gd]
 cases e:p[k]? with
 |none=> exact h0
 |some x=> exact h x (by rw [←bj]at e;exact bp e)
theorem All.perm{p q:Array Nat}(h:All n p)(e:q.Perm p):All n q:=fun x hx=> h x ((i8.mp e).mem_iff.mp hx)
theorem agk{p:Array Nat}(h:All n p)(h0:0 < n): ∀f m:Nat,ab2 n (gA p f m) fun _=> True
 |0,m=> trivial
 |f+1,m=> ⟨h.get h0 _,h.get h0 _,fun b=> by
  cases b with
  |true=> dsimp only;rw [if_pos rfl];trivial
  |false=> dsimp only;rw [if_neg ax];exact agk h h0 f (m+1)⟩
theorem acw(h0:0 < n): ∀(f:Nat) (p:Array Nat) (m q:Nat),All n p -> ab2 n (ml f p m q) fun r=> All n r.1
 |0,p,m,q,h=> h
 | f+1,p,m,q,h=> ⟨h.get h0 _,h.get h0 _,fun b=> by
  cases b with
  |true=>
   dsimp only;rw [if_pos rfl]
   split
   ·exact acw h0 f _ _ _ (h.perm (yo _ _ _))
   ·exact acw h0 f _ _ _ h
  | false=>
   dsimp only;rw [if_neg ax]
   exact⟨h.get h0 _,h.get h0 _,fun b=> by
    cases b with
    |true=> dsimp only;rw [if_pos rfl];exact h
    |false=> dsimp only;rw [if_neg ax];exact acw h0 f _ _ _ h⟩⟩
theorem ahu(h0:0 < n){p:Array Nat}(h:All n p)(m r:Nat):ab2 n (ny m r p) fun x=> All n x.2:=by
 unfold ny
 refine aa8 (P:=fun _=> True) (fun a _=> ?_) _ (agk (h.perm (yo _ _ _)) h0 _ _)
 exact h.perm (yo _ _ _)
theorem aej(h0:0 < n){p:Array Nat}(h:All n p)(m r:Nat):ab2 n (nz m r p) fun x=> All n x.2:=
 aa8 (fun a ha=> by
  split
  ·exact ahu h0 (All.perm ha (yo _ _ _)) _ _
  ·exact ahu h0 ha _ _) _ (acw h0 _ _ _ _ h)
theorem aqf(h0:0 < n){p:Array Nat}(h:All n p)(r:Nat):ab2 n (nA r p) fun x=> All n x.2:=
 aa8 (fun a _=> by
  split
  ·exact h
  ·split
   ·exact⟨h.get h0 _,h.get h0 _,fun b=> by
     cases b with
     |true=> dsimp only;rw [if_pos rfl];exact h
     |false=> dsimp only;rw [if_neg ax];exact aej h0 (h.perm (yo _ _ _)) _ _⟩
   ·exact aej h0 h _ _) _ (agk h h0 _ _)
theorem adu(h0:0 < n){p:Array Nat}(h:All n p)(k:Nat): ∀f l r:Nat,ab2 n (gq p k f l r) fun _=> True
 |0,l,r=> trivial
 |f+1,l,r=> by
  rw [gq]
  split
  ·trivial
  ·exact⟨h.get h0 _,h.get h0 _,fun b=> by
    cases b with
    |true=> dsimp only;rw [if_pos rfl];exact adu h0 h k f _ _
    |false=> dsimp only;rw [if_neg ax];exact adu h0 h k f _ _⟩
theorem ama(h0:0 < n): ∀(f:Nat) (p:Array Nat) (k:Nat),All n p -> ab2 n (nG f p k) fun _=> True
 |0,p,k,h=> trivial
 |f+1,p,k,h=> aa8 (fun l _=> ama h0 f _ _ (h.perm (bubble_perm _ _ _))) _ (adu h0 h k _ _ _)
theorem arz(h0:0 < n):ab2 n (kD n) fun _=> True:=
 aa8 (fun r hr=> by
  split
  ·exact ama h0 _ _ _ hr
  ·trivial) _ (aqf h0 (fun x hx=> by simpa using hx) n)
end
section
variable{prog:aI}{w:aM}{A:aZ}{E:ae -> ag -> Prop}{s:ag}
theorem awm(vs:List ae):(vs.toArray.zip vs.toArray).map (·.2)=vs.toArray:=by
 apply Array.toList_inj.mp
 rw [Array.toList_map,ksk_zip]
 show (vs.zip vs).map Prod.snd=vs
 rw [List.map_snd_zip (ao _)]
theorem apz(vs:List ae):(a9 vs.length).map (fun i=> vs.getD i aV)=vs:=by
 apply cS
 intro i
 rw [aR]
 by_cases h:i < vs.length
 ·rw [eW h,aq h]
  simp [h]
 ·rw [df.mpr (by simpa using h),df.mpr (by simpa using h)];rfl
theorem aw4{vs:List ae}{lt:Nat -> Nat -> Bool}{P:PySem.Fin -> ag -> Prop}(ho:s.heap.get? a=some (seqObj "list" vs.toArray n))(h64:vs.length < 64)(wo:Swo lt)(hk:2 <=vs.length -> ∀s':ag,(∀b o,b≠a -> s.heap.get? b=some o -> s'.heap.get? b=some o) ->
   wpAny (model prog w) A (keyKind' vs.toArray) (fun κ s''=> s''=s'/\ ∀(i j:Nat) (C:Bool -> ag -> Prop),i < vs.length -> j < vs.length -> C (lt i j) s' -> wpAny (model prog w) A (keyLt' κ (vs.getD i aV) (vs.getD j aV)) C (fun _ _=> False) s') (fun _ _=> False) s') (h: ∀p:List Nat,p.Perm (a9 vs.length) -> p.Pairwise (fun i j=> lt j i=false) -> P (.done (.ret .none)) {s with heap:=sortedHeap s.heap a vs (p.map fun i=> vs.getD i aV).toArray}):
  wpAny (model prog w) A (cG.«list.sort» ⟨[.ref a],[]⟩) P E s:=by --
 rw [list_sort_plain]
 (have ha:a < s.heap.objs.size:=aD ho)
 (refine aa (listItems_at ho rfl ?_))
 (refine aa (mN ho rfl ?_ (by rw [aC,b6];lia) (bP _)))
 obtain⟨e1,ho1⟩: ∃e1,(s.heap.update a (dP fun _=> (#[]:Array ae))).get? a=some (seqObj "list" #[] e1):=⟨_,get?_update_seq ho (fun _=> #[])⟩
 (refine aa (nR ho1 rfl ?_))
 (refine aa (wpAny_newTuple ?_ (by show vs.length <=_;rw [b6];lia)))
 (refine aa (mO ?_ (bP _)))
 (refine bo ?_)
 generalize hh:((s.heap.update a (dP fun _=> (#[]:Array ae))).push (seqObj "tuple" vs.toArray 0)).push (seqObj "list" #[] 0)=h6
 have ho6:h6.get? a=some (seqObj "list" #[] e1):=by
  rw [←hh,fy _ _ _ (by rw [size_push',gY];exact aH (cq ha)),fy _ _ _ (by rw [gY];exact aH ha)]
  exact ho1
 have kp: ∀b o,b≠a -> s.heap.get? b=some o -> h6.get? b=some o:=fun b o hb e=> by
  have hlt:b < s.heap.objs.size:=aD e
  rw [←hh,fy _ _ _ (by rw [size_push',gY];exact aH (cq hlt)),fy _ _ _ (by rw [gY];exact aH hlt),Heap.get?_update_ne _ _ _ _ hb]
  exact e
 show wpAny (model prog w) A _ P E {s with heap:=h6}
 have hz: ∀out:Array ae,sortedHeap s.heap a vs out=h6.update a (dP fun _=> out):=fun out=> by rw [←hh];rfl
 dsimp only
 by_cases h2:vs.toArray.size < 2 --
 ·rw [if_pos h2,if_pos h2]
  refine aa (af ?_)
  rw [StateT.run_pure]
  refine aa (af ?_)
  dsimp only
  (refine aa (nR ho6 rfl ?_))
  have e0:(arrOf (SortSt.mk' general' (vs.toArray.zip vs.toArray) #[] 7 none)).map (·.2)=vs.toArray:=awm vs
  rw [e0]
  refine aa (mN ho6 rfl ?_ (bP _) (by rw [aC,b6];lia))
  (simp only [bne_self_eq_false,aT,if_false])
  have t:=h (a9 vs.length) (hJ.refl _) (by
   rw [aC]at h2
   match hv:vs.length with
   |0=> simp
   |1=> simp
   |k+2=> lia)
  rw [apz,hz]at t
  exact af t
 ·rw [if_neg h2,if_neg h2]
  have h2':2 <=vs.length:=by rw [aC]at h2;lia
  refine aa (bw (hk h2' {s with heap:=h6} kp) ?_ fun _ _ x=> x.elim)
  rintro κ _ ⟨rfl,ask⟩
  have hw:(kD vs.length).kasWp (kas_ask prog w A κ vs) (fun p s'=> s'={s with heap:=h6}/\p.Perm (fE (a9 vs.length))/\Up lt p vs.length) {s with heap:=h6}:=
   asd (lt:=lt) (n:=vs.length) (fun i j C hi hj hC=> ask i j C hi hj hC) (kD vs.length) (arz (by lia)) ⟨rfl,ay9 wo (by lia)⟩
  refine aa (bw (kat_run (Q:=fun st' s'=> ∃p:Array Nat,p.size=vs.length/\arrOf st'=p.map (kas_item (vs.toArray.zip vs.toArray))/\failedOf st'=none/\s'={s with heap:=h6}/\p.Perm (fE (a9 vs.length))/\Up lt p vs.length)
   rfl h2' h64 (fun p' st' s' a1 a2 a3 a4=> ⟨p',a1,a2,a3,a4⟩) hw) ?_ fun _ _ e=> e)
  rintro⟨⟨⟩,st'⟩ s' ⟨p,hp,har,hf,rfl,pm,up⟩
  dsimp only
  have hout:=kat_snds rfl har
  rw [hout]
  (refine aa (nR ho6 rfl ?_))
  have hsz:(fE (p.toList.map fun i=> vs.getD i aV)).size <=sizeLine:=by rw [aC,am,au,hp,b6];lia
  refine aa (mN ho6 rfl ?_ (bP _) (Nat.le_succ_of_le hsz))
  rw [hf]
  (simp only [bne_self_eq_false,aT,if_false])
  have t:=h p.toList (by have:=i8.mp pm;simpa using this) (by
   (rw [f6])
   intro i j hi hj hij
   rw [au]at hi hj
   have u:=Up.le wo up (gf hij) (by lia)
   simpa [cO,hi,hj] using u)
  rw [hz]at t
  exact af t
end
end KS
namespace PF
open PySem PySem.Spec PySem.W PyProof.Rows
open PySem.SeqAt
noncomputable def tyD:ac -> String
 |.none=> "NoneType"
 |.bool _=> "bool"
 |.int _=> "int"
 |.str _=> "str"
 |.list _=> "list"
 |.tuple _=> "tuple"
 |.dict _=> "dict"
section
variable{prog:aI}{w:aM}{A:aZ}{E:ae -> ag -> Prop}{s:ag}
theorem asl{v:ae}{d:ac}{bs:List Addr}(h:ck s.heap v d bs):s.TypeIs v (tyD d):=by
 cases h with
 |none=> exact iK s
 |bool b=> exact PySem.typeIs_bool s b
 |int i t=> exact typeIs_int s i t
 |str x t=> exact typeIs_str s x t
 |list h1 h2 h3 h4=> exact⟨_,h1,h2⟩
 |tuple h1 h2 h3 h4=> exact⟨_,h1,h2⟩
 |dict h1 h2 h3 h4 h5=> exact⟨_,h1,h2⟩
theorem akf{x y:ae}{Q:Bool -> ag -> Prop}(h:ajc A s x y b)(q:Q b s):wpAny (model prog w) A (oneLt' false x y) Q E s:=
 kat_one x y (h prog w E _ (show PySem.W.BoolBack Q (.bool b) s from q))
theorem av4{l b:Addr}{us ws:Array ae}{r:Bool}{Q:Bool -> ag -> Prop}(hl:s.heap.IsTuple l us)(hb:s.heap.IsTuple b ws)(hu:A.units < cLine)(lx:LexAt A.in1 s (decide (us.size < ws.size)) (us.toList.zip ws.toList) r)(q:Q r s):wpAny (model prog w) A (oneLt' true (.ref l) (.ref b)) Q E s:=by
 obtain⟨⟨c1,d1,e1,s1⟩,o1,k1,n1,q1⟩:=id hl
 obtain⟨⟨c2,d2,e2,s2⟩,o2,k2,n2,q2⟩:=id hb
 simp only at k1 q1 k2 q2
 subst k1 q1 k2 q2
 rw [oneLt'_eq]
 simp only [if_true]
 (refine aa (wpAny_cRoomFor hu ?_))
 refine aa (wpAny_callSpecialIfBound?_slot (T:="tuple") (id:="tuple.__lt__") ⟨_,o1,rfl⟩ lh ?_)
 refine l6 lh ⟨_,o1,rfl⟩ F.entry_tuple_lt (F.args_tuple_lt_2 _ _) (asm l b us ws n1 n2 d1 d2 s1 s2 r) ⟨o1,o2,lx,?_⟩
 show wpAny (model prog w) A (truthOfDropped (.bool r)>>=fun x=> pure x) Q E s
 exact aa (jE (af q))
theorem aef: ∀{vs:List ae} {ds:List ac} {bs:List Addr} {Q:List ae -> ag -> Prop},cf s.heap vs ds bs -> Q (ds.map fun d=> bu (tyD d)) s -> wpAny (model prog w) A (vs.mapM typeOf) Q E s
 |_,_,_,_,.nil,h=> by rw [List.mapM_nil];exact af h
 |_,_,_,_,.cons r rs,h=> by
  rw [List.mapM_cons]
  exact aa (eQ (asl r) (aa (aef rs (af h))))
inductive Fsts (h:Heap):List ac -> List (Option ae) -> Prop
 |nil:Fsts h [] []
 |no {ds:List ac} {fs:List (Option ae)}:Fsts h ds fs -> Fsts h (.tuple []::ds) (none::fs)
 |yes {ds xs:List ac} {x:ac} {u:ae} {bs:List Addr} {fs:List (Option ae)}:ck h u x bs -> Fsts h ds fs -> Fsts h (.tuple (x::xs)::ds) (some u::fs)
theorem ajk: ∀{vs:List ae} {ds:List ac} {bs:List Addr},cf s.heap vs ds bs -> (∀d∈ds,∃xs,d=.tuple xs) -> ∃fs,Fsts s.heap ds fs/\ ∀{Q:List (Option ae) -> ag -> Prop},Q fs s -> wpAny (model prog w) A (vs.mapM firstOfTuple') Q E s
 |_,_,_,.nil,_=> ⟨[],.nil,fun h=> by rw [List.mapM_nil];exact af h⟩
 | _, _,_,.cons (v:=v) r rs,ht=> by
  obtain⟨fs,F,k⟩:=ajk rs fun d hd=> ht d (aw _ hd)
  obtain⟨xs,e⟩:=ht _ av
  subst e
  cases r with
  | @tuple a o us n _ _ h1 h2 h3 h4=>
   have go: ∀f:Option ae,us[0]?=f -> ∀{Q:List (Option ae) -> ag -> Prop},Q (f::fs) s -> wpAny (model prog w) A ((bn a::_).mapM firstOfTuple') Q E s:=fun f hf Q h=> by
    rw [List.mapM_cons,kas_first_eq]
    refine aa (aa (eQ (T:="tuple") ⟨_,h1,h2⟩ ?_))
    rw [if_neg (by simp)]
    refine aa (listItems_at h1 h3 (af ?_))
    rw [hf]
    exact aa (k (af h))
   cases xs with
   | nil=>
    have:us[0]?=none:=by
     have e:us.toList=[]:=by cases h5:us.toList with
      |nil=> rfl
      |cons a b=> rw [h5]at h4;cases h4
     rw [←bj,e];rfl
    exact⟨_,.no F,go _ this⟩
   | cons x xs=>
    cases h5:us.toList with
    |nil=> rw [h5]at h4;cases h4
    |cons u t=>
     rw [h5]at h4
     cases h4 with
     |cons r1 r2=> exact⟨_,.yes r1 F,go _ (by rw [←bj,h5];rfl)⟩
theorem an7: ∀{ds:List ac} {fs:List (Option ae)},Fsts s.heap ds fs -> fs.all (·.isSome)=true -> ∃xs us bs,fs=us.map some/\cf s.heap us xs bs/\xs.length=ds.length/\ ∀(i:Nat) (d:ac),ds[i]?=some d -> ∃x r,xs[i]?=some x/\d=.tuple (x::r)
 |_,_,.nil,_=> ⟨[],[],_,rfl,.nil,rfl,fun i d e=> by simp at e⟩
 |_,_,.no F,h=> by simp at h
 |_,_,.yes r F,h=> by
  obtain⟨xs,us,bs,e,ra,hl,k⟩:=an7 F (by simpa using h)
  refine⟨_::xs,_::us,_,by rw [e];rfl,.cons r ra,by simp [hl],fun i d e=> ?_⟩
  cases i with
  |zero=> simp at e;subst e;exact⟨_,_,rfl,rfl⟩
  |succ i=> simpa using k i d (by simpa using e)
def ax3(ds:List ac)(κ:mq):Prop:=κ=general'\/κ=oneType'\/ ∃b,κ=tuples' b/\(b=true -> ∃T:String,T≠"tuple"/\ ∀d∈ds,∃x r,d=.tuple (x::r)/\tyD x=T)
theorem awo{vs:List ae}{bs:List Addr}(ra:cf s.heap vs ds bs)(ht: ∀d∈ds,∃xs,d=.tuple xs)(hn:ds≠ []): ∃κ,ax3 ds κ/\ ∀{Q:mq -> ag -> Prop},Q κ s -> wpAny (model prog w) A (keyKind' vs.toArray) Q E s:=by
 obtain⟨fs,F,k⟩:=ajk (prog:=prog) (w:=w) (A:=A) (E:=E) ra ht
 have hk: ∀{Q:mq -> ag -> Prop},wpAny (model prog w) A (do
   if fs.toArray.all (·.isSome) then
    rule "list.sort.keys-are-tuples" --
    return tuples' ((←oneTypeOnly' (fs.toArray.filterMap id)).any (· !=.type "tuple"))
   if (fs.toArray[0]?.bind id).isSome then return general'
   return if (←oneTypeOnly' vs.toArray).isSome then oneType' else general') Q E s -> wpAny (model prog w) A (keyKind' vs.toArray) Q E s:=fun {Q} h=> by
  (rw [keyKind'_eq,gO,map_eq_pure_bind])
  exact aa (aa (k (af h)))
 by_cases ha:fs.all (·.isSome)=true
 ·obtain⟨xs,us,cs,e,ru,hl,kk⟩:=an7 F ha
  have e1:fs.toArray.all (·.isSome)=true:=by simpa using ha
  have e2:fs.toArray.filterMap id=us.toArray:=by rw [e];simp
  obtain⟨x0,xr,hx⟩: ∃x0 xr,xs=x0::xr:=by
   cases xs with
   |nil=> rw [dA]at hl;exact absurd (gH.mp hl.symm) hn
   |cons a b=> exact⟨a,b,rfl⟩
  by_cases hT:xs.all (fun x=> decide (tyD x=tyD x0))=true
  ·refine⟨tuples' (bu (tyD x0) !=bu "tuple"),.inr (.inr ⟨_,rfl,fun hb=> ⟨tyD x0,fun z=> ?_,fun d hd=> ?_⟩⟩),fun {Q} h=> hk ?_⟩
   ·rw [z]at hb;simp at hb
   ·obtain⟨i,hi⟩:=hV.mp hd
    obtain⟨x,r,h1,h2⟩:=kk i d hi
    exact⟨x,r,h2,of_decide_eq_true (ay.mp hT x (bp h1))⟩
   ·rw [if_pos e1,e2]
    refine aa (cn ?_)
    (rw [oneTypeOnly'_eq,gO,map_eq_pure_bind])
    refine aa (aa (aa (aef ru (af ?_))))
    rw [hx]
    have h0:(fP (fun d=> bu (tyD d)) (x0::xr)).toArray[0]?=some (bu (tyD x0)):=by simp
    have hall:((fP (fun d=> bu (tyD d)) (x0::xr)).toArray.all fun x=> x==bu (tyD x0))=true:=by
     (simp only [kE,dQ,ay])
     intro y hy
     have:=of_decide_eq_true (ay.mp hT y (by rw [hx];exact hy))
     simp [this]
    rw [h0]
    simp only [hall,if_true]
    (exact af (af h))
  ·refine⟨tuples' false,.inr (.inr ⟨_,rfl,fun hb=> by cases hb⟩),fun {Q} h=> hk ?_⟩
   rw [if_pos e1,e2]
   refine aa (cn ?_)
   (rw [oneTypeOnly'_eq,gO,map_eq_pure_bind])
   refine aa (aa (aa (aef ru (af ?_))))
   rw [hx]
   have h0:(fP (fun d=> bu (tyD d)) (x0::xr)).toArray[0]?=some (bu (tyD x0)):=by simp
   have hall:((fP (fun d=> bu (tyD d)) (x0::xr)).toArray.all fun x=> x==bu (tyD x0))=false:=by
    rw [←hx]
    rw [fO,List.all_eq_false]at hT
    obtain⟨y,hy,hne⟩:=hT
    simp only [kE,dQ,List.all_eq_false]
    refine⟨y,hy,?_⟩
    simpa using hne
   rw [h0]
   simp only [hall,aT,if_false]
   (exact af (af h))
 ·have e1: ¬fs.toArray.all (·.isSome)=true:=by simpa using ha
  by_cases hf:(fs.toArray[0]?.bind id).isSome=true
  ·exact⟨general',.inl rfl,fun {Q} h=> hk (by rw [if_neg e1,if_pos hf];exact af h)⟩
  ·refine⟨oneType',.inr (.inl rfl),fun {Q} h=> hk ?_⟩
   rw [if_neg e1,if_neg hf,oneTypeOnly'_eq,gO,map_eq_pure_bind]
   refine aa (aa (aa (aef ra (af ?_))))
   obtain⟨d0,dr,rfl⟩: ∃d0 dr,ds=d0::dr:=by
    cases ds with
    |nil=> exact absurd rfl hn
    |cons a b=> exact⟨a,b,rfl⟩
   have h0:(fP (fun d=> bu (tyD d)) (d0::dr)).toArray[0]?=some (bu (tyD d0)):=by simp
   have hall:((fP (fun d=> bu (tyD d)) (d0::dr)).toArray.all fun x=> x==bu (tyD d0))=true:=by
    (simp only [kE,dQ,ay])
    intro y hy
    obtain⟨z,rfl⟩:=ht y hy
    obtain⟨z0,rfl⟩:=ht d0 av
    simp [tyD]
   rw [h0]
   simp only [hall,if_true]
   (exact af (af h))
def a6b(b:Bool)(i:Nat)(xs ys:List ac):Prop:=b=true -> i=0 -> ∀x y xr yr,xs=x::xr -> ys=y::yr -> ltP x y≠none -> aU x y=false -> (∃i j,x=.int i/\y=.int j)\/ ∃i j,x=.str i/\y=.str j
theorem ajf{b:Bool}: ∀(xs ys:List ac) (vs ws:List ae) (as bs:List Addr) (i:Nat) (r:Bool) (Q:Bool -> ag -> Prop),cf s.heap vs xs as -> cf s.heap ws ys bs -> bL xs=true -> bL ys=true -> A.units+min (cV xs) (cV ys) < cLine -> vh xs ys=some r -> a6b b i xs ys -> Q r s ->
  KatLex prog w A b (decide (vs.length < ws.length)) Q (vs.zip ws) i s
 |[],[],_,_,_,_,i,r,Q,ra,rb,_,_,_,h,_,q=> by
  cases ra;cases rb
  rw [xw]at h
  cases h
  exact kat_nil q
 |[],_::_,_,_,_,_,i,r,Q,ra,rb,_,_,_,h,_,q=> by
  cases ra;cases rb
  rw [xh]at h
  cases h
  exact kat_nil (by simpa using q)
 |_::_,[],_,_,_,_,i,r,Q,ra,rb,_,_,_,h,_,q=> by
  cases ra;cases rb
  rw [vc]at h
  cases h
  exact kat_nil (by simpa using q)
 | x ::xs,y::ys,_,_,_,_,i,r,Q,ra,rb,ha,hb,hu,h,f2,q=> by
  have ha':x.canLay0=true/\bL xs=true:=by simpa [bL] using ha
  have hb':y.canLay0=true/\bL ys=true:=by simpa [bL] using hb
  rw [ye]at h
  cases ra with
  | cons r1 rs=>
   cases rb with
   | cons r2 rs2=>
    have e:=lY x y A s _ _ _ _ r1 r2 ha'.1 hb'.1 (nv hu)
    rw [List.zip_cons_cons,az,az]
    refine kat_cons (e prog w _ _ ?_)
    by_cases c:aU x y=true
    ·rw [if_pos c]at h
     rw [c]
     have t:=ajf (b:=b) xs ys _ _ _ _ (i+1) r Q rs rs2 ha'.2 hb'.2 (room_tail hu) h (fun _ z=> by lia) q
     refine kat_yes ?_
     simpa using t
    ·rw [if_neg c]at h
     rw [fO]at c
     rw [c]
     refine kat_no ?_
     by_cases z:(b&&i==0)=true
     ·rw [z]
      rw [aB]at z
      rcases f2 z.1 (by simpa using z.2) x y xs ys rfl rfl (by rw [h];simp) c with ⟨p,p',rfl,rfl⟩|⟨p,p',rfl,rfl⟩
      ·rw [aaw]at h
       cases h
       cases r1;cases r2
       exact oneLt_int q
      ·rw [adf]at h
       cases h
       cases r1;cases r2
       exact oneLt_str q
     ·rw [fO]at z
      rw [z]
      exact akf (adx x y A s _ _ _ _ r r1 r2 ha'.1 hb'.1 (nv hu) h) q
theorem ayj{κ:mq}(hκ:ax3 ds κ){v:ae}{as bs:List Addr}{r:Bool}{Q:Bool -> ag -> Prop}(mx:cY xs∈ds)(my:cY ys∈ds)(ra:ck s.heap v (.tuple xs) as)(rb:ck s.heap u (.tuple ys) bs)(hx:(cY xs).canLay0=true)(hy:(cY ys).canLay0=true)(hu:A.units+66 < cLine)(dx:(cY xs).depth <=64)(h:ltP (.tuple xs) (.tuple ys)=some r)(q:Q r s):wpAny (model prog w) A (keyLt' κ v u) Q E s:=by
 have hu':A.units+min (cY xs).depth (cY ys).depth < cLine:=by lia
 rcases hκ with rfl|rfl|⟨b,rfl,hb⟩
 ·exact akf (adx _ _ A s _ _ _ _ r ra rb hx hy hu' h) q
 ·rw [keyLt'_oneType]
  cases ra with
  | tuple h1 h2 h3 h4=>
   cases rb with
   |tuple k1 k2 k3 k4=>
    rw [xy]at h
    refine av4 ⟨_,h1,h2,_,h3⟩ ⟨_,k1,k2,_,k3⟩ (room_here hu') ?_ q
    have t:=ad4 xs ys A.in1 s _ _ _ _ r h4 k4 hx hy (room_in hu') h
    simpa using t
 ·cases ra with
  | tuple h1 h2 h3 h4=>
   cases rb with
   | tuple k1 k2 k3 k4=>
    rw [xy]at h
    refine kat_lt h1 h3 k1 k3 ?_
    have hd:cV xs < (cY xs).depth:=by simp only [eK];lia
    have t:=ajf (prog:=prog) (w:=w) (A:=A) (b:=b) xs ys _ _ _ _ 0 r Q h4 k4 hx hy (by lia) h (fun hb' _ x y xr yr e1 e2 hn ne=> ?_) q
    ·simpa using t
    ·obtain⟨T,hT,al⟩:=hb hb'
     obtain⟨x',r',e3,t3⟩:=al _ mx
     obtain⟨y',r'',e4,t4⟩:=al _ my
     rw [e1]at e3
     rw [e2]at e4
     cases e3;cases e4
     cases x <;> cases y <;> simp [ltP,tyD]at hn t3 t4⊢
     all_goals (subst t3;simp at hT t4)
end
end PF
namespace PF
open PySem PySem.Spec
open L2
variable[XW]
end PF
namespace PF
open PySem PySem.Spec
open PySem.SeqAt
variable[XW]
end PF
namespace PF
open PySem PySem.Spec
open L2
variable[XW]
end PF
namespace PF
open PySem PySem.Spec
open L2
variable[XW]
end PF
namespace PF
open PySem PySem.Spec
open L2
variable[XW]
end PF
namespace PF
open PySem PySem.Spec
open L2
variable[XW]
end PF
namespace PF
open PySem PySem.Spec
open L2
variable[XW]
end PF
namespace PF
open PySem PySem.Spec PySem.W PyProof.Rows
variable[XW]
open PySem.SeqAt
variable[XW]
def ltN(ds:List ac)(i j:Nat):Bool:=match ds[i]?,ds[j]? with
 |some a,some b=> ltb a b
 |some _,none=> true
 |none,_=> false
theorem ay7(h:kh ds=true):KS.Swo (ltN ds) where
 tr {a b c} h1 h2:=by
  unfold ltN at h1 h2⊢
  cases ha:ds[a]? with
  |none=> rfl
  | some x=>
   rw [ha]at h1
   cases hb:ds[b]? with
   |none=> rw [hb]at h1;cases h1
   | some y=>
    rw [hb]at h1 h2
    cases hc:ds[c]? with
    |none=> rw [hc]at h2;cases h2
    |some z=>
     rw [hc]at h2
     exact anz h (bp ha) (bp hb) (bp hc) h1 h2
 as {a b} h1:=by
  unfold ltN at h1⊢
  cases ha:ds[a]? with
  |none=> rw [ha]at h1;cases h1
  | some x=>
   rw [ha]at h1
   cases hb:ds[b]? with
   |none=> rfl
   |some y=>
    rw [hb]at h1
    exact al2 h (bp ha) (bp hb) h1
section
variable{prog:aI}{w:aM}{A:aZ}{E:ae -> ag -> Prop}{s:ag}
theorem acr{h:Heap}: ∀{vs:List ae} {ds:List ac} {bs:List Addr} {i:Nat},cf h vs ds bs -> i < ds.length -> ∃d cs,ds[i]?=some d/\ck h (vs.getD i aV) d cs
 |_,_,_,_,.nil,hi=> by simp at hi
 |_,_,_,0,.cons r rs,_=> ⟨_,_,rfl,r⟩
 |_,_,_,i+1,.cons r rs,hi=> by
  obtain⟨d,cs,e,q⟩:=acr (i:=i) rs (by simpa using hi)
  exact⟨d,cs,by simpa using e,by simpa using q⟩
theorem a2g{vs:List ae}{bs:List Addr}(ra:cf s.heap vs ds bs)(hc:kh ds=true)(hok:ds.all okD=true)(h2:2 <=vs.length)(hu:A.units+66 < cLine):
  wpAny (model prog w) A (keyKind' vs.toArray) (fun κ s''=> s''=s/\ ∀(i j:Nat) (C:Bool -> ag -> Prop),i < vs.length -> j < vs.length -> C (ltN ds i j) s -> wpAny (model prog w) A (keyLt' κ (vs.getD i aV) (vs.getD j aV)) C (fun _ _=> False) s) (fun _ _=> False) s:=by
 have hl:vs.length=ds.length:=ReadsAll.length ds vs bs ra
 have ask: ∀(κ:mq),(∀(x y:ac) (v u:ae) (as cs:List Addr) (r:Bool) (C:Bool -> ag -> Prop),x∈ds -> y∈ds -> ck s.heap v x as -> ck s.heap u y cs -> ltP x y=some r -> C r s -> wpAny (model prog w) A (keyLt' κ v u) C (fun _ _=> False) s) ->
   s=s/\ ∀(i j:Nat) (C:Bool -> ag -> Prop),i < vs.length -> j < vs.length -> C (ltN ds i j) s -> wpAny (model prog w) A (keyLt' κ (vs.getD i aV) (vs.getD j aV)) C (fun _ _=> False) s:=fun κ k=> by
  refine⟨rfl,fun i j C hi hj hC=> ?_⟩
  obtain⟨x,as,ex,rx⟩:=acr (i:=i) ra (by lia)
  obtain⟨y,cs,ey,ry⟩:=acr (i:=j) ra (by lia)
  have mx:=bp ex
  have my:=bp ey
  obtain⟨r,hr⟩:=af8 hc mx my
  refine k x y _ _ as cs r C mx my rx ry hr ?_
  have:ltN ds i j=r:=by
   unfold ltN
   rw [ex,ey]
   show ltb x y=r
   unfold ltb
   rw [hr]
   cases r <;> rfl
  rw [←this];exact hC
 obtain⟨d0,dr,hd⟩: ∃d0 dr,ds=d0::dr:=by
  cases ds with
  |nil=> rw [dA]at hl;lia
  |cons a b=> exact⟨a,b,rfl⟩
 have m0:d0∈ds:=by rw [hd];exact av
 have cmp0: ∀d∈ds,∃r,ltP d0 d=some r:=fun d hm=> af8 hc m0 hm
 have lay: ∀d∈ds,d.canLay0=true/\d.depth <=64:=fun d hm=> by
  have:=ay.mp hok d hm
  unfold okD at this
  rw [aB,decide_eq_true_eq]at this
  exact this
 have typ: ∀v∈vs,∃d cs,d∈ds/\ck s.heap v d cs:=fun v hv=> by
  obtain⟨i,hi⟩:=hV.mp hv
  have hil:=(ap.mp hi).1
  obtain⟨x,as,ex,rx⟩:=acr (i:=i) ra (by lia)
  have:vs.getD i aV=v:=by simp [hi]
  rw [this]at rx
  exact⟨x,as,bp ex,rx⟩
 cases d0 with
 | int i0=>
  have ai: ∀d∈ds,∃i,d=.int i:=fun d hm=> by
   obtain⟨r,hr⟩:=cmp0 d hm
   cases d <;> simp [ltP]at hr
   exact⟨_,rfl⟩
  refine kas_kind (T:=.type "int") h2 (fun v hv=> ?_) (by decide) (by decide) (ask oneType' fun x y v u as cs r C mx my rx ry hr hC=> ?_)
  ·obtain⟨d,cs,hm,rd⟩:=typ v hv
   obtain⟨i,rfl⟩:=ai d hm
   cases rd
   exact Looks.of_pure rfl
  ·obtain⟨i,rfl⟩:=ai x mx
   obtain⟨j,rfl⟩:=ai y my
   rw [aaw]at hr
   cases hr
   cases rx;cases ry
   exact kat_lt_int hC
 | str i0=>
  have ai: ∀d∈ds,∃i,d=.str i:=fun d hm=> by
   obtain⟨r,hr⟩:=cmp0 d hm
   cases d <;> simp [ltP]at hr
   exact⟨_,rfl⟩
  refine kas_kind (T:=.type "str") h2 (fun v hv=> ?_) (by decide) (by decide) (ask oneType' fun x y v u as cs r C mx my rx ry hr hC=> ?_)
  ·obtain⟨d,cs,hm,rd⟩:=typ v hv
   obtain⟨i,rfl⟩:=ai d hm
   cases rd
   exact Looks.of_pure rfl
  ·obtain⟨i,rfl⟩:=ai x mx
   obtain⟨j,rfl⟩:=ai y my
   rw [adf]at hr
   cases hr
   cases rx;cases ry
   exact kas_lt_str hC
 | tuple t0=>
  have ai: ∀d∈ds,∃i,d=.tuple i:=fun d hm=> by
   obtain⟨r,hr⟩:=cmp0 d hm
   cases d <;> simp [ltP]at hr
   exact⟨_,rfl⟩
  obtain⟨κ,hκ,k⟩:=awo (prog:=prog) (w:=w) (A:=A) (E:=fun _ _=> False) ra ai (by rw [hd];simp)
  refine k (ask κ fun x y v u as cs r C mx my rx ry hr hC=> ?_)
  obtain⟨i,rfl⟩:=ai x mx
  obtain⟨j,rfl⟩:=ai y my
  exact ayj hκ mx my rx ry (lay _ mx).1 (lay _ my).1 hu (lay _ mx).2 hr hC
 |none=> obtain⟨r,hr⟩:=cmp0 _ m0;simp [ltP]at hr
 |bool _=> obtain⟨r,hr⟩:=cmp0 _ m0;simp [ltP]at hr
 |list _=> obtain⟨r,hr⟩:=cmp0 _ m0;simp [ltP]at hr
 |dict _=> obtain⟨r,hr⟩:=cmp0 _ m0;simp [ltP]at hr
theorem ah9{r:Addr}(hu:A.units+70 < cLine)(coll: ∀(R:List ae -> ag -> Prop),(∀h' d' tk (vs:List ae) (bs:List Addr) (ds:List ac),ds.length < 64 -> kh ds=true -> ds.all okD=true -> cf h' vs ds bs -> (∀b u,s.heap.get? b=some u -> h'.get? b=some u) ->
    (∀(h1 h2:Heap) (d2:Drawn) (tk2 e:Nat) (p:List Nat),p.Perm (a9 vs.length) -> (p.map fun i=> ds.getD i .none)=j5 ds -> (∀b u,s.heap.get? b=some u -> h1.get? b=some u) -> (∀b u,h'.get? b=some u -> h1.get? b=some u) -> h2.get? h1.objs.size=some (seqObj "list" (p.map fun i=> vs.getD i aV).toArray e) -> (∀b u,h1.get? b=some u -> h2.get? b=some u) ->
     Q (.ref h1.objs.size) {s with heap:=h2,drawn:=d2,toks:=tk2}) -> R vs {s with heap:=h',drawn:=d',toks:=tk}) -> wpAny (model prog w) A.in1 (collect (.ref r)) R E s):
  wpAny (model prog w) A (call (.builtin "sorted") [.ref r]) Q E s:=by --
 refine jR kind_sorted plain_sorted entry_sorted (args_sorted1 _) ?_;unfold cG.«sorted»
 refine aa (m:=checkCount "sorted" 1 1 _) (af (aa (coll _ fun h' d' tk vs bs ds h64 hc hok ra kp q=> ?_)))
 have hl:vs.length=ds.length:=ReadsAll.length ds vs bs ra
 refine aa (mO ?_ (by rw [b6];lia));have g:(h'.push {cls:=.type "list",data:=.seq vs.toArray}).get? h'.objs.size=some (seqObj "list" vs.toArray 0):=aA _ rfl
 have hin1:=afb A
 have hin2:=afb A.in1
 refine aa (bo (bh slot_list_sort ⟨_,g,rfl⟩ entry_list_sort (KS.aw4 g (by lia) (ay7 hc) (fun h2 s' k'=> a2g (ds:=ds) (bs:=bs) ?_ hc hok h2 (by lia)) fun p pm pw=> ⟨_,rfl,?_⟩) (args_list_sort _)))
 ·refine fK (fun b o eb=> k' b o (aH (aD eb)) (ak _ eb)) ra
 ·obtain⟨e,ge⟩:=sortedHeap_at (out:=(p.map fun i=> vs.getD i aV).toArray) g
  have es:(p.map fun i=> ds.getD i .none)=j5 ds:=by
   have e0:(a9 vs.length).map (fun i=> ds.getD i .none)=ds:=by
    rw [hl]
    apply cS
    intro i
    rw [aR]
    by_cases z:i < ds.length
    ·rw [eW z,aq z]
     simp [z]
    ·rw [df.mpr (by simpa using z),df.mpr (by simpa using z)];rfl
   refine ae6 hc ?_ ?_
   ·have:=pm.map fun i=> ds.getD i .none
    rwa [e0]at this
   ·rw [aaf,cT]
    refine kF ?_ pw
    intro a b ma mb h
    have la:a < ds.length:=by have:=bD.mp (pm.mem_iff.mp ma);lia
    have lb:b < ds.length:=by have:=bD.mp (pm.mem_iff.mp mb);lia
    unfold ltN at h
    rw [aq la,aq lb]at h
    simpa [la,lb] using h
  refine af ⟨_,rfl,q h' _ d' tk e p pm es kp (fun b u z=> z) ge fun b u eb=> ?_⟩
  have lb:=aD eb
  rw [sortedHeap_old (aH lb) (by rw [bA];exact cq lb)]
  exact ak _ eb
end
end PF
namespace PF
open PySem PySem.Spec
open L2
variable[XW]
theorem TDs.pick{as:As}{H:Hp}{vs:List V}{ds:List ac}(t:TDs as H vs ds): ∀p:List Nat,(∀i∈p,i < ds.length) -> TDs as H (p.map fun i=> vs.getD i .non) (p.map fun i=> ds.getD i .none)
 |[],_=>.nil
 |i::r,h=> by
  have hi:=h i av
  obtain⟨v,e,td⟩:=t.get (i:=i) (d:=ds[i]) (aq hi)
  refine .cons ?_ (TDs.pick t r fun j hj=> h j (aw _ hj))
  show TD as H (vs.getD i .non) (ds.getD i .none)
  rw [show vs.getD i .non=v by simp [e],show ds.getD i .none=ds[i] by simp [hi]]
  exact td
theorem aw5(r:jj vs us){i:Nat}(e:vs[i]?=some v): ∃u,us[i]?=some u/\RelV v u:=by
 induction r generalizing i with
 |nil=> simp at e
 |cons a b ih=>
  cases i with
  |zero=> simp at e;subst e;exact⟨_,rfl,a⟩
  |succ i=> simpa using ih (by simpa using e)
theorem aey{vs:List V}{us:List ae}(r:jj vs us): ∀p:List Nat,(∀i∈p,i < vs.length) -> jj (p.map fun i=> vs.getD i .non) (p.map fun i=> us.getD i aV)
 |[],_=>.nil
 |i::q,h=> by
  have hi:=h i av
  obtain⟨u,e,rv⟩:=aw5 r (i:=i) (aq hi)
  refine .cons ?_ (aey r q fun j hj=> h j (aw _ hj))
  show RelV (vs.getD i .non) (us.getD i aV)
  rw [show vs.getD i .non=vs[i] by simp [hi],show us.getD i aV=u by simp [e]]
  exact rv
def yw(m:Bool)(ds:List D)(s:S):R D:=match ds with
 |[d]=> match (aee s d).bind j8 with
  |some xs=> if xs.length < 64/\kh xs=true/\xs.all okD=true then kj m ((j5 xs).map D.da) s else .bad
  |none=>.bad
 |_=>.bad
theorem aea(m:Bool)(hu:X.A.units+70 < cLine):CB X (.builtin "sorted") (yw m):=aec fun pins sh σ H as s xs ds us Q I rl rs ru h=> by
 unfold yw at h
 split at h
 ·rename_i d
  split at h
  ·rename_i es he
   split at h
   ·rename_i hcond
    obtain⟨h64,hc,hok⟩:=hcond
    obtain⟨v,rfl,rv⟩:=rs.one
    cases e1:aee s d with
    |none=> rw [e1]at he;cases he
    | some ys=>
     rw [e1]at he
     have hp:j8 ys=some es:=he
     have e2:=yg hp
     subst e2
     obtain⟨p,zs,rfl,sq,rz⟩:=ad8 rl rv e1
     obtain⟨u,rfl,ruv⟩:=vals1 ru
     cases ruv
     have td:=rz.td
     have fin: ∀(its:List ae),jj zs its -> (∃(T:String) (o:Obj) (n:Nat),(T="list"\/T="tuple")/\sh.heap.get? p=some o/\o.cls=.type T/\o.data=.seq its.toArray n) -> wpAny (model X.prog X.w) X.A (call (.builtin "sorted") [.ref p]) (EP X pins σ Q) X.xe sh:=fun its rv ⟨T,o,n,hT,ho,hcl,hd⟩=> by
      obtain⟨bs,ra⟩:=td.reads I rv
      have hl2:its.length=es.length:=PySem.SeqAt.ReadsAll.length es its bs ra
      refine ah9 hu fun R k=> PySem.wpAny_collect_seq p hT ho hcl hd (fun h' kp=> ?_) (by rw [aC,b6];lia)
      have k1:=k h' sh.drawn sh.toks its bs es h64 hc hok (fK kp ra) kp
      refine k1 fun h1 h2 d2 tk2 e p' pm es' kp1 kp1' g kp2=> ?_
      have I1:Inv X pins σ H {sh with heap:=h1,toks:=sh.toks}:=I.un (Un.kept kp1) (I.hok.kept kp1)
      have hz:zs.length=es.length:=td.length
      have hlt: ∀i∈p',i < es.length:=fun i hi=> by have:=bD.mp (pm.mem_iff.mp hi);lia
      have vp:=aey rv p' (fun i hi=> by rw [hz];exact hlt i hi)
      have hlen:p'.length=es.length:=by rw [pm.length_eq,cp,hl2]
      have I2:Inv X pins σ (upd H h1.objs.size (.lst (p'.map fun i=> zs.getD i .non))) {sh with heap:=h2,toks:=tk2}:=I1.laid (t':=tk2) kp2 (ao _) ⟨by rw [am,hlen,b6];lia,_,e,vp,by simpa [mU] using g⟩
      have nw:New H h1.objs.size (.lst (p'.map fun i=> zs.getD i .non)) (upd H h1.objs.size (.lst (p'.map fun i=> zs.getD i .non))):=⟨I1.hok.fresh (ao _),rfl⟩
      have tp:=(td.pick p' hlt).rd (K:=X.K)
      rw [es']at tp
      exact⟨.ref h1.objs.size,_,I2.drew d2,rfl,zl h rl tp nw⟩
     rcases sq with sq|sq
     ·obtain⟨its,rv,⟨o,k,h1,h2,h3,h4⟩,z⟩:=I.list sq
      exact fin its rv ⟨"list",o,_,.inl rfl,h1,h2,h4⟩
     ·obtain⟨its,rv,⟨o,h1,h2,k,h3⟩,z⟩:=I.tuple sq
      exact fin its rv ⟨"tuple",o,_,.inr rfl,h1,h2,h3⟩
   ·exact h.elim
  ·exact h.elim
 ·exact h.elim
end PF
namespace L2
open PySem PySem.Spec PyProof.Rows
open MeetsSeq MeetsSeq2 MeetsSeq3 SeqRoads2 --
def aap(h:Heap)(d:Addr)(es:Array c8)(ep:Nat):Prop:= ∃o,h.get? d=some o/\o.ExactDict/\o.data=.dict es ep
section
variable{prog:aI}{w:aM}{A:aZ}{E:ae -> ag -> Prop}{s:ag}{it d:Addr}{es:Array c8}{ep i:Nat}
theorem alk{Q:Option ae -> ag -> Prop}(hit:s.heap.IsKeyIter it d i es.size ep)(hm:aap s.heap d es ep)(hi:i < es.size)
  (hQ: ∀h',h'.IsKeyIter it d (i+1) es.size ep -> bi it s.heap h' -> Q (some es[i].key) {s with heap:=h'}):wpAny (model prog w) A (pyNext (.ref it)) Q E s:=by
 have hT:=hit.typeIs
 obtain⟨⟨oc,od1,odat,osl⟩,ho,hc,hd⟩:=id hit
 obtain⟨⟨dc,dd1,ddat,dsl⟩,hod,hcd,hdd⟩:=id hm
 simp only at hc hd hdd
 subst hc hd hdd
 have hown:iI ((Manifest.find? "dict_keyiterator").elim "dict_keyiterator" fun x=> x.tpName)=false:=by decide+kernel
 unfold pyNext
 refine aa (d6 (br (name:=cr "__next__") hT cP (bh cP hT iq ?_ (ij _))))
 wp_walk
 simp only [hown,aT,if_false,lL,List.take]
 wp_walk
 rw [if_neg (show¬((i:Int) < 0) by lia),bU,bf hi]
 wp_walk
 simp only [hown,aT,if_false,jX]
 refine⟨_,rfl,af ?_⟩
 split
 ·rename_i hb
  exact absurd hb (by decide+kernel)
 ·refine hQ _ ⟨_,bt _ ho (fD (de rfl _)),rfl,?_⟩ (bg ..)
  rw [de rfl]
  simp [rawInt]
end
section
variable{prog:aI}{w:aM}{A:aZ}{E:ae -> ag -> Prop}{s:ag}{it d:Addr}{es:Array c8}{ep i:Nat}
theorem an3{Q:Option ae -> ag -> Prop}(hh:A.handled=none)(hit:s.heap.IsKeyIter it d i es.size ep)(hm:aap s.heap d es ep)(hi:es.size <=i)
  (hQ: ∀h',eG it s.heap h' -> Q none {s with heap:=h'}):wpAny (model prog w) A (pyNext (.ref it)) Q E s:=by
 have hT:=hit.typeIs
 obtain⟨⟨oc,od1,odat,osl⟩,ho,hc,hd⟩:=id hit
 obtain⟨⟨dc,dd1,ddat,dsl⟩,hod,hcd,hdd⟩:=id hm
 simp only at hc hd hdd
 subst hc hd hdd
 have hown:iI ((Manifest.find? "dict_keyiterator").elim "dict_keyiterator" fun x=> x.tpName)=false:=by decide+kernel
 unfold pyNext
 refine aa (d6 (br (name:=cr "__next__") hT cP (bh cP hT iq ?_ (ij _))))
 wp_walk
 simp only [hown,aT,if_false,lL,List.take]
 wp_walk
 rw [if_neg (show¬((i:Int) < 0) by lia),bU,gS hi]
 wp_walk
 unfold raiseNew
 (refine aa (i5 ?_))
 (rw [show A.in1.handled=none from hh])
 (refine aa (af (lu ?_)))
 (refine aa (eN (T:="StopIteration") (b:=true) ⟨_,aA _ rfl,rfl⟩ iH ?_))
 (exact af (hQ _ (((bg ..).extBut.push _).push _)))
end
section
variable{prog:aI}{w:aM}{A:aZ}{E:ae -> ag -> Prop}{s:ag}{it d:Addr}{es:Array c8}{ep i:Nat}
theorem alg(hd:(d==bI)=false)(hm:aap s.heap d es ep)(h:Q (.ref s.heap.objs.size) {s with heap:=s.heap.push {cls:=.type "dict_keyiterator",data:=.fields #[.ref d,.int (0:Nat) 0,.int (es.size:Nat) 0,.int (ep:Nat) 0]}}):wpAny (model prog w) A (pyIter (.ref d)) Q E s:=by
 obtain⟨⟨dc,dd1,ddat,dsl⟩,hod,⟨hc1,hc2,hc3⟩,hdd⟩:=id hm
 simp only at hdd hc1 hc2 hc3
 subst hdd hc1 hc2 hc3
 have hT:s.TypeIs (.ref d) "dict":=⟨_,hod,rfl⟩
 (refine jJ hT F.slot_dict_iter (bh F.slot_dict_iter hT F.entry_dict_iter ?_ (F.args_dict_iter_1 _)))
 wp_walk
 refine⟨_,rfl,"dict_keyiterator",_,⟨_,aA _ rfl,rfl⟩,cP.lookup,?_⟩
 simpa [rawInt] using h
theorem aap.at{h':Heap}(x:aap h d es ep)(e: ∀o,h.get? d=some o -> h'.get? d=some o):aap h' d es ep:=let ⟨o,ho,r⟩:=x;⟨o,e _ ho,r⟩
theorem aap.lt(x:aap h d es ep):d < h.objs.size:=let ⟨_,ho,_⟩:=x;aD ho
theorem aap.typeIs(x:aap s.heap d es ep):s.TypeIs (.ref d) "dict":=let ⟨_,ho,hc,_⟩:=x;⟨_,ho,hc.1⟩
theorem ap2(hh:A.handled=none)(I:Addr)(hne:d≠I):Walks prog w A I [I,d] [I] es.size (fun i v=> es[i]?.map (·.key)=some v) (fun i h=> h.IsKeyIter I d i es.size ep/\aap h d es ep) where
 sub b hb:=by simp at hb;simp [hb]
 frame _ _ _ st hk:=⟨st.1.at fun o e=> hk I (by simp) o e,st.2.at fun o e=> hk d (by simp) o e⟩
 item i s Q E hi st hQ:=alk st.1 st.2 hi fun h' hit' hs'=> hQ _ h' s.toks (by rw [bf hi];rfl) ⟨hit',st.2.at fun o e=> (hs'.2 d hne).trans e⟩ fun b o hb e=> hs'.extBut b o (fun z=> hb (by simp [z])) e
 done s Q E st hQ:=an3 hh st.1 st.2 (ao _) fun h' he'=> hQ h' s.toks fun b o hb e=> he' b o (fun z=> hb (by simp [z])) e
 self _ _ _ _ st hQ:=mr st.1 hQ
theorem avd(lo:(d==bI)=false):PySem.W.KdlSrc prog w "dict" d d es.size (fun i v=> es[i]?.map (·.key)=some v) (fun h=> aap h d es ep) where
 type _ hm:=hm.typeIs
 there _ hm:=⟨hm.lt,hm.lt⟩
 keep _ _ hm hk:=hm.at fun o e=> hk d (.inl rfl) o e
 notList:=by decide
 notTuple:=by decide
 hint _ _ _ _ hm hq:=PySem.W.kdl_hint_dict hm.typeIs hq
 iter _ _ hh hm:=⟨_,_,fun _ _ hq=> alg lo hm hq,ap2 hh _ (aH hm.lt),⟨⟨_,aA _ rfl,rfl,rfl⟩,hm.at fun o e=> ak _ e⟩⟩
end
end L2
namespace L2
open PySem PySem.Spec PyProof.Rows
mutual
theorem KD.reads(ok:HOk P w H h): ∀{v:V} {d:ac} {u:ae},KD H v d -> RelV v u -> ∃bs,ck h u d bs
 |_,_,u,.non,r=> by cases (show u=aV from r);exact⟨_,.none⟩
 |_,_,u,.int i,r=> by obtain⟨t,e⟩:=(show∃t,u=eE i t from r);subst e;exact⟨_,.int i t⟩
 |_,_,u,.str x,r=> by obtain⟨t,e⟩:=(show∃t,u=g6 x t from r);subst e;exact⟨_,.str x t⟩
 |_,_,u,.tup (p:=b) (xs:=xs) e q,r=> by
  cases (show u=bn b from r)
  obtain⟨z,its,rv,p⟩:=(show jx P w H h b (.tup xs) from ok b _ e)
  obtain⟨o,h1,h2,k,h3⟩:=p.tup
  obtain⟨bs,ra⟩:=KDs.reads ok q rv
  exact⟨_,.tuple h1 h2 h3 ra⟩
theorem KDs.reads(ok:HOk P w H h): ∀{vs:List V} {ds:List ac} {us:List ae},KDs H vs ds -> jj vs us -> ∃bs,cf h us ds bs
 |_,_,_,.nil,r=> by cases r;exact⟨_,.nil⟩
 | _,_,_,.cons a b,r=> by
  cases r with
  |cons r1 r2=>
   obtain⟨as,h1⟩:=KD.reads ok a r1
   obtain⟨bs,h2⟩:=KDs.reads ok b r2
   exact⟨_,.cons h1 h2⟩
end
theorem ahl(ok:HOk P w H h){b:Addr}{k:ac}(hk:PF.xt k=true)(e:KD H (.ref b) k):(PF.qo P w).is h k b:=⟨hk,e.reads ok rfl⟩
abbrev KE(H:Hp):List (ac×V) -> List (ac×Addr×ae) -> Prop:=jT fun p q=> p.1=q.1/\(PF.xt p.1=true/\KD H (.ref q.2.1) p.1)/\RelV p.2 q.2.2
theorem KE.val{kvs:List (ac×V)}{xs:List (ac×Addr×ae)}(r:KE H kvs xs)(k:ac):xp (yh kvs k) ((atKey xs k).map (·.2)):=by
 induction r with
 |nil=> exact cD
 | @cons p q ps qs hh t ih=>
  by_cases e:p.1=k
  ·rw [z6 e,show atKey (q::qs) k=some q.2 by simp [atKey,cw,hh.1.symm.trans e]]
   exact hh.2.2
  ·have e': ¬q.1=k:=fun z=> e (hh.1.trans z)
   rw [aa3 e,show atKey (q::qs) k=atKey qs k by simp [atKey,cw,e']]
   exact ih
theorem KE.put{kvs:List (ac×V)}{xs:List (ac×Addr×ae)}(r:KE H kvs xs){k:ac}{b:Addr}{y:V}(hk:PF.xt k=true)(hb:KD H (.ref b) k)(ry:RelV y u):KE H (ki kvs k y) (storedH xs k b u):=by
 have e:(kvs.any fun kv=> decide (kv.1=k))=(atKey xs k).isSome:=by rw [ac5,(r.val k).isSome_eq,jI]
 unfold ki storedH
 rw [e]
 by_cases q:(atKey xs k).isSome=true
 ·rw [if_pos q,if_pos q]
  clear e q
  induction r with
  |nil=> exact .nil
  | @cons p q ps qs hh t ih=>
   rw [aN,aN]
   refine .cons ?_ ih
   unfold putAt
   by_cases e:p.1=k
   ·rw [if_pos e,if_pos (hh.1.symm.trans e)];exact⟨hh.1,hh.2.1,ry⟩
   ·rw [if_neg e,if_neg fun z=> e (hh.1.trans z)];exact hh
 ·rw [if_neg q,if_neg q];exact nM r ⟨rfl,⟨hk,hb⟩,ry⟩
def yi{prog:aI}{w:aM}{κ:Type}[DecidableEq κ](knd:lX prog w κ)(h:Heap)(d:Addr)(xs:List (κ×Addr×ae)):Prop:=
 ∃o es ep,h.get? d=some o/\o.ExactDict/\(o.data=.dict es ep/\ep=es.size)/\es.toList=xs.map (eZ knd)/\(∀x∈xs,knd.is h x.1 x.2.1)/\(xs.map (·.1)).Nodup
theorem yi.oh{prog:aI}{w:aM}{κ:Type}[DecidableEq κ]{knd:lX prog w κ}{d:Addr}{xs:List (κ×Addr×ae)}(z:yi knd h d xs):h.DictOfH knd d xs:=
 let ⟨o,es,ep,h1,h2,h3,h4⟩:=z
 ⟨o,es,ep,h1,h2,h3.1,h4⟩
theorem asq{kvs:List (ac×V)}(ok:HOk P w H h)(e:H a=some (.dD kvs)):kvs.length <=sizeLine/\(a==bI)=false/\ ∃xs,KE H kvs xs/\yi (PF.qo P w) h a xs:=by
 obtain⟨z,y,xs,r,o,es,ep,h1,h2,h3,h4,h5⟩:=(show jx P w H h a (.dD kvs) from ok a _ e)
 refine⟨z,y,xs,r,o,es,ep,h1,h2,h3,h4,?_,h5⟩
 clear h3 h4 h5 z e
 induction r with
 |nil=> intro x hx;exact nomatch hx
 | @cons p q ps qs hq t ih=>
  intro x hx
  rcases aE.mp hx with e|hx
  ·subst e
   exact ahl ok (hq.1▸hq.2.1.1) (hq.1▸hq.2.1.2)
  ·exact ih x hx
theorem a4x{kvs:List (ac×V)}(ok:HOk P w H h)(e:H a=some (.dD kvs)):kvs.length <=sizeLine/\(a==bI)=false/\ ∃xs,KE H kvs xs/\h.DictOfH (PF.qo P w) a xs:=
 let ⟨z,y,xs,r,q⟩:=asq ok e
 ⟨z,y,xs,r,q.oh⟩
theorem atd(ok:HOk P w H h)(e:H a=some (.dK [])):(a==bI)=false/\yi (PF.qo P w) h a []:=by
 obtain⟨em,z,y,vs,r,o,es,ep,h1,h2,h3,h4,h5,h6⟩:=(show jx P w H h a (.dK []) from ok a _ e)
 obtain⟨o,h1,h2,h3⟩:=em rfl
 exact⟨y,o,#[],0,h1,h2,⟨h3,rfl⟩,rfl,(fun x hx=> by cases hx),dN⟩
section
variable{X:Cx}{pins:List (Addr×Obj)}{σ:St}{H:Hp}{s:ag}{a b:Addr}{v:V}{r:ae}{k:ac}{kvs:List (ac×V)}{A:aZ}{E:ae -> ag -> Prop}
def DD(H:Hp)(a:Addr)(kvs:List (ac×V)):Prop:=H a=some (.dD kvs)\/(H a=some (.dK [])/\kvs=[])
theorem DD.rs(ok:HOk P w H h)(e:DD H a kvs):kvs.length <=sizeLine/\(a==bI)=false/\ ∃xs,KE H kvs xs/\yi (PF.qo P w) h a xs:=by
 rcases e with e|⟨e,rfl⟩
 ·exact asq ok e
 ·exact⟨bP _,(atd ok e).1,[],.nil,(atd ok e).2⟩
theorem DD.rd(ok:HOk P w H h)(e:DD H a kvs):kvs.length <=sizeLine/\(a==bI)=false/\ ∃xs,KE H kvs xs/\h.DictOfH (PF.qo P w) a xs:=
 let ⟨z,y,xs,r,q⟩:=e.rs ok
 ⟨z,y,xs,r,q.oh⟩
theorem DD.mut(e:DD H a kvs):Mut (H a):=by
 rcases e with e|⟨e,rfl⟩ <;> (rw [e];exact cD)
theorem adh(hu:A.units+11 < cLine):(PF.qo P w).room A.in1:=by
 show A.in1.units+10 < cLine
 have:A.in1.units <=A.units+1:=by first|exact ao _|(unfold jO;simp)
 lia
theorem asi{h':Heap}{xs:List (ac×Addr×ae)}{H':Hp}(z:kvs.length <=sizeLine)(hd:(a==bI)=false)(rel:KE H kvs xs)(ht: ∀b ys,H b=some (.tup ys) -> H' b=some (.tup ys))(dd:yi (PF.qo P w) h' a xs):jx P w H' h' a (.dD kvs):=by
 obtain⟨o,es,ep,h1,h2,h3,h4,h5,h6⟩:=dd
 exact⟨z,hd,xs,Paired.mapP rel fun p q y=> ⟨y.1,⟨y.2.1.1,y.2.1.2.mono ht⟩,y.2.2⟩,o,es,ep,h1,h2,h3,h4,h6⟩
section
variable{prog:aI}{w:aM}{A:aZ}{E:ae -> ag -> Prop}{s:ag}{κ:Type}[DecidableEq κ]{knd:lX prog w κ}
theorem ah2{o:Obj}{es:Array c8}{d:Addr}{xs:List (κ×Addr×ae)}{k:κ}{v:ae}(hkey:knd.is s.heap k a)(ho:s.heap.get? d=some o)(hc:o.ExactDict)(hd:o.data=.dict es ep)(hp:ep=es.size)(he:es.toList=xs.map (eZ knd))(his: ∀x∈xs,knd.is s.heap x.1 x.2.1)(hn:(xs.map (·.1)).Nodup)(hno:atKey xs k=none)(hnot:k∉xs.map (·.1)):
  yi knd (s.heap.update d (Obj.mapDictKeys (·.push (eZ knd (k,a,v))))) d (storedH xs k a v):=by
 have sb:bi d s.heap (s.heap.update d (Obj.mapDictKeys (·.push (eZ knd (k,a,v))))):=bg ..
 rw [storedH_new hno]
 refine⟨_,_,ep+1,bt _ ho (mV (mw hd _)),hc.mapDictKeys _,⟨mw hd _,by rw [hp];simp⟩,by simp [he],fun x hx=> ?_,?_⟩
 ·rcases aS.mp hx with q|q
  ·exact knd.keeps (his x q) ho hd sb
  ·cases aL.mp q
   exact knd.keeps hkey ho hd sb
 ·rw [bS]
  refine d7.mpr ⟨hn,cE.mpr ⟨cK,dN⟩,fun x hx y hy e=> hnot ?_⟩
  cases aL.mp hy
  have e':x=k:=e
  exact e'▸hx
theorem atu{d:Addr}{xs:List (κ×Addr×ae)}{k:κ}{v:ae}{Q:Unit -> ag -> Prop}(hu:knd.room A)(hkey:knd.is s.heap k a)(hm:yi knd s.heap d xs)(hQ: ∀h',yi knd h' d (storedH xs k a v) -> bi d s.heap h' -> Q () {s with heap:=h',toks:=s.toks+knd.draws k})(hsz:xs.length <=sizeLine):wpAny (model prog w) A (dictSet d (.ref a) v) Q E s:=by
 obtain⟨o,es,ep,ho,hc,⟨hd,hp⟩,he,his,hn⟩:=hm
 unfold dictSet
 (try with_reducible refine bo ?_)
 refine aa (knd.pyHash hu hkey ?_);unfold dictSetHashed
 (try with_reducible refine bo ?_)
 refine aa (mW (s:={s with toks:=s.toks+knd.draws k}) hu hkey ho hd he his hn (fun hno=> ?_) fun j p hj=> ?_)
 ·exact aa (cn (mz (hz:=by have e:=f8 he;lia) (s:={s with toks:=s.toks+knd.draws k}) ho hd (hQ _ (ah2 hkey ho hc hd hp he his hn (jL hno) (mX hno)) (bg ..))))
 ·refine aa (cn (aa (wpAny_updateDict (s:={s with toks:=s.toks+knd.draws k}) ho hd (wpAny_point (hQ _ ?_ (bg ..))))))
  have k1:=atKey_of_get hn hj
  refine⟨_,_,ep,bt _ ho (mV (Obj.data_mapDict hd _)),hc.mapDict _,⟨Obj.data_mapDict hd _,by rw [hp];simp⟩,?_,?_,?_⟩
  ·have q:=modify_map_putAt (eZ knd) (fun e:c8=> {e with val:=v}) k v (fun _ _=> rfl) hn hj
   rw [←he]at q;rw [nS k1];obtain⟨l⟩:=es
   simpa using q
  ·rw [nS k1];intro x hx
   obtain⟨y,hy,ey⟩:=a8.mp hx
   have e1:x.1=y.1/\x.2.1=y.2.1:=by rw [←ey];unfold putAt;split <;> exact⟨rfl,rfl⟩
   rw [e1.1,e1.2]
   exact knd.keeps (his y hy) ho hd (bg ..)
  ·rw [nS k1,bx]
   have e1:((·.1)∘putAt k v:κ×Addr×ae -> κ)=(·.1):=by funext y;show (putAt k v y).1=y.1;unfold putAt;split <;> rfl
   rw [e1];exact hn
theorem asy{d:Addr}{xs:List (κ×Addr×ae)}{k:κ}{v:ae}{Q:Unit -> ag -> Prop}(hu:knd.room A.in1)(hkey:knd.is s.heap k a)(hm:yi knd s.heap d xs)(hQ: ∀h',yi knd h' d (storedH xs k a v) -> bi d s.heap h' -> Q () {s with heap:=h',toks:=s.toks+knd.draws k})(hsz:xs.length <=sizeLine):wpAny (model prog w) A (setItem (.ref d) (.ref a) v) Q E s:=by
 unfold setItem
 (try with_reducible refine bo ?_)
 refine aa (jH hm.oh.typeIs (by decide) (aa (br (name:=cr "__setitem__") hm.oh.typeIs slot_dict_setitem (bh slot_dict_setitem hm.oh.typeIs entry_dict_setitem ?_ (args_dict_setitem _ _ _)))))
 refine (show wpAny _ _ (Builtin.Dict.notOrdered "__setitem__" ⟨[.ref d,.ref a,v],[]⟩>>=_) _ _ s from aa (lO hm.oh.typeIs ?_))
 exact (show wpAny _ _ (dictSet d (.ref a) v >>=_) _ _ s from aa (atu hu hkey hm (fun h' hm' hs'=> af ⟨.none,rfl,af (hQ h' hm' hs')⟩) hsz))
end
theorem apj{Q:Unit -> ag -> Prop}(hu:A.units+11 < cLine)(I:Inv X pins σ H s)(e:DD H a kvs)(hl:kvs.length < sizeLine)(hk:PF.xt k=true)(eb:KD H (.ref b) k)(rv:RelV v r)(h: ∀s',Inv X pins σ (upd H a (.dD (ki kvs k v))) s' -> Q () s'):wpAny (model X.prog X.w) A (setItem (.ref a) (.ref b) r) Q E s:=by
 obtain⟨z,hd,xs,rel,dd⟩:=e.rs I.hok
 have hz:xs.length <=sizeLine:=by rw [←dH rel];exact z
 have hl':(ki kvs k v).length <=sizeLine:=by have:=z4 kvs k v;lia
 refine asy (hsz:=hz) (adh hu) (ahl I.hok hk eb) dd fun h' dd' hs=> h _ ?_
 have he: ∃q,h'.get? a=some q:=let ⟨q,_,_,hq,_⟩:=dd';⟨q,hq⟩
 have ht: ∀c ys,H c=some (.tup ys) -> upd H a (.dD (ki kvs k v)) c=some (.tup ys):=fun c ys q=> by
  rw [j7 (fun y=> by subst y;rcases e with e|⟨e,_⟩ <;> (rw [e]at q;cases q))];exact q
 exact abt I e.mut hs he (asi hl' hd (rel.put hk eb rv) ht dd')
theorem ay1(hu:A.units+11 < cLine)(I:Inv X pins σ H s)(e:DD H a kvs)(hk:PF.xt k=true)(eb:KD H (.ref b) k)(h: ∀w' s',Inv X pins σ H s' -> RelV ((yh kvs k).getD .non) w' -> Q w' s'):wpAny (model X.prog X.w) A (call (.builtin "dict.get") [.ref a,.ref b]) Q E s:=by
 obtain⟨z,hd,xs,rel,dd⟩:=e.rd I.hok
 exact dB bZ dd.typeIs cX (gF _ _) (meetsH_dict_get (PF.qo X.prog X.w) a b hd) ⟨adh hu,k,xs,ahl I.hok hk eb,dd,h _ _ (I.tok _) ((rel.val k).getD rfl)⟩
theorem azc{d:V}{rd:ae}(hu:A.units+11 < cLine)(I:Inv X pins σ H s)(e:DD H a kvs)(hk:PF.xt k=true)(eb:KD H (.ref b) k)(rr:RelV d rd)(h: ∀w' s',Inv X pins σ H s' -> RelV ((yh kvs k).getD d) w' -> Q w' s'):wpAny (model X.prog X.w) A (call (.builtin "dict.get") [.ref a,.ref b,rd]) Q E s:=by
 obtain⟨z,hd,xs,rel,dd⟩:=e.rd I.hok
 exact dB bZ dd.typeIs cX (gG _ _ _) (kJ (PF.qo X.prog X.w) a b hd rd) ⟨adh hu,k,xs,ahl I.hok hk eb,dd,h _ _ (I.tok _) ((rel.val k).getD rr)⟩
end
end L2
namespace PF
open PySem PySem.Spec
open L2
variable[XW]
mutual
theorem TD.kd: ∀{v:V} {d:ac},TD as H v d -> plD d=true -> KD H v d
 |_,_,.non,_=>.non
 |_,_,.int i,_=>.int i
 |_,_,.str x,_=>.str x
 |_,_,.tup n e r,h=>.tup e (TDs.kd r (by rw [←kz];exact h))
 |_,_,.bl b,h=> by simp [plD]at h
 |_,_,.lst _ _ _,h=> by simp [plD]at h
 |_,_,.dct _ _,h=> by simp [plD]at h
 |_,_,.dc1 _ _ _,h=> by simp [plD]at h
theorem TDs.kd: ∀{v:List V} {d:List ac},TDs as H v d -> vq d=true -> KDs H v d
 |_,_,.nil,_=>.nil
 |_,_,.cons a r,h=> by
  rw [vb,aB]at h
  exact .cons (TD.kd a h.1) (TDs.kd r h.2)
end
theorem a0r(rl:Rel K as H s){q:Addr}{xs:List V}(e:H q=some (.tup xs)): ¬as.has q:=by
 rintro (h|h)
 ·obtain⟨n,hn⟩:=kc.mp h
  have hl:n < s.length:=by rw [←rl.len];exact (ap.mp hn).1
  have ro:=rl.ob n q _ hn (aq hl)
  cases ho:s[n]with
  |lst ds=> rw [ho]at ro;obtain⟨ys,e2,_⟩:=ro;rw [e]at e2;cases e2
  |dct kvs=>
   rw [ho]at ro
   rcases ro with ⟨l,e2,_⟩|⟨l,_,e2,_⟩ <;> (rw [e]at e2;cases e2)
  |set _=> rw [ho]at ro;exact ro.elim
  |ins _ _=> rw [ho]at ro;obtain⟨_,_,_,_,e2,_⟩:=ro;rw [e]at e2;cases e2
  |exc _ _=> rw [ho]at ro;obtain⟨_,_,_,e2,_⟩:=ro;rw [e]at e2;cases e2
  |xcx _ _=> rw [ho]at ro;obtain⟨_,_,_,e2,_⟩:=ro;rw [e]at e2;cases e2
  |gone=> rw [ho]at ro;exact ro.elim
 ·obtain⟨o,e2,t⟩:=rl.hs q h
  rw [e]at e2;cases e2;cases t
mutual
theorem KD.td{s:S}(rl:Rel K as H s): ∀{v:V} {d:ac},KD H v d -> TD as H v d
 |_,_,.non=>.non
 |_,_,.int i=>.int i
 |_,_,.str x=>.str x
 |_,_,.tup e r=>.tup (a0r rl e) e (KDs.td rl r)
theorem KDs.td{s:S}(rl:Rel K as H s): ∀{v:List V} {d:List ac},KDs H v d -> TDs as H v d
 |_,_,.nil=>.nil
 |_,_,.cons a r=>.cons (KD.td rl a) (KDs.td rl r)
end
noncomputable def qj{α:Type}(kvs:List (ac×α))(k:ac):Option α:=(kvs.find? fun e=> decide (e.1=k)).map (·.2)
noncomputable def v3{α:Type}(kvs:List (ac×α))(k:ac)(v:α):List (ac×α):=
 if (kvs.any fun e=> decide (e.1=k))=true then kvs.map (fun e=> if e.1=k then (e.1,v) else e) else kvs++ [(k,v)]
noncomputable def isK:ac -> Bool
 |.int _=> true
 |.str _=> true
 |_=> false
def v4{α:Type}(kvs:List (ac×α))(k:ac):Bool:=(isK k&&kvs.all fun e=> isK e.1)||(isT k&&kvs.all fun e=> isT e.1)
noncomputable def ali:D -> Option ac
 |.da d=> some d
 |_=> none
theorem asg{a b:Key}(h:kP a=kP b):a=b:=by
 cases a <;> cases b <;> simp [kP]at h <;> rw [h]
theorem a1j{k:ac}(h:isK k=true): ∃a,k=kP a:=by
 cases k <;> simp [isK]at h
 ·exact⟨.inl _,rfl⟩
 ·exact⟨.inr _,rfl⟩
theorem aev(l:List (Key×V))(k:Key):yh (pvK l) (kP k)=yh l k:=by
 induction l with
 |nil=> rfl
 |cons p r ih=>
  by_cases e:p.1=k
  ·rw [z6 e,show pvK (p::r)=(kP p.1,p.2)::pvK r from rfl,z6 (by rw [e])]
  ·rw [aa3 e,show pvK (p::r)=(kP p.1,p.2)::pvK r from rfl,aa3 (fun z=> e (asg z)),ih]
theorem ato(l:List (Key×V))(k:Key)(v:V):pvK (ki l k v)=ki (pvK l) (kP k) v:=by
 unfold ki
 rw [ac5,ac5,aev]
 split
 ·unfold pvK
  (rw [bx,bx])
  refine iy fun e _=> ?_
  show (kP (if e.1=k then (e.1,v) else e).1,(if e.1=k then (e.1,v) else e).2)=if kP e.1=kP k then (kP e.1,v) else (kP e.1,e.2)
  by_cases z:e.1=k
  ·rw [if_pos z,if_pos (by rw [z])]
  ·rw [if_neg z,if_neg (fun y=> z (asg y))]
 ·unfold pvK
  rw [bS];rfl
theorem DRs.get{l:List (ac×V)}{kvs:List (ac×D)}(h:DRs K as H l kvs)(k:ac):(∀d,qj kvs k=some d -> ∃v,yh l k=some v/\RD K as H v d)/\(qj kvs k=none -> yh l k=none):=by
 induction h with
 |nil=> exact⟨fun d e=> by simp [qj]at e,fun _=> rfl⟩
 | @cons k' v d l kvs r t ih=>
  by_cases e:k'=k
  ·subst e
   refine⟨fun d' e'=> ?_,fun e'=> ?_⟩
   ·simp [qj,cw]at e'
    subst e'
    exact⟨v,z6 rfl,r⟩
   ·simp [qj,cw]at e'
  ·have e1:qj ((k',d)::kvs) k=qj kvs k:=by simp [qj,cw,e]
   rw [e1,aa3 e]
   exact ih
theorem DRs.any{l:List (ac×V)}{kvs:List (ac×D)}(h:DRs K as H l kvs)(k:ac):(l.any fun e=> decide (e.1=k))=kvs.any fun e=> decide (e.1=k):=by
 induction h with
 |nil=> rfl
 |cons r t ih=> rw [d5,d5,ih]
theorem DRs.put{l:List (ac×V)}{kvs:List (ac×D)}(h:DRs K as H l kvs)(r:RD K as H v d)(k:ac):DRs K as H (ki l k v) (v3 kvs k d):=by
 unfold ki v3
 rw [h.any k]
 split
 ·rename_i c
  clear c
  induction h with
  |nil=> exact .nil
  | @cons k' v' d' l kvs r' t ih=>
   rw [aN,aN]
   by_cases e:k'=k
   ·rw [if_pos e,if_pos e];exact .cons r ih
   ·rw [if_neg e,if_neg e];exact .cons r' ih
 ·rename_i c
  clear c
  induction h with
  |nil=> exact .cons r .nil
  |cons r' t ih=> exact .cons r' ih
theorem DRs.len{l:List (ac×V)}{kvs:List (ac×D)}(h:DRs K as H l kvs):l.length=kvs.length:=by
 induction h with
 |nil=> rfl
 |cons r t ih=> simp [ih]
theorem DRs.keys{l:List (ac×V)}{kvs:List (ac×D)}(h:DRs K as H l kvs):l.map (·.1)=kvs.map (·.1):=by
 induction h with
 |nil=> rfl
 |cons r t ih=> simp [ih]
theorem aiu(l:List (Key×V)):(pvK l).length=l.length:=by simp [pvK]
noncomputable def onD{α:Type}(d:D)(s:S)(k:Nat -> List (ac×D) -> R α):R α:=match d with
 |.ref n=> match s[n]? with
  |some (.dct kvs)=> k n kvs
  |_=>.bad
 |_=>.bad
theorem aop{kvs:List (ac×D)}(rl:Rel K as H s)(hr: ∀q,as.ix[n]?=some (some q) -> q=p)(e:s[n]?=some (.dct kvs)):as.ix[n]?=some (some p)/\RO K as H p (.dct kvs):=by
 obtain⟨q,hq⟩:=rl.li n _ e (by intro z;cases z)
 cases hr q hq
 exact⟨hq,rl.ob n p _ hq e⟩
theorem af3{α β:Type}{rel:As -> Hp -> β -> α -> Prop}{k:Nat -> List (ac×D) -> R α}{Q:β -> Hp -> Prop}(rl:Rel K as H s)(r:RD K as H v d)(h:Dn K rel as H (onD d s k) Q): ∃p n kvs,v=.ref p/\d=.ref n/\as.ix[n]?=some (some p)/\s[n]?=some (.dct kvs)/\RO K as H p (.dct kvs)/\Dn K rel as H (k n kvs) Q:=by
 cases r with
 | @ref p n l hr=>
  have h:Dn K rel as H (match s[n]? with|some (O.dct kvs)=> k n kvs|_=>.bad) Q:=h
  split at h
  ·rename_i kvs e
   obtain⟨h1,h2⟩:=aop rl hr e
   exact⟨p,n,kvs,rfl,rfl,h1,e,h2,h⟩
  ·exact h.elim
 |_=> exact h.elim
theorem adj{kvs:List (ac×D)}{k:ac}(h:RO K as H p (.dct kvs))(hs:v4 kvs k=true):(∃(l:List (Key×V)) (a:Key),k=kP a/\H p=some (.dK l)/\DRs K as H (pvK l) kvs)\/ ∃l:List (ac×V),isT k=true/\DD H p l/\DRs K as H l kvs:=by
 unfold v4 at hs
 rw [Bool.or_eq_true,aB,aB]at hs
 rcases h with ⟨l,e,r⟩|⟨l,e0,e,r⟩
 ·rcases hs with ⟨h1,h2⟩|⟨h1,h2⟩
  ·obtain⟨a,rfl⟩:=a1j h1
   exact .inl ⟨l,a,rfl,e,r⟩
  ·cases l with
   |nil=> cases r;exact .inr ⟨[],h1,.inr ⟨e,rfl⟩,.nil⟩
   | cons q l=>
    obtain⟨q1,q2⟩:=q
    exfalso
    have r':DRs K as H ((kP q1,q2)::pvK l) kvs:=r
    cases r' with
    |cons r1 r2=>
     rw [gU,aB]at h2
     have:=h2.1
     cases q1 <;> simp [kP,isT]at this
 ·rcases hs with ⟨h1,h2⟩|⟨h1,h2⟩
  ·exfalso
   cases l with
   |nil=> exact e0.1 rfl
   | cons q l=>
    obtain⟨q1,q2⟩:=q
    cases r with
    |cons r1 r2=>
     have a1:=e0.2
     rw [gU,aB]at h2 a1
     have h2:=h2.1
     have a1:=a1.1
     cases q1 <;> simp [isK,isT]at h2 a1
  ·exact .inr ⟨l,h1,.inl e,r⟩
end PF
namespace PF
open PySem PySem.Spec
open L2
open PyProof.Rows (subscriptTail subscriptTail_builtinR)
variable[XW]
theorem aov{kvs:List (ac×D)}(I:Inv X pins σ H sh)(rl:Rel X.K as H s)(h:RO X.K as H p (.dct kvs)):
  ∃(es:Array c8) (ep:Nat) (xs ys:List V),aap sh.heap p es ep/\(p==bI)=false/\es.size=kvs.length/\kvs.length <=sizeLine/\jj xs (es.toList.map (·.key))/\TDs as H xs (kvs.map (·.1))/\jj ys (es.toList.map (·.val))/\RDs X.K as H ys (kvs.map (·.2)):=by
 rcases h with ⟨l,e,r⟩|⟨l,e0,e,r⟩
 ·obtain⟨z,hd,vs,rel,o,es,ep,h1,h2,h3,h4,h5,h6⟩:=ai8 I.hok e
  have all: ∀{l:List (Key×V)} {vs:List (Key×ae)} {es:List c8} {kvs:List (ac×D)},KV l vs -> PySem.Pairs (ko X.prog X.w) es vs -> DRs X.K as H (pvK l) kvs -> ∃xs ys,es.length=kvs.length/\jj xs (es.map (·.key))/\TDs as H xs (kvs.map (·.1))/\jj ys (es.map (·.val))/\RDs X.K as H ys (kvs.map (·.2)):=by
   intro l vs es kvs q
   induction q generalizing es kvs with
   |nil=> intro q1 q2;cases q1;cases q2;exact⟨[],[],rfl,.nil,.nil,.nil,.nil⟩
   | @cons a b _ _ hq t ih=>
    intro q1 q2
    obtain⟨a1,a2⟩:=a
    obtain⟨b1,b2⟩:=b
    obtain⟨hq1,hq2⟩:=hq
    simp only at hq1 hq2
    subst hq1
    cases q1 with
    | cons k1 k2 k3=>
     have q2':DRs X.K as H ((kP a1,a2)::pvK _) kvs:=q2
     cases q2' with
     | cons r1 r2=>
      obtain⟨xs,ys,i0,i1,i2,i3,i4⟩:=ih k3 r2
      subst k2
      rcases ql (show ae3 a1 _=true from k1) with ⟨j,t',e3,e4⟩|⟨y',t',e3,e4⟩
      ·subst e3
       exact⟨.int j::xs,a2::ys,by simp [i0],.cons ⟨t',e4⟩ i1,.cons (.int j) i2,.cons hq2 i3,.cons r1 i4⟩
      ·subst e3
       exact⟨.str y'::xs,a2::ys,by simp [i0],.cons ⟨t',e4⟩ i1,.cons (.str y') i2,.cons hq2 i3,.cons r1 i4⟩
  obtain⟨xs,ys,i0,i1,i2,i3,i4⟩:=all rel h5 r
  refine⟨es,ep,xs,ys,⟨o,h1,h2,h3⟩,hd,by rw [←au];exact i0,by rw [←r.len,aiu];exact z,i1,i2,i3,i4⟩
 ·obtain⟨z,hd,zs,rel,o,es,ep,h1,h2,h3,h4,h5,h6⟩:=a4x I.hok e
  have all: ∀{l:List (ac×V)} {zs:List (ac×Addr×ae)} {kvs:List (ac×D)},KE H l zs -> DRs X.K as H l kvs -> ∃xs ys,zs.length=kvs.length/\jj xs ((zs.map (eZ (qo X.prog X.w))).map (·.key))/\TDs as H xs (kvs.map (·.1))/\jj ys ((zs.map (eZ (qo X.prog X.w))).map (·.val))/\RDs X.K as H ys (kvs.map (·.2)):=by
   intro l zs kvs q
   induction q generalizing kvs with
   |nil=> intro q2;cases q2;exact⟨[],[],rfl,.nil,.nil,.nil,.nil⟩
   | @cons a b _ _ hq t ih=>
    intro q2
    obtain⟨a1,a2⟩:=a
    obtain⟨b1,b2,b3⟩:=b
    obtain⟨hq1,hq2,hq3⟩:=hq
    simp only at hq1 hq2 hq3
    subst hq1
    cases q2 with
    |cons r1 r2=>
     obtain⟨xs,ys,i0,i1,i2,i3,i4⟩:=ih r2
     exact⟨.ref b2::xs,a2::ys,by simp [i0],.cons rfl i1,.cons (PF.KD.td rl hq2.2) i2,.cons hq3 i3,.cons r1 i4⟩
  obtain⟨xs,ys,i0,i1,i2,i3,i4⟩:=all rel r
  rw [←h4]at i1 i3
  refine⟨es,ep,xs,ys,⟨o,h1,h2,h3⟩,hd,?_,by rw [←r.len];exact z,i1,i2,i3,i4⟩
  rw [←au,h4,am];exact i0
noncomputable def z5:FE:=fun _ s=>.ok (.ref s.length) (s++ [.dct []])
theorem ayx{H':Hp}{Q:VK}(rl:Rel K as H s)(n:New H p (.dK []) H')(h:Dn K (rD K) as H (.ok (.ref s.length) (s++ [.dct []])) Q):Q (.ref p) H':=by
 refine h (.ref p) (as.add p) H' (abc n) (rl.laid n (.inl ⟨[],n.at,.nil⟩)) (.ref (by simp [rl.len]) fun q e=> ?_)
 rw [←rl.len]at e
 simp at e
 exact e.symm
theorem adm:RE X (.Dict [] [] pos) z5:=⟨_,awp,fun as σ H ρ s Q rl en h=> fun p hp=> ayx rl ⟨hp,rfl⟩ h⟩
theorem RD.key_inv{k:ac}(r:RD K as H v d)(h:ali d=some k):TD as H v k:=by
 cases r with
 |da t=> cases h;exact t
 |_=> cases h
theorem aeo{a:Key}(t:TD as H v (kP a))(r:RelV v u):RelV (kV a) u:=by
 cases a with
 |inl i=> cases t;exact r
 |inr x=> cases t;exact r
theorem afx{k:ac}(h:isT k=true):xt k=true/\plD k=true/\ ∃xs,k=.tuple xs:=by
 cases k with
 |tuple xs=> exact⟨h,(kq.mp (show xt (.tuple xs)=true from h)).1,xs,rfl⟩
 |_=> cases h
theorem ah6(t:TD as H v (.tuple xs)): ∃b,v=.ref b:=by cases t with|tup n e r=> exact⟨_,rfl⟩
end PF
namespace PF
open PySem PySem.Spec
open L2
variable[XW]
def akv(o i v:D)(s:S):R D:=onD o s fun n kvs=> match ali i with
 |some k=> if v4 kvs k=true/\kvs.length < sizeLine then .ok .non (s.set n (.dct (v3 kvs k v))) else .bad
 |none=>.bad
def ae9(o i v:D)(s:S):R D:=match o with
 |.ref n=> match s[n]? with
  |some (.dct kvs)=> akv o i v s
  |_=> z7 o i v s
 |_=> z7 o i v s
theorem afv{H':Hp}{o:HO}{kvs:List (ac×D)}{Q:VK}(rl:Rel K as H s)(ha:as.ix[n]?=some (some p))(c:Chg H p o H')(ro:RO K as H' p (.dct kvs))(rv:RD K as H v d)(h:Dn K (rD K) as H (.ok d (s.set n (.dct kvs))) Q):Q v H':=by
 have st:=z8 (kc.mpr ⟨n,ha⟩) (fun z=> rl.hx p z (kc.mpr ⟨n,ha⟩)) c
 exact h v as H' st (rl.chg ha c ro) (rv.mono st)
theorem aos{l:List (ac×V)}{k:ac}(hl:(l.all fun e=> isT e.1)=true)(hk:isT k=true):((ki l k v).all fun e=> isT e.1)=true:=by
 rw [ay]at hl⊢
 intro e he
 unfold ki at he
 split at he
 ·obtain⟨e',h1,h2⟩:=a8.mp he
  split at h2
  ·subst h2;exact hl e' h1
  ·subst h2;exact hl _ h1
 ·rcases aS.mp he with h|h
  ·exact hl e h
  ·rw [aL]at h
   subst h;exact hk
theorem ao9{κ:Type}[DecidableEq κ](l:List (κ×V))(k:κ)(v:V):ki l k v≠ []:=by
 unfold ki
 split
 ·rename_i h
  cases l with
  |nil=> simp at h
  |cons a b=> simp
 ·simp
theorem atf{kvs:List (ac×D)}(h:RO K as H p (.dct kvs)){l:List (ac×V)}(dd:DD H p l):(l.all fun e=> isT e.1)=true:=by
 rcases dd with e|⟨_,rfl⟩
 ·rcases h with ⟨l',e',_⟩|⟨l',h0,e',_⟩
  ·rw [e]at e';cases e'
  ·rw [e]at e';cases e';exact h0.2
 ·rfl
theorem a01(hu:X.A.units+70 < cLine){x y z:V}{dx dy dz:D}{v r:ae}{Q:VK}(I:Inv X pins σ H sh)(rl:Rel X.K as H s)(r1:RD X.K as H x dx)(r2:RD X.K as H y dy)(r3:RD X.K as H z dz)(rx:RelV x v)(ry:RelV y u)(rz:RelV z r)(h:Dn X.K (rD X.K) as H (akv dx dy dz s) Q):wpAny (model X.prog X.w) X.A (setItem v u r) (fun _ s'=> ∃H',Inv X pins σ H' s'/\Q .non H') X.xe sh:=by
 obtain⟨p,n,kvs,rfl,rfl,ha,e,ro,h⟩:=af3 rl r1 h
 cases rx
 split at h
 ·rename_i k hk
  split at h
  ·rename_i hsm
   obtain⟨hsm,hlen⟩:=hsm
   have ty:=r2.key_inv hk
   rcases adj ro hsm with ⟨l,a,rfl,eh,dr⟩|⟨l,it,dd,dr⟩
   ·have hl:l.length < sizeLine:=by rw [←aiu,dr.len];exact hlen
    refine ast (by lia) I (apa.k (k:=a) (v:=z) eh hl) (aeo ty ry) rz fun s' I'=> ⟨_,I',?_⟩
    have c:Chg H p (.dK (ki l a z)) (upd H p (.dK (ki l a z))):=⟨rfl⟩
    have st:=z8 (kc.mpr ⟨n,ha⟩) (fun q=> rl.hx p q (kc.mpr ⟨n,ha⟩)) c
    refine afv (v:=.non) rl ha c (.inl ⟨_,c.at,?_⟩) (.da .non) h
    rw [ato]
    exact (dr.put r3 (kP a)).mono st
   ·obtain⟨kok,kpl,ks,rfl⟩:=afx it
    obtain⟨b,rfl⟩:=ah6 ty
    cases ry
    have hl:l.length < sizeLine:=by rw [dr.len];exact hlen
    refine apj (by lia) I dd hl kok (TD.kd ty kpl) rz fun s' I'=> ⟨_,I',?_⟩
    have c:Chg H p (.dD (ki l (.tuple ks) z)) (upd H p (.dD (ki l (.tuple ks) z))):=⟨rfl⟩
    have st:=z8 (kc.mpr ⟨n,ha⟩) (fun q=> rl.hx p q (kc.mpr ⟨n,ha⟩)) c
    exact afv (v:=.non) rl ha c (.inr ⟨_,⟨ao9 _ _ _,aos (atf ro dd) it⟩,c.at,(dr.put r3 _).mono st⟩) (.da .non) h
  ·exact h.elim
 ·exact h.elim
def afr(g:D -> D -> D -> S -> R D)(fv fo fi:FE):FS:=fun ρ s=> (fv ρ s).bind fun v s1=> (fo ρ s1).bind fun o s2=> (fi ρ s2).bind fun i s3=> (g o i v s3).bind fun _ s4=>.ok (.nx ρ) s4
structure Set2 (X:Cx) (g:D -> D -> D -> S -> R D):Prop where
 run: ∀(pins:List (Addr×Obj)) (sh:ag) (σ:St) (H:Hp) (as:As) (s:S) (x y z:V) (dx dy dz:D) (v u r:ae) (Q:VK),Inv X pins σ H sh -> Rel X.K as H s -> RD X.K as H x dx -> RD X.K as H y dy -> RD X.K as H z dz -> RelV x v -> RelV y u -> RelV z r ->
  Dn X.K (rD X.K) as H (g dx dy dz s) Q -> wpAny (model X.prog X.w) X.A (setItem v u r) (fun _ s'=> ∃H',Inv X pins σ H' s'/\Q .non H') X.xe sh
theorem azl(hu:X.A.units+70 < cLine):Set2 X ae9:=⟨fun pins sh σ H as s x y z dx dy dz v u r Q I rl r1 r2 r3 rx ry rz h=> by
 have lst:Dn X.K (rD X.K) as H (z7 dx dy dz s) Q -> wpAny (model X.prog X.w) X.A (setItem v u r) (fun _ s'=> ∃H',Inv X pins σ H' s'/\Q .non H') X.xe sh:=fun h=> by
  unfold z7 at h
  split at h
  ·cases r2.int_inv
   obtain⟨p,n,xs,ds,rfl,ha,hx,rs,h⟩:=aeu rl r1 h
   split at h
   ·rename_i j e
    exact ajl pins sh σ H _ _ z v u r (Q .non) I rx ry rz ⟨p,xs,_,j,rfl,rfl,hx,by rw [rs.length];exact e,fun H' c=> af6 (v:=.non) (o:=.lst []) rl ha c (rs.set j r3) (.da .non) h⟩
   ·exact h.elim
  ·exact h.elim
 unfold ae9 at h
 split at h
 ·split at h
  ·exact a01 hu I rl r1 r2 r3 rx ry rz h
  ·exact lst h
 ·exact lst h⟩
theorem ayb{i:Expr}{fv:FE}{pos':Pos}{g:D -> D -> D -> S -> R D}(hg:Set2 X g)(he:RE X e fv)(ho:RE X o fo)(hi:RE X i fi)(ha: ∀v,assign (.Subscript o i pos') X.env v=(do
   let ov←holding [v] (eval o X.env)
   let iv←holding [v,ov] (eval i X.env)
   standAt pos'
   holding [v,ov,iv] (setItem ov iv v)
   release [v,ov,iv] []):=by intro _;rfl) (hs:mG [.Subscript o i pos'] e pos.line X.env=pure false:=by rfl) (hw:mH [.Subscript o i pos'] e X.env=pure none:=by rfl) (h1:(bz [.Subscript o i pos'] X.env).map (·.2)=[assign (.Subscript o i pos') X.env]:=by rfl):RS X (.Assign [.Subscript o i pos'] e pos) (afr g fv fo fi):=by
 obtain⟨te,pe,re⟩:=he.ex
 obtain⟨to,po,ro⟩:=ho.ex
 obtain⟨ti,pi,ri⟩:=hi.ex
 have hset:agv X (fun x y z H Q=> ∃as s dx dy dz,Rel X.K as H s/\RD X.K as H x dx/\RD X.K as H y dy/\RD X.K as H z dz/\Dn X.K (rD X.K) as H (g dx dy dz s) (fun _ H'=> Q H')):=fun pins s σ H o i v ov iv u Q I rx ry rz ⟨as,s',dx,dy,dz,rl,a,b,c,q⟩=> hg.run pins s σ H as s' o i v dx dy dz ov iv u _ I rl a b c rx ry rz q
 refine⟨_,at1 pe (arf po pi hset ha) hs hw h1,fun as σ H ρ s D rl en h=> ?_⟩
 refine re as σ H ρ s _ rl en (Dn.bind h fun v s1 as1 H1 vv st1 rl1 r1 h1=> ?_)
 refine ro as1 σ H1 ρ s1 _ rl1 (en.mono st1) (Dn.bind h1 fun o s2 as2 H2 ov st2 rl2 r2 h2=> ?_)
 refine ri as2 σ H2 ρ s2 _ rl2 ((en.mono st1).mono st2) (Dn.bind h2 fun i s3 as3 H3 iv st3 rl3 r3 h3=> ?_)
 have en3:=((en.mono st1).mono st2).mono st3
 exact⟨as3,s3,o,i,v,rl3,r2.mono st3,r3,(r1.mono st2).mono st3,Dn.bind h3 fun d s4 as4 H4 vv st4 rl4 r4 h4=> Dn.now (b:=FV.nx σ) h4 rl4 (.nx (en3.mono st4))⟩
def fMd(g:GM)(fo:FE)(fa:FA):FE:=fun ρ s=> (fo ρ s).bind fun d s1=> onD d s1 fun _ _=> (fa ρ s1).bind fun ds s2=> g d ds s2
theorem auo{kvs:List (ac×D)}(I:Inv X pins σ H sh)(rl:Rel X.K as H s)(h:RO X.K as H p (.dct kvs)):sh.TypeIs (.ref p) "dict"/\ ∀a,bn p=.ref a -> ∃ob,sh.heap.get? a=some ob/\ob.dict=none:=by
 obtain⟨es,ep,_,_,raw,_⟩:=aov I rl h
 refine⟨raw.typeIs,fun a e=> ?_⟩
 cases e
 obtain⟨o,ho,hc,_⟩:=raw
 exact⟨o,ho,hc.2.1⟩
theorem aha{name:Str}{id:String}{g:GM}{apos cpos:Pos}(slot:Slot "dict" name id)(hty:typeOf (.builtin id)=pure (.type "method_descriptor"))(hm:MB X id g)(ho:RE X o fo)(ha:RA X (e::es) fa)(hbase:dZ o name X.env (eval o X.env)=eval o X.env:=by rfl)(hfew:((backTo cpos (starEach (e::es) X.env)).all (fun x=> !x.1)&&(backToKw cpos (fX [] X.env)).all (fun x=> x.1.isSome)
   &&decide ((e::es).length+([]:List gz).length+(if ([]:List gz).isEmpty then 0 else 1) < 30))=true:=by rfl) (hline:(apos.endLine==cpos.line)=true:=by rfl) (hs:starEach (e::es) X.env=(false,eval e X.env)::starEach es X.env:=by rfl) (hplain:(backTo cpos (starEach es X.env)).any (·.1)=false:=by rfl):
  RE X (.Call (.Attribute o name apos) (e::es) [] cpos) (fMd g fo fa):=by
 obtain⟨r,hr,hg⟩:=hm.ex
 obtain⟨to,po,ro⟩:=ho.ex
 obtain⟨ta,pa,ra⟩:=ha.ex
 refine⟨fun σ H Q=> to σ H fun x H1=> ∃as s p kvs,x=.ref p/\Rel X.K as H1 s/\RO X.K as H1 p (.dct kvs)/\ta σ H1 fun vs H2=> r x vs H2 Q,⟨fun pins s σ H Q I h=> ?_⟩,fun as σ H ρ s Q rl en h=> ?_⟩
 ·refine lq hbase hfew hline rfl (thn (po pins s σ H _ I h) fun v s1 ⟨x,H1,I1,r1,as,s',p,kvs,ex,rl,rro,q1⟩=> ?_)
  subst ex
  cases r1
  obtain⟨h1,h2⟩:=auo I1 rl rro
  refine⟨"dict",id,PySem.F.plainAttrs_dict,slot,hty,h1,h2,?_⟩
  have hA:=pa cpos pins s1 σ H1 _ I1 q1
  rw [hs]at hA⊢
  refine lr (by show (false||(backTo cpos (starEach es X.env)).any (·.1))=false;rw [hplain] <;> rfl) (l5 ?_)
  exact thn hA fun us s2 ⟨vs,H2,I2,r2,q2⟩=> hr pins s2 σ H2 (.ref p) vs (.ref p) us Q I2 rfl r2 q2
 ·refine ro as σ H ρ s _ rl en (Dn.bind h fun d s1 as1 H1 v st1 rl1 r1 h1=> ?_)
  obtain⟨p,n,kvs,rfl,rfl,hx,e,rro,h1⟩:=af3 rl1 r1 h1
  refine⟨as1,s1,p,kvs,rfl,rl1,rro,ra as1 σ H1 ρ s1 _ rl1 (en.mono st1) (Dn.bind h1 fun ds s2 as2 H2 vs st2 rl2 r2 h2=> ?_)⟩
  exact hg as2 H2 s2 (.ref p) vs (.ref n) ds Q rl2 (r1.mono st2) r2 h2
def zj:GM:=fun d ds s=> match ds with
 |[kd]=> onD d s fun n kvs=> match ali kd with
  |some k=> if v4 kvs k=true then .ok ((qj kvs k).getD .non) s else .bad
  |none=>.bad
 |[kd,x]=> onD d s fun n kvs=> match ali kd with
  |some k=> if v4 kvs k=true then .ok ((qj kvs k).getD x) s else .bad
  |none=>.bad
 |_=>.bad
theorem DRs.getD{l:List (ac×V)}{kvs:List (ac×D)}(h:DRs K as H l kvs)(k:ac)(r:RD K as H v d):RD K as H ((yh l k).getD v) ((qj kvs k).getD d):=by
 cases e:qj kvs k with
 |none=> rw [(h.get k).2 e];exact r
 |some x=> obtain⟨w,ew,rw'⟩:=(h.get k).1 x e;rw [ew];exact rw'
theorem alb(hu:X.A.units+70 < cLine):MB X "dict.get" zj:=by
 refine⟨fun x xs H Q=> ∃as s d ds,Rel X.K as H s/\RD X.K as H x d/\RDs X.K as H xs ds/\Dn X.K (rD X.K) as H (zj d ds s) Q,fun pins sh σ H x xs v us Q I rx rs ⟨as,s,d,ds,rl,r1,r2,h⟩=> ?_,fun as H s x xs d ds Q rl r1 r2 h=> ⟨as,s,d,ds,rl,r1,r2,h⟩⟩
 unfold zj at h
 split at h
 ·rename_i kd
  obtain⟨y,rfl,ry⟩:=r2.one
  obtain⟨u,rfl,ru⟩:=vals1 rs
  obtain⟨p,n,kvs,rfl,rfl,ha,e,ro,h⟩:=af3 rl r1 h
  cases rx
  split at h
  ·rename_i k hk
   split at h
   ·rename_i hsm
    have ty:=ry.key_inv hk
    rcases adj ro hsm with ⟨l,a,rfl,eh,dr⟩|⟨l,it,dd,dr⟩
    ·refine a31 (by lia) I (aig.k (k:=a) eh) (aeo ty ru) fun w' s' I' rw'=> ⟨_,H,I',rw',?_⟩
     have:=dr.getD (kP a) (v:=.non) (d:=.non) (.da .non)
     rw [aev]at this
     exact Dn.now (Q:=Q) h rl this
    ·obtain⟨kok,kpl,ks,rfl⟩:=afx it
     obtain⟨b,rfl⟩:=ah6 ty
     cases ru
     exact ay1 (by lia) I dd kok (TD.kd ty kpl) fun w' s' I' rw'=> ⟨_,H,I',rw',Dn.now (Q:=Q) h rl (dr.getD _ (v:=.non) (d:=.non) (.da .non))⟩
   ·exact h.elim
  ·exact h.elim
 ·rename_i kd xd
  obtain⟨y,z,rfl,ry,rz⟩:=r2.two
  obtain⟨u,u2,rfl,ru,ru2⟩:=rs.two
  obtain⟨p,n,kvs,rfl,rfl,ha,e,ro,h⟩:=af3 rl r1 h
  cases rx
  split at h
  ·rename_i k hk
   split at h
   ·rename_i hsm
    have ty:=ry.key_inv hk
    rcases adj ro hsm with ⟨l,a,rfl,eh,dr⟩|⟨l,it,dd,dr⟩
    ·refine a1b (by lia) I (aig.k (k:=a) eh) (aeo ty ru) ru2 fun w' s' I' rw'=> ⟨_,H,I',rw',?_⟩
     have:=dr.getD (kP a) rz
     rw [aev]at this
     exact Dn.now (Q:=Q) h rl this
    ·obtain⟨kok,kpl,ks,rfl⟩:=afx it
     obtain⟨b,rfl⟩:=ah6 ty
     cases ru
     exact azc (by lia) I dd kok (TD.kd ty kpl) ru2 fun w' s' I' rw'=> ⟨_,H,I',rw',Dn.now (Q:=Q) h rl (dr.getD _ rz)⟩
   ·exact h.elim
  ·exact h.elim
 ·exact h.elim
end PF
namespace PF
open PySem PySem.Spec
open L2
variable[XW]
noncomputable def aqq(s:S):D -> Option (List (ac×D))
 |.ref n=> match s[n]? with
  |some (.dct kvs)=> some kvs
  |_=> none
 |_=> none
theorem azm{kvs:List (ac×D)}(rl:Rel K as H s)(r:RD K as H v d)(h:aqq s d=some kvs): ∃p n,v=.ref p/\d=.ref n/\as.ix[n]?=some (some p)/\s[n]?=some (.dct kvs)/\RO K as H p (.dct kvs):=by
 cases r with
 | @ref p n l hr=>
  have h:(match s[n]? with|some (O.dct kvs)=> some kvs|_=> none)=some kvs:=h
  split at h
  ·rename_i e
   cases h
   obtain⟨h1,h2⟩:=aop rl hr e
   exact⟨p,n,rfl,rfl,h1,e,h2⟩
  ·cases h
 |_=> cases h
theorem aso{f:ae}{g:FF}(c:CB X f g){xs:List V}{ds:List D}{Q:VK}(I:Inv X pins σ H sh)(rl:Rel X.K as H s)(rs:RDs X.K as H xs ds)(ru:jj xs us)(h:Dn X.K (rD X.K) as H (g ds s) Q):wpAny (model X.prog X.w) X.A (call f us) (EP X pins σ Q) X.xe sh:=by
 obtain⟨r,h1,h2⟩:=c.ex
 exact h1 pins sh σ H xs us Q I ru (h2 as H s xs ds Q rl rs h)
def ahd(m:Bool)(ds:List D)(s:S):R D:=match ds with
 |[d]=> match aqq s d with
  |some kvs=> kj m (kvs.map fun e=> D.da e.1) s
  |none=> ah4 m ds s
 |_=> ah4 m ds s
theorem au2{es:Array c8}{acc:Array ae}(it:ItemsOf (fun i v=> es[i]?.map (·.key)=some v) acc es.size):acc.toList=es.toList.map (·.key):=by
 have ea:acc=es.map (·.key):=by
  apply Array.ext_getElem?
  intro i
  rw [Array.getElem?_map]
  cases c:acc[i]? with
  |some v=> exact (it.2 i v c).symm
  |none=>
   have:acc.size <=i:=fU.mp c
   rw [it.1]at this
   rw [fU.mpr this];rfl
 rw [ea,Array.toList_map]
theorem al7(kvs:List (ac×D)):(kvs.map fun e=> D.da e.1)=(kvs.map (·.1)).map D.da:=by rw [bx];rfl
theorem azi(m:Bool)(hh:X.A.handled=none):CB X (.type "list") (ahd m):=aec fun pins sh σ H as s xs ds us Q I rl rs ru h=> by
 unfold ahd at h
 split at h
 ·rename_i d
  split at h
  ·rename_i kvs e
   obtain⟨v,rfl,rv⟩:=rs.one
   obtain⟨u,rfl,ruv⟩:=vals1 ru
   obtain⟨p,n,rfl,rfl,ha,e2,ro⟩:=azm rl rv e
   cases ruv
   obtain⟨es,ep,zs,ys,raw,hsm,hsz,hz,vz,tz,_⟩:=aov I rl ro
   refine PySem.W.kdl_call (avd (es:=es) (ep:=ep) hsm) hh raw (by lia) fun h' tk acc c kp g it=> ?_
   have ea:=au2 it
   have hlz:zs.length <=sizeLine:=by rw [tz.length,am];exact hz
   have I2:Inv X pins σ (upd H sh.heap.objs.size (.lst zs)) {sh with heap:=h',toks:=tk}:=I.laid (t':=tk) kp (ao _) ⟨hlz,acc.toList,c,by rw [ea];exact vz,by simpa using g⟩
   have nw:New H sh.heap.objs.size (.lst zs) (upd H sh.heap.objs.size (.lst zs)):=⟨I.hok.fresh (ao _),rfl⟩
   rw [al7]at h
   exact⟨.ref sh.heap.objs.size,_,I2,rfl,zl h rl tz.rd nw⟩
  ·exact aso (aqu m) I rl rs ru h
 ·exact aso (aqu m) I rl rs ru h
end PF
namespace PF
open PySem PySem.Spec
open L2
variable[XW]
end PF
namespace L2
open PySem PySem.Spec PyProof.Rows
abbrev TBd:=Addr -> St -> Hp -> (St -> Hp -> Prop) -> Prop
section
variable{P:aI}{w:aM}{A:aZ}{R:gh -> ag -> Prop}{s:ag}{elt tg iter tg2 iter2:Expr}{ifs ifs2:List Expr}{sc:dS}{pos:Pos}{it acc:ae}{env:Env}
def LcT(P:aI)(w:aM)(A:aZ)(it:ae)(tg:Expr)(l:List Expr)(env:Env)(body:(ag -> Prop) -> ag -> Prop)(fin again:ag -> Prop)(s:ag):Prop:=
 Wn P w A (pyNext it) (fun r a=> match r with
  |none=> fin a
  |some v=> Wn P w A (dU tg it v) (fun _ b=> Wn P w A (assign tg env v) (fun _ c=> Wn P w A (ah5 env l) (fun ok d=> if ok=true then body again d else again d) c) b) a) s
def aed(P:aI)(w:aM)(A:aZ)(e iter:Expr)(acc:ae)(env:Env)(again:ag -> Prop)(s:ag):Prop:=
 Wn P w A (eval iter env) (fun x a=> Wn P w A (pyIter x) (fun it2 c=> codeAny (model P w) A (.compStart e 1 it2 acc env) (fun r z=> match r with|.ok _=> again z|.error _=> False) c) a) s
end
theorem aed.mono{acc:ae}{a b:ag -> Prop}{s:ag}(h:aed P w A e iter acc env a s)(k: ∀z,a z -> b z):aed P w A e iter acc env b s:=by
 refine bw h (fun x s1 h1=> bw h1 (fun it2 s2 h2=> dm h2 fun r z hz=> ?_) fun _ _ f=> f) fun _ _ f=> f
 cases r with
 |ok f=> exact k z hz
 |error _=> exact hz
def PNx(X:Cx)(e iter:Expr)(tb:TBd):Prop:= ∀(D:Addr) (pins:List (Addr×Obj)) (s:ag) (σ:St) (H:Hp) (Q:St -> Hp -> Prop),Inv X pins σ H s -> tb D σ H Q -> aed X.prog X.w X.A e iter (.ref D) X.env (fun s'=> ∃σ' H',Inv X pins σ' H' s'/\Q σ' H') s
end L2
namespace PF
open PySem PySem.Spec
open L2
variable[XW]
noncomputable def apr(K:aj)(f:FI):TI:=fun σ H R=> ∃as ρ s,Rel K as H s/\Envs K as H ρ σ/\Dn K (ad1 K) as H (f ρ s) R
theorem RI.pi{X:Cx}{tg iter:Expr}{f:FI}(h:RI X tg iter f):PI X tg iter (apr X.K f):=by
 obtain⟨t,p,r⟩:=h.ex
 exact fun pins s σ H R I ⟨as,ρ,s',a,b,c⟩=> p pins s σ H R I (r as σ H ρ s' R a b c)
noncomputable def vm:Tg -> En -> Bool
 |.nm i,ρ=> match ρ[i]? with
  |some none=> true
  |_=> false
 |.t2 a b,ρ=> vm a ρ&&vm b ρ
 |.t3 a b c,ρ=> vm a ρ&&vm b ρ&&vm c ρ
 |.tn is,ρ=> is.all fun i=> match ρ[i]? with
  |some none=> true
  |_=> false
def Wk1(ρ ρ':En):Prop:=ρ'.length=ρ.length/\ ∀(i:Nat) (d:D),ρ[i]?=some (some d) -> ρ'[i]?=some (some d)
theorem Wk1.refl(ρ:En):Wk1 ρ ρ:=⟨rfl,fun _ _ e=> e⟩
theorem ans: ∀(is:List Nat) (ds:List D) {ρ0 ρ ρ':En},Wk1 ρ0 ρ -> vm (.tn is) ρ0=true -> apc is ds ρ=some ρ' -> Wk1 ρ0 ρ'
 |[],[],_,_,_,w,_,e=> by cases e;exact w
 | i::r,d::ds,ρ0,ρ,ρ',w,hn,e=> by
  have hn':(match ρ0[i]? with|some none=> true|_=> false)=true/\vm (.tn r) ρ0=true:=by simpa [vm] using hn
  refine ans r ds ⟨by simp [w.1],fun j x ej=> ?_⟩ hn'.2 e
  by_cases z:i=j
  ·subst z
   have:=hn'.1
   rw [ej]at this
   cases this
  ·rw [aF z];exact w.2 j x ej
 |[],_::_,_,_,_,_,_,e=> by cases e
 |_::_,[],_,_,_,_,_,e=> by cases e
theorem adc: ∀(g:Tg) {d:D} {ρ0 ρ ρ':En},Wk1 ρ0 ρ -> vm g ρ0=true -> ky g d ρ=some ρ' -> Wk1 ρ0 ρ'
 | .nm i,d,ρ0,ρ,ρ',w,hn,e=> by
  cases e
  refine⟨by simp [w.1],fun j x ej=> ?_⟩
  by_cases z:i=j
  ·subst z
   simp only [vm,ej]at hn
   cases hn
  ·rw [aF z];exact w.2 j x ej
 | .t2 a b,d,ρ0,ρ,ρ',w,hn,e=> by
  simp only [vm,aB]at hn
  unfold ky at e
  split at e
  ·split at e
   ·rename_i q1
    exact adc b (adc a w hn.1 q1) hn.2 e
   ·cases e
  ·cases e
 | .t3 a b c,d,ρ0,ρ,ρ',w,hn,e=> by
  simp only [vm,aB]at hn
  unfold ky at e
  split at e
  ·split at e
   ·rename_i q1
    split at e
    ·rename_i q2
     exact adc c (adc b (adc a w hn.1.1 q1) hn.1.2 q2) hn.2 e
    ·cases e
   ·cases e
  ·cases e
 | .tn is,d,ρ0,ρ,ρ',w,hn,e=> by
  unfold ky at e
  split at e
  ·rename_i ys _
   exact ans is ys w hn e
  ·cases e
theorem Envs.mono0{as':As}{H':Hp}(e:Envs K as H ρ σ)(st:Step0 as H as' H'):Envs K as' H' ρ σ:=⟨e.len,fun i d h=> let ⟨v,a,b⟩:=e.get i d h;⟨v,a,b.mono0 st⟩⟩
theorem Envs.weak{ρ':En}(e:Envs K as H ρ' σ)(w:Wk1 ρ ρ'):Envs K as H ρ σ:=⟨w.1.symm.trans e.len,fun i d h=> e.get i d (w.2 i d h)⟩
def km(g g2:Tg)(ft:FT)(fi2:FI)(ft2:FT)(fe:FE)(ρ0:En)(p:Wk):List D -> S -> R (List D)
 |[],s=>.ok [] s
 | d::r,s=> match ky g d ρ0 with
  |none=>.bad
  |some ρ1=> (ft ρ1 s).calm.bind fun b s2=> if b=true then (fi2 ρ1 s2).calm.bind fun p2 s3=> if vm g2 ρ1=true then chk p2 s3 ((j9 g2 ft2 fe ρ1 p2 p2.1 s3).bind fun xs s4=> chk p s4 ((km g g2 ft fi2 ft2 fe ρ0 p r s4).bind fun ys s5=>.ok (xs++ys) s5)) else .bad
   else chk p s2 (km g g2 ft fi2 ft2 fe ρ0 p r s2)
theorem acl{g g2:Tg}{ft:FT}{fi2:FI}{ft2:FT}{fe:FE}{ρ0:En}{p:Wk}: ∀(ds:List D) (s:S) (n:Nat) (ρ:En) (s':S),km g g2 ft fi2 ft2 fe ρ0 p ds s≠ .ex n ρ s'
 |[],s,n,ρ,s'=> by intro h;cases h
 | d::r,s,n,ρ,s'=> by
  rw [km]
  split
  ·intro h;cases h
  ·refine aaq (R.calm_ex _) (fun b s2=> ?_) n ρ s'
   intro n ρ s'
   split
   ·refine aaq (R.calm_ex _) (fun p2 s3=> ?_) n ρ s'
    intro n ρ s'
    split
    ·exact aez (aaq (fun n ρ s'=> aau _ _ n ρ s') fun xs s4=> aez (aaq (fun n ρ s'=> acl r s4 n ρ s') fun ys s5 n ρ s' h=> by cases h)) n ρ s'
    ·intro h;cases h
   ·exact aez (fun n ρ s'=> acl r s2 n ρ s') n ρ s'
theorem aye{k:Nat}{σ' cap:St}(f:Fra k σ σ')(h: ∃vs:St,vs.length=k/\σ=vs++cap): ∃vs:St,vs.length=k/\σ'=vs++cap:=by
 obtain⟨vs,hl,e⟩:=h
 exact f vs cap hl e
end PF
namespace L2
open PySem PySem.Spec PyProof.Rows
def ab6(b:Bool)(h:Heap)(l:Addr)(xs:Array ae):Prop:=if b=true then h.IsList l xs else h.IsTuple l xs
def zn(b:Bool)(h:Heap)(i l:Addr)(k:Nat):Prop:=if b=true then h.IsListIter i l k else h.IsTupleIter i l k
theorem zn.to{h':Heap}{i l:Addr}(x:zn b h i l n)(k: ∀o,h.get? i=some o -> h'.get? i=some o):zn b h' i l n:=by
 cases b with
 |true=> obtain⟨o,e,r⟩:=x;exact⟨o,k o e,r⟩
 |false=> obtain⟨o,e,r⟩:=x;exact⟨o,k o e,r⟩
theorem zn.obj{i l:Addr}(x:zn b h i l n): ∃o,h.get? i=some o/\ ∃vs,o.data=.fields vs:=by
 cases b with
 |true=> obtain⟨o,e,_,r⟩:=x;exact⟨o,e,_,r⟩
 |false=> obtain⟨o,e,_,r⟩:=x;exact⟨o,e,_,r⟩
section
variable{P:aI}{w:aM}{A:aZ}{E:ae -> ag -> Prop}{s:ag}
open PySem.F in
theorem anm{i l:Addr}{k:Nat}{xs:Array ae}{x:ae}(hi:zn b s.heap i l k)(hl:ab6 b s.heap l xs)(hx:xs[k]?=some x)(hQ: ∀h',zn b h' i l (k+1) -> bi i s.heap h' -> Q x {s with heap:=h'}):wpAny (model P w) A (jS (.ref i)) Q E s:=by
 cases b with
 |true=> exact wpAny_nextOf_list_item hi hl hx hQ
 |false=>
  have hi:s.heap.IsTupleIter i l k:=hi
  have hl:s.heap.IsTuple l xs:=hl
  obtain⟨o,ho,hc,hd⟩:=id hi
  (obtain⟨ol,hol,_,nl,hdl⟩:=hl)
  refine aa (br (name:=cr "__next__") hi.typeIs slot_tuple_iterator_next (bh slot_tuple_iterator_next hi.typeIs entry_tuple_iterator_next ?_ (args_tuple_iterator_next_1 _)))
  wp_walk using b7 ho hd (x:=.ref l) rfl,b7 ho hd (x:=.int k 0) rfl,gx hol hdl
  (simp only [bU,hx])
  refine aa (cA ho hd (by simp) (af ⟨_,rfl,af (hQ _ ?_ (.update ..))⟩))
  exact⟨_,bt _ ho (fD (de hd _)),by rw [Obj.cls_mapFields];exact hc,by rw [de hd];simp [rawInt]⟩
open PySem.F in
theorem aq2{i l:Addr}{k:Nat}{xs:Array ae}(hh:A.handled=none)(hi:zn b s.heap i l k)(hl:ab6 b s.heap l xs)(hx:xs[k]?=none)(hE: ∀h' e,eG i s.heap h' -> (∃o,h'.get? e=some o/\o.cls=.type "StopIteration") -> E (.ref e) {s with heap:=h'}):wpAny (model P w) A (jS (.ref i)) Q E s:=by
 cases b with
 |true=> exact wpAny_nextOf_list_end hh hi hl hx hE
 |false=>
  have hi:s.heap.IsTupleIter i l k:=hi
  have hl:s.heap.IsTuple l xs:=hl
  obtain⟨o,ho,hc,hd⟩:=id hi
  (obtain⟨ol,hol,_,nl,hdl⟩:=hl)
  refine aa (br (name:=cr "__next__") hi.typeIs slot_tuple_iterator_next (bh slot_tuple_iterator_next hi.typeIs entry_tuple_iterator_next ?_ (args_tuple_iterator_next_1 _)))
  (have hh1:A.in1.handled=none:=hh)
  wp_walk using b7 ho hd (x:=.ref l) rfl,b7 ho hd (x:=.int k 0) rfl,gx hol hdl
  (simp only [bU,hx])
  (refine aa (cn (aa (cA ho hd (by simp) ?_))))
  wp_walk
  simp only [raiseNew]
  (refine aa (i5 ?_))
  rw [hh1]
  refine aa (af (lu (hE _ _ (((bg ..).extBut.push _).push _) ?_)))
  exact⟨_,aA _ rfl,rfl⟩
end
def SqB(K:aj)(b:Bool)(H:Hp)(l:Addr)(xs:List V):Prop:=if b=true then SqL K H l xs else SqT K H l xs
theorem Inv.seqB{s:ag}{l:Addr}{xs:List V}(I:Inv X pins σ H s)(q:SqB X.K b H l xs): ∃its,jj xs its/\ab6 b s.heap l its.toArray:=by
 cases b with
 |true=> obtain⟨its,rv,p,_⟩:=I.list q;exact⟨its,rv,p.isList⟩
 |false=> obtain⟨its,rv,p,_⟩:=I.tuple q;exact⟨its,rv,p⟩
theorem Inv.seqB_inj{s:ag}{l:Addr}{xs ys:List V}(I:Inv X pins σ H s)(p:SqB X.K b H l xs)(q:SqB X.K b H l ys):xs=ys:=by
 cases b with
 |true=> exact I.list_inj p q
 |false=> exact I.tuple_inj p q
noncomputable def aqs(b:Bool):String:=if b=true then "list_iterator" else "tuple_iterator"
section
variable{P:aI}{w:aM}{A:aZ}{E:ae -> ag -> Prop}{s:ag}
theorem aq6{l:Addr}{xs:Array ae}(h:ab6 b s.heap l xs)(hQ:Q (.ref s.heap.objs.size) {s with heap:=s.heap.push {cls:=.type (aqs b),data:=.fields #[.ref l,.int 0 0]}}):wpAny (model P w) A (pyIter (.ref l)) Q E s:=by
 cases b with
 |true=> exact gM h hQ
 |false=> exact iU h hQ
theorem a6h{i l:Addr}(e:h.get? i=some {cls:=.type (aqs b),data:=.fields #[.ref l,.int 0 0]}):zn b h i l 0:=by
 cases b with
 |true=> exact⟨_,e,rfl,rfl⟩
 |false=> exact⟨_,e,rfl,rfl⟩
end
end L2
namespace PF
open PySem PySem.Spec
open L2
variable[XW]
noncomputable def sqD:D -> Option (Bool×List ac)
 |.lst xs=> some (true,xs)
 |.tup xs=> some (false,xs)
 |_=> none
theorem az5(r:RD K as H v d)(e:sqD d=some (b,xs)): ∃l vs,v=.ref l/\(∀as2 H2,Step0 as H as2 H2 -> SqB K b H2 l vs)/\TDs as H vs xs:=by
 cases d with
 | da d=>
  cases d with
  |list zs=>
   cases e
   obtain⟨l,vs,rfl,n,q,t⟩:=r.lst_inv
   exact⟨l,vs,rfl,fun as2 H2 st=> SqL.of (st.keep _ _ n q),t⟩
  | tuple zs=>
   cases e
   cases r with
   |da t=> cases t with
    |tup n q t=> exact⟨_,_,rfl,fun as2 H2 st=> SqT.of (st.keep _ _ n q),t⟩
  |_=> cases e
 |_=> cases e
end PF
namespace PF
open PySem PySem.Spec PyProof.Rows PyProof.Rows.KTD
open L2
variable[XW]
end PF
namespace PF
open PySem PySem.Spec
open L2
variable[XW]
end PF
namespace PF
open PySem PySem.Spec
open L2
variable[XW]
theorem TDs.app: ∀{vs ws:List V} {ds es:List ac},TDs as H vs ds -> TDs as H ws es -> TDs as H (vs++ws) (ds++es)
 |_,_,_,_,.nil,s=> s
 |_,_,_,_,.cons a r,s=>.cons a (TDs.app r s)
end PF
namespace PF
open PySem PySem.Spec
open L2
variable[XW]
end PF
namespace PF
open PySem PySem.Spec
open L2
variable[XW]
end PF
namespace PF
open PySem PySem.Spec
open L2
variable[XW]
end PF
namespace PF
open PySem PySem.Spec L2
theorem u70{k:Nat}(hr:Room k A):A.units+70 < cLine:=by have:=hr.un;lia
section
variable{s:S}{m:Bool}{n:Nat}{x y:Str}{b:Bool}{xs ys:List ac}{ds es:List D}{d e v o:D}{ρ:En}{kvs:List (ac×D)}{k:ac}
def a1s(g:D -> D -> D -> S -> R D)(fo fi:FE)(ρ:En)(v:D)(s:S):R Fl:=(fo ρ s).bind fun o s2=> (fi ρ s2).bind fun i s3=> (g o i v s3).bind fun _ s4=>.ok (.nx ρ) s4
def a2s(g:D -> D -> D -> S -> R D)(fi:FE)(ρ:En)(v o:D)(s:S):R Fl:=(fi ρ s).bind fun i s3=> (g o i v s3).bind fun _ s4=>.ok (.nx ρ) s4
def a2y(g:D -> D -> D -> S -> R D)(ρ:En)(v o i:D)(s:S):R Fl:=(g o i v s).bind fun _ s4=>.ok (.nx ρ) s4
theorem a9f{g:D -> D -> D -> S -> R D}{fv:FE}:afr g fv fo fi ρ s=(fv ρ s).bind (a1s g fo fi ρ):=(rfl)
theorem a8w{g:D -> D -> D -> S -> R D}:a1s g fo fi ρ v s=(fo ρ s).bind (a2s g fi ρ v):=(rfl)
theorem a8e{g:D -> D -> D -> S -> R D}:a2s g fi ρ v o s=(fi ρ s).bind (a2y g ρ v o):=(rfl)
theorem a8x{g:D -> D -> D -> S -> R D}:a2y g ρ v o d s=(g o d v s).bind (akp ρ):=(rfl)
def a2l(g:GM)(fa:FA)(ρ:En)(d:D)(s:S):R D:=onD d s fun _ _=> (fa ρ s).bind fun ds s2=> g d ds s2
theorem a95{g:GM}:fMd g fo fa ρ s=(fo ρ s).bind (a2l g fa ρ):=(rfl)
theorem adi{α:Type}{f:Nat -> List (ac×D) -> R α}(h:s[n]?=some (.dct kvs)):onD (.ref n) s f=f n kvs:=by
 show (match s[n]? with|some (O.dct kvs)=> f n kvs|_=>.bad)=_
 rw [h]
theorem afw{g:GM}(h:s[n]?=some (.dct kvs)):a2l g fa ρ (.ref n) s=(fa ρ s).bind (aum g (.ref n)):=adi h
theorem av8(h:s[n]?=some (.dct kvs))(hk:v4 kvs k=true)(hl:kvs.length < 16777216):ae9 (.ref n) (.da k) v s=.ok .non (s.set n (.dct (v3 kvs k v))):=by
 have e:ae9 (.ref n) (.da k) v s=akv (.ref n) (.da k) v s:=by unfold ae9;simp only [h]
 rw [e]
 unfold akv
 rw [adi h]
 exact if_pos ⟨hk,by rw [qx];exact hl⟩
theorem aco(h:s[n]?=some (.dct kvs))(hk:v4 kvs k=true):zj (.ref n) [.da k,d] s=.ok ((qj kvs k).getD d) s:=by
 unfold zj
 simp only []
 rw [adi h]
 exact if_pos hk
theorem auh(h:s[n]?=some (.dct kvs)):aqq s (.ref n)=some kvs:=by
 show (match s[n]? with|some (O.dct kvs)=> some kvs|_=> none)=_
 rw [h]
theorem auk(h:s[n]?=some (.dct kvs)):ahd false [.ref n] s=.ok (.lst (kvs.map (·.1))) s:=by
 show (match aqq s (.ref n) with|some (kvs:List (ac×D))=> kj false (kvs.map fun e:ac×D=> D.da e.1) s|none=> ah4 false [.ref n] s)=_
 rw [auh h]
 show kj false (kvs.map fun e:ac×D=> D.da e.1) s=_
 rw [al7]
 exact ai1
theorem a85:z5 ρ s=.ok (.ref s.length) (s++ [.dct []]):=(rfl)
theorem adr(h1:xs.length < 64)(h2:kh xs=true)(h3:xs.all okD=true):yw false [.lst xs] s=.ok (.lst (j5 xs)) s:=by
 show (match (some (xs.map D.da)).bind j8 with|some xs=> if xs.length < 64/\kh xs=true/\xs.all okD=true then kj false ((j5 xs).map D.da) s else .bad|none=>.bad)=_
 show (match j8 (xs.map D.da) with|some xs=> if xs.length < 64/\kh xs=true/\xs.all okD=true then kj false ((j5 xs).map D.da) s else .bad|none=>.bad)=_
 rw [vg]
 show (if xs.length < 64/\kh xs=true/\xs.all okD=true then kj false ((j5 xs).map D.da) s else .bad)=_
 rw [if_pos ⟨h1,h2,h3⟩]
 exact ai1
theorem ahg(h:s[n]?=some (.lst (xs.map D.da)))(h1:xs.length < 64)(h2:kh xs=true)(h3:xs.all okD=true):yw false [.ref n] s=.ok (.lst (j5 xs)) s:=by
 show (match (match s[n]? with|some (O.lst ds)=> some ds|_=> none).bind j8 with|some xs=> if xs.length < 64/\kh xs=true/\xs.all okD=true then kj false ((j5 xs).map D.da) s else .bad|none=>.bad)=_
 rw [h]
 show (match j8 (xs.map D.da) with|some xs=> if xs.length < 64/\kh xs=true/\xs.all okD=true then kj false ((j5 xs).map D.da) s else .bad|none=>.bad)=_
 rw [vg]
 show (if xs.length < 64/\kh xs=true/\xs.all okD=true then kj false ((j5 xs).map D.da) s else .bad)=_
 rw [if_pos ⟨h1,h2,h3⟩]
 exact ai1
theorem aou(h:s[n]?=some (.lst (xs.map D.da))):toP s (.ref n)=some (.list xs):=by
 show (match s[n]? with|some (O.lst ds)=> (j8 ds).map lA|_=> none)=_
 rw [h]
 show (j8 (xs.map D.da)).map lA=_
 rw [vg];rfl
end
noncomputable def an1(ks:List ac)(k:ac):List ac:=if k∈ks then ks else ks++ [k]
theorem amn{α:Type}(kvs:List (ac×α))(k:ac)(v:α):(v3 kvs k v).map (·.1)=an1 (kvs.map (·.1)) k:=by
 unfold v3 an1
 have e:(kvs.any fun e=> decide (e.1=k))=decide (k∈kvs.map (·.1)):=by
  rw [cc,fQ,decide_eq_true_eq,a8]
  constructor
  ·rintro⟨x,hx,h⟩;exact⟨x,hx,of_decide_eq_true h⟩
  ·rintro⟨x,hx,h⟩;exact⟨x,hx,decide_eq_true h⟩
 rw [e]
 by_cases c:k∈kvs.map (·.1)
 ·rw [if_pos (decide_eq_true c),if_pos c,bx]
  (refine iy fun x _=> ?_)
  show (if x.1=k then (x.1,v) else x).1=x.1
  split <;> rfl
 ·rw [if_neg (fun h=> c (of_decide_eq_true h)),if_neg c,bS];rfl
theorem ann{α:Type}(kvs:List (ac×α))(k j:ac)(v:α):qj (v3 kvs k v) j=if k=j then some v else qj kvs j:=by
 unfold v3
 split
 ·rename_i c
  induction kvs with
  |nil=> simp at c
  | cons x r ih=>
   by_cases hx:x.1=k
   ·by_cases hj:k=j
    ·subst hj
     rw [if_pos rfl]
     simp [qj,hx]
    ·have hxj:x.1≠j:=fun z=> hj (hx.symm.trans z)
     rw [if_neg hj]
     by_cases hr:(r.any fun e=> decide (e.1=k))=true
     ·have:=ih hr
      rw [if_neg hj]at this
      simp only [aN,if_pos hx]
      unfold qj at this⊢
      rw [cZ (by simpa using hxj),cZ (by simpa using hxj)]
      exact this
     ·have e2:r.map (fun e=> if e.1=k then (e.1,v) else e)=r:=by
       refine (iy fun y hy=> ?_).trans (List.map_id _)
       have: ¬y.1=k:=fun z=> hr (fQ.mpr ⟨y,hy,decide_eq_true z⟩)
       rw [if_neg this];rfl
      simp only [aN,if_pos hx,e2]
      unfold qj
      rw [cZ (by simpa using hxj),cZ (by simpa using hxj)]
   ·have hr:(r.any fun e=> decide (e.1=k))=true:=by
     rw [d5,decide_eq_false hx,Bool.false_or]at c;exact c
    have:=ih hr
    simp only [aN,if_neg hx]
    unfold qj at this⊢
    by_cases hxj:x.1=j
    ·have hkj: ¬k=j:=fun z=> hx (hxj.trans z.symm)
     rw [if_neg hkj,lB (by simpa using hxj),lB (by simpa using hxj)]
    ·rw [cZ (by simpa using hxj),cZ (by simpa using hxj)]
     exact this
 ·rename_i c
  have hn: ∀y∈kvs,y.1≠k:=fun y hy z=> c (fQ.mpr ⟨y,hy,decide_eq_true z⟩)
  unfold qj
  rw [List.find?_append]
  by_cases hj:k=j
  ·subst hj
   rw [if_pos rfl,List.find?_eq_none.mpr fun y hy=> by simpa using hn y hy]
   simp
  ·rw [if_neg hj]
   cases e:kvs.find? fun e=> decide (e.1=j) with
   |some y=> rfl
   |none=> simp [hj]
theorem aiz{g:Tg}{ft:FT}{fe:FE}{ρ0:En}{all:List D}{s:S}{α:Type}(c:α -> D)(p:α -> Bool)(f:α -> ac): ∀(l:List α),(∀a∈l,∃ρ1,ky g (c a) ρ0=some ρ1/\ft ρ1 s=.ok (p a) s/\(p a=true -> fe ρ1 s=.ok (.da (f a)) s)) ->
  j9 g ft fe ρ0 (all,none) (l.map c) s=.ok (((l.filter p).map f).map D.da) s
 |[],_=> rfl
 | a::r,h=> by
  obtain⟨ρ1,e,e1,e2⟩:=h a av
  have ih:=aiz (all:=all) c p f r fun b hb=> h b (aw _ hb)
  rw [aN,afh e,e1,R.calm_ok,R.bind_ok]
  cases hp:p a with
  |false=>
   rw [an8,ih,gI (by simp [hp])]
  |true=>
   rw [am1,e2 hp,R.calm_ok,R.bind_ok,ana,ih,R.bind_ok,ain,kM hp]
   rfl
end PF
namespace L2
open PySem PySem.Spec PyProof.Rows
section
variable{X:Cx}{m:Str}{pos apos:Pos}{e o:Expr}{es:List Expr}{ta:TE}{t:TA}
def at7(X:Cx)(m:Str)(ta:TE)(t:TA):TE:=fun σ H Q=> ta σ H fun x H1=> ∃a C dx fs f,x=.ref a/\H1 a=some (.ins C dx fs)/\Cls X.K C/\Meth X.K C m f/\fs.lookup m=none/\t σ H1 fun vs H2=> a5z X f σ (x::vs) H2 Q
theorem avj{pl:Sem Bool}(he:PE X o ta)(ha:PA X (e::es) t)
  (hst:starEach (e::es) X.env=(false,eval e X.env)::starEach es X.env:=by rfl) (hpl:(backTo pos (starEach es X.env)).any (·.1)=false:=by rfl)
  (ht:eval (.Call (.Attribute o m apos) (e::es) [] pos) X.env=(do
   let ov←eval o X.env
   standAt apos.atName
   let (f,first)←holding [ov] (ni ov m pl)
   callWith pos f first (backTo pos (starEach (e::es) X.env)) (backToKw pos (fX [] X.env))):=by rfl):
  PE X (.Call (.Attribute o m apos) (e::es) [] pos) (at7 X m ta t):=by
 refine⟨?_⟩;intro pins s σ H Q I h
 refine PySem.W.methodCall_KW (pl:=pl) (thn (he pins s σ H _ I h) fun u s1 ⟨x,H1,I1,rx,a,C,dx,fs,f,ex,ea,c,hm,l,q⟩=> ?_) ht
 subst ex
 obtain rfl:u=bn a:=rx
 refine aqo I1 ea c hm l ?_
 refine iP (first:=[.ref a]) (h₀:=X.base) I.ok.mod.kin hm.kp (thn (ha pos pins s1 σ H1 _ I1 q) fun us s2 ⟨vs,H2,I2,r,q2⟩=> ⟨I2.kIn,?_⟩) hst hpl
 exact q2 pins s2 (.ref a::us) I2 (.cons rfl r)
end
end L2
namespace PF
open PySem PySem.Spec
open L2
open PyProof.Rows (envOfC)
section XWs
variable[XW]
noncomputable def putN(f:Str)(d:D):List (Str×D) -> List (Str×D)
 |[]=> [(f,d)]
 |(g,x)::r=> if g=f then (g,d)::r else (g,x)::putN f d r
theorem FRs.put{f:Str}{v:V}{d:D}(r:RD K as H v d): ∀{l:List (Str×V)} {fs:List (Str×D)},FRs K as H l fs -> FRs K as H (xb f v l) (putN f d fs)
 |_,_,.nil=>.cons r .nil
 |_,_,.cons a t=> by
  unfold xb putN
  split
  ·exact .cons r t
  ·exact .cons a (FRs.put r t)
theorem FRs.look{f:Str}: ∀{l:List (Str×V)} {fs:List (Str×D)},FRs K as H l fs -> (∀d,fs.lookup f=some d -> ∃v,l.lookup f=some v/\RD K as H v d)/\(fs.lookup f=none -> l.lookup f=none)
 |_,_,.nil=> ⟨fun d e=> (by cases e),fun _=> rfl⟩
 | _,_,.cons (f:=g) (v:=v) (d:=x) a t=> by
  have ih:=FRs.look (f:=f) t
  by_cases z:(f==g)=true
  ·refine⟨fun d e=> ⟨v,?_,?_⟩,fun e=> ?_⟩
   ·rw [cj,z]
   ·rw [cj,z]at e;cases e;exact a
   ·rw [cj,z]at e;cases e
  ·rw [fO]at z
   refine⟨fun d e=> ?_,fun e=> ?_⟩
   ·rw [cj,z]at e
    obtain⟨v',h1,h2⟩:=ih.1 d e
    exact⟨v',by rw [cj,z];exact h1,h2⟩
   ·rw [cj,z]at e
    rw [cj,z];exact ih.2 e
theorem FRs.len: ∀{l:List (Str×V)} {fs:List (Str×D)},FRs K as H l fs -> l.length=fs.length
 |_,_,.nil=> rfl
 |_,_,.cons _ t=> congrArg (· +1) (FRs.len t)
def onI{α:Type}(d:D)(s:S)(k:Nat -> Str -> List (Str×D) -> R α):R α:=match d with
 |.ref n=> match s[n]? with
  |some (.ins C fs)=> k n C fs
  |_=>.bad
 |_=>.bad
theorem al4{α β:Type}{rel:As -> Hp -> β -> α -> Prop}{k:Nat -> Str -> List (Str×D) -> R α}{Q:β -> Hp -> Prop}(rl:Rel K as H s)(r:RD K as H v d)(h:Dn K rel as H (onI d s k) Q):
  ∃p n C fs,v=.ref p/\d=.ref n/\as.ix[n]?=some (some p)/\s[n]?=some (.ins C fs)/\RO K as H p (.ins C fs)/\Dn K rel as H (k n C fs) Q:=by
 cases r with
 | @ref p n l hr=>
  have h:Dn K rel as H (match s[n]? with|some (O.ins C fs)=> k n C fs|_=>.bad) Q:=h
  split at h
  ·rename_i C fs e
   obtain⟨q,hq⟩:=rl.li n _ e (by intro z;cases z)
   cases hr q hq
   exact⟨p,n,C,fs,rfl,rfl,hq,e,rl.ob n p _ hq e,h⟩
  ·exact h.elim
 |_=> exact h.elim
structure ClsF (K:aj) (C:Str) (fl:List Str):Prop where
 ex: ∃Ca:Addr,bE K aY C=some (some (.ref Ca))/\Cls K Ca/\ ∀f∈fl,yc K Ca f
theorem ClsF.at(c:ClsF K C fl)(e:bE K aY C=some (some (.ref Ca))):Cls K Ca/\ ∀f∈fl,yc K Ca f:=by
 obtain⟨Ca',h1,h2⟩:=c.ex
 rw [e]at h1;cases h1;exact h2
abbrev ab1:=List (Str×List Str)
noncomputable def ac2(ct:ab1)(C f:Str):Bool:=match ct.lookup C with
 |some fl=> fl.contains f
 |none=> false
structure CTabs (K:aj) (ct:ab1):Prop where
 ok: ∀C fl,ct.lookup C=some fl -> ClsF K C fl
theorem CTabs.at{ct:ab1}(c:CTabs K ct){f:Str}(h:ac2 ct C f=true)(e:bE K aY C=some (some (.ref Ca))):Cls K Ca/\yc K Ca f:=by
 unfold ac2 at h
 split at h
 ·rename_i fl hl
  obtain⟨h1,h2⟩:=(c.ok C fl hl).at e
  exact⟨h1,h2 f (by simpa using h)⟩
 ·cases h
def av6(ct:ab1)(f:Str)(d:D)(s:S):R D:=onI d s fun _ C fs=> if ac2 ct C f=true then match fs.lookup f with
  |some x=>.ok x s
  |none=>.bad
 else .bad
def ad2(ct:ab1)(f:Str)(fo:FE):FE:=fun ρ s=> (fo ρ s).bind (av6 ct f)
theorem alo{ct:ab1}{f:Str}(c:CTabs X.K ct)(ho:RE X o fo)(hb:dZ o f X.env (eval o X.env)=eval o X.env:=by rfl):RE X (.Attribute o f pos) (ad2 ct f fo):=by
 obtain⟨to,po,ro⟩:=ho.ex
 refine⟨_,a24 po hb,fun as σ H ρ s Q rl en h=> ?_⟩
 refine ro as σ H ρ s _ rl en (Dn.bind h fun d s1 as1 H1 v st1 rl1 r1 h1=> ?_)
 obtain⟨p,n,C,fs,rfl,rfl,ha,hs,⟨Ca,dx,gs,e0,e1,fr⟩,h2⟩:=al4 rl1 r1 h1
 split at h2
 ·rename_i hf
  split at h2
  ·rename_i x hx
   obtain⟨c1,c2⟩:=c.at hf e0
   obtain⟨v,hv,rv⟩:=(fr.look (f:=f)).1 x hx
   exact⟨p,Ca,dx,gs,v,rfl,e1,c1,c2,hv,Dn.now (Q:=Q) h2 rl1 rv⟩
  ·exact h2.elim
 ·exact h2.elim
def apv(ct:ab1)(f:Str)(fo fv:FE):FS:=fun ρ s=> (fv ρ s).bind fun x s1=> (fo ρ s1).bind fun d s2=> onI d s2 fun n C fs=> if ac2 ct C f=true/\fs.length < 1000 then .ok (.nx ρ) (s2.set n (.ins C (putN f x fs))) else .bad
theorem axq{dx:Addr}{f:Str}{gs:List (Str×V)}{fs:List (Str×D)}{x:D}(rl:Rel K as H s)(ha:as.ix[n]?=some (some p))(e0:bE K aY C=some (some (.ref Ca)))(fr:FRs K as H gs fs)(rv:RD K as H v x):
  Step as H as (upd H p (.ins Ca dx (xb f v gs)))/\Rel K as (upd H p (.ins Ca dx (xb f v gs))) (s.set n (.ins C (putN f x fs))):=by
 have c:Chg H p (.ins Ca dx (xb f v gs)) (upd H p (.ins Ca dx (xb f v gs))):=⟨rfl⟩
 have st:=z8 (kc.mpr ⟨n,ha⟩) (fun z=> rl.hx p z (kc.mpr ⟨n,ha⟩)) c
 exact⟨st,rl.chg ha c ⟨Ca,dx,_,e0,c.at,(fr.put rv).mono0 st.toStep0⟩⟩
theorem a3k{ct:ab1}{f:Str}{value:Expr}{fv:FE}{pos':Pos}(c:CTabs X.K ct)(ho:RE X o fo)(hv:RE X value fv)(hs:gg value (some (.Attribute o f pos')) pos.line X.env=pure false:=by rfl):RS X (.Assign [.Attribute o f pos'] value pos) (apv ct f fo fv):=by
 obtain⟨to,po,ro⟩:=ho.ex
 obtain⟨tv,pv,rv⟩:=hv.ex
 refine⟨_,a2v po pv hs,fun as σ H ρ s D rl en h=> ?_⟩
 refine rv as σ H ρ s _ rl en (Dn.bind h fun x s1 as1 H1 y st1 rl1 r1 h1=> ?_)
 refine ro as1 σ H1 ρ s1 _ rl1 (en.mono st1) (Dn.bind h1 fun d s2 as2 H2 z st2 rl2 r2 h2=> ?_)
 obtain⟨p,n,C,fs,rfl,rfl,ha,hs,⟨Ca,dx,gs,e0,e1,fr⟩,h3⟩:=al4 rl2 r2 h2
 split at h3
 ·rename_i hf
  obtain⟨c1,c2⟩:=c.at hf.1 e0
  obtain⟨st,rl3⟩:=axq (dx:=dx) (f:=f) rl2 ha e0 fr (r1.mono st2)
  exact⟨p,Ca,dx,gs,rfl,e1,c1,c2,by rw [fr.len];exact hf.2,h3 (FV.nx σ) as2 _ st rl3 (.nx (((en.mono st1).mono st2).mono st))⟩
 ·exact h3.elim
structure MethF (P:aI) (w:aM) (K:aj) (mg:Str -> Option ae) (base:Heap) (C m:Str) (k n:Nat) (F:FF):Prop where
 ex: ∃(Ca f:Addr) (fd:dM) (ps:List Str),bE K aY C=some (some (.ref Ca))/\Cls K Ca/\Meth K Ca m f/\FnOk P w K mg base (CX1 P w) k f fd ps (spF K n F)/\Binds K fd ps []
structure InitF (P:aI) (w:aM) (K:aj) (mg:Str -> Option ae) (base:Heap) (C:Str) (k n:Nat) (F:FF):Prop where
 ex: ∃(Ca f:Addr) (fd:dM) (ps:List Str),bE K aY C=some (some (.ref Ca))/\mg C=some (.ref Ca)/\Mk K Ca f/\FnOk P w K mg base (CX1 P w) k f fd ps (spF K n F)/\Binds K fd ps []
abbrev af5:=List (Str×Nat×FF)
structure MTabs (X:Cx) (m:Str) (mt:af5):Prop where
 ok: ∀C n F,mt.lookup C=some (n,F) -> ∃k,MethF X.prog X.w X.K X.mg X.base C m k n F/\Room k X.A
theorem MTabs.nil{m:Str}:MTabs X m []:=⟨fun C n F e=> by cases e⟩
theorem MTabs.cons{m:Str}{k:Nat}{F:FF}{mt:af5}(h:MethF X.prog X.w X.K X.mg X.base C m k n F)(hr:Room k X.A)(t:MTabs X m mt):MTabs X m ((C,n,F)::mt):=⟨fun D n' F' e=> by
 rw [cj]at e
 split at e
 ·rename_i q
  cases e
  rw [eq_of_beq q]
  exact⟨k,h,hr⟩
 ·exact t.ok D n' F' e⟩
def afm(m:Str)(mt:af5)(fo:FE)(fa:FA):FE:=fun ρ s=> (fo ρ s).bind fun d s1=> onI d s1 fun _ C fs=> match mt.lookup C,fs.lookup m with
 |some (n,F),none=> (fa ρ s1).bind fun ds s2=> if ds.length+1=n then (F (d::ds) s2).at ρ else .bad
 |_,_=>.bad
theorem av9{m:Str}{mt:af5}{to:TE}{ta:TA}(hx:XOk X XW.xk)(hm:MTabs X m mt)(ro:ab0 X.K to fo)(ra:apu X.K ta fa):ab0 X.K (at7 X m to ta) (afm m mt fo fa):=by
 intro as σ H ρ s Q rl en h
 refine ro as σ H ρ s _ rl en (Dn.bind h fun d s1 as1 H1 v st1 rl1 r1 h1=> ?_)
 obtain⟨p,n,C,fs,rfl,rfl,ha,hs,⟨Ca,dx,gs,e0,e1,fr⟩,h2⟩:=al4 rl1 r1 h1
 split at h2
 ·rename_i nn F h4 h5
  obtain⟨k,⟨Ca',f,fd,ps,g0,g1,g2,g3,g4⟩,hr⟩:=hm.ok C nn F h4
  rw [e0]at g0;cases g0
  refine⟨p,Ca,dx,gs,f,rfl,e1,g1,g2,(fr.look (f:=m)).2 h5,ra as1 σ H1 ρ s1 _ rl1 (en.mono st1) (Dn.bind h2 fun ds s2 as2 H2 vs st2 rl2 r2 h3=> ?_)⟩
  split at h3
  ·rename_i hn
   intro pins sh us I ru
   refine ash g3 hr g4 .nil hx.pass I ru ⟨by rw [aP,az,r2.length];exact hn,as2,.ref n::ds,s2,rl2,?_,h3.at ((en.mono st1).mono st2)⟩
   rw [aP];exact .cons (r1.mono st2) r2
  ·exact h3.elim
 ·exact h2.elim
theorem aj5{m:Str}{mt:af5}{apos:Pos}{pl:Sem Bool}(hm:MTabs X m mt)(ho:RE X o fo)(ha:RA X (e::es) fa)(hx:XOk X XW.xk:=by assumption)(hst:starEach (e::es) X.env=(false,eval e X.env)::starEach es X.env:=by rfl)(hpl:(backTo pos (starEach es X.env)).any (·.1)=false:=by rfl)(ht:eval (.Call (.Attribute o m apos) (e::es) [] pos) X.env=(do
   let ov←eval o X.env
   standAt apos.atName
   let (f,first)←holding [ov] (ni ov m pl)
   callWith pos f first (backTo pos (starEach (e::es) X.env)) (backToKw pos (fX [] X.env))):=by rfl):RE X (.Call (.Attribute o m apos) (e::es) [] pos) (afm m mt fo fa):=by
 obtain⟨to,po,ro⟩:=ho.ex
 obtain⟨ta,pa,ra⟩:=ha.ex
 exact⟨_,avj po pa hst hpl ht,av9 hx hm ro ra⟩
def afz(C:Str)(n:Nat)(F:FF)(fa:FA):FE:=fun ρ s=> (fa ρ s).bind fun ds s1=> if ds.length+1=n then ((F (.ref s1.length::ds) (s1++ [.ins C []])).at ρ).bind fun d s2=> match d with
  |.da .none=>.ok (.ref s1.length) s2
  |_=>.bad
 else .bad
theorem avz{f:Addr}{fd:dM}{ps:List Str}{k:Nat}{F:FF}{ta:TA}(e0:bE X.K aY C=some (some (.ref Ca)))(ra:apu X.K ta fa):ab0 X.K (awy Ca (spF X.K n F) [] (XE.sk XW.xk) ta) (afz C n F fa):=by
 intro as σ H ρ s Q rl en h
 refine ra as σ H ρ s _ rl en (Dn.bind h fun ds s1 as1 H1 vs st1 rl1 r1 h1=> ?_)
 split at h1
 ·rename_i hn
  intro x dx nx ndx ne
  have n1:New H1 dx (.own x) (upd H1 dx (.own x)):=⟨ndx,rfl⟩
  have n2:New (upd H1 dx (.own x)) x (.ins Ca dx []) (upd (upd H1 dx (.own x)) x (.ins Ca dx [])):=⟨by rw [j7 (bY ne)];exact nx,rfl⟩
  have rl2:=rl1.new n1
  have st2:Step as1 H1 as1 (upd H1 dx (.own x)):=k8 n1
  have st3:Step as1 (upd H1 dx (.own x)) (as1.add x) (upd (upd H1 dx (.own x)) x (.ins Ca dx [])):=abc n2
  have rl3:=rl2.laid (u:=.ins C []) n2 ⟨Ca,dx,[],e0,n2.at,.nil⟩
  have st:=st2.trans st3
  have rx:RD X.K (as1.add x) (upd (upd H1 dx (.own x)) x (.ins Ca dx [])) (.ref x) (.ref s1.length):=.ref (by simp [rl1.len]) fun q e=> by
   rw [←rl1.len]at e
   simp at e
   exact e.symm
  refine⟨by rw [aP,az,r1.length];exact hn,as1.add x,.ref s1.length::ds,_,rl3,?_,?_⟩
  ·rw [aP];exact .cons rx (r1.mono st)
  ·refine Dn.at (ρ:=ρ) (Dn.bind (Dn.step h1 st) fun d s2 as2 H2 v st2' rl2' r2 h2=> ?_) ((en.mono st1).mono st)
   split at h2
   ·cases r2 with
    |da t=> cases t;exact⟨rfl,Dn.now (Q:=Q) h2 rl2' (rx.mono st2')⟩
   ·exact h2.elim
 ·exact h1.elim
theorem ail{x:Str}{k:Nat}{F:FF}{p:Pos}(c:InitF X.prog X.w X.K X.mg X.base x k n F)(hr:Room (k+1) X.A)(ha:RA X (e::es) fa)(hx:XOk X XW.xk:=by assumption)(hg:Gl X x:=by rfl)(hdb:(x==("__debug__":Str))=false:=by decide)(he:starEach (e::es) X.env=(false,eval e X.env)::starEach es X.env:=by rfl)(hpl:(backTo pos (starEach es X.env)).any (·.1)=false:=by rfl):RE X (.Call (.Name x p) (e::es) [] pos) (afz x n F fa):=by
 obtain⟨Ca,f,fd,ps,e0,hm,M,Fo,b⟩:=c.ex
 obtain⟨ta,pa,ra⟩:=ha.ex
 exact⟨_,axu M Fo hr hg hm b .nil hx.pass pa hdb he hpl,avz (f:=f) (fd:=fd) (ps:=ps) (k:=k) e0 ra⟩
end XWs
noncomputable def akq(st:Stmt)(j:Nat):Stmt:=match st with
 |.ClassDef (body:=b) ..=> b.getD j (.Pass ⟨0,0,0,0⟩)
 |_=>.Pass ⟨0,0,0,0⟩
structure HasM (K:aj) (C m q:Str) (st:Stmt) (ps:List Str):Prop where
 ex: ∃(Ca f:Addr) (fd:dM),bE K aY C=some (some (.ref Ca))/\Cls K Ca/\Meth K Ca m f/\Fun K m q st f fd/\Binds K fd ps []
structure HasI (K:aj) (mg:Str -> Option ae) (C q:Str) (st:Stmt) (ps:List Str):Prop where
 ex: ∃(Ca f:Addr) (fd:dM),bE K aY C=some (some (.ref Ca))/\mg C=some (.ref Ca)/\Mk K Ca f/\Fun K "__init__" q st f fd/\Binds K fd ps []
section
variable{P:aI}{w:aM}{K:aj}{mg:Str -> Option ae}{base:Heap}{x q C:Str}{st:Stmt}{N ps:List Str}{k:Nat}
theorem fnQ{f:Addr}(F:Fun K x q st f fd)(S:FnScope N ps (ji st)){m:Nat}(hm:N.length=m)(hn:ps.length=n)(hbody:BodyOk P w K mg base N q st k fb):FnOk P w K mg base (CX1 P w) (k+1) f fd ps (spF K n (qr m fb)):=
 F.okX S (fun vs H Q E h=> by rw [hn];exact h.1) fun cdv A outer s H vs Q E hr h=> aiq hm hbody f cdv A outer s H vs Q E hr h
theorem ax6(h:HasM K C x q st ps)(S:FnScope N ps (ji st)){m:Nat}(hm:N.length=m)(hn:ps.length=n)(hbody:BodyOk P w K mg base N q st k fb):MethF P w K mg base C x (k+1) n (qr m fb):=by
 obtain⟨Ca,f,fd,e0,c,M,F,b⟩:=h.ex
 exact⟨Ca,f,fd,ps,e0,c,M,fnQ F S hm hn hbody,b⟩
theorem a53(h:HasI K mg C q st ps)(S:FnScope N ps (ji st)){m:Nat}(hm:N.length=m)(hn:ps.length=n)(hbody:BodyOk P w K mg base N q st k fb):InitF P w K mg base C (k+1) n (qr m fb):=by
 obtain⟨Ca,f,fd,e0,e1,M,F,b⟩:=h.ex
 exact⟨Ca,f,fd,ps,e0,e1,M,fnQ F S hm hn hbody,b⟩
end
end PF
namespace PF
open PySem PySem.Spec
open L2
variable[XW]
end PF
namespace PF
open PySem PySem.Spec
open L2
variable[XW]
end PF
namespace ST
open PySem PySem.SetTable
section
variable{α:Type}
noncomputable def ha(es:Array (Int×α))(i:Nat):Int:=(es[i]?.map (·.1)).getD 0
structure Rc (t:bq) (es:Array (Int×α)):Prop where
 size:t.place.size=es.size
 met: ∀(i j:Nat) (h:Int) (x:α),t.place[i]?=some j -> es[i]?=some (h,x) -> ∃k,(adv t k (t.probeStart h)).j=j/\ ∀k',k' < k -> (adv t k' (t.probeStart h)).j∈t.place.toList
theorem aht(t:bq)(h:Int): ∀k,(adv t k (t.probeStart h)).j+(adv t k (t.probeStart h)).more <=t.mask/\(adv t k (t.probeStart h)).i <=t.mask:=by
 have re: ∀i,i <=t.mask -> i+(runEnd t.mask i - i) <=t.mask:=fun i hi=> by unfold runEnd;split <;> lia
 intro k
 induction k with
 |zero=>
  have hi:bits h % (t.mask+1) <=t.mask:=by have:=fN (bits h) (show 0 < t.mask+1 by lia);lia
  exact⟨re _ hi,hi⟩
 | succ k ih=>
  rw [aay]
  generalize adv t k (t.probeStart h)=p at ih
  unfold advance
  split
  ·exact⟨by show p.j+1+(p.more - 1) <=_;lia,ih.2⟩
  ·have hi:(leap t.mask p.i p.perturb).1 <=t.mask:=by
    show _ % (t.mask+1) <=_
    have:=fN (p.i*5+1+p.perturb/32) (show 0 < t.mask+1 by lia)
    lia
   exact⟨re _ hi,hi⟩
abbrev Full(t:bq)(h:Int)(k:Nat):Prop:= ∀k',k' < k -> ∃i,t.slot (adv t k' (t.probeStart h)).j=.live i
theorem search_step(O:Ok t)(hs:Nat -> Int)(h:Int)(k0:Nat)(B:Full t h k0):
  (∃k,k0 <=k/\k < 10*turns t.mask/\t.slot (adv t k (t.probeStart h)).j=.empty/\(∀k',k0 <=k' -> k' < k -> ∃i,t.slot (adv t k' (t.probeStart h)).j=.live i/\hs i≠h)/\t.probe hs h (adv t k0 (t.probeStart h))=some (.empty (adv t k (t.probeStart h)).j none))\/
  (∃k i,k0 <=k/\k < 10*turns t.mask/\t.slot (adv t k (t.probeStart h)).j=.live i/\hs i=h/\(∀k',k0 <=k' -> k' < k -> ∃i,t.slot (adv t k' (t.probeStart h)).j=.live i/\hs i≠h)/\t.probe hs h (adv t k0 (t.probeStart h))=some (.candidate (adv t k (t.probeStart h)).j i (adv t (k+1) (t.probeStart h)))):=by
 obtain⟨j,hj,he⟩:=awf O
 obtain⟨k1,hk1,e1⟩:=a4t t O.cyc h hj
 have h01:k0 <=k1:=by
  apply bV
  intro z
  obtain⟨i,e⟩:=B k1 (by lia)
  rw [e1,he]at e
  cases e
 have ad: ∀n,adv t n (adv t k0 (t.probeStart h))=adv t (k0+n) (t.probeStart h):=fun n=> (aby t k0 n _).symm
 have rest: ∀n,(∀k',k' < n -> ∃i,t.slot (adv t k' (adv t k0 (t.probeStart h))).j=.live i/\hs i≠h) -> ∀k',k0 <=k' -> k' < k0+n -> ∃i,t.slot (adv t k' (t.probeStart h)).j=.live i/\hs i≠h:=by
  intro n hn k' a b
  obtain⟨i,e⟩:=hn (k' - k0) (by lia)
  rw [ad,show k0+(k' - k0)=k' by lia]at e
  exact⟨i,e⟩
 have dn:(adv t k0 (t.probeStart h)).dummy=none:=adv_dummy t k0 _
 -- the first empty one lies behind k1 at the latest
 rcases ale t hs h (azr O) (10*turns t.mask) (adv t k0 (t.probeStart h)) dn ⟨k1 - k0,by lia,by rw [ad,show k0+(k1 - k0)=k1 by lia,e1];exact he⟩with ⟨n,a,b,c⟩|⟨n,i,a,b,c⟩
 ·have hn:k0+n <=k1:=by
   apply bV
   intro z
   obtain⟨i,e,_⟩:=rest n b.live k1 h01 (by lia)
   rw [e1,he]at e
   cases e
  exact .inl ⟨k0+n,by lia,by lia,by rw [←ad];exact b.empty,rest n b.live,by rw [←ad];exact c⟩
 ·have hn:k0+n <=k1:=by
   apply bV
   intro z
   obtain⟨i,e,_⟩:=rest n b.live k1 h01 (by lia)
   rw [e1,he]at e
   cases e
  refine .inr ⟨k0+n,i,by lia,by lia,by rw [←ad];exact b.cand,b.hash,rest n b.live,?_⟩
  rw [←ad,show k0+n+1=k0+(n+1) by lia,←ad]
  exact c
theorem elem_met{es:Array (Int×α)}(O:Ok t)(R:Rc t es){h:Int}{k:Nat}(he:t.slot (adv t k (t.probeStart h)).j=.empty){i:Nat}{x:α}(e:es[i]?=some (h,x)): ∃k2,k2 < k/\t.slot (adv t k2 (t.probeStart h)).j=.live i:=by
 have hi:i < t.place.size:=by rw [R.size];exact (cb.mp e).1
 have ej:t.place[i]?=some t.place[i]:=bf hi
 obtain⟨k2,e2,f2⟩:=R.met i _ h x ej e
 refine⟨k2,?_,by rw [e2];exact (slot_live O).mpr ej⟩
 apply bV
 intro z
 rw [ae0 O]at he
 rcases Nat.lt_or_eq_of_le (bC z) with q|q
 ·exact he (f2 k q)
 ·subst q
  rw [e2]at he
  exact he (di.mpr (Array.getElem_mem hi))
theorem ins_get{β:Type}{l:List β}{p i:Nat}{x y:β}(hp:p <=l.length)(h:(l.take p++x::l.drop p)[i]?=some y):(i=p/\y=x)\/(i < p/\l[i]?=some y)\/(p < i/\l[i - 1]?=some y):=by
 rcases Nat.lt_trichotomy i p with q|q|q
 ·rw [aJ (by rw [bd];lia),eP q]at h
  exact .inr (.inl ⟨q,h⟩)
 ·subst q
  rw [aW (by rw [bd];lia),bd,ik hp,nB]at h
  exact .inl ⟨rfl,by simpa using h.symm⟩
 ·rw [aW (by rw [bd];lia),bd,ik hp,show i - p=(i - p - 1)+1 by lia,cQ,gu,show p+(i - p - 1)=i - 1 by lia]at h
  exact .inr (.inr ⟨q,h⟩)
theorem ab3{t t':bq}(h:t'.mask=t.mask): ∀(k:Nat) (p:Probe),adv t' k p=adv t k p
 |0,_=> rfl
 |k+1,p=> by
  rw [aay,aay,ab3 h k p]
  unfold advance
  rw [h]
theorem aam(h:t'.mask=t.mask)(x:Int):t'.probeStart x=t.probeStart x:=by unfold probeStart;rw [h]
theorem put_eq(O:Ok t)(j:Nat):t.put j=({t with place:=insertAt t.place (below t.place j) j},below t.place j):=by
 unfold put
 rw [O.nd,has_nil]
 simp [O.nd]
theorem put_ok{es:Array (Int×α)}(O:Ok t)(R:Rc t es){h:Int}{x:α}{k:Nat}(F:Full t h k)(he:t.slot (adv t k (t.probeStart h)).j=.empty)(hr:t.place.size+1 <=t.mask)(hm:t'.mask=t.mask)(hd:t'.dummies=t.dummies)(hpl:t'.place=insertAt t.place (below t.place (adv t k (t.probeStart h)).j) (adv t k (t.probeStart h)).j):
  Ok t'/\Rc t' (insertAt es (below t.place (adv t k (t.probeStart h)).j) (h,x)):=by
 have hjm:=(aht t h k).1
 have hnm:=(ae0 O).mp he
 generalize hj:(adv t k (t.probeStart h)).j=j at*
 obtain⟨b1,b2,b3⟩:=below_spec t.place j O.ris
 have pl:t'.place.toList=t.place.toList.take (below t.place j)++j::t.place.toList.drop (below t.place j):=by rw [hpl];exact eU _ _ _
 have el:(insertAt es (below t.place j) (h,x)).toList=es.toList.take (below t.place j)++(h,x)::es.toList.drop (below t.place j):=eU _ _ _
 generalize below t.place j=p at*
 have mem: ∀y,y∈t'.place.toList ↔ y∈t.place.toList\/y=j:=by
  intro y
  rw [pl]
  conv=> rhs;rw [←lP p t.place.toList]
  simp only [aS,aE]
  constructor
  ·rintro (q|q|q)
   ·exact .inl (.inl q)
   ·exact .inr q
   ·exact .inl (.inr q)
  ·rintro ((q|q)|q)
   ·exact .inl q
   ·exact .inr (.inr q)
   ·exact .inr (.inl q)
 have gd: ∀i (hi:i < t.place.size),t.place.getD i j=t.place.toList[i]'(by rw [au];exact hi):=fun i hi=> by simp only [cO,hi,dif_pos];simp
 have lt1: ∀y∈t.place.toList.take p,y < j:=by
  intro y hy
  obtain⟨i,hi⟩:=eC hy
  have hip:i < p:=by
   have:=(ap.mp hi).1
   rw [bd]at this;lia
  rw [eP hip]at hi
  have:=b2 i hip
  rw [gd i (by lia)]at this
  rw [←(ap.mp hi).2]
  exact this
 have lt2: ∀y∈t.place.toList.drop p,j < y:=by
  intro y hy
  obtain⟨i,hi⟩:=eC hy
  rw [gu]at hi
  have hl:=(ap.mp hi).1
  rw [au]at hl
  have:=b3 (p+i) (by lia) hl
  rw [gd _ hl,(ap.mp hi).2]at this
  have ne:y≠j:=fun z=> hnm (z▸mC hy)
  lia
 constructor
 ·refine⟨hd.trans O.nd,?_,?_,?_,by rw [hm];exact O.cyc⟩
  ·show i9 (· < ·) t'.place.toList
   rw [pl,mD]
   refine⟨O.ris.sublist (jG _ _),ce.mpr ⟨lt2,O.ris.sublist (List.drop_sublist _ _)⟩,fun a ha b hb=> ?_⟩
   rcases aE.mp hb with q|q
   ·subst q;exact lt1 a ha
   ·exact fB (lt1 a ha) (lt2 b q)
  ·intro y hy
   rw [hm]
   rcases (mem y).mp hy with q|q
   ·exact O.le y q
   ·subst q;lia
  ·have:t'.place.toList.length=t.place.size+1:=by
    rw [pl];simp only [aG,az,bd,cJ,au];lia
   rw [au]at this
   rw [hm];lia
 ·have hps:p <=es.size:=by rw [←R.size];exact b1
  refine⟨?_,?_⟩
  ·have l1:t'.place.toList.length=t.place.size+1:=by
    rw [pl];simp only [aG,az,bd,cJ,au];lia
   have l2:(insertAt es p (h,x)).toList.length=es.size+1:=by
    rw [el];simp only [aG,az,bd,cJ,au];lia
   rw [au]at l1 l2
   rw [l1,l2,R.size]
  ·intro i j' h' x' e1 e2
   have e1':(t.place.toList.take p++j::t.place.toList.drop p)[i]?=some j':=by rw [←pl];simpa using e1
   have e2':(es.toList.take p++(h,x)::es.toList.drop p)[i]?=some (h',x'):=by rw [←el];simpa using e2
   have old: ∀i0:Nat,t.place.toList[i0]?=some j' -> es.toList[i0]?=some (h',x') -> ∃k,(adv t' k (t'.probeStart h')).j=j'/\ ∀k',k' < k -> (adv t' k' (t'.probeStart h')).j∈t'.place.toList:=by
    intro i0 a b
    obtain⟨k2,f1,f2⟩:=R.met i0 j' h' x' (by simpa using a) (by simpa using b)
    refine⟨k2,?_,fun k' hk'=> ?_⟩
    ·rw [ab3 hm,aam hm];exact f1
    ·rw [ab3 hm,aam hm];exact (mem _).mpr (.inl (f2 k' hk'))
   rcases ins_get (by rw [au];exact b1) e1' with ⟨q,r1⟩|⟨q,r1⟩|⟨q,r1⟩
   ·rcases ins_get (by rw [au];exact hps) e2' with ⟨q2,r2⟩|⟨q2,r2⟩|⟨q2,r2⟩
    ·cases r2
     subst r1
     refine⟨k,?_,fun k' hk'=> ?_⟩
     ·rw [ab3 hm,aam hm];exact hj
     ·rw [ab3 hm,aam hm]
      obtain⟨i2,e⟩:=F k' hk'
      exact (mem _).mpr (.inl (di.mpr (lI ((slot_live O).mp e))))
    ·lia
    ·lia
   ·rcases ins_get (by rw [au];exact hps) e2' with ⟨q2,r2⟩|⟨q2,r2⟩|⟨q2,r2⟩
    ·lia
    ·exact old i r1 r2
    ·lia
   ·rcases ins_get (by rw [au];exact hps) e2' with ⟨q2,r2⟩|⟨q2,r2⟩|⟨q2,r2⟩
    ·lia
    ·lia
    ·exact old (i - 1) r1 r2
end
section
variable{m:Nat}{t:bq}
theorem ak9(ht:t.mask=m)(o:Array (Option Nat)): ∀(fuel:Nat) (p:Nat×Nat),(∃n,n < fuel/\o.getD (lp m n p).1 (some 0)=none) ->
  ∃k,layClean.free m o fuel p.1 p.2=some (adv t k (blk m p)).j/\o.getD (adv t k (blk m p)).j (some 0)=none/\ ∀k',k' < k -> (o.getD (adv t k' (blk m p)).j (some 0)).isSome=true
 |0,_,⟨n,hn,_⟩=> by lia
 | fuel+1,p,⟨n,hn,e⟩=> by
  have run: ∀k,k <=runEnd m p.1 - p.1 -> (adv t k (blk m p)).j=p.1+k:=fun k hk=> by rw [aj6 t k (blk m p) hk];rfl
  have le:p.1 <=runEnd m p.1:=by unfold runEnd;split <;> lia
  unfold layClean.free
  cases hf:(a9 (runEnd m p.1+1 - p.1)).find? fun k=> (o.getD (p.1+k) (some 0)).isNone with
  |some k=>
   have h1:=List.find?_some hf
   have h2:=List.mem_of_find?_eq_some hf
   rw [bD]at h2
   refine⟨k,by dsimp only;rw [run k (by lia)],by rw [run k (by lia)];simpa using h1,fun k' hk'=> ?_⟩
   rw [run k' (by lia)]
   rw [List.find?_range_eq_some]at hf
   have:=hf.2.2 k' hk'
   cases q:o.getD (p.1+k') (some 0) with
   |none=> rw [q]at this;simp at this
   |some _=> rfl
  | none=>
   have all: ∀k,k <=runEnd m p.1 - p.1 -> (o.getD (p.1+k) (some 0)).isSome=true:=by
    intro k hk
    rw [List.find?_eq_none]at hf
    have:=hf k (bD.mpr (by lia))
    cases q:o.getD (p.1+k) (some 0) with
    |none=> rw [q]at this;simp at this
    |some _=> rfl
   have hn0:n≠0:=fun z=> by
    subst z
    have:=all 0 (by lia)
    rw [Nat.add_zero]at this
    rw [show (lp m 0 p).1=p.1 from rfl]at e
    rw [e]at this;cases this
   obtain⟨n2,rfl⟩: ∃n2,n=n2+1:=⟨n - 1,by lia⟩
   obtain⟨k,e1,e2,e3⟩:=ak9 ht o fuel (leap m p.1 p.2) ⟨n2,by lia,e⟩
   have nx:adv t (runEnd m p.1 - p.1+1) (blk m p)=blk m (leap m p.1 p.2):=by
    have:=alw t p
    rw [ht]at this
    exact this
   refine⟨runEnd m p.1 - p.1+1+k,?_,?_,fun k' hk'=> ?_⟩
   ·rw [aby,nx];exact e1
   ·rw [aby,nx];exact e2
   ·by_cases c:k' <=runEnd m p.1 - p.1
    ·rw [run k' c];exact all k' c
    ·have:adv t k' (blk m p)=adv t (k' - (runEnd m p.1 - p.1+1)) (blk m (leap m p.1 p.2)):=by
      rw [←nx,←aby];congr 1;lia
     rw [this];exact e3 _ (by lia)
structure Lc (t:bq) (o:Array (Option Nat)) (hl:List Int):Prop where
 size:o.size=t.mask+1
 lt: ∀j k,o.getD j none=some k -> k < hl.length
 inj: ∀j j' k,o.getD j none=some k -> o.getD j' none=some k -> j=j'
 met: ∀k h,hl[k]?=some h -> ∃q,o.getD (adv t q (t.probeStart h)).j none=some k/\ ∀q',q' < q -> (o.getD (adv t q' (t.probeStart h)).j none).isSome=true
theorem ajd{o:Array (Option Nat)}{j:Nat}(h:j < o.size):o.getD j (some 0)=o.getD j none:=by simp only [cO,h,dif_pos]
theorem Lc.room{o:Array (Option Nat)}(L:Lc t o hl)(hl':hl.length <=t.mask): ∃j,j <=t.mask/\o.getD j none=none:=by
 apply bV
 intro z
 have all: ∀j,j <=t.mask -> ∃k,o.getD j none=some k:=fun j hj=> by
  cases q:o.getD j none with
  |none=> exact absurd ⟨j,hj,q⟩ z
  |some k=> exact⟨k,rfl⟩
 let f:Nat -> Nat:=fun j=> (o.getD j none).getD 0
 have fe: ∀j,j <=t.mask -> o.getD j none=some (f j):=fun j hj=> by
  obtain⟨k,e⟩:=all j hj
  show _=some ((o.getD j none).getD 0)
  rw [e];rfl
 have nd:((a9 (t.mask+1)).map f).Nodup:=by
  unfold im
  rw [cT]
  refine kF ?_ (gW (n:=t.mask+1))
  intro a b ha hb hab e
  rw [bD]at ha hb
  exact hab (L.inj a b (f a) (fe a (by lia)) (by rw [e];exact fe b (by lia)))
 have sub: ∀k∈(a9 (t.mask+1)).map f,k∈a9 hl.length:=by
  intro k hk
  obtain⟨j,hj,rfl⟩:=a8.mp hk
  rw [bD]at hj
  exact bD.mpr (L.lt j _ (fe j (by lia)))
 have:=nd.length_le_of_subset sub
 rw [am,cp,cp]at this
 lia
theorem Lc.put{o:Array (Option Nat)}(L:Lc t o hl)(hc:cyc t.mask=true)(hl':hl.length <=t.mask)(h:Int):
  ∃j,layClean.free t.mask o (turns t.mask) (bits h % (t.mask+1)) (bits h)=some j/\Lc t (o.setIfInBounds j (some hl.length)) (hl++ [h]):=by
 obtain⟨j0,hj0,e0⟩:=L.room hl'
 have hi:bits h % (t.mask+1) <=t.mask:=by have:=fN (bits h) (show 0 < t.mask+1 by lia);lia
 obtain⟨n,hn,en⟩:=an9 hc hi (ao2 h) hj0
 obtain⟨k,e1,e2,e3⟩:=ak9 (t:=t) rfl o (turns t.mask) (bits h % (t.mask+1),bits h) ⟨n,by unfold turns;lia,by rw [en,ajd (by rw [L.size];lia)];exact e0⟩
 have inb: ∀q,(adv t q (t.probeStart h)).j < o.size:=fun q=> by have:=(aht t h q).1;rw [L.size];lia
 rw [←ajq]at e1 e2 e3
 rw [ajd (inb k)]at e2
 have e3': ∀q',q' < k -> (o.getD (adv t q' (t.probeStart h)).j none).isSome=true:=fun q' hq=> by rw [←ajd (inb q')];exact e3 q' hq
 have hjs:=inb k
 refine⟨(adv t k (t.probeStart h)).j,e1,?_⟩
 generalize hj:(adv t k (t.probeStart h)).j=j at*
 have gs: ∀i,(o.setIfInBounds j (some hl.length)).getD i none=if i=j then some hl.length else o.getD i none:=by
  intro i
  by_cases c:i=j
  ·subst c
   rw [if_pos rfl]
   simp [cO,hjs]
  ·rw [if_neg c]
   by_cases ci:i < o.size
   ·simp [cO,ci,Array.getElem_setIfInBounds,bY c]
   ·simp [cO,ci]
 refine⟨by rw [Array.size_setIfInBounds,L.size],?_,?_,?_⟩
 ·intro i k' e
  rw [gs]at e
  rw [aG,dW]
  split at e
  ·injection e with e;lia
  ·have:=L.lt i k' e;lia
 ·intro i i' k' a b
  rw [gs]at a b
  split at a
  ·rename_i c
   split at b
   ·rename_i c2;lia
   ·injection a with a
    have:=L.lt _ _ b
    lia
  ·split at b
   ·injection b with b
    have:=L.lt _ _ a
    lia
   ·exact L.inj i i' k' a b
 ·intro k' h' e
  by_cases c:k' < hl.length
  ·rw [aJ c]at e
   obtain⟨q,f1,f2⟩:=L.met k' h' e
   refine⟨q,?_,fun q' hq=> ?_⟩
   ·rw [gs,if_neg (fun z=> by rw [z,e2]at f1;cases f1)];exact f1
   ·rw [gs]
    split
    ·rfl
    ·exact f2 q' hq
  ·have hk:k'=hl.length:=by
    have:=(ap.mp e).1
    rw [aG,dW]at this
    lia
   subst hk
   rw [aW (ao _),nB]at e
   have:h'=h:=by simpa using e.symm
   subst this
   refine⟨k,by rw [gs,hj,if_pos rfl],fun q' hq=> ?_⟩
   rw [gs]
   split
   ·rfl
   ·exact e3' q' hq
end
theorem aml{t:bq}(hc:cyc t.mask=true): ∀(l pre:List Int) (o:Array (Option Nat)),Lc t o pre -> pre.length+l.length <=t.mask ->
  ∃o',l.foldl (fun acc h=> do
   let (owner,k)←acc
   let j←layClean.free t.mask owner (turns t.mask) (bits h % (t.mask+1)) (bits h)
   pure (owner.setIfInBounds j (some k),k+1)) (some (o,pre.length))=some (o',(pre++l).length)/\Lc t o' (pre++l)
 |[],pre,o,L,_=> ⟨o,by rw [aP];rfl,by rw [aP];exact L⟩
 | h::r,pre,o,L,hl=> by
  rw [az]at hl
  obtain⟨j,e,L2⟩:=L.put hc (by lia) h
  obtain⟨o',e2,L3⟩:=aml hc r (pre++ [h]) _ L2 (by rw [aG,dW];lia)
  refine⟨o',?_,by rw [show pre++h::r=(pre++ [h])++r by simp];exact L3⟩
  rw [dX]
  have:(do
   let (owner,k)←(some (o,pre.length):Option (Array (Option Nat)×Nat))
   let j←layClean.free t.mask owner (turns t.mask) (bits h % (t.mask+1)) (bits h)
   pure (owner.setIfInBounds j (some k),k+1))=some (o.setIfInBounds j (some pre.length),(pre++ [h]).length):=by
   simp only [iw,jY,e,lf]
   simp
  rw [this,e2]
  simp
theorem arh(hc:cyc t.mask=true)(hs:Array Int)(hl:hs.size <=t.mask): ∃o,layClean t.mask hs=some o/\Lc t o hs.toList:=by
 have L0:Lc t (io (t.mask+1) none) []:=by
  have g: ∀j,(io (t.mask+1) (none:Option Nat)).getD j none=none:=fun j=> by
   by_cases c:j < t.mask+1
   ·simp [cO,c]
   ·simp [cO,c]
  exact⟨by simp,fun j k e=> (by rw [g]at e;cases e),fun j j' k e=> (by rw [g]at e;cases e),fun k h e=> (by simp at e)⟩
 obtain⟨o',e,L⟩:=aml hc hs.toList [] _ L0 (by rw [au];simpa using hl)
 refine⟨o',?_,by simpa using L⟩
 unfold layClean
 rw [←Array.foldl_toList]
 rw [show (some (io (t.mask+1) (none:Option Nat),0))=some (io (t.mask+1) none,([]:List Int).length) from rfl,e]
 rfl
section
variable{α:Type}
noncomputable def liveL(m:Nat)(o:Array (Option Nat)):List (Nat×Nat):=(a9 (m+1)).filterMap fun j=> (o.getD j none).map (j,·)
theorem aa6{m:Nat}{o:Array (Option Nat)}{j k:Nat}:(j,k)∈liveL m o ↔ j <=m/\o.getD j none=some k:=by
 unfold liveL
 rw [iO]
 constructor
 ·rintro⟨a,ha,e⟩
  rw [bD]at ha
  cases q:o.getD a none with
  |none=> rw [q]at e;cases e
  |some b=>
   rw [q]at e
   simp only [f7,dG,iZ]at e
   obtain⟨rfl,rfl⟩:=e
   exact⟨by lia,q⟩
 ·rintro⟨a,b⟩
  exact⟨j,bD.mpr (by lia),by rw [b];rfl⟩
theorem live_ris(m:Nat)(o:Array (Option Nat)):Ris ((liveL m o).map (·.1)):=by
 unfold liveL Ris
 rw [cT,List.pairwise_filterMap]
 refine i9.imp ?_ (List.pairwise_lt_range (n:=m+1))
 intro a b hab x hx y hy
 cases qa:o.getD a none with
 |none=> rw [qa]at hx;cases hx
 | some ka=>
  cases qb:o.getD b none with
  |none=> rw [qb]at hy;cases hy
  |some kb=>
   rw [qa]at hx;rw [qb]at hy
   simp only [f7,dG]at hx hy
   subst hx;subst hy
   exact hab
theorem a0t{o:Array (Option Nat)}(L:Lc t o hl):((liveL t.mask o).map (·.2)).Nodup:=by
 have r:=live_ris t.mask o
 unfold Ris at r
 unfold im
 rw [cT]at r⊢
 refine r.imp_of_mem ?_
 rintro⟨a,ka⟩ ⟨b,kb⟩ ha hb hab e
 have e:ka=kb:=e
 subst e
 have:=L.inj a b ka (aa6.mp ha).2 (aa6.mp hb).2
 have:a < b:=hab
 lia
theorem asr{o:Array (Option Nat)}(L:Lc t o hl):((liveL t.mask o).map (·.2)).Perm (a9 hl.length):=by
 refine (List.perm_ext_iff_of_nodup (a0t L) gW).mpr fun k=> ?_
 rw [bD,a8]
 constructor
 ·rintro⟨⟨j,k'⟩,hm,rfl⟩
  exact L.lt j k' (aa6.mp hm).2
 ·intro hk
  obtain⟨q,e,_⟩:=L.met k hl[k] (aq hk)
  exact⟨(_,k),aa6.mpr ⟨by have:=(aht t hl[k] q).1;lia,e⟩,rfl⟩
theorem am7{β:Type}(es:Array β): ∀(l:List Nat),(∀k∈l,k < es.size) -> ∃ys:List β,l.filterMap (es[·]?)=ys/\ys.length=l.length/\ ∀i k:Nat,l[i]?=some k -> ys[i]?=es[k]?
 |[],_=> ⟨[],rfl,rfl,fun i k e=> by simp at e⟩
 | k::r,h=> by
  obtain⟨ys,e,hl,hg⟩:=am7 es r fun y hy=> h y (aw _ hy)
  have hk:=h k av
  refine⟨es[k]::ys,?_,by simp [hl],fun i k' e'=> ?_⟩
  ·rw [List.filterMap_cons_some (b:=es[k]) (bf hk),e]
  ·cases i with
   |zero=>
    have:k=k':=by simpa using e'
    subst this
    simp [bf hk]
   |succ i=>
    have:=hg i k' (by simpa using e')
    simpa using this
theorem a04{β:Type}(es:Array β){l:List Nat}(h:l.Perm (a9 es.size)):(l.filterMap (es[·]?)).Perm es.toList:=by
 refine (h.filterMap _).trans ?_
 have:(a9 es.size).filterMap (es[·]?)=es.toList:=by
  apply cS
  intro i
  obtain⟨ys,e,hl,hg⟩:=am7 es (a9 es.size) fun k hk=> bD.mp hk
  rw [e]
  by_cases c:i < es.size
  ·rw [hg i i (by rw [eW c])];simp
  ·rw [cH (by rw [hl,cp];lia),cH (by rw [au];lia)]
 rw [this]
theorem au4(h:t'.mask=t.mask)(k:Nat)(x:Int):adv t' k (t'.probeStart x)=adv t k (t.probeStart x):=by rw [ab3 h,aam h]
theorem laid_ok(es:Array (Int×α)){mask finger moves:Nat}{led plain:Bool}(hc:cyc mask=true)(hl:es.size <=mask):
  ∃t' od,laid mask finger moves led plain (es.map (·.1))=some (t',od)/\t'.mask=mask/\t'.led=led/\t'.plain=plain/\t'.moves=moves/\t'.finger=finger/\Ok t'/\Rc t' (od.filterMap (es[·]?))/\(od.filterMap (es[·]?)).toList.Perm es.toList/\t'.place.size=es.size:=by
 let t:bq:={mask,place:= #[],dummies:= #[],finger,led,moves,plain}
 obtain⟨o,e,L⟩:=arh (t:=t) hc (es.map (·.1)) (by simpa using hl)
 have hln:(es.map (·.1)).toList.length=es.size:=by simp
 have pm:=asr L
 rw [hln]at pm
 have lt: ∀k∈(liveL mask o).map (·.2),k < es.size:=fun k hk=> bD.mp (pm.mem_iff.mp hk)
 have ll:(liveL mask o).length=es.size:=by have:=pm.length_eq;rwa [am,cp]at this
 obtain⟨ys,e1,e2,e3⟩:=am7 es ((liveL mask o).map (·.2)) lt
 have fm:(((liveL mask o).map (·.2)).toArray.filterMap (es[·]?)).toList=ys:=by rw [Array.toList_filterMap];simpa using e1
 let T:bq:={mask,place:=((liveL mask o).map (·.1)).toArray,dummies:= #[],finger,led,moves,plain}
 have tp:T.place.toList=(liveL mask o).map (·.1):=rfl
 have ts:T.place.size=es.size:=by show ((liveL mask o).map (·.1)).toArray.size=_;simp [ll]
 have pe: ∀(k:Nat) (x:Int),adv T k (T.probeStart x)=adv t k (t.probeStart x):=fun k x=> au4 (t:=t) (t':=T) rfl k x
 refine⟨T,((liveL mask o).map (·.2)).toArray,?_,rfl,rfl,rfl,rfl,rfl,?_,?_,?_,ts⟩
 ·unfold laid
  rw [show layClean mask (es.map (·.1))=some o from e]
  rfl
 ·refine⟨rfl,by rw [tp];exact live_ris mask o,?_,by rw [ts];exact hl,hc⟩
  intro j hj
  rw [tp]at hj
  obtain⟨⟨a,b⟩,hm,rfl⟩:=a8.mp hj
  exact (aa6.mp hm).1
 ·refine⟨?_,?_⟩
  ·have:(((liveL mask o).map (·.2)).toArray.filterMap (es[·]?)).size=es.size:=by
    rw [←au,fm,e2,am,ll]
   rw [this,ts]
  ·intro i j h x a b
   have a:((liveL mask o).map (·.1))[i]?=some j:=by rw [←tp,bj];exact a
   have b:ys[i]?=some (h,x):=by rw [←fm];simpa using b
   rw [aR]at a
   cases q:(liveL mask o)[i]? with
   |none=> rw [q]at a;cases a
   | some jk=>
    obtain⟨j',k⟩:=jk
    rw [q]at a
    have:j'=j:=by simpa using a
    subst this
    have hk:=e3 i k (by rw [aR,q];rfl)
    rw [b]at hk
    obtain⟨_,hjo⟩:=aa6.mp (bp q)
    obtain⟨w,f1,f2⟩:=L.met k h (by
     have:(es.map (·.1)).toList[k]?=(es[k]?).map (·.1):=by simp
     rw [this,←hk];rfl)
    have ej:=L.inj _ _ k f1 hjo
    refine⟨w,?_,fun w' hw=> ?_⟩
    ·rw [pe];exact ej
    ·rw [pe]
     have:=f2 w' hw
     obtain⟨k2,hk2⟩:=gj.mp this
     have m:((adv t w' (t.probeStart h)).j,k2)∈liveL mask o:=aa6.mpr ⟨by have:=(aht t h w').1;show _ <=t.mask;lia,hk2⟩
     have m2:=eX (f:=fun p:Nat×Nat=> p.1) m
     rw [tp];exact m2
 ·rw [fm,←e1]
  exact a04 es pm
end
end ST
namespace PF
open PySem PySem.Spec PySem.SeqAt --
section
variable{prog:aI}{w:aM} --
mutual
theorem amh: ∀(d:ac) {n:Nat} {A:aZ} {E:ae -> ag -> Prop} {s:ag} {v:ae} {bs:List Addr} {Q:Bool -> ag -> Prop},plD d=true -> ck s.heap v d bs -> (∀b,Q b s) -> wpAny (model prog w) A (nU n v) Q E s
 |.none,n,A,E,s,v,bs,Q,_,r,h=> by cases r;cases n <;> exact af (h _)
 |.int i,n,A,E,s,v,bs,Q,_,r,h=> by cases r;cases n <;> exact af (h _)
 |.str x,n,A,E,s,v,bs,Q,_,r,h=> by cases r;cases n <;> exact af (h _)
 |.tuple xs,0,A,E,s,v,bs,Q,hp,r,h=> by cases r;exact af (h _)
 | .tuple xs,m+1,A,E,s,v,bs,Q,hp,r,h=> by
  have ih:=ajt xs
  rw [kz,ac1,ay]at hp
  cases r with
  | @tuple a o items n _ _ ho hc hd hi=>
  have hT:s.TypeIs (.ref a) "tuple":=⟨o,ho,hc⟩
  unfold nU
  (refine aa (dg hT fw.lookup ?_))
  show wpAny _ _ (seqItems? (.ref a)>>=_) _ _ s
  (refine aa (gx ho hd ?_))
  refine aa ?_
  show wpAny _ _ (forIn items _ _) _ _ s --
  rw [←gb]
  refine eM _ (fun rest r s'=> (r.1=none\/r.1=some false)/\s'=s/\ ∃left cs,(∀x∈left,x∈xs)/\cf s.heap rest left cs) _ ?_ ?_ _ _ ⟨.inl rfl,rfl,xs,_,fun _ m=> m,hi⟩
  ·rintro v rest r s' ⟨hr,rfl,left,cs,sub,hl⟩
   cases hl with
   | @cons _ _ k ks' _ _ h1 hl'=>
    have hm:=sub k av
    refine aa (ih k hm (hp k hm) h1 fun b=> ?_)
    cases b
    ·simp only [lQ,if_true]
     (exact af (af (h _)))
    ·simp only [cy,aT,if_false]
     exact af ⟨.inl rfl,rfl,ks',_,fun x m=> sub x (aw _ m),hl'⟩
  ·rintro⟨r1,r2⟩ s' ⟨hr,rfl,_⟩
   simp only at hr
   rcases hr with rfl|rfl
   ·exact af (h _)
   ·exact af (h _)
 |.bool _,_,_,_,_,_,_,_,hp,_,_=> by simp [plD]at hp
 |.list _,_,_,_,_,_,_,_,hp,_,_=> by simp [plD]at hp
 |.dict _,_,_,_,_,_,_,_,hp,_,_=> by simp [plD]at hp
theorem ajt: ∀(xs:List ac),∀d∈xs,∀{n:Nat} {A:aZ} {E:ae -> ag -> Prop} {s:ag} {v:ae} {bs:List Addr} {Q:Bool -> ag -> Prop},plD d=true -> ck s.heap v d bs -> (∀b,Q b s) -> wpAny (model prog w) A (nU n v) Q E s
 |[],d,m=> by cases m
 | x::r,d,m=> by
  intro h1 h2 h3
  rcases aE.mp m with e|m
  ·rw [e]at h1 h2
   exact amh x h1 h2 h3
  ·exact ajt r d m h1 h2 h3
end
mutual
theorem agl: ∀(d:ac) {n:Nat} {A:aZ} {E:ae -> ag -> Prop} {s:ag} {v:ae} {bs:List Addr} {Q:Bool -> ag -> Prop},plD d=true -> ck s.heap v d bs -> d.depth <=n -> Q false s -> wpAny (model prog w) A (ef n v) Q E s
 |.none,n,A,E,s,v,bs,Q,_,r,_,h=> by cases r;unfold ef;exact af h
 |.int i,n,A,E,s,v,bs,Q,_,r,_,h=> by cases r;unfold ef;exact af h
 |.str x,n,A,E,s,v,bs,Q,_,r,_,h=> by cases r;unfold ef;exact af h
 | .tuple xs,n,A,E,s,v,bs,Q,hp,r,hu,h=> by
  have ih:=ak1 xs
  rw [kz,ac1,ay]at hp
  (simp only [eK]at hu)
  obtain⟨m,rfl⟩: ∃m,n=m+1:=⟨n - 1,by lia⟩
  cases r with
  | @tuple a o items n _ _ ho hc hd hi=>
  have hT:s.TypeIs (.ref a) "tuple":=⟨o,ho,hc⟩
  unfold ef
  (refine aa (eQ hT ?_))
  show wpAny _ _ (pure true >>=_) _ _ s
  refine aa (af ?_)
  (simp only [cy,aT,if_false])
  (refine aa (gx ho hd ?_))
  refine aa ?_
  show wpAny _ _ (forIn items _ _) _ _ s --
  rw [←gb]
  refine eM _ (fun rest r s'=> r.1=none/\s'=s/\ ∃left cs,(∀x∈left,x∈xs)/\cf s.heap rest left cs) _ ?_ ?_ _ _ ⟨rfl,rfl,xs,_,fun _ m=> m,hi⟩
  ·rintro v rest r s' ⟨hr,rfl,left,cs,sub,hl⟩
   cases hl with
   | @cons _ _ k ks' _ _ h1 hl'=>
    have hm:=sub k av
    have hdk:=acs hm
    refine aa (ih k hm (hp k hm) h1 (by lia) ?_)
    (simp only [aT,if_false])
    exact af ⟨rfl,rfl,ks',_,fun x m=> sub x (aw _ m),hl'⟩
  ·rintro⟨r1,r2⟩ s' ⟨hr,rfl,_⟩
   simp only at hr
   subst hr
   exact af h
 |.bool _,_,_,_,_,_,_,_,hp,_,_,_=> by simp [plD]at hp
 |.list _,_,_,_,_,_,_,_,hp,_,_,_=> by simp [plD]at hp
 |.dict _,_,_,_,_,_,_,_,hp,_,_,_=> by simp [plD]at hp
theorem ak1: ∀(xs:List ac),∀d∈xs,∀{n:Nat} {A:aZ} {E:ae -> ag -> Prop} {s:ag} {v:ae} {bs:List Addr} {Q:Bool -> ag -> Prop},plD d=true -> ck s.heap v d bs -> d.depth <=n -> Q false s -> wpAny (model prog w) A (ef n v) Q E s
 |[],d,m=> by cases m
 | x::r,d,m=> by
  intro h1 h2 h3 h4
  rcases aE.mp m with e|m
  ·rw [e]at h1 h2 h3
   exact agl x h1 h2 h3 h4
  ·exact ak1 r d m h1 h2 h3 h4
end
class PV where
 p:ac -> ae -> Prop
variable[PV]
structure TupV (h:Heap) (k:ac) (v:ae):Prop where
 ok:xt k=true
 pv:PV.p k v
 ex: ∃a bs,v=.ref a/\ck h (.ref a) k bs
theorem ayd{s:ag}{k:ac}{v:ae}{Q:Bool -> ag -> Prop}(hk:TupV s.heap k v)(vs:List ae)(hvs: ∀y∈vs,∃k',TupV s.heap k' y)(h:Q false s):wpAny (model prog w) A (jM v vs) Q E s:=by
 obtain⟨ok,pv,a,bs,rfl,rd⟩:=hk
 obtain⟨p,c,d⟩:=kq.mp ok
 unfold jM
 refine aa ?_
 refine eM _ (fun rest r s'=> r.1=none/\s'=s/\ ∀y∈rest,∃k',TupV s.heap k' y) _ ?_ ?_ _ _ ⟨rfl,rfl,hvs⟩
 ·rintro y rest r s' ⟨hr,rfl,hy⟩
  obtain⟨k',ok',_,b,bs',rfl,rd'⟩:=hy y av
  obtain⟨p',c',d'⟩:=kq.mp ok'
  have nx: ∀y∈rest,∃k',TupV s'.heap k' y:=fun y m=> hy y (aw _ m)
  dsimp only
  split
  ·exact af ⟨rfl,rfl,nx⟩
  ·refine aa (ae5 k p rd d ?_)
   (simp only [cy,aT,if_false])
   refine aa (ae5 k' p' rd' d' ?_)
   (simp only [cy,aT,if_false])
   refine aa (agl k p rd d ?_)
   (simp only [aT,if_false])
   refine aa (agl k' p' rd' d' ?_)
   (simp only [aT,if_false])
   exact af ⟨rfl,rfl,nx⟩
 ·rintro⟨r1,r2⟩ s' ⟨hr,rfl,_⟩
  simp only at hr
  subst hr
  exact af h
end
section
variable{prog:aI}{w:aM}[PV]
structure Tb (w:aM) (h:Heap) (es:Array (Int×ae)) (t:bq) (kt:List ac):Prop where
 ok:ST.Ok t
 rc:ST.Rc t es
 len:kt.length=es.size
 el: ∀(i:Nat) (k:ac),kt[i]?=some k -> ∃v,es[i]?=some (jo w k,v)/\TupV h k v
 nd:kt.Nodup
 led:t.led= !(w.params.followText "set-order")
 msk:(t.mask=7/\es.size <=4)\/(t.mask=31/\es.size <=18)\/(t.mask=127/\es.size <=76)\/(t.mask=511/\es.size <=306)
theorem Tb.fits{es:Array (Int×ae)}(T:Tb w h es t kt):t.fits es.size=true:=by
 simp only [mM,aB,beq_iff_eq,decide_eq_true_eq]
 refine⟨T.rc.size,?_⟩
 unfold mP
 rw [T.ok.nd]
 have:=T.ok.room
 simpa using this
theorem Tb.odd{es:Array (Int×ae)}(T:Tb w h es t kt):t.gaveWay=false:=by
 unfold SetTable.gaveWay
 rcases T.msk with ⟨e,_⟩|⟨e,_⟩|⟨e,_⟩|⟨e,_⟩ <;> rw [e] <;> rfl
theorem Tb.turn{es:Array (Int×ae)}(T:Tb w h es t kt):10*SetTable.turns t.mask <=6000:=by
 unfold SetTable.turns
 rcases T.msk with ⟨e,_⟩|⟨e,_⟩|⟨e,_⟩|⟨e,_⟩ <;> rw [e] <;> decide
theorem Tb.hash{es:Array (Int×ae)}(T:Tb w h es t kt){i:Nat}{k:ac}(e:kt[i]?=some k):ST.ha es i=jo w k:=by
 obtain⟨v,ev,_⟩:=T.el i k e
 unfold ST.ha
 rw [ev];rfl
theorem a1d{s:ag}{k:ac}{v:ae}{vs:List ae}{Q:SetFound -> ag -> Prop}{X Y:Sem SetFound}(hk:TupV s.heap k v)(hvs: ∀y∈vs,∃k',TupV s.heap k' y)(h:wpAny (model prog w) A X Q E s):
  wpAny (model prog w) A (if (!t.led)=true then (do
   let b←jM v vs
   if b=true then Y else X) else X) Q E s:=by
 split
 ·refine aa (ayd hk vs hvs ?_)
  rw [if_neg ax]
  exact h
 ·exact h
theorem akg {A:aZ} {E:ae -> ag -> Prop} {s:ag} {a:Addr} {o:Obj} {es:Array (Int×ae)} {ep:Nat} {t:bq} {kt:List ac} {k:ac} {v:ae} {Q:SetFound -> ag -> Prop}
  (hu:A.units+10 < cLine) (ho:s.heap.get? a=some o) (hd:o.data=.set es ep t) (T:Tb w s.heap es t kt) (hk:TupV s.heap k v)
  (h1:k∈kt -> Q (.there none) s) (h2: ∀kk,k∉kt -> t.slot (ST.adv t kk (t.probeStart (jo w k))).j=.empty -> ST.Full t (jo w k) kk -> Q (.free (ST.adv t kk (t.probeStart (jo w k))).j false) s):
  ∀(fuel k0:Nat) (st:Option SetTable.Probe),st.getD (t.probeStart (jo w k))=ST.adv t k0 (t.probeStart (jo w k)) -> 6001 <=fuel+k0 -> k0 <=6000 -> ST.Full t (jo w k) k0 -> (∀k',k' < k0 -> ∀i,t.slot (ST.adv t k' (t.probeStart (jo w k))).j=.live i -> kt[i]?≠some k) ->
   wpAny (model prog w) A (setSearchFrom a v (jo w k) true fuel st) Q E s
 |0,k0,st,e,f,g,_,_=> by lia
 | fuel +1,k0,st,e,f,g,F,NE=> by
  unfold setSearchFrom
  refine aa (b8 ho hd T.fits ?_)
  dsimp only
  rw [T.odd]
  (simp only [aT,if_false])
  rw [e]
  have same: ∀{i:Nat} {kk:Nat},t.slot (ST.adv t kk (t.probeStart (jo w k))).j=.live i -> ST.ha es i≠jo w k -> kt[i]?≠some k:=fun a b c=> b (T.hash c)
  have tt:=T.turn
  generalize hf:t.probe _ (jo w k) (ST.adv t k0 (t.probeStart (jo w k)))=m
  rcases ST.search_step T.ok (ST.ha es) (jo w k) k0 F with ⟨kk,a1,a2,a3,a4,a5⟩|⟨kk,i,a1,a2,a3,ah,a4,a5⟩
  ·obtain rfl:m=some (.empty (ST.adv t kk (t.probeStart (jo w k))).j none):=hf.symm.trans a5
   dsimp only
   refine af (h2 kk ?_ a3 ?_)
   ·intro m
    obtain⟨i,hi⟩:=eC m
    obtain⟨v',ev,_⟩:=T.el i k hi
    obtain⟨k2,b1,b2⟩:=ST.elem_met T.ok T.rc a3 ev
    by_cases c:k2 < k0
    ·exact NE k2 c i b2 hi
    ·obtain⟨i',c1,c2⟩:=a4 k2 (by lia) b1
     rw [b2]at c1
     cases c1
     exact c2 (T.hash hi)
   ·intro k' hk'
    by_cases c:k' < k0
    ·exact F k' c
    ·obtain⟨i',c1,_⟩:=a4 k' (by lia) hk'
     exact⟨i',c1⟩
  ·obtain rfl:m=some (.candidate (ST.adv t kk (t.probeStart (jo w k))).j i (ST.adv t (kk+1) (t.probeStart (jo w k)))):=hf.symm.trans a5
   dsimp only
   have hi:i < kt.length:=by
    rw [T.len,←T.rc.size]
    exact (cb.mp ((ST.slot_live T.ok).mp a3)).1
   obtain⟨y,ey,hy⟩:=T.el i kt[i] (aq hi)
   refine a1d hk (fun y hy=> ?_) ?_
   ·obtain⟨e,he,rfl⟩:=a8.mp hy
    have he':e∈es.toList:=by
     have:=di.mp he
     exact di.mpr (Array.mem_filter.mp this).1
    obtain⟨i2,hi2⟩:=eC he'
    have l2:i2 < kt.length:=by rw [T.len,←au];exact (ap.mp hi2).1
    obtain⟨y2,ey2,hy2⟩:=T.el i2 kt[i2] (aq l2)
    rw [bj,ey2]at hi2
    cases hi2
    exact⟨_,hy2⟩
   ·skip
    rw [ey]
    dsimp only
    obtain⟨ok',_,b',bs',rfl,rd'⟩:=hy
    obtain⟨ok,_,b,bs,rfl,rd⟩:=id hk
    obtain⟨p,c,d⟩:=kq.mp ok
    obtain⟨p',c',d'⟩:=kq.mp ok'
    refine aa (bo (lY kt[i] k A s _ _ _ _ rd' rd c' c (by lia) prog w E _ ?_))
    refine aa (b8 ho hd T.fits ?_)
    dsimp only
    by_cases ek:kt[i]=k
    ·rw [show aU kt[i] k=true from (zv _ _ p' p).mpr ek]
     (simp only [i7,if_true])
     exact af (h1 (ek▸kG hi))
    ·rw [show aU kt[i] k=false by
      cases q:aU kt[i] k with
      |false=> rfl
      |true=> exact absurd ((zv _ _ p' p).mp q) ek]
     simp only [lH,aT,if_false]
     rw [show t.sameMemory t.moves t.mask=some true by unfold SetTable.sameMemory;simp]
     simp only [if_true]
     rw [a3]
     dsimp only
     rw [ey]
     dsimp only
     refine aa (wpAny_isSame_ref_self ?_)
     simp only [if_true]
     refine aa (af ?_)
     dsimp only
     refine akg hu ho hd T hk h1 h2 fuel (kk+1) (some _) rfl (by lia) (by lia) (fun k' hk'=> ?_) (fun k' hk' i' hl=> ?_)
     ·by_cases c:k' < k0
      ·exact F k' c
      ·by_cases c2:k' < kk
       ·obtain⟨i',c1,_⟩:=a4 k' (by lia) c2
        exact⟨i',c1⟩
       ·rw [show k'=kk by lia];exact⟨i,a3⟩
     ·by_cases c:k' < k0
      ·exact NE k' c i' hl
      ·by_cases c2:k' < kk
       ·obtain⟨i2,c1,c3⟩:=a4 k' (by lia) c2
        rw [hl]at c1
        cases c1
        exact same hl c3
       ·rw [show k'=kk by lia,a3]at hl
        cases hl
        rw [aq hi]
        exact fun z=> ek (by injection z)
structure Tb1 (w:aM) (h:Heap) (es:Array (Int×ae)) (t:bq) (kt:List ac):Prop where
 ok:ST.Ok t
 rc:ST.Rc t es
 len:kt.length=es.size
 el: ∀(i:Nat) (k:ac),kt[i]?=some k -> ∃v,es[i]?=some (jo w k,v)/\TupV h k v
 nd:kt.Nodup
 led:t.led= !(w.params.followText "set-order")
theorem ar6{α:Type}(l:List α)(p:Nat)(x:α):(l.take p++x::l.drop p).Perm (x::l):=by
 have:=List.perm_middle (a:=x) (l₁:=l.take p) (l₂:=l.drop p)
 rwa [lP]at this
theorem Tb.put{es:Array (Int×ae)}{k:ac}{v:ae}{kk:Nat}(T:Tb w h es t kt)(hk:TupV h k v)(nm:k∉kt)(F:ST.Full t (jo w k) kk)(he:t.slot (ST.adv t kk (t.probeStart (jo w k))).j=.empty)(hm:t'.mask=t.mask)(hd:t'.dummies=t.dummies)(hld:t'.led=t.led)(hpl:t'.place=cU t.place (bK t.place (ST.adv t kk (t.probeStart (jo w k))).j) (ST.adv t kk (t.probeStart (jo w k))).j):
  ∃kt',Tb1 w h (cU es (bK t.place (ST.adv t kk (t.probeStart (jo w k))).j) (jo w k,v)) t' kt'/\kt'.Perm (k::kt):=by
 obtain⟨o1,r1⟩:=ST.put_ok (x:=v) T.ok T.rc F he (by
  rw [T.rc.size]
  rcases T.msk with ⟨e,c⟩|⟨e,c⟩|⟨e,c⟩|⟨e,c⟩ <;> rw [e] <;> lia) hm hd hpl
 have b1:=(ST.below_spec t.place (ST.adv t kk (t.probeStart (jo w k))).j T.ok.ris).1
 generalize bK t.place (ST.adv t kk (t.probeStart (jo w k))).j=p at*
 have pe:p <=es.size:=by rw [←T.rc.size];exact b1
 have el:(cU es p (jo w k,v)).toList=es.toList.take p++(jo w k,v)::es.toList.drop p:=eU _ _ _
 have pm:=ar6 kt p k
 refine⟨kt.take p++k::kt.drop p,⟨o1,r1,?_,?_,pm.nodup_iff.mpr (cE.mpr ⟨nm,T.nd⟩),hld.trans T.led⟩,pm⟩
 ·rw [←au,el]
  simp only [aG,az,bd,cJ,au,T.len]
 ·intro i k' e
  have get: ∀(i:Nat) (y:Int×ae),(es.toList.take p++(jo w k,v)::es.toList.drop p)[i]?=some y -> (cU es p (jo w k,v))[i]?=some y:=fun i y q=> by rw [←bj,el];exact q
  rcases ST.ins_get (by rw [T.len];exact pe) e with ⟨rfl,rfl⟩|⟨q,r⟩|⟨q,r⟩
  ·refine⟨v,get _ _ ?_,hk⟩
   rw [aW (by rw [bd,au];lia),bd,au,ik pe,nB]
   rfl
  ·obtain⟨v',ev,hv⟩:=T.el i k' r
   refine⟨v',get _ _ ?_,hv⟩
   rw [aJ (by rw [bd,au];lia),eP q,bj]
   exact ev
  ·obtain⟨v',ev,hv⟩:=T.el (i - 1) k' r
   refine⟨v',get _ _ ?_,hv⟩
   rw [aW (by rw [bd,au];lia),bd,au,ik pe,show i - p=(i - p - 1)+1 by lia,cQ,gu,show p+(i - p - 1)=i - 1 by lia,bj]
   exact ev
end
theorem atc{α β:Type}{f:α -> β}{l:List α}: ∀{ys:List β},ys.Perm (l.map f) -> ∃qs:List α,qs.Perm l/\qs.map f=ys:=by
 intro ys h
 generalize hz:l.map f=zs at h
 induction h generalizing l with
 |nil=>
  cases l with
  |nil=> exact⟨[],.refl _,rfl⟩
  |cons a b=> cases hz
 | cons x h ih=>
  cases l with
  |nil=> cases hz
  |cons a b=>
   cases hz
   obtain⟨qs,p,e⟩:=ih rfl
   exact⟨a::qs,p.cons a,by rw [aN,e]⟩
 | swap x y r=>
  match l,hz with
  |a::b::c,hz=>
   cases hz
   exact⟨b::a::c,.swap _ _ _,rfl⟩
 |trans h1 h2 ih1 ih2=>
  obtain⟨q2,p2,e2⟩:=ih2 hz
  obtain⟨q1,p1,e1⟩:=ih1 e2
  exact⟨q1,p1.trans p2,e1⟩
section
variable{prog:aI}{w:aM}[PV]
abbrev Kp(h h':Heap):Prop:= ∀b o,h.get? b=some o -> h'.get? b=some o
mutual
theorem alc: ∀(d:ac) {h h':Heap} {v:ae} {bs:List Addr},plD d=true -> Kp h h' -> ck h v d bs -> ck h' v d bs
 |.none,_,_,_,_,_,_,r=> by cases r;exact .none
 |.int i,_,_,_,_,_,_,r=> by cases r;exact .int _ _
 |.str x,_,_,_,_,_,_,r=> by cases r;exact .str _ _
 |.tuple xs,h,h',v,bs,hp,hs,r=> by
  rw [kz]at hp
  cases r with
  | @tuple b ob items n _ _ h1 h2 h3 h4=> exact .tuple (hs b _ h1) h2 h3 (ak6 xs hp hs h4)
 |.bool _,_,_,_,_,hp,_,_=> by simp [plD]at hp
 |.list _,_,_,_,_,hp,_,_=> by simp [plD]at hp
 |.dict _,_,_,_,_,hp,_,_=> by simp [plD]at hp
theorem ak6: ∀(xs:List ac) {h h':Heap} {vs:List ae} {bs:List Addr},vq xs=true -> Kp h h' -> cf h vs xs bs -> cf h' vs xs bs
 |[],_,_,_,_,_,_,r=> by cases r;exact .nil
 |x::xs,_,_,_,_,hp,hs,r=> by
  rw [vb,aB]at hp
  cases r with
  |cons r1 r2=> exact .cons (alc x hp.1 hs r1) (ak6 xs hp.2 hs r2)
end
theorem TupV.kp{h':Heap}{k:ac}{v:ae}(t:TupV h k v)(hs:Kp h h'):TupV h' k v:=by
 obtain⟨ok,pv,a,bs,rfl,rd⟩:=t
 exact⟨ok,pv,a,bs,rfl,alc k (kq.mp ok).1 hs rd⟩
theorem Tb.kp{h':Heap}{es:Array (Int×ae)}(T:Tb w h es t kt)(hs:Kp h h'):Tb w h' es t kt:=⟨T.ok,T.rc,T.len,fun i k e=> by
 obtain⟨v,a,b⟩:=T.el i k e
 exact⟨v,a,b.kp hs⟩,T.nd,T.led,T.msk⟩
structure SetT0 (w:aM) (h0 h:Heap) (a:Addr) (ks:List ac):Prop where
 ex: ∃o es ep t kt,h.get? a=some o/\o.ExactSet/\o.data=.set es ep t/\Tb w h0 es t kt/\kt.Perm ks
theorem amg{h:Heap}: ∀(kt:List ac) (el:List (Int×ae)),kt.length=el.length -> (∀(i:Nat) (k:ac),kt[i]?=some k -> ∃v,el[i]?=some (jo w k,v)/\TupV h k v) ->
  ∃zs:List (ac×ae),el=zs.map (fun p=> (jo w p.1,p.2))/\zs.map (fun p=> p.1)=kt/\ ∀p∈zs,TupV h p.1 p.2
 |[],[],_,_=> ⟨[],rfl,rfl,fun _ m=> by cases m⟩
 |[],_::_,e,_=> by cases e
 |_::_,[],e,_=> by cases e
 | k::kt,x::el,e,H=> by
  obtain⟨zs,e1,e2,e3⟩:=amg kt el (by simpa using e) (fun i k' q=> by
   obtain⟨v,a,b⟩:=H (i+1) k' (by simpa using q)
   exact⟨v,by simpa using a,b⟩)
  obtain⟨v,a,b⟩:=H 0 k rfl
  have:x=(jo w k,v):=by simpa using a
  subst this
  exact⟨(k,v)::zs,by rw [aN,e1],by rw [aN,e2],fun p m=> by
   rcases aE.mp m with rfl|m
   ·exact b
   ·exact e3 p m⟩
theorem Tb1.relay{es:Array (Int×ae)}(T:Tb1 w h es t kt){led:Bool}(hld:led=t.led){mask finger moves:Nat}{plain:Bool}(hc:ST.cyc mask=true)(hl:es.size <=mask)(hm:(mask=31/\es.size <=18)\/(mask=127/\es.size <=76)\/(mask=511/\es.size <=306)):
  ∃t' od,mJ mask finger moves led plain (es.map (·.1))=some (t',od)/\(od.filterMap (es[·]?)).size=es.size/\ ∃kt',Tb w h (od.filterMap (es[·]?)) t' kt'/\kt'.Perm kt:=by
 obtain⟨t',od,e,m1,ld1,_,_,_,o1,r1,pm,sz⟩:=ST.laid_ok es (mask:=mask) (finger:=finger) (moves:=moves) (led:=led) (plain:=plain) hc hl
 obtain⟨zs,z1,z2,z3⟩:=amg (w:=w) (h:=h) kt es.toList (by rw [T.len,au]) (fun i k q=> by
  obtain⟨v,a,b⟩:=T.el i k q
  exact⟨v,by rw [bj];exact a,b⟩)
 have hs:(od.filterMap (es[·]?)).size=es.size:=by
  have:=pm.length_eq
  rwa [au,au]at this
 rw [z1]at pm
 obtain⟨qs,qp,qe⟩:=atc pm
 refine⟨t',od,e,hs,qs.map (fun p=> p.1),⟨o1,r1,?_,?_,?_,ld1.trans (hld.trans T.led),?_⟩,by rw [←z2];exact qp.map _⟩
 ·rw [am,hs,qp.length_eq,←au,z1,am]
 ·intro i k q
  rw [aR]at q
  cases c:qs[i]? with
  |none=> rw [c]at q;cases q
  |some p=>
   rw [c]at q
   have:p.1=k:=by simpa using q
   subst this
   refine⟨p.2,?_,z3 p (qp.mem_iff.mp (bp c))⟩
   rw [←bj,←qe,aR,c]
   rfl
 ·have:(qs.map fun p=> p.1).Perm kt:=by rw [←z2];exact qp.map _
  exact this.nodup_iff.mpr T.nd
 ·rw [m1,hs]
  rcases hm with ⟨a,b⟩|⟨a,b⟩|⟨a,b⟩
  ·exact .inr (.inl ⟨a,b⟩)
  ·exact .inr (.inr (.inl ⟨a,b⟩))
  ·exact .inr (.inr (.inr ⟨a,b⟩))
theorem aoe{o:Obj}{es:Array (Int×ae)}(ho:h.get? a=some o)(hd:o.data=.set es ep t)(es':Array (Int×ae))(t':bq):(h.update a (gC es' t')).get? a=some {o with data:=.set es' (ep+1) t'}:=by
 rw [bt _ ho (by rw [putSet_of es' t' hd];rfl),putSet_of es' t' hd]
theorem a0q:c9 20=32:=by decide+kernel
theorem a06:c9 76=128:=by decide+kernel
theorem awj:c9 308=512:=by decide+kernel
theorem a1r:ST.cyc 511=true:=by decide+kernel
theorem av2{h0:Heap}{s:ag}{o:Obj}{es:Array (Int×ae)}{Q:Unit -> ag -> Prop}(ho:s.heap.get? a=some o)(hex:o.ExactSet)(hd:o.data=.set es ep t)(T:Tb1 w h0 es t kt){m:Nat}(hm:(m=5/\es.size=5)\/(m=19/\es.size=19)\/(m=77/\es.size=77))(h: ∀h',bi a s.heap h' -> (∃o' es' ep' t' kt',h'.get? a=some o'/\o'.ExactSet/\o'.data=.set es' ep' t'/\Tb w h0 es' t' kt'/\kt'.Perm kt) -> Q () {s with heap:=h'}):
  wpAny (model prog w) A (setRelay a (bW m)) Q E s:=by
 have hf:t.fits es.size=true:=by
  simp only [mM,aB,beq_iff_eq,decide_eq_true_eq]
  refine⟨T.rc.size,?_⟩
  unfold mP
  rw [T.ok.nd]
  have:=T.ok.room
  simpa using this
 have gr: ∃mask,c9 (bW m)=mask+1/\ST.cyc mask=true/\es.size <=mask/\((mask=31/\es.size <=18)\/(mask=127/\es.size <=76)\/(mask=511/\es.size <=306)):=by
  rcases hm with ⟨rfl,e⟩|⟨rfl,e⟩|⟨rfl,e⟩
  ·exact⟨31,by rw [show bW 5=20 from rfl,a0q],ST.cyc31,by lia,.inl ⟨rfl,by lia⟩⟩
  ·exact⟨127,by rw [show bW 19=76 from rfl,a06],ST.cyc127,by lia,.inr (.inl ⟨rfl,by lia⟩)⟩
  ·exact⟨511,by rw [show bW 77=308 from rfl,awj],a1r,by lia,.inr (.inr ⟨rfl,by lia⟩)⟩
 obtain⟨mask,g1,g2,g3,g4⟩:=gr
 obtain⟨t',od,e,hs,kt',T',pm⟩:=T.relay (led:=t.led) rfl (finger:=t.finger) (moves:=t.movedTo mask) (plain:=t.plain) g2 g3 g4
 unfold setRelay
 (refine aa (b8 ho hd hf ?_))
 dsimp only
 rw [g1,if_neg (by rw [b6];rcases g4 with ⟨a,_⟩|⟨a,_⟩|⟨a,_⟩ <;> lia)]
 have er:t.relaid (es.map (·.1)) (bW m)=some (t',od):=by
  unfold kZ
  rw [g1]
  exact e
 rw [er]
 refine aa ?_
 show wpAny _ _ (if ((od.filterMap (es[·]?)).size !=es.size)=true then _ else pure (od.filterMap (es[·]?),t')) _ _ s
 rw [if_neg (by rw [hs];simp)]
 refine af ?_
 dsimp only
 refine gP ho hd ?_ (by rw [hs,b6];rcases g4 with ⟨a,_⟩|⟨a,_⟩|⟨a,_⟩ <;> lia)
 have sb:=bg s.heap a (gC (od.filterMap (es[·]?)) t')
 exact h _ sb ⟨{o with data:=.set (od.filterMap (es[·]?)) (ep+1) t'},_,ep+1,t',kt',aoe ho hd _ _,hex,rfl,T',pm⟩
theorem a6i{h0:Heap}{s:ag}{ks:List ac}{k:ac}{v:ae}{Q:Bool -> ag -> Prop}(hu:A.units+10 < cLine)(kp:Kp h0 s.heap)(hS:SetT0 w h0 s.heap a ks)(hn:ks.length+1 <=306)(hk0:TupV h0 k v)(h: ∀h',bi a s.heap h' -> SetT0 w h0 h' a (if k∈ks then ks else k::ks) -> Q (decide (k∉ks)) {s with heap:=h'}):
  wpAny (model prog w) A (kH a v (jo w k)) Q E s:=by
 obtain⟨o,es,ep,t,kt,ho,hex,hd,T,pm⟩:=hS.ex
 have hsz:es.size=ks.length:=by rw [←T.len,pm.length_eq]
 have hk:=hk0.kp kp
 obtain⟨ok,_,b,bs,rfl,rd⟩:=id hk
 (unfold kH setAddHashedIn)
 refine bo (aa (b8 ho hd T.fits ?_))
 dsimp only
 rw [show byScan (.ref b) es=false from rfl]
 (simp only [aT,if_false])
 unfold setSearch
 refine aa (akg hu ho hd (T.kp kp) hk (fun hm=> ?_) (fun kk nm he F=> ?_) 100000 0 none rfl (by decide) (by decide) (fun k' h'=> by lia) (fun k' h'=> by lia))
 ·have hm':k∈ks:=pm.mem_iff.mp hm
  have:=h s.heap (jK a s.heap) (by rw [if_pos hm'];exact hS)
  rw [decide_eq_false (by simpa using hm')]at this
  exact af this
 ·have nm':k∉ks:=fun z=> nm (pm.mem_iff.mpr z)
  have h': ∀h',bi a s.heap h' -> SetT0 w h0 h' a (k::ks) -> Q true {s with heap:=h'}:=fun h1 a1 a2=> by
   have:=h h1 a1 (by rw [if_neg nm'];exact a2)
   rw [decide_eq_true nm']at this
   exact this
  refine aa (b8 ho hd T.fits ?_)
  dsimp only
  rw [ST.put_eq T.ok]
  dsimp only
  have key: ∀t2:bq,t2.mask=t.mask -> t2.dummies=t.dummies -> t2.led=t.led -> t2.place=cU t.place (bK t.place (ST.adv t kk (t.probeStart (jo w k))).j) (ST.adv t kk (t.probeStart (jo w k))).j ->
    wpAny (model prog w) A (do
     storeSet a (cU es (bK t.place (ST.adv t kk (t.probeStart (jo w k))).j) (jo w k,.ref b)) t2
     if (!false&&t2.tooFull)=true then do setRelay a (bW (es.size+1));pure true else pure true) Q E s:=by
   intro t2 m1 m2 m4 m3
   obtain⟨kt',T1,pm1⟩:=T.put (t':=t2) hk0 nm F he m1 m2 m4 m3
   have sz1:=T1.len
   rw [pm1.length_eq,az,T.len]at sz1
   generalize cU es (bK t.place (ST.adv t kk (t.probeStart (jo w k))).j) (jo w k,bn b)=es1 at*
   refine aa (gP ho hd ?_ (by rw [←sz1,b6];lia))
   have sb:=bg s.heap a (gC es1 t2)
   have got:=aoe ho hd es1 t2
   have fill:t2.fill=es.size+1:=by
    unfold mP
    rw [T1.ok.nd,T1.rc.size,←sz1];rfl
   split
   ·rename_i c
    have full:t2.mask*3 <=(es.size+1)*5:=by
     simp only [lQ,mQ,SetTable.tooFull,decide_eq_true_eq,fill]at c
     exact c
    rw [m1]at full
    have hm:(es.size+1=5/\es1.size=5)\/(es.size+1=19/\es1.size=19)\/(es.size+1=77/\es1.size=77):=by
     rcases T.msk with ⟨e,c⟩|⟨e,c⟩|⟨e,c⟩|⟨e,c⟩ <;> rw [e]at full <;> lia
    refine aa (av2 (s:={s with heap:=s.heap.update a (gC es1 t2)}) got hex rfl T1 hm fun h2 sb2 ⟨o',es',ep',t',kt2,g1,g2,g3,g4,g5⟩=> ?_)
    exact af (h' h2 (sb.trans sb2) ⟨o',es',ep',t',kt2,g1,g2,g3,g4,g5.trans (pm1.trans (pm.cons k))⟩)
   ·rename_i c
    have full: ¬t2.mask*3 <=(es.size+1)*5:=by
     intro z
     apply c
     simp only [lQ,mQ,SetTable.tooFull,decide_eq_true_eq,fill]
     exact z
    rw [m1]at full
    refine af (h' _ sb ⟨_,es1,ep+1,t2,kt',got,hex,rfl,⟨T1.ok,T1.rc,T1.len,T1.el,T1.nd,T1.led,?_⟩,pm1.trans (pm.cons k)⟩)
    rw [m1]
    rcases T.msk with ⟨e,c⟩|⟨e,c⟩|⟨e,c⟩|⟨e,c⟩ <;> rw [e]at full⊢ <;> lia
  split
  ·refine aa (amh k (kq.mp ok).1 rd fun bv=> ?_)
   cases bv
   ·exact key _ rfl rfl rfl rfl
   ·exact key _ rfl rfl rfl rfl
  ·refine aa (af ?_)
   exact key _ rfl rfl rfl rfl
end
end PF
namespace L2
open PySem PySem.Spec PyProof.Rows PF
noncomputable def aix(l:List ac)(x:ac):List ac:=if x∈l then l else x::l
def ud(xs:List ac):List ac:=xs.foldl aix []
theorem ayp(xs:List ac)(x:ac):ud (xs++ [x])=aix (ud xs) x:=by unfold ud;rw [List.foldl_append];rfl
theorem ab5(xs:List ac):(ud xs).Nodup/\(∀y,y∈ud xs ↔ y∈xs)/\(ud xs).length <=xs.length:=by
 have all: ∀(ys acc:List ac),acc.Nodup -> (ys.foldl aix acc).Nodup/\(∀y,y∈ys.foldl aix acc ↔ y∈acc\/y∈ys)/\(ys.foldl aix acc).length <=acc.length+ys.length:=by
  intro ys
  induction ys with
  |nil=> intro acc h;exact⟨h,by simp,ao _⟩
  | cons z r ih=>
   intro acc h
   have e:aix acc z=if z∈acc then acc else z::acc:=rfl
   by_cases m:z∈acc
   ·rw [if_pos m]at e
    obtain⟨h1,h2,h3⟩:=ih acc h
    rw [dX,e]
    refine⟨h1,fun y=> ?_,by rw [az];lia⟩
    rw [h2 y,aE]
    exact⟨fun c=> c.elim .inl (fun d=>.inr (.inr d)),fun c=> c.elim .inl (fun d=> d.elim (fun f=>.inl (f▸m)) .inr)⟩
   ·rw [if_neg m]at e
    obtain⟨h1,h2,h3⟩:=ih (z::acc) (cE.mpr ⟨m,h⟩)
    rw [dX,e]
    refine⟨h1,fun y=> ?_,by rw [az]at h3⊢;lia⟩
    rw [h2 y,aE,aE]
    exact⟨fun c=> c.elim (fun d=> d.elim (fun f=>.inr (.inl f)) .inl) (fun d=>.inr (.inr d)),fun c=> c.elim (fun d=>.inl (.inr d)) (fun d=> d.elim (fun f=>.inl (.inl f)) .inr)⟩
 have:=all xs [] dN
 simpa [ud] using this
end L2
namespace PF
open PySem PySem.Spec
open L2
variable[XW]
abbrev acf(P:ac -> ae -> Prop):PV:=⟨P⟩
def qg(P:ac -> ae -> Prop)(w:aM)(p:Addr)(xs:List ac):HO:=.ext fun h=> ∃h0,@SetT0 (acf P) w h0 h p (ud xs)
theorem amc{R:ac -> ae -> Prop}{h0:Heap}(hS: @SetT0 (acf R) w h0 h p (ud xs)):jx P w H h p (qg R w p xs):=by
 letI:PV:=acf R
 refine⟨⟨h0,hS⟩,?_,fun h1 h2 z k=> ?_⟩
 ·obtain⟨o,_,_,_,_,e,_⟩:=hS.ex
  exact⟨o,e⟩
 ·obtain⟨h3,z⟩:=z
  obtain⟨o,es,ep,t,kt,e,q⟩:=z.ex
  exact⟨h3,⟨o,es,ep,t,kt,k o e,q⟩⟩
def ad0(d:ac):Bool:=xt d&&(match d with|.tuple _=> true|_=> false)
theorem axw{d:ac}(h:ad0 d=true):xt d=true/\ ∃xs,d=.tuple xs:=by
 unfold ad0 at h
 rw [aB]at h
 refine⟨h.1,?_⟩
 cases d with
 |tuple xs=> exact⟨xs,rfl⟩
 |_=> cases h.2
theorem a03[PV]{v:ae}{d:ac}{bs:List Addr}(k:ad0 d=true)(r:ck h v d bs)(hp:PV.p d v):TupV h d v:=by
 obtain⟨ok,xs,rfl⟩:=axw k
 cases r with
 | @tuple a o items n _ _ h1 h2 h3 h4=> exact⟨ok,hp,a,_,rfl,.tuple h1 h2 h3 h4⟩
def prP(zs:List V)(ds:List ac):ac -> ae -> Prop:=fun k v=> ∃(i:Nat) (z:V),zs[i]?=some z/\ds[i]?=some k/\RelV z v
end PF
namespace PF
open PySem PySem.Spec
open L2
theorem ah7{α β:Type}{R:α -> β -> Prop}: ∀{l:List α},(∀a∈l,∃b,R a b) -> ∃qs:List (α×β),qs.map (·.1)=l/\ ∀q∈qs,R q.1 q.2
 |[],_=> ⟨[],rfl,fun q h=> by cases h⟩
 |a::l,h=> by
  obtain⟨b,hb⟩:=h a av
  obtain⟨qs,e,hq⟩:=ah7 fun x hx=> h x (aw _ hx)
  refine⟨(a,b)::qs,by rw [aN,e],fun q m=> ?_⟩
  rcases aE.mp m with z|z
  ·rw [z];exact hb
  ·exact hq q z
theorem ay4{α β:Type}{f:α -> β}{l:List α}{ys:List β}(h:ys.Perm (l.map f)): ∃qs:List α,qs.Perm l/\qs.map f=ys:=by
 generalize hz:l.map f=zs at h
 induction h generalizing l with
 |nil=>
  cases l with
  |nil=> exact⟨[],.refl _,rfl⟩
  |cons a b=> cases hz
 | cons x h ih=>
  cases l with
  |nil=> cases hz
  |cons a b=>
   cases hz
   obtain⟨qs,p,e⟩:=ih rfl
   exact⟨a::qs,p.cons a,by rw [aN,e]⟩
 | swap x y r=>
  match l,hz with
  |a::b::c,hz=>
   cases hz
   exact⟨b::a::c,.swap _ _ _,rfl⟩
 |trans h1 h2 ih1 ih2=>
  obtain⟨q2,p2,e2⟩:=ih2 hz
  obtain⟨q1,p1,e1⟩:=ih1 e2
  exact⟨q1,p1.trans p2,e1⟩
theorem alh{α:Type}{f:α -> V}{g:α -> ae}: ∀{l:List α},(∀a∈l,RelV (f a) (g a)) -> jj (l.map f) (l.map g)
 |[],_=>.nil
 |a::l,h=>.cons (h a av) (alh fun x hx=> h x (aw _ hx))
theorem aoo{as:As}{H:Hp}{α:Type}{f:α -> V}{g:α -> ac}: ∀{l:List α},(∀a∈l,TD as H (f a) (g a)) -> TDs as H (l.map f) (l.map g)
 |[],_=>.nil
 |a::l,h=>.cons (h a av) (aoo fun x hx=> h x (aw _ hx))
theorem TDs.get2{as:As}{H:Hp}: ∀{zs:List V} {ds:List ac} {i:Nat} {z:V} {d:ac},TDs as H zs ds -> zs[i]?=some z -> ds[i]?=some d -> TD as H z d
 |_,_,i,z,d,.nil,h,_=> by simp at h
 |_,_,0,z,d,.cons a _,h1,h2=> by
  cases h1;cases h2;exact a
 |_,_,i+1,z,d,.cons _ r,h1,h2=> TDs.get2 r (by simpa using h1) (by simpa using h2)
theorem an5(hc:X.calm=true)(hu:X.A.units+70 < cLine):xv X (.builtin "sorted") (fun vs H Q=> ∃a zs0 ds0 as,vs=[.ref a]/\H a=some (qg (prP zs0 ds0) X.w a ds0)/\TDs as H zs0 ds0/\(ud ds0).length < 64/\kh (ud ds0)=true/\(ud ds0).all okD=true/\ ∀zs p H',New H p (.lst zs) H' -> TDs as H zs (j5 (ud ds0)) -> Q (.ref p) H'):=by
 intro pins s σ H vs us Q I r h
 obtain⟨a,zs0,ds0,as,rfl,e,td,h64,hcm,hok,q⟩:=h
 obtain⟨u,rfl,ru⟩:=vals1 r
 cases ru
 have hh:=I.ok.hd hc
 letI:PV:=acf (prP zs0 ds0)
 obtain⟨⟨h0,hS⟩,_,_⟩:=(show jx X.prog X.w H s.heap a (qg (prP zs0 ds0) X.w a ds0) from I.hok a _ e)
 obtain⟨o,es,ep,t,kt,eo,ex,d,T,pm⟩:=hS.ex
 have hb:es.size <=306:=by rcases T.msk with ⟨_,c⟩|⟨_,c⟩|⟨_,c⟩|⟨_,c⟩ <;> lia
 have tx:al1 X.w es.size t:=⟨T.led,fun _=>.inr T.ok.ris⟩
 refine ah9 hu fun R k=> am2 (by exact hh) eo ex d T.fits (iR hb (by decide)) tx fun h' d' tk ord p kp=> ?_
 obtain⟨zs,ez,ekt,hz⟩:=amg (h:=h0) kt es.toList (by rw [T.len,au]) (fun i k hk=> by
  obtain⟨v,e1,e2⟩:=T.el i k hk
  exact⟨v,by rw [bj];exact e1,e2⟩)
 obtain⟨qs,eq,hq⟩:=ah7 (l:=zs) (R:=fun (p:ac×ae) (z:V)=> RelV z p.2/\TD as H z p.1) (fun p hp=> by
  obtain⟨i,z,z1,z2,z3⟩:=(hz p hp).pv
  exact⟨z,z3,td.get2 z1 z2⟩)
 have eu:es.toList.map (·.2)=qs.map fun q=> q.1.2:=by rw [ez,←eq,bx,bx];rfl
 rw [eu]at p
 obtain⟨rs,pr,er⟩:=ay4 p
 have hr: ∀q∈rs,RelV q.2 q.1.2/\TD as H q.2 q.1.1:=fun q m=> hq q (pr.mem_iff.mp m)
 have vz:jj (rs.map (·.2)) ord:=by rw [←er];exact alh fun q m=> (hr q m).1
 have tz:TDs as H (rs.map (·.2)) (rs.map fun q=> q.1.1):=aoo fun q m=> (hr q m).2
 have pk:(rs.map fun q=> q.1.1).Perm (ud ds0):=by
  refine (pr.map _).trans ?_
  rw [show (qs.map fun q=> q.1.1)=kt by rw [←ekt,←eq,bx];rfl]
  exact pm
 generalize hks:(rs.map fun q=> q.1.1)=ks at tz pk
 generalize hzs:rs.map (·.2)=zs1 at vz tz
 obtain⟨bs,ra⟩:=TDs.reads I tz vz
 have cks:kh ks=true:=by
  unfold kh at hcm⊢
  simp only [ay,aB]at hcm⊢
  exact fun x hx=> ⟨(hcm x (pk.mem_iff.mp hx)).1,fun y hy=> (hcm x (pk.mem_iff.mp hx)).2 y (pk.mem_iff.mp hy)⟩
 have oks:ks.all okD=true:=by
  rw [ay]at hok⊢
  exact fun x hx=> hok x (pk.mem_iff.mp hx)
 have es1:j5 ks=j5 (ud ds0):=ae6 hcm ((xn ks).trans pk) (ab9 cks)
 refine k h' d' tk ord bs ks (by rw [pk.length_eq];exact h64) cks oks (fK kp ra) kp fun h1 h2 d2 tk2 e' p' pm' es' k1 k1' g k2=> ?_
 have I1:Inv X pins σ H {s with heap:=h1,toks:=s.toks}:=I.un (Un.kept k1) (I.hok.kept k1)
 have lo:ord.length=ks.length:=by rw [←vz.length,tz.length]
 have hlt: ∀i∈p',i < ks.length:=fun i hi=> by have:=bD.mp (pm'.mem_iff.mp hi);lia
 have vp:=aey vz p' (fun i hi=> by rw [tz.length];exact hlt i hi)
 have hlen:p'.length=ks.length:=by rw [pm'.length_eq,cp,lo]
 have I2:Inv X pins σ (upd H h1.objs.size (.lst (p'.map fun i=> zs1.getD i .non))) {s with heap:=h2,toks:=tk2}:=I1.laid (t':=tk2) k2 (ao _) ⟨by rw [am,hlen,pk.length_eq,b6];lia,_,e',vp,by simpa [mU] using g⟩
 have tp:=tz.pick p' hlt
 rw [es',es1]at tp
 exact⟨.ref h1.objs.size,_,I2.drew d2,rfl,q _ _ _ ⟨I1.hok.fresh (ao _),rfl⟩ tp⟩
theorem prP.more{zs zs':List V}{ds':List ac}{k:ac}{v:ae}(h:prP zs ds k v)(hl:zs.length=ds.length):prP (zs++zs') (ds++ds') k v:=by
 obtain⟨i,z,a,b,c⟩:=h
 have h1:=(ap.mp a).1
 have h2:=(ap.mp b).1
 exact⟨i,z,by rw [aJ h1];exact a,by rw [aJ h2];exact b,c⟩
theorem prP.last{zs:List V}{z:V}{d:ac}{v:ae}(hl:zs.length=ds.length)(r:RelV z v):prP (zs++ [z]) (ds++ [d]) d v:=⟨zs.length,z,by simp,by rw [hl];simp,r⟩
theorem a36{P P':ac -> ae -> Prop}{h0:Heap}{es:Array (Int×ae)}(T: @Tb (acf P) w h0 es t kt)(f: ∀k v,P k v -> P' k v/\ ∃bs,ck h v k bs): @Tb (acf P') w h es t kt:=by
 cases T with
 | mk ok rc len el nd led msk=>
  refine @Tb.mk (acf P') _ _ _ _ _ ok rc len (fun i k hk=> ?_) nd led msk
  obtain⟨v,e1,e2⟩:=el i k hk
  cases e2 with
  |mk ok pv ex=>
   obtain⟨b,bs,rfl,_⟩:=ex
   obtain⟨p1,bs1,r1⟩:=f k _ pv
   exact⟨_,e1,@TupV.mk (acf P') _ _ _ ok p1 ⟨b,bs1,rfl,r1⟩⟩
theorem arl(hu:X.A.units+40 < cLine):xv X (.builtin "set.add") (fun vs H Q=> ∃a z zs ds d as,vs=[.ref a,z]/\H a=some (qg (prP zs ds) X.w a ds)/\TDs as H zs ds/\TD as H z d/\ad0 d=true/\ds.length+1 <=306/\
  Q .non (upd H a (qg (prP (zs++ [z]) (ds++ [d])) X.w a (ds++ [d])))):=by
 intro pins s σ H vs us Q I r h
 obtain⟨a,z,zs,ds,d,as,rfl,e,td,tz,hk,hl,q⟩:=h
 obtain⟨u0,u,rfl,ru0,ru⟩:=r.two
 cases ru0
 have lz:=td.length
 obtain⟨⟨h0,hS⟩,_,_⟩:=(show jx X.prog X.w H s.heap a (qg (prP zs ds) X.w a ds) from I.hok a _ e)
 have rd1: ∀{y:V} {k:ac} {v:ae},TD as H y k -> RelV y v -> ∃bs,ck s.heap v k bs:=fun ty rv=> TD.reads I ty rv
 cases hS with
 |mk hS=>
 obtain⟨o,es,ep,t,kt,eo,ex,hd,T,pm⟩:=hS
 have T2:=a36 (P':=prP (zs++ [z]) (ds++ [d])) (h:=s.heap) T fun k v hp=> by
  obtain⟨j,y,y1,y2,y3⟩:=id hp
  exact⟨prP.more hp lz,rd1 (td.get2 y1 y2) y3⟩
 letI:PV:=acf (prP (zs++ [z]) (ds++ [d]))
 have S2:SetT0 X.w s.heap s.heap a (ud ds):=⟨o,es,ep,t,kt,eo,ex,hd,T2,pm⟩
 obtain⟨bs,rr⟩:=rd1 tz ru
 have tv:TupV s.heap d u:=a03 hk rr (prP.last lz ru)
 obtain⟨ok,_,b0,bs0,hv0,rd0⟩:=id tv
 obtain⟨pd,cd,dd⟩:=kq.mp ok
 have hin:X.A.in1.units <=X.A.units+1:=by first|exact ao _|(unfold jO;simp)
 have few:=(ab5 ds).2.2
 refine bh PySem.F.slot_set_add ⟨o,eo,ex.1⟩ PySem.F.entry_set_add ?_ (PySem.F.args_set_add_2 _ _)
 (unfold cG.«set.add» Builtin.Frozenset.oneOther)
 (simp only [List.isEmpty_nil,bind_assoc])
 (unfold jZ setAdd)
 refine aa (af ?_)
 try dsimp only
 refine aa (af ?_)
 try dsimp only
 refine aa ?_
 refine bo ?_
 refine aa (aiw d pd rr (by lia) ?_)
 refine a6i (h0:=s.heap) (s:={s with toks:=s.toks+zw d}) (by lia) (fun b o e=> e) S2 (by lia) tv fun h' sb hS2=> ?_
 show wpAny _ _ (ret aV) _ _ _ --
 (refine af ⟨_,rfl,?_⟩)
 have S3:SetT0 X.w s.heap h' a (ud (ds++ [d])):=by
  rw [ayp]
  exact hS2
 have he: ∃q,h'.get? a=some q:=let ⟨q,_,_,_,_,hq,_⟩:=S3.ex;⟨q,hq⟩
 exact⟨.non,_,abt (s:=s) (t':=s.toks+zw d) I (by rw [e];exact cD) sb he (amc S3),rfl,q⟩
end PF
namespace L2
open PySem PySem.Spec PyProof.Rows
abbrev SC2(elt tg iter tg2 iter2:Expr)(ifs ifs2:List Expr)(sc:dS)(pos:Pos):Expr:=.SetComp elt [⟨tg,iter,ifs,0⟩,⟨tg2,iter2,ifs2,0⟩] sc pos
noncomputable def a4s(elt:Expr)(acc:ae)(env:Env):Sem Unit:=do
 let v←eval elt env
 standAt elt.pos
 let _←call (.builtin "set.add") [acc,v]
theorem as0{s:ag}(h: ∀led:Bool,led= !(w.params.followText "set-order") -> Q (.ref s.heap.objs.size) {s with heap:=s.heap.push {cls:=.type "set",dict:=none,data:=.set #[] 0 (.fresh 0 0 led)}}):wpAny (model prog w) A (newSet (.type "set")) Q E s:=by
 unfold newSet setsByText
 exact aa (aa (eS (af (bJ (h _ rfl)))))
theorem asp{P:ac -> ae -> Prop}{h0:Heap}{D:Addr}{led:Bool}(hled:led= !(w.params.followText "set-order"))(g:h.get? D=some {cls:=.type "set",dict:=none,data:=.set #[] 0 (.fresh 0 0 led)}): @PF.SetT0 (PF.acf P) w h0 h D (ud []):=by
 letI:PF.PV:=PF.acf P
 exact⟨_,#[],0,_,[],g,⟨rfl,rfl,rfl⟩,rfl,⟨⟨rfl,gK,(fun j hj=> by have hj':j∈([]:List Nat):=hj;cases hj'),bP _,ST.cyc7⟩,⟨rfl,(fun i j h x a b=> by simp [SetTable.fresh]at a)⟩,rfl,(fun i k e=> by simp at e),dN,hled,.inl ⟨rfl,bP _⟩⟩,hJ.refl _⟩
theorem ad6{R:gh -> ag -> Prop}{s:ag}{elt target iter ifs rest scope pos it acc env}(h0:codeAny (model prog w) A (.compLoop (.SetComp elt (⟨target,iter,ifs,0⟩::rest) scope pos) 0 it acc env) R s)(h:wpAny (model prog w) A (pyIter it) (fun it' s'=> codeAny (model prog w) A (.compLoop (.SetComp elt (⟨target,iter,ifs,0⟩::rest) scope pos) 0 it' acc env) R s')
   (notedBy (model prog w) A env fun x s'=> R (.error x) s') s): --
  codeAny (model prog w) A (.compStart (.SetComp elt (⟨target,iter,ifs,0⟩::rest) scope pos) 0 it acc env) R s:=by
 refine ie (show wpAny _ _ ((nC (.SetComp elt (⟨target,iter,ifs,0⟩::rest) scope pos) 0 it acc env).onRaise (fun x=> do g9 x env;standAt theWindowsPlace)) _ _ s from wpAny_notedAt ?_)
 unfold nC;refine (show wpAny _ _ (ask >>=_) _ _ s from aa (eS (wpAny_ite ?_)))
 split
 ·exact af ⟨rfl,h0⟩
 ·exact aa (cn (aa (c6 (aa (bw h (fun it' s' h'=> af ⟨rfl,h'⟩) fun _ _ x=> x)))))
theorem aru(elt gens scope pos):eval (.SetComp elt gens scope pos) env=comprehension (.SetComp elt gens scope pos) scope env (firstIterPos gens pos) (newSet (.type "set")) (firstAsync gens) (firstIter gens env):=rfl
theorem av7(elt tg iter tg2 iter2:Expr)(ifs ifs2:List Expr)(scope:dS)(pos:Pos)(it acc:ae)(env:Env):compTurn (.SetComp elt [⟨tg,iter,ifs,0⟩,⟨tg2,iter2,ifs2,0⟩] scope pos) 0 it acc env=(do
  standAt iter.pos
  match←pyNext it with
  |none=> pure (.done .next)
  | some v=>
   dU tg it v
   assign tg env v
   let ok←ah5 env ifs
   if ok=true then
    let x←eval iter2 env
    standAt iter2.pos
    let x←bN iter2 env x
    let _←runOwn (.compStart (.SetComp elt [⟨tg,iter,ifs,0⟩,⟨tg2,iter2,ifs2,0⟩] scope pos) 1 (←holding [x] (pyIter x)) acc env) env
   again (.compLoop (.SetComp elt [⟨tg,iter,ifs,0⟩,⟨tg2,iter2,ifs2,0⟩] scope pos) 0 it acc env)):=rfl
theorem ar1(elt tg iter tg2 iter2:Expr)(ifs ifs2:List Expr)(scope:dS)(pos:Pos)(it acc:ae)(env:Env):compTurn (.SetComp elt [⟨tg,iter,ifs,0⟩,⟨tg2,iter2,ifs2,0⟩] scope pos) 1 it acc env=(do
  standAt iter2.pos
  match←pyNext it with
  |none=> pure (.done .next)
  |some v=>
   dU tg2 it v
   assign tg2 env v
   let ok←ah5 env ifs2
   if ok=true then a4s elt acc env
   again (.compLoop (.SetComp elt [⟨tg,iter,ifs,0⟩,⟨tg2,iter2,ifs2,0⟩] scope pos) 1 it acc env)):=rfl
section
variable{P:aI}{w:aM}{A:aZ}{R:gh -> ag -> Prop}{s:ag}{elt tg iter tg2 iter2:Expr}{ifs ifs2:List Expr}{sc:dS}{pos:Pos}{it acc:ae}{env:Env}
def awt(P:aI)(w:aM)(A:aZ)(elt:Expr)(acc:ae)(env:Env)(again:ag -> Prop)(s:ag):Prop:=Wn P w A (eval elt env) (fun x e=> Wn P w A (call (.builtin "set.add") [acc,x]) (fun _ g=> again g) e) s
theorem a4k(J:Nat -> ag -> Prop)(hs: ∀x,bN iter2 env x=pure x)
  (turn: ∀n s,J n s -> LcT P w A it tg ifs env (aed P w A (SC2 elt tg iter tg2 iter2 ifs ifs2 sc pos) iter2 acc env) (R (.ok .next)) (fun z=> ∃m,m < n/\J m z) s) (n:Nat) (h:J n s):codeAny (model P w) A (.compLoop (SC2 elt tg iter tg2 iter2 ifs ifs2 sc pos) 0 it acc env) R s:=by
 refine nq rfl J (fun k z hz=> ?_) n h
 have one:=turn k z hz
 show wpAny _ A (nN (compTurn (SC2 elt tg iter tg2 iter2 ifs ifs2 sc pos) 0 it acc env) fun x=> do g9 x env;kW x) _ _ z
 refine nO ?_
 rw [av7]
 refine aa (c6 (aa (bw one (fun r a ha=> ?_) fun _ _ f=> f.elim)))
 cases r with
 |none=> exact af ha
 | some v=>
  refine aa (bw ha (fun _ b hb=> aa (bw hb (fun _ c hc=> aa (bw hc (fun ok d hd=> ?_) fun _ _ f=> f.elim)) fun _ _ f=> f.elim)) fun _ _ f=> f.elim)
  cases ok with
  |false=>
   have q: ∃m,m < k/\J m d:=hd
   exact af ⟨rfl,q⟩
  |true=>
   have q:aed P w A (SC2 elt tg iter tg2 iter2 ifs ifs2 sc pos) iter2 acc env (fun z=> ∃m,m < k/\J m z) d:=hd
   refine aa (bw q (fun x e he=> aa (c6 (aa ?_))) fun _ _ f=> f.elim)
   rw [hs x]
   refine af (aa (bo (bw he (fun it2 e2 he2=> aa (wpAny_runOwn (dm he2 fun r z hz=> ?_))) fun _ _ f=> f.elim)))
   cases r with
   |ok f=> exact af ⟨rfl,hz⟩
   |error e=> exact hz.elim
theorem a2z(J:Nat -> ag -> Prop)
  (turn: ∀n s,J n s -> LcT P w A it tg2 ifs2 env (awt P w A elt acc env) (R (.ok .next)) (fun z=> ∃m,m < n/\J m z) s) (n:Nat) (h:J n s):codeAny (model P w) A (.compLoop (SC2 elt tg iter tg2 iter2 ifs ifs2 sc pos) 1 it acc env) R s:=by
 refine nq rfl J (fun k z hz=> ?_) n h
 have one:=turn k z hz
 show wpAny _ A (nN (compTurn (SC2 elt tg iter tg2 iter2 ifs ifs2 sc pos) 1 it acc env) fun x=> do g9 x env;kW x) _ _ z
 refine nO ?_
 rw [ar1]
 refine aa (c6 (aa (bw one (fun r a ha=> ?_) fun _ _ f=> f.elim)))
 cases r with
 |none=> exact af ha
 | some v=>
  refine aa (bw ha (fun _ b hb=> aa (bw hb (fun _ c hc=> aa (bw hc (fun ok d hd=> ?_) fun _ _ f=> f.elim)) fun _ _ f=> f.elim)) fun _ _ f=> f.elim)
  cases ok with
  |false=>
   have q: ∃m,m < k/\J m d:=hd
   exact af ⟨rfl,q⟩
  |true=>
   have q:awt P w A elt acc env (fun z=> ∃m,m < k/\J m z) d:=hd
   exact aa (aa (bw q (fun x e he=> aa (c6 (aa (bw he (fun _ g hg=> af (af ⟨rfl,hg⟩)) fun _ _ f=> f.elim)))) fun _ _ f=> f.elim))
theorem ayv(h0:codeAny (model P w) A (.compLoop (SC2 elt tg iter tg2 iter2 ifs ifs2 sc pos) 1 it acc env) R s)
  (h:wpAny (model P w) A (pyIter it) (fun it' s'=> codeAny (model P w) A (.compLoop (SC2 elt tg iter tg2 iter2 ifs ifs2 sc pos) 1 it' acc env) R s') (fun _ _=> False) s):codeAny (model P w) A (.compStart (SC2 elt tg iter tg2 iter2 ifs ifs2 sc pos) 1 it acc env) R s:=by
 refine ie ?_
 show wpAny _ _ ((nC (SC2 elt tg iter tg2 iter2 ifs ifs2 sc pos) 1 it acc env).onRaise (fun x=> do g9 x env;standAt theWindowsPlace)) _ _ s
 refine wpAny_notedAt ?_
 unfold nC
 show wpAny _ _ (ask >>=_) _ _ s --
 (refine aa (eS (wpAny_ite ?_)))
 split
 ·exact af ⟨rfl,h0⟩
 ·exact aa (cn (aa (c6 (aa (bw h (fun it' s' h'=> af ⟨rfl,h'⟩) fun _ _ x=> x.elim)))))
end
def aqe(w:aM)(g:TG)(tt:TT)(tb:TBd)(k:Nat)(cap:St)(J:It)(H1:Hp)(Q:VK):Prop:=
 ∀ D,H1 D=none -> ∃W:Nat -> Nat -> Hp -> Prop,(∃m,W 0 m (upd H1 D (PF.qg (PF.prP [] []) w D [])))/\ ∀i m H,W i m H ->
  (J.stop i H/\Q (.ref D) H)\/(J.go i H/\ ∀x H',J.yld i H x H' -> ∀vs:St,vs.length=k -> g x (vs++cap) H' fun σ2 H2=> (∃vs':St,vs'.length=k/\σ2=vs'++cap)/\tt σ2 H2 fun b H3=>
   if b=true then tb D σ2 H3 fun σ4 H4=> (∃vs':St,vs'.length=k/\σ4=vs'++cap)/\ ∃m',m' < m/\W (i+1) m' H4 else∃m',m' < m/\W (i+1) m' H3)
def a3t(w:aM)(js:List Nat)(k:Nat)(wi:TI)(g:TG)(tt:TT)(tb:TBd):TE:=fun σ H Q=> wi σ H fun J H1=> aqe w g tt tb k (xc σ js) J H1 Q
def apo(w:aM)(wi:TI)(g:TG)(tt:TT)(te:TE):TBd:=fun D σ H Q=> wi σ H fun J H1=> ∃W:Nat -> Nat -> St -> Hp -> Prop,(∃m,W 0 m σ H1)/\ ∀i m σ H,W i m σ H ->
  (J.stop i H/\Q σ H)\/(J.go i H/\ ∀x H',J.yld i H x H' -> g x σ H' fun σ2 H2=> tt σ2 H2 fun b H3=>
   if b=true then te σ2 H3 fun v H4=> ∃zs ds d as,H4 D=some (PF.qg (PF.prP zs ds) w D ds)/\PF.TDs as H4 zs ds/\PF.TD as H4 v d/\PF.ad0 d=true/\ds.length+1 <=306/\ ∃m',m' < m/\W (i+1) m' σ2 (upd H4 D (PF.qg (PF.prP (zs++ [v]) (ds++ [d])) w D (ds++ [d]))) else∃m',m' < m/\W (i+1) m' σ2 H3)
section
variable{X:Cx}{own caps:List Str}{js:List Nat}{scope:dS}{tg iter tg2 iter2 elt:Expr}{ifs ifs2:List Expr}{wi:TI}{g:TG}{tt:TT}{te:TE}{tb:TBd}{pos:Pos}
theorem a5y(hu:X.A.units+40 < cLine)(hcalm:X.calm=true)(hx:X.xe=fun _ _=> False)(hi:PI X tg2 iter2 wi)(hg:PG X tg2 g)(ht:adt X ifs2 tt)(he:PE X elt te):PNx X (SC2 elt tg iter tg2 iter2 ifs ifs2 scope pos) iter2 (apo X.w wi g tt te):=by
 intro D pins s σ H Q I h
 have h0:=hi pins s σ H _ I h
 rw [hx]at h0
 refine thn h0 fun v s1 h1=> thn h1 fun itv s2 h2=> ?_
 obtain⟨it,fp,tn,J,H2,e,I2,T,st2,f2,W,⟨m0,w0⟩,turn⟩:=h2
 subst e
 have stat: ∀{H':Hp},(∀b∈fp,H' b=none) -> ∀b∈fp,zo X pins H' b:=fun hn b hb=> ⟨hn b hb,(f2 b hb).2⟩
 have loop:codeAny (model X.prog X.w) X.A (.compLoop (SC2 elt tg iter tg2 iter2 ifs ifs2 scope pos) 1 (.ref it) (.ref D) X.env) (fun r z=> match r with|.ok _=> ∃σ' H',Inv X pins σ' H' z/\Q σ' H'|.error _=> False) s2:=by
  refine a2z (fun n s'=> ∃i σ' H',Inv X pins σ' H' s'/\tn i s'.heap/\(∀b∈fp,H' b=none)/\W i n σ' H') ?_ m0 ⟨0,σ,H2,I2,st2,fun b hb=> (f2 b hb).1,w0⟩
  rintro n s3 ⟨i,σ3,H3,I3,st3,fr3,w3⟩
  rcases turn i n σ3 H3 w3 with ⟨stop,qn⟩|⟨go,step⟩
  ·refine thn (T.done X rfl rfl rfl hcalm i pins s3 σ3 H3 (fun _ _=> False) I3 (stat fr3) st3 stop) fun r s4 ⟨hr,I4⟩=> ?_
   subst hr
   exact⟨σ3,H3,I4,qn⟩
  ·refine thn (T.item X rfl rfl rfl hcalm i pins s3 σ3 H3 (fun _ _=> False) I3 (stat fr3) st3 go) fun r s4 ⟨u,hr,h4⟩=> ?_
   subst hr
   refine thn h4 fun _ s5 ⟨x,H5,I5,r5,y5,st5,fr5⟩=> ?_
   have I5':=I5.pinned (stat fr5) (T.obj _ _ st5)
   have hg5:=hg _ s5 σ3 H5 x u _ I5' r5 (step x H5 y5)
   rw [hx]at hg5
   refine thn hg5 fun _ s6 ⟨σ6,H6,I6,q6⟩=> ?_
   have ht6:=ht _ s6 σ6 H6 _ I6 q6
   rw [hx]at ht6
   refine thn ht6 fun b s7 ⟨H7,I7,q7⟩=> ?_
   have again: ∀{H8:Hp} {s8:ag},Inv X (pins++abz fp s5.heap) σ6 H8 s8 -> (∃m',m' < n/\W (i+1) m' σ6 H8) -> ∃m,m < n/\ ∃i σ' H',Inv X pins σ' H' s8/\tn i s8.heap/\(∀b∈fp,H' b=none)/\W i m σ' H':=fun {H8 s8} I8 w8=> by
    obtain⟨m',hm,w8⟩:=w8
    refine⟨m',hm,i+1,σ6,H8,I8.unpinned,T.keep _ _ _ st5 fun b hb o e=> (I8.pin (b,o) (a7 _ (a7 _ (xm hb e)))).1,fun b hb=> ?_,w8⟩
    obtain⟨o,e,d⟩:=T.obj _ _ st5 b hb
    exact (I8.pin (b,o) (a7 _ (a7 _ (xm hb e)))).2.1
   cases b with
   |false=> exact again I7 q7
   |true=>
    have he7:=he _ s7 _ H7 _ I7 q7
    rw [hx]at he7
    refine thn he7 fun y s8 ⟨v,H8,I8,r8,zs,ds,d,as,hD8,htd,htv,hkd,hld,q8⟩=> ?_
    have ha:=PF.arl (X:=X) hu _ s8 _ H8 [.ref D,v] [.ref D,y] (fun z H9=> H9=upd H8 D (PF.qg (PF.prP (zs++ [v]) (ds++ [d])) X.w D (ds++ [d]))) I8 (.cons rfl (.cons r8 .nil)) ⟨D,v,zs,ds,d,as,rfl,hD8,htd,htv,hkd,hld,rfl⟩
    rw [hx]at ha
    refine thn ha fun _ s9 ⟨z,H9,I9,_,e9⟩=> ?_
    subst e9
    exact again I9 q8
 exact ayv loop (T.self _ 0 _ _ _ st2 loop)
theorem ayh{H2:Hp}{s2:ag}{it:Addr}{fp:List Addr}{tn:Nat -> Heap -> Prop}{J:It}{Q:VK}{post:ae -> Addr -> gh -> ag -> Prop}(hcalm:X.calm=true)(hkind:scope.kind=.function)(hcell:(scope.names.any fun p=> p.2==.cell)=false)(hk:(scope.names.all fun p=> !(p.2==.free)||(X.env.kindOf p.1==some .cell||X.env.kindOf p.1==some .free))=true)(hcap:y9 X scope caps js)(hg: ∀C fp s H,PG (ju X own caps scope C fp s H) tg g)(hi: ∀C fp s H,adt (ju X own caps scope C fp s H) ifs tt)(hb: ∀C fp s H,PNx (ju X own caps scope C fp s H) (SC2 elt tg iter tg2 iter2 ifs ifs2 scope pos) iter2 tb)(hs2: ∀C fp s H x,bN iter2 (ju X own caps scope C fp s H).env x=pure x)(I2:Inv X pins σ H2 s2)(T:Turn X.prog X.w X.K tg J fp it tn)(st2:tn 0 s2.heap)(f2: ∀b∈fp,zo X pins H2 b)(hw:aqe X.w g tt tb own.length (xc σ js) J H2 Q)(hpost: ∀D C s' m H',s'.heap.Ns C m -> s2.heap.objs.size <=C -> zo X pins H' C -> Inv X pins σ H' s' -> Q (.ref D) H' -> post (.ref D) C (.ok .next) s'):
  wpAny (model X.prog X.w) X.A (newSet (.type "set")) (fun acc s₃=> wpAny (model X.prog X.w) X.A (newFunctionEnv scope X.env.globals (vi X.env scope.names []) [] X.env.qual none .none (some X.env)) (fun cenv s₄=>
   codeAny (model X.prog X.w) X.A (.compStart (SC2 elt tg iter tg2 iter2 ifs ifs2 scope pos) 0 (.ref it) acc {cenv with scope:=relabel scope X.env}) (post acc cenv.locals) s₄) E s₃) E s2:=by
 have hcell': ∀y∈scope.names,y.2≠ .cell:=fun y hy e=> by
  have:=(jF.mp hcell) y hy
  simp [e]at this
 have hfr: ∀n,(n,bF)∈scope.names -> X.env.kindOf n=some .cell\/X.env.kindOf n=some .free:=fun n hn=> by
  have:=(ay.mp hk) _ hn
  simpa using this
 refine as0 fun led hled=> (l8 hcell' (by intro y hy;simp at hy) (fun h₁ hns₁ hsb₁=> ?_) hkind)
 dsimp only at hns₁ hsb₁⊢
 generalize hHp:s2.heap.push {cls:=.type "set",dict:=none,data:=.set #[] 0 (.fresh 0 0 led)}=G2 at hns₁ hsb₁⊢
 have hC:G2.objs.size=s2.heap.objs.size+1:=by rw [←hHp,bA]
 obtain⟨D,hDe⟩: ∃D:Nat,s2.heap.objs.size=D:=⟨_,rfl⟩
 obtain⟨C,hCe⟩: ∃C:Nat,G2.objs.size=C:=⟨_,rfl⟩
 rw [hCe]at hns₁ hsb₁
 rw [hDe,hCe]at hC
 show codeAny _ _ (.compStart _ 0 (.ref it) (.ref s2.heap.objs.size) (compEnvC scope (vi X.env scope.names []) G2.objs.size X.env)) (post (.ref s2.heap.objs.size) G2.objs.size) _
 rw [hDe,hCe]
 have hDC:D≠C:=by lia
 have hDCl:D < C:=by lia
 have old: ∀b o,s2.heap.get? b=some o -> h₁.get? b=some o:=fun b o e=> by
  have hlt:b < D:=hDe▸aD e
  exact hsb₁.extBut b o (aH (fB hlt hDCl)) (ak _ (hHp▸ak _ e))
 have hD2:H2 D=none:=I2.hok.fresh (dj hDe)
 have hC2:H2 C=none:=I2.hok.fresh (by rw [hDe];lia)
 have accD:h₁.get? D=some {cls:=.type "set",dict:=none,data:=.set #[] 0 (.fresh 0 0 led)}:=hsb₁.extBut _ _ hDC (ak _ (hHp▸hDe▸aA _ rfl))
 obtain⟨W,⟨m0,w0⟩,turn⟩:=hw D hD2
 -- the block's own state
 have fpn: ∀b∈fp,H2 b=none:=fun b hb=> (f2 b hb).1
 have fplt: ∀b∈fp,b < D:=fun b hb=> by obtain⟨o,e,_⟩:=T.obj _ _ st2 b hb;exact hDe▸aD e
 have clsub: ∀n c,(n,c)∈vi X.env scope.names [] -> X.env.cells.lookup n=some c:=agn (by intro _ _ z;cases z)
 have cllook: ∀n c,(vi X.env scope.names []).lookup n=some c -> X.env.cells.lookup n=some c:=fun n c e=> clsub n c (cW e)
 have clhas: ∀n,(n,bF)∈scope.names -> ∃c,(vi X.env scope.names []).lookup n=some c/\X.env.cells.lookup n=some c:=fun n hn=> by
  obtain⟨c,e⟩:=I2.ok.has n (hfr n hn)
  have m:=agq (cs:=[]) hn e
  cases q:(vi X.env scope.names []).lookup n with
  |none=>
   have:=kK.mp q _ m
   simp at this
  |some c'=> exact⟨c',rfl,cllook n c' q⟩
 have clt: ∀x c,(vi X.env scope.names []).lookup x=some c -> c < D:=fun x c e=> by
  obtain⟨v,z⟩:=I2.cell x c (cllook x c e)
  exact hDe▸z.lt
 have ok':(ju X own caps scope C fp s2 H2).Ok:=by
  refine⟨I2.ok.mod,hkind,I2.ok.glob,I2.ok.blt,?_,fun x y c e1 e2=> I2.ok.inj x y c (cllook x c e1) (cllook y c e2),fun x hx=> ?_,fun x c z=> (by cases z),I2.ok.hd,I2.ok.frames,.inl rfl,fun b hb=> ⟨?_,fun x c e=> ?_⟩,I2.bs,bb I2.ok.bsz I2.sz,fun b o e hb=> ?_,fun b hb hs=> ?_,I2.stack,I2.stkFree⟩
  ·show s2.heap.objs.size <=C
   rw [hDe];lia
  ·have hx':(relabel scope X.env).names.lookup x=some .cell\/(relabel scope X.env).names.lookup x=some .free:=hx
   obtain⟨c,e,_⟩:=clhas x (zi hcell' hx')
   exact⟨c,e⟩
  ·exact aH (fB (fplt b hb) hDCl)
  ·exact (f2 b hb).2.2.2.2.1 x c (cllook x c e)
  ·rcases (f2 b hb).2.2.2.1 with z|z
   ·exact I2.ok.noex b o e z
   ·exact absurd (aQ (aD (I2.ok.bs b o e).1) z) (cN _)
  ·rcases aE.mp (I2.stkSub b hs) with z|z
   ·exact (f2 b hb).2.1 z
   ·exact (f2 b hb).2.2.1 z
 have I4:Inv (ju X own caps scope C fp s2 H2) [] (bB own.length none++xc σ js) (upd H2 D (PF.qg (PF.prP [] []) X.w D [])) {s2 with heap:=h₁,toks:=s2.toks+([]:List (Str×ae)).length}:=by
  refine⟨ok',rfl,I2.bare,Un.laid old (dj hDe) hD2,⟨_,hns₁,fun i x v e1 e2 e3=> ?_⟩,fun x c e=> ?_,?_,fun x c e=> ?_,fun p hp=> absurd (show p∈([]:List (Addr×Obj)) from hp) (by simp),?_,?_⟩
  ·have e1:(own++caps)[i]?=some x:=e1
   by_cases hio:i < own.length
   ·rw [aJ (by simpa using hio),dJ]at e2
    split at e2 <;> cases e2
   ·have hle:own.length <=i:=bC hio
    rw [aW hle]at e1
    rw [aW (by simpa using hle)]at e2
    obtain⟨j,c,e⟩:=y9.at (σ:=σ) hcap e1 (by simpa using e2)
    obtain⟨c1,c2,c3,c4⟩:=c
    obtain⟨m,hn,hl⟩:=I2.loc
    obtain⟨u,r,lk⟩:=hl j x v c1 e c2
    refine⟨u,r,.inr ⟨?_,?_⟩⟩
    ·have c4':(relabel scope X.env).names.lookup x=some .cell\/(relabel scope X.env).names.lookup x=some .free:=by simpa using c4
     exact c4'
    ·have c4':(relabel scope X.env).names.lookup x=some .cell\/(relabel scope X.env).names.lookup x=some .free:=by simpa using c4
     obtain⟨c',q1,q2⟩:=clhas x (zi hcell' c4')
     rcases lk with ⟨k1,_⟩|⟨_,c'',k2,k3⟩
     ·rw [k1]at c3;simp at c3
     ·rw [q2]at k2;cases k2
      obtain⟨oc,hoc,hod⟩:=k3
      exact⟨c',q1,oc,old _ _ hoc,hod⟩
  ·obtain⟨v,oc,hoc,hod⟩:=I2.cell x c (cllook x c e)
   exact⟨v,oc,old _ _ hoc,hod⟩
  ·show upd H2 D (PF.qg (PF.prP [] []) X.w D []) C=none
   rw [j7 (bY hDC)];exact hC2
  ·rw [j7 (aH (clt x c e))];exact I2.freeC x c (cllook x c e)
  ·exact I2.hok.laid old (dj hDe) (PF.amc (h0:=s2.heap) (asp (P:=PF.prP [] []) hled accD))
  ·show (bB own.length none++xc σ js).length=(own++caps).length
   rw [aG,aG,g8,hcap.len]
 have stat: ∀{H':Hp},(∀b∈fp,H' b=none) -> ∀b∈fp,zo (ju X own caps scope C fp s2 H2) [] H' b:=fun hn b hb=>
  ⟨hn b hb,(ok'.exf b hb).1,ok'.exfs b hb,.inl hb,(ok'.exf b hb).2,fun p hp=> absurd (show p∈([]:List (Addr×Obj)) from hp) (by simp)⟩
 have loop: ∀s₃:ag,s₃={s2 with heap:=h₁,toks:=s2.toks+([]:List (Str×ae)).length} ->
   codeAny (model X.prog X.w) X.A (.compLoop (SC2 elt tg iter tg2 iter2 ifs ifs2 scope pos) 0 (.ref it) (.ref D) (compEnvC scope (vi X.env scope.names []) C X.env)) (post (.ref D) C) s₃:=by
  rintro s₃ rfl
  refine a4k (fun n s'=> ∃i vs H',vs.length=own.length/\Inv (ju X own caps scope C fp s2 H2) [] (vs++xc σ js) H' s'/\tn i s'.heap/\(∀b∈fp,H' b=none)/\W i n H') (hs2 C fp s2 H2) ?_ m0
   ⟨0,bB own.length none,upd H2 D (PF.qg (PF.prP [] []) X.w D []),by simp,I4,T.keep _ _ _ st2 fun b _ o e=> old b o e,fun b hb=> by rw [j7 (aH (fplt b hb))];exact fpn b hb,w0⟩
  rintro n s3 ⟨i,vs,H3,hvs,I3,st3,fr3,w3⟩
  rcases turn i n H3 w3 with ⟨stop,qn⟩|⟨go,step⟩
  ·refine thn (T.done (ju X own caps scope C fp s2 H2) rfl rfl rfl hcalm i [] s3 _ H3 (fun _ _=> False) I3 (stat fr3) st3 stop) fun r s5 ⟨hr,I5⟩=> ?_
   subst hr
   obtain⟨m5,hn5,_⟩:=id I5.loc
   refine hpost D C s5 m5 H3 hn5 (by rw [hDe];lia) (I2.fpOk (by rw [hDe];lia) I5.free) ?_ qn
   exact I2.call' (ch:=fp) I5.os I5.base I5.hok I5.bare fun b hb=> ⟨(f2 b hb).2.2.2.1,(f2 b hb).2.1,(f2 b hb).2.2.2.2⟩
  ·refine thn (T.item (ju X own caps scope C fp s2 H2) rfl rfl rfl hcalm i [] s3 _ H3 (fun _ _=> False) I3 (stat fr3) st3 go) fun r s4 ⟨u,hr,h4⟩=> ?_
   subst hr
   refine thn h4 fun _ s5 ⟨x,H5,I5,r5,y5,st5,fr5⟩=> ?_
   have I5':=I5.pinned (stat fr5) (T.obj _ _ st5);refine thn (hg C fp s2 H2 _ s5 _ H5 x u _ I5' r5 (step x H5 y5 vs hvs)) fun _ s6 ⟨σ6,H6,I6,⟨vs6,hvs6,e6⟩,q6⟩=> ?_
   subst e6
   refine thn (hi C fp s2 H2 _ s6 _ H6 _ I6 q6) fun b s7 ⟨H7,I7,q7⟩=> ?_
   have again: ∀{H8:Hp} {s8:ag} {vs8:St},vs8.length=own.length -> Inv (ju X own caps scope C fp s2 H2) ([]++abz fp s5.heap) (vs8++xc σ js) H8 s8 -> (∃m',m' < n/\W (i+1) m' H8) ->
     ∃m,m < n/\ ∃i vs H',vs.length=own.length/\Inv (ju X own caps scope C fp s2 H2) [] (vs++xc σ js) H' s8/\tn i s8.heap/\(∀b∈fp,H' b=none)/\W i m H':=fun {H8 s8 vs8} hv8 I8 w8=> by
    obtain⟨m',hm,w8⟩:=w8
    refine⟨m',hm,i+1,vs8,H8,hv8,I8.unpinned,T.keep _ _ _ st5 fun b hb o e=> (I8.pin (b,o) (a7 _ (a7 _ (xm hb e)))).1,fun b hb=> ?_,w8⟩
    obtain⟨o,e,d⟩:=T.obj _ _ st5 b hb
    exact (I8.pin (b,o) (a7 _ (a7 _ (xm hb e)))).2.1
   cases b with
   |false=> exact again hvs6 I7 q7
   |true=>
    refine aed.mono (hb C fp s2 H2 D _ s7 _ H7 _ I7 q7) fun z hz=> ?_
    obtain⟨σ8,H8,I8,⟨vs8,hv8,e8⟩,w8⟩:=hz
    subst e8
    exact again hv8 I8 w8
 refine ad6 (loop _ rfl) (T.self _ 0 _ _ _ (T.keep _ _ _ st2 fun b _ o e=> old b o e) (loop _ rfl))
theorem a1m(hcalm:X.calm=true)(hkind:scope.kind=.function)(hnames:(scope.names.all fun p=> !(p.2==.local)||(scope.names.lookup p.1==some .local))=true)(hcell:(scope.names.any fun p=> p.2==.cell)=false)
  (hk:(scope.names.all fun p=> !(p.2==.free)||(X.env.kindOf p.1==some .cell||X.env.kindOf p.1==some .free))=true)
  (hcap:y9 X scope caps js) (hi:PI X tg iter wi) (hg: ∀C fp s H,PG (ju X own caps scope C fp s H) tg g) (ht: ∀C fp s H,adt (ju X own caps scope C fp s H) ifs tt) (hb: ∀C fp s H,PNx (ju X own caps scope C fp s H) (SC2 elt tg iter tg2 iter2 ifs ifs2 scope pos) iter2 tb) (hs2: ∀C fp s H x,bN iter2 (ju X own caps scope C fp s H).env x=pure x)
  (hs: ∀x,bN iter X.env x=pure x:=by intro _;rfl):PE X (SC2 elt tg iter tg2 iter2 ifs ifs2 scope pos) (a3t X.w js own.length wi g tt tb):=by
 refine⟨?_⟩
 intro pins s σ H Q I h
 have hfr: ∀n,(n,bF)∈scope.names -> X.env.kindOf n=some .cell\/X.env.kindOf n=some .free:=fun n hn=> by
  have:=(ay.mp hk) _ hn
  simpa using this
 have hn': ∀x∈scope.names,x.2=.local -> scope.names.lookup x.1=some .local:=fun x hx e=> by
  have:=(ay.mp hnames) _ hx
  simpa [e] using this
 rw [aru]
 refine gm (use:=none) rfl hs (abh fun n hn=> I.ok.has n (hfr n hn)) hkind hn' (thn (hi pins s σ H _ I h) fun v s1 h1=> thn h1 fun itv s2 h2=> ?_)
 obtain⟨it,fp,tn,J,H2,e,I2,T,st2,f2,hw⟩:=h2
 subst e
 refine ayh (iter:=iter) (pos:=pos) (post:=fun acc C=> compPost (model X.prog X.w) X.A X.xe none (EP X pins σ Q) acc C) hcalm hkind hcell hk hcap hg ht hb hs2 I2 T st2 f2 hw ?_
 intro D C s' m H' hn _ f hI hq
 exact⟨m,hn,fun h' hs'=> ⟨.ref D,H',hI.turned (t':=s'.toks) (fun b o hb e=> (hs'.2 b hb).trans e) f.1 f.2.1 f.2.2.2.1 f.2.2.2.2.1 f.2.2.2.2.2,rfl,hq⟩⟩
end
end L2
namespace PF
open PySem PySem.Spec
open L2
variable[XW]
def yk(m:Bool)(ds:List D)(s:S):R D:=match j8 ds with
 |some ps=> if (ps.all ad0=true/\ps.length+1 <=306)/\(ud ps).length < 64/\kh (ud ps)=true/\(ud ps).all okD=true then kj m ((j5 (ud ps)).map D.da) s else .bad
 |none=>.bad
def SQ(w:aM)(Q:VK):VK:=fun v H=> ∃a zs0 ds0 as,[v]=[.ref a]/\H a=some (qg (prP zs0 ds0) w a ds0)/\TDs as H zs0 ds0/\(ud ds0).length < 64/\kh (ud ds0)=true/\(ud ds0).all okD=true/\ ∀zs p H',New H p (.lst zs) H' -> TDs as H zs (j5 (ud ds0)) -> Q (.ref p) H'
theorem RD.da_inv{d:ac}(h:RD K as H v (.da d)):TD as H v d:=by
 cases h with|da t=> exact t
theorem a6e {J : It} {p:Wk} {g2:Tg} {ft2:FT} {fi2:FI} {ρ0:En} {k:Nat} {cap:St} {m:Bool} {Q:VK} (hg:y4 k g=true) (hg2:y4 k g2=true) (rl:Rel K as H s) (ri:ad1 K as H J p) (so:k6 p s) (en: ∀vs:St,vs.length=k -> Envs K as H ρ0 (vs++cap)) (h:Dn K (rD K) as H ((km g g2 ft fi2 ft2 fe ρ0 p p.1 s).bind (yk m)) Q):aqe w (gOf K g) (@acb XW.dft K ft) (apo w (@apr XW.dft K fi2) (gOf K g2) (@acb XW.dft K ft2) (@tOf XW.dft K fe)) k cap J H (SQ w Q):=by
 intro Da hD
 have n0:New H Da (qg (prP [] []) w Da []) (upd H Da (qg (prP [] []) w Da [])):=⟨hD,rfl⟩
 have nh:Da∉as.hd:=fun z=> by obtain⟨_,e,_⟩:=rl.hs Da z;rw [hD]at e;cases e
 have s0:=afk (as:=as) n0
 refine⟨fun i mm H'=> ∃as2 s2 ps ys,mm=p.1.length - i/\i <=p.1.length/\Step as H as2 H'/\Da∈as2.hd/\Rel K as2 H' s2/\k6 p s2/\H' Da=some (qg (prP ys ps) w Da ps)/\TDs as2 H' ys ps/\
   Dn K (rD K) as H ((km g g2 ft fi2 ft2 fe ρ0 p (p.1.drop i) s2).bind fun xs s3=> yk m (ps.map D.da++xs) s3) Q,
  ⟨_,as.hide Da,s,[],[],rfl,bP _,s0,av,rl.hide n0,so,n0.at,.nil,h⟩,?_⟩
 rintro i mm H' ⟨as2,s2,ps,ys,hm,hi,st2,mD2,rl2,so2,hDi,rs,h2⟩
 have tn:=ri as2 H' s2 st2.toStep0 rl2 so2 i
 by_cases hl:i < p.1.length
 ·obtain ⟨d, hd⟩ : ∃d,p.1[i]?=some d:=⟨_,aq hl⟩
  have hdr:p.1.drop i=d::p.1.drop (i+1):=by
   rw [cF hl]
   rw [aq hl]at hd
   cases hd;rfl
  rw [hdr]at h2
  obtain⟨go,yl⟩:=tn.2 d hd
  unfold km at h2
  split at h2
  ·exact h2.elim
  ·rename_i ρ3 q3
   refine .inr ⟨go,fun x H3 hy vs hv=> ?_⟩
   obtain⟨st3,rl3,rx⟩:=yl x H3 hy
   refine aac g ((en vs hv).mono (st2.trans st3)) rx q3 fun σ3 en3 fr=> ?_
   have cap3:=fr k hg vs cap hv rfl
   refine⟨cap3,as2,ρ3,s2,rl3,en3,?_⟩
   have eD3:H3 Da=some (qg (prP ys ps) w Da ps):=st3.hh Da mD2 _ hDi
   cases qt:ft ρ3 s2 with
   |bad=> rw [qt]at h2;exact h2.elim
   |ex _ _ _=> rw [qt]at h2;exact h2.elim
   | ok b s4 =>
    rw [qt,R.calm_ok]at h2
    intro b' as4 H4 st4 rl4 eb
    have eb':b'=b:=eb
    subst eb'
    have mD4:Da∈as4.hd:=st4.hk Da mD2
    have eD4:H4 Da=some (qg (prP ys ps) w Da ps):=st4.hh Da mD2 _ eD3
    have st24:=(st2.trans st3).trans st4
    rw [R.bind_ok]at h2
    cases b' with
    | false=>
     rw [if_neg ax]at h2⊢
     by_cases c:k6 p s4
     ·rw [xx c]at h2
      exact⟨_,by lia,as4,s4,ps,ys,rfl,hl,st24,mD4,rl4,c,eD4,(rs.mono st3).mono st4,h2⟩
     ·have e:chk p s4 (km g g2 ft fi2 ft2 fe ρ0 p (p.1.drop (i+1)) s4)=.bad:=if_neg c
      rw [e]at h2;exact h2.elim
    | true =>
     rw [if_pos rfl]at h2⊢
     refine⟨as4,ρ3,s4,rl4,en3.mono st4,?_⟩
     cases qi:fi2 ρ3 s4 with
     |bad=> rw [qi]at h2;exact h2.elim
     |ex _ _ _=> rw [qi]at h2;exact h2.elim
     | ok p2 s5 =>
      rw [qi,R.calm_ok]at h2
      rw [R.bind_ok]at h2
      by_cases hnn:vm g2 ρ3=true
      ·rw [if_pos hnn]at h2
       intro J2 as5 H5 st5 rl5 ri5
       have mD5:Da∈as5.hd:=st5.hk Da mD4
       have eD5:H5 Da=some (qg (prP ys ps) w Da ps):=st5.hh Da mD4 _ eD4
       have st25:=st24.trans st5
       have so5:k6 p2 s5:=by
        by_cases c:k6 p2 s5
        ·exact c
        ·rw [show∀{α:Type} (k:R α),chk p2 s5 k=.bad from fun k=> if_neg c]at h2
         exact h2.elim
       rw [xx so5]at h2
       -- the rest behind the inner walk
       have rest: ∀(xs:List D) (s6:S),Dn K (rD K) as H ((chk p s6 ((km g g2 ft fi2 ft2 fe ρ0 p (p.1.drop (i+1)) s6).bind fun ys s5=> R.ok (xs++ys) s5)).bind fun zs s3=> yk m (ps.map D.da++zs) s3) Q -> k6 p s6/\Dn K (rD K) as H ((km g g2 ft fi2 ft2 fe ρ0 p (p.1.drop (i+1)) s6).bind fun zs s3=> yk m ((ps.map D.da++xs)++zs) s3) Q:=fun xs s6 hx=> by
        by_cases c:k6 p s6
        ·rw [xx c]at hx
         refine⟨c,?_⟩
         cases qc:km g g2 ft fi2 ft2 fe ρ0 p (p.1.drop (i+1)) s6 with
         |bad=> rw [qc]at hx;exact hx.elim
         |ex _ _ _=> exact absurd qc (acl _ _ _ _ _)
         |ok zs s7=>
          rw [qc]at hx
          have hx:Dn K (rD K) as H (yk m (ps.map D.da++(xs++zs)) s7) Q:=hx
          rw [←cR]at hx
          exact hx
        ·rw [show∀{α:Type} (k:R α),chk p s6 k=.bad from fun k=> if_neg c]at hx
         exact hx.elim
       refine⟨fun j mj σ6 H6=> ∃as6 s6 qs zs,mj=p2.1.length - j/\j <=p2.1.length/\Step as H as6 H6/\Step0 as5 H5 as6 H6/\Da∈as6.hd/\Rel K as6 H6 s6/\k6 p2 s6/\H6 Da=some (qg (prP zs (ps++qs)) w Da (ps++qs))/\TDs as6 H6 zs (ps++qs)/\Envs K as6 H6 ρ3 σ6/\(∃vs':St,vs'.length=k/\σ6=vs'++cap)/\
         Dn K (rD K) as H (((j9 g2 ft2 fe ρ3 p2 (p2.1.drop j) s6).bind fun xs s7=> chk p s7 ((km g g2 ft fi2 ft2 fe ρ0 p (p.1.drop (i+1)) s7).bind fun ys s8=> R.ok ((qs.map D.da++xs)++ys) s8)).bind fun zs s3=> yk m (ps.map D.da++zs) s3) Q,
        ⟨_,as5,s5,[],ys,rfl,bP _,st25,(Step.refl _ _).toStep0,mD5,rl5,so5,by rw [aP];exact eD5,by rw [aP];exact ((rs.mono st3).mono st4).mono st5,(en3.mono st4).mono st5,cap3,h2⟩,?_⟩
       rintro j mj σ6 H6 ⟨as6,s6,qs,zs,hmj,hj,st6,st56,mD6,rl6,so6,hD6,rs6,en6,cap6,h6⟩
       have tn2:=ri5 as6 H6 s6 st56 rl6 so6 j
       by_cases hl2:j < p2.1.length
       ·obtain ⟨d2,hd2⟩: ∃d,p2.1[j]?=some d:=⟨_,aq hl2⟩
        have hdr2:p2.1.drop j=d2::p2.1.drop (j+1):=by
         rw [cF hl2]
         rw [aq hl2]at hd2
         cases hd2;rfl
        rw [hdr2]at h6
        obtain⟨go2,yl2⟩:=tn2.2 d2 hd2
        unfold j9 at h6
        split at h6
        ·exact h6.elim
        ·rename_i ρ7 q7
         refine .inr ⟨go2,fun x2 H7 hy2=> ?_⟩
         obtain⟨st7,rl7,rx2⟩:=yl2 x2 H7 hy2
         refine aac g2 (en6.mono st7) rx2 q7 fun σ7 en7 fr7=> ?_
         have cap7:=aye (fr7 k hg2) cap6
         have wk7:Wk1 ρ3 ρ7:=adc g2 (Wk1.refl _) hnn q7
         refine⟨as6,ρ7,s6,rl7,en7,?_⟩
         have eD7:H7 Da=some (qg (prP zs (ps++qs)) w Da (ps++qs)):=st7.hh Da mD6 _ hD6
         cases qt2:ft2 ρ7 s6 with
         |bad=> rw [qt2]at h6;exact h6.elim
         |ex _ _ _=> rw [qt2]at h6;exact h6.elim
         | ok b2 s8=>
          rw [qt2,R.calm_ok]at h6
          intro b2' as8 H8 st8 rl8 eb2
          have eb2':b2'=b2:=eb2
          subst eb2'
          have mD8:Da∈as8.hd:=st8.hk Da mD6
          have eD8:H8 Da=some (qg (prP zs (ps++qs)) w Da (ps++qs)):=st8.hh Da mD6 _ eD7
          have st68:=st7.trans st8
          rw [R.bind_ok]at h6
          cases b2' with
          | false=>
           rw [if_neg ax]at h6⊢
           have c:k6 p2 s8:=by
            by_cases c:k6 p2 s8
            ·exact c
            ·rw [show∀{α:Type} (k:R α),chk p2 s8 k=.bad from fun k=> if_neg c]at h6
             exact h6.elim
           rw [xx c]at h6
           exact⟨_,by lia,as8,s8,qs,zs,rfl,hl2,st6.trans st68,st56.trans st68.toStep0,mD8,rl8,c,eD8,(rs6.mono st7).mono st8,(en7.mono st8).weak wk7,cap7,h6⟩
          | true =>
           rw [if_pos rfl]at h6⊢
           refine⟨as8,ρ7,s8,rl8,en7.mono st8,?_⟩
           cases qe:fe ρ7 s8 with
           |bad=> rw [qe]at h6;exact h6.elim
           |ex _ _ _=> rw [qe]at h6;exact h6.elim
           | ok x9 s9=>
            rw [qe,R.calm_ok]at h6
            intro v9 as9 H9 st9 rl9 r9
            rw [R.bind_ok]at h6
            have mD9:Da∈as9.hd:=st9.hk Da mD8
            have eD9:H9 Da=some (qg (prP zs (ps++qs)) w Da (ps++qs)):=st9.hh Da mD8 _ eD8
            have st69:=st68.trans st9
            have c:k6 p2 s9:=by
             by_cases c:k6 p2 s9
             ·exact c
             ·rw [show∀{α:Type} (k:R α),chk p2 s9 k=.bad from fun k=> if_neg c]at h6
              exact h6.elim
            rw [xx c]at h6
            -- the inner rest
            have h9:Dn K (rD K) as H (((j9 g2 ft2 fe ρ3 p2 (p2.1.drop (j+1)) s9).bind fun xs s7=> chk p s7 ((km g g2 ft fi2 ft2 fe ρ0 p (p.1.drop (i+1)) s7).bind fun ys s8=> R.ok (((qs.map D.da++ [x9])++xs)++ys) s8)).bind fun zs s3=> yk m (ps.map D.da++zs) s3) Q:=by
             cases qc:j9 g2 ft2 fe ρ3 p2 (p2.1.drop (j+1)) s9 with
             |bad=> rw [qc]at h6;exact h6.elim
             |ex _ _ _=> exact absurd qc (aau _ _ _ _ _)
             |ok xs s7=>
              rw [qc]at h6
              have e1:(qs.map D.da++ [x9])++xs=qs.map D.da++(x9::xs):=by simp
              show Dn K (rD K) as H ((chk p s7 ((km g g2 ft fi2 ft2 fe ρ0 p (p.1.drop (i+1)) s7).bind fun ys s8=> R.ok (((qs.map D.da++ [x9])++xs)++ys) s8)).bind fun zs s3=> yk m (ps.map D.da++zs) s3) Q
              rw [e1]
              exact h6
            have hlen:(∃d9,x9=.da d9/\ad0 d9=true)/\(ps++qs).length+1 <=306:=by
             cases qc:j9 g2 ft2 fe ρ3 p2 (p2.1.drop (j+1)) s9 with
             |bad=> rw [qc]at h9;exact h9.elim
             |ex _ _ _=> exact absurd qc (aau _ _ _ _ _)
             | ok xs s7=>
              rw [qc]at h9
              obtain⟨_,h10⟩:=rest _ s7 (show Dn K (rD K) as H ((chk p s7 ((km g g2 ft fi2 ft2 fe ρ0 p (p.1.drop (i+1)) s7).bind fun ys s8=> R.ok (((qs.map D.da++ [x9])++xs)++ys) s8)).bind fun zs s3=> yk m (ps.map D.da++zs) s3) Q from h9)
              cases qd:km g g2 ft fi2 ft2 fe ρ0 p (p.1.drop (i+1)) s7 with
              |bad=> rw [qd]at h10;exact h10.elim
              |ex _ _ _=> exact absurd qd (acl _ _ _ _ _)
              | ok ws s8=>
               rw [qd]at h10
               have h10:Dn K (rD K) as H (yk m ((ps.map D.da++((qs.map D.da++ [x9])++xs))++ws) s8) Q:=h10
               unfold yk at h10
               split at h10
               ·rename_i us hu
                split at h10
                ·rename_i hz
                 have eu:=yg hu
                 have hm:x9∈us.map D.da:=by rw [←eu];simp
                 obtain⟨d9,hd9,rfl⟩:=a8.mp hm
                 have ll:=congrArg dO eu
                 simp only [aG,am,az,dA]at ll
                 refine⟨⟨d9,rfl,ay.mp hz.1.1 d9 hd9⟩,?_⟩
                 have:=hz.1.2
                 rw [aG]
                 lia
                ·exact h10.elim
               ·exact h10.elim
            obtain⟨⟨d9,rfl,kd9⟩,hlen⟩:=hlen
            have t9:TD as9 H9 v9 d9:=RD.da_inv r9
            have cg:Chg H9 Da (qg (prP (zs++ [v9]) (ps++qs++ [d9])) w Da (ps++qs++ [d9])) (upd H9 Da (qg (prP (zs++ [v9]) (ps++qs++ [d9])) w Da (ps++qs++ [d9]))):=⟨rfl⟩
            have s05:=aa9 (.inr mD9) cg
            have rs9:=((rs6.mono st7).mono st8).mono st9
            rw [show qs.map D.da++ [D.da d9]=(qs++ [d9]).map D.da by simp]at h9
            refine⟨zs,ps++qs,d9,as9,eD9,rs9,t9,kd9,hlen,_,by lia,as9,s9,qs++ [d9],zs++ [v9],rfl,hl2,?_,?_,mD9,rl9.chgH mD9 cg,c,?_,?_,?_,cap7,h9⟩
            ·exact amu (st6.trans st69) hD nh mD9 cg
            ·exact (st56.trans st69.toStep0).trans s05
            ·rw [←cR];exact cg.at
            ·rw [←cR]
             exact (rs9.app (.cons t9 .nil)).mono0 s05
            ·exact ((((en7.mono st8).mono st9).mono0 s05).weak wk7)
       ·refine .inl ⟨tn2.1 (bC hl2),cap6,?_⟩
        rw [fq (bC hl2)]at h6
        have h6:Dn K (rD K) as H ((chk p s6 ((km g g2 ft fi2 ft2 fe ρ0 p (p.1.drop (i+1)) s6).bind fun ys s8=> R.ok ((qs.map D.da++ [])++ys) s8)).bind fun zs s3=> yk m (ps.map D.da++zs) s3) Q:=h6
        rw [aP]at h6
        obtain⟨c,h7⟩:=rest (qs.map D.da) s6 h6
        rw [←bS]at h7
        exact⟨_,by lia,as6,s6,ps++qs,zs,rfl,hl,st6,mD6,rl6,c,hD6,rs6,h7⟩
      ·rw [if_neg hnn]at h2;exact h2.elim
 ·refine .inl ⟨tn.1 (bC hl),?_⟩
  rw [fq (bC hl)]at h2
  replace h2:Dn K (rD K) as H (yk m (ps.map D.da++ []) s2) Q:=h2
  rw [aP]at h2
  unfold yk at h2
  rw [vg]at h2
  split at h2
  ·rename_i us hu
   cases hu
   split at h2
   ·rename_i hz
    refine⟨Da,ys,ps,as2.show Da,rfl,hDi,rs.mono0 abd,hz.2.1,hz.2.2.1,hz.2.2.2,fun zs q H2 n2 t2=> ?_⟩
    exact zl (Dn.step h2 (ala st2 nh abd)) rl2.show (t2.rd (K:=K)) n2
   ·exact h2.elim
  ·exact h2.elim
def amp(m:Bool)(js:List Nat)(k:Nat)(fi:FI)(g:Tg)(ft:FT)(fi2:FI)(g2:Tg)(ft2:FT)(fe:FE):FE:=fun ρ s=> (fi ρ s).bind fun p s1=> chk p s1 ((km g g2 ft fi2 ft2 fe (bB k none++aex ρ js) p p.1 s1).bind (yk m))
section
variable{X:Cx}{own caps:List Str}{js:List Nat}{scope:dS}{tg iter tg2 iter2 elt:Expr}{ifs ifs2:List Expr}{fi fi2:FI}{g g2:Tg}{ft ft2:FT}{fe:FE}{pos:Pos}
theorem axs{wi:TI}{k:Nat}{m:Bool}(ri:avt K wi fi)(hl:y4 k g=true)(hl2:y4 k g2=true):ab0 K (fun σ H Q=> a3t w js k wi (gOf K g) (@acb XW.dft K ft) (apo w (@apr XW.dft K fi2) (gOf K g2) (@acb XW.dft K ft2) (@tOf XW.dft K fe)) σ H (SQ w Q)) (amp m js k fi g ft fi2 g2 ft2 fe):=by
 intro as σ H ρ s Q rl en h
 refine ri as σ H ρ s _ rl en (Dn.bind h fun p s1 as1 H1 J st1 rl1 r1 h1=> ?_)
 obtain⟨so,h1⟩:=Dn.chk h1
 exact a6e hl hl2 rl1 r1 so (fun vs hv=> ((en.mono st1).caps js).own hv) h1
theorem aky(m:Bool){p1 pos1:Pos}(hu:X.A.units+70 < cLine)(hm1:X.mg "sorted"=none)(hcalm:X.calm=true)(hkind:scope.kind=.function)(hnames:(scope.names.all fun p=> !(p.2==.local)||(scope.names.lookup p.1==some .local))=true)(hcell:(scope.names.any fun p=> p.2==.cell)=false)
  (hk:(scope.names.all fun p=> !(p.2==.free)||(X.env.kindOf p.1==some .cell||X.env.kindOf p.1==some .free))=true)
  (hcap:y9 X scope caps js) (hl:y4 own.length g=true) (hl2:y4 own.length g2=true) (hi:RI X tg iter fi) (hg: ∀C fp s H,RG (ju X own caps scope C fp s H) tg g) (ht: ∀(I:XW) C fp s H,XOk (ju X own caps scope C fp s H) I.xk -> @RIfs I (ju X own caps scope C fp s H) ifs ft)
  (hi2: ∀(I:XW) C fp s H,XOk (ju X own caps scope C fp s H) I.xk -> @RI I (ju X own caps scope C fp s H) tg2 iter2 fi2) (hg2: ∀C fp s H,RG (ju X own caps scope C fp s H) tg2 g2) (ht2: ∀(I:XW) C fp s H,XOk (ju X own caps scope C fp s H) I.xk -> @RIfs I (ju X own caps scope C fp s H) ifs2 ft2) (he: ∀(I:XW) C fp s H,XOk (ju X own caps scope C fp s H) I.xk -> @RE I (ju X own caps scope C fp s H) elt fe)
  (hgs:Gl X "sorted":=by rfl) (hs: ∀x,bN iter X.env x=pure x:=by intro _;rfl) (hs2: ∀C fp s H x,bN iter2 (ju X own caps scope C fp s H).env x=pure x:=by intro _ _ _ _ _;rfl)
  (hse:starEach [SC2 elt tg iter tg2 iter2 ifs ifs2 scope pos] X.env=(false,eval (SC2 elt tg iter tg2 iter2 ifs ifs2 scope pos) X.env)::starEach [] X.env:=by rfl) (hpl:(backTo pos1 (starEach [] X.env)).any (·.1)=false:=by rfl):
  RE X (.Call (.Name "sorted" p1) [SC2 elt tg iter tg2 iter2 ifs ifs2 scope pos] [] pos1) (amp m js own.length fi g ft fi2 g2 ft2 fe):=by
 obtain⟨wi,pi,ri⟩:=hi.ex
 have psc:=a1m (pos:=pos) (elt:=elt) (tg2:=tg2) (ifs:=ifs) (ifs2:=ifs2) (tt:= @acb XW.dft X.K ft) (g:=gOf X.K g) (tb:=apo X.w (@apr XW.dft X.K fi2) (gOf X.K g2) (@acb XW.dft X.K ft2) (@tOf XW.dft X.K fe)) hcalm hkind hnames hcell hk hcap pi (fun C fp s H=> (hg C fp s H).pg) (fun C fp s H=> @RIfs.run XW.dft _ _ _ (ht XW.dft C fp s H (XOk.never dC))) (fun C fp s H=> a5y (X:=ju X own caps scope C fp s H) (show X.A.units+40 < cLine by lia) hcalm rfl (@RI.pi XW.dft _ _ _ _ (hi2 XW.dft C fp s H (XOk.never dC))) (hg2 C fp s H).pg (@RIfs.run XW.dft _ _ _ (ht2 XW.dft C fp s H (XOk.never dC))) (@RE.pe XW.dft _ _ _ (he XW.dft C fp s H (XOk.never dC)))) hs2 hs
 exact⟨_,agz (X:=X) (an5 hcalm hu) hgs hm1 aav (afq psc ahw hse) (pos:=pos1) (p:=p1) (by decide) (by decide) hse hpl,axs (w:=X.w) ri hl hl2⟩
end
end PF
namespace L2
open PySem PySem.Spec PyProof.Rows
section
variable{prog:aI}{w:aM}{A:aZ}{E:ae -> ag -> Prop}{s:ag}{K:Type}[DecidableEq K]{knd:lX prog w K}
theorem agw{d:Addr}{xs:List (K×Addr×ae)}{k:K}{v:ae}(hu:knd.room A)(hkey:knd.is s.heap k a)(hm:yi knd s.heap d xs)(h1: ∀p,atKey xs k=some p -> Q p.2 {s with toks:=s.toks+knd.draws k})(h2:atKey xs k=none -> ∀h',yi knd h' d (storedH xs k a v) -> bi d s.heap h' -> Q v {s with heap:=h',toks:=s.toks+knd.draws k})(hsz:xs.length <=sizeLine):wpAny (model prog w) A (lR d (.ref a) v) Q E s:=by
 obtain⟨o,es,ep,ho,hc,⟨hd,hp⟩,he,his,hn⟩:=hm
 unfold lR
 (try with_reducible refine bo ?_)
 refine aa (knd.pyHash hu hkey (aa (mW (s:={s with toks:=s.toks+knd.draws k}) hu hkey ho hd he his hn (fun hno=> ?_) fun j p hj=> ?_)))
 ·exact aa (cn (aa (mz (hz:=by have e:=f8 he;lia) (s:={s with toks:=s.toks+knd.draws k}) ho hd (af (h2 (jL hno) _ (ah2 hkey ho hc hd hp he his hn (jL hno) (mX hno)) (bg ..))))))
 ·have e:=atKey_of_get hn hj
  (refine aa (wpAny_dictEntries (s:={s with toks:=s.toks+knd.draws k}) ho hd ?_))
  rw [entry_at he j,hj]
  exact aa (cn (af (h1 p e)))
theorem abj(d a:Addr)(hd:(d==bI)=false)(dflt:ae):
  MeetsIn prog w (cG.«dict.setdefault» ⟨[.ref d,.ref a,dflt],[]⟩) (fun A R s=> knd.room A.in1/\ ∃k xs,knd.is s.heap k a/\yi knd s.heap d xs/\xs.length <=sizeLine/\
   (∀p,atKey xs k=some p -> R (.ok (.ret p.2)) {s with toks:=s.toks+knd.draws k})/\
   (atKey xs k=none -> ∀h',yi knd h' d (storedH xs k a dflt) -> bi d s.heap h' -> R (.ok (.ret dflt)) {s with heap:=h',toks:=s.toks+knd.draws k})):=
 .of_wp fun A R s ⟨hu,k,xs,hkey,hm,hz,h1,h2⟩=> by
  (unfold cG.«dict.setdefault»)
  refine aa ?_
  (unfold Builtin.Dict.keyAndDefault)
  refine aa (lO hm.oh.typeIs ?_)
  show wpAny _ _ (pure (d,bn a,some dflt)) _ _ s
  refine af ?_
  show wpAny _ _ (if (d==bI)=true then _ else (lR d (bn a) dflt >>=_)) _ _ s
  (rw [if_neg (by rw [hd];exact ax)])
  exact aa (agw hu hkey hm (fun p hp=> af ⟨p.2,rfl,h1 p hp⟩) (fun hn h' hm' hs'=> af ⟨dflt,rfl,h2 hn h' hm' hs'⟩) hz)
end
end L2
namespace PF
open PySem PySem.Spec
open L2
variable[XW]
def ac6:GM:=fun d ds s=> match ds with
 | [kd,x]=> onD d s fun n kvs=> match ali kd with
  |some k=> if v4 kvs k=true/\kvs.length < sizeLine then (match qj kvs k with
   |some v=>.ok v s
   |none=>.ok x (s.set n (.dct (v3 kvs k x)))) else .bad
  |none=>.bad
 |_=>.bad
theorem ahc(a b c:ae):argsOk "dict.setdefault" ⟨[a,b,c],[]⟩:=by
 first|exact PySem.F.args_dict_setdefault_3 a b c|exact rfl|decide
theorem ax8(hu:X.A.units+70 < cLine):MB X "dict.setdefault" ac6:=by
 refine⟨fun x xs H Q=> ∃as s d ds,Rel X.K as H s/\RD X.K as H x d/\RDs X.K as H xs ds/\Dn X.K (rD X.K) as H (ac6 d ds s) Q,fun pins sh σ H x xs v us Q I rx rs ⟨as,s,d,ds,rl,r1,r2,h⟩=> ?_,fun as H s x xs d ds Q rl r1 r2 h=> ⟨as,s,d,ds,rl,r1,r2,h⟩⟩
 unfold ac6 at h
 split at h
 ·rename_i kd xd
  obtain⟨y,z,rfl,ry,rz⟩:=r2.two
  obtain⟨u,r,rfl,ru,rr⟩:=rs.two
  obtain⟨p,n,kvs,rfl,rfl,ha,e,ro,h⟩:=af3 rl r1 h
  cases rx
  split at h
  ·rename_i k hk
   split at h
   ·rename_i hsm
    obtain⟨hsm,hlen⟩:=hsm
    have ty:=ry.key_inv hk
    rcases adj ro hsm with ⟨l,a,rfl,eh,dr⟩|⟨l,it,dd,dr⟩
    ·have hl:l.length < sizeLine:=by rw [←aiu,dr.len];exact hlen
     obtain⟨zz,hd,vs,rel,dct⟩:=ai8 I.hok eh
     have hz:vs.length <=sizeLine:=by rw [←rel.length];exact zz
     have hv:=rel.val a
     cases e1:qj kvs (kP a) with
     |some dv=>
      rw [e1]at h
      obtain⟨w1,ew,rw1⟩:=(dr.get (kP a)).1 dv e1
      rw [aev]at ew
      obtain⟨w',hw,rr'⟩:=xp.some_of (v:=w1) (o:=valueAt vs a) (by rw [←ew];exact hv)
      refine dB cu dct.typeIs dI (ahc _ _ _) (mY (ko X.prog X.w) p (afo (aeo ty ru)) hd r) ⟨vs,dct,hz,fun v hv'=> ?_,fun hn=> by rw [hw]at hn;cases hn⟩
      rw [hw]at hv'
      cases hv'
      exact⟨w1,H,I.tok _,rr',Dn.now (Q:=Q) h rl rw1⟩
     | none=>
      rw [e1]at h
      have en:=(dr.get (kP a)).2 e1
      rw [aev]at en
      have hn0:valueAt vs a=none:=by
       rw [en]at hv
       cases q:valueAt vs a with
       |none=> rfl
       |some _=> rw [q]at hv;exact hv.elim
      refine dB cu dct.typeIs dI (ahc _ _ _) (mY (ko X.prog X.w) p (afo (aeo ty ru)) hd r) ⟨vs,dct,hz,fun v hv'=> (by rw [hn0]at hv';cases hv'),fun _ h' dd' hs=> ?_⟩
      have hl':(ki l a z).length <=sizeLine:=by have:=z4 l a z;lia
      have he: ∃q,h'.get? p=some q:=let ⟨q,_,_,hq,_⟩:=dd';⟨q,hq⟩
      have c:Chg H p (.dK (ki l a z)) (upd H p (.dK (ki l a z))):=⟨rfl⟩
      have st:=z8 (kc.mpr ⟨n,ha⟩) (fun q=> rl.hx p q (kc.mpr ⟨n,ha⟩)) c
      refine⟨z,_,abt I (by rw [eh];exact cD) hs he (at2 hl' hd (rel.put a rr) dd'),rr,?_⟩
      refine afv (v:=z) rl ha c (.inl ⟨_,c.at,?_⟩) rz h
      rw [ato]
      exact (dr.put rz (kP a)).mono st
    ·obtain⟨kok,kpl,ks,rfl⟩:=afx it
     obtain⟨b,rfl⟩:=ah6 ty
     cases ru
     have hl:l.length < sizeLine:=by rw [dr.len];exact hlen
     obtain⟨zz,hd,xs,rel,dct⟩:=dd.rs I.hok
     have hz:xs.length <=sizeLine:=by rw [←dH rel];exact zz
     have hv:=rel.val (.tuple ks)
     have kd:=ahl I.hok kok (TD.kd ty kpl)
     cases e1:qj kvs (.tuple ks) with
     |some dv=>
      rw [e1]at h
      obtain⟨w1,ew,rw1⟩:=(dr.get (.tuple ks)).1 dv e1
      obtain⟨w',hw,rr'⟩:=xp.some_of (v:=w1) (o:=(atKey xs (.tuple ks)).map (·.2)) (by rw [←ew];exact hv)
      obtain⟨q,hq,hq2⟩:=lC.mp hw
      refine dB cu dct.oh.typeIs dI (ahc _ _ _) (abj (knd:=qo X.prog X.w) p b hd r) ⟨adh (by lia),.tuple ks,xs,kd,dct,hz,fun q' hv'=> ?_,fun hn=> by rw [hq]at hn;cases hn⟩
      rw [hq]at hv'
      cases hv'
      exact⟨w1,H,I.tok _,hq2▸rr',Dn.now (Q:=Q) h rl rw1⟩
     | none=>
      rw [e1]at h
      have en:=(dr.get (.tuple ks)).2 e1
      have hn0:atKey xs (.tuple ks)=none:=by
       rw [en]at hv
       cases q:atKey xs (.tuple ks) with
       |none=> rfl
       |some _=> rw [q]at hv;exact hv.elim
      refine dB cu dct.oh.typeIs dI (ahc _ _ _) (abj (knd:=qo X.prog X.w) p b hd r) ⟨adh (by lia),.tuple ks,xs,kd,dct,hz,fun q' hv'=> (by rw [hn0]at hv';cases hv'),fun _ h' dd' hs=> ?_⟩
      have hl':(ki l (.tuple ks) z).length <=sizeLine:=by have:=z4 l (.tuple ks) z;lia
      have he: ∃q,h'.get? p=some q:=let ⟨q,_,_,hq,_⟩:=dd';⟨q,hq⟩
      have ht: ∀c ys,H c=some (.tup ys) -> upd H p (.dD (ki l (.tuple ks) z)) c=some (.tup ys):=fun c ys q=> by
       rw [j7 (fun y=> by subst y;rcases dd with e|⟨e,_⟩ <;> (rw [e]at q;cases q))];exact q
      have c:Chg H p (.dD (ki l (.tuple ks) z)) (upd H p (.dD (ki l (.tuple ks) z))):=⟨rfl⟩
      have st:=z8 (kc.mpr ⟨n,ha⟩) (fun q=> rl.hx p q (kc.mpr ⟨n,ha⟩)) c
      refine⟨z,_,abt I dd.mut hs he (asi hl' hd (rel.put kok (TD.kd ty kpl) rr) ht dd'),rr,?_⟩
      exact afv (v:=z) rl ha c (.inr ⟨_,⟨ao9 _ _ _,aos (atf ro dd) it⟩,c.at,(dr.put rz _).mono st⟩) rz h
   ·exact h.elim
  ·exact h.elim
 ·exact h.elim
end PF
namespace L2
open PySem PySem.Spec PyProof.Rows
def adp(w:aM)(t:bq):Prop:=t.led= !(w.params.followText "set-order")/\(t.plain=false\/(ST.Ris t.place.toList/\t.dummies= #[]))
theorem adp.x(h:adp w t)(k:Nat):al1 w k t:=⟨h.1,fun _=> h.2.elim .inl fun z=>.inr z.1⟩
theorem ai6{t:bq}(nd:t.dummies= #[]){ha:Nat -> Int}{h:Int}{j:Nat}{d:Option Nat}: ∀(fuel:Nat) (p:SetTable.Probe),p.dummy=none -> lS.go t ha h fuel p=some (.empty j d) -> d=none/\t.slot j=.empty
 |0,_,_,e=> by cases e
 | fuel+1,p,hp,e=> by
  unfold lS.go at e
  split at e
  ·rename_i hs
   cases e
   exact⟨hp,hs⟩
  ·rename_i hs
   unfold SetTable.slot at hs
   dsimp only at hs
   rw [nd,ST.has_nil]at hs
   split at hs
   ·cases hs
   ·cases hs
  ·split at e
   ·cases e
   ·refine ai6 nd fuel (t.advance p) ?_ e
    exact (ST.adv_dummy t 1 p).trans hp
theorem ayg{j:Nat}(h:ST.Ris t.place.toList)(hs:t.slot j=.empty):ST.Ris (cU t.place (bK t.place j) j).toList:=by
 rw [eU]
 obtain⟨b1,b2,b3⟩:=ST.below_spec t.place j h
 have gd: ∀(k d:Nat) (hk:k < t.place.size),t.place.getD k d=t.place[k]:=fun k d hk=> by simp [cO,hk]
 have ne: ∀k,(hk:k < t.place.size) -> t.place[k]≠j:=fun k hk z=> by
  have:=ST.below_ix h (i:=k) (j:=j) (by rw [bf hk,z])
  unfold SetTable.slot at hs
  dsimp only at hs
  rw [this,bf hk,z,if_pos (by simp)]at hs
  cases hs
 have sub1:=lT (jG (bK t.place j) t.place.toList) h
 have sub2:=lT (List.drop_sublist (bK t.place j) t.place.toList) h
 have lo: ∀a∈t.place.toList.take (bK t.place j),a < j:=fun a ha=> by
  obtain⟨i,hi,rfl⟩:=mZ ha
  rw [bd,au]at hi
  have:=b2 i (by lia)
  rw [gd i _ (by lia)]at this
  simpa using this
 have hi: ∀a∈t.place.toList.drop (bK t.place j),j < a:=fun a ha=> by
  obtain⟨i,hi,rfl⟩:=mZ ha
  rw [cJ,au]at hi
  have h3:=b3 (bK t.place j+i) (by lia) (by lia)
  rw [gd _ _ (by lia)]at h3
  have h4:=ne (bK t.place j+i) (by lia)
  simp only [List.getElem_drop,l9]
  lia
 refine mD.mpr ⟨sub1,ce.mpr ⟨hi,sub2⟩,fun a ha b hb=> ?_⟩
 (rcases aE.mp hb with rfl|hb)
 ·exact lo a ha
 ·exact fB (lo a ha) (hi b hb)
theorem a12(T:adp w t)(es:Array (Int×ae))(h:Int)(x:ae):adp w (layNew t es h x).2.1:=by
 refine⟨(azf t es h x).trans T.1,?_⟩
 unfold layNew
 cases e:t.freeSlot h with
 |none=> exact .inl rfl
 | some q=>
  obtain⟨sl,wd⟩:=q
  dsimp only
  unfold SetTable.orStandIn
  split
  ·rcases T.2 with z|⟨z1,z2⟩
   ·exact .inl z
   ·refine .inr ?_
    unfold SetTable.freeSlot at e
    split at e
    ·rename_i j d hp
     unfold lS at hp
     obtain⟨rfl,hs⟩:=ai6 z2 _ _ rfl hp
     simp only [jW,dG,iZ]at e
     obtain⟨rfl,_⟩:=e
     refine⟨ayg z1 hs,?_⟩
     show (if SetTable.has t.dummies j then _ else t.dummies)= #[]
     rw [z2,ST.has_nil];rfl
    ·cases e
  ·exact .inl rfl
theorem auz(T:adp w t)(es:Array (Int×ae))(wd:Nat):adp w (relayAll t es wd).2.1:=by
 obtain⟨k1,k2⟩:=ate t es wd
 refine⟨k1.trans T.1,?_⟩
 rcases T.2 with z|_
 ·exact .inl (k2 z)
 unfold relayAll
 cases c:t.relaid (es.map (·.1)) wd with
 |none=> exact .inl rfl
 | some q=>
  obtain⟨t',od⟩:=q
  dsimp only
  split
  ·refine .inr ?_
   unfold kZ mJ at c
   cases c2:SetTable.layClean (c9 wd - 1) (es.map (·.1)) with
   |none=> rw [c2]at c;cases c
   |some ow=>
    rw [c2]at c
    simp only [iw,jY,lf,dG,iZ]at c
    obtain⟨rfl,_⟩:=c
    exact⟨by simpa [ST.liveL] using ST.live_ris (c9 wd - 1) ow,rfl⟩
  ·exact .inl rfl
def ym(P:aI)(w:aM)(h:Heap)(a:Addr)(S:Int -> Bool)(n:Nat):Prop:=
 ∃o es ep t,h.get? a=some o/\o.ExactSet/\o.data=.set es ep t/\(ElemsOf (bO P w) es.toList/\(∀k,S k=true ↔ ∃e∈es.toList,(bO P w).is k e.2=true)
  /\es.size < cL/\t.fits es.size=true/\es.size=n)/\adp w t
theorem ym.congr{S S':Int -> Bool}{n':Nat}(z:ym P w h a S n)(hS: ∀k,S' k=S k)(hn:n'=n):ym P w h a S' n':=by
 subst hn
 obtain⟨o,es,ep,t,e,ex,d,⟨q1,q2,q3⟩,q4⟩:=z
 exact⟨o,es,ep,t,e,ex,d,⟨q1,fun k=> by rw [hS k];exact q2 k,q3⟩,q4⟩
section
variable{prog:aI}{w:aM}{A:aZ}{E:ae -> ag -> Prop}{s:ag}
theorem aro{o:Obj}{es:Array (Int×ae)}(ho:h.get? a=some o)(hex:o.ExactSet)(hd:o.data=.set es ep t){es':Array (Int×ae)}{S':Int -> Bool}(q:ElemsOf (bO prog w) es'.toList/\(∀k,S' k=true ↔ ∃e∈es'.toList,(bO prog w).is k e.2=true)/\es'.size < cL/\t'.fits es'.size=true)(tx:adp w t'):
  (h.update a (gC es' t')).get? a=some {o with data:=.set es' (ep+1) t'}/\ym prog w (h.update a (gC es' t')) a S' es'.size:=by
 obtain⟨g,_⟩:=SetOf_store (knd:=bO prog w) ho hex hd q.1 q.2.1 q.2.2.1 q.2.2.2
 exact⟨g,_,es',ep+1,t',g,hex,rfl,⟨q.1,q.2.1,q.2.2.1,q.2.2.2,rfl⟩,tx⟩
theorem axl{g:Bool -> Sem Unit}(hg: ∀(b:Bool) (s1:ag) (Q':Unit -> ag -> Prop),Q' () s1 -> wpAny (model prog w) A (g b) Q' E s1){o:Obj}{es:Array (Int×ae)}(ho:s.heap.get? a=some o)(hex:o.ExactSet)(hd:o.data=.set es ep t){es1:Array (Int×ae)}{t2:bq}{S':Int -> Bool}(q:ElemsOf (bO prog w) es1.toList/\(∀k,S' k=true ↔ ∃e∈es1.toList,(bO prog w).is k e.2=true)/\es1.size < cL/\t2.fits es1.size=true)(tx:adp w t2){wasDummy:Bool}{R:Option Bool -> ag -> Prop}(h: ∀h',bi a s.heap h' -> ym prog w h' a S' es1.size -> R (some true) {s with heap:=h'}):
  wpAny (model prog w) A (do
   storeSet a es1 t2
   if (!wasDummy&&t2.tooFull)=true then do g (relayAll t2 es1 (bW es1.size)).2.2;storeSet a (relayAll t2 es1 (bW es1.size)).1 (relayAll t2 es1 (bW es1.size)).2.1;pure (some true) else pure (some true)) R E s:=by
 obtain⟨q1,q2,q3,q4⟩:=q
 refine aa (gP ho hd ?_ (gN q3))
 obtain⟨g1,x1⟩:=aro (w:=w) (prog:=prog) ho hex hd ⟨q1,q2,q3,q4⟩ tx
 have b1:=bg s.heap a (gC es1 t2)
 split
 ·have p:=relayAll_perm t2 es1 (bW es1.size)
  have f:=relayAll_fits t2 es1 (bW es1.size)
  have tt:=auz tx es1 (bW es1.size)
  revert p f tt
  generalize relayAll t2 es1 (bW es1.size)=Rl
  obtain⟨es2,t3,gv⟩:=Rl
  intro p f tt
  dsimp only at p f tt⊢
  have z:es2.size=es1.size:=by
   have:=p.length_eq
   rwa [au,au]at this
  have b2:es2.size < cL:=z▸q3
  refine aa (hg _ _ _ (aa (gP g1 rfl ?_ (gN b2))))
  obtain⟨_,x2⟩:=aro (w:=w) (prog:=prog) (S':=S') g1 hex rfl ⟨q1.perm p,fun k=> (q2 k).trans ⟨fun⟨e,m,y⟩=> ⟨e,p.mem_iff.mpr m,y⟩,fun⟨e,m,y⟩=> ⟨e,p.mem_iff.mp m,y⟩⟩,b2,f⟩ tt
  exact af (h _ (b1.trans (bg _ a _)) (z▸x2))
 ·exact af (h _ b1 x1)
theorem a5u{S:Int -> Bool}{k:Int}{tk:Tok}{Q:Bool -> ag -> Prop}(hS:ym prog w s.heap a S n)(hroom:n+1 < cL)(h: ∀h',bi a s.heap h' -> ym prog w h' a (fun y=> S y||decide (y=k)) (if S k then n else n+1) -> Q (!S k) {s with heap:=h'}):
  wpAny (model prog w) A (kH a (.int k tk) ((bO prog w).hash k)) Q E s:=by
 have hkey:(bO prog w).is k (.int k tk)=true:=by show fj k (.int k tk)=true;simp [fj]
 obtain⟨o,es,ep,t,ho,hex,hd,⟨hel,hmem,hb,hf,hn⟩,tx⟩:=hS
 have hgw: ∀(b:Bool) {s1:ag} {Q':Unit -> ag -> Prop},Q' () s1 -> wpAny (model prog w) A (match b with|true=> rule "set.scan.the-table-gave-way"|false=> pure ()) Q' E s1:=by
  intro b s1 Q' z
  cases b
  ·exact af z
  ·exact cn z
 unfold kH setAddHashedIn;refine bo (aa (b8 ho hd hf ?_))
 dsimp only
 rw [byScan_of (knd:=bO prog w) rfl hb hel,if_pos rfl]
 unfold setAddByScan
 refine aa (aa (cn (aa (wpAny_setScan_of hkey ho hd hf hel ?_))))
 cases hr:List.findIdx? (fun e=> (bO prog w).is k e.2) es.toList with
 | some j=>
  obtain⟨hj,hpj,_⟩:=List.findIdx?_eq_some_iff_getElem.mp hr;have sk:S k=true:=(hmem k).mpr ⟨es.toList[j],kG hj,hpj⟩
  dsimp only
  refine af (af ?_);have z:=h s.heap (jK a s.heap) ⟨o,es,ep,t,ho,hex,hd,⟨hel,fun y=> by
   rw [Bool.or_eq_true,decide_eq_true_eq,←hmem y]
   exact⟨fun c=> c.elim id (fun e=> e▸sk),.inl⟩,hb,hf,by rw [sk];exact hn⟩,tx⟩
  rw [sk]at z
  exact z
 | none=>
  dsimp only
  have sk:S k=false:=by
   cases c:S k with
   |false=> rfl
   |true=>
    obtain⟨e,m,y⟩:=(hmem k).mp c
    exact Bool.noConfusion (y.symm.trans (List.findIdx?_eq_none_iff.mp hr e m))
  have p:=layNew_perm t es ((bO prog w).hash k) (.int k tk)
  have f:=layNew_fits t es ((bO prog w).hash k) (.int k tk)
  have ld:=a12 tx es ((bO prog w).hash k) (.int k tk)
  revert p f ld
  generalize layNew t es ((bO prog w).hash k) (.int k tk)=L
  obtain⟨es1,t1,wd,gv⟩:=L
  intro p f ld
  dsimp only at p f ld⊢
  rw [Array.toList_push]at p
  have z1:es1.size=n+1:=by
   have:=p.length_eq
   rw [au,aG,au,hn]at this
   exact this
  have b1:es1.size < cL:=z1▸hroom
  have q:ElemsOf (bO prog w) es1.toList/\(∀y,(fun y=> S y||decide (y=k)) y=true ↔ ∃e∈es1.toList,(bO prog w).is y e.2=true)/\es1.size < cL:=
   ⟨(hel.push hkey rfl).perm p,fun y=> mem_push_iff hkey hmem p y,b1⟩
  have fin: ∀h',bi a s.heap h' -> ym prog w h' a (fun y=> S y||decide (y=k)) es1.size -> Q true {s with heap:=h'}:=fun h' u v=> by
   have:=h h' u
   rw [sk,if_neg ax,←z1]at this
   exact this v
  refine aa (hgw _ ?_)
  split
  ·refine aa ?_
   rw [hashByValue_scannable 8 rfl]
   refine af (axl (t2:=t1) (fun b s1 Q' z=> ?_) ho hex hd ⟨q.1,q.2.1,q.2.2,f⟩ ld fun h' u v=> ?_)
   ·cases b
    ·exact af z
    ·exact cn z
   ·dsimp only;exact af (fin h' u v)
  ·rename_i hpl
   refine aa (af ?_);simp only [↓reduceIte]
   refine axl (fun b s1 Q' z=> ?_) ho hex hd ⟨q.1,q.2.1,q.2.2,f⟩ ld fun h' u v=> ?_
   ·cases b
    ·exact af z
    ·exact cn z
   ·dsimp only;exact af (fin h' u v)
end
section
variable{prog:aI}{w:aM}{A:aZ}{R:gh -> ag -> Prop}{I:Addr}{wr fp:List Addr}{G:Array GenState -> Array GenState -> Prop}{n:Nat}{P:Nat -> ae -> Prop}{St:Nat -> ag -> Prop}
theorem atn(W:WalksS prog w A.in1 I fp wr G n P St)(p:Addr)(hp:p∉fp)(xs:List Int)(hn:xs.length=n)(hval: ∀i v,P i v -> ∃x t,xs[i]?=some x/\v=.int x t)(hb:n+1 < cL):
  ∀(j i:Nat) (s:ag),i+j=n -> St i s -> ym prog w s.heap p (fun y=> decide (y∈jt (xs.take i))) (jt (xs.take i)).length ->
   (∀s',Moved (p::wr) G s s' -> ym prog w s'.heap p (fun y=> decide (y∈jt xs)) (jt xs).length -> R (.ok (.ret .none)) s') ->
   codeAny (model prog w) A (.builtin "set.update.loop" ⟨[.ref p,.ref I],[]⟩) R s:=by
 have hpw:p∉wr:=fun z=> hp (W.sub _ z)
 have up: ∀b∈wr,b∈p::wr:=fun b z=> aw _ z
 have stays: ∀{s s':ag} {S:Int -> Bool} {m:Nat},Moved wr G s s' -> ym prog w s.heap p S m -> ym prog w s'.heap p S m:=fun mv z=> by
  obtain⟨o,es,ep,t,ho,q⟩:=z
  exact⟨o,es,ep,t,mv.heap p _ hpw ho,q⟩
 intro j
 induction j with
 |zero=>
  intro i s hij hst hS hR
  have ei:i=n:=by lia
  subst ei
  refine fg gw ?_
  rw [eD dR _]
  refine (show wpAny _ A.in1 (pyNext (.ref I)>>=_) _ _ s from aa (W.done s _ _ hst fun s' mv=> ?_))
  refine af (hR s' (mv.mono up) ?_)
  have:=stays mv hS
  rw [ly (dj hn)]at this
  exact this
 | succ j ih=>
  intro i s hij hst hS hR
  refine fg gw ?_
  rw [eD dR _]
  refine (show wpAny _ A.in1 (pyNext (.ref I)>>=_) _ _ s from aa (W.item i s _ _ (by lia) hst fun v s' hP hst' mv=> ?_))
  obtain⟨x,t,hx,rfl⟩:=hval i v hP
  show wpAny _ A.in1 (holding [eE x t] (setAdd p (.int x t))>>=_) _ _ s'
  refine aa (bo ?_);unfold setAdd
  refine bo (aa ((intKind prog w).pyHash (k:=x) (by show fj x (.int x t)=true;simp [fj]) ?_))
  have few:(jt (xs.take i)).length <=i:=bb (ah1 _).2.2 (by rw [bd];lia)
  refine a5u (s:={s' with toks:=s'.toks+1}) (show ym prog w s'.heap p _ _ from stays mv hS) (by lia) fun h' sb hS2=> ?_
  have et:xs.take (i+1)=xs.take i++ [x]:=by rw [List.take_add_one,hx];rfl
  have hS3:ym prog w h' p (fun y=> decide (y∈jt (xs.take (i+1)))) (jt (xs.take (i+1))).length:=by
   refine ym.congr hS2 (fun y=> ?_) ?_
   ·rw [et,aer]
    by_cases h1:y∈jt (xs.take i)
    ·simp [h1,ach]
    ·by_cases h2:y=x
     ·simp [h1,h2,ach]
     ·simp [h1,h2,ach]
   ·rw [et,aer]
    by_cases h1:x∈jt (xs.take i)
    ·rw [show qy (jt (xs.take i)) x=jt (xs.take i) from by unfold qy;rw [if_pos h1]];simp [h1]
    ·rw [show qy (jt (xs.take i)) x=jt (xs.take i)++ [x] from by unfold qy;rw [if_neg h1]];simp [h1]
  refine af ⟨gV dR _,ih (i+1) _ (by lia) (W.frame _ s' _ _ hst' (iM _) fun b hbm o e=> ?_) hS3 fun s'' mv2 hS''=> ?_⟩
  ·rw [sb.2 b (fun z:b=p=> hp (by rw [←z];exact hbm))];exact e
  ·refine hR s'' (Moved.trans W.gtrans ((mv.mono up).then_heap (iM _) fun b o hbm e=> ?_) mv2) hS''
   rw [sb.2 b (fun z:b=p=> hbm (by rw [z];exact av))];exact e
end
section
variable{prog:aI}{w:aM}{A:aZ}{s:ag}{E:ae -> ag -> Prop}
theorem ake{T:String}{oc:Obj}(hh:A.handled=none)(hT:T="list"\/T="tuple")(ho:s.heap.get? a=some oc)(hc:oc.cls=.type T){its:Array ae}{k:Nat}(hd:oc.data=.seq its k)(xs:List Int)(hx:jj (xs.map V.int) its.toList)(hb:its.size+1 < cL)(h: ∀(h':Heap) (tk:Nat),ym prog w h' s.heap.objs.size (fun y=> decide (y∈jt xs)) (jt xs).length -> (∀b o,b < s.heap.objs.size -> s.heap.get? b=some o -> h'.get? b=some o) -> Q (.ref s.heap.objs.size) {s with heap:=h',toks:=tk}):
  wpAny (model prog w) A (call (.type "set") [.ref a]) Q E s:=by
 have hlen:xs.length=its.size:=by
  have:=hx.length
  rw [am]at this
  simpa using this
 refine ark hh hT ho hc hd (fun A' I fp wr P St s0 R W hP nf st g0 k=> ?_) h
 obtain⟨led,hled,g0⟩:=g0
 refine atn W s.heap.objs.size nf xs hlen (fun i v hv=> ?_) hb its.size 0 s0 (by lia) st ⟨_,#[],0,_,g0,⟨rfl,rfl,rfl⟩,rfl,⟨fun e he=> by simp at he,fun k=> by simp [jt],by decide,rfl,rfl⟩,hled,.inr ⟨gK,rfl⟩⟩ k
 have hv:=hP i v hv
 have hi:i < its.size:=(cb.mp hv).1
 have hxi:(xs.map V.int)[i]?=some (.int xs[i]):=by rw [aR,aq (by lia)];rfl
 obtain⟨u,hu,ru⟩:=hx.get hxi
 rw [bj,hv]at hu
 cases hu
 obtain⟨t,e⟩:=(show∃t,v=eE xs[i] t from ru)
 exact⟨xs[i],t,aq (by lia),e⟩
end
def ai7(P:aI)(w:aM)(p:Addr)(xs:List Int):HO:=.ext fun h=> ym P w h p (fun y=> decide (y∈jt xs)) (jt xs).length
theorem auy{xs:List Int}(hS:ym P w h p (fun y=> decide (y∈jt xs)) (jt xs).length):jx P w H h p (ai7 P w p xs):=by
 refine⟨hS,?_,fun h1 h2 z k=> ?_⟩
 ·obtain⟨o,_,_,_,e,_⟩:=hS
  exact⟨o,e⟩
 ·obtain⟨o,es,ep,t,e,q⟩:=z
  exact⟨o,es,ep,t,k o e,q⟩
theorem ara(hc:X.calm=true):xv X (.type "set") (fun vs H Q=> ∃a xs,vs=[.ref a]/\(SqL X.K H a (xs.map V.int)\/SqT X.K H a (xs.map V.int))/\xs.length < 4000/\ ∀p H',New H p (ai7 X.prog X.w p xs) H' -> Q (.ref p) H'):=by
 intro pins s σ H vs us Q I r h
 obtain⟨a,xs,rfl,hS,hl,q⟩:=h
 obtain⟨u,rfl,ru⟩:=vals1 r
 cases ru
 have hh:=I.ok.hd hc
 have fin: ∀(h':Heap) (tk:Nat),ym X.prog X.w h' s.heap.objs.size (fun y=> decide (y∈jt xs)) (jt xs).length -> (∀b o,b < s.heap.objs.size -> s.heap.get? b=some o -> h'.get? b=some o) ->
   EP X pins σ Q (.ref s.heap.objs.size) {s with heap:=h',toks:=tk}:=fun h' tk z k=>
  ⟨.ref s.heap.objs.size,upd H s.heap.objs.size (ai7 X.prog X.w s.heap.objs.size xs),I.laid (fun b u e=> k b u (aD e) e) (ao _) (auy z),rfl,q _ _ ⟨I.fresh,rfl⟩⟩
 rcases hS with hS|hS
 ·obtain⟨its,rv,⟨o,n,e,c,dd,d⟩,z⟩:=I.list hS
  have hsz:its.toArray.size+1 < cL:=by
   have:=rv.length
   rw [am]at this
   rw [aC]
   unfold cL
   lia
  exact ake hh (.inl rfl) e c d xs (by simpa using rv) hsz fin
 ·obtain⟨its,rv,⟨o,e,c,n,d⟩,z⟩:=I.tuple hS
  have hsz:its.toArray.size+1 < cL:=by
   have:=rv.length
   rw [am]at this
   rw [aC]
   unfold cL
   lia
  exact ake hh (.inr rfl) e c d xs (by simpa using rv) hsz fin
section
variable{prog:aI}{w:aM}{A:aZ}{E:ae -> ag -> Prop}{s:ag}
theorem au9{r:Addr}{ks:List Int}(h64:ks.length < 64)(coll: ∀(R:List ae -> ag -> Prop),(∀h' d' tk (vs:List ae) (xs:List Int),iC vs xs -> xs.Perm ks -> (∀b u,s.heap.get? b=some u -> h'.get? b=some u) -> R vs {s with heap:=h',drawn:=d',toks:=tk}) -> wpAny (model prog w) A.in1 (collect (.ref r)) R E s)(h: ∀(h1 h':Heap) (d':Drawn) (tk e:Nat) (out:Array ae) (xs:List Int),iC out.toList xs -> xs.Perm ks -> xs.Pairwise (· <= ·) -> (∀b u,s.heap.get? b=some u -> h1.get? b=some u) -> h'.get? h1.objs.size=some (seqObj "list" out e) -> (∀b u,h1.get? b=some u -> h'.get? b=some u) ->
   Q (.ref h1.objs.size) {s with heap:=h',drawn:=d',toks:=tk}):wpAny (model prog w) A (call (.builtin "sorted") [.ref r]) Q E s:=by
 refine jR kind_sorted plain_sorted entry_sorted (args_sorted1 _) ?_;unfold cG.«sorted»
 refine aa (m:=checkCount "sorted" 1 1 _) (af (aa (coll _ fun h' d' tk vs xs st pm k=> ?_)))
 have lv:vs.length < 64:=by
  have:vs.length=xs.length:=by rw [←st.nums,am]
  rw [this,pm.length_eq];exact h64
 refine aa (mO ?_ (by rw [b6];lia));have g:(h'.push {cls:=.type "list",data:=.seq vs.toArray}).get? h'.objs.size=some (seqObj "list" vs.toArray 0):=aA _ rfl
 refine aa (bo (bh slot_list_sort ⟨_,g,rfl⟩ entry_list_sort (list_sort_tree g st lv fun out ys y1 y2 y3=> ⟨_,rfl,?_⟩) (args_list_sort _)))
 obtain⟨e,ge⟩:=sortedHeap_at (out:=out) g
 refine af ⟨_,rfl,h h' _ d' tk e _ ys y1 (y2.trans pm) y3 k ge fun b u eb=> ?_⟩
 have lb:=aD eb
 rw [sortedHeap_old (aH lb) (by rw [bA];exact cq lb)]
 exact ak _ eb
end
theorem am9: ∀{vs:List ae} {xs:List Int},iC vs xs -> jj (xs.map V.int) vs
 |_,_,.nil=>.nil
 |_,_,.cons n t h=>.cons ⟨t,rfl⟩ (am9 h)
end L2
namespace PF
open PySem PySem.Spec
open L2
noncomputable def zd(ks:List Int):List Int:=ks.mergeSort fun a b=> decide (a <=b)
theorem za(ks:List Int):(zd ks).Perm ks:=List.mergeSort_perm _ _
theorem afi(ks:List Int):(zd ks).Pairwise (· <= ·):=
 (List.pairwise_mergeSort (le:=fun a b:Int=> decide (a <=b)) (fun a b c h k=> decide_eq_true (Int.le_trans (of_decide_eq_true h) (of_decide_eq_true k))) (fun a b=> by
  rcases Int.le_total a b with h|h
  ·rw [decide_eq_true h];rfl
  ·rw [decide_eq_true h,Bool.or_true]) ks).imp fun h=> of_decide_eq_true h
theorem ajz: ∀{l m:List Int},l.Perm m -> l.Pairwise (· <= ·) -> m.Pairwise (· <= ·) -> l=m
 |[],m,p,_,_=> (List.nil_perm.mp p).symm
 |a::l,[],p,_,_=> by have:=p.length_eq;simp at this
 | a::l,b::m,p,h,k=> by
  have ha:=ce.mp h
  have hb:=ce.mp k
  have e:a=b:=by
   have h1:a∈b::m:=p.mem_iff.mp av
   have h2:b∈a::l:=p.mem_iff.mpr av
   rcases aE.mp h1 with z|z
   ·exact z
   ·rcases aE.mp h2 with y|y
    ·exact y.symm
    ·exact Int.le_antisymm (ha.1 b y) (hb.1 a z)
  subst e
  rw [ajz (hJ.cons_inv p) ha.2 hb.2]
theorem a0i{ks js:List Int}(p:js.Perm ks)(h:js.Pairwise (· <= ·)):js=zd ks:=ajz (p.trans (za ks).symm) h (afi ks)
open PyProof.Rows in
theorem amm(hc:X.calm=true)(hu:X.A.units+70 < cLine):xv X (.builtin "sorted") (fun vs H Q=> ∃a xs,vs=[.ref a]/\H a=some (ai7 X.prog X.w a xs)/\(jt xs).length < 64/\ ∀p H',New H p (.lst ((zd (jt xs)).map V.int)) H' -> Q (.ref p) H'):=by
 intro pins s σ H vs us Q I r h
 obtain⟨a,xs,rfl,e,hl,q⟩:=h
 obtain⟨u,rfl,ru⟩:=vals1 r
 cases ru
 have hh:=I.ok.hd hc
 obtain⟨hx,_,_⟩:=(show jx X.prog X.w H s.heap a (ai7 X.prog X.w a xs) from I.hok a _ e)
 obtain⟨o,es,ep,t,eo,ex,d,⟨hel,hmem,hb,hf,hn⟩,tx⟩:=hx
 refine au9 hl (fun R k=> am2 (by exact hh) eo ex d hf hb (tx.x _) fun h' d' tk ord p kp=> ?_) ?_
 ·have al: ∀v∈ord,∃i t,v=eE i t:=fun v hv=> by
   obtain⟨en,m,rfl⟩:=a8.mp (p.mem_iff.mp hv)
   obtain⟨⟨y,hy,_⟩,_⟩:=hel en m
   obtain⟨t,z⟩:=jC (show fj y en.2=true from hy)
   exact⟨y,t,z⟩
  refine k h' d' tk ord (ord.map numOf) (intsAre_map ord al) ?_ kp
  refine (ao3 (ah1 xs).1 (fun y hy=> ?_) ?_).symm
  ·obtain⟨en,m,hy'⟩:=(hmem y).mp (by simpa using hy)
   obtain⟨t,z⟩:=jC (show fj y en.2=true from hy')
   exact a8.mpr ⟨en.2,p.mem_iff.mpr (a8.mpr ⟨en,m,rfl⟩),by rw [z];rfl⟩
  ·rw [am,p.length_eq,am,au,hn]
   exact ao _
 ·intro h1 h' d' tk e out ys st pm so k1 g k2
  have I1:Inv X pins σ H {s with heap:=h1,toks:=s.toks}:=I.un (Un.kept k1) (I.hok.kept k1)
  have lx:ys.length < 64:=by rw [pm.length_eq];exact hl
  have ey:=a0i pm so
  subst ey
  have I2:Inv X pins σ (upd H h1.objs.size (.lst ((zd (jt xs)).map V.int))) {s with heap:=h',toks:=tk}:=I1.laid (t':=tk) k2 (ao _) ⟨by rw [am,b6];lia,out.toList,e,am9 st,by simpa [seqObj] using g⟩
  exact⟨.ref h1.objs.size,_,I2.drew d',rfl,q _ _ ⟨I1.hok.fresh (ao _),rfl⟩⟩
noncomputable def abn:List D -> Option (List Int)
 |[]=> some []
 |.da (.int i)::r=> match abn r with
  |some xs=> some (i::xs)
  |none=> none
 |_=> none
theorem alj{K:aj}{as:As}{H:Hp}: ∀{xs:List V} {ds:List D} {is:List Int},RDs K as H xs ds -> abn ds=some is -> xs=is.map V.int
 |_,_,is,.nil,h=> by cases h;rfl
 | x::xs,d::ds,is,.cons r rs,h=> by
  unfold abn at h
  split at h
  ·cases‹_::_=_›
  ·rename_i i r' e
   cases e
   split at h
   ·rename_i ys q
    cases h
    rw [alj rs q]
    cases r.int_inv
    rfl
   ·cases h
  ·cases h
theorem ajj{K:aj}{as:As}{H:Hp}: ∀is:List Int,RDs K as H (is.map V.int) (is.map D.int)
 |[]=>.nil
 |i::r=>.cons (.da (.int i)) (ajj r)
def acv(m:Bool)(ds:List D)(s:S):R D:=match ds with
 |[d]=> match (aee s d).bind abn with
  |some is=> if is.length < 4000/\(jt is).length < 64 then kj m ((zd (jt is)).map D.int) s else .bad
  |none=>.bad
 |_=>.bad
section
variable[XW]{X:Cx}
theorem anh(m:Bool){p1 p2 pos2:Pos}(hc:X.calm=true)(hu:X.A.units+70 < cLine)(hm1:X.mg "sorted"=none)(hm2:X.mg "set"=none)(ha:RA X [e] f)(hg1:Gl X "sorted":=by rfl)(hg2:Gl X "set":=by rfl)(hs:starEach [e] X.env=(false,eval e X.env)::starEach [] X.env:=by rfl)(hs2:starEach [.Call (.Name "set" p2) [e] [] pos2] X.env=(false,eval (.Call (.Name "set" p2) [e] [] pos2) X.env)::starEach [] X.env:=by rfl)(hpl:(backTo pos (starEach [] X.env)).any (·.1)=false:=by rfl)(hpl2:(backTo pos2 (starEach [] X.env)).any (·.1)=false:=by rfl):
  RE X (.Call (.Name "sorted" p1) [.Call (.Name "set" p2) [e] [] pos2] [] pos) (fCB (acv m) f):=by
 obtain⟨t,pa,ra⟩:=ha.ex
 have pset:=ak2 (X:=X) (ara hc) hg2 hm2 a3y pa (pos:=pos2) (p:=p2) (by decide) (by decide) hs hpl2
 have psort:=agz (X:=X) (amm hc hu) hg1 hm1 aav (afq pset ahw hs2) (pos:=pos) (p:=p1) (by decide) (by decide) hs2 hpl
 refine⟨_,psort,fun as σ H ρ s Q rl en h=> ?_⟩
 refine ra as σ H ρ s _ rl en (Dn.bind h fun ds s1 as1 H1 vs st1 rl1 r1 h1=> ?_)
 unfold acv at h1
 split at h1
 ·obtain⟨v,rfl,rv⟩:=r1.one
  split at h1
  ·rename_i is e
   split at h1
   ·rename_i hz
    cases e2:aee s1 _ with
    |none=> rw [e2]at e;cases e
    |some xs=>
     rw [e2]at e
     obtain⟨p,zs,rfl,sq,rz⟩:=ad8 rl1 rv e2
     have ez:=alj rz (show abn xs=some is from e)
     subst ez
     refine⟨p,is,rfl,sq,hz.1,fun q H2 n2=> ⟨q,is,rfl,n2.at,hz.2,fun r H3 n3=> ?_⟩⟩
     exact zl (Dn.step h1 (k8 n2)) (rl1.new n2) (ajj _) n3
   ·exact h1.elim
  ·exact h1.elim
 ·exact h1.elim
end
end PF
namespace L2
open PySem PySem.Spec PyProof.Rows
section
variable{P:aI}{w:aM}{A:aZ}{E:ae -> ag -> Prop}{s:ag}
structure NAt (b:Bool) (l e i:Addr) (n:Int) (k:Nat) (h:Heap):Prop where
 ne:e≠i
 oe: ∃old,lU h e i n old
 c:zn b h i l k
theorem a19{e i l:Addr}{n:Int}{k:Nat}{xs:Array ae}{x:ae}(N:NAt b l e i n k s.heap)(hl:ab6 b s.heap l xs)(hx:xs[k]?=some x)(hQ: ∀h' t,nD h' e i (n+1) x s.heap.objs.size -> zn b h' i l (k+1) -> h'.get? s.heap.objs.size=some {cls:=.type "tuple",data:=.seq #[.int n s.toks,x]} ->
   (∀c o,c≠e -> c≠i -> s.heap.get? c=some o -> h'.get? c=some o) -> Q (.ref s.heap.objs.size) {s with heap:=h',toks:=t}):
  wpAny (model P w) A (cG.«enumerate.__next__» ⟨[.ref e],[]⟩) (fun fin s'=> ∃v,fin=.done (.ret v)/\Q v s') E s:=by
 (obtain⟨hp,g,d,tk,os⟩:=s)
 obtain⟨ne,⟨old,he⟩,hc⟩:=N
 (show wpAny _ _ (field (.ref e) 2 >>=_) _ _ _);refine aa (b7 he rfl (x:=.ref i) rfl (aa (anm hc hl hx fun h1 c1 e1=> ?_)))
 have e1:bi i hp h1:=e1
 have he1:lU h1 e i n old:=(e1.2 e ne).trans he
 (show wpAny _ _ (field (.ref e) 3 >>=_) _ _ _);refine aa (b7 he1 rfl (x:=rawInt n) rfl ?_)
 (show wpAny _ _ (field (.ref e) 4 >>=_) _ _ _);refine aa (b7 he1 rfl (x:=.none) rfl ?_)
 (show wpAny _ _ (mkInt n >>=_) _ _ _);refine aa (wpAny_mkInt ?_)
 (show wpAny _ _ (setField (.ref e) 3 (rawInt (n+1))>>=_) _ _ _);refine aa (fh he1 (by simp) fun h2 he2 e2=> ?_)
 have e2:bi e h1 h2:=e2
 have he2:lU h2 e i (n+1) old:=he2
 (show wpAny _ _ (setField (.ref e) 4 .none >>=_) _ _ _);refine aa (fh he2 (by simp) fun h3 he3 e3=> ?_)
 have e3:bi e h2 h3:=e3
 have he3:lU h3 e i (n+1) old:=he3
 (show wpAny _ _ (newTuple [.int n tk,x]>>=_) _ _ _);refine aa (wpAny_newTuple ?_)
 have he4:lU (h3.push {cls:=.type "tuple",data:=.seq #[.int n tk,x]}) e i (n+1) old:=ak _ he3
 have sz:h3.objs.size=hp.objs.size:=by rw [e3.1,e2.1,e1.1]
 have lt:e < hp.objs.size:=aD he
 have ht4:(h3.push {cls:=.type "tuple",data:=.seq #[.int n tk,x]}).get? hp.objs.size=some {cls:=.type "tuple",data:=.seq #[.int n tk,x]}:=by rw [←sz];exact aA _ rfl
 have k4: ∀c o,c≠e -> c≠i -> hp.get? c=some o -> (h3.push {cls:=.type "tuple",data:=.seq #[.int n tk,x]}).get? c=some o:=fun c o a1 a2 q=> ak _ (e3.extBut _ _ a1 (e2.extBut _ _ a1 (e1.extBut _ _ a2 q)))
 have c4:zn b (h3.push {cls:=.type "tuple",data:=.seq #[.int n tk,x]}) i l (k+1):=c1.to fun o q=> ak _ (e3.extBut _ _ ne.symm (e2.extBut _ _ ne.symm q))
 generalize (h3.push {cls:=.type "tuple",data:=.seq #[.int n tk,x]})=h4 at he4 ht4 k4 c4⊢
 (show wpAny _ _ (Builtin.SmallTypes.ownedTupleIsFree (.ref e)>>=_) _ _ ⟨h4,g,d,tk+1,os⟩);rw [sz]
 refine aa (aa (b7 he4 rfl (x:=.none) rfl (af ?_)))
 simp only [if_true]
 refine aa (cn (aa (b7 he4 rfl (x:=old) rfl (aa (fh he4 (by simp) fun h5 he5 e5=> ?_)))))
 have e5:bi e h4 h5:=e5
 have he5:lU h5 e i (n+1) x:=he5
 (show wpAny _ _ (Builtin.SmallTypes.ownedTupleHandOut (.ref e) (.ref hp.objs.size)>>=_) _ _ ⟨h5,g,d,tk+1,os⟩);refine aa (aa (fh he5 (by simp) fun h6 he6 e6=> ?_))
 have e6:bi e h5 h6:=e6
 have he6:nD h6 e i (n+1) x hp.objs.size:=he6
 refine fh he6 (by simp) fun h7 he7 e7=> ?_
 have e7:bi e h6 h7:=e7
 have he7:nD h7 e i (n+1) x hp.objs.size:=he7
 have up: ∀c o,c≠e -> h4.get? c=some o -> h7.get? c=some o:=fun c o a1 q=> e7.extBut _ _ a1 (e6.extBut _ _ a1 (e5.extBut _ _ a1 q))
 exact aa (wpAny_letGo (af ⟨_,rfl,hQ h7 _ he7 (c4.to fun o=> up _ o ne.symm) (up _ _ (fA lt) ht4) fun c o a1 a2 q=> up c o a1 (k4 c o a1 a2 q)⟩))
theorem atw{e i l:Addr}{n:Int}{k:Nat}{xs:Array ae}{x:ae}{Q:Option ae -> ag -> Prop}(N:NAt b l e i n k s.heap)(hl:ab6 b s.heap l xs)(hx:xs[k]?=some x)(hQ: ∀h' t,nD h' e i (n+1) x s.heap.objs.size -> zn b h' i l (k+1) -> h'.get? s.heap.objs.size=some {cls:=.type "tuple",data:=.seq #[.int n s.toks,x]} ->
   (∀c o,c≠e -> c≠i -> s.heap.get? c=some o -> h'.get? c=some o) -> Q (some (.ref s.heap.objs.size)) {s with heap:=h',toks:=t}):wpAny (model P w) A (pyNext (.ref e)) Q E s:=
 have hT:s.TypeIs (.ref e) "enumerate":=let ⟨_,h⟩:=N.oe;⟨_,h,rfl⟩
 aa (d6 (br (name:=cr "__next__") hT fF (bh fF hT lD (a19 N hl hx fun h' t a1 a2 a3 a4=> af (hQ h' t a1 a2 a3 a4)) (kN _))))
theorem a09{e i l:Addr}{n:Int}{k:Nat}{xs:Array ae}{Q:Option ae -> ag -> Prop}(hh:A.handled=none)(N:NAt b l e i n k s.heap)(hl:ab6 b s.heap l xs)(hx:xs[k]?=none)(hQ: ∀h',eG i s.heap h' -> Q none {s with heap:=h'}):wpAny (model P w) A (pyNext (.ref e)) Q E s:=by
 obtain⟨ne,⟨old,he⟩,hc⟩:=N
 (have hT:s.TypeIs (.ref e) "enumerate":=⟨_,he,rfl⟩)
 refine aa (d6 (br (name:=cr "__next__") hT fF (bh fF hT lD ?_ (kN _))))
 (show wpAny _ _ (field (.ref e) 2 >>=_) _ _ _);refine aa (b7 he rfl (x:=.ref i) rfl ?_)
 exact aa (aq2 hh hc hl hx fun h' x e1 ⟨o,ho,hcl⟩=> aa (eN (T:="StopIteration") (b:=true) ⟨o,ho,hcl⟩ iH (af (hQ _ e1))))
end
noncomputable def Itn(K:aj)(b:Bool)(l:Addr)(n:Int):It:=
 ⟨fun i H=> ∃xs x,SqB K b H l xs/\xs[i]?=some x,
   fun i H v H'=> ∃T,v=.ref T/\ ∀xs,SqB K b H l xs -> ∃x,xs[i]?=some x/\New H T (.tup [.int (n+i),x]) H',
   fun i H=> ∃xs,SqB K b H l xs/\xs.length <=i⟩
theorem au6{x1:Nat}{n:Int}(l e i:Addr):Turn P w K (.Tuple es x1 pos) (Itn K b l n) [e,i] e (fun k h=> NAt b l e i (n+k) k h) where
 mem:=by simp
 obj:=fun k h ⟨_,⟨old,he⟩,q⟩ c hb=> by
  obtain⟨o1,e1,v1,d1⟩:=q.obj
  (simp only [aE,cK,or_false]at hb)
  rcases hb with rfl|rfl
  ·exact⟨_,he,fun v y=> by cases y⟩
  ·exact⟨_,e1,fun v y=> by rw [d1]at y;cases y⟩
 keep:=fun k h h' ⟨ne,⟨old,he⟩,q⟩ kp=> ⟨ne,⟨old,kp e (by simp) _ he⟩,q.to fun o z=> kp i (by simp) o z⟩
 item:=by
  intro X hP hw hK hc k pins s σ H E I hf st hg
  subst hP hw hK
  obtain⟨xs,x,q1,hx⟩:=hg
  obtain⟨its1,rv1,p1⟩:=I.seqB q1
  obtain⟨u1,hu1,ru1⟩:=rv1.get hx
  have lt: ∀c∈ [e,i],c < s.heap.objs.size:=fun c hb=> by
   obtain⟨_,⟨old,he⟩,q⟩:=st
   obtain⟨o1,e1,_⟩:=q.obj
   (simp only [aE,cK,or_false]at hb)
   rcases hb with rfl|rfl
   ·exact aD he
   ·exact aD e1
  refine atw st p1 (x:=u1) (by simpa using hu1) fun h' t a1 a2 a3 kp=> ?_
  refine⟨_,rfl,wpAny_letOwnedTupleGo_enum (s:={s with heap:=h',toks:=t}) a1 fun h2 he2 sb=> ?_⟩
  have I1:Inv X pins σ (upd H s.heap.objs.size (.tup [.int (n+k),x])) {s with heap:=s.heap.push {cls:=.type "tuple",data:=.seq #[.int (n+k) s.toks,u1]},toks:=t}:=
   I.laid (t':=t) (fun c u q=> ak _ q) (ao _) ⟨by show 2 <=sizeLine;decide,[.int (n+k) s.toks,u1],.cons ⟨_,rfl⟩ (.cons ru1 .nil),⟨_,aA _ rfl⟩⟩
  have nT: ∀c∈ [e,i],upd H s.heap.objs.size (.tup [.int (n+k),x]) c=none:=fun c hb=> by
   rw [j7 (aH (lt c hb))];exact (hf c hb).1
  have I2:=I1.turnedL (h':=h2) (t':=t) (ch:=[e,i]) (fun c o hb q=> by
   have hbe:c≠e:=fun y=> hb (by simp [y])
   rw [sb.2 c hbe]
   by_cases hT:c=s.heap.objs.size
   ·subst hT
    rw [aA _ rfl]at q
    cases q
    exact a3
   ·rw [fy _ _ _ hT]at q
    exact kp c o hbe (fun y=> hb (by simp [y])) q) fun c hb=> ⟨nT c hb,(hf c hb).2⟩
  refine⟨.ref s.heap.objs.size,_,I2,rfl,⟨_,rfl,fun xs' q1'=> ?_⟩,⟨st.ne,⟨u1,?_⟩,a2.to fun o=> sb.extBut _ _ st.ne.symm⟩,nT⟩
  ·rw [I.seqB_inj q1' q1]
   exact⟨x,hx,I.fresh,rfl⟩
  ·have:n+((k+1:Nat):Int)=n+k+1:=by lia
   rw [this];exact he2
 done:=by
  intro X hP hw hK hc k pins s σ H E I hf st hg
  subst hP hw hK
  obtain⟨xs,q1,hx⟩:=hg
  obtain⟨its1,rv1,p1⟩:=I.seqB q1
  have l1':=rv1.length
  exact a09 (I.ok.hd hc) st p1 (by simp;lia) fun h' kp=> ⟨rfl,I.turnedL (t':=s.toks) (ch:=[e,i]) (fun c o hb q=> kp c o (fun y=> hb (by simp [y])) q) hf⟩
 self:=fun _ _ _ _ _ st h=> let ⟨_,he⟩:=st.oe;wpAny_pyIter_enum he h
section
variable{P:aI}{w:aM}{A:aZ}{E:ae -> ag -> Prop}{s:ag}
def nH(h:Heap)(b:Bool)(l:Addr)(n:Int):Heap:=(h.push {cls:=.type (aqs b),data:=.fields #[.ref l,.int 0 0]}).push {cls:=.type "enumerate",data:=.fields #[.none,.bool false,.ref h.objs.size,rawInt n,.none,.none]}
theorem atj(b:Bool)(l:Addr)(xs:Array ae):
  Meets (cG.«enumerate.__new__» ⟨[.type "enumerate",.ref l],[]⟩) (fun _ R s=> ab6 b s.heap l xs/\R (.ok (.ret (.ref (s.heap.objs.size+1)))) {s with heap:=nH s.heap b l 0}):=
 .of_wp fun prog w A R s h=> by
  obtain⟨hp,g,d,tk,os⟩:=s;obtain⟨h1,h⟩:=h
  have hsub:=sub_enumerate
  have L1:ab6 b (Shared.heap ⟨hp,g,d,tk,os⟩) l xs:=h1
  wp_walk
  (refine wpAny_stack_any fun st=> af ?_)
  split
  ·rename_i c _ _ _ _ _
   (cases (c==bu "enumerate"))
   ·wp_walk using aq6 L1
    refine⟨_,rfl,?_⟩
    simp only [bA];exact h
   ·wp_walk using aq6 L1
    refine⟨_,rfl,?_⟩
    simp only [bA];exact h
  ·wp_walk using aq6 L1
   refine⟨_,rfl,?_⟩
   simp only [bA];exact h
theorem avx{l:Addr}{n:Int}:NAt b l (h.objs.size+1) h.objs.size n 0 (nH h b l n):=by
 have g2:lU (nH h b l n) (h.objs.size+1) h.objs.size n .none:=by
  have:=aA (h.push {cls:=.type (aqs b),data:=.fields #[.ref l,.int 0 0]}) (o:={cls:=.type "enumerate",data:=.fields #[.none,.bool false,.ref h.objs.size,rawInt n,.none,.none]}) rfl
  rw [bA]at this;exact this
 exact⟨by unfold Addr at*;lia,⟨_,g2⟩,a6h (ak _ (aA _ rfl))⟩
theorem aue{l:Addr}{xs:Array ae}(h1:ab6 b s.heap l xs)(h: ∀h',NAt b l (s.heap.objs.size+1) s.heap.objs.size 0 0 h' -> (∀c o,s.heap.get? c=some o -> h'.get? c=some o) -> Q (.ref (s.heap.objs.size+1)) {s with heap:=h'}):
  wpAny (model P w) A (call (.type "enumerate") [.ref l]) Q E s:=by
 refine callType_new F.called_enumerate (by decide) (F.typeCall_enumerate_1 _) (F.newCall_enumerate_1 _) (fun obj=> F.args_object_init_2 obj _) F.entry_enumerate_new (atj b l xs) ⟨h1,?_⟩
 have z:=avx (b:=b) (l:=l) (n:=0) (h:=s.heap)
 refine⟨?_,h _ z fun c o x=> ak _ (ak _ x)⟩
 obtain⟨_,⟨o,q⟩,_⟩:=z
 exact⟨_,q,rfl⟩
end
theorem anc:bT "enumerate"=some (.type "enumerate"):=by decide+kernel
def a69(K:aj)(ta:TA):TI:=fun σ H R=> ta σ H fun vs H1=> ∃l xs b,vs=[.ref l]/\SqB K b H1 l xs/\R (Itn K b l 0) H1
theorem a1e{x1:Nat}{tp:Pos}{a:Expr}{ta:TA}{p:Pos}(hg:Gl X "enumerate")(hm:X.mg "enumerate"=none)(ha:PA X [a] ta)(hs:starEach [a] X.env=[(false,eval a X.env)]:=by rfl):
  PI X (.Tuple es x1 tp) (.Call (.Name "enumerate" p) [a] [] pos) (a69 X.K ta):=by
 intro pins s σ H R I h
 refine Call_ (afc I hg hm anc (fH (thn (ha pos pins s σ H _ I h) fun us s1 ⟨vs,H1,I1,r1,q1⟩=> ?_) hs rfl))
 obtain⟨l,xs,b,e,q1,q⟩:=q1
 subst e
 obtain⟨u,rfl,r⟩:=vals1 r1
 cases r
 obtain⟨its1,rv1,p1⟩:=I1.seqB q1
 refine aue p1 fun h' Z k=> ?_
 obtain⟨old,he⟩:=Z.oe
 refine wpAny_pyIter_enum (s:={s1 with heap:=h'}) he ?_
 refine⟨s1.heap.objs.size+1,_,_,_,H1,rfl,I1.kept (t':=s1.toks) k,au6 (n:=0) l _ _,Z,fun b hb=> ?_,q⟩
 have hb':s1.heap.objs.size <=b:=by
  (simp only [aE,cK,or_false]at hb)
  rcases hb with rfl|rfl <;> (unfold Addr at*;lia)
 exact I1.fpOk hb' (I1.hok.fresh hb')
end L2
namespace PF
open PySem PySem.Spec
open L2
variable[XW]
noncomputable def enD:Int -> List ac -> List D
 |_,[]=> []
 |n,x::r=>.tup [.int n,x]::enD (n+1) r
theorem aif: ∀(xs:List ac) (n:Int) (i:Nat),(enD n xs)[i]?=xs[i]?.map fun x=> D.tup [.int (n+i),x]
 |[],n,i=> by simp [enD]
 |x::r,n,0=> by simp [enD]
 |x::r,n,i+1=> by
  have e:n+1+(i:Int)=n+((i+1:Nat):Int):=by lia
  rw [enD,cQ,cQ,aif r (n+1) i,e]
theorem aj3: ∀(xs:List ac) (n:Int),(enD n xs).length=xs.length
 |[],_=> rfl
 |x::r,n=> by rw [enD,az,az,aj3 r]
def alt(n:Int)(ds:List D)(s:S):R Wk:=match ds with
 | [.ref a]=> match s[a]? with
  |some (.lst es)=> match j8 es with
   |some xs=>.ok (enD n xs,some (a,.lst es)) s
   |none=>.bad
  |_=>.bad
 |[a]=> match sqD a with
  |some (_,xs)=>.ok (enD n xs,none) s
  |_=>.bad
 |_=>.bad
def aws(n:Int)(f:FA):FI:=fun ρ s=> (f ρ s).bind (alt n)
theorem a2k{n:Int}{ds:List D}{Q:It -> Hp -> Prop}(rl:Rel K as H s)(r:RDs K as H vs ds)(h:Dn K (ad1 K) as H (alt n ds s) Q): ∃l xs b,vs=[.ref l]/\SqB K b H l xs/\Q (Itn K b l n) H:=by
 unfold alt at h
 split at h
 ·rename_i n0
  obtain⟨v,rfl,rv⟩:=r.one
  split at h
  ·rename_i es e
   split at h
   ·rename_i xd px
    cases rv with
    | @ref pp _ l hr=>
     obtain⟨ha,xs,hx,rs⟩:=zc rl hr e
     refine⟨pp,xs,true,rfl,SqL.of hx,Dn.now (Q:=Q) h rl ?_⟩
     intro as2 H2 s2 st2 rl2 so i
     have so':s2[n0]?=some (O.lst es):=so
     obtain⟨q,hq⟩:=rl2.li _ _ so' (by intro z;cases z)
     have e2:=hq
     have em:=yg px
     subst em
     rcases st2.old _ l with z|z
     ·rw [z]at e2
      cases hr q e2
      obtain⟨ys,hy,rs2⟩:=rl2.ob _ _ _ hq so'
      have sq1:SqB K true H2 pp ys:=SqL.of hy
      refine⟨fun hl=> ⟨ys,sq1,by rw [rs2.length,am];rw [aj3]at hl;exact hl⟩,fun d hd=> ?_⟩
      rw [aif]at hd
      cases qq:xd[i]? with
      |none=> rw [qq]at hd;cases hd
      |some pr=>
       rw [qq]at hd
       cases hd
       obtain⟨x,hx,rx⟩:=rs2.get (d:=D.da pr) (by rw [aR,qq];rfl)
       refine⟨⟨ys,x,sq1,hx⟩,fun vv H3 hv=> ?_⟩
       obtain⟨T,rfl,hT⟩:=hv
       obtain⟨x',hx',nw⟩:=hT ys sq1
       rw [hx]at hx';cases hx'
       cases rx with
       |da rt=> exact⟨k8 nw,rl2.new nw,.da (.tup (fun z=> rl2.has z nw.no) nw.at (.cons (.int _) (.cons (rt.mono (k8 nw)) .nil)))⟩
     ·rw [z]at e2;cases e2
   ·exact h.elim
  ·exact h.elim
 ·split at h
  ·rename_i d _ b xd ea
   obtain⟨v,rfl,rv⟩:=r.one
   obtain⟨l,xs,rfl,k1,t1⟩:=az5 rv ea
   refine⟨l,xs,_,rfl,k1 as H (Step.refl _ _).toStep0,Dn.now (Q:=Q) h rl ?_⟩
   intro as2 H2 s2 st2 rl2 _ i
   have sq1:=k1 as2 H2 st2
   have u1:=t1.mono0 st2
   refine⟨fun hl=> ⟨xs,sq1,by rw [u1.length];rw [aj3]at hl;exact hl⟩,fun d hd=> ?_⟩
   rw [aif]at hd
   cases q:xd[i]? with
   |none=> rw [q]at hd;cases hd
   |some pr=>
    rw [q]at hd
    cases hd
    obtain⟨x,hx,rx⟩:=u1.get q
    refine⟨⟨xs,x,sq1,hx⟩,fun vv H3 hv=> ?_⟩
    obtain⟨T,rfl,hT⟩:=hv
    obtain⟨x',hx',nw⟩:=hT xs sq1
    rw [hx]at hx';cases hx'
    exact⟨k8 nw,rl2.new nw,.da (.tup (fun z=> rl2.has z nw.no) nw.at (.cons (.int _) (.cons (rx.mono (k8 nw)) .nil)))⟩
  ·exact h.elim
 ·exact h.elim
theorem a2n{x1:Nat}{tp:Pos}{a:Expr}{p:Pos}(hm:X.mg "enumerate"=none)(h:RA X [a] f)(hg:Gl X "enumerate":=by rfl)(hs:starEach [a] X.env=[(false,eval a X.env)]:=by rfl):
  RI X (.Tuple es x1 tp) (.Call (.Name "enumerate" p) [a] [] pos) (aws 0 f):=by
 obtain⟨t,pa,ra⟩:=h.ex
 refine⟨_,a1e hg hm pa hs,fun as σ H ρ s Q rl en h=> ?_⟩
 exact ra as σ H ρ s _ rl en (Dn.bind h fun ds s1 as1 H1 vs st1 rl1 r1 h1=> a2k rl1 r1 h1)
end PF
namespace PF
open PySem PySem.Spec
open L2
variable[XW]
end PF
namespace PF
open PySem PySem.Spec
open L2
variable[XW]
end PF
namespace PF
open PySem PySem.Spec
open L2
variable[XW]
end PF
namespace PF
open PySem PySem.Spec
open L2
variable[XW]
end PF
namespace PF
open PySem PySem.Spec
open L2
variable[XW]
end PF
namespace PF
open PySem PySem.Spec
open PySem.SeqAt
variable[XW]
end PF
namespace PF
open PySem L2
theorem a8b{k:Int}:aws k f ρ s=(f ρ s).bind (alt k):=(rfl)
end PF
namespace PF
open PySem PySem.Spec PyProof.Rows
open L2
variable[XW]
end PF
namespace PF
open PySem L2
variable{ρ:En}{s:S}{ct:ab1}{f m C:Str}{n k:Nat}{fs:List (Str×D)}{x d:D}
theorem a4c:ad2 ct f fo ρ s=(fo ρ s).bind (av6 ct f):=(rfl)
theorem ajb(h:s[n]?=some (.ins C fs))(h2:ac2 ct C f=true)(h3:fs.lookup f=some x):av6 ct f (.ref n) s=.ok x s:=by
 show (match s[n]? with|some (.ins C fs)=> (if ac2 ct C f=true then (match fs.lookup f with|some x=> R.ok x s|none=>.bad) else .bad)|_=>.bad)=_
 rw [h]
 show (if ac2 ct C f=true then (match fs.lookup f with|some x=> R.ok x s|none=>.bad) else .bad)=_
 rw [if_pos h2,h3]
def aln(ct:ab1)(f:Str)(ρ:En)(x d:D)(s2:S):R Fl:=onI d s2 fun n C fs=> if ac2 ct C f=true/\fs.length < 1000 then .ok (.nx ρ) (s2.set n (.ins C (putN f x fs))) else .bad
def ase(ct:ab1)(f:Str)(fo:FE)(ρ:En)(x:D)(s1:S):R Fl:=(fo ρ s1).bind (aln ct f ρ x)
theorem a38{fv:FE}:apv ct f fo fv ρ s=(fv ρ s).bind (ase ct f fo ρ):=(rfl)
theorem a0p:ase ct f fo ρ x s=(fo ρ s).bind (aln ct f ρ x):=(rfl)
theorem avm(h:s[n]?=some (.ins C fs))(h2:ac2 ct C f=true)(h3:fs.length < 1000):aln ct f ρ x (.ref n) s=.ok (.nx ρ) (s.set n (.ins C (putN f x fs))):=by
 show (match s[n]? with|some (.ins C fs)=> (if ac2 ct C f=true/\fs.length < 1000 then R.ok (Fl.nx ρ) (s.set n (.ins C (putN f x fs))) else .bad)|_=>.bad)=_
 rw [h]
 show (if ac2 ct C f=true/\fs.length < 1000 then R.ok (Fl.nx ρ) (s.set n (.ins C (putN f x fs))) else .bad)=_
 rw [if_pos ⟨h2,h3⟩]
def axh(m:Str)(mt:af5)(fa:FA)(ρ:En)(d:D)(s1:S):R D:=onI d s1 fun _ C fs=> match mt.lookup C,fs.lookup m with
 |some (n,F),none=> (fa ρ s1).bind fun ds s2=> if ds.length+1=n then (F (d::ds) s2).at ρ else .bad
 |_,_=>.bad
def adg(n:Nat)(F:FF)(ρ:En)(d:D)(ds:List D)(s2:S):R D:=if ds.length+1=n then (F (d::ds) s2).at ρ else .bad
theorem a1p{mt:af5}:afm m mt fo fa ρ s=(fo ρ s).bind (axh m mt fa ρ):=(rfl)
theorem agx{mt:af5}{F:FF}(h:s[n]?=some (.ins C fs))(h2:mt.lookup C=some (k,F))(h3:fs.lookup m=none):axh m mt fa ρ (.ref n) s=(fa ρ s).bind (adg k F ρ (.ref n)):=by
 show (match s[n]? with|some (.ins C fs)=> (match mt.lookup C,fs.lookup m with|some (k,F),none=> (fa ρ s).bind (adg k F ρ (.ref n))|_,_=>.bad)|_=>.bad)=_
 rw [h]
 show (match mt.lookup C,fs.lookup m with|some (k,F),none=> (fa ρ s).bind (adg k F ρ (.ref n))|_,_=>.bad)=_
 rw [h2,h3]
theorem ay3{F:FF}:adg 2 F ρ d [x] s=(F [d,x] s).at ρ:=(rfl)
noncomputable def al0(n:Nat)(d:D)(s2:S):R D:=match d with
  |.da .none=>.ok (.ref n) s2
  |_=>.bad
def axm(C:Str)(n:Nat)(F:FF)(ρ:En)(ds:List D)(s1:S):R D:=if ds.length+1=n then ((F (.ref s1.length::ds) (s1++ [.ins C []])).at ρ).bind (al0 s1.length) else .bad
theorem a3l{F:FF}:afz C n F fa ρ s=(fa ρ s).bind (axm C n F ρ):=(rfl)
theorem a0g:al0 n (.da .none) s=.ok (.ref n) s:=(rfl)
end PF
namespace PF
open PySem PySem.Spec
open L2
variable[XW]
theorem amk{as:As}{H:Hp}: ∀is:List Int,TDs as H (is.map V.int) (is.map aX)
 |[]=>.nil
 |i::r=>.cons (.int i) (amk r)
theorem a0e{x:Str}(is:List Int)(c:aw1 X.K X.mg x vs)(e:vs=is.map V.int:=by rfl)(hg:Gl X x:=by rfl)(hd:(x==("__debug__":Str))=false:=by decide):RE X (.Name x pos) (fC (.con (is.map aX))):=by
 obtain⟨a,hm,hs⟩:=c
 subst e
 exact ays (v:=.ref a) (fun as H=>.con hs (amk is)) hm rfl hg hd
end PF
namespace L2
open PySem PySem.Spec PyProof.Rows
noncomputable def Itk(a:Addr)(n:Nat):It:=
 ⟨fun i H=> ∃kvs,DD H a kvs/\kvs.length=n/\i < n,fun i H x H'=> H'=H/\ ∀kvs,DD H a kvs -> ∃k v,kvs[i]?=some (k,v)/\KD H x k,fun i H=> ∃kvs,DD H a kvs/\kvs.length=n/\n <=i⟩
theorem DD.inj{l m:List (ac×V)}(x:DD H a l)(y:DD H a m):l=m:=by
 rcases x with x|⟨x,e⟩
 ·rcases y with y|⟨y,e⟩
  ·rw [x]at y;cases y;rfl
  ·rw [x]at y;cases y
 ·rcases y with y|⟨y,e2⟩
  ·rw [x]at y;cases y
  ·rw [e,e2]
theorem KE.at{kvs:List (ac×V)}{xs:List (ac×Addr×ae)}(r:KE H kvs xs): ∀(i:Nat) (p:ac×V),kvs[i]?=some p -> ∃q,xs[i]?=some q/\KD H (.ref q.2.1) p.1:=by
 induction r with
 |nil=> intro i p e;cases e
 | @cons p q ps qs h t ih=>
  intro i p' e
  cases i with
  |zero=> cases e;exact⟨q,rfl,h.2.1.2⟩
  |succ i=> exact ih i p' e
theorem at6(a it:Addr)(n:Nat):Turn P w K tg (Itk a n) [it] it (fun i h=> h.IsKeyIter it a i n n) where
 mem:=by simp
 obj:=fun i h st b hb=> by
  cases aL.mp hb
  obtain⟨o,e,c,d⟩:=st
  exact⟨o,e,fun v z=> by rw [d]at z;cases z⟩
 keep:=fun i h h' st k=> st.at fun o e=> k it (by simp) o e
 item:=by
  intro X hP hw hK hc i pins s σ H E I hf st hg
  subst hP hw hK
  obtain⟨kvs,dd,hn,hi⟩:=hg
  obtain⟨z,hS,xs,rel,o,es,ep,h1,h2,⟨h3,h3'⟩,h4,h5,h6⟩:=dd.rs I.hok
  have sz:es.size=n:=by rw [f8 h4,←hn];exact (dH rel).symm
  subst h3' sz
  obtain⟨f0,f1,f2,f3,f4,f5⟩:=hf it (by simp)
  obtain⟨p,hp⟩: ∃p,kvs[i]?=some p:=⟨kvs[i],aq (by lia)⟩
  obtain⟨q,hq,kd⟩:=KE.at rel i p hp
  have ek:es[i].key=bn q.2.1:=by
   have e1:=entry_at h4 i
   rw [hq,bf hi]at e1
   rw [bH e1];rfl
  refine alk st ⟨o,h1,h2,h3⟩ hi fun h' st' sb=> ?_
  have I1:Inv X pins σ H {s with heap:=h'}:=I.turned (t':=s.toks) (fun b o hb e=> (sb.2 b hb).trans e) f0 f1 f3 f4 f5
  obtain⟨o',e,c,d⟩:=id st'
  exact⟨_,rfl,akr (s:={s with heap:=h'}) e c d (by decide) ⟨.ref q.2.1,H,I1,ek,⟨rfl,fun ys hy=> by rw [hy.inj dd];exact⟨p.1,p.2,hp,kd⟩⟩,st',fun b hb=> (hf b hb).1⟩⟩
 done:=by
  intro X hP hw hK hc i pins s σ H E I hf st hg
  subst hP hw hK
  obtain⟨kvs,dd,hn,hi⟩:=hg
  obtain⟨z,hS,xs,rel,o,es,ep,h1,h2,⟨h3,h3'⟩,h4,h5,h6⟩:=dd.rs I.hok
  have sz:es.size=n:=by rw [f8 h4,←hn];exact (dH rel).symm
  subst h3' sz
  obtain⟨f0,f1,f2,f3,f4,f5⟩:=hf it (by simp)
  exact an3 (I.ok.hd hc) st ⟨o,h1,h2,h3⟩ hi fun h' eb=> ⟨rfl,I.turned (t':=s.toks) (fun b o hb e=> eb b o hb e) f0 f1 f3 f4 f5⟩
 self:=fun _ _ _ _ _ st h=> mr st h
def a55(tl:TE):TI:=fun σ H R=> tl σ H fun x H1=> ∃a kvs,x=.ref a/\DD H1 a kvs/\R (Itk a kvs.length) H1
theorem a0u{l:Expr}{tl:TE}(hl:PE X l tl):PI X tg l (a55 tl):=by
 intro pins s σ H R I h
 refine thn (hl pins s σ H _ I h) fun v s1 ⟨x,H1,I1,r1,a,kvs,e,dd,q⟩=> ?_
 subst e
 cases r1
 obtain⟨z,hS,xs,rel,o,es,ep,h1,h2,⟨h3,h3'⟩,h4,h5,h6⟩:=dd.rs I1.hok
 have sz:es.size=kvs.length:=by rw [f8 h4];exact (dH rel).symm
 have fp: ∀b∈ [s1.heap.objs.size],zo X pins H1 b:=fun b hb=> by
  cases aL.mp hb
  exact I1.fpOk (ao _) (I1.hok.fresh (ao _))
 refine alg hS ⟨o,h1,h2,h3⟩ ?_
 rw [h3',sz]
 exact⟨s1.heap.objs.size,[s1.heap.objs.size],_,_,H1,rfl,I1.kept (t':=s1.toks) fun b o e=> ak _ e,at6 a _ _,⟨_,aA _ rfl,rfl,rfl⟩,fp,q⟩
end L2
namespace PF
open PySem PySem.Spec
open L2
variable[XW]
def ai5(d:D)(s:S):R Wk:=match d with
 |.ref n=> match s[n]? with
  |some (.dct kvs)=> if (kvs.all fun e=> isT e.1)=true then .ok (kvs.map (fun e=> D.da e.1),some (n,.dct kvs)) s else .bad
  |_=>.bad
 |_=>.bad
def aun(f:FE):FI:=fun ρ s=> (f ρ s).bind ai5
theorem ary{kvs:List (ac×D)}(h:s[n]?=some (.dct kvs))(ht:(kvs.all fun e=> isT e.1)=true):ai5 (.ref n) s=.ok (kvs.map (fun e=> D.da e.1),some (n,.dct kvs)) s:=by
 show (match s[n]? with|some (O.dct kvs)=> if (kvs.all fun e=> isT e.1)=true then R.ok (kvs.map (fun (e:ac×D)=> D.da e.1),some (n,O.dct kvs)) s else .bad|_=>.bad)=_
 rw [h]
 exact if_pos ht
section
variable{X:Cx}{tg a:Expr}{fa:FE}
theorem aod{kvs:List (ac×D)}(h:RO K as H p (.dct kvs))(ht:(kvs.all fun e=> isT e.1)=true): ∃l:List (ac×V),DD H p l/\DRs K as H l kvs:=by
 have hs:v4 kvs (.tuple [])=true:=by
  unfold v4
  rw [ht,show isT (.tuple [])=true by decide];simp
 rcases adj h hs with ⟨l,a,e,_⟩|⟨l,_,dd,dr⟩
 ·cases a <;> cases e
 ·exact⟨l,dd,dr⟩
theorem azd(h:RE X a fa):RI X tg a (aun fa):=by
 obtain⟨t,p,r⟩:=h.ex
 refine⟨_,a0u p,fun as σ H ρ s Q rl en h=> ?_⟩
 refine r as σ H ρ s _ rl en (Dn.bind h fun d s1 as1 H1 v st1 rl1 r1 h1=> ?_)
 cases r1 with
 | @ref pp n l hr=>
  have h1:Dn X.K (ad1 X.K) as1 H1 (match s1[n]? with|some (O.dct kvs)=> if (kvs.all fun e=> isT e.1)=true then R.ok (kvs.map (fun e=> D.da e.1),some (n,O.dct kvs)) s1 else R.bad|_=> R.bad) Q:=h1
  split at h1
  ·rename_i kvs e
   split at h1
   ·rename_i ht
    obtain⟨q,hq⟩:=rl1.li n _ e (by intro z;cases z)
    cases hr q hq
    obtain⟨l1,dd1,dr1⟩:=aod (rl1.ob n _ _ hq e) ht
    refine⟨_,_,rfl,dd1,Dn.now (Q:=Q) h1 rl1 fun as2 H2 s2 st rl so i=> ?_⟩
    have so':s2[n]?=some (O.dct kvs):=so
    obtain⟨q2,hq2⟩:=rl.li _ _ so' (by intro z;cases z)
    have e2:=hq2
    rcases st.old _ l with z|z
    ·rw [z]at e2
     cases hr q2 e2
     obtain⟨l2,dd2,dr2⟩:=aod (rl.ob _ _ _ hq2 so') ht
     have el:l2.length=l1.length:=by rw [dr1.len,dr2.len]
     refine⟨fun hl=> ⟨l2,dd2,el,?_⟩,fun d hd=> ?_⟩
     ·rw [am]at hl
      rw [dr1.len];exact hl
     ·rw [aR]at hd
      obtain⟨e,he,ed⟩:=lC.mp hd
      have hi:i < kvs.length:=(ap.mp he).1
      refine⟨⟨l2,dd2,el,by rw [dr1.len];exact hi⟩,fun x H3 hy=> ?_⟩
      obtain⟨rfl,hx⟩:=hy
      obtain⟨k,v,hk,kd⟩:=hx l2 dd2
      have ek:e.1=k:=by
       have h1:=congrArg (fun l=> l[i]?) dr2.keys
       simp only [aR,hk,he,f7]at h1
       exact (bH h1).symm
      rw [←ed,ek]
      exact⟨Step.refl _ _,rl,.da (KD.td rl kd)⟩
    ·rw [z]at e2;cases e2
   ·exact h1.elim
  ·exact h1.elim
 |_=> exact h1.elim
end
end PF
namespace Ln
open PySem L2 PF
def top(i:Nat):Stmt:=PySem.Challenge.pw_mannerports_k38_rows_of_tables.main.body.getD i (.Pass ⟨0,0,0,0⟩)
abbrev az1:Stmt:=top 0
abbrev act:Stmt:=top 3
abbrev ajo:Stmt:=top 4
abbrev age:Stmt:=top 5
abbrev adn:Stmt:=top 6
abbrev ack:Stmt:=akq (top 7) 0
abbrev abl:Stmt:=akq (top 7) 1
abbrev ab8:Stmt:=akq (top 7) 2
abbrev ah0:Stmt:=akq (top 7) 3
abbrev agc:Stmt:=top 9
abbrev ag9:Stmt:=top 10
abbrev aes:Stmt:=top 11
abbrev aek:Stmt:=top 12
abbrev af9:Stmt:=top 13
abbrev aem:Stmt:=top 14
abbrev aei:Stmt:=top 15
abbrev ael:Stmt:=top 16
abbrev abk:Stmt:=top 17
abbrev agb:Stmt:=top 18
abbrev ab7:Stmt:=top 19
abbrev ct:ab1:=[("Follower",["leads"])]
structure Txt0 (K:aj) (mg:Str -> Option ae):Prop where
 ct:CTabs K ct
 h__wall:Has K mg "_wall" az1 ["k"]
 h_stands_behind:Has K mg "stands_behind" act ["table","stands","moment"]
 h_goes_on:Has K mg "goes_on" ajo ["table","stands"]
 h_table_has:Has K mg "table_has" age ["table","row"]
 h_table_breaks:Has K mg "table_breaks" adn ["table","row"]
 h_Follower_init:HasI K mg "Follower" "Follower.__init__" ack ["self","table"]
 h_Follower_behind:HasM K "Follower" "behind" "Follower.behind" abl ["self","stands","moment"]
 h_Follower_moments:HasM K "Follower" "moments" "Follower.moments" ab8 ["self","stands"]
 h_Follower_moves:HasM K "Follower" "moves" "Follower.moves" ah0 ["self","stands"]
 h__law_tape:Has K mg "_law_tape" agc ["_law_script"]
 h__law_draw:Has K mg "_law_draw" ag9 ["_law_tape_here","_law_many"]
 h__law_names:Has K mg "_law_names" aes ["_law_tape_here","_law_many"]
 h__law_moment:Has K mg "_law_moment" aek ["_law_tape_here","_law_seen","_law_few"]
 h__law_table:Has K mg "_law_table" af9 ["_law_tape_here","_law_seen","_law_most","_law_steps"]
 h__law_walked:Has K mg "_law_walked" aem ["_law_tape_here","_law_table_here","_law_many"]
 h__law_behind:Has K mg "_law_behind" aei ["_law_table_here","_law_stands","_law_moment_here"]
 h__law_breaks:Has K mg "_law_breaks" ael ["_law_table_here","_law_row"]
 h__law_sets_right:Has K mg "_law_sets_right" abk ["_law_tape_here","_law_table_here"]
 h__law_rows:Has K mg "_law_rows" agb ["_law_tape_here","_law_table_here"]
 h_law:Has K mg "law" ab7 ["_law_script"]
 c_BEGIN:aw1 K mg "BEGIN" [.int 0]
 n_len:mg "len"=none
 n_repr:mg "repr"=none
 n_sorted:mg "sorted"=none
 n_list:mg "list"=none
 n_tuple:mg "tuple"=none
 n_set:mg "set"=none
 n_range:mg "range"=none
 n_isinstance:mg "isinstance"=none
 n_enumerate:mg "enumerate"=none
def aan:FS:=
  (jl (apv ct "leads" (jb 0) z5)
  (ze (fIt (fOp gIx (jb 1) (fC (.da (.int 2))))) (.t3 (.nm 2) (.nm 3) (.nm 4)) (y6 (fMt vx (fMd ac6 (fMd ac6 (ad2 ct "leads" (jb 0)) (ja (jb 2) (ja z5 je))) (ja (jb 3) (ja (xf true je) je))) (ja (jb 4) je)))))
def vw:FF:=qr 5 aan
theorem aj0:vw [a0,a1] s=(aan [some a0,some a1,none,none,none] s).bind qf:=rfl
theorem y7:FnScope ["self","table","begin","moment","end"] ["self","table"] (ji ack):=⟨rfl,rfl,rfl,by decide+kernel,rfl,by decide+kernel,by decide+kernel⟩
theorem aak(T:Txt0 K mg):InitF P w K mg base "Follower" 1 2 vw:=by
 exact a53 (k:=0) T.h_Follower_init y7 rfl rfl (fun f cdv A outer s H E I hx hr=>
   (jg (a3k T.ct (jc 0) adm)
   (jm (xj rfl (zb (kx (jc 1) jh)) (a3z rfl (j4 (i:=2) y7.nd rfl (aO rfl)) (j4 (i:=3) y7.nd rfl (aO rfl)) (j4 (i:=4) y7.nd rfl (aO rfl))) (jm (abu (ag2 dE dF acg (aha cu iJ (ax8 (u70 hr)) (aha cu iJ (ax8 (u70 hr)) (alo T.ct (jc 0)) (jd (jc 2) (jd adm jf))) (jd (jc 3) (jd (xi true jf) jf))) (jd (jc 4) jf))))))))
def z9:FS:=
  (jl (jr 3 (xf true je))
  (jl (ze (fIt (jb 1)) (.nm 4) (y6 (fMt aao (jb 3) (ja (fMd zj (fMd zj (ad2 ct "leads" (jb 0)) (ja (jb 4) (ja z5 je))) (ja (jb 2) (ja (xf false je) je))) je))))
  (kr (fCB zg (ja (fCB (acv false) (ja (jb 3) je)) je)))))
def v0:FF:=qr 5 z9
theorem ago{a2:D}:v0 [a0,a1,a2] s=(z9 [some a0,some a1,some a2,none,none] s).bind qf:=rfl
theorem zr:FnScope ["self","stands","moment","behind","stand"] ["self","stands","moment"] (ji abl):=⟨rfl,rfl,rfl,by decide+kernel,rfl,by decide+kernel,by decide+kernel⟩
theorem abm(T:Txt0 K mg):MethF P w K mg base "Follower" "behind" 1 3 v0:=by
 exact ax6 (k:=0) T.h_Follower_behind zr rfl rfl (fun f cdv A outer s H E I hx hr=>
   (jg (jq (i:=3) zr.nd rfl (aO rfl) (xi true jf))
   (jg (xj rfl (zb (jc 1)) (j4 (i:=4) zr.nd rfl (aO rfl)) (jm (abu (ag2 PySem.F.slot_list_extend PySem.F.type_list_extend awg (jc 3) (jd (aha bZ hX (alb (u70 hr)) (aha bZ hX (alb (u70 hr)) (alo T.ct (jc 0)) (jd (jc 4) (jd adm jf))) (jd (jc 2) (jd (xi false jf) jf))) jf)))))
   (jm (kf (ads abr T.n_tuple abx (jd (anh false rfl (u70 hr) T.n_sorted T.n_set (jd (jc 3) jf)) jf)))))))
def ab4:FS:=
  (kr (afm "behind" [("Follower",3,v0)] (afz "Follower" 2 vw (ja (jb 0) je)) (ja (jb 1) (ja (jb 2) je))))
def ya:FF:=qr 3 ab4
theorem aii{a2:D}:ya [a0,a1,a2] s=(ab4 [some a0,some a1,some a2] s).bind qf:=rfl
theorem ahj:FnScope ["table","stands","moment"] ["table","stands","moment"] (ji act):=⟨rfl,rfl,rfl,by decide+kernel,rfl,by decide+kernel,by decide+kernel⟩
theorem ai0(T:Txt0 K mg):CalF P w K mg base "stands_behind" 3 3 ya:=by
 have cFollower_init:=aak (P:=P) (w:=w) (base:=base) T
 have cFollower_behind:=abm (P:=P) (w:=w) (base:=base) T
 exact aag (k:=2) T.h_stands_behind ahj rfl rfl (fun f cdv A outer s H E I hx hr=>
   (jm (kf (aj5 (MTabs.cons cFollower_behind (hr.mono (by decide)) MTabs.nil) (ail cFollower_init (hr.mono (by decide)) (jd (jc 0) jf)) (jd (jc 1) (jd (jc 2) jf))))))
def zq:FS:=
  (kr (amp true [0] 2 (fIt (jb 1)) (.nm 0) vk (aun (fMd zj (ad2 ct "leads" (jb 2)) (ja (jb 0) (ja z5 je)))) (.nm 1) vk (jb 1)))
def zu:FF:=qr 2 zq
theorem ag5:zu [a0,a1] s=(zq [some a0,some a1] s).bind qf:=rfl
theorem afa:FnScope ["self","stands"] ["self","stands"] (ji ab8):=⟨rfl,rfl,rfl,by decide+kernel,rfl,by decide+kernel,by decide+kernel⟩
theorem aeq(T:Txt0 K mg):MethF P w K mg base "Follower" "moments" 1 2 zu:=by
 exact ax6 (k:=0) T.h_Follower_moments afa rfl rfl (fun f cdv A outer s H E I hx hr=>
   (jm (kf (aky true (u70 hr) T.n_sorted (own:=["stand","moment"]) (caps:=["self"]) (js:=[0]) rfl rfl rfl rfl rfl (⟨⟨rfl,bX (aO rfl),rfl,rfl⟩,trivial⟩) rfl rfl (zb (jc 1)) (fun _ _ _ _=> (j4 (i:=0) (show (["stand","moment","self"]:List Str).Nodup by decide+kernel) rfl (aO rfl) (bX rfl))) (fun I _ _ _ _ hx=> aeg) (fun I _ _ _ _ hx=> (azd (aha bZ hX (alb (u70 hr)) (alo T.ct (jc 2)) (jd (jc 0) (jd adm jf))))) (fun _ _ _ _=> (j4 (i:=1) (show (["stand","moment","self"]:List Str).Nodup by decide+kernel) rfl (aO rfl) (bX rfl))) (fun I _ _ _ _ hx=> aeg) (fun I _ _ _ _ hx=> (jc 1))))))
def agy:FS:=
  (kr (afm "moments" [("Follower",2,zu)] (afz "Follower" 2 vw (ja (jb 0) je)) (ja (jb 1) je)))
def ac7:FF:=qr 2 agy
theorem aux:ac7 [a0,a1] s=(agy [some a0,some a1] s).bind qf:=rfl
theorem ars:FnScope ["table","stands"] ["table","stands"] (ji ajo):=⟨rfl,rfl,rfl,by decide+kernel,rfl,by decide+kernel,by decide+kernel⟩
theorem aqz(T:Txt0 K mg):CalF P w K mg base "goes_on" 3 2 ac7:=by
 have cFollower_init:=aak (P:=P) (w:=w) (base:=base) T
 have cFollower_moments:=aeq (P:=P) (w:=w) (base:=base) T
 exact aag (k:=2) T.h_goes_on ars rfl rfl (fun f cdv A outer s H E I hx hr=>
   (jm (kf (aj5 (MTabs.cons cFollower_moments (hr.mono (by decide)) MTabs.nil) (ail cFollower_init (hr.mono (by decide)) (jd (jc 0) jf)) (jd (jc 1) jf)))))
def abe:FS:=
  (jl (jr 2 (afz "Follower" 2 vw (ja (jb 0) je)))
  (jl (jr 3 (fC (.con (fP aX [0]))))
  (jl (ze (aws 0 (ja (jb 1) je)) (.t2 (.nm 4) (.nm 5)) (jl (jr 3 (afm "behind" [("Follower",3,v0)] (jb 2) (ja (jb 3) (ja (jb 5) je))))
  (vd (acx (agi (jb 3))) (kr (jb 4)) k7)))
  (kr (fC (.da (.none)))))))
def ke:FF:=qr 6 abe
theorem akj:ke [a0,a1] s=(abe [some a0,some a1,none,none,none,none] s).bind qf:=rfl
theorem vy:FnScope ["table","row","follower","stands","number","moment"] ["table","row"] (ji adn):=⟨rfl,rfl,rfl,by decide+kernel,rfl,by decide+kernel,by decide+kernel⟩
theorem ad9(T:Txt0 K mg):CalF P w K mg base "table_breaks" 3 2 ke:=by
 have cFollower_init:=aak (P:=P) (w:=w) (base:=base) T
 have cFollower_behind:=abm (P:=P) (w:=w) (base:=base) T
 exact aag (k:=2) T.h_table_breaks vy rfl rfl (fun f cdv A outer s H E I hx hr=>
   (jg (jq (i:=2) vy.nd rfl (aO rfl) (ail cFollower_init (hr.mono (by decide)) (jd (jc 0) jf)))
   (jg (jq (i:=3) vy.nd rfl (aO rfl) (a0e [0] T.c_BEGIN))
   (jg (xj rfl (a2n T.n_enumerate (jd (jc 1) jf)) (a52 rfl (j4 (i:=4) vy.nd rfl (aO rfl)) (j4 (i:=5) vy.nd rfl (aO rfl))) (jg (jq (i:=3) vy.nd rfl (aO rfl) (aj5 (MTabs.cons cFollower_behind (hr.mono (by decide)) MTabs.nil) (jc 2) (jd (jc 3) (jd (jc 5) jf))))
   (jm (xu (amr (ams (jc 3))) (jm (kf (jc 4))) va))))
   (jm (kf ade))))))
def adz:FS:=
  (kr (fOp gIs (jn 2 ke (ja (jb 0) (ja (jb 1) je))) (fC (.da (.none)))))
def qz:FF:=qr 2 adz
theorem aq5:qz [a0,a1] s=(adz [some a0,some a1] s).bind qf:=rfl
theorem ane:FnScope ["table","row"] ["table","row"] (ji age):=⟨rfl,rfl,rfl,by decide+kernel,rfl,by decide+kernel,by decide+kernel⟩
theorem ang(T:Txt0 K mg):CalF P w K mg base "table_has" 4 2 qz:=by
 have ctable_breaks:=ad9 (P:=P) (w:=w) (base:=base) T
 exact aag (k:=3) T.h_table_has ane rfl rfl (fun f cdv A outer s H E I hx hr=>
   (jm (kf (ahz ap9 (ku ctable_breaks (hr.mono (by decide)) (jd (jc 0) (jd (jc 1) jf))) ade))))
def B_law_tape:FS:=
  (kr (xf true (ja (fSl false (jb 0) fNo (vo (fC (.da (.int 63))))) (ja (fC (.da (.int 0))) (ja (fC (.da (.int 0))) je)))))
def aae:FF:=qr 1 B_law_tape
theorem aq1:aae [a0] s=(B_law_tape [some a0] s).bind qf:=rfl
theorem sc_law_tape:FnScope ["_law_script"] ["_law_script"] (ji agc):=⟨rfl,rfl,rfl,by decide+kernel,rfl,by decide+kernel,by decide+kernel⟩
theorem ok_law_tape(T:Txt0 K mg):CalF P w K mg base "_law_tape" 1 1 aae:=by
 exact aag (k:=0) T.h__law_tape sc_law_tape rfl rfl (fun f cdv A outer s H E I hx hr=>
   (jm (kf (xi true (jd (xo false (jc 0) yu (yv jh)) (jd jh (jd jh jf)))))))
def B_law_draw:FS:=
  (jl (vd (jy (fOp gGt (fOp gIx (jb 0) (fC (.da (.int 2)))) (fC (.da (.int 0))))) (jl (jr 2 (fOp aad (fOp gIx (jb 0) (fC (.da (.int 2)))) (jb 1)))
  (jl (afd (fOp aik (fOp gIx (jb 0) (fC (.da (.int 2)))) (jb 1)) (jb 0) (fC (.da (.int 2))))
  (kr (jb 2)))) k7)
  (jl (jr 3 (fOp gIx (jb 0) (fC (.da (.int 1)))))
  (jl (afd (fOp (kg false) (jb 3) (fC (.da (.int 1)))) (jb 0) (fC (.da (.int 1))))
  (jl (jr 4 (fC (.da (.int 0))))
  (jl (vd (jy (fOp gGt (fCB abi (ja (fOp gIx (jb 0) (fC (.da (.int 0)))) je)) (fC (.da (.int 0))))) (jr 4 (fOp gIx (fOp gIx (jb 0) (fC (.da (.int 0)))) (fOp aad (jb 3) (fCB abi (ja (fOp gIx (jb 0) (fC (.da (.int 0)))) je))))) k7)
  (jl (vd (jy (fOp gGe (jb 4) (fOp api (fC (.da (.int 10))) (fC (.da (.int 18)))))) (jl (afd (fOp aik (jb 4) (jb 1)) (jb 0) (fC (.da (.int 2))))
  (kr (fOp aad (jb 4) (jb 1)))) k7)
  (jl (jr 5 (fOp aad (fOp zt (fOp (kg false) (fOp (kg false) (fOp (kg false) (fOp aad (jb 4) (fC (.da (.int 1000003)))) (fOp zt (fOp zt (fC (.da (.int 37))) (jb 3)) (jb 3))) (fOp zt (fC (.da (.int 101))) (jb 3))) (fC (.da (.int 7)))) (fC (.da (.int 48271)))) (fC (.da (.int 2147483587)))))
  (jl (jr 5 (fOp aad (fOp (kg false) (fOp zt (jb 5) (fC (.da (.int 69621)))) (fOp zt (fC (.da (.int 7919))) (jb 3))) (fC (.da (.int 2147483549)))))
  (kr (fOp aad (fOp aik (jb 5) (fC (.da (.int 64)))) (jb 1)))))))))))
def jp:FF:=qr 6 B_law_draw
theorem apy:jp [a0,a1] s=(B_law_draw [some a0,some a1,none,none,none,none] s).bind qf:=rfl
theorem sc_law_draw:FnScope ["_law_tape_here","_law_many","_law_found","_law_spot","_law_cell","_law_mixed"] ["_law_tape_here","_law_many"] (ji ag9):=⟨rfl,rfl,rfl,by decide+kernel,rfl,by decide+kernel,by decide+kernel⟩
theorem ok_law_draw(T:Txt0 K mg):CalF P w K mg base "_law_draw" 1 2 jp:=by
 exact aag (k:=0) T.h__law_draw sc_law_draw rfl rfl (fun f cdv A outer s H E I hx hr=>
   (jg (xu (qk a2j (kx (jc 0) jh) jh) (jg (jq (i:=2) sc_law_draw.nd rfl (aO rfl) (jv acp (kx (jc 0) jh) (jc 1)))
   (jg (alm (jv ap3 (kx (jc 0) jh) (jc 1)) (jc 0) jh)
   (jm (kf (jc 2))))) va)
   (jg (jq (i:=3) sc_law_draw.nd rfl (aO rfl) (kx (jc 0) jh))
   (jg (alm (jv (qu false) (jc 3) jh) (jc 0) jh)
   (jg (jq (i:=4) sc_law_draw.nd rfl (aO rfl) jh)
   (jg (xu (qk a2j (vf ai2 T.n_len ahr (jd (kx (jc 0) jh) jf)) jh) (jm (jq (i:=4) sc_law_draw.nd rfl (aO rfl) (kx (kx (jc 0) jh) (jv acp (jc 3) (vf ai2 T.n_len ahr (jd (kx (jc 0) jh) jf)))))) va)
   (jg (xu (qk a6a (jc 4) (jv a58 jh jh)) (jg (alm (jv ap3 (jc 4) (jc 1)) (jc 0) jh)
   (jm (kf (jv acp (jc 4) (jc 1))))) va)
   (jg (jq (i:=5) sc_law_draw.nd rfl (aO rfl) (jv acp (jv acm (jv (qu false) (jv (qu false) (jv (qu false) (jv acp (jc 4) jh) (jv acm (jv acm jh (jc 3)) (jc 3))) (jv acm jh (jc 3))) jh) jh) jh))
   (jg (jq (i:=5) sc_law_draw.nd rfl (aO rfl) (jv acp (jv (qu false) (jv acm (jc 5) jh) (jv acm jh (jc 3))) jh))
   (jm (kf (jv acp (jv ap3 (jc 5) jh) (jc 1)))))))))))))
def B_law_names:FS:=
  (jl (jr 2 (xf false (fVs (fP D.da [.str "a",.str "ab",.str "abc",.str "net",.str "end",.str "within",.str "to",.str "table",.str "step",.str "box",.str "port",.str "next",.str "b",.str "zzzzzzzz"]))))
  (jl (jr 2 (fOp (kg false) (jb 2) (xf false (fVs (fP D.da [.str "both",.str "place",.str "ba"])))))
  (jl (jr 3 (jn 2 jp (ja (jb 0) (ja (fC (.da (.int 17))) je))))
  (jl (jr 4 (fOp (kg false) (fC (.da (.int 1))) (jn 2 jp (ja (jb 0) (ja (fC (.da (.int 16))) je)))))
  (kr (fLc false [2,3,4] 1 (abg (ja (jb 1) je)) (.nm 0) vk (fOp gIx (jb 1) (fOp aad (fOp (kg false) (jb 2) (fOp zt (jb 3) (jb 0))) (fC (.da (.int 17)))))))))))
def yx:FF:=qr 5 B_law_names
theorem anl:yx [a0,a1] s=(B_law_names [some a0,some a1,none,none,none] s).bind qf:=rfl
theorem sc_law_names:FnScope ["_law_tape_here","_law_many","_law_some","_law_first","_law_step"] ["_law_tape_here","_law_many"] (ji aes):=⟨rfl,rfl,rfl,by decide+kernel,rfl,by decide+kernel,by decide+kernel⟩
theorem ok_law_names(T:Txt0 K mg):CalF P w K mg base "_law_names" 2 2 yx:=by
 have c_law_draw:=ok_law_draw (P:=P) (w:=w) (base:=base) T
 exact aag (k:=1) T.h__law_names sc_law_names rfl rfl (fun f cdv A outer s H E I hx hr=>
   (jg (jq (i:=2) sc_law_names.nd rfl (bX rfl) (xi false (ajn rfl)))
   (jg (jq (i:=2) sc_law_names.nd rfl (bX rfl) (jv (qu false) (jc 2) (xi false (ajn rfl))))
   (jg (jq (i:=3) sc_law_names.nd rfl (bX rfl) (ku c_law_draw (hr.mono (by decide)) (jd (jc 0) (jd jh jf))))
   (jg (jq (i:=4) sc_law_names.nd rfl (bX rfl) (jv (qu false) jh (ku c_law_draw (hr.mono (by decide)) (jd (jc 0) (jd jh jf)))))
   (jm (kf (ako false (own:=["_law_k"]) (caps:=["_law_some","_law_first","_law_step"]) (js:=[2,3,4]) rfl rfl rfl rfl rfl (⟨⟨rfl,bX (aO rfl),rfl,rfl⟩,⟨⟨rfl,bX (aO rfl),rfl,rfl⟩,⟨⟨rfl,bX (aO rfl),rfl,rfl⟩,trivial⟩⟩⟩) rfl (aah T.n_range (jd (jc 1) jf)) (fun _ _ _ _=> (j4 (i:=0) (show (["_law_k","_law_some","_law_first","_law_step"]:List Str).Nodup by decide+kernel) rfl (aO rfl) (bX rfl))) (fun I _ _ _ _ hx=> aeg) (fun I _ _ _ _ hx=> (kx (jc 1) (jv acp (jv (qu false) (jc 2) (jv acm (jc 3) (jc 0))) jh)))))))))))
def B_law_moment:FS:=
  (jl (jr 3 (fLc false [2,0] 1 (fIt (jb 1)) (.nm 0) (jy (fOp gLt (jn 2 jp (ja (jb 2) (ja (fC (.da (.int 3))) je))) (jb 1))) (jb 0)))
  (kr (fCB zg (ja (fCB (yw false) (ja (fLc false [0] 1 (fIt (jb 3)) (.nm 0) vk (ve (ja (jb 0) (ja (fOp zt (jn 2 jp (ja (jb 1) (ja (fC (.da (.int 3))) je))) (jn 2 jp (ja (jb 1) (ja (fC (.da (.int 2))) je)))) je)))) je)) je))))
def qw:FF:=qr 4 B_law_moment
theorem af2{a2:D}:qw [a0,a1,a2] s=(B_law_moment [some a0,some a1,some a2,none] s).bind qf:=rfl
theorem sc_law_moment:FnScope ["_law_tape_here","_law_seen","_law_few","_law_some"] ["_law_tape_here","_law_seen","_law_few"] (ji aek):=⟨rfl,rfl,rfl,by decide+kernel,rfl,by decide+kernel,by decide+kernel⟩
theorem ok_law_moment(T:Txt0 K mg):CalF P w K mg base "_law_moment" 2 3 qw:=by
 have c_law_draw:=ok_law_draw (P:=P) (w:=w) (base:=base) T
 exact aag (k:=1) T.h__law_moment sc_law_moment rfl rfl (fun f cdv A outer s H E I hx hr=>
   (jg (amj false (own:=["_law_port"]) (caps:=["_law_few","_law_tape_here"]) (js:=[2,0]) (i:=3) rfl sc_law_moment.nd rfl rfl rfl rfl rfl rfl rfl (⟨⟨rfl,bX (aO rfl),rfl,rfl⟩,⟨⟨rfl,bX (aO rfl),rfl,rfl⟩,trivial⟩⟩) rfl (zb (jc 1)) (fun _ _ _ _=> (j4 (i:=0) (show (["_law_port","_law_few","_law_tape_here"]:List Str).Nodup by decide+kernel) rfl (aO rfl) (bX rfl))) (fun I _ _ _ _ hx=> (ady (qk a63 (ku c_law_draw (hr.mono (by decide)) (jd (jc 2) (jd jh jf))) (jc 1)))) (fun I _ _ _ _ hx=> (jc 0)))
   (jm (kf (ads abr T.n_tuple abx (jd (vf (aea false (u70 hr)) T.n_sorted aav (jd (ako false (own:=["_law_port"]) (caps:=["_law_tape_here"]) (js:=[0]) rfl rfl rfl rfl rfl (⟨⟨rfl,bX (aO rfl),rfl,rfl⟩,trivial⟩) rfl (zb (jc 3)) (fun _ _ _ _=> (j4 (i:=0) (show (["_law_port","_law_tape_here"]:List Str).Nodup by decide+kernel) rfl (aO rfl) (bX rfl))) (fun I _ _ _ _ hx=> aeg) (fun I _ _ _ _ hx=> (vt (jd (jc 0) (jd (jv acm (ku c_law_draw (hr.mono (by decide)) (jd (jc 1) (jd jh jf))) (ku c_law_draw (hr.mono (by decide)) (jd (jc 1) (jd jh jf)))) jf))))) jf)) jf))))))
def B_law_table:FS:=
  (jl (jr 4 (fOp (kg false) (fC (.da (.int 1))) (jn 2 jp (ja (jb 0) (ja (jb 2) je)))))
  (jl (jr 5 (xf true je))
  (jl (jr 6 (fOp (kg false) (fC (.da (.int 1))) (jn 2 jp (ja (jb 0) (ja (fC (.da (.int 2))) je)))))
  (jl (ze (abg (ja (jn 2 jp (ja (jb 0) (ja (fOp (kg false) (jb 3) (fC (.da (.int 1)))) je))) je)) (.nm 7) (jl (jr 8 (jn 2 jp (ja (jb 0) (ja (jb 4) je))))
  (jl (jr 9 (ve (ja (jb 8) (ja (jn 3 qw (ja (jb 0) (ja (jb 1) (ja (jb 6) je)))) (ja (jn 2 jp (ja (jb 0) (ja (jb 4) je))) je)))))
  (vd (jy (fOp aai (jb 9) (jb 5))) (y6 (fMt vx (jb 5) (ja (jb 9) je))) k7))))
  (jl (vd (jy (fOp gEq (jn 2 jp (ja (jb 0) (ja (fC (.da (.int 2))) je))) (fC (.da (.int 0))))) (jr 5 (fOp (kg true) (jb 5) (fLc false [5] 1 (abg (ja (jb 4) je)) (.nm 0) (jy (fOp aai (ve (ja (jb 0) (ja (ve je) (ja (jb 0) je)))) (jb 1))) (ve (ja (jb 0) (ja (ve je) (ja (jb 0) je))))))) k7)
  (kr (ve (ja (fCB zg (ja (jb 1) je)) (ja (jb 4) (ja (fCB zg (ja (fCB (yw false) (ja (jb 5) je)) je)) je))))))))))
def y0:FF:=qr 10 B_law_table
theorem ank{a2 a3:D}:y0 [a0,a1,a2,a3] s=(B_law_table [some a0,some a1,some a2,some a3,none,none,none,none,none,none] s).bind qf:=rfl
theorem sc_law_table:FnScope ["_law_tape_here","_law_seen","_law_most","_law_steps","_law_many","_law_found","_law_few","_law_k","_law_start","_law_step"] ["_law_tape_here","_law_seen","_law_most","_law_steps"] (ji af9):=⟨rfl,rfl,rfl,by decide+kernel,rfl,by decide+kernel,by decide+kernel⟩
theorem ok_law_table(T:Txt0 K mg):CalF P w K mg base "_law_table" 3 4 y0:=by
 have c_law_draw:=ok_law_draw (P:=P) (w:=w) (base:=base) T
 have c_law_moment:=ok_law_moment (P:=P) (w:=w) (base:=base) T
 exact aag (k:=2) T.h__law_table sc_law_table rfl rfl (fun f cdv A outer s H E I hx hr=>
   (jg (jq (i:=4) sc_law_table.nd rfl (aO rfl) (jv (qu false) jh (ku c_law_draw (hr.mono (by decide)) (jd (jc 0) (jd (jc 2) jf)))))
   (jg (jq (i:=5) sc_law_table.nd rfl (bX rfl) (xi true jf))
   (jg (jq (i:=6) sc_law_table.nd rfl (aO rfl) (jv (qu false) jh (ku c_law_draw (hr.mono (by decide)) (jd (jc 0) (jd jh jf)))))
   (jg (xj rfl (aah T.n_range (jd (ku c_law_draw (hr.mono (by decide)) (jd (jc 0) (jd (jv (qu false) (jc 3) jh) jf))) jf)) (j4 (i:=7) sc_law_table.nd rfl (aO rfl)) (jg (jq (i:=8) sc_law_table.nd rfl (aO rfl) (ku c_law_draw (hr.mono (by decide)) (jd (jc 0) (jd (jc 4) jf))))
   (jg (jq (i:=9) sc_law_table.nd rfl (aO rfl) (vt (jd (jc 8) (jd (ku c_law_moment (hr.mono (by decide)) (jd (jc 0) (jd (jc 1) (jd (jc 6) jf)))) (jd (ku c_law_draw (hr.mono (by decide)) (jd (jc 0) (jd (jc 4) jf))) jf)))))
   (jm (xu (qk (ais (u65 hr)) (jc 9) (jc 5)) (jm (abu (ag2 dE dF acg (jc 5) (jd (jc 9) jf)))) va)))))
   (jg (xu (qk (aj1 (u64 hr)) (ku c_law_draw (hr.mono (by decide)) (jd (jc 0) (jd jh jf))) jh) (jm (jq (i:=5) sc_law_table.nd rfl (bX rfl) (jv (qu true) (jc 5) (ako false (own:=["_law_stand"]) (caps:=["_law_found"]) (js:=[5]) rfl rfl rfl rfl rfl (⟨⟨rfl,bX (aO rfl),rfl,rfl⟩,trivial⟩) rfl (aah T.n_range (jd (jc 4) jf)) (fun _ _ _ _=> (j4 (i:=0) (show (["_law_stand","_law_found"]:List Str).Nodup by decide+kernel) rfl (aO rfl) (bX rfl))) (fun I _ _ _ _ hx=> (ady (qk (ais (u65 hr)) (vt (jd (jc 0) (jd (vt jf) (jd (jc 0) jf)))) (jc 1)))) (fun I _ _ _ _ hx=> (vt (jd (jc 0) (jd (vt jf) (jd (jc 0) jf))))))))) va)
   (jm (kf (vt (jd (ads abr T.n_tuple abx (jd (jc 1) jf)) (jd (jc 4) (jd (ads abr T.n_tuple abx (jd (vf (aea false (u70 hr)) T.n_sorted aav (jd (jc 5) jf)) jf)) jf))))))))))))
def B_law_walked:FS:=
  (jl (jr 3 (fC (.da (.int 0))))
  (jl (jr 4 (ve je))
  (jl (ze (abg (ja (jb 2) je)) (.nm 5) (jl (jr 6 (fLc false [3] 1 (fIt (fOp gIx (jb 1) (fC (.da (.int 2))))) (.nm 0) (jy (fOp gEq (fOp gIx (jb 0) (fC (.da (.int 0)))) (jb 1))) (jb 0)))
  (vd (jy (fOp gNe (jb 6) (xf false je))) (jl (jr 7 (fOp gIx (jb 6) (jn 2 jp (ja (jb 0) (ja (fCB abi (ja (jb 6) je)) je)))))
  (jl (jr 4 (fOp (kg false) (jb 4) (ve (ja (fOp gIx (jb 7) (fC (.da (.int 1)))) je))))
  (jr 3 (fOp gIx (jb 7) (fC (.da (.int 2))))))) k7)))
  (kr (jb 4)))))
def aaa:FF:=qr 8 B_law_walked
theorem an2{a2:D}:aaa [a0,a1,a2] s=(B_law_walked [some a0,some a1,some a2,none,none,none,none,none] s).bind qf:=rfl
theorem sc_law_walked:FnScope ["_law_tape_here","_law_table_here","_law_many","_law_stand","_law_row","_law_k","_law_some","_law_step"] ["_law_tape_here","_law_table_here","_law_many"] (ji aem):=⟨rfl,rfl,rfl,by decide+kernel,rfl,by decide+kernel,by decide+kernel⟩
theorem ok_law_walked(T:Txt0 K mg):CalF P w K mg base "_law_walked" 2 3 aaa:=by
 have c_law_draw:=ok_law_draw (P:=P) (w:=w) (base:=base) T
 exact aag (k:=1) T.h__law_walked sc_law_walked rfl rfl (fun f cdv A outer s H E I hx hr=>
   (jg (jq (i:=3) sc_law_walked.nd rfl (bX rfl) jh)
   (jg (jq (i:=4) sc_law_walked.nd rfl (aO rfl) (vt jf))
   (jg (xj rfl (aah T.n_range (jd (jc 2) jf)) (j4 (i:=5) sc_law_walked.nd rfl (aO rfl)) (jg (amj false (own:=["_law_step"]) (caps:=["_law_stand"]) (js:=[3]) (i:=6) rfl sc_law_walked.nd rfl rfl rfl rfl rfl rfl rfl (⟨⟨rfl,bX (aO rfl),rfl,rfl⟩,trivial⟩) rfl (zb (kx (jc 1) jh)) (fun _ _ _ _=> (j4 (i:=0) (show (["_law_step","_law_stand"]:List Str).Nodup by decide+kernel) rfl (aO rfl) (bX rfl))) (fun I _ _ _ _ hx=> (ady (qk (aj1 (u64 hr)) (kx (jc 0) jh) (jc 1)))) (fun I _ _ _ _ hx=> (jc 0)))
   (jm (xu (qk (agh (u64 hr)) (jc 6) (xi false jf)) (jg (jq (i:=7) sc_law_walked.nd rfl (aO rfl) (kx (jc 6) (ku c_law_draw (hr.mono (by decide)) (jd (jc 0) (jd (vf ai2 T.n_len ahr (jd (jc 6) jf)) jf)))))
   (jg (jq (i:=4) sc_law_walked.nd rfl (aO rfl) (jv (qu false) (jc 4) (vt (jd (kx (jc 7) jh) jf))))
   (jm (jq (i:=3) sc_law_walked.nd rfl (bX rfl) (kx (jc 7) jh))))) va))))
   (jm (kf (jc 4)))))))
def B_law_behind:FS:=
  (jl (jr 3 z5)
  (jl (ze (fIt (jb 1)) (.nm 4) (ze (fIt (fOp gIx (jb 0) (fC (.da (.int 2))))) (.nm 5) (vd (ado (jy (fOp gEq (fOp gIx (jb 5) (fC (.da (.int 0)))) (jb 4))) (jy (fOp gEq (fOp gIx (jb 5) (fC (.da (.int 1)))) (jb 2)))) (afr ae9 (fC (.da (.bool true))) (jb 3) (fOp gIx (jb 5) (fC (.da (.int 2))))) k7)))
  (kr (fCB zg (ja (fCB (yw false) (ja (fCB (ahd false) (ja (jb 3) je)) je)) je)))))
def yb:FF:=qr 6 B_law_behind
theorem ame{a2:D}:yb [a0,a1,a2] s=(B_law_behind [some a0,some a1,some a2,none,none,none] s).bind qf:=rfl
theorem sc_law_behind:FnScope ["_law_table_here","_law_stands","_law_moment_here","_law_found","_law_stand","_law_step"] ["_law_table_here","_law_stands","_law_moment_here"] (ji aei):=⟨rfl,rfl,rfl,by decide+kernel,rfl,by decide+kernel,by decide+kernel⟩
theorem ok_law_behind(T:Txt0 K mg):CalF P w K mg base "_law_behind" 1 3 yb:=by
 exact aag (k:=0) T.h__law_behind sc_law_behind rfl rfl (fun f cdv A outer s H E I hx hr=>
   (jg (jq (i:=3) sc_law_behind.nd rfl (aO rfl) adm)
   (jg (xj rfl (zb (jc 1)) (j4 (i:=4) sc_law_behind.nd rfl (aO rfl)) (jm (xj rfl (zb (kx (jc 0) jh)) (j4 (i:=5) sc_law_behind.nd rfl (aO rfl)) (jm (xu (RW.rt (ar4 (qk (aj1 (u64 hr)) (kx (jc 5) jh) (jc 4)) (aow (qk (aj1 (u64 hr)) (kx (jc 5) jh) (jc 2))))) (jm (ayb (azl (u70 hr)) abo (jc 3) (kx (jc 5) jh))) va)))))
   (jm (kf (ads abr T.n_tuple abx (jd (vf (aea false (u70 hr)) T.n_sorted aav (jd (ads (azi false hr.hd) T.n_list atm (jd (jc 3) jf)) jf)) jf)))))))
def B_law_breaks:FS:=
  (jl (jr 2 (ve (ja (fC (.da (.int 0))) je)))
  (jl (ze (abg (ja (fCB abi (ja (jb 1) je)) je)) (.nm 3) (jl (jr 2 (jn 3 yb (ja (jb 0) (ja (jb 2) (ja (fOp gIx (jb 1) (jb 3)) je)))))
  (vd (jy (fOp gEq (jb 2) (ve je))) (kr (jb 3)) k7)))
  (kr (fC (.da (.none))))))
def qv:FF:=qr 4 B_law_breaks
theorem akw:qv [a0,a1] s=(B_law_breaks [some a0,some a1,none,none] s).bind qf:=rfl
theorem sc_law_breaks:FnScope ["_law_table_here","_law_row","_law_stands","_law_number"] ["_law_table_here","_law_row"] (ji ael):=⟨rfl,rfl,rfl,by decide+kernel,rfl,by decide+kernel,by decide+kernel⟩
theorem ok_law_breaks(T:Txt0 K mg):CalF P w K mg base "_law_breaks" 2 2 qv:=by
 have c_law_behind:=ok_law_behind (P:=P) (w:=w) (base:=base) T
 exact aag (k:=1) T.h__law_breaks sc_law_breaks rfl rfl (fun f cdv A outer s H E I hx hr=>
   (jg (jq (i:=2) sc_law_breaks.nd rfl (aO rfl) (vt (jd jh jf)))
   (jg (xj rfl (aah T.n_range (jd (vf ai2 T.n_len ahr (jd (jc 1) jf)) jf)) (j4 (i:=3) sc_law_breaks.nd rfl (aO rfl)) (jg (jq (i:=2) sc_law_breaks.nd rfl (aO rfl) (ku c_law_behind (hr.mono (by decide)) (jd (jc 0) (jd (jc 2) (jd (kx (jc 1) (jc 3)) jf)))))
   (jm (xu (qk (aj1 (u64 hr)) (jc 2) (vt jf)) (jm (kf (jc 3))) va))))
   (jm (kf ade)))))
def B_law_sets_right:FS:=
  (jl (jr 2 (fCB zg (ja (fLc false [0] 1 (abg (ja (fOp gIx (jb 1) (fC (.da (.int 1)))) je)) (.nm 0) (jy (fOp gEq (jn 2 jp (ja (jb 1) (ja (fC (.da (.int 3))) je))) (fC (.da (.int 0))))) (jb 0)) je)))
  (jl (jr 3 (xf true je))
  (jl (ze (fIt (fOp gIx (jb 1) (fC (.da (.int 2))))) (.nm 4) (vd (ado (jy (fOp gIn (fOp gIx (jb 4) (fC (.da (.int 0)))) (jb 2))) (jy (fOp aai (fOp gIx (jb 4) (fC (.da (.int 1)))) (jb 3)))) (y6 (fMt vx (jb 3) (ja (fOp gIx (jb 4) (fC (.da (.int 1)))) je))) k7))
  (jl (ze (abg (ja (fC (.da (.int 2))) je)) (.nm 5) (jl (jr 6 (jn 2 ac7 (ja (jb 1) (ja (jb 2) je))))
  (jl (vd (agp (acx (agi (fCB amo (ja (jb 6) (ja (fC (.ty "list")) je))))) (jy (fOp gNe (fCB kn (ja (jb 6) je)) (fCB kn (ja (fCB (yw false) (ja (jb 3) je)) je))))) (kr (fC (.da (.bool false)))) k7)
  (y6 (fMt vx (jb 6) (ja (ve je) je))))))
  (jl (ze (fIt (fOp (kg false) (fSl false (jb 3) fNo (vo (fC (.da (.int 4))))) (xf false (ja (jn 3 qw (ja (jb 0) (ja (fOp gIx (jb 1) (fC (.da (.int 0)))) (ja (fC (.da (.int 2))) je)))) (ja (ve je) je))))) (.nm 7) (vd (jy (fOp gNe (fCB kn (ja (jn 3 ya (ja (jb 1) (ja (jb 2) (ja (jb 7) je)))) je)) (fCB kn (ja (jn 3 yb (ja (jb 1) (ja (jb 2) (ja (jb 7) je)))) je)))) (kr (fC (.da (.bool false)))) k7))
  (kr (fC (.da (.bool true)))))))))
def v2:FF:=qr 8 B_law_sets_right
theorem ags:v2 [a0,a1] s=(B_law_sets_right [some a0,some a1,none,none,none,none,none,none] s).bind qf:=rfl
theorem sc_law_sets_right:FnScope ["_law_tape_here","_law_table_here","_law_stands","_law_due","_law_step","_law_turn","_law_found","_law_moment_here"] ["_law_tape_here","_law_table_here"] (ji abk):=⟨rfl,rfl,rfl,by decide+kernel,rfl,by decide+kernel,by decide+kernel⟩
theorem ok_law_sets_right(T:Txt0 K mg):CalF P w K mg base "_law_sets_right" 4 2 v2:=by
 have cstands_behind:=ai0 (P:=P) (w:=w) (base:=base) T
 have cgoes_on:=aqz (P:=P) (w:=w) (base:=base) T
 have c_law_draw:=ok_law_draw (P:=P) (w:=w) (base:=base) T
 have c_law_moment:=ok_law_moment (P:=P) (w:=w) (base:=base) T
 have c_law_behind:=ok_law_behind (P:=P) (w:=w) (base:=base) T
 exact aag (k:=3) T.h__law_sets_right sc_law_sets_right rfl rfl (fun f cdv A outer s H E I hx hr=>
   (jg (jq (i:=2) sc_law_sets_right.nd rfl (aO rfl) (ads abr T.n_tuple abx (jd (ako false (own:=["_law_stand"]) (caps:=["_law_tape_here"]) (js:=[0]) rfl rfl rfl rfl rfl (⟨⟨rfl,bX (aO rfl),rfl,rfl⟩,trivial⟩) rfl (aah T.n_range (jd (kx (jc 1) jh) jf)) (fun _ _ _ _=> (j4 (i:=0) (show (["_law_stand","_law_tape_here"]:List Str).Nodup by decide+kernel) rfl (aO rfl) (bX rfl))) (fun I _ _ _ _ hx=> (ady (qk (aj1 (u64 hr)) (ku c_law_draw (hr.mono (by decide)) (jd (jc 1) (jd jh jf))) jh))) (fun I _ _ _ _ hx=> (jc 0))) jf)))
   (jg (jq (i:=3) sc_law_sets_right.nd rfl (aO rfl) (xi true jf))
   (jg (xj rfl (zb (kx (jc 1) jh)) (j4 (i:=4) sc_law_sets_right.nd rfl (aO rfl)) (jm (xu (RW.rt (ar4 (qk (a5m (u65 hr)) (kx (jc 4) jh) (jc 2)) (aow (qk (ais (u65 hr)) (kx (jc 4) jh) (jc 3))))) (jm (abu (ag2 dE dF acg (jc 3) (jd (kx (jc 4) jh) jf)))) va)))
   (jg (xj rfl (aah T.n_range (jd jh jf)) (j4 (i:=5) sc_law_sets_right.nd rfl (aO rfl)) (jg (jq (i:=6) sc_law_sets_right.nd rfl (aO rfl) (ku cgoes_on (hr.mono (by decide)) (jd (jc 1) (jd (jc 2) jf))))
   (jg (xu (RW.rt (axk (amr (ams (vf a42 T.n_isinstance ami (jd (jc 6) (jd (axp T.n_list atm) jf))))) (atp (qk (agh (u64 hr)) (vf (yp hr) T.n_repr yq (jd (jc 6) jf)) (vf (yp hr) T.n_repr yq (jd (vf (aea false (u70 hr)) T.n_sorted aav (jd (jc 3) jf)) jf)))))) (jm (kf abo)) va)
   (jm (abu (ag2 dE dF acg (jc 6) (jd (vt jf) jf)))))))
   (jg (xj rfl (zb (jv (qu false) (xo false (jc 3) yu (yv jh)) (xi false (jd (ku c_law_moment (hr.mono (by decide)) (jd (jc 0) (jd (kx (jc 1) jh) (jd jh jf)))) (jd (vt jf) jf))))) (j4 (i:=7) sc_law_sets_right.nd rfl (aO rfl)) (jm (xu (qk (agh (u64 hr)) (vf (yp hr) T.n_repr yq (jd (ku cstands_behind (hr.mono (by decide)) (jd (jc 1) (jd (jc 2) (jd (jc 7) jf)))) jf)) (vf (yp hr) T.n_repr yq (jd (ku c_law_behind (hr.mono (by decide)) (jd (jc 1) (jd (jc 2) (jd (jc 7) jf)))) jf))) (jm (kf abo)) va)))
   (jm (kf abo))))))))
def B_law_rows:FS:=
  (jl (jr 2 (jn 3 aaa (ja (jb 0) (ja (jb 1) (ja (fC (.da (.int 30))) je)))))
  (jl (jr 3 (xf true (ja (ve je) (ja (jb 2) je))))
  (jl (ze (abg (ja (fC (.da (.int 4))) je)) (.nm 4) (jl (jr 5 (jn 2 jp (ja (jb 0) (ja (fOp (kg false) (fCB abi (ja (jb 2) je)) (fC (.da (.int 1)))) je))))
  (jl (jr 6 (ve (ja (jn 3 qw (ja (jb 0) (ja (fOp gIx (jb 1) (fC (.da (.int 0)))) (ja (fC (.da (.int 2))) je)))) je)))
  (y6 (fMt vx (jb 3) (ja (fOp gIx (xf false (ja (fOp (kg false) (fSl false (jb 2) fNo (vo (jb 5))) (fSl false (jb 2) (vo (fOp (kg false) (jb 5) (fC (.da (.int 1))))) fNo)) (ja (fOp (kg false) (fOp (kg false) (fSl false (jb 2) fNo (vo (jb 5))) (jb 6)) (fSl false (jb 2) (vo (jb 5)) fNo)) (ja (fOp (kg false) (fOp (kg false) (fSl false (jb 2) fNo (vo (jb 5))) (jb 6)) (fSl false (jb 2) (vo (fOp (kg false) (jb 5) (fC (.da (.int 1))))) fNo)) (ja (jb 6) je))))) (jb 4)) je))))))
  (kr (avv (jb 3))))))
def aab:FF:=qr 7 B_law_rows
theorem ap6:aab [a0,a1] s=(B_law_rows [some a0,some a1,none,none,none,none,none] s).bind qf:=rfl
theorem sc_law_rows:FnScope ["_law_tape_here","_law_table_here","_law_row","_law_rows_here","_law_k","_law_at","_law_other"] ["_law_tape_here","_law_table_here"] (ji agb):=⟨rfl,rfl,rfl,by decide+kernel,rfl,by decide+kernel,by decide+kernel⟩
theorem ok_law_rows(T:Txt0 K mg):CalF P w K mg base "_law_rows" 3 2 aab:=by
 have c_law_draw:=ok_law_draw (P:=P) (w:=w) (base:=base) T
 have c_law_moment:=ok_law_moment (P:=P) (w:=w) (base:=base) T
 have c_law_walked:=ok_law_walked (P:=P) (w:=w) (base:=base) T
 exact aag (k:=2) T.h__law_rows sc_law_rows rfl rfl (fun f cdv A outer s H E I hx hr=>
   (jg (jq (i:=2) sc_law_rows.nd rfl (aO rfl) (ku c_law_walked (hr.mono (by decide)) (jd (jc 0) (jd (jc 1) (jd jh jf)))))
   (jg (jq (i:=3) sc_law_rows.nd rfl (aO rfl) (xi true (jd (vt jf) (jd (jc 2) jf))))
   (jg (xj rfl (aah T.n_range (jd jh jf)) (j4 (i:=4) sc_law_rows.nd rfl (aO rfl)) (jg (jq (i:=5) sc_law_rows.nd rfl (aO rfl) (ku c_law_draw (hr.mono (by decide)) (jd (jc 0) (jd (jv (qu false) (vf ai2 T.n_len ahr (jd (jc 2) jf)) jh) jf))))
   (jg (jq (i:=6) sc_law_rows.nd rfl (aO rfl) (vt (jd (ku c_law_moment (hr.mono (by decide)) (jd (jc 0) (jd (kx (jc 1) jh) (jd jh jf)))) jf)))
   (jm (abu (ag2 dE dF acg (jc 3) (jd (kx (xi false (jd (jv (qu false) (xo false (jc 2) yu (yv (jc 5))) (xo false (jc 2) (yv (jv (qu false) (jc 5) jh)) yu)) (jd (jv (qu false) (jv (qu false) (xo false (jc 2) yu (yv (jc 5))) (jc 6)) (xo false (jc 2) (yv (jc 5)) yu)) (jd (jv (qu false) (jv (qu false) (xo false (jc 2) yu (yv (jc 5))) (jc 6)) (xo false (jc 2) (yv (jv (qu false) (jc 5) jh)) yu)) (jd (jc 6) jf))))) (jc 4)) jf)))))))
   (jm (kf (a1c (jc 3))))))))
def Blaw:FS:=
  (jl (jr 1 (jn 1 aae (ja (jb 0) je)))
  (jl (ze (abg (ja (fC (.da (.int 4))) je)) (.nm 2) (jl (jr 3 (jn 4 y0 (ja (jb 1) (ja (jn 2 yx (ja (jb 1) (ja (jn 2 jp (ja (jb 1) (ja (fC (.da (.int 5))) je))) je))) (ja (fC (.da (.int 8))) (ja (fC (.da (.int 20))) je))))))
  (jl (jr 4 (fCB kn (ja (jb 3) je)))
  (jl (vd (acx (agi (jn 2 v2 (ja (jb 1) (ja (jb 3) je))))) (kr (fC (.da (.bool false)))) k7)
  (jl (ze (fIt (jn 2 aab (ja (jb 1) (ja (jb 3) je)))) (.nm 5) (jl (jr 6 (jn 2 qv (ja (jb 3) (ja (jb 5) je))))
  (jl (vd (agp (jy (fOp gNe (fCB kn (ja (jn 2 ke (ja (jb 3) (ja (jb 5) je))) je)) (fCB kn (ja (jb 6) je)))) (jy (fOp gNe (fCB kn (ja (jn 2 qz (ja (jb 3) (ja (jb 5) je))) je)) (fCB kn (ja (fOp gIs (jb 6) (fC (.da (.none)))) je))))) (kr (fC (.da (.bool false)))) k7)
  (jl (jr 7 (fOp (kg false) (fSl false (jb 3) fNo (vo (fC (.da (.int 2))))) (ve (ja (fSl false (fOp gIx (jb 3) (fC (.da (.int 2)))) fNo (vo (aq4 (fC (.da (.int 1)))))) je))))
  (jl (jr 8 (jn 2 qv (ja (jb 7) (ja (jb 5) je))))
  (jl (jr 9 (xf false (ja (jn 2 ke (ja (jb 7) (ja (jb 5) je))) (ja (jn 2 ke (ja (jb 3) (ja (jb 5) je))) (ja (jn 2 qz (ja (jb 7) (ja (jb 5) je))) (ja (jn 2 qz (ja (jb 3) (ja (jb 5) je))) je))))))
  (vd (jy (fOp gNe (fCB kn (ja (jb 9) je)) (fCB kn (ja (xf false (ja (jb 8) (ja (jb 6) (ja (fOp gIs (jb 8) (fC (.da (.none)))) (ja (fOp gIs (jb 6) (fC (.da (.none)))) je))))) je)))) (kr (fC (.da (.bool false)))) k7)))))))
  (vd (jy (fOp gNe (fCB kn (ja (jb 3) je)) (jb 4))) (kr (fC (.da (.bool false)))) k7))))))
  (kr (fC (.da (.bool true))))))
def atz:FF:=qr 10 Blaw
theorem a5j:atz [a0] s=(Blaw [some a0,none,none,none,none,none,none,none,none,none] s).bind qf:=rfl
theorem sclaw:FnScope ["_law_script","_law_tape_here","_law_k","_law_table_here","_law_kept","_law_row","_law_due","_law_fewer","_law_other","_law_told"] ["_law_script"] (ji ab7):=⟨rfl,rfl,rfl,by decide+kernel,rfl,by decide+kernel,by decide+kernel⟩
end Ln
namespace PF
open PySem PySem.Spec
open L2
open PyProof.Rows (envOfC)
section XWs
variable[XW]
end XWs
end PF
namespace L2
open PySem PySem.Spec PyProof.Rows EX
noncomputable def a5r(j:Nat)(D:Ends):Ends:={nx:=fun σ H=> D.nx (σ.set j none) H,rt:=D.rt,bk:=fun σ H=> D.bk (σ.set j none) H,ct:=fun σ H=> D.ct (σ.set j none) H}
def hE(K:aj)(Ca:Addr)(j:Option Nat)(th:TS)(D:Ends):XE:=fun σ p H=> ∃C fs,H p=some (.exx C fs)/\ClsX K C/\PySem.W.exmOne K (.ref C) (.ref Ca)=some true/\match j with
 |none=> th D σ H
 |some j=> th (a5r j D) (σ.set j (some (.ref p))) H
variable{X:Cx}{e:Expr}{es:List Expr}{p pos tp:Pos}{k:ExprContext}{te:TE}
end L2
namespace PF
open PySem PySem.Spec
open L2 EX
variable[XW]
end PF
namespace PF
open PySem PySem.Spec
open L2
variable[XW]
end PF
local macro_rules | `(tactic| walk_at "ev") => do
  let ns := "PF.R.calm_ok PF.R.W_calm PF.R.W_at PF.a4c PF.a38 PF.a0p PF.a1p PF.ay3 PF.a3l PF.a0g PF.a8b PF.a9f PF.a8w PF.a8e PF.a8x PF.a95 PF.a85 PF.a5l PF.a76 PF.a6o PF.a6u PF.a6q PF.a9c PF.a8f PF.a8c PF.e_c PF.a7e PF.a88 PF.a7a PF.a89 PF.a7c PF.a86 PF.a82 PF.a7p PF.a87 PF.a7o PF.a8o PF.a80 PF.a84 PF.a90 PF.a7q PF.a7f PF.a7y PF.a71 PF.a8j PF.a8g PF.a8d PF.a8y PF.a7h PF.a6n PF.a83 PF.a8v PF.a7j PF.a6s PF.a6m PF.a7i PF.a6r PF.a8a PF.a9i PF.a79 PF.a70 PF.ain PF.a8k PF.a8z PF.a9b PF.a94 PF.a8l PF.a93 PF.a9a PF.a9h PF.a9j PF.a9e PF.a9g PF.a8u PF.a8m PF.a92 PF.a96 PF.a7m PF.a6t PF.a8q PF.a7n PF.a8n PF.a7x PF.a6z PF.a97 PF.a81 PF.a73 PF.a74 PF.a6w PF.a6x PF.a6y PF.a6v PF.a5g PF.arb PF.a3s PF.a7r PF.a75 PF.a6p PF.a77 PF.a61 PF.a64 PF.a5s PF.a99 PF.a8t PF.a8s PF.a8h PF.a7z PF.a98 PF.a7d PF.af1 PF.a91 PF.azh PF.a08 PF.azw PF.ayl PF.a9d PF.ai1 PF.awd PF.am1 PF.an8 PF.ana PF.a8p PF.R.bind_ok' PF.R.W_ok' PF.R.Wk_app PF.a7t PF.a7g PF.a7u PF.a7w PF.a7b PF.a78 PF.a7k PF.a7l PF.a7v PF.a56 PF.a5a PF.a4q PF.aks PF.akm PF.axi Bool.not_true Bool.not_false decide_true decide_false Bool.and_true Bool.and_false Bool.true_and Bool.false_and List.length_append List.length_cons List.length_nil List.append_assoc List.cons_append List.nil_append Nat.zero_add Nat.reduceAdd PF.a8i PF.a8r PF.a72 Nat.reduceLeDiff PF.it0 PF.it1 PF.it2 if_true if_false Bool.false_eq_true".splitOn " "
  let ids : Array (Lean.TSyntax `term) := ns.toArray.map fun n => nF n.toName
  `(tactic| try simp only [$[$ids:term],*])
local macro_rules | `(tactic| walk_at "go") => `(tactic| (walk_at "ev"; (try simp only [PF.a4c, PF.a38, PF.a0p, PF.a1p, PF.ay3, PF.a3l, PF.a0g, PF.R.W_bindk, PF.R.W_at, PF.R.W_calm])))
namespace Ln
open PySem L2 PF
section
variable{s:S}{n:Nat}{a b c v:D}
theorem ix4(k:Nat){ds:List D}{x:D}(hl:n < s.length)(h:ds[k]?=some x):gIx (.ref n) (.int (k:Int)) (s.set n (.lst ds))=.ok x (s.set n (.lst ds)):=ayi (bc hl) h
theorem st4(k:Nat){ds:List D}(hl:n < s.length)(h:k < ds.length):z7 (.ref n) (.int (k:Int)) v (s.set n (.lst ds))=.ok .non (s.set n (.lst (ds.set k v))):=by
 rw [aw8 (bc hl) h,List.set_set]
theorem ix0(hl:n < s.length):gIx (.ref n) (.int 0) (s.set n (.lst [a,b,c]))=.ok a (s.set n (.lst [a,b,c])):=ix4 0 hl rfl
theorem ix1(hl:n < s.length):gIx (.ref n) (.int 1) (s.set n (.lst [a,b,c]))=.ok b (s.set n (.lst [a,b,c])):=ix4 1 hl rfl
theorem ix2(hl:n < s.length):gIx (.ref n) (.int 2) (s.set n (.lst [a,b,c]))=.ok c (s.set n (.lst [a,b,c])):=ix4 2 hl rfl
theorem st1(hl:n < s.length):z7 (.ref n) (.int 1) v (s.set n (.lst [a,b,c]))=.ok .non (s.set n (.lst [a,v,c])):=st4 1 hl (by simp)
theorem st2(hl:n < s.length):z7 (.ref n) (.int 2) v (s.set n (.lst [a,b,c]))=.ok .non (s.set n (.lst [a,b,v])):=st4 2 hl (by simp)
end
structure Fd (s:S) (n c:Nat):Prop where
 ex: ∃(xs:List Int) (i j:Int),s[n]?=some (.lst [.lst (xs.map aX),.int i,.int j])/\xs.length <=63/\0 <=i/\i <=c
theorem Fd.lt(h:Fd s n c):n < s.length:=by
 obtain⟨xs,i,j,e,_⟩:=h.ex
 exact (ap.mp e).1
theorem ah3{xs:List Int}(hl:n < s.length)(hx:xs.length <=63)(hi:0 <=i)(hc:i <=c):Fd (s.set n (.lst [.lst (xs.map aX),.int i,.int j])) n c:=⟨xs,i,j,bc hl,hx,hi,hc⟩
theorem qh{m:Int}(h:Fd s n c)(hm:0 < m)(hm2:m < 1073741824)(hc:c < 2^40):(jp [.ref n,.int m] s).W fun d s'=> ∃i,d=.int i/\0 <=i/\i < m/\Fd s' n (c+1)/\j3 n s s':=by
 obtain⟨xs,i,j,e,hx,hi,hkc⟩:=h.ex
 have hl:n < s.length:=(ap.mp e).1
 have e0:jp [.ref n,.int m] s=jp [.ref n,.int m] (s.set n (.lst [.lst (xs.map aX),.int i,.int j])):=by rw [auw e]
 rw [e0,apy];unfold B_law_draw
 have fin: ∀x:Int,0 <=x % m/\x % m < m:=fun x=> ⟨kY _ (by lia),iS _ hm⟩
 have p18: ∀s:S,api (.int 10) (.int 18) s=.ok (.int 1000000000000000000) s:=fun s=> avo (by decide) (by decide) (by decide)
 by_cases hj:0 < j
 ·simp [ix0 hl,ix1 hl,ix2 hl,st1 hl,st2 hl,hj,yf hm,ac4 hm hm2]
  exact⟨(fin _).1,(fin _).2,ah3 hl hx hi (by lia),ae2⟩
 ·have q1: ∀(x:Int) (s:S),aad (.int x) (.int 1000003) s=.ok (.int (x % 1000003)) s:=fun x s=> yf (by decide)
  have q2: ∀(x:Int) (s:S),zt (.int 37) (.int x) s=.ok (.int (37*x)) s:=fun x s=> yj (.inl (by decide))
  have q3: ∀(x:Int) (s:S),zt (.int x) (.int 69621) s=.ok (.int (x*69621)) s:=fun x s=> yj (.inr (by decide))
  have q4: ∀(x:Int) (s:S),aad (.int x) (.int 2147483549) s=.ok (.int (x % 2147483549)) s:=fun x s=> yf (by decide)
  have q5: ∀(x:Int) (s:S),zt (.int 101) (.int x) s=.ok (.int (101*x)) s:=fun x s=> yj (.inl (by decide))
  have q6: ∀(x:Int) (s:S),zt (.int 7919) (.int x) s=.ok (.int (7919*x)) s:=fun x s=> yj (.inl (by decide))
  have q7: ∀(x:Int) (s:S),zt (.int x) (.int i) s=.ok (.int (x*i)) s:=fun x s=> yj (.inr (by lia))
  have q8: ∀(x:Int) (s:S),zt (.int x) (.int 48271) s=.ok (.int (x*48271)) s:=fun x s=> yj (.inr (by decide))
  have q9: ∀(x:Int) (s:S),aad (.int x) (.int 2147483587) s=.ok (.int (x % 2147483587)) s:=fun x s=> yf (by decide)
  have q10: ∀(x:Int) (s:S),aik (.int x) (.int 64) s=.ok (.int (x/64)) s:=fun x s=> ac4 (by decide) (by decide)
  cases hxs:xs with
  |nil=>
   subst hxs
   simp [ix0 hl,ix1 hl,ix2 hl,st1 hl,st2 hl,hj,yf hm,ac4 hm hm2,p18,q1,q2,q3,q4,q5,q6,q7,q8,q9,q10]
   exact⟨(fin _).1,(fin _).2,ah3 (xs:=[]) hl (by simp) (by lia) (by lia),ae2⟩
  | cons y ys=>
   have hne:xs≠ []:=by rw [hxs];simp
   have hlen:0 < (xs.length:Int):=by rw [hxs];simp
   have hlen2:0 < xs.length:=by rw [hxs];simp
   rw [←hxs]
   have ixx: ∀s:S,gIx (.lst (xs.map aX)) (.int (i % (xs.length:Int))) s=.ok (.int (xs.getD (i % (xs.length:Int)).toNat 0)) s:=fun s=> by
    have h0:=kY i (show (xs.length:Int)≠0 by lia)
    have h1:=iS i hlen
    obtain⟨q,hq⟩: ∃q:Nat,i % (xs.length:Int)=q:=⟨(i % (xs.length:Int)).toNat,by lia⟩
    rw [hq]
    have hlt:q < xs.length:=by lia
    rw [afu (p:=.int (xs.getD q 0)) (by rw [aR,aq hlt,fV,aq hlt];rfl)]
    rfl
   generalize hcell:xs.getD (i % (xs.length:Int)).toNat 0=cell at ixx
   have qm: ∀s:S,aad (.int i) (.int (xs.length:Int)) s=.ok (.int (i % (xs.length:Int))) s:=fun s=> yf hlen
   by_cases hb:1000000000000000000 <=cell
   ·simp [ix0 hl,ix1 hl,ix2 hl,st1 hl,st2 hl,hj,hlen2,yf hm,ac4 hm hm2,p18,q1,q2,q3,q4,q5,q6,q7,q8,q9,q10,ixx,qm,hb]
    exact⟨(fin _).1,(fin _).2,ah3 hl hx (by lia) (by lia),ae2⟩
   ·simp [ix0 hl,ix1 hl,ix2 hl,st1 hl,st2 hl,hj,hlen2,yf hm,ac4 hm hm2,p18,q1,q2,q3,q4,q5,q6,q7,q8,q9,q10,ixx,qm,hb]
    exact⟨(fin _).1,(fin _).2,ah3 hl hx (by lia) (by lia),ae2⟩
theorem Fd.le{c':Nat}(h:Fd s n c)(hc:c <=c'):Fd s n c':=by
 obtain⟨xs,i,j,e,hx,hi,hkc⟩:=h.ex
 exact⟨xs,i,j,e,hx,hi,by lia⟩
theorem Fd.ext(h:Fd s n c)(x:Ext s s'):Fd s' n c:=by
 obtain⟨xs,i,j,e,r⟩:=h.ex
 exact⟨xs,i,j,x.get e,r⟩
theorem Fd.set{k:Nat}{o:O}(h:Fd s n c)(hk:k≠n):Fd (s.set k o) n c:=by
 obtain⟨xs,i,j,e,r⟩:=h.ex
 exact⟨xs,i,j,by rw [aF hk];exact e,r⟩
theorem a0b{xs:List Int}:(aae [.frz (xs.map aX)] s).W fun d s'=> d=.ref s.length/\Fd s' s.length 0/\Ext s s':=by
 rw [aq1];unfold B_law_tape
 walk_at "go"
 have e:j6 (xs.map aX) none (some 63)=(j6 xs none (some 63)).map aX:=agr _ _ _ _
 rw [e]
 refine⟨trivial,⟨⟨j6 xs none (some 63),0,0,by simp,?_,by decide,by decide⟩⟩,Ext.add _ _⟩
 unfold j6
 rw [show (63:Int)=((63:Nat):Int) from rfl,HT.sIx_nat]
 simp
 lia
end Ln
namespace PF
open PySem L2
theorem aje{s:S}{ft:FT}{fe:FE}{rest:En}{all:List D}(pr:ac -> Bool)(f:ac -> D): ∀(xs:List ac),(∀x∈xs,ft (some (.da x)::rest) s=.ok (pr x) s) -> (∀x∈xs,pr x=true -> fe (some (.da x)::rest) s=.ok (f x) s) ->
  j9 (.nm 0) ft fe (none::rest) (all,none) (xs.map D.da) s=.ok ((xs.filter pr).map f) s
 |[],_,_=> rfl
 |x::r,h1,h2=> by
  have ih:=aje (all:=all) pr f r (fun y hy=> h1 y (aw _ hy)) (fun y hy=> h2 y (aw _ hy))
  rw [aN,afh a56,h1 x av,R.calm_ok,R.bind_ok']
  cases q:pr x with
  |false=> rw [an8,ih,gI (by rw [q];exact ax)]
  |true=> rw [am1,h2 x av q,R.calm_ok,R.bind_ok',ana,ih,R.bind_ok',ain,kM q,aN]
theorem aj2(i j:Int):aU (.int i) (.int j)=decide (i=j):=by
 show (i==j)=_
 (rw [cc,beq_iff_eq,decide_eq_true_eq])
theorem abq:gEq (.int i) (.int j) s=.ok (.bl (decide (i=j))) s:=by rw [ahs rfl rfl,aj2]
end PF
namespace Ln
open PySem L2 PF
theorem au1{α β:Type}{f:α -> β}{l:List α}: ∀{ys:List β},ys.Perm (l.map f) -> ∃qs:List α,qs.Perm l/\qs.map f=ys:=by
 intro ys h
 generalize hz:l.map f=zs at h
 induction h generalizing l with
 |nil=>
  cases l with
  |nil=> exact⟨[],.refl _,rfl⟩
  |cons a b=> cases hz
 | cons x h ih=>
  cases l with
  |nil=> cases hz
  |cons a b=>
   cases hz
   obtain⟨qs,p,e⟩:=ih rfl
   exact⟨a::qs,p.cons a,by rw [aN,e]⟩
 | swap x y r=>
  match l,hz with
  |a::b::c,hz=>
   cases hz
   exact⟨b::a::c,.swap _ _ _,rfl⟩
 |trans h1 h2 ih1 ih2=>
  obtain⟨q2,p2,e2⟩:=ih2 hz
  obtain⟨q1,p1,e1⟩:=ih1 e2
  exact⟨q1,p1.trans p2,e1⟩
structure DW {α:Type} (r:R α) (Q:α -> S -> Prop):Prop where
 w:r.W Q
theorem DW.mono{α:Type}{r:R α}{Q Q':α -> S -> Prop}(h:DW r Q)(k: ∀a s,Q a s -> Q' a s):r.W Q':=R.W_mono h.w k
theorem a0k(xs:List ac):aU (.list xs) (.list [])=xs.isEmpty:=by cases xs <;> rfl
noncomputable def a15(m:Int):ac -> Bool
 |.int i=> decide (0 <=i)&&decide (i < m)
 |_=> false
noncomputable def axc(c:Nat):Bool:=decide (97 <=c)&&decide (c <=122)
def xa(x:Str):Bool:=(decide (1 <=x.length)&&decide (x.length <=8))&&x.cps.toList.all axc
theorem ace{x:Str}(h:xa x=true):aff x=true:=by
 unfold xa at h
 unfold aff
 simp only [aB,decide_eq_true_eq,ay,axc]at h⊢
 exact⟨⟨by lia,by lia⟩,fun c hc=> by have:=h.2 c hc;lia⟩
noncomputable def ltS(a b:Str):Bool:=decide (a.cps.toList < b.cps.toList)
def ag1(ss:List Str):Bool:=((ss.zip (ss.drop 1)).map fun p=> ltS p.1 p.2).all id
def apd(m:Int)(ss:List Str):ac -> Bool
 |.tuple [a,b]=> inD a ss&&a15 m b
 |_=> false
noncomputable def aw6:ac -> Str
 |.tuple (.str x::_)=> x
 |_=> ""
def alu(m:Int)(ss:List Str):ac -> Bool
 |.tuple ds=> ds.all (apd m ss)&&ag1 (ds.map aw6)
 |_=> false
theorem atk(x y:Str)(r:List Str):ag1 (x::y::r)=(ltS x y&&ag1 (y::r)):=by
 simp [ag1]
theorem aoq: ∀(l:List Str),(l.Pairwise fun a b=> ltS a b=true) -> ag1 l=true
 |[],_=> rfl
 |[_],_=> rfl
 |x::y::r,h=> by
  rw [atk,aB]
  rw [ce]at h
  exact⟨h.1 y av,aoq (y::r) h.2⟩
def aku:List ac -> Bool
 |x::y::r=> ltb x y&&aku (y::r)
 |_=> true
noncomputable def pr(p:Str×Int):ac:=.tuple [.str p.1,.int p.2]
theorem awx(p q:Str×Int):(ltP (pr p) (pr q)).isSome=true:=by
 unfold pr
 simp only [ltP,vh]
 repeat (first|rfl|split)
theorem al8: ∀ps qs:List (Str×Int),(vh (ps.map pr) (qs.map pr)).isSome=true
 |[],[]=> rfl
 |[],_::_=> by rw [hZ,aN,xh];rfl
 |_::_,[]=> by rw [hZ,aN,vc];rfl
 |p::ps,q::qs=> by
  rw [aN,aN,ye]
  split
  ·exact al8 ps qs
  ·exact awx p q
structure StK (many:Int) (ss:List Str) (d:ac):Prop where
 ex: ∃(i:Int) (ps:List (Str×Int)) (j:Int),d=.tuple [.int i,.tuple (ps.map pr),.int j]/\(0 <=i/\i < many)/\(0 <=j/\j < many)/\ ∀p∈ps,p.1∈ss/\0 <=p.2/\p.2 < 3
theorem StK.lt{m':Int}{ss':List Str}{a b:ac}(h:StK many ss a)(k:StK m' ss' b):(ltP a b).isSome=true:=by
 obtain⟨i,ps,j,rfl,_⟩:=h.ex
 obtain⟨i2,qs,j2,rfl,_⟩:=k.ex
 rw [xy,ye]
 split
 ·rw [ye]
  split
  ·rw [ye]
   split
   ·rw [xw];rfl
   ·rw [aaw];rfl
  ·rw [xy];exact al8 ps qs
 ·rw [aaw];rfl
theorem afs{p:Str×Int}(h:aff p.1=true)(h0:0 <=p.2)(h1:p.2 < 3):Nice 22 1 (pr p):=
 (Nices.cons (an0 h) (Nices.cons (aat (by lia)) Nices.nil)).tup.mono (by lia) (by lia)
theorem ax5(p:Str×Int):plD (pr p)=true:=by unfold pr;simp [plD,vq]
theorem am4: ∀ps:List (Str×Int),vq (ps.map pr)=true
 |[]=> by simp [vq]
 |p::r=> by rw [aN,vb,ax5 p,am4 r];rfl
theorem StK.pl{a:ac}(h:StK many ss a):plD a=true:=by
 obtain⟨i,ps,j,rfl,_⟩:=h.ex
 rw [kz,vb,vb,kz,am4 ps]
 simp [plD,vq]
noncomputable def aci:List Str:=["a","ab","abc","net","end","within","to","table","step","box","port","next","b","zzzzzzzz","both","place","ba"]
theorem ayo: ∀x∈aci,xa x=true:=by decide+kernel
theorem aud: ∀a:Nat,a < 17 -> ∀b:Nat,b < 17 -> a≠b -> aci.getD a "a"≠aci.getD b "a":=by decide+kernel
theorem a28: ∀f:Nat,f < 17 -> ∀g:Nat,g < 16 -> ((a9 6).map fun i=> (f+(1+g)*i) % 17).Nodup:=by decide+kernel
theorem ajm(n:Nat):abf 0 n=(a9 n).map fun i:Nat=> D.int (i:Int):=by
 apply cS
 intro i
 by_cases hi:i < n
 ·rw [aic _ _ _ hi,aR,eW hi];simp
 ·rw [cH (by rw [xg];lia),cH (by simp;lia)]
theorem aup{mm:Nat}(h:Fd s n c)(hm:mm <=6)(hc:c+2 < 2^40):DW (yx [.ref n,.int (mm:Int)] s) fun d s'=> ∃ps:List Str,d=.lst (ps.map aK)/\ps.length=mm/\(∀x∈ps,xa x=true)/\ps.Nodup/\Fd s' n (c+2)/\j3 n s s':=by
 refine⟨?_⟩
 rw [anl];unfold B_law_names
 walk_at "go"
 rw [ald (by decide)]
 walk_at "go"
 generalize hL:D.lst ([aK "a",aK "ab",aK "abc",aK "net",aK "end",aK "within",aK "to",aK "table",aK "step",aK "box",aK "port",aK "next",aK "b",aK "zzzzzzzz",aK "both",aK "place",aK "ba"])=L
 have hL:L=.lst (aci.map aK):=hL.symm
 subst hL
 refine R.W_mono (qh h (by decide) (by decide) (by lia)) ?_
 rintro _ s1 ⟨f,rfl,f0,f1,fd1,sm1⟩
 obtain⟨f',rfl⟩:=eY f0
 walk_at "go"
 refine R.W_mono (qh fd1 (by decide) (by decide) (by lia)) fun dd s2 q=> ?_
 obtain⟨g,e,g0,g1,fd2,sm2⟩:=q
 obtain⟨g',rfl⟩:=eY g0
 rw [e];clear e
 walk_at "go"
 rw [aal (by lia) (by lia),show ((mm:Int)).toNat=mm from bU _]
 walk_at "go"
 rw [acn (ρ0:=[none,some (.lst (aci.map aK)),some (.int (f':Int)),some (.int (1+(g':Int)))]) (by rw [xg];lia) rfl]
 rw [ajm]
 have idx: ∀i:Nat,((f':Int)+(1+(g':Int))*(i:Int)) % 17=(((f'+(1+g')*i) % 17:Nat):Int):=fun i=> by
  rw [show (f':Int)+(1+(g':Int))*(i:Int)=((f'+(1+g')*i:Nat):Int) by push_cast;rfl]
  rfl
 have lt: ∀i:Nat,(f'+(1+g')*i) % 17 < 17:=fun i=> fN _ (by decide)
 rw [aiz (fun i:Nat=> D.int (i:Int)) (fun _=> true) (fun i=>.str (aci.getD ((f'+(1+g')*i) % 17) "a")) (a9 mm) fun i hi=> ⟨[some (.int (i:Int)),some (.lst (aci.map aK)),some (.int (f':Int)),some (.int (1+(g':Int)))],rfl,rfl,fun _=> by
  walk_at "ev"
  rw [yj (.inl (by lia))]
  walk_at "ev"
  rw [yf (by decide)]
  walk_at "ev"
  rw [idx]
  have hl:(f'+(1+g')*i) % 17 < aci.length:=lt i
  rw [afu (p:=.str (aci.getD ((f'+(1+g')*i) % 17) "a")) (by rw [aR,aq hl,fV,aq hl];rfl)]⟩]
 rw [show (a9 mm).filter (fun _=> true)=a9 mm from List.filter_eq_self.mpr (fun _ _=> rfl)]
 walk_at "go"
 refine⟨(a9 mm).map fun i:Nat=> aci.getD ((f'+(1+g')*i) % 17) "a",by rw [bx];rfl,by simp,fun x hx=> ?_,?_,fd2,sm1.trans sm2⟩
 ·obtain⟨i,_,rfl⟩:=a8.mp hx
  have hl:(f'+(1+g')*i) % 17 < aci.length:=lt i
  rw [fV,aq hl]
  exact ayo _ (kG hl)
 ·have nd:=(a28 f' (by lia) g' (by lia)).sublist ((List.range_sublist.mpr hm).map _)
  unfold im at nd⊢
  rw [cT]at nd⊢
  exact nd.imp fun {a b} h=> aud _ (lt a) _ (lt b) h
structure SomeJ (s:S) (n c:Nat) (seen:List Str) (r acc:List D) (s':S):Prop where
 ex: ∃(got left:List Str) (c':Nat),acc=got.map (fun x=> D.str x)/\r=left.map (fun x=> D.str x)/\(got++left).Sublist seen/\Fd s' n c'/\c'+left.length <=c+seen.length/\j3 n s s'
structure PairJ (s:S) (n c:Nat) (seen:List Str) (r acc:List D) (s':S):Prop where
 ex: ∃(got:List (Str×Int)) (left:List Str) (c':Nat),acc=got.map (fun p=> D.da (pr p))/\r=left.map (fun x=> D.str x)/\got.map (fun p=> p.1)++left=seen/\(∀p∈got,0 <=p.2/\p.2 < 3)/\Fd s' n c'/\c'+2*left.length <=c+2*seen.length/\j3 n s s'
theorem aft(l:List (Str×Int)):kh (l.map pr)=true:=by
 unfold kh
 rw [ay]
 intro a ha
 obtain⟨p,_,rfl⟩:=a8.mp ha
 rw [aB,ay]
 refine⟨ax5 p,fun b hb=> ?_⟩
 obtain⟨q,_,rfl⟩:=a8.mp hb
 exact awx p q
theorem a3b{p q:Str×Int}(h:p.1≠q.1)(k:ltb (pr p) (pr q)=true):ltS p.1 q.1=true:=by
 rw [aa7]at k
 unfold pr at k
 rw [xy,zx (by simp [plD]) (by simp [plD]) (fun e=> h (by injection e)),adf]at k
 unfold ltS
 injection k
theorem auu{m:Int}{ps:List (Str×Int)}(h: ∀p∈ps,p.1∈ss/\0 <=p.2/\p.2 < m):(ps.map pr).all (apd m ss)=true:=by
 rw [dQ,ay]
 intro p hp
 obtain⟨a,b,c⟩:=h p hp
 show (decide (p.1∈ss)&&(decide (0 <=p.2)&&decide (p.2 < m)))=true
 rw [decide_eq_true a,decide_eq_true b,decide_eq_true c];rfl
theorem at5{m:Int}{ps:List (Str×Int)}(h: ∀p∈ps,p.1∈ss/\0 <=p.2/\p.2 < m)(nd:(ps.map fun p=> p.1).Nodup): ∃qs:List (Str×Int),j5 (ps.map pr)=qs.map pr/\qs.Perm ps/\alu m ss (.tuple (j5 (ps.map pr)))=true:=by
 obtain⟨qs,pm,e⟩:=au1 (xn (ps.map pr))
 refine⟨qs,e.symm,pm,?_⟩
 have rs:=ab9 (aft ps)
 rw [←e]at rs⊢
 show ((qs.map pr).all (apd m ss)&&ag1 ((qs.map pr).map aw6))=true
 rw [auu (fun p hp=> h p (pm.mem_iff.mp hp)),mQ,bx]
 refine aoq _ ?_
 have nd2:(qs.map fun p=> p.1).Nodup:=(pm.map _).nodup_iff.mpr nd
 unfold im at nd2
 unfold aaf at rs
 rw [cT]at nd2 rs⊢
 have both:=lV.mpr ⟨rs,nd2⟩
 refine both.imp_of_mem fun {a b} ha hb hab=> ?_
 have c:=aft qs
 rcases ahe c (eX hb) (eX ha) hab.1 with z|z
 ·exact absurd (congrArg aw6 z).symm hab.2
 ·exact a3b hab.2 z
theorem ar5{seen:List Str}(h:Fd s n c)(hl:seen.length <=6)(hp: ∀x∈seen,xa x=true)(nd:seen.Nodup)(hc:c+20 < 2^40):
  (qw [.ref n,.lst (seen.map aK),.int few] s).W fun d s'=> ∃ps:List (Str×Int),d=.tup (ps.map pr)/\ps.length <=6/\(∀p∈ps,p.1∈seen/\0 <=p.2/\p.2 < 3)/\alu 3 seen (.tuple (ps.map pr))=true/\Fd s' n (c+18)/\j3 n s s':=by
 rw [af2];unfold B_law_moment
 walk_at "go"
 rw [acn (ρ0:=[none,some (.int few),some (.ref n)]) (by rw [am,am];lia) rfl,R.W_bindk]
 refine R.W_mono (aa1 (Q:=fun xs s'=> ∃got:List Str,xs=got.map (fun x=> D.str x)/\got.Sublist seen/\Fd s' n (c+6)/\j3 n s s') (SomeJ s n c seen) ?_ ?_ _ [] s ⟨[],seen,c,rfl,by rw [bx];rfl,nZ.refl _,h,by lia,j3.refl _ _⟩) ?_
 ·rintro d r acc s' ⟨got,left,c',rfl,hr,sb,fd,hcc,sm⟩
  cases left with
  |nil=> cases hr
  | cons x left=>
   cases hr
   have hsl:=sb.length_le
   simp only [aG,az]at hsl hcc
   refine⟨[some (.str x),some (.int few),some (.ref n)],rfl,?_⟩
   walk_at "go"
   refine R.W_mono (qh fd (by decide) (by decide) (by lia)) ?_
   rintro _ s1 ⟨i,rfl,i0,i1,fd1,sm1⟩
   walk_at "go"
   by_cases e:i < few
   ·rw [decide_eq_true e]
    walk_at "go"
    exact⟨got++ [x],left,c'+1,by simp,rfl,by simpa using sb,fd1,by lia,sm.trans sm1⟩
   ·rw [decide_eq_false e]
    walk_at "go"
    exact⟨got,left,c'+1,rfl,rfl,(kI (lE x left) got).trans sb,fd1,by lia,sm.trans sm1⟩
 ·rintro acc s' ⟨got,left,c',rfl,hr,sb,fd,hcc,sm⟩
  cases left with
  |cons x left=> cases hr
  |nil=>
   rw [aP]at sb
   exact⟨got,rfl,sb,fd.le (by simp at hcc;lia),sm⟩
 ·rintro xs s1 ⟨got,e,sb,fd,sm⟩
  rw [f9]at e
  subst e
  have hgl:=sb.length_le
  walk_at "go"
  rw [show got.map (fun x=> D.str x)=(got.map aK).map D.da by rw [bx];rfl]
  walk_at "go"
  rw [show (got.map aK).map D.da=got.map (fun x=> D.str x) by rw [bx];rfl]
  rw [acn (ρ0:=[none,some (.ref n)]) (by rw [am];lia) rfl,R.W_bindk]
  refine R.W_mono (aa1 (Q:=fun xs s'=> ∃ps:List (Str×Int),xs=ps.map (fun p=> D.da (pr p))/\ps.map (fun p=> p.1)=got/\(∀p∈ps,0 <=p.2/\p.2 < 3)/\Fd s' n (c+18)/\j3 n s s') (PairJ s n (c+6) got) ?_ ?_ _ [] s1 ⟨[],got,c+6,rfl,rfl,rfl,(fun _ h=> by cases h),fd,by lia,sm⟩) ?_
  ·rintro d r acc s' ⟨ps,left,c',rfl,hr,sb2,hb,fd,hcc,sm⟩
   cases left with
   |nil=> cases hr
   | cons x left=>
    cases hr
    have hsl:=congrArg dO sb2
    simp only [aG,az,am]at hsl hcc
    refine⟨[some (.str x),some (.ref n)],rfl,?_⟩
    walk_at "go"
    refine R.W_mono (qh fd (by decide) (by decide) (by lia)) ?_
    rintro _ s2 ⟨i,rfl,i0,i1,fd1,sm1⟩
    walk_at "go"
    refine R.W_mono (qh fd1 (by decide) (by decide) (by lia)) ?_
    rintro _ s3 ⟨j,rfl,j0,j1,fd2,sm2⟩
    walk_at "go"
    rw [yj (.inl (by lia))]
    walk_at "go"
    have hj:j=0\/j=1:=by lia
    refine⟨ps++ [(x,i*j)],left,c'+2,by simp [pr],rfl,by simpa using sb2,fun p hp'=> ?_,fd2,by lia,sm.trans (sm1.trans sm2)⟩
    rcases aS.mp hp' with z|z
    ·exact hb p z
    ·rw [aL.mp z]
     rcases hj with rfl|rfl
     ·simp
     ·simp;lia
  ·rintro acc s' ⟨ps,left,c',rfl,hr,sb2,hb,fd,hcc,sm⟩
   cases left with
   |cons x left=> cases hr
   |nil=>
    rw [aP]at sb2
    exact⟨ps,rfl,sb2,hb,fd.le (by simp at hcc;lia),sm⟩
  ·rintro xs s2 ⟨ps,e,e1,hb,fd2,sm2⟩
   rw [f9]at e
   subst e
   walk_at "go"
   have hpl:ps.length=got.length:=by rw [←e1,am]
   have mem: ∀p∈ps,p.1∈seen/\0 <=p.2/\p.2 < 3:=fun p hp'=> ⟨sb.subset (by rw [←e1];exact eX (f:=fun p:Str×Int=> p.1) hp'),hb p hp'⟩
   rw [show ps.map (fun p=> D.da (pr p))=(ps.map pr).map D.da by rw [bx];rfl]
   walk_at "go"
   rw [adr (by rw [am];lia) (aft ps) (by
    rw [dQ,ay]
    intro p hp'
    obtain⟨a,b,c⟩:=mem p hp'
    exact (afs (ace (hp _ a)) b c).okD (by decide))]
   walk_at "go"
   obtain⟨qs,e2,pm,mo⟩:=at5 mem (by rw [e1];exact nd.sublist sb)
   rw [e2]at mo⊢
   exact⟨qs,rfl,by rw [pm.length_eq];lia,fun p hp'=> mem p (pm.mem_iff.mp hp'),mo,fd2,sm2⟩
theorem ahk{seen:List Str}(h:Fd s n c)(hl:seen.length <=6)(hp: ∀x∈seen,xa x=true)(nd:seen.Nodup)(hc:c+20 < 2^40):
  (qw [.ref n,.tup (seen.map aK),.int few] s).W fun d s'=> ∃ps:List (Str×Int),d=.tup (ps.map pr)/\ps.length <=6/\(∀p∈ps,p.1∈seen/\0 <=p.2/\p.2 < 3)/\alu 3 seen (.tuple (ps.map pr))=true/\Fd s' n (c+18)/\j3 n s s':=by
 rw [af2];unfold B_law_moment
 walk_at "go"
 rw [acn (ρ0:=[none,some (.int few),some (.ref n)]) (by rw [am,am];lia) rfl,R.W_bindk]
 refine R.W_mono (aa1 (Q:=fun xs s'=> ∃got:List Str,xs=got.map (fun x=> D.str x)/\got.Sublist seen/\Fd s' n (c+6)/\j3 n s s') (SomeJ s n c seen) ?_ ?_ _ [] s ⟨[],seen,c,rfl,by rw [bx];rfl,nZ.refl _,h,by lia,j3.refl _ _⟩) ?_
 ·rintro d r acc s' ⟨got,left,c',rfl,hr,sb,fd,hcc,sm⟩
  cases left with
  |nil=> cases hr
  | cons x left=>
   cases hr
   have hsl:=sb.length_le
   simp only [aG,az]at hsl hcc
   refine⟨[some (.str x),some (.int few),some (.ref n)],rfl,?_⟩
   walk_at "go"
   refine R.W_mono (qh fd (by decide) (by decide) (by lia)) ?_
   rintro _ s1 ⟨i,rfl,i0,i1,fd1,sm1⟩
   walk_at "go"
   by_cases e:i < few
   ·rw [decide_eq_true e]
    walk_at "go"
    exact⟨got++ [x],left,c'+1,by simp,rfl,by simpa using sb,fd1,by lia,sm.trans sm1⟩
   ·rw [decide_eq_false e]
    walk_at "go"
    exact⟨got,left,c'+1,rfl,rfl,(kI (lE x left) got).trans sb,fd1,by lia,sm.trans sm1⟩
 ·rintro acc s' ⟨got,left,c',rfl,hr,sb,fd,hcc,sm⟩
  cases left with
  |cons x left=> cases hr
  |nil=>
   rw [aP]at sb
   exact⟨got,rfl,sb,fd.le (by simp at hcc;lia),sm⟩
 ·rintro xs s1 ⟨got,e,sb,fd,sm⟩
  rw [f9]at e
  subst e
  have hgl:=sb.length_le
  walk_at "go"
  rw [show got.map (fun x=> D.str x)=(got.map aK).map D.da by rw [bx];rfl]
  walk_at "go"
  rw [show (got.map aK).map D.da=got.map (fun x=> D.str x) by rw [bx];rfl]
  rw [acn (ρ0:=[none,some (.ref n)]) (by rw [am];lia) rfl,R.W_bindk]
  refine R.W_mono (aa1 (Q:=fun xs s'=> ∃ps:List (Str×Int),xs=ps.map (fun p=> D.da (pr p))/\ps.map (fun p=> p.1)=got/\(∀p∈ps,0 <=p.2/\p.2 < 3)/\Fd s' n (c+18)/\j3 n s s') (PairJ s n (c+6) got) ?_ ?_ _ [] s1 ⟨[],got,c+6,rfl,rfl,rfl,(fun _ h=> by cases h),fd,by lia,sm⟩) ?_
  ·rintro d r acc s' ⟨ps,left,c',rfl,hr,sb2,hb,fd,hcc,sm⟩
   cases left with
   |nil=> cases hr
   | cons x left=>
    cases hr
    have hsl:=congrArg dO sb2
    simp only [aG,az,am]at hsl hcc
    refine⟨[some (.str x),some (.ref n)],rfl,?_⟩
    walk_at "go"
    refine R.W_mono (qh fd (by decide) (by decide) (by lia)) ?_
    rintro _ s2 ⟨i,rfl,i0,i1,fd1,sm1⟩
    walk_at "go"
    refine R.W_mono (qh fd1 (by decide) (by decide) (by lia)) ?_
    rintro _ s3 ⟨j,rfl,j0,j1,fd2,sm2⟩
    walk_at "go"
    rw [yj (.inl (by lia))]
    walk_at "go"
    have hj:j=0\/j=1:=by lia
    refine⟨ps++ [(x,i*j)],left,c'+2,by simp [pr],rfl,by simpa using sb2,fun p hp'=> ?_,fd2,by lia,sm.trans (sm1.trans sm2)⟩
    rcases aS.mp hp' with z|z
    ·exact hb p z
    ·rw [aL.mp z]
     rcases hj with rfl|rfl
     ·simp
     ·simp;lia
  ·rintro acc s' ⟨ps,left,c',rfl,hr,sb2,hb,fd,hcc,sm⟩
   cases left with
   |cons x left=> cases hr
   |nil=>
    rw [aP]at sb2
    exact⟨ps,rfl,sb2,hb,fd.le (by simp at hcc;lia),sm⟩
  ·rintro xs s2 ⟨ps,e,e1,hb,fd2,sm2⟩
   rw [f9]at e
   subst e
   walk_at "go"
   have hpl:ps.length=got.length:=by rw [←e1,am]
   have mem: ∀p∈ps,p.1∈seen/\0 <=p.2/\p.2 < 3:=fun p hp'=> ⟨sb.subset (by rw [←e1];exact eX (f:=fun p:Str×Int=> p.1) hp'),hb p hp'⟩
   rw [show ps.map (fun p=> D.da (pr p))=(ps.map pr).map D.da by rw [bx];rfl]
   walk_at "go"
   rw [adr (by rw [am];lia) (aft ps) (by
    rw [dQ,ay]
    intro p hp'
    obtain⟨a,b,c⟩:=mem p hp'
    exact (afs (ace (hp _ a)) b c).okD (by decide))]
   walk_at "go"
   obtain⟨qs,e2,pm,mo⟩:=at5 mem (by rw [e1];exact nd.sublist sb)
   rw [e2]at mo⊢
   exact⟨qs,rfl,by rw [pm.length_eq];lia,fun p hp'=> mem p (pm.mem_iff.mp hp'),mo,fd2,sm2⟩
structure DsK (many:Int) (ss:List Str) (d:ac):Prop where
 ex: ∃(i:Int) (ps:List (Str×Int)) (j:Int),d=.tuple [.int i,.tuple (ps.map pr),.int j]/\(0 <=i/\i < many)/\(0 <=j/\j < many)/\ps.length <=6/\(∀p∈ps,p.1∈ss/\0 <=p.2/\p.2 < 3)/\alu 3 ss (.tuple (ps.map pr))=true
theorem DsK.st{d:ac}(h:DsK many ss d):StK many ss d:=by
 obtain⟨i,ps,j,e,hi,hj,_,hm,_⟩:=h.ex
 exact⟨i,ps,j,e,hi,hj,hm⟩
theorem DsK.nice{d:ac}(h:DsK many ss d)(hp: ∀x∈ss,xa x=true)(hm:many <=2001):Nice 150 3 d:=by
 obtain⟨i,ps,j,rfl,hi,hj,hl,hs,_⟩:=h.ex
 have n1:=yd (B:=22) (D:=1) (ps.map pr) (by
  intro d hd
  obtain⟨p,hp',rfl⟩:=a8.mp hd
  obtain⟨a,b,c⟩:=hs p hp'
  exact afs (ace (hp _ a)) b c)
 rw [am]at n1
 exact (Nices.cons ((aat (by lia)).mono (ao _) (by decide)) (Nices.cons n1.tup (Nices.cons ((aat (by lia)).mono (ao _) (by decide)) Nices.nil))).tup.mono (by lia) (ao _)
theorem afj{a:Nat}{d:ac}(h:s[a]?=some (.lst (xs.map D.da)))(hd:okD d=true)(hx: ∀x∈xs,okD x=true)(p1:plD d=true)(p2: ∀x∈xs,plD x=true):aai (.da d) (.ref a) s=.ok (.bl (decide (d∉xs))) s:=by
 have e0:aai (.da d) (.ref a) s=aiv true (.da d) (.ref a) s:=by cases d <;> rfl
 rw [e0]
 unfold aiv
 rw [aou h,show toP s (.da d)=some d from rfl]
 show (if okD d=true/\xs.all okD=true then R.ok (D.bl (nb true (xs.any fun x=> aU x d))) s else .bad)=_
 rw [if_pos ⟨hd,ay.mpr hx⟩]
 have:(xs.any fun x=> aU x d)=decide (d∈xs):=by
  (rw [cc,fQ,decide_eq_true_eq])
  constructor
  ·rintro⟨x,hm,e⟩
   rw [zv x d (p2 x hm) p1]at e
   exact e▸hm
  ·exact fun hm=> ⟨d,hm,(zv d d p1 p1).mpr rfl⟩
 rw [this]
 show R.ok (D.bl (!decide (d∈xs))) s=_
 congr 2
 simp
theorem arq{a:Nat}(h:s[a]?=some (.lst (xs.map D.da)))(hl:xs.length+ys.length <=1000):kg true (.ref a) (.lst ys) s=.ok (.ref s.length) (s++ [.lst ((xs++ys).map D.da)]):=by
 show (match toL s (.ref a),toL s (.lst ys) with|some xs,some ys=> if xs.length+ys.length <=sizeLine then kj true (xs++ys) s else .bad|_,_=>.bad)=_
 have e1:toL s (.ref a)=some (xs.map D.da):=by
  show (match s[a]? with|some (O.lst ds)=> some ds|_=> none)=_
  rw [h]
 have e2:toL s (.lst ys)=some (ys.map D.da):=rfl
 rw [e1,e2]
 show (if (xs.map D.da).length+(ys.map D.da).length <=sizeLine then kj true (xs.map D.da++ys.map D.da) s else .bad)=_
 rw [if_pos (by rw [am,am,qx];lia),←bS]
 rfl
theorem aul(h:kh xs=true)(nd:xs.Nodup):aku (j5 xs)=true:=by
 have pm:=xn xs
 have rs:=ab9 h
 have nd2:(j5 xs).Nodup:=pm.nodup_iff.mpr nd
 unfold aaf at rs
 unfold im at nd2
 have both:=lV.mpr ⟨rs,nd2⟩
 have pw:(j5 xs).Pairwise fun a b=> ltb a b=true:=both.imp_of_mem fun {a b} ha hb hab=> by
  rcases ahe h (pm.mem_iff.mp hb) (pm.mem_iff.mp ha) hab.1 with z|z
  ·exact absurd z.symm hab.2
  ·exact z
 generalize j5 xs=l at pw
 clear both nd2 rs pm nd h
 induction l with
 |nil=> rfl
 | cons x r ih=>
  cases r with
  |nil=> rfl
  |cons y r=>
   show (ltb x y&&aku (y::r))=true
   rw [ce]at pw
   rw [pw.1 y av,ih pw.2];rfl
theorem ao4(h: ∀x∈xs,DsK many ss x):kh xs=true:=by
 unfold kh
 rw [ay]
 intro a ha
 rw [aB,ay]
 exact⟨(h a ha).st.pl,fun b hb=> (h a ha).st.lt (h b hb).st⟩
noncomputable def zy(k:Nat):ac:=.tuple [.int (k:Int),.tuple [],.int (k:Int)]
theorem avw{k:Nat}(h:(k:Int) < many):DsK many ss (zy k):=⟨(k:Int),[],(k:Int),rfl,⟨by lia,h⟩,⟨by lia,h⟩,by simp,(fun _ h=> by cases h),rfl⟩
structure TbJ (s0:S) (n a c:Nat) (many few:Int) (ss:List Str) (r:List D) (ρ:En) (s:S):Prop where
 ex: ∃(fs:List ac) (c':Nat) (u7 u8 u9:Option D),ρ=[some (.ref n),some (.lst (ss.map aK)),some (.int 8),some (.int 20),some (.int many),some (.ref a),some (.int few),u7,u8,u9]/\
  s[a]?=some (.lst (fs.map D.da))/\(∀x∈fs,DsK many ss x)/\fs.Nodup/\fs.length+r.length <=20/\Fd s n c'/\c'+20*r.length <=c+400/\j3 n s0 s/\s0.length <=a
structure TbQ (s0:S) (n c:Nat) (ss:List Str) (d:D) (s:S):Prop where
 ex: ∃(many:Int) (sts:List ac),d=.da (.tuple [.tuple (ss.map aK),.int many,.tuple sts])/\1 <=many/\many <=8/\sts.length <=28/\(∀x∈sts,DsK many ss x)/\aku sts=true/\sts.Nodup/\Fd s n c/\j3 n s0 s
def tbL:FS:=(jl (jr 8 (jn 2 jp (ja (jb 0) (ja (jb 4) je))))
  (jl (jr 9 (ve (ja (jb 8) (ja (jn 3 qw (ja (jb 0) (ja (jb 1) (ja (jb 6) je)))) (ja (jn 2 jp (ja (jb 0) (ja (jb 4) je))) je)))))
  (vd (jy (fOp aai (jb 9) (jb 5))) (y6 (fMt vx (jb 5) (ja (jb 9) je))) k7)))
theorem azk{a:Nat}(h1:1 <=many)(h5:many <=8)(hl:ss.length <=6)(hp: ∀x∈ss,xa x=true)(nd:ss.Nodup)(hc:c+900 < 2^40)(hn:n < s0.length)(J:TbJ s0 n a c many few ss (d::r) ρ s):
  ∃ρ1,ky (.nm 7) d ρ=some ρ1/\(tbL ρ1 s).W fun fl s'=> ∃ρ2,fl=.nx ρ2/\TbJ s0 n a c many few ss r ρ2 s':=by
 obtain⟨fs,c',u7,u8,u9,rfl,ha,hf,hnd,hlen,fd,hcc,sm,hs0⟩:=J.ex
 simp only [az]at hlen hcc
 refine⟨_,axi,?_⟩
 unfold tbL
 walk_at "go"
 refine R.W_mono (qh fd (by lia) (by lia) (by lia)) ?_
 rintro _ s1 ⟨i,rfl,i0,i1,fd1,sm1⟩
 walk_at "go"
 refine R.W_mono (ar5 fd1 hl hp nd (by lia)) ?_
 rintro _ s2 ⟨ps,rfl,psl,hps,mo,fd2,sm2⟩
 walk_at "go"
 refine R.W_mono (qh fd2 (by lia) (by lia) (by lia)) ?_
 rintro _ s3 ⟨j,rfl,j0,j1,fd3,sm3⟩
 walk_at "go"
 have dk:DsK many ss (.tuple [.int i,.tuple (ps.map pr),.int j]):=⟨i,ps,j,rfl,⟨i0,i1⟩,⟨j0,j1⟩,psl,hps,mo⟩
 have sm':=sm1.trans (sm2.trans sm3)
 have la:a < s.length:=(ap.mp ha).1
 have ha3:s3[a]?=some (.lst (fs.map D.da)):=by rw [sm'.get _ (by lia) la];exact ha
 have okd: ∀x,DsK many ss x -> okD x=true:=fun x hx=> (hx.nice hp (by lia)).okD (by decide)
 rw [show (D.tup [.int i,.tuple (ps.map pr),.int j])=.da (.tuple [.int i,.tuple (ps.map pr),.int j]) from rfl]
 rw [afj ha3 (okd _ dk) (fun x hx=> okd x (hf x hx)) dk.st.pl (fun x hx=> (hf x hx).st.pl)]
 by_cases hin:cY [.int i,.tuple (ps.map pr),.int j]∈fs
 ·rw [decide_eq_false (by simpa using hin)]
  walk_at "go"
  exact⟨_,rfl,fs,_,_,_,_,rfl,ha3,hf,hnd,by lia,fd3.le (ao _),by lia,sm.trans sm',hs0⟩
 ·rw [decide_eq_true hin]
  walk_at "go"
  rw [afn ha3]
  walk_at "go"
  rw [abb (d:=.da (.tuple [.int i,.tuple (ps.map pr),.int j])) ha3 (by rw [am];lia)]
  walk_at "go"
  refine⟨_,rfl,fs++ [.tuple [.int i,.tuple (ps.map pr),.int j]],_,_,_,_,rfl,?_,?_,?_,by simp;lia,(fd3.set (by lia)).le (ao _),by lia,(sm.trans sm').own (by lia),hs0⟩
  ·rw [bc (aQ la sm'.len)];simp
  ·intro x hx
   rcases aS.mp hx with z|z
   ·exact hf x z
   ·rw [aL.mp z];exact dk
  ·rw [d7]
   refine⟨hnd,by simp,fun x hx y hy e=> ?_⟩
   rw [aL.mp hy]at e
   exact hin (e▸hx)
def tbA:FS:=(jr 5 (fOp (kg true) (jb 5) (fLc false [5] 1 (abg (ja (jb 4) je)) (.nm 0) (jy (fOp aai (ve (ja (jb 0) (ja (ve je) (ja (jb 0) je)))) (jb 1))) (ve (ja (jb 0) (ja (ve je) (ja (jb 0) je)))))))
def tbZ:FS:=(kr (ve (ja (fCB zg (ja (jb 1) je)) (ja (jb 4) (ja (fCB zg (ja (fCB (yw false) (ja (jb 5) je)) je)) je)))))
theorem asv{a:Nat}{fs:List ac}{u2 u3 u7 u8 u9:Option D}(h1:1 <=many)(h5:many <=8)(hp: ∀x∈ss,xa x=true)(ha:s[a]?=some (.lst (fs.map D.da)))(hf: ∀x∈fs,DsK many ss x)(nd:fs.Nodup)(hl:fs.length <=28)(fd:Fd s n c)(sm:j3 n s0 s):
  (tbZ [some (.ref n),some (.lst (ss.map aK)),u2,u3,some (.int many),some (.ref a),some (.int few),u7,u8,u9] s).W fun fl s'=> (qf fl s').W (TbQ s0 n c ss):=by
 unfold tbZ
 walk_at "go"
 rw [ahg ha (by lia) (ao4 hf) (by
  rw [ay]
  exact fun x hx=> ((hf x hx).nice hp (by lia)).okD (by decide))]
 walk_at "go"
 have pm:=xn fs
 exact⟨many,j5 fs,rfl,h1,h5,by rw [pm.length_eq];lia,fun x hx=> hf x (pm.mem_iff.mp hx),aul (ao4 hf) nd,pm.nodup_iff.mpr nd,fd,sm⟩
theorem a1q{a:Nat}{fs:List ac}{u2 u3 u7 u8 u9:Option D}(h1:1 <=many)(h5:many <=8)(hp: ∀x∈ss,xa x=true)(ha:s[a]?=some (.lst (fs.map D.da)))(hf: ∀x∈fs,DsK many ss x)(nd:fs.Nodup)(hl:fs.length <=20):
  ∃gs:List ac,tbA [some (.ref n),some (.lst (ss.map aK)),u2,u3,some (.int many),some (.ref a),some (.int few),u7,u8,u9] s=.ok (.nx [some (.ref n),some (.lst (ss.map aK)),u2,u3,some (.int many),some (.ref s.length),some (.int few),u7,u8,u9]) (s++ [.lst (gs.map D.da)])/\(∀x∈gs,DsK many ss x)/\gs.Nodup/\gs.length <=28:=by
 obtain⟨m,rfl⟩: ∃m:Nat,many=(m:Int):=⟨many.toNat,by lia⟩
 have okd: ∀x,DsK (m:Int) ss x -> okD x=true:=fun x hx=> (hx.nice hp (by lia)).okD (by decide)
 have stk: ∀k,k∈a9 m -> DsK (m:Int) ss (zy k):=fun k hk=> avw (by have:=bD.mp hk;lia)
 refine⟨fs++((a9 m).filter fun k=> decide (zy k∉fs)).map zy,?_,?_,?_,?_⟩
 ·unfold tbA
  walk_at "ev"
  rw [aal (by lia) (by lia),show ((m:Int)).toNat=m from bU _]
  walk_at "ev"
  rw [acn (ρ0:=[none,some (.ref a)]) (by rw [xg];lia) rfl,ajm]
  rw [aiz (fun i:Nat=> D.int (i:Int)) (fun k=> decide (zy k∉fs)) zy (a9 m) (fun k hk=> ⟨[some (.int (k:Int)),some (.ref a)],rfl,by
   walk_at "ev"
   rw [show (D.tup [.int (k:Int),.tuple [],.int (k:Int)])=.da (zy k) from rfl]
   rw [afj ha (okd _ (stk k hk)) (fun x hx=> okd x (hf x hx)) (stk k hk).st.pl (fun x hx=> (hf x hx).st.pl)]
   walk_at "ev",fun _=> by
   walk_at "ev"
   rfl⟩)]
  walk_at "ev"
  rw [arq ha (by
   have:=fG (fun k=> decide (zy k∉fs)) (a9 m)
   rw [cp]at this
   rw [am];lia)]
  walk_at "ev"
 ·intro x hx
  rcases aS.mp hx with z|z
  ·exact hf x z
  ·obtain⟨k,hk,rfl⟩:=a8.mp z
   exact stk k (bR.mp hk).1
 ·rw [d7]
  refine⟨nd,?_,fun x hx y hy e=> ?_⟩
  ·unfold im
   rw [cT]
   refine i9.imp ?_ ((gW (n:=m)).filter _)
   intro a b hab e
   unfold zy at e
   injection e with e
   injection e with e _
   injection e with e
   exact hab (by lia)
  ·obtain⟨k,hk,rfl⟩:=a8.mp hy
   have:=(bR.mp hk).2
   simp only [decide_eq_true_eq]at this
   exact this (e▸hx)
 ·rw [aG,am]
  have:=fG (fun k=> decide (zy k∉fs)) (a9 m)
  rw [cp]at this
  lia
theorem auq(h:Fd s n c)(hl:ss.length <=6)(hp: ∀x∈ss,xa x=true)(nd:ss.Nodup)(hc:c+1000 < 2^40):
  DW (y0 [.ref n,.lst (ss.map aK),.int 8,.int 20] s) (TbQ s n (c+500) ss):=by
 refine⟨?_⟩
 rw [ank]
 show ((B_law_table [some (.ref n),some (.lst (ss.map aK)),some (.int 8),some (.int 20),none,none,none,none,none,none] s).bind qf).W _
 unfold B_law_table
 walk_at "go"
 refine R.W_mono (qh h (by decide) (by decide) (by lia)) ?_
 rintro _ s1 ⟨m,rfl,m0,m1,fd1,sm1⟩
 walk_at "go"
 refine R.W_mono (qh (fd1.ext (Ext.add _ _)) (by decide) (by decide) (by lia)) ?_
 rintro _ s2 ⟨few,rfl,f0,f1,fd2,sm2⟩
 walk_at "go"
 refine R.W_mono (qh fd2 (by decide) (by decide) (by lia)) ?_
 rintro _ s3 ⟨k,rfl,k0,k1,fd3,sm3⟩
 walk_at "go"
 have hn1:n < s1.length:=fd1.lt
 have hs1:=sm1.len
 have sm:j3 n s s3:=sm1.trans (((Ext.add s1 [O.lst []]).same n).trans (sm2.trans sm3))
 have ha:s3[s1.length]?=some (.lst (([]:List ac).map D.da)):=by
  have l:s1.length < (s1++ [O.lst []]).length:=by simp
  rw [(sm2.trans sm3).get _ (by lia) l];simp
 rw [aal (by lia) (by lia)]
 walk_at "go"
 refine R.W_mono (k9 (Q:=fun fl s'=> ∃ρ,fl=.nx ρ/\TbJ s n s1.length (c+3) (1+m) (1+few) ss [] ρ s') (TbJ s n s1.length (c+3) (1+m) (1+few) ss) ?_ ?_ _ _ _ ⟨[],c+3,none,none,none,rfl,ha,(fun _ h=> by cases h),dN,by rw [xg];simp;lia,fd3,by rw [xg];lia,sm,hs1⟩) ?_
 ·intro d r ρ s' J
  obtain⟨ρ1,e,w⟩:=azk (by lia) (by lia) hl hp nd (by lia) h.lt J
  refine⟨ρ1,e,R.W_mono w ?_⟩
  rintro _ s4 ⟨ρ2,rfl,J2⟩
  exact J2
 ·intro ρ s' J
  exact⟨ρ,rfl,J⟩
 ·rintro _ s4 ⟨ρ,rfl,fs,c',u7,u8,u9,rfl,ha4,hf,hnd,hlen,fd4,hcc,sm4,hs0⟩
  simp only [dA]at hlen hcc
  walk_at "go"
  refine R.W_mono (qh fd4 (by decide) (by decide) (by lia)) ?_
  rintro _ s5 ⟨q,rfl,q0,q1,fd5,sm5⟩
  walk_at "go"
  rw [abq]
  have la:s1.length < s4.length:=(ap.mp ha4).1
  have ha5:s5[s1.length]?=some (.lst (fs.map D.da)):=by rw [sm5.get _ (by lia) la];exact ha4
  by_cases hq:q=0
  ·rw [decide_eq_true hq]
   obtain⟨gs,e,g1,g2,g3⟩:=a1q (n:=n) (few:=1+few) (u2:=some (.int 8)) (u3:=some (.int 20)) (u7:=u7) (u8:=u8) (u9:=u9) (show 1 <=1+m by lia) (show 1+m <=8 by lia) hp ha5 hf hnd (by lia)
   show (tbA [some (.ref n),some (.lst (ss.map aK)),some (.int 8),some (.int 20),some (.int (1+m)),some (.ref s1.length),some (.int (1+few)),u7,u8,u9] s5).W (R.Wk (ap7 tbZ) (R.Wk qf (TbQ s n (c+500) ss)))
   rw [e]
   show (tbZ [some (.ref n),some (.lst (ss.map aK)),some (.int 8),some (.int 20),some (.int (1+m)),some (.ref s5.length),some (.int (1+few)),u7,u8,u9] (s5++ [.lst (gs.map D.da)])).W (R.Wk qf (TbQ s n (c+500) ss))
   have:=asv (s0:=s) (n:=n) (a:=s5.length) (c:=c+500) (few:=1+few) (u2:=some (.int 8)) (u3:=some (.int 20)) (u7:=u7) (u8:=u8) (u9:=u9) (s:=s5++ [.lst (gs.map D.da)]) (show 1 <=1+m by lia) (show 1+m <=8 by lia) hp (by simp) g1 g2 g3 ((fd5.ext (Ext.add _ _)).le (by lia)) (sm4.trans (sm5.trans ((Ext.add _ _).same n)))
   exact this
  ·rw [decide_eq_false hq]
   show (tbZ [some (.ref n),some (.lst (ss.map aK)),some (.int 8),some (.int 20),some (.int (1+m)),some (.ref s1.length),some (.int (1+few)),u7,u8,u9] s5).W (R.Wk qf (TbQ s n (c+500) ss))
   have:=asv (s0:=s) (n:=n) (a:=s1.length) (c:=c+500) (few:=1+few) (u2:=some (.int 8)) (u3:=some (.int 20)) (u7:=u7) (u8:=u8) (u9:=u9) (s:=s5) (show 1 <=1+m by lia) (show 1+m <=8 by lia) hp ha5 hf hnd (by lia) (fd5.le (by lia)) (sm4.trans sm5)
   exact this
structure MoK (ss:List Str) (d:ac):Prop where
 ex: ∃ps:List (Str×Int),d=.tuple (ps.map pr)/\ps.length <=6/\(∀p∈ps,p.1∈ss/\0 <=p.2/\p.2 < 3)/\alu 3 ss (.tuple (ps.map pr))=true
noncomputable def akn(i:Int):ac -> Bool
 |.tuple (.int j::_)=> decide (j=i)
 |_=> false
noncomputable def jz(ss:List Str)(many:Int)(sts:List ac):ac:=.tuple [.tuple (ss.map aK),.int many,.tuple sts]
structure WkJ (s0:S) (n c:Nat) (many:Int) (ss:List Str) (sts:List ac) (r:List D) (ρ:En) (s:S):Prop where
 ex: ∃(row:List ac) (i:Int) (c':Nat) (u5 u6 u7:Option D),ρ=[some (.ref n),some (.da (jz ss many sts)),some (.int 30),some (.int i),some (.tup row),u5,u6,u7]/\
  (∀x∈row,MoK ss x)/\row.length+r.length <=30/\Fd s n c'/\c'+r.length <=c+30/\j3 n s0 s
def wkL:FS:=(jl (jr 6 (fLc false [3] 1 (fIt (fOp gIx (jb 1) (fC (.da (.int 2))))) (.nm 0) (jy (fOp gEq (fOp gIx (jb 0) (fC (.da (.int 0)))) (jb 1))) (jb 0)))
  (vd (jy (fOp gNe (jb 6) (xf false je))) (jl (jr 7 (fOp gIx (jb 6) (jn 2 jp (ja (jb 0) (ja (fCB abi (ja (jb 6) je)) je)))))
  (jl (jr 4 (fOp (kg false) (jb 4) (ve (ja (fOp gIx (jb 7) (fC (.da (.int 1)))) je))))
  (jr 3 (fOp gIx (jb 7) (fC (.da (.int 2))))))) k7))
theorem a5k{a b c:ac}:gIx (.da (.tuple [a,b,c])) (.da (.int 2)) s=.ok (.da c) s:=ad5 (k:=2) rfl
theorem a0a(hm:many <=8)(hp: ∀x∈ss,xa x=true)(hl:sts.length <=28)(hd: ∀x∈sts,DsK many ss x)(hc:c+100 < 2^40)(J:WkJ s0 n c many ss sts (d::r) ρ s):
  ∃ρ1,ky (.nm 5) d ρ=some ρ1/\(wkL ρ1 s).W fun fl s'=> ∃ρ2,fl=.nx ρ2/\WkJ s0 n c many ss sts r ρ2 s':=by
 obtain⟨row,i,c',u5,u6,u7,rfl,hrow,hlen,fd,hcc,sm⟩:=J.ex
 simp only [az]at hlen hcc
 refine⟨_,akm,?_⟩
 unfold wkL jz
 walk_at "go"
 rw [acn (ρ0:=[none,some (.int i)]) (by rw [am];lia) rfl]
 rw [aje (rest:=[some (.int i)]) (akn i) (fun x=> D.da x) sts (fun x hx=> by
  obtain⟨j,ps,k,rfl,_⟩:=(hd x hx).ex
  walk_at "ev"
  rw [abq]
  walk_at "ev"
  rfl) (fun x hx _=> by
  walk_at "ev")]
 walk_at "go"
 have hs: ∀x∈sts.filter (akn i),DsK many ss x:=fun x hx=> hd x (bR.mp hx).1
 have hfl:(sts.filter (akn i)).length <=28:=bb (fG _ _) hl
 generalize sts.filter (akn i)=fs at hs hfl
 have ok:okD (.list fs)=true:=(yd fs fun x hx=> (hs x hx).nice hp (by lia)).lst.okD (by decide)
 rw [a1k ok rfl,a0k]
 walk_at "go"
 cases fs with
 |nil=>
  walk_at "go"
  exact⟨_,rfl,row,i,c',_,_,_,rfl,hrow,by lia,fd,by lia,sm⟩
 |cons y fs=>
  rw [show (!(y::fs).isEmpty)=true from rfl]
  walk_at "go"
  refine R.W_mono (qh fd (by simp) (by simp only [az]at hfl⊢;lia) (by lia)) ?_
  rintro _ s1 ⟨k,rfl,k0,k1,fd1,sm1⟩
  obtain⟨k',rfl⟩:=eY k0
  have kl:k' < (y::fs).length:=by simp only [az]at k1⊢;lia
  obtain⟨x,hx⟩: ∃x,(y::fs)[k']?=some x:=⟨_,aq kl⟩
  walk_at "go"
  rw [afu hx]
  obtain⟨j,ps,j2,rfl,hj,hj2,psl,hps,mo⟩:=(hs x (bp hx)).ex
  walk_at "go"
  rw [aa2 (by simp;lia)]
  walk_at "go"
  refine⟨_,rfl,row++ [.tuple (ps.map pr)],j2,c'+1,_,_,_,rfl,?_,by simp;lia,fd1,by lia,sm.trans sm1⟩
  intro z hz
  rcases aS.mp hz with h|h
  ·exact hrow z h
  ·rw [aL.mp h];exact⟨ps,rfl,psl,hps,mo⟩
theorem atb(h:Fd s n c)(hm:many <=8)(hp: ∀x∈ss,xa x=true)(hl:sts.length <=28)(hd: ∀x∈sts,DsK many ss x)(hc:c+100 < 2^40):
  (aaa [.ref n,.da (jz ss many sts),.int 30] s).W fun d s'=> ∃row:List ac,d=.tup row/\(∀x∈row,MoK ss x)/\row.length <=30/\Fd s' n (c+30)/\j3 n s s':=by
 rw [an2];unfold B_law_walked
 walk_at "go"
 rw [aal (by decide) (by decide),show ((30:Int)).toNat=30 from rfl]
 walk_at "go"
 refine R.W_mono (k9 (Q:=fun fl s'=> ∃ρ,fl=.nx ρ/\WkJ s n c many ss sts [] ρ s') (WkJ s n c many ss sts) ?_ ?_ _ _ _ ⟨[],0,c,none,none,none,rfl,(fun _ h=> by cases h),by rw [xg];simp,h,by rw [xg];lia,j3.refl _ _⟩) ?_
 ·intro d r ρ s' J
  obtain⟨ρ1,e,w⟩:=a0a hm hp hl hd hc J
  refine⟨ρ1,e,R.W_mono w ?_⟩
  rintro _ s4 ⟨ρ2,rfl,J2⟩
  exact J2
 ·intro ρ s' J
  exact⟨ρ,rfl,J⟩
 ·rintro _ s4 ⟨ρ,rfl,row,i,c',u5,u6,u7,rfl,hrow,hlen,fd4,hcc,sm4⟩
  simp only [dA]at hlen hcc
  walk_at "go"
  exact⟨row,rfl,hrow,by lia,fd4.le (by lia),sm4⟩
theorem alv{kvs:List (ac×D)}{k:ac}{v x:D}(h:s[n]?=some (.dct kvs))(hk:v4 kvs k=true)(hl:kvs.length < 16777216)(hg:qj kvs k=some v):ac6 (.ref n) [.da k,x] s=.ok v s:=by
 show onD (.ref n) s (fun n kvs=> if v4 kvs k=true/\kvs.length < sizeLine then (match qj kvs k with|some v=> R.ok v s|none=> R.ok x (s.set n (.dct (v3 kvs k x)))) else .bad)=_
 rw [adi h,if_pos ⟨hk,hl⟩,hg]
theorem an4{kvs:List (ac×D)}{k:ac}{x:D}(h:s[n]?=some (.dct kvs))(hk:v4 kvs k=true)(hl:kvs.length < 16777216)(hg:qj kvs k=none):ac6 (.ref n) [.da k,x] s=.ok x (s.set n (.dct (v3 kvs k x))):=by
 show onD (.ref n) s (fun n kvs=> if v4 kvs k=true/\kvs.length < sizeLine then (match qj kvs k with|some v=> R.ok v s|none=> R.ok x (s.set n (.dct (v3 kvs k x)))) else .bad)=_
 rw [adi h,if_pos ⟨hk,hl⟩,hg]
theorem aqg{l:Nat}{ds es:List D}(h:s[n]?=some (.lst ds))(h2:s[l]?=some (.lst es))(hl:ds.length+es.length <=16777216):aao (.ref n) [.ref l] s=.ok .non (s.set n (.lst (ds++es))):=by
 show (match (match s[l]? with|some (O.lst ds)=> some ds|_=> none) with|some ys=> onL (.ref n) s fun n xs=> if xs.length+ys.length <=sizeLine then .ok .non (s.set n (.lst (xs++ys))) else .bad|none=>.bad)=_
 rw [h2]
 show (match s[n]? with|some (O.lst xs)=> (if xs.length+es.length <=sizeLine then R.ok D.non (s.set n (.lst (xs++es))) else .bad)|_=>.bad)=_
 rw [h]
 exact if_pos hl
theorem ao5{α:Type}(kvs:List (ac×α))(k:ac)(v:α):(v3 kvs k v).length <=kvs.length+1:=by
 unfold v3
 split <;> simp
theorem azp{α:Type}{kvs:List (ac×α)}{k:ac}{v:α}{e:ac×α}(h:e∈v3 kvs k v):e.1=k\/ ∃e'∈kvs,e'.1=e.1:=by
 unfold v3 at h
 split at h
 ·obtain⟨a,ha,rfl⟩:=a8.mp h
  split
  ·rename_i z;exact .inl z
  ·exact .inr ⟨a,ha,rfl⟩
 ·rcases aS.mp h with z|z
  ·exact .inr ⟨e,z,rfl⟩
  ·rw [aL.mp z];exact .inl rfl
theorem ao8{α:Type}{p:ac -> Bool}{kvs:List (ac×α)}{k:ac}{v:α}(h:(kvs.all fun e=> p e.1)=true)(hk:p k=true):((v3 kvs k v).all fun e=> p e.1)=true:=by
 rw [ay]at h⊢
 intro e he
 rcases azp he with z|⟨e',h',z⟩
 ·rw [z];exact hk
 ·rw [←z];exact h e' h'
theorem az0{α:Type}{kvs:List (ac×α)}{k:ac}:(qj kvs k).isSome=true ↔ k∈kvs.map (·.1):=by
 unfold qj
 rw [jI,List.find?_isSome,a8]
 constructor
 ·rintro⟨e,he,h⟩;exact⟨e,he,by simpa using h⟩
 ·rintro⟨e,he,h⟩;exact⟨e,he,by simpa using h⟩
structure Sh (s:S) (a c kb:Nat) (kvs:List (ac×D)) (B:Int -> Option Nat) (M:Int -> List (ac×D)) (L:Int -> ac -> Option Nat) (E:Int -> ac -> List Int):Prop where
 at_:s[a]?=some (.dct kvs)
 ks:(kvs.all fun e=> isK e.1)=true
 kl:kvs.length <=kb
 gB: ∀i,qj kvs (.int i)=(B i).map D.ref
 mB: ∀i b,B i=some b -> s[b]?=some (.dct (M i))/\a < b/\((M i).all fun e=> isT e.1)=true/\(M i).length <=c
 iB: ∀i j b,B i=some b -> B j=some b -> i=j
 gL: ∀i b,B i=some b -> ∀m,qj (M i) m=(L i m).map D.ref
 nL: ∀i,B i=none -> ∀m,L i m=none
 mL: ∀i m l,L i m=some l -> s[l]?=some (.lst ((E i m).map D.int))/\a < l
 iL: ∀i m j k l,L i m=some l -> L j k=some l -> i=j/\m=k
 nE: ∀i m,L i m=none -> E i m=[]
theorem Sh.ext{a kb:Nat}{kvs B M L E}(h:Sh s a c kb kvs B M L E)(x:Ext s s'):Sh s' a c kb kvs B M L E:=
 ⟨x.get h.at_,h.ks,h.kl,h.gB,fun i b e=> let ⟨p,q⟩:=h.mB i b e;⟨x.get p,q⟩,h.iB,h.gL,h.nL,fun i m l e=> ⟨x.get (h.mL i m l e).1,(h.mL i m l e).2⟩,h.iL,h.nE⟩
theorem Sh.lek{a kb kb':Nat}{kvs B M L E}(h:Sh s a c kb kvs B M L E)(x:kb <=kb'):Sh s a c kb' kvs B M L E:=
 ⟨h.at_,h.ks,bb h.kl x,h.gB,h.mB,h.iB,h.gL,h.nL,h.mL,h.iL,h.nE⟩
theorem Sh.le{a c' kb:Nat}{kvs B M L E}(h:Sh s a c kb kvs B M L E)(x:c <=c'):Sh s a c' kb kvs B M L E:=
 ⟨h.at_,h.ks,h.kl,h.gB,fun i b e=> let ⟨p,q,r,t⟩:=h.mB i b e;⟨p,q,r,bb t x⟩,h.iB,h.gL,h.nL,h.mL,h.iL,h.nE⟩
theorem aen{kvs:List (ac×D)}(h:(kvs.all fun e=> isK e.1)=true)(i:Int):v4 kvs (.int i)=true:=by
 unfold v4
 rw [h];rfl
theorem ahx{kvs:List (ac×D)}(h:(kvs.all fun e=> isT e.1)=true)(hm:isT m=true):v4 kvs m=true:=by
 unfold v4
 rw [h,hm];simp
theorem aj7{a b:Nat}{o o':O}(h:s[a]?=some o)(h':s[b]?=some o')(hn:o≠o'):a≠b:=fun e=> by subst e;rw [h]at h';exact hn (bH h')
theorem adb{a b:Nat}{o o':O}(h:s[b]?=some o)(hn:a≠b):(s.set a o')[b]?=some o:=by rw [aF hn];exact h
theorem a1x{a kb:Nat}{kvs B M L E}(h:Sh s a c kb kvs B M L E)(hc:kb < 1000000)(i:Int): ∃s' kvs' B' M' b,ac6 (.ref a) [.da (.int i),.ref s.length] (s++ [.dct []])=.ok (.ref b) s'/\B' i=some b/\Sh s' a c (kb+1) kvs' B' M' L E/\
  s'.length=s.length+1/\(∀k,k < a -> s'[k]?=s[k]?)/\(∀j m,m∈(M' j).map (·.1)/\(B' j).isSome=true ↔ m∈(M j).map (·.1)/\(B j).isSome=true):=by
 have x:Ext s (s++ [.dct []]):=Ext.add _ _
 have h1:=h.ext x
 have hl:=h.kl
 cases e:B i with
 |some b=>
  refine⟨s++ [.dct []],kvs,B,M,b,alv h1.at_ (aen h.ks i) (by lia) (by rw [h.gB,e];rfl),e,h1.lek (by lia),by simp,fun k hk=> x.getE (by have:=(ap.mp h.at_).1;lia),fun _ _=> Iff.rfl⟩
 | none=>
  have ha:a < s.length:=(ap.mp h.at_).1
  have old: ∀k o,s[k]?=some o -> k≠a -> ((s++ [O.dct []]).set a (.dct (v3 kvs (.int i) (.ref s.length))))[k]?=some o:=fun k o hk hn=> adb (x.get hk) (bY hn)
  refine⟨_,v3 kvs (.int i) (.ref s.length),fun j=> if j=i then some s.length else B j,fun j=> if j=i then [] else M j,s.length,an4 h1.at_ (aen h.ks i) (by lia) (by rw [h.gB,e];rfl),if_pos rfl,⟨?_,?_,?_,?_,?_,?_,?_,?_,?_,?_,?_⟩,by simp,fun k hk=> ?_,?_⟩
  ·exact bc (by simp;lia)
  ·exact ao8 h.ks rfl
  ·have:=ao5 kvs (.int i) (D.ref s.length);lia
  ·intro j
   rw [ann]
   by_cases z:j=i
   ·subst z;simp
   ·have z1: ¬(aX i=aX j):=fun y=> z (by cases y;rfl)
    rw [if_neg z1];simp only [if_neg z];exact h.gB j
  ·intro j b hb
   by_cases z:j=i
   ·subst z
    simp only [if_true]at hb⊢
    cases hb
    exact⟨by rw [aF (by lia)];simp,by lia,rfl,bP _⟩
   ·simp only [if_neg z]at hb⊢
    obtain⟨p,q,r,t⟩:=h.mB j b hb
    exact⟨old b _ p (by lia),q,r,by lia⟩
  ·intro j k b hj hk
   have lt: ∀j b,B j=some b -> b < s.length:=fun j b hb=> (ap.mp (h.mB j b hb).1).1
   by_cases z:j=i <;> by_cases y:k=i
   ·rw [z,y]
   ·simp only [if_pos z]at hj;simp only [if_neg y]at hk;cases hj;exact absurd (lt k _ hk) (by lia)
   ·simp only [if_neg z]at hj;simp only [if_pos y]at hk;cases hk;exact absurd (lt j _ hj) (by lia)
   ·simp only [if_neg z]at hj;simp only [if_neg y]at hk;exact h.iB j k b hj hk
  ·intro j b hb m
   by_cases z:j=i
   ·subst z;simp only [if_true];rw [h.nL j e m];rfl
   ·simp only [if_neg z]at hb⊢;exact h.gL j b hb m
  ·intro j hj m
   by_cases z:j=i
   ·subst z;simp only [if_true]at hj;cases hj
   ·simp only [if_neg z]at hj;exact h.nL j hj m
  ·intro j m l hL
   exact⟨old l _ (h.mL j m l hL).1 (by have:=(h.mL j m l hL).2;lia),(h.mL j m l hL).2⟩
  ·exact h.iL
  ·exact h.nE
  ·rw [aF (by lia)];exact x.getE (by lia)
  ·intro j m
   by_cases z:j=i
   ·subst z;simp only [if_true];rw [e];simp
   ·simp only [if_neg z]
theorem a1f{a b kb:Nat}{kvs B M L E}(h:Sh s a c kb kvs B M L E)(hc:c < 1000000)(hb:B i=some b)(hm:isT m=true): ∃s' M' L' l,ac6 (.ref b) [.da m,.ref s.length] (s++ [.lst []])=.ok (.ref l) s'/\L' i m=some l/\Sh s' a (c+1) kb kvs B M' L' E/\
  s'.length=s.length+1/\(∀k,k < a -> s'[k]?=s[k]?)/\(∀j k,k∈(M' j).map (·.1)/\(B j).isSome=true ↔ (k∈(M j).map (·.1)/\(B j).isSome=true)\/(j=i/\k=m)):=by
 have x:Ext s (s++ [.lst []]):=Ext.add _ _
 have h1:=h.ext x
 obtain⟨p1,q1,r1,t1⟩:=h1.mB i b hb
 cases e:L i m with
 |some l=>
  have hin:m∈(M i).map (·.1):=az0.mp (by rw [h.gL i b hb m,e];rfl)
  refine⟨s++ [.lst []],M,L,l,alv p1 (ahx r1 hm) (by lia) (by rw [h.gL i b hb m,e];rfl),e,h1.le (by lia),by simp,fun k hk=> x.getE (by have:=(ap.mp h.at_).1;lia),fun j k=> ⟨.inl,fun z=> z.elim id fun y=> ?_⟩⟩
  rw [y.1,y.2,hb];exact⟨hin,rfl⟩
 | none=>
  have hbl:b < s.length:=(ap.mp (h.mB i b hb).1).1
  have old: ∀k o,s[k]?=some o -> k≠b -> ((s++ [O.lst []]).set b (.dct (v3 (M i) m (.ref s.length))))[k]?=some o:=fun k o hk hn=> adb (x.get hk) (bY hn)
  refine⟨_,fun j=> if j=i then v3 (M i) m (.ref s.length) else M j,fun j k=> if j=i/\k=m then some s.length else L j k,s.length,an4 p1 (ahx r1 hm) (by lia) (by rw [h.gL i b hb m,e];rfl),if_pos ⟨rfl,rfl⟩,⟨?_,h.ks,h.kl,h.gB,?_,h.iB,?_,?_,?_,?_,?_⟩,by simp,fun k hk=> ?_,?_⟩
  ·exact old a _ h.at_ (by lia)
  ·intro j b' hb'
   by_cases z:j=i
   ·subst z
    rw [hb]at hb';cases hb'
    simp only [if_true]
    exact⟨bc (by simp;lia),q1,ao8 r1 hm,by have:=ao5 (M j) m (D.ref s.length);lia⟩
   ·simp only [if_neg z]
    obtain⟨p,q,r,t⟩:=h.mB j b' hb'
    exact⟨old b' _ p (fun y=> z (h.iB j i b' hb' (y▸hb))),q,r,by lia⟩
  ·intro j b' hb' k
   by_cases z:j=i
   ·subst z
    simp only [if_true,true_and]
    rw [ann]
    by_cases y:k=m
    ·subst y;simp
    ·rw [if_neg (bY y),if_neg y];exact h.gL j b' hb' k
   ·simp only [if_neg z,if_neg (show¬(j=i/\k=m) from fun y=> z y.1)];exact h.gL j b' hb' k
  ·intro j hj k
   have z: ¬(j=i/\k=m):=fun y=> by rw [y.1,hb]at hj;cases hj
   simp only [if_neg z];exact h.nL j hj k
  ·intro j k l hL
   by_cases z:j=i/\k=m
   ·simp only [if_pos z]at hL
    cases hL
    exact⟨by rw [z.1,z.2,h.nE i m e,aF (by lia)];simp,by lia⟩
   ·simp only [if_neg z]at hL
    exact⟨old l _ (h.mL j k l hL).1 (aj7 (h.mL j k l hL).1 (h.mB i b hb).1 (by intro y;cases y)),(h.mL j k l hL).2⟩
  ·have lt: ∀j k l,L j k=some l -> l < s.length:=fun j k l hl=> (ap.mp (h.mL j k l hl).1).1
   intro j k j' k' l hj hk
   by_cases z:j=i/\k=m <;> by_cases y:j'=i/\k'=m
   ·exact⟨by rw [z.1,y.1],by rw [z.2,y.2]⟩
   ·simp only [if_pos z]at hj;simp only [if_neg y]at hk;cases hj;exact absurd (lt j' k' _ hk) (by lia)
   ·simp only [if_neg z]at hj;simp only [if_pos y]at hk;cases hk;exact absurd (lt j k _ hj) (by lia)
   ·simp only [if_neg z]at hj;simp only [if_neg y]at hk;exact h.iL j k j' k' l hj hk
  ·intro j k hj
   by_cases z:j=i/\k=m
   ·simp only [if_pos z]at hj;cases hj
   ·simp only [if_neg z]at hj;exact h.nE j k hj
  ·rw [aF (by lia)];exact x.getE (by lia)
  ·intro j k
   by_cases z:j=i
   ·subst z
    simp only [if_true,true_and]
    rw [amn]
    unfold an1
    by_cases y:m∈(M j).map (·.1)
    ·rw [if_pos y,hb]
     exact⟨.inl,fun w=> w.elim id fun w=> ⟨w▸y,rfl⟩⟩
    ·rw [if_neg y,hb];simp
   ·have z2: ¬(j=i/\k=m):=fun y=> z y.1
    simp only [if_neg z]
    exact⟨.inl,fun w=> w.elim id fun y=> absurd y z2⟩
theorem avk{a l kb:Nat}{kvs B M L E}(h:Sh s a c kb kvs B M L E)(hl:L i m=some l)(j:Int):Sh (s.set l (.lst ((E i m).map D.int++ [.int j]))) a c kb kvs B M L (fun i' m'=> if i'=i/\m'=m then E i m++ [j] else E i' m'):=by
 have hs:=(h.mL i m l hl).1
 refine⟨adb h.at_ (aj7 hs h.at_ (by intro y;cases y)),h.ks,h.kl,h.gB,fun i' b hb=> ?_,h.iB,h.gL,h.nL,fun i' m' l' hL=> ?_,h.iL,fun i' m' hn=> ?_⟩
 ·obtain⟨p,q⟩:=h.mB i' b hb
  exact⟨adb p (aj7 hs p (by intro y;cases y)),q⟩
 ·by_cases z:i'=i/\m'=m
  ·simp only [if_pos z]
   rw [z.1,z.2,hl]at hL
   cases hL
   exact⟨by rw [bc (ap.mp hs).1,bS];rfl,(h.mL i m l hl).2⟩
  ·simp only [if_neg z]
   exact⟨adb (h.mL i' m' l' hL).1 (fun y=> z (h.iL i' m' i m l' hL (y▸hl))),(h.mL i' m' l' hL).2⟩
 ·have z: ¬(i'=i/\m'=m):=fun y=> by rw [y.1,y.2,hl]at hn;cases hn
  simp only [if_neg z];exact h.nE i' m' hn
theorem adk(h: ∀k,k < s.length -> s'[k]?=s[k]?)(hl:s.length <=s'.length):Ext s s':=by
 refine⟨s'.drop s.length,?_⟩
 refine cS fun k=> ?_
 by_cases hk:k < s.length
 ·rw [aJ hk];exact h k hk
 ·rw [aW (by lia),gu];congr 1;lia
noncomputable def bgI:ac -> Int
 |.tuple (.int i::_)=> i
 |_=> 0
noncomputable def moP:ac -> ac
 |.tuple [_,m,_]=> m
 |_=>.none
noncomputable def enI:ac -> Int
 |.tuple [_,_,.int j]=> j
 |_=> 0
def vj(sts:List ac)(i:Int)(m:ac):List Int:=(sts.filter fun x=> decide (bgI x=i/\moP x=m)).map enI
def fiB:FS:=(y6 (fMt vx (fMd ac6 (fMd ac6 (ad2 ct "leads" (jb 0)) (ja (jb 2) (ja z5 je))) (ja (jb 3) (ja (xf true je) je))) (ja (jb 4) je)))
theorem axt{a kb:Nat}{kvs B M L E}{t:Option D}(sh:Sh s a c kb kvs B M L E)(hc:c+2 < 1000000)(hk:kb+2 < 1000000)(hm:isT m=true)(hn:s[n]?=some (.ins "Follower" [("leads",.ref a)]))(na:n < a)(hE:(E i m).length < 1000000):
  (fiB [some (.ref n),t,some (.int i),some (.da m),some (.int j)] s).W fun fl s'=> fl=.nx [some (.ref n),t,some (.int i),some (.da m),some (.int j)]/\s'[n]?=some (.ins "Follower" [("leads",.ref a)])/\s.length <=s'.length/\(∀k,k < a -> s'[k]?=s[k]?)/\
   ∃kvs' B' M' L',Sh s' a (c+1) (kb+1) kvs' B' M' L' (fun i' m'=> if i'=i/\m'=m then E i m++ [j] else E i' m')/\(∀j k,k∈(M' j).map (·.1)/\(B' j).isSome=true ↔ (k∈(M j).map (·.1)/\(B j).isSome=true)\/(j=i/\k=m)):=by
 unfold fiB
 walk_at "go"
 rw [ajb hn rfl rfl]
 walk_at "go"
 rw [afw sh.at_]
 walk_at "go"
 obtain⟨s1,kvs1,B1,M1,b,e1,eB,sh1,l1,f1,k1⟩:=a1x sh (by lia) i
 rw [e1]
 walk_at "go"
 rw [afw (sh1.mB i b eB).1]
 walk_at "go"
 obtain⟨s2,M2,L2',l,e2,eL,sh2,l2,f2,k2⟩:=a1f sh1 (by lia) eB hm
 rw [e2]
 walk_at "go"
 rw [afn (sh2.mL i m l eL).1]
 walk_at "go"
 rw [abb (sh2.mL i m l eL).1 (by rw [am];lia)]
 walk_at "go"
 have al:=(sh2.mL i m l eL).2
 have fr: ∀k,k < a -> (s2.set l (.lst ((E i m).map D.int++ [.int j])))[k]?=s[k]?:=fun k hk=> by
  rw [aF (by lia),f2 k hk,f1 k hk]
 refine⟨trivial,by rw [fr n na];exact hn,by simp;lia,fr,kvs1,B1,M2,L2',avk sh2 eL j,fun j' k=> ?_⟩
 rw [k2,k1]
theorem ajs(sts:List ac)(x:ac)(i:Int)(m:ac):vj (sts++ [x]) i m=if i=bgI x/\m=moP x then vj sts (bgI x) (moP x)++ [enI x] else vj sts i m:=by
 unfold vj
 rw [List.filter_append,bS]
 by_cases z:i=bgI x/\m=moP x
 ·obtain⟨rfl,rfl⟩:=z
  simp
 ·rw [if_neg z,gI (by simpa using fun a b=> z ⟨a.symm,b.symm⟩)]
  simp
theorem ae1(sts:List ac)(i:Int)(m:ac):(vj sts i m).length <=sts.length:=by
 unfold vj
 rw [am];exact fG _ _
def aew(sts:List ac)(i:Int)(m:ac):Prop:= ∃x∈sts,bgI x=i/\moP x=m
structure Fol (s:S) (n:Nat) (sts:List ac):Prop where
 ex: ∃a kvs B M L,n < a/\s[n]?=some (.ins "Follower" [("leads",.ref a)])/\Sh s a sts.length sts.length kvs B M L (vj sts)/\ ∀i m,m∈(M i).map (·.1)/\(B i).isSome=true ↔ aew sts i m
theorem Fol.ext(h:Fol s n sts)(x:Ext s s'):Fol s' n sts:=by
 obtain⟨a,kvs,B,M,L,h1,h2,h3,h4⟩:=h.ex
 exact⟨a,kvs,B,M,L,h1,x.get h2,h3.ext x,h4⟩
structure FiJ (s0:S) (n a:Nat) (t:D) (sts:List ac) (r:List D) (ρ:En) (s:S):Prop where
 ex: ∃done rest u2 u3 u4 kvs B M L,sts=done++rest/\r=rest.map D.da/\ρ=[some (.ref n),some t,u2,u3,u4]/\s[n]?=some (.ins "Follower" [("leads",.ref a)])/\s0.length <=s.length/\(∀k,k < a -> s[k]?=s0[k]?)/\
  Sh s a done.length done.length kvs B M L (vj done)/\ ∀i m,m∈(M i).map (·.1)/\(B i).isSome=true ↔ aew done i m
structure DtK (d:ac):Prop where
 ex: ∃(i:Int) (m:ac) (j:Int),d=.tuple [.int i,m,.int j]/\isT m=true
theorem a4l{u2 u3 u4:Option D}:ky (.t3 (.nm 2) (.nm 3) (.nm 4)) (.da (.tuple [.int i,m,.int j])) [x0,x1,u2,u3,u4]=some [x0,x1,some (.int i),some (.da m),some (.int j)]:=(rfl)
theorem ait{a b:ac}(hn:n+1=s.length)(h:s[n]?=some (.ins "Follower" []))(hl:sts.length <=28)(hd: ∀x∈sts,DtK x):
  (vw [.ref n,.da (.tuple [a,b,.tuple sts])] s).W fun d s'=> d=.non/\Fol s' n sts/\s.length <=s'.length/\ ∀k,k < n -> s'[k]?=s[k]?:=by
 rw [aj0];unfold aan
 walk_at "go"
 have x:Ext s (s++ [O.dct []]):=Ext.add _ _
 rw [avm (x.get h) rfl (by simp)]
 walk_at "go"
 have hn':n < (s++ [O.dct []]).length:=by simp;lia
 generalize hs1:(s++ [O.dct []]).set n (.ins "Follower" (putN "leads" (.ref s.length) []))=s1
 have l1:s1.length=s.length+1:=by rw [←hs1];simp
 have g1:s1[n]?=some (.ins "Follower" [("leads",.ref s.length)]):=by rw [←hs1];exact bc hn'
 have g2:s1[s.length]?=some (.dct []):=by rw [←hs1,aF (by lia)];simp
 have fr: ∀k,k < n -> s1[k]?=s[k]?:=fun k hk=> by rw [←hs1,aF (by lia)];exact x.getE (by lia)
 have sh0:Sh s1 s.length 0 0 [] (fun _=> none) (fun _=> []) (fun _ _=> none) (vj []):=⟨g2,rfl,ao _,fun _=> rfl,(fun _ _ e=> by cases e),(fun _ _ _ e=> by cases e),(fun _ _ e=> by cases e),fun _ _ _=> rfl,(fun _ _ _ e=> by cases e),(fun _ _ _ _ _ e=> by cases e),fun _ _ _=> rfl⟩
 refine R.W_mono (k9 (Q:=fun fl s'=> ∃ρ,fl=.nx ρ/\FiJ s1 n s.length (.da (.tuple [a,b,.tuple sts])) sts [] ρ s') (FiJ s1 n s.length (.da (.tuple [a,b,.tuple sts])) sts) ?_ ?_ _ _ _ ⟨[],sts,none,none,none,_,_,_,_,rfl,rfl,rfl,g1,ao _,fun _ _=> rfl,sh0,fun i m=> ⟨(fun y=> by cases y.2),fun⟨_,y,_⟩=> by cases y⟩⟩) ?_
 ·intro d r ρ s' J
  obtain⟨done,rest,u2,u3,u4,kvs,B,M,L,e1,e2,rfl,hN,hL,hF,sh,hk⟩:=J.ex
  cases rest with
  |nil=> cases e2
  | cons y rest=>
   cases e2
   have hy:y∈sts:=by rw [e1];simp
   obtain⟨i,m,j,rfl,hm⟩:=(hd y hy).ex
   have dl:done.length < 28:=by have:=congrArg dO e1;simp at this;lia
   refine⟨_,a4l,?_⟩
   refine R.W_mono (axt (t:=some (.da (.tuple [a,b,.tuple sts]))) sh (by lia) (by lia) hm hN (by lia) (by have:=ae1 done i m;lia)) ?_
   rintro _ s2 ⟨rfl,g,l,f,kvs',B',M',L',sh',hk'⟩
   refine⟨done++ [.tuple [.int i,m,.int j]],rest,_,_,_,kvs',B',M',L',by rw [e1];simp,rfl,rfl,g,by lia,fun k hk=> by rw [f k hk,hF k hk],?_,fun i' m'=> ?_⟩
   ·have ee:vj (done++ [.tuple [.int i,m,.int j]])=fun i' m'=> if i'=i/\m'=m then vj done i m++ [j] else vj done i' m':=by
     funext i' m';exact ajs done (.tuple [.int i,m,.int j]) i' m'
    rw [ee]
    rw [aG,dW];exact sh'
   ·rw [hk',hk]
    unfold aew
    constructor
    ·rintro (⟨x,hx,h⟩|⟨rfl,rfl⟩)
     ·exact⟨x,aS.mpr (.inl hx),h⟩
     ·exact⟨_,aS.mpr (.inr av),rfl,rfl⟩
    ·rintro⟨x,hx,h⟩
     rcases aS.mp hx with q|q
     ·exact .inl ⟨x,q,h⟩
     ·rw [aL.mp q]at h;exact .inr ⟨h.1.symm,h.2.symm⟩
 ·intro ρ s' J
  exact⟨ρ,rfl,J⟩
 ·rintro _ s4 ⟨ρ,rfl,done,rest,u2,u3,u4,kvs,B,M,L,e1,e2,rfl,hN,hL,hF,sh,hk⟩
  cases rest with
  |cons y r=> cases e2
  |nil=>
   rw [aP]at e1
   subst e1
   walk_at "go"
   exact⟨trivial,⟨s.length,kvs,B,M,L,by lia,hN,sh,hk⟩,by lia,fun k hk=> by rw [hF k (by lia),fr k hk]⟩
theorem aqp{F:FF}{x:D}:axm C 2 F ρ [x] s=((F [.ref s.length,x] (s++ [.ins C []])).at ρ).bind (al0 s.length):=(rfl)
def aar(sts:List ac)(is:List Int)(m:ac):List Int:=is.flatMap fun i=> vj sts i m
def aca(sts:List ac)(is:List Int)(m:ac):List Int:=zd (jt (aar sts is m))
noncomputable def iT(is:List Int):ac:=.tuple (is.map aX)
theorem ak4: ∀is:List Int,abn (is.map D.int)=some is
 |[]=> rfl
 |i::r=> by
  show (match abn (r.map D.int) with|some xs=> some (i::xs)|none=> none)=_
  rw [ak4 r]
theorem al6(h:s[n]?=some (.lst (is.map D.int)))(h1:is.length < 4000)(h2:(jt is).length < 64):acv false [.ref n] s=.ok (.lst ((zd (jt is)).map aX)) s:=by
 show (match (match s[n]? with|some (O.lst ds)=> some ds|_=> none).bind abn with|some is=> if is.length < 4000/\(jt is).length < 64 then kj false ((zd (jt is)).map D.int) s else .bad|none=>.bad)=_
 rw [h]
 show (match abn (is.map D.int) with|some is=> if is.length < 4000/\(jt is).length < 64 then kj false ((zd (jt is)).map D.int) s else .bad|none=>.bad)=_
 rw [ak4]
 show (if is.length < 4000/\(jt is).length < 64 then kj false ((zd (jt is)).map D.int) s else .bad)=_
 rw [if_pos ⟨h1,h2⟩]
 have e:(zd (jt is)).map D.int=((zd (jt is)).map aX).map D.da:=by rw [bx];rfl
 rw [e];exact ai1
theorem als: ∀(l:List Int) (lo hi:Int),l.Pairwise (· < ·) -> (∀x∈l,lo <=x/\x < hi) -> l=[]\/(l.length:Int) <=hi - lo
 |[],_,_,_,_=>.inl rfl
 |x::r,lo,hi,p,h=> by
  rw [ce]at p
  have hx:=h x av
  rcases als r (x+1) hi p.2 (fun y hy=> ⟨by have:=p.1 y hy;lia,(h y (aw _ hy)).2⟩) with z|z
  ·subst z;right;simp;lia
  ·right;simp only [az];lia
theorem alx(l:List Int):(jt l).Nodup/\ ∀x,x∈jt l ↔ x∈l:=by
 have all: ∀(ys acc:List Int),acc.Nodup -> (ys.foldl qy acc).Nodup/\ ∀x,x∈ys.foldl qy acc ↔ x∈acc\/x∈ys:=by
  intro ys
  induction ys with
  |nil=> intro acc h;exact⟨h,fun x=> by simp⟩
  | cons y r ih=>
   intro acc h
   have hn:(qy acc y).Nodup:=by
    unfold qy
    split
    ·exact h
    ·rename_i z
     rw [d7]
     exact⟨h,by simp,fun a ha b hb e=> z (by rw [aL.mp hb]at e;exact e▸ha)⟩
   obtain⟨a,b⟩:=ih (qy acc y) hn
   exact⟨a,fun x=> by rw [dX,b,ach,aE,or_assoc]⟩
 obtain⟨a,b⟩:=all l [] dN
 exact⟨a,fun x=> by rw [show jt l=l.foldl qy [] from rfl,b];simp⟩
theorem a34{l:List Int}(nd:l.Nodup):(zd l).Pairwise (· < ·):=by
 have n2:(zd l).Nodup:=(za l).nodup_iff.mpr nd
 exact i9.imp₂ (R:=(· <= ·)) (S:=(· ≠ ·)) (fun a b h k=> by lia) (afi l) n2
theorem agf{l:List Int}{hi:Int}(h: ∀x∈l,0 <=x/\x < hi)(hh:hi <=8):(jt l).length <=8:=by
 obtain⟨nd,me⟩:=alx l
 have:=als (zd (jt l)) 0 hi (a34 nd) (fun x hx=> h x ((me x).mp ((za _).mem_iff.mp hx)))
 rw [←(za (jt l)).length_eq]
 rcases this with z|z
 ·rw [z];simp
 ·lia
theorem afp(h: ∀x∈sts,0 <=enI x/\enI x < many): ∀x∈aar sts is m,0 <=x/\x < many:=by
 intro x hx
 obtain⟨i,_,hi⟩:=List.mem_flatMap.mp hx
 unfold vj at hi
 obtain⟨y,hy,rfl⟩:=a8.mp hi
 exact h y (bR.mp hy).1
theorem aj9(sts:List ac)(is:List Int)(m:ac):(aar sts is m).length <=sts.length*is.length:=by
 unfold aar
 induction is with
 |nil=> simp
 |cons i r ih=>
  rw [List.flatMap_cons,aG,az,Nat.mul_add]
  have:=ae1 sts i m
  lia
def bhB:FS:=(y6 (fMt aao (jb 3) (ja (fMd zj (fMd zj (ad2 ct "leads" (jb 0)) (ja (jb 4) (ja z5 je))) (ja (jb 2) (ja (xf false je) je))) je)))
theorem ayc{u1:Option D}(f:Fol s n sts)(hl:sts.length <=28)(hm:isT m=true)(hc:s[c]?=some (.lst (acc.map D.int)))(ha:acc.length < 1000000):
  ∃s1,bhB [some (.ref n),u1,some (.da m),some (.ref c),some (.int i)] s=.ok (.nx [some (.ref n),u1,some (.da m),some (.ref c),some (.int i)]) s1/\s1[c]?=some (.lst ((acc++vj sts i m).map D.int))/\s.length <=s1.length/\ ∀k,k < s.length -> k≠c -> s1[k]?=s[k]?:=by
 obtain⟨a,kvs,B,M,L,na,hN,sh,hk⟩:=f.ex
 have x:Ext s (s++ [O.dct []]):=Ext.add _ _
 have sh1:=sh.ext x
 have lc:c < s.length:=(ap.mp hc).1
 have fin: ∀es:List Int,es.length <=28 -> ((s++ [O.dct []]).set c (.lst (acc.map D.int++es.map D.int)))[c]?=some (.lst ((acc++es).map D.int))/\s.length <=((s++ [O.dct []]).set c (.lst (acc.map D.int++es.map D.int))).length/\ ∀k,k < s.length -> k≠c -> ((s++ [O.dct []]).set c (.lst (acc.map D.int++es.map D.int)))[k]?=s[k]?:=fun es _=>
  ⟨by rw [bc (by simp;lia),bS],by simp,fun k hk hn=> by rw [aF (bY hn)];exact x.getE hk⟩
 have hel:=ae1 sts i m
 have none_case:vj sts i m=[] -> ∀d,d=D.lst [] -> aao (.ref c) [d] (s++ [O.dct []])=.ok .non ((s++ [O.dct []]).set c (.lst (acc.map D.int++(vj sts i m).map D.int))):=by
  intro e d hd
  rw [hd,e,apk (x.get hc) (by rw [am];simp;lia)];rfl
 have key:bhB [some (.ref n),u1,some (.da m),some (.ref c),some (.int i)] s=.ok (.nx [some (.ref n),u1,some (.da m),some (.ref c),some (.int i)]) ((s++ [O.dct []]).set c (.lst (acc.map D.int++(vj sts i m).map D.int))):=by
  unfold bhB
  walk_at "ev"
  rw [afn hc]
  walk_at "ev"
  rw [ajb hN rfl rfl]
  walk_at "ev"
  rw [afw sh.at_]
  walk_at "ev"
  rw [aco sh1.at_ (aen sh.ks i),sh.gB i]
  cases eB:B i with
  |none=>
   walk_at "ev"
   rw [show ((mE D.ref none).getD (D.ref s.length))=D.ref s.length from rfl]
   have hnew:(s++ [O.dct []])[s.length]?=some (.dct []):=by simp
   rw [afw hnew]
   walk_at "ev"
   rw [aco hnew (ahx rfl hm),show (qj ([]:List (ac×D)) m).getD (D.lst [])=D.lst [] from rfl]
   walk_at "ev"
   rw [none_case (sh.nE i m (sh.nL i eB m)) _ rfl]
   walk_at "ev"
  | some b=>
   rw [show ((mE D.ref (some b)).getD (D.ref s.length))=D.ref b from rfl]
   walk_at "ev"
   obtain⟨p,q,r,t⟩:=sh1.mB i b eB
   rw [afw p]
   walk_at "ev"
   rw [aco p (ahx r hm),sh.gL i b eB m]
   cases eL:L i m with
   |none=>
    rw [show ((mE D.ref none).getD (D.lst []))=D.lst [] from rfl]
    walk_at "ev"
    rw [none_case (sh.nE i m eL) _ rfl]
    walk_at "ev"
   |some l=>
    rw [show ((mE D.ref (some l)).getD (D.lst []))=D.ref l from rfl]
    walk_at "ev"
    rw [aqg (x.get hc) (sh1.mL i m l eL).1 (by rw [am,am];lia)]
    walk_at "ev"
 exact⟨_,key,fin _ (by lia)⟩
structure BhJ (s0:S) (n:Nat) (u1:Option D) (sts:List ac) (m:ac) (is:List Int) (r:List D) (ρ:En) (s:S):Prop where
 ex: ∃done rest u4,is=done++rest/\r=rest.map D.int/\ρ=[some (.ref n),u1,some (.da m),some (.ref s0.length),u4]/\s[s0.length]?=some (.lst ((aar sts done m).map D.int))/\s0.length <=s.length/\ ∀k,k < s0.length -> s[k]?=s0[k]?
theorem a3c(is:List Int):acq (.con (is.map aX)) s=.ok (is.map D.int,none) s:=by
 show R.ok ((is.map aX).map D.da,none) s=_
 rw [bx];rfl
theorem af1(is:List Int):acq (.da (iT is)) s=.ok (is.map D.int,none) s:=by
 show R.ok ((is.map aX).map D.da,none) s=_
 rw [bx];rfl
theorem akc{st:D}(f:Fol s n sts)(hl:sts.length <=28)(hm:isT m=true)(hi: ∀s,acq st s=.ok (is.map D.int,none) s)(il:is.length <=8)(hs: ∀x∈sts,0 <=enI x/\enI x < many)(h8:many <=8):
  (v0 [.ref n,st,.da m] s).W fun d s'=> d=.da (iT (aca sts is m))/\Ext s s':=by
 rw [ago];unfold z9
 walk_at "go"
 rw [hi]
 walk_at "go"
 refine R.W_mono (k9 (Q:=fun fl s'=> ∃ρ,fl=.nx ρ/\BhJ s n (some st) sts m is [] ρ s') (BhJ s n (some st) sts m is) ?_ ?_ _ _ _ ⟨[],is,none,rfl,rfl,rfl,by simp [aar],by simp,fun k hk=> (Ext.add s _).getE hk⟩) ?_
 ·intro d r ρ s' J
  obtain⟨done,rest,u4,e1,e2,rfl,hc,hL,hF⟩:=J.ex
  cases rest with
  |nil=> cases e2
  | cons i rest=>
   cases e2
   refine⟨_,aks,?_⟩
   have dl:done.length <=8:=by have:=congrArg dO e1;simp at this;lia
   have al:(aar sts done m).length < 1000000:=by
    have h1:=aj9 sts done m
    have h2:sts.length*done.length <=28*8:=lW hl dl
    lia
   obtain⟨s1,e,g,l,fr⟩:=ayc (u1:=some st) (i:=i) (f.ext (adk hF hL)) hl hm hc al
   show (bhB _ s').W _
   rw [e]
   refine⟨done++ [i],rest,_,by rw [e1];simp,rfl,rfl,?_,by lia,fun k hk=> by rw [fr k (by lia) (by lia),hF k hk]⟩
   rw [g];unfold aar;simp
 ·intro ρ s' J
  exact⟨ρ,rfl,J⟩
 ·rintro _ s4 ⟨ρ,rfl,done,rest,u4,e1,e2,rfl,hc,hL,hF⟩
  cases rest with
  |cons y r=> cases e2
  |nil=>
   rw [aP]at e1
   subst e1
   walk_at "go"
   have al:=aj9 sts is m
   have h2:sts.length*is.length <=28*8:=lW hl il
   rw [al6 hc (by lia) (by have:=agf (afp (is:=is) (m:=m) hs) h8;lia)]
   walk_at "go"
   exact⟨rfl,adk hF hL⟩
theorem aqw{a b:ac}(hl:sts.length <=28)(hd: ∀x∈sts,DtK x)(hm:isT m=true)(il:is.length <=8)(hs: ∀x∈sts,0 <=enI x/\enI x < many)(h8:many <=8):
  (ya [.da (.tuple [a,b,.tuple sts]),.da (iT is),.da m] s).W fun d s'=> d=.da (iT (aca sts is m))/\Ext s s':=by
 rw [aii];unfold ab4
 walk_at "go"
 rw [aqp]
 walk_at "go"
 refine R.W_mono (ait (n:=s.length) (s:=s++ [.ins "Follower" []]) (by simp) (by simp) hl hd) ?_
 rintro _ s1 ⟨rfl,f,l1,fr⟩
 obtain⟨a,kvs,B,M,L,na,hN,_,_⟩:=f.ex
 walk_at "go"
 rw [agx hN rfl rfl]
 walk_at "go"
 rw [show∀(F:FF) (ρ:En) (d x y:D) (s:S),adg 3 F ρ d [x,y] s=(F [d,x,y] s).at ρ from fun _ _ _ _ _ _=> rfl]
 walk_at "go"
 refine R.W_mono (akc f hl hm (fun s=> af1 is) il hs h8) ?_
 rintro _ s2 ⟨rfl,x2⟩
 walk_at "go"
 refine⟨trivial,Ext.trans (adk (fun k hk=> ?_) (by simp at l1;lia)) x2⟩
 rw [fr k hk];exact (Ext.add s _).getE hk
theorem ajx(ks:List Int):kh (ks.map aX)=true:=by
 unfold kh
 simp only [dQ,ay,Function.comp,aB]
 exact fun a _=> ⟨rfl,fun b _=> by rw [aaw];rfl⟩
theorem avl(ks:List Int):j5 (ks.map aX)=(zd ks).map aX:=by
 refine (ae6 (ajx ks) ((za ks).map _) ?_).symm
 unfold aaf
 rw [cT]
 refine (afi ks).imp fun {a b} h=> ?_
 unfold ltb
 rw [aaw]
 rw [decide_eq_false (show¬b < a by lia)]
theorem avn(acc:List Int)(j:Int):an1 ((jt acc).map aX) (.int j)=(jt (acc++ [j])).map aX:=by
 rw [aer]
 unfold an1 qy
 by_cases z:j∈jt acc
 ·rw [if_pos z,if_pos (a8.mpr ⟨j,z,rfl⟩)]
 ·rw [if_neg z,if_neg (fun y=> by obtain⟨a,h,e⟩:=a8.mp y;cases e;exact z h),bS];rfl
theorem aep(h:isT m=true):plD m=true/\ ∃ds,m=.tuple ds:=by
 cases m <;> try cases h
 exact⟨(kq.mp h).1,_,rfl⟩
theorem aom{a b:ac}(ha:plD a=true)(hb:plD b=true):aU a b=decide (a=b):=by
 by_cases e:a=b
 ·subst e;rw [decide_eq_true rfl];exact (zv _ _ ha hb).mpr rfl
 ·rw [decide_eq_false e]
  cases q:aU a b with
  |false=> rfl
  |true=> exact absurd ((zv _ _ ha hb).mp q) e
theorem azg(l:List Int):(jt l).length <=l.length:=by
 have all: ∀(ys acc:List Int),(ys.foldl qy acc).length <=acc.length+ys.length:=by
  intro ys
  induction ys with
  |nil=> intro acc;simp
  |cons y r ih=>
   intro acc
   have:=ih (qy acc y)
   have h2:(qy acc y).length <=acc.length+1:=by unfold qy;split <;> simp
   rw [dX,az];lia
 have:=all l []
 simpa [jt] using this
def lbB:FS:=(vd (ado (jy (fOp gEq (fOp gIx (jb 5) (fC (.da (.int 0)))) (jb 4))) (jy (fOp gEq (fOp gIx (jb 5) (fC (.da (.int 1)))) (jb 2)))) (afr ae9 (fC (.da (.bool true))) (jb 3) (fOp gIx (jb 5) (fC (.da (.int 2))))) k7)
structure Kd (s:S) (c:Nat) (acc:List Int):Prop where
 ex: ∃kvs:List (ac×D),s[c]?=some (.dct kvs)/\kvs.map (·.1)=(jt acc).map aX
theorem Kd.ks{kvs:List (ac×D)}{l:List Int}(h:kvs.map (·.1)=l.map aX):(kvs.all fun e=> isK e.1)=true:=by
 rw [ay]
 intro e he
 have:e.1∈l.map aX:=by rw [←h];exact a8.mpr ⟨e,he,rfl⟩
 obtain⟨i,_,z⟩:=a8.mp this
 rw [←z];rfl
theorem axy{i':Int}{m':ac}{u0 u1:Option D}(hm:isT m=true)(hm':isT m'=true)(ok:okD m=true)(ok':okD m'=true)(hc:Kd s c acc)(hl:(jt acc).length < 1000):
  ∃s1,lbB [u0,u1,some (.da m),some (.ref c),some (.int i),some (.da (.tuple [.int i',m',.int j]))] s=.ok (.nx [u0,u1,some (.da m),some (.ref c),some (.int i),some (.da (.tuple [.int i',m',.int j]))]) s1/\Kd s1 c (acc++if i'=i/\m'=m then [j] else [])/\s1.length=s.length/\ ∀k,k≠c -> s1[k]?=s[k]?:=by
 obtain⟨kvs,e,hk⟩:=hc.ex
 have lc:c < s.length:=(ap.mp e).1
 have lk:kvs.length=(jt acc).length:=by have:=congrArg dO hk;simpa using this
 by_cases z:i'=i
 ·subst z
  by_cases y:m'=m
  ·subst y
   rw [if_pos ⟨rfl,rfl⟩]
   refine⟨s.set c (.dct (v3 kvs (.int j) (.bl true))),?_,⟨v3 kvs (.int j) (.bl true),bc lc,by rw [amn,hk,avn]⟩,by simp,fun k hn=> aF (bY hn)⟩
   unfold lbB
   walk_at "ev"
   rw [abq,decide_eq_true rfl]
   walk_at "ev"
   rw [ahs ok' ok,aom (aep hm').1 (aep hm).1,decide_eq_true rfl]
   walk_at "ev"
   rw [av8 e (aen (Kd.ks hk) j) (by lia)]
   walk_at "ev"
  ·rw [if_neg (fun w=> y w.2),aP]
   refine⟨s,?_,hc,rfl,fun _ _=> rfl⟩
   unfold lbB
   walk_at "ev"
   rw [abq,decide_eq_true rfl]
   walk_at "ev"
   rw [ahs ok' ok,aom (aep hm').1 (aep hm).1,decide_eq_false y]
   walk_at "ev"
 ·rw [if_neg (fun w=> z w.1),aP]
  refine⟨s,?_,hc,rfl,fun _ _=> rfl⟩
  unfold lbB
  walk_at "ev"
  rw [abq,decide_eq_false z]
  walk_at "ev"
structure DuK (d:ac):Prop where
 ex: ∃(i:Int) (m:ac) (j:Int),d=.tuple [.int i,m,.int j]/\isT m=true/\okD m=true
theorem DuK.dt{d:ac}(h:DuK d):DtK d:=let ⟨i,m,j,e,q,_⟩:=h.ex;⟨i,m,j,e,q⟩
structure LbI (s0:S) (c:Nat) (u0 u1:Option D) (m:ac) (i:Int) (acc:List Int) (sts:List ac) (r:List D) (ρ:En) (s:S):Prop where
 ex: ∃done rest u5,sts=done++rest/\r=rest.map D.da/\ρ=[u0,u1,some (.da m),some (.ref c),some (.int i),u5]/\Kd s c (acc++vj done i m)/\s.length=s0.length/\ ∀k,k≠c -> s[k]?=s0[k]?
theorem avr{u0 u1 u5:Option D}(hl:sts.length <=28)(hd: ∀x∈sts,DuK x)(hm:isT m=true)(ok:okD m=true)(hc:Kd s c acc)(hu:acc.length <=28*8):
  (xl (.nm 5) lbB (sts.map D.da,none) (sts.map D.da) [u0,u1,some (.da m),some (.ref c),some (.int i),u5] s).W fun fl s'=> ∃u5,fl=.nx [u0,u1,some (.da m),some (.ref c),some (.int i),u5]/\Kd s' c (acc++vj sts i m)/\s'.length=s.length/\ ∀k,k≠c -> s'[k]?=s[k]?:=by
 refine R.W_mono (k9 (Q:=fun fl s'=> ∃ρ,fl=.nx ρ/\LbI s c u0 u1 m i acc sts [] ρ s') (LbI s c u0 u1 m i acc sts) ?_ ?_ _ _ _ ⟨[],sts,u5,rfl,rfl,rfl,by simpa [vj] using hc,rfl,fun _ _=> rfl⟩) ?_
 ·intro d r ρ s' J
  obtain⟨done,rest,u5,e1,e2,rfl,hk,hL,hF⟩:=J.ex
  cases rest with
  |nil=> cases e2
  | cons y rest=>
   cases e2
   have hy:y∈sts:=by rw [e1];simp
   obtain⟨i',m',j,rfl,hm',ok'⟩:=(hd y hy).ex
   have dl:done.length <=28:=by have:=congrArg dO e1;simp at this;lia
   refine⟨_,akm,?_⟩
   obtain⟨s1,e,k1,l,fr⟩:=axy (u0:=u0) (u1:=u1) (i:=i) (i':=i') (j:=j) hm hm' ok ok' hk (by
    have h1:(jt (acc++vj done i m)).length <=(acc++vj done i m).length:=azg _
    rw [aG]at h1
    have:=ae1 done i m
    lia)
   rw [e]
   refine⟨done++ [.tuple [.int i',m',.int j]],rest,_,by rw [e1];simp,rfl,rfl,?_,by lia,fun k hk=> by rw [fr k hk,hF k hk]⟩
   have ee:acc++vj (done++ [.tuple [.int i',m',.int j]]) i m=acc++vj done i m++(if i'=i/\m'=m then [j] else []):=by
    rw [ajs,cR]
    congr 1
    by_cases z:i'=i/\m'=m
    ·rw [if_pos z,if_pos (show i=bgI (.tuple [.int i',m',.int j])/\m=moP (.tuple [.int i',m',.int j]) from ⟨z.1.symm,z.2.symm⟩)]
     rw [show bgI (.tuple [.int i',m',.int j])=i' from rfl,show moP (.tuple [.int i',m',.int j])=m' from rfl,z.1,z.2];rfl
    ·rw [if_neg z,if_neg (fun w=> z ⟨w.1.symm,w.2.symm⟩),aP]
   rw [ee];exact k1
 ·intro ρ s' J
  exact⟨ρ,rfl,J⟩
 ·rintro _ s4 ⟨ρ,rfl,done,rest,u5,e1,e2,rfl,hk,hL,hF⟩
  cases rest with
  |cons y r=> cases e2
  |nil=>
   rw [aP]at e1
   subst e1
   exact⟨u5,rfl,hk,hL,hF⟩
structure LbJ (s0:S) (u0 u1:Option D) (m:ac) (sts:List ac) (is:List Int) (r:List D) (ρ:En) (s:S):Prop where
 ex: ∃done rest u4 u5,is=done++rest/\r=rest.map D.int/\ρ=[u0,u1,some (.da m),some (.ref s0.length),u4,u5]/\Kd s s0.length (aar sts done m)/\s0.length <=s.length/\ ∀k,k < s0.length -> s[k]?=s0[k]?
theorem aib{a b:ac}(hl:sts.length <=28)(hd: ∀x∈sts,DuK x)(hm:isT m=true)(ok:okD m=true)(il:is.length <=8)(hs: ∀x∈sts,0 <=enI x/\enI x < many)(h8:many <=8):
  (yb [.da (.tuple [a,b,.tuple sts]),.da (iT is),.da m] s).W fun d s'=> d=.da (iT (aca sts is m))/\Ext s s':=by
 rw [ame];unfold B_law_behind
 walk_at "go"
 rw [af1]
 walk_at "go"
 refine R.W_mono (k9 (Q:=fun fl s'=> ∃ρ,fl=.nx ρ/\LbJ s (some (.da (.tuple [a,b,.tuple sts]))) (some (.da (iT is))) m sts is [] ρ s') (LbJ s (some (.da (.tuple [a,b,.tuple sts]))) (some (.da (iT is))) m sts is) ?_ ?_ _ _ _ ⟨[],is,none,none,rfl,rfl,rfl,⟨[],by simp,rfl⟩,by simp,fun k hk=> (Ext.add s _).getE hk⟩) ?_
 ·intro d r ρ s' J
  obtain⟨done,rest,u4,u5,e1,e2,rfl,hc,hL,hF⟩:=J.ex
  cases rest with
  |nil=> cases e2
  |cons i rest=>
   cases e2
   refine⟨_,aks,?_⟩
   have dl:done.length <=8:=by have:=congrArg dO e1;simp at this;lia
   have al:(aar sts done m).length <=28*8:=bb (aj9 sts done m) (lW hl dl)
   walk_at "go"
   refine R.W_mono (avr (i:=i) hl hd hm ok hc al) ?_
   rintro _ s1 ⟨u5',rfl,k1,l,fr⟩
   refine⟨done++ [i],rest,_,_,by rw [e1];simp,rfl,rfl,?_,by lia,fun k hk=> by rw [fr k (by lia),hF k hk]⟩
   have ee:aar sts (done++ [i]) m=aar sts done m++vj sts i m:=by unfold aar;simp
   rw [ee];exact k1
 ·intro ρ s' J
  exact⟨ρ,rfl,J⟩
 ·rintro _ s4 ⟨ρ,rfl,done,rest,u4,u5,e1,e2,rfl,hc,hL,hF⟩
  cases rest with
  |cons y r=> cases e2
  |nil=>
   rw [aP]at e1
   subst e1
   obtain⟨kvs,e,hk⟩:=hc.ex
   walk_at "go"
   rw [auk e,hk]
   walk_at "go"
   have ul:=agf (afp (is:=is) (m:=m) hs) h8
   rw [adr (by rw [am];lia) (ajx _) (by simp only [dQ,ay,Function.comp];exact fun a _=> rfl),avl]
   walk_at "go"
   exact⟨rfl,adk hF hL⟩
theorem ax1{x0 x2:Option D}{p:Wk}{s:S}(so:k6 p s): ∀ks:List ac,j9 (.nm 1) vk (jb 1) [x0,none,x2] p (ks.map D.da) s=.ok (ks.map D.da) s
 |[]=> rfl
 |d::r=> by
  rw [aN,j9]
  show chk p s ((j9 (.nm 1) vk (jb 1) [x0,none,x2] p (r.map D.da) s).bind fun xs s4=> R.ok (D.da d::xs) s4)=_
  rw [xx so,ax1 so r];rfl
def moI:FI:=(aun (fMd zj (ad2 ct "leads" (jb 2)) (ja (jb 0) (ja z5 je))))
theorem azj(f:Fol s n sts)(hl:sts.length <=28): ∃(ks:List ac) (q:Nat×O),moI [some (.int i),none,some (.ref n)] s=.ok (ks.map D.da,some q) (s++ [.dct []])/\k6 (ks.map D.da,some q) (s++ [.dct []])/\
  (∀m,m∈ks ↔ aew sts i m)/\(∀m∈ks,isT m=true)/\ks.length <=28:=by
 obtain⟨a,kvs,B,M,L,na,hN,sh,hk⟩:=f.ex
 have x:Ext s (s++ [O.dct []]):=Ext.add _ _
 have sh1:=sh.ext x
 have go: ∀b mv,(s++ [O.dct []])[b]?=some (.dct mv) -> (mv.all fun e=> isT e.1)=true -> ((B i).map D.ref).getD (D.ref s.length)=D.ref b -> moI [some (.int i),none,some (.ref n)] s=.ok ((mv.map (·.1)).map D.da,some (b,.dct mv)) (s++ [.dct []]):=by
  intro b mv h1 h2 h3
  show ((fMd zj (ad2 ct "leads" (jb 2)) (ja (jb 0) (ja z5 je))) [some (.int i),none,some (.ref n)] s).bind ai5=_
  have e:(fMd zj (ad2 ct "leads" (jb 2)) (ja (jb 0) (ja z5 je))) [some (.int i),none,some (.ref n)] s=.ok (.ref b) (s++ [O.dct []]):=by
   walk_at "ev"
   rw [ajb hN rfl rfl]
   walk_at "ev"
   rw [afw sh.at_]
   walk_at "ev"
   rw [aco sh1.at_ (aen sh.ks i),sh.gB i,h3]
  rw [e]
  show ai5 (.ref b) (s++ [O.dct []])=_
  rw [ary h1 h2,bx];rfl
 cases eB:B i with
 |none=>
  refine⟨[],(s.length,.dct []),go s.length [] (by simp) rfl (by rw [eB];rfl),(show (s++ [O.dct []])[s.length]?=some (.dct []) by simp),fun m=> ?_,(fun _ h=> by cases h),by simp⟩
  rw [←hk i m,eB];simp
 | some b=>
  obtain⟨p,q,r,t⟩:=sh1.mB i b eB
  refine⟨(M i).map (·.1),(b,.dct (M i)),go b (M i) p r (by rw [eB];rfl),(show (s++ [O.dct []])[b]?=some (.dct (M i)) from p),fun m=> ?_,fun m hm=> ?_,by rw [am];lia⟩
  ·rw [←hk i m,eB];simp
  ·obtain⟨e,he,rfl⟩:=a8.mp hm
   exact ay.mp r e he
theorem al9{n:Nat}{sts:List ac}{all:List D}(hl:sts.length <=28): ∀(is:List Int) (s:S),Fol s n sts -> ∃(ks:List ac) (s':S),km (.nm 0) (.nm 1) vk moI vk (jb 1) [none,none,some (.ref n)] (all,none) (is.map D.int) s=.ok (ks.map D.da) s'/\Ext s s'/\
  (∀m,m∈ks ↔ ∃i∈is,aew sts i m)/\(∀m∈ks,isT m=true)/\ks.length <=28*is.length
 |[],s,_=> ⟨[],s,rfl,Ext.refl _,fun m=> by simp,(fun _ h=> by cases h),by simp⟩
 | i::r,s,f=> by
  obtain⟨ks,q,e,so,k1,k2,k3⟩:=azj (i:=i) f hl
  have x:Ext s (s++ [O.dct []]):=Ext.add _ _
  obtain⟨ks',s',e',x',k1',k2',k3'⟩:=al9 hl r (s++ [.dct []]) (f.ext x)
  refine⟨ks++ks',s',?_,x.trans x',fun m=> ?_,fun m hm=> ?_,by rw [aG,az];lia⟩
  ·rw [aN,km]
   show ((moI [some (.int i),none,some (.ref n)] s).calm.bind fun p2 s3=> if vm (.nm 1) [some (.int i),none,some (.ref n)]=true then chk p2 s3 ((j9 (.nm 1) vk (jb 1) [some (.int i),none,some (.ref n)] p2 p2.1 s3).bind fun xs s4=> chk (all,none) s4 ((km (.nm 0) (.nm 1) vk moI vk (jb 1) [none,none,some (.ref n)] (all,none) (r.map D.int) s4).bind fun ys s5=> R.ok (xs++ys) s5)) else .bad)=_
   rw [e]
   show (if vm (.nm 1) [some (.int i),none,some (.ref n)]=true then chk (ks.map D.da,some q) (s++ [O.dct []]) ((j9 (.nm 1) vk (jb 1) [some (.int i),none,some (.ref n)] (ks.map D.da,some q) (ks.map D.da) (s++ [O.dct []])).bind fun xs s4=> chk (all,none) s4 ((km (.nm 0) (.nm 1) vk moI vk (jb 1) [none,none,some (.ref n)] (all,none) (r.map D.int) s4).bind fun ys s5=> R.ok (xs++ys) s5)) else .bad)=_
   rw [if_pos (show vm (.nm 1) [some (D.int i),none,some (D.ref n)]=true from rfl),xx so,ax1 so ks]
   show chk (all,none) (s++ [O.dct []]) ((km (.nm 0) (.nm 1) vk moI vk (jb 1) [none,none,some (.ref n)] (all,none) (r.map D.int) (s++ [O.dct []])).bind fun ys s5=> R.ok (ks.map D.da++ys) s5)=_
   rw [zf,e',bS];rfl
  ·rw [aS,k1,k1']
   constructor
   ·rintro (h|⟨j,hj,h⟩)
    ·exact⟨i,av,h⟩
    ·exact⟨j,aw _ hj,h⟩
   ·rintro⟨j,hj,h⟩
    rcases aE.mp hj with z|z
    ·exact .inl (z▸h)
    ·exact .inr ⟨j,z,h⟩
  ·rcases aS.mp hm with z|z
   ·exact k2 m z
   ·exact k2' m z
theorem arm{α:Type}[DecidableEq α]: ∀(l t:List α),l.Nodup -> (∀x∈l,x∈t) -> l.length <=t.length
 |[],_,_,_=> bP _
 |x::r,t,nd,h=> by
  rw [cE]at nd
  have hx:=h x av
  have:=arm r (t.erase x) nd.2 (fun y hy=> (mh (fun (e:y=x)=> nd.1 (by rw [←e];exact hy))).mpr (h y (aw _ hy)))
  rw [kB hx]at this
  have:0 < t.length:=List.length_pos_of_mem hx
  rw [az];lia
section
variable{ss:List Str}{m m':ac}
theorem MoK.nice(h:MoK ss m)(hp: ∀x∈ss,xa x=true):Nice 138 2 m:=by
 obtain⟨ps,rfl,hl,hs,_⟩:=h.ex
 have n1:=yd (B:=22) (D:=1) (ps.map pr) (by
  intro d hd
  obtain⟨p,hp',rfl⟩:=a8.mp hd
  obtain⟨a,b,c⟩:=hs p hp'
  exact afs (ace (hp _ a)) b c)
 exact n1.tup.mono (by rw [am];lia) (by lia)
theorem MoK.pl(h:MoK ss m):plD m=true:=by
 obtain⟨ps,rfl,_⟩:=h.ex
 rw [kz];exact am4 ps
theorem MoK.lt(h:MoK ss m)(k:MoK ss m'):(ltP m m').isSome=true:=by
 obtain⟨ps,rfl,_⟩:=h.ex
 obtain⟨qs,rfl,_⟩:=k.ex
 rw [xy];exact al8 ps qs
theorem MoK.isT(h:MoK ss m)(hp: ∀x∈ss,xa x=true):PF.isT m=true:=by
 have n:=h.nice hp
 have p:=h.pl
 obtain⟨ps,rfl,_⟩:=h.ex
 exact kq.mpr ⟨p,n.cl,bb n.dp (by decide)⟩
theorem MoK.okD(h:MoK ss m)(hp: ∀x∈ss,xa x=true):PF.okD m=true:=(h.nice hp).okD (by decide)
theorem a22:MoK ss (.tuple []):=⟨[],rfl,by simp,(fun _ h=> by cases h),rfl⟩
theorem ag0(h: ∀x∈l,MoK ss x):kh l=true:=by
 unfold kh
 simp only [ay,aB]
 exact fun a ha=> ⟨(h a ha).pl,fun b hb=> (h a ha).lt (h b hb)⟩
end
structure Tb (ss:List Str) (many:Int) (sts:List ac):Prop where
 hp: ∀x∈ss,xa x=true
 sl:ss.length <=6
 nd:ss.Nodup
 m1:1 <=many
 m8:many <=8
 hl:sts.length <=28
 hd: ∀x∈sts,DsK many ss x
theorem Tb.mo(t:Tb ss many sts): ∀x∈sts,MoK ss (moP x):=fun x hx=> by
 obtain⟨i,ps,j,rfl,_,_,h1,h2,h3⟩:=(t.hd x hx).ex
 exact⟨ps,rfl,h1,h2,h3⟩
theorem Tb.du(t:Tb ss many sts): ∀x∈sts,DuK x:=fun x hx=> by
 have mo:=t.mo x hx
 obtain⟨i,ps,j,rfl,_⟩:=(t.hd x hx).ex
 exact⟨i,_,j,rfl,mo.isT t.hp,mo.okD t.hp⟩
theorem Tb.dt(t:Tb ss many sts): ∀x∈sts,DtK x:=fun x hx=> (t.du x hx).dt
theorem Tb.en(t:Tb ss many sts): ∀x∈sts,0 <=enI x/\enI x < many:=fun x hx=> by
 obtain⟨i,ps,j,rfl,_,hj,_⟩:=(t.hd x hx).ex
 exact hj
theorem Tb.from(t:Tb ss many sts)(h:aew sts i m):MoK ss m:=by
 obtain⟨x,hx,_,rfl⟩:=h
 exact t.mo x hx
def aeb(sts:List ac)(is:List Int)(m:ac):Prop:= ∃i∈is,aew sts i m
theorem ai4(t:Tb ss many sts){ks:List ac}(nd:ks.Nodup)(h: ∀m∈ks,aeb sts is m):ks.length <=28:=by
 have:=arm ks (sts.map moP) nd (fun m hm=> by
  obtain⟨i,_,x,hx,_,e⟩:=h m hm
  exact a8.mpr ⟨x,hx,e⟩)
 rw [am]at this
 have:=t.hl;lia
theorem ayr{ks:List ac}(h1: ∀m∈ks,isT m=true)(h2:ks.length <=300)(h3:(ud ks).length < 64)(h4:kh (ud ks)=true)(h5:(ud ks).all okD=true):yk true (ks.map D.da) s=.ok (.ref s.length) (s++ [.lst ((j5 (ud ks)).map D.da)]):=by
 unfold yk
 rw [vg]
 have h0:ks.all ad0=true:=by
  rw [ay]
  intro m hm
  have:=h1 m hm
  unfold ad0
  obtain⟨_,ds,rfl⟩:=aep this
  rw [aB];exact⟨this,rfl⟩
 show (if (ks.all ad0=true/\ks.length+1 <=306)/\(ud ks).length < 64/\kh (ud ks)=true/\(ud ks).all okD=true then kj true ((j5 (ud ks)).map D.da) s else .bad)=_
 rw [if_pos ⟨⟨h0,by lia⟩,h3,h4,h5⟩];rfl
theorem az7(t:Tb ss many sts)(il:is.length <=8):
  (ac7 [.da (jz ss many sts),.da (iT is)] s).W fun d s'=> ∃(ks:List ac) (s1:S),d=.ref s1.length/\s'=s1++ [.lst ((j5 (ud ks)).map D.da)]/\Ext s s1/\ ∀m,m∈ks ↔ aeb sts is m:=by
 unfold jz
 rw [aux];unfold agy
 walk_at "go"
 rw [aqp]
 walk_at "go"
 refine R.W_mono (ait (n:=s.length) (s:=s++ [.ins "Follower" []]) (by simp) (by simp) t.hl t.dt) ?_
 rintro _ s1 ⟨rfl,f,l1,fr⟩
 obtain⟨a,kvs,B,M,L,na,hN,_,_⟩:=f.ex
 have x1:Ext s s1:=adk (fun k hk=> by rw [fr k hk];exact (Ext.add s _).getE hk) (by simp at l1;lia)
 walk_at "go"
 rw [agx hN rfl rfl]
 walk_at "go"
 rw [ag5];unfold zq
 obtain⟨ks,s2,e,x2,k1,k2,k3⟩:=al9 (all:=is.map D.int) t.hl is s1 f
 have nd:=(ab5 ks).1
 have me:=(ab5 ks).2.1
 have go: ∀m∈ud ks,aeb sts is m:=fun m hm=> (k1 m).mp ((me m).mp hm)
 have mo: ∀m∈ud ks,MoK ss m:=fun m hm=> let ⟨i,_,h⟩:=go m hm;t.from h
 have e2:(amp true [0] 2 (fIt (jb 1)) (.nm 0) vk moI (.nm 1) vk (jb 1)) [some (.ref s.length),some (.da (iT is))] s1=.ok (.ref s2.length) (s2++ [.lst ((j5 (ud ks)).map D.da)]):=by
  have e3:(fIt (jb 1)) [some (.ref s.length),some (.da (iT is))] s1=.ok (is.map D.int,none) s1:=af1 is
  show ((fIt (jb 1)) [some (.ref s.length),some (.da (iT is))] s1).bind (fun p s1=> chk p s1 ((km (.nm 0) (.nm 1) vk moI vk (jb 1) (bB 2 none++aex [some (.ref s.length),some (.da (iT is))] [0]) p p.1 s1).bind (yk true)))=_
  rw [e3]
  show chk (is.map D.int,none) s1 ((km (.nm 0) (.nm 1) vk moI vk (jb 1) [none,none,some (.ref s.length)] (is.map D.int,none) (is.map D.int) s1).bind (yk true))=_
  rw [zf,e]
  exact ayr k2 (by lia) (by have:=ai4 t nd go;lia) (ag0 mo) (by rw [ay];exact fun m hm=> (mo m hm).okD t.hp)
 show ((((kr (amp true [0] 2 (fIt (jb 1)) (.nm 0) vk moI (.nm 1) vk (jb 1))) [some (.ref s.length),some (.da (iT is))] s1).bind qf)).W _
 walk_at "go"
 rw [e2]
 walk_at "go"
 exact⟨ks,s2,rfl,rfl,x1.trans x2,k1⟩
def brk(sts:List ac):List Int -> List ac -> Int -> Option Int
 |_,[],_=> none
 |is,m::r,k=> if aca sts is m=[] then some k else brk sts (aca sts is m) r (k+1)
noncomputable def zp:Option Int -> ac
 |none=>.none
 |some k=>.int k
theorem aor(t:Tb ss many sts)(is:List Int)(m:ac): ∀x∈aca sts is m,0 <=x/\x < 8:=fun x hx=> by
 have:=afp (is:=is) (m:=m) t.en x (((alx _).2 x).mp ((za _).mem_iff.mp hx))
 have:=t.m8;lia
theorem anx{l:List Int}(h: ∀x∈l,0 <=x/\x < 8):Nice (1*l.length) 1 (iT l):=by
 have:=(yd (B:=0) (D:=0) (l.map aX) (fun d hd=> by
  obtain⟨i,hi,rfl⟩:=a8.mp hd
  have:=h i hi
  exact aat (by lia))).tup
 rw [am]at this;exact this
theorem aj8(t:Tb ss many sts)(is:List Int)(m:ac):(aca sts is m).length <=8:=by
 unfold aca
 rw [(za _).length_eq]
 exact agf (afp t.en) t.m8
structure BrJ (s0:S) (tb rw_:D) (n:Nat) (ss:List Str) (sts:List ac) (row:List ac) (r:List D) (ρ:En) (s:S):Prop where
 ex: ∃(st:D) (is:List Int) (rest:List ac) (k:Int) (u4 u5:Option D),r=enD k rest/\ρ=[some tb,some rw_,some (.ref n),some st,u4,u5]/\(∀s,acq st s=.ok (is.map D.int,none) s)/\is.length <=8/\(∀m∈rest,MoK ss m)/\brk sts is rest k=brk sts [0] row 0/\Fol s n sts/\Ext s0 s
theorem aji(t:Tb ss many sts)(hr: ∀m∈row,MoK ss m):
  (ke [.da (jz ss many sts),.da (.tuple row)] s).W fun d s'=> d=.da (zp (brk sts [0] row 0))/\Ext s s':=by
 unfold jz
 rw [akj];unfold abe
 walk_at "go"
 rw [aqp]
 walk_at "go"
 refine R.W_mono (ait (n:=s.length) (s:=s++ [.ins "Follower" []]) (by simp) (by simp) t.hl t.dt) ?_
 rintro _ s1 ⟨rfl,f,l1,fr⟩
 have x1:Ext s s1:=adk (fun k hk=> by rw [fr k hk];exact (Ext.add s _).getE hk) (by simp at l1;lia)
 walk_at "go"
 rw [show∀s:S,alt 0 [.da (.tuple row)] s=.ok (enD 0 row,none) s from fun _=> rfl]
 walk_at "go"
 refine R.W_mono (k9 (Q:=fun fl s'=> Ext s s'/\((∃ρ,fl=.nx ρ/\brk sts [0] row 0=none)\/ ∃k,fl=.rt (.int k)/\brk sts [0] row 0=some k)) (BrJ s (.da (.tuple [.tuple (ss.map aK),.int many,.tuple sts])) (.da (.tuple row)) s.length ss sts row) ?_ ?_ _ _ _ ⟨_,[0],row,0,none,none,rfl,rfl,fun s=> a3c [0],by simp,hr,rfl,f,x1⟩) ?_
 ·intro d r ρ s' J
  obtain⟨st,is,rest,k,u4,u5,e2,rfl,hi,il,hm,hb,fo,x⟩:=J.ex
  cases rest with
  |nil=> cases e2
  | cons m rest=>
   cases e2
   refine⟨[some (.da (.tuple [.tuple (ss.map aK),.int many,.tuple sts])),some (.da (.tuple row)),some (.ref s.length),some st,some (.int k),some (.da m)],rfl,?_⟩
   have mo:=hm m av
   obtain⟨a,kvs,B,M,L,na,hN,_,_⟩:=fo.ex
   walk_at "go"
   rw [agx hN rfl rfl]
   walk_at "go"
   rw [show∀(F:FF) (ρ:En) (d x y:D) (s:S),adg 3 F ρ d [x,y] s=(F [d,x,y] s).at ρ from fun _ _ _ _ _ _=> rfl]
   walk_at "go"
   refine R.W_mono (akc fo t.hl (mo.isT t.hp) hi il t.en t.m8) ?_
   rintro _ s2 ⟨rfl,x2⟩
   have bl:=aj8 t is m
   rw [brk]at hb
   generalize aca sts is m=l at hb bl⊢
   unfold iT
   walk_at "go"
   cases l with
   |nil=>
    rw [if_pos rfl]at hb
    walk_at "go"
    exact⟨x.trans x2,.inr ⟨k,rfl,hb.symm⟩⟩
   |cons i l=>
    rw [if_neg (by intro z;cases z)]at hb
    walk_at "go"
    exact⟨_,i::l,rest,k+1,_,_,rfl,rfl,fun s=> af1 (i::l),bl,fun m hm'=> hm m (aw _ hm'),hb,fo.ext x2,x.trans x2⟩
 ·intro ρ s' J
  obtain⟨st,is,rest,k,u4,u5,e2,rfl,hi,il,hm,hb,fo,x⟩:=J.ex
  cases rest with
  |cons m rest=> cases e2
  |nil=> exact⟨x,.inl ⟨_,rfl,hb.symm⟩⟩
 ·rintro fl s4 ⟨x,⟨ρ,rfl,hb⟩|⟨k,rfl,hb⟩⟩
  ·walk_at "go"
   rw [hb]
   exact⟨rfl,x⟩
  ·walk_at "go"
   rw [hb]
   exact⟨rfl,x⟩
theorem a1l(t:Tb ss many sts)(hr: ∀m∈row,MoK ss m):
  (qz [.da (jz ss many sts),.da (.tuple row)] s).W fun d s'=> d=.bl (brk sts [0] row 0).isNone/\Ext s s':=by
 rw [aq5];unfold adz
 walk_at "go"
 refine R.W_mono (aji t hr) ?_
 rintro _ s1 ⟨rfl,x⟩
 cases brk sts [0] row 0 with
 |none=> unfold zp;walk_at "go";exact⟨rfl,x⟩
 |some k=> unfold zp;walk_at "go";exact⟨rfl,x⟩
structure LrJ (s0:S) (tb rw_:D) (ss:List Str) (sts:List ac) (row:List ac) (r:List D) (ρ:En) (s:S):Prop where
 ex: ∃(is:List Int) (k:Nat) (u3:Option D),r=abf k (row.length - k)/\k <=row.length/\ρ=[some tb,some rw_,some (.da (iT is)),u3]/\is.length <=8/\brk sts is (row.drop k) k=brk sts [0] row 0/\Ext s0 s
theorem aq9(t:Tb ss many sts)(hr: ∀m∈row,MoK ss m)(hl:row.length <=100):
  DW (qv [.da (jz ss many sts),.da (.tuple row)] s) (fun d s'=> d=.da (zp (brk sts [0] row 0))/\Ext s s'):=by
 refine⟨?_⟩
 rw [akw];unfold B_law_breaks
 walk_at "go"
 rw [aal (by lia) (by lia),bU]
 walk_at "go"
 refine R.W_mono (k9 (Q:=fun fl s'=> Ext s s'/\((∃ρ,fl=.nx ρ/\brk sts [0] row 0=none)\/ ∃k,fl=.rt (.int k)/\brk sts [0] row 0=some k)) (LrJ s (.da (jz ss many sts)) (.da (.tuple row)) ss sts row) ?_ ?_ _ _ _ ⟨[0],0,none,by simp,by simp,rfl,by simp,rfl,Ext.refl _⟩) ?_
 ·intro d r ρ s' J
  obtain⟨is,k,u3,e2,kl,rfl,il,hb,x⟩:=J.ex
  cases hk:row.length - k with
  |zero=> rw [hk]at e2;cases e2
  | succ j=>
   rw [hk]at e2
   cases e2
   refine⟨_,a4q,?_⟩
   have kl':k < row.length:=by lia
   obtain⟨m,hm⟩: ∃m,row[k]?=some m:=⟨_,aq kl'⟩
   have mo:=hr m (bp hm)
   walk_at "go"
   rw [ad5 hm]
   walk_at "go"
   refine R.W_mono (aib (a:=.tuple (ss.map aK)) (b:=.int many) t.hl t.du (mo.isT t.hp) (mo.okD t.hp) il t.en t.m8) ?_
   rintro _ s2 ⟨rfl,x2⟩
   have bl:=aj8 t is m
   have bm:=aor t is m
   have ed:row.drop k=m::row.drop (k+1):=by
    rw [cF kl']
    rw [aq kl']at hm
    rw [bH hm]
   rw [ed,brk]at hb
   generalize aca sts is m=l at hb bl bm⊢
   walk_at "go"
   have okl:okD (iT l)=true:=(anx bm).okD (by decide)
   cases l with
   |nil=>
    rw [if_pos rfl]at hb
    rw [show∀s:S,gEq (.da (iT [])) (.da (.tuple [])) s=.ok (.bl true) s from fun _=> rfl]
    walk_at "go"
    exact⟨x.trans x2,.inr ⟨k,rfl,hb.symm⟩⟩
   |cons i l=>
    rw [if_neg (by intro z;cases z)]at hb
    rw [ahs okl rfl,show aU (iT (i::l)) (.tuple [])=false from rfl]
    walk_at "go"
    exact⟨i::l,k+1,_,by rw [show row.length - (k+1)=j by lia];rfl,by lia,rfl,bl,by rw [←hb];rfl,x.trans x2⟩
 ·intro ρ s' J
  obtain⟨is,k,u3,e2,kl,rfl,il,hb,x⟩:=J.ex
  cases hk:row.length - k with
  |succ j=> rw [hk]at e2;cases e2
  |zero=>
   rw [List.drop_of_length_le (by lia)]at hb
   exact⟨x,.inl ⟨_,rfl,hb.symm⟩⟩
 ·rintro fl s4 ⟨x,⟨ρ,rfl,hb⟩|⟨k,rfl,hb⟩⟩
  ·walk_at "go"
   rw [hb]
   exact⟨rfl,x⟩
  ·walk_at "go"
   rw [hb]
   exact⟨rfl,x⟩
theorem anr{α:Type}[DecidableEq α]: ∀(l t:List α),l.Nodup -> t.Nodup -> (∀x,x∈l ↔ x∈t) -> l.Perm t
 |[],t,_,_,h=> by
  cases t with
  |nil=> exact .nil
  |cons y r=> exact absurd ((h y).mpr av) cK
 | x::r,t,n1,n2,h=> by
  rw [cE]at n1
  have hx:=(h x).mp av
  have p:=mf hx
  refine (hJ.cons x (anr r (t.erase x) n1.2 (n2.erase x) fun y=> ?_)).trans p.symm
  rw [n2.mem_erase_iff]
  constructor
  ·intro hy;exact⟨fun e=> n1.1 (e▸hy),(h y).mp (aw _ hy)⟩
  ·rintro⟨ne,hy⟩
   rcases aE.mp ((h y).mpr hy) with z|z
   ·exact absurd z ne
   ·exact z
theorem axn:gIn (.int i) (.da (iT is)) s=.ok (.bl (decide (i∈is))) s:=by
 have e0:gIn (.int i) (.da (iT is)) s=aiv false (.int i) (.tup (is.map aX)) s:=rfl
 rw [e0]
 show (if okD (.int i)=true/\(is.map aX).all okD=true then R.ok (D.bl (nb false ((is.map aX).any fun x=> aU x (.int i)))) s else .bad)=_
 rw [if_pos ⟨rfl,by rw [dQ,ay];exact fun _ _=> rfl⟩]
 have:((is.map aX).any fun x=> aU x (.int i))=decide (i∈is):=by
  (rw [cc,fQ,decide_eq_true_eq])
  constructor
  ·rintro⟨x,hx,e⟩
   obtain⟨j,hj,rfl⟩:=a8.mp hx
   rw [aj2,decide_eq_true_eq]at e
   exact e▸hj
  ·intro h
   exact⟨.int i,a8.mpr ⟨i,h,rfl⟩,by rw [aj2];simp⟩
 rw [this];rfl
theorem awq{t:List ac}(hl: ∀m∈l,MoK ss m)(n1:l.Nodup)(n2:t.Nodup)(h: ∀x,x∈l ↔ x∈t):j5 l=j5 t:=by
 have ht: ∀m∈t,MoK ss m:=fun m hm=> hl m ((h m).mpr hm)
 exact ae6 (ag0 ht) ((xn l).trans (anr l t n1 n2 h)) (ab9 (ag0 hl))
theorem aub(hp: ∀x∈ss,xa x=true)(hl: ∀m∈l,MoK ss m):Nice (139*l.length) 3 (.list l):=(yd l fun m hm=> (hl m hm).nice hp).lst
theorem at0(h:s[n]?=some (.lst (l.map D.da)))(ok:okS (.list l)=true):kn [.ref n] s=.ok (.str (gn (.list l))) s:=by
 show (match toP s (.ref n) with|some a=> if okS a=true then R.ok (D.str a.shown) s else .bad|none=>.bad)=_
 rw [aou h]
 exact if_pos ok
theorem az6{ds:List D}(h:s[n]?=some (.lst ds)):amo [.ref n,.ty "list"] s=.ok (.bl true) s:=by
 show (if ("list":Str)="str"\/("list":Str)="int"\/("list":Str)="bool"\/("list":Str)="tuple"\/("list":Str)="list" then (match s[n]? with|some (.lst _)=> R.ok (D.bl (("list":Str)=="list")) s|_=>.bad) else .bad)=_
 rw [if_pos (.inr (.inr (.inr (.inr rfl)))),h];rfl
theorem a3v{lo hi:Option Int}(h:s[n]?=some (.lst (l.map D.da))):gSl false (.ref n) lo hi s=.ok (.lst (j6 l lo hi)) s:=by
 have e:=a3s (xs:=l) (lo:=lo) (hi:=hi) (s:=s)
 have e1:gSl false (.ref n) lo hi s=gSl false (.lst l) lo hi s:=by
  show (match (match s[n]? with|some (O.lst ds)=> some ds|_=> none) with|some ds=> kj false (j6 ds lo hi) s|none=>.bad)=kj false (j6 (l.map D.da) lo hi) s
  rw [h]
 rw [e1,e]
structure StJ (s0:S) (n c:Nat) (r acc:List D) (s:S):Prop where
 ex: ∃(is:List Int) (k c':Nat) (lo:Int),acc=is.map D.int/\r=abf lo k/\is.length+k <=8/\Fd s n c'/\c'+k <=c+8/\j3 n s0 s
structure DuJ (s0:S) (n a:Nat) (tb:D) (is:List Int) (ss:List Str) (sts:List ac) (r:List D) (ρ:En) (s:S):Prop where
 ex: ∃(done rest dl:List ac) (u4:Option D),sts=done++rest/\r=rest.map D.da/\ρ=[some (.ref n),some tb,some (.da (iT is)),some (.ref a),u4,none,none,none]/\s[a]?=some (.lst (dl.map D.da))/\dl.Nodup/\(∀m,m∈dl ↔ aeb done is m)/\s.length=s0.length/\ ∀k,k≠a -> s[k]?=s0[k]?
def duB:FS:=(vd (ado (jy (fOp gIn (fOp gIx (jb 4) (fC (.da (.int 0)))) (jb 2))) (jy (fOp aai (fOp gIx (jb 4) (fC (.da (.int 1)))) (jb 3)))) (y6 (fMt vx (jb 3) (ja (fOp gIx (jb 4) (fC (.da (.int 1)))) je))) k7)
theorem ao6{done:List ac}{m':ac}:aeb (done++ [.tuple [.int i,m,.int j]]) is m' ↔ aeb done is m'\/(i∈is/\m'=m):=by
 unfold aeb aew
 constructor
 ·rintro⟨k,hk,x,hx,e1,e2⟩
  rcases aS.mp hx with z|z
  ·exact .inl ⟨k,hk,x,z,e1,e2⟩
  ·rw [aL.mp z]at e1 e2
   have e1:i=k:=e1
   have e2:m=m':=e2
   exact .inr ⟨e1▸hk,e2.symm⟩
 ·rintro (⟨k,hk,x,hx,e⟩|⟨hi,rfl⟩)
  ·exact⟨k,hk,x,aS.mpr (.inl hx),e⟩
  ·exact⟨i,hi,_,aS.mpr (.inr av),rfl,rfl⟩
theorem azo{a:Nat}{tb:D}(t:Tb ss many sts)(J:DuJ s0 n a tb is ss sts (d::r) ρ s):
  ∃ρ1,ky (.nm 4) d ρ=some ρ1/\(duB ρ1 s).W fun fl s'=> ∃ρ2,fl=.nx ρ2/\DuJ s0 n a tb is ss sts r ρ2 s':=by
 obtain⟨done,rest,dl,u4,e1,e2,rfl,ha,nd,hg,hL,hF⟩:=J.ex
 cases rest with
 |nil=> cases e2
 | cons y rest=>
  cases e2
  have hy:y∈sts:=by rw [e1];simp
  have t':Tb ss many done:=⟨t.hp,t.sl,t.nd,t.m1,t.m8,by have:=congrArg dO e1;simp at this;have:=t.hl;lia,fun x hx=> t.hd x (by rw [e1];exact aS.mpr (.inl hx))⟩
  have my:=t.mo y hy
  obtain⟨i,ps,j,rfl,_⟩:=(t.hd y hy).ex
  have my:MoK ss (.tuple (ps.map pr)):=my
  generalize cY (ps.map pr)=m at my e1 hy⊢
  refine⟨_,aks,?_⟩
  have mo: ∀x∈dl,MoK ss x:=fun x hx=> let ⟨_,_,h⟩:=(hg x).mp hx;t'.from h
  have lt:a < s.length:=(ap.mp ha).1
  have stay:(¬(i∈is/\m∉dl)) -> ∀m',m'∈dl ↔ aeb (done++ [.tuple [.int i,m,.int j]]) is m':=fun h m'=> by
   rw [ao6,hg]
   refine⟨.inl,fun z=> z.elim id fun⟨z1,z2⟩=> ?_⟩
   rw [z2]
   exact (hg m).mp (bV fun q=> h ⟨z1,q⟩)
  unfold duB
  walk_at "go"
  rw [axn]
  by_cases z:i∈is
  ·rw [decide_eq_true z]
   walk_at "go"
   rw [afj ha (my.okD t.hp) (fun x hx=> (mo x hx).okD t.hp) my.pl (fun x hx=> (mo x hx).pl)]
   by_cases w:m∈dl
   ·rw [decide_eq_false (fun q=> q w)]
    walk_at "go"
    exact⟨_,rfl,done++ [.tuple [.int i,m,.int j]],rest,dl,_,by rw [e1];simp,rfl,rfl,ha,nd,stay (fun q=> q.2 w),hL,hF⟩
   ·rw [decide_eq_true w]
    walk_at "go"
    rw [afn ha]
    walk_at "go"
    have dll:=ai4 t' nd (fun m hm=> (hg m).mp hm)
    rw [abb ha (by rw [am];lia)]
    walk_at "go"
    refine⟨_,rfl,done++ [.tuple [.int i,m,.int j]],rest,dl++ [m],_,by rw [e1];simp,rfl,rfl,by rw [bc lt,bS];rfl,?_,fun m'=> ?_,by simpa using hL,fun k hk=> by rw [aF (bY hk)];exact hF k hk⟩
    ·rw [d7]
     exact⟨nd,by simp,fun x hx y hy e=> w (by rw [aL.mp hy]at e;exact e▸hx)⟩
    ·rw [ao6,aS,hg,aL]
     exact⟨fun q=> q.elim .inl fun q=>.inr ⟨z,q⟩,fun q=> q.elim .inl fun q=>.inr q.2⟩
  ·rw [decide_eq_false z]
   walk_at "go"
   exact⟨_,rfl,done++ [.tuple [.int i,m,.int j]],rest,dl,_,by rw [e1];simp,rfl,rfl,ha,nd,stay (fun q=> z q.1),hL,hF⟩
theorem Fd.at'(h:Fd s n c)(e:s'[n]?=s[n]?):Fd s' n c:=let ⟨xs,i,j,q,r⟩:=h.ex;⟨xs,i,j,e.trans q,r⟩
theorem abp{x:Str}:gNe (.str x) (.str x) s=.ok (.bl false) s:=by
 rw [show gNe (.str x) (.str x) s=.ok (.bl (!decide (x=x))) s from rfl,decide_eq_true rfl];rfl
structure TrJ (s0:S) (n a c:Nat) (tb:D) (is:List Int) (dl:List ac) (r:List D) (ρ:En) (s:S):Prop where
 ex: ∃u4 u5 u6,ρ=[some (.ref n),some tb,some (.da (iT is)),some (.ref a),u4,u5,u6,none]/\s[a]?=some (.lst (dl.map D.da))/\Fd s n c/\j3 n s0 s
def trB:FS:=(jl (jr 6 (jn 2 ac7 (ja (jb 1) (ja (jb 2) je))))
  (jl (vd (agp (acx (agi (fCB amo (ja (jb 6) (ja (fC (.ty "list")) je))))) (jy (fOp gNe (fCB kn (ja (jb 6) je)) (fCB kn (ja (fCB (yw false) (ja (jb 3) je)) je))))) (kr (fC (.da (.bool false)))) k7)
  (y6 (fMt vx (jb 6) (ja (ve je) je)))))
theorem a07{a:Nat}{dl:List ac}(t:Tb ss many sts)(il:is.length <=8)(nd:dl.Nodup)(hg: ∀m,m∈dl ↔ aeb sts is m)(J:TrJ s0 n a c (.da (jz ss many sts)) is dl (d::r) ρ s):
  ∃ρ1,ky (.nm 5) d ρ=some ρ1/\(trB ρ1 s).W fun fl s'=> ∃ρ2,fl=.nx ρ2/\TrJ s0 n a c (.da (jz ss many sts)) is dl r ρ2 s':=by
 obtain⟨u4,u5,u6,rfl,ha,fd,sm⟩:=J.ex
 refine⟨_,akm,?_⟩
 have mo: ∀m∈dl,MoK ss m:=fun m hm=> let ⟨_,_,h⟩:=(hg m).mp hm;t.from h
 have dll:=ai4 t nd (fun m hm=> (hg m).mp hm)
 unfold trB
 walk_at "go"
 refine R.W_mono (az7 t il) ?_
 rintro _ _ ⟨ks,s1,rfl,rfl,x,k1⟩
 have mk: ∀m∈ud ks,MoK ss m:=fun m hm=> let ⟨_,_,h⟩:=(k1 m).mp (((ab5 ks).2.1 m).mp hm);t.from h
 have same:j5 (ud ks)=j5 dl:=awq mk (ab5 ks).1 nd fun m=> by rw [(ab5 ks).2.1,k1,hg]
 rw [same]
 have pm:=xn dl
 have nc:Nice (139*(j5 dl).length) 3 (.list (j5 dl)):=aub t.hp fun m hm=> mo m (pm.mem_iff.mp hm)
 have ok:okS (.list (j5 dl))=true:=nc.okS (by rw [pm.length_eq];lia) (by decide)
 have x2:Ext s (s1++ [.lst ((j5 dl).map D.da)]):=x.trans (Ext.add _ _)
 have h6:(s1++ [O.lst ((j5 dl).map D.da)])[s1.length]?=some (.lst ((j5 dl).map D.da)):=by simp
 walk_at "go"
 rw [az6 h6]
 walk_at "go"
 rw [at0 h6 ok]
 walk_at "go"
 rw [ahg (x2.get ha) (by lia) (ag0 mo) (by rw [ay];exact fun m hm=> (mo m hm).okD t.hp)]
 walk_at "go"
 rw [zm ok]
 walk_at "go"
 (try rw [abp])
 (try simp only [eq_self,decide_true,cy])
 walk_at "go"
 rw [afn h6]
 walk_at "go"
 rw [abb h6 (by rw [am,pm.length_eq];lia)]
 walk_at "go"
 have hn:n < s1.length:=aQ fd.lt x.len
 have la:a < s1.length:=aQ (ap.mp ha).1 x.len
 refine⟨_,rfl,_,_,_,rfl,?_,(fd.ext x2).at' (aF (by lia)),(sm.trans (x.same n)).trans (((Ext.add s1 [O.lst ((j5 dl).map D.da)]).same n).own (ao _))⟩
 rw [aF (by lia)];exact x2.get ha
structure MsJ (s0:S) (n c:Nat) (tb:D) (is:List Int) (ss:List Str) (r:List D) (ρ:En) (s:S):Prop where
 ex: ∃u3 u4 u5 u6 u7 ms,r=fP D.da ms/\(∀m∈ms,MoK ss m)/\ρ=[some (.ref n),some tb,some (.da (iT is)),u3,u4,u5,u6,u7]/\Fd s n c/\j3 n s0 s
def msB:FS:=(vd (jy (fOp gNe (fCB kn (ja (jn 3 ya (ja (jb 1) (ja (jb 2) (ja (jb 7) je)))) je)) (fCB kn (ja (jn 3 yb (ja (jb 1) (ja (jb 2) (ja (jb 7) je)))) je)))) (kr (fC (.da (.bool false)))) k7)
theorem a00(t:Tb ss many sts)(il:is.length <=8)(J:MsJ s0 n c (.da (jz ss many sts)) is ss (d::r) ρ s):
  ∃ρ1,ky (.nm 7) d ρ=some ρ1/\(msB ρ1 s).W fun fl s'=> ∃ρ2,fl=.nx ρ2/\MsJ s0 n c (.da (jz ss many sts)) is ss r ρ2 s':=by
 obtain⟨u3,u4,u5,u6,u7,ms,e2,hm,rfl,fd,sm⟩:=J.ex
 cases ms with
 |nil=> cases e2
 |cons m ms=>
  cases e2
  refine⟨_,axi,?_⟩
  have mo:=hm m av
  have ok:okS (iT (aca sts is m))=true:=(anx (aor t is m)).okS (by have:=aj8 t is m;lia) (by decide)
  unfold msB
  walk_at "go"
  refine R.W_mono (aqw (a:=.tuple (ss.map aK)) (b:=.int many) t.hl t.dt (mo.isT t.hp) il t.en t.m8) ?_
  rintro _ s1 ⟨rfl,x1⟩
  walk_at "go"
  rw [zm ok]
  walk_at "go"
  refine R.W_mono (aib (a:=.tuple (ss.map aK)) (b:=.int many) t.hl t.du (mo.isT t.hp) (mo.okD t.hp) il t.en t.m8) ?_
  rintro _ s2 ⟨rfl,x2⟩
  walk_at "go"
  rw [zm ok]
  walk_at "go"
  (try rw [abp])
  (try simp only [eq_self,decide_true,cy])
  walk_at "go"
  exact⟨_,rfl,u3,u4,u5,u6,_,ms,rfl,fun m h=> hm m (aw _ h),rfl,fd.ext (x1.trans x2),sm.trans ((x1.trans x2).same n)⟩
theorem aja{lo hi:Option Int}: ∀m∈j6 l lo hi,m∈l:=fun m hm=> by
 unfold j6 at hm
 exact mC (List.mem_of_mem_take hm)
theorem a0v(t:Tb ss many sts)(h:Fd s n c)(hc:c+1000 < 2^40):
  (v2 [.ref n,.da (jz ss many sts)] s).W fun d s'=> d=.bl true/\Fd s' n (c+30)/\j3 n s s':=by
 obtain⟨mn,rfl⟩: ∃mn:Nat,many=(mn:Int):=⟨many.toNat,by have:=t.m1;lia⟩
 have m8:=t.m8
 rw [ags];unfold B_law_sets_right jz
 walk_at "go"
 rw [aal (by lia) (by lia),bU]
 walk_at "go"
 rw [acn (ρ0:=[none,some (.ref n)]) (by rw [xg];lia) rfl,R.W_bindk]
 refine R.W_mono (aa1 (Q:=fun xs s'=> ∃is:List Int,xs=is.map D.int/\is.length <=8/\Fd s' n (c+8)/\j3 n s s') (StJ s n c) ?_ ?_ _ [] s ⟨[],mn,c,0,rfl,rfl,by simp;lia,h,by lia,j3.refl _ _⟩) ?_
 ·rintro d r acc s' ⟨is,k,c',lo,rfl,hr,hl,fd,hcc,sm⟩
  cases k with
  |zero=> cases hr
  | succ k=>
   cases hr
   refine⟨[some (.int lo),some (.ref n)],rfl,?_⟩
   walk_at "go"
   refine R.W_mono (qh fd (by decide) (by decide) (by lia)) ?_
   rintro _ s1 ⟨i,rfl,i0,i1,fd1,sm1⟩
   walk_at "go"
   rw [abq]
   by_cases e:i=0
   ·rw [decide_eq_true e]
    walk_at "go"
    exact⟨is++ [lo],k,c'+1,lo+1,by simp,rfl,by simp;lia,fd1,by lia,sm.trans sm1⟩
   ·rw [decide_eq_false e]
    walk_at "go"
    exact⟨is,k,c'+1,lo+1,rfl,rfl,by lia,fd1,by lia,sm.trans sm1⟩
 ·rintro acc s' ⟨is,k,c',lo,rfl,hr,hl,fd,hcc,sm⟩
  exact⟨is,rfl,by lia,fd.le (by lia),sm⟩
 ·rintro xs s1 ⟨is,e,il,fd1,sm1⟩
  rw [f9]at e
  have e':xs=(is.map aX).map D.da:=by rw [e,bx];rfl
  subst e'
  walk_at "go"
  have l1:n < s1.length:=fd1.lt
  refine R.W_mono (k9 (Q:=fun fl s'=> ∃ρ,fl=.nx ρ/\DuJ (s1++ [.lst []]) n s1.length (.da (jz ss mn sts)) is ss sts [] ρ s') (DuJ (s1++ [.lst []]) n s1.length (.da (jz ss mn sts)) is ss sts) ?_ ?_ _ _ _ ⟨[],sts,[],none,rfl,rfl,rfl,by simp,dN,fun m=> ⟨(fun y=> by cases y),fun⟨_,_,_,y,_⟩=> by cases y⟩,rfl,fun _ _=> rfl⟩) ?_
  ·intro d r ρ s' J
   obtain⟨ρ1,e,w⟩:=azo t J
   refine⟨ρ1,e,R.W_mono w ?_⟩
   rintro _ s4 ⟨ρ2,rfl,J2⟩
   exact J2
  ·intro ρ s' J
   exact⟨ρ,rfl,J⟩
  ·rintro _ s2 ⟨ρ,rfl,done,rest,dl,u4,e1,e2,rfl,ha,nd,hg,hL,hF⟩
   cases rest with
   |cons y r=> cases e2
   |nil=>
   rw [aP]at e1
   subst e1
   have x1:Ext s1 (s1++ [O.lst []]):=Ext.add _ _
   have fd2:Fd s2 n (c+8):=(fd1.ext x1).at' (hF n (by lia))
   have sm2:j3 n s s2:=sm1.trans ⟨by rw [hL];exact x1.len,fun k hk hl=> by rw [hF k (by lia)];exact x1.getE hl⟩
   walk_at "go"
   rw [aal (by decide) (by decide),show ((2:Int)).toNat=2 from rfl]
   walk_at "go"
   refine R.W_mono (k9 (Q:=fun fl s'=> ∃ρ,fl=.nx ρ/\TrJ s n s1.length (c+8) (.da (jz ss mn sts)) is dl [] ρ s') (TrJ s n s1.length (c+8) (.da (jz ss mn sts)) is dl) ?_ ?_ _ _ _ ⟨_,_,_,rfl,ha,fd2,sm2⟩) ?_
   ·intro d r ρ s' J
    obtain⟨ρ1,e,w⟩:=a07 t il nd hg J
    refine⟨ρ1,e,R.W_mono w ?_⟩
    rintro _ s4 ⟨ρ2,rfl,J2⟩
    exact J2
   ·intro ρ s' J
    exact⟨ρ,rfl,J⟩
   ·rintro _ s3 ⟨ρ,rfl,u4,u5,u6,rfl,ha3,fd3,sm3⟩
    unfold jz
    walk_at "go"
    rw [a3v ha3]
    walk_at "go"
    refine R.W_mono (ahk fd3 t.sl t.hp t.nd (by lia)) ?_
    rintro _ s4 ⟨ps,rfl,h1,h2,h3,fd4,sm4⟩
    walk_at "go"
    have dll:=ai4 t nd (fun m hm=> (hg m).mp hm)
    have cl:(j6 dl none (some 4)).length <=28:=by
     unfold j6
     rw [bd,cJ];lia
    rw [ald (by simp;lia)]
    walk_at "go"
    refine R.W_mono (k9 (Q:=fun fl s'=> ∃ρ,fl=.nx ρ/\MsJ s n (c+26) (.da (jz ss mn sts)) is ss [] ρ s') (MsJ s n (c+26) (.da (jz ss mn sts)) is ss) ?_ ?_ _ _ _ ⟨_,_,_,_,_,j6 dl none (some 4)++ [.tuple (ps.map pr),.tuple []],rfl,?_,rfl,fd4,sm3.trans sm4⟩) ?_
    ·intro d r ρ s' J
     obtain⟨ρ1,e,w⟩:=a00 t il J
     refine⟨ρ1,e,R.W_mono w ?_⟩
     rintro _ s4 ⟨ρ2,rfl,J2⟩
     exact J2
    ·intro ρ s' J
     exact⟨ρ,rfl,J⟩
    ·intro m hm
     rcases aS.mp hm with z|z
     ·exact let ⟨_,_,q⟩:=(hg m).mp (aja m z);t.from q
     ·rcases aE.mp z with z|z
      ·rw [z];exact⟨ps,rfl,h1,h2,h3⟩
      ·rw [aL.mp z];exact a22
    ·rintro _ s5 ⟨ρ,rfl,u3,u4,u5,u6,u7,ms,_,_,rfl,fd5,sm5⟩
     walk_at "go"
     exact⟨trivial,fd5.le (by lia),sm5⟩
structure RwK (ss:List Str) (r:List ac):Prop where
 mo: ∀m∈r,MoK ss m
 len:r.length <=100
noncomputable def rwD(r:List ac):ac:=.tuple r
def rwB:FS:=(jl (jr 5 (jn 2 jp (ja (jb 0) (ja (fOp (kg false) (fCB abi (ja (jb 2) je)) (fC (.da (.int 1)))) je))))
  (jl (jr 6 (ve (ja (jn 3 qw (ja (jb 0) (ja (fOp gIx (jb 1) (fC (.da (.int 0)))) (ja (fC (.da (.int 2))) je)))) je)))
  (y6 (fMt vx (jb 3) (ja (fOp gIx (xf false (ja (fOp (kg false) (fSl false (jb 2) fNo (vo (jb 5))) (fSl false (jb 2) (vo (fOp (kg false) (jb 5) (fC (.da (.int 1))))) fNo)) (ja (fOp (kg false) (fOp (kg false) (fSl false (jb 2) fNo (vo (jb 5))) (jb 6)) (fSl false (jb 2) (vo (jb 5)) fNo)) (ja (fOp (kg false) (fOp (kg false) (fSl false (jb 2) fNo (vo (jb 5))) (jb 6)) (fSl false (jb 2) (vo (fOp (kg false) (jb 5) (fC (.da (.int 1))))) fNo)) (ja (jb 6) je))))) (jb 4)) je)))))
structure RwJ (s0:S) (n a c:Nat) (tb:D) (ss:List Str) (row:List ac) (r:List D) (ρ:En) (s:S):Prop where
 ex: ∃(rs:List (List ac)) (k c':Nat) (u4 u5 u6:Option D),r=abf k (4 - k)/\k <=4/\ρ=[some (.ref n),some tb,some (.tup row),some (.ref a),u4,u5,u6]/\s[a]?=some (.lst ((rs.map rwD).map D.da))/\(∀r∈rs,RwK ss r)/\rs.length <=2+k/\Fd s n c'/\c' <=c+20*k/\j3 n s0 s
theorem aoh{lo hi:Option Int}:(j6 l lo hi).length <=l.length:=by
 unfold j6
 rw [bd,cJ];lia
theorem azb{a:Nat}(t:Tb ss many sts)(hr: ∀m∈row,MoK ss m)(hl:row.length <=30)(ha0:s0.length <=a)(hc:c+1000 < 2^40)(J:RwJ s0 n a c (.da (jz ss many sts)) ss row (d::r) ρ s):
  ∃ρ1,ky (.nm 4) d ρ=some ρ1/\(rwB ρ1 s).W fun fl s'=> ∃ρ2,fl=.nx ρ2/\RwJ s0 n a c (.da (jz ss many sts)) ss row r ρ2 s':=by
 obtain⟨rs,k,c',u4,u5,u6,e2,k4,rfl,ha,hrs,rl,fd,hcc,sm⟩:=J.ex
 cases hk:4 - k with
 |zero=> rw [hk]at e2;cases e2
 | succ j=>
  rw [hk]at e2
  cases e2
  refine⟨_,aks,?_⟩
  unfold rwB jz
  walk_at "go"
  refine R.W_mono (qh fd (by lia) (by lia) (by lia)) ?_
  rintro _ s1 ⟨at_,rfl,a0,a1,fd1,sm1⟩
  walk_at "go"
  refine R.W_mono (ahk fd1 t.sl t.hp t.nd (by lia)) ?_
  rintro _ s2 ⟨ps,rfl,h1,h2,h3,fd2,sm2⟩
  have mo:MoK ss (.tuple (ps.map pr)):=⟨ps,rfl,h1,h2,h3⟩
  have nl:a≠n:=by
   intro z;subst z
   obtain⟨xs,i,j,q,_⟩:=fd.ex
   rw [ha]at q
   have q:=bH q
   injection q with q
   cases rs with
   |nil=> cases q
   |cons y rs=> injection q with q _;cases q
  have la:a < s.length:=(ap.mp ha).1
  have ha2:s2[a]?=some (.lst ((rs.map rwD).map D.da)):=by
   rw [sm2.get a nl (aQ la sm1.len),sm1.get a nl la];exact ha
  have la2:a < s2.length:=(ap.mp ha2).1
  have c1:=fun (lo hi:Option Int)=> aoh (l:=row) (lo:=lo) (hi:=hi)
  have cm: ∀lo hi,∀m∈j6 row lo hi,MoK ss m:=fun lo hi m hm=> hr m (aja m hm)
  walk_at "go"
  rw [afn ha2]
  walk_at "go"
  rw [aa2 (by have h1:=c1 none (some at_);have h2:=c1 (some (at_+1)) none;lia)]
  walk_at "go"
  rw [aa2 (by have h1:=c1 none (some at_);simp;lia)]
  walk_at "go"
  rw [aa2 (by have h1:=c1 none (some at_);have h2:=c1 (some at_) none;simp;lia)]
  walk_at "go"
  rw [aa2 (by have h1:=c1 none (some at_);simp;lia)]
  walk_at "go"
  rw [aa2 (by have h1:=c1 none (some at_);have h2:=c1 (some (at_+1)) none;simp;lia)]
  walk_at "go"
  obtain⟨x,hx,xk⟩: ∃x:List ac,[cY (j6 row none (some at_)++j6 row (some (at_+1)) none),.tuple (j6 row none (some at_)++ .tuple (ps.map pr)::j6 row (some at_) none),.tuple (j6 row none (some at_)++ .tuple (ps.map pr)::j6 row (some (at_+1)) none),.tuple [.tuple (ps.map pr)]][k]?=some (.tuple x)/\RwK ss x:=by
   have k1: ∀lo hi,RwK ss (j6 row none lo++j6 row hi none):=fun lo hi=> ⟨fun m hm=> (aS.mp hm).elim (cm _ _ m) (cm _ _ m),by
    have h1:=c1 none lo
    have h2:=c1 hi none
    rw [aG];lia⟩
   have k2: ∀lo hi,RwK ss (j6 row none lo++ .tuple (ps.map pr)::j6 row hi none):=fun lo hi=> ⟨fun m hm=> (aS.mp hm).elim (cm _ _ m) fun h=> (aE.mp h).elim (fun e=> e▸mo) (cm _ _ m),by
    have h1:=c1 none lo
    have h2:=c1 hi none
    rw [aG,az];lia⟩
   rcases (show k=0\/k=1\/k=2\/k=3 by lia) with z|z|z|z
   ·rw [z];exact⟨_,rfl,k1 _ _⟩
   ·rw [z];exact⟨_,rfl,k2 _ _⟩
   ·rw [z];exact⟨_,rfl,k2 _ _⟩
   ·rw [z];exact⟨_,rfl,fun m hm=> by rw [aL.mp hm];exact mo,by simp⟩
  rw [afu hx]
  walk_at "go"
  rw [abb ha2 (by rw [am,am];lia)]
  walk_at "go"
  refine⟨_,rfl,rs++ [x],k+1,c'+1+18,_,_,_,by rw [show 4 - (k+1)=j by lia];rfl,by lia,rfl,by rw [bc la2,bS,bS];rfl,?_,by simp;lia,fd2.at' (aF nl),by lia,(sm.trans (sm1.trans sm2)).own ha0⟩
  intro r hr'
  rcases aS.mp hr' with z|z
  ·exact hrs r z
  ·rw [aL.mp z];exact xk
theorem axo(t:Tb ss many sts)(h:Fd s n c)(hc:c+2000 < 2^40):
  (aab [.ref n,.da (jz ss many sts)] s).W fun d s'=> ∃rs:List (List ac),d=.lst (rs.map rwD)/\(∀r∈rs,RwK ss r)/\rs.length <=6/\Fd s' n (c+110)/\j3 n s s':=by
 rw [ap6];unfold B_law_rows
 walk_at "go"
 refine R.W_mono (atb h t.m8 t.hp t.hl t.hd (by lia)) ?_
 rintro _ s1 ⟨row,rfl,hr,hl,fd1,sm1⟩
 walk_at "go"
 rw [aal (by decide) (by decide),show ((4:Int)).toNat=4 from rfl]
 walk_at "go"
 have l1:n < s1.length:=fd1.lt
 have x1:Ext s1 (s1++ [O.lst [.tup [],.tup row]]):=Ext.add _ _
 refine R.W_mono (k9 (Q:=fun fl s'=> ∃ρ,fl=.nx ρ/\RwJ s1 n s1.length (c+30) (.da (jz ss many sts)) ss row [] ρ s') (RwJ s1 n s1.length (c+30) (.da (jz ss many sts)) ss row) ?_ ?_ _ _ _ ⟨[[],row],0,c+30,none,none,none,rfl,by lia,rfl,by simp;exact⟨rfl,rfl⟩,?_,by simp,fd1.ext x1,by lia,x1.same n⟩) ?_
 ·intro d r ρ s' J
  obtain⟨ρ1,e,w⟩:=azb t hr hl (ao _) (by lia) J
  refine⟨ρ1,e,R.W_mono w ?_⟩
  rintro _ s4 ⟨ρ2,rfl,J2⟩
  exact J2
 ·intro ρ s' J
  exact⟨ρ,rfl,J⟩
 ·intro r hr'
  rcases aE.mp hr' with z|z
  ·rw [z];exact⟨(fun _ h=> by cases h),by simp⟩
  ·rw [aL.mp z];exact⟨hr,by lia⟩
 ·rintro _ s2 ⟨ρ,rfl,rs,k,c',u4,u5,u6,e2,k4,rfl,ha,hrs,rl,fd2,hcc,sm2⟩
  walk_at "go"
  rw [ayn ha (vg _)]
  walk_at "go"
  exact⟨rs,rfl,hrs,by lia,(fd2.le (by lia)).at' (aF (by lia)),sm1.trans (sm2.own (ao _))⟩
theorem atq(sts:List ac): ∀(r:List ac) (is:List Int) (k j:Int),brk sts is r k=some j -> k <=j/\j < k+r.length
 |[],is,k,j,h=> by cases h
 | m::r,is,k,j,h=> by
  rw [brk]at h
  split at h
  ·cases h;simp only [az];lia
  ·have:=atq sts r _ _ _ h
   (simp only [az];lia)
theorem auf{o:Option Int}(h: ∀j,o=some j -> 0 <=j/\j < 1000):Nice 10 0 (zp o):=by
 cases o with
 |none=> exact⟨rfl,rfl,rfl,by decide,by decide⟩
 |some j=> have:=h j rfl;exact (aat (i:=j) (by lia)).mono (by lia) (by lia)
theorem air:Nice 10 0 (.bool b):=by cases b <;> exact⟨rfl,rfl,rfl,by decide,by decide⟩
theorem Tb.cut(t:Tb ss many sts){lo hi:Option Int}:Tb ss many (j6 sts lo hi):=⟨t.hp,t.sl,t.nd,t.m1,t.m8,bb aoh t.hl,fun x hx=> t.hd x (aja x hx)⟩
def rtB:FS:=(jl (jr 6 (jn 2 qv (ja (jb 3) (ja (jb 5) je))))
  (jl (vd (agp (jy (fOp gNe (fCB kn (ja (jn 2 ke (ja (jb 3) (ja (jb 5) je))) je)) (fCB kn (ja (jb 6) je)))) (jy (fOp gNe (fCB kn (ja (jn 2 qz (ja (jb 3) (ja (jb 5) je))) je)) (fCB kn (ja (fOp gIs (jb 6) (fC (.da (.none)))) je))))) (kr (fC (.da (.bool false)))) k7)
  (jl (jr 7 (fOp (kg false) (fSl false (jb 3) fNo (vo (fC (.da (.int 2))))) (ve (ja (fSl false (fOp gIx (jb 3) (fC (.da (.int 2)))) fNo (vo (aq4 (fC (.da (.int 1)))))) je))))
  (jl (jr 8 (jn 2 qv (ja (jb 7) (ja (jb 5) je))))
  (jl (jr 9 (xf false (ja (jn 2 ke (ja (jb 7) (ja (jb 5) je))) (ja (jn 2 ke (ja (jb 3) (ja (jb 5) je))) (ja (jn 2 qz (ja (jb 7) (ja (jb 5) je))) (ja (jn 2 qz (ja (jb 3) (ja (jb 5) je))) je))))))
  (vd (jy (fOp gNe (fCB kn (ja (jb 9) je)) (fCB kn (ja (xf false (ja (jb 8) (ja (jb 6) (ja (fOp gIs (jb 8) (fC (.da (.none)))) (ja (fOp gIs (jb 6) (fC (.da (.none)))) je))))) je)))) (kr (fC (.da (.bool false)))) k7))))))
structure RtJ (s0:S) (n c:Nat) (u0 u2 u4:Option D) (tb:D) (ss:List Str) (r:List D) (ρ:En) (s:S):Prop where
 ex: ∃(rs:List (List ac)) (u5 u6 u7 u8 u9:Option D),r=(rs.map rwD).map D.da/\(∀r∈rs,RwK ss r)/\ρ=[u0,some (.ref n),u2,some tb,u4,u5,u6,u7,u8,u9]/\Fd s n c/\j3 n s0 s
theorem a0x{u0 u2 u4:Option D}(t:Tb ss many sts)(J:RtJ s0 n c u0 u2 u4 (.da (jz ss many sts)) ss (d::r) ρ s):
  ∃ρ1,ky (.nm 5) d ρ=some ρ1/\(rtB ρ1 s).W fun fl s'=> ∃ρ2,fl=.nx ρ2/\RtJ s0 n c u0 u2 u4 (.da (jz ss many sts)) ss r ρ2 s':=by
 obtain⟨rs,u5,u6,u7,u8,u9,e2,hr,rfl,fd,sm⟩:=J.ex
 cases rs with
 |nil=> cases e2
 | cons row rs=>
  cases e2
  have hk:=hr row av
  refine⟨_,akm,?_⟩
  have t':Tb ss many (j6 sts none (some (-1))):=t.cut
  have nr: ∀x:List ac,Nice 10 0 (zp (brk x [0] row 0)):=fun x=> auf fun j hj=> by
   have h1:=atq x row [0] 0 j hj
   have h2:=hk.len
   lia
  have ok1: ∀x,okS (zp (brk x [0] row 0))=true:=fun x=> (nr x).okS (by decide) (by decide)
  have ok2: ∀b,okS (.bool b)=true:=fun b=> air.okS (by decide) (by decide)
  have ok4: ∀x y a b,okS (.list [zp (brk x [0] row 0),zp (brk y [0] row 0),.bool a,.bool b])=true:=fun x y a b=> (Nices.cons (nr x) (Nices.cons (nr y) (Nices.cons air (Nices.cons air Nices.nil)))).lst.okS (by decide) (by decide)
  have w1: ∀x (tx:Tb ss many x) s,DW (qv [.da (jz ss many x),.da (.tuple row)] s) (fun d s'=> d=.da (zp (brk x [0] row 0))/\Ext s s'):=fun x tx s=> aq9 tx hk.mo hk.len
  have w2: ∀x (tx:Tb ss many x) s,DW (ke [.da (jz ss many x),.da (.tuple row)] s) (fun d s'=> d=.da (zp (brk x [0] row 0))/\Ext s s'):=fun x tx s=> ⟨aji tx hk.mo⟩
  have w3: ∀x (tx:Tb ss many x) s,DW (qz [.da (jz ss many x),.da (.tuple row)] s) (fun d s'=> d=.bl (brk x [0] row 0).isNone/\Ext s s'):=fun x tx s=> ⟨a1l tx hk.mo⟩
  have cut2: ∀s:S,gSl false (.da (jz ss many sts)) none (some 2) s=.ok (.tup [.tuple (ss.map aK),.int many]) s:=fun s=> rfl
  have ix2: ∀s:S,gIx (.da (jz ss many sts)) (.da (.int 2)) s=.ok (.tup sts) s:=fun s=> a5k
  have isn: ∀o,isN (D.da (zp o))=o.isNone:=fun o=> by cases o <;> rfl
  have rb: ∀(b:Bool) (s:S),kn [.bl b] s=.ok (.str (gn (.bool b))) s:=fun b s=> zm (ok2 b)
  have r4: ∀x y a b (s:S),kn [.lst [zp (brk x [0] row 0),zp (brk y [0] row 0),.bool a,.bool b]] s=.ok (.str (gn (.list [zp (brk x [0] row 0),zp (brk y [0] row 0),.bool a,.bool b]))) s:=fun x y a b s=> zm (ok4 x y a b)
  have fin: ∀(s':S) (v6 v7 v8 v9:Option D),Ext s s' -> ∃ρ2,Fl.nx [u0,some (.ref n),u2,some (.da (jz ss many sts)),u4,some (.da (.tuple row)),v6,v7,v8,v9]=.nx ρ2/\RtJ s0 n c u0 u2 u4 (.da (jz ss many sts)) ss ((rs.map rwD).map D.da) ρ2 s':=fun s' v6 v7 v8 v9 x=> ⟨_,rfl,rs,_,_,_,_,_,rfl,fun r h=> hr r (aw _ h),rfl,fd.ext x,sm.trans (x.same n)⟩
  unfold rtB
  rw [show rwD row=.tuple row from rfl]
  generalize qv=FL at w1⊢
  generalize ke=FB at w2⊢
  generalize qz=FH at w3⊢
  generalize hT:D.da (jz ss many sts)=T at w1 w2 w3 cut2 ix2 fin⊢
  have w1:=fun x tx s=> (w1 x tx s)
  walk_at "go"
  subst hT
  refine (w1 _ t _).mono fun d s1 q=> ?_
  obtain⟨e,x1⟩:=q
  rw [e];clear e
  walk_at "go"
  refine (w2 _ t _).mono fun d s2 q=> ?_
  obtain⟨e,x2⟩:=q
  rw [e];clear e
  walk_at "go"
  rw [zm (ok1 sts)]
  walk_at "go"
  rw [zm (ok1 sts)]
  walk_at "go"
  (try rw [abp])
  (try simp only [eq_self,decide_true,cy])
  walk_at "go"
  refine (w3 _ t _).mono fun d s3 q=> ?_
  obtain⟨e,x3⟩:=q
  rw [e];clear e
  walk_at "go"
  (try rw [rb])
  walk_at "go"
  (try rw [rb])
  walk_at "go"
  rw [isn,abp]
  walk_at "go"
  rw [cut2]
  walk_at "go"
  rw [ix2]
  walk_at "go"
  rw [aa2 (by simp)]
  walk_at "go"
  rw [show D.tup [.tuple (ss.map aK),.int many,.tuple (j6 sts none (some (-1)))]=.da (jz ss many (j6 sts none (some (-1)))) from rfl]
  refine (w1 _ t' _).mono fun d s4 q=> ?_
  obtain⟨e,x4⟩:=q
  rw [e];clear e
  walk_at "go"
  refine (w2 _ t' _).mono fun d s5 q=> ?_
  obtain⟨e,x5⟩:=q
  rw [e];clear e
  walk_at "go"
  refine (w2 _ t _).mono fun d s6 q=> ?_
  obtain⟨e,x6⟩:=q
  rw [e];clear e
  walk_at "go"
  refine (w3 _ t' _).mono fun d s7 q=> ?_
  obtain⟨e,x7⟩:=q
  rw [e];clear e
  walk_at "go"
  refine (w3 _ t _).mono fun d s8 q=> ?_
  obtain⟨e,x8⟩:=q
  rw [e];clear e
  walk_at "go"
  (try rw [r4])
  walk_at "go"
  (try rw [isn,isn])
  (try rw [r4])
  walk_at "go"
  (try rw [abp])
  (try simp only [eq_self,decide_true,cy])
  walk_at "go"
  exact fin _ _ _ _ _ (x1.trans (x2.trans (x3.trans (x4.trans (x5.trans (x6.trans (x7.trans x8)))))))
def aui:FS:=(jl (jr 3 (jn 4 y0 (ja (jb 1) (ja (jn 2 yx (ja (jb 1) (ja (jn 2 jp (ja (jb 1) (ja (fC (.da (.int 5))) je))) je))) (ja (fC (.da (.int 8))) (ja (fC (.da (.int 20))) je))))))
  (jl (jr 4 (fCB kn (ja (jb 3) je)))
  (jl (vd (acx (agi (jn 2 v2 (ja (jb 1) (ja (jb 3) je))))) (kr (fC (.da (.bool false)))) k7)
  (jl (ze (fIt (jn 2 aab (ja (jb 1) (ja (jb 3) je)))) (.nm 5) rtB)
  (vd (jy (fOp gNe (fCB kn (ja (jb 3) je)) (jb 4))) (kr (fC (.da (.bool false)))) k7)))))
theorem au7(t:Tb ss many sts):okS (jz ss many sts)=true:=by
 have m1:=t.m1
 have m8:=t.m8
 have n1:=(yd (ss.map aK) (fun d hd=> by
  obtain⟨x,hx,rfl⟩:=a8.mp hd
  exact an0 (ace (t.hp x hx)))).tup
 have n2:=(yd sts (fun d hd=> (t.hd d hd).nice t.hp (by lia))).tup
 have n:=(Nices.cons (n1.mono (ao _) (show _ <=4 by decide)) (Nices.cons ((aat (i:=many) (by lia)).mono (ao _) (by decide)) (Nices.cons n2 Nices.nil))).tup
 have h1:=t.sl
 have h2:=t.hl
 refine n.okS ?_ (by decide)
 rw [am]
 have:=Nat.mul_le_mul_left 151 h2
 lia
structure OutJ (n c:Nat) (u0:Option D) (r:List D) (ρ:En) (s:S):Prop where
 ex: ∃(c':Nat) (u2 u3 u4 u5 u6 u7 u8 u9:Option D),ρ=[u0,some (.ref n),u2,u3,u4,u5,u6,u7,u8,u9]/\Fd s n c'/\c'+700*r.length <=c
theorem awe{u0:Option D}(hc:c <=10000)(J:OutJ n c u0 (d::r) ρ s):
  ∃ρ1,ky (.nm 2) d ρ=some ρ1/\(aui ρ1 s).W fun fl s'=> ∃ρ2,fl=.nx ρ2/\OutJ n c u0 r ρ2 s':=by
 obtain⟨c',u2,u3,u4,u5,u6,u7,u8,u9,rfl,fd,hcc⟩:=J.ex
 simp only [az]at hcc
 refine⟨_,a5a,?_⟩
 have w1:=fun s n c mm h hm hc=> aup (s:=s) (n:=n) (c:=c) (mm:=mm) h hm hc
 have w2:=fun s n c ss h hl hp nd hc=> auq (s:=s) (n:=n) (c:=c) (ss:=ss) h hl hp nd hc
 unfold aui
 generalize yx=FN at w1⊢
 generalize y0=FT at w2⊢
 walk_at "go"
 refine R.W_mono (qh fd (by decide) (by decide) (by lia)) ?_
 rintro _ s1 ⟨i,rfl,i0,i1,fd1,sm1⟩
 obtain⟨mm,rfl⟩:=eY i0
 walk_at "go"
 refine (w1 _ _ _ _ fd1 (by lia) (by lia)).mono fun d2 s2 q=> ?_
 obtain⟨ss,e,sl,hp,nd,fd2,sm2⟩:=q
 rw [e];clear e
 walk_at "go"
 refine (w2 _ _ _ _ fd2 (by lia) hp nd (by lia)).mono fun d3 s3 q=> ?_
 obtain⟨many,sts,e,m1,m8,hl,hd,_,_,fd3,sm3⟩:=q.ex
 have t:Tb ss many sts:=⟨hp,by lia,nd,m1,m8,hl,hd⟩
 have ok:=au7 t
 rw [e,show D.da (.tuple [.tuple (ss.map aK),.int many,.tuple sts])=.da (jz ss many sts) from rfl];clear e
 walk_at "go"
 rw [zm ok]
 walk_at "go"
 refine R.W_mono (a0v t fd3 (by lia)) ?_
 rintro _ s4 ⟨rfl,fd4,sm4⟩
 walk_at "go"
 refine R.W_mono (axo t fd4 (by lia)) ?_
 rintro _ s5 ⟨rs,rfl,hrs,rl,fd5,sm5⟩
 walk_at "go"
 refine R.W_mono (k9 (Q:=fun fl s'=> ∃ρ,fl=.nx ρ/\RtJ s5 n (c'+1+2+500+30+110) u0 (some d) (some (.str (gn (jz ss many sts)))) (.da (jz ss many sts)) ss [] ρ s') (RtJ s5 n (c'+1+2+500+30+110) u0 (some d) (some (.str (gn (jz ss many sts)))) (.da (jz ss many sts)) ss) ?_ ?_ _ _ _ ⟨rs,_,_,_,_,_,rfl,hrs,rfl,fd5,j3.refl _ _⟩) ?_
 ·intro d r ρ s' J
  obtain⟨ρ1,e,w⟩:=a0x t J
  refine⟨ρ1,e,R.W_mono w ?_⟩
  rintro _ s4 ⟨ρ2,rfl,J2⟩
  exact J2
 ·intro ρ s' J
  exact⟨ρ,rfl,J⟩
 ·rintro _ s6 ⟨ρ,rfl,rs',u5,u6,u7,u8,u9,_,_,rfl,fd6,sm6⟩
  walk_at "go"
  rw [zm ok]
  walk_at "go"
  (try rw [abp])
  (try simp only [eq_self,decide_true,cy])
  walk_at "go"
  exact⟨_,rfl,_,_,_,_,_,_,_,_,_,rfl,fd6,by lia⟩
theorem avh(ns:List Int):(atz [.frz (ns.map aX)] []).W fun d _=> d=.bl true:=by
 rw [a5j];unfold Blaw
 have w1:=fun s=> (⟨a0b (s:=s) (xs:=ns)⟩:DW _ _)
 generalize aae=FT at w1⊢
 walk_at "go"
 refine (w1 _).mono fun d1 s1 q=> ?_
 obtain⟨e,fd,_⟩:=q
 rw [e];clear e
 walk_at "go"
 rw [aal (by decide) (by decide)]
 walk_at "go"
 show (xl (.nm 2) aui _ _ _ _).W _
 refine R.W_mono (k9 (Q:=fun fl s'=> ∃ρ,fl=.nx ρ/\OutJ 0 10000 (some (.frz (ns.map aX))) [] ρ s') (OutJ 0 10000 (some (.frz (ns.map aX)))) ?_ ?_ _ _ _ ⟨0,_,_,_,_,_,_,_,_,rfl,fd,by rw [xg];show 0+700*4 <=_;lia⟩) ?_
 ·intro d r ρ s J
  obtain⟨ρ1,e,w⟩:=awe (by decide) J
  refine⟨ρ1,e,R.W_mono w ?_⟩
  rintro _ s4 ⟨ρ2,rfl,J2⟩
  exact J2
 ·intro ρ s5 J
  exact⟨ρ,rfl,J⟩
 ·rintro _ s5 ⟨ρ,rfl,c5,_,_,_,_,_,_,_,_,rfl,_,_⟩
  walk_at "go"
  try rfl
theorem a43{f:Addr}(F:Fun K "law" "law" ab7 f fd)(T:Txt0 K mg):FnOk P w K mg base (CX1 P w) 5 f fd ["_law_script"] (spF K 1 atz):=by
 have ctable_has:=ang (P:=P) (w:=w) (base:=base) T
 have ctable_breaks:=ad9 (P:=P) (w:=w) (base:=base) T
 have c_law_tape:=ok_law_tape (P:=P) (w:=w) (base:=base) T
 have c_law_draw:=ok_law_draw (P:=P) (w:=w) (base:=base) T
 have c_law_names:=ok_law_names (P:=P) (w:=w) (base:=base) T
 have c_law_table:=ok_law_table (P:=P) (w:=w) (base:=base) T
 have c_law_breaks:=ok_law_breaks (P:=P) (w:=w) (base:=base) T
 have c_law_sets_right:=ok_law_sets_right (P:=P) (w:=w) (base:=base) T
 have c_law_rows:=ok_law_rows (P:=P) (w:=w) (base:=base) T
 exact fnF (k:=4) F sclaw rfl rfl (fun f cdv A outer s H E I hx hr=>
   (jg (jq (i:=1) sclaw.nd rfl (aO rfl) (ku c_law_tape (hr.mono (by decide)) (jd (jc 0) jf)))
   (jg (xj rfl (aah T.n_range (jd jh jf)) (j4 (i:=2) sclaw.nd rfl (aO rfl)) (jg (jq (i:=3) sclaw.nd rfl (aO rfl) (ku c_law_table (hr.mono (by decide)) (jd (jc 1) (jd (ku c_law_names (hr.mono (by decide)) (jd (jc 1) (jd (ku c_law_draw (hr.mono (by decide)) (jd (jc 1) (jd jh jf))) jf))) (jd jh (jd jh jf))))))
   (jg (jq (i:=4) sclaw.nd rfl (aO rfl) (vf (yp hr) T.n_repr yq (jd (jc 3) jf)))
   (jg (xu (amr (ams (ku c_law_sets_right (hr.mono (by decide)) (jd (jc 1) (jd (jc 3) jf))))) (jm (kf abo)) va)
   (jg (xj rfl (zb (ku c_law_rows (hr.mono (by decide)) (jd (jc 1) (jd (jc 3) jf)))) (j4 (i:=5) sclaw.nd rfl (aO rfl)) (jg (jq (i:=6) sclaw.nd rfl (aO rfl) (ku c_law_breaks (hr.mono (by decide)) (jd (jc 3) (jd (jc 5) jf))))
   (jg (xu (RW.rt (axk (qk (agh (u64 hr)) (vf (yp hr) T.n_repr yq (jd (ku ctable_breaks (hr.mono (by decide)) (jd (jc 3) (jd (jc 5) jf))) jf)) (vf (yp hr) T.n_repr yq (jd (jc 6) jf))) (atp (qk (agh (u64 hr)) (vf (yp hr) T.n_repr yq (jd (ku ctable_has (hr.mono (by decide)) (jd (jc 3) (jd (jc 5) jf))) jf)) (vf (yp hr) T.n_repr yq (jd (ahz ap9 (jc 6) ade) jf)))))) (jm (kf abo)) va)
   (jg (jq (i:=7) sclaw.nd rfl (aO rfl) (jv (qu false) (xo false (jc 3) yu (yv jh)) (vt (jd (xo false (kx (jc 3) jh) yu (yv (a2x jh))) jf))))
   (jg (jq (i:=8) sclaw.nd rfl (aO rfl) (ku c_law_breaks (hr.mono (by decide)) (jd (jc 7) (jd (jc 5) jf))))
   (jg (jq (i:=9) sclaw.nd rfl (aO rfl) (xi false (jd (ku ctable_breaks (hr.mono (by decide)) (jd (jc 7) (jd (jc 5) jf))) (jd (ku ctable_breaks (hr.mono (by decide)) (jd (jc 3) (jd (jc 5) jf))) (jd (ku ctable_has (hr.mono (by decide)) (jd (jc 7) (jd (jc 5) jf))) (jd (ku ctable_has (hr.mono (by decide)) (jd (jc 3) (jd (jc 5) jf))) jf))))))
   (jm (xu (qk (agh (u64 hr)) (vf (yp hr) T.n_repr yq (jd (jc 9) jf)) (vf (yp hr) T.n_repr yq (jd (xi false (jd (jc 8) (jd (jc 6) (jd (ahz ap9 (jc 8) ade) (jd (ahz ap9 (jc 6) ade) jf))))) jf))) (jm (kf abo)) va))))))))
   (jm (xu (qk (agh (u64 hr)) (vf (yp hr) T.n_repr yq (jd (jc 3) jf)) (jc 4)) (jm (kf abo)) va)))))))
   (jm (kf abo)))))
def BN(x q:Str)(st:Stmt)(ps:List Str)(us:List ae):Prop:= ∀(kV doc pm:ae) (an:Option Addr) (cdv ct:ae),bindArgs (cI x q (yz st) (vn st) (ji st) .none kV doc pm an cdv ct) ⟨us,[]⟩=pure (ps.zip us)
theorem bd1{x:Str}{st:Stmt}{p0:Str}(h: ∀a0,BN x q st [p0] [a0]): ∀us,us.length=1 -> BN x q st [p0] us|[a0],_=> h a0
theorem bd2{x:Str}{st:Stmt}{p0 p1:Str}(h: ∀a0 a1,BN x q st [p0,p1] [a0,a1]): ∀us,us.length=2 -> BN x q st [p0,p1] us|[a0,a1],_=> h a0 a1
theorem bd3{x:Str}{st:Stmt}{p0 p1 p2:Str}(h: ∀a0 a1 a2,BN x q st [p0,p1,p2] [a0,a1,a2]): ∀us,us.length=3 -> BN x q st [p0,p1,p2] us|[a0,a1,a2],_=> h a0 a1 a2
theorem bd4{x:Str}{st:Stmt}{p0 p1 p2 p3:Str}(h: ∀a0 a1 a2 a3,BN x q st [p0,p1,p2,p3] [a0,a1,a2,a3]): ∀us,us.length=4 -> BN x q st [p0,p1,p2,p3] us|[a0,a1,a2,a3],_=> h a0 a1 a2 a3
theorem a18(X:K.In h)(G:h.Ns aY mg){x:Str}{st:Stmt}{f:Addr}{oc kV dc pm cd ct:ae}(a:bE K aY x=some (some (.ref f)))(l:K.lookup f=some ⟨oc,od,.func (cI x x (yz st) (vn st) (ji st) .none kV dc pm an cd ct),sl⟩)(c:eI K cd x=true)(k:cz K (.ref f)=true)(b: ∀us,us.length=ps.length -> BN x x st ps us):Has K mg x st ps:=
 ⟨f,_,acd (st:=st) l c k,jA X G a,(acd (st:=st) l c k).binds fun kV doc pm an cdv ct us hl=> b us hl kV doc pm an cdv ct⟩
theorem a13(X:K.In h)(G:h.Ns aY mg){x:Str}{g:Addr}{its:Array ae}(a:bE K aY x=some (some (.ref g)))(l:K.lookup g=some ⟨.type "tuple",od,.seq its n,sl⟩)(hz:its.size <=1000)(hv:jj vs its.toList):aw1 K mg x vs:=
 ⟨g,jA X G a,fun H=>.inr ⟨_,its,n,l,rfl,rfl,gf (as7 hz),hv⟩⟩
theorem aio{x:Str}{st:Stmt}{f:Addr}{oc kV dc pm cd ct:ae}(a:bE K aY C=some (some (.ref Ca)))(c0:eO K Ca Str.empty=true)(c1:fx K Ca=true)(c2:gJ K Ca=true)(c3:bM K (.ref Ca) "__setattr__"=some (some (.builtin "object.__setattr__")))(m:bM K (.ref Ca) x=some (some (.ref f)))(n:ib K (.ref f)=true)(l:K.lookup f=some ⟨oc,od,.func (cI x q (yz st) (vn st) (ji st) .none kV dc pm an cd ct),sl⟩)(c:eI K cd q=true)(k:cz K (.ref f)=true)(b: ∀us,us.length=ps.length -> BN x q st ps us):HasM K C x q st ps:=
 ⟨Ca,f,_,a,⟨c0,c1,c2,c3⟩,⟨m,n,k⟩,acd (st:=st) l c k,(acd (st:=st) l c k).binds fun kV doc pm an cdv ct us hl=> b us hl kV doc pm an cdv ct⟩
theorem ay5(X:K.In h)(G:h.Ns aY mg){st:Stmt}{f:Addr}{oc kV dc pm cd ct:ae}(a:bE K aY C=some (some (.ref Ca)))(m0:kR K Ca=true)(m:bM K (.ref Ca) "__init__"=some (some (.ref f)))(n:ib K (.ref f)=true)(kC:cz K (.ref Ca)=true)(l:K.lookup f=some ⟨oc,od,.func (cI "__init__" q (yz st) (vn st) (ji st) .none kV dc pm an cd ct),sl⟩)(c:eI K cd q=true)(k:cz K (.ref f)=true)(b: ∀us,us.length=ps.length -> BN "__init__" q st ps us):HasI K mg C q st ps:=
 ⟨Ca,f,_,a,jA X G a,⟨m0,m,n,kC⟩,acd (st:=st) l c k,(acd (st:=st) l c k).binds fun kV doc pm an cdv ct us hl=> b us hl kV doc pm an cdv ct⟩
theorem a2b:CTabs K []:=⟨fun C fl h=> by cases h⟩
theorem ay2{r:ab1}(t:CTabs K r)(a:bE K aY C=some (some (.ref Ca)))(c0:eO K Ca Str.empty=true)(c1:fx K Ca=true)(c2:gJ K Ca=true)(c3:bM K (.ref Ca) "__setattr__"=some (some (.builtin "object.__setattr__")))(n: ∀f∈fl,yc K Ca f):CTabs K ((C,fl)::r):=⟨fun D gl h=> by
 rw [cj]at h
 split at h
 ·rename_i e
  cases h
  rw [eq_of_beq e]
  exact⟨Ca,a,⟨c0,c1,c2,c3⟩,n⟩
 ·exact t.ok D gl h⟩
theorem a33: ∀f∈([]:List Str),yc K Ca f:=fun f h=> by cases h
theorem a0l{g:Str}(h:bM K (.ref Ca) g=some none)(t: ∀f∈fl,yc K Ca f): ∀f∈g::fl,yc K Ca f:=fun f hf=> by
 rcases aE.mp hf with rfl|hf
 ·exact h
 ·exact t f hf
theorem a17{l:kU}{fa f:Addr}{oc kV dc pm cd ct:ae}(X:K.In h)(G:h.Ns aY mg)(hfa:mg "law"=some (.ref fa))(a:bE K aY "law"=some (some (.ref f)))(l0:K.lookup f=some ⟨oc,od,.func (cI "law" "law" (yz ab7) (vn ab7) (ji ab7) .none kV dc pm an cd ct),sl⟩)(c:eI K cd "law"=true)(k:cz K (.ref f)=true)(T:Txt0 K mg):
  ∃fd:dM,(∀(s:ag) (v:ae),lG s fd ⟨[v],[]⟩ [("_law_script",v)])/\ ∀base:Heap,K.In base -> base.Ns aY mg -> FnOk l.prog w K mg base CX0 5 fa fd ["_law_script"] (ahf K):=by
 have e:=hfa.symm.trans (jA X G a)
 cases e
 exact⟨cI "law" "law" (yz ab7) (vn ab7) (ji ab7) .none kV dc pm an cd ct,fun s v=>.of_eq rfl,fun base _ _=> a3e (a43 (acd (st:=ab7) l0 c k) T) fun ns _=> avh ns⟩
theorem walk{l:kU}{q:aI}{loose:List Str}{XP:(Str -> Option ae) -> Heap -> Prop}{YP:aM -> Heap -> Prop}{d:DefRec}{K:Params -> aj}(hn:l.most=some 63)(hdf:d.params.defaults=[])
  (hY: ∀(w:aM) (h:Heap),YP w h -> (K w.params).In h)
  (F: ∀(w:aM) (mg:Str -> Option ae) (fa:Addr) (h:Heap),(K w.params).In h -> h.Ns aY mg -> mg d.name=some (.ref fa) ->
   ∃fd:dM,(∀(s:ag) (u:ae),lG s fd ⟨[u],[]⟩ [("_law_script",u)])/\ ∀base:Heap,(K w.params).In base -> base.Ns aY mg -> FnOk l.prog w (K w.params) mg base CX0 5 fa fd ["_law_script"] (ahf (K w.params))):
  PySem.W.WalkO q loose XP YP l.row.toRowW d [] (fun f vs=> PySem.call f vs):=
 L2.az2 (n:=63) (k:=5) (x:="_law_script") (CX:=fun _=> CX0) (sp:=fun w=> ahf (K w.params)) hn (by decide) hdf ⟨rfl,by decide,by decide,rfl⟩ hY F (fun _ _ a ns hl _ hS=> ⟨a,ns,rfl,hS,hl,fun _=> rfl⟩) fun _ _ _ _ _ z=> z
end Ln
open PySem PySem.W PyProof.Rows
local macro_rules | `(tactic| walk_at "hm") => do
 let X := nF `KX
 let G := nF `G
 `(tactic| refine Ln.a18 $X $G (by k_is) (by k_is) (by k_is) (by k_is) ?_)
namespace PySem.W.Fast
def tw9046486462066778592:=()
def tw11277000589156180484:=()
def tw1469821445563386612:=()
def tw4771331668162370920:=()
def tw10819973385104937727:=()
def tw3716671664196019268:=()
def tw17300274657102166877:=()
def tw7392106627400734772:=()
def tw5691809848966756667:=()
def tw11108658305823973115:=()
def tw7315390932801455091:=()
def tw16431897906019673733:=()
def tw14027642629446621165:=()
def tw1210125362135454702:=()
def tw17296591119436048181:=()
def tw5988323844340336880:=()
def tw7718561803107431892:=()
def tw15249563704543225401:=()
def tw16030239840786102643:=()
def tw7602519179933193571:=()
def tw13491464645292223916:=()
def tw17156820186708983081:=()
def tw8423779641859784785:=()
def tw17323563477303616846:=()
def tw11082731444168924737:=()
def tw6878745270181117328:=()
def tw1127442117810930904:=()
def tw8934362470446509300:=()
def tw14905794668611479017:=()
def tw15517476687694534397:=()
def tw3113636897836566341:=()
def tw6598054635581690612:=()
def tw1451343724586405495:=()
def tw18274257865045199424:=()
def tw648727130022298219:=()
def tw13746978598878947736:=()
def tw12141067674551841677:=()
def tw155197750969438356:=()
def tw17332154545062136730:=()
def tw16181859623149048356:=()
def tw10213994420755167760:=()
def tw5000022743912952262:=()
def tw14682039147217646999:=()
def tw8968065717822009992:=()
def tw3582595154183780027:=()
def tw17156323446702149807:=()
def tw12547344884870314295:=()
end PySem.W.Fast
set_option maxRecDepth 100000 in
set_option maxHeartbeats 0 in
theorem PySem.Challenge.cw_mannerports_k38_rows_of_tables_holds : PySem.Challenge.rw_mannerports_k38_rows_of_tables.Holds := by
 w_on;o_law;k_head;(case hw=> w_witness2)
 k_fill
 refine Ln.walk (l:=eJ) rfl rfl (fun w h Y=> PySem.W.kIn_of Y) ?F
 case F=>
  intro w mg fa h KX G hmg
  refine Ln.a17 KX G hmg (by k_is) (by k_is) (by k_is) (by k_is) ?_
  constructor
  ·exact (Ln.ay2 Ln.a2b (by k_is) (by k_is) (by k_is) (by k_is) (by k_is) (Ln.a0l (by k_is) Ln.a33))
  ·walk_at "hm";exact Ln.bd1 fun _ _ _ _ _ _ _=> rfl
  ·walk_at "hm";exact Ln.bd3 fun _ _ _ _ _ _ _ _ _=> rfl
  ·walk_at "hm";exact Ln.bd2 fun _ _ _ _ _ _ _ _=> rfl
  ·walk_at "hm";exact Ln.bd2 fun _ _ _ _ _ _ _ _=> rfl
  ·walk_at "hm";exact Ln.bd2 fun _ _ _ _ _ _ _ _=> rfl
  ·refine Ln.ay5 KX G (by k_is) (by k_is) (by k_is) (by k_is) (by k_is) (by k_is) (by k_is) (by k_is) ?_;exact Ln.bd2 fun _ _ _ _ _ _ _ _=> rfl
  ·refine Ln.aio (by k_is) (by k_is) (by k_is) (by k_is) (by k_is) (by k_is) (by k_is) (by k_is) (by k_is) (by k_is) ?_;exact Ln.bd3 fun _ _ _ _ _ _ _ _ _=> rfl
  ·refine Ln.aio (by k_is) (by k_is) (by k_is) (by k_is) (by k_is) (by k_is) (by k_is) (by k_is) (by k_is) (by k_is) ?_;exact Ln.bd2 fun _ _ _ _ _ _ _ _=> rfl
  ·refine Ln.aio (by k_is) (by k_is) (by k_is) (by k_is) (by k_is) (by k_is) (by k_is) (by k_is) (by k_is) (by k_is) ?_;exact Ln.bd2 fun _ _ _ _ _ _ _ _=> rfl
  ·walk_at "hm";exact Ln.bd1 fun _ _ _ _ _ _ _=> rfl
  ·walk_at "hm";exact Ln.bd2 fun _ _ _ _ _ _ _ _=> rfl
  ·walk_at "hm";exact Ln.bd2 fun _ _ _ _ _ _ _ _=> rfl
  ·walk_at "hm";exact Ln.bd3 fun _ _ _ _ _ _ _ _ _=> rfl
  ·walk_at "hm";exact Ln.bd4 fun _ _ _ _ _ _ _ _ _ _=> rfl
  ·walk_at "hm";exact Ln.bd3 fun _ _ _ _ _ _ _ _ _=> rfl
  ·walk_at "hm";exact Ln.bd3 fun _ _ _ _ _ _ _ _ _=> rfl
  ·walk_at "hm";exact Ln.bd2 fun _ _ _ _ _ _ _ _=> rfl
  ·walk_at "hm";exact Ln.bd2 fun _ _ _ _ _ _ _ _=> rfl
  ·walk_at "hm";exact Ln.bd2 fun _ _ _ _ _ _ _ _=> rfl
  ·walk_at "hm";exact Ln.bd1 fun _ _ _ _ _ _ _=> rfl
  ·exact Ln.a13 KX G (by k_is) (by k_is) (by decide) (.cons ⟨_,rfl⟩ (.nil))
  ·exact cx KX G (by k_is)
  ·exact cx KX G (by k_is)
  ·exact cx KX G (by k_is)
  ·exact cx KX G (by k_is)
  ·exact cx KX G (by k_is)
  ·exact cx KX G (by k_is)
  ·exact cx KX G (by k_is)
  ·exact cx KX G (by k_is)
  ·exact cx KX G (by k_is)
