import PyProof.Rows.All
import Wide.All
import OpenK.AllK
import Wide.FinOn
import Lean
import PyProof.EqAt
import PyProof.EqKinds
import PyProof.TupleCall
import PyProof.NeKinds
import PyProof.Rows.SetFrom
import PyProof.WalksMore
import KE.KDictSum
import PyProof.AttrMissHeap
import PyProof.P3Eq
import PyProof.NeData
import PySem.SetTable
import PyProof.SetScanFacts
import PyProof.ConsumeWalk
import PyProof.ZipIter
import PyProof.Rows.TupAdd
import PyProof.Rows.IntBool
import PyProof.SliceStr2
import PyProof.StrBlockI
import KE.KTab
import KE.KIsAll
import OpenK.KCls
import OpenK.KMore
import PyProof.ExcInit
import PyProof.ExcBaseAll.ValueError
import PyProof.ExcAttrAll.ValueError
import PyProof.InstStore
import PyProof.InstStoreFacts
import PyProof.StationsW
import PyProof.PassesOwn
import PyProof.RulesAs
import KE.KTryMore
import PyProof.NsDelKeeps
import KE.KSortAsk
import KE.KSortTup
import PyProof.TupleOfSeq
import PyProof.FString5
import PyProof.StrWalks
import PyProof.CallStr
import PyProof.Conv_int_bool
import PyProof.StrCalls
import PyProof.DictWalks
import PyProof.Rows.TupDisplay
import PyProof.DictTruth
import PyProof.DictCompW
import PyProof.DictValues
import KE.KDictList
import PyProof.Rows.SortShell
import PyProof.Rows.MinMaxN
import PyProof.ListMulAny
import PyProof.FactsAll.tuple_2
import PyProof.ListRange
import KE.KxMul
import PyProof.FactsAll.dict_1
import PyProof.FactsAll.subtypes_4
import PyProof.FactsAll.subtypes_3
import PyProof.FactsAll.tuple_0
import PyProof.SetKind
import PyProof.EnumMake
import PyProof.StrBlockG
import PyProof.StrCalls2
import KE.KIntText
import PyProof.CollectWalk
import PyProof.TupleOfGen
import PyProof.StrLawsReplace
import PyProof.Rows.ReprOcc
import PyProof.SumWalk
import PySem.Challenge.RW_mannerports_k61_wish_papers_let_by
import KE.KTabLook
set_option Elab.async false
set_option linter.all false
set_option bootstrap.genMatcherCode false
set_option genSizeOfSpec false
set_option maxRecDepth 100000
set_option maxHeartbeats 4000001
variable{xs:List PySem.PyData}{a b:ee}{A:mr}{E:cQ -> fA -> Prop}{s:fA}{h h':PySem.Heap}{P:lQ}{w:mN}{t' i:Nat}{ch:List ee}{e tg:iZ}{M:PySem.Model}{u:cQ}{Q:Unit -> fA -> Prop}{pos:PySem.Pos}{pins:List (ee×PySem.Obj)}{K:am}
noncomputable section
open PySem renaming wpAny_bind -> aa,PyData -> ac,Value -> ae,wpAny_pure -> af,Shared -> ag,Program -> aL,World -> aO,compareOp -> aS,Around -> aX,wpAny_holding -> a9,wpAny_callSpecial?_slot -> bf,wpAny_call_entry -> bg,SetTable -> bp,wpAny_field -> bB,assignEach -> bE,bootBuiltins -> bG,wpAny_newObj_type -> bN,sysModules -> bP,wpAny_mono -> bQ,intKind -> bV,mainGlobals -> bW,wpAny_setField_rec -> cj,sizeLine_eq -> cp,wpAny_setState_of -> cq,ReadsAll -> cu,Reads -> cA,Builtin -> cC,wpAny_seqItems -> cE,wpAny_setField -> cG,wpAny_rule -> cI,scanBound -> cL,Value -> cQ,wpAny_truthy_bool -> cU,foldedSetIterable -> cV,codeAny_builtin -> c0,mem_of_lookup -> c7,wpAny_specialOf -> dj,DictEntry -> dH,codeAny_mono -> dL,wpAny_passesOwn -> dP,wpAny_attempt -> dX,wpAny_pyIter_list -> d7,ofAClassStatement -> d9,Addr -> ee,wpAny_forIn_list -> eE,wpAny_isInstance -> eF,wpAny_typeOf -> eI,wpAny_setEntries_of -> eP,wpAny_standAt -> eU,entryOfKey -> eW,Scope -> eX,NameKind -> fh,Shared -> fA,wpAny_callSpecialIfBoundUnlessNone?_slot -> fL,behindInMarks -> fP,attributeBase -> fQ,plainId_quiet -> fS,sliceBounds -> fT,wpAny_execs_nil -> fV,letOwnedTupleGo -> fW,swapsWith -> f8,FuncData -> f9,wpAny_comprehension_free -> gf,wpAny_pyIter_tuple -> gg,IsPair -> gk,wpAny_runValue -> gu,fits_of_scanBound -> gE,wpAny_storeSet_of -> gG,IsPart -> gI,slicePicked -> gK,builtinLookup_eq_fast -> gS,pickOrder -> gT,Result -> gZ,wpAny_ite_split -> g9,wpAny_updateSeq_pair -> hX,callSpecialIfBoundUnlessNone? -> h9,Keyword -> ig,isSubtype_type -> ii,wpAny_fieldsOf -> ij,firstArgMember -> ik,isSubtype_stop -> il,typeIs_none -> im,wpAny_letGo -> io,IsZip -> ip,Paired -> ir,Str -> iu,wpAny_Call_Name_kw -> iy,tupleKind_room_in1 -> iz,ExceptHandler -> iM,wpAny_onRaise -> iO,eqIsQuiet_byValue -> iP,wpAny_assign_Name -> iS,wpAny_sequenceKey -> iW,searchCouldBeSeen -> iY,Expr -> iZ,wpAny_load -> i6,Within -> i9,GenState -> jA,noFill_tuple_add -> jB,wpAny_askSetting -> jF,setAddHashed -> jM,tupleKind -> jS,codeAny_of_tree -> jZ,typeLookup_type -> kA,wpAny_pyNext_list_item -> kD,keywordEach -> kH,wpAny_pyNext_list_end -> kS,BindsTo -> kX,exec_Assign_Name_used -> kY,weight_type_call_type -> lf,wpAny_newTuple -> lj,IsEnum -> ly,Stmt -> lD,wpAny_newFunctionEnv -> lE,Moved -> lG,codeAny_call_builtin -> lH,noKeywords -> lJ,Program -> lQ,swapsWithSole -> lR,swappedStores -> lS,seq_tuple_add -> lT,signature?_of -> lW,wpAny_handled -> lX,wpAny_newList -> l6,wpAny_dictSet_pairs -> mq,Around -> mr,PassesOwn -> mw,concat_meets -> mz,seqIndex_neg -> mB,noteFrame -> mC,drawOrder -> mE,IsEnumOut -> mL,World -> mN,seqIndex_of -> mO,subscripted -> mP,wpAny_of_eq -> mR,wpAny_throw -> mS,richCompare -> mU,storedH_old -> mW,hashByValue -> mY,wpAny_loadPart' -> m8,SetTable -> m9,Walks -> na
open PySem.Heap renaming get?_push_of_some -> aj,get?_push_size -> ay,lt_size -> az,size_push -> aV,SameBut -> bu,get?_update_self -> bD,get?_update_other -> bY,get?_push_ne -> d8,ExtBut -> fq,size_update -> gO,size_after_update -> kM
open List renaming length_map -> ak,getElem?_eq_getElem -> ao,mem_cons_self -> au,mem_cons_of_mem -> aw,mem_cons -> aA,getElem?_eq_some_iff -> aB,all_eq_true -> aC,size_toArray -> aE,mem_singleton -> aF,length_cons -> aG,mem_map -> aH,getElem?_append_left -> aI,map_cons -> aK,getElem?_map -> aN,length_append -> aQ,mem_append -> aR,getElem?_append_right -> aT,range -> aW,getElem?_set_self -> a8,length_take -> bc,mem_append_right -> bi,map_map -> bj,replicate -> bo,mem_filter -> bq,mem_of_getElem? -> bt,mem_range -> bA,getElem?_set_ne -> bL,not_mem_nil -> bM,mem_map_of_mem -> bR,length_nil -> bS,mem_append_left -> bX,append_nil -> b7,find?_cons -> cw,pairwise_cons -> cx,length_range -> cz,getElem?_eq_none -> cK,map -> cN,getElem?_cons_succ -> cT,ext_getElem? -> cW,pairwise_map -> cX,nodup_cons -> cZ,map_append -> c6,find?_cons_of_neg -> c8,getElem?_eq_none_iff -> di,any_cons -> dw,getElem?_replicate -> dA,getElem?_range -> dB,length_drop -> dC,any_eq_true -> dG,foldl_cons -> dQ,getD_eq_getElem?_getD -> dY,nodup_append -> dZ,pairwise_iff_getElem -> eA,getElem?_of_mem -> eB,drop_eq_getElem_cons -> eC,getElem?_take_of_lt -> eG,getElem_mem -> eL,all_cons -> eQ,length -> fj,take_of_length_le -> fw,drop_eq_nil_of_le -> fx,length_singleton -> fD,nodup_nil -> fE,toArray -> fF,pairwise_append -> fM,getElem_of_mem -> fU,map_nil -> f6,getElem?_drop -> gi,length_eq_zero_iff -> gC,append_assoc -> gD,mapM_toArray -> gF,length_replicate -> gQ,mem_iff_getElem? -> gU,forIn_cons -> g6,all_map -> hU,filterMap_cons -> ia,map_congr_left -> ic,mem_filterMap -> iw,Perm -> iC,zip_cons_cons -> iE,length_eraseIdx_of_lt -> iK,any_eq_false -> iU,take_sublist -> iV,nodup_range -> jD,all_toArray -> jJ,lookup_eq_none_iff -> jN,filter_cons_of_neg -> jP,filter_cons_of_pos -> jQ,of_mem_zip -> jU,find?_cons_of_pos -> kQ,drop_zero -> lh,take_append_drop -> lm,forIn_nil -> lu,length_filter_le -> lz,mem_of_mem_head? -> lA,set_append_left -> lL,Nodup -> lP,map_take -> lZ,map_drop -> l4,Pairwise -> l7,map_eq_nil_iff -> mi,range' -> mZ
open PySem.W renaming Frag -> am,mg_none_of -> bF,kia_one -> cB,fnOf -> dq,nsIn -> eN,keepIn -> fB,kas_place -> gh,codeIn -> gp,kas_asc -> gx,kas_rev -> gW,methodObj -> iR,kas_sort -> jI,instObj -> jT,OpenLaw -> jV,cellsFrom_some -> kE,lookIn -> kU,findIn -> kW,kas_desc -> lM,mg_of -> mf,kas_tail3 -> mH,kas_descPart -> mI,kas_count -> mJ,kas_bin -> mM
open PySem.PyData renaming int -> aq,eqv -> aM,canLayAll0 -> ba,str -> bb,depthAll -> bH,depth -> cv,leavesShort -> cM,showableAll -> dM,tuple -> dN,showable -> dR,leavesShortAll -> dS,eqvAll -> dW,canLay0 -> eD,shown_le_bulk -> fN,bulkAll -> gw,bool -> gL,shown -> jH,list -> kN,bulk -> mT
open Array renaming length_toList -> ar,getElem?_toList -> aZ,getElem?_eq_getElem -> bC,getElem?_eq_some_iff -> cb,getD -> cR,mem_toList_iff -> dk,forIn_toList -> f7,any_toList -> gM,replicate -> hV,perm_iff_toList_perm -> iN,getElem?_eq_none -> kK,mem_of_getElem? -> kZ,getElem_toList -> lF
open Nat renaming le_refl -> av,ne_of_lt -> aJ,lt_of_lt_of_le -> aP,le_trans -> br,le_of_not_lt -> bT,lt_succ_of_lt -> bU,zero_le -> b9,lt_irrefl -> cD,le_of_eq -> dt,lt_succ_self -> dE,ne_of_gt -> dI,lt_trans -> eK,min_eq_left -> fZ,mod_lt -> gq,le_of_lt -> gY,add_assoc -> iF,le_succ -> kL,not_lt -> lK,zero_add -> mD,sub_self -> mK
open Bool renaming false_ne_true -> ax,and_eq_true -> aD,false_eq_true -> aY,eq_iff_iff -> bh,and_self -> df,not_true -> eR,not_eq_true -> gN,or_eq_true -> kC,not_false -> lw,true_and -> l9,and_true -> md
open PySem.Value renaming none -> aU,type -> bn,ref -> bZ,int -> eV,isInt -> fg,bool -> gX,str -> iq,isInt_shape -> iQ
open PySem.Heap.SameBut renaming update -> bw,refl -> iX
open Int renaming eq_ofNat_of_zero_le -> bI,toNat_natCast -> cc,le_trans -> gj,emod_lt_of_pos -> iA,emod_nonneg -> jW
open Classical renaming byContradiction -> bJ
open PySem.NameKind renaming free -> bK,cell -> fR
open PySem.SetTable renaming below -> bO,grown -> ck,insertAt -> cY,sizeAbove -> dh,toList_insertAt -> eO,relaid -> jX,probe -> lq,laid -> lV,fits -> lY,fill -> l8
open PyProof.Rows.F renaming plain_set_update_loop -> b6,entry_set_update_loop -> cO
open Option.some renaming inj -> b8,injEq -> dv
open PySem.Str renaming ofString -> cf
open PySem.F renaming called_set -> cn,slot_tuple_hash -> fy,slot_enumerate_next -> fG,slot_NoneType_hash -> fK,args_tuple_add_2 -> gb,entry_tuple_add -> gB,slot_tuple_add -> gH,slot_zip_next -> hZ,sub_tuple_frozenset -> iB,sub_list_frozenset -> iJ,plain_extend_loop -> i7,slot_dict_getitem -> i8,slot_dict_values -> jL,plain_list_iadd -> jO,args_enumerate_next_1 -> jR,slot_tuple_lt -> kB,typeCall_set_1 -> kJ,entry_enumerate_next -> kR,plain_set_new -> lc,sub_tuple_set -> lg,sub_list_set -> lI
open PyProof.Rows renaming slot_tuple_getitem -> cr,callWith_type1 -> dJ,AllBare -> gn,subscriptTail_builtinR -> gy,IntsAre -> gR,subscriptTail_builtinR -> kF,SortKind -> lN,subscriptTail -> lU,listUpdate_at -> l5,entry_tuple_getitem -> mh,seqObj -> ml,seqEpoch_at -> mV
open Option renaming isSome_map -> cy,isSome_iff_exists -> dm,map_some -> hG,bind_eq_bind -> ib,getD_none -> jC,bind_some -> jE,pure_def -> jY,map_eq_some_iff -> kO
open Ne renaming symm -> cF
open PySem.Builtin.Tuple renaming tupleHashOf -> cH,tupleExact -> eJ,tupleItemsOf -> fO
open PySem.Builtin.SmallTypes renaming nextOf -> cJ,ownedTupleIsFree -> dU,ownedTupleHandOut -> gl
open Lean renaming mkIdent -> cP,TSyntax -> h8
open PySem.Around renaming under_plainId -> cS,in1 -> i5
open True renaming intro -> c9
open PySem.Obj renaming mapFields -> de,mapSeq -> eg,data_mapFields -> ff,putSet -> gz,isFreed_of_fields -> gV,data_mapDictKeys -> lO,isFreed_of_dict -> mn
open PySem.PassesOwn renaming never -> du
open PySem.Builtin.Frozenset renaming updateFrom -> dF
open PySem.Challenge renaming rw_mannerports_k61_wish_papers_let_by -> dO
open PySem.Builtin.Slice renaming slicePlaces -> ef,sliceAdjust -> fX,sliceApplied -> iH
open PySem.Paired renaming length -> eS,snoc -> mQ
open False renaming elim -> eY
open ForInStep renaming yield -> eZ
open List.Pairwise renaming nil -> fz,imp_of_mem -> jK,sublist -> lr
open PySem.Builtin.List renaming listExtendWith -> fH,listLengthHint -> iD,listSameRef -> jG
open PySem.Builtin.Str renaming strSliceIndices -> fI,occurrences -> gA
open PyProof.Rows.ReadsAll renaming keeps -> fJ
open PySem.Calls renaming call_function_entry -> fY,Name_function_global -> iG,callWith_builtin -> kG
open Or renaming inr -> gc,inl -> gJ
open Sum renaming inl -> gP,inr -> ie
open Prod.mk renaming injEq -> iI
open PySem.SeqAt renaming eqAt_reads -> lB,EqAt -> lC,room_head -> mG
open PySem.EntryCells renaming newEntry -> mj
open PySem.pickOrder renaming go -> mF
open PySem.Shared renaming heap -> mX
namespace PF
open PySem PySem.Spec PySem.SeqAt --
mutual
noncomputable def plD:ac -> Bool
 |.none=> true
 |.int _=> true
 |.str _=> true
 |.tuple xs=> qy xs
 |_=> false
noncomputable def qy:List ac -> Bool
 |[]=> true
 |x::xs=> plD x&&qy xs
end
theorem ki:plD (.tuple xs)=qy xs:=by simp only [plD]
theorem kz{x:ac}:qy (x::xs)=(plD x&&qy xs):=by simp only [qy]
theorem abm: ∀xs:List ac,qy xs=xs.all plD
 |[]=> by simp only [qy,List.all_nil]
 |x::r=> by rw [kz,eQ,abm r]
theorem evt{ys:List ac}:aM (.tuple xs) (.tuple ys)=dW xs ys:=by simp only [aM]
theorem evs{x y:ac}{ys:List ac}:dW (x::xs) (y::ys)=(aM x y&&dW xs ys):=by simp only [dW]
mutual
theorem yt: ∀a b:ac,plD a=true -> plD b=true -> (aM a b=true ↔ a=b)
 |.none,b,_,hb=> by cases b <;> simp [plD]at hb <;> simp [aM]
 |.int i,b,_,hb=> by cases b <;> simp [plD]at hb <;> simp [aM]
 |.str i,b,_,hb=> by cases b <;> simp [plD]at hb <;> simp [aM]
 |.tuple xs,.tuple ys,ha,hb=> by
  rw [evt,am9 xs ys (by rw [←ki];exact ha) (by rw [←ki];exact hb)]
  simp
 |.tuple xs,.none,_,_=> by simp [aM]
 |.tuple xs,.int _,_,_=> by simp [aM]
 |.tuple xs,.str _,_,_=> by simp [aM]
 |.tuple xs,.bool _,_,hb=> by simp [plD]at hb
 |.tuple xs,.list _,_,hb=> by simp [plD]at hb
 |.tuple xs,.dict _,_,hb=> by simp [plD]at hb
 |.bool _,_,ha,_=> by simp [plD]at ha
 |.list _,_,ha,_=> by simp [plD]at ha
 |.dict _,_,ha,_=> by simp [plD]at ha
theorem am9: ∀xs ys:List ac,qy xs=true -> qy ys=true -> (dW xs ys=true ↔ xs=ys)
 |[],[],_,_=> by simp [dW]
 |[],_::_,_,_=> by simp [dW]
 |_::_,[],_,_=> by simp [dW]
 |x::xs,y::ys,ha,hb=> by
  rw [kz,aD]at ha hb
  rw [evs,aD,yt x y ha.1 hb.1,am9 xs ys ha.2 hb.2,List.cons.injEq]
end
theorem av2{a:ac}(h:plD a=true):aM a a=true:=(yt a a h h).mpr rfl
mutual
noncomputable def jm(w:aO):ac -> Int
 |.none=> 0xFCA86420
 |.int i=> hashInt i
 |.str x=> hashStr w x
 |.tuple xs=> reduceHash (cH (zv w xs))
 |_=> 0
noncomputable def zv(w:aO):List ac -> List Int
 |[]=> []
 |x::xs=> jm w x::zv w xs
end
mutual
noncomputable def zy:ac -> Nat
 |.tuple xs=> v0 xs+1
 |_=> 1
noncomputable def v0:List ac -> Nat
 |[]=> 0
 |x::xs=> zy x+v0 xs
end
theorem agt(w:aO): ∀xs:List ac,zv w xs=xs.map (jm w)
 |[]=> by simp only [zv,f6]
 |x::r=> by simp only [zv,aK,agt w r]
theorem ac0: ∀xs ys:List ac,v0 (xs++ys)=v0 xs+v0 ys
 |[],ys=> by simp [v0]
 |x::r,ys=> by simp only [List.cons_append,v0,ac0 r ys];lia
theorem abx: ∀{xs:List ac} {x:ac},x∈xs -> x.depth <=bH xs
 |[],x,h=> by cases h
 |y::r,x,h=> by
  simp only [bH]
  (rcases aA.mp h with rfl|h)
  ·lia
  ·have:=abx h;lia
section
variable{prog:aL}{w:aO} --
theorem art{Q:Int -> ag -> Prop}(h:Q 0xFCA86420 {s with toks:=s.toks+1}):wpAny (model prog w) A (pyHash .none) Q E s:=by
 unfold pyHash
 have hv:[aU].any Value.onHeap=false:=rfl
 refine aa ?_
 (rw [cRoomFor,if_neg (by rw [hv];exact ax)];refine af ?_)
 refine aa (dj (im s) fK.lookup ?_)
 show wpAny _ _ (if (some (Value.builtin "NoneType.__hash__")==some aU)=true then _ else _) Q E s
 (rw [if_neg (by rw [beq_builtin_none];exact ax)])
 refine aa (dj (im s) fK.lookup ?_)
 show wpAny _ _ (h9 .none "__hash__" _ >>=_) Q E s
 refine aa (fL (im s) fK
  (bg fK (im s) F.entry_NoneType_hash
   (show wpAny _ _ (do ret (←mkInt 0xFCA86420)) _ _ s from wpAny_ret_mkInt ?_) (F.args_NoneType_hash_1 _)))
 show wpAny _ _ (if (decide (-(2:Int)^63 <=0xFCA86420)&&decide ((0xFCA86420:Int) < 2^63))=true then _ else _) Q E _
 rw [if_pos (by decide)]
 exact af h
mutual
theorem ah8: ∀(d:ac) {A:aX} {E:ae -> ag -> Prop} {s:ag} {v:ae} {bs:List Addr} {Q:Int -> ag -> Prop},plD d=true -> cA s.heap v d bs -> A.units+d.depth < cLine -> Q (jm w d) {s with toks:=s.toks+zy d} -> wpAny (model prog w) A (pyHash v) Q E s
 |.none,A,E,s,v,bs,Q,_,r,_,h=> by cases r;simp only [jm,zy]at h;exact art h
 |.int i,A,E,s,v,bs,Q,_,r,_,h=> by cases r;simp only [jm,zy]at h;exact wpAny_pyHash_int h
 |.str x,A,E,s,v,bs,Q,_,r,_,h=> by cases r;simp only [jm,zy]at h;exact wpAny_pyHash_str h
 | .tuple xs,A,E,s,v,bs,Q,hp,r,hu,h=> by
  have ih:=aii xs
  rw [ki,abm,aC]at hp
  (simp only [cv]at hu)
  cases r with
  | @tuple a o items n _ _ ho hc hd hi=>
  have hT:s.TypeIs (.ref a) "tuple":=⟨o,ho,hc⟩
  unfold pyHash pyHashByItsType
  refine aa (wpAny_cRoomFor_or (.inr (by lia)) ?_)
  (refine aa (dj hT fy.lookup ?_))
  show wpAny _ _ (if (some (Value.builtin "tuple.__hash__")==some aU)=true then _ else _) Q E s --
  (rw [if_neg (by rw [beq_builtin_none];exact ax)])
  (refine aa (dj hT fy.lookup ?_))
  show wpAny _ _ (h9 (.ref a) "__hash__" _ >>=_) Q E s --
  (refine aa (fL hT fy (bg fy hT F.entry_tuple_hash ?_ (F.args_tuple_hash_1 _))))
  show wpAny _ _ (fO (.ref a)>>=_) _ _ s --
  (refine aa (wpAny_tupleItemsOf ho hd ?_))
  refine aa ?_
  rw [←f7]
  refine eE _
   (λjg (b:Array Int) s'=> ∃done left cs,xs=done++left/\cu s.heap jg left cs/\b.toList=done.map (jm w)/\s'={s with toks:=s.toks+v0 done})
   _ ?_ ?_ _ _ ⟨[],xs,_,rfl,hi,rfl,rfl⟩
  ·rintro x jg b s' ⟨done,left,cs,e,hl,hb,rfl⟩
   cases hl with
   | @cons _ _ k ks' _ _ h1 hl'=>
    have hm:k∈xs:=by rw [e];simp
    have hdk:=abx hm
    have e1: ∀A:aX,A.in1.units <=A.units+1:=λA=> by first|exact av _|(unfold i5;simp)
    have e1A:=e1 A
    refine aa (ih k hm (s:={s with toks:=s.toks+v0 done}) (hp k hm) h1 (by lia) ?_)
    first
     |exact af ⟨done++ [k],ks',_,by rw [e];simp,hl',by simp [hb],by simp [ac0,v0,iF]⟩
     |exact aa (af (af ⟨done++ [k],ks',_,by rw [e];simp,hl',by simp [hb],by simp [ac0,v0,iF]⟩))
  ·rintro b s' ⟨done,left,cs,e,hl,hb,rfl⟩
   cases hl
   rw [b7]at e
   subst e
   show wpAny _ _ (retInt (cH b.toList)) _ _ _ --
   rw [hb,←agt]
   refine wpAny_ret_mkInt ?_
   show wpAny _ _ (if (decide (-(2:Int)^63 <=cH (zv w xs))&&decide (cH (zv w xs) < 2^63))=true then _ else _) Q E _
   simp only [jm,zy]at h
   unfold reduceHash at h
   by_cases hr:(decide (-(2:Int)^63 <=cH (zv w xs))&&decide (cH (zv w xs) < 2^63))=true
   ·rw [if_pos hr]
    rw [if_pos hr]at h
    (exact af (by simpa [iF] using h))
   ·rw [if_neg hr]
    rw [if_neg hr]at h
    (exact aa (cI (af (by simpa [iF] using h))))
 |.bool _,_,_,_,_,_,_,hp,_,_,_=> by simp [plD]at hp
 |.list _,_,_,_,_,_,_,hp,_,_,_=> by simp [plD]at hp
 |.dict _,_,_,_,_,_,_,hp,_,_,_=> by simp [plD]at hp
theorem aii: ∀(xs:List ac),∀d∈xs,∀{A:aX} {E:ae -> ag -> Prop} {s:ag} {v:ae} {bs:List Addr} {Q:Int -> ag -> Prop},plD d=true -> cA s.heap v d bs -> A.units+d.depth < cLine -> Q (jm w d) {s with toks:=s.toks+zy d} -> wpAny (model prog w) A (pyHash v) Q E s
 |[],d,m=> by cases m
 | x::r,d,m=> by
  intro h1 h2 h3 h4
  rcases aA.mp m with e|m
  ·rw [e]at h1 h2 h3 h4
   exact ah8 x h1 h2 h3 h4
  ·exact aii r d m h1 h2 h3 h4
end
mutual
theorem ade: ∀(d:ac) {n:Nat} {A:aX} {E:ae -> ag -> Prop} {s:ag} {v:ae} {bs:List Addr} {Q:Bool -> ag -> Prop},plD d=true -> cA s.heap v d bs -> d.depth <=n -> Q true s -> wpAny (model prog w) A (eqIsQuiet n v) Q E s
 |.none,n,A,E,s,v,bs,Q,_,r,_,h=> by cases r;rw [iP n rfl];exact af h
 |.int i,n,A,E,s,v,bs,Q,_,r,_,h=> by cases r;rw [iP n rfl];exact af h
 |.str x,n,A,E,s,v,bs,Q,_,r,_,h=> by cases r;rw [iP n rfl];exact af h
 | .tuple xs,n,A,E,s,v,bs,Q,hp,r,hu,h=> by
  have ih:=aif xs
  rw [ki,abm,aC]at hp
  (simp only [cv]at hu)
  obtain⟨m,rfl⟩: ∃m,n=m+1:=⟨n - 1,by lia⟩
  cases r with
  | @tuple a o items n _ _ ho hc hd hi=>
  have hT:s.TypeIs (.ref a) "tuple":=⟨o,ho,hc⟩
  unfold eqIsQuiet
  (refine aa (dj hT F.slot_tuple_eq.lookup ?_))
  show wpAny _ _ (isInstance (.ref a) (.type "tuple")>>=_) _ _ s --
  (refine aa (eF hT isSubtype_tuple_tuple ?_))
  (simp only [eR,aY,if_false])
  (refine aa (cE ho hd ?_))
  refine aa ?_
  show wpAny _ _ (forIn items _ _) _ _ s --
  rw [←f7]
  refine eE _ (λjg r s'=> r.1=none/\s'=s/\ ∃left cs,(∀x∈left,x∈xs)/\cu s.heap jg left cs) _ ?_ ?_ _ _ ⟨rfl,rfl,xs,_,λ_ m=> m,hi⟩
  ·rintro v jg r s' ⟨hr,rfl,left,cs,sub,hl⟩
   cases hl with
   | @cons _ _ k ks' _ _ h1 hl'=>
    have hm:=sub k au
    have hdk:=abx hm
    refine aa (ih k hm (hp k hm) h1 (by lia) ?_)
    (simp only [eR,aY,if_false])
    exact af ⟨rfl,rfl,ks',_,λx m=> sub x (aw _ m),hl'⟩
  ·rintro⟨r1,r2⟩ s' ⟨hr,rfl,_⟩
   simp only at hr
   subst hr
   exact af h
 |.bool _,_,_,_,_,_,_,_,hp,_,_,_=> by simp [plD]at hp
 |.list _,_,_,_,_,_,_,_,hp,_,_,_=> by simp [plD]at hp
 |.dict _,_,_,_,_,_,_,_,hp,_,_,_=> by simp [plD]at hp
theorem aif: ∀(xs:List ac),∀d∈xs,∀{n:Nat} {A:aX} {E:ae -> ag -> Prop} {s:ag} {v:ae} {bs:List Addr} {Q:Bool -> ag -> Prop},plD d=true -> cA s.heap v d bs -> d.depth <=n -> Q true s -> wpAny (model prog w) A (eqIsQuiet n v) Q E s
 |[],d,m=> by cases m
 | x::r,d,m=> by
  intro h1 h2 h3 h4
  rcases aA.mp m with e|m
  ·rw [e]at h1 h2 h3
   exact ade x h1 h2 h3 h4
  ·exact aif r d m h1 h2 h3 h4
end
mutual
theorem ahy: ∀(d:ac) {h h':Heap} {v:ae} {bs:List Addr} {a:Addr} {o:Obj} {es:Array dH} {ep:Nat},plD d=true -> cA h v d bs -> h.get? a=some o -> o.data=.dict es ep -> bu a h h' -> cA h' v d bs
 |.none,_,_,_,_,_,_,_,_,_,r,_,_,_=> by cases r;exact .none
 |.int i,_,_,_,_,_,_,_,_,_,r,_,_,_=> by cases r;exact .int _ _
 |.str x,_,_,_,_,_,_,_,_,_,r,_,_,_=> by cases r;exact .str _ _
 | .tuple xs,h,h',v,bs,a,o,es,ep,hp,r,ho,hd,hs=> by
  rw [ki]at hp
  cases r with
  | @tuple b ob items n _ _ h1 h2 h3 h4=>
   have ne:b≠a:=by
    rintro rfl
    rw [h1]at ho
    cases ho
    rw [hd]at h3;cases h3
   exact .tuple ((hs.2 b ne).trans h1) h2 h3 (ag8 xs hp h4 ho hd hs)
 |.bool _,_,_,_,_,_,_,_,_,hp,_,_,_,_=> by simp [plD]at hp
 |.list _,_,_,_,_,_,_,_,_,hp,_,_,_,_=> by simp [plD]at hp
 |.dict _,_,_,_,_,_,_,_,_,hp,_,_,_,_=> by simp [plD]at hp
theorem ag8: ∀(xs:List ac) {h h':Heap} {vs:List ae} {bs:List Addr} {a:Addr} {o:Obj} {es:Array dH} {ep:Nat},qy xs=true -> cu h vs xs bs -> h.get? a=some o -> o.data=.dict es ep -> bu a h h' -> cu h' vs xs bs
 |[],_,_,_,_,_,_,_,_,_,r,_,_,_=> by cases r;exact .nil
 |x::xs,_,_,_,_,_,_,_,_,hp,r,ho,hd,hs=> by
  rw [kz,aD]at hp
  cases r with
  |cons r1 r2=> exact .cons (ahy x hp.1 r1 ho hd hs) (ag8 xs hp.2 r2 ho hd hs)
end
def vh(d:ac):Bool:=plD d&&d.canLay0&&decide (d.depth <=8)
theorem kg{d:ac}:vh d=true ↔ plD d=true/\d.canLay0=true/\d.depth <=8:=by
 unfold vh
 simp only [aD,decide_eq_true_eq,and_assoc]
noncomputable instance:DecidableEq ac:=λa b=> Classical.propDecidable (a=b)
def qx(prog:aL)(w:aO):HeapKind prog w ac where
 is h k a:=vh k=true/\ ∃bs,cA h (.ref a) k bs
 hash:=jm w
 draws:=zy
 room A:=A.units+10 < cLine
 inj:=by
  rintro h a x y ⟨k1,b1,r1⟩ ⟨k2,b2,r2⟩
  exact Reads.unique x y _ _ _ (kg.mp k1).2.1 r1 r2
 keeps:=by
  rintro h h' k a d o es ep ⟨k1,b1,r1⟩ ho hd hs
  exact⟨k1,b1,ahy k (kg.mp k1).1 r1 ho hd hs⟩
 pyHash:=by
  rintro A E s k a Q hu ⟨k1,b1,r1⟩ h
  obtain⟨p,c,d⟩:=kg.mp k1
  exact ah8 k p r1 (by lia) h
 eqBool:=by
  rintro A E s x y a b Q hu ⟨k1,b1,r1⟩ ⟨k2,b2,r2⟩ h
  obtain⟨p,c,d⟩:=kg.mp k1
  obtain⟨p',c',d'⟩:=kg.mp k2
  refine lB x y A s _ _ _ _ r1 r2 c c' (by lia) prog w E Q ?_
  have:aM x y=decide (x=y):=by
   (rw [bh,decide_eq_true_eq])
   exact yt x y p p'
  rw [this];exact h
 quiet:=by
  rintro A E s k a Q ⟨k1,b1,r1⟩ h
  obtain⟨p,c,d⟩:=kg.mp k1
  exact ade k p r1 (by lia) h
end
end PF
namespace L2
open PySem PySem.Spec PyProof.Rows
abbrev Key:=Sum Int Str
noncomputable def act:Key -> ae -> Bool
 |.inl k,v=> fg k v
 |.inr x,v=> Value.isStrOf x v
noncomputable def a5t(w:aO):Key -> Int
 |.inl k=> hashInt k
 |.inr x=> hashStr w x
theorem km: ∀{k:Key} {v:ae},act k v=true -> (∃i t,k=gP i/\v=eV i t)\/(∃x t,k=ie x/\v=iq x t)
 |.inl i,v,h=> by
  obtain⟨t,e⟩:=iQ (k:=i) (v:=v) h
  exact .inl ⟨i,t,rfl,e⟩
 |.inr x,v,h=> by
  obtain⟨t,e⟩:=Value.isStrOf_shape (x:=x) (v:=v) h
  exact .inr ⟨x,t,rfl,e⟩
theorem as8(i:Int)(t:Tok):act (.inl i) (.int i t)=true:=by simp [act,fg]
theorem aqu(x:Str)(t:Tok):act (.inr x) (.str x t)=true:=by simp [act,Value.isStrOf]
theorem a1s(a b:Int):decide ((gP a:Key)=gP b)=(a==b):=by
 by_cases e:a=b
 ·subst e;simp
 ·have h: ¬(gP a:Key)=gP b:=λq=> e (gP.inj q)
  rw [decide_eq_false h]
  exact (beq_eq_false_iff_ne.mpr e).symm
theorem a0p(a b:Str):decide ((ie a:Key)=ie b)=decide (a=b):=by
 by_cases e:a=b
 ·subst e;simp
 ·have h: ¬(ie a:Key)=ie b:=λq=> e (ie.inj q)
  rw [decide_eq_false h,decide_eq_false e]
theorem a2u(a:Int)(b:Str):decide ((gP a:Key)=ie b)=false:=decide_eq_false (λq=> nomatch q)
theorem a0r(a:Str)(b:Int):decide ((ie a:Key)=gP b)=false:=decide_eq_false (λq=> nomatch q)
def ku(prog:aL)(w:aO):PySem.KeyKind prog w Key where
 is:=act
 hash:=a5t w
 inj:=λv a b ha hb=> by
  rcases km ha with ⟨i,t,rfl,rfl⟩|⟨x,t,rfl,rfl⟩
  ·rcases km hb with ⟨j,u,rfl,e⟩|⟨y,u,rfl,e⟩
   ·injection e with e1 _;rw [e1]
   ·exact nomatch e
  ·rcases km hb with ⟨j,u,rfl,e⟩|⟨y,u,rfl,e⟩
   ·exact nomatch e
   ·injection e with e1 _;rw [e1]
 byValue:=λk v h=> by
  rcases km h with ⟨i,t,rfl,rfl⟩|⟨x,t,rfl,rfl⟩ <;> rfl
 pyHash:=λhv h=> by
  rcases km hv with ⟨i,t,rfl,rfl⟩|⟨x,t,rfl,rfl⟩
  ·exact wpAny_pyHash_int h
  ·exact wpAny_pyHash_str h
 eqBool:=λhu hv h=> by
  rcases km hu with ⟨i,t,rfl,rfl⟩|⟨x,t,rfl,rfl⟩
  ·rcases km hv with ⟨j,u,rfl,rfl⟩|⟨y,u,rfl,rfl⟩
   ·rw [a1s]at h;exact wpAny_eqBool_int h
   ·rw [a2u]at h;exact lC.int_str i t y u _ _ _ _ h
  ·rcases km hv with ⟨j,u,rfl,rfl⟩|⟨y,u,rfl,rfl⟩
   ·rw [a0r]at h;exact lC.str_int x t j u _ _ _ _ h
   ·rw [a0p]at h;exact wpAny_eqBool_str h
 «strs»:=λk x t v h=> by
  rcases km h with ⟨i,u,rfl,e⟩|⟨y,u,rfl,e⟩
  ·exact nomatch e
  ·injection e with e1 _
   subst e1
   cases v <;> rfl
theorem alo(prog:aL)(w:aO)(i:Int)(t:Tok):(ku prog w).is (.inl i) (.int i t)=true:=as8 i t
theorem alr(prog:aL)(w:aO)(x:Str)(t:Tok):(ku prog w).is (.inr x) (.str x t)=true:=aqu x t
inductive V where
 |non|bl (b:Bool)|int (i:Int)|str (x:Str)|byt (b:Array UInt8)|flt (b:UInt64)|ref (a:Addr)|ty (n:String)
 deriving DecidableEq
def RelV:V -> ae -> Prop
 |.non,u=> u=aU
 |.bl b,u=> u=gX b
 |.int i,u=> ∃t,u=eV i t
 |.str x,u=> ∃t,u=iq x t
 |.byt b,u=> ∃t,u=Value.bytes b t
 |.flt b,u=> ∃t,u=Value.float b t
 |.ref a,u=> u=bZ a
 |.ty n,u=> u=bn n
abbrev ji:List V -> List ae -> Prop:=ir RelV
theorem ji.length{xs:List V}{us:List ae}(r:ji xs us):xs.length=us.length:=eS r
theorem ji.get: ∀{xs:List V} {us:List ae} {i:Nat} {x:V},ji xs us -> xs[i]?=some x -> ∃u,us[i]?=some u/\RelV x u
 |_,_,_,_,.nil,e=> by simp at e
 |_,_,0,_,.cons r _,e=> by simp at e;subst e;exact⟨_,rfl,r⟩
 |_,_,i+1,x,.cons _ t,e=> by
  obtain⟨u,h1,h2⟩:=ji.get (i:=i) (x:=x) t (by simpa using e)
  exact⟨u,by simpa using h1,h2⟩
theorem ji.set{x:V}{u:ae}(r:RelV x u): ∀{xs:List V} {us:List ae} (i:Nat),ji xs us -> ji (xs.set i x) (us.set i u)
 |_,_,_,.nil=>.nil
 |_,_,0,.cons _ t=>.cons r t
 |_,_,i+1,.cons q t=>.cons q (ji.set r i t)
theorem ji.append: ∀{xs ys:List V} {us ws:List ae},ji xs us -> ji ys ws -> ji (xs++ys) (us++ws)
 |_,_,_,_,.nil,s=> s
 |_,_,_,_,.cons r t,s=>.cons r (ji.append t s)
theorem ji.take: ∀{xs:List V} {us:List ae} (n:Nat),ji xs us -> ji (xs.take n) (us.take n)
 |_,_,0,_=>.nil
 |_,_,_+1,.nil=>.nil
 |_,_,n+1,.cons r t=>.cons r (ji.take n t)
theorem ji.drop: ∀{xs:List V} {us:List ae} (n:Nat),ji xs us -> ji (xs.drop n) (us.drop n)
 |_,_,0,r=> r
 |_,_,_+1,.nil=>.nil
 |_,_,n+1,.cons _ t=> ji.drop n t
def zr:Option V -> Option ae -> Prop
 |some v,some u=> RelV v u
 |none,none=> True
 |_,_=> False
def KV{κ:Type}:List (κ×V) -> List (κ×ae) -> Prop:=ir λ(p:κ×V) (q:κ×ae)=> p.1=q.1/\RelV p.2 q.2
noncomputable def kV:Key -> V
 |.inl i=>.int i
 |.inr x=>.str x
inductive HO where
 /-- a list -/
 |lst (xs:List V)
 /-- a tuple (never changes) -/
 |tup (xs:List V)
 /-- a dict whose keys are ints and texts;one whose keys are tuples of ints and texts (the empty one is both) -/
 |dK (kvs:List (Key×V))|dT (kvs:List (List Key×V))
 /-- one whose keys are plain tuples -/
 |dD (kvs:List (ac×V))
 /-- a set of ints:its members,its size -/
 |set (S:Int -> Bool) (n:Nat)
 /-- an instance of the class at C,its dict at dx,its attributes -/
 |ins (C dx:Addr) (fs:List (Str×V))
 /-- the dict of the instance at x -/
 |own (x:Addr)
 /-- the dict of an exception -/
 |xd (fs:List (Str×V))
 /-- a bound method,f of x -/
 |met (f x:Addr)
 /-- a range object lo,lo+1,.. below hi -/
 |rng (lo hi:Int)
 /-- a thing that is known to the object (the script;a dict while a loop walks it):read,never written while it is so -/
 |frz (o:Obj) (u:HO)
 /-- a code object's table -/
 |tbl (ps:Array ae)
 /-- an exception of the class at C,its attributes -/
 |exn (C:Addr) (fs:List (Str×V))
 /-- an exception that was raised:its class,its attributes -/
 |exx (C:Addr) (fs:List (Str×V))
 /-- any other thing,by what is true of its one object (a def of one's own:SetO a S n:=HO.ext λh=>..) -/
 |ext (φ:Heap -> Prop)
abbrev Hp:=Addr -> Option HO
mutual
inductive KD (H:Hp):V -> ac -> Prop
 |non:KD H .non .none
 |int (i:Int):KD H (.int i) (.int i)
 |str (x:Str):KD H (.str x) (.str x)
 |tup {p:Addr} {xs:List V} {ds:List ac}:H p=some (.tup xs) -> KDs H xs ds -> KD H (.ref p) (.tuple ds)
inductive KDs (H:Hp):List V -> List ac -> Prop
 |nil:KDs H [] []
 |cons {x:V} {xs:List V} {d:ac} {ds:List ac}:KD H x d -> KDs H xs ds -> KDs H (x::xs) (d::ds)
end
mutual
theorem KD.mono{H H':Hp}(ht: ∀b xs,H b=some (.tup xs) -> H' b=some (.tup xs)): ∀{v:V} {d:ac},KD H v d -> KD H' v d
 |_,_,.non=>.non
 |_,_,.int i=>.int i
 |_,_,.str x=>.str x
 |_,_,.tup e r=>.tup (ht _ _ e) (KDs.mono ht r)
theorem KDs.mono{H H':Hp}(ht: ∀b xs,H b=some (.tup xs) -> H' b=some (.tup xs)): ∀{v:List V} {d:List ac},KDs H v d -> KDs H' v d
 |_,_,.nil=>.nil
 |_,_,.cons a r=>.cons (KD.mono ht a) (KDs.mono ht r)
end
noncomputable def upd(H:Hp)(a:Addr)(o:HO):Hp:=λb=> if b=a then some o else H b
theorem aac{H:Hp}{o:HO}:upd H a o a=some o:=by unfold upd;rw [if_pos rfl]
theorem j4{H:Hp}{o:HO}(h:b≠a):upd H a o b=H b:=by unfold upd;rw [if_neg h]
theorem a3j{H:Hp}{o u:HO}(h:H a=some o)(h':H b=some u)(d:o≠u):a≠b:=by
 intro e;subst e;rw [h]at h';exact d (b8 h')
theorem xf{H:Hp}{o:HO}(h:H a=some o)(h':H b=none):a≠b:=by
 intro e;subst e;rw [h]at h';cases h'
def ae1(h:Heap)(a:Addr)(its:Array ae):Prop:= ∃n,h.get? a=some {cls:=.type "tuple",data:=.seq its n}
theorem ae1.tup{its:Array ae}(x:ae1 h a its):IsTup h a its:=let ⟨n,e⟩:=x;⟨_,e,rfl,n,rfl⟩
theorem ae1.new(h:Heap)(its:Array ae):ae1 (h.push {cls:=.type "tuple",data:=.seq its}) h.objs.size its:=⟨_,ay _ rfl⟩
abbrev a63(C:Addr)(dx:Option Addr)(t:Addr):Obj:={cls:=.ref C,dict:=dx,data:=.fields #[.ref t,.none,.none,.none,.bool false,.none]}
abbrev ae9(C:Addr)(dx:Option Addr)(t:Addr)(tb:ae):Obj:={cls:=.ref C,dict:=dx,data:=.fields #[.ref t,tb,.none,.none,.bool false,.none]}
def Emp(h:Heap)(a:Addr):Prop:= ∃o,h.get? a=some o/\o.ExactDict/\o.data=.dict #[] 0
section
variable(P:aL)(w:aO)
def jq(H:Hp)(h:Heap)(a:Addr):HO -> Prop
 |.lst xs=> xs.length <=sizeLine/\ ∃(its:List ae) (n:Nat),ji xs its/\h.get? a=some {cls:=.type "list",data:=.seq its.toArray n}
 |.tup xs=> xs.length <=sizeLine/\ ∃its:List ae,ji xs its/\ae1 h a its.toArray
 |.dK kvs=> (kvs=[] -> Emp h a)/\kvs.length <=sizeLine/\(a==bP)=false/\ ∃vs,KV kvs vs/\h.DictOf (ku P w) a vs
 | .dT kvs=> kvs.length <=sizeLine/\(a==bP)=false/\ ∃xs:List (List Key×Addr×ae),
   ir (λ(p:List Key×V) (q:List Key×Addr×ae)=> p.1=q.1/\H q.2.1=some (.tup (p.1.map kV))/\RelV p.2 q.2.2) kvs xs/\
   ∃o es ep,h.get? a=some o/\o.ExactDict/\o.data=.dict es ep/\es.toList=xs.map (eW (jS (ku P w)))/\(xs.map (·.1)).Nodup
 | .dD kvs=> kvs.length <=sizeLine/\(a==bP)=false/\ ∃xs:List (ac×Addr×ae),
   ir (λ(p:ac×V) (q:ac×Addr×ae)=> p.1=q.1/\(PF.vh p.1=true/\KD H (.ref q.2.1) p.1)/\RelV p.2 q.2.2) kvs xs/\
   ∃o es ep,h.get? a=some o/\o.ExactDict/\(o.data=.dict es ep/\ep=es.size)/\es.toList=xs.map (eW (PF.qx P w))/\(xs.map (·.1)).Nodup
 |.set S n=> h.SetOf (intKind P w) a S n
 | .ins C dx fs=> H dx=some (.own a)/\fs.length <=1000/\dx≠a/\h.get? a=some (jT C dx)/\
   ∃mA,h.Ns1 dx mA/\(∀f,zr (fs.lookup f) (mA f))/\i9 mA (fs.map (·.1))
 | .exn C fs=> fs.length <=1000/\ ∃(t:Addr) (dxo:Option Addr),h.get? a=some (a63 C dxo t)/\((dxo=none/\fs=[])\/ ∃dx,dxo=some dx/\H dx=some (.own a)/\dx≠a/\
   ∃mA,h.Ns1 dx mA/\(∀f,zr (fs.lookup f) (mA f))/\i9 mA (fs.map (·.1)))
 | .exx C fs=> fs.length <=1000/\ ∃(t:Addr) (tb:ae) (dxo:Option Addr),h.get? a=some (ae9 C dxo t tb)/\((dxo=none/\fs=[])\/ ∃dx,dxo=some dx/\H dx=some (.own a)/\dx≠a/\
   ∃mA,h.Ns1 dx mA/\(∀f,zr (fs.lookup f) (mA f))/\i9 mA (fs.map (·.1)))
 |.own _=> ∃o,h.get? a=some o
 |.xd fs=> ∃mA,h.Ns1 a mA/\ ∀f,zr (fs.lookup f) (mA f)
 |.rng lo hi=> ∃t u v,h.get? a=some {cls:=.type "range",data:=.fields #[.int lo t,.int hi u,.int 1 v]}
 |.frz o u=> h.get? a=some o/\jq H h a u
 |.tbl ps=> h.get? a=some {cls:=.none,data:=.fields ps}
 |.met f x=> h.get? a=some (iR (.ref f) (.ref x))
 |.ext φ=> φ h/\(∃o,h.get? a=some o)/\ ∀h1 h2:Heap,φ h1 -> (∀o,h1.get? a=some o -> h2.get? a=some o) -> φ h2
def HOk(H:Hp)(h:Heap):Prop:= ∀a o,H a=some o -> jq P w H h a o
end
section
variable{P:aL}{w:aO}{H H':Hp}{h h':Heap}{a:Addr}{o:HO}
theorem jq.lt(x:jq P w H h a o):a < h.objs.size:=by
 cases o with
 |lst xs=> obtain⟨_,_,_,_,e⟩:=x;exact az e
 |tup xs=> obtain⟨_,_,_,p⟩:=x;exact p.tup.lt
 |dK kvs=> obtain⟨_,_,_,_,_,o,_,_,e,_⟩:=x;exact az e
 |dT kvs=> obtain⟨_,_,_,_,o,_,_,e,_⟩:=x;exact az e
 |dD kvs=> obtain⟨_,_,_,_,o,_,_,e,_⟩:=x;exact az e
 |set S n=> obtain⟨o,_,_,_,e,_⟩:=x;exact az e
 |ins C dx fs=> obtain⟨_,_,_,e,_⟩:=x;exact az e
 |exn C fs=> obtain⟨_,_,_,e,_⟩:=x;exact az e
 |exx C fs=> obtain⟨_,_,_,_,e,_⟩:=x;exact az e
 |own y=> obtain⟨_,e⟩:=x;exact az e
 |xd fs=> obtain⟨_,⟨_,_,_,e,_⟩,_⟩:=x;exact az e
 |rng lo hi=> obtain⟨_,_,_,e⟩:=x;exact az e
 |frz ob u=> obtain⟨e,_⟩:=x;exact az e
 |tbl ps=> exact az (show h.get? a=some _ from x)
 |met f y=> exact az (show h.get? a=some _ from x)
 |ext φ=> obtain⟨_,⟨_,e⟩,_⟩:=x;exact az e
theorem Paired.mapP{α β:Type}{F G:α -> β -> Prop}: ∀{l₁:List α} {l₂:List β},ir F l₁ l₂ -> (∀a b,F a b -> G a b) -> ir G l₁ l₂
 |_,_,.nil,_=>.nil
 |_,_,.cons r t,f=>.cons (f _ _ r) (Paired.mapP t f)
theorem jq.stay(x:jq P w H h a o)(k: ∀b u,(b=a\/H b=some (.own a)) -> h.get? b=some u -> h'.get? b=some u)
  (ho: ∀b,H b=some (.own a) -> H' b=some (.own a)) (ht: ∀b xs,H b=some (.tup xs) -> H' b=some (.tup xs)):jq P w H' h' a o:=by
 induction o with
 |lst xs=> obtain⟨z,its,n,r,e⟩:=x;exact⟨z,its,n,r,k _ _ (.inl rfl) e⟩
 |tup xs=> obtain⟨z,its,r,n,e⟩:=x;exact⟨z,its,r,n,k _ _ (.inl rfl) e⟩
 |dK kvs=> obtain⟨n,z,y,vs,r,ob,es,ep,e,c⟩:=x;exact⟨λm=> let ⟨o,q,r⟩:=n m;⟨o,k _ _ (.inl rfl) q,r⟩,z,y,vs,r,ob,es,ep,k _ _ (.inl rfl) e,c⟩
 |dT kvs=>
  obtain⟨z,y,xs,r,ob,es,ep,e,c⟩:=x
  exact⟨z,y,xs,Paired.mapP r λp q z=> ⟨z.1,ht _ _ z.2.1,z.2.2⟩,ob,es,ep,k _ _ (.inl rfl) e,c⟩
 |dD kvs=>
  obtain⟨z,y,xs,r,ob,es,ep,e,c⟩:=x
  exact⟨z,y,xs,Paired.mapP r λp q z=> ⟨z.1,⟨z.2.1.1,z.2.1.2.mono ht⟩,z.2.2⟩,ob,es,ep,k _ _ (.inl rfl) e,c⟩
 |set S n=> obtain⟨ob,es,ep,t,e,c⟩:=x;exact⟨ob,es,ep,t,k _ _ (.inl rfl) e,c⟩
 |ins C dx fs=>
  obtain⟨d,z,ne,e,mA,⟨od,es,ep,e2,c⟩,r⟩:=x
  exact⟨ho _ d,z,ne,k _ _ (.inl rfl) e,mA,⟨od,es,ep,k _ _ (.inr d) e2,c⟩,r⟩
 |exn C fs=>
  obtain⟨z,t,dxo,e,q⟩:=x
  refine⟨z,t,dxo,k _ _ (.inl rfl) e,?_⟩
  rcases q with q|⟨dx,q,d,ne,mA,⟨od,es,ep,e2,c⟩,r⟩
  ·exact .inl q
  ·exact .inr ⟨dx,q,ho _ d,ne,mA,⟨od,es,ep,k _ _ (.inr d) e2,c⟩,r⟩
 |exx C fs=>
  obtain⟨z,t,tb,dxo,e,q⟩:=x
  refine⟨z,t,tb,dxo,k _ _ (.inl rfl) e,?_⟩
  rcases q with q|⟨dx,q,d,ne,mA,⟨od,es,ep,e2,c⟩,r⟩
  ·exact .inl q
  ·exact .inr ⟨dx,q,ho _ d,ne,mA,⟨od,es,ep,k _ _ (.inr d) e2,c⟩,r⟩
 |own y=> obtain⟨ob,e⟩:=x;exact⟨ob,k _ _ (.inl rfl) e⟩
 |xd fs=> obtain⟨mA,⟨od,es,ep,e,c⟩,r⟩:=x;exact⟨mA,⟨od,es,ep,k _ _ (.inl rfl) e,c⟩,r⟩
 |rng lo hi=> obtain⟨t,u,v,e⟩:=x;exact⟨t,u,v,k _ _ (.inl rfl) e⟩
 |frz ob u ih=> obtain⟨e,q⟩:=x;exact⟨k _ _ (.inl rfl) e,ih q⟩
 |tbl ps=>
  have e:h.get? a=some {cls:=.none,data:=.fields ps}:=x
  show h'.get? a=some {cls:=.none,data:=.fields ps}
  exact k a _ (.inl rfl) e
 |met f y=>
  have e:h.get? a=some (iR (.ref f) (.ref y)):=x
  show h'.get? a=some (iR (.ref f) (.ref y))
  exact k a _ (.inl rfl) e
 |ext φ=> obtain⟨p,⟨o,e⟩,st⟩:=x;exact⟨st _ _ p λo q=> k _ _ (.inl rfl) q,⟨o,k _ _ (.inl rfl) e⟩,st⟩
theorem HOk.lt(x:HOk P w H h)(e:H a=some o):a < h.objs.size:=(x a o e).lt
theorem HOk.fresh(x:HOk P w H h)(e:h.objs.size <=a):H a=none:=by
 cases q:H a with
 |none=> rfl
 |some u=> exact absurd (aP (x.lt q) e) (cD _)
theorem HOk.kept(x:HOk P w H h)(k: ∀b u,h.get? b=some u -> h'.get? b=some u):HOk P w H h':=λa o e=>
 (x a o e).stay (λb u _ q=> k b u q) (λ_ q=> q) λ_ _ q=> q
theorem HOk.laid(x:HOk P w H h)(k: ∀b u,h.get? b=some u -> h'.get? b=some u)(hp:h.objs.size <=a)(new:jq P w (upd H a o) h' a o):HOk P w (upd H a o) h':=λb u e=> by
 have hn:=x.fresh hp
 by_cases hb:b=a
 ·subst hb;rw [aac]at e;cases e;exact new
 ·rw [j4 hb]at e
  exact (x b u e).stay (λc v _ q=> k c v q) (λc q=> by rw [j4 (xf q hn)];exact q) λc xs q=> by rw [j4 (xf q hn)];exact q
end
def Rd(H:Hp)(a:Addr)(u:HO):Prop:=H a=some u\/ ∃o,H a=some (.frz o u)
theorem Rd.ok{H:Hp}{u:HO}(r:Rd H a u)(x:HOk P w H h):jq P w H h a u:=by
 rcases r with r|⟨o,r⟩
 ·exact x a u r
 ·obtain⟨_,q⟩:=x a _ r
  exact q
def Mut:Option HO -> Prop
 |some (.lst _)=> True
 |some (.dK _)=> True
 |some (.dT _)=> True
 |some (.dD _)=> True
 |some (.set _ _)=> True
 |some (.ins _ _ _)=> True
 |some (.ext _)=> True
 |some (.exx _ _)=> True
 |some (.exn _ _)=> True
 |_=> False
section
variable{P:aL}{w:aO}{H:Hp}{h h':Heap}{x e:Addr}{o':HO}
theorem HOk.write(ok:HOk P w H h)(mu:Mut (H x))(he:e=x\/H e=some (.own x))(k: ∀b u,b≠e -> h.get? b=some u -> h'.get? b=some u)(heo: ∃u,h'.get? e=some u)
  (new:jq P w (upd H x o') h' x o'):HOk P w (upd H x o') h':=λb u q=> by
 have nown: ∀c y,H c=some (.own y) -> c≠x:=λc y r z=> by subst z;rw [r]at mu;exact mu
 have ntup: ∀c xs,H c=some (.tup xs) -> c≠x:=λc xs r z=> by subst z;rw [r]at mu;exact mu
 by_cases hb:b=x
 ·subst hb;rw [aac]at q;cases q;exact new
 ·rw [j4 hb]at q
  by_cases hbe:b=e
  ·have q':H b=some (.own x):=by
    rcases he with z|z
    ·exact absurd (hbe.trans z) hb
    ·rw [hbe];exact z
   rw [q]at q';cases q'
   obtain⟨v,hv⟩:=heo
   exact⟨v,by rw [hbe];exact hv⟩
  ·refine (ok b u q).stay (λc v hc r=> k c v ?_ r) (λc r=> by rw [j4 (nown c b r)];exact r) λc xs r=> by rw [j4 (ntup c xs r)];exact r
   rcases hc with rfl|hc
   ·exact hbe
   ·rintro rfl
    rcases he with z|z
    ·exact nown c b hc z
    ·rw [hc]at z;cases z;exact hb rfl
end
structure Un (fs ex:List Addr) (H H':Hp) (h h':Heap):Prop where
 keep: ∀b o,h.get? b=some o -> H b=none -> b∉fs -> b∉ex -> h'.get? b=some o
 slot: ∀b o,h.get? b=some o -> H b=none -> b∈fs -> b∉ex -> ∃sl,h'.get? b=some {o with slots:=sl}
 free: ∀b o,h.get? b=some o -> H b=none -> b∉ex -> H' b=none
 there: ∀b o,h.get? b=some o -> b∉ex -> ∃o',h'.get? b=some o'
 tups: ∀b xs,H b=some (.tup xs) -> H' b=some (.tup xs)
 frzs: ∀b o u,H b=some (.frz o u) -> H' b=some (.frz o u)
 tbls: ∀b ps,H b=some (.tbl ps) -> ∃more,H' b=some (.tbl (ps++more))
section
variable{fs fs' ex ex':List Addr}{H H1 H2:Hp}{h h1 h2 h':Heap}{a x e:Addr}{o:HO}
theorem Un.any(u:Un fs ex H H1 h h1){ob:Obj}(q:h.get? b=some ob)(n:H b=none)(hx:b∉ex): ∃sl,h1.get? b=some {ob with slots:=sl}:=by
 by_cases hb:b∈fs
 ·exact u.slot b ob q n hb hx
 ·exact⟨ob.slots,u.keep b ob q n hb hx⟩
theorem Un.kept(k: ∀b u,h.get? b=some u -> h'.get? b=some u):Un fs ex H H h h':=
 ⟨λb ob q _ _ _=> k b ob q,λb ob q _ _ _=> ⟨ob.slots,k b ob q⟩,λ_ _ _ n _=> n,λb ob q _=> ⟨ob,k b ob q⟩,λ_ _ q=> q,λ_ _ _ q=> q,λ_ ps q=> ⟨#[],by rw [q];simp⟩⟩
theorem Un.refl:Un fs ex H H h h:=Un.kept λ_ _ q=> q
theorem Un.laid(k: ∀b u,h.get? b=some u -> h'.get? b=some u)(hp:h.objs.size <=a)(hn:H a=none):Un fs ex H (upd H a o) h h' where
 keep:=λb u q _ _ _=> k b u q
 slot:=λb u q _ _ _=> ⟨u.slots,k b u q⟩
 free:=λb u q n _=> by rw [j4 (aJ (aP (az q) hp))];exact n
 there:=λb u q _=> ⟨u,k b u q⟩
 tups:=λb xs q=> by rw [j4 (xf q hn)];exact q
 frzs:=λb u xs q=> by rw [j4 (xf q hn)];exact q
 tbls:=λb ps q=> ⟨#[],by rw [j4 (xf q hn),q];simp⟩
theorem Un.write(mu:Mut (H x))(he:e=x\/H e=some (.own x))(k: ∀b u,b≠e -> h.get? b=some u -> h'.get? b=some u)(heo: ∃u,h'.get? e=some u):Un fs ex H (upd H x o) h h':=by
 have hx: ∀b,H b=none -> b≠x:=λb n z=> by subst z;rw [n]at mu;exact mu
 have hb: ∀b,H b=none -> b≠e:=λb n z=> by
  subst z
  rcases he with r|r
  ·exact hx b n r
  ·rw [n]at r;cases r
 have hm: ∀b u,H b=some u -> ¬Mut (some u) -> b≠x:=λb u q nm z=> by subst z;rw [q]at mu;exact nm mu
 refine⟨λb u q n _ _=> k b u (hb b n) q,λb u q n _ _=> ⟨u.slots,k b u (hb b n) q⟩,λb u q n _=> by rw [j4 (hx b n)];exact n,λb u q _=> ?_,
  λb xs q=> by rw [j4 (hm b _ q λz=> z)];exact q,λb u xs q=> by rw [j4 (hm b _ q λz=> z)];exact q,λb ps q=> ⟨#[],by rw [j4 (hm b _ q λz=> z),q];simp⟩⟩
 by_cases hbe:b=e
 ·subst hbe;exact heo
 ·exact⟨u,k b u hbe q⟩
end
noncomputable def trk(h:Heap)(H:Hp):List Addr:=(aW h.objs.size).filter λa=> (H a).isSome
def ad7(h:Heap)(H:Hp):Heap:=PySem.W.hideAll h (trk h H)
theorem aqi(h:Heap)(H:Hp):(ad7 h H).objs.size=h.objs.size:=PySem.W.hideAll_size _ _
theorem au7{H:Hp}{o:Obj}(e:h.get? b=some o)(n:H b=none):(ad7 h H).get? b=some o:=
 PySem.W.hideAll_get _ e λhm=> by
  have q:(H b).isSome=true:=(bq.mp hm).2
  rw [n]at q;simp at q
theorem ayy{H:Hp}{o:Obj}(e:(ad7 h H).get? b=some o):h.get? b=some o/\H b=none:=by
 have e':h.get? b=some o:=PySem.W.of_hideAll (trk h H) e
 refine⟨e',?_⟩
 cases q:H b with
 |none=> rfl
 |some x=>
  have hm:b∈trk h H:=bq.mpr ⟨bA.mpr (az e'),by simp [q]⟩
  have z:(ad7 h H).get? b=none:=PySem.W.hideAll_none (trk h H) hm
  rw [z]at e;cases e
noncomputable def axw(g h:Heap)(L:Addr):List (Addr×Obj):=(aW h.objs.size).filterMap λa=> if a=L\/(g.get? a).isSome=true then none else (h.get? a).map λo=> (a,o)
def jg(g h:Heap)(L d:Addr):List (Addr×Obj):=(axw g h L).filter λp=> decide (p.1≠d)
structure Mod (K:am) (mg:Str -> Option ae) (base:Heap):Prop where
 kin:K.In base
 glob:base.Ns bW mg
 blt: ∃mb,base.Ns builtinsNs mb/\ ∀x:Str,x≠"__name__" -> mb x=bG x
 nolimit:base.NoLimit
structure Cx where
 prog:aL
 w:aO
 K:am
 mg:Str -> Option ae
 base:Heap
 A:aX
 N:List Str
 s₀:ag
 H₀:Hp
 env:Env
 outer:List Env
 stack:List Env
 ex:List Addr
 fn:Str -> Bool
 calm:Bool
 pn:List (Addr×Obj)
 xe:ae -> ag -> Prop
noncomputable def frs(l:List Env):List Addr:=l.filterMap (·.frame)
abbrev Cx.fs(X:Cx):List Addr:=frs X.outer
def Vis(sc:eX)(x:Str):Prop:=sc.names.lookup x=some .local\/sc.names.lookup x=some .cell\/sc.names.lookup x=some .free
def Loc(sc:eX)(x:Str):Prop:=sc.names.lookup x=some .local\/sc.names.lookup x=some .cell
def Look(env:Env)(h:Heap)(m:Str -> Option ae)(x:Str)(u:ae):Prop:=
 (env.kindOf x=some .local/\m x=some u)\/((env.kindOf x=some .cell\/env.kindOf x=some .free)/\ ∃c,env.cells.lookup x=some c/\h.IsCell c (some u))
structure Cx.Ok (X:Cx):Prop where
 mod:Mod X.K X.mg X.base
 kind:X.env.scope.kind=.function
 glob:X.env.globals=bW
 blt:X.env.builtins=builtinsNs
 above:X.s₀.heap.objs.size <=X.env.locals
 inj: ∀x y c,X.env.cells.lookup x=some c -> X.env.cells.lookup y=some c -> x=y
 has: ∀x,(X.env.kindOf x=some .cell\/X.env.kindOf x=some .free) -> ∃c,X.env.cells.lookup x=some c
 cab: ∀x c,X.fn x=true -> X.env.cells.lookup x=some c -> X.s₀.heap.objs.size <=c
 hd:X.calm=true -> X.A.handled=none
 frames:X.A.frames=some X.stack
 stk:X.stack=X.outer\/(X.stack=X.env::X.outer/\X.env.frame=some X.env.locals)
 exf: ∀b∈X.ex,b≠X.env.locals/\ ∀x c,X.env.cells.lookup x=some c -> c≠b
 bs: ∀b o,X.base.get? b=some o -> X.s₀.heap.get? b=some o/\X.H₀ b=none
 bsz:X.base.objs.size <=X.s₀.heap.objs.size
 noex: ∀b o,X.base.get? b=some o -> b∉X.ex
 exfs: ∀b∈X.ex,b∉X.fs
 funs:X.s₀.heap.FunFrames X.base X.outer
 frf: ∀b∈X.fs,X.H₀ b=none
structure Inv (X:Cx) (pins:List (Addr×Obj)) (σ:List (Option V)) (H:Hp) (s:ag):Prop where
 ok:X.Ok
 os:s.os=X.s₀.os
 bare:gn s.gens
 base:Un X.fs X.ex X.H₀ H X.s₀.heap s.heap
 loc: ∃m,s.heap.Ns X.env.locals m/\ ∀(i:Nat) (x:Str) (v:V),X.N[i]?=some x -> σ[i]?=some (some v) -> Vis X.env.scope x -> ∃u,RelV v u/\Look X.env s.heap m x u
 cell: ∀x c,X.env.cells.lookup x=some c -> ∃v,s.heap.IsCell c v
 free:H X.env.locals=none
 freeC: ∀x c,X.env.cells.lookup x=some c -> H c=none
 pin: ∀p∈X.pn++pins,s.heap.get? p.1=some p.2/\H p.1=none/\p.1≠X.env.locals/\p.1∉X.fs/\ ∀v,p.2.data≠ .cell v
 hok:HOk X.prog X.w H s.heap
 len:σ.length=X.N.length
section
variable{X:Cx}{pins:List (Addr×Obj)}{σ:List (Option V)}{H H':Hp}{s:ag}{h':Heap}
theorem Cx.Ok.nofr(ok:X.Ok){o:Obj}(e:X.base.get? b=some o):b∉X.fs:=λhb=> by
 have:=(ok.funs.mem hb).1
 rw [e]at this;cases this
theorem Inv.bs(I:Inv X pins σ H s): ∀b o,X.base.get? b=some o -> s.heap.get? b=some o/\H b=none:=λb o e=>
 ⟨I.base.keep b o (I.ok.bs b o e).1 (I.ok.bs b o e).2 (I.ok.nofr e) (I.ok.noex b o e),I.base.free b o (I.ok.bs b o e).1 (I.ok.bs b o e).2 (I.ok.noex b o e)⟩
theorem Inv.bk(I:Inv X pins σ H s): ∀b o,X.base.get? b=some o -> s.heap.get? b=some o:=λb o e=> (I.bs b o e).1
theorem Inv.mod(I:Inv X pins σ H s):Mod X.K X.mg X.base:=I.ok.mod
theorem Inv.kIn(I:Inv X pins σ H s):X.K.In s.heap:=I.ok.mod.kin.keeps I.bk
theorem Inv.lt(I:Inv X pins σ H s):X.env.locals < s.heap.objs.size:=let ⟨_,hn,_⟩:=I.loc;hn.lt
theorem Inv.sz(I:Inv X pins σ H s):X.s₀.heap.objs.size <=s.heap.objs.size:=br I.ok.above (gY I.lt)
theorem Inv.nofs(I:Inv X pins σ H s)(h:s.heap.objs.size <=a):a∉X.fs:=λhb=> by
 obtain⟨_,o,ho,_⟩:=I.ok.funs.mem hb
 exact absurd (aP (az ho) (br I.sz h)) (cD _)
theorem Inv.cne(I:Inv X pins σ H s): ∀x c,X.env.cells.lookup x=some c -> c≠X.env.locals:=λx c e z=> by
 obtain⟨v,o,ho,hd⟩:=I.cell x c e
 obtain⟨m,⟨o',es,ep,ho',hd',_⟩,_⟩:=I.loc
 rw [z,ho']at ho;cases ho;rw [hd']at hd;cases hd
theorem Inv.funs(I:Inv X pins σ H s):s.heap.FunFrames X.base X.outer:=by
 have all: ∀(l:List Env),(∀b∈frs l,b∈X.fs) -> X.s₀.heap.FunFrames X.base l -> s.heap.FunFrames X.base l:=by
  intro l
  induction l with
  |nil=> intro _ _;trivial
  |cons env r ih=>
   intro hs hl
   obtain⟨hk,⟨L,o,hf,hn,ho,hd⟩,hr⟩:=hl
   have hL:L∈X.fs:=hs L (by unfold frs;rw [ia,hf];exact au)
   obtain⟨sl,e⟩:=I.base.slot L o ho (I.ok.frf L hL) hL λz=> I.ok.exfs L z hL
   exact⟨hk,⟨L,_,hf,hn,e,hd⟩,ih (λb hb=> hs b (by unfold frs;rw [ia,hf];exact aw _ hb)) hr⟩
 exact all X.outer (λ_ hb=> hb) I.ok.funs
theorem Inv.stack(I:Inv X pins σ H s):s.heap.FunFrames X.base X.stack:=by
 rcases I.ok.stk with e|⟨e,hf⟩
 ·rw [e];exact I.funs
 ·rw [e]
  obtain⟨m,hn,_⟩:=I.loc
  refine .cons (by rw [I.ok.kind];decide) hf hn ?_ I.funs
  exact Heap.get?_none_of_le (br I.ok.bsz I.ok.above)
theorem Inv.stkSub(I:Inv X pins σ H s): ∀b∈frs X.stack,b∈X.env.locals::X.fs:=λb hb=> by
 rcases I.ok.stk with e|⟨e,hf⟩
 ·rw [e]at hb;exact aw _ hb
 ·rw [e]at hb
  unfold frs at hb
  rw [ia,hf]at hb
  exact hb
theorem Inv.stkFree(I:Inv X pins σ H s): ∀b∈frs X.stack,H b=none:=λb hb=> by
 rcases aA.mp (I.stkSub b hb) with e|hb
 ·rw [e];exact I.free
 ·obtain⟨_,o,ho,_⟩:=I.ok.funs.mem hb
  exact I.base.free b o ho (I.ok.frf b hb) λz=> I.ok.exfs b z hb
theorem Inv.step{g':Array jA}{d':Drawn}(I:Inv X pins σ H s)(hch: ∀b∈ch,(b∈X.ex\/X.s₀.heap.objs.size <=b)/\b≠X.env.locals/\(∀x c,X.env.cells.lookup x=some c -> c≠b)/\ ∀p∈X.pn++pins,p.1≠b)(keep: ∀b o,b≠X.env.locals -> b∉X.fs -> b∉ch -> s.heap.get? b=some o -> H b=none -> h'.get? b=some o)(slot: ∀b o,b≠X.env.locals -> b∈X.fs -> b∉ch -> s.heap.get? b=some o -> H b=none -> ∃sl,h'.get? b=some {o with slots:=sl})(free: ∀b o,b∉ch -> s.heap.get? b=some o -> H b=none -> H' b=none)(there: ∀b o,b∉ch -> s.heap.get? b=some o -> ∃o',h'.get? b=some o')(tups: ∀b xs,H b=some (.tup xs) -> H' b=some (.tup xs))(frzs: ∀b o u,H b=some (.frz o u) -> H' b=some (.frz o u))(tbls: ∀b ps,H b=some (.tbl ps) -> ∃more,H' b=some (.tbl (ps++more)))(ns: ∀m,s.heap.Ns X.env.locals m -> h'.Ns X.env.locals m)(hok:HOk X.prog X.w H' h')(hg:gn g'):
  Inv X pins σ H' {s with heap:=h',gens:=g',drawn:=d',toks:=t'}:=by
 have neL: ∀b o,X.s₀.heap.get? b=some o -> b≠X.env.locals:=λb o e=> aJ (aP (az e) I.ok.above)
 have neC: ∀b o,X.s₀.heap.get? b=some o -> b∉X.ex -> b∉ch:=λb o e hx hb=> by
  rcases (hch b hb).1 with z|z
  ·exact hx z
  ·exact absurd (aP (az e) z) (cD _)
 have cellK: ∀x c,X.env.cells.lookup x=some c -> ∀v,s.heap.IsCell c v -> h'.IsCell c v:=λx c e v ⟨o,ho,hd⟩=> by
  have nch:c∉ch:=λz=> (hch c z).2.2.1 x c e rfl
  by_cases hc:c∈X.fs
  ·obtain⟨sl,q⟩:=slot c o (I.cne x c e) hc nch ho (I.freeC x c e)
   exact⟨_,q,hd⟩
  ·exact⟨o,keep c o (I.cne x c e) hc nch ho (I.freeC x c e),hd⟩
 refine⟨I.ok,I.os,hg,⟨λb o e n hb hx=> ?_,λb o e n hb hx=> ?_,λb o e n hx=> ?_,λb o e hx=> ?_,λb xs e=> tups b xs (I.base.tups b xs e),λb o xs e=> frzs b o xs (I.base.frzs b o xs e),λb ps e=> ?_⟩,?_,λx c e=> ?_,?_,λx c e=> ?_,λp hp=> ?_,hok,I.len⟩
 ·exact keep b o (neL b o e) hb (neC b o e hx) (I.base.keep b o e n hb hx) (I.base.free b o e n hx)
 ·obtain⟨sl,e1⟩:=I.base.slot b o e n hb hx
  obtain⟨sl',e2⟩:=slot b _ (neL b o e) hb (neC b o e hx) e1 (I.base.free b o e n hx)
  exact⟨sl',e2⟩
 ·obtain⟨o',e1⟩:=I.base.there b o e hx
  exact free b o' (neC b o e hx) e1 (I.base.free b o e n hx)
 ·obtain⟨o',e1⟩:=I.base.there b o e hx
  exact there b o' (neC b o e hx) e1
 ·obtain⟨m1,e1⟩:=I.base.tbls b ps e
  obtain⟨m2,e2⟩:=tbls b _ e1
  exact⟨m1++m2,by rw [e2,Array.append_assoc]⟩
 ·obtain⟨m,hn,hl⟩:=I.loc
  refine⟨m,ns m hn,λi x v e1 e2 e3=> ?_⟩
  obtain⟨u,r,l⟩:=hl i x v e1 e2 e3
  refine⟨u,r,?_⟩
  rcases l with l|⟨k,c,e,z⟩
  ·exact .inl l
  ·exact .inr ⟨k,c,e,cellK x c e _ z⟩
 ·obtain⟨v,z⟩:=I.cell x c e
  exact⟨v,cellK x c e v z⟩
 ·obtain⟨m,⟨o,_,_,ho,_⟩,_⟩:=I.loc
  exact free _ o (λz=> (hch _ z).2.1 rfl) ho I.free
 ·obtain⟨v,o,ho,hd⟩:=I.cell x c e
  exact free c o (λz=> (hch c z).2.2.1 x c e rfl) ho (I.freeC x c e)
 ·obtain⟨e,n,ne,nf,d⟩:=I.pin p hp
  have nch:p.1∉ch:=λz=> (hch p.1 z).2.2.2 p hp rfl
  exact⟨keep p.1 p.2 ne nf nch e n,free p.1 p.2 nch e n,ne,nf,d⟩
theorem Inv.un(I:Inv X pins σ H s)(u:Un X.fs [] H H' s.heap h')(hok:HOk X.prog X.w H' h'):Inv X pins σ H' {s with heap:=h',toks:=t'}:=by
 obtain⟨m,⟨o,es,ep,ho,r⟩,_⟩:=id I.loc
 obtain⟨sl,hL⟩:=u.any ho I.free (by simp)
 exact I.step (g':=s.gens) (d':=s.drawn) (ch:=[]) (λ_ z=> nomatch z) (λb o _ hb _ e n=> u.keep b o e n hb (by simp)) (λb o _ hb _ e n=> u.slot b o e n hb (by simp)) (λb o _ e n=> u.free b o e n (by simp)) (λb o _ e=> u.there b o e (by simp)) u.tups u.frzs u.tbls (λm' hm=> by
  obtain⟨o',es',ep',ho',r'⟩:=hm
  rw [ho]at ho';cases ho'
  exact⟨_,es',ep',hL,r'⟩) hok I.bare
theorem Inv.call{g':Array jA}{d':Drawn}(I:Inv X pins σ H s)(u:Un (frs X.stack) ch H H' s.heap h')(hok:HOk X.prog X.w H' h')(hg:gn g')(hch: ∀b∈ch,(b∈X.ex\/X.s₀.heap.objs.size <=b)/\b≠X.env.locals/\(∀x c,X.env.cells.lookup x=some c -> c≠b)/\ ∀p∈X.pn++pins,p.1≠b):
  Inv X pins σ H' {s with heap:=h',gens:=g',drawn:=d',toks:=t'}:=by
 obtain⟨m,⟨o,es,ep,ho,r⟩,_⟩:=id I.loc
 obtain⟨sl,hL⟩:=u.any ho I.free λz=> (hch _ z).2.1 rfl
 exact I.step (ch:=ch) hch (λb o hL hb hc e n=> u.keep b o e n (λz=> (aA.mp (I.stkSub b z)).elim hL hb) hc) (λb o _ _ hc e n=> u.any e n hc) (λb o hc e n=> u.free b o e n hc) (λb o hc e=> u.there b o e hc) u.tups u.frzs u.tbls (λm' hm=> by
  obtain⟨o',es',ep',ho',r'⟩:=hm
  rw [ho]at ho';cases ho'
  exact⟨_,es',ep',hL,r'⟩) hok hg
theorem Inv.turned{it:Addr}(I:Inv X pins σ H s)(k: ∀b o,b≠it -> s.heap.get? b=some o -> h'.get? b=some o)(hn:H it=none)(hL:it≠X.env.locals)(h1:it∈X.ex\/X.s₀.heap.objs.size <=it)(h2: ∀x c,X.env.cells.lookup x=some c -> c≠it)(h3: ∀p∈X.pn++pins,p.1≠it):Inv X pins σ H {s with heap:=h',toks:=t'}:=by
 have nit: ∀b u,H b=some u -> b≠it:=λb u e z=> by rw [z,hn]at e;cases e
 refine I.step (g':=s.gens) (d':=s.drawn) (ch:=[it]) (λb hb=> ?_) (λb o _ _ hc e _=> k b o (λz=> hc (by simp [z])) e) (λb o _ _ hc e _=> ⟨o.slots,k b o (λz=> hc (by simp [z])) e⟩) (λ_ _ _ _ n=> n)
  (λb o hc e=> ⟨o,k b o (λz=> hc (by simp [z])) e⟩) (λ_ _ e=> e) (λ_ _ _ e=> e) (λb ps e=> ⟨#[],by rw [e];simp⟩) (λm hm=> ?_) (λb u e=> ?_) I.bare
 ·have e:b=it:=by simpa using hb
  subst e
  exact⟨h1,hL,h2,h3⟩
 ·obtain⟨o,es,ep,ho,r⟩:=hm
  exact⟨o,es,ep,k _ o (cF hL) ho,r⟩
 ·refine (I.hok b u e).stay (λc v hc q=> k c v ?_ q) (λ_ q=> q) λ_ _ q=> q
  rcases hc with z|z
  ·rw [z];exact nit b u e
  ·exact nit c _ z
theorem Inv.tok(I:Inv X pins σ H s)(t:Nat):Inv X pins σ H {s with toks:=t}:=I.un (h':=s.heap) (t':=t) Un.refl I.hok
theorem Inv.kept(I:Inv X pins σ H s)(k: ∀b u,s.heap.get? b=some u -> h'.get? b=some u):Inv X pins σ H {s with heap:=h',toks:=t'}:=I.un (Un.kept k) (I.hok.kept k)
theorem Inv.laid{o:HO}(I:Inv X pins σ H s)(k: ∀b u,s.heap.get? b=some u -> h'.get? b=some u)(hp:s.heap.objs.size <=a)(new:jq X.prog X.w (upd H a o) h' a o):
  Inv X pins σ (upd H a o) {s with heap:=h',toks:=t'}:=I.un (Un.laid k hp (I.hok.fresh hp)) (I.hok.laid k hp new)
theorem Inv.write{x e:Addr}{o:HO}(I:Inv X pins σ H s)(mu:Mut (H x))(he:e=x\/H e=some (.own x))(k: ∀b u,b≠e -> s.heap.get? b=some u -> h'.get? b=some u)(heo: ∃u,h'.get? e=some u)(new:jq X.prog X.w (upd H x o) h' x o):Inv X pins σ (upd H x o) {s with heap:=h',toks:=t'}:=I.un (Un.write mu he k heo) (I.hok.write mu he k heo new)
theorem Inv.pins_of{pins':List (Addr×Obj)}(I:Inv X pins σ H s)(h: ∀p∈pins',s.heap.get? p.1=some p.2/\H p.1=none/\p.1≠X.env.locals/\p.1∉X.fs/\ ∀v,p.2.data≠ .cell v):Inv X pins' σ H s:=
 ⟨I.ok,I.os,I.bare,I.base,I.loc,I.cell,I.free,I.freeC,λp hp=> (aR.mp hp).elim (λz=> I.pin p (bX _ z)) (h p),I.hok,I.len⟩
theorem ak2{N:List Str}(hN:N.Nodup){j:Nat}{x:Str}(a:N[i]?=some x)(b:N[j]?=some x):i=j:=by
 obtain⟨h1,e1⟩:=aB.mp a
 obtain⟨h2,e2⟩:=aB.mp b
 exact (List.getElem_inj hN).mp (e1.trans e2.symm)
theorem aeg{x:Str}{v:V}(I:Inv X pins σ H s)(hN:X.N.Nodup)(hi:X.N[i]?=some x)(hx:Loc X.env.scope x)(r:RelV v u)(h: ∀s',Inv X pins (σ.set i (some v)) H s' -> (∃a,bu a s.heap s'.heap/\(a=X.env.locals\/X.env.cells.lookup x=some a)) -> Q () s')(hf:X.fn x=true\/X.env.scope.names.lookup x=some .local:=by first|exact .inl rfl|exact .inr rfl|assumption):wpAny M A (storeName X.env x u) Q E s:=by
 obtain⟨m,hn,hl⟩:=id I.loc
 have hcls:(X.env.scope.kind==.class||(X.env.scope.kind==.module&&X.env.locals !=X.env.globals))=false:=by rw [I.ok.kind];rfl
 have hiσ:i < σ.length:=by rw [I.len];exact (aB.mp hi).1
 have cne:=I.cne
 have tracked: ∀{a:Addr} {h':Heap},(∃o,s.heap.get? a=some o/\H a=none) -> bu a s.heap h' -> HOk X.prog X.w H h':=λ{a h'} ha hs b ob e=> by
  obtain⟨_,_,hfree⟩:=ha
  refine (I.hok b ob e).stay (λc w' hc q=> (hs.2 c ?_).trans q) (λ_ q=> q) λ_ _ q=> q
  rintro rfl
  rcases hc with rfl|hc
  ·rw [hfree]at e;cases e
  ·rw [hfree]at hc;cases hc
 rcases hx with hk|hk
 ·refine wpAny_storeName_local hk hn (λh' hn' hs=> ?_) hcls
  obtain⟨oL,_,_,hoL,_⟩:=id hn
  refine h _ ⟨I.ok,I.os,I.bare,⟨λb o e n hb hx=> ?_,λb o e n hb hx=> ?_,I.base.free,λb o e hx=> ?_,I.base.tups,I.base.frzs,I.base.tbls⟩,⟨_,hn',λj y v' e1 e2 e3=> ?_⟩,λy c e=> ?_,I.free,I.freeC,λp hp=> ?_,tracked ⟨oL,hoL,I.free⟩ hs,by simpa using I.len⟩ ⟨_,hs,.inl rfl⟩
  ·exact (hs.2 b (aJ (aP (az e) I.ok.above))).trans (I.base.keep b o e n hb hx)
  ·obtain⟨sl,e1⟩:=I.base.slot b o e n hb hx
   exact⟨sl,(hs.2 b (aJ (aP (az e) I.ok.above))).trans e1⟩
  ·obtain⟨o',e1⟩:=I.base.there b o e hx
   exact⟨o',(hs.2 b (aJ (aP (az e) I.ok.above))).trans e1⟩
  ·by_cases hj:j=i
   ·subst hj
    rw [hi]at e1;cases e1
    rw [a8 hiσ]at e2
    cases e2
    exact⟨u,r,.inl ⟨hk,by simp⟩⟩
   ·rw [bL (cF hj)]at e2
    obtain⟨u',r',q⟩:=hl j y v' e1 e2 e3
    refine⟨u',r',?_⟩
    rcases q with ⟨k,e⟩|⟨k,c,e,z⟩
    ·refine .inl ⟨k,?_⟩
     have:y≠x:=λe=> hj (ak2 hN e1 (e▸hi))
     simp [this,e]
    ·exact .inr ⟨k,c,e,z.sameBut hs (cne y c e)⟩
  ·obtain⟨w',z⟩:=I.cell y c e
   exact⟨w',z.sameBut hs (cne y c e)⟩
  ·obtain⟨e,n,ne,nf,d⟩:=I.pin p hp
   exact⟨(hs.2 p.1 ne).trans e,n,ne,nf,d⟩
 ·have hfn:X.fn x=true:=by
   rcases hf with z|z
   ·exact z
   ·rw [z]at hk;cases hk
  obtain⟨c,hc⟩:=I.ok.has x (.inl hk)
  obtain⟨w',z⟩:=I.cell x c hc
  refine wpAny_storeName_cell I.ok.kind hk hc z (λh' hc' hs=> ?_)
  obtain⟨oc,hoc,hocd⟩:=id z
  refine h {s with heap:=h'} ⟨I.ok,I.os,I.bare,⟨λb o e n hb hx=> ?_,λb o e n hb hx=> ?_,I.base.free,λb o e hx=> ?_,I.base.tups,I.base.frzs,I.base.tbls⟩,⟨m,hn.sameBut hs (cF (cne x c hc)),λj y v' e1 e2 e3=> ?_⟩,λy c' e=> ?_,I.free,I.freeC,λp hp=> ?_,tracked ⟨oc,hoc,I.freeC x c hc⟩ hs,by simpa using I.len⟩ ⟨c,hs,.inr hc⟩
  ·exact (hs.2 b (aJ (aP (az e) (I.ok.cab x c hfn hc)))).trans (I.base.keep b o e n hb hx)
  ·obtain⟨sl,e1⟩:=I.base.slot b o e n hb hx
   exact⟨sl,(hs.2 b (aJ (aP (az e) (I.ok.cab x c hfn hc)))).trans e1⟩
  ·obtain⟨o',e1⟩:=I.base.there b o e hx
   exact⟨o',(hs.2 b (aJ (aP (az e) (I.ok.cab x c hfn hc)))).trans e1⟩
  ·by_cases hj:j=i
   ·subst hj
    rw [hi]at e1;cases e1
    rw [a8 hiσ]at e2
    cases e2
    exact⟨u,r,.inr ⟨.inl hk,c,hc,hc'⟩⟩
   ·rw [bL (cF hj)]at e2
    obtain⟨u',r',q⟩:=hl j y v' e1 e2 e3
    refine⟨u',r',?_⟩
    rcases q with q|⟨k,c',e,z'⟩
    ·exact .inl q
    ·refine .inr ⟨k,c',e,z'.sameBut hs ?_⟩
     rintro rfl
     exact hj (ak2 hN e1 (I.ok.inj _ _ _ e hc▸hi))
  ·by_cases hcc:c'=c
   ·subst hcc;exact⟨_,hc'⟩
   ·obtain⟨w2,z2⟩:=I.cell y c' e
    exact⟨w2,z2.sameBut hs hcc⟩
  ·obtain⟨e,n,ne,nf,d⟩:=I.pin p hp
   refine⟨(hs.2 p.1 ?_).trans e,n,ne,nf,d⟩
   intro q
   rw [q,hoc]at e
   have q':oc=p.2:=b8 e
   exact d w' (by rw [←q'];exact hocd)
theorem abj{x:Str}{v:V}(I:Inv X pins σ H s)(hN:X.N.Nodup)(hi:X.N[i]?=some x)(hx:Loc X.env.scope x)(r:RelV v u)(h: ∀s',Inv X pins (σ.set i (some v)) H s' -> Q () s')(hf:X.fn x=true\/X.env.scope.names.lookup x=some .local:=by first|exact .inl rfl|exact .inr rfl|assumption):wpAny M A (storeName X.env x u) Q E s:=
 aeg I hN hi hx r (λs' I' _=> h s' I') hf
theorem Inv.call'{s':ag}(I:Inv X pins σ H s)(ho:s'.os=s.os)(u:Un (frs X.stack) ch H H' s.heap s'.heap)(hok:HOk X.prog X.w H' s'.heap)(hg:gn s'.gens)(hch: ∀b∈ch,(b∈X.ex\/X.s₀.heap.objs.size <=b)/\b≠X.env.locals/\(∀x c,X.env.cells.lookup x=some c -> c≠b)/\ ∀p∈X.pn++pins,p.1≠b):Inv X pins σ H' s':=by
 obtain⟨h',g',d',t',o'⟩:=s'
 have e:o'=s.os:=ho
 subst e
 exact I.call (g':=g') (t':=t') (d':=d') u hok hg hch
end
abbrev XK:=ae -> Option Addr -> Hp -> Prop
abbrev St:=List (Option V)
abbrev SK:=St -> XK
abbrev VK:=V -> Hp -> Prop
abbrev TE:=St -> Hp -> VK -> Prop
abbrev TT:=St -> Hp -> (Bool -> Hp -> Prop) -> Prop
abbrev TA:=St -> Hp -> (List V -> Hp -> Prop) -> Prop
structure Ends where
 nx:St -> Hp -> Prop
 rt:VK
 bk:St -> Hp -> Prop:=λ_ _=> False
 ct:St -> Hp -> Prop:=λ_ _=> False
abbrev TS:=Ends -> St -> Hp -> Prop
def EP(X:Cx)(pins:List (Addr×Obj))(σ:St)(Q:VK)(u:ae)(s':ag):Prop:= ∃v H',Inv X pins σ H' s'/\RelV v u/\Q v H'
def TP(X:Cx)(pins:List (Addr×Obj))(σ:St)(Q:Bool -> Hp -> Prop)(b:Bool)(s':ag):Prop:= ∃H',Inv X pins σ H' s'/\Q b H'
def AP(X:Cx)(pins:List (Addr×Obj))(σ:St)(Q:List V -> Hp -> Prop)(us:List ae)(s':ag):Prop:= ∃vs H',Inv X pins σ H' s'/\ji vs us/\Q vs H'
def SP(X:Cx)(pins:List (Addr×Obj))(D:Ends)(f:Flow)(s':ag):Prop:=
 match f with
 |.next=> ∃σ' H',Inv X pins σ' H' s'/\D.nx σ' H'
 |.brk=> ∃σ' H',Inv X pins σ' H' s'/\D.bk σ' H'
 |.cont=> ∃σ' H',Inv X pins σ' H' s'/\D.ct σ' H'
 |.ret u=> ∃v σ' H',Inv X pins σ' H' s'/\RelV v u/\D.rt v H'
structure PE (X:Cx) (e:Expr) (t:TE):Prop where
 run: ∀(pins:List (Addr×Obj)) (s:ag) (σ:St) (H:Hp) (Q:VK),Inv X pins σ H s -> t σ H Q -> wpAny (model X.prog X.w) X.A (eval e X.env) (EP X pins σ Q) X.xe s
instance {X:Cx} {e:Expr} {t:TE}:CoeFun (PE X e t) λ_=> ∀(pins:List (Addr×Obj)) (s:ag) (σ:St) (H:Hp) (Q:VK),Inv X pins σ H s -> t σ H Q -> wpAny (model X.prog X.w) X.A (eval e X.env) (EP X pins σ Q) X.xe s:=⟨PE.run⟩
structure PT (X:Cx) (e:Expr) (t:TT):Prop where
 run: ∀(pins:List (Addr×Obj)) (s:ag) (σ:St) (H:Hp) (Q:Bool -> Hp -> Prop),Inv X pins σ H s -> t σ H Q -> wpAny (model X.prog X.w) X.A (isTrue e X.env (eval e X.env)) (TP X pins σ Q) X.xe s
instance {X:Cx} {e:Expr} {t:TT}:CoeFun (PT X e t) λ_=> ∀(pins:List (Addr×Obj)) (s:ag) (σ:St) (H:Hp) (Q:Bool -> Hp -> Prop),Inv X pins σ H s -> t σ H Q -> wpAny (model X.prog X.w) X.A (isTrue e X.env (eval e X.env)) (TP X pins σ Q) X.xe s:=⟨PT.run⟩
structure PW (X:Cx) (e:Expr) (t:TT):Prop where
 run: ∀(whole:Sem ae) (pins:List (Addr×Obj)) (s:ag) (σ:St) (H:Hp) (Q:Bool -> Hp -> Prop),Inv X pins σ H s -> t σ H Q -> wpAny (model X.prog X.w) X.A (isTrue e X.env whole) (TP X pins σ Q) X.xe s
instance {X:Cx} {e:Expr} {t:TT}:CoeFun (PW X e t) λ_=> ∀(whole:Sem ae) (pins:List (Addr×Obj)) (s:ag) (σ:St) (H:Hp) (Q:Bool -> Hp -> Prop),Inv X pins σ H s -> t σ H Q -> wpAny (model X.prog X.w) X.A (isTrue e X.env whole) (TP X pins σ Q) X.xe s:=⟨PW.run⟩
theorem PW.pt{X:Cx}{t:TT}(h:PW X e t):PT X e t:=⟨h _⟩
structure PA (X:Cx) (es:List Expr) (t:TA):Prop where
 run: ∀(pos:Pos) (pins:List (Addr×Obj)) (s:ag) (σ:St) (H:Hp) (Q:List V -> Hp -> Prop),Inv X pins σ H s -> t σ H Q -> wpAny (model X.prog X.w) X.A (spliced (backTo pos (starEach es X.env))) (AP X pins σ Q) X.xe s
instance {X:Cx} {es:List Expr} {t:TA}:CoeFun (PA X es t) λ_=> ∀(pos:Pos) (pins:List (Addr×Obj)) (s:ag) (σ:St) (H:Hp) (Q:List V -> Hp -> Prop),Inv X pins σ H s -> t σ H Q -> wpAny (model X.prog X.w) X.A (spliced (backTo pos (starEach es X.env))) (AP X pins σ Q) X.xe s:=⟨PA.run⟩
structure PS (X:Cx) (st:Stmt) (t:TS):Prop where
 run: ∀(pins:List (Addr×Obj)) (s:ag) (σ:St) (H:Hp) (D:Ends),Inv X pins σ H s -> t D σ H -> wpAny (model X.prog X.w) X.A (exec st X.env) (SP X pins D) X.xe s
instance {X:Cx} {st:Stmt} {t:TS}:CoeFun (PS X st t) λ_=> ∀(pins:List (Addr×Obj)) (s:ag) (σ:St) (H:Hp) (D:Ends),Inv X pins σ H s -> t D σ H -> wpAny (model X.prog X.w) X.A (exec st X.env) (SP X pins D) X.xe s:=⟨PS.run⟩
structure PSs (X:Cx) (st:List Stmt) (t:TS):Prop where
 run: ∀(pins:List (Addr×Obj)) (s:ag) (σ:St) (H:Hp) (D:Ends),Inv X pins σ H s -> t D σ H -> wpAny (model X.prog X.w) X.A (execs st X.env) (SP X pins D) X.xe s
instance {X:Cx} {st:List Stmt} {t:TS}:CoeFun (PSs X st t) λ_=> ∀(pins:List (Addr×Obj)) (s:ag) (σ:St) (H:Hp) (D:Ends),Inv X pins σ H s -> t D σ H -> wpAny (model X.prog X.w) X.A (execs st X.env) (SP X pins D) X.xe s:=⟨PSs.run⟩
theorem thn{α:Type}{t:Sem α}{Q Q':α -> ag -> Prop}(h:wpAny M A t Q E s)(hQ: ∀a s,Q a s -> Q' a s):wpAny M A t Q' E s:=bQ h hQ λ_ _ x=> x
section
variable{X:Cx}
noncomputable def au1(i:Nat):TE:=λσ H Q=> ∃v,σ[i]?=some (some v)/\Q v H
noncomputable def tC(v:V):TE:=λ_ H Q=> Q v H
theorem ar9{x:Str}(hN:X.N[i]?=some x)(hv:Vis X.env.scope x)(hd:(x==("__debug__":Str))=false:=by decide)(hcd:(x==("__classdict__":Str))=false:=by decide):PE X (.Name x pos) (au1 i):=by
 (first|refine⟨?_⟩|skip);intro pins s σ H Q I h
 obtain⟨v,e,h⟩:=h
 obtain⟨m,hn,hl⟩:=I.loc
 obtain⟨u,r,l⟩:=hl i x v hN e hv
 have fin:EP X pins σ Q u s:=⟨v,H,I,r,h⟩
 rcases l with ⟨hk,hm⟩|⟨hk,c,hc,hcell⟩
 ·exact wpAny_Name (wpAny_loadName_local I.ok.kind hk hn hm fin) hd
 ·rcases hk with hk|hk
  ·exact wpAny_Name (wpAny_loadName_cell I.ok.kind hk hc hcell fin) hd
  ·exact wpAny_Name (wpAny_loadName_free I.ok.kind hk hc hcell fin hcd) hd
theorem apx{i j pos}:PE X (.Constant (.int i) j pos) (tC (.int i)):=.mk <|λ_ _ _ H _ I h=> wpAny_Constant_int ⟨.int i,H,I.tok _,⟨_,rfl⟩,h⟩
theorem aw1{b j pos}:PE X (.Constant (.bool b) j pos) (tC (.bl b)):=.mk <|λ_ _ _ H _ I h=> Constant_bool ⟨.bl b,H,I,rfl,h⟩
theorem apf{j pos}:PE X (.Constant .none j pos) (tC .non):=.mk <|λ_ _ _ H _ I h=> Constant_none ⟨.non,H,I,rfl,h⟩
theorem as9{x j pos}:PE X (.Constant (.str x) j pos) (tC (.str x)):=.mk <|λ_ _ _ H _ I h=> Calls.Constant_str ⟨.str x,H,I.tok _,⟨_,rfl⟩,h⟩
def Gl(X:Cx)(x:Str):Prop:=X.env.kindOf x=some .globalImplicit
theorem am8{σ:St}{H:Hp}{x:Str}{Q:ae -> ag -> Prop}(I:Inv X pins σ H s)(hg:Gl X x)(hm:X.mg x=some u)(h:Q u s)(hd:(x==("__debug__":Str))=false:=by decide):wpAny (model X.prog X.w) X.A (eval (.Name x pos) X.env) Q E s:=
 iG I.ok.kind hg (Calls.loadGlobal_global (by rw [I.ok.glob];exact I.mod.glob.keeps I.bk) hm h) hd
theorem acg{σ:St}{H:Hp}{x:Str}{Q:ae -> ag -> Prop}(I:Inv X pins σ H s)(hg:Gl X x)(hm:X.mg x=none)(hv:bG x=some u)(h:Q u s)(hn:x≠"__name__":=by decide)(hd:(x==("__debug__":Str))=false:=by decide):wpAny (model X.prog X.w) X.A (eval (.Name x pos) X.env) Q E s:=by
 obtain⟨mb,h1,h2⟩:=I.mod.blt
 exact iG I.ok.kind hg (Calls.loadGlobal_builtin (by rw [I.ok.glob];exact I.mod.glob.keeps I.bk) hm (by rw [I.ok.blt];exact h1.keeps I.bk) ((h2 x hn).trans hv) h) hd
theorem ay6{x:Str}{v:V}(hg:Gl X x)(hm:X.mg x=some u)(r:RelV v u)(hd:(x==("__debug__":Str))=false:=by decide):PE X (.Name x pos) (tC v):=
 .mk <|λ_ _ _ H _ I h=> am8 I hg hm ⟨v,H,I,r,h⟩ hd
theorem ayu{x:Str}{v:V}(hg:Gl X x)(hm:X.mg x=none)(hv:bG x=some u)(r:RelV v u)(hn:x≠"__name__":=by decide)(hd:(x==("__debug__":Str))=false:=by decide):PE X (.Name x pos) (tC v):=
 .mk <|λ_ _ _ H _ I h=> acg I hg hm hv ⟨v,H,I,r,h⟩ hn hd
variable{a b:Expr}{ta tb:TE}{pos:Pos}
variable{tA tB':TT}{jg:List Expr}
noncomputable def a26(t u:TT):TT:=λσ H Q=> t σ H λc H1=> if c=true then u σ H1 Q else Q false H1
noncomputable def tOr(t u:TT):TT:=λσ H Q=> t σ H λc H1=> if c=true then Q true H1 else u σ H1 Q
noncomputable def a0t(t:TT):TT:=λσ H Q=> t σ H λc H1=> Q (!c) H1
theorem axi(ha:PT X a tA):PW X (.BoolOp .And [a] pos) tA:=by
 (first|refine⟨?_⟩|skip);intro wh pins s σ H Q I h
 refine isTrue_and (thn (ha pins s σ H Q I h) λc s1 e=> ?_)
 cases c with
 |true=> exact isTrue_and_nil e
 |false=> exact e
theorem a06(ha:PT X a tA):PW X (.BoolOp .Or [a] pos) tA:=by
 (first|refine⟨?_⟩|skip);intro wh pins s σ H Q I h
 refine isTrue_or (thn (ha pins s σ H Q I h) λc s1 e=> ?_)
 cases c with
 |false=> exact isTrue_or_nil e
 |true=> exact e
theorem a2p(ha:PT X a tA)(hb:PW X (.BoolOp .And (b::jg) pos) tB'):PW X (.BoolOp .And (a::b::jg) pos) (a26 tA tB'):=by
 (first|refine⟨?_⟩|skip);intro wh pins s σ H Q I h
 refine isTrue_and (thn (ha pins s σ H _ I h) λc s1 ⟨H1,I1,q1⟩=> ?_)
 cases c with
 |true=> exact hb wh pins s1 σ H1 Q I1 q1
 |false=> exact⟨H1,I1,q1⟩
theorem a3v(ha:PT X a tA)(hb:PW X (.BoolOp .Or (b::jg) pos) tB'):PW X (.BoolOp .Or (a::b::jg) pos) (tOr tA tB'):=by
 (first|refine⟨?_⟩|skip);intro wh pins s σ H Q I h
 refine isTrue_or (thn (ha pins s σ H _ I h) λc s1 ⟨H1,I1,q1⟩=> ?_)
 cases c with
 |true=> exact⟨H1,I1,q1⟩
 |false=> exact hb wh pins s1 σ H1 Q I1 q1
theorem a0q(ha:PT X a tA):PT X (.UnaryOp .Not a pos) (a0t tA):=by
 (first|refine⟨?_⟩|skip);intro pins s σ H Q I h
 exact isTrue_not (ha pins s σ H (λc H1=> Q (!c) H1) I h)
noncomputable def a3p(ta tb:TE):TE:=λσ H Q=> ta σ H λx H1=> ∃c,x=.bl c/\if c=true then tb σ H1 Q else Q (.bl false) H1
noncomputable def a5l(ta tb:TE):TE:=λσ H Q=> ta σ H λx H1=> ∃c,x=.bl c/\if c=true then Q (.bl true) H1 else tb σ H1 Q
noncomputable def a3y(ta:TE):TE:=λσ H Q=> ta σ H λx H1=> ∃c,x=.bl c/\Q (.bl (!c)) H1
theorem a2j{op}{t:TE}(h:PE X a t):PE X (.BoolOp op [a] pos) t:=.mk <|λpins s σ H Q I hw=> BoolOp_one (h pins s σ H Q I hw)
theorem a2h(ha:PE X a ta)(hb:PE X (.BoolOp .And (b::jg) pos) tb):PE X (.BoolOp .And (a::b::jg) pos) (a3p ta tb):=by
 (first|refine⟨?_⟩|skip);intro pins s σ H Q I h
 refine BoolOp_and (thn (ha pins s σ H _ I h) λv s1 ⟨x,H1,I1,r1,q1⟩=> ?_)
 obtain⟨c,rfl,q1⟩:=q1
 cases r1
 refine cU ?_
 cases c with
 |true=> exact hb pins s1 σ H1 Q I1 q1
 |false=> exact⟨.bl false,H1,I1,rfl,q1⟩
theorem a34(ha:PE X a ta)(hb:PE X (.BoolOp .Or (b::jg) pos) tb):PE X (.BoolOp .Or (a::b::jg) pos) (a5l ta tb):=by
 (first|refine⟨?_⟩|skip);intro pins s σ H Q I h
 refine BoolOp_or (thn (ha pins s σ H _ I h) λv s1 ⟨x,H1,I1,r1,q1⟩=> ?_)
 obtain⟨c,rfl,q1⟩:=q1
 cases r1
 refine cU ?_
 cases c with
 |false=> exact hb pins s1 σ H1 Q I1 q1
 |true=> exact⟨.bl true,H1,I1,rfl,q1⟩
theorem a19(ha:PE X a ta):PE X (.UnaryOp .Not a pos) (a3y ta):=by
 (first|refine⟨?_⟩|skip);intro pins s σ H Q I h
 refine UnaryOp_ (thn (ha pins s σ H _ I h) λv s1 ⟨x,H1,I1,r1,q1⟩=> ?_)
 obtain⟨c,rfl,q1⟩:=q1
 cases r1
 exact not_of (cU ⟨.bl (!c),H1,I1,rfl,q1⟩)
noncomputable def tIf(t:TT)(ta tb:TE):TE:=λσ H Q=> t σ H λc H1=> if c=true then ta σ H1 Q else tb σ H1 Q
theorem ave{c:Expr}(hc:PT X c tA)(ha:PE X a ta)(hb:PE X b tb):PE X (.IfExp c a b pos) (tIf tA ta tb):=by
 (first|refine⟨?_⟩|skip);intro pins s σ H Q I h
 refine wpAny_IfExp (thn (hc pins s σ H _ I h) λd s1 ⟨H1,I1,q1⟩=> ?_)
 cases d with
 |true=> exact ha pins s1 σ H1 Q I1 q1
 |false=> exact hb pins s1 σ H1 Q I1 q1
end
def SqL(K:am)(H:Hp)(a:Addr)(xs:List V):Prop:=
 Rd H a (.lst xs)\/
  ∃(o:Obj) (its:Array ae) (n:Nat),K.lookup a=some o/\o.cls=.type "list"/\o.dict=none/\o.data=.seq its n/\its.size <=sizeLine/\ji xs its.toList
def SqT(K:am)(H:Hp)(a:Addr)(xs:List V):Prop:=
 Rd H a (.tup xs)\/
  ∃(o:Obj) (its:Array ae) (n:Nat),K.lookup a=some o/\o.cls=.type "tuple"/\o.data=.seq its n/\its.size <=sizeLine/\ji xs its.toList
noncomputable def a68:ae -> Option V
 |.none=> some .non
 |.bool b=> some (.bl b)
 |.int i _=> some (.int i)
 |.str x _=> some (.str x)
 |.bytes b _=> some (.byt b)
 |.float b _=> some (.flt b)
 |.ref a=> some (.ref a)
 |.type n=> some (.ty n)
 |_=> none
theorem RelV.abs{x:V}(r:RelV x u):a68 u=some x:=by
 cases x with
 |non=> cases r;rfl
 |bl _=> cases r;rfl
 |int _=> obtain⟨t,rfl⟩:=r;rfl
 |str _=> obtain⟨t,rfl⟩:=r;rfl
 |byt _=> obtain⟨t,rfl⟩:=r;rfl
 |flt _=> obtain⟨t,rfl⟩:=r;rfl
 |ref _=> cases r;rfl
 |ty _=> cases r;rfl
theorem RelV.inj{x y:V}(r:RelV x u)(q:RelV y u):x=y:=b8 (r.abs.symm.trans q.abs)
theorem ji.inj: ∀{xs ys:List V} {us:List ae},ji xs us -> ji ys us -> xs=ys
 |_,_,_,.nil,.nil=> rfl
 |_,_,_,.cons r t,.cons r' t'=> by rw [r.inj r',ji.inj t t']
section
variable{X:Cx}{pins:List (Addr×Obj)}{σ:St}{H:Hp}{s:ag}{a:Addr}{xs ys:List V}
theorem SqL.of(h:H a=some (.lst xs)):SqL K H a xs:=.inl (.inl h)
theorem SqT.of(h:H a=some (.tup xs)):SqT K H a xs:=.inl (.inl h)
theorem Inv.list(I:Inv X pins σ H s)(h:SqL X.K H a xs): ∃its:List ae,ji xs its/\PlainL s.heap a its.toArray/\xs.length <=sizeLine:=by
 rcases h with h|⟨o,its,n,hk,hc,hd,hs,hz,r⟩
 ·obtain⟨z,its,n,r,e⟩:=h.ok I.hok
  exact⟨its,r,⟨_,n,e,rfl,rfl,rfl⟩,z⟩
 ·refine⟨its.toList,r,⟨o,n,I.kIn a o hk,hc,hd,by simpa using hs⟩,?_⟩
  have e:=r.length
  simp only [ar]at e
  lia
theorem Inv.tuple(I:Inv X pins σ H s)(h:SqT X.K H a xs): ∃its:List ae,ji xs its/\IsTup s.heap a its.toArray/\xs.length <=sizeLine:=by
 rcases h with h|⟨o,its,n,hk,hc,hs,hz,r⟩
 ·obtain⟨z,its,r,p⟩:=h.ok I.hok
  exact⟨its,r,p.tup,z⟩
 ·refine⟨its.toList,r,⟨o,I.kIn a o hk,hc,n,by simpa using hs⟩,?_⟩
  have e:=r.length
  simp only [ar]at e
  lia
theorem Inv.list_inj(I:Inv X pins σ H s)(h:SqL X.K H a xs)(h':SqL X.K H a ys):xs=ys:=by
 obtain⟨its,r,⟨o,n,e,_,_,d⟩,_⟩:=I.list h
 obtain⟨its',r',⟨o',n',e',_,_,d'⟩,_⟩:=I.list h'
 rw [e]at e';cases e'
 rw [d]at d'
 injection d' with d1 _
 have:its=its':=by simpa using congrArg Array.toList d1
 subst this
 exact r.inj r'
theorem Inv.tuple_inj(I:Inv X pins σ H s)(h:SqT X.K H a xs)(h':SqT X.K H a ys):xs=ys:=by
 obtain⟨its,r,⟨o,e,_,n,d⟩,_⟩:=I.tuple h
 obtain⟨its',r',⟨o',e',_,n',d'⟩,_⟩:=I.tuple h'
 rw [e]at e';cases e'
 rw [d]at d'
 injection d' with d1 _
 have:its=its':=by simpa using congrArg Array.toList d1
 subst this
 exact r.inj r'
end
section
variable{X:Cx}{st:Stmt}{jg:List Stmt}{t u:TS}{e:Expr}{te:TE}{pos:Pos}
noncomputable def a3r:TS:=λD σ H=> D.nx σ H
noncomputable def a1b(t u:TS):TS:=λD σ H=> t {D with nx:=u D} σ H
theorem azm:PSs X [] a3r:=.mk <|λ_ _ σ H _ I h=> fV ⟨σ,H,I,h⟩
theorem at7(h1:PS X st t)(h2:PSs X jg u):PSs X (st::jg) (a1b t u):=by
 (first|refine⟨?_⟩|skip);intro pins s σ H D I h
 refine wpAny_execs_cons (thn (h1 pins s σ H {D with nx:=u D} I h) λf s1 q=> ?_)
 cases f with
 |next=>
  obtain⟨σ',H',I',q⟩:=q
  exact h2 pins s1 σ' H' D I' q
 |ret v=> exact q
 |brk=> exact q
 |cont=> exact q
theorem ax2(h1:PS X st t):PSs X [st] t:=by
 (first|refine⟨?_⟩|skip);intro pins s σ H D I h
 refine wpAny_execs_cons (thn (h1 pins s σ H D I h) λf s1 q=> ?_)
 cases f with
 |next=> exact fV q
 |ret v=> exact q
 |brk=> exact q
 |cont=> exact q
theorem Inv.quiet{σ:St}{H:Hp}(I:Inv X pins σ H s):interactive X.env=false:=by simp [interactive,I.ok.kind]
noncomputable def a4j(te:TE):TS:=λD σ H=> te σ H λ_ H1=> D.nx σ H1
theorem axv(he:PE X e te)(hs:f8 e none pos.line X.env=pure false:=by rfl):PS X (.Expr e pos) (a4j te):=by
 (first|refine⟨?_⟩|skip);intro pins s σ H D I h
 exact wpAny_Expr_any (thn (he pins s σ H _ I h) λv s1 ⟨x,H1,I1,r1,q1⟩=> ⟨σ,H1,I1,q1⟩) I.quiet hs
noncomputable def a5u(te:TE):TS:=λD σ H=> te σ H D.rt
theorem a0o(he:PE X e te):PS X (.Return (some e) pos) (a5u te):=by
 (first|refine⟨?_⟩|skip);intro pins s σ H D I h
 exact wpAny_Return_some (thn (he pins s σ H _ I h) λv s1 ⟨x,H1,I1,r1,q1⟩=> ⟨x,σ,H1,I1,r1,q1⟩)
noncomputable def a5o(c:TT)(t u:TS):TS:=λD σ H=> c σ H λb H1=> if b=true then t D σ H1 else u D σ H1
theorem a47{c:Expr}{a b:List Stmt}{tc:TT}(hc:PT X c tc)(ha:PSs X a t)(hb:PSs X b u):PS X (.If c a b pos) (a5o tc t u):=by
 (first|refine⟨?_⟩|skip);intro pins s σ H D I h
 refine wpAny_If (thn (hc pins s σ H _ I h) λd s1 ⟨H1,I1,q1⟩=> ?_)
 cases d with
 |true=> exact ha pins s1 σ H1 D I1 q1
 |false=> exact hb pins s1 σ H1 D I1 q1
noncomputable def a1v:TS:=λ_ _ _=> False
theorem atm:PS X st a1v:=.mk <|λ_ _ _ _ _ _ h=> h.elim
end
abbrev TG:=V -> St -> Hp -> (St -> Hp -> Prop) -> Prop
abbrev TGs:=List V -> St -> Hp -> (St -> Hp -> Prop) -> Prop
def PG(X:Cx)(target:Expr)(t:TG):Prop:=
 ∀(pins:List (Addr×Obj)) (s:ag) (σ:St) (H:Hp) (v:V) (u:ae) (Q:St -> Hp -> Prop),Inv X pins σ H s -> RelV v u -> t v σ H Q ->
  wpAny (model X.prog X.w) X.A (assign target X.env u) (λ_ s'=> ∃σ' H',Inv X pins σ' H' s'/\Q σ' H') X.xe s
def PGs(X:Cx)(ts:List Expr)(t:TGs):Prop:=
 ∀(pins:List (Addr×Obj)) (s:ag) (σ:St) (H:Hp) (vs:List V) (us:List ae) (Q:St -> Hp -> Prop),Inv X pins σ H s -> ji vs us -> t vs σ H Q ->
  wpAny (model X.prog X.w) X.A (assignInOrder ((bE ts X.env).map (·.2)) us) (λ_ s'=> ∃σ' H',Inv X pins σ' H' s'/\Q σ' H') X.xe s
abbrev ao1:=V -> V -> V -> Hp -> (Hp -> Prop) -> Prop
def afe(X:Cx)(t:ao1):Prop:=
 ∀(pins:List (Addr×Obj)) (s:ag) (σ:St) (H:Hp) (o i v:V) (ov iv u:ae) (Q:Hp -> Prop),Inv X pins σ H s -> RelV o ov -> RelV i iv -> RelV v u -> t o i v H Q ->
  wpAny (model X.prog X.w) X.A (setItem ov iv u) (λ_ s'=> ∃H',Inv X pins σ H' s'/\Q H') X.xe s
section
variable{X:Cx}{pos:Pos}
noncomputable def aj3(i:Nat):TG:=λv σ H Q=> Q (σ.set i (some v)) H
theorem axc{x:Str}(hN:X.N.Nodup)(hi:X.N[i]?=some x)(hx:Loc X.env.scope x)(hf:X.fn x=true\/X.env.scope.names.lookup x=some .local:=by first|exact .inl rfl|exact .inr rfl|assumption):PG X (.Name x pos) (aj3 i):=by
 (first|refine⟨?_⟩|skip);intro pins s σ H v u Q I r h
 exact iS (abj I hN hi hx r (λs' I'=> ⟨_,H,I',h⟩) hf)
noncomputable def ap7:TGs:=λvs σ H Q=> vs=[]/\Q σ H
noncomputable def ada(t:TG)(u:TGs):TGs:=λvs σ H Q=> ∃v r,vs=v::r/\t v σ H λσ' H'=> u r σ' H' Q
theorem amd:PGs X [] ap7:=by
 (first|refine⟨?_⟩|skip);intro pins s σ H vs us Q I r h
 obtain⟨e,h⟩:=h
 subst e
 cases r
 exact assignInOrder_nil ⟨σ,H,I,h⟩
theorem aba{es:List Expr}{t:TG}{u:TGs}(h1:PG X e t)(h2:PGs X es u)(hs:(bE (e::es) X.env).map (·.2)=assign e X.env::(bE es X.env).map (·.2):=by rfl):PGs X (e::es) (ada t u):=by
 (first|refine⟨?_⟩|skip);intro pins s σ H vs us Q I r h
 obtain⟨v,vr,e1,h⟩:=h
 subst e1
 cases r with
 |cons r rr=>
  rw [hs]
  refine assignInOrder_cons (thn (h1 pins s σ H _ _ _ I r h) λ_ s1 ⟨σ1,H1,I1,q1⟩=> ?_)
  exact h2 pins s1 σ1 H1 _ _ Q I1 rr q1
noncomputable def a5y(K:am)(n:Nat)(t:TGs):TG:=λv σ H Q=> ∃a xs,v=.ref a/\SqT K H a xs/\xs.length=n/\t xs σ H Q
theorem a0z{es:List Expr}{k:Nat}{t:TGs}{n:Nat}(hc:X.calm=true)(h:PGs X es t)
  (hn:(bE es X.env).length=n:=by rfl) (hst:(bE es X.env).findIdx? (·.1)=none:=by rfl):PG X (.Tuple es k pos) (a5y X.K n t):=by
 (first|refine⟨?_⟩|skip);intro pins s σ H v u Q I r hw
 obtain⟨a,xs,e1,hq,hl,hw⟩:=hw
 subst e1
 cases r
 obtain⟨its,rv,ht,hz⟩:=I.tuple hq
 refine assign_Tuple_tuple (I.ok.hd hc) ht (by simp [hn,←hl,rv.length]) hst λh' hx=> ?_
 have I1:Inv X pins σ H {s with heap:=h'}:=I.kept (t':=s.toks) λb o e=> hx b o (aJ (az e)) e
 exact h pins _ σ H xs _ Q I1 (by simpa using rv) hw
noncomputable def a57(to ti:TE)(t:ao1):TG:=λv σ H Q=> to σ H λo H1=> ti σ H1 λi H2=> t o i v H2 λH3=> Q σ H3
theorem a1t{o i:Expr}{to ti:TE}{t:ao1}(ho:PE X o to)(hi:PE X i ti)(hs:afe X t)
  (ha: ∀v,assign (.Subscript o i pos) X.env v=(do
   let ov←holding [v] (eval o X.env)
   let iv←holding [v,ov] (eval i X.env)
   standAt pos
   holding [v,ov,iv] (setItem ov iv v)
   release [v,ov,iv] []):=by intro _;rfl):PG X (.Subscript o i pos) (a57 to ti t):=by
 (first|refine⟨?_⟩|skip);intro pins s σ H v u Q I r h
 rw [ha]
 refine aa (a9 (thn (ho pins s σ H _ I h) λov s1 ⟨x,H1,I1,r1,q1⟩=> ?_))
 refine aa (a9 (thn (hi pins s1 σ H1 _ I1 q1) λiv s2 ⟨y,H2,I2,r2,q2⟩=> ?_))
 refine aa (eU (aa (a9 (thn (hs pins s2 σ H2 x y v ov iv u _ I2 r1 r2 r q2) λ_ s3 ⟨H3,I3,q3⟩=> ?_))))
 exact wpAny_release ⟨σ,H3,I3,q3⟩
noncomputable def a11(te:TE)(g:TG):TS:=λD σ H=> te σ H λx H1=> g x σ H1 D.nx
theorem aqd{te:TE}{g:TG}(he:PE X e te)(hg:PG X tg g)(hs:lR [tg] e pos.line X.env=pure false:=by rfl)(hw:lS [tg] e X.env=pure none:=by rfl)(h1:(bE [tg] X.env).map (·.2)=[assign tg X.env]:=by rfl):PS X (.Assign [tg] e pos) (a11 te g):=by
 (first|refine⟨?_⟩|skip);intro pins s σ H D I h
 refine wpAny_Assign_stores (thn (he pins s σ H _ I h) λv s1 ⟨x,H1,I1,r1,q1⟩=> ?_) hs hw
 rw [h1]
 exact thn (hg pins s1 σ H1 x v _ I1 r1 q1) λ_ s2 q=> q
theorem azx{x:Str}{te:TE}{pos':Pos}(hN:X.N.Nodup)(hi:X.N[i]?=some x)(hx:Loc X.env.scope x)(he:PE X e te)(hs:f8 e (some (.Name x pos')) pos.line X.env=pure false:=by rfl)(hf:X.fn x=true\/X.env.scope.names.lookup x=some .local:=by first|exact .inl rfl|exact .inr rfl|assumption):
  PS X (.Assign [.Name x pos'] e pos) (a11 te (aj3 i)):=by
 (first|refine⟨?_⟩|skip);intro pins s σ H D I h
 refine wpAny_Assign_Name (thn (he pins s σ H _ I h) λv s1 ⟨y,H1,I1,r1,q1⟩=> ?_) hs
 exact abj I1 hN hi hx r1 (λs2 I2=> ⟨_,H1,I2,q1⟩) hf
end
section
variable{X:Cx}{pos:Pos}
noncomputable def a1c(c:TT)(tb:TS):TS:=λD σ H=> ∃W:Nat -> St -> Hp -> Prop,(∃m,W m σ H)/\ ∀m σ H,W m σ H ->
 c σ H λb H1=> if b=true then∃N:St -> Hp -> Prop,(∀σ' H',N σ' H' -> ∃m',m' < m/\W m' σ' H')/\tb {D with nx:=N,ct:=N,bk:=D.nx} σ H1 else D.nx σ H1
theorem av0{c:Expr}{body:List Stmt}{tc:TT}{tb:TS}(hp:mw (model X.prog X.w) X.A X.env X.xe)(hc:PT X c tc)(hb:PSs X body tb):PS X (.While c body [] pos) (a1c tc tb):=by
 (first|refine⟨?_⟩|skip);intro pins s σ H D I h
 obtain⟨W,⟨m0,w0⟩,turn⟩:=h
 refine wpAny_While (codeAny_whileLoop (λn s'=> ∃σ' H',Inv X pins σ' H' s'/\W n σ' H') ?_ m0 ⟨σ,H,I,w0⟩)
 rintro n s1 ⟨σ1,H1,I1,w1⟩
 refine dP hp (thn (hc pins s1 σ1 H1 _ I1 (turn n σ1 H1 w1)) λb s2 ⟨H2,I2,q2⟩=> ?_)
 cases b with
 | true=>
  obtain⟨N,hN,q2⟩:=q2
  rw [if_pos rfl]
  refine dP hp (thn (hb pins s2 σ1 H2 _ I2 q2) λf s3 q3=> ?_)
  cases f with
  |next=>
   obtain⟨σ3,H3,I3,n3⟩:=q3
   obtain⟨m',hm,w3⟩:=hN σ3 H3 n3
   exact⟨m',hm,σ3,H3,I3,w3⟩
  |cont=>
   obtain⟨σ3,H3,I3,n3⟩:=q3
   obtain⟨m',hm,w3⟩:=hN σ3 H3 n3
   exact⟨m',hm,σ3,H3,I3,w3⟩
  |brk=> exact q3
  |ret v=> exact q3
 |false=>
  rw [if_neg ax]
  exact fV ⟨σ1,H2,I2,q2⟩
end
structure It where
 go:Nat -> Hp -> Prop
 yld:Nat -> Hp -> V -> Hp -> Prop
 stop:Nat -> Hp -> Prop
def aa0(X:Cx)(pins:List (Addr×Obj))(H:Hp)(b:Addr):Prop:=
 H b=none/\b≠X.env.locals/\b∉X.fs/\(b∈X.ex\/X.s₀.heap.objs.size <=b)/\(∀x c,X.env.cells.lookup x=some c -> c≠b)/\ ∀p∈X.pn++pins,p.1≠b
theorem Inv.fpOk{X:Cx}{σ:St}{H H':Hp}(I:Inv X pins σ H s)(hb:s.heap.objs.size <=b)(hn:H' b=none):aa0 X pins H' b:=by
 refine⟨hn,dI (aP I.lt hb),I.nofs hb,.inr (br I.sz hb),λx c e z=> ?_,λp hp z=> ?_⟩
 ·obtain⟨v,q⟩:=I.cell x c e
  exact absurd (aP q.lt (by rw [z];exact hb)) (cD _)
 ·exact absurd (aP (az (I.pin p hp).1) (by rw [z];exact hb)) (cD _)
structure Turn (P:aL) (w:aO) (K:am) (tg:Expr) (J:It) (fp:List Addr) (it:Addr) (tn:Nat -> Heap -> Prop):Prop where
 mem:it∈fp
 obj: ∀i h,tn i h -> ∀b∈fp,∃o,h.get? b=some o/\ ∀v,o.data≠ .cell v
 keep: ∀i h h',tn i h -> (∀b∈fp,∀o,h.get? b=some o -> h'.get? b=some o) -> tn i h'
 item: ∀(X:Cx),X.prog=P -> X.w=w -> X.K=K -> X.calm=true -> ∀(i:Nat) (pins:List (Addr×Obj)) (s:ag) (σ:St) (H:Hp) (E:ae -> ag -> Prop),Inv X pins σ H s -> (∀b∈fp,aa0 X pins H b) -> tn i s.heap -> J.go i H ->
  wpAny (model P w) X.A (pyNext (.ref it)) (λr s1=> ∃u,r=some u/\
   wpAny (model P w) X.A (fW tg (.ref it) u) (λ_ s2=> ∃x H',Inv X pins σ H' s2/\RelV x u/\J.yld i H x H'/\tn (i+1) s2.heap/\ ∀b∈fp,H' b=none) E s1) E s
 done: ∀(X:Cx),X.prog=P -> X.w=w -> X.K=K -> X.calm=true -> ∀(i:Nat) (pins:List (Addr×Obj)) (s:ag) (σ:St) (H:Hp) (E:ae -> ag -> Prop),Inv X pins σ H s -> (∀b∈fp,aa0 X pins H b) -> tn i s.heap -> J.stop i H ->
  wpAny (model P w) X.A (pyNext (.ref it)) (λr s1=> r=none/\Inv X pins σ H s1) E s
 self: ∀(A:aX) (i:Nat) (s:ag) (Q:ae -> ag -> Prop) (E:ae -> ag -> Prop),tn i s.heap -> Q (.ref it) s -> wpAny (model P w) A (pyIter (.ref it)) Q E s
abbrev TI:=St -> Hp -> (It -> Hp -> Prop) -> Prop
def PIE(X:Cx)(pins:List (Addr×Obj))(σ:St)(tg:Expr)(R:It -> Hp -> Prop)(itv:ae)(s2:ag):Prop:=
 ∃(it:Addr) (fp:List Addr) (tn:Nat -> Heap -> Prop) (J:It) (H':Hp),itv=.ref it/\Inv X pins σ H' s2/\Turn X.prog X.w X.K tg J fp it tn/\tn 0 s2.heap/\(∀b∈fp,aa0 X pins H' b)/\R J H'
def PI(X:Cx)(tg iter:Expr)(wi:TI):Prop:=
 ∀(pins:List (Addr×Obj)) (s:ag) (σ:St) (H:Hp) (R:It -> Hp -> Prop),Inv X pins σ H s -> wi σ H R ->
  wpAny (model X.prog X.w) X.A (eval iter X.env) (λv s1=> wpAny (model X.prog X.w) X.A (pyIter v) (PIE X pins σ tg R) X.xe s1) X.xe s
theorem ap5{it:Addr}{o:Obj}{n:String}{vs:Array ae}(ho:s.heap.get? it=some o)(hc:o.cls=.type n)(hd:o.data=.fields vs)(hn:["enumerate","zip","dict_itemiterator","dict_reverseitemiterator","odict_iterator","itertools.zip_longest","itertools.pairwise"].contains n=false)(hQ:Q () s):wpAny M A (fW tg (.ref it) u) Q E s:=by
 unfold fW
 cases tg <;> first
  |exact af hQ
  | (cases u <;> first
    |exact af hQ
    | (refine aa (i6 ho ?_)
       rw [hc,hd]
       show wpAny M A (if (["enumerate","zip","dict_itemiterator","dict_reverseitemiterator","odict_iterator","itertools.zip_longest","itertools.pairwise"].contains n&&vs[0]?==some (rawInt _))=true then _ else _) Q E s
       rw [if_neg (by intro h;rw [hn,Bool.false_and]at h;cases h)]
       exact af hQ))
noncomputable def Itl(K:am)(a:Addr):It:=
 ⟨λi H=> ∃xs x,SqL K H a xs/\xs[i]?=some x,λi H x H'=> H'=H/\ ∀xs,SqL K H a xs -> xs[i]?=some x,λi H=> ∃xs,SqL K H a xs/\xs.length <=i⟩
noncomputable def Itt(K:am)(a:Addr):It:=
 ⟨λi H=> ∃xs x,SqT K H a xs/\xs[i]?=some x,λi H x H'=> H'=H/\ ∀xs,SqT K H a xs -> xs[i]?=some x,λi H=> ∃xs,SqT K H a xs/\xs.length <=i⟩
noncomputable def Itr(lo:Int)(n:Nat):It:=⟨λi _=> i < n,λi H x H'=> H'=H/\x=.int (lo+i),λi _=> n <=i⟩
theorem apc(a it:Addr):Turn P w K tg (Itl K a) [it] it (λi h=> h.IsListIter it a i) where
 mem:=by simp
 obj:=λi h st b hb=> by
  have e:b=it:=by simpa using hb
  subst e
  obtain⟨o,e,c,d⟩:=st
  exact⟨o,e,λv z=> by rw [d]at z;cases z⟩
 keep:=λi h h' st k=> st.at λo e=> k it (by simp) o e
 item:=by
  intro X hP hw hK hc i pins s σ H E I hf st hg
  subst hP hw hK
  obtain⟨xs,x,hq,hx⟩:=hg
  obtain⟨its,rv,p,hz⟩:=I.list hq
  obtain⟨u,hu,ru⟩:=rv.get hx
  obtain⟨f0,f1,f2,f3,f4,f5⟩:=hf it (by simp)
  refine kD st p.isList (x:=u) (by simpa using hu) λh' st' sb=> ?_
  have I1:Inv X pins σ H {s with heap:=h'}:=I.turned (t':=s.toks) (λb o hb e=> (sb.2 b hb).trans e) f0 f1 f3 f4 f5
  obtain⟨o,e,c,d⟩:=id st'
  exact⟨u,rfl,ap5 (s:={s with heap:=h'}) e c d (by decide) ⟨x,H,I1,ru,⟨rfl,λys hy=> by rw [I.list_inj hy hq];exact hx⟩,st',λb hb=> (hf b hb).1⟩⟩
 done:=by
  intro X hP hw hK hc i pins s σ H E I hf st hg
  subst hP hw hK
  obtain⟨xs,hq,hx⟩:=hg
  obtain⟨its,rv,p,hz⟩:=I.list hq
  obtain⟨f0,f1,f2,f3,f4,f5⟩:=hf it (by simp)
  have hl:=rv.length
  exact kS (I.ok.hd hc) st p.isList (by simp;lia) λh' eb=> ⟨rfl,I.turned (t':=s.toks) (λb o hb e=> eb b o hb e) f0 f1 f3 f4 f5⟩
 self:=λ_ _ _ _ _ st h=> wpAny_pyIter_listiter st h
theorem anh(a it:Addr):Turn P w K tg (Itt K a) [it] it (λi h=> h.IsTupleIter it a i) where
 mem:=by simp
 obj:=λi h st b hb=> by
  have e:b=it:=by simpa using hb
  subst e
  obtain⟨o,e,c,d⟩:=st
  exact⟨o,e,λv z=> by rw [d]at z;cases z⟩
 keep:=λi h h' st k=> st.at λo e=> k it (by simp) o e
 item:=by
  intro X hP hw hK hc i pins s σ H E I hf st hg
  subst hP hw hK
  obtain⟨xs,x,hq,hx⟩:=hg
  obtain⟨its,rv,p,hz⟩:=I.tuple hq
  obtain⟨u,hu,ru⟩:=rv.get hx
  obtain⟨f0,f1,f2,f3,f4,f5⟩:=hf it (by simp)
  refine wpAny_pyNext_tuple_item st (show s.heap.IsTuple a its.toArray from p) (x:=u) (by simpa using hu) λh' st' sb=> ?_
  have I1:Inv X pins σ H {s with heap:=h'}:=I.turned (t':=s.toks) (λb o hb e=> (sb.2 b hb).trans e) f0 f1 f3 f4 f5
  obtain⟨o,e,c,d⟩:=id st'
  exact⟨u,rfl,ap5 (s:={s with heap:=h'}) e c d (by decide) ⟨x,H,I1,ru,⟨rfl,λys hy=> by rw [I.tuple_inj hy hq];exact hx⟩,st',λb hb=> (hf b hb).1⟩⟩
 done:=by
  intro X hP hw hK hc i pins s σ H E I hf st hg
  subst hP hw hK
  obtain⟨xs,hq,hx⟩:=hg
  obtain⟨its,rv,p,hz⟩:=I.tuple hq
  obtain⟨f0,f1,f2,f3,f4,f5⟩:=hf it (by simp)
  have hl:=rv.length
  exact wpAny_pyNext_tuple_end (I.ok.hd hc) st (show s.heap.IsTuple a its.toArray from p) (by simp;lia) λh' eb=> ⟨rfl,I.turned (t':=s.toks) (λb o hb e=> eb b o hb e) f0 f1 f3 f4 f5⟩
 self:=λ_ _ _ _ _ st h=> wpAny_pyIter_tupleiter st h
theorem aof(it:Addr)(lo:Int)(n:Nat):Turn P w K tg (Itr lo n) [it] it (λi h=> IsRangeIter h it (lo+(i:Nat)*1) ((n:Int) - (i:Nat)) 1) where
 mem:=by simp
 obj:=λi h st b hb=> by
  have e:b=it:=by simpa using hb
  subst e
  exact⟨_,st,λv z=> by
   have z':Data.fields _=Data.cell v:=z
   cases z'⟩
 keep:=λi h h' st k=> k it (by simp) _ st
 item:=by
  intro X hP hw hK hc i pins s σ H E I hf st hg
  subst hP hw hK
  obtain⟨f0,f1,f2,f3,f4,f5⟩:=hf it (by simp)
  have W:=Walks.range (prog:=X.prog) (w:=X.w) (I.ok.hd hc) it lo 1 n
  refine W.item i s _ _ hg st λv h' tk hv st' kk=> ?_
  obtain⟨t,rfl⟩:=hv
  have I1:Inv X pins σ H {s with heap:=h',toks:=tk}:=I.turned (λb o hb e=> kk b o (by simpa using hb) e) f0 f1 f3 f4 f5
  refine⟨_,rfl,ap5 (s:={s with heap:=h',toks:=tk}) (n:="range_iterator") st' rfl rfl (by decide) ⟨.int (lo+i),H,I1,⟨t,?_⟩,⟨rfl,rfl⟩,st',λb hb=> (hf b hb).1⟩⟩
  rw [Int.mul_one]
 done:=by
  intro X hP hw hK hc i pins s σ H E I hf st hg
  subst hP hw hK
  obtain⟨f0,f1,f2,f3,f4,f5⟩:=hf it (by simp)
  exact wpAny_pyNext_range_end (I.ok.hd hc) st (by have:n <=i:=hg;lia) λh' eb=> ⟨rfl,I.turned (t':=s.toks) (λb o hb e=> eb b o hb e) f0 f1 f3 f4 f5⟩
 self:=λ_ _ _ _ _ st h=> wpAny_pyIter_rangeiter st h
end L2
variable{pins pins':List (ee×PySem.Obj)}{σ:L2.St}{H H':L2.Hp}{s:fA}{E Q:cQ -> fA -> Prop}{t:m9}{u:cQ}{v:L2.V}{a p b C f:ee}{ta tb te:L2.TE}{pos:PySem.Pos}{fp:List ee}{h base h':PySem.Heap}{o:L2.HO}{iter c tg e:iZ}{body:List lD}{op:PySem.CmpOp}{i j n ep:Nat}{xs:List L2.V}{its us:List cQ}{dx:Option ee}{mA mg:iu -> Option cQ}{K:am}{A:mr}{fd:PySem.FuncData}{ps N:List iu}{P prog:lQ}{w:mN}{qual:iu}{scope:PySem.Scope}{osl:Array (Option cQ)}{items:Array cQ}{T:String}{X:L2.Cx}{st:lD}{env:PySem.Env}{es:List iZ}
namespace L2
open PySem PySem.Spec PyProof.Rows
theorem auh{R:It -> Hp -> Prop}{lo hi:Int}{t u v:Tok}{tk:Nat}(I:Inv X pins σ H s)(h1: -(2^62) <=lo)(h2:lo < 2^62)(h3: -(2^62) <=hi)(h4:hi < 2^62)(q:R (Itr lo (hi - lo).toNat) H):wpAny (model X.prog X.w) X.A (pyIter (.ref s.heap.objs.size)) (PIE X pins σ tg R) E {s with heap:=s.heap.push {cls:=.type "range",data:=.fields #[.int lo t,.int hi u,.int 1 v]},toks:=tk}:=by
 refine wpAny_pyIter_range (IsRange.new ..) (small_one h1 h2 h3 h4) ?_
 have I1:Inv X pins σ H {s with heap:=s.heap.push {cls:=.type "range",data:=.fields #[.int lo t,.int hi u,.int 1 v]},toks:=tk}:=I.kept λb o e=> aj _ e
 refine⟨(s.heap.push {cls:=.type "range",data:=.fields #[.int lo t,.int hi u,.int 1 v]}).objs.size,[(s.heap.push {cls:=.type "range",data:=.fields #[.int lo t,.int hi u,.int 1 v]}).objs.size],_,_,H,rfl,
  I1.kept (t':=tk) λb o e=> aj _ e,aof _ lo (hi - lo).toNat,?_,λb hb=> ?_,q⟩
 ·have e1:lo+((0:Nat):Int)*1=lo:=by simp
  have e2:(((hi - lo).toNat:Nat):Int) - ((0:Nat):Int)=Builtin.Range.rangeSize lo hi 1:=by rw [rangeSize_one];split <;> lia
  show IsRangeIter _ _ (lo+((0:Nat):Int)*1) ((((hi - lo).toNat:Nat):Int) - ((0:Nat):Int)) 1
  rw [e1,e2]
  exact ay _ rfl
 ·have e:b=(s.heap.push {cls:=.type "range",data:=.fields #[.int lo t,.int hi u,.int 1 v]}).objs.size:=by simpa using hb
  subst e
  exact I1.fpOk (av _) (I1.hok.fresh (av _))
def a3n(ta:TA):TI:=λσ H R=> ta σ H λvs H1=> ∃j:Int,vs=[.int j]/\ -(2^62) <=j/\j < 2^62/\R (Itr 0 j.toNat) H1
theorem apq{a:Expr}{ta:TA}{p:Pos}(hg:Gl X "range")(hm:X.mg "range"=none)(ha:PA X [a] ta)(hs:starEach [a] X.env=[(false,eval a X.env)]:=by rfl):PI X tg (.Call (.Name "range" p) [a] [] pos) (a3n ta):=by
 (first|refine⟨?_⟩|skip);intro pins s σ H R I h
 refine Call_ (acg I hg hm boot_range (dJ (thn (ha pos pins s σ H _ I h) λus s1 ⟨vs,H1,I1,r1,q1⟩=> ?_) hs rfl))
 obtain⟨j,e,q1,q2,q⟩:=q1
 subst e
 cases r1 with
 |cons r rr=>
  cases rr
  obtain⟨t,rfl⟩:=r
  exact call_range_1 (auh I1 (by lia) (by lia) q1 q2 (by simpa using q))
noncomputable def a51(wi:TI)(g:TG)(tb:TS):TS:=λD σ H=> wi σ H λJ H1=> ∃W:Nat -> Nat -> St -> Hp -> Prop,(∃m,W 0 m σ H1)/\ ∀i m σ H,W i m σ H ->
 (J.stop i H/\D.nx σ H)\/(J.go i H/\ ∃N:St -> Hp -> Prop,(∀σ' H',N σ' H' -> ∃m',m' < m/\W (i+1) m' σ' H')/\ ∀x H',J.yld i H x H' -> g x σ H' λσ2 H2=> tb {D with nx:=N,ct:=N,bk:=D.nx} σ2 H2)
noncomputable def acj(fp:List Addr)(h:Heap):List (Addr×Obj):=fp.filterMap λb=> (h.get? b).map λo=> (b,o)
theorem yi{o:Obj}(hb:b∈fp)(e:h.get? b=some o):(b,o)∈acj fp h:=iw.mpr ⟨b,hb,by rw [e];rfl⟩
theorem ary{p:Addr×Obj}(hp:p∈acj fp h):p.1∈fp/\h.get? p.1=some p.2:=by
 obtain⟨b,hb,e⟩:=iw.mp hp
 cases q:h.get? b with
 |none=> rw [q]at e;cases e
 |some o=>
  rw [q]at e
  have e':(b,o)=p:=b8 e
  subst e'
  exact⟨hb,q⟩
theorem Inv.pinned(I:Inv X pins σ H s)(hf: ∀b∈fp,aa0 X pins H b)(ho: ∀b∈fp,∃o,s.heap.get? b=some o/\ ∀v,o.data≠ .cell v):Inv X (pins++acj fp s.heap) σ H s:=
 I.pins_of λp hp=> (aR.mp hp).elim (λz=> I.pin p (bi _ z)) λz=> by
  obtain⟨hb,e⟩:=ary z
  obtain⟨f0,f1,f2,_⟩:=hf p.1 hb
  obtain⟨o,e',d⟩:=ho p.1 hb
  rw [e]at e';cases e'
  exact⟨e,f0,f1,f2,d⟩
theorem Inv.unpinned{pl:List (Addr×Obj)}(I:Inv X (pins++pl) σ H s):Inv X pins σ H s:=I.pins_of λp hp=> I.pin p (bi _ (bX _ hp))
theorem a01{wi:TI}{g:TG}{tb:TS}(hp:mw (model X.prog X.w) X.A X.env X.xe)(hc:X.calm=true)(hi:PI X tg iter wi)(hg:PG X tg g)(hb:PSs X body tb)(hs: ∀x,cV iter X.env x=pure x:=by intro _;rfl):PS X (.For tg iter body [] pos) (a51 wi g tb):=by
 (first|refine⟨?_⟩|skip);intro pins s σ H D I h
 refine wpAny_For (thn (hi pins s σ H _ I h) λv s1 h1=> thn h1 λitv s2 h2=> ?_) hs
 obtain⟨it,fp,tn,J,H2,e,I2,T,st2,f2,W,⟨m0,w0⟩,turn⟩:=h2
 subst e
 -- what stays true of the iterator's objects through the loop
 have stat: ∀{H':Hp},(∀b∈fp,H' b=none) -> ∀b∈fp,aa0 X pins H' b:=λhn b hb=> ⟨hn b hb,(f2 b hb).2⟩
 refine codeAny_forLoop_any (λn s'=> ∃i σ' H',Inv X pins σ' H' s'/\tn i s'.heap/\(∀b∈fp,H' b=none)/\W i n σ' H') ?_ m0 ⟨0,σ,H2,I2,st2,λb hb=> (f2 b hb).1,w0⟩
 rintro n s3 ⟨i,σ3,H3,I3,st3,fr3,w3⟩
 rcases turn i n σ3 H3 w3 with ⟨stop,qn⟩|⟨go,N,hN,step⟩
 ·refine dP hp (thn (T.done X rfl rfl rfl hc i pins s3 σ3 H3 X.xe I3 (stat fr3) st3 stop) λr s4 ⟨hr,I4⟩=> ?_)
  subst hr
  exact fV ⟨σ3,H3,I4,qn⟩
 ·refine dP hp (thn (T.item X rfl rfl rfl hc i pins s3 σ3 H3 X.xe I3 (stat fr3) st3 go) λr s4 ⟨u,hr,h4⟩=> ?_)
  subst hr
  refine dP hp (thn h4 λ_ s5 ⟨x,H5,I5,r5,y5,st5,fr5⟩=> ?_)
  have I5':=I5.pinned (stat fr5) (T.obj _ _ st5)
  refine dP hp (thn (hg _ s5 σ3 H5 x u _ I5' r5 (step x H5 y5)) λ_ s6 ⟨σ6,H6,I6,q6⟩=> ?_)
  refine dP hp (thn (hb _ s6 σ6 H6 _ I6 q6) λf s7 q7=> ?_)
  have again: ∀{σ7:St} {H7:Hp},Inv X (pins++acj fp s5.heap) σ7 H7 s7 -> N σ7 H7 -> ∃m,m < n/\ ∃i σ' H',Inv X pins σ' H' s7/\tn i s7.heap/\(∀b∈fp,H' b=none)/\W i m σ' H':=λ{σ7 H7} I7 n7=> by
   obtain⟨m',hm,w7⟩:=hN σ7 H7 n7
   refine⟨m',hm,i+1,σ7,H7,I7.unpinned,T.keep _ _ _ st5 λb hb o e=> (I7.pin (b,o) (bi _ (bi _ (yi hb e)))).1,λb hb=> ?_,w7⟩
   obtain⟨o,e,d⟩:=T.obj _ _ st5 b hb
   exact (I7.pin (b,o) (bi _ (bi _ (yi hb e)))).2.1
  cases f with
  |next=> obtain⟨σ7,H7,I7,n7⟩:=q7;exact again I7 n7
  |cont=> obtain⟨σ7,H7,I7,n7⟩:=q7;exact again I7 n7
  |brk=> obtain⟨σ7,H7,I7,q7⟩:=q7;exact⟨σ7,H7,I7.unpinned,q7⟩
  |ret v=> obtain⟨x7,σ7,H7,I7,r7,q7⟩:=q7;exact⟨x7,σ7,H7,I7.unpinned,r7,q7⟩
abbrev R2:=V -> V -> Hp -> VK -> Prop
def OpR(X:Cx)(f:ae -> ae -> Sem ae)(r:R2):Prop:=
 ∀(pins:List (Addr×Obj)) (s:ag) (σ:St) (H:Hp) (x y:V) (v u:ae) (Q:VK),Inv X pins σ H s -> RelV x v -> RelV y u -> r x y H Q ->
  wpAny (model X.prog X.w) X.A (f v u) (EP X pins σ Q) X.xe s
def UnR(X:Cx)(f:ae -> Sem ae)(r:V -> Hp -> VK -> Prop):Prop:=
 ∀(pins:List (Addr×Obj)) (s:ag) (σ:St) (H:Hp) (x:V) (v:ae) (Q:VK),Inv X pins σ H s -> RelV x v -> r x H Q ->
  wpAny (model X.prog X.w) X.A (f v) (EP X pins σ Q) X.xe s
def vk(X:Cx)(f:ae)(r:List V -> Hp -> VK -> Prop):Prop:=
 ∀(pins:List (Addr×Obj)) (s:ag) (σ:St) (H:Hp) (xs:List V) (us:List ae) (Q:VK),Inv X pins σ H s -> ji xs us -> r xs H Q ->
  wpAny (model X.prog X.w) X.A (call f us) (EP X pins σ Q) X.xe s
def a55(X:Cx)(r:V -> Hp -> (Bool -> Hp -> Prop) -> Prop):Prop:=
 ∀(pins:List (Addr×Obj)) (s:ag) (σ:St) (H:Hp) (x:V) (v:ae) (Q:Bool -> Hp -> Prop),Inv X pins σ H s -> RelV x v -> r x H Q ->
  wpAny (model X.prog X.w) X.A (truthy v) (TP X pins σ Q) X.xe s
noncomputable def tOp(r:R2)(ta tb:TE):TE:=λσ H Q=> ta σ H λx H1=> tb σ H1 λy H2=> r x y H2 Q
noncomputable def tUn(r:V -> Hp -> VK -> Prop)(ta:TE):TE:=λσ H Q=> ta σ H λx H1=> r x H1 Q
noncomputable def rI(C:Int -> Int -> Prop)(g:Int -> Int -> V):R2:=λx y H Q=> ∃i j,x=.int i/\y=.int j/\C i j/\Q (g i j) H
noncomputable def rI0(g:Int -> Int -> V):R2:=λx y H Q=> ∃i j,x=.int i/\y=.int j/\Q (g i j) H
def rU(g:Int -> V):V -> Hp -> VK -> Prop:=λx H Q=> ∃i,x=.int i/\Q (g i) H
section
variable{X:Cx}{a b c:Expr}{ta tb tc:TE}{pos:Pos}
theorem atz(ha:PE X a ta)(hb:PE X b tb){R:V -> V -> Hp -> Prop}(I:Inv X pins σ H s)(h:ta σ H λx H1=> tb σ H1 λy H2=> R x y H2){f:ae -> ae -> Sem ae}(hf: ∀v u s2 x y H2,Inv X pins σ H2 s2 -> RelV x v -> RelV y u -> R x y H2 -> wpAny (model X.prog X.w) X.A (f v u) Q X.xe s2):
  wpAny (model X.prog X.w) X.A (eval a X.env) (λv s₁=> wpAny (model X.prog X.w) X.A (eval b X.env) (λu s₂=> wpAny (model X.prog X.w) X.A (f v u) Q X.xe s₂) X.xe s₁) X.xe s:=by
 refine thn (ha pins s σ H _ I h) λv s1 ⟨x,H1,I1,r1,q1⟩=> ?_
 refine thn (hb pins s1 σ H1 _ I1 q1) λu s2 ⟨y,H2,I2,r2,q2⟩=> ?_
 exact hf v u s2 x y H2 I2 r1 r2 q2
theorem a4t{op:Operator}{r:R2}(ho:OpR X (binaryOp op) r)(ha:PE X a ta)(hb:PE X b tb):PE X (.BinOp a op b pos) (tOp r ta tb):=by
 (first|refine⟨?_⟩|skip);intro pins s σ H Q I h
 exact wpAny_BinOp (atz ha hb I h λv u s2 x y H2 I2 rx ry q=> ho pins s2 σ H2 x y v u Q I2 rx ry q)
theorem a4d{op:UnaryOp}{r:V -> Hp -> VK -> Prop}(ho:UnR X (unaryOp op) r)(ha:PE X a ta):PE X (.UnaryOp op a pos) (tUn r ta):=by
 (first|refine⟨?_⟩|skip);intro pins s σ H Q I h
 exact UnaryOp_ (thn (ha pins s σ H _ I h) λv s1 ⟨x,H1,I1,r1,q1⟩=> ho pins s1 σ H1 x v Q I1 r1 q1)
theorem opI{f:ae -> ae -> Sem ae}{C:Int -> Int -> Prop}{g:Int -> Int -> Int}
  (rule: ∀(i j:Int) (t u:Tok) (s:ag) (Q:ae -> ag -> Prop) (E:ae -> ag -> Prop),C i j -> Q (.int (g i j) s.toks) {s with toks:=s.toks+1} -> wpAny (model X.prog X.w) X.A (f (.int i t) (.int j u)) Q E s):
  OpR X f (rI C λi j=>.int (g i j)):=by
 (first|refine⟨?_⟩|skip);intro pins s σ H x y v u Q I rx ry h
 obtain⟨i,j,rfl,rfl,hc,q⟩:=h
 obtain⟨t,rfl⟩:=rx
 obtain⟨t',rfl⟩:=ry
 exact rule i j t t' s _ _ hc ⟨.int (g i j),H,I.tok _,⟨_,rfl⟩,q⟩
theorem a5j{f:ae -> ae -> Sem ae}{g:Int -> Int -> Int}
  (rule: ∀(i j:Int) (t u:Tok) (s:ag) (Q:ae -> ag -> Prop) (E:ae -> ag -> Prop),Q (.int (g i j) s.toks) {s with toks:=s.toks+1} -> wpAny (model X.prog X.w) X.A (f (.int i t) (.int j u)) Q E s):
  OpR X f (rI0 λi j=>.int (g i j)):=by
 (first|refine⟨?_⟩|skip);intro pins s σ H x y v u Q I rx ry h
 obtain⟨i,j,rfl,rfl,q⟩:=h
 obtain⟨t,rfl⟩:=rx
 obtain⟨t',rfl⟩:=ry
 exact rule i j t t' s _ _ ⟨.int (g i j),H,I.tok _,⟨_,rfl⟩,q⟩
theorem aox{f:ae -> ae -> Sem ae}{g:Int -> Int -> Bool}
  (rule: ∀(i j:Int) (t u:Tok) (s:ag) (Q:ae -> ag -> Prop) (E:ae -> ag -> Prop),Q (.bool (g i j)) s -> wpAny (model X.prog X.w) X.A (f (.int i t) (.int j u)) Q E s):
  OpR X f (rI0 λi j=>.bl (g i j)):=by
 (first|refine⟨?_⟩|skip);intro pins s σ H x y v u Q I rx ry h
 obtain⟨i,j,rfl,rfl,q⟩:=h
 obtain⟨t,rfl⟩:=rx
 obtain⟨t',rfl⟩:=ry
 exact rule i j t t' s _ _ ⟨.bl (g i j),H,I,rfl,q⟩
def ang(i j:Int):Prop:=0 < j/\j < 1073741824
def aok(i j:Int):Prop:=0 <=j/\j <=1000000/\i.natAbs < 2^64
def ahj(i j:Int):Prop:=(-(2^64) < i/\i < 2^64)\/(-(2^64) < j/\j < 2^64)
theorem ahj.ok{i j:Int}(h:ahj i j):IntMulOk i j:=by
 rcases h with ⟨h1,h2⟩|⟨h1,h2⟩
 ·exact .of_left (intBits_le_64 h1 h2)
 ·exact .of_right (intBits_le_64 h1 h2)
theorem aqa:OpR X (binaryOp .Add) (rI0 λi j=>.int (i+j)):=a5j λ_ _ _ _ _ _ _ q=> add_int q
theorem a13:OpR X (binaryOp .Mult) (rI ahj λi j=>.int (i*j)):=opI λ_ _ _ _ _ _ _ hc q=> mul_int q hc.ok
theorem ax8:OpR X (binaryOp .FloorDiv) (rI ang λi j=>.int (i/j)):=opI λi j _ _ _ _ _ hc q=> by
 have h1:(0:Int) < j:=hc.1
 have h2:j < 1073741824:=hc.2
 exact floordiv_int (by lia) (by rw [Int.fdiv_eq_ediv_of_nonneg i (by lia)];exact q) (.inl (PyProof.noPylong_small (by lia)))
theorem a0c:OpR X (binaryOp .Mod) (rI (λ_ j=> 0 < j) λi j=>.int (i % j)):=opI λi j _ _ _ _ _ hc q=> by
 have h1:(0:Int) < j:=hc
 exact mod_int' (by lia) (by rw [Int.fmod_eq_emod_of_nonneg i (by lia)];exact q)
theorem a0k:OpR X (binaryOp .Pow) (rI aok λi j=>.int (i^j.toNat)):=opI λ_ _ _ _ _ _ _ hc q=> pow_int_small hc.1 hc.2.1 hc.2.2 q
theorem unI{f:ae -> Sem ae}{g:Int -> Int}
  (rule: ∀(i:Int) (t:Tok) (s:ag) (Q:ae -> ag -> Prop) (E:ae -> ag -> Prop),Q (.int (g i) s.toks) {s with toks:=s.toks+1} -> wpAny (model X.prog X.w) X.A (f (.int i t)) Q E s):
  UnR X f (rU λi=>.int (g i)):=by
 (first|refine⟨?_⟩|skip);intro pins s σ H x v Q I rx h
 obtain⟨i,rfl,q⟩:=h
 obtain⟨t,rfl⟩:=rx
 exact rule i t s _ _ ⟨.int (g i),H,I.tok _,⟨_,rfl⟩,q⟩
theorem a24:UnR X (unaryOp .USub) (rU λi=>.int (-i)):=unI λ_ _ _ _ _ q=> neg_int q
end
noncomputable def a2t:V -> V -> Bool
 |.non,.non=> true|.non,.int _=> true|.int _,.non=> true|.non,.bl _=> true|.bl _,.non=> true|.non,.str _=> true|.str _,.non=> true
 |.int _,.int _=> true|.bl _,.bl _=> true|.str _,.str _=> true|.byt _,.byt _=> true
 |.int _,.str _=> true|.str _,.int _=> true|.bl _,.str _=> true|.str _,.bl _=> true
 |_,_=> false
def rEq:R2:=λx y H Q=> a2t x y=true/\Q (.bl (decide (x=y))) H
def rNe:R2:=λx y H Q=> a2t x y=true/\Q (.bl (!decide (x=y))) H
theorem amh{i j:Int}:decide (V.int i=V.int j)=(i==j):=by
 rw [bh]
 simp
theorem apn{i j:Bool}:decide (V.bl i=V.bl j)=(i==j):=by
 rw [bh]
 simp
theorem amu{i j:Str}:decide (V.str i=V.str j)=(i==j):=by
 rw [bh]
 simp
theorem am6{i j:Array UInt8}:decide (V.byt i=V.byt j)=(i.toList==j.toList):=by
 rw [bh]
 cases i
 cases j
 simp
section
variable{X:Cx}{a b c:Expr}{ta tb tc:TE}{pos:Pos}
theorem jn{Q:VK}{k k':Bool}(I:Inv X pins σ H s)(q:Q (.bl k) H)(e:k=k'):EP X pins σ Q (.bool k') s:=by
 subst e
 exact⟨.bl k,H,I,rfl,q⟩
theorem a4i:OpR X (aS .Eq) rEq:=by
 (first|refine⟨?_⟩|skip);intro pins s σ H x y v u Q I rx ry h
 obtain⟨hs,q⟩:=h
 cases x with
 |non=>
  cases rx
  cases y with
  |non=> cases ry;exact PySem.EqNone.eq_none_none (jn I q (by simp))
  |bl j=> cases ry;exact PySem.EqNone.eq_none_bool (jn I q (by simp))
  |int j=> obtain⟨t',rfl⟩:=ry;exact PySem.EqNone.eq_none_int (jn I q (by simp))
  |str j=> obtain⟨t',rfl⟩:=ry;exact PySem.EqNone.eq_none_str (jn I q (by simp))
  |_=> exact absurd (show false=true from hs) ax
 |bl i=>
  cases rx
  cases y with
  |non=> cases ry;exact PySem.EqNone.eq_bool_none (jn I q (by simp))
  |bl j=> cases ry;exact eq_bool (jn I q apn)
  |str j=> obtain⟨t',rfl⟩:=ry;exact PySem.EqMixed.eq_bool_str (jn I q (by simp))
  |_=> exact absurd (show false=true from hs) ax
 |int i=>
  obtain⟨t,rfl⟩:=rx
  cases y with
  |non=> cases ry;exact PySem.EqNone.eq_int_none (jn I q (by simp))
  |int j=> obtain⟨t',rfl⟩:=ry;exact eq_int (jn I q amh)
  |str j=> obtain⟨t',rfl⟩:=ry;exact PySem.EqMixed.eq_int_str (jn I q (by simp))
  |_=> exact absurd (show false=true from hs) ax
 |str i=>
  obtain⟨t,rfl⟩:=rx
  cases y with
  |non=> cases ry;exact PySem.EqNone.eq_str_none (jn I q (by simp))
  |bl j=> cases ry;exact PySem.EqMixed.eq_str_bool (jn I q (by simp))
  |int j=> obtain⟨t',rfl⟩:=ry;exact PySem.EqMixed.eq_str_int (jn I q (by simp))
  |str j=> obtain⟨t',rfl⟩:=ry;exact eq_str (jn I q amu)
  |_=> exact absurd (show false=true from hs) ax
 |byt i=>
  obtain⟨t,rfl⟩:=rx
  cases y with
  |byt j=> obtain⟨t',rfl⟩:=ry;exact PySem.W.eq_bytes (jn I q am6)
  |_=> exact absurd (show false=true from hs) ax
 |_=> cases y <;> exact absurd (show false=true from hs) ax
theorem a3o:OpR X (aS .NotEq) rNe:=by
 (first|refine⟨?_⟩|skip);intro pins s σ H x y v u Q I rx ry h
 obtain⟨hs,q⟩:=h
 cases x with
 |non=>
  cases rx
  cases y with
  |non=> cases ry;exact PySem.EqNone.ne_none_none (jn I q (by simp))
  |bl j=> cases ry;exact PySem.EqNone.ne_none_bool (jn I q (by simp))
  |int j=> obtain⟨t',rfl⟩:=ry;exact PySem.EqNone.ne_none_int (jn I q (by simp))
  |str j=> obtain⟨t',rfl⟩:=ry;exact PySem.EqNone.ne_none_str (jn I q (by simp))
  |_=> exact absurd (show false=true from hs) ax
 |bl i=>
  cases rx
  cases y with
  |non=> cases ry;exact PySem.EqNone.ne_bool_none (jn I q (by simp))
  |bl j=> cases ry;exact ne_bool (jn I q (congrArg not apn))
  |str j=> obtain⟨t',rfl⟩:=ry;exact PySem.EqMixed.ne_bool_str (jn I q (by simp))
  |_=> exact absurd (show false=true from hs) ax
 |int i=>
  obtain⟨t,rfl⟩:=rx
  cases y with
  |non=> cases ry;exact PySem.EqNone.ne_int_none (jn I q (by simp))
  |int j=> obtain⟨t',rfl⟩:=ry;exact ne_int (jn I q (congrArg not amh))
  |str j=> obtain⟨t',rfl⟩:=ry;exact PySem.EqMixed.ne_int_str (jn I q (by simp))
  |_=> exact absurd (show false=true from hs) ax
 |str i=>
  obtain⟨t,rfl⟩:=rx
  cases y with
  |non=> cases ry;exact PySem.EqNone.ne_str_none (jn I q (by simp))
  |bl j=> cases ry;exact PySem.EqMixed.ne_str_bool (jn I q (by simp))
  |int j=> obtain⟨t',rfl⟩:=ry;exact PySem.EqMixed.ne_str_int (jn I q (by simp))
  |str j=> obtain⟨t',rfl⟩:=ry;exact ne_str (jn I q (congrArg not amu))
  |_=> exact absurd (show false=true from hs) ax
 |byt i=>
  obtain⟨t,rfl⟩:=rx
  cases y with
  |byt j=> obtain⟨t',rfl⟩:=ry;exact PySem.W.ne_bytes (jn I q (congrArg not am6))
  |_=> exact absurd (show false=true from hs) ax
 |_=> cases y <;> exact absurd (show false=true from hs) ax
theorem a4a:OpR X (aS .Lt) (rI0 λi j=>.bl (decide (i < j))):=aox λ_ _ _ _ _ _ _ q=> lt_int q
theorem aw2:OpR X (aS .LtE) (rI0 λi j=>.bl (decide (i <=j))):=aox λ_ _ _ _ _ _ _ q=> le_int q
theorem a3k:OpR X (aS .Gt) (rI0 λi j=>.bl (decide (j < i))):=aox λ_ _ _ _ _ _ _ q=> gt_int q
theorem a4l:OpR X (aS .GtE) (rI0 λi j=>.bl (decide (j <=i))):=aox λ_ _ _ _ _ _ _ q=> ge_int q
theorem arr:OpR X (aS .Lt) (λx y H Q=> ∃i j,x=.str i/\y=.str j/\Q (.bl (decide (i.cps.toList < j.cps.toList))) H):=by
 (first|refine⟨?_⟩|skip);intro pins s σ H x y v u Q I rx ry h
 obtain⟨i,j,rfl,rfl,q⟩:=h
 obtain⟨t,rfl⟩:=rx
 obtain⟨t',rfl⟩:=ry
 exact lt_str (jn I q rfl)
theorem arv:OpR X (aS .In) (λx y H Q=> ∃i j,x=.str i/\y=.str j/\Q (.bl (!(gA j i 0 j.length 1).isEmpty)) H):=by
 (first|refine⟨?_⟩|skip);intro pins s σ H x y v u Q I rx ry h
 obtain⟨i,j,rfl,rfl,q⟩:=h
 obtain⟨t,rfl⟩:=rx
 obtain⟨t',rfl⟩:=ry
 exact in_str (jn I q rfl)
theorem a0i:OpR X (aS .Is) (λx y H Q=> y=.non/\Q (.bl (decide (x=.non))) H):=by
 (first|refine⟨?_⟩|skip);intro pins s σ H x y v u Q I rx ry h
 obtain⟨rfl,q⟩:=h
 cases ry
 refine is_none_gen (jn I q ?_)
 cases x <;> first
  |(cases rx;rfl)
  |(obtain⟨t,rfl⟩:=rx;rfl)
theorem ax0:OpR X (aS .IsNot) (λx y H Q=> y=.non/\Q (.bl (!decide (x=.non))) H):=by
 (first|refine⟨?_⟩|skip);intro pins s σ H x y v u Q I rx ry h
 obtain⟨rfl,q⟩:=h
 cases ry
 refine isnot_none_gen (jn I q ?_)
 cases x <;> first
  |(cases rx;rfl)
  |(obtain⟨t,rfl⟩:=rx;rfl)
theorem aki:OpR X (aS .NotIn) (λx y H Q=> ∃i j,x=.str i/\y=.str j/\Q (.bl (!(!(gA j i 0 j.length 1).isEmpty))) H):=by
 (first|refine⟨?_⟩|skip);intro pins s σ H x y v u Q I rx ry h
 obtain⟨i,j,rfl,rfl,q⟩:=h
 obtain⟨t,rfl⟩:=rx
 obtain⟨t',rfl⟩:=ry
 exact notIn_str (jn I q rfl)
theorem apv(b:Expr)(h:op≠ .In:=by decide)(h2:op≠ .NotIn:=by decide):fP op b=false:=by
 have e1:(op==CmpOp.In)=false:=by cases op <;> first|rfl|exact absurd rfl h
 have e2:(op==CmpOp.NotIn)=false:=by cases op <;> first|rfl|exact absurd rfl h2
 cases b <;> simp [fP,e1,e2]
theorem azn{r:R2}(ho:OpR X (aS op) r)(ha:PE X a ta)(hb:PE X b tb)(hm:fP op b=false):PE X (.Compare a [op] [b] pos) (tOp r ta tb):=by
 (first|refine⟨?_⟩|skip);intro pins s σ H Q I h
 exact wpAny_Compare1 (atz ha hb I h λv u s2 x y H2 I2 rx ry q=> ho pins s2 σ H2 x y v u Q I2 rx ry q) hm
noncomputable def avz(t:TE):TT:=λσ H Q=> t σ H λx H'=> ∃k,x=.bl k/\Q k H'
theorem axa{r:R2}(ho:OpR X (aS op) r)(ha:PE X a ta)(hb:PE X b tb)(hm:fP op b=false):PT X (.Compare a [op] [b] pos) (avz (tOp r ta tb)):=by
 (first|refine⟨?_⟩|skip);intro pins s σ H Q I h
 refine wpAny_isTrue_Compare1 (thn (ha pins s σ H _ I h) λv s1 ⟨x,H1,I1,r1,q1⟩=> thn (hb pins s1 σ H1 _ I1 q1) λu s2 ⟨y,H2,I2,r2,q2⟩=>
  thn (ho pins s2 σ H2 x y v u _ I2 r1 r2 q2) λc s3 ⟨z,H3,I3,r3,k,e,q3⟩=> ?_) hm
 subst e
 cases r3
 exact cU ⟨H3,I3,q3⟩
noncomputable def aq9(r r':R2)(ta tb tc:TE):TE:=λσ H Q=> ta σ H λx H1=> tb σ H1 λy H2=> r x y H2 λz H3=> ∃k,z=.bl k/\
 (if k=true then tc σ H3 λw' H4=> r' y w' H4 Q else Q (.bl false) H3)
theorem atw{op':CmpOp}{r r':R2}(ho:OpR X (aS op) r)(ho':OpR X (aS op') r')(ha:PE X a ta)(hb:PE X b tb)(hc:PE X c tc)(hm:lastMarks [op,op'] [b,c]=false:=by with_unfolding_all rfl):PE X (.Compare a [op,op'] [b,c] pos) (aq9 r r' ta tb tc):=by
 (first|refine⟨?_⟩|skip);intro pins s σ H Q I h
 refine Compare_chain (thn (ha pins s σ H _ I h) λv s1 ⟨x,H1,I1,r1,q1⟩=> chain_link (thn (hb pins s1 σ H1 _ I1 q1) λu s2 ⟨y,H2,I2,r2,q2⟩=>
  thn (ho pins s2 σ H2 x y v u _ I2 r1 r2 q2) λd s3 ⟨z,H3,I3,r3,k,e,q3⟩=> ?_)) hm
 subst e
 cases r3
 refine cU ?_
 cases k with
 |false=> exact ite_ff ⟨.bl false,H3,I3,rfl,q3⟩
 |true=> exact ite_tt (chain_last (thn (hc pins s3 σ H3 _ I3 q3) λw' s4 ⟨z',H4,I4,r4,q4⟩=> ho' pins s4 σ H4 y z' u w' Q I4 r2 r4 q4))
def a2g(K:am)(x:V)(H:Hp)(k:Bool):Prop:=
 match x with
 |.non=> k=false
 |.bl b=> k=b
 |.int i=> k=(i !=0)
 |.str y=> y.length <=sizeLine/\k=((y.length:Int) !=0)
 |.byt y=> y.size <=sizeLine/\k=((y.size:Int) !=0)
 |.ref p=> (∃xs,SqL K H p xs/\k= !xs.isEmpty)\/(∃xs,SqT K H p xs/\k= !xs.isEmpty)\/ ∃kvs,H p=some (.dK kvs)/\k= !kvs.isEmpty
 |_=> False
theorem anc{κ:Type}{kvs:List (κ×V)}{vs:List (κ×ae)}(r:KV kvs vs):(!vs.isEmpty)= !kvs.isEmpty:=by
 cases r <;> rfl
theorem agx(r:ji xs its):(!its.toArray.isEmpty)= !xs.isEmpty:=by
 cases r <;> simp
theorem abk:(sizeLine:Nat) < 2^63:=by rw [cp];decide
theorem a2d:a55 X (λx H Q=> ∃k,a2g X.K x H k/\Q k H):=by
 (first|refine⟨?_⟩|skip);intro pins s σ H x v Q I rx h
 obtain⟨k,e,q⟩:=h
 have hl:=abk
 have hs:sizeLine=16777216:=cp
 cases x with
 |non=>
  cases rx
  have e':k=false:=e
  subst e'
  exact truthy_none ⟨H,I,q⟩
 |bl b=>
  cases rx
  have e':k=b:=e
  subst e'
  exact cU ⟨H,I,q⟩
 |int i=>
  obtain⟨t,rfl⟩:=rx
  have e':k=(i !=0):=e
  subst e'
  exact PySem.P.truthy_int ⟨H,I,q⟩
 |str y=>
  obtain⟨t,rfl⟩:=rx
  obtain⟨hy,e'⟩:y.length <=sizeLine/\k=((y.length:Int) !=0):=e
  subst e'
  exact PySem.P.truthy_str (by lia) ⟨H,I.tok _,q⟩
 |byt y=>
  obtain⟨t,rfl⟩:=rx
  obtain⟨hy,e'⟩:y.size <=sizeLine/\k=((y.size:Int) !=0):=e
  subst e'
  exact PySem.W.truthy_bytes (by lia) ⟨H,I.tok _,q⟩
 | ref p=>
  cases rx
  have e':(∃xs,SqL X.K H p xs/\k= !xs.isEmpty)\/(∃xs,SqT X.K H p xs/\k= !xs.isEmpty)\/ ∃kvs,H p=some (.dK kvs)/\k= !kvs.isEmpty:=e
  rcases e' with ⟨xs,hx,e'⟩|⟨xs,hx,e'⟩|⟨kvs,hx,e'⟩
  ·subst e'
   obtain⟨its,r,pl,hz⟩:=I.list hx
   have hlen:=r.length
   exact wpAny_truthy_list pl.isList (by simp only [aE];lia) ⟨H,I.tok _,by rw [agx r];exact q⟩
  ·subst e'
   obtain⟨its,r,pl,hz⟩:=I.tuple hx
   have hlen:=r.length
   exact truthy_tuple pl (by simp only [aE];lia) ⟨H,I.tok _,by rw [agx r];exact q⟩
  ·subst e'
   obtain⟨hz,hS,vs,r,m⟩:kvs.length <=sizeLine/\(p==bP)=false/\ ∃vs,KV kvs vs/\s.heap.DictOf (ku X.prog X.w) p vs:=(show jq X.prog X.w H s.heap p (.dK kvs) from I.hok p _ hx).2
   have hlen:kvs.length=vs.length:=eS r
   exact wpAny_truthy_dict hS m (by lia) ⟨H,I.tok _,by rw [anc r];exact q⟩
 |_=> exact (show False from e).elim
theorem av8(ha:PE X a ta)(he: ∀whole,isTrue a X.env whole=(do let v←whole;standAt a.pos;holding [v] (truthy v))):
  PT X a (λσ H Q=> ta σ H λx H'=> ∃k,a2g X.K x H' k/\Q k H'):=by
 (first|refine⟨?_⟩|skip);intro pins s σ H Q I h
 exact isTrue_plain (thn (ha pins s σ H _ I h) λv s1 ⟨x,H1,I1,r1,q1⟩=> a2d pins s1 σ H1 x v Q I1 r1 q1) (he _)
theorem aob:OpR X (binaryOp .Add) (λx y H Q=> ∃i j,x=.str i/\y=.str j/\i.length+j.length <=sizeLine/\Q (.str (i++j)) H):=by
 (first|refine⟨?_⟩|skip);intro pins s σ H x y v u Q I rx ry h
 obtain⟨i,j,rfl,rfl,hz,q⟩:=h
 obtain⟨t,rfl⟩:=rx
 obtain⟨t',rfl⟩:=ry
 exact add_str (λt' tk=> ⟨.str (i++j),H,I.tok _,⟨_,rfl⟩,q⟩) hz
theorem vals1{x:V}(r:ji [x] us): ∃u,us=[u]/\RelV x u:=by
 cases r with
 |cons r1 r2=> cases r2;exact⟨_,rfl,r1⟩
theorem vals2{x y:V}(r:ji [x,y] us): ∃u w',us=[u,w']/\RelV x u/\RelV y w':=by
 cases r with
 |cons r1 r2=>
  cases r2 with
  |cons r3 r4=> cases r4;exact⟨_,_,rfl,r1,r3⟩
end
structure ObjM (h:Heap) (x dx C:Addr) (mA:Str -> Option ae):Prop where
 obj:h.get? x=some (jT C dx)
 ns:h.Ns1 dx mA
 ne:dx≠x
theorem arq{dx:Addr}(n:h.Ns1 dx mA): ∃od,h.get? dx=some od/\ ∀name,kU name od=some (mA name):=by
 obtain⟨o,es,ep,ho,hd,hk,_,hm⟩:=n
 refine⟨o,ho,λname=> ?_⟩
 have e:=hm name
 unfold nsFind findBy at e
 rw [←Array.find?_toList]at e
 unfold kU
 rw [hd]
 dsimp only
 split
 ·rename_i y q
  rw [q]at e
  exact congrArg some e
 ·rename_i q
  rw [q]at e
  have a:es.toList.any (·.refKey)=false:=by
   rw [iU]
   intro y hy
   obtain⟨z,t,hkey⟩:=hk y (dk.mp hy)
   simp [DictEntry.refKey,hkey]
  have a': ¬es.toList.any (·.refKey)=true:=by rw [a];exact ax
  rw [if_neg a']
  exact congrArg some e
theorem ObjM.look{x dx:Addr}(I:ObjM h x dx C mA): ∃od,PySem.W.InstAt h x (jT C dx) C (some od)/\ ∀name,kU name od=some (mA name):=
 let ⟨od,ho,hl⟩:=arq I.ns
 ⟨od,⟨I.obj,rfl,rfl,ho⟩,hl⟩
theorem zr.some_of{o:Option ae}(r:zr (some v) o): ∃u,o=some u/\RelV v u:=by
 cases o with
 |none=> exact (show False from r).elim
 |some u=> exact⟨u,rfl,r⟩
section
variable{P:aL}{w:aO}{H H':Hp}{h h':Heap}{a C dx:Addr}{fs fs':List (Str×V)}
theorem ins_get(hok:HOk P w H h)(e:H a=some (.ins C dx fs)): ∃mA,ObjM h a dx C mA/\(∀f,zr (fs.lookup f) (mA f))/\i9 mA (fs.map (·.1))/\fs.length <=1000/\H dx=some (.own a):=by
 obtain⟨d,z,ne,ob,mA,n,r,q⟩:=(show jq P w H h a (.ins C dx fs) from hok a _ e)
 exact⟨mA,⟨ob,n,ne⟩,r,q,z,d⟩
end
structure Cls (K:am) (C:Addr):Prop where
 pg:PySem.W.plainGet K C Str.empty=true
 hd:PySem.W.hasDictIn K C=true
 po:PySem.W.plainOver K C=true
 sa:kW K (.ref C) "__setattr__"=some (some (.builtin "object.__setattr__"))
theorem Cls.get(c:Cls K C)(f:Str):PySem.W.plainGet K C f=true:=c.pg
section
variable{X:Cx}{pins:List (Addr×Obj)}{σ:St}{H:Hp}{s:ag}{A:aX}{E:ae -> ag -> Prop}{Q:ae -> ag -> Prop}{c:ae}{b:Bool}
inductive TyOf (K:am) (H:Hp):V -> ae -> Prop where
 |non:TyOf K H .non (.type "NoneType")
 |bl (x:Bool):TyOf K H (.bl x) (.type "bool")
 |int (i:Int):TyOf K H (.int i) (.type "int")
 |str (x:Str):TyOf K H (.str x) (.type "str")
 |flt (x:UInt64):TyOf K H (.flt x) (.type "float")
 |lst {a:Addr} {xs:List V} (e:H a=some (.lst xs)):TyOf K H (.ref a) (.type "list")
 |frz {a:Addr} {o:Obj} {xs:List V} (e:H a=some (.frz o (.lst xs))):TyOf K H (.ref a) (.type "list")
 |tup {a:Addr} {xs:List V} (e:H a=some (.tup xs)):TyOf K H (.ref a) (.type "tuple")
 |dK {a:Addr} {kvs:List (Key×V)} (e:H a=some (.dK kvs)):TyOf K H (.ref a) (.type "dict")
 |dT {a:Addr} {kvs:List (List Key×V)} (e:H a=some (.dT kvs)):TyOf K H (.ref a) (.type "dict")
 | ins {a C dx:Addr} {fs:List (Str×V)} (e:H a=some (.ins C dx fs)) (cl:Cls K C) (ha:kW K (.ref C) "__class__"=some (some (.builtin "object.__class__")))
   (hn:PySem.W.specialIn K (.builtin "object.__class__") "__get__"=some (some (.builtin "getset_descriptor.__get__"))) (htk:PySem.W.takesIn K (.builtin "object.__class__")=some true)
   (hm:PySem.W.mroIn K C (.type "object")=some true):TyOf K H (.ref a) (.ref C)
theorem aio{x:V}{t:ae}(I:Inv X pins σ H s)(rx:RelV x u)(ty:TyOf X.K H x t)(e:PySem.W.kitOne X.K t c=some b)(h: ∀tk,Q (.bool b) {s with toks:=tk}):
  wpAny (model X.prog X.w) A (call (.builtin "isinstance") [u,c]) Q E s:=by
 cases ty with
 |non=> cases (show u=aU from rx);exact cB PySem.W.kitx_none I.kIn c9 e (λz=> nomatch z) h
 |bl y=> cases (show u=gX y from rx);exact cB PySem.W.kitx_bool I.kIn c9 e (λz=> nomatch z) h
 |int i=> obtain⟨t,q⟩:=(show∃t,u=eV i t from rx);cases q;exact cB PySem.W.kitx_int I.kIn c9 e (λz=> nomatch z) h
 |str y=> obtain⟨t,q⟩:=(show∃t,u=iq y t from rx);cases q;exact cB PySem.W.kitx_str I.kIn c9 e (λz=> nomatch z) h
 |flt y=> obtain⟨t,q⟩:=(show∃t,u=Value.float y t from rx);cases q;exact cB PySem.W.kitx_float I.kIn c9 e (λz=> nomatch z) h
 | @lst a xs ea=>
  cases (show u=bZ a from rx)
  obtain⟨_,_,n,_,h1⟩:=(show jq X.prog X.w H s.heap a (.lst xs) from I.hok a _ ea)
  exact cB PySem.W.kitx_list I.kIn ⟨_,h1,rfl⟩ e (λz=> nomatch z) h
 | @frz a ob xs ea=>
  cases (show u=bZ a from rx)
  obtain⟨_,_,_,n,_,h1⟩:=(show jq X.prog X.w H s.heap a (.frz ob (.lst xs)) from I.hok a _ ea)
  exact cB PySem.W.kitx_list I.kIn ⟨_,h1,rfl⟩ e (λz=> nomatch z) h
 | @tup a xs ea=>
  cases (show u=bZ a from rx)
  obtain⟨_,_,_,p⟩:=(show jq X.prog X.w H s.heap a (.tup xs) from I.hok a _ ea)
  obtain⟨o,h1,h2,_⟩:=p.tup
  exact cB PySem.W.kitx_tuple I.kIn ⟨o,h1,h2⟩ e (λz=> nomatch z) h
 | @dK a kvs ea=>
  cases (show u=bZ a from rx)
  obtain⟨_,_,_,vs,_,p⟩:=(show jq X.prog X.w H s.heap a (.dK kvs) from I.hok a _ ea)
  obtain⟨o,es,ep,h1,h2,_⟩:=p
  exact cB PySem.W.kitx_dict I.kIn ⟨o,h1,h2.1⟩ e (λz=> nomatch z) h
 | @dT a kvs ea=>
  cases (show u=bZ a from rx)
  obtain⟨_,_,xs,_,o,es,ep,h1,h2,_⟩:=(show jq X.prog X.w H s.heap a (.dT kvs) from I.hok a _ ea)
  exact cB PySem.W.kitx_dict I.kIn ⟨o,h1,h2.1⟩ e (λz=> nomatch z) h
 | @ins a C dx fs ea cl ha hn htk hm=>
  cases (show u=bZ a from rx)
  obtain⟨mA,O,_⟩:=ins_get I.hok ea
  obtain⟨od,J,_⟩:=O.look
  exact cB (PySem.W.kitx_own (cl.get _) cl.hd ha hn htk hm) I.kIn J e (λz=> nomatch z) h
end
structure Room (k:Nat) (A:aX):Prop where
 hd:A.handled=none
 dp:A.depth+3*k+5 < recursionLimit
 un:A.units+16*k+200 < cLine
 gd:A.guards=some []
theorem Room.mono{k:Nat}(r:Room k A)(h:j <=k):Room j A:=⟨r.hd,by have:=r.dp;lia,by have:=r.un;lia,r.gd⟩
theorem Room.deeper{k:Nat}(r:Room (k+1) A)(env:Env):Room k (A.deeper env):=
 ⟨r.hd,by have:=r.dp;show A.depth+1+3*k+5 < _;lia,by have:=r.un;show A.units+3+16*k+200 < _;lia,r.gd⟩
theorem Room.depth{k:Nat}(r:Room k A):A.depth < recursionLimit:=by have:=r.dp;lia
noncomputable def a6a:TA:=λ_ H Q=> Q [] H
noncomputable def a48(ta:TE)(tr:TA):TA:=λσ H Q=> ta σ H λx H1=> tr σ H1 λxs H2=> Q (x::xs) H2
section
variable{X:Cx}{e:Expr}{es:List Expr}{te:TE}{t:TA}{pos:Pos}
theorem aei:PA X [] a6a:=.mk <|λ_ _ _ _ H Q I h=> Calls.spliced_nil ⟨[],H,I,.nil,h⟩
theorem acd(ha:PE X e te)(hr:PA X es t)(hs:starEach (e::es) X.env=(false,eval e X.env)::starEach es X.env:=by rfl):PA X (e::es) (a48 te t):=by
 (first|refine⟨?_⟩|skip);intro pos pins s σ H Q I h
 rw [hs]
 show wpAny _ _ (spliced ((false,eval e X.env)::backTo pos (starEach es X.env))) _ _ s
 refine Calls.spliced_cons (thn (ha pins s σ H _ I h) λu s1 ⟨x,H1,I1,r1,q1⟩=> ?_)
 exact thn (hr pos pins s1 σ H1 _ I1 q1) λus s2 ⟨xs,H2,I2,r2,q2⟩=> ⟨x::xs,H2,I2,.cons r1 r2,q2⟩
end
abbrev Sp:=List V -> Hp -> VK -> XK -> Prop
abbrev CXT:=List Env -> Hp -> ag -> XK -> ae -> ag -> Prop
structure Env0 (P:aL) (w:aO) (K:am) (mg:Str -> Option ae) (base:Heap) (A:aX) (outer:List Env) (s:ag) (H:Hp):Prop where
 frames:A.frames=some outer
 mod:Mod K mg base
 bs: ∀b o,base.get? b=some o -> s.heap.get? b=some o/\H b=none
 bsz:base.objs.size <=s.heap.objs.size
 funs:s.heap.FunFrames base outer
 frf: ∀b∈frs outer,H b=none
 hok:HOk P w H s.heap
 bare:gn s.gens
def CE(outer:List Env)(P:aL)(w:aO)(H:Hp)(s:ag)(Q:VK)(u:ae)(s':ag):Prop:=
 ∃v H',s'.os=s.os/\gn s'.gens/\Un (frs outer) [] H H' s.heap s'.heap/\HOk P w H' s'.heap/\RelV v u/\Q v H'
def CR(CX:CXT)(outer:List Env)(P:aL)(w:aO)(H:Hp)(s:ag)(Q:VK)(E:XK)(r:gZ)(s':ag):Prop:=
 match r with
 |.ok (.ret u)=> CE outer P w H s Q u s'
 |.ok _=> False
 |.error e=> CX outer H s E e s'
structure FnOk (P:aL) (w:aO) (K:am) (mg:Str -> Option ae) (base:Heap) (CX:CXT) (k:Nat) (f:Addr) (fd:f9) (ps:List Str) (sp:Sp):Prop where
 len: ∀vs H Q E,sp vs H Q E -> vs.length=ps.length
 run: ∀(A:aX) (outer:List Env) (s:ag) (H:Hp) (args:Args) (us:List ae) (vs:List V) (Q:VK) (E:XK),Room k A -> Env0 P w K mg base A outer s H -> kX s fd args (ps.zip us) -> ji vs us -> sp vs H Q E ->
  codeAny (model P w) A (.call (.ref f) args) (CR CX outer P w H s Q E) s
section
variable{X:Cx}{pins:List (Addr×Obj)}{σ:St}{H:Hp}{s s':ag}
theorem Inv.env0(I:Inv X pins σ H s):Env0 X.prog X.w X.K X.mg X.base X.A X.stack s H:=
 ⟨I.ok.frames,I.ok.mod,I.bs,br I.ok.bsz I.sz,I.stack,I.stkFree,I.hok,I.bare⟩
theorem Inv.after{Q:VK}(I:Inv X pins σ H s)(h:CE X.stack X.prog X.w H s Q u s'):EP X pins σ Q u s':=by
 obtain⟨v,H',os,bare,un,hok,r,q⟩:=h
 obtain⟨hh,g,d,t,os'⟩:=s'
 obtain rfl:os'=s.os:=os
 exact⟨v,H',I.call (h':=hh) (g':=g) (d':=d) (t':=t) (ch:=[]) un hok bare (λb z=> absurd z (by simp)),r,q⟩
end
noncomputable def avi(sp:Sp)(dvs:List V)(E:SK)(t:TA):TE:=λσ H Q=> t σ H λvs H1=> sp (vs++dvs) H1 Q (E σ)
def Binds(K:am)(fd:f9)(ps:List Str)(ds:List ae):Prop:=
 ∀(s:ag) (us:List ae),K.In s.heap -> (us++ds).length=ps.length -> kX s fd ⟨us,[]⟩ (ps.zip (us++ds))
theorem Binds.all(h: ∀us:List ae,us.length=ps.length -> bindArgs fd ⟨us,[]⟩=pure (ps.zip us)):Binds K fd ps []:=λs us _ hl=> by
 rw [b7]at hl⊢
 exact .of_eq (h us hl)
def ake(CX:CXT)(X:Cx)(E:SK):Prop:= ∀(pins:List (Addr×Obj)) (σ:St) (H:Hp) (s:ag) (e:ae) (s':ag),Inv X pins σ H s -> CX X.stack H s (E σ) e s' -> X.xe e s'
section
variable{X:Cx}{CX:CXT}{k:Nat}{f C:Addr}{fd:f9}{ps:List Str}{sp:Sp}{dvs:List V}{ds:List ae}{E:SK}{x m:Str}{p pos apos:Pos}{e o:Expr}{es:List Expr}{ta:TE}{t:TA}
theorem a1u{Q:VK}{vs:List V}(F:FnOk X.prog X.w X.K X.mg X.base CX k f fd ps sp)(hr:Room k X.A)(hb:Binds X.K fd ps ds)(hd:ji dvs ds)(hx:ake CX X E)(I:Inv X pins σ H s)(r:ji vs us)(h:sp (vs++dvs) H Q (E σ)):wpAny (model X.prog X.w) X.A (call (.ref f) us) (EP X pins σ Q) X.xe s:=by
 have r2:ji (vs++dvs) (us++ds):=r.append hd
 have hl:(us++ds).length=ps.length:=by rw [←r2.length];exact F.len _ _ _ _ h
 refine wpAny_call (dL (F.run X.A X.stack s H ⟨us,[]⟩ (us++ds) (vs++dvs) Q (E σ) hr I.env0 (hb s us I.kIn hl) r2 h) λr s' hq=> ?_)
 cases r with
 |error e=> exact hx pins σ H s e s' I hq
 |ok fl=>
  cases fl with
  |ret u=> exact I.after hq
  |next=> exact eY hq
  |brk=> exact eY hq
  |cont=> exact eY hq
theorem az2(F:FnOk X.prog X.w X.K X.mg X.base CX k f fd ps sp)(hr:Room k X.A)(hg:Gl X x)(hm:X.mg x=some (.ref f))(hk:fB X.K (.ref f)=true)(hb:Binds X.K fd ps ds)(hd:ji dvs ds)(hx:ake CX X E)
  (ha:PA X (e::es) t) (hdb:(x==("__debug__":Str))=false:=by decide) (he:starEach (e::es) X.env=(false,eval e X.env)::starEach es X.env:=by rfl) (hpl:(backTo pos (starEach es X.env)).any (·.1)=false:=by rfl):
  PE X (.Call (.Name x p) (e::es) [] pos) (avi sp dvs E t):=by
 (first|refine⟨?_⟩|skip);intro pins s σ H Q I h
 refine iy (am8 I hg hm ?_ hdb)
 refine PySem.W.callWith_K (h₀:=X.base) I.ok.mod.kin hk (thn (ha pos pins s σ H _ I h) λus s1 ⟨vs,H1,I1,r,q⟩=> ⟨I1.kIn,?_⟩) he hpl
 exact a1u F hr hb hd hx I1 r q
end
structure FnScope (N P:List Str) (sc:eX):Prop where
 kind:sc.kind=.function
 co:sc.isCoroutine=false
 gen:sc.isGenerator=false
 nd:N.Nodup
 pre:N.take P.length=P
 par: ∀x∈P,sc.names.lookup x=some .local\/sc.names.lookup x=some .cell
 nofree: ∀y∈sc.names,y.2≠ .free
theorem aie{kindOf:Str -> Option fh}{x:Str}: ∀{binds:List (Str×ae)} {m:Str -> Option ae},(∀v,(x,v)∉binds) -> bindL kindOf binds m x=m x
 |[],_,_=> rfl
 | (n,v)::r,m,h=> by
  unfold bindL
  rw [aie λw hw=> h w (aw _ hw)]
  split
  ·have:x≠n:=by rintro rfl;exact h v au
   simp [this]
  ·rfl
theorem ai0{kindOf:Str -> Option fh}{x:Str}: ∀{binds:List (Str×ae)} {m:Str -> Option ae},(∀v,(x,v)∉binds) -> bindC kindOf binds m x=m x
 |[],_,_=> rfl
 | (n,v)::r,m,h=> by
  unfold bindC
  rw [ai0 λw hw=> h w (aw _ hw)]
  split
  ·rfl
  ·have:x≠n:=by rintro rfl;exact h v au
   simp [this]
theorem aim{kindOf:Str -> Option fh}{x:Str}{v:ae}: ∀{P:List Str} {vs:List ae} {i:Nat} {m:Str -> Option ae},P.Nodup -> P[i]?=some x -> vs[i]?=some v -> kindOf x=some .local ->
  bindL kindOf (P.zip vs) m x=some v
 |[],_,_,_,_,h,_,_=> by simp at h
 |_::_,[],_,_,_,_,h,_=> by simp at h
 |p::P,w::vs,0,m,nd,h1,h2,hk=> by
  simp at h1 h2;subst h1;subst h2
  show bindL kindOf ((p,w)::P.zip vs) m p=_
  unfold bindL
  rw [aie λv hv=> (cZ.mp nd).1 (jU hv).1,if_pos hk]
  simp
 |p::P,w::vs,i+1,m,nd,h1,h2,hk=> by
  show bindL kindOf ((p,w)::P.zip vs) m x=_
  unfold bindL
  exact aim (i:=i) (cZ.mp nd).2 (by simpa using h1) (by simpa using h2) hk
theorem aih{kindOf:Str -> Option fh}{x:Str}{v:ae}: ∀{P:List Str} {vs:List ae} {i:Nat} {m:Str -> Option ae},P.Nodup -> P[i]?=some x -> vs[i]?=some v -> kindOf x≠some .local ->
  bindC kindOf (P.zip vs) m x=some v
 |[],_,_,_,_,h,_,_=> by simp at h
 |_::_,[],_,_,_,_,h,_=> by simp at h
 |p::P,w::vs,0,m,nd,h1,h2,hk=> by
  simp at h1 h2;subst h1;subst h2
  show bindC kindOf ((p,w)::P.zip vs) m p=_
  unfold bindC
  rw [ai0 λv hv=> (cZ.mp nd).1 (jU hv).1,if_neg hk]
  simp
 |p::P,w::vs,i+1,m,nd,h1,h2,hk=> by
  show bindC kindOf ((p,w)::P.zip vs) m x=_
  unfold bindC
  exact aih (i:=i) (cZ.mp nd).2 (by simpa using h1) (by simpa using h2) hk
noncomputable def start(N:List Str)(vs:List V):St:=vs.map some++bo (N.length - vs.length) none
noncomputable def y4(CX:CXT)(P:aL)(w:aO)(K:am)(mg:Str -> Option ae)(base:Heap)(N:List Str)(qual:Str)(scope:eX)(f:Addr)(cd:ae)(A:aX)(outer:List Env)(s:ag)(H:Hp)(E:XK):Cx where
 prog:=P
 w:=w
 K:=K
 mg:=mg
 base:=base
 A:=A.deeper (envOfC qual scope s.heap.objs.size f cd)
 N:=N
 s₀:=s
 H₀:=H
 env:=envOfC qual scope s.heap.objs.size f cd
 outer:=outer
 stack:=envOfC qual scope s.heap.objs.size f cd::outer
 ex:=[]
 calm:=true
 fn:=λ_=> true
 pn:=[]
 xe:=λe s'=> wpAny (model P w) (A.deeper (envOfC qual scope s.heap.objs.size f cd)) (leaving (envOfC qual scope s.heap.objs.size f cd) e) (λ_ s''=> CX outer H s E e s'') (λe' s''=> CX outer H s E e' s'') s'
theorem al6{sc:eX}{x:Str}(h:sc.names.lookup x=some .cell): ∃c,(cellsFrom n sc.names []).lookup x=some c:=by
 have q:=kE sc.names n [] (.inl h)
 exact dm.mp q
theorem ar6{CX:CXT}{cd:ae}{outer:List Env}{s1:ag}{E:XK}{vs:List V}(S:FnScope N ps scope)(hd:A.handled=none)(e0:Env0 P w K mg base A outer s H)(hl:vs.length=ps.length)(r:ji vs us)(x:InCallC s s.heap.objs.size (bindL (envOfC qual scope s.heap.objs.size f cd).kindOf (ps.zip us) λ_=> none) (cellsFrom (s.heap.objs.size+1) scope.names []) (bindC (envOfC qual scope s.heap.objs.size f cd).kindOf (ps.zip us) λ_=> none) s1):
  Inv (y4 CX P w K mg base N qual scope f cd A outer s H E) [] (start N vs) H s1:=by
 have hpl:ps.length <=N.length:=by have:=congrArg fj S.pre;rw [bc]at this;lia
 obtain⟨h1,tk,rfl,hk⟩:=x.done
 have noA: ∀b:Addr,b∉(y4 CX P w K mg base N qual scope f cd A outer s H E).ex:=λb z=> absurd (show b∈([]:List Addr) from z) (by simp)
 refine⟨⟨e0.mod,S.kind,rfl,rfl,av _,λy z c h1 h2=> ?_,λy hy=> ?_,λy c _ h=> ?_,λ_=> hd,Around.frames_deeper e0.frames,.inr ⟨rfl,rfl⟩,λb z=> absurd z (noA b),e0.bs,e0.bsz,λb _ _=> noA b,λb z=> absurd z (noA b),e0.funs,e0.frf⟩,
  rfl,e0.bare,Un.kept hk,⟨_,x.toInCall.ns,λi y v h1 h2 h3=> ?_⟩,λy c h=> ⟨_,x.cell y c h⟩,e0.hok.fresh (av _),λy c h=> ?_,λp hp=> absurd (show p∈([]:List (Addr×Obj)) from hp) (by simp),e0.hok.kept hk,?_⟩
 ·exact name_of_addr x.apart (c7 h1) (c7 h2)
 ·have hy:scope.names.lookup y=some .cell\/scope.names.lookup y=some .free:=hy
  rcases hy with hy|hy
  ·exact al6 hy
  ·exact absurd rfl (S.nofree _ (c7 hy))
 ·exact gY (x.above y c (c7 h))
 ·have hi:i < vs.length:=by
   unfold start at h2
   by_cases hi:i < vs.length
   ·exact hi
   ·rw [aT (by simpa using hi)]at h2
    rw [dA]at h2
    split at h2 <;> cases h2
  have ha:vs[i]?=some v:=by
   unfold start at h2
   rw [aI (by simpa using hi),aN]at h2
   cases e:vs[i]? with
   |none=> rw [e]at h2;cases h2
   |some a=> rw [e]at h2;cases h2;rfl
  obtain⟨u,hu,rv⟩:=r.get ha
  have hp:ps[i]?=some y:=by
   rw [←S.pre,eG (by lia)];exact h1
  have ndP:ps.Nodup:=by rw [←S.pre];exact S.nd.sublist (iV _ _)
  refine⟨u,rv,?_⟩
  rcases S.par y (bt hp) with k|k
  ·exact .inl ⟨k,aim ndP hp hu k⟩
  ·obtain⟨c,e⟩:=al6 (n:=s.heap.objs.size+1) k
   refine .inr ⟨.inl k,c,e,?_⟩
   have q:=x.cell y c e
   rw [aih ndP hp hu (by show scope.names.lookup y≠_;rw [k];decide)]at q
   exact q
 ·exact e0.hok.fresh (gY (x.above y c (c7 h)))
 ·unfold start
  show _=N.length
  rw [aQ,ak,gQ]
  lia
theorem a4o{CX:CXT}{k:Nat}{name:Str}{params:Arguments}{dV kV doc pm cdv ct oc:ae}{an od:Option Addr}{sp:Sp}(lk:K.lookup f=some ⟨oc,od,.func (dq name qual params body scope dV kV doc pm an cdv ct),osl⟩)(hcd:gp K cdv qual=true)(S:FnScope N ps scope)(len: ∀vs H Q E,sp vs H Q E -> vs.length=ps.length)(hbody: ∀(A:aX) (outer:List Env) (s:ag) (H:Hp) (vs:List V) (Q:VK) (E:XK),Room k (A.deeper (envOfC qual scope s.heap.objs.size f cdv)) -> sp vs H Q E ->
   ∃t,PSs (y4 CX P w K mg base N qual scope f cdv A outer s H E) body t/\t {nx:=λ_ H'=> Q .non H',rt:=Q} (start N vs) H):
  FnOk P w K mg base CX (k+1) f (dq name qual params body scope dV kV doc pm an cdv ct) ps sp:=by
 refine⟨len,λA outer s H args us vs Q E hr e0 hb r hsp=> ?_⟩
 have hl:=len _ _ _ _ hsp
 have KX:K.In s.heap:=e0.mod.kin.keeps λb o e=> (e0.bs b o e).1
 have lim:s.heap.NoLimit:=e0.mod.nolimit.keeps λb o e=> (e0.bs b o e).1
 have hkind: ∀y∈ps.zip us,scope.names.lookup y.1=some .local\/(scope.names.lookup y.1=some .cell/\((cellsFrom (s.heap.objs.size+1) scope.names []).lookup y.1).isSome=true):=λ⟨n,v⟩ hy=> by
  rcases S.par n (jU hy).1 with q|q
  ·exact .inl q
  ·exact .inr ⟨q,kE _ _ _ (.inl q)⟩
 refine codeAny_call_function hr.depth (KX _ _ lk) rfl S.co S.gen rfl (PySem.W.codeRec_of KX hcd) (hb _ _ _ _ ?_)
 refine wpAny_newFunctionEnv_cells S.kind hkind λenv he s1 x=> ?_
 subst he
 refine⟨lim.keeps x.toInCall.keep,codeAny_func ?_⟩
 obtain⟨t,ht,hq⟩:=hbody A outer s H vs Q E (hr.deeper _) hsp
 have I:Inv (y4 CX P w K mg base N qual scope f cdv A outer s H E) [] (start N vs) H s1:=ar6 S hr.hd e0 hl r x
 refine bQ (ht [] s1 (start N vs) H _ I hq) (λfl s' hs=> ?_) λe s' hs=> hs
 have fin: ∀{σ':St} {H':Hp} {v:V} {u:ae},Inv (y4 CX P w K mg base N qual scope f cdv A outer s H E) [] σ' H' s' -> RelV v u -> Q v H' -> CE outer P w H s Q u s':=
  λ{σ' H' v u} J rv q=> ⟨v,H',J.os,J.bare,J.base,J.hok,rv,q⟩
 cases fl with
 |ret u=>
  obtain⟨v,σ',H',J,rv,q⟩:=hs
  exact fin J rv q
 |next=>
  obtain⟨σ',H',J,q⟩:=hs
  exact fin (v:=V.non) (u:=aU) J rfl q
 |brk=>
  obtain⟨_,_,_,q⟩:=hs
  exact eY q
 |cont=>
  obtain⟨_,_,_,q⟩:=hs
  exact eY q
section
variable{X:Cx}{x:Str}{p pos:Pos}{e:Expr}{es:List Expr}{t:TA}{id T:String}{r:List V -> Hp -> VK -> Prop}
noncomputable def tCB(r:List V -> Hp -> VK -> Prop)(t:TA):TE:=λσ H Q=> t σ H λvs H1=> r vs H1 Q
theorem aft(hc:vk X (.builtin id) r)(hg:Gl X x)(hm:X.mg x=none)(hv:bG x=some (.builtin id))(ha:PA X (e::es) t)(hn:x≠"__name__":=by decide)(hdb:(x==("__debug__":Str))=false:=by decide)
  (he:starEach (e::es) X.env=(false,eval e X.env)::starEach es X.env:=by rfl) (hpl:(backTo pos (starEach es X.env)).any (·.1)=false:=by rfl):PE X (.Call (.Name x p) (e::es) [] pos) (tCB r t):=by
 (first|refine⟨?_⟩|skip);intro pins s σ H Q I h
 refine iy (acg I hg hm hv ?_ hn hdb)
 exact PyProof.Rows.callWith_builtin1 (thn (ha pos pins s σ H _ I h) λus s1 ⟨vs,H1,I1,r1,q1⟩=> hc pins s1 σ H1 vs us Q I1 r1 q1) he hpl
theorem abq(hc:vk X (.type T) r)(hg:Gl X x)(hm:X.mg x=none)(hv:bG x=some (.type T))(ha:PA X (e::es) t)(hn:x≠"__name__":=by decide)(hdb:(x==("__debug__":Str))=false:=by decide)
  (he:starEach (e::es) X.env=(false,eval e X.env)::starEach es X.env:=by rfl) (hpl:(backTo pos (starEach es X.env)).any (·.1)=false:=by rfl):PE X (.Call (.Name x p) (e::es) [] pos) (tCB r t):=by
 (first|refine⟨?_⟩|skip);intro pins s σ H Q I h
 refine iy (acg I hg hm hv ?_ hn hdb)
 exact dJ (thn (ha pos pins s σ H _ I h) λus s1 ⟨vs,H1,I1,r1,q1⟩=> hc pins s1 σ H1 vs us Q I1 r1 q1) he hpl
end
end L2
namespace HT
open PySem PyProof.Rows
theorem cat_tup{t:Addr}{vs ws:List ae}(ht:IsTup s.heap t vs.toArray)(hb:IsTup s.heap b ws.toArray)(hv:vs≠ [])(h1:ws=[] -> Q (.ref t) s)(h2:ws≠ [] -> Q (.ref s.heap.objs.size) {s with heap:=s.heap.push {cls:=.type "tuple",data:=.seq (vs++ws).toArray}})(hsz:vs.length+ws.length <=sizeLine):wpAny (model prog w) A (binaryOp .Add (.ref t) (.ref b)) Q E s:=by
 obtain⟨⟨cls,dd,data,sl⟩,ho,hc,n,hd⟩:=id ht
 obtain⟨⟨cls2,dd2,data2,sl2⟩,ho2,hc2,n2,hd2⟩:=id hb
 simp only at hc hd hc2 hd2
 subst hc hd hc2 hd2
 have e:vs.toArray++ws.toArray=(vs++ws).toArray:=by simp
 by_cases hw:ws=[]
 ·exact mz ⟨_,ho,rfl⟩ ⟨_,ho2,rfl⟩ jB lT gH gB (gb _ _)
   (tuple_addW1 t b vs.toArray ws.toArray n n2 dd dd2 sl sl2 (by simpa using hv) (by simp [hw])) ⟨ho,ho2,h1 hw⟩
 ·refine mz ⟨_,ho,rfl⟩ ⟨_,ho2,rfl⟩ jB lT gH gB (gb _ _)
   (tuple_addW2 t b vs.toArray ws.toArray n n2 dd dd2 sl sl2 (by simpa using hv) (by simpa using hw) (by rw [aE,aE];exact hsz)) ⟨ho,ho2,?_⟩
  rw [e]
  exact h2 hw
noncomputable def sIx(n d:Nat):Option Int -> Nat
 |none=> d
 |some v=> if v < 0 then (v+(n:Int)).toNat else min v.toNat n
theorem sIx_none(n d:Nat):sIx n d none=d:=rfl
theorem sIx_nat(n d k:Nat):sIx n d (some (k:Int))=min k n:=by
 show (if (k:Int) < 0 then ((k:Int)+(n:Int)).toNat else min (k:Int).toNat n)=min k n
 rw [if_neg (by lia),cc]
theorem a1d(n d:Nat)(hd:d <=n)(o:Option Int):sIx n d o <=n:=by
 cases o with
 |none=> exact hd
 |some v=>
  show (if v < 0 then (v+(n:Int)).toNat else min v.toNat n) <=n
  by_cases hv:v < 0
  ·rw [if_pos hv];lia
  ·rw [if_neg hv];exact Nat.min_le_right _ _
theorem amp(v:Int)(n d:Nat):(if v < 0 then max (v+(n:Int)) 0 else min v (n:Int))=((sIx n d (some v):Nat):Int):=by
 show (if v < 0 then max (v+(n:Int)) 0 else min v (n:Int))=(((if v < 0 then (v+(n:Int)).toNat else min v.toNat n):Nat):Int)
 by_cases hv:v < 0
 ·simp only [if_pos hv];lia
 ·simp only [if_neg hv];lia
theorem ao6(lo hi:Option Int)(n:Nat):fX lo hi 1 (n:Int)=(((sIx n 0 lo:Nat):Int),((sIx n n hi:Nat):Int)):=by
 have h1: ¬((1:Int) < 0):=by lia
 unfold fX
 simp only [h1,if_false]
 refine Prod.ext ?_ ?_
 ·cases lo with
  |none=> rfl
  |some v=> exact amp v n 0
 ·cases hi with
  |none=> rfl
  |some v=> exact amp v n n
theorem ao0(i j:Nat):ef (i:Int) (j:Int) 1=j - i:=by
 unfold ef
 have h1:(1:Int)> 0:=by lia
 simp only [h1,if_true,Int.ediv_one]
 split <;> lia
theorem agm{v:ae}{o:Option Int}{Q:Option Int -> ag -> Prop}(p:gI v o)(h:Q o s):wpAny (model prog w) A (Builtin.Slice.slicePartIndex v) Q E s:=by
 cases p with
 |none=> exact slicePart_none h
 |int i t=> exact slicePart_int h
theorem ab8{sl:Addr}{vl vu:ae}{lo hi:Option Int}{Q:Int×Int×Nat -> ag -> Prop}(hs:s.heap.IsSliceOf sl vl vu .none)(pl:gI vl lo)(pu:gI vu hi)(h:Q (((sIx n 0 lo:Nat):Int),1,sIx n n hi - sIx n 0 lo) s):wpAny (model prog w) A (iH (.ref sl) (pure (n:Int))) Q E s:=by
 obtain⟨os,hos,hcs,hds⟩:=id hs
 unfold iH Builtin.Slice.sliceFields
 refine aa (aa (bB hos hds (x:=vl) rfl (aa (bB hos hds (x:=vu) rfl (aa (bB hos hds (x:=.none) rfl (af ?_)))))))
 refine aa (slicePart_none ?_)
 show wpAny _ _ (if ((1:Int)==0)=true then _ else _) _ _ s
 rw [if_neg (by decide)]
 refine aa (agm pl (aa (agm pu (aa (af ?_)))))
 show wpAny _ _ (match fX lo hi 1 (n:Int) with|(lo,hi)=> pure (lo,(1:Int),ef lo hi 1)) _ _ s
 rw [ao6 lo hi n]
 show wpAny _ _ (pure (((sIx n 0 lo:Nat):Int),(1:Int),ef ((sIx n 0 lo:Nat):Int) ((sIx n n hi:Nat):Int) 1)) _ _ s
 rw [ao0]
 exact af h
theorem au9(xs:Array ae)(i k:Nat):((aW k).filterMap λ(m:Nat)=> xs[((i:Int)+(m:Int)*1).toNat]?).toArray=((xs.toList.drop i).take k).toArray:=by
 have e:(λ(m:Nat)=> xs[((i:Int)+(m:Int)*1).toNat]?)=λm=> xs[i+m]?:=by
  funext m
  have:((i:Int)+(m:Int)*1).toNat=i+m:=by lia
  rw [this]
 rw [e]
 have:=pick_run xs i k
 rw [List.filterMap_map]at this
 have e2:((λx=> xs[x]?)∘λx=> i+x)=λm=> xs[i+m]?:=rfl
 rw [e2]at this
 rw [this]
theorem getItem_tuple_cut{t sl:Addr}{vl vu:ae}{lo hi:Option Int}(ht:IsTup s.heap t items)(hs:s.heap.IsSliceOf sl vl vu .none)(pl:gI vl lo)(pu:gI vu hi)(hw: ¬(sIx items.size 0 lo=0/\sIx items.size items.size hi=items.size))(h:Q (.ref s.heap.objs.size) {s with heap:=s.heap.push {cls:=.type "tuple",data:=.seq ((items.toList.drop (sIx items.size 0 lo)).take (sIx items.size items.size hi - sIx items.size 0 lo)).toArray}})(hsz:items.size <=sizeLine):wpAny (model prog w) A (getItem (.ref t) (.ref sl)) Q E s:=by
 have htake:sizeOk (.seq ((items.toList.drop (sIx items.size 0 lo)).take (sIx items.size items.size hi - sIx items.size 0 lo)).toArray):=by
  show ((items.toList.drop (sIx items.size 0 lo)).take (sIx items.size items.size hi - sIx items.size 0 lo)).toArray.size <=sizeLine
  rw [aE,bc,dC,ar]
  lia
 have hj:sIx items.size items.size hi <=items.size:=a1d _ _ (av _) hi
 obtain⟨os,hos,hcs,hds⟩:=id hs
 have hTs:s.TypeIs (.ref sl) "slice":=⟨os,hos,hcs⟩
 unfold getItem
 try with_reducible refine a9 ?_
 first|refine aa (af ?_)|skip
 refine aa (iW ht.typeIs (by decide) ?_)
 refine aa (bf (name:=cf "__getitem__") ht.typeIs cr
  (bg cr ht.typeIs mh ?_ (args_tuple_getitem _ _)))
 show wpAny _ _ (fO (.ref t)>>=_) _ _ s
 refine aa (tupleItemsOf_ ht ?_)
 refine aa (eI hTs ?_)
 rw [if_pos (by decide)]
 refine aa (ab8 hs pl pu ?_)
 have hno: ¬((((sIx items.size 0 lo:Nat):Int)==0&&(1:Int)==1&&(sIx items.size items.size hi - sIx items.size 0 lo)==items.size)=true):=by
  intro q
  rw [aD,aD]at q
  have q1:((sIx items.size 0 lo:Nat):Int)=0:=eq_of_beq q.1.1
  have q2:sIx items.size items.size hi - sIx items.size 0 lo=items.size:=eq_of_beq q.2
  exact hw ⟨by lia,by lia⟩
 show wpAny _ _ (if (((sIx items.size 0 lo:Nat):Int)==0&&(1:Int)==1&&(sIx items.size items.size hi - sIx items.size 0 lo)==items.size)=true then _ else _) _ _ s
 rw [if_neg hno,au9]
 first
  |exact aa (m:=eJ _) (bN (af ⟨_,rfl,af h⟩) htake)
  |exact aa (m:=eJ _) (bN (aa (af (af ⟨_,rfl,af h⟩))) htake)
  |exact aa (aa (m:=eJ _) (bN (af (af ⟨_,rfl,af h⟩)) htake))
  |exact aa (aa (m:=eJ _) (bN (af ⟨_,rfl,af h⟩) htake))
end HT
namespace L2
open PySem PySem.Spec PyProof.Rows
abbrev TO:=St -> Hp -> (Option Int -> Hp -> Prop) -> Prop
def PO(X:Cx)(e:Option Expr)(t:TO):Prop:=
 ∀(pins:List (Addr×Obj)) (s:ag) (σ:St) (H:Hp) (Q:Option Int -> Hp -> Prop),Inv X pins σ H s -> t σ H Q ->
  wpAny (model X.prog X.w) X.A (evalPart e X.env) (λu s'=> ∃o H',Inv X pins σ H' s'/\gI u o/\Q o H') X.xe s
noncomputable def axt:TO:=λ_ H Q=> Q none H
noncomputable def a33(t:TE):TO:=λσ H Q=> t σ H λx H1=> ∃i,x=.int i/\Q (some i) H1
section
variable{X:Cx}{e:Expr}{te:TE}{lo hi:Option Expr}{tl th:TO}{pos p2:Pos}
theorem awo:PO X none axt:=by
 (first|refine⟨?_⟩|skip);intro pins s σ H Q I h
 rw [evalPart_none]
 exact af ⟨none,H,I,.none,h⟩
theorem awb(h:PE X e te):PO X (some e) (a33 te):=by
 (first|refine⟨?_⟩|skip);intro pins s σ H Q I hw
 rw [evalPart_some]
 refine thn (h pins s σ H _ I hw) λu s1 ⟨x,H1,I1,r1,q1⟩=> ?_
 obtain⟨i,rfl,q⟩:=q1
 obtain⟨t,rfl⟩:=r1
 exact⟨some i,H1,I1,.int i t,q⟩
def SlR(X:Cx)(r:V -> Option Int -> Option Int -> Hp -> VK -> Prop):Prop:=
 ∀(pins:List (Addr×Obj)) (s:ag) (σ:St) (H:Hp) (x:V) (v vl vu:ae) (lo hi:Option Int) (sl:Addr) (Q:VK),Inv X pins σ H s -> RelV x v -> s.heap.IsSliceOf sl vl vu .none -> gI vl lo -> gI vu hi -> r x lo hi H Q ->
  ∃T id,typeLookup (.type T) "__getitem__"=pure (some (.builtin id))/\s.TypeIs v T/\wpAny (model X.prog X.w) X.A (getItem v (.ref sl)) (EP X pins σ Q) X.xe s
theorem SlR.or{r r':V -> Option Int -> Option Int -> Hp -> VK -> Prop}(h:SlR X r)(h':SlR X r'):SlR X (λx lo hi H Q=> r x lo hi H Q\/r' x lo hi H Q):=by
 (first|refine⟨?_⟩|skip);intro pins s σ H x v vl vu lo hi sl Q I rx hs pl pu q
 rcases q with q|q
 ·exact h pins s σ H x v vl vu lo hi sl Q I rx hs pl pu q
 ·exact h' pins s σ H x v vl vu lo hi sl Q I rx hs pl pu q
noncomputable def tSl(r:V -> Option Int -> Option Int -> Hp -> VK -> Prop)(te:TE)(tl th:TO):TE:=λσ H Q=> te σ H λx H1=> tl σ H1 λl H2=> th σ H2 λu H3=> r x l u H3 Q
theorem avf{r:V -> Option Int -> Option Int -> Hp -> VK -> Prop}(hr:SlR X r)(he:PE X e te)(hl:PO X lo tl)(hu:PO X hi th):PE X (.Subscript e (.Slice lo hi none p2) pos) (tSl r te tl th):=by
 (first|refine⟨?_⟩|skip);intro pins s σ H Q I h
 refine Subscript_ (thn (he pins s σ H _ I h) λv s1 ⟨x,H1,I1,r1,q1⟩=> ?_)
 refine wpAny_Slice (thn (hl pins s1 σ H1 _ I1 q1) λvl s2 ⟨l,H2,I2,pl,q2⟩=> thn (hu pins s2 σ H2 _ I2 q2) λvu s3 ⟨u,H3,I3,pu,q3⟩=> ?_)
 rw [evalPart_none]
 refine af ?_
 have I4:Inv X pins σ H3 {s3 with heap:=s3.heap.push {cls:=.type "slice",data:=.fields #[vl,vu,.none]}}:=I3.kept (t':=s3.toks) λb ob q=> aj _ q
 obtain⟨T,id,hT,ht,hg⟩:=hr pins {s3 with heap:=s3.heap.push {cls:=.type "slice",data:=.fields #[vl,vu,.none]}} σ H3 x v vl vu l u s3.heap.objs.size Q I4 r1 (Heap.IsSliceOf.new ..) pl pu q3
 show wpAny (model X.prog X.w) X.A (lU e (.Slice lo hi none p2) v (.ref s3.heap.objs.size)) (EP X pins σ Q) X.xe {s3 with heap:=s3.heap.push {cls:=.type "slice",data:=.fields #[vl,vu,.none]}}
 exact tail_any (ops:=[.ref s3.heap.objs.size,v]) ht hT hg (by with_unfolding_all rfl)
def yz(xs:List V)(lo hi:Option Int):List V:=(xs.drop (HT.sIx xs.length 0 lo)).take (HT.sIx xs.length xs.length hi - HT.sIx xs.length 0 lo)
theorem af5(xs:List V)(lo hi:Option Int):(yz xs lo hi).length <=xs.length:=by
 unfold yz
 rw [bc,dC]
 lia
def a5w(K:am):V -> Option Int -> Option Int -> Hp -> VK -> Prop:=λx lo hi H Q=> ∃a xs,x=.ref a/\SqT K H a xs/\
 ¬(HT.sIx xs.length 0 lo=0/\HT.sIx xs.length xs.length hi=xs.length)/\ ∀p,H p=none -> Q (.ref p) (upd H p (.tup (yz xs lo hi)))
theorem aq5:SlR X (a5w X.K):=by
 (first|refine⟨?_⟩|skip);intro pins s σ H x v vl vu lo hi sl Q I rx hs pl pu h
 obtain⟨a,xs,rfl,hx,hw,q⟩:=h
 cases rx
 obtain⟨its,r,ht,hz⟩:=I.tuple hx
 have hlen:its.toArray.size=xs.length:=by rw [aE];exact r.length.symm
 refine⟨"tuple",_,cr.lookup,ht.typeIs,?_⟩
 refine HT.getItem_tuple_cut ht hs pl pu (by rw [hlen];exact hw) ?_ (by rw [hlen];exact hz)
 rw [hlen]
 refine⟨.ref s.heap.objs.size,_,I.laid (t':=s.toks) (o:=.tup (yz xs lo hi)) (λb ob q=> aj _ q) (av _) ?_,rfl,q _ (I.hok.fresh (av _))⟩
 exact⟨br (af5 xs lo hi) hz,_,(r.drop (HT.sIx xs.length 0 lo)).take (HT.sIx xs.length xs.length hi - HT.sIx xs.length 0 lo),ae1.new _ _⟩
def a45(K:am):R2:=λx y H Q=> ∃a b xs ys,x=.ref a/\y=.ref b/\SqT K H a xs/\SqT K H b ys/\xs≠ []/\xs.length+ys.length <=sizeLine/\
 (ys=[] -> Q (.ref a) H)/\(ys≠ [] -> ∀p,H p=none -> Q (.ref p) (upd H p (.tup (xs++ys))))
theorem ji.nil_iff(r:ji xs us):us=[] ↔ xs=[]:=by
 cases r with
 |nil=> simp
 |cons _ _=> simp
theorem ayg:OpR X (binaryOp .Add) (a45 X.K):=by
 (first|refine⟨?_⟩|skip);intro pins s σ H x y v u Q I rx ry h
 obtain⟨a,b,xs,ys,rfl,rfl,ha,hb,hx,hz,q1,q2⟩:=h
 cases rx
 cases ry
 obtain⟨its,r1,p1,_⟩:=I.tuple ha
 obtain⟨its2,r2,p2,_⟩:=I.tuple hb
 refine HT.cat_tup p1 p2 (λz=> hx (r1.nil_iff.mp z)) (λz=> ⟨.ref a,H,I,rfl,q1 (r2.nil_iff.mp z)⟩) (λz=> ?_) (by rw [←r1.length,←r2.length];exact hz)
 refine⟨.ref s.heap.objs.size,_,I.laid (t':=s.toks) (o:=.tup (xs++ys)) (λb ob q=> aj _ q) (av _) ?_,rfl,q2 (λw=> z (r2.nil_iff.mpr w)) _ (I.hok.fresh (av _))⟩
 exact⟨by rw [aQ];exact hz,_,r1.append r2,ae1.new _ _⟩
end
noncomputable def ixN(n:Nat)(i:Int):Option Nat:=if 0 <=i then (if i < n then some i.toNat else none) else if -(n:Int) <=i then some (i+n).toNat else none
def atI{α:Type}(xs:List α)(i:Int):Option α:=(ixN xs.length i).bind λj=> xs[j]?
theorem an7{i:Int}(h:ixN n i=some j):seqIndex? i n=some j/\j < n/\ -(n:Int) <=i/\i < n:=by
 unfold ixN at h
 by_cases h0:0 <=i
 ·rw [if_pos h0]at h
  by_cases h1:i < n
  ·rw [if_pos h1]at h
   have e:i.toNat=j:=b8 h
   exact⟨by rw [mO h0 h1,e],by lia,by lia,h1⟩
  ·rw [if_neg h1]at h;cases h
 ·rw [if_neg h0]at h
  by_cases h1: -(n:Int) <=i
  ·rw [if_pos h1]at h
   have e:(i+n).toNat=j:=b8 h
   exact⟨by rw [mB (by lia) h1,e],by lia,h1,by lia⟩
  ·rw [if_neg h1]at h;cases h
theorem ahh{α:Type}{xs:List α}{i:Int}{v:α}(h:atI xs i=some v): ∃j,seqIndex? i xs.length=some j/\xs[j]?=some v/\j < xs.length/\ -(xs.length:Int) <=i/\i < xs.length:=by
 unfold atI at h
 cases e:ixN xs.length i with
 |none=> rw [e]at h;cases h
 |some j=>
  rw [e]at h
  obtain⟨h1,h2,h3,h4⟩:=an7 e
  exact⟨j,h1,h,h2,h3,h4⟩
theorem ahi{α:Type}{xs:List α}{v:α}(h:xs[j]?=some v):atI xs (j:Int)=some v:=by
 have hj:j < xs.length:=(aB.mp h).1
 have e:ixN xs.length (j:Int)=some j:=by
  unfold ixN
  rw [if_pos (by lia),if_pos (by lia)];simp
 unfold atI;rw [e];exact h
def ah0(b:Expr):Prop:= ∀o i,mP b false o i=operate [o,i] (getItem o i)
def IxR(X:Cx)(r:R2):Prop:=
 ∀(value slice:Expr) (pins:List (Addr×Obj)) (s:ag) (σ:St) (H:Hp) (x y:V) (v u:ae) (Q:VK),Inv X pins σ H s -> RelV x v -> RelV y u -> r x y H Q ->
  mP slice false v u=operate [v,u] (getItem v u) -> wpAny (model X.prog X.w) X.A (lU value slice v u) (EP X pins σ Q) X.xe s
def MtR(X:Cx)(id:String)(r:V -> List V -> Hp -> VK -> Prop):Prop:=
 ∀(pins:List (Addr×Obj)) (s:ag) (σ:St) (H:Hp) (x:V) (xs:List V) (v:ae) (us:List ae) (Q:VK),Inv X pins σ H s -> RelV x v -> ji xs us -> r x xs H Q ->
  wpAny (model X.prog X.w) X.A (call (.builtin id) (v::us)) (EP X pins σ Q) X.xe s
section
variable{X:Cx}{a b:Expr}{ta tb:TE}{pos:Pos}
theorem IxR.or{r r':R2}(h:IxR X r)(h':IxR X r'):IxR X (λx y H Q=> r x y H Q\/r' x y H Q):=by
 intro value slice pins s σ H x y v u Q I rx ry q hs
 rcases q with q|q
 ·exact h value slice pins s σ H x y v u Q I rx ry q hs
 ·exact h' value slice pins s σ H x y v u Q I rx ry q hs
theorem aw4{r:R2}(hr:IxR X r)(ha:PE X a ta)(hb:PE X b tb)(hs:ah0 b):PE X (.Subscript a b pos) (tOp r ta tb):=by
 (first|refine⟨?_⟩|skip);intro pins s σ H Q I h
 exact Subscript_ (atz ha hb I h λv u s2 x y H2 I2 rx ry q=> hr a b pins s2 σ H2 x y v u Q I2 rx ry q (hs _ _))
def a2c(K:am):R2:=λx y H Q=> ∃p xs i v,x=.ref p/\y=.int i/\SqL K H p xs/\atI xs i=some v/\Q v H
def a2y(K:am):R2:=λx y H Q=> ∃p xs i v,x=.ref p/\y=.int i/\SqT K H p xs/\atI xs i=some v/\Q v H
def a1q:R2:=λx y H Q=> ∃z i c,x=.str z/\y=.int i/\z.length <=sizeLine/\atI z.cps.toList i=some c/\Q (.str ⟨#[c]⟩) H
theorem axz:IxR X (a2c X.K):=by
 intro value slice pins s σ H x y v u Q I rx ry h hs
 obtain⟨p,xs,i,z,rfl,rfl,hq,he,q⟩:=h
 cases rx
 obtain⟨t,rfl⟩:=ry
 obtain⟨its,r,pl,hz⟩:=I.list hq
 obtain⟨j,h1,h2,h3,h4,h5⟩:=ahh he
 obtain⟨w,ew,rw'⟩:=r.get h2
 have hl:=r.length
 have hn:=abk
 have fin:EP X pins σ Q w s:=⟨z,H,I,rw',q⟩
 by_cases h0:0 <=i
 ·have hj:i.toNat=j:=by
   rw [mO h0 h5]at h1
   exact b8 h1
  exact item_listR pl.isList h0 (by lia) (by rw [hj];simpa using ew) fin hs
 ·have hj:(i+(its.toArray.size:Int)).toNat=j:=by
   rw [mB (by lia) h4]at h1
   rw [aE,←hl]
   exact b8 h1
  exact kF (x:=w) pl.isList.typeIs slot_list_getitem.lookup
   (wpAny_getItem_list_neg (Q:=λr s'=> r=w/\EP X pins σ Q r s') pl.isList (by lia) (by rw [aE] <;> lia) (by lia) (by rw [hj];simpa using ew) ⟨rfl,fin⟩) hs
theorem a2o:IxR X (a2y X.K):=by
 intro value slice pins s σ H x y v u Q I rx ry h hs
 obtain⟨p,xs,i,z,rfl,rfl,hq,he,q⟩:=h
 cases rx
 obtain⟨t,rfl⟩:=ry
 obtain⟨its,r,pl,hz⟩:=I.tuple hq
 obtain⟨j,h1,h2,h3,h4,h5⟩:=ahh he
 obtain⟨w,ew,rw'⟩:=r.get h2
 have hl:=r.length
 have hn:=abk
 have fin:EP X pins σ Q w s:=⟨z,H,I,rw',q⟩
 exact kF (x:=w) pl.typeIs slot_tuple_getitem.lookup
  (getItem_tuple (j:=j) (Q:=λr s'=> r=w/\EP X pins σ Q r s') pl (by lia) (by lia) (by rw [aE,←hl];exact h1) (by simpa using ew) ⟨rfl,fin⟩) hs
theorem a10:IxR X a1q:=by
 intro value slice pins s σ H x y v u Q I rx ry h hs
 obtain⟨z,i,c,rfl,rfl,hz,he,q⟩:=h
 obtain⟨t,rfl⟩:=rx
 obtain⟨t',rfl⟩:=ry
 obtain⟨j,h1,h2,h3,h4,h5⟩:=ahh he
 have hl:z.cps.toList.length=z.length:=by simp [Str.length]
 rw [hl]at h1 h4 h5
 have hn:=abk
 exact tail_any (typeIs_str s z t) slot_str_getitem.lookup (getItem_str (c:=c) (by
  have e1:decide (i < -(2^63:Int))=false:=decide_eq_false (by lia)
  have e2:decide (i≥2^63)=false:=decide_eq_false (by lia)
  rw [e1,e2,Bool.or_false]) (by rw [h1];simpa using h2) ⟨.str ⟨#[c]⟩,H,I.tok _,⟨_,rfl⟩,q⟩) hs
def rIx(K:am):R2:=λx y H Q=> a2c K x y H Q\/a2y K x y H Q\/a1q x y H Q
theorem aq3:IxR X (rIx X.K):=axz.or (a2o.or a10)
theorem ani(its:List ae)(n j:Nat)(u:ae):eg (·.setIfInBounds j u) {cls:=.type "list",data:=.seq its.toArray n}={cls:=.type "list",data:=.seq (its.set j u).toArray n}:=by
 simp [eg]
theorem Inv.lst(I:Inv X pins σ H s)(h:H p=some (.lst xs)):
  ∃(its:List ae) (n:Nat),ji xs its/\s.heap.get? p=some {cls:=.type "list",data:=.seq its.toArray n}/\xs.length <=sizeLine:=by
 obtain⟨z,its,n,r,e⟩:=I.hok p _ h
 exact⟨its,n,r,e,z⟩
theorem Inv.lstUpd{ys:List V}{its':List ae}{n':Nat}{f:Obj -> Obj}(I:Inv X pins σ H s)(h:H p=some (.lst xs))(ho:s.heap.get? p=some {cls:=.type "list",data:=.seq its.toArray n})(hf:f {cls:=.type "list",data:=.seq its.toArray n}={cls:=.type "list",data:=.seq its'.toArray n'})(r:ji ys its')(hz:ys.length <=sizeLine)(t:Nat):
  Inv X pins σ (upd H p (.lst ys)) {s with heap:=s.heap.update p f,toks:=t}:=by
 have e:(s.heap.update p f).get? p=some {cls:=.type "list",data:=.seq its'.toArray n'}:=by
  rw [bD f ho (by rw [hf] <;> rfl),hf]
 refine I.write (x:=p) (e:=p) (by rw [h];trivial) (.inl rfl) (λb u hb q=> (bY _ _ (cF hb)).trans q) ⟨_,e⟩ ?_
 exact⟨hz,its',n',r,e⟩
def a35:V -> V -> V -> Hp -> (Hp -> Prop) -> Prop:=λo i v H Q=> ∃p xs k j,o=.ref p/\i=.int k/\H p=some (.lst xs)/\ixN xs.length k=some j/\Q (upd H p (.lst (xs.set j v)))
theorem ava:afe X a35:=by
 (first|refine⟨?_⟩|skip);intro pins s σ H o i v ov iv u Q I ro ri rv h
 obtain⟨p,xs,k,j,rfl,rfl,hp,hj,q⟩:=h
 cases ro
 obtain⟨t,rfl⟩:=ri
 obtain⟨its,n,r,ho,hz⟩:=I.lst hp
 obtain⟨h1,h2,h3,h4⟩:=an7 hj
 have hl:=r.length
 have hn:=abk
 have I':Inv X pins σ (upd H p (.lst (xs.set j v))) {s with heap:=s.heap.update p (eg (·.setIfInBounds j u))}:=
  I.lstUpd hp ho (ani its n j u) (r.set rv j) (by rw [List.length_set];exact hz) s.toks
 by_cases h0:0 <=k
 ·have hk:k.toNat=j:=by
   rw [mO h0 h4]at h1
   exact b8 h1
  exact PySem.W.ki_setAt ho h0 (by lia) (by rw [aE,←hl];exact h4) (by rw [hk];exact⟨_,I',q⟩)
 ·have hk:(k+(its.toArray.size:Int)).toNat=j:=by
   rw [mB (by lia) h3]at h1
   rw [aE,←hl]
   exact b8 h1
  exact PySem.W.ki_setBack ho (by lia) (by rw [aE,←hl];exact h3) (by lia) (by rw [hk];exact⟨_,I',q⟩)
theorem akl(lo hi:Option Int)(n:Nat):(fT lo hi none n).1=((HT.sIx n 0 lo:Nat):Int)/\(fT lo hi none n).2.1=((HT.sIx n n hi:Nat):Int)/\(fT lo hi none n).2.2=1:=by
 refine⟨?_,?_,rfl⟩
 ·cases lo with
  |none=> simp [fT,HT.sIx]
  |some i=>
   simp only [fT,HT.sIx,jC,show (1:Int)> 0 by decide,if_true]
   by_cases h:i < 0
   ·simp only [h,if_true] <;> lia
   ·simp only [h,if_false] <;> lia
 ·cases hi with
  |none=> simp [fT,HT.sIx]
  |some i=>
   simp only [fT,HT.sIx,jC,show (1:Int)> 0 by decide,if_true]
   by_cases h:i < 0
   ·simp only [h,if_true] <;> lia
   ·simp only [h,if_false] <;> lia
theorem aj0(its:List ae)(lo hi:Option Int):slicePick its.toArray lo hi none=((its.drop (HT.sIx its.length 0 lo)).take (HT.sIx its.length its.length hi - HT.sIx its.length 0 lo)).toArray:=by
 obtain⟨h1,h2,h3⟩:=akl lo hi its.toArray.size
 unfold slicePick
 rw [h1,h2,h3]
 simp only [sliceRange_one,pick_run,aE] <;> rfl
def a67(K:am):V -> Option Int -> Option Int -> Hp -> VK -> Prop:=λx lo hi H Q=> ∃a xs,x=.ref a/\SqL K H a xs/\ ∀p,H p=none -> Q (.ref p) (upd H p (.lst (yz xs lo hi)))
theorem ax4:SlR X (a67 X.K):=by
 (first|refine⟨?_⟩|skip);intro pins s σ H x v vl vu lo hi sl Q I rx hs pl pu h
 obtain⟨a,xs,rfl,hx,q⟩:=h
 cases rx
 obtain⟨its,r,ht,hz⟩:=I.list hx
 have hlen:=r.length
 refine⟨"list",_,slot_list_getitem.lookup,ht.isList.typeIs,?_⟩
 refine wpAny_getItem_list_slice ht.isList hs pl pu .none (by simp) ?_ (by rw [aE] <;> lia)
 rw [aj0,←hlen]
 refine⟨.ref s.heap.objs.size,_,I.laid (t':=s.toks) (o:=.lst (yz xs lo hi)) (λb ob q=> aj _ q) (av _) ?_,rfl,q _ (I.hok.fresh (av _))⟩
 exact⟨br (af5 xs lo hi) hz,_,0,(r.drop (HT.sIx xs.length 0 lo)).take (HT.sIx xs.length xs.length hi - HT.sIx xs.length 0 lo),ay _ rfl⟩
theorem ajg:vk X (.builtin "len") (λxs H Q=> ∃p ys,xs=[.ref p]/\(SqL X.K H p ys\/SqT X.K H p ys)/\Q (.int ys.length) H):=by
 (first|refine⟨?_⟩|skip);intro pins s σ H xs us Q I r h
 obtain⟨p,ys,rfl,hq,q⟩:=h
 obtain⟨u,rfl,rx⟩:=vals1 r
 cases rx
 have hn:=abk
 rcases hq with hq|hq
 ·obtain⟨its,r',pl,hz⟩:=I.list hq
  have hlen:=r'.length
  exact Calls.call_len_list pl.isList (by simp only [aE] <;> lia) ⟨.int ys.length,H,I.tok _,⟨s.toks+1,by rw [aE,hlen]⟩,q⟩
 ·obtain⟨its,r',pl,hz⟩:=I.tuple hq
  have hlen:=r'.length
  exact len_tuple pl (by simp only [aE] <;> lia) ⟨.int ys.length,H,I.tok _,⟨s.toks+1,by rw [aE,hlen]⟩,q⟩
theorem akh:vk X (.builtin "len") (λxs H Q=> ∃z,xs=[.str z]/\z.length <=sizeLine/\Q (.int z.length) H):=by
 (first|refine⟨?_⟩|skip);intro pins s σ H xs us Q I r h
 obtain⟨z,rfl,hz,q⟩:=h
 obtain⟨u,rfl,t,rfl⟩:=vals1 r
 have hn:=abk
 exact len_str (by lia) ⟨.int z.length,H,I.tok _,⟨_,rfl⟩,q⟩
theorem aiz:vk X (.type "tuple") (λxs H Q=> ∃p ys,xs=[.ref p]/\((SqL X.K H p ys/\ ∀l,H l=none -> Q (.ref l) (upd H l (.tup ys)))\/(SqT X.K H p ys/\Q (.ref p) H))):=by
 (first|refine⟨?_⟩|skip);intro pins s σ H xs us Q I r h
 obtain⟨p,ys,rfl,h⟩:=h
 obtain⟨u,rfl,rx⟩:=vals1 r
 cases rx
 rcases h with ⟨hq,q⟩|⟨hq,q⟩
 ·obtain⟨its,r',pl,hz⟩:=I.list hq
  have hlen:=r'.length
  refine call_tuple_list pl.isList (λh' kp=> ?_) (by simp only [aE] <;> lia)
  have I1:Inv X pins σ H {s with heap:=h'}:=I.kept (t':=s.toks) kp
  have I2:Inv X pins σ (upd H h'.objs.size (.tup ys)) {s with heap:=h'.push {cls:=.type "tuple",data:=.seq its.toArray}}:=
   I1.laid (t':=s.toks) (λb o e=> aj _ e) (av _) (show jq X.prog X.w _ _ _ (.tup ys) from ⟨hz,its,r',ae1.new _ _⟩)
  exact⟨.ref h'.objs.size,_,I2,rfl,q _ (I1.hok.fresh (av _))⟩
 ·obtain⟨its,r',pl,hz⟩:=I.tuple hq
  exact call_tuple_same pl ⟨.ref p,H,I,rfl,q⟩
def tyV(K:am)(T:String)(x:V)(H:Hp):Prop:=match x with
 |.str _=> T="str"
 |.int _=> T="int"
 | .ref p=> (T="list"/\ ∃xs,SqL K H p xs)\/(T="tuple"/\ ∃o,K.lookup p=some o/\o.cls=.type "tuple"/\o.dict=none)\/
   (T="dict"/\((∃kvs,H p=some (.dK kvs))\/ ∃kvs,H p=some (.dT kvs)))\/(T="set"/\ ∃S n,H p=some (.set S n))
 |_=> False
theorem aqo{x:V}{v:ae}(I:Inv X pins σ H s)(r:RelV x v)(ty:tyV X.K T x H):
  s.TypeIs v T/\ ∀a,v=.ref a -> ∃ob,s.heap.get? a=some ob/\ob.dict=none:=by
 cases x with
 |str z=>
  obtain⟨t,rfl⟩:=r
  cases (show T="str" from ty)
  exact⟨typeIs_str s z t,λ_ e=> nomatch e⟩
 |int i=>
  obtain⟨t,rfl⟩:=r
  cases (show T="int" from ty)
  exact⟨typeIs_int s i t,λ_ e=> nomatch e⟩
 | ref p=>
  cases r
  rcases ty with ⟨rfl,xs,hq⟩|⟨rfl,o,hk,hc,hd⟩|⟨rfl,hk⟩|⟨rfl,S,n,hk⟩
  ·obtain⟨its,_,pl,_⟩:=I.list hq
   refine⟨pl.isList.typeIs,λa e=> ?_⟩
   cases e
   obtain⟨o,n,e,c,hd,_⟩:=pl
   exact⟨o,e,hd⟩
  ·refine⟨⟨o,I.kIn p o hk,hc⟩,λa e=> ?_⟩
   cases e
   exact⟨o,I.kIn _ o hk,hd⟩
  ·have z: ∃o,s.heap.get? p=some o/\o.ExactDict:=by
    rcases hk with ⟨kvs,hk⟩|⟨kvs,hk⟩
    ·obtain⟨_,_,_,_,_,o,_,_,e,ex,_⟩:=I.hok p _ hk
     exact⟨o,e,ex⟩
    ·obtain⟨_,_,_,_,o,_,_,e,ex,_⟩:=I.hok p _ hk
     exact⟨o,e,ex⟩
   obtain⟨o,e,ex⟩:=z
   refine⟨⟨o,e,ex.1⟩,λa e2=> ?_⟩
   cases e2
   exact⟨o,e,ex.2.1⟩
  ·obtain⟨o,_,_,_,e,ex,_⟩:=I.hok p _ hk
   refine⟨⟨o,e,ex.1⟩,λa e2=> ?_⟩
   cases e2
   exact⟨o,e,ex.2.1⟩
 |_=> exact eY ty
noncomputable def a60(K:am)(T:String)(r:V -> List V -> Hp -> VK -> Prop)(to:TE):TE:=λσ H Q=> to σ H λx H1=> tyV K T x H1/\r x [] H1 Q
noncomputable def tBM(K:am)(T:String)(r:V -> List V -> Hp -> VK -> Prop)(to:TE)(t:TA):TE:=λσ H Q=> to σ H λx H1=> tyV K T x H1/\t σ H1 λxs H2=> r x xs H2 Q
variable{o e:Expr}{es:List Expr}{to:TE}{t:TA}{name:Str}{apos cpos:Pos}{T id:String}{r:V -> List V -> Hp -> VK -> Prop}
theorem a0j(pa:PlainAttrs T)(slot:Slot T name id)(hty:typeOf (.builtin id)=pure (.type "method_descriptor"))(hm:MtR X id r)(ho:PE X o to)
  (hbase:fQ o name X.env (eval o X.env)=eval o X.env:=by rfl) (hline:(apos.endLine==cpos.line)=true:=by rfl):PE X (.Call (.Attribute o name apos) [] [] cpos) (a60 X.K T r to):=by
 (first|refine⟨?_⟩|skip);intro pins s σ H Q I h
 refine wpAny_Call_method0_late hbase hline (thn (ho pins s σ H _ I h) λv s1 ⟨x,H1,I1,r1,ty,q1⟩=> ?_)
 obtain⟨h1,h2⟩:=aqo I1 r1 ty
 exact⟨T,id,pa,slot,hty,h1,h2,kG rfl (PySem.evalArgs_none (hm pins s1 σ H1 x [] v [] Q I1 r1 .nil q1))⟩
theorem a4m(pa:PlainAttrs T)(slot:Slot T name id)(hty:typeOf (.builtin id)=pure (.type "method_descriptor"))(hm:MtR X id r)(ho:PE X o to)(ha:PA X (e::es) t)
  (hbase:fQ o name X.env (eval o X.env)=eval o X.env:=by rfl)
  (hfew:((backTo cpos (starEach (e::es) X.env)).all (λx=> !x.1)&&(backToKw cpos (kH [] X.env)).all (λx=> x.1.isSome)
   &&decide ((e::es).length+([]:List ig).length+(if ([]:List ig).isEmpty then 0 else 1) < 30))=true:=by rfl)
  (hline:(apos.endLine==cpos.line)=true:=by rfl) (hs:starEach (e::es) X.env=(false,eval e X.env)::starEach es X.env:=by rfl) (hplain:(backTo cpos (starEach es X.env)).any (·.1)=false:=by rfl):
  PE X (.Call (.Attribute o name apos) (e::es) [] cpos) (tBM X.K T r to t):=by
 (first|refine⟨?_⟩|skip);intro pins s σ H Q I h
 refine wpAny_Call_method_late hbase hfew hline rfl (thn (ho pins s σ H _ I h) λv s1 ⟨x,H1,I1,r1,ty,q1⟩=> ?_)
 obtain⟨h1,h2⟩:=aqo I1 r1 ty
 refine⟨T,id,pa,slot,hty,h1,h2,?_⟩
 have hA:=ha cpos pins s1 σ H1 _ I1 q1
 rw [hs]at hA⊢
 refine kG (by show (false||(backTo cpos (starEach es X.env)).any (·.1))=false;rw [hplain] <;> rfl) (Calls.evalArgs_plain ?_)
 exact thn hA λus s2 ⟨vs,H2,I2,r2,q2⟩=> hm pins s2 σ H2 x vs v us Q I2 r1 r2 q2
end
def MtM(X:Cx)(id:String)(r:V -> List V -> Hp -> VK -> Prop):Prop:=
 ∀(pins:List (Addr×Obj)) (s:ag) (σ:St) (H:Hp) (x:V) (xs:List V) (v:ae) (us:List ae) (Q:VK),Inv X pins σ H s -> RelV x v -> ji xs us -> r x xs H Q ->
  wpAny (model X.prog X.w) X.A (call (.builtin id) (v::us)) (EP X pins σ Q) X.xe s
theorem ji.one: ∀{x:V} {us:List ae},ji [x] us -> ∃u,us=[u]/\RelV x u
 |_,_,.cons r .nil=> ⟨_,rfl,r⟩
section
variable{X:Cx}{pins:List (Addr×Obj)}{σ:St}{H:Hp}{s:ag}{l b:Addr}{xs ys zs:List V}
theorem Inv.lset{its':List ae}{f:Array ae -> Array ae}{t':Nat}(I:Inv X pins σ H s)(hH:H l=some (.lst xs))(e:s.heap.get? l=some {cls:=.type "list",data:=.seq its.toArray n})(hf:f its.toArray=its'.toArray)(hv:ji ys its')(hz:ys.length <=sizeLine):
  Inv X pins σ (upd H l (.lst ys)) {s with heap:=s.heap.update l (eg f),toks:=t'}:=by
 have q:=PySem.IsL.update e f
 rw [hf]at q
 refine I.write (x:=l) (e:=l) (by rw [hH];exact trivial) (.inl rfl) (λb' u hb hu=> (bY s.heap (eg f) (cF hb)).trans hu) ⟨_,q⟩ ?_
 exact⟨hz,its',_,hv,q⟩
theorem Inv.lnew{t':Nat}(I:Inv X pins σ H s)(hv:ji ys its)(hz:ys.length <=sizeLine):
  Inv X pins σ (upd H s.heap.objs.size (.lst ys)) {s with heap:=s.heap.push {cls:=.type "list",data:=.seq its.toArray},toks:=t'}:=
 I.laid (λ_ _ q=> aj _ q) (av _) ⟨hz,its,0,hv,ay _ rfl⟩
theorem Inv.fresh(I:Inv X pins σ H s):H s.heap.objs.size=none:=I.hok.fresh (av _)
theorem Inv.lstM(I:Inv X pins σ H s)(hH:H l=some (.lst xs)):xs.length <=sizeLine/\ ∃(its:List ae) (n:Nat),ji xs its/\xs.length=its.length/\s.heap.get? l=some {cls:=.type "list",data:=.seq its.toArray n}:=by
 obtain⟨z,its,n,r,e⟩:=I.hok l _ hH
 exact⟨z,its,n,r,r.length,e⟩
end
def awj:V -> List V -> Hp -> VK -> Prop:=λx vs H Q=> ∃l xs y,x=.ref l/\vs=[y]/\H l=some (.lst xs)/\xs.length < sizeLine/\Q .non (upd H l (.lst (xs++ [y])))
theorem ai8:MtM X "list.append" awj:=by
 (first|refine⟨?_⟩|skip);intro pins s σ H x vs v us Q I rx rv h
 obtain⟨l,xs,y,rfl,rfl,hH,hz,q⟩:=h
 cases rx
 obtain⟨u,rfl,ru⟩:=rv.one
 obtain⟨z,its,n,r,hl,e⟩:=I.lstM hH
 refine call_meets F.slot_list_append ⟨_,e,rfl⟩ F.entry_list_append (F.args_list_append_2 _ _) (PySem.list_append l its.toArray n u (by rw [aE];lia)) ⟨e,?_⟩
 refine⟨.non,_,I.lset (its':=its++ [u]) hH e (by simp) (r.append (.cons ru .nil)) ?_,rfl,q⟩
 rw [aQ,fD]
 lia
def a6c:R2:=λx y H Q=> ∃l b xs zs,x=.ref l/\y=.ref b/\H l=some (.lst xs)/\H b=some (.lst zs)/\xs.length+zs.length <=sizeLine/\ ∀p,H p=none -> Q (.ref p) (upd H p (.lst (xs++zs)))
theorem a2l:OpR X (binaryOp .Add) a6c:=by
 (first|refine⟨?_⟩|skip);intro pins s σ H x y v u Q I rx ry h
 obtain⟨l,b,xs,zs,rfl,rfl,hH,hB,hz,q⟩:=h
 cases rx
 cases ry
 obtain⟨z,its,n,r,hl,e⟩:=I.lstM hH
 obtain⟨z2,its2,n2,r2,hl2,e2⟩:=I.lstM hB
 refine PySem.P.add_list e e2 ?_ (by rw [aE,aE];lia)
 have ea:its.toArray++its2.toArray=(its++its2).toArray:=by simp
 rw [ea]
 exact⟨.ref _,_,I.lnew (t':=s.toks) (r.append r2) (by rw [aQ];lia),rfl,q _ I.fresh⟩
section
variable{κ:Type}[DecidableEq κ]
noncomputable def vq(kvs:List (κ×V))(k:κ):Option V:=(kvs.find? λkv=> decide (kv.1=k)).map (·.2)
noncomputable def jv(kvs:List (κ×V))(k:κ)(v:V):List (κ×V):=
 if (kvs.any λkv=> decide (kv.1=k))=true then kvs.map (λkv=> if kv.1=k then (kv.1,v) else kv) else kvs++ [(k,v)]
theorem yw{p:κ×V}{r:List (κ×V)}{k:κ}(e:p.1=k):vq (p::r) k=some p.2:=by simp [vq,cw,e]
theorem yx{p:κ×V}{r:List (κ×V)}{k:κ}(e: ¬p.1=k):vq (p::r) k=vq r k:=by simp [vq,cw,e]
theorem ab7(k:κ): ∀kvs:List (κ×V),(kvs.any λkv=> decide (kv.1=k))=(vq kvs k).isSome
 |[]=> rfl
 |p::r=> by
  rw [dw]
  by_cases e:p.1=k
  ·simp only [yw e,decide_eq_true e,Bool.true_or,Option.isSome_some]
  ·rw [yx e,decide_eq_false e,Bool.false_or];exact ab7 k r
theorem vm(kvs:List (κ×V))(k:κ)(v:V):(jv kvs k v).length <=kvs.length+1:=by
 unfold jv
 split
 ·rw [ak];lia
 ·rw [aQ,aG,bS];lia
theorem zr.isSome_eq{o:Option V}{u:Option ae}(r:zr o u):o.isSome=u.isSome:=by
 cases o with
 |none=> cases u with
  |none=> rfl
  |some _=> exact (show False from r).elim
 |some _=> cases u with
  |none=> exact (show False from r).elim
  |some _=> rfl
theorem KV.val{kvs:List (κ×V)}{vs:List (κ×ae)}(r:KV kvs vs)(k:κ):zr (vq kvs k) (valueAt vs k):=by
 unfold KV at r
 induction r with
 |nil=> exact c9
 | @cons p q ps qs h t ih=>
  obtain⟨h1,h2⟩:=h
  by_cases e:p.1=k
  ·have e':q.1=k:=h1.symm.trans e
   have b:valueAt (q::qs) k=some q.2:=by simp [valueAt,cw,e']
   rw [yw e,b];exact h2
  ·have e': ¬q.1=k:=λz=> e (h1.trans z)
   have b:valueAt (q::qs) k=valueAt qs k:=by simp [valueAt,cw,e']
   rw [yx e,b];exact ih
theorem KV.any{kvs:List (κ×V)}{vs:List (κ×ae)}(r:KV kvs vs)(k:κ):(kvs.any λkv=> decide (kv.1=k))=vs.any λkv=> decide (kv.1=k):=by
 unfold KV at r
 induction r with
 |nil=> rfl
 |cons h t ih=> rw [dw,dw,ih,h.1]
theorem KV.repl{kvs:List (κ×V)}{vs:List (κ×ae)}(r:KV kvs vs)(k:κ){y:V}(ry:RelV y u):
  KV (kvs.map λkv=> if kv.1=k then (kv.1,y) else kv) (vs.map λkv=> if kv.1=k then (kv.1,u) else kv):=by
 unfold KV at r⊢
 induction r with
 |nil=> exact .nil
 | @cons p q ps qs h t ih=>
  rw [aK,aK]
  refine .cons ?_ ih
  obtain⟨h1,h2⟩:=h
  by_cases e:p.1=k
  ·rw [if_pos e,if_pos (h1.symm.trans e)];exact⟨h1,ry⟩
  ·rw [if_neg e,if_neg (λz=> e (h1.trans z))];exact⟨h1,h2⟩
theorem KV.put{kvs:List (κ×V)}{vs:List (κ×ae)}(r:KV kvs vs)(k:κ){y:V}(ry:RelV y u):KV (jv kvs k y) (stored vs k u):=by
 unfold jv stored
 rw [r.any k]
 by_cases e:(vs.any λkv=> decide (kv.1=k))=true
 ·rw [if_pos e,if_pos e];exact r.repl k ry
 ·rw [if_neg e,if_neg e];exact mQ r ⟨rfl,ry⟩
theorem KV.length{kvs:List (κ×V)}{vs:List (κ×ae)}(r:KV kvs vs):kvs.length=vs.length:=eS r
end
theorem ad2{k:Key}(r:RelV (kV k) u):(ku P w).is k u=true:=by
 cases k with
 |inl i=> obtain⟨t,e⟩:=(show∃t,u=eV i t from r);subst e;exact alo P w i t
 |inr x=> obtain⟨t,e⟩:=(show∃t,u=iq x t from r);subst e;exact alr P w x t
theorem air{P:aL}{w:aO}: ∀{ks:List Key} {us:List ae},ji (ks.map kV) us -> ItemsAre (ku P w) ks us
 |[],_,r=> by rw [f6]at r;cases r;exact .nil
 |k::ks,_,r=> by
  rw [aK]at r
  cases r with
  |cons h t=> exact .cons (ad2 h) (air t)
abbrev KT(H:Hp):List (List Key×V) -> List (List Key×Addr×ae) -> Prop:=ir λp q=> p.1=q.1/\H q.2.1=some (.tup (p.1.map kV))/\RelV p.2 q.2.2
theorem KT.val{kvs:List (List Key×V)}{xs:List (List Key×Addr×ae)}(r:KT H kvs xs)(k:List Key):zr (vq kvs k) ((atKey xs k).map (·.2)):=by
 induction r with
 |nil=> exact c9
 | @cons p q ps qs h t ih=>
  obtain⟨h1,_,h2⟩:=h
  by_cases e:p.1=k
  ·have e':q.1=k:=h1.symm.trans e
   have b:atKey (q::qs) k=some q.2:=by simp [atKey,cw,e']
   rw [yw e,b];exact h2
  ·have e': ¬q.1=k:=λz=> e (h1.trans z)
   have b:atKey (q::qs) k=atKey qs k:=by simp [atKey,cw,e']
   rw [yx e,b];exact ih
theorem KT.repl{kvs:List (List Key×V)}{xs:List (List Key×Addr×ae)}(r:KT H kvs xs)(k:List Key){y:V}(ry:RelV y u):
  KT H (kvs.map λkv=> if kv.1=k then (kv.1,y) else kv) (xs.map (putAt k u)):=by
 induction r with
 |nil=> exact .nil
 | @cons p q ps qs h t ih=>
  rw [aK,aK]
  refine .cons ?_ ih
  obtain⟨h1,h2,h3⟩:=h
  unfold putAt
  by_cases e:p.1=k
  ·rw [if_pos e,if_pos (h1.symm.trans e)];exact⟨h1,h2,ry⟩
  ·rw [if_neg e,if_neg (λz=> e (h1.trans z))];exact⟨h1,h2,h3⟩
theorem KT.put{kvs:List (List Key×V)}{xs:List (List Key×Addr×ae)}(r:KT H kvs xs)(k:List Key){y:V}(hb:H b=some (.tup (k.map kV)))(ry:RelV y u):
  KT H (jv kvs k y) (storedH xs k b u):=by
 have e:(kvs.any λkv=> decide (kv.1=k))=(atKey xs k).isSome:=by
  rw [ab7,(r.val k).isSome_eq,cy]
 unfold jv storedH
 rw [e]
 by_cases q:(atKey xs k).isSome=true
 ·rw [if_pos q,if_pos q];exact r.repl k ry
 ·rw [if_neg q,if_neg q];exact mQ r ⟨rfl,hb,ry⟩
theorem KT.keeps{kvs:List (List Key×V)}{xs:List (List Key×Addr×ae)}(r:KT H kvs xs)(ht: ∀b ys,H b=some (.tup ys) -> H' b=some (.tup ys)):KT H' kvs xs:=
 Paired.mapP r λ_ _ z=> ⟨z.1,ht _ _ z.2.1,z.2.2⟩
theorem avq{u:HO}(ok:HOk P w H h)(e:Rd H a u):jq P w H h a u:=e.ok ok
theorem ap9{kvs:List (Key×V)}(ok:HOk P w H h)(e:Rd H a (.dK kvs)):kvs.length <=sizeLine/\(a==bP)=false/\ ∃vs,KV kvs vs/\h.DictOf (ku P w) a vs:=
 (show jq P w H h a (.dK kvs) from avq ok e).2
theorem aau{kvs:List (Key×V)}(ok:HOk P w H h)(e:H a=some (.dK kvs)):kvs.length <=sizeLine/\(a==bP)=false/\ ∃vs,KV kvs vs/\h.DictOf (ku P w) a vs:=ap9 ok (.inl e)
theorem ags{ks:List Key}(ok:HOk P w H h)(e:H a=some (.tup (ks.map kV))):(jS (ku P w)).is h ks a:=by
 obtain⟨_,its,r,p⟩:=(show jq P w H h a (.tup (ks.map kV)) from ok a _ e)
 obtain⟨o,h1,h2,n,h3⟩:=p.tup
 exact⟨o,its.toArray,n,h1,h2,h3,by simpa using air r⟩
theorem apa{kvs:List (List Key×V)}(ok:HOk P w H h)(e:Rd H a (.dT kvs)):kvs.length <=sizeLine/\(a==bP)=false/\
  ∃xs,KT H kvs xs/\h.DictOfH (jS (ku P w)) a xs:=by
 obtain⟨z,y,xs,r,o,es,ep,h1,h2,h3,h4,h5⟩:=(show jq P w H h a (.dT kvs) from avq ok e)
 refine⟨z,y,xs,r,o,es,ep,h1,h2,h3,h4,λx hx=> ?_,h5⟩
 have all: ∀{l:List (List Key×V)} {m:List (List Key×Addr×ae)},KT H l m -> ∀x∈m,(jS (ku P w)).is h x.1 x.2.1:=by
  intro l m q
  induction q with
  |nil=> intro x hx;exact nomatch hx
  | @cons p q ps qs hq t ih=>
   intro x hx
   rcases aA.mp hx with e|hx
   ·subst e
    exact ags ok (by rw [←hq.1];exact hq.2.1)
   ·exact ih x hx
 exact all r x hx
theorem a3f{kvs:List (List Key×V)}(ok:HOk P w H h)(e:H a=some (.dT kvs)):kvs.length <=sizeLine/\(a==bP)=false/\
  ∃xs,KT H kvs xs/\h.DictOfH (jS (ku P w)) a xs:=apa ok (.inl e)
def ahk(H:Hp)(a:Addr)(y:V)(r:Option V):Prop:=
 (∃kvs k,Rd H a (.dK kvs)/\y=kV k/\r=vq kvs k)\/ ∃kvs k b,Rd H a (.dT kvs)/\y=.ref b/\H b=some (.tup (k.map kV))/\r=vq kvs k
def aow(H:Hp)(a:Addr)(y v:V)(H':Hp):Prop:=
 (∃kvs k,H a=some (.dK kvs)/\y=kV k/\kvs.length < sizeLine/\H'=upd H a (.dK (jv kvs k v)))\/
 ∃kvs k b,H a=some (.dT kvs)/\y=.ref b/\H b=some (.tup (k.map kV))/\kvs.length < sizeLine/\H'=upd H a (.dT (jv kvs k v))
theorem ahk.k{kvs:List (Key×V)}{k:Key}(e:H a=some (.dK kvs)):ahk H a (kV k) (vq kvs k):=.inl ⟨kvs,k,.inl e,rfl,rfl⟩
theorem aow.k{kvs:List (Key×V)}{k:Key}(e:H a=some (.dK kvs))(hl:kvs.length < sizeLine):aow H a (kV k) v (upd H a (.dK (jv kvs k v))):=.inl ⟨kvs,k,e,rfl,hl,rfl⟩
section
variable{X:Cx}{pins:List (Addr×Obj)}{σ:St}{H:Hp}{s:ag}{a:Addr}{y v:V}{u r:ae}{o:Option V}{A:aX}{E:ae -> ag -> Prop}
theorem Inv.big(I:Inv X pins σ H s):bP < s.heap.objs.size:=by
 have h:bW < s.heap.objs.size:=(I.mod.glob.keeps I.bk).lt
 exact eK (by decide) h
theorem a5e(hu:A.units+1 < cLine)(I:Inv X pins σ H s)(g:ahk H a y o)(ry:RelV y u)(h: ∀s',Inv X pins σ H s' -> Q (.bool o.isSome) s'):
  wpAny (model X.prog X.w) A (aS .In u (.ref a)) Q E s:=by
 rcases g with ⟨kvs,k,e,ey,l⟩|⟨kvs,k,b,e,ey,eb,l⟩
 ·subst ey
  obtain⟨z,hd,vs,rel,dd⟩:=ap9 I.hok e
  refine wpAny_in_of (ad2 ry) hd dd.mapOf ?_
  rw [←(rel.val k).isSome_eq,←l]
  exact h _ (I.tok _)
 ·subst ey
  cases (show u=bZ b from ry)
  obtain⟨z,hd,xs,rel,dd⟩:=apa I.hok e
  refine wpAny_in_heap (iz hu) (ags I.hok eb) hd dd ?_
  have q:=(rel.val k).isSome_eq
  rw [cy]at q
  rw [←q,←l]
  exact h _ (I.tok _)
theorem azp(hu:A.units+1 < cLine)(I:Inv X pins σ H s)(g:ahk H a y o)(ry:RelV y u)(h: ∀s',Inv X pins σ H s' -> Q (.bool (!o.isSome)) s'):
  wpAny (model X.prog X.w) A (aS .NotIn u (.ref a)) Q E s:=by
 rcases g with ⟨kvs,k,e,ey,l⟩|⟨kvs,k,b,e,ey,eb,l⟩
 ·subst ey
  obtain⟨z,hd,vs,rel,dd⟩:=ap9 I.hok e
  refine wpAny_notIn_of (ad2 ry) hd dd.mapOf ?_
  rw [←(rel.val k).isSome_eq,←l]
  exact h _ (I.tok _)
 ·subst ey
  cases (show u=bZ b from ry)
  obtain⟨z,hd,xs,rel,dd⟩:=apa I.hok e
  refine wpAny_notIn_heap (iz hu) (ags I.hok eb) hd dd ?_
  have q:=(rel.val k).isSome_eq
  rw [cy]at q
  rw [←q,←l]
  exact h _ (I.tok _)
theorem aa7{t':Nat}{ob:HO}(I:Inv X pins σ H s)(mu:Mut (H a))(hs:bu a s.heap h')(he: ∃q,h'.get? a=some q)(new:jq X.prog X.w (upd H a ob) h' a ob):
  Inv X pins σ (upd H a ob) {s with heap:=h',toks:=t'}:=
 I.write (x:=a) (e:=a) mu (.inl rfl) (λb q hb z=> (hs.2 b hb).trans z) he new
theorem aq6{κ:Type}[DecidableEq κ](kvs:List (κ×V))(k:κ)(v:V):jv kvs k v≠ []:=by
 unfold jv
 split
 ·rename_i c
  intro z
  rw [mi]at z
  subst z;simp at c
 ·simp
theorem akt{kvs:List (Key×V)}{vs:List (Key×ae)}(z:kvs.length <=sizeLine)(hd:(a==bP)=false)(rel:KV kvs vs)(dd:h'.DictOf (ku P w) a vs)(ne:kvs=[] -> Emp h' a:=by exact λz=> absurd z (aq6 _ _ _)):
  jq P w H' h' a (.dK kvs):=⟨ne,z,hd,vs,rel,dd⟩
theorem aqh{Q:Unit -> ag -> Prop}(hu:A.units+1 < cLine)(I:Inv X pins σ H s)(g:aow H a y v H')(ry:RelV y u)(rv:RelV v r)(h: ∀s',Inv X pins σ H' s' -> Q () s'):
  wpAny (model X.prog X.w) A (setItem (.ref a) u r) Q E s:=by
 rcases g with ⟨kvs,k,e,ey,l,eH⟩|⟨kvs,k,b,e,ey,eb,l,eH⟩
 ·subst ey eH
  obtain⟨z,hd,vs,rel,dd⟩:=aau I.hok e
  have hz:vs.length <=sizeLine:=by rw [←rel.length];exact z
  have hl:(jv kvs k v).length <=sizeLine:=by have:=vm kvs k v;lia
  refine wpAny_setItem_pairs (hsz:=hz) (ad2 ry) dd λh' dd' hs=> h _ ?_
  have he: ∃q,h'.get? a=some q:=let ⟨q,_,_,hq,_⟩:=dd';⟨q,hq⟩
  exact aa7 I (by rw [e];exact c9) hs he (akt hl hd (rel.put k rv) dd')
 ·subst ey eH
  cases (show u=bZ b from ry)
  obtain⟨z,hd,xs,rel,dd⟩:=a3f I.hok e
  have hz:xs.length <=sizeLine:=by rw [←eS rel];exact z
  have hl:(jv kvs k v).length <=sizeLine:=by have:=vm kvs k v;lia
  refine wpAny_setItem_heap (hsz:=hz) (iz hu) (ags I.hok eb) dd λh' dd' hs=> h _ ?_
  obtain⟨q,es,ep,hq,h2,h3,h4,_,h5⟩:=dd'
  refine aa7 I (by rw [e];exact c9) hs ⟨q,hq⟩ ⟨hl,hd,_,(rel.put k eb rv).keeps λc ys ec=> ?_,q,es,ep,hq,h2,h3,h4,h5⟩
  rw [j4 (a3j ec e (λz=> nomatch z))]
  exact ec
end
theorem aje(h:Heap)(hb:bP < h.objs.size):jq P w H (h.push {cls:=.type "dict",data:=.dict #[]}) h.objs.size (.dK []):=
 ⟨λ_=> ⟨_,ay _ rfl,⟨rfl,rfl,rfl⟩,rfl⟩,b9 _,beq_eq_false_iff_ne.mpr (cF (aJ hb)),[],.nil,Heap.DictOf.new h⟩
def a16:TE:=λ_ H Q=> ∀p,H p=none -> Q (.ref p) (upd H p (.dK []))
theorem aun:PE X (.Dict [] [] pos) a16:=.mk <|λpins s σ H Q I h=>
 wpAny_Dict_empty ⟨.ref s.heap.objs.size,_,I.laid (a:=s.heap.objs.size) (o:=.dK []) (t':=s.toks) (λ_ _ q=> aj _ q) (av _) (aje s.heap I.big),rfl,h _ (I.hok.fresh (av _))⟩
def ago:List (TE×TE) -> St -> Hp -> (List (V×V) -> Hp -> Prop) -> Prop
 |[],_,H,Q=> Q [] H
 |(tk,tv)::r,σ,H,Q=> tk σ H λx H1=> tv σ H1 λy H2=> ago r σ H2 λps H3=> Q ((x,y)::ps) H3
abbrev VV:List (V×V) -> List (ae×ae) -> Prop:=ir λp q=> RelV p.1 q.1/\RelV p.2 q.2
def PPs(X:Cx)(pos:Pos)(keys:List (Option Expr))(values:List Expr)(trs:List (TE×TE)):Prop:=
 ∀(pins:List (Addr×Obj)) (s:ag) (σ:St) (H:Hp) (Q:List (V×V) -> Hp -> Prop),Inv X pins σ H s -> ago trs σ H Q ->
  wpAny (model X.prog X.w) X.A (evalPairs (pairTrees keys values X.env pos)) (λvs s'=> ∃ps H',Inv X pins σ H' s'/\VV ps vs/\Q ps H') X.xe s
theorem ay7:PPs X pos [] [] []:=λpins s σ H Q I h=> pairTrees_nil_walk ⟨[],H,I,.nil,h⟩
theorem auw{k v:Expr}{ks:List (Option Expr)}{vs:List Expr}{tk tv:TE}{trs:List (TE×TE)}(hk:PE X k tk)(hv:PE X v tv)(hr:PPs X pos ks vs trs):
  PPs X pos (some k::ks) (v::vs) ((tk,tv)::trs):=λpins s σ H Q I h=>
 pairTrees_cons_walk (thn (hk pins s σ H _ I h) λu s1 ⟨x,H1,I1,rx,q1⟩=> thn (hv pins s1 σ H1 _ I1 q1) λw2 s2 ⟨y,H2,I2,ry,q2⟩=>
  thn (hr pins s2 σ H2 _ I2 q2) λws s3 ⟨ps,H3,I3,rel,q3⟩=> ⟨(x,y)::ps,H3,I3,.cons ⟨rx,ry⟩ rel,q3⟩)
structure M1 (X:Cx) (o:Expr) (m:Str) (apos:Pos) (e:Expr) (cpos:Pos):Prop where
 base:fQ o m X.env (eval o X.env)=eval o X.env
 few:((backTo cpos (starEach [e] X.env)).all (λx=> !x.1)&&(backToKw cpos (kH [] X.env)).all (λx=> x.1.isSome)
  &&decide (([e]:List Expr).length+([]:List ig).length+(if ([]:List ig).isEmpty then 0 else 1) < 30))=true
 line:(apos.endLine==cpos.line)=true
 trees:backTo cpos (starEach [e] X.env)=[(false,eval e X.env)]
structure M2 (X:Cx) (o:Expr) (m:Str) (apos:Pos) (e f:Expr) (cpos:Pos):Prop where
 base:fQ o m X.env (eval o X.env)=eval o X.env
 few:((backTo cpos (starEach [e,f] X.env)).all (λx=> !x.1)&&(backToKw cpos (kH [] X.env)).all (λx=> x.1.isSome)
  &&decide (([e,f]:List Expr).length+([]:List ig).length+(if ([]:List ig).isEmpty then 0 else 1) < 30))=true
 line:(apos.endLine==cpos.line)=true
 trees:backTo cpos (starEach [e,f] X.env)=[(false,eval e X.env),(false,eval f X.env)]
end L2
namespace Att
open PySem PySem.W PySem.Calls PyProof.Rows
theorem agb{P:Params}: ∀(ns:List Int) (vs:List ae),WellAll P h vs (ns.map WData.int) -> gR vs ns:=by
 intro ns
 induction ns with
 |nil=>
  intro vs w
  rw [f6]at w
  cases w
  exact .nil
 | cons n ns ih=>
  intro vs w
  rw [aK]at w
  cases w with
  |cons a b=>
   cases a
   exact .cons _ _ (ih _ b)
theorem ar7{l:OpenLaw}(hn:l.most=some n){P:Params}{args:List WData}{vals:List ae}(hpre:l.row.toRowW.claim.pre args=true)(hwl:WellAll P h vals args):
  ∃a vs ns,vals=[bZ a]/\args=[WData.list (ns.map WData.int)]/\h.get? a=some {cls:=.type "list",data:=.seq vs.toArray}/\gR vs ns/\ns.length <=n:=by
 have hsh:WShape.hasAll [] args [.list .int]=true:=(pre_splitW hpre).1
 have hc:l.pre.holds [] {args:=args}=true:=(pre_splitW hpre).2
 obtain⟨d,r,rfl,h1,h2⟩:=hasAllW_cons hsh
 obtain rfl:=hasAllW_nil h2
 obtain⟨xs,rfl,h3⟩:=hasW_list h1
 obtain⟨ns,rfl⟩:=items_int h3
 have hlen:ns.length <=n:=by
  unfold OpenLaw.pre at hc
  have h4:(WTm.not (.lt (.lit (.int (n:Int))) (.len (.arg 0)))).holds [] {args:=[.list (ns.map .int)]}=true:=by
   have h4:=(holds_andW hc).1
   rw [hn]at h4
   exact h4
  have h5:=condW_of h4 (w_not (w_lt w_lit (w_len_list (w_arg rfl))))
  rw [ak]at h5
  refine bT λq=> ?_
  have q':(n:Int) < ((ns.length:Nat):Int):=by lia
  first
   |(rw [decide_eq_true q']at h5;exact absurd h5 (by decide))
   |(simp at h5;lia)
 cases hwl with
 |cons w1 w2=>
  cases w2
  cases w1 with
  |list ho hall=> exact⟨_,_,ns,rfl,rfl,ho,agb ns _ hall,hlen⟩
theorem aqg(l:OpenLaw)(args:List WData):l.row.toRowW.claim.post args (.bool true) args=true:=
 postW_of (r:=l.row.toRowW) (X:=(true==true))
  (show WShape.has [] (.bool true) .bool=true by first|rfl|decide|simp [WShape.has,WShape.arms,WShape.armsAll])
  (show (WTm.eq .res (.lit (.bool true))).value [] {args:=args,res:=some (.bool true),after:=args}=some (.bool (true==true)) from w_eq_bool (w_res rfl) w_lit) rfl
theorem attach_call{l:OpenLaw}{q:aL}{loose:List Str}{XP:(Str -> Option ae) -> Heap -> Prop}{YP:aO -> Heap -> Prop}{d:DefRec}(hn:l.most=some n)(hdf:d.params.defaults=[])(call: ∀(w:aO) (s₀ s₁:ag) (mg mb:Str -> Option ae) (fa:Addr) (o:Obj) (pm cd doc:ae) (a:Addr) (vs:List ae) (ns:List Int),
   Ground q loose [] XP w s₀ mg mb s₁.heap -> YP w s₁.heap ->
   s₁.heap.get? fa=some o -> o.data=.func (docDef d.name d.params d.body d.scope pm cd doc) -> s₁.heap.CodeRec cd d.name -> mg d.name=some (.ref fa) ->
   s₁.heap.get? a=some {cls:=.type "list",data:=.seq vs.toArray} -> gR vs ns -> ns.length <=n -> s₁.gens= #[] ->
   codeAny (model l.prog w) callerA (.call (.ref fa) ⟨[.ref a],[]⟩) (λr s'=> r=.ok (.ret (.bool true))/\OldK s₁.heap s'.heap/\s'.os=s₁.os/\gn s'.gens) s₁):
  WalkO q loose XP YP l.row.toRowW d [] (λf vs=> PySem.call f vs):=by
 intro w s₀ s₁ mg mb G Y fa o pm cd doc dV kV ho hd hcd hD hmg hg args vals as hpre hlay hrd hwl hlo
 obtain rfl:dV=.none:=Dflts.none hD hdf
 obtain rfl:kV=.none:=Dflts.noKw hD
 obtain⟨a,vs,ns,rfl,rfl,hobj,hints,hlen⟩:=ar7 hn hpre hwl
 refine enter_call (dL (call w s₀ s₁ mg mb fa o pm cd doc a vs ns G Y ho (fd_plain hd) hcd hmg hobj hints hlen hg) λr s' hq=> ?_)
 obtain⟨rfl,h2,h3,h4⟩:=hq
 exact⟨.inl ⟨.bool true,.bool true,[],rfl,λ_=> rfl,.bool true,aqg l _,λ_=> ⟨fz,λ_ hm=> (nomatch hm)⟩⟩,h2,h3,h4⟩
end Att
namespace L2
open PySem PySem.Spec PyProof.Rows
theorem aig: ∀{vs:List ae} {ns:List Int},gR vs ns -> ji (ns.map V.int) vs
 |_,_,.nil=>.nil
 |_,_,.cons n t h=>.cons ⟨t,rfl⟩ (aig h)
def at0(H:Hp):Prop:= ∀b,H b=none\/ ∃o xs,H b=some (.frz o (.lst xs))
theorem av1{mb:Str -> Option ae}{CX:CXT}{k:Nat}{fa:Addr}{x:Str}{sp:Sp}{s₁:ag}{vs:List ae}{ns:List Int}(KX:K.In s₁.heap)(hns:s₁.heap.Ns bW mg)(hb:s₁.heap.Ns builtinsNs mb)(hbb: ∀x:Str,x≠"__name__" -> mb x=bG x)(hlim:s₁.heap.NoLimit)(hg:s₁.gens= #[])(ha:s₁.heap.get? a=some {cls:=.type "list",data:=.seq vs.toArray})(hi:gR vs ns)(hl:ns.length <=sizeLine)(hr:Room k callerA)(F: ∀base:Heap,K.In base -> base.Ns bW mg -> FnOk P w K mg base CX k fa fd [x] sp)(hbind: ∀(s:ag) (u:ae),kX s fd ⟨[u],[]⟩ [(x,u)])(hsp: ∀H:Hp,at0 H -> SqL K H a (ns.map V.int) -> sp [.ref a] H (λv _=> v=.bl true) λ_ _ _=> False)(hCX: ∀H e s',CX [] H s₁ (λ_ _ _=> False) e s' -> False):
  codeAny (model P w) callerA (.call (.ref fa) ⟨[.ref a],[]⟩) (λr s'=> r=.ok (.ret (.bool true))/\OldK s₁.heap s'.heap/\s'.os=s₁.os/\gn s'.gens) s₁:=by
 have rv:=aig hi
 have lenV:=hi.length
 -- from an abstract heap in which nothing but the script may be tracked
 have core: ∀H:Hp,at0 H -> SqL K H a (ns.map V.int) -> HOk P w H s₁.heap -> (∀b,H b≠none -> b=a) -> (H a≠none -> K.lookup a=none) ->
   codeAny (model P w) callerA (.call (.ref fa) ⟨[.ref a],[]⟩) (λr s'=> r=.ok (.ret (.bool true))/\OldK s₁.heap s'.heap/\s'.os=s₁.os/\gn s'.gens) s₁:=by
  intro H hO hS hok hA hK
  have base_of: ∀{b:Addr} {o:Obj},s₁.heap.get? b=some o -> H b=none -> (ad7 s₁.heap H).get? b=some o:=λe n=> au7 e n
  have noA: ∀{b:Addr} {o:Obj} {es:Array dH} {ep:Nat},s₁.heap.get? b=some o -> o.data=.dict es ep -> H b=none:=λ{b o es ep} e d=> by
   cases q:H b with
   |none=> rfl
   |some u=>
    have e':b=a:=hA b (by rw [q];simp)
    subst e'
    rw [ha]at e;cases e
    have d':Data.seq vs.toArray _=Data.dict es ep:=d
    cases d'
  have nsK: ∀{b:Addr} {m:Str -> Option ae},s₁.heap.Ns b m -> (ad7 s₁.heap H).Ns b m:=λ{b m} ⟨o,es,ep,e,d,r⟩=> ⟨o,es,ep,base_of e (noA e d),d,r⟩
  have hKb:K.In (ad7 s₁.heap H):=λb o e=> base_of (KX b o e) (by
   cases q:H b with
   |none=> rfl
   |some u=>
    have e':b=a:=hA b (by rw [q];simp)
    subst e'
    rw [hK (by rw [q];simp)]at e;cases e)
  have hM:Mod K mg (ad7 s₁.heap H):=⟨hKb,nsK hns,⟨mb,nsK hb,hbb⟩,let ⟨mc,h1,h2⟩:=hlim;⟨mc,nsK h1,h2⟩⟩
  have e0:Env0 P w K mg (ad7 s₁.heap H) callerA [] s₁ H:=⟨rfl,hM,λb o e=> ayy e,dt (aqi _ _),trivial,λb hb=> absurd (show b∈([]:List Addr) from hb) (by simp),hok,.of_eq hg⟩
  refine dL ((F _ hKb (nsK hns)).run callerA [] s₁ H ⟨[.ref a],[]⟩ [.ref a] [.ref a] _ _ hr e0 (hbind s₁ (.ref a)) (.cons rfl .nil) (hsp H hO hS)) λr s' h=> ?_
  cases r with
  |error e=> exact (hCX H e s' h).elim
  | ok fl=>
   cases fl with
   |next=> exact eY h
   |brk=> exact eY h
   |cont=> exact eY h
   | ret u=>
    obtain⟨v,H',os,bare,un,hok',r',q⟩:=h
    have q':v=.bl true:=q
    subst q'
    obtain rfl:u=gX true:=r'
    refine⟨rfl,OldK.of_keep λb o e=> ?_,os,bare⟩
    cases q:H b with
    |none=> exact un.keep b o e q (by intro z;exact absurd (show b∈([]:List Addr) from z) (by simp)) (by simp)
    | some u=>
     rcases hO b with z|⟨ob,xs,z⟩
     ·rw [q]at z;cases z
     ·have z2:=un.frzs b ob _ z
      obtain⟨e1,_⟩:=hok b _ z
      obtain⟨e2,_⟩:=hok' b _ z2
      rw [e]at e1;cases e1
      exact e2
 cases hk:K.lookup a with
 |some o=>
  -- the script is one of the module's own objects
  have e:=KX a o hk
  rw [ha]at e
  cases e
  refine core (λ_=> none) (λ_=>.inl rfl) (.inr ⟨_,vs.toArray,_,hk,rfl,rfl,rfl,by rw [aE,lenV];exact hl,by simpa using rv⟩) (λb u z=> by have z':(none:Option HO)=some u:=z;cases z') (λb z=> absurd rfl z) λz=> absurd rfl z
 | none=>
  refine core (λb=> if b=a then some (.frz {cls:=.type "list",data:=.seq vs.toArray} (.lst (ns.map V.int))) else none) (λb=> ?_) (.inl (.inr ⟨{cls:=.type "list",data:=.seq vs.toArray},if_pos rfl⟩)) (λb u z=> ?_) (λb z=> ?_) λ_=> hk
  ·by_cases hb:b=a
   ·exact .inr ⟨_,_,if_pos hb⟩
   ·exact .inl (if_neg hb)
  ·by_cases hb:b=a
   ·have z':=(if_pos hb).symm.trans z
    cases z'
    subst hb
    exact⟨ha,by rw [ak];exact hl,vs,_,rv,ha⟩
   ·have z':=(if_neg hb).symm.trans z
    cases z'
  ·by_cases hb:b=a
   ·exact hb
   ·exact absurd (if_neg hb) z
theorem axk{l:jV}{k:Nat}{q:aL}{loose:List Str}{XP:(Str -> Option ae) -> Heap -> Prop}{YP:aO -> Heap -> Prop}{d:DefRec}{K:Params -> am}{CX:aO -> CXT}{sp:aO -> Sp}{x:Str}(hn:l.most=some n)(hn2:n <=sizeLine)(hdf:d.params.defaults=[])(hr:Room k callerA)(hY: ∀(w:aO) (h:Heap),YP w h -> (K w.params).In h)(F: ∀(w:aO) (mg:Str -> Option ae) (fa:Addr) (h:Heap),(K w.params).In h -> h.Ns bW mg -> mg d.name=some (.ref fa) ->
   ∃fd:f9,(∀(s:ag) (u:ae),kX s fd ⟨[u],[]⟩ [(x,u)])/\
    ∀base:Heap,(K w.params).In base -> base.Ns bW mg -> FnOk l.prog w (K w.params) mg base (CX w) k fa fd [x] (sp w)) (hsp: ∀(w:aO) (H:Hp) (a:Addr) (ns:List Int),ns.length <=n -> at0 H -> SqL (K w.params) H a (ns.map V.int) -> sp w [.ref a] H (λv _=> v=.bl true) λ_ _ _=> False) (hCX: ∀(w:aO) (H:Hp) (s:ag) (e:ae) (s':ag),CX w [] H s (λ_ _ _=> False) e s' -> False):
  PySem.W.WalkO q loose XP YP l.row.toRowW d [] (λf vs=> PySem.call f vs):=by
 refine Att.attach_call hn hdf λw s₀ s₁ mg mb fa o pm cd doc a vs ns G Y ho hd hcd hmg hobj hints hlen hg=> ?_
 have KX:=hY w _ Y
 obtain⟨fd,hb,hF⟩:=F w mg fa _ KX G.T.g hmg
 exact av1 KX G.T.g G.T.b G.T.builtins G.T.nolimit hg hobj hints (br hlen hn2) hr hF hb (λH hO hS=> hsp w H a ns hlen hO hS) λH e s'=> hCX w H s₁ e s'
noncomputable def zf(s:Stmt):Arguments:=match s with
 |.FunctionDef _ a _ _ _ _ _ _ _ _=> a
 |_=> {posonlyargs:=[],args:=[],vararg:=none,kwonlyargs:=[],kw_defaults:=[],kwarg:=none,defaults:=[]}
noncomputable def ve(s:Stmt):List Stmt:=match s with
 |.FunctionDef _ _ b _ _ _ _ _ _ _=> b
 |_=> []
noncomputable def je(s:Stmt):eX:=match s with
 |.FunctionDef _ _ _ _ _ _ sc _ _ _=> sc
 |_=> {kind:=.function,names:=[],isGenerator:=false,isCoroutine:=false}
abbrev CX0:CXT:=λ_ _ _ _ _ _=> False
structure Fun (K:am) (x qual:Str) (st:Stmt) (f:Addr) (fd:f9):Prop where
 ex: ∃(oc:ae) (od:Option Addr) (kV doc pm:ae) (an:Option Addr) (cdv ct:ae) (osl:Array (Option ae)),
  fd=dq x qual (zf st) (ve st) (je st) .none kV doc pm an cdv ct/\K.lookup f=some ⟨oc,od,.func fd,osl⟩/\gp K cdv qual=true
 kp:fB K (.ref f)=true
theorem Fun.binds{x:Str}(F:Fun K x qual st f fd)(h: ∀(kV doc pm:ae) (an:Option Addr) (cdv ct:ae) (us:List ae),us.length=ps.length -> bindArgs (dq x qual (zf st) (ve st) (je st) .none kV doc pm an cdv ct) ⟨us,[]⟩=pure (ps.zip us)):Binds K fd ps []:=by
 obtain⟨oc,od,kV,doc,pm,an,cdv,ct,osl,rfl,lk,hcd⟩:=F.ex
 exact .all (h kV doc pm an cdv ct)
theorem aji{x:Str}{oc:ae}{od an:Option Addr}{kV doc pm cdv ct:ae}(l:K.lookup f=some ⟨oc,od,.func (dq x qual (zf st) (ve st) (je st) .none kV doc pm an cdv ct),osl⟩)(c:gp K cdv qual=true)(k:fB K (.ref f)=true):Fun K x qual st f (dq x qual (zf st) (ve st) (je st) .none kV doc pm an cdv ct):=⟨⟨oc,od,kV,doc,pm,an,cdv,ct,osl,rfl,l,c⟩,k⟩
theorem pv(i:Nat){x:Str}(hN:X.N[i]?=some x:=by rfl)(hv:Vis X.env.scope x:=by first|exact gJ rfl|exact gc (gJ rfl)|exact gc (gc rfl))(hd:(x==("__debug__":Str))=false:=by decide)(hcd:(x==("__classdict__":Str))=false:=by decide):PE X (.Name x pos) (au1 i):=ar9 hN hv hd hcd
def j8(H H':Hp):Prop:= ∀b o,H b=some o -> H' b=some o
theorem j8.seq(e:j8 H H')(h:SqL K H a xs):SqL K H' a xs:=by
 rcases h with (h|⟨o,h⟩)|h
 ·exact .inl (.inl (e _ _ h))
 ·exact .inl (.inr ⟨o,e _ _ h⟩)
 ·exact .inr h
noncomputable def qi(env:Env):List (Str×fh) -> List (Str×Addr) -> List (Str×Addr)
 |[],cs=> cs
 |(n,k)::r,cs=> qi env r (if k==.free then (match env.cells.lookup n with|some c=> (n,c)::cs|none=> cs) else cs)
theorem afw{env:Env}: ∀{l:List (Str×fh)} {cs:List (Str×Addr)},(∀n c,(n,c)∈cs -> env.cells.lookup n=some c) -> ∀n c,(n,c)∈qi env l cs -> env.cells.lookup n=some c
 |[],cs,h,n,c,m=> h n c m
 | (n',k)::r,cs,h,n,c,m=> by
  unfold qi at m
  refine afw (l:=r) (λa b q=> ?_) n c m
  split at q
  ·split at q
   ·rename_i c' hc
    rcases aA.mp q with z|z
    ·cases z;exact hc
    ·exact h a b z
   ·exact h a b q
  ·exact h a b q
theorem aiq{env:Env}: ∀{l:List (Str×fh)} {cs:List (Str×Addr)} {p},p∈cs -> p∈qi env l cs
 |[],_,_,h=> h
 | (n,k)::r,cs,p,h=> by
  unfold qi
  refine aiq (l:=r) ?_
  split
  ·split
   ·exact aw _ h
   ·exact h
  ·exact h
theorem afx{env:Env}: ∀{l:List (Str×fh)} {cs:List (Str×Addr)} {n:Str} {c:Addr},(n,bK)∈l -> env.cells.lookup n=some c -> (n,c)∈qi env l cs
 |[],_,_,_,h,_=> by cases h
 | (n',k)::r,cs,n,c,h,e=> by
  unfold qi
  rcases aA.mp h with z|z
  ·cases z
   refine aiq ?_
   simp [e]
  ·exact afx z e
theorem aat(h: ∀n,(n,bK)∈scope.names -> ∃c,env.cells.lookup n=some c):closureFor scope env=pure (qi env scope.names []):=by
 have all: ∀(l:List (Str×fh)) (cs:List (Str×Addr)),(∀n,(n,bK)∈l -> ∃c,env.cells.lookup n=some c) ->
   (forIn l cs (λ(x:Str×fh) (r:List (Str×Addr))=> (match x with|(name,kind)=> if (kind==bK)=true then (do let a←cellOf env name;pure (eZ ((name,a)::r))) else pure (eZ r):Sem (ForInStep (List (Str×Addr))))))=(pure (qi env l cs):Sem (List (Str×Addr))):=by
  intro l
  induction l with
  |nil=> intro cs _;rfl
  | cons p r ih=>
   intro cs hl
   obtain⟨n,k⟩:=p
   have hr: ∀n,(n,bK)∈r -> ∃c,env.cells.lookup n=some c:=λn m=> hl n (aw _ m)
   rw [g6]
   unfold qi
   by_cases hk:k=.free
   ·subst hk
    obtain⟨c,hc⟩:=hl n au
    have e:cellOf env n=pure c:=by unfold cellOf;rw [hc]
    simp only [beq_self_eq_true,if_true,e,hc]
    exact ih _ hr
   ·have hb:(k==bK)=false:=by simpa using hk
    simp only [hb,aY,if_false];exact ih _ hr
 unfold closureFor
 exact (congrArg (λ(z:Sem (List (Str×Addr)))=> z >>=λr=> pure r) (all scope.names [] h)).trans rfl
def jo(X:Cx)(own caps:List Str)(scope:eX)(C:Addr)(fp:List Addr)(s:ag)(H:Hp):Cx where
 prog:=X.prog
 w:=X.w
 K:=X.K
 mg:=X.mg
 base:=X.base
 A:=X.A
 N:=own++caps
 s₀:=s
 H₀:=H
 env:=compEnvC scope (qi X.env scope.names []) C X.env
 outer:=X.stack
 stack:=X.stack
 ex:=fp
 fn:=λ_=> false
 calm:=X.calm
 pn:=[]
 xe:=λ_ _=> False
def ap6(X:Cx)(scope:eX)(y:Str)(j:Nat):Prop:=X.N[j]?=some y/\Vis X.env.scope y/\(X.env.kindOf y==some .local)=false/\((relabel scope X.env).names.lookup y==some .cell||(relabel scope X.env).names.lookup y==some .free)=true
def v4(X:Cx)(scope:eX):List Str -> List Nat -> Prop
 |[],[]=> True
 |y::ys,j::js=> ap6 X scope y j/\v4 X scope ys js
 |_,_=> False
noncomputable def vc(σ:St)(js:List Nat):St:=js.map λj=> (σ[j]?).join
theorem v4.at{X:Cx}{scope:eX}{σ:St}: ∀{ys:List Str} {js:List Nat} {i:Nat} {y:Str} {v:V},v4 X scope ys js -> ys[i]?=some y -> (vc σ js)[i]?=some (some v) -> ∃j,ap6 X scope y j/\σ[j]?=some (some v)
 |[],[],i,y,v,_,h,_=> by simp at h
 | a::ys,j::js,0,y,v,c,h,e=> by
  simp at h;subst h
  refine⟨j,c.1,?_⟩
  simp [vc]at e
  cases q:σ[j]? with
  |none=>
   rw [q]at e
   cases e
  |some o=>
   rw [q]at e
   simp at e
   rw [e]
 |a::ys,j::js,i+1,y,v,c,h,e=> v4.at (i:=i) c.2 (by simpa using h) (by simpa [vc] using e)
 |[],_::_,_,_,_,c,_,_=> c.elim
 |_::_,[],_,_,_,c,_,_=> c.elim
theorem v4.len{X:Cx}{scope:eX}{σ:St}: ∀{ys:List Str} {js:List Nat},v4 X scope ys js -> (vc σ js).length=ys.length
 |[],[],_=> rfl
 |a::ys,j::js,c=> by simp only [vc,aK,aG];exact congrArg (· +1) (v4.len (σ:=σ) c.2)
 |[],_::_,c=> c.elim
 |_::_,[],c=> c.elim
theorem x9{env:Env}: ∀{names:List (Str×fh)} {x:Str},(∀p∈names,p.2≠ .cell) ->
  ((names.map λ(n,k)=> if (k==bK&&env.scope.kind==.function&&env.kindOf n==some .cell) then (n,fR) else (n,k)).lookup x=some .cell\/
    (names.map λ(n,k)=> if (k==bK&&env.scope.kind==.function&&env.kindOf n==some .cell) then (n,fR) else (n,k)).lookup x=some .free) -> (x,bK)∈names
 |[],_,_,h=> by simp at h
 | (n,k)::r,x,hc,h=> by
  have hr: ∀p∈r,p.2≠ .cell:=λp hp=> hc p (aw _ hp)
  have hk:k≠ .cell:=hc (n,k) au
  have step: ∀(b:Bool),(List.lookup x ((if b=true then (n,fR) else (n,k))::r.map λ(n,k)=> if (k==bK&&env.scope.kind==.function&&env.kindOf n==some .cell) then (n,fR) else (n,k))=some .cell\/
     List.lookup x ((if b=true then (n,fR) else (n,k))::r.map λ(n,k)=> if (k==bK&&env.scope.kind==.function&&env.kindOf n==some .cell) then (n,fR) else (n,k))=some .free) -> (b=true -> k=.free) -> (x,bK)∈(n,k)::r:=by
   intro b q hb
   cases hx:x==n with
   | true=>
    have e:x=n:=by simpa using hx
    subst e
    cases b with
    |true=> rw [hb rfl];exact au
    |false=>
     simp [List.lookup_cons]at q
     rcases q with q|q
     ·exact absurd q hk
     ·rw [q];exact au
   |false=>
    refine aw _ (x9 (env:=env) hr ?_)
    cases b <;> simpa [List.lookup_cons,hx] using q
  exact step _ h λq=> by simp at q;exact q.1.1
def ady(X:Cx)(ifs:List Expr)(t:TT):Prop:=
 ∀(pins:List (Addr×Obj)) (s:ag) (σ:St) (H:Hp) (Q:Bool -> Hp -> Prop),Inv X pins σ H s -> t σ H Q ->
  wpAny (model X.prog X.w) X.A (forIn ifs true λc r=> if r=true then do let ok←isTrue c X.env (eval c X.env);pure (eZ ok) else pure (eZ r)) (TP X pins σ Q) X.xe s
noncomputable def a6b:TT:=λ_ H Q=> Q true H
theorem atu:ady X [] a6b:=λ_ _ _ H _ I h=> wpAny_tests_nil ⟨H,I,h⟩
theorem atl{t:TT}(h:PT X c t):ady X [c] t:=λpins s σ H Q I q=> wpAny_tests_one (h pins s σ H Q I q)
abbrev Wn(P:aL)(w:aO)(A:aX){α:Type}(m:Sem α)(Q:α -> ag -> Prop)(s:ag):Prop:=wpAny (model P w) A m Q (λ_ _=> False) s
abbrev aqx(env:Env)(l:List Expr):Sem Bool:=forIn l true λc r=> if r=true then do let b←isTrue c env (eval c env);pure (eZ b) else pure (eZ r)
def a1f (P:aL) (w:aO) (A:aX) (it acc:ae) (tg elt:Expr) (l:List Expr) (env:Env) (fin:ag -> Prop) (again:ag -> Prop) (s:ag):Prop:=
 Wn P w A (pyNext it) (λr a=> match r with
  |none=> fin a
  | some v=> Wn P w A (fW tg it v) (λ_ b=> Wn P w A (assign tg env v) (λ_ c=> Wn P w A (aqx env l) (λok d=>
    if ok=true then Wn P w A (eval elt env) (λx e=> Wn P w A (call (.builtin "list.append") [acc,x]) (λ_ g=> again g) e) d else again d) c) b) a) s
theorem ayz{R:gZ -> ag -> Prop}{elt:Expr}{l:List Expr}{sc:eX}{it acc:ae}(J:Nat -> ag -> Prop)(turn: ∀n s,J n s -> a1f P w A it acc tg elt l env (R (.ok .next)) (λz=> ∃m,m < n/\J m z) s)(n:Nat)(h:J n s):codeAny (model P w) A (.compLoop (.ListComp elt [⟨tg,iter,l,0⟩] sc pos) 0 it acc env) R s:=by
 refine codeAny_loop rfl J (λk z hz=> ?_) n h
 have one:=turn k z hz
 show wpAny _ A (Sem.onRaise (compTurn (.ListComp elt [⟨tg,iter,l,0⟩] sc pos) 0 it acc env) λx=> do mC x env;theTreesLotGoes x) _ _ z
 refine wpAny_noted ?_
 rw [compTurn_list]
 refine aa (eU (aa (bQ one (λr a ha=> ?_) λ_ _ f=> f.elim)))
 cases r with
 |none=> exact af ha
 | some v=>
  refine aa (bQ ha (λ_ b hb=> aa (bQ hb (λ_ c hc=> aa (bQ hc (λok d hd=> ?_) λ_ _ f=> f.elim)) λ_ _ f=> f.elim)) λ_ _ f=> f.elim)
  cases ok with
  |false=>
   have q: ∃m,m < k/\J m d:=hd
   exact af ⟨rfl,q⟩
  |true=>
   have q:Wn P w A (eval elt env) (λx e=> Wn P w A (call (.builtin "list.append") [acc,x]) (λ_ g=> ∃m,m < k/\J m g) e) d:=hd
   exact aa (aa (bQ q (λx e he=> aa (bQ he (λ_ g hg=> af (af ⟨rfl,hg⟩)) λ_ _ f=> f.elim)) λ_ _ f=> f.elim))
def atd(g:TG)(tt:TT)(te:TE)(k:Nat)(cap:St)(J:It)(H1:Hp)(Q:VK):Prop:=
 ∀ D,H1 D=none -> ∃W:Nat -> Nat -> List V -> Hp -> Prop,(∃m,W 0 m [] (upd H1 D (.lst [])))/\ ∀i m ys H,H D=some (.lst ys) -> W i m ys H ->
  (J.stop i H/\Q (.ref D) H)\/(J.go i H/\ ∀x H',J.yld i H x H' -> ∀vs:St,vs.length=k -> g x (vs++cap) H' λσ2 H2=> (∃vs':St,vs'.length=k/\σ2=vs'++cap)/\tt σ2 H2 λb H3=>
   if b=true then te σ2 H3 λv H4=> H4 D=some (.lst ys)/\ys.length < sizeLine/\ ∃m',m' < m/\W (i+1) m' (ys++ [v]) (upd H4 D (.lst (ys++ [v]))) else H3 D=some (.lst ys)/\ ∃m',m' < m/\W (i+1) m' ys H3)
def tLc(js:List Nat)(k:Nat)(wi:TI)(g:TG)(tt:TT)(te:TE):TE:=λσ H Q=> wi σ H λJ H1=> atd g tt te k (vc σ js) J H1 Q
section
variable{X:Cx}{own caps:List Str}{js:List Nat}{scope:eX}{tg iter elt:Expr}{ifs:List Expr}{wi:TI}{g:TG}{tt:TT}{te:TE}{pos:Pos}
theorem aql{H2:Hp}{s2:ag}{it:Addr}{tn:Nat -> Heap -> Prop}{J:It}{Q:VK}{post:ae -> Addr -> gZ -> ag -> Prop}(hcalm:X.calm=true)(hkind:scope.kind=.function)(hcell:(scope.names.any λp=> p.2==.cell)=false)(hk:(scope.names.all λp=> !(p.2==.free)||(X.env.kindOf p.1==some .cell||X.env.kindOf p.1==some .free))=true)(hcap:v4 X scope caps js)(hg: ∀C fp s H,PG (jo X own caps scope C fp s H) tg g)(hi: ∀C fp s H,ady (jo X own caps scope C fp s H) ifs tt)(he: ∀C fp s H,PE (jo X own caps scope C fp s H) elt te)(I2:Inv X pins σ H2 s2)(T:Turn X.prog X.w X.K tg J fp it tn)(st2:tn 0 s2.heap)(f2: ∀b∈fp,aa0 X pins H2 b)(hw:atd g tt te own.length (vc σ js) J H2 Q)(hpost: ∀D C s' m H',s'.heap.Ns C m -> s2.heap.objs.size <=C -> aa0 X pins H' C -> Inv X pins σ H' s' -> Q (.ref D) H' -> post (.ref D) C (.ok .next) s'):
  wpAny (model X.prog X.w) X.A (newList []) (λacc s₃=> wpAny (model X.prog X.w) X.A (newFunctionEnv scope X.env.globals (qi X.env scope.names []) [] X.env.qual none .none (some X.env)) (λcenv s₄=>
   codeAny (model X.prog X.w) X.A (.compStart (.ListComp elt [⟨tg,iter,ifs,0⟩] scope pos) 0 (.ref it) acc {cenv with scope:=relabel scope X.env}) (post acc cenv.locals) s₄) E s₃) E s2:=by
 have hcell': ∀y∈scope.names,y.2≠ .cell:=λy hy e=> by
  have:=(iU.mp hcell) y hy
  simp [e]at this
 have hfr: ∀n,(n,bK)∈scope.names -> X.env.kindOf n=some .cell\/X.env.kindOf n=some .free:=λn hn=> by
  have:=(aC.mp hk) _ hn
  simpa using this
 refine bN (lE hcell' (by intro y hy;simp at hy) (λh₁ hns₁ hsb₁=> ?_) hkind)
 dsimp only at hns₁ hsb₁⊢
 generalize hHp:s2.heap.push {cls:=.type "list",dict:=none,data:=.seq ([]:List ae).toArray}=G2 at hns₁ hsb₁⊢
 have hC:G2.objs.size=s2.heap.objs.size+1:=by rw [←hHp,aV]
 obtain⟨D,hDe⟩: ∃D:Nat,s2.heap.objs.size=D:=⟨_,rfl⟩
 obtain⟨C,hCe⟩: ∃C:Nat,G2.objs.size=C:=⟨_,rfl⟩
 rw [hCe]at hns₁ hsb₁
 rw [hDe,hCe]at hC
 show codeAny _ _ (.compStart _ 0 (.ref it) (.ref s2.heap.objs.size) (compEnvC scope (qi X.env scope.names []) G2.objs.size X.env)) (post (.ref s2.heap.objs.size) G2.objs.size) _
 rw [hDe,hCe]
 have hDC:D≠C:=by lia
 have hDCl:D < C:=by lia
 have old: ∀b o,s2.heap.get? b=some o -> h₁.get? b=some o:=λb o e=> by
  have hlt:b < D:=hDe▸az e
  exact hsb₁.extBut b o (aJ (eK hlt hDCl)) (aj _ (hHp▸aj _ e))
 have hD2:H2 D=none:=I2.hok.fresh (dt hDe)
 have hC2:H2 C=none:=I2.hok.fresh (by rw [hDe];lia)
 have accD:h₁.get? D=some {cls:=.type "list",data:=.seq ([]:List ae).toArray}:=hsb₁.extBut _ _ hDC (aj _ (hHp▸hDe▸ay _ rfl))
 obtain⟨W,⟨m0,w0⟩,turn⟩:=hw D hD2
 -- the block's own state
 have fpn: ∀b∈fp,H2 b=none:=λb hb=> (f2 b hb).1
 have fplt: ∀b∈fp,b < D:=λb hb=> by obtain⟨o,e,_⟩:=T.obj _ _ st2 b hb;exact hDe▸az e
 have clsub: ∀n c,(n,c)∈qi X.env scope.names [] -> X.env.cells.lookup n=some c:=afw (by intro _ _ z;cases z)
 have cllook: ∀n c,(qi X.env scope.names []).lookup n=some c -> X.env.cells.lookup n=some c:=λn c e=> clsub n c (c7 e)
 have clhas: ∀n,(n,bK)∈scope.names -> ∃c,(qi X.env scope.names []).lookup n=some c/\X.env.cells.lookup n=some c:=λn hn=> by
  obtain⟨c,e⟩:=I2.ok.has n (hfr n hn)
  have m:=afx (cs:=[]) hn e
  cases q:(qi X.env scope.names []).lookup n with
  |none=>
   have:=jN.mp q _ m
   simp at this
  |some c'=> exact⟨c',rfl,cllook n c' q⟩
 have clt: ∀x c,(qi X.env scope.names []).lookup x=some c -> c < D:=λx c e=> by
  obtain⟨v,z⟩:=I2.cell x c (cllook x c e)
  exact hDe▸z.lt
 have ok':(jo X own caps scope C fp s2 H2).Ok:=by
  refine⟨I2.ok.mod,hkind,I2.ok.glob,I2.ok.blt,?_,λx y c e1 e2=> I2.ok.inj x y c (cllook x c e1) (cllook y c e2),λx hx=> ?_,λx c z=> (by cases z),I2.ok.hd,I2.ok.frames,.inl rfl,λb hb=> ⟨?_,λx c e=> ?_⟩,I2.bs,br I2.ok.bsz I2.sz,λb o e hb=> ?_,λb hb hs=> ?_,I2.stack,I2.stkFree⟩
  ·show s2.heap.objs.size <=C
   rw [hDe];lia
  ·have hx':(relabel scope X.env).names.lookup x=some .cell\/(relabel scope X.env).names.lookup x=some .free:=hx
   obtain⟨c,e,_⟩:=clhas x (x9 hcell' hx')
   exact⟨c,e⟩
  ·exact aJ (eK (fplt b hb) hDCl)
  ·exact (f2 b hb).2.2.2.2.1 x c (cllook x c e)
  ·rcases (f2 b hb).2.2.2.1 with z|z
   ·exact I2.ok.noex b o e z
   ·exact absurd (aP (az (I2.ok.bs b o e).1) z) (cD _)
  ·rcases aA.mp (I2.stkSub b hs) with z|z
   ·exact (f2 b hb).2.1 z
   ·exact (f2 b hb).2.2.1 z
 have I4:Inv (jo X own caps scope C fp s2 H2) [] (bo own.length none++vc σ js) (upd H2 D (.lst [])) {s2 with heap:=h₁,toks:=s2.toks+([]:List (Str×ae)).length}:=by
  refine⟨ok',rfl,I2.bare,Un.laid old (dt hDe) hD2,⟨_,hns₁,λi x v e1 e2 e3=> ?_⟩,λx c e=> ?_,?_,λx c e=> ?_,λp hp=> absurd (show p∈([]:List (Addr×Obj)) from hp) (by simp),?_,?_⟩
  ·have e1:(own++caps)[i]?=some x:=e1
   by_cases hio:i < own.length
   ·rw [aI (by simpa using hio),dA]at e2
    split at e2 <;> cases e2
   ·have hle:own.length <=i:=bT hio
    rw [aT hle]at e1
    rw [aT (by simpa using hle)]at e2
    obtain⟨j,c,e⟩:=v4.at (σ:=σ) hcap e1 (by simpa using e2)
    obtain⟨c1,c2,c3,c4⟩:=c
    obtain⟨m,hn,hl⟩:=I2.loc
    obtain⟨u,r,lk⟩:=hl j x v c1 e c2
    refine⟨u,r,.inr ⟨?_,?_⟩⟩
    ·have c4':(relabel scope X.env).names.lookup x=some .cell\/(relabel scope X.env).names.lookup x=some .free:=by simpa using c4
     exact c4'
    ·have c4':(relabel scope X.env).names.lookup x=some .cell\/(relabel scope X.env).names.lookup x=some .free:=by simpa using c4
     obtain⟨c',q1,q2⟩:=clhas x (x9 hcell' c4')
     rcases lk with ⟨k1,_⟩|⟨_,c'',k2,k3⟩
     ·rw [k1]at c3;simp at c3
     ·rw [q2]at k2;cases k2
      obtain⟨oc,hoc,hod⟩:=k3
      exact⟨c',q1,oc,old _ _ hoc,hod⟩
  ·obtain⟨v,oc,hoc,hod⟩:=I2.cell x c (cllook x c e)
   exact⟨v,oc,old _ _ hoc,hod⟩
  ·show upd H2 D (.lst []) C=none
   rw [j4 (cF hDC)];exact hC2
  ·rw [j4 (aJ (clt x c e))];exact I2.freeC x c (cllook x c e)
  ·exact I2.hok.laid old (dt hDe) ⟨b9 _,[],0,.nil,accD⟩
  ·show (bo own.length none++vc σ js).length=(own++caps).length
   rw [aQ,aQ,gQ,hcap.len]
 have stat: ∀{H':Hp},(∀b∈fp,H' b=none) -> ∀b∈fp,aa0 (jo X own caps scope C fp s2 H2) [] H' b:=λhn b hb=>
  ⟨hn b hb,(ok'.exf b hb).1,ok'.exfs b hb,.inl hb,(ok'.exf b hb).2,λp hp=> absurd (show p∈([]:List (Addr×Obj)) from hp) (by simp)⟩
 have loop: ∀s₃:ag,s₃={s2 with heap:=h₁,toks:=s2.toks+([]:List (Str×ae)).length} ->
   codeAny (model X.prog X.w) X.A (.compLoop (.ListComp elt [⟨tg,iter,ifs,0⟩] scope pos) 0 (.ref it) (.ref D) (compEnvC scope (qi X.env scope.names []) C X.env)) (post (.ref D) C) s₃:=by
  rintro s₃ rfl
  refine ayz (λn s'=> ∃i vs ys H',vs.length=own.length/\Inv (jo X own caps scope C fp s2 H2) [] (vs++vc σ js) H' s'/\tn i s'.heap/\(∀b∈fp,H' b=none)/\H' D=some (.lst ys)/\W i n ys H') ?_ m0
   ⟨0,bo own.length none,[],upd H2 D (.lst []),by simp,I4,T.keep _ _ _ st2 λb _ o e=> old b o e,λb hb=> by rw [j4 (aJ (fplt b hb))];exact fpn b hb,aac,w0⟩
  rintro n s3 ⟨i,vs,ys,H3,hvs,I3,st3,fr3,hD3,w3⟩
  rcases turn i n ys H3 hD3 w3 with ⟨stop,qn⟩|⟨go,step⟩
  ·refine thn (T.done (jo X own caps scope C fp s2 H2) rfl rfl rfl hcalm i [] s3 _ H3 (λ_ _=> False) I3 (stat fr3) st3 stop) λr s5 ⟨hr,I5⟩=> ?_
   subst hr
   obtain⟨m5,hn5,_⟩:=id I5.loc
   refine hpost D C s5 m5 H3 hn5 (by rw [hDe];lia) (I2.fpOk (by rw [hDe];lia) I5.free) ?_ qn
   exact I2.call' (ch:=fp) I5.os I5.base I5.hok I5.bare λb hb=> ⟨(f2 b hb).2.2.2.1,(f2 b hb).2.1,(f2 b hb).2.2.2.2⟩
  ·refine thn (T.item (jo X own caps scope C fp s2 H2) rfl rfl rfl hcalm i [] s3 _ H3 (λ_ _=> False) I3 (stat fr3) st3 go) λr s4 ⟨u,hr,h4⟩=> ?_
   subst hr
   refine thn h4 λ_ s5 ⟨x,H5,I5,r5,y5,st5,fr5⟩=> ?_
   have I5':=I5.pinned (stat fr5) (T.obj _ _ st5);refine thn (hg C fp s2 H2 _ s5 _ H5 x u _ I5' r5 (step x H5 y5 vs hvs)) λ_ s6 ⟨σ6,H6,I6,⟨vs6,hvs6,e6⟩,q6⟩=> ?_
   subst e6
   refine thn (hi C fp s2 H2 _ s6 _ H6 _ I6 q6) λb s7 ⟨H7,I7,q7⟩=> ?_
   have again: ∀{H8:Hp} {s8:ag} {ys':List V},Inv (jo X own caps scope C fp s2 H2) ([]++acj fp s5.heap) (vs6++vc σ js) H8 s8 -> H8 D=some (.lst ys') -> (∃m',m' < n/\W (i+1) m' ys' H8) ->
     ∃m,m < n/\ ∃i vs ys H',vs.length=own.length/\Inv (jo X own caps scope C fp s2 H2) [] (vs++vc σ js) H' s8/\tn i s8.heap/\(∀b∈fp,H' b=none)/\H' D=some (.lst ys)/\W i m ys H':=λ{H8 s8 ys'} I8 hD8 w8=> by
    obtain⟨m',hm,w8⟩:=w8
    refine⟨m',hm,i+1,vs6,ys',H8,hvs6,I8.unpinned,T.keep _ _ _ st5 λb hb o e=> (I8.pin (b,o) (bi _ (bi _ (yi hb e)))).1,λb hb=> ?_,hD8,w8⟩
    obtain⟨o,e,d⟩:=T.obj _ _ st5 b hb
    exact (I8.pin (b,o) (bi _ (bi _ (yi hb e)))).2.1
   cases b with
   |false=> exact again I7 q7.1 q7.2
   |true=>
    refine thn (he C fp s2 H2 _ s7 _ H7 _ I7 q7) λy s8 ⟨v,H8,I8,r8,hD8,hz8,q8⟩=> ?_
    refine thn (ai8 (X:=jo X own caps scope C fp s2 H2) _ s8 _ H8 (.ref D) [v] (.ref D) [y] (λz H9=> H9=upd H8 D (.lst (ys++ [v]))) I8 rfl (.cons r8 .nil) ⟨D,ys,v,rfl,rfl,hD8,hz8,rfl⟩) λ_ s9 ⟨z,H9,I9,_,e9⟩=> ?_
    subst e9
    exact again I9 aac q8
 refine codeAny_compStart_list (loop _ rfl) (T.self _ 0 _ _ _ (T.keep _ _ _ st2 λb _ o e=> old b o e) (loop _ rfl))
theorem a3m(hcalm:X.calm=true)(hkind:scope.kind=.function)(hnames:(scope.names.all λp=> !(p.2==.local)||(scope.names.lookup p.1==some .local))=true)(hcell:(scope.names.any λp=> p.2==.cell)=false)
  (hk:(scope.names.all λp=> !(p.2==.free)||(X.env.kindOf p.1==some .cell||X.env.kindOf p.1==some .free))=true)
  (hcap:v4 X scope caps js) (hi:PI X tg iter wi) (hg: ∀C fp s H,PG (jo X own caps scope C fp s H) tg g) (ht: ∀C fp s H,ady (jo X own caps scope C fp s H) ifs tt) (he: ∀C fp s H,PE (jo X own caps scope C fp s H) elt te)
  (hs: ∀x,cV iter X.env x=pure x:=by intro _;rfl):PE X (.ListComp elt [⟨tg,iter,ifs,0⟩] scope pos) (tLc js own.length wi g tt te):=by
 refine⟨?_⟩
 intro pins s σ H Q I h
 have hfr: ∀n,(n,bK)∈scope.names -> X.env.kindOf n=some .cell\/X.env.kindOf n=some .free:=λn hn=> by
  have:=(aC.mp hk) _ hn
  simpa using this
 have hn': ∀x∈scope.names,x.2=.local -> scope.names.lookup x.1=some .local:=λx hx e=> by
  have:=(aC.mp hnames) _ hx
  simpa [e] using this
 rw [eval_ListComp]
 refine gf (use:=none) rfl hs (aat λn hn=> I.ok.has n (hfr n hn)) hkind hn' (thn (hi pins s σ H _ I h) λv s1 h1=> thn h1 λitv s2 h2=> ?_)
 obtain⟨it,fp,tn,J,H2,e,I2,T,st2,f2,hw⟩:=h2
 subst e
 refine aql (iter:=iter) (pos:=pos) (post:=λacc C=> compPost (model X.prog X.w) X.A X.xe none (EP X pins σ Q) acc C) hcalm hkind hcell hk hcap hg ht he I2 T st2 f2 hw ?_
 intro D C s' m H' hn _ f hI hq
 exact⟨m,hn,λh' hs'=> ⟨.ref D,H',hI.turned (t':=s'.toks) (λb o hb e=> (hs'.2 b hb).trans e) f.1 f.2.1 f.2.2.2.1 f.2.2.2.2.1 f.2.2.2.2.2,rfl,hq⟩⟩
theorem aud{y:Str}{py:Pos}{spos:Pos}(hsw:f8 (.ListComp elt [⟨tg,iter,ifs,0⟩] scope pos) (some (.Name y py)) spos.line X.env=pure true)(hN:X.N.Nodup)(hy:X.N[i]?=some y)(hyl:X.env.scope.names.lookup y=some .local)(hcalm:X.calm=true)(hkind:scope.kind=.function)(hnames:(scope.names.all λp=> !(p.2==.local)||(scope.names.lookup p.1==some .local))=true)(hcell:(scope.names.any λp=> p.2==.cell)=false)(hk:(scope.names.all λp=> !(p.2==.free)||(X.env.kindOf p.1==some .cell||X.env.kindOf p.1==some .free))=true)(hcap:v4 X scope caps js)(hi:PI X tg iter wi)(hg: ∀C fp s H,PG (jo X own caps scope C fp s H) tg g)(ht: ∀C fp s H,ady (jo X own caps scope C fp s H) ifs tt)(he: ∀C fp s H,PE (jo X own caps scope C fp s H) elt te)(hs: ∀x,cV iter X.env x=pure x:=by intro _;rfl):PS X (.Assign [.Name y py] (.ListComp elt [⟨tg,iter,ifs,0⟩] scope pos) spos) (λD σ H=> tLc js own.length wi g tt te σ H λv H'=> D.nx (σ.set i (some v)) H'):=by
 refine⟨?_⟩
 intro pins s σ H D I h
 have hfr: ∀n,(n,bK)∈scope.names -> X.env.kindOf n=some .cell\/X.env.kindOf n=some .free:=λn hn=> by
  have:=(aC.mp hk) _ hn
  simpa using this
 have hn': ∀x∈scope.names,x.2=.local -> scope.names.lookup x.1=some .local:=λx hx e=> by
  have:=(aC.mp hnames) _ hx
  simpa [e] using this
 rw [kY _ _ _ _ hsw];refine aa (eU (aa ?_))
 show wpAny _ _ (do let _←comprehension (.ListComp elt [⟨tg,iter,ifs,0⟩] scope pos) scope X.env _ (newList []) false (eval iter X.env) (some (assign (.Name y py) X.env))) _ _ s
 refine aa (bQ (gf (use:=some (assign (.Name y py) X.env)) (Q:=λ_ s'=> SP X pins D .next s') rfl hs (aat λn hn=> I.ok.has n (hfr n hn)) hkind hn'
  (thn (hi pins s σ H _ I h) λv s1 h1=> thn h1 λitv s2 h2=> ?_)) (λ_ s' hq=> af (af hq)) λ_ _ e=> e)
 obtain⟨it,fp,tn,J,H2,e,I2,T,st2,f2,hw⟩:=h2
 subst e
 refine aql (iter:=iter) (pos:=pos) (post:=λacc C=> compPost (model X.prog X.w) X.A X.xe (some (assign (.Name y py) X.env)) (λ_ s'=> SP X pins D .next s') acc C) hcalm hkind hcell hk hcap hg ht he I2 T st2 f2 hw ?_
 intro Da C s' m H' hn hCs f I' hq
 show wpAny _ _ (assign (.Name y py) X.env (.ref Da)) _ _ _
 refine iS (aeg (v:=.ref Da) (u:=.ref Da) I' hN hy (.inl hyl) rfl (λs6 I6 hs6=> ?_) (.inr hyl))
 obtain⟨a,hsb,ha⟩:=hs6
 have haC:a≠C:=by
  rcases ha with z|z
  ·rw [z];exact cF f.2.1
  ·exact f.2.2.2.2.1 y a z
 exact⟨m,hn.sameBut hsb (cF haC),λh' hs'=> ⟨σ.set i (some (.ref Da)),H',I6.turned (t':=s6.toks) (λb o hb e=> (hs'.2 b hb).trans e) f.1 f.2.1 f.2.2.2.1 f.2.2.2.2.1 f.2.2.2.2.2,hq⟩⟩
end
def Has(K:am)(mg:Str -> Option ae)(x:Str)(st:Stmt)(ps:List Str):Prop:=
 ∃(f:Addr) (fd:f9),Fun K x x st f fd/\mg x=some (.ref f)/\Binds K fd ps []
theorem avg:bG "len"=some (.builtin "len"):=by decide+kernel
theorem a4h:bG "max"=some (.builtin "max"):=by decide+kernel
theorem a0x:bG "repr"=some (.builtin "repr"):=by decide+kernel
theorem afh:bG "sorted"=some (.builtin "sorted"):=by decide+kernel
theorem al1:bG "isinstance"=some (.builtin "isinstance"):=by decide+kernel
theorem a3w:bG "all"=some (.builtin "all"):=by decide+kernel
theorem a0s:bG "list"=some (.type "list"):=by decide+kernel
theorem am4:bG "tuple"=some (.type "tuple"):=by decide+kernel
theorem avw:bG "set"=some (.type "set"):=by decide+kernel
theorem a3h:bG "int"=some (.type "int"):=by decide+kernel
theorem a2w:bG "bool"=some (.type "bool"):=by decide+kernel
noncomputable def tyD:ac -> String
 |.none=> "NoneType"
 |.bool _=> "bool"
 |.int _=> "int"
 |.str _=> "str"
 |.list _=> "list"
 |.tuple _=> "tuple"
 |.dict _=> "dict"
noncomputable def aa3(d:ac)(n:String):Bool:=match d with
 |.none=> n=="NoneType"
 |.bool _=> n=="bool"||n=="int"
 |.int _=> n=="int"
 |.str _=> n=="str"
 |.list _=> n=="list"
 |.tuple _=> n=="tuple"
 |.dict _=> n=="dict"
theorem apg(K:am)(d:ac)(n:String)(hn:n="str"\/n="int"\/n="bool"\/n="tuple"\/n="list"):PySem.W.kitOne K (.type (tyD d)) (.type n)=some (aa3 d n):=by
 rcases hn with rfl|rfl|rfl|rfl|rfl <;> cases d <;> rfl
noncomputable def ajj:Const -> Option V
 |.str x=> some (.str x)
 |.int i=> some (.int i)
 |.bool b=> some (.bl b)
 |.none=> some .non
 |_=> none
def ad8:List Expr -> Option (List V)
 |[]=> some []
 | .Constant c _ _::r=> match ajj c with
  |some v=> match ad8 r with
   |some vs=> some (v::vs)
   |none=> none
  |none=> none
 |_=> none
theorem asm{c:Const}:starEach (.Constant c j pos::es) env=(false,eval (.Constant c j pos) env)::starEach es env:=by rfl
noncomputable def tVs(vs:List V):TA:=λ_ H Q=> Q vs H
theorem awa{c:Const}(h:ajj c=some v):PE X (.Constant c j pos) (tC v):=by
 cases c <;> simp [ajj]at h <;> subst h
 all_goals first
  |exact as9
  |exact apx
  |exact aw1
  |exact apf
theorem aip: ∀{es:List Expr} {vs:List V},ad8 es=some vs -> PA X es (tVs vs)
 |[],vs,h=> by
  cases h
  exact aei
 | e ::es,vs,h=> by
  cases e with
  | Constant c j pos=>
   simp only [ad8]at h
   cases h1:ajj c with
   |none=>
    rw [h1]at h
    cases h
   | some v=>
    rw [h1]at h
    cases h2:ad8 es with
    |none=> rw [h2]at h;cases h
    |some ws=>
     rw [h2]at h
     cases h
     have p:=acd (awa (X:=X) (pos:=pos) (j:=j) h1) (aip h2) asm
     exact p
  |_=> simp [ad8]at h
structure New (H:Hp) (p:Addr) (o:HO) (H':Hp):Prop where
 no:H p=none
 eq:H'=upd H p o
theorem New.at(n:New H p o H'):H' p=some o:=by rw [n.eq,aac]
theorem New.keep{u:HO}(n:New H p o H')(e:H b=some u):H' b=some u:=by rw [n.eq,j4 (xf e n.no)];exact e
structure Chg (H:Hp) (p:Addr) (o:HO) (H':Hp):Prop where
 eq:H'=upd H p o
theorem Chg.at(n:Chg H p o H'):H' p=some o:=by rw [n.eq,aac]
theorem Chg.keep{u:HO}(n:Chg H p o H')(h:b≠p)(e:H b=some u):H' b=some u:=by rw [n.eq,j4 h];exact e
theorem PE.weak{t t':TE}(h:PE X e t)(k: ∀σ H Q,t' σ H Q -> t σ H Q):PE X e t':=.mk <|λpins s σ H Q I q=> h pins s σ H Q I (k σ H Q q)
theorem OpR.weak{f:ae -> ae -> Sem ae}{r r':R2}(h:OpR X f r)(k: ∀x y H Q,r' x y H Q -> r x y H Q):OpR X f r':=λpins s σ H x y v u Q I rx ry q=> h pins s σ H x y v u Q I rx ry (k x y H Q q)
theorem vk.weak{f:ae}{r r':List V -> Hp -> VK -> Prop}(h:vk X f r)(k: ∀xs H Q,r' xs H Q -> r xs H Q):vk X f r':=λpins s σ H xs us Q I rv q=> h pins s σ H xs us Q I rv (k xs H Q q)
theorem MtM.weak{id:String}{r r':V -> List V -> Hp -> VK -> Prop}(h:MtM X id r)(k: ∀x xs H Q,r' x xs H Q -> r x xs H Q):MtM X id r':=λpins s σ H x xs v us Q I rx rv q=> h pins s σ H x xs v us Q I rx rv (k x xs H Q q)
theorem SlR.weak{r r':V -> Option Int -> Option Int -> Hp -> VK -> Prop}(h:SlR X r)(k: ∀x lo hi H Q,r' x lo hi H Q -> r x lo hi H Q):SlR X r':=by
 intro pins s σ H x v vl vu lo hi sl Q I rx hs pl pu q
 exact h pins s σ H x v vl vu lo hi sl Q I rx hs pl pu (k x lo hi H Q q)
theorem afe.weak{t t':ao1}(h:afe X t)(k: ∀o i v H Q,t' o i v H Q -> t o i v H Q):afe X t':=λpins s σ H o i v ov iv u Q I ro ri rv q=> h pins s σ H o i v ov iv u Q I ro ri rv (k o i v H Q q)
noncomputable def a4s(t:TA):TE:=λσ H Q=> t σ H λxs H1=> xs.length <=sizeLine/\ ∀p H',New H1 p (.tup xs) H' -> Q (.ref p) H'
noncomputable def a4p(t:TA):TE:=λσ H Q=> t σ H λxs H1=> xs.length <=sizeLine/\ ∀p H',New H1 p (.lst xs) H' -> Q (.ref p) H'
theorem axh{t:TA}{x1 pos}(h:PA X es t):PE X (.Tuple es x1 pos) (a4s t):=by
 refine⟨?_⟩
 intro pins s σ H Q I hq
 refine wpAny_Tuple_spliced (thn (h pos pins s σ H _ I hq) λus s1 ⟨xs,H1,I1,r,z,q⟩=> ⟨by rw [←r.length];exact z,?_⟩)
 have hf:H1 s1.heap.objs.size=none:=I1.hok.fresh (av _)
 refine⟨.ref s1.heap.objs.size,upd H1 s1.heap.objs.size (.tup xs),I1.laid (t':=s1.toks) (λb u e=> aj _ e) (av _) ?_,rfl,q _ _ ⟨hf,rfl⟩⟩
 exact⟨z,us,r,⟨_,ay _ rfl⟩⟩
theorem aws{t:TA}{pos}(h:PA X es t):PE X (.List es pos) (a4p t):=by
 refine⟨?_⟩
 intro pins s σ H Q I hq
 refine wpAny_List_spliced (thn (h pos pins s σ H _ I hq) λus s1 ⟨xs,H1,I1,r,z,q⟩=> ⟨by rw [←r.length];exact z,?_⟩)
 have hf:H1 s1.heap.objs.size=none:=I1.hok.fresh (av _)
 refine⟨.ref s1.heap.objs.size,upd H1 s1.heap.objs.size (.lst xs),I1.laid (t':=s1.toks) (λb u e=> aj _ e) (av _) ?_,rfl,q _ _ ⟨hf,rfl⟩⟩
 exact⟨z,us,0,r,ay _ rfl⟩
def a3c(K:am):V -> Option Int -> Option Int -> Hp -> VK -> Prop:=λx lo hi H Q=> ∃a xs,x=.ref a/\SqL K H a xs/\ ∀p H',New H p (.lst (yz xs lo hi)) H' -> Q (.ref p) H'
theorem auf:SlR X (a3c X.K):=ax4.weak λx lo hi H Q ⟨a,xs,e,h,q⟩=> ⟨a,xs,e,h,λp hp=> q p _ ⟨hp,rfl⟩⟩
def a36(K:am):V -> Option Int -> Option Int -> Hp -> VK -> Prop:=λx lo hi H Q=> ∃a xs,x=.ref a/\SqT K H a xs/\ ¬(HT.sIx xs.length 0 lo=0/\HT.sIx xs.length xs.length hi=xs.length)/\ ∀p H',New H p (.tup (yz xs lo hi)) H' -> Q (.ref p) H'
theorem ay4:SlR X (a36 X.K):=aq5.weak λx lo hi H Q ⟨a,xs,e,h,n,q⟩=> ⟨a,xs,e,h,n,λp hp=> q p _ ⟨hp,rfl⟩⟩
noncomputable def a4v:R2:=λx y H Q=> ∃l b xs zs,x=.ref l/\y=.ref b/\H l=some (.lst xs)/\H b=some (.lst zs)/\xs.length+zs.length <=sizeLine/\ ∀p H',New H p (.lst (xs++zs)) H' -> Q (.ref p) H'
theorem ayw:OpR X (binaryOp .Add) a4v:=a2l.weak λx y H Q ⟨l,b,xs,zs,e1,e2,h1,h2,n,q⟩=> ⟨l,b,xs,zs,e1,e2,h1,h2,n,λp hp=> q p _ ⟨hp,rfl⟩⟩
theorem ac1:vk X (.type "tuple") (λxs H Q=> ∃p ys,xs=[.ref p]/\((SqL X.K H p ys/\ ∀l H',New H l (.tup ys) H' -> Q (.ref l) H')\/(SqT X.K H p ys/\Q (.ref p) H))):=
 aiz.weak λxs H Q ⟨p,ys,e,h⟩=> ⟨p,ys,e,h.imp (λ⟨a,q⟩=> ⟨a,λl hl=> q l _ ⟨hl,rfl⟩⟩) id⟩
def au5:V -> List V -> Hp -> VK -> Prop:=λx vs H Q=> ∃l xs y,x=.ref l/\vs=[y]/\H l=some (.lst xs)/\xs.length < sizeLine/\ ∀H',Chg H l (.lst (xs++ [y])) H' -> Q .non H'
theorem aon:MtM X "list.append" au5:=ai8.weak λx vs H Q ⟨l,xs,y,e1,e2,h,n,q⟩=> ⟨l,xs,y,e1,e2,h,n,q _ ⟨rfl⟩⟩
def a2e:V -> V -> V -> Hp -> (Hp -> Prop) -> Prop:=λo i v H Q=> ∃p xs k j,o=.ref p/\i=.int k/\H p=some (.lst xs)/\ixN xs.length k=some j/\ ∀H',Chg H p (.lst (xs.set j v)) H' -> Q H'
theorem aqb:afe X a2e:=ava.weak λo i v H Q ⟨p,xs,k,j,e1,e2,h,n,q⟩=> ⟨p,xs,k,j,e1,e2,h,n,q _ ⟨rfl⟩⟩
end L2
namespace ST
open PySem PySem.SetTable
noncomputable def it(m:Nat):Nat -> Nat -> Nat
 |0,i=> i
 |r+1,i=> it m r ((i*5+1) % (m+1))
theorem al7(m a b i:Nat):it m (a+b) i=it m b (it m a i):=by
 induction a generalizing i with
 |zero=> rw [mD];rfl
 |succ a ih=> rw [show a+1+b=(a+b)+1 by lia];exact ih _
noncomputable def ao7(m:Nat):Nat -> Nat -> List Nat
 |0,_=> []
 |n+1,i=> i::ao7 m n ((i*5+1) % (m+1))
theorem ads{m:Nat}: ∀{n i j:Nat},j∈ao7 m n i -> ∃r,r < n/\it m r i=j
 |0,_,_,h=> by cases h
 | n+1,i,j,h=> by
  (rcases aA.mp h with rfl|h)
  ·exact⟨0,by lia,rfl⟩
  ·obtain⟨r,hr,e⟩:=ads h
   exact⟨r+1,by lia,e⟩
def cyc(m:Nat):Bool:=((aW (m+1)).all λj=> (ao7 m (m+1) 0).contains j)&&(it m (m+1) 0==0)
theorem reach{m:Nat}(hc:cyc m=true)(hi:i <=m)(hj:j <=m): ∃r,r <=m/\it m r i=j:=by
 unfold cyc at hc
 simp only [aD,aC,bA,List.contains_iff_mem,beq_iff_eq]at hc
 obtain⟨a,ha,ea⟩:=ads (hc.1 i (by lia))
 obtain⟨b,hb,eb⟩:=ads (hc.1 j (by lia))
 by_cases h:a <=b
 ·refine⟨b - a,by lia,?_⟩
  rw [←ea,←al7,show a+(b - a)=b by lia,eb]
 ·refine⟨b+(m+1) - a,by lia,?_⟩
  rw [←ea,←al7,show a+(b+(m+1) - a)=(m+1)+b by lia,al7,hc.2,eb]
theorem cyc7:cyc 7=true:=by decide+kernel
theorem cyc31:cyc 31=true:=by decide+kernel
theorem cyc127:cyc 127=true:=by decide+kernel
noncomputable def lp(m:Nat):Nat -> Nat×Nat -> Nat×Nat
 |0,p=> p
 |n+1,p=> lp m n (leap m p.1 p.2)
theorem arm(m a b:Nat)(p:Nat×Nat):lp m (a+b) p=lp m b (lp m a p):=by
 induction a generalizing p with
 |zero=> rw [mD];rfl
 |succ a ih=> rw [show a+1+b=(a+b)+1 by lia];exact ih _
theorem amy(m n:Nat)(p:Nat×Nat):lp m (n+1) p=leap m (lp m n p).1 (lp m n p).2:=by rw [arm];rfl
theorem am2(m:Nat): ∀(n:Nat) (p:Nat×Nat),(lp m n p).2=p.2/32^n
 |0,p=> by simp [lp]
 |n+1,p=> by
  rw [amy]
  show (lp m n p).2/32=_
  rw [am2 m n p,Nat.div_div_eq_div_mul,Nat.pow_succ]
theorem a4f(m n:Nat)(p:Nat×Nat)(h:p.1 <=m):(lp m n p).1 <=m:=by
 cases n with
 |zero=> exact h
 |succ n=>
  rw [amy]
  show _ % (m+1) <=m
  have:=gq ((lp m n p).1*5+1+(lp m n p).2/32) (show 0 < m+1 by lia)
  lia
theorem avm(m:Nat): ∀(n i:Nat),lp m n (i,0)=(it m n i,0)
 |0,_=> rfl
 |n+1,i=> by
  show lp m n ((i*5+1+0/32) % (m+1),0/32)=_
  rw [Nat.zero_div,Nat.add_zero,avm m n]
  rfl
theorem akn{m p:Nat}(hc:cyc m=true)(hi:i <=m)(hp:p < 2^64)(hj:j <=m): ∃n,n <=13+m/\(lp m n (i,p)).1=j:=by
 have h13:lp m 13 (i,p)=((lp m 13 (i,p)).1,0):=by
  have:=am2 m 13 (i,p)
  rw [Nat.div_eq_of_lt (aP hp (by decide))]at this
  exact Prod.ext rfl this
 obtain⟨r,hr,e⟩:=reach hc (a4f m 13 (i,p) hi) hj
 refine⟨13+r,by lia,?_⟩
 rw [arm,h13,avm,e]
noncomputable def adv(t:bp):Nat -> Probe -> Probe
 |0,p=> p
 |n+1,p=> adv t n (t.advance p)
theorem ab0(t:bp)(a b:Nat)(p:Probe):adv t (a+b) p=adv t b (adv t a p):=by
 induction a generalizing p with
 |zero=> rw [mD];rfl
 |succ a ih=> rw [show a+1+b=(a+b)+1 by lia];exact ih _
theorem aab(t:bp)(n:Nat)(p:Probe):adv t (n+1) p=t.advance (adv t n p):=by rw [ab0];rfl
theorem ah2(t:bp): ∀(n:Nat) (p:Probe),n <=p.more -> adv t n p={p with j:=p.j+n,more:=p.more - n}
 |0,p,_=> rfl
 |n+1,p,h=> by
  rw [aab,ah2 t n p (by lia)]
  unfold advance
  rw [if_pos (show p.more - n > 0 by lia)]
  simp only [Probe.mk.injEq,and_true,true_and]
  lia
noncomputable def blk(m:Nat)(p:Nat×Nat):Probe:={j:=p.1,more:=runEnd m p.1 - p.1,i:=p.1,perturb:=p.2,dummy:=none}
theorem a6d(m i:Nat):runEnd m i - i <=9:=by unfold runEnd;split <;> lia
theorem alc(t:bp)(p:Nat×Nat):adv t (runEnd t.mask p.1 - p.1+1) (blk t.mask p)=blk t.mask (leap t.mask p.1 p.2):=by
 rw [aab,ah2 t (runEnd t.mask p.1 - p.1) (blk t.mask p) (av _)]
 unfold advance
 rw [if_neg (by simp [blk])]
 rfl
theorem arn(t:bp): ∀(n:Nat) (p:Nat×Nat),∃k,k <=10*n/\adv t k (blk t.mask p)=blk t.mask (lp t.mask n p)
 |0,p=> ⟨0,by lia,rfl⟩
 |n+1,p=> by
  obtain⟨k,hk,e⟩:=arn t n (leap t.mask p.1 p.2)
  refine⟨(runEnd t.mask p.1 - p.1+1)+k,by have:=a6d t.mask p.1;lia,?_⟩
  rw [ab0,alc,e]
  rfl
theorem ai4(t:bp)(h:Int):t.probeStart h=blk t.mask (bits h % (t.mask+1),bits h):=rfl
theorem amg(h:Int):bits h < 2^64:=by
 unfold bits
 have h0:=jW h (show (2^64:Int)≠0 by decide)
 have h1:=iA h (show (0:Int) < 2^64 by decide)
 have:(2:Int)^64=18446744073709551616:=by decide
 lia
theorem a32(t:bp)(hc:cyc t.mask=true)(h:Int)(hj:j <=t.mask): ∃k,k < 10*turns t.mask/\(adv t k (t.probeStart h)).j=j:=by
 have hi:bits h % (t.mask+1) <=t.mask:=by have:=gq (bits h) (show 0 < t.mask+1 by lia);lia
 obtain⟨n,hn,e⟩:=akn hc hi (amg h) hj
 obtain⟨k,hk,e2⟩:=arn t n (bits h % (t.mask+1),bits h)
 refine⟨k,by unfold turns;lia,?_⟩
 rw [ai4,e2]
 exact e
theorem adv_dummy(t:bp): ∀(n:Nat) (p:Probe),(adv t n p).dummy=p.dummy
 |0,_=> rfl
 |n+1,p=> by
  rw [aab,←adv_dummy t n p]
  unfold advance
  split <;> rfl
structure MeetE (t:bp) (ha:Nat -> Int) (h:Int) (p:Probe) (k:Nat):Prop where
 empty:t.slot (adv t k p).j=.empty
 live: ∀k',k' < k -> ∃i,t.slot (adv t k' p).j=.live i/\ha i≠h
structure MeetC (t:bp) (ha:Nat -> Int) (h:Int) (p:Probe) (k i:Nat):Prop where
 cand:t.slot (adv t k p).j=.live i
 hash:ha i=h
 live: ∀k',k' < k -> ∃i,t.slot (adv t k' p).j=.live i/\ha i≠h
theorem ajs(t:bp)(ha:Nat -> Int)(h:Int)(nd: ∀j,t.slot j≠ .dummy): ∀(fuel:Nat) (p:Probe),p.dummy=none -> (∃k,k < fuel/\t.slot (adv t k p).j=.empty) ->
  (∃k,k < fuel/\MeetE t ha h p k/\probe.go t ha h fuel p=some (.empty (adv t k p).j none))\/(∃k i,k < fuel/\MeetC t ha h p k i/\probe.go t ha h fuel p=some (.candidate (adv t k p).j i (adv t (k+1) p)))
 |0,_,_,⟨k,hk,_⟩=> by lia
 | fuel+1,p,hd,⟨k,hk,e⟩=> by
  cases hs:t.slot p.j with
  |empty=> exact .inl ⟨0,by lia,⟨hs,λk' h=> by lia⟩,by unfold probe.go;rw [hs];simp only [hd];rfl⟩
  |dummy=> exact absurd hs (nd _)
  | live i=>
   by_cases hh:ha i=h
   ·exact .inr ⟨0,i,by lia,⟨hs,hh,λk' h=> by lia⟩,by unfold probe.go;rw [hs];simp only [hh,beq_self_eq_true,if_true];rfl⟩
   ·have hk0:k≠0:=λz=> by subst z;rw [show adv t 0 p=p from rfl,hs]at e;cases e
    obtain⟨k2,rfl⟩: ∃k2,k=k2+1:=⟨k - 1,by lia⟩
    have g:probe.go t ha h (fuel+1) p=probe.go t ha h fuel (t.advance p):=by
     conv=> lhs;unfold probe.go
     rw [hs];simp only [beq_iff_eq,hh,if_false]
    have hl: ∀n,(∀k',k' < n -> ∃i,t.slot (adv t k' (t.advance p)).j=.live i/\ha i≠h) -> ∀k',k' < n+1 -> ∃i,t.slot (adv t k' p).j=.live i/\ha i≠h:=by
     intro n hn k' hk'
     cases k' with
     |zero=> exact⟨i,hs,hh⟩
     |succ k'=> exact hn k' (by lia)
    rcases ajs t ha h nd fuel (t.advance p) (by have:=adv_dummy t 1 p;exact this.trans hd) ⟨k2,by lia,e⟩with ⟨n,a,b,c⟩|⟨n,i2,a,b,c⟩
    ·exact .inl ⟨n+1,by lia,⟨b.empty,hl n b.live⟩,g.trans c⟩
    ·exact .inr ⟨n+1,i2,by lia,⟨b.cand,b.hash,hl n b.live⟩,g.trans c⟩
abbrev Ris(l:List Nat):Prop:=l.Pairwise (· < ·)
theorem ris_get{l:List Nat}(h:Ris l){a b:Nat}(ha:a < b)(hb:b < l.length):l[a]'(by lia) < l[b]:=(eA.mp h) a b (by lia) hb ha
theorem afg(xs:Array Nat)(j:Nat)(h:Ris xs.toList): ∀(fuel lo hi:Nat),lo <=hi -> hi <=xs.size -> hi - lo <=fuel -> (∀i,i < lo -> xs.getD i j < j) -> (∀i,hi <=i -> i < xs.size -> j <=xs.getD i j) ->
  below.go xs j fuel lo hi <=xs.size/\(∀i,i < below.go xs j fuel lo hi -> xs.getD i j < j)/\(∀i,below.go xs j fuel lo hi <=i -> i < xs.size -> j <=xs.getD i j)
 |0,lo,hi,h1,h2,h3,h4,h5=> by
  unfold below.go
  exact⟨by lia,h4,λi a b=> h5 i (by lia) b⟩
 | fuel+1,lo,hi,h1,h2,h3,h4,h5=> by
  unfold below.go
  split
  ·rename_i hlt
   have mono: ∀a b,a <=b -> b < xs.size -> xs.getD a j <=xs.getD b j:=by
    intro a b hab hb
    rcases Nat.lt_or_eq_of_le hab with z|z
    ·have:=ris_get h z (by rw [ar];exact hb)
     simp only [cR,show a < xs.size by lia,hb,dif_pos]
     simpa using gY this
    ·subst z;exact av _
   dsimp only
   split
   ·rename_i c
    refine afg xs j h fuel _ _ (by lia) h2 (by lia) (λi hi'=> ?_) h5
    exact Nat.lt_of_le_of_lt (mono i ((lo+hi)/2) (by lia) (by lia)) c
   ·rename_i c
    refine afg xs j h fuel _ _ (by lia) (by lia) (by lia) h4 (λi a b=> ?_)
    exact br (by lia) (mono ((lo+hi)/2) i a b)
  ·exact⟨by lia,h4,λi a b=> h5 i (by lia) b⟩
theorem below_spec(xs:Array Nat)(j:Nat)(h:Ris xs.toList):below xs j <=xs.size/\(∀i,i < below xs j -> xs.getD i j < j)/\(∀i,below xs j <=i -> i < xs.size -> j <=xs.getD i j):=
 afg xs j h xs.size 0 xs.size (b9 _) (av _) (by lia) (λi hi=> by lia) (λi a b=> by lia)
theorem below_ix{xs:Array Nat}(h:Ris xs.toList)(e:xs[i]?=some j):below xs j=i:=by
 obtain⟨b1,b2,b3⟩:=below_spec xs j h
 have hi:i < xs.size:=(cb.mp e).1
 have ei:xs.getD i j=j:=by simp only [cR,hi,dif_pos];exact (cb.mp e).2
 have h1: ¬i < below xs j:=λz=> by have:=b2 i z;lia
 have h2: ¬below xs j < i:=λz=> by
  have hb:below xs j < xs.size:=by lia
  have:=b3 _ (av _) hb
  have q:=ris_get h z (by rw [ar];exact hi)
  have e2:xs.getD (below xs j) j=xs[below xs j]:=by simp only [cR,hb,dif_pos];rfl
  have e3:xs[i]=j:=(cb.mp e).2
  simp only [lF]at q
  lia
 lia
structure Ok (t:bp):Prop where
 nd:t.dummies= #[]
 ris:Ris t.place.toList
 le: ∀j∈t.place.toList,j <=t.mask
 room:t.place.size <=t.mask
 cyc:cyc t.mask=true
theorem has_nil(j:Nat):has #[] j=false:=by unfold has;simp
theorem slot_live(h:Ok t):t.slot j=.live i ↔ t.place[i]?=some j:=by
 unfold slot
 rw [h.nd,has_nil]
 dsimp only
 constructor
 ·intro e
  split at e
  ·rename_i c
   injection e with e
   rw [←e];simpa using c
  ·simp at e
 ·intro e
  rw [below_ix h.ris e,e]
  simp
theorem adg(h:Ok t):t.slot j=.empty ↔ j∉t.place.toList:=by
 constructor
 ·intro e m
  obtain⟨i,hi⟩:=eB m
  rw [(slot_live h (i:=i)).mpr (by simpa using hi)]at e
  cases e
 ·intro m
  unfold slot
  rw [h.nd,has_nil]
  dsimp only
  split
  ·rename_i c
   exact absurd (dk.mpr (kZ (by simpa using c))) m
  ·simp
theorem azk(h:Ok t)(j:Nat):t.slot j≠ .dummy:=by
 unfold slot
 rw [h.nd,has_nil]
 dsimp only
 split <;> simp
theorem aup(h:Ok t): ∃j,j <=t.mask/\t.slot j=.empty:=by
 apply bJ
 intro z
 have all: ∀j∈aW (t.mask+1),j∈t.place.toList:=by
  intro j hj
  apply bJ
  intro m
  exact z ⟨j,by have:=bA.mp hj;lia,(adg h).mpr m⟩
 have:=(jD (n:=t.mask+1)).length_le_of_subset all
 rw [cz,ar]at this
 have:=h.room
 lia
end ST
namespace L2
open PySem PySem.Spec PyProof.Rows
def ajx(w:aO)(k:Nat)(t:bp):Prop:=t.led= !(w.params.followText "set-order")/\(k≠0 -> t.plain=false\/ST.Ris t.place.toList)
theorem awr(t:bp)(es:Array (Int×ae))(h:Int)(x:ae):(layNew t es h x).2.1.led=t.led:=by
 have si: ∀(u:bp) (m:Nat),(u.orStandIn m).led=u.led:=λu m=> by
  unfold SetTable.orStandIn
  by_cases c:u.fits m=true
  ·rw [if_pos c]
  ·rw [if_neg c];rfl
 unfold layNew
 cases t.freeSlot h with
 |none=> rfl
 |some q=>
  obtain⟨sl,wd⟩:=q
  exact (si _ _).trans rfl
theorem ajz{t':bp}{hs:Array Int}{wd:Nat}{od:Array Nat}(e:t.relaid hs wd=some (t',od)):t'.led=t.led/\t'.plain=t.plain:=by
 unfold jX lV at e
 cases c:SetTable.layClean (dh wd - 1) hs with
 |none=> rw [c]at e;cases e
 |some ow=>
  rw [c]at e
  simp only [ib,jE,jY,dv,iI]at e
  obtain⟨rfl,_⟩:=e
  exact⟨rfl,rfl⟩
theorem ase(t:bp)(es:Array (Int×ae))(wd:Nat):(relayAll t es wd).2.1.led=t.led/\(t.plain=false -> (relayAll t es wd).2.1.plain=false):=by
 unfold relayAll
 cases c:t.relaid (es.map (·.1)) wd with
 |none=> exact⟨rfl,λ_=> rfl⟩
 |some q=>
  obtain⟨t',od⟩:=q
  obtain⟨k1,k2⟩:=ajz c
  dsimp only
  split
  ·exact⟨k1,λz=> k2.trans z⟩
  ·exact⟨rfl,λ_=> rfl⟩
theorem azs(a:ae){Q1:ae -> ag -> Prop}(h:Q1 (.ref s.heap.objs.size) {s with heap:=s.heap.push {cls:=.type "set",dict:=none,data:=.set #[] 0 (.fresh 0 0 (!(w.params.followText "set-order")))}}):
  codeAny (model prog w) A (.call (.builtin "set.__new__") ⟨[.type "set",a],[]⟩) (wants Q1 E) s:=by
 refine jZ (show wpAny _ A.in1 (do checkBuiltinCall "set.__new__" ⟨[.type "set",a],[]⟩;again (.builtin "set.__new__" ⟨[.type "set",a],[]⟩)) _ _ s from ?_)
 refine aa (mR (PySem.F.newCall_set_1 a) (af ⟨fS lc _,c0 PySem.F.entry_set_new ?_⟩))
 rw [cS lc _];unfold cC.«set.__new__» Builtin.Frozenset.newClass
 have sb:=PySem.sub_set_self
 obtain⟨hp,g,d,tk,os⟩:=s;dsimp only
 wp_walk
 refine jF (af ?_);dsimp only;simp only [newObj]
 exact aa (wpAny_alloc (af (af h)))
noncomputable def k8{α:Type}[DecidableEq α](l:List α)(x:α):List α:=if x∈l then l else l++ [x]
def jr{α:Type}[DecidableEq α](xs:List α):List α:=xs.foldl k8 []
theorem ait{α:Type}[DecidableEq α](xs:List α)(x:α):jr (xs++ [x])=k8 (jr xs) x:=by unfold jr;rw [List.foldl_append];rfl
theorem abh{α:Type}[DecidableEq α]{l:List α}{x y:α}:y∈k8 l x ↔ y∈l\/y=x:=by
 unfold k8
 split
 ·constructor
  ·exact gJ
  ·rintro (h|rfl)
   ·exact h
   ·assumption
 ·simp
theorem ao3{α:Type}[DecidableEq α]{l:List α}{x:α}(h:l.Nodup):(k8 l x).Nodup:=by
 unfold k8
 split
 ·exact h
 ·rename_i hx
  rw [dZ]
  refine⟨h,by simp,λa ha b hb=> ?_⟩
  rw [aF.mp hb]
  rintro rfl
  exact hx ha
theorem agp{α:Type}[DecidableEq α](xs:List α):(jr xs).Nodup/\(∀y,y∈jr xs ↔ y∈xs)/\(jr xs).length <=xs.length:=by
 have all: ∀(ys acc:List α),acc.Nodup -> (ys.foldl k8 acc).Nodup/\(∀y,y∈ys.foldl k8 acc ↔ y∈acc\/y∈ys)/\(ys.foldl k8 acc).length <=acc.length+ys.length:=by
  intro ys
  induction ys with
  |nil=> intro acc h;exact⟨h,by simp,av _⟩
  | cons z r ih=>
   intro acc h
   obtain⟨h1,h2,h3⟩:=ih (k8 acc z) (ao3 h)
   refine⟨h1,λy=> ?_,?_⟩
   ·rw [dQ,h2,abh,aA]
    constructor
    ·rintro ((a|a)|a)
     ·exact .inl a
     ·exact .inr (.inl a)
     ·exact .inr (.inr a)
    ·rintro (a|a|a)
     ·exact .inl (.inl a)
     ·exact .inl (.inr a)
     ·exact .inr a
   ·rw [dQ,aG]
    have:(k8 acc z).length <=acc.length+1:=by unfold k8;split <;> simp
    lia
 have h:=all xs [] fE
 refine⟨h.1,λy=> ?_,?_⟩
 ·show y∈xs.foldl k8 [] ↔ _
  simpa using h.2.1 y
 ·show (xs.foldl k8 []).length <=_
  simpa using h.2.2
set_option maxHeartbeats 8000000 in
theorem apu{oc:Obj}(hh:A.handled=none)(hT:T="list"\/T="tuple")(ho:s.heap.get? a=some oc)(hc:oc.cls=.type T){its:Array ae}{k:Nat}(hd:oc.data=.seq its k){SF:Heap -> Prop}(run: ∀(A':aX) (I:Addr) (fp wr:List Addr) (P:Nat -> ae -> Prop) (St:Nat -> ag -> Prop) (s0:ag) (R:gZ -> ag -> Prop),WalksS prog w A'.in1 I fp wr (λx y=> y=x) its.size P St -> (∀i v,P i v -> its[i]?=some v) -> s.heap.objs.size∉fp -> St 0 s0 ->
   (∃led:Bool,led= !(w.params.followText "set-order")/\s0.heap.get? s.heap.objs.size=some {cls:=.type "set",dict:=none,data:=.set #[] 0 (.fresh 0 0 led)}) -> (∀s',lG (s.heap.objs.size::wr) (λx y=> y=x) s0 s' -> SF s'.heap -> R (.ok (.ret .none)) s') -> codeAny (model prog w) A' (.builtin "set.update.loop" ⟨[.ref s.heap.objs.size,.ref I],[]⟩) R s0) (h: ∀(h':Heap) (tk:Nat),SF h' -> (∀b o,b < s.heap.objs.size -> s.heap.get? b=some o -> h'.get? b=some o) -> Q (.ref s.heap.objs.size) {s with heap:=h',toks:=tk}):
  wpAny (model prog w) A (call (.type "set") [.ref a]) Q E s:=by
 obtain⟨cm,mrest,m0⟩:=cn.mro
 have m1:=cn.made
 have m2:=cn.sub
 refine wpAny_call (jZ (show wpAny _ _ (callAny (.type "set") _) _ _ _ from af ⟨Code.quiet_builtin _ (by decide+kernel),c0 F.entry_type_call ?_⟩))
 rw [Around.under_plain (lf "set" [.ref a] []) rfl]
 have m3:=cn.notType
 have m4:=cn.canCreate
 have m5:=kJ (.ref a)
 repeat any_goals (first|assumption|wp_step)
 refine dL (azs (.ref a) (E:=E) (Q1:=λob s1=> ∃led:Bool,led= !(w.params.followText "set-order")/\ob=.ref s.heap.objs.size/\s1={s with heap:=s.heap.push {cls:=.type "set",dict:=none,data:=.set #[] 0 (.fresh 0 0 led)}}) ⟨_,rfl,rfl,rfl⟩) λr s1 hr=> ?_
 cases r with
 |error e=> exact hr
 | ok fl=>
  cases fl with
  | ret ob=>
   obtain⟨led,hled,rfl,rfl⟩:=hr
   have g0:(s.heap.push {cls:=.type "set",dict:=none,data:=.set #[] 0 (.fresh 0 0 led)}).get? s.heap.objs.size=some {cls:=.type "set",dict:=none,data:=.set #[] 0 (.fresh 0 0 led)}:=ay _ rfl
   have g1:Shared.TypeIs {s with heap:=s.heap.push {cls:=.type "set",dict:=none,data:=.set #[] 0 (.fresh 0 0 led)}} (.ref s.heap.objs.size) "set":=⟨_,g0,rfl⟩
   have m6:=cn.init.lookup
   have m7:=cn.init.bind (.ref s.heap.objs.size)
   repeat any_goals (first|assumption|wp_step)
   refine dL (lH (R:=wants (λr s2=> r=.none/\ ∃h' tk,s2={s with heap:=h',toks:=tk}/\SF h'/\
     (∀b o,b < s.heap.objs.size -> s.heap.get? b=some o -> h'.get? b=some o)) E) cn.init.plain F.entry_set_init (check_set_init_1 g1 ?_)) λr2 s2 hr2=> ?_
   ·have halt:a < s.heap.objs.size:=az ho
    obtain⟨o1,o2,o3,o4⟩:=oc
    simp only at hc hd
    subst hc hd
    have g2:(s.heap.push {cls:=.type "set",dict:=none,data:=.set #[] 0 (.fresh 0 0 led)}).get? a=some {cls:=.type T,dict:=o2,data:=.seq its k,slots:=o4}:=aj _ ho
    have h3:A.in1.in1.in1.handled=none:=by simp [hh]
    have neI:a≠(s.heap.push {cls:=.type "set",dict:=none,data:=.set #[] 0 (.fresh 0 0 led)}).objs.size:=by
     rw [aV]
     exact aJ (bU halt)
    have nf:s.heap.objs.size∉ [(s.heap.push {cls:=.type "set",dict:=none,data:=.set #[] 0 (.fresh 0 0 led)}).objs.size,a]:=by
     rw [aV]
     simp only [aA,bM,or_false,not_or]
     exact⟨aJ (dE _),dI halt⟩
    have fin: ∀(o:Obj) (s':ag),lG [s.heap.objs.size,(s.heap.push {cls:=.type "set",dict:=none,data:=.set #[] 0 (.fresh 0 0 led)}).objs.size] (λx y=> y=x) {s with heap:=(s.heap.push {cls:=.type "set",dict:=none,data:=.set #[] 0 (.fresh 0 0 led)}).push o} s' ->
      SF s'.heap ->
      ∃h' tk,s'={s with heap:=h',toks:=tk}/\SF h'/\(∀b o,b < s.heap.objs.size -> s.heap.get? b=some o -> h'.get? b=some o):=by
     intro o s' mv hS'
     obtain⟨h',ge,dr,tk',oz⟩:=s'
     have e1:ge=s.gens:=mv.gens
     have e2:dr=s.drawn:=mv.drawn
     have e3:oz=s.os:=mv.os
     subst e1 e2 e3
     refine⟨h',tk',rfl,hS',λb o' hb' e=> mv.heap b o' ?_ (aj _ (aj _ e))⟩
     rw [aV]
     simp only [aA,bM,or_false,not_or]
     exact⟨aJ hb',aJ (bU hb')⟩
    rcases hT with rfl|rfl
    ·have n1:=lI
     have n2:=iJ
     have n3:(bn "list"==bn "dict")=false:=by decide
     have l1:(s.heap.push {cls:=.type "set",dict:=none,data:=.set #[] 0 (.fresh 0 0 led)}).IsList a its:=⟨_,g2,rfl,k,rfl⟩
     unfold cC.«set.__init__» lJ dF;generalize hPI:pyIter=PI
     wp_walk
     subst hPI
     refine d7 l1 (aa (gu ?_))
     refine run _ _ _ _ _ _ _ _ ((Walks.list h3 _ a neI its).toS) (λi v hv=> hv) nf ⟨⟨_,ay _ rfl,rfl,rfl⟩,l1.push _⟩ ⟨led,hled,aj _ g0⟩ ?_
     intro s' mv hS'
     obtain⟨h',tk,rfl,z1,z2⟩:=fin _ s' mv hS'
     exact af (show wpAny _ _ (ret aU) _ _ _ from af ⟨rfl,h',tk,rfl,z1,z2⟩)
    ·have n1:=lg
     have n2:=iB
     have n3:(bn "tuple"==bn "dict")=false:=by decide
     have l1:(s.heap.push {cls:=.type "set",dict:=none,data:=.set #[] 0 (.fresh 0 0 led)}).IsTuple a its:=⟨_,g2,rfl,k,rfl⟩
     unfold cC.«set.__init__» lJ dF;generalize hPI:pyIter=PI
     wp_walk
     subst hPI
     refine gg l1 (aa (gu ?_))
     refine run _ _ _ _ _ _ _ _ ((Walks.tuple h3 _ a neI its).toS) (λi v hv=> hv) nf ⟨⟨_,ay _ rfl,rfl,rfl⟩,?_⟩ ⟨led,hled,aj _ g0⟩ ?_
     ·exact⟨_,aj _ g2,rfl,k,rfl⟩
     intro s' mv hS'
     obtain⟨h',tk,rfl,z1,z2⟩:=fin _ s' mv hS'
     exact af (show wpAny _ _ (ret aU) _ _ _ from af ⟨rfl,h',tk,rfl,z1,z2⟩)
   ·cases r2 with
    |error e=> exact hr2
    | ok f2=>
     cases f2 with
     |ret u=>
      obtain⟨rfl,h',tk,rfl,z1,z2⟩:=hr2
      repeat any_goals (first|assumption|wp_step)
      exact h h' tk z1 z2
     |next=> exact hr2.elim
     |brk=> exact hr2.elim
     |cont=> exact hr2.elim
  |next=> exact hr.elim
  |brk=> exact hr.elim
  |cont=> exact hr.elim
theorem xn:Slot "set_iterator" "__next__" "set_iterator.__next__":=.of (owner:="set_iterator") (n:="__next__") (by rw [kA,gS];kernel_rfl) (by decide+kernel) (by decide+kernel) (by decide+kernel) (by first|exact .inl (by decide+kernel)|exact .inr (by decide+kernel)) (by rw [ii];kernel_rfl)
theorem aco:entryFor table "set_iterator.__next__"=some cC.«set_iterator.__next__»:=entryFor_of_tree (by kernel_rfl)
theorem ajm:Manifest.owners.lookup (String.ofList ['r','o','t','a','r','e','t','i','_','t','e','s'].reverse)=some Manifest.sig_set_iterator:=by kernel_rfl
theorem aen(a:ae):argsOk "set_iterator.__next__" ⟨[a],[]⟩:=by
 unfold argsOk;rw [lW (id:="set_iterator.__next__") (n:=['_','_','t','x','e','n','_','_']) (o:=['r','o','t','a','r','e','t','i','_','t','e','s']) (by kernel_rfl) ajm];kernel_rfl
theorem amc:Slot "set" "__iter__" "set.__iter__":=.of (owner:="set") (n:="__iter__") (by rw [kA,gS];kernel_rfl) (by decide+kernel) (by decide+kernel) (by decide+kernel) (by first|exact .inl (by decide+kernel)|exact .inr (by decide+kernel)) (by rw [ii];kernel_rfl)
theorem au0:entryFor table "set.__iter__"=some cC.«frozenset.__iter__»:=entryFor_alias (id':="frozenset.__iter__") (by kernel_rfl) rfl (by decide+kernel) (by kernel_rfl)
theorem awv(a:ae):argsOk "set.__iter__" ⟨[a],[]⟩:=by
 unfold argsOk;rw [lW (id:="set.__iter__") (n:=['_','_','r','e','t','i','_','_']) (o:=['t','e','s']) (by kernel_rfl) PySem.F.owner_set];kernel_rfl
noncomputable def sIt(fst:ae)(i:Nat)(a:Addr)(n ep:Nat):Obj:={cls:=.type "set_iterator",dict:=none,data:=.fields #[fst,rawInt i,.ref a,rawInt n,rawInt ep],slots:= #[]}
section
variable{prog:aL}{w:aO}{A:aX}{E:ae -> ag -> Prop}{s:ag}{I a:Addr}{i n ep:Nat}{o:Obj}{es:Array (Int×ae)}{t:bp}{Q:Option ae -> ag -> Prop}
theorem asz{sl nx:Nat}{x:ae}(hI:s.heap.get? I=some (sIt (rawInt sl) i a n ep))(ho:s.heap.get? a=some o)(hd:o.data=.set es ep t)(hf:t.fits es.size=true)(hn:es.size=n)
  (hx: ∀(E':ae -> ag -> Prop) (Q':Option (ae×Nat) -> ag -> Prop),Q' (some (x,nx)) s -> wpAny (model prog w) A.in1 (setNext a sl i ep) Q' E' s)
  (hQ: ∀h',h'.get? I=some (sIt (rawInt nx) (i+1) a n ep) -> bu I s.heap h' -> Q (some x) {s with heap:=h'}):wpAny (model prog w) A (pyNext (.ref I)) Q E s:=by
 unfold pyNext
 refine aa (dX (bf (name:=cf "__next__") ⟨_,hI,rfl⟩ xn (bg xn ⟨_,hI,rfl⟩ aco ?_ (aen _))))
 unfold cC.«set_iterator.__next__»
 refine aa (af ?_);refine aa (ij hI rfl ?_)
 dsimp only [rawInt]
 refine aa (eP ho hd hf ?_)
 rw [if_neg (by rw [hn];simp)]
 refine aa (hx _ _ ?_)
 refine aa (cG hI rfl (by simp) ?_)
 have g1:=bD (de (·.setIfInBounds 0 (rawInt nx))) hI rfl
 refine aa (cG g1 rfl (by simp [de,sIt]) ?_)
 have g2:=bD (de (·.setIfInBounds 1 (rawInt ((i:Int)+1)))) g1 rfl
 refine af ⟨_,rfl,af (hQ _ ?_ ((bw ..).trans (bw ..)))⟩
 exact g2
theorem aso{sl:Nat}(hh:A.handled=none)(hI:s.heap.get? I=some (sIt (rawInt sl) i a n ep))(ho:s.heap.get? a=some o)(hd:o.data=.set es ep t)(hf:t.fits es.size=true)(hn:es.size=n)
  (hx: ∀(E':ae -> ag -> Prop) (Q':Option (ae×Nat) -> ag -> Prop),Q' none s -> wpAny (model prog w) A.in1 (setNext a sl i ep) Q' E' s)
  (hQ: ∀h',fq I s.heap h' -> Q none {s with heap:=h'}):wpAny (model prog w) A (pyNext (.ref I)) Q E s:=by
 unfold pyNext
 refine aa (dX (bf (name:=cf "__next__") ⟨_,hI,rfl⟩ xn (bg xn ⟨_,hI,rfl⟩ aco ?_ (aen _))))
 unfold cC.«set_iterator.__next__»
 refine aa (af ?_);refine aa (ij hI rfl ?_)
 dsimp only [rawInt]
 refine aa (eP ho hd hf ?_)
 rw [if_neg (by rw [hn];simp)]
 refine aa (hx _ _ ?_)
 refine aa (cG hI rfl (by simp) ?_)
 refine aa ?_
 simp only [newExc,newTuple]
 refine aa (bN ?_ (by size_fits));refine aa (m:=ik _ _) (mR (a:=aU) (by first|rfl|(simp only [ik];rfl)) ?_)
 refine bN ?_ (by size_fits);simp only [raiseNew]
 refine aa (lX ?_);rw [show A.in1.handled=none from hh]
 refine aa (af (mS ?_));refine aa (eF (T:="StopIteration") (b:=true) ⟨_,ay _ rfl,rfl⟩ il ?_);exact af (hQ _ (((bw ..).extBut.push _).push _))
theorem av9{T:Addr}{oT:Obj}{ps:Array ae}{kT p:Nat}{x:ae}{hv:Int}{tp:Tok}(hI:s.heap.get? I=some (sIt (.ref T) i a n ep))(ho:s.heap.get? a=some o)(hd:o.data=.set es ep t)(hf:t.fits es.size=true)(hn:es.size=n)
  (hT:s.heap.get? T=some oT) (hTd:oT.data=.seq ps kT) (hp:ps[i]?=some (.int p tp)) (hx:es[p]?=some (hv,x))
  (hQ: ∀h',h'.get? I=some (sIt (.ref T) (i+1) a n ep) -> bu I s.heap h' -> Q (some x) {s with heap:=h'}):wpAny (model prog w) A (pyNext (.ref I)) Q E s:=by
 unfold pyNext
 refine aa (dX (bf (name:=cf "__next__") ⟨_,hI,rfl⟩ xn (bg xn ⟨_,hI,rfl⟩ aco ?_ (aen _))))
 unfold cC.«set_iterator.__next__»
 refine aa (af ?_);refine aa (ij hI rfl ?_)
 dsimp only [rawInt]
 refine aa (eP ho hd hf ?_)
 rw [if_neg (by rw [hn];simp)]
 refine aa ?_
 unfold seqItems?
 refine aa (i6 hT ?_)
 rw [hTd]
 refine af ?_
 dsimp only
 rw [show (Int.toNat (i:Int))=i from cc i,hp]
 dsimp only
 refine aa ?_
 unfold setNextDrawn
 refine aa (cq ho hd hf ?_);dsimp only
 rw [if_neg (by simp)]
 rw [show (Int.toNat (p:Int))=p from cc p,hx]
 refine af ?_
 refine aa (cG hI rfl (by simp) ?_)
 have g1:=bD (de (·.setIfInBounds 1 (rawInt ((i:Int)+1)))) hI rfl
 refine af ⟨_,rfl,af (hQ _ ?_ (bw ..))⟩
 exact g1
theorem asx{T:Addr}{oT:Obj}{ps:Array ae}{kT:Nat}(hh:A.handled=none)(hI:s.heap.get? I=some (sIt (.ref T) i a n ep))(ho:s.heap.get? a=some o)(hd:o.data=.set es ep t)(hf:t.fits es.size=true)(hn:es.size=n)
  (hT:s.heap.get? T=some oT) (hTd:oT.data=.seq ps kT) (hp:ps[i]?=none)
  (hQ: ∀h',fq I s.heap h' -> Q none {s with heap:=h'}):wpAny (model prog w) A (pyNext (.ref I)) Q E s:=by
 unfold pyNext
 refine aa (dX (bf (name:=cf "__next__") ⟨_,hI,rfl⟩ xn (bg xn ⟨_,hI,rfl⟩ aco ?_ (aen _))))
 unfold cC.«set_iterator.__next__»
 refine aa (af ?_);refine aa (ij hI rfl ?_)
 dsimp only [rawInt]
 refine aa (eP ho hd hf ?_)
 rw [if_neg (by rw [hn];simp)]
 refine aa ?_
 unfold seqItems?
 refine aa (i6 hT ?_)
 rw [hTd]
 refine af ?_
 dsimp only
 rw [show (Int.toNat (i:Int))=i from cc i,hp]
 dsimp only
 refine aa (cG hI rfl (by simp) ?_)
 have g1:=bD (de (·.setIfInBounds 0 (rawInt 0))) hI rfl
 refine aa (cG g1 rfl (by simp [de,sIt]) ?_)
 refine aa ?_
 simp only [newExc,newTuple]
 refine aa (bN ?_ (by size_fits));refine aa (m:=ik _ _) (mR (a:=aU) (by first|rfl|(simp only [ik];rfl)) ?_)
 refine bN ?_ (by size_fits);simp only [raiseNew]
 refine aa (lX ?_);rw [show A.in1.handled=none from hh]
 refine aa (af (mS ?_));refine aa (eF (T:="StopIteration") (b:=true) ⟨_,ay _ rfl,rfl⟩ il ?_)
 exact af (hQ _ ((((bw ..).trans (bw ..)).extBut.push _).push _))
end
theorem an8:Slot "set_iterator" "__iter__" "set_iterator.__iter__":=.of (owner:="set_iterator") (n:="__iter__") (by rw [kA,gS];kernel_rfl) (by decide+kernel) (by decide+kernel) (by decide+kernel) (by first|exact .inl (by decide+kernel)|exact .inr (by decide+kernel)) (by rw [ii];kernel_rfl)
theorem ata:entryFor table "set_iterator.__iter__"=some cC.«dict_keyiterator.__iter__»:=entryFor_alias (id':="dict_keyiterator.__iter__") (by kernel_rfl) rfl (by decide+kernel) (by kernel_rfl)
theorem axm(a:ae):argsOk "set_iterator.__iter__" ⟨[a],[]⟩:=by
 unfold argsOk;rw [lW (id:="set_iterator.__iter__") (n:=['_','_','r','e','t','i','_','_']) (o:=['r','o','t','a','r','e','t','i','_','t','e','s']) (by kernel_rfl) ajm];kernel_rfl
section
variable{prog:aL}{w:aO}{A:aX}{E:ae -> ag -> Prop}{s:ag}{I a:Addr}{i n ep:Nat}{o:Obj}{es:Array (Int×ae)}{t:bp}
theorem amw{fst:ae}(hI:s.heap.get? I=some (sIt fst i a n ep))(h:Q (.ref I) s):wpAny (model prog w) A (pyIter (.ref I)) Q E s:=by
 refine wpAny_pyIter_slot ⟨_,hI,rfl⟩ an8 (bg an8 ⟨_,hI,rfl⟩ ata ?_ (axm _))
 show wpAny _ _ (ret (.ref I)) _ _ s
 exact af ⟨_,rfl,"set_iterator",_,⟨_,hI,rfl⟩,xn.lookup,h⟩
theorem avh(hh:A.handled=none)(hne:a≠I)(hd:o.data=.set es ep t)(hf:t.fits es.size=true)(ord:List ae)(hn:es.size=ord.length)(sl:Nat -> Nat)
  (step: ∀(i:Nat) (x:ae) (s:ag) (E':ae -> ag -> Prop) (Q':Option (ae×Nat) -> ag -> Prop),s.heap.get? a=some o -> ord[i]?=some x -> Q' (some (x,sl (i+1))) s -> wpAny (model prog w) A.in1 (setNext a (sl i) i ep) Q' E' s)
  (stop: ∀(s:ag) (E':ae -> ag -> Prop) (Q':Option (ae×Nat) -> ag -> Prop),s.heap.get? a=some o -> Q' none s -> wpAny (model prog w) A.in1 (setNext a (sl ord.length) ord.length ep) Q' E' s):
  na prog w A I [I,a] [I] ord.length (λi v=> ord[i]?=some v) (λi h=> h.get? I=some (sIt (rawInt (sl i)) i a ord.length ep)/\h.get? a=some o) where
 sub:=λb hb=> (aF.mp hb)▸au
 frame:=λ_ _ _ st k=> ⟨k I (by simp) _ st.1,k a (by simp) _ st.2⟩
 item:=λi s R E hi st hQ=> by
  refine asz st.1 st.2 hd hf hn (λE' Q' z=> step i ord[i] s E' Q' st.2 (ao hi) z) λh' g sb=> ?_
  exact hQ _ h' s.toks (ao hi) ⟨g,(sb.2 a hne).trans st.2⟩ λb u hb e=> (sb.2 b (λz=> hb (by simp [z]))).trans e
 done:=λs Q E st hQ=> aso hh st.1 st.2 hd hf hn (λE' Q' z=> stop s E' Q' st.2 z) λh' x=> hQ h' s.toks λb u hb e=> x b u (λz=> hb (by simp [z])) e
 self:=λ_ _ _ _ st hQ=> amw st.1 hQ
theorem a4u{T:Addr}{oT:Obj}{ps:Array ae}{kT:Nat}(hh:A.handled=none)(hne:a≠I)(hT:T≠I)(hd:o.data=.set es ep t)(hf:t.fits es.size=true)(ord:List ae)(hn:es.size=ord.length)(hTd:oT.data=.seq ps kT)
  (hps:ps.size=ord.length) (step: ∀(i:Nat) (x:ae),ord[i]?=some x -> ∃(p:Nat) (tp:Tok) (hv:Int),ps[i]?=some (.int p tp)/\es[p]?=some (hv,x)):
  na prog w A I [I,a,T] [I] ord.length (λi v=> ord[i]?=some v) (λi h=> h.get? I=some (sIt (.ref T) i a ord.length ep)/\h.get? a=some o/\h.get? T=some oT) where
 sub:=λb hb=> (aF.mp hb)▸au
 frame:=λ_ _ _ st k=> ⟨k I (by simp) _ st.1,k a (by simp) _ st.2.1,k T (by simp) _ st.2.2⟩
 item:=λi s R E hi st hQ=> by
  obtain⟨p,tp,hv,e1,e2⟩:=step i ord[i] (ao hi)
  refine av9 st.1 st.2.1 hd hf hn st.2.2 hTd e1 e2 λh' g sb=> ?_
  exact hQ _ h' s.toks (ao hi) ⟨g,(sb.2 a hne).trans st.2.1,(sb.2 T hT).trans st.2.2⟩ λb u hb e=> (sb.2 b (λz=> hb (by simp [z]))).trans e
 done:=λs Q E st hQ=> asx hh st.1 st.2.1 hd hf hn st.2.2 hTd (by rw [←hps];simp) λh' x=> hQ h' s.toks λb u hb e=> x b u (λz=> hb (by simp [z])) e
 self:=λ_ _ _ _ st hQ=> amw st.1 hQ
theorem aqt{src:Source}{k:Nat}{Q:Nat -> ag -> Prop}(hk:k≠0)(h: ∀j d',j < k -> Q j {s with drawn:=d'}):wpAny (model prog w) A (choose src k) Q E s:=
 λ Γ p _=> by
  unfold choose
  rw [Sem.wp_choose]
  exact⟨hk,h _ _ (gq _ (Nat.pos_of_ne_zero hk))⟩
theorem adb{α:Type}: ∀{xs:List α} {j:Nat} {x:α},xs[j]?=some x -> (x::xs.eraseIdx j).Perm xs
 |[],_,_,e=> by simp at e
 |y::r,0,x,e=> by simp at e;subst e;exact .refl _
 |y::r,j+1,x,e=> by
  rw [cT]at e
  rw [List.eraseIdx_cons_succ]
  exact (iC.swap _ _ _).trans ((adb e).cons _)
theorem ajk{α:Type}: ∀(k:Nat) (xs:List α) (s:ag) (Q:List α -> ag -> Prop),xs.length <=k -> (∀ys d',ys.Perm xs -> Q ys {s with drawn:=d'}) -> wpAny (model prog w) A (mE k xs) Q E s
 |0,[],s,Q,_,h=> by unfold mE;exact af (h [] s.drawn (.refl _))
 |_+1,[],s,Q,_,h=> by unfold mE;exact af (h [] s.drawn (.refl _))
 |0,_::_,_,_,z,_=> absurd z (by simp)
 |k+1,y::r,s,Q,z,h=> by
  unfold mE
  refine aa (aqt (by simp) λj d' hj=> ?_)
  rw [ao hj]
  dsimp only
  have l:((y::r).eraseIdx j).length <=k:=by rw [iK hj];simpa using z
  refine aa (ajk k _ _ _ l λys d'' p=> af (h _ d'' ?_))
  exact (p.cons _).trans (adb (ao hj))
theorem asa{α:Type}(nx:Nat -> Nat)(xs:Array α):(gT nx xs).toList.Perm xs.toList:=by
 have all: ∀(f k:Nat) (left:List α) (out:Array α),left.length <=f -> (mF nx f k left out).toList.Perm (out.toList++left):=by
  intro f
  induction f with
  |zero=>
   intro k left out z
   have:left=[]:=gC.mp (Nat.le_zero.mp z)
   subst this
   unfold mF
   simp
  | succ f ih=>
   intro k left out z
   unfold mF
   cases left with
   |nil=> simp
   |cons y r=>
    have hj:nx k % (y::r).length < (y::r).length:=gq _ (by simp)
    rw [ao hj]
    dsimp only
    refine (ih _ _ _ (by rw [iK hj];simpa using z)).trans ?_
    rw [Array.toList_push,gD]
    exact iC.append_left _ (adb (ao hj))
 unfold gT
 have:=all xs.size 0 xs.toList #[] (by simp)
 simpa using this
end
section
variable{prog:aL}{w:aO}{A:aX}{E:ae -> ag -> Prop}{s:ag}{I a:Addr}{i n ep:Nat}{o:Obj}{es:Array (Int×ae)}{t:bp}
theorem abw{Q:Bool -> ag -> Prop}(h:Q (w.params.followText "set-order") s):wpAny (model prog w) A setsByText Q E s:=by
 unfold setsByText;exact aa (jF (af h))
theorem aij{sl:Nat}{Q:Option (ae×Nat) -> ag -> Prop}(hb:w.params.followText "set-order"=true)(ho:s.heap.get? a=some o)(hd:o.data=.set es ep t)(hf:t.fits es.size=true)
  (h:Q (((gT (w.params.setOrder a ep) es).toList.map (·.2))[i]?.map λx=> (x,sl)) s):wpAny (model prog w) A (setNext a sl i ep) Q E s:=by
 unfold setNext
 refine aa (cq ho hd hf ?_);refine aa (abw ?_)
 rw [hb,if_pos rfl]
 dsimp only
 rw [if_neg (by simp)]
 refine aa ?_
 unfold setWalk
 refine aa (cq ho hd hf ?_);refine aa (abw ?_)
 rw [hb,if_pos rfl]
 refine aa (jF (af (af ?_)))
 have e:((gT (w.params.setOrder a ep) es).toList.map (·.2))[i]?.map (λx=> (x,sl))=((gT (w.params.setOrder a ep) es)[i]?).map λe=> (e.2,sl):=by
  rw [aN,aZ]
  cases (gT (w.params.setOrder a ep) es)[i]? <;> rfl
 rw [e]at h
 exact h
theorem ag6{sl:Nat}{Q:Option (ae×Nat) -> ag -> Prop}(hb:w.params.followText "set-order"=false)(hl:t.led=true)(hz:(!t.plain&&decide (es.size > 1))=false)(ho:s.heap.get? a=some o)(hd:o.data=.set es ep t)(hf:t.fits es.size=true)
  (h:Q (match es[bO t.place sl]?,t.place[bO t.place sl]? with|some (_,x),some j=> some (x,j+1)|_,_=> none) s):wpAny (model prog w) A (setNext a sl i ep) Q E s:=by
 unfold setNext
 refine aa (cq ho hd hf ?_);refine aa (abw ?_)
 rw [hb,if_neg ax];dsimp only
 refine g9 (λc=> ?_) (λ_=> ?_)
 ·have c':(!t.plain&&decide (es.size > 1))=true:=c
  rw [hz]at c'
  cases c'
 refine aa ?_
 show wpAny _ _ (if (!t.led&& !es.isEmpty)=true then unsupported "set:maker-not-led" else pure ()) _ _ _
 rw [hl,if_neg (by simp)];exact af (af h)
theorem ag1{p:Array Nat}(h:ST.Ris p.toList)(hi:i <=p.size):bO p (if i=0 then 0 else p.getD (i - 1) 0+1)=i:=by
 obtain⟨b1,b2,b3⟩:=ST.below_spec p (if i=0 then 0 else p.getD (i - 1) 0+1) h
 generalize hb:bO p (if i=0 then 0 else p.getD (i - 1) 0+1)=b at b1 b2 b3
 have gd: ∀(k d:Nat) (hk:k < p.size),p.getD k d=p[k]:=λk d hk=> by simp [cR,hk]
 have lt: ∀(x y:Nat) (hx:x < y) (hy:y < p.size),p[x] < p[y]:=λx y hx hy=> by
  have:=ST.ris_get h hx (by rw [ar];exact hy)
  simpa using this
 rcases Nat.lt_trichotomy b i with z|z|z
 ·have hi0:i≠0:=by lia
  rw [if_neg hi0]at b3
  have:=b3 (i - 1) (by lia) (by lia)
  rw [gd (i - 1) _ (by lia),gd (i - 1) _ (by lia)]at this
  lia
 ·exact z
 ·have:=b2 i z
  rw [gd i _ (by lia)]at this
  by_cases hi0:i=0
  ·rw [if_pos hi0]at this;lia
  ·rw [if_neg hi0,gd (i - 1) _ (by lia)]at this
   have:=lt (i - 1) i (by lia) (by lia)
   lia
structure Beg (prog:aL) (w:aO) (A:aX) (s:ag) (a:Addr) (es:Array (Int×ae)) (I:Addr) (h1:Heap) (ord:List ae) (fp:List Addr) (St:Nat -> Heap -> Prop):Prop where
 perm:ord.Perm (es.toList.map (·.2))
 keep: ∀b u,s.heap.get? b=some u -> h1.get? b=some u
 new:s.heap.objs.size <=I
 away: ∀b∈fp,b=a\/s.heap.objs.size <=b
 lt: ∀b∈fp,b < h1.objs.size
 walk:na prog w A I fp [I] ord.length (λi v=> ord[i]?=some v) St
 st:St 0 h1
theorem aoo(es:Array (Int×ae)):(aW es.size).map (λp=> (es[p]?.map (·.2)).getD .none)=es.toList.map (·.2):=by
 refine cW λj=> ?_
 rw [aN,aN,aZ (xs:=es)]
 by_cases c:j < es.size
 ·rw [dB c,bC c];simp [c]
 ·rw [cK (by simpa using c),kK (by lia)];rfl
theorem ay8(hh:A.handled=none)(ho:s.heap.get? a=some o)(hex:o.ExactSet)(hd:o.data=.set es ep t)(hf:t.fits es.size=true)(hz:es.size < cL)(tx:ajx w es.size t)(hQ: ∀I h1 d' ord fp St,Beg prog w A s a es I h1 ord fp St -> Q (.ref I) {s with heap:=h1,drawn:=d'}):wpAny (model prog w) A (pyIter (.ref a)) Q E s:=by
 have hT:s.TypeIs (.ref a) "set":=⟨o,ho,hex.1⟩;have hal:a < s.heap.objs.size:=az ho
 refine wpAny_pyIter_slot hT amc (bg amc hT au0 ?_ (awv _))
 unfold cC.«frozenset.__iter__» Builtin.Frozenset.slot0 slotArgs
 simp only [List.isEmpty_nil,eR,aY,↓reduceIte,bind_assoc,bS,bne_self_eq_false];unfold Builtin.Frozenset.addrOf Builtin.Frozenset.sizeOf
 refine aa (af ?_);try dsimp only
 refine aa (af ?_);refine aa (aa (eP ho hd hf (af ?_)))
 refine aa ?_
 unfold setDrawn
 refine aa (cq ho hd hf ?_);refine aa (abw (af ?_))
 have fin: ∀(fst:ae) (h0:Heap) (d':Drawn) (ord:List ae) (fp:List Addr) (St:Nat -> Heap -> Prop),(∀b u,s.heap.get? b=some u -> h0.get? b=some u) -> ord.Perm (es.toList.map (·.2)) ->
   (∀b∈fp,b=a\/s.heap.objs.size <=b) -> (∀b∈fp,b < h0.objs.size+1) -> s.heap.objs.size <=h0.objs.size ->
   na prog w A h0.objs.size fp [h0.objs.size] ord.length (λi v=> ord[i]?=some v) St -> St 0 (h0.push (sIt fst 0 a es.size ep)) ->
   wpAny (model prog w) A.in1 (do
    let e←setEpoch a
    let v←newFields "set_iterator" [fst,rawInt 0,bZ a,rawInt es.size,rawInt e]
    ret v) (λf s'=> ∃v,f=Fin.done (Flow.ret v)/\ ∃T' r,s'.TypeIs v T'/\typeLookup (bn T') (cf "__next__")=pure (some r)/\Q v s') E {s with heap:=h0,drawn:=d'}:=by
  intro fst h0 d' ord fp St k p f1 f2 l W z
  refine aa (wpAny_setEpoch_of (k _ _ ho) hd hf ?_)
  unfold newFields
  refine aa (bN ?_);refine af ⟨_,rfl,"set_iterator",_,⟨_,ay _ rfl,rfl⟩,xn.lookup,hQ _ _ d' ord fp St ⟨p,λb u e=> aj _ (k b u e),l,f1,λb hb=> by rw [aV];exact f2 b hb,W,z⟩⟩
 have len: ∀{ord:List ae},ord.Perm (es.toList.map (·.2)) -> es.size=ord.length:=λp=> by
  rw [p.length_eq,ak,ar]
 have two1: ∀b∈ [s.heap.objs.size,a],b=a\/s.heap.objs.size <=b:=λb m=> by
  rcases aA.mp m with e|m
  ·exact .inr (dt e.symm)
  ·exact .inl (aF.mp m)
 have two2: ∀b∈ [s.heap.objs.size,a],b < s.heap.objs.size+1:=λb m=> by
  rcases aA.mp m with e|m
  ·exact e▸dE _
  ·rw [aF.mp m];exact bU hal
 cases hb:w.params.followText "set-order" with
 | true=>
  rw [if_neg (by simp)]
  have p:=((asa (w.params.setOrder a ep) es).map (·.2))
  refine aa (af (fin _ _ _ ((gT (w.params.setOrder a ep) es).toList.map (·.2)) [s.heap.objs.size,a] _ (λ_ _ e=> e) p two1 two2 (av _) (avh hh (aJ hal) hd hf _ (len p) (λ_=> 0) ?_ ?_) ⟨?_,aj _ ho⟩))
  ·intro i x s E' Q' e1 e2 z
   refine aij hb e1 hd hf ?_
   rw [e2];exact z
  ·intro s E' Q' e1 z
   refine aij hb e1 hd hf ?_
   rw [cK (av _)];exact z
  ·rw [←len p];exact ay _ rfl
 | false=>
  by_cases hz2:(!t.plain&&decide (es.size > 1))=true
  ·rw [aD,Bool.not_eq_true',decide_eq_true_eq]at hz2
   obtain⟨hp,hz1⟩:=hz2
   rw [if_pos (by show (!false&&(!t.plain&&decide (es.size > 1)))=true;rw [hp,decide_eq_true hz1];rfl)]
   refine aa (ajk _ _ _ _ (by simp) λys d' p=> ?_)
   have l:ys.length=es.size:=by rw [p.length_eq,cz]
   have big:es.size <=sizeLine:=gE hz
   unfold newTuple
   refine aa (bN ?_ (by show (ys.map λ(i:Nat)=> rawInt i).toArray.size <=sizeLine;simpa [l] using big))
   have q:(ys.map λp=> (es[p]?.map (·.2)).getD .none).Perm (es.toList.map (·.2)):=by rw [←aoo es];exact p.map _
   refine fin (.ref s.heap.objs.size) _ d' (ys.map λp=> (es[p]?.map (·.2)).getD .none) [(s.heap.push _).objs.size,a,s.heap.objs.size] _ (λ_ _ e=> aj _ e) q ?_ ?_ (by rw [aV];exact kL _)
    (a4u (oT:={cls:=.type "tuple",data:=.seq (ys.map λ(i:Nat)=> rawInt i).toArray}) (ps:=(ys.map λ(i:Nat)=> rawInt i).toArray) hh (by rw [aV];exact aJ (bU hal)) (by rw [aV];exact aJ (dE _)) hd hf _ (len q) rfl (by simp) ?_) ⟨?_,?_,?_⟩
   ·intro b m
    rw [aV]at m
    simp only [aA,bM,or_false]at m
    rcases m with rfl|rfl|rfl
    ·exact .inr (kL _)
    ·exact .inl rfl
    ·exact .inr (av _)
   ·intro b m
    rw [aV]at m⊢
    simp only [aA,bM,or_false]at m
    rcases m with rfl|rfl|rfl
    ·exact dE _
    ·exact bU (bU hal)
    ·exact Nat.le_succ_of_le (dE _)
   ·intro i x e
    rw [aN]at e
    cases c:ys[i]? with
    |none=> rw [c]at e;cases e
    | some j=>
     rw [c]at e
     have hj:j < es.size:=by
      have:=p.mem_iff.mp (bt c)
      simpa using this
     have hx:x=es[j].2:=by
      simp only [hG,dv]at e
      rw [←e,bC hj];rfl
     exact⟨j,0,es[j].1,by simp [c,rawInt],by rw [bC hj,hx]⟩
   ·rw [←len q];exact ay _ rfl
   ·exact aj _ (aj _ ho)
   ·exact aj _ (by exact ay _ rfl)
  ·have hz2:(!t.plain&&decide (es.size > 1))=false:=by simpa using hz2
   rw [if_neg (by
    show¬((!false&&(!t.plain&&decide (es.size > 1)))=true)
    rw [hz2];simp)]
   have hl:t.led=true:=by rw [tx.1,hb];rfl
   have hpl:t.place.size=es.size:=by
    simp only [lY,aD,beq_iff_eq]at hf
    exact hf.1
   have hr:ST.Ris t.place.toList:=by
    by_cases h1:es.size > 1
    ·rcases tx.2 (by lia) with z|z
     ·rw [z,decide_eq_true h1]at hz2;cases hz2
     ·exact z
    ·refine eA.mpr λi j hi hj hij=> ?_
     rw [ar]at hj
     lia
   refine aa (af (fin _ _ _ (es.toList.map (·.2)) [s.heap.objs.size,a] _ (λ_ _ e=> e) (.refl _) two1 two2 (av _) (avh hh (aJ hal) hd hf _ (len (.refl _)) (λi=> if i=0 then 0 else t.place.getD (i - 1) 0+1) ?_ ?_) ⟨?_,aj _ ho⟩))
   ·intro i x s E' Q' e1 e2 z
    have hi:i < es.size:=by
     rw [aN]at e2
     cases c:es.toList[i]? with
     |none=> rw [c]at e2;cases e2
     |some _=> simpa using (aB.mp c).1
    refine ag6 hb hl hz2 e1 hd hf ?_
    rw [ag1 hr (by lia)]
    have g1:es[i]?=some (es[i].1,x):=by
     rw [bC hi]
     rw [aN,aZ,bC hi]at e2
     simp only [hG,dv]at e2
     rw [←e2]
    have g2:t.place[i]?=some (t.place.getD i 0):=by
     have:i < t.place.size:=by lia
     rw [bC this]
     simp [cR,this]
    rw [g1,g2]
    exact z
   ·intro s E' Q' e1 z
    refine ag6 hb hl hz2 e1 hd hf ?_
    rw [show (es.toList.map (·.2)).length=t.place.size by simp [hpl],ag1 hr (av _)]
    rw [kK (by lia)]
    exact z
   ·rw [←len (.refl _)];exact ay _ rfl
end
theorem Inv.drew(I:Inv X pins σ H s)(d':Drawn):Inv X pins σ H {s with drawn:=d'}:=
 ⟨I.ok,I.os,I.bare,I.base,I.loc,I.cell,I.free,I.freeC,I.pin,I.hok,I.len⟩
section
variable{prog:aL}{w:aO}{A:aX}{E:ae -> ag -> Prop}{s:ag}{a:Addr}{ep:Nat}{o:Obj}{es:Array (Int×ae)}{t:bp}
theorem aue{Q:Bool -> ag -> Prop}(hT:s.TypeIs (.ref a) "set")(h:Q false s):wpAny (model prog w) A (iD (.ref a)) Q E s:=by
 unfold iD;refine aa (dj hT PySem.F.slot_set_len.lookup ?_)
 generalize hid:("set.__len__":String)=id0
 wp_delta
 rw [show splitId id0=some ("set","__len__") from by subst hid;decide+kernel]
 subst hid
 refine aa (eF (T:="set") (b:=true) hT (by rw [ii];kernel_rfl) ?_)
 refine g9 (λz=> absurd z (by decide)) (λ_=> ?_)
 refine g9 (λ_=> ?_) (λz=> absurd (by decide+kernel) z)
 exact aa (eI hT (af h))
theorem azq{R:gZ -> ag -> Prop}(hh:A.handled=none)(ho:s.heap.get? a=some o)(hex:o.ExactSet)(hd:o.data=.set es ep t)(hf:t.fits es.size=true)(hz:es.size < cL)(tx:ajx w es.size t)
  (S:Addr) (hSa:S≠a) (res:ae) (hS:s.heap.get? S=some {cls:=.type "list",data:=.seq #[] 0})
  (hR: ∀h' d' tk (acc:Array ae) c,acc.toList.Perm (es.toList.map (·.2)) -> (∀b u,b≠S -> s.heap.get? b=some u -> h'.get? b=some u) -> h'.get? S=some {cls:=.type "list",dict:=none,data:=.seq acc c,slots:= #[]} -> R (.ok (.ret res)) {s with heap:=h',drawn:=d',toks:=tk}):
  wpAny (model prog w) A.in1 (fH (.ref S) (.ref a) res) (λfin s'=> match fin with|.done f=> R (.ok f) s'|.again c'=> c'.quiet=true/\codeAny (model prog w) A c' R s') (λe s'=> R (.error e) s') s:=by
 have hT:s.TypeIs (.ref a) "set":=⟨o,ho,hex.1⟩;have hSl:S < s.heap.objs.size:=az hS
 unfold fH;refine aa (eI (T:="set") hT ?_)
 have n1:jG (.ref S) (.ref a)=false:=by simp [jG,hSa]
 have n2:(bn "set"==bn "list")=false:=by decide
 have n3:(bn "set"==bn "tuple")=false:=by decide
 simp only [n1,n2,n3,Bool.or_false,aY,if_false]
 refine aa (ay8 hh ho hex hd hf hz tx λI h1 d' ord fp St B=> ?_)
 have hSf:S∉fp:=λm=> by
  rcases B.away S m with e|e
  ·exact hSa e
  ·exact absurd hSl (lK.mpr e)
 have hSI:S≠I:=λe=> absurd hSl (lK.mpr (e▸B.new))
 have hlen:ord.length <=sizeLine:=by
  rw [B.perm.length_eq,ak,ar];exact gE hz
 have key: ∀(h:Heap) (c1 tk:Nat),St 0 h -> (∀b u,b≠S -> s.heap.get? b=some u -> h.get? b=some u) -> h.get? S=some {cls:=.type "list",data:=.seq #[] c1} ->
   codeAny (model prog w) A (.builtin "list.extend.loop" ⟨[.ref S,.ref I,res],[]⟩) R {s with heap:=h,drawn:=d',toks:=tk}:=by
  intro h c1 tk st k g
  refine codeAny_extend_loopS B.walk.toS hlen S hSf res ord.length 0 _ #[] c1 rfl (b9 _) st g (ItemsOf.nil _) λs' acc c mv g' it=> ?_
  rw [Moved.eq_with mv]
  have ea:acc.toList=ord:=by
   refine cW λj=> ?_
   rw [aZ]
   cases c:acc[j]? with
   |some v=> exact (it.2 j v c).symm
   |none=>
    have:acc.size <=j:=Array.getElem?_eq_none_iff.mp c
    rw [it.1]at this
    exact (cK this).symm
  refine hR s'.heap d' s'.toks acc c (ea▸B.perm) (λb u hb e=> mv.heap b u (λm=> ?_) (k b u hb e)) g'
  rcases aA.mp m with e'|m
  ·exact hb e'
  ·exact absurd (az e) (by rw [aF.mp m];exact lK.mpr B.new)
 have g1:=B.keep _ _ hS
 refine aa (a9 (aue (a:=a) ⟨o,B.keep _ _ ho,hex.1⟩ ?_))
 refine g9 (λ_=> ?_) (λ_=> af ⟨fS i7 _,key _ 0 _ B.st (λb u _ e=> B.keep b u e) g1⟩)
 refine aa (cI (aa ?_))
 show wpAny _ _ (updateSeq S (·.push .none)>>=λ_=> updateSeq S (·.pop)) _ _ _;refine aa (wpAny_updateSeq g1 rfl ?_)
 have g2:=bD (eg (·.push aU)) g1 rfl
 refine wpAny_updateSeq (hz:=by seq_fits) g2 rfl ?_
 have g3:=bD (eg (·.pop)) g2 rfl
 refine af ⟨fS i7 _,key _ _ _ ?_ (λb u hb e=> ?_) g3⟩
 ·refine B.walk.frame 0 _ _ B.st λb hb u e=> ?_
  have hbS:S≠b:=λz=> hSf (z▸hb)
  exact (bY _ _ hbS).trans ((bY _ _ hbS).trans e)
 ·exact (bY _ _ (cF hb)).trans ((bY _ _ (cF hb)).trans (B.keep _ _ e))
theorem ajl{R:List ae -> ag -> Prop}(hh:A.handled=none)(ho:s.heap.get? a=some o)(hex:o.ExactSet)(hd:o.data=.set es ep t)(hf:t.fits es.size=true)(hz:es.size < cL)(tx:ajx w es.size t)
  (h: ∀h' d' tk (ord:List ae),ord.Perm (es.toList.map (·.2)) -> (∀b u,s.heap.get? b=some u -> h'.get? b=some u) -> R ord {s with heap:=h',drawn:=d',toks:=tk}):wpAny (model prog w) A (collect (.ref a)) R E s:=by
 unfold collect
 refine aa (gu (c0 entry_proto_collect' ?_));rw [cS PySem.F.plain_proto_collect _]
 refine (show wpAny _ A.in1 (newList []>>=λl=> again (.builtin "list.__iadd__" ⟨[l,.ref a],[]⟩)) _ _ s from aa (bN (af ⟨fS jO _,c0 entry_list_iadd' ?_⟩)))
 rw [cS jO _];have g1:(s.heap.push {cls:=.type "list",data:=.seq ([]:List ae).toArray}).get? s.heap.objs.size=some {cls:=.type "list",data:=.seq #[]}:=ay _ rfl
 show wpAny _ A.in1 (fH (.ref s.heap.objs.size) (.ref a) (.ref s.heap.objs.size)) _ _ _
 have key:=azq (prog:=prog) (A:=A) (s:={s with heap:=s.heap.push {cls:=.type "list",data:=.seq ([]:List ae).toArray}})
  (R:=λ(q:gZ) (s':ag)=> ∃(h':Heap) (d':Drawn) (tk:Nat) (acc:Array ae) (c:Nat),q=.ok (.ret (.ref s.heap.objs.size))/\s'={s with heap:=h',drawn:=d',toks:=tk}/\
   (∀b u,s.heap.get? b=some u -> h'.get? b=some u)/\h'.get? s.heap.objs.size=some {cls:=.type "list",dict:=none,data:=.seq acc c,slots:= #[]}/\acc.toList.Perm (es.toList.map (·.2)))
  hh (aj _ ho) hex hd hf hz tx s.heap.objs.size (dI (az ho)) (.ref s.heap.objs.size) g1
  (λh' d' tk acc c p k g=> ⟨h',d',tk,acc,c,rfl,rfl,λb u e=> k b u (aJ (az e)) (aj _ e),g,p⟩)
 refine bQ key (λfn s' x=> ?_) λe s' x=> ?_
 ·cases fn with
  |done f=>
   obtain⟨h',d',tk,acc,c,e,rfl,k,g,p⟩:=x
   cases e
   exact (show wpAny _ A (load s.heap.objs.size >>=_) _ _ _ from aa (i6 g (af (h h' d' tk _ p k))))
  |again c1=>
   refine⟨x.1,dL x.2 λq s2 y=> ?_⟩
   obtain⟨h',d',tk,acc,c,rfl,rfl,k,g,p⟩:=y
   exact (show wpAny _ A (load s.heap.objs.size >>=_) _ _ _ from aa (i6 g (af (h h' d' tk _ p k))))
 ·obtain⟨_,_,_,_,_,e',_⟩:=x;cases e'
end
theorem an4{α:Type}[DecidableEq α]: ∀{l m:List α},l.Nodup -> (∀x∈l,x∈m) -> m.length <=l.length -> l.Perm m
 |[],m,_,_,z=> by
  have:m=[]:=gC.mp (Nat.le_zero.mp z)
  rw [this]
 | x::r,m,nd,sub,z=> by
  have hx:=sub x au
  rw [cZ]at nd
  have p:=List.perm_cons_erase hx
  refine ((an4 nd.2 (λy hy=> ?_) ?_).cons x).trans p.symm
  ·have:y≠x:=λe=> nd.1 (e▸hy)
   exact (List.mem_erase_of_ne this).mpr (sub y (aw _ hy))
  ·rw [List.length_erase_of_mem hx]
   simp only [aG]at z
   lia
def Nx(n:Nat)(Pv:Addr -> Nat -> List V -> Hp -> Prop)(D:Addr)(i:Nat)(ys:List V)(H:Hp):Prop:= ∃m',m' < n - i/\m'=n - (i+1)/\i+1 <=n/\ys.length <=i+1/\Pv D (i+1) ys H
theorem nx{Pv:Addr -> Nat -> List V -> Hp -> Prop}{D:Addr}{ys:List V}(hi:i < n)(hl:ys.length <=i+1)(p:Pv D (i+1) ys H):Nx n Pv D i ys H:=⟨n - (i+1),by lia,rfl,hi,hl,p⟩
theorem ar5(hc:X.calm=true):vk X (.builtin "all") (λvs H Q=> ∃(a:Addr) (bs:List Bool),vs=[.ref a]/\SqL X.K H a (bs.map V.bl)/\Q (.bl (bs.all id)) H):=by
 intro pins s σ H vs us Q I r h
 obtain⟨a,bs,rfl,hS,q⟩:=h
 obtain⟨u,rfl,ru⟩:=vals1 r
 cases ru
 have hh:X.A.in1.handled=none:=I.ok.hd hc
 obtain⟨its,rv,⟨o,n,e,c,dd,d⟩,z⟩:=I.list hS
 have l1:s.heap.IsList a its.toArray:=⟨o,e,c,n,d⟩
 have hl:=rv.length
 rw [ak]at hl
 refine call_all_walk (d7 l1 ⟨s.heap.objs.size,_,_,_,_,_,λi=> bs.getD i true,rfl,Walks.list hh _ a (aJ (az e)) its.toArray,⟨⟨_,ay _ rfl,rfl,rfl⟩,l1.push _⟩,?_,λh' tk k=> ?_⟩)
 ·intro i v s Q E hv hq
  have hi:i < bs.length:=by
   have:=(cb.mp hv).1
   rw [aE]at this
   lia
  have e1:(bs.map V.bl)[i]?=some (.bl bs[i]):=by rw [aN,ao hi];rfl
  obtain⟨u,hu,ru⟩:=rv.get e1
  rw [List.getElem?_toArray,hu]at hv
  obtain rfl:u=v:=b8 hv
  obtain rfl:u=gX bs[i]:=ru
  have e3:bs.getD i true=bs[i]:=by rw [dY,ao hi];rfl
  refine cU ?_
  rw [←e3];exact hq
 ·have ks: ∀b u,s.heap.get? b=some u -> h'.get? b=some u:=λb u hb=> k b u (λm=> absurd (az hb) (by rw [aF.mp m];exact cD _)) (aj _ hb)
  have e2:(aW its.toArray.size).all (λi=> bs.getD i true)=bs.all id:=by
   rw [aE,←hl]
   rw [bh]
   simp only [aC,bA,id_eq]
   constructor
   ·intro h b hb
    (obtain⟨i,hi,rfl⟩:=fU hb)
    have:=h i hi
    rw [dY,ao hi]at this
    exact this
   ·intro h i hi
    (rw [dY,ao hi])
    exact h _ (eL hi)
  rw [e2]
  exact⟨.bl (bs.all id),H,I.un (Un.kept ks) (I.hok.kept ks),rfl,q⟩
theorem Inv.turnedL{t':Nat}{ch:List Addr}(I:Inv X pins σ H s)(k: ∀b o,b∉ch -> s.heap.get? b=some o -> h'.get? b=some o)(hf: ∀b∈ch,aa0 X pins H b):Inv X pins σ H {s with heap:=h',toks:=t'}:=by
 have no: ∀b u,H b=some u -> b∉ch:=λb u e m=> by rw [(hf b m).1]at e;cases e
 refine I.step (g':=s.gens) (d':=s.drawn) (ch:=ch) (λb m=> ⟨(hf b m).2.2.2.1,(hf b m).2.1,(hf b m).2.2.2.2.1,(hf b m).2.2.2.2.2⟩) (λb o _ _ hc e _=> k b o hc e) (λb o _ _ hc e _=> ⟨o.slots,k b o hc e⟩) (λ_ _ _ _ n=> n)
  (λb o hc e=> ⟨o,k b o hc e⟩) (λ_ _ e=> e) (λ_ _ _ e=> e) (λb ps e=> ⟨#[],by rw [e];simp⟩) (λm hm=> ?_) (λb u e=> ?_) I.bare
 ·obtain⟨o,es,ep,ho,r⟩:=hm
  exact⟨o,es,ep,k _ o (λz=> (hf _ z).2.1 rfl) ho,r⟩
 ·refine (I.hok b u e).stay (λc v hc q=> k c v ?_ q) (λ_ q=> q) λ_ _ q=> q
  rcases hc with z|z
  ·rw [z];exact no b u e
  ·exact no c _ z
theorem a41:bG "zip"=some (.type "zip"):=by decide+kernel
section
open HT
variable{prog:aL}{w:aO}{A:aX}{E:ae -> ag -> Prop}{s:ag}
theorem arw{t sl:Addr}{vl vu:ae}{lo hi:Option Int}(ht:IsTup s.heap t items)(hs:s.heap.IsSliceOf sl vl vu .none)(pl:gI vl lo)(pu:gI vu hi)(hw:sIx items.size 0 lo=0/\sIx items.size items.size hi=items.size)(h:Q (.ref t) s):wpAny (model prog w) A (getItem (.ref t) (.ref sl)) Q E s:=by
 obtain⟨os,hos,hcs,hds⟩:=id hs
 have hTs:s.TypeIs (.ref sl) "slice":=⟨os,hos,hcs⟩
 unfold getItem
 try with_reducible refine a9 ?_
 first|refine aa (af ?_)|skip
 refine aa (iW ht.typeIs (by decide) (aa (bf (name:=cf "__getitem__") ht.typeIs cr
  (bg cr ht.typeIs mh ?_ (args_tuple_getitem _ _)))))
 show wpAny _ _ (fO (.ref t)>>=_) _ _ s
 refine aa (tupleItemsOf_ ht (aa (eI hTs ?_)))
 rw [if_pos (by decide)]
 refine aa (ab8 hs pl pu ?_)
 have yes:(((sIx items.size 0 lo:Nat):Int)==0&&(1:Int)==1&&(sIx items.size items.size hi - sIx items.size 0 lo)==items.size)=true:=by
  rw [hw.1,hw.2];simp
 show wpAny _ _ (if (((sIx items.size 0 lo:Nat):Int)==0&&(1:Int)==1&&(sIx items.size items.size hi - sIx items.size 0 lo)==items.size)=true then _ else _) _ _ s
 rw [if_pos yes]
 unfold Builtin.Tuple.tupleIsExact
 refine aa (aa (eI ht.typeIs (af ?_)))
 rw [if_pos (by decide)]
 exact aa (cI (af ⟨_,rfl,af h⟩))
end
def a3t(K:am):V -> Option Int -> Option Int -> Hp -> VK -> Prop:=λx lo hi H Q=> ∃a xs,x=.ref a/\SqT K H a xs/\(yz xs lo hi=xs -> Q (.ref a) H)/\ ∀p H',New H p (.tup (yz xs lo hi)) H' -> Q (.ref p) H'
theorem ayr:SlR X (a3t X.K):=by
 intro pins s σ H x v vl vu lo hi sl Q I rx hs pl pu h
 obtain⟨a,xs,rfl,hx,q1,q2⟩:=h
 by_cases c:HT.sIx xs.length 0 lo=0/\HT.sIx xs.length xs.length hi=xs.length
 ·cases rx
  obtain⟨its,r,ht,hz⟩:=I.tuple hx
  have hlen:its.toArray.size=xs.length:=by rw [aE];exact r.length.symm
  refine⟨"tuple",_,cr.lookup,ht.typeIs,?_⟩
  refine arw ht hs pl pu (by rw [hlen];exact c) ⟨.ref a,H,I,rfl,q1 ?_⟩
  unfold yz
  rw [c.1,c.2];simp
 ·exact ay4 pins s σ H (.ref a) v vl vu lo hi sl Q I rx hs pl pu ⟨a,xs,rfl,hx,c,q2⟩
noncomputable def a05(K:am):R2:=λx y H Q=> ∃a b xs ys,x=.ref a/\y=.ref b/\SqT K H a xs/\SqT K H b ys/\xs.length+ys.length <=sizeLine/\(xs=[] -> Q (.ref b) H)/\(xs≠ [] -> ys=[] -> Q (.ref a) H)/\(xs≠ [] -> ys≠ [] -> ∀p H',New H p (.tup (xs++ys)) H' -> Q (.ref p) H')
theorem asq:OpR X (binaryOp .Add) (a05 X.K):=by
 intro pins s σ H x y v u Q I rx ry h
 obtain⟨a,b,xs,ys,rfl,rfl,ha,hb,hz,q0,q1,q2⟩:=h
 by_cases c:xs=[]
 ·cases rx
  cases ry
  obtain⟨its,r1,p1,_⟩:=I.tuple ha
  obtain⟨its2,r2,p2,_⟩:=I.tuple hb
  have e0:its=[]:=r1.nil_iff.mpr c
  subst e0
  obtain⟨⟨cls,dd,data,sl⟩,ho,hc,n,hd⟩:=id p1
  obtain⟨⟨cls2,dd2,data2,sl2⟩,ho2,hc2,n2,hd2⟩:=id p2
  simp only at hc hd hc2 hd2
  subst hc hd hc2 hd2
  exact mz ⟨_,ho,rfl⟩ ⟨_,ho2,rfl⟩ jB lT gH gB (gb _ _) (tuple_addW0 a b _ _ n n2 dd dd2 sl sl2 (by simp)) ⟨ho,ho2,⟨.ref b,H,I,rfl,q0 c⟩⟩
 ·exact ayg pins s σ H (.ref a) (.ref b) v u Q I rx ry ⟨a,b,xs,ys,rfl,rfl,ha,hb,c,hz,q1 c,λd p hp=> q2 c d p _ ⟨hp,rfl⟩⟩
noncomputable def b01(b:Bool):Int:=if b=true then 1 else 0
def a4y:V -> Option Int
 |.int i=> some i
 |.bl b=> some (b01 b)
 |_=> none
theorem ay2:OpR X (binaryOp .Add) (λx y H Q=> ∃i j,a4y x=some i/\y=.int j/\Q (.int (i+j)) H):=by
 intro pins s σ H x y v u Q I rx ry h
 obtain⟨i,j,hx,rfl,q⟩:=h
 cases x with
 |int k=> cases hx;exact aqa pins s σ H _ _ v u Q I rx ry ⟨_,j,rfl,rfl,q⟩
 |bl b=>
  cases hx
  cases rx
  obtain⟨t',rfl⟩:=ry
  exact PySem.IntBool.add_bool_int ⟨.int (b01 b+j),H,I.tok _,⟨_,rfl⟩,q⟩
 |_=> cases hx
theorem part_of{v:ae}{o:Option Int}(p:gI v o): ∃q:Option (Int×Tok),v=partValue q/\q.map (·.1)=o:=by
 cases p with
 |none=> exact⟨none,rfl,rfl⟩
 |int i t=> exact⟨some (i,t),rfl,rfl⟩
end L2
namespace L2
open PySem PySem.Spec PyProof.Rows PyProof.Rows.KTD
structure TabF (K:am) (d:Addr) (D:List (Str×Str)):Prop where
 tab: ∀h:Heap,K.In h -> TabOf (λy v=> eN K bW y=some (some v)) h d D
 refs: ∀k y,datumAt k D=some y -> ∃f:Addr,eN K bW y=some (some (.ref f))
end L2
namespace PF
open PySem PySem.Spec
open L2
inductive D where
 |da (d:ac)|con (ds:List ac)|frz (ds:List ac)|set (ds:List ac)
 |ref (n:Nat)|fn (x:Str)|tabF (T:List (Str×Str))|ty (n:String)
abbrev D.non:D:=.da .none
abbrev D.bl(b:Bool):D:=.da (.bool b)
abbrev D.int(i:Int):D:=.da (.int i)
abbrev D.str(x:Str):D:=.da (.str x)
abbrev D.tup(ds:List ac):D:=.da (.tuple ds)
abbrev D.lst(ds:List ac):D:=.da (.list ds)
inductive O where
 |lst (ds:List D)|dct (kvs:List (ac×D))|set (ds:List D)|ins (C:Str) (fs:List (Str×D))|exc (C:Str) (fs:List (Str×D))|xcx (C:Str) (fs:List (Str×D))|gone
abbrev S:=List O
abbrev En:=List (Option D)
inductive R (α:Type) where
 |ok (a:α) (s:S)
 |bad
 /-- the exception at n was raised,where the names stood as ρ tells -/
 |ex (n:Nat) (ρ:En) (s:S)
noncomputable def R.bind{α β:Type}(r:R α)(f:α -> S -> R β):R β:=match r with
 |.ok a s=> f a s
 |.bad=>.bad
 |.ex n ρ s=>.ex n ρ s
noncomputable def R.calm{α:Type}(r:R α):R α:=match r with
 |.ok a s=>.ok a s
 |.bad=>.bad
 |.ex _ _ _=>.bad
noncomputable def R.at{α:Type}(r:R α)(ρ:En):R α:=match r with
 |.ok a s=>.ok a s
 |.bad=>.bad
 |.ex n _ s=>.ex n ρ s
theorem R.calm_ok{α:Type}(a:α)(s:S):(R.ok a s).calm=.ok a s:=rfl
theorem R.at_ok{α:Type}(a:α)(s:S)(ρ:En):(R.ok a s).at ρ=.ok a s:=rfl
theorem R.bind_ok{α β:Type}(a:α)(s:S)(f:α -> S -> R β):(R.ok a s).bind f=f a s:=rfl
def R.W{α:Type}(r:R α)(Q:α -> S -> Prop):Prop:=match r with
 |.ok a s=> Q a s
 |.bad=> False
 |.ex _ _ _=> False
theorem R.W_calm{α:Type}(r:R α)(Q:α -> S -> Prop):r.calm.W Q=r.W Q:=by cases r <;> rfl
theorem R.W_at{α:Type}(r:R α)(ρ:En)(Q:α -> S -> Prop):(r.at ρ).W Q=r.W Q:=by cases r <;> rfl
theorem R.W_ok{α:Type}(a:α)(s:S)(Q:α -> S -> Prop):(R.ok a s).W Q=Q a s:=rfl
theorem R.W_bind{α β:Type}(r:R α)(f:α -> S -> R β)(Q:β -> S -> Prop):(r.bind f).W Q=r.W λa s=> (f a s).W Q:=by cases r <;> rfl
theorem R.W_mono{α:Type}{r:R α}{Q Q':α -> S -> Prop}(h:r.W Q)(k: ∀a s,Q a s -> Q' a s):r.W Q':=by
 cases r with
 |ok a s=> exact k a s h
 |bad=> exact h
 |ex n ρ s=> exact h
structure As where
 ix:List (Option Addr)
 hd:List Addr
def As.has(as:As)(p:Addr):Prop:=some p∈as.ix\/p∈as.hd
abbrev As.add(as:As)(p:Addr):As:={as with ix:=as.ix++ [some p]}
abbrev As.hide(as:As)(p:Addr):As:={as with hd:=p::as.hd}
abbrev As.show(as:As)(p:Addr):As:={as with hd:=as.hd.filter λq=> decide (q≠p)}
structure Step0 (as:As) (H:Hp) (as':As) (H':Hp):Prop where
 len:as.ix.length <=as'.ix.length
 old: ∀n:Nat,n < as.ix.length -> as'.ix[n]?=as.ix[n]?\/as'.ix[n]?=some none
 back: ∀p,as'.has p -> as.has p\/H p=none
 keep: ∀b o,¬as.has b -> H b=some o -> H' b=some o
 dom: ∀b,H b≠none -> H' b≠none
structure Step (as:As) (H:Hp) (as':As) (H':Hp):Prop extends Step0 as H as' H' where
 hk: ∀p∈as.hd,p∈as'.hd
 hh: ∀p∈as.hd,∀o,H p=some o -> H' p=some o
theorem Step.refl(as:As)(H:Hp):Step as H as H where
 len:=av _
 old _ _:=.inl rfl
 back _ h:=.inl h
 keep _ _ _ e:=e
 dom _ e:=e
 hk _ h:=h
 hh _ _ _ e:=e
theorem kc{as:As}:some p∈as.ix ↔ ∃n:Nat,as.ix[n]?=some (some p):=by
 rw [gU]
theorem Step0.out{as as':As}(st:Step0 as H as' H')(n: ¬as.has b)(e:H b=some o): ¬as'.has b:=λm=> by
 rcases st.back b m with q|q
 ·exact n q
 ·rw [e]at q;cases q
theorem Step0.trans{as as1 as2:As}{H1 H2:Hp}(a:Step0 as H as1 H1)(b:Step0 as1 H1 as2 H2):Step0 as H as2 H2 where
 len:=br a.len b.len
 old n hn:=by
  rcases b.old n (aP hn a.len) with q|q
  ·rw [q];exact a.old n hn
  ·exact .inr q
 back p h:=by
  rcases b.back p h with q|q
  ·exact a.back p q
  ·right
   cases z:H p with
   |none=> rfl
   |some o=> exact absurd q (a.dom p (by rw [z];simp))
 keep b' o n e:=b.keep b' o (a.out n e) (a.keep b' o n e)
 dom b' e:=b.dom b' (a.dom b' e)
theorem Step.trans{as as1 as2:As}{H1 H2:Hp}(a:Step as H as1 H1)(b:Step as1 H1 as2 H2):Step as H as2 H2:=⟨a.toStep0.trans b.toStep0,λp h=> b.hk p (a.hk p h),λp h o e=> b.hh p (a.hk p h) o (a.hh p h o e)⟩
mutual
inductive TD (as:As) (H:Hp):V -> ac -> Prop
 |non:TD as H .non .none
 |bl (b:Bool):TD as H (.bl b) (.bool b)
 |int (i:Int):TD as H (.int i) (.int i)
 |str (x:Str):TD as H (.str x) (.str x)
 |tup {p:Addr} {xs:List V} {ds:List ac}: ¬as.has p -> H p=some (.tup xs) -> TDs as H xs ds -> TD as H (.ref p) (.tuple ds)
 |lst {p:Addr} {xs:List V} {ds:List ac}: ¬as.has p -> H p=some (.lst xs) -> TDs as H xs ds -> TD as H (.ref p) (.list ds)
 |dct {p:Addr}: ¬as.has p -> H p=some (.dK []) -> TD as H (.ref p) (.dict [])
 |dc1 {p:Addr} {i:Int} {v:V} {d:ac}: ¬as.has p -> H p=some (.dK [(.inl i,v)]) -> TD as H v d -> TD as H (.ref p) (.dict [(.int i,d)])
inductive TDs (as:As) (H:Hp):List V -> List ac -> Prop
 |nil:TDs as H [] []
 |cons {x:V} {xs:List V} {d:ac} {ds:List ac}:TD as H x d -> TDs as H xs ds -> TDs as H (x::xs) (d::ds)
end
inductive RD (K:am) (as:As) (H:Hp):V -> D -> Prop
 |da {v:V} {d:ac}:TD as H v d -> RD K as H v (.da d)
 |ty (n:String):RD K as H (.ty n) (.ty n)
 |fn {f:Addr} {x:Str}:eN K bW x=some (some (.ref f)) -> RD K as H (.ref f) (.fn x)
 |tabF {d:Addr} {T:List (Str×Str)}:TabF K d T -> RD K as H (.ref d) (.tabF T)
 |con {p:Addr} {xs:List V} {ds:List ac}:(∀H',SqT K H' p xs) -> TDs as H xs ds -> RD K as H (.ref p) (.con ds)
 |frz {p:Addr} {xs:List V} {ds:List ac}:(∀as' H',Step0 as H as' H' -> SqL K H' p xs) -> TDs as H xs ds -> RD K as H (.ref p) (.frz ds)
 |ref {p:Addr} {n:Nat}:n < as.ix.length -> (∀q,as.ix[n]?=some (some q) -> q=p) -> RD K as H (.ref p) (.ref n)
inductive RDs (K:am) (as:As) (H:Hp):List V -> List D -> Prop
 |nil:RDs K as H [] []
 |cons {x:V} {xs:List V} {d:D} {ds:List D}:RD K as H x d -> RDs K as H xs ds -> RDs K as H (x::xs) (d::ds)
noncomputable def kP:Key -> ac
 |.inl i=>.int i
 |.inr x=>.str x
def isT:ac -> Bool
 |.tuple xs=> vh (.tuple xs)
 |_=> false
inductive DRs (K:am) (as:As) (H:Hp):List (ac×V) -> List (ac×D) -> Prop
 |nil:DRs K as H [] []
 |cons {k:ac} {v:V} {d:D} {l:List (ac×V)} {kvs:List (ac×D)}:RD K as H v d -> DRs K as H l kvs -> DRs K as H ((k,v)::l) ((k,d)::kvs)
inductive FRs (K:am) (as:As) (H:Hp):List (Str×V) -> List (Str×D) -> Prop
 |nil:FRs K as H [] []
 |cons {f:Str} {v:V} {d:D} {l:List (Str×V)} {fs:List (Str×D)}:RD K as H v d -> FRs K as H l fs -> FRs K as H ((f,v)::l) ((f,d)::fs)
def pvK(l:List (Key×V)):List (ac×V):=l.map λe=> (kP e.1,e.2)
def RO(K:am)(as:As)(H:Hp)(p:Addr):O -> Prop
 |.lst ds=> ∃xs,H p=some (.lst xs)/\RDs K as H xs ds
 |.dct kvs=> (∃l:List (Key×V),H p=some (.dK l)/\DRs K as H (pvK l) kvs)\/ ∃l:List (ac×V),(l≠ []/\(l.all λe=> isT e.1)=true)/\H p=some (.dD l)/\DRs K as H l kvs
 |.ins C fs=> ∃(Ca dx:Addr) (gs:List (Str×V)),eN K bW C=some (some (.ref Ca))/\H p=some (.ins Ca dx gs)/\FRs K as H gs fs
 |.exc C fs=> ∃(Ca:Addr) (gs:List (Str×V)),eN K bW C=some (some (.ref Ca))/\H p=some (.exn Ca gs)/\FRs K as H gs fs
 |.xcx C fs=> ∃(Ca:Addr) (gs:List (Str×V)),eN K bW C=some (some (.ref Ca))/\H p=some (.exx Ca gs)/\FRs K as H gs fs
 |_=> False
noncomputable def aoy:HO -> Bool
 |.tup _=> false
 |_=> true
structure Rel (K:am) (as:As) (H:Hp) (s:S):Prop where
 len:as.ix.length=s.length
 nd: ∀(i j:Nat) (p:Addr),as.ix[i]?=some (some p) -> as.ix[j]?=some (some p) -> i=j
 ob: ∀(n:Nat) (p:Addr) (o:O),as.ix[n]?=some (some p) -> s[n]?=some o -> RO K as H p o
 li: ∀(n:Nat) (o:O),s[n]?=some o -> o≠ .gone -> ∃p,as.ix[n]?=some (some p)
 hs: ∀p∈as.hd,∃o,H p=some o/\aoy o=true
 hx: ∀p∈as.hd,some p∉as.ix
mutual
theorem TD.mono0{as as':As}{H H':Hp}(st:Step0 as H as' H'): ∀{v:V} {d:ac},TD as H v d -> TD as' H' v d
 |_,_,.non=>.non
 |_,_,.bl b=>.bl b
 |_,_,.int i=>.int i
 |_,_,.str x=>.str x
 |_,_,.tup n e r=>.tup (st.out n e) (st.keep _ _ n e) (TDs.mono0 st r)
 |_,_,.lst n e r=>.lst (st.out n e) (st.keep _ _ n e) (TDs.mono0 st r)
 |_,_,.dct n e=>.dct (st.out n e) (st.keep _ _ n e)
 |_,_,.dc1 n e t=>.dc1 (st.out n e) (st.keep _ _ n e) (TD.mono0 st t)
theorem TDs.mono0{as as':As}{H H':Hp}(st:Step0 as H as' H'): ∀{vs:List V} {ds:List ac},TDs as H vs ds -> TDs as' H' vs ds
 |_,_,.nil=>.nil
 |_,_,.cons a r=>.cons (TD.mono0 st a) (TDs.mono0 st r)
end
theorem RD.mono0{as as':As}(st:Step0 as H as' H'){d:D}(h:RD K as H v d):RD K as' H' v d:=by
 cases h with
 |da t=> exact .da (t.mono0 st)
 |ty n=> exact .ty n
 |fn a=> exact .fn a
 |tabF a=> exact .tabF a
 |con h r=> exact .con h (r.mono0 st)
 |frz h r=> exact .frz (λas' H' s2=> h as' H' (st.trans s2)) (r.mono0 st)
 |ref l h=>
  refine .ref (aP l st.len) λq e=> ?_
  rcases st.old _ l with z|z
  ·rw [z]at e;exact h q e
  ·rw [z]at e;cases e
theorem RDs.mono0{K:am}{as as':As}{H H':Hp}(st:Step0 as H as' H'): ∀{vs:List V} {ds:List D},RDs K as H vs ds -> RDs K as' H' vs ds
 |_,_,.nil=>.nil
 |_,_,.cons a r=>.cons (RD.mono0 st a) (RDs.mono0 st r)
theorem FRs.mono0{K:am}{as as':As}{H H':Hp}(st:Step0 as H as' H'): ∀{l:List (Str×V)} {fs:List (Str×D)},FRs K as H l fs -> FRs K as' H' l fs
 |_,_,.nil=>.nil
 |_,_,.cons a r=>.cons (a.mono0 st) (FRs.mono0 st r)
theorem DRs.mono0{K:am}{as as':As}{H H':Hp}(st:Step0 as H as' H'): ∀{l:List (ac×V)} {kvs:List (ac×D)},DRs K as H l kvs -> DRs K as' H' l kvs
 |_,_,.nil=>.nil
 |_,_,.cons a r=>.cons (RD.mono0 st a) (DRs.mono0 st r)
theorem DRs.mono{as as':As}(st:Step as H as' H'){l:List (ac×V)}{kvs:List (ac×D)}(h:DRs K as H l kvs):DRs K as' H' l kvs:=h.mono0 st.toStep0
theorem TD.mono{as as':As}(st:Step as H as' H'){d:ac}(h:TD as H v d):TD as' H' v d:=h.mono0 st.toStep0
theorem TDs.mono{as as':As}(st:Step as H as' H'){v:List V}{d:List ac}(h:TDs as H v d):TDs as' H' v d:=h.mono0 st.toStep0
theorem RD.mono{as as':As}(st:Step as H as' H'){d:D}(h:RD K as H v d):RD K as' H' v d:=h.mono0 st.toStep0
theorem RDs.mono{as as':As}(st:Step as H as' H'){v:List V}{d:List D}(h:RDs K as H v d):RDs K as' H' v d:=h.mono0 st.toStep0
section
variable{K:am}{as:As}{H:Hp}
theorem RDs.length: ∀{vs:List V} {ds:List D},RDs K as H vs ds -> vs.length=ds.length
 |_,_,.nil=> rfl
 |_,_,.cons _ r=> congrArg (· +1) (RDs.length r)
theorem RDs.append: ∀{vs ws:List V} {ds es:List D},RDs K as H vs ds -> RDs K as H ws es -> RDs K as H (vs++ws) (ds++es)
 |_,_,_,_,.nil,s=> s
 |_,_,_,_,.cons a r,s=>.cons a (RDs.append r s)
theorem RDs.get: ∀{vs:List V} {ds:List D} {i:Nat} {d:D},RDs K as H vs ds -> ds[i]?=some d -> ∃v,vs[i]?=some v/\RD K as H v d
 |_,_,_,_,.nil,e=> by simp at e
 |_,_,0,_,.cons a _,e=> by simp at e;subst e;exact⟨_,rfl,a⟩
 |_,_,i+1,d,.cons _ r,e=> by
  obtain⟨v,h1,h2⟩:=RDs.get (i:=i) (d:=d) r (by simpa using e)
  exact⟨v,by simpa using h1,h2⟩
theorem RDs.set: ∀{vs:List V} {ds:List D} (i:Nat) {v:V} {d:D},RD K as H v d -> RDs K as H vs ds -> RDs K as H (vs.set i v) (ds.set i d)
 |_,_,_,_,_,_,.nil=>.nil
 |_,_,0,_,_,r,.cons _ t=>.cons r t
 |_,_,i+1,_,_,r,.cons q t=>.cons q (RDs.set i r t)
theorem RDs.take: ∀{vs:List V} {ds:List D} (n:Nat),RDs K as H vs ds -> RDs K as H (vs.take n) (ds.take n)
 |_,_,0,_=>.nil
 |_,_,_+1,.nil=>.nil
 |_,_,n+1,.cons r t=>.cons r (RDs.take n t)
theorem RDs.drop: ∀{vs:List V} {ds:List D} (n:Nat),RDs K as H vs ds -> RDs K as H (vs.drop n) (ds.drop n)
 |_,_,0,r=> r
 |_,_,_+1,.nil=>.nil
 |_,_,n+1,.cons _ t=> RDs.drop n t
end
section
variable{as:As}{H:Hp}
theorem TDs.length: ∀{vs:List V} {ds:List ac},TDs as H vs ds -> vs.length=ds.length
 |_,_,.nil=> rfl
 |_,_,.cons _ r=> congrArg (· +1) (TDs.length r)
theorem TDs.append: ∀{vs ws:List V} {ds es:List ac},TDs as H vs ds -> TDs as H ws es -> TDs as H (vs++ws) (ds++es)
 |_,_,_,_,.nil,s=> s
 |_,_,_,_,.cons a r,s=>.cons a (TDs.append r s)
theorem TDs.get: ∀{vs:List V} {ds:List ac} {i:Nat} {d:ac},TDs as H vs ds -> ds[i]?=some d -> ∃v,vs[i]?=some v/\TD as H v d
 |_,_,_,_,.nil,e=> by simp at e
 |_,_,0,_,.cons a _,e=> by simp at e;subst e;exact⟨_,rfl,a⟩
 |_,_,i+1,d,.cons _ r,e=> by
  obtain⟨v,h1,h2⟩:=TDs.get (i:=i) (d:=d) r (by simpa using e)
  exact⟨v,by simpa using h1,h2⟩
theorem TDs.take: ∀{vs:List V} {ds:List ac} (n:Nat),TDs as H vs ds -> TDs as H (vs.take n) (ds.take n)
 |_,_,0,_=>.nil
 |_,_,_+1,.nil=>.nil
 |_,_,n+1,.cons r t=>.cons r (TDs.take n t)
theorem TDs.drop: ∀{vs:List V} {ds:List ac} (n:Nat),TDs as H vs ds -> TDs as H (vs.drop n) (ds.drop n)
 |_,_,0,r=> r
 |_,_,_+1,.nil=>.nil
 |_,_,n+1,.cons _ t=> TDs.drop n t
end
theorem TDs.rd{K:am}{as:As}{H:Hp}: ∀{vs:List V} {ds:List ac},TDs as H vs ds -> RDs K as H vs (ds.map D.da)
 |_,_,.nil=>.nil
 |_,_,.cons a r=>.cons (.da a) (TDs.rd r)
noncomputable def j3:List D -> Option (List ac)
 |[]=> some []
 |.da d::r=> match j3 r with
  |some ds=> some (d::ds)
  |none=> none
 |_=> none
theorem qh: ∀ds:List ac,j3 (ds.map D.da)=some ds
 |[]=> rfl
 |d::r=> by rw [aK,j3,qh r]
theorem ye: ∀{ds:List D} {xs:List ac},j3 ds=some xs -> ds=xs.map D.da
 |[],xs,h=> by cases h;rfl
 |.da d::r,xs,h=> by
  rw [j3]at h
  cases q:j3 r with
  |none=> rw [q]at h;cases h
  |some ys=> rw [q]at h;cases h;rw [ye q];rfl
 |.con _::_,_,h=> by cases h
 |.frz _::_,_,h=> by cases h
 |.set _::_,_,h=> by cases h
 |.ref _::_,_,h=> by cases h
 |.fn _::_,_,h=> by cases h
 |.tabF _::_,_,h=> by cases h
 |.ty _::_,_,h=> by cases h
theorem RDs.td{K:am}{as:As}{H:Hp}: ∀{vs:List V} {ds:List ac},RDs K as H vs (ds.map D.da) -> TDs as H vs ds
 |_,[],h=> by cases h;exact .nil
 |_,d::r,h=> by
  cases h with
  |cons a b=> cases a with|da a=> exact .cons a (RDs.td b)
theorem ah7(n:New H p o H')(e:H b≠none):H' b≠none:=by
 cases q:H b with
 |none=> exact absurd q e
 |some u=> rw [n.keep q];simp
theorem ju{as:As}(n:New H p o H'):Step as H as H' where
 len:=av _
 old _ _:=.inl rfl
 back _ h:=.inl h
 keep _ _ _ e:=n.keep e
 dom _ e:=ah7 n e
 hk _ h:=h
 hh _ _ _ e:=n.keep e
theorem vn{α:Type}{l:List α}{x y:α}(e:(l++ [x])[i]?=some y):(i < l.length/\l[i]?=some y)\/(i=l.length/\y=x):=by
 by_cases h:i < l.length
 ·rw [aI h]at e;exact .inl ⟨h,e⟩
 ·have h2:i - l.length=0\/1 <=i - l.length:=by lia
  rw [aT (bT h)]at e
  rcases h2 with z|z
  ·rw [z]at e
   simp at e
   exact .inr ⟨by lia,e.symm⟩
  ·rw [di.mpr (by simpa using z)]at e
   cases e
theorem am7{as:As}{q:Addr}(h:(as.add p).has q):as.has q\/q=p:=by
 rcases h with h|h
 ·rcases aR.mp h with z|z
  ·exact .inl (.inl z)
  ·exact .inr (by simpa using z)
 ·exact .inl (.inr h)
theorem zc{as:As}(n:New H p o H'):Step as H (as.add p) H' where
 len:=by simp
 old i h:=.inl (aI h)
 back q h:=by
  rcases am7 h with z|z
  ·exact .inl z
  ·subst z;exact .inr n.no
 keep _ _ _ e:=n.keep e
 dom _ e:=ah7 n e
 hk _ h:=h
 hh _ _ _ e:=n.keep e
theorem aas{as:As}(m:as.has p)(c:Chg H p o H'):Step0 as H as H' where
 len:=av _
 old _ _:=.inl rfl
 back _ h:=.inl h
 keep b u n e:=c.keep (λz=> n (z▸m)) e
 dom b e:=by
  by_cases z:b=p
  ·subst z;rw [c.at];simp
  ·cases q:H b with
   |none=> exact absurd q e
   |some u=> rw [c.keep z q];simp
theorem yb{as:As}(m:some p∈as.ix)(nh:p∉as.hd)(c:Chg H p o H'):Step as H as H':=⟨aas (.inl m) c,λ_ h=> h,λq h u e=> c.keep (λz=> nh (z▸h)) e⟩
theorem ato{as as2:As}{H1 H2:Hp}(st:Step as H as2 H1)(no:H p=none)(nh:p∉as.hd)(m:p∈as2.hd)(c:Chg H1 p o H2):Step as H as2 H2:=
 ⟨⟨st.len,st.old,st.back,λb u n e=> c.keep (xf e no) (st.keep b u n e),λb e=> (aas (.inr m) c).dom b (st.dom b e)⟩,st.hk,λq h u e=> c.keep (λz=> nh (z▸h)) (st.hh q h u e)⟩
theorem ahw{as:As}(n:New H p o H'):Step as H (as.hide p) H' where
 len:=av _
 old _ _:=.inl rfl
 back q h:=by
  rcases h with h|h
  ·exact .inl (.inl h)
  ·rcases aA.mp h with z|z
   ·subst z;exact .inr n.no
   ·exact .inl (.inr z)
 keep _ _ _ e:=n.keep e
 dom _ e:=ah7 n e
 hk _ h:=aw _ h
 hh _ _ _ e:=n.keep e
theorem alb{as:As}{q:Addr}(h:(as.show p).has q):as.has q:=by
 rcases h with h|h
 ·exact .inl h
 ·exact .inr (bq.mp h).1
theorem adx{as:As}:Step0 as H (as.show p) H where
 len:=av _
 old _ _:=.inl rfl
 back q h:=.inl (alb h)
 keep _ _ _ e:=e
 dom _ e:=e
theorem aeb{as:As}(m:p∈as.hd):Step0 as H ((as.show p).add p) H where
 len:=by simp
 old i h:=.inl (aI h)
 back q h:=by
  rcases am7 h with z|z
  ·exact .inl (alb z)
  ·subst z;exact .inl (.inr m)
 keep _ _ _ e:=e
 dom _ e:=e
theorem av6{as as2:As}{H2:Hp}(st:Step as H as2 H2)(nh:p∉as.hd)(st2:Step0 as2 H2 (as2.show p) H2):Step as H (as2.show p) H2:=
 ⟨st.toStep0.trans st2,λq h=> bq.mpr ⟨st.hk q h,by
  have:q≠p:=λz=> nh (z▸h)
  simp [this]⟩,st.hh⟩
theorem aq8{as as2:As}{H2:Hp}(st:Step as H as2 H2)(nh:p∉as.hd)(m:p∈as2.hd):Step as H ((as2.show p).add p) H2:=
 ⟨st.toStep0.trans (aeb m),λq h=> bq.mpr ⟨st.hk q h,by
  have:q≠p:=λz=> nh (z▸h)
  simp [this]⟩,st.hh⟩
section
variable{K:am}{as as':As}{H H':Hp}{s:S}{p:Addr}
theorem RO.mono0(st:Step0 as H as' H'){o:O}(e:H' p=H p)(h:RO K as H p o):RO K as' H' p o:=by
 cases o with
 |lst ds=>
  obtain⟨xs,e1,r⟩:=h
  exact⟨xs,e.trans e1,r.mono0 st⟩
 |dct kvs=>
  rcases h with ⟨l,e1,r⟩|⟨l,e0,e1,r⟩
  ·exact .inl ⟨l,e.trans e1,r.mono0 st⟩
  ·exact .inr ⟨l,e0,e.trans e1,r.mono0 st⟩
 |ins C fs=>
  obtain⟨Ca,dx,gs,e0,e1,r⟩:=h
  exact⟨Ca,dx,gs,e0,e.trans e1,r.mono0 st⟩
 |exc C fs=>
  obtain⟨Ca,gs,e0,e1,r⟩:=h
  exact⟨Ca,gs,e0,e.trans e1,r.mono0 st⟩
 |xcx C fs=>
  obtain⟨Ca,gs,e0,e1,r⟩:=h
  exact⟨Ca,gs,e0,e.trans e1,r.mono0 st⟩
 |_=> exact h.elim
theorem RO.some{o:O}(h:RO K as H p o):H p≠none:=by
 cases o with
 |lst ds=>
  obtain⟨xs,e1,r⟩:=h
  rw [e1];simp
 |dct kvs=>
  rcases h with ⟨l,e1,r⟩|⟨l,e0,e1,r⟩ <;> (rw [e1];simp)
 |ins C fs=>
  obtain⟨Ca,dx,gs,e0,e1,r⟩:=h
  rw [e1];simp
 |exc C fs=>
  obtain⟨Ca,gs,e0,e1,r⟩:=h
  rw [e1];simp
 |xcx C fs=>
  obtain⟨Ca,gs,e0,e1,r⟩:=h
  rw [e1];simp
 |_=> exact h.elim
theorem Rel.at(r:Rel K as H s)(e:as.ix[n]?=some (some p)):H p≠none:=by
 have hl:n < s.length:=by
  rw [←r.len]
  exact (aB.mp e).1
 exact (r.ob n p _ e (ao hl)).some
theorem Rel.has(r:Rel K as H s)(h:as.has p):H p≠none:=by
 rcases h with h|h
 ·obtain⟨i,hi⟩:=kc.mp h
  exact r.at hi
 ·obtain⟨xs,e,_⟩:=r.hs p h
  rw [e];simp
theorem acm{q:Addr}(k: ∀o,H q=some o -> H' q=some o)(h:H q≠none):H' q=H q:=by
 cases z:H q with
 |none=> exact absurd z h
 |some x=> rw [k x z]
theorem Rel.new(r:Rel K as H s)(n:New H p o H'):Rel K as H' s where
 len:=r.len
 nd:=r.nd
 ob i q u e1 e2:=(r.ob i q u e1 e2).mono0 (ju n).toStep0 (acm (λ_=> n.keep) (r.at e1))
 li:=r.li
 hs q h:=let ⟨xs,e,t⟩:=r.hs q h;⟨xs,n.keep e,t⟩
 hx:=r.hx
theorem Rel.laid{u:O}(r:Rel K as H s)(n:New H p o H')(h:RO K (as.add p) H' p u):Rel K (as.add p) H' (s++ [u]) where
 len:=by simp [r.len]
 nd i j q e1 e2:=by
  rcases vn e1 with ⟨l1,z1⟩|⟨l1,z1⟩ <;> rcases vn e2 with ⟨l2,z2⟩|⟨l2,z2⟩
  ·exact r.nd i j q z1 z2
  ·cases z2;exact absurd n.no (r.at z1)
  ·cases z1;exact absurd n.no (r.at z2)
  ·rw [l1,l2]
 ob i q x e1 e2:=by
  rcases vn e1 with ⟨l1,z1⟩|⟨l1,z1⟩ <;> rcases vn e2 with ⟨l2,z2⟩|⟨l2,z2⟩
  ·exact (r.ob i q x z1 z2).mono0 (zc n).toStep0 (acm (λ_=> n.keep) (r.at z1))
  ·rw [l2,←r.len]at l1;exact absurd l1 (cD _)
  ·rw [l1,r.len]at l2;exact absurd l2 (cD _)
  ·cases z1;subst z2;exact h
 li i x e g:=by
  rcases vn e with ⟨l1,z1⟩|⟨l1,z1⟩
  ·obtain⟨q,hq⟩:=r.li i x z1 g
   exact⟨q,by rw [aI (by rw [r.len];exact l1)];exact hq⟩
  ·exact⟨p,by rw [l1,←r.len];simp⟩
 hs q h:=let ⟨xs,e,t⟩:=r.hs q h;⟨xs,n.keep e,t⟩
 hx q h m:=by
  rcases aR.mp m with z|z
  ·exact r.hx q h z
  ·have:q=p:=by simpa using z
   subst this
   obtain⟨xs,e,_⟩:=r.hs q h
   rw [n.no]at e;cases e
theorem Rel.chg{u:O}(r:Rel K as H s)(e:as.ix[n]?=some (some p))(c:Chg H p o H')(h:RO K as H' p u):Rel K as H' (s.set n u) where
 len:=by simp [r.len]
 nd:=r.nd
 ob i q x e1 e2:=by
  by_cases z:n=i
  ·subst z
   rw [e]at e1;cases e1
   have hl:n < s.length:=by rw [←r.len];exact (aB.mp e).1
   rw [a8 hl]at e2
   cases e2;exact h
  ·rw [bL z]at e2
   have ne:q≠p:=λw=> z (r.nd n i p e (w▸e1))
   exact (r.ob i q x e1 e2).mono0 (aas (.inl (kc.mpr ⟨n,e⟩)) c) (acm (λ_=> c.keep ne) (r.at e1))
 li i x e2 g:=by
  by_cases z:n=i
  ·subst z;exact⟨p,e⟩
  ·rw [bL z]at e2
   exact r.li i x e2 g
 hs q h:=let ⟨xs,e',t⟩:=r.hs q h;⟨xs,c.keep (λz=> r.hx q h (kc.mpr ⟨n,z▸e⟩)) e',t⟩
 hx:=r.hx
theorem Rel.chgH(r:Rel K as H s)(m:p∈as.hd)(c:Chg H p o H')(ht:aoy o=true:=by exact rfl):Rel K as H' s where
 len:=r.len
 nd:=r.nd
 ob i q x e1 e2:=by
  have ne:q≠p:=λw=> r.hx p m (kc.mpr ⟨i,w▸e1⟩)
  exact (r.ob i q x e1 e2).mono0 (aas (.inr m) c) (acm (λ_=> c.keep ne) (r.at e1))
 li:=r.li
 hs q h:=by
  by_cases z:q=p
  ·subst z;exact⟨_,c.at,ht⟩
  ·obtain⟨xs,e,t⟩:=r.hs q h
   exact⟨xs,c.keep z e,t⟩
 hx:=r.hx
theorem Rel.hide(r:Rel K as H s)(n:New H p o H')(ht:aoy o=true:=by exact rfl):Rel K (as.hide p) H' s where
 len:=r.len
 nd:=r.nd
 ob i q u e1 e2:=(r.ob i q u e1 e2).mono0 (ahw n).toStep0 (acm (λ_=> n.keep) (r.at e1))
 li:=r.li
 hs q h:=by
  rcases aA.mp h with z|z
  ·subst z;exact⟨_,n.at,ht⟩
  ·obtain⟨xs,e,t⟩:=r.hs q z
   exact⟨xs,n.keep e,t⟩
 hx q h m:=by
  rcases aA.mp h with z|z
  ·subst z
   obtain⟨i,hi⟩:=kc.mp m
   exact r.at hi n.no
  ·exact r.hx q z m
theorem Rel.show(r:Rel K as H s):Rel K (as.show p) H s where
 len:=r.len
 nd:=r.nd
 ob i q u e1 e2:=(r.ob i q u e1 e2).mono0 adx rfl
 li:=r.li
 hs q h:=r.hs q (bq.mp h).1
 hx q h:=r.hx q (bq.mp h).1
theorem Rel.take{u:O}(r:Rel K as H s)(m:p∈as.hd)(h:RO K ((as.show p).add p) H p u):Rel K ((as.show p).add p) H (s++ [u]) where
 len:=by simp [r.len]
 nd i j q e1 e2:=by
  rcases vn e1 with ⟨l1,z1⟩|⟨l1,z1⟩ <;> rcases vn e2 with ⟨l2,z2⟩|⟨l2,z2⟩
  ·exact r.nd i j q z1 z2
  ·cases z2;exact absurd (kc.mpr ⟨i,z1⟩) (r.hx p m)
  ·cases z1;exact absurd (kc.mpr ⟨j,z2⟩) (r.hx p m)
  ·rw [l1,l2]
 ob i q x e1 e2:=by
  rcases vn e1 with ⟨l1,z1⟩|⟨l1,z1⟩ <;> rcases vn e2 with ⟨l2,z2⟩|⟨l2,z2⟩
  ·exact (r.ob i q x z1 z2).mono0 (aeb m) rfl
  ·rw [l2,←r.len]at l1;exact absurd l1 (cD _)
  ·rw [l1]at l2
   have:as.ix.length < s.length:=l2
   rw [r.len]at this;exact absurd this (cD _)
  ·cases z1;subst z2;exact h
 li i x e g:=by
  rcases vn e with ⟨l1,z1⟩|⟨l1,z1⟩
  ·obtain⟨q,hq⟩:=r.li i x z1 g
   exact⟨q,by rw [aI (by rw [r.len];exact l1)];exact hq⟩
  ·exact⟨p,by rw [l1,←r.len];simp⟩
 hs q h:=r.hs q (bq.mp h).1
 hx q h m2:=by
  obtain⟨h1,h2⟩:=bq.mp h
  rcases aR.mp m2 with z|z
  ·exact r.hx q h1 z
  ·have:q=p:=by simpa using z
   exact absurd this (of_decide_eq_true h2)
end
end PF
namespace EX
open PySem PySem.W PySem.Spec PySem.Calls PyProof.Rows Builtin Builtin.ObjectAttr
abbrev bmV:List ae:=[.type "ValueError",.type "Exception",.type "BaseException",.type "object"]
inductive Above:List ae -> Prop
 |base:Above bmV
 |own (a:Addr) {l:List ae}:Above l -> Above (.ref a::l)
structure ClsE (K:Frag) (C:Addr):Prop where
 at_: ∃nm q N bs bm sn sub ab col dd k0 k1 k2 k3 k5,K.lookup C=some (excClassObj nm q C N bs bm true sn sub ab col dd k0 k1 k2 k3 k5 "ValueError.__new__")/\Above bm
 ga:findIn K (.ref C) "__getattribute__"=some (some (.builtin "BaseException.__getattribute__"))
 gt:findIn K (.ref C) "__getattr__"=some none
 sa:findIn K (.ref C) "__setattr__"=some (some (.builtin "object.__setattr__"))
end EX
namespace L2
open PySem PySem.Spec PyProof.Rows EX
structure ClsX (K:am) (C:Addr):Prop extends ClsE K C where
 ca:kW K (.ref C) "__class__"=some (some (.builtin "object.__class__"))
 cg:PySem.W.specialIn K (.builtin "object.__class__") "__get__"=some (some (.builtin "getset_descriptor.__get__"))
 ct:PySem.W.takesIn K (.builtin "object.__class__")=some true
end L2
namespace L2
open PySem PySem.Spec
structure Noted (l:List Env) (p C:Addr) (dx:Option Addr) (t:Addr) (h h':Heap):Prop where
 sz:h'.objs.size=h.objs.size+1
 keep: ∀b o,h.get? b=some o -> b≠p -> b∉frs l -> h'.get? b=some o
 slot: ∀b o,h.get? b=some o -> b≠p -> ∃sl,h'.get? b=some {o with slots:=sl}
 exc:h'.get? p=some (ae9 C dx t (.ref h.objs.size))
 ent: ∃oT ts,h'.get? h.objs.size=some oT/\oT.data=.fields ts/\ts[3]?=some .none
theorem ama{M:Model}{outer:List Env}{L t:Addr}{tb head:ae}{hadNext:Bool}{Q:Unit -> ag -> Prop}(hfr:A.frames=some (env::outer))(hl:s.heap.FunFrames base (env::outer))(hf:env.frame=some L)(he:s.heap.get? p=some (ae9 C dx t tb))(h: ∀h',Noted (env::outer) p C dx t s.heap h' -> Q () {s with heap:=h'}):
  wpAny M A (do let a←frameOf env;let pl←entryPlaceOf L hadNext;let b←mj head a .none (rawInt L) .none pl;setField (.ref p) 1 b) (λ_ s'=> wpAny M A (setFlight (.ref p) none) Q E s') E s:=by
 have hene:p∉(env::outer).filterMap (·.frame):=λhm=> by
  (obtain⟨_,o,ho,hnf⟩:=hl.mem hm)
  rw [he]at ho;injection ho with ho;subst ho;exact hnf _ rfl
 (refine aa (wpAny_frameOf_fun hfr hl hf λh₁ hs₁=> ?_))
 (refine aa (wpAny_entryPlaceOf λpl hpl=> ?_))
 (unfold mj newFields)
 (refine aa (bN ?_ (hpl.sizeOk5 _ _ _ _ _)))
 have he₁:h₁.get? p=some (ae9 C dx t tb):=(hs₁.2.1 p hene).trans he
 (have he₂:=aj (h:=h₁) {cls:=.type "traceback",dict:=none,data:=.fields ([head,.ref L,.none,rawInt L,.none]++(if pl.isEmpty then bo 6 aU else pl)).toArray} he₁)
 refine cG he₂ rfl (show 1 < 6 by decide) ?_
 have hTe:h₁.objs.size≠p:=dI (az he₁)
 have he₃:=bD (de (·.setIfInBounds 1 (bZ h₁.objs.size))) he₂ (gV (ff rfl _))
 have hT₃:=(bY (h₁.push {cls:=.type "traceback",dict:=none,data:=.fields ([head,.ref L,.none,rawInt L,.none]++(if pl.isEmpty then bo 6 aU else pl)).toArray}) --
  (de (·.setIfInBounds 1 (bZ h₁.objs.size))) (cF hTe)).trans (ay h₁ rfl) --
 unfold setFlight
 refine aa (bB he₃ rfl (x:=.ref h₁.objs.size) rfl ?_)
 (rw [if_pos (show (bZ h₁.objs.size !=aU)=true from by simp)])
 (refine cG hT₃ rfl (by simp only [aE,aQ,aG,bS] <;> lia) (h _ ?_))
 have keep: ∀b o,b≠p -> h₁.get? b=some o ->
   (((h₁.push {cls:=.type "traceback",dict:=none,data:=.fields ([head,.ref L,.none,rawInt L,.none]++(if pl.isEmpty then bo 6 aU else pl)).toArray}).update p (de (·.setIfInBounds 1 (bZ h₁.objs.size)))).update h₁.objs.size
    (de (·.setIfInBounds 3 ((none:Option Addr).elim aU λf=> rawInt f)))).get? b=some o:=λb o hbe hb=> by --
  (have hbT:h₁.objs.size≠b:=dI (az hb))
  (rw [bY _ _ hbT,bY _ _ (cF hbe)])
  (exact aj _ hb)
 refine⟨?_,λb o hb hbp hbf=> keep b o hbp ((hs₁.2.1 b hbf).trans hb),λb o hb hbp=> ?_,?_,?_⟩
 ·rw [kM,kM,←hs₁.1]
  simp [Heap.push]
 ·obtain⟨sl,hs⟩:=hs₁.2.2 b o hb
  exact⟨sl,keep b _ hbp hs⟩
 ·rw [bY _ _ hTe,he₃,←hs₁.1];rfl
 ·rw [←hs₁.1]
  exact⟨_,_,bD _ hT₃ (gV (ff rfl _)),ff rfl _,by first|(simp;done)|(rcases hpl with rfl|⟨_,_,_,_,_,_,_,rfl⟩ <;> simp)⟩
def asv(h:Heap)(p:Addr)(tb:ae):Prop:=tb=.none\/ ∃T oT ts,tb=.ref T/\T≠p/\h.get? T=some oT/\oT.data=.fields ts/\ts[3]?=some .none
theorem a00{M:Model}{outer:List Env}{L t:Addr}{tb:ae}{Q:Unit -> ag -> Prop}(hfr:A.frames=some (env::outer))(hl:s.heap.FunFrames base (env::outer))(hf:env.frame=some L)(he:s.heap.get? p=some (ae9 C dx t tb))(ht:asv s.heap p tb)(h: ∀h',Noted (env::outer) p C dx t s.heap h' -> Q () {s with heap:=h'}):wpAny M A (mC (.ref p) env) (λ_ s'=> wpAny M A (setFlight (.ref p) none) Q E s') E s:=by
 unfold mC
 simp only [hf]
 rcases ht with rfl|⟨T,oT,ts,rfl,hTp,hT,hd,h3⟩
 ·refine aa (bB he rfl (x:=.none) rfl ?_)
  rw [if_neg (by decide)]
  exact ama hfr hl hf he h
 ·refine aa (bB he rfl (x:=.ref T) rfl ?_)
  (rw [if_pos (show (bZ T !=aU)=true from by simp)])
  refine aa (bB hT hd h3 ?_)
  (rw [if_neg (show¬((aU==rawInt L)=true) from by simp [rawInt])])
  refine aa (cG hT hd (cb.mp h3).1 ?_)
  rw [Heap.update_setField_same _ _ _ _ _ _ hT hd h3]
  exact ama hfr hl hf he h
theorem azj{M:Model}{outer:List Env}{L t:Addr}{tb:ae}{Q:Unit -> ag -> Prop}(hfr:A.frames=some (env::outer))(hl:s.heap.FunFrames base (env::outer))(hf:env.frame=some L)(he:s.heap.get? p=some (ae9 C dx t tb))(ht:asv s.heap p tb)(h: ∀h',Noted (env::outer) p C dx t s.heap h' -> Q () {s with heap:=h'}):wpAny M A (leaving env (.ref p)) Q E s:=by
 unfold leaving
 exact aa (a00 hfr hl hf he ht h)
end L2
namespace L2
open PySem PySem.Spec PyProof.Rows EX
section
variable{P:aL}{w:aO}{H H':Hp}{h h':Heap}{l:List Env}{p C t:Addr}{dx:Option Addr}{fs:List (Str×V)}
theorem Noted.hok(n:Noted l p C dx t h h')(ok:HOk P w H h)(hp:H p=some (.exx C fs))(he: ∃tb,h.get? p=some (ae9 C dx t tb))(hf: ∀b∈frs l,H b=none):HOk P w H h':=λa o q=> by
 by_cases z:a=p
 ·subst z
  rw [hp]at q;cases q
  obtain⟨b0,t',tb',dxo,e,r⟩:=(show jq P w H h a (.exx C fs) from ok a _ hp)
  obtain⟨tb,he⟩:=he
  rw [he]at e
  have e:=b8 e
  have ed:dx=dxo:=congrArg Obj.dict e
  subst ed
  refine⟨b0,t,_,dx,n.exc,?_⟩
  rcases r with r|⟨d,r,d1,ne,mA,⟨od,es,ep,e2,c⟩,r'⟩
  ·exact .inl r
  ·refine .inr ⟨d,r,d1,ne,mA,⟨od,es,ep,n.keep d od e2 ne (λm=> ?_),c⟩,r'⟩
   rw [hf d m]at d1;cases d1
 ·refine (ok a o q).stay (λb u hb e=> n.keep b u e ?_ ?_) (λ_ r=> r) λ_ _ r=> r
  ·rcases hb with rfl|hb
   ·exact z
   ·intro y;rw [y,hp]at hb;cases hb
  ·intro m
   rcases hb with rfl|hb
   ·rw [hf b m]at q;cases q
   ·rw [hf b m]at hb;cases hb
end
def CX1(P:aL)(w:aO):CXT:=λouter H s E e s'=> ∃(p:Addr) (H':Hp) (C:Addr) (fs:List (Str×V)) (t:Addr) (dx:Option Addr) (tb:ae),e=.ref p/\s'.os=s.os/\gn s'.gens/\
 Un (frs outer) [] H H' s.heap s'.heap/\HOk P w H' s'.heap/\H' p=some (.exx C fs)/\s'.heap.get? p=some (ae9 C dx t tb)/\asv s'.heap p tb/\E (.ref p) none H'
abbrev XE:=St -> Addr -> Hp -> Prop
noncomputable def XE.sk(E:XE):SK:=λσ v _ H=> ∃p,v=.ref p/\E σ p H
structure XOk (X:Cx) (E:XE):Prop where
 pass:ake (CX1 X.prog X.w) X E.sk
 own:mw (model X.prog X.w) X.A X.env X.xe
theorem XOk.never(h:mw (model X.prog X.w) X.A X.env X.xe):XOk X λ_ _ _=> False:=⟨λ_ _ _ _ _ _ _ ⟨_,_,_,_,_,_,_,_,_,_,_,_,_,_,_,_,_,f⟩=> f.elim,h⟩
theorem a3a{cd:ae}{outer:List Env}{E:XK}:
  XOk (y4 (CX1 P w) P w K mg base N qual scope f cd A outer s H E) λ_ p H=> E (.ref p) none H:=by
 refine⟨λpins σ H1 s1 e s' I hc=> ?_,PassesOwn.leaving⟩
 obtain⟨p,H2,C,fs,t,dx,tb,rfl,os,bare,un,hok,hp,he,ht,p',ep,hE⟩:=hc
 cases ep
 have J:=I.call' (H':=H2) os un hok bare λb z=> absurd z (by simp)
 refine azj (M:=model P w) J.ok.frames J.stack rfl he ht λh' n=> ?_
 have fr: ∀b∈frs (y4 (CX1 P w) P w K mg base N qual scope f cd A outer s H E).stack,H2 b=none:=J.stkFree
 have B:Un (frs outer) [] H H2 s.heap s'.heap:=J.base
 have hL:s.heap.objs.size <=(y4 (CX1 P w) P w K mg base N qual scope f cd A outer s H E).env.locals:=J.ok.above
 have inF: ∀b,b∈frs (y4 (CX1 P w) P w K mg base N qual scope f cd A outer s H E).stack -> b=(y4 (CX1 P w) P w K mg base N qual scope f cd A outer s H E).env.locals\/b∈frs outer:=λb z=> aA.mp (J.stkSub b z)
 refine⟨p,H2,C,fs,t,dx,.ref s'.heap.objs.size,rfl,J.os,J.bare,⟨λb o e hn hf hx=> ?_,λb o e hn hf hx=> ?_,B.free,λb o e hx=> ?_,B.tups,B.frzs,B.tbls⟩,n.hok hok hp ⟨tb,he⟩ fr,hp,n.exc,.inr ?_,hE⟩
 ·refine n.keep b o (B.keep b o e hn hf hx) (λz=> ?_) λz=> ?_
  ·have:=B.free b o e hn hx;rw [z,hp]at this;cases this
  ·rcases inF b z with z|z
   ·exact absurd (az e) (by rw [z];exact lK.mpr hL)
   ·exact hf z
 ·obtain⟨sl,q⟩:=B.slot b o e hn hf hx
  obtain⟨sl2,q2⟩:=n.slot b _ q λz=> by have:=B.free b o e hn hx;rw [z,hp]at this;cases this
  exact⟨sl2,q2⟩
 ·obtain⟨o',q⟩:=B.there b o e hx
  by_cases z:b=p
  ·rw [z];exact⟨_,n.exc⟩
  ·obtain⟨sl,q2⟩:=n.slot b o' q z;exact⟨_,q2⟩
 ·obtain⟨oT,ts,e1,e2,e3⟩:=n.ent
  exact⟨_,oT,ts,rfl,dI (az he),e1,e2,e3⟩
abbrev Cx.tries(X:Cx)(pn:List (Addr×Obj))(E:ae -> ag -> Prop):Cx:={X with pn:=pn,xe:=E}
theorem Inv.tries(I:Inv X pins σ H s)(E:ae -> ag -> Prop):Inv (X.tries (X.pn++pins) E) [] σ H s:=
 ⟨⟨I.ok.mod,I.ok.kind,I.ok.glob,I.ok.blt,I.ok.above,I.ok.inj,I.ok.has,I.ok.cab,I.ok.hd,I.ok.frames,I.ok.stk,I.ok.exf,I.ok.bs,I.ok.bsz,I.ok.noex,I.ok.exfs,I.ok.funs,I.ok.frf⟩,I.os,I.bare,I.base,I.loc,I.cell,I.free,I.freeC,λp hp=> I.pin p (by rwa [b7]at hp),I.hok,I.len⟩
theorem Inv.untries(ok:X.Ok)(I:Inv (X.tries (X.pn++pins) E) pins' σ H s):Inv X pins σ H s:=
 ⟨ok,I.os,I.bare,I.base,I.loc,I.cell,I.free,I.freeC,λp hp=> I.pin p (bX _ hp),I.hok,I.len⟩
theorem SP.untries{D:Ends}{f:Flow}{s':ag}(ok:X.Ok)(h:SP (X.tries (X.pn++pins) E) pins' D f s'):SP X pins D f s':=by
 cases f with
 |next=> obtain⟨σ',H',I,q⟩:=h;exact⟨σ',H',I.untries ok,q⟩
 |brk=> obtain⟨σ',H',I,q⟩:=h;exact⟨σ',H',I.untries ok,q⟩
 |cont=> obtain⟨σ',H',I,q⟩:=h;exact⟨σ',H',I.untries ok,q⟩
 |ret u=> obtain⟨v,σ',H',I,r,q⟩:=h;exact⟨v,σ',H',I.untries ok,r,q⟩
theorem Fun.okX{x:Str}{k:Nat}{sp:Sp}(F:Fun K x qual st f fd)(S:FnScope N ps (je st))(len: ∀vs H Q E,sp vs H Q E -> vs.length=ps.length)(hbody: ∀(cdv:ae) (A:aX) (outer:List Env) (s:ag) (H:Hp) (vs:List V) (Q:VK) (E:XK),Room k (A.deeper (envOfC qual (je st) s.heap.objs.size f cdv)) -> sp vs H Q E ->
   ∃t,PSs (y4 (CX1 P w) P w K mg base N qual (je st) f cdv A outer s H E) (ve st) t/\t {nx:=λ_ H'=> Q .non H',rt:=Q} (start N vs) H):FnOk P w K mg base (CX1 P w) (k+1) f fd ps sp:=by
 obtain⟨oc,od,kV,doc,pm,an,cdv,ct,osl,rfl,lk,hcd⟩:=F.ex
 exact a4o lk hcd S len λA outer s H vs Q E hr h=> hbody cdv A outer s H vs Q E hr h
def asl(P:aL)(w:aO)(K:am)(mg:Str -> Option ae)(base:Heap)(x:Str)(k:Nat)(sp:Sp):Prop:=
 ∃(f:Addr) (fd:f9) (ps:List Str),FnOk P w K mg base (CX1 P w) k f fd ps sp/\mg x=some (.ref f)/\fB K (.ref f)=true/\Binds K fd ps []
theorem Has.calX{x:Str}{k:Nat}{sp:Sp}(h:Has K mg x st ps)(S:FnScope N ps (je st))(len: ∀vs H Q E,sp vs H Q E -> vs.length=ps.length)(hbody: ∀(f:Addr) (cdv:ae) (A:aX) (outer:List Env) (s:ag) (H:Hp) (vs:List V) (Q:VK) (E:XK),Room k (A.deeper (envOfC x (je st) s.heap.objs.size f cdv)) -> sp vs H Q E ->
   ∃t,PSs (y4 (CX1 P w) P w K mg base N x (je st) f cdv A outer s H E) (ve st) t/\t {nx:=λ_ H'=> Q .non H',rt:=Q} (start N vs) H):asl P w K mg base x (k+1) sp:=by
 obtain⟨f,fd,F,m,b⟩:=h
 exact⟨f,fd,ps,F.okX S len (hbody f),m,F.kp,b⟩
section
variable{X:Cx}{x:Str}{k:Nat}{sp:Sp}{p pos:Pos}{e:Expr}{es:List Expr}{t:TA}{E:XE}
theorem a40(c:asl X.prog X.w X.K X.mg X.base x k sp)(hx:XOk X E)(hr:Room k X.A)(ha:PA X (e::es) t)(hg:Gl X x:=by rfl)(hdb:(x==("__debug__":Str))=false:=by decide)
  (he:starEach (e::es) X.env=(false,eval e X.env)::starEach es X.env:=by rfl) (hpl:(backTo pos (starEach es X.env)).any (·.1)=false:=by rfl):PE X (.Call (.Name x p) (e::es) [] pos) (avi sp [] E.sk t):=by
 obtain⟨f,fd,ps,F,m,kk,b⟩:=c
 exact az2 F hr hg m kk b .nil hx.pass ha hdb he hpl
end
end L2
namespace PF
open PySem PySem.Spec
open L2
structure Envs (K:am) (as:As) (H:Hp) (ρ:En) (σ:St):Prop where
 len:ρ.length=σ.length
 get: ∀(i:Nat) (d:D),ρ[i]?=some (some d) -> ∃v,σ[i]?=some (some v)/\RD K as H v d
theorem Envs.mono{as as':As}{ρ:En}(e:Envs K as H ρ σ)(st:Step as H as' H'):Envs K as' H' ρ σ:=⟨e.len,λi d h=> let ⟨v,a,b⟩:=e.get i d h;⟨v,a,b.mono st⟩⟩
theorem Envs.set{as:As}{ρ:En}(e:Envs K as H ρ σ)(i:Nat){d:D}(r:RD K as H v d):Envs K as H (ρ.set i (some d)) (σ.set i (some v)):=by
 refine⟨by simp [e.len],λj x h=> ?_⟩
 by_cases z:i=j
 ·subst z
  rw [List.getElem?_set]at h⊢
  by_cases hl:i < ρ.length
  ·simp [hl]at h
   subst h
   exact⟨v,by simp [←e.len,hl],r⟩
  ·simp [hl]at h
 ·rw [bL z]at h⊢
  exact e.get j x h
class XW where
 xk:XE
instance (priority:=low) XW.dft:XW:=⟨λ_ _ _=> False⟩
abbrev XW.of(E:XK):XW:=⟨λ_ p H=> E (.ref p) none H⟩
variable[XW]
def Dn{α β:Type}(K:am)(rel:As -> Hp -> β -> α -> Prop)(as:As)(H:Hp)(r:R α)(Q:β -> Hp -> Prop):Prop:=match r with
 |.ok a s=> ∀b as' H',Step as H as' H' -> Rel K as' H' s -> rel as' H' b a -> Q b H'
 |.bad=> False
 |.ex n ρ s=> ∀as' H' p σ,Step as H as' H' -> Rel K as' H' s -> Envs K as' H' ρ σ -> as'.ix[n]?=some (some p) -> XW.xk σ p H'
theorem Dn.step{α β:Type}{rel:As -> Hp -> β -> α -> Prop}{as as1:As}{H1:Hp}{r:R α}{Q:β -> Hp -> Prop}(h:Dn K rel as H r Q)(st:Step as H as1 H1):Dn K rel as1 H1 r Q:=by
 cases r with
 |ok a s=> exact λb as' H' s2 rl rb=> h b as' H' (st.trans s2) rl rb
 |bad=> exact h
 |ex n ρ s=> exact λas' H' p σ s2 rl en e=> h as' H' p σ (st.trans s2) rl en e
theorem Dn.bind{α β γ δ:Type}{r1:As -> Hp -> β -> α -> Prop}{r2:As -> Hp -> δ -> γ -> Prop}{as:As}{r:R α}{f:α -> S -> R γ}{Q:δ -> Hp -> Prop}{Q':β -> Hp -> Prop}(h:Dn K r2 as H (r.bind f) Q)(k: ∀a s as1 H1 b,Step as H as1 H1 -> Rel K as1 H1 s -> r1 as1 H1 b a -> Dn K r2 as1 H1 (f a s) Q -> Q' b H1):Dn K r1 as H r Q':=by
 cases r with
 |ok a s=> exact λb as' H' st rl rb=> k a s as' H' b st rl rb (Dn.step (r:=f a s) h st)
 |bad=> exact h
 |ex n ρ s=> exact h
theorem Dn.now{α β:Type}{rel:As -> Hp -> β -> α -> Prop}{as:As}{a:α}{s:S}{Q:β -> Hp -> Prop}{b:β}(h:Dn K rel as H (.ok a s) Q)(rl:Rel K as H s)(rb:rel as H b a):Q b H:=h b as H (Step.refl _ _) rl rb
theorem Dn.at{α β:Type}{rel:As -> Hp -> β -> α -> Prop}{as:As}{r:R α}{ρ:En}{Q:β -> Hp -> Prop}(h:Dn K rel as H (r.at ρ) Q)(en:Envs K as H ρ σ): @Dn (XW.of (XE.sk XW.xk σ)) α β K rel as H r Q:=by
 cases r with
 |ok a s=> exact h
 |bad=> exact h
 |ex n ρ' s=> exact λas' H' p σ' st rl _ e=> ⟨p,rfl,h as' H' p σ st rl (en.mono st) e⟩
theorem Dn.calm{α β:Type}{rel:As -> Hp -> β -> α -> Prop}{as:As}{r:R α}{Q:β -> Hp -> Prop}(h:Dn K rel as H r.calm Q): @Dn XW.dft α β K rel as H r Q:=by
 cases r with
 |ok a s=> exact h
 |bad=> exact h
 |ex n ρ' s=> exact h.elim
abbrev rD(K:am):As -> Hp -> V -> D -> Prop:=λas H v d=> RD K as H v d
abbrev rB:As -> Hp -> Bool -> Bool -> Prop:=λ_ _ b a=> b=a
abbrev rL(K:am):As -> Hp -> List V -> List D -> Prop:=λas H v d=> RDs K as H v d
inductive Fl where
 |nx (ρ:En)|rt (d:D)|bk (ρ:En)|ct (ρ:En)
inductive FV where
 |nx (σ:St)|rt (v:V)|bk (σ:St)|ct (σ:St)
inductive rF (K:am) (as:As) (H:Hp):FV -> Fl -> Prop
 |nx {σ:St} {ρ:En}:Envs K as H ρ σ -> rF K as H (.nx σ) (.nx ρ)
 |rt {v:V} {d:D}:RD K as H v d -> rF K as H (.rt v) (.rt d)
 |bk {σ:St} {ρ:En}:Envs K as H ρ σ -> rF K as H (.bk σ) (.bk ρ)
 |ct {σ:St} {ρ:En}:Envs K as H ρ σ -> rF K as H (.ct σ) (.ct ρ)
def v3(D:Ends)(f:FV)(H:Hp):Prop:=match f with
 |.nx σ=> D.nx σ H
 |.rt v=> D.rt v H
 |.bk σ=> D.bk σ H
 |.ct σ=> D.ct σ H
abbrev FE:=En -> S -> R D
abbrev FT:=En -> S -> R Bool
abbrev FA:=En -> S -> R (List D)
abbrev FS:=En -> S -> R Fl
def zu(K:am)(t:TE)(f:FE):Prop:= ∀as σ H ρ s Q,Rel K as H s -> Envs K as H ρ σ -> Dn K (rD K) as H (f ρ s) Q -> t σ H Q
def abb(K:am)(t:TT)(f:FT):Prop:= ∀as σ H ρ s Q,Rel K as H s -> Envs K as H ρ σ -> Dn K rB as H (f ρ s) Q -> t σ H Q
def a0f(K:am)(t:TA)(f:FA):Prop:= ∀as σ H ρ s Q,Rel K as H s -> Envs K as H ρ σ -> Dn K (rL K) as H (f ρ s) Q -> t σ H Q
def ahd(K:am)(t:TS)(f:FS):Prop:= ∀as σ H ρ s D,Rel K as H s -> Envs K as H ρ σ -> Dn K (rF K) as H (f ρ s) (v3 D) -> t D σ H
structure RE (X:Cx) (e:Expr) (f:FE):Prop where
 ex: ∃t,PE X e t/\zu X.K t f
structure RT (X:Cx) (e:Expr) (f:FT):Prop where
 ex: ∃t,PT X e t/\abb X.K t f
structure RW (X:Cx) (e:Expr) (f:FT):Prop where
 ex: ∃t,PW X e t/\abb X.K t f
structure RA (X:Cx) (es:List Expr) (f:FA):Prop where
 ex: ∃t,PA X es t/\a0f X.K t f
structure RS (X:Cx) (st:Stmt) (f:FS):Prop where
 ex: ∃t,PS X st t/\ahd X.K t f
structure RSs (X:Cx) (st:List Stmt) (f:FS):Prop where
 ex: ∃t,PSs X st t/\ahd X.K t f
section
variable{X:Cx}{a b:Expr}{fa fb:FE}{pos:Pos}
noncomputable def ja(i:Nat):FE:=λρ s=> match ρ[i]? with
 |some (some d)=>.ok d s
 |_=>.bad
noncomputable def fC(d:D):FE:=λ_ s=>.ok d s
theorem awe(i:Nat):zu K (au1 i) (ja i):=by
 intro as σ H ρ s Q rl en h
 unfold ja at h
 cases q:ρ[i]? with
 |none=> rw [q]at h;exact h.elim
 | some o=>
  cases o with
  |none=> rw [q]at h;exact h.elim
  |some d=>
   rw [q]at h
   obtain⟨v,e,r⟩:=en.get i d q
   exact⟨v,e,Dn.now h rl r⟩
theorem agg(i:Nat){x:Str}(hN:X.N[i]?=some x:=by rfl)(hv:Vis X.env.scope x:=by first|exact gJ rfl|exact gc (gJ rfl)|exact gc (gc rfl))(hd:(x==("__debug__":Str))=false:=by decide)(hcd:(x==("__classdict__":Str))=false:=by decide):RE X (.Name x pos) (ja i):=⟨_,ar9 hN hv hd hcd,awe i⟩
theorem ael{d:D}(r: ∀as H,RD K as H v d):zu K (tC v) (fC d):=λas σ H ρ s Q rl en h=> Dn.now (K:=K) (rel:=rD K) h rl (r as H)
theorem ajd{i j pos}:RE X (.Constant (.int i) j pos) (fC (.int i)):=⟨_,apx,ael λ_ _=>.da (.int i)⟩
theorem akd{x j pos}:RE X (.Constant (.str x) j pos) (fC (.str x)):=⟨_,as9,ael λ_ _=>.da (.str x)⟩
theorem a9n{b j pos}:RE X (.Constant (.bool b) j pos) (fC (.bl b)):=⟨_,aw1,ael λ_ _=>.da (.bl b)⟩
theorem a7z{j pos}:RE X (.Constant .none j pos) (fC .non):=⟨_,apf,ael λ_ _=>.da .non⟩
theorem awx{x:Str}{d:D}(r: ∀as H,RD X.K as H v d)(hm:X.mg x=some u)(rv:RelV v u)(hg:Gl X x:=by rfl)(hd:(x==("__debug__":Str))=false:=by decide):RE X (.Name x pos) (fC d):=⟨_,ay6 hg hm rv hd,ael r⟩
theorem agz{x:Str}{n:String}(hm:X.mg x=none)(hv:bG x=some (.type n))(hg:Gl X x:=by rfl)(hn:x≠"__name__":=by decide)(hd:(x==("__debug__":Str))=false:=by decide):RE X (.Name x pos) (fC (.ty n)):=
 ⟨_,ayu (v:=.ty n) hg hm hv rfl hn hd,ael λ_ _=>.ty n⟩
def fOp(g:D -> D -> S -> R D)(fa fb:FE):FE:=λρ s=> (fa ρ s).bind λx s1=> (fb ρ s1).bind λy s2=> g x y s2
def ahb(K:am)(r:R2)(g:D -> D -> S -> R D):Prop:= ∀as H s x y dx dy Q,Rel K as H s -> RD K as H x dx -> RD K as H y dy -> Dn K (rD K) as H (g dx dy s) Q -> r x y H Q
theorem ae4{r:R2}{g:D -> D -> S -> R D}(hr:ahb K r g)(ha:zu K ta fa)(hb:zu K tb fb):zu K (tOp r ta tb) (fOp g fa fb):=by
 intro as σ H ρ s Q rl en h
 refine ha as σ H ρ s _ rl en (Dn.bind h λd1 s1 as1 H1 x st1 rl1 r1 h1=> ?_)
 refine hb as1 σ H1 ρ s1 _ rl1 (en.mono st1) (Dn.bind h1 λd2 s2 as2 H2 y st2 rl2 r2 h2=> ?_)
 exact hr as2 H2 s2 x y d1 d2 Q rl2 (r1.mono st2) r2 h2
structure Op2 (X:Cx) (f:ae -> ae -> Sem ae) (g:D -> D -> S -> R D):Prop where
 ex: ∃r,OpR X f r/\ahb X.K r g
theorem a95{op:Operator}{g:D -> D -> S -> R D}(o:Op2 X (binaryOp op) g)(ha:RE X a fa)(hb:RE X b fb):RE X (.BinOp a op b pos) (fOp g fa fb):=by
 obtain⟨r,ho,hr⟩:=o.ex
 obtain⟨ta,pa,ra⟩:=ha.ex
 obtain⟨tb,pb,rb⟩:=hb.ex
 exact⟨_,a4t ho pa pb,ae4 hr ra rb⟩
theorem a8i{g:D -> D -> S -> R D}(o:Op2 X (aS op) g)(ha:RE X a fa)(hb:RE X b fb)(hm:fP op b=false:=by first|exact apv _|with_unfolding_all rfl):RE X (.Compare a [op] [b] pos) (fOp g fa fb):=by
 obtain⟨r,ho,hr⟩:=o.ex
 obtain⟨ta,pa,ra⟩:=ha.ex
 obtain⟨tb,pb,rb⟩:=hb.ex
 exact⟨_,azn ho pa pb hm,ae4 hr ra rb⟩
def jf(f:FE):FT:=λρ s=> (f ρ s).bind λd s1=> match d with
 |.bl k=>.ok k s1
 |_=>.bad
theorem au3{t:TE}{f:FE}(h:zu K t f):abb K (avz t) (jf f):=by
 intro as σ H ρ s Q rl en q
 refine h as σ H ρ s _ rl en (Dn.bind q λd1 s1 as1 H1 x st1 rl1 r1 h1=> ?_)
 cases r1 with
 |da t=>
  cases t with
  |bl k=> exact⟨k,rfl,Dn.now h1 rl1 rfl⟩
  |_=> exact h1.elim
 |_=> exact h1.elim
theorem a7f{g:D -> D -> S -> R D}(o:Op2 X (aS op) g)(ha:RE X a fa)(hb:RE X b fb)(hm:fP op b=false:=by first|exact apv _|with_unfolding_all rfl):RT X (.Compare a [op] [b] pos) (jf (fOp g fa fb)):=by
 obtain⟨r,ho,hr⟩:=o.ex
 obtain⟨ta,pa,ra⟩:=ha.ex
 obtain⟨tb,pb,rb⟩:=hb.ex
 exact⟨_,axa ho pa pb hm,au3 (ae4 hr ra rb)⟩
def agv(g g':D -> D -> S -> R D)(fa fb fc:FE):FE:=λρ s=> (fa ρ s).bind λx s1=> (fb ρ s1).bind λy s2=> (g x y s2).bind λz s3=> match z with
 |.bl true=> (fc ρ s3).bind λw s4=> g' y w s4
 |.bl false=>.ok (.bl false) s3
 |_=>.bad
theorem aqp{r r':R2}{g g':D -> D -> S -> R D}{tc:TE}{fc:FE}(hr:ahb K r g)(hr':ahb K r' g')(ha:zu K ta fa)(hb:zu K tb fb)(hc:zu K tc fc):zu K (aq9 r r' ta tb tc) (agv g g' fa fb fc):=by
 intro as σ H ρ s Q rl en h
 refine ha as σ H ρ s _ rl en (Dn.bind h λd1 s1 as1 H1 x st1 rl1 r1 h1=> ?_)
 refine hb as1 σ H1 ρ s1 _ rl1 (en.mono st1) (Dn.bind h1 λd2 s2 as2 H2 y st2 rl2 r2 h2=> ?_)
 refine hr as2 H2 s2 x y d1 d2 _ rl2 (r1.mono st2) r2 (Dn.bind h2 λd3 s3 as3 H3 z st3 rl3 r3 h3=> ?_)
 cases r3 with
 | da t=>
  cases t with
  | bl k=>
   cases k with
   |false=> exact⟨false,rfl,Dn.now h3 rl3 (.da (.bl false))⟩
   |true=>
    refine⟨true,rfl,?_⟩
    rw [if_pos rfl]
    refine hc as3 σ H3 ρ s3 _ rl3 (((en.mono st1).mono st2).mono st3) (Dn.bind h3 λd4 s4 as4 H4 w st4 rl4 r4 h4=> ?_)
    exact hr' as4 H4 s4 y w d2 d4 Q rl4 ((r2.mono st3).mono st4) r4 h4
  |_=> exact h3.elim
 |_=> exact h3.elim
theorem a5a{op':CmpOp}{g g':D -> D -> S -> R D}{fc:FE}(o:Op2 X (aS op) g)(o':Op2 X (aS op') g')(ha:RE X a fa)(hb:RE X b fb)(hc:RE X c fc)(hm:lastMarks [op,op'] [b,c]=false:=by with_unfolding_all rfl):RE X (.Compare a [op,op'] [b,c] pos) (agv g g' fa fb fc):=by
 obtain⟨r,ho,hr⟩:=o.ex
 obtain⟨r',ho',hr'⟩:=o'.ex
 obtain⟨ta,pa,ra⟩:=ha.ex
 obtain⟨tb,pb,rb⟩:=hb.ex
 obtain⟨tc,pc,rc⟩:=hc.ex
 exact⟨_,atw ho ho' pa pb pc hm,aqp hr hr' ra rb rc⟩
def vt(f g:FT):FT:=λρ s=> (f ρ s).bind λc s1=> if c=true then g ρ s1 else .ok false s1
def yc(f g:FT):FT:=λρ s=> (f ρ s).bind λc s1=> if c=true then .ok true s1 else g ρ s1
def xv(f:FT):FT:=λρ s=> (f ρ s).bind λc s1=>.ok (!c) s1
theorem axj{t u:TT}{f g:FT}(h1:abb K t f)(h2:abb K u g):abb K (a26 t u) (vt f g):=by
 intro as σ H ρ s Q rl en h
 refine h1 as σ H ρ s _ rl en (Dn.bind h λc s1 as1 H1 b st1 rl1 r1 q1=> ?_)
 have e1:b=c:=r1
 subst e1
 cases b with
 |true=> rw [if_pos rfl]at q1⊢;exact h2 as1 σ H1 ρ s1 Q rl1 (en.mono st1) q1
 |false=> rw [if_neg ax]at q1⊢;exact Dn.now q1 rl1 rfl
theorem a1g{t u:TT}{f g:FT}(h1:abb K t f)(h2:abb K u g):abb K (tOr t u) (yc f g):=by
 intro as σ H ρ s Q rl en h
 refine h1 as σ H ρ s _ rl en (Dn.bind h λc s1 as1 H1 b st1 rl1 r1 q1=> ?_)
 have e1:b=c:=r1
 subst e1
 cases b with
 |false=> rw [if_neg ax]at q1⊢;exact h2 as1 σ H1 ρ s1 Q rl1 (en.mono st1) q1
 |true=> rw [if_pos rfl]at q1⊢;exact Dn.now q1 rl1 rfl
theorem ax3{t:TT}{f:FT}(h1:abb K t f):abb K (a0t t) (xv f):=by
 intro as σ H ρ s Q rl en h
 refine h1 as σ H ρ s _ rl en (Dn.bind h λc s1 as1 H1 b st1 rl1 r1 q1=> ?_)
 have e1:b=c:=r1
 subst e1
 exact Dn.now q1 rl1 rfl
theorem RW.rt{f:FT}(h:RW X e f):RT X e f:=let ⟨t,p,r⟩:=h.ex;⟨t,p.pt,r⟩
theorem a6z{f:FT}(h:RT X a f):RW X (.BoolOp .And [a] pos) f:=let ⟨t,p,r⟩:=h.ex;⟨t,axi p,r⟩
theorem a7t{f:FT}(h:RT X a f):RW X (.BoolOp .Or [a] pos) f:=let ⟨t,p,r⟩:=h.ex;⟨t,a06 p,r⟩
theorem a8c{f g:FT}{jg:List Expr}(h:RT X a f)(k:RW X (.BoolOp .And (b::jg) pos) g):RW X (.BoolOp .And (a::b::jg) pos) (vt f g):=let ⟨t,p,r⟩:=h.ex;let ⟨t',p',r'⟩:=k.ex;⟨_,a2p p p',axj r r'⟩
theorem a9h{f g:FT}{jg:List Expr}(h:RT X a f)(k:RW X (.BoolOp .Or (b::jg) pos) g):RW X (.BoolOp .Or (a::b::jg) pos) (yc f g):=let ⟨t,p,r⟩:=h.ex;let ⟨t',p',r'⟩:=k.ex;⟨_,a3v p p',a1g r r'⟩
theorem a8b{f:FT}(h:RT X a f):RT X (.UnaryOp .Not a pos) (xv f):=let ⟨t,p,r⟩:=h.ex;⟨_,a0q p,ax3 r⟩
def adc(fa fb:FE):FE:=λρ s=> (fa ρ s).bind λd s1=> match d with
 |.bl true=> fb ρ s1
 |.bl false=>.ok (.bl false) s1
 |_=>.bad
def fOr(fa fb:FE):FE:=λρ s=> (fa ρ s).bind λd s1=> match d with
 |.bl false=> fb ρ s1
 |.bl true=>.ok (.bl true) s1
 |_=>.bad
def a1z(fa:FE):FE:=λρ s=> (fa ρ s).bind λd s1=> match d with
 |.bl k=>.ok (.bl (!k)) s1
 |_=>.bad
theorem a7m{op}(h:RE X a fa):RE X (.BoolOp op [a] pos) fa:=let ⟨t,p,r⟩:=h.ex;⟨_,a2j p,r⟩
theorem a8e{jg:List Expr}(h:RE X a fa)(k:RE X (.BoolOp .And (b::jg) pos) fb):RE X (.BoolOp .And (a::b::jg) pos) (adc fa fb):=by
 obtain⟨ta,pa,ra⟩:=h.ex
 obtain⟨tb,pb,rb⟩:=k.ex
 refine⟨_,a2h pa pb,λas σ H ρ s Q rl en h=> ?_⟩
 refine ra as σ H ρ s _ rl en (Dn.bind h λd1 s1 as1 H1 x st1 rl1 r1 h1=> ?_)
 cases r1 with
 | da t=>
  cases t with
  |bl k=>
   refine⟨k,rfl,?_⟩
   cases k with
   |false=> rw [if_neg ax];exact Dn.now h1 rl1 (.da (.bl false))
   |true=> rw [if_pos rfl];exact rb as1 σ H1 ρ s1 Q rl1 (en.mono st1) h1
  |_=> exact h1.elim
 |_=> exact h1.elim
theorem a9w{jg:List Expr}(h:RE X a fa)(k:RE X (.BoolOp .Or (b::jg) pos) fb):RE X (.BoolOp .Or (a::b::jg) pos) (fOr fa fb):=by
 obtain⟨ta,pa,ra⟩:=h.ex
 obtain⟨tb,pb,rb⟩:=k.ex
 refine⟨_,a34 pa pb,λas σ H ρ s Q rl en h=> ?_⟩
 refine ra as σ H ρ s _ rl en (Dn.bind h λd1 s1 as1 H1 x st1 rl1 r1 h1=> ?_)
 cases r1 with
 | da t=>
  cases t with
  |bl k=>
   refine⟨k,rfl,?_⟩
   cases k with
   |true=> rw [if_pos rfl];exact Dn.now h1 rl1 (.da (.bl true))
   |false=> rw [if_neg ax];exact rb as1 σ H1 ρ s1 Q rl1 (en.mono st1) h1
  |_=> exact h1.elim
 |_=> exact h1.elim
theorem a7n(h:RE X a fa):RE X (.UnaryOp .Not a pos) (a1z fa):=by
 obtain⟨ta,pa,ra⟩:=h.ex
 refine⟨_,a19 pa,λas σ H ρ s Q rl en h=> ?_⟩
 refine ra as σ H ρ s _ rl en (Dn.bind h λd1 s1 as1 H1 x st1 rl1 r1 h1=> ?_)
 cases r1 with
 |da t=>
  cases t with
  |bl k=> exact⟨k,rfl,Dn.now h1 rl1 (.da (.bl (!k)))⟩
  |_=> exact h1.elim
 |_=> exact h1.elim
def fIf(c:FT)(fa fb:FE):FE:=λρ s=> (c ρ s).bind λk s1=> if k=true then fa ρ s1 else fb ρ s1
theorem a9r{fc:FT}(hc:RT X c fc)(ha:RE X a fa)(hb:RE X b fb):RE X (.IfExp c a b pos) (fIf fc fa fb):=by
 obtain⟨tc,pc,rc⟩:=hc.ex
 obtain⟨ta,pa,ra⟩:=ha.ex
 obtain⟨tb,pb,rb⟩:=hb.ex
 refine⟨_,ave pc pa pb,λas σ H ρ s Q rl en h=> ?_⟩
 refine rc as σ H ρ s _ rl en (Dn.bind h λd1 s1 as1 H1 x st1 rl1 r1 h1=> ?_)
 have e1:x=d1:=r1
 subst e1
 cases x with
 |true=> rw [if_pos rfl]at h1⊢;exact ra as1 σ H1 ρ s1 Q rl1 (en.mono st1) h1
 |false=> rw [if_neg ax]at h1⊢;exact rb as1 σ H1 ρ s1 Q rl1 (en.mono st1) h1
noncomputable def jc:FA:=λ_ s=>.ok [] s
def jb(f:FE)(g:FA):FA:=λρ s=> (f ρ s).bind λx s1=> (g ρ s1).bind λxs s2=>.ok (x::xs) s2
noncomputable def fVs(ds:List D):FA:=λ_ s=>.ok ds s
theorem azy:RA X [] jc:=⟨_,aei,λas σ H ρ s Q rl en h=> Dn.now h rl .nil⟩
theorem ah1{f:FE}{g:FA}(h:RE X e f)(k:RA X es g)(hs:starEach (e::es) X.env=(false,eval e X.env)::starEach es X.env:=by rfl):RA X (e::es) (jb f g):=by
 obtain⟨t,p,r⟩:=h.ex
 obtain⟨t',p',r'⟩:=k.ex
 refine⟨_,acd p p' hs,λas σ H ρ s Q rl en h=> ?_⟩
 refine r as σ H ρ s _ rl en (Dn.bind h λd1 s1 as1 H1 x st1 rl1 r1 h1=> ?_)
 refine r' as1 σ H1 ρ s1 _ rl1 (en.mono st1) (Dn.bind h1 λd2 s2 as2 H2 xs st2 rl2 r2 h2=> ?_)
 exact Dn.now h2 rl2 (.cons (r1.mono st2) r2)
noncomputable def ann:Const -> Option ac
 |.str x=> some (.str x)
 |.int i=> some (.int i)
 |.bool b=> some (.bool b)
 |.none=> some .none
 |_=> none
def aek:List Expr -> Option (List ac)
 |[]=> some []
 | .Constant c _ _::r=> match ann c with
  |some v=> match aek r with
   |some vs=> some (v::vs)
   |none=> none
  |none=> none
 |_=> none
noncomputable def pV:ac -> V
 |.none=>.non
 |.bool b=>.bl b
 |.int i=>.int i
 |.str x=>.str x
 |_=>.non
theorem azu{c:Const}{d:ac}(h:ann c=some d):ajj c=some (pV d)/\ ∀as H,TD as H (pV d) d:=by
 cases c <;> simp [ann]at h <;> subst h
 all_goals first
  |exact⟨rfl,λ_ _=>.str _⟩
  |exact⟨rfl,λ_ _=>.int _⟩
  |exact⟨rfl,λ_ _=>.bl _⟩
  |exact⟨rfl,λ_ _=>.non⟩
theorem ami: ∀{es:List Expr} {ds:List ac},aek es=some ds -> ad8 es=some (ds.map pV)/\ ∀as H,TDs as H (ds.map pV) ds
 |[],ds,h=> by cases h;exact⟨rfl,λ_ _=>.nil⟩
 | e ::es,ds,h=> by
  cases e with
  | Constant c j pos=>
   simp only [aek]at h
   cases h1:ann c with
   |none=> (rw [h1]at h;cases h)
   | some v=>
    rw [h1]at h
    cases h2:aek es with
    |none=> rw [h2]at h;cases h
    |some ws=>
     rw [h2]at h
     cases h
     obtain⟨a1,a2⟩:=azu h1
     obtain⟨b1,b2⟩:=ami h2
     exact⟨by simp only [ad8,a1,b1,aK],λas H=>.cons (a2 as H) (b2 as H)⟩
  |_=> simp [aek]at h
theorem arp{ds:List ac}(h:aek es=some ds):RA X es (fVs (ds.map D.da)):=by
 obtain⟨a,b⟩:=ami h
 exact⟨_,aip a,λas σ H ρ s Q rl en h=> Dn.now h rl (b as H).rd⟩
def kh(m:Bool)(ds:List D)(s:S):R D:=if m=true then .ok (.ref s.length) (s++ [.lst ds]) else match j3 ds with
 |some xs=>.ok (.lst xs) s
 |none=>.bad
def ah5(ds:List D)(s:S):R D:=match j3 ds with
 |some xs=>.ok (.tup xs) s
 |none=>.bad
theorem zb{as:As}{s:S}{m:Bool}{ds:List D}{Q:VK}(h:Dn K (rD K) as H (kh m ds s) Q)(rl:Rel K as H s)(r:RDs K as H xs ds)(n:New H p (.lst xs) H'):Q (.ref p) H':=by
 unfold kh at h
 cases m with
 |true=>
  rw [if_pos rfl]at h
  refine h (.ref p) (as.add p) H' (zc n) (rl.laid n ⟨xs,n.at,r.mono (zc n)⟩) (.ref (by simp [rl.len]) λq e=> ?_)
  rw [←rl.len]at e
  simp at e
  exact e.symm
 | false=>
  rw [if_neg ax]at h
  cases q:j3 ds with
  |none=> rw [q]at h;exact h.elim
  |some ys=>
   rw [q]at h
   have e:=ye q
   subst e
   exact h (.ref p) as H' (ju n) (rl.new n) (.da (.lst (λz=> rl.has z n.no) n.at (r.td.mono (ju n))))
theorem am1{as:As}{s:S}{ds:List D}{Q:VK}(h:Dn K (rD K) as H (ah5 ds s) Q)(rl:Rel K as H s)(r:RDs K as H xs ds)(n:New H p (.tup xs) H'):Q (.ref p) H':=by
 unfold ah5 at h
 cases q:j3 ds with
 |none=> rw [q]at h;exact h.elim
 |some ys=>
  rw [q]at h
  have e:=ye q
  subst e
  exact h (.ref p) as H' (ju n) (rl.new n) (.da (.tup (λz=> rl.has z n.no) n.at (r.td.mono (ju n))))
def qr(m:Bool)(f:FA):FE:=λρ s=> (f ρ s).bind λds s1=> if ds.length <=sizeLine then kh m ds s1 else .bad
def vb(f:FA):FE:=λρ s=> (f ρ s).bind λds s1=> if ds.length <=sizeLine then ah5 ds s1 else .bad
theorem a8v{f:FA}(m:Bool)(h:RA X es f):RE X (.List es pos) (qr m f):=by
 obtain⟨t,p,r⟩:=h.ex
 refine⟨_,aws p,λas σ H ρ s Q rl en h=> ?_⟩
 refine r as σ H ρ s _ rl en (Dn.bind h λds s1 as1 H1 xs st1 rl1 r1 h1=> ?_)
 split at h1
 ·rename_i hz
  exact⟨by rw [r1.length];exact hz,λp H' n=> zb h1 rl1 r1 n⟩
 ·exact h1.elim
theorem a8t{f:FA}{x1:Nat}(h:RA X es f):RE X (.Tuple es x1 pos) (vb f):=by
 obtain⟨t,p,r⟩:=h.ex
 refine⟨_,axh p,λas σ H ρ s Q rl en h=> ?_⟩
 refine r as σ H ρ s _ rl en (Dn.bind h λds s1 as1 H1 xs st1 rl1 r1 h1=> ?_)
 split at h1
 ·rename_i hz
  exact⟨by rw [r1.length];exact hz,λp H' n=> am1 h1 rl1 r1 n⟩
 ·exact h1.elim
end
end PF
namespace L2
open PySem PySem.Spec PyProof.Rows
theorem aia{it t:Addr}{items:Array ae}(hne:t≠it): ∀(n i:Nat) (s:ag) (Q:List ae -> ag -> Prop),s.heap.IsListIter it t i -> s.heap.IsList t items -> i+n <=items.size ->
  (∀h',h'.IsListIter it t (i+n) -> bu it s.heap h' -> Q ((items.toList.drop i).take n) {s with heap:=h'}) -> wpAny (model prog w) A (draw (.ref it) n) Q E s
 |0,i,s,Q,hit,_,_,hQ=> by --
  show wpAny _ _ (pure []) Q E s --
  (exact af (by simpa using hQ s.heap hit (iX ..)))
 | n+1,i,s,Q,hit,ht,hle,hQ=> by --
  (have hlt:i < items.size:=by lia)
  show wpAny _ _ (pyNext (.ref it)>>=_) Q E s --
  refine aa (kD hit ht (x:=items[i]) (by simp [hlt]) λh₁ hit₁ hs₁=> ?_)
  have ht₁:h₁.IsList t items:=by
   obtain⟨o,ho,c⟩:=ht
   exact⟨o,hs₁.extBut t o hne ho,c⟩
  refine aa (a9 (aia hne n (i+1) _ _ hit₁ ht₁ (by lia) λh₂ hit₂ hs₂=> af ?_))
  (have hd:items.toList.drop i=items[i]::items.toList.drop (i+1):=by simp [eC,hlt])
  (have:=hQ h₂ (by rw [show i+(n+1)=i+1+n by lia];exact hit₂) (hs₁.trans hs₂))
  (rw [hd,List.take_succ_cons]at this)
  exact this
theorem afj{t:Addr}{Q:List ae -> ag -> Prop}(hh:A.handled=none)(ht:s.heap.IsList t items)(hQ: ∀h',fq s.heap.objs.size s.heap h' -> Q items.toList {s with heap:=h'}):wpAny (model prog w) A (unpackItems (.ref t) items.size none) Q E s:=by
 (have hlt:t≠s.heap.objs.size:=by obtain⟨o,ho,_⟩:=ht;exact aJ (az ho))
 have up: ∀h':Heap,fq s.heap.objs.size s.heap h' -> h'.IsList t items:=λh' x=> by
  obtain⟨o,ho,c⟩:=ht
  exact⟨o,x t o hlt ho,c⟩
 unfold unpackItems
 refine aa ?_
 unfold notIterableAtAll
 refine aa (dj ht.typeIs slot_list_iter.lookup ?_)
 refine af ?_
 (simp only [aY,if_false])
 refine aa (a9 (d7 ht ?_))
 refine aa (a9 (aia hlt items.size 0 _ _ ⟨_,ay _ rfl,rfl,rfl⟩ (up _ λb o hb e=> aj _ e) (by lia) λh₁ hit₁ hs₁=> ?_))
 have hall:List.take items.size (List.drop 0 items.toList)=items.toList:=by --
  (rw [lh];exact fw (by simp))
 rw [hall]
 rw [if_neg (by simp)]
 have x₁:fq s.heap.objs.size s.heap h₁:=λb o hb e=> hs₁.extBut b o hb (aj _ e)
 refine aa (a9 (kS hh (by simpa using hit₁) (up _ x₁) (by simp) λh₂ he₂=> ?_))
 (simp only [Option.isSome_none,aY,if_false])
 refine af (hQ h₂ λb o hb e=> he₂ b o hb (x₁ b o hb e))
theorem af1{elts:List Expr}{x1}{t:Addr}{Q:Unit -> ag -> Prop}(hh:A.handled=none)(ht:s.heap.IsList t items)(hn:(bE elts env).length=items.size)(hstar:(bE elts env).findIdx? (·.1)=none) --
  (h: ∀h',fq s.heap.objs.size s.heap h' -> wpAny (model prog w) A (assignInOrder ((bE elts env).map (·.2)) items.toList) Q E {s with heap:=h'}):
  wpAny (model prog w) A (assign (.Tuple elts x1 pos) env (.ref t)) Q E s:=by --
 rw [assign_Tuple]
 refine aa (eU ?_)
 unfold unpack
 rw [hn,hstar]
 exact aa (a9 (afj hh ht h))
noncomputable def aja(K:am)(n:Nat)(t:TGs):TG:=λv σ H Q=> ∃a xs,v=.ref a/\(SqT K H a xs\/SqL K H a xs)/\xs.length=n/\t xs σ H Q
theorem amt{k:Nat}{t:TGs}(hc:X.calm=true)(h:PGs X es t)(hn:(bE es X.env).length=n:=by rfl)(hst:(bE es X.env).findIdx? (·.1)=none:=by rfl):PG X (.Tuple es k pos) (aja X.K n t):=by
 intro pins s σ H v u Q I r hw
 obtain⟨a,xs,e1,hq,hl,hw⟩:=hw
 rcases hq with hq|hq
 ·exact a0z hc h hn hst pins s σ H v u Q I r ⟨a,xs,e1,hq,hl,hw⟩
 ·subst e1
  cases r
  obtain⟨its,rv,⟨o,m,ho,hcl,_,hd⟩,hz⟩:=I.list hq
  refine af1 (I.ok.hd hc) ⟨o,ho,hcl,m,hd⟩ (by simp [hn,←hl,rv.length]) hst λh' hx=> ?_
  have I1:Inv X pins σ H {s with heap:=h'}:=I.kept (t':=s.toks) λb o e=> hx b o (aJ (az e)) e
  exact h pins _ σ H xs _ Q I1 (by simpa using rv) hw
end L2
namespace PF
open PySem PySem.Spec
open L2
variable[XW]
noncomputable def tOf(K:am)(f:FE):TE:=λσ H Q=> ∃as ρ s,Rel K as H s/\Envs K as H ρ σ/\Dn K (rD K) as H (f ρ s) Q
noncomputable def adp(K:am)(f:FT):TT:=λσ H Q=> ∃as ρ s,Rel K as H s/\Envs K as H ρ σ/\Dn K rB as H (f ρ s) Q
noncomputable def a21(K:am)(f:FS):TS:=λD σ H=> ∃as ρ s,Rel K as H s/\Envs K as H ρ σ/\Dn K (rF K) as H (f ρ s) (v3 D)
theorem RE.pe{X:Cx}{e:Expr}{f:FE}(h:RE X e f):PE X e (tOf X.K f):=by
 obtain⟨t,p,r⟩:=h.ex
 exact p.weak λσ H Q ⟨as,ρ,s,a,b,c⟩=> r as σ H ρ s Q a b c
theorem RT.pt{f:FT}(h:RT X e f):PT X e (adp X.K f):=by
 obtain⟨t,p,r⟩:=h.ex
 exact⟨λpins s σ H Q I ⟨as,ρ,s',a,b,c⟩=> p pins s σ H Q I (r as σ H ρ s' Q a b c)⟩
inductive Tg where
 |nm (i:Nat)|t2 (a b:Tg)|t3 (a b c:Tg)|tn (is:List Nat)
def gNs:List Nat -> TGs
 |[]=> ap7
 |i::r=> ada (aj3 i) (gNs r)
def gOf(K:am):Tg -> TG
 |.nm i=> aj3 i
 |.t2 a b=> aja K 2 (ada (gOf K a) (ada (gOf K b) ap7))
 |.t3 a b c=> aja K 3 (ada (gOf K a) (ada (gOf K b) (ada (gOf K c) ap7)))
 |.tn is=> aja K is.length (gNs is)
noncomputable def anf:D -> Option (List D)
 |.tup ds=> some (ds.map D.da)
 |.lst ds=> some (ds.map D.da)
 |.con ds=> some (ds.map D.da)
 |_=> none
noncomputable def aua:List Nat -> List D -> En -> Option En
 |[],[],ρ=> some ρ
 |i::r,d::ds,ρ=> aua r ds (ρ.set i (some d))
 |_,_,_=> none
def j6:Tg -> D -> En -> Option En
 |.nm i,d,ρ=> some (ρ.set i (some d))
 | .t2 a b,d,ρ=> match anf d with
  |some [x,y]=> match j6 a x ρ with
   |some ρ1=> j6 b y ρ1
   |none=> none
  |_=> none
 | .t3 a b c,d,ρ=> match anf d with
  | some [x,y,z]=> match j6 a x ρ with
   |some ρ1=> match j6 b y ρ1 with
    |some ρ2=> j6 c z ρ2
    |none=> none
   |none=> none
  |_=> none
 |.tn is,d,ρ=> match anf d with
  |some xs=> aua is xs ρ
  |none=> none
noncomputable def yy(k:Nat):Tg -> Bool
 |.nm i=> decide (i < k)
 |.t2 a b=> yy k a&&yy k b
 |.t3 a b c=> yy k a&&yy k b&&yy k c
 |.tn is=> is.all λi=> decide (i < k)
def Fra(k:Nat)(σ σ':St):Prop:= ∀vs cap:St,vs.length=k -> σ=vs++cap -> ∃vs':St,vs'.length=k/\σ'=vs'++cap
theorem Fra.refl(k:Nat)(σ:St):Fra k σ σ:=λvs cap h e=> ⟨vs,h,e⟩
theorem Fra.trans{k:Nat}{a b c:St}(h1:Fra k a b)(h2:Fra k b c):Fra k a c:=λvs cap h e=> by
 obtain⟨v1,l1,e1⟩:=h1 vs cap h e
 exact h2 v1 cap l1 e1
theorem ahl{as:As}{d:D}{ds:List D}(r:RD K as H v d)(h:anf d=some ds): ∃p xs,v=.ref p/\(SqT K H p xs\/SqL K H p xs)/\RDs K as H xs ds:=by
 cases r with
 |da t=>
  cases t with
  |tup n e r=> cases h;exact⟨_,_,rfl,.inl (SqT.of e),r.rd⟩
  |lst n e r=> cases h;exact⟨_,_,rfl,.inr (SqL.of e),r.rd⟩
  |_=> cases h
 |con q r=> cases h;exact⟨_,_,rfl,.inl (q H),r.rd⟩
 |_=> cases h
theorem aru{K:am}{as:As}{H:Hp}{ρ':En}{Q:St -> Hp -> Prop}: ∀(is:List Nat) {xs:List V} {ds:List D} {σ:St} {ρ:En},Envs K as H ρ σ -> RDs K as H xs ds -> aua is ds ρ=some ρ' ->
  (∀σ',Envs K as H ρ' σ' -> (∀k,(is.all λi=> decide (i < k))=true -> Fra k σ σ') -> Q σ' H) -> xs.length=is.length/\gNs is xs σ H Q
 |[],_,_,σ,ρ,en,rs,e,h=> by
  cases rs with
  |nil=> cases e;exact⟨rfl,rfl,h σ en λk _=> Fra.refl k σ⟩
  |cons _ _=> cases e
 | i::r,_,_,σ,ρ,en,rs,e,h=> by
  cases rs with
  |nil=> cases e
  | @cons v _ d _ r1 rs=>
   obtain⟨hl,hg⟩:=aru r (en.set i r1) rs e (Q:=Q) λσ' en' f=> h σ' en' λk hk=> by
    rw [eQ,aD]at hk
    refine Fra.trans (λvs cap hl z=> ?_) (f k hk.2)
    have hi:i < k:=of_decide_eq_true hk.1
    subst z
    exact⟨vs.set i (some v),by simpa using hl,by rw [lL _ _ (by lia)]⟩
   exact⟨by rw [aG,aG,hl],_,_,rfl,hg⟩
theorem zi{K:am}: ∀(tg:Tg) {as:As} {σ:St} {H:Hp} {ρ ρ':En} {v:V} {d:D} {Q:St -> Hp -> Prop},Envs K as H ρ σ -> RD K as H v d -> j6 tg d ρ=some ρ' ->
  (∀σ',Envs K as H ρ' σ' -> (∀k,yy k tg=true -> Fra k σ σ') -> Q σ' H) -> gOf K tg v σ H Q
 |.nm i,as,σ,H,ρ,ρ',v,d,Q,en,r,e,h=> by
  cases e
  refine h (σ.set i (some v)) (en.set i r) λk hk vs cap hl z=> ?_
  have hi:i < k:=of_decide_eq_true hk
  subst z
  exact⟨vs.set i (some v),by simpa using hl,by rw [lL _ _ (by lia)]⟩
 | .t2 a b,as,σ,H,ρ,ρ',v,d,Q,en,r,e,h=> by
  unfold j6 at e
  split at e
  ·rename_i x y q
   obtain⟨p,xs,rfl,sq,rs⟩:=ahl r q
   cases rs with
   |cons r1 rs=>
   cases rs with
   |cons r2 rs=>
   cases rs
   split at e
   ·rename_i ρ1 q1
    refine⟨p,_,rfl,sq,rfl,_,_,rfl,zi a en r1 q1 λσ1 en1 f1=> ⟨_,_,rfl,zi b en1 r2 e λσ2 en2 f2=> ⟨rfl,h σ2 en2 λk hk=> ?_⟩⟩⟩
    simp only [yy,aD]at hk
    exact (f1 k hk.1).trans (f2 k hk.2)
   ·cases e
  ·cases e
 | .t3 a b c,as,σ,H,ρ,ρ',v,d,Q,en,r,e,h=> by
  unfold j6 at e
  split at e
  ·rename_i x y z q
   obtain⟨p,xs,rfl,sq,rs⟩:=ahl r q
   cases rs with
   |cons r1 rs=>
   cases rs with
   |cons r2 rs=>
   cases rs with
   |cons r3 rs=>
   cases rs
   split at e
   ·rename_i ρ1 q1
    split at e
    ·rename_i ρ2 q2
     refine⟨p,_,rfl,sq,rfl,_,_,rfl,zi a en r1 q1 λσ1 en1 f1=> ⟨_,_,rfl,zi b en1 r2 q2 λσ2 en2 f2=> ⟨_,_,rfl,zi c en2 r3 e λσ3 en3 f3=> ⟨rfl,h σ3 en3 λk hk=> ?_⟩⟩⟩⟩
     simp only [yy,aD]at hk
     exact ((f1 k hk.1.1).trans (f2 k hk.1.2)).trans (f3 k hk.2)
    ·cases e
   ·cases e
  ·cases e
 | .tn is,as,σ,H,ρ,ρ',v,d,Q,en,r,e,h=> by
  unfold j6 at e
  split at e
  ·rename_i ys q
   obtain⟨p,xs,rfl,sq,rs⟩:=ahl r q
   obtain⟨hl,hg⟩:=aru is en rs e (Q:=Q) h
   exact⟨p,xs,rfl,sq,hl,hg⟩
  ·cases e
abbrev Wk:=List D×Option (Nat×O)
abbrev FI:=En -> S -> R Wk
def qw(p:Wk)(s:S):Prop:=match p.2 with
 |none=> True
 |some q=> s[q.1]?=some q.2
open Classical in
noncomputable def chk{α:Type}(p:Wk)(s:S)(k:R α):R α:=if qw p s then k else .bad
theorem xc{α:Type}{ds:List D}{s:S}{k:R α}:chk (ds,none) s k=k:=if_pos trivial
theorem aez{α:Type}{p:Wk}{s:S}{k:R α}(h:qw p s):chk p s k=k:=if_pos h
theorem Dn.chk{α β:Type}{rel:As -> Hp -> β -> α -> Prop}{as:As}{p:Wk}{s:S}{r:R α}{Q:β -> Hp -> Prop}(h:Dn K rel as H (chk p s r) Q):qw p s/\Dn K rel as H r Q:=by
 by_cases c:qw p s
 ·rw [aez c]at h;exact⟨c,h⟩
 ·have e:PF.chk p s r=.bad:=if_neg c
  rw [e]at h;exact h.elim
def aeh(K:am)(as:As)(H:Hp)(J:It)(p:Wk):Prop:= ∀as2 H2 s2,Step0 as H as2 H2 -> Rel K as2 H2 s2 -> qw p s2 -> ∀i:Nat,
 (p.1.length <=i -> J.stop i H2)/\ ∀d,p.1[i]?=some d -> J.go i H2/\ ∀x H3,J.yld i H2 x H3 -> Step as2 H2 as2 H3/\Rel K as2 H3 s2/\RD K as2 H3 x d
def asy(K:am)(wi:TI)(f:FI):Prop:= ∀as σ H ρ s Q,Rel K as H s -> Envs K as H ρ σ -> Dn K (aeh K) as H (f ρ s) Q -> wi σ H Q
structure RI (X:Cx) (tg iter:Expr) (f:FI):Prop where
 ex: ∃t,PI X tg iter t/\asy X.K t f
structure RG (X:Cx) (tg:Expr) (g:Tg):Prop where
 pg:PG X tg (gOf X.K g)
section
variable{X:Cx}{a b:Expr}{fa fb:FE}{pos:Pos}
theorem a6f{x:Str}(hN:X.N.Nodup)(hi:X.N[i]?=some x)(hx:Loc X.env.scope x)(hf:X.fn x=true\/X.env.scope.names.lookup x=some .local:=by first|exact .inl rfl|exact .inr rfl|assumption):RG X (.Name x pos) (.nm i):=⟨axc hN hi hx hf⟩
theorem a4e{e1 e2:Expr}{g1 g2:Tg}{k:Nat}(hc:X.calm=true)(h1:RG X e1 g1)(h2:RG X e2 g2)(hn:(bE [e1,e2] X.env).length=2:=by rfl)(hst:(bE [e1,e2] X.env).findIdx? (·.1)=none:=by rfl)
  (s1:(bE [e1,e2] X.env).map (·.2)=assign e1 X.env::(bE [e2] X.env).map (·.2):=by rfl) (s2:(bE [e2] X.env).map (·.2)=assign e2 X.env::(bE [] X.env).map (·.2):=by rfl):RG X (.Tuple [e1,e2] k pos) (.t2 g1 g2):=
 ⟨amt hc (aba h1.pg (aba h2.pg amd s2) s1) hn hst⟩
theorem a43{e1 e2 e3:Expr}{g1 g2 g3:Tg}{k:Nat}(hc:X.calm=true)(h1:RG X e1 g1)(h2:RG X e2 g2)(h3:RG X e3 g3)(hn:(bE [e1,e2,e3] X.env).length=3:=by rfl)(hst:(bE [e1,e2,e3] X.env).findIdx? (·.1)=none:=by rfl)
  (s1:(bE [e1,e2,e3] X.env).map (·.2)=assign e1 X.env::(bE [e2,e3] X.env).map (·.2):=by rfl) (s2:(bE [e2,e3] X.env).map (·.2)=assign e2 X.env::(bE [e3] X.env).map (·.2):=by rfl) (s3:(bE [e3] X.env).map (·.2)=assign e3 X.env::(bE [] X.env).map (·.2):=by rfl):RG X (.Tuple [e1,e2,e3] k pos) (.t3 g1 g2 g3):=
 ⟨amt hc (aba h1.pg (aba h2.pg (aba h3.pg amd s3) s2) s1) hn hst⟩
def jt(f:FE):FS:=λρ s=> (f ρ s).bind λd s1=>.ok (.rt d) s1
def zk(f:FE):FS:=λρ s=> (f ρ s).bind λ_ s1=>.ok (.nx ρ) s1
noncomputable def jp:FS:=λρ s=>.ok (.nx ρ) s
def jj(i:Nat)(f:FE):FS:=λρ s=> (f ρ s).bind λd s1=>.ok (.nx (ρ.set i (some d))) s1
def av4(g:Tg)(f:FE):FS:=λρ s=> (f ρ s).bind λd s1=> match j6 g d ρ with
 |some ρ1=>.ok (.nx ρ1) s1
 |none=>.bad
def jy(c:FT)(f g:FS):FS:=λρ s=> (c ρ s).bind λk s1=> if k=true then f ρ s1 else g ρ s1
def jd(f g:FS):FS:=λρ s=> (f ρ s).bind λfl s1=> match fl with
 |.nx ρ1=> g ρ1 s1
 |fl=>.ok fl s1
theorem a2a(h:RE X a fa):RS X (.Return (some a) pos) (jt fa):=by
 obtain⟨t,p,r⟩:=h.ex
 refine⟨_,a0o p,λas σ H ρ s D rl en h=> ?_⟩
 exact r as σ H ρ s _ rl en (Dn.bind h λd s1 as1 H1 v st1 rl1 r1 h1=> Dn.now (b:=FV.rt v) h1 rl1 (.rt r1))
theorem a6x(h:RE X a fa)(hs:f8 a none pos.line X.env=pure false:=by rfl):RS X (.Expr a pos) (zk fa):=by
 obtain⟨t,p,r⟩:=h.ex
 refine⟨_,axv p hs,λas σ H ρ s D rl en h=> ?_⟩
 exact r as σ H ρ s _ rl en (Dn.bind h λd s1 as1 H1 v st1 rl1 r1 h1=> Dn.now (b:=FV.nx σ) h1 rl1 (.nx (en.mono st1)))
theorem a2v{x:Str}{pos':Pos}(hN:X.N.Nodup)(hi:X.N[i]?=some x)(hx:Loc X.env.scope x)(h:RE X a fa)(hs:f8 a (some (.Name x pos')) pos.line X.env=pure false:=by rfl)(hf:X.fn x=true\/X.env.scope.names.lookup x=some .local:=by first|exact .inl rfl|exact .inr rfl|assumption):RS X (.Assign [.Name x pos'] a pos) (jj i fa):=by
 obtain⟨t,p,r⟩:=h.ex
 refine⟨_,azx hN hi hx p hs hf,λas σ H ρ s D rl en h=> ?_⟩
 exact r as σ H ρ s _ rl en (Dn.bind h λd s1 as1 H1 v st1 rl1 r1 h1=> Dn.now (b:=FV.nx (σ.set i (some v))) h1 rl1 (.nx ((en.mono st1).set i r1)))
theorem a8p{g:Tg}(h:RE X a fa)(hg:RG X tg g)(hs:lR [tg] a pos.line X.env=pure false:=by rfl)(hw:lS [tg] a X.env=pure none:=by rfl)(h1:(bE [tg] X.env).map (·.2)=[assign tg X.env]:=by rfl):RS X (.Assign [tg] a pos) (av4 g fa):=by
 obtain⟨t,p,r⟩:=h.ex
 refine⟨_,aqd p hg.pg hs hw h1,λas σ H ρ s D rl en h=> ?_⟩
 refine r as σ H ρ s _ rl en (Dn.bind h λd s1 as1 H1 v st1 rl1 r1 h1=> ?_)
 split at h1
 ·rename_i ρ1 q
  exact zi g (en.mono st1) r1 q λσ' en' _=> Dn.now (b:=FV.nx σ') h1 rl1 (.nx en')
 ·exact h1.elim
theorem a9b{st su:List Stmt}{fc:FT}{f g:FS}(hc:RT X c fc)(h1:RSs X st f)(h2:RSs X su g):RS X (.If c st su pos) (jy fc f g):=by
 obtain⟨tc,pc,rc⟩:=hc.ex
 obtain⟨t,p,r⟩:=h1.ex
 obtain⟨t',p',r'⟩:=h2.ex
 refine⟨_,a47 pc p p',λas σ H ρ s D rl en h=> ?_⟩
 refine rc as σ H ρ s _ rl en (Dn.bind h λk s1 as1 H1 x st1 rl1 r1 h1=> ?_)
 have e1:x=k:=r1
 subst e1
 cases x with
 |true=> rw [if_pos rfl]at h1⊢;exact r as1 σ H1 ρ s1 D rl1 (en.mono st1) h1
 |false=> rw [if_neg ax]at h1⊢;exact r' as1 σ H1 ρ s1 D rl1 (en.mono st1) h1
theorem a75:RSs X [] jp:=⟨_,azm,λas σ H ρ s D rl en h=> Dn.now (b:=FV.nx σ) h rl (.nx en)⟩
theorem an0{f:FS}(h:RS X st f):RSs X [st] f:=let ⟨t,p,r⟩:=h.ex;⟨_,ax2 p,r⟩
theorem ayf{t u:TS}{f g:FS}(h1:ahd K t f)(h2:ahd K u g):ahd K (a1b t u) (jd f g):=by
 intro as σ H ρ s D rl en h
 refine h1 as σ H ρ s _ rl en (Dn.bind h λfl s1 as1 H1 fv st1 rl1 r1 h1=> ?_)
 cases r1 with
 |nx e=> exact h2 as1 _ H1 _ s1 D rl1 e h1
 |rt e=> exact (show v3 D (.rt _) H1 from Dn.now (K:=K) (rel:=rF K) (Q:=v3 D) (b:=FV.rt _) h1 rl1 (rF.rt e))
 |bk e=> exact (show v3 D (.bk _) H1 from Dn.now (K:=K) (rel:=rF K) (Q:=v3 D) (b:=FV.bk _) h1 rl1 (rF.bk e))
 |ct e=> exact (show v3 D (.ct _) H1 from Dn.now (K:=K) (rel:=rF K) (Q:=v3 D) (b:=FV.ct _) h1 rl1 (rF.ct e))
theorem a5x{jg:List Stmt}{f g:FS}(h:RS X st f)(k:RSs X jg g):RSs X (st::jg) (jd f g):=by
 obtain⟨t,p,r⟩:=h.ex
 obtain⟨t',p',r'⟩:=k.ex
 exact⟨_,at7 p p',ayf r r'⟩
def vy(g:Tg)(fb:FS)(p:Wk):List D -> En -> S -> R Fl
 |[],ρ,s=>.ok (.nx ρ) s
 | d::r,ρ,s=> match j6 g d ρ with
  |none=>.bad
  |some ρ1=> (fb ρ1 s).bind λfl s2=> match fl with
   |.nx ρ2=> chk p s2 (vy g fb p r ρ2 s2)
   |.ct ρ2=> chk p s2 (vy g fb p r ρ2 s2)
   |.bk ρ2=>.ok (.nx ρ2) s2
   |.rt d=>.ok (.rt d) s2
def qj(fi:FI)(g:Tg)(fb:FS):FS:=λρ s=> (fi ρ s).bind λp s1=> chk p s1 (vy g fb p p.1 ρ s1)
theorem a18{fi:FI}{g:Tg}{fb:FS}(hc:X.calm=true)(hi:RI X tg iter fi)(hg:RG X tg g)(hb:RSs X body fb)(hx:XOk X XW.xk:=by assumption)(hs: ∀x,cV iter X.env x=pure x:=by intro _;rfl):RS X (.For tg iter body [] pos) (qj fi g fb):=by
 obtain⟨wi,pi,ri⟩:=hi.ex
 obtain⟨tb,pb,rb⟩:=hb.ex
 refine⟨_,a01 hx.own hc pi hg.pg pb hs,λas σ H ρ s D rl en h=> ?_⟩
 refine ri as σ H ρ s _ rl en (Dn.bind h λp s1 as1 H1 J st1 rl1 r1 h1=> ?_)
 obtain⟨so,h1⟩:=Dn.chk h1
 refine⟨λi m σ' H'=> ∃as2 ρ2 s2,m=p.1.length - i/\i <=p.1.length/\Step as1 H1 as2 H'/\Rel X.K as2 H' s2/\Envs X.K as2 H' ρ2 σ'/\qw p s2/\Dn X.K (rF X.K) as2 H' (vy g fb p (p.1.drop i) ρ2 s2) (v3 D),
  ⟨_,as1,ρ,s1,rfl,b9 _,Step.refl _ _,rl1,en.mono st1,so,h1⟩,?_⟩
 rintro i m σ' H' ⟨as2,ρ2,s2,hm,hi,st2,rl2,en2,so2,h2⟩
 have tn:=r1 as2 H' s2 st2.toStep0 rl2 so2 i
 by_cases hl:i < p.1.length
 ·obtain⟨d,hd⟩: ∃d,p.1[i]?=some d:=⟨_,ao hl⟩
  have hdr:p.1.drop i=d::p.1.drop (i+1):=by
   rw [eC hl]
   rw [ao hl]at hd
   cases hd;rfl
  rw [hdr]at h2
  obtain⟨go,yl⟩:=tn.2 d hd
  unfold vy at h2
  split at h2
  ·exact h2.elim
  ·rename_i ρ3 q3
   refine .inr ⟨go,λσ4 H4=> ∃as4 ρ4 s4,Step as1 H1 as4 H4/\Rel X.K as4 H4 s4/\Envs X.K as4 H4 ρ4 σ4/\qw p s4/\Dn X.K (rF X.K) as4 H4 (vy g fb p (p.1.drop (i+1)) ρ4 s4) (v3 D),?_,λx H3 hy=> ?_⟩
   ·rintro σ4 H4 ⟨as4,ρ4,s4,a1,a2,a3,a4,a5⟩
    exact⟨p.1.length - (i+1),by lia,as4,ρ4,s4,rfl,hl,a1,a2,a3,a4,a5⟩
   ·obtain⟨st3,rl3,rx⟩:=yl x H3 hy
    refine zi g (en2.mono st3) rx q3 λσ3 en3 _=> ?_
    refine rb as2 σ3 H3 ρ3 s2 _ rl3 en3 (Dn.bind (Dn.step h2 st3) λfl s5 as5 H5 fv st5 rl5 r5 h5=> ?_)
    cases r5 with
    |nx e=>
     obtain⟨so5,h5⟩:=Dn.chk h5
     exact⟨as5,_,s5,(st2.trans st3).trans st5,rl5,e,so5,h5⟩
    |ct e=>
     obtain⟨so5,h5⟩:=Dn.chk h5
     exact⟨as5,_,s5,(st2.trans st3).trans st5,rl5,e,so5,h5⟩
    |rt e=> exact (show v3 D (.rt _) H5 from Dn.now (K:=X.K) (rel:=rF X.K) (Q:=v3 D) (b:=FV.rt _) h5 rl5 (rF.rt e))
    |bk e=> exact (show v3 D (.nx _) H5 from Dn.now (K:=X.K) (rel:=rF X.K) (Q:=v3 D) (b:=FV.nx _) h5 rl5 (rF.nx e))
 ·refine .inl ⟨tn.1 (bT hl),?_⟩
  rw [fx (bT hl)]at h2
  exact Dn.now (b:=FV.nx σ') h2 rl2 (.nx en2)
end
end PF
variable{l p a:ee}{K:am}{as:PF.As}{H H':L2.Hp}{xs ds ys kt:List PySem.PyData}{w:mN}{s s' s0:PF.S}{n m c ep:Nat}{v:L2.V}{i j many:Int}{vs us:List cQ}{e tg iter:iZ}{f fe fa fv:PF.FE}{ρ ρ1:PF.En}{σ:L2.St}{g:PF.Tg}{ft:PF.FT}{y:iu}{N ss ps:List iu}{fb:PF.FS}{t t':m9}{X:L2.Cx}{body:List lD}{pos tp:PySem.Pos}{st:lD}{u:cQ}{sh:fA}{A:mr}{op:PySem.CmpOp}{b:Bool}{o:PF.O}{es ifs:List iZ}{r:List PF.D}{x0 x1 x2 x3 x4 x5:Option PF.D}{fi:PF.FI}{js:List Nat}{a0 a1 a2:PF.D}{fd:PySem.FuncData}{Q E:cQ -> fA -> Prop}{prog P:lQ}{h h0 base:PySem.Heap}{pins:List (ee×PySem.Obj)}{fp:List ee}{hl is:List Int}{scope:PySem.Scope}{mg:iu -> Option cQ}{sl:Array (Option cQ)}
namespace PF
open PySem PySem.Spec
open L2
variable[XW]
noncomputable def agl(d:D)(s:S):R Wk:=match d with
 |.lst ds=>.ok (ds.map D.da,none) s
 |.tup ds=>.ok (ds.map D.da,none) s
 |.con ds=>.ok (ds.map D.da,none) s
 |.frz ds=>.ok (ds.map D.da,none) s
 |.ref n=> match s[n]? with
  |some (.lst ds)=>.ok (ds,some (n,.lst ds)) s
  |_=>.bad
 |_=>.bad
def fIt(f:FE):FI:=λρ s=> (f ρ s).bind agl
section
variable{X:Cx}{tg a b:Expr}{fa fb:FE}{pos:Pos}
def a5k(K:am)(tl:TE):TI:=λσ H R=> tl σ H λx H1=> ∃a,x=.ref a/\(((∃xs,SqL K H1 a xs)/\R (Itl K a) H1)\/((∃xs,SqT K H1 a xs)/\R (Itt K a) H1))
theorem a0m{l:Expr}{tl:TE}(hl:PE X l tl):PI X tg l (a5k X.K tl):=by
 intro pins s σ H R I h
 refine thn (hl pins s σ H _ I h) λv s1 ⟨x,H1,I1,r1,q1⟩=> ?_
 obtain⟨a,e,q1⟩:=q1
 subst e
 cases r1
 have fp: ∀b∈ [s1.heap.objs.size],aa0 X pins H1 b:=λb hb=> by
  have e:b=s1.heap.objs.size:=by simpa using hb
  subst e
  exact I1.fpOk (av _) (I1.hok.fresh (av _))
 rcases q1 with ⟨⟨xs,hq⟩,q⟩|⟨⟨xs,hq⟩,q⟩
 ·obtain⟨its,rv,p,hz⟩:=I1.list hq
  refine d7 p.isList ?_
  exact⟨s1.heap.objs.size,[s1.heap.objs.size],_,_,H1,rfl,I1.kept (t':=s1.toks) λb o e=> aj _ e,apc a _,⟨_,ay _ rfl,rfl,rfl⟩,fp,q⟩
 ·obtain⟨its,rv,p,hz⟩:=I1.tuple hq
  refine gg (show s1.heap.IsTuple a its.toArray from p) ?_
  exact⟨s1.heap.objs.size,[s1.heap.objs.size],_,_,H1,rfl,I1.kept (t':=s1.toks) λb o e=> aj _ e,anh a _,⟨_,ay _ rfl,rfl,rfl⟩,fp,q⟩
theorem alf{xs:List V}{w:Wk}(h: ∀as2 H2 s2,Step0 as H as2 H2 -> Rel K as2 H2 s2 -> qw w s2 -> ∃ys,SqL K H2 p ys/\RDs K as2 H2 ys w.1):aeh K as H (Itl K p) w:=by
 intro as2 H2 s2 st rl so i
 obtain⟨ys,sq,rs⟩:=h as2 H2 s2 st rl so
 refine⟨λhl=> ⟨ys,sq,by rw [rs.length];exact hl⟩,λd hd=> ?_⟩
 obtain⟨v,hv,r⟩:=rs.get hd
 refine⟨⟨ys,v,sq,hv⟩,λx H3 hy=> ?_⟩
 obtain⟨rfl,hx⟩:=hy
 have:=hx ys sq
 rw [hv]at this
 cases this
 exact⟨Step.refl _ _,rl,r⟩
theorem aq7{xs:List V}{w:Wk}(h: ∀as2 H2 s2,Step0 as H as2 H2 -> Rel K as2 H2 s2 -> qw w s2 -> ∃ys,SqT K H2 p ys/\RDs K as2 H2 ys w.1):aeh K as H (Itt K p) w:=by
 intro as2 H2 s2 st rl so i
 obtain⟨ys,sq,rs⟩:=h as2 H2 s2 st rl so
 refine⟨λhl=> ⟨ys,sq,by rw [rs.length];exact hl⟩,λd hd=> ?_⟩
 obtain⟨v,hv,r⟩:=rs.get hd
 refine⟨⟨ys,v,sq,hv⟩,λx H3 hy=> ?_⟩
 obtain⟨rfl,hx⟩:=hy
 have:=hx ys sq
 rw [hv]at this
 cases this
 exact⟨Step.refl _ _,rl,r⟩
theorem y6{ds:List D}(rl:Rel K as H s)(hr: ∀q,as.ix[n]?=some (some q) -> q=p)(e:s[n]?=some (.lst ds)):as.ix[n]?=some (some p)/\ ∃xs,H p=some (.lst xs)/\RDs K as H xs ds:=by
 obtain⟨q,hq⟩:=rl.li n _ e (by intro z;cases z)
 cases hr q hq
 exact⟨hq,rl.ob n p _ hq e⟩
theorem a7y(h:RE X a fa):RI X tg a (fIt fa):=by
 obtain⟨t,p,r⟩:=h.ex
 refine⟨_,a0m p,λas σ H ρ s Q rl en h=> ?_⟩
 refine r as σ H ρ s _ rl en (Dn.bind h λd s1 as1 H1 v st1 rl1 r1 h1=> ?_)
 cases r1 with
 |da t=>
  cases t with
  |tup n e rs=> exact⟨_,rfl,.inr ⟨⟨_,SqT.of e⟩,Dn.now (Q:=Q) h1 rl1 (aq7 (xs:=[]) λas2 H2 s2 st rl so=> ⟨_,SqT.of (st.keep _ _ n e),(rs.mono0 st).rd⟩)⟩⟩
  |lst n e rs=> exact⟨_,rfl,.inl ⟨⟨_,SqL.of e⟩,Dn.now (Q:=Q) h1 rl1 (alf (xs:=[]) λas2 H2 s2 st rl so=> ⟨_,SqL.of (st.keep _ _ n e),(rs.mono0 st).rd⟩)⟩⟩
  |_=> exact h1.elim
 |con q rs=> exact⟨_,rfl,.inr ⟨⟨_,q H1⟩,Dn.now (Q:=Q) h1 rl1 (aq7 (xs:=[]) λas2 H2 s2 st rl so=> ⟨_,q H2,(rs.mono0 st).rd⟩)⟩⟩
 |frz q rs=> exact⟨_,rfl,.inl ⟨⟨_,q as1 H1 (Step.refl _ _).toStep0⟩,Dn.now (Q:=Q) h1 rl1 (alf (xs:=[]) λas2 H2 s2 st rl so=> ⟨_,q as2 H2 st,(rs.mono0 st).rd⟩)⟩⟩
 | @ref pp n l hr=>
  have h1:Dn X.K (aeh X.K) as1 H1 (match s1[n]? with|some (O.lst ds)=> R.ok (ds,some (n,O.lst ds)) s1|_=> R.bad) Q:=h1
  split at h1
  ·rename_i ds e
   obtain⟨ha,xs,hx,rs⟩:=y6 rl1 hr e
   refine⟨_,rfl,.inl ⟨⟨_,SqL.of hx⟩,Dn.now (Q:=Q) h1 rl1 (alf (xs:=[]) λas2 H2 s2 st rl so=> ?_)⟩⟩
   have so':s2[_]?=some (O.lst ds):=so
   obtain⟨q,hq⟩:=rl.li _ _ so' (by intro z;cases z)
   have e2:=hq
   rcases st.old _ l with z|z
   ·rw [z]at e2
    cases hr q e2
    obtain⟨ys,hy,rs2⟩:=rl.ob _ _ _ hq so'
    exact⟨ys,SqL.of hy,rs2⟩
   ·rw [z]at e2;cases e2
  ·exact h1.elim
 |_=> exact h1.elim
noncomputable def aag(lo:Int):Nat -> List D
 |0=> []
 |n+1=>.int lo::aag (lo+1) n
theorem jz: ∀(n:Nat) (lo:Int),(aag lo n).length=n
 |0,_=> rfl
 |n+1,lo=> congrArg (· +1) (jz n (lo+1))
theorem ahc: ∀(n:Nat) (lo:Int) (i:Nat),i < n -> (aag lo n)[i]?=some (.int (lo+i))
 |n+1,lo,0,_=> by simp [aag]
 |n+1,lo,i+1,h=> by
  rw [aag,cT,ahc n (lo+1) i (by lia)]
  have:lo+1+(i:Int)=lo+((i+1:Nat):Int):=by lia
  rw [this]
theorem a1y(lo:Int)(n:Nat):aeh K as H (Itr lo n) (aag lo n,none):=by
 intro as2 H2 s2 st rl so i
 refine⟨λhl=> by rw [jz]at hl;exact hl,λd hd=> ?_⟩
 have hl:i < n:=by
  have:=(aB.mp hd).1
  rw [jz]at this;exact this
 rw [ahc n lo i hl]at hd
 cases hd
 refine⟨hl,λx H3 hy=> ?_⟩
 obtain⟨rfl,rfl⟩:=hy
 exact⟨Step.refl _ _,rl,.da (.int _)⟩
def ap4(ds:List D)(s:S):R Wk:=match ds with
 |[.int j]=> if -(2^62) <=j/\j < 2^62 then .ok (aag 0 j.toNat,none) s else .bad
 |_=>.bad
def zw(f:FA):FI:=λρ s=> (f ρ s).bind ap4
theorem RD.int_inv(h:RD K as H v (.int i)):v=.int i:=by
 cases h with|da t=> cases t;rfl
theorem RD.str_inv{x:Str}(h:RD K as H v (.str x)):v=.str x:=by
 cases h with|da t=> cases t;rfl
theorem RD.bl_inv{x:Bool}(h:RD K as H v (.bl x)):v=.bl x:=by
 cases h with|da t=> cases t;rfl
theorem RDs.one{vs:List V}{d:D}(h:RDs K as H vs [d]): ∃v,vs=[v]/\RD K as H v d:=by
 cases h with|cons a b=> cases b;exact⟨_,rfl,a⟩
theorem RDs.two{vs:List V}{d e:D}(h:RDs K as H vs [d,e]): ∃v w,vs=[v,w]/\RD K as H v d/\RD K as H w e:=by
 cases h with|cons a b=> cases b with|cons b c=> cases c;exact⟨_,_,rfl,a,b⟩
theorem a2n{f:FA}{p:Pos}(hm:X.mg "range"=none)(h:RA X [a] f)(hg:Gl X "range":=by rfl)(hs:starEach [a] X.env=[(false,eval a X.env)]:=by rfl):RI X tg (.Call (.Name "range" p) [a] [] pos) (zw f):=by
 obtain⟨t,p,r⟩:=h.ex
 refine⟨_,apq hg hm p hs,λas σ H ρ s Q rl en h=> ?_⟩
 refine r as σ H ρ s _ rl en (Dn.bind h λds s1 as1 H1 vs st1 rl1 r1 h1=> ?_)
 unfold ap4 at h1
 split at h1
 ·rename_i j
  obtain⟨v,rfl,rv⟩:=r1.one
  cases rv.int_inv
  split at h1
  ·rename_i hb
   exact⟨j,rfl,hb.1,hb.2,Dn.now (Q:=Q) h1 rl1 (a1y 0 _)⟩
  ·exact h1.elim
 ·exact h1.elim
def kq(g:Tg)(ft:FT)(fe:FE)(ρ0:En)(p:Wk):List D -> S -> R (List D)
 |[],s=>.ok [] s
 |d::r,s=> match j6 g d ρ0 with
  |none=>.bad
  |some ρ1=> (ft ρ1 s).calm.bind λb s2=> if b=true then (fe ρ1 s2).calm.bind λx s3=> chk p s3 ((kq g ft fe ρ0 p r s3).bind λxs s4=>.ok (x::xs) s4) else chk p s2 (kq g ft fe ρ0 p r s2)
theorem R.calm_ex{α:Type}(r:R α)(n:Nat)(ρ:En)(s:S):r.calm≠ .ex n ρ s:=by cases r <;> (intro h;cases h)
theorem aht{α β:Type}{r:R α}{f:α -> S -> R β}(h1: ∀n ρ s,r≠ .ex n ρ s)(h2: ∀a s n ρ s',f a s≠ .ex n ρ s')(n:Nat)(ρ:En)(s:S):r.bind f≠ .ex n ρ s:=by
 cases r with
 |ok a s'=> exact h2 a s' n ρ s
 |bad=> intro h;cases h
 |ex n' ρ' s'=> exact absurd rfl (h1 n' ρ' s')
theorem aqf{α:Type}{p:Wk}{k:R α}(h: ∀n ρ s',k≠ .ex n ρ s')(n:Nat)(ρ:En)(s':S):chk p s k≠ .ex n ρ s':=by
 by_cases c:qw p s
 ·rw [aez c];exact h n ρ s'
 ·have e:chk p s k=.bad:=if_neg c
  rw [e];intro z;cases z
theorem afr{g:Tg}{ft:FT}{fe:FE}{ρ0:En}{p:Wk}: ∀(ds:List D) (s:S) (n:Nat) (ρ:En) (s':S),kq g ft fe ρ0 p ds s≠ .ex n ρ s'
 |[],s,n,ρ,s'=> by intro h;cases h
 | d::r,s,n,ρ,s'=> by
  rw [kq]
  split
  ·intro h;cases h
  ·refine aht (R.calm_ex _) (λb s2=> ?_) n ρ s'
   intro n ρ s'
   split
   ·exact aht (R.calm_ex _) (λx s3=> aqf (aht (λn ρ s'=> afr r s3 n ρ s') λxs s4 n ρ s' h=> by cases h)) n ρ s'
   ·exact aqf (λn ρ s'=> afr r s2 n ρ s') n ρ s'
noncomputable def aae(ρ:En)(js:List Nat):En:=js.map λj=> (ρ[j]?).join
def fLc(m:Bool)(js:List Nat)(k:Nat)(fi:FI)(g:Tg)(ft:FT)(fe:FE):FE:=λρ s=> (fi ρ s).bind λp s1=> if p.1.length <=sizeLine then chk p s1 ((kq g ft fe (bo k none++aae ρ js) p p.1 s1).bind λds s2=> kh m ds s2) else .bad
noncomputable def abe:FT:=λ_ s=>.ok true s
structure RIfs (X:Cx) (ifs:List Expr) (f:FT):Prop where
 run:ady X ifs (adp X.K f)
theorem a62:RIfs X [] abe:=⟨λpins s σ H Q I ⟨as,ρ,s',rl,en,h⟩=> atu pins s σ H Q I (show Q true H from Dn.now h rl rfl)⟩
theorem a5m{f:FT}(h:RT X a f):RIfs X [a] f:=⟨atl h.pt⟩
theorem Envs.caps(e:Envs K as H ρ σ)(js:List Nat):Envs K as H (aae ρ js) (vc σ js):=by
 refine⟨by simp [aae,vc],λi d h=> ?_⟩
 unfold aae at h
 unfold vc
 rw [aN]at h⊢
 cases q:js[i]? with
 |none=> rw [q]at h;cases h
 | some j=>
  rw [q]at h
  have h:(ρ[j]?).join=some d:=by simpa using h
  cases z:ρ[j]? with
  |none=> rw [z]at h;cases h
  | some o=>
   rw [z]at h
   cases o with
   |none=> cases h
   |some x=>
    cases h
    obtain⟨v,e1,r⟩:=e.get j d z
    exact⟨v,by simp [e1],r⟩
theorem Envs.own{vs:St}{k:Nat}(e:Envs K as H ρ σ)(hl:vs.length=k):Envs K as H (bo k none++ρ) (vs++σ):=by
 refine⟨by simp [hl,e.len],λi d h=> ?_⟩
 by_cases z:i < k
 ·rw [aI (by simpa using z),dA]at h
  simp [z]at h
 ·rw [aT (by simpa using bT z)]at h
  rw [aT (by rw [hl];exact bT z)]
  rw [hl]
  exact e.get _ d (by simpa using h)
theorem lcB {J:It} {p:Wk} {ρ0:En} {k:Nat} {cap:St} {m:Bool} {Q:VK} (hg:yy k g=true) (hz:p.1.length <=sizeLine) (rl:Rel K as H s) (ri:aeh K as H J p) (so:qw p s) (en: ∀vs:St,vs.length=k -> Envs K as H ρ0 (vs++cap)) (h:Dn K (rD K) as H ((kq g ft fe ρ0 p p.1 s).bind λds s2=> kh m ds s2) Q):atd (gOf K g) (@adp XW.dft K ft) (@tOf XW.dft K fe) k cap J H Q:=by
 intro D hD
 have n0:New H D (.lst []) (upd H D (.lst [])):=⟨hD,rfl⟩
 have nh:D∉as.hd:=λz=> by obtain⟨_,e,_⟩:=rl.hs D z;rw [hD]at e;cases e
 have s0:=ahw (as:=as) n0
 refine⟨λi mm ys H'=> ∃as2 s2 ds,mm=p.1.length - i/\i <=p.1.length/\ys.length <=i/\Step as H as2 H'/\D∈as2.hd/\Rel K as2 H' s2/\qw p s2/\RDs K as2 H' ys ds/\
   Dn K (rD K) as H ((kq g ft fe ρ0 p (p.1.drop i) s2).bind λxs s3=> kh m (ds++xs) s3) Q,
  ⟨_,as.hide D,s,[],rfl,b9 _,av _,s0,au,rl.hide n0,so,.nil,h⟩,?_⟩
 rintro i mm ys H' hDi ⟨as2,s2,ds,hm,hi,hys,st2,mD2,rl2,so2,rs,h2⟩
 have tn:=ri as2 H' s2 st2.toStep0 rl2 so2 i
 by_cases hl:i < p.1.length
 ·obtain⟨d,hd⟩: ∃d,p.1[i]?=some d:=⟨_,ao hl⟩
  have hdr:p.1.drop i=d::p.1.drop (i+1):=by
   rw [eC hl]
   rw [ao hl]at hd
   cases hd;rfl
  rw [hdr]at h2
  obtain⟨go,yl⟩:=tn.2 d hd
  unfold kq at h2
  split at h2
  ·exact h2.elim
  ·rename_i ρ3 q3
   refine .inr ⟨go,λx H3 hy vs hv=> ?_⟩
   obtain⟨st3,rl3,rx⟩:=yl x H3 hy
   refine zi g ((en vs hv).mono (st2.trans st3)) rx q3 λσ3 en3 fr=> ?_
   refine⟨fr k hg vs cap hv rfl,as2,ρ3,s2,rl3,en3,?_⟩
   have eD3:H3 D=some (.lst ys):=st3.hh D mD2 _ hDi
   cases qt:ft ρ3 s2 with
   |bad=> rw [qt]at h2;exact h2.elim
   |ex _ _ _=> rw [qt]at h2;exact h2.elim
   | ok b s4=>
    rw [qt,R.calm_ok]at h2
    intro b' as4 H4 st4 rl4 eb
    have eb':b'=b:=eb
    subst eb'
    have mD4:D∈as4.hd:=st4.hk D mD2
    have eD4:H4 D=some (.lst ys):=st4.hh D mD2 _ eD3
    have st24:=(st2.trans st3).trans st4
    rw [R.bind_ok]at h2
    cases b' with
    | false=>
     rw [if_neg ax]at h2⊢
     by_cases c:qw p s4
     ·rw [aez c]at h2
      exact⟨eD4,_,by lia,as4,s4,ds,rfl,hl,by lia,st24,mD4,rl4,c,(rs.mono st3).mono st4,h2⟩
     ·have e:chk p s4 (kq g ft fe ρ0 p (p.1.drop (i+1)) s4)=.bad:=if_neg c
      rw [e]at h2;exact h2.elim
    | true=>
     rw [if_pos rfl]at h2⊢
     refine⟨as4,ρ3,s4,rl4,en3.mono st4,?_⟩
     cases qe:fe ρ3 s4 with
     |bad=> rw [qe]at h2;exact h2.elim
     |ex _ _ _=> rw [qe]at h2;exact h2.elim
     | ok x5 s5=>
      rw [qe,R.calm_ok]at h2
      intro v5 as5 H5 st5 rl5 r5
      rw [R.bind_ok]at h2
      have mD5:D∈as5.hd:=st5.hk D mD4
      have eD5:H5 D=some (.lst ys):=st5.hh D mD4 _ eD4
      have st25:=st24.trans st5
      by_cases c:qw p s5
      ·rw [aez c]at h2
       have cg:Chg H5 D (.lst (ys++ [v5])) (upd H5 D (.lst (ys++ [v5]))):=⟨rfl⟩
       have s05:=aas (.inr mD5) cg
       refine⟨eD5,by lia,_,by lia,as5,s5,ds++ [x5],rfl,hl,by simp;lia,ato st25 hD nh mD5 cg,mD5,rl5.chgH mD5 cg,c,((((rs.mono st3).mono st4).mono st5).append (.cons r5 .nil)).mono0 s05,?_⟩
       cases qc:kq g ft fe ρ0 p (p.1.drop (i+1)) s5 with
       |bad=> rw [qc]at h2;exact h2.elim
       |ex _ _ _=> exact absurd qc (afr _ _ _ _ _)
       |ok xs s6=>
        rw [qc]at h2
        show Dn K (rD K) as H (kh m ((ds++ [x5])++xs) s6) Q
        rw [gD]
        exact h2
      ·have e:chk p s5 ((kq g ft fe ρ0 p (p.1.drop (i+1)) s5).bind λxs s4=>.ok (x5::xs) s4)=.bad:=if_neg c
       rw [e]at h2;exact h2.elim
 ·refine .inl ⟨tn.1 (bT hl),?_⟩
  rw [fx (bT hl)]at h2
  replace h2:Dn K (rD K) as H (kh m (ds++ []) s2) Q:=h2
  rw [b7]at h2
  unfold kh at h2
  cases m with
  |true=>
   rw [if_pos rfl]at h2
   refine h2 (.ref D) _ H' (aq8 st2 nh mD2) (rl2.take mD2 ⟨ys,hDi,rs.mono0 (aeb mD2)⟩) (.ref (by simp [rl2.len]) λq e=> ?_)
   rw [←rl2.len]at e
   simp at e
   exact e.symm
  | false=>
   rw [if_neg ax]at h2
   cases q:j3 ds with
   |none=> rw [q]at h2;exact h2.elim
   |some zs=>
    rw [q]at h2
    have e:=ye q
    subst e
    have h2:Dn K (rD K) as H (R.ok (.lst zs) s2) Q:=h2
    refine h2 (.ref D) _ H' (av6 st2 nh adx) rl2.show (.da (.lst (λz=> ?_) hDi (rs.td.mono0 adx)))
    rcases z with z|z
    ·exact rl2.hx D mD2 z
    ·exact absurd rfl (of_decide_eq_true (bq.mp z).2)
end
end PF
namespace PF
open PySem PySem.Spec
open L2
open PyProof.Rows (envOfC)
section XWs
variable[XW]
section
variable{X:Cx}{own caps:List Str}{js:List Nat}{scope:eX}{tg iter elt a:Expr}{ifs:List Expr}{fi:FI}{g:Tg}{ft:FT}{fe fa:FE}{pos:Pos}
theorem aqs{wi:TI}{k:Nat}{m:Bool}(ri:asy K wi fi)(hl:yy k g=true):zu K (tLc js k wi (gOf K g) (@adp XW.dft K ft) (@tOf XW.dft K fe)) (fLc m js k fi g ft fe):=by
 intro as σ H ρ s Q rl en h
 refine ri as σ H ρ s _ rl en (Dn.bind h λp s1 as1 H1 J st1 rl1 r1 h1=> ?_)
 split at h1
 ·rename_i hz
  obtain⟨so,h1⟩:=Dn.chk h1
  exact lcB hl hz rl1 r1 so (λvs hv=> ((en.mono st1).caps js).own hv) h1
 ·exact h1.elim
theorem avs(m:Bool)(hcalm:X.calm=true)(hkind:scope.kind=.function)(hnames:(scope.names.all λp=> !(p.2==.local)||(scope.names.lookup p.1==some .local))=true)(hcell:(scope.names.any λp=> p.2==.cell)=false)
  (hk:(scope.names.all λp=> !(p.2==.free)||(X.env.kindOf p.1==some .cell||X.env.kindOf p.1==some .free))=true)
  (hcap:v4 X scope caps js) (hl:yy own.length g=true) (hi:RI X tg iter fi) (hg: ∀C fp s H,RG (jo X own caps scope C fp s H) tg g) (ht: ∀(I:XW) C fp s H,XOk (jo X own caps scope C fp s H) I.xk -> @RIfs I (jo X own caps scope C fp s H) ifs ft) (he: ∀(I:XW) C fp s H,XOk (jo X own caps scope C fp s H) I.xk -> @RE I (jo X own caps scope C fp s H) elt fe)
  (hs: ∀x,cV iter X.env x=pure x:=by intro _;rfl):RE X (.ListComp elt [⟨tg,iter,ifs,0⟩] scope pos) (fLc m js own.length fi g ft fe):=by
 obtain⟨wi,pi,ri⟩:=hi.ex
 exact⟨_,a3m hcalm hkind hnames hcell hk hcap pi (λC fp s H=> (hg C fp s H).pg) (λC fp s H=> @RIfs.run XW.dft _ _ _ (ht XW.dft C fp s H (XOk.never du))) (λC fp s H=> @RE.pe XW.dft _ _ _ (he XW.dft C fp s H (XOk.never du))) hs,aqs ri hl⟩
theorem al3(m:Bool){i:Nat}{py:Pos}{spos:Pos}(hsw:f8 (.ListComp elt [⟨tg,iter,ifs,0⟩] scope pos) (some (.Name y py)) spos.line X.env=pure true)(hN:X.N.Nodup)(hy:X.N[i]?=some y)(hyl:X.env.scope.names.lookup y=some .local)(hcalm:X.calm=true)(hkind:scope.kind=.function)(hnames:(scope.names.all λp=> !(p.2==.local)||(scope.names.lookup p.1==some .local))=true)(hcell:(scope.names.any λp=> p.2==.cell)=false)(hk:(scope.names.all λp=> !(p.2==.free)||(X.env.kindOf p.1==some .cell||X.env.kindOf p.1==some .free))=true)(hcap:v4 X scope caps js)(hl:yy own.length g=true)(hi:RI X tg iter fi)(hg: ∀C fp s H,RG (jo X own caps scope C fp s H) tg g)(ht: ∀(I:XW) C fp s H,XOk (jo X own caps scope C fp s H) I.xk -> @RIfs I (jo X own caps scope C fp s H) ifs ft)(he: ∀(I:XW) C fp s H,XOk (jo X own caps scope C fp s H) I.xk -> @RE I (jo X own caps scope C fp s H) elt fe)(hs: ∀x,cV iter X.env x=pure x:=by intro _;rfl):RS X (.Assign [.Name y py] (.ListComp elt [⟨tg,iter,ifs,0⟩] scope pos) spos) (jj i (fLc m js own.length fi g ft fe)):=by
 obtain⟨wi,pi,ri⟩:=hi.ex
 refine⟨_,aud (own:=own) (te:= @tOf XW.dft X.K fe) (tt:= @adp XW.dft X.K ft) (g:=gOf X.K g) hsw hN hy hyl hcalm hkind hnames hcell hk hcap pi (λC fp s H=> (hg C fp s H).pg) (λC fp s H=> @RIfs.run XW.dft _ _ _ (ht XW.dft C fp s H (XOk.never du))) (λC fp s H=> @RE.pe XW.dft _ _ _ (he XW.dft C fp s H (XOk.never du))) hs,λas σ H ρ s D rl en h=> ?_⟩
 exact aqs (m:=m) ri hl as σ H ρ s _ rl en (Dn.bind h λd s1 as1 H1 v st1 rl1 r1 h1=> Dn.now (b:=FV.nx (σ.set i (some v))) h1 rl1 (.nx ((en.mono st1).set i r1)))
end
abbrev FF:=List D -> S -> R D
noncomputable def spF(K:am)(n:Nat)(F:FF):Sp:=λvs H Q E=> vs.length=n/\ ∃as ds s,Rel K as H s/\RDs K as H vs ds/\ @Dn (XW.of E) D V K (rD K) as H (F ds s) Q
structure CalF (P:aL) (w:aO) (K:am) (mg:Str -> Option ae) (base:Heap) (x:Str) (k n:Nat) (F:FF):Prop where
 cal:asl P w K mg base x k (spF K n F)
def jh(n:Nat)(F:FF)(f:FA):FE:=λρ s=> (f ρ s).bind λds s1=> if ds.length=n then (F ds s1).at ρ else .bad
section
variable{X:Cx}{x:Str}{k n:Nat}{F:FF}{p pos:Pos}{e:Expr}{es:List Expr}{f:FA}
theorem a20(c:CalF X.prog X.w X.K X.mg X.base x k n F)(hr:Room k X.A)(ha:RA X (e::es) f)(hx:XOk X XW.xk:=by assumption)(hg:Gl X x:=by rfl)(hdb:(x==("__debug__":Str))=false:=by decide)
  (he:starEach (e::es) X.env=(false,eval e X.env)::starEach es X.env:=by rfl) (hpl:(backTo pos (starEach es X.env)).any (·.1)=false:=by rfl):RE X (.Call (.Name x p) (e::es) [] pos) (jh n F f):=by
 obtain⟨t,p,r⟩:=ha.ex
 refine⟨_,a40 c.cal hx hr p hg hdb he hpl,λas σ H ρ s Q rl en h=> ?_⟩
 refine r as σ H ρ s _ rl en (Dn.bind h λds s1 as1 H1 vs st1 rl1 r1 h1=> ?_)
 split at h1
 ·rename_i hn
  refine⟨by rw [b7,r1.length];exact hn,as1,ds,s1,rl1,?_,h1.at (en.mono st1)⟩
  rw [b7];exact r1
 ·exact h1.elim
end
end XWs
def j7(m:Nat)(fb:FS):FF:=λds s=> (fb (ds.map some++bo (m - ds.length) none) s).bind λfl s1=> match fl with
 |.rt d=>.ok d s1
 |.nx _=>.ok .non s1
 |_=>.bad
theorem aoi{vs:List V}{ds:List D}(r:RDs K as H vs ds):Envs K as H (ds.map some++bo (N.length - ds.length) none) (L2.start N vs):=by
 unfold L2.start
 refine⟨by simp [r.length],λi d h=> ?_⟩
 by_cases z:i < ds.length
 ·rw [aI (by simpa using z),aN]at h
  cases q:ds[i]? with
  |none=> rw [q]at h;cases h
  |some x=>
   rw [q]at h
   cases h
   obtain⟨v,hv,rv⟩:=r.get q
   exact⟨v,by rw [aI (by rw [ak,r.length];exact z),aN,hv];rfl,rv⟩
 ·rw [aT (by simpa using bT z),dA]at h
  split at h
  ·cases h
  ·cases h
theorem atk[I:XW]{t:TS}{Q:VK}(r:ahd K t fb)(rl:Rel K as H s)(en:Envs K as H ρ σ)(h:Dn K (rD K) as H ((fb ρ s).bind λfl s1=> match fl with|.rt d=>.ok d s1|.nx _=>.ok .non s1|_=>.bad) Q):t {nx:=λ_ H'=> Q .non H',rt:=Q} σ H:=by
 refine r as _ H _ s _ rl en (Dn.bind h λfl s1 as1 H1 fv st1 rl1 r1 h1=> ?_)
 cases r1 with
 |nx e=> exact Dn.now (Q:=Q) h1 rl1 (.da .non)
 |rt e=> exact Dn.now (Q:=Q) h1 rl1 e
 |bk e=> exact h1.elim
 |ct e=> exact h1.elim
abbrev BodyOk(P:aL)(w:aO)(K:am)(mg:Str -> Option ae)(base:Heap)(N:List Str)(q:Str)(st:Stmt)(k:Nat)(fb:FS):Prop:=
 ∀(f:Addr) (cdv:ae) (A:aX) (outer:List Env) (s:ag) (H:Hp) (E:XK) (I:XW),XOk (y4 (CX1 P w) P w K mg base N q (je st) f cdv A outer s H E) I.xk -> Room k (A.deeper (envOfC q (je st) s.heap.objs.size f cdv)) ->
  @RSs I (y4 (CX1 P w) P w K mg base N q (je st) f cdv A outer s H E) (ve st) fb
section
variable{P:aL}{w:aO}{K:am}{mg:Str -> Option ae}{base:Heap}{x:Str}{st:Stmt}{N ps:List Str}{k:Nat}
theorem ame{q:Str}(hm:N.length=m)(hbody:BodyOk P w K mg base N q st k fb)(f:Addr)(cdv:ae)(A:aX)(outer:List Env)(s:ag)(H:Hp)(vs:List V)(Q:VK)(E:XK)(hr:Room k (A.deeper (envOfC q (je st) s.heap.objs.size f cdv)))(h:spF K n (j7 m fb) vs H Q E):
  ∃t,PSs (y4 (CX1 P w) P w K mg base N q (je st) f cdv A outer s H E) (ve st) t/\t {nx:=λ_ H'=> Q .non H',rt:=Q} (L2.start N vs) H:=by
 obtain⟨hv,as,ds,s',rl,rs,h⟩:=h
 obtain⟨t,p,r⟩:= @RSs.ex (XW.of E) _ _ _ (hbody f cdv A outer s H E (XW.of E) a3a hr)
 have en:Envs K as H (ds.map some++bo (m - ds.length) none) (L2.start N vs):=by rw [←hm];exact aoi rs
 exact⟨t,p,atk (I:=XW.of E) r rl en h⟩
theorem a1p(h:Has K mg x st ps)(S:FnScope N ps (je st))(hm:N.length=m)(hn:ps.length=n)(hbody:BodyOk P w K mg base N x st k fb):CalF P w K mg base x (k+1) n (j7 m fb):=
 ⟨h.calX S (λvs H Q E h=> by rw [hn];exact h.1) λf cdv A outer s H vs Q E hr h=> ame hm hbody f cdv A outer s H vs Q E hr h⟩
end
noncomputable def agh(K:am):Sp:=λvs H Q _=> ∃(a:Addr) (ns:List Int),vs=[.ref a]/\SqL K H a (ns.map V.int)/\ns.length <=63/\ ∀H',Q (.bl true) H'
theorem TDs.ints{as:As}{H:Hp}: ∀ns:List Int,TDs as H (ns.map V.int) (ns.map aq)
 |[]=>.nil
 |n::r=>.cons (.int n) (TDs.ints r)
end PF
namespace L2
open PySem PySem.Spec PyProof.Rows EX
theorem awn{h:iM}{hs:List iM}{tb:TS}(hb: ∀pn,PSs (X.tries pn λ_ _=> False) body tb):PS X (.Try body (h::hs) [] [] pos) tb:=by
 refine⟨?_⟩;intro pins s σ H D I hw
 refine wpAny_Try_except ?_
 refine bQ (hb _ [] s σ H D (I.tries _) hw) (λf s1 h1=> ?_) (λe s1 h1=> h1.elim)
 have h1':SP X pins D f s1:=SP.untries I.ok h1
 cases f with
 |next=> exact fV h1'
 |brk=> exact h1'
 |cont=> exact h1'
 |ret u=> exact h1'
end L2
namespace PF
open PySem PySem.Spec
open L2 EX
def aj7(fb:FS):FS:=λρ s=> (fb ρ s).calm
theorem RSs.pssN[XW]{X:Cx}{st:List Stmt}{f:FS}(h:RSs X st f):PSs X st (a21 X.K f):=by
 obtain⟨t,p,r⟩:=h.ex
 exact⟨λpins s σ H D I ⟨as,ρ,s',a,b,c⟩=> p pins s σ H D I (r as σ H ρ s' D a b c)⟩
theorem aye[XW]{h:iM}{hs:List iM}(hb: ∀(I:XW) pn xe,XOk (X.tries pn xe) I.xk -> @RSs I (X.tries pn xe) body fb):RS X (.Try body (h::hs) [] [] pos) (aj7 fb):=by
 refine⟨_,awn (tb:= @a21 XW.dft X.K fb) (λpn=> @RSs.pssN XW.dft _ _ _ (hb XW.dft pn _ (XOk.never du))),?_⟩
 intro as σ H ρ s D rl en h
 exact⟨as,ρ,s,rl,en,Dn.calm h⟩
end PF
namespace PF
open PySem PySem.Spec
open L2
variable[XW]
section
variable{X:Cx}{pins:List (Addr×Obj)}{σ:St}{H:Hp}{s:ag}{as:As}
theorem ark(I:Inv X pins σ H s)(e:H a=some (.dK [])):(a==bP)=false/\ ∃(o:Obj) (es:Array dH) (ep:Nat),s.heap.get? a=some o/\o.cls=.type "dict"/\o.data=.dict es ep/\es.toList=[]:=by
 obtain⟨_,hd,vs,rel,dd⟩:=aau I.hok e
 cases rel
 obtain⟨o,es,ep,h1,h2,h3,h4,h5⟩:=dd
 refine⟨hd,o,es,ep,h1,h2.1,h3,?_⟩
 cases h6:es.toList with
 |nil=> rfl
 |cons x r=> rw [h6]at h5;obtain⟨h5,_⟩:=h5;cases h5
theorem awp(I:Inv X pins σ H s)(e:H a=some (.dK [(.inl i,v)])):(a==bP)=false/\ ∃(o:Obj) (es:Array dH) (ep:Nat) (hs:Int) (t:Tok) (u:ae),RelV v u/\s.heap.get? a=some o/\o.cls=.type "dict"/\o.data=.dict es ep/\es.toList=[⟨hs,.int i t,u⟩]:=by
 obtain⟨_,hd,vs,rel,dd⟩:=aau I.hok e
 cases rel with
 | @cons _ b _ _ r1 r2=>
  cases r2
  obtain⟨k,u⟩:=b
  obtain⟨r0,r1⟩:=r1
  obtain rfl:gP i=k:=r0
  obtain⟨o,es,ep,h1,h2,h3,h4,h5,_⟩:=dd
  refine⟨hd,o,es,ep,?_⟩
  cases h6:es.toList with
  |nil=> rw [h6]at h5;cases h5
  | cons x r=>
   rw [h6]at h5
   cases h5 with
   | cons k1 k2 k3=>
    cases k3
    obtain⟨hs,key,val⟩:=x
    rcases km (k:=.inl i) (v:=key) k1 with ⟨j,t,e1,e2⟩|⟨y,t,e1,_⟩
    ·cases e1
     obtain rfl:key=eV i t:=e2
     obtain rfl:val=u:=k2
     exact⟨hs,t,val,r1,h1,h2.1,h3,rfl⟩
    ·cases e1
mutual
theorem TD.reads(I:Inv X pins σ H s): ∀{v:V} {d:ac} {u:ae},TD as H v d -> RelV v u -> ∃bs,cA s.heap u d bs
 |_,_,u,.non,r=> by cases (show u=aU from r);exact⟨_,.none⟩
 |_,_,u,.bl b,r=> by cases (show u=gX b from r);exact⟨_,.bool b⟩
 |_,_,u,.int i,r=> by obtain⟨t,e⟩:=(show∃t,u=eV i t from r);subst e;exact⟨_,.int i t⟩
 |_,_,u,.str x,r=> by obtain⟨t,e⟩:=(show∃t,u=iq x t from r);subst e;exact⟨_,.str x t⟩
 |_,_,u,.tup (p:=a) (xs:=xs) n e q,r=> by
  cases (show u=bZ a from r)
  obtain⟨z,its,rv,p⟩:=(show jq X.prog X.w H s.heap a (.tup xs) from I.hok a _ e)
  obtain⟨o,h1,h2,k,h3⟩:=p.tup
  obtain⟨bs,ra⟩:=TDs.reads I q rv
  exact⟨_,.tuple h1 h2 h3 ra⟩
 |_,_,u,.lst (p:=a) (xs:=xs) n e q,r=> by
  cases (show u=bZ a from r)
  obtain⟨z,its,k,rv,h1⟩:=(show jq X.prog X.w H s.heap a (.lst xs) from I.hok a _ e)
  obtain⟨bs,ra⟩:=TDs.reads I q rv
  exact⟨_,.list h1 rfl rfl ra⟩
 |_,_,u,.dct (p:=a) n e,r=> by
  cases (show u=bZ a from r)
  obtain⟨_,o,es,ep,h1,h2,h3,h4⟩:=ark I e
  exact⟨_,.dict (kvs:=[]) h1 h2 h3 (by rw [h4];exact .nil) (by rw [h4];exact .nil)⟩
 |_,_,u,.dc1 (p:=a) (i:=i) (d:=d) n e q,r=> by
  cases (show u=bZ a from r)
  obtain⟨_,o,es,ep,hs,t,y,ry,h1,h2,h3,h4⟩:=awp I e
  obtain⟨bs,ra⟩:=TD.reads I q ry
  exact⟨_,.dict (kvs:=[(.int i,d)]) h1 h2 h3 (by rw [h4];exact .cons (.int i t) .nil) (by rw [h4];exact .cons ra .nil)⟩
theorem TDs.reads(I:Inv X pins σ H s): ∀{vs:List V} {ds:List ac} {us:List ae},TDs as H vs ds -> ji vs us -> ∃bs,cu s.heap us ds bs
 |_,_,_,.nil,r=> by cases r;exact⟨_,.nil⟩
 | _,_,_,.cons a b,r=> by
  cases r with
  |cons r1 r2=>
   obtain⟨as,h1⟩:=TD.reads I a r1
   obtain⟨bs,h2⟩:=TDs.reads I b r2
   exact⟨_,.cons h1 h2⟩
end
def toP(s:S):D -> Option ac
 |.da d=> some d
 |.con ds=> some (.tuple ds)
 |.frz ds=> some (.list ds)
 |.ref n=> match s[n]? with
  |some (.lst ds)=> (j3 ds).map kN
  |_=> none
 |_=> none
noncomputable def toL(s:S):D -> Option (List D)
 |.lst ds=> some (ds.map D.da)
 |.ref n=> match s[n]? with
  |some (.lst ds)=> some ds
  |_=> none
 |_=> none
theorem abl{st:S}{d:D}{ds:List D}(rl:Rel K as H st)(r:RD K as H v d)(h:toL st d=some ds): ∃p xs,v=.ref p/\H p=some (.lst xs)/\RDs K as H xs ds:=by
 cases r with
 |da t=>
  cases t with
  |lst n e q=> cases h;exact⟨_,_,rfl,e,q.rd⟩
  |_=> cases h
 | @ref p n l hr=>
  have h:(match st[n]? with|some (O.lst ds)=> some ds|_=> none)=some ds:=h
  split at h
  ·rename_i ys e
   cases h
   obtain⟨_,xs,hx,rs⟩:=y6 rl hr e
   exact⟨p,xs,rfl,hx,rs⟩
  ·cases h
 |_=> cases h
theorem RD.reads{st:S}{d:D}{pd:ac}(I:Inv X pins σ H s)(rl:Rel X.K as H st)(r:RD X.K as H v d)(h:toP st d=some pd)(ru:RelV v u): ∃bs,cA s.heap u pd bs:=by
 cases r with
 |da t=> cases h;exact t.reads I ru
 |con q rs=>
  cases h
  obtain⟨its,rv,⟨o,h1,h2,k,h3⟩,z⟩:=I.tuple (q H)
  obtain⟨bs,ra⟩:=rs.reads I rv
  cases ru
  exact⟨_,.tuple h1 h2 h3 ra⟩
 |frz q rs=>
  cases h
  obtain⟨its,rv,⟨o,k,h1,h2,h3,h4⟩,z⟩:=I.list (q as H (Step.refl _ _).toStep0)
  obtain⟨bs,ra⟩:=rs.reads I rv
  cases ru
  exact⟨_,.list h1 h2 h4 ra⟩
 | @ref p n l hr=>
  have h:(match st[n]? with|some (O.lst ds)=> (j3 ds).map kN|_=> none)=some pd:=h
  split at h
  ·rename_i ds e
   cases q:j3 ds with
   |none=> rw [q]at h;cases h
   |some xs=>
    rw [q]at h
    cases h
    have e2:=ye q
    subst e2
    obtain⟨_,vs,hv,rs⟩:=y6 rl hr e
    obtain⟨z,its,k,rv,h1⟩:=(show jq X.prog X.w H s.heap p (.lst vs) from I.hok p _ hv)
    obtain⟨bs,ra⟩:=rs.td.reads I rv
    cases ru
    exact⟨_,.list h1 rfl rfl ra⟩
  ·cases h
 |_=> cases h
end
noncomputable def okD(d:ac):Bool:=d.canLay0&&decide (d.depth <=64)
theorem qz{f:ae -> ae -> Sem ae}{g:D -> D -> S -> R D}(h: ∀(pins:List (Addr×Obj)) (sh:ag) (σ:St) (H:Hp) (as:As) (s:S) (x y:V) (dx dy:D) (v u:ae) (Q:VK),Inv X pins σ H sh -> Rel X.K as H s -> RD X.K as H x dx -> RD X.K as H y dy -> RelV x v -> RelV y u ->
  Dn X.K (rD X.K) as H (g dx dy s) Q -> wpAny (model X.prog X.w) X.A (f v u) (EP X pins σ Q) X.xe sh):Op2 X f g:=
 ⟨λx y H Q=> ∃as s dx dy,Rel X.K as H s/\RD X.K as H x dx/\RD X.K as H y dy/\Dn X.K (rD X.K) as H (g dx dy s) Q,
  λpins sh σ H x y v u Q I rx ry ⟨as,s,dx,dy,rl,r1,r2,q⟩=> h pins sh σ H as s x y dx dy v u Q I rl r1 r2 rx ry q,
  λas H s x y dx dy Q rl r1 r2 q=> ⟨as,s,dx,dy,rl,r1,r2,q⟩⟩
def ao4(dx dy:D)(s:S):R D:=match toP s dx,toP s dy with
 |some a,some b=> if okD a=true/\okD b=true then .ok (.bl (aM a b)) s else .bad
 |_,_=>.bad
def aoj(dx dy:D)(s:S):R D:=match toP s dx,toP s dy with
 |some a,some b=> if okD a=true/\okD b=true then .ok (.bl (!PyData.eqv a b)) s else .bad
 |_,_=>.bad
def gEq(dx dy:D)(s:S):R D:=match dx,dy with
 |.str x,.str y=>.ok (.bl (decide (x=y))) s
 |dx,dy=> ao4 dx dy s
def gNe(dx dy:D)(s:S):R D:=match dx,dy with
 |.str x,.str y=>.ok (.bl (!decide (x=y))) s
 |dx,dy=> aoj dx dy s
theorem aah{d:ac}(h:okD d=true):d.canLay0=true/\d.depth <=64:=by
 unfold okD at h
 rw [aD]at h
 exact⟨h.1,of_decide_eq_true h.2⟩
theorem a3i(hu:X.A.units+64 < cLine):Op2 X (aS .Eq) ao4:=qz λpins sh σ H as s x y dx dy v u Q I rl r1 r2 rx ry h=> by
 unfold ao4 at h
 split at h
 ·rename_i a b ea eb
  split at h
  ·rename_i hok
   obtain⟨bs1,q1⟩:=r1.reads I rl ea rx
   obtain⟨bs2,q2⟩:=r2.reads I rl eb ry
   obtain⟨c1,d1⟩:=aah hok.1
   obtain⟨c2,d2⟩:=aah hok.2
   exact SeqAt.compareEq_reads q1 q2 c1 c2 (by lia) ⟨.bl _,H,I,rfl,Dn.now (Q:=Q) h rl (.da (.bl _))⟩
  ·exact h.elim
 ·exact h.elim
theorem a4k(hu:X.A.units+64 < cLine):Op2 X (aS .NotEq) aoj:=qz λpins sh σ H as s x y dx dy v u Q I rl r1 r2 rx ry h=> by
 unfold aoj at h
 split at h
 ·rename_i a b ea eb
  split at h
  ·rename_i hok
   obtain⟨bs1,q1⟩:=r1.reads I rl ea rx
   obtain⟨bs2,q2⟩:=r2.reads I rl eb ry
   obtain⟨c1,d1⟩:=aah hok.1
   obtain⟨c2,d2⟩:=aah hok.2
   exact SeqAt.compareNe_reads q1 q2 c1 c2 (by lia) ⟨.bl _,H,I,rfl,Dn.now (Q:=Q) h rl (.da (.bl _))⟩
  ·exact h.elim
 ·exact h.elim
theorem am5(x y:Str):decide (V.str x=V.str y)=decide (x=y):=by
 rw [bh,decide_eq_true_eq,decide_eq_true_eq,V.str.injEq]
theorem ad0{x:Str}(h:RD K as H v (.str x)):v=.str x:=by
 cases h with|da t=> cases t;rfl
theorem a5n(hu:X.A.units+64 < cLine):Op2 X (aS .Eq) gEq:=qz λpins sh σ H as s x y dx dy v u Q I rl r1 r2 rx ry h=> by
 unfold gEq at h
 split at h
 ·cases ad0 r1;cases ad0 r2
  exact a4i pins sh σ H _ _ v u Q I rx ry ⟨rfl,by rw [am5];exact Dn.now (Q:=Q) h rl (.da (.bl _))⟩
 ·obtain⟨r,ho,hr⟩:=(a3i (X:=X) hu).ex
  exact ho pins sh σ H x y v u Q I rx ry (hr as H s x y _ _ Q rl r1 r2 h)
theorem a64(hu:X.A.units+64 < cLine):Op2 X (aS .NotEq) gNe:=qz λpins sh σ H as s x y dx dy v u Q I rl r1 r2 rx ry h=> by
 unfold gNe at h
 split at h
 ·cases ad0 r1;cases ad0 r2
  exact a3o pins sh σ H _ _ v u Q I rx ry ⟨rfl,by rw [am5];exact Dn.now (Q:=Q) h rl (.da (.bl _))⟩
 ·obtain⟨r,ho,hr⟩:=(a4k (X:=X) hu).ex
  exact ho pins sh σ H x y v u Q I rx ry (hr as H s x y _ _ Q rl r1 r2 h)
noncomputable def aqz:ac -> Option (List ac)
 |.list ds=> some ds
 |.tuple ds=> some ds
 |_=> none
noncomputable def nb(n b:Bool):Bool:=match n with
 |true=> !b
 |false=> b
def aku(neg:Bool)(dx dy:D)(s:S):R D:=match toP s dx,(toP s dy).bind aqz with
 |some a,some ds=> if okD a=true/\ds.all okD=true then .ok (.bl (nb neg (ds.any λd=> aM d a))) s else .bad
 |_,_=>.bad
def ah6(neg:Bool)(dx dy:D)(s:S):R D:=match dx,dy with
 |.str a,.str b=>.ok (.bl (nb neg (!(gA b a 0 b.length 1).isEmpty))) s
 |dx,dy=> aku neg dx dy s
open Classical in
theorem aw5{v:ae}{a:ac}{bs:List Addr}(ra:cA sh.heap v a bs)(ha:okD a=true)(hu:A.units+64 < cLine){cs:List Addr}(h:cu sh.heap us ds cs)(hd:ds.all okD=true):
  ∃e:ae -> Bool,(∀y∈us,lC A sh y v (e y))/\us.any e=ds.any λd=> aM d a:=by
 refine⟨λy=> decide (∃d cs,cA sh.heap y d cs/\aM d a=true),?_⟩
 have one: ∀{y:ae} {d:ac} {cs:List Addr},cA sh.heap y d cs -> decide (∃d cs,cA sh.heap y d cs/\aM d a=true)=aM d a:=λ{y d cs} r=> by
  (rw [bh,decide_eq_true_eq])
  constructor
  ·rintro⟨d',cs',r',e⟩
   obtain⟨q,_⟩:=PyProof.Rows.reads_det (λ_ _ e _=> e) r r'
   subst q;exact e
  ·exact λe=> ⟨d,cs,r,e⟩
 induction us generalizing ds cs with
 |nil=>
  cases h
  exact⟨λ_ z=> (by cases z),rfl⟩
 | cons u us ih=>
  cases h with
  | cons r rs=>
   rw [eQ,aD]at hd
   obtain⟨i1,i2⟩:=ih rs hd.2
   obtain⟨l1,m1⟩:=aah hd.1
   obtain⟨l2,m2⟩:=aah ha
   refine⟨λy hy=> ?_,?_⟩
   ·rcases aA.mp hy with z|z
    ·subst z
     show lC A sh y v (decide (∃d cs,cA sh.heap y d cs/\aM d a=true))
     rw [one r]
     exact SeqAt.eqAt_reads _ _ A sh _ _ _ _ r ra l1 l2 (by lia)
    ·exact i1 y z
   ·rw [dw,dw,i2,one r]
theorem aee(A:aX):A.in1.units <=A.units+1:=by
 show (A.in1).units <=A.units+1
 first|exact av _|(unfold i5;simp)|simp [i5]
theorem a2b(neg:Bool)(hop:(neg=false/\op=.In)\/(neg=true/\op=.NotIn))(hu:X.A.units+65 < cLine):Op2 X (aS op) (aku neg):=qz λpins sh σ H as s x y dx dy v u Q I rl r1 r2 rx ry h=> by
 unfold aku at h
 split at h
 ·rename_i a ds ea ed
  split at h
  ·rename_i hok
   obtain⟨bs1,q1⟩:=r1.reads I rl ea rx
   cases e2:toP s dy with
   |none=> rw [e2]at ed;cases ed
   | some pd=>
    rw [e2]at ed
    have ed:aqz pd=some ds:=ed
    obtain⟨bs2,q2⟩:=r2.reads I rl e2 ry
    have hin:=aee X.A
    cases q2 with
    | list k1 k2 k3 k4=>
     cases ed
     obtain⟨e,he,ha⟩:=aw5 (A:=X.A.in1) q1 hok.1 (by lia) k4 hok.2
     rcases hop with ⟨rfl,rfl⟩|⟨rfl,rfl⟩
     ·refine SeqAt.in_listAt e ⟨_,k1,k2,_,k3⟩ (λy hy=> he y (by simpa using hy)) ⟨.bl _,H,I,rfl,?_⟩
      rw [←gM,ha]
      exact Dn.now (Q:=Q) h rl (.da (.bl _))
     ·refine SeqAt.notIn_listAt e ⟨_,k1,k2,_,k3⟩ (λy hy=> he y (by simpa using hy)) ⟨.bl _,H,I,rfl,?_⟩
      rw [←gM,ha]
      exact Dn.now (Q:=Q) h rl (.da (.bl _))
    | tuple k1 k2 k3 k4=>
     cases ed
     obtain⟨e,he,ha⟩:=aw5 (A:=X.A.in1) q1 hok.1 (by lia) k4 hok.2
     rcases hop with ⟨rfl,rfl⟩|⟨rfl,rfl⟩
     ·refine SeqAt.in_tupleAt e ⟨_,k1,k2,_,k3⟩ (λy hy=> he y (by simpa using hy)) ⟨.bl _,H,I,rfl,?_⟩
      rw [←gM,ha]
      exact Dn.now (Q:=Q) h rl (.da (.bl _))
     ·refine SeqAt.notIn_tupleAt e ⟨_,k1,k2,_,k3⟩ (λy hy=> he y (by simpa using hy)) ⟨.bl _,H,I,rfl,?_⟩
      rw [←gM,ha]
      exact Dn.now (Q:=Q) h rl (.da (.bl _))
    |_=> cases ed
  ·exact h.elim
 ·exact h.elim
theorem aj6(neg:Bool)(hop:(neg=false/\op=.In)\/(neg=true/\op=.NotIn))(hu:X.A.units+65 < cLine):Op2 X (aS op) (ah6 neg):=qz λpins sh σ H as s x y dx dy v u Q I rl r1 r2 rx ry h=> by
 unfold ah6 at h
 split at h
 ·rename_i a b
  cases r2.str_inv
  cases r1.str_inv
  rcases hop with ⟨rfl,rfl⟩|⟨rfl,rfl⟩
  ·exact arv pins sh σ H _ _ v u Q I rx ry ⟨a,b,rfl,rfl,Dn.now (Q:=Q) h rl (.da (.bl _))⟩
  ·exact aki pins sh σ H _ _ v u Q I rx ry ⟨a,b,rfl,rfl,Dn.now (Q:=Q) h rl (.da (.bl _))⟩
 ·obtain⟨r,ho,hr⟩:=(a2b (X:=X) neg hop hu).ex
  exact ho pins sh σ H x y v u Q I rx ry (hr as H s x y _ _ Q rl r1 r2 h)
abbrev gIn:=ah6 false
abbrev yg:=ah6 true
theorem a65(hu:X.A.units+65 < cLine):Op2 X (aS .In) gIn:=aj6 false (.inl ⟨rfl,rfl⟩) hu
theorem axn(hu:X.A.units+65 < cLine):Op2 X (aS .NotIn) yg:=aj6 true (.inr ⟨rfl,rfl⟩) hu
def kf(m:Bool)(dx dy:D)(s:S):R D:=match dx,dy with
 |.int i,.int j=>.ok (.int (i+j)) s
 |.bl b,.int j=>.ok (.int (b01 b+j)) s
 |.str a,.str b=> if a.length+b.length <=sizeLine then .ok (.str (a++b)) s else .bad
 |.tup xs,.tup ys=> if xs.length+ys.length <=sizeLine then .ok (.tup (xs++ys)) s else .bad
 |dx,dy=> match toL s dx,toL s dy with
  |some xs,some ys=> if xs.length+ys.length <=sizeLine then kh m (xs++ys) s else .bad
  |_,_=>.bad
theorem RD.tup_inv(h:RD K as H v (.tup ds)): ∃p xs,v=.ref p/\ ¬as.has p/\H p=some (.tup xs)/\TDs as H xs ds:=by
 cases h with|da t=> cases t with|tup n e r=> exact⟨_,_,rfl,n,e,r⟩
theorem RD.lst_inv(h:RD K as H v (.lst ds)): ∃p xs,v=.ref p/\ ¬as.has p/\H p=some (.lst xs)/\TDs as H xs ds:=by
 cases h with|da t=> cases t with|lst n e r=> exact⟨_,_,rfl,n,e,r⟩
theorem a4w(m:Bool):Op2 X (binaryOp .Add) (kf m):=qz λpins sh σ H as s x y dx dy v u Q I rl r1 r2 rx ry h=> by
 unfold kf at h
 split at h
 ·rename_i i j
  cases r1.int_inv;cases r2.int_inv
  exact aqa pins sh σ H _ _ v u Q I rx ry ⟨i,j,rfl,rfl,Dn.now (Q:=Q) h rl (.da (.int _))⟩
 ·rename_i b j
  cases r1.bl_inv;cases r2.int_inv
  exact ay2 pins sh σ H _ _ v u Q I rx ry ⟨b01 b,j,rfl,rfl,Dn.now (Q:=Q) h rl (.da (.int _))⟩
 ·rename_i a b
  split at h
  ·rename_i hz
   cases r1.str_inv;cases r2.str_inv
   exact aob pins sh σ H _ _ v u Q I rx ry ⟨a,b,rfl,rfl,hz,Dn.now (Q:=Q) h rl (.da (.str _))⟩
  ·exact h.elim
 ·rename_i xs ys
  split at h
  ·rename_i hz
   obtain⟨p,vs,rfl,n1,e1,t1⟩:=r1.tup_inv
   obtain⟨q,ws,rfl,n2,e2,t2⟩:=r2.tup_inv
   refine asq pins sh σ H _ _ v u Q I rx ry ⟨p,q,vs,ws,rfl,rfl,SqT.of e1,SqT.of e2,by rw [t1.length,t2.length];exact hz,λe=> ?_,λ_ e=> ?_,λ_ _ r H' n=> ?_⟩
   ·subst e
    cases t1
    exact Dn.now (Q:=Q) h rl (.da (.tup n2 e2 t2))
   ·subst e
    cases t2
    rw [b7]at h
    exact Dn.now (Q:=Q) h rl (.da (.tup n1 e1 t1))
   ·exact h (.ref r) as H' (ju n) (rl.new n) (.da (.tup (λz=> rl.has z n.no) n.at ((t1.append t2).mono (ju n))))
  ·exact h.elim
 ·split at h
  ·rename_i xs ys e1 e2
   split at h
   ·rename_i hz
    obtain⟨p,vs,rfl,h1,t1⟩:=abl rl r1 e1
    obtain⟨q,ws,rfl,h2,t2⟩:=abl rl r2 e2
    exact ayw pins sh σ H _ _ v u Q I rx ry ⟨p,q,vs,ws,rfl,rfl,h1,h2,by rw [t1.length,t2.length];exact hz,λr H' n=> zb h rl (t1.append t2) n⟩
   ·exact h.elim
  ·exact h.elim
instance (i j:Int):Decidable (ahj i j):=by unfold ahj;infer_instance
instance (i j:Int):Decidable (ang i j):=by unfold ang;infer_instance
instance (i j:Int):Decidable (aok i j):=by unfold aok;infer_instance
noncomputable def gI2(C:Int -> Int -> Prop)[∀i j,Decidable (C i j)](f:Int -> Int -> Int)(dx dy:D)(s:S):R D:=match dx,dy with
 |.int i,.int j=> if C i j then .ok (.int (f i j)) s else .bad
 |_,_=>.bad
theorem aj8{op:Operator}{C:Int -> Int -> Prop}[∀i j,Decidable (C i j)]{f:Int -> Int -> Int}(o:OpR X (binaryOp op) (rI C λi j=>.int (f i j))):Op2 X (binaryOp op) (gI2 C f):=qz λpins sh σ H as s x y dx dy v u Q I rl r1 r2 rx ry h=> by
 unfold gI2 at h
 split at h
 ·rename_i i j
  split at h
  ·rename_i hc
   cases r1.int_inv;cases r2.int_inv
   exact o pins sh σ H _ _ v u Q I rx ry ⟨i,j,rfl,rfl,hc,Dn.now (Q:=Q) h rl (.da (.int _))⟩
  ·exact h.elim
 ·exact h.elim
def yq:D -> D -> S -> R D:=gI2 ahj λi j=> i*j
def acz:D -> D -> S -> R D:=gI2 ang λi j=> i/j
def xp:D -> D -> S -> R D:=gI2 (λ_ j=> 0 < j) λi j=> i % j
def afn:D -> D -> S -> R D:=gI2 aok λi j=> i^j.toNat
theorem a3q:Op2 X (binaryOp .Mult) yq:=aj8 a13
theorem a3e:Op2 X (binaryOp .FloorDiv) acz:=aj8 ax8
theorem a3z:Op2 X (binaryOp .Mod) xp:=aj8 a0c
theorem a49:Op2 X (binaryOp .Pow) afn:=aj8 a0k
noncomputable def gC2(f:Int -> Int -> Bool)(dx dy:D)(s:S):R D:=match dx,dy with
 |.int i,.int j=>.ok (.bl (f i j)) s
 |_,_=>.bad
theorem anl{f:Int -> Int -> Bool}(o:OpR X (aS op) (rI0 λi j=>.bl (f i j))):Op2 X (aS op) (gC2 f):=qz λpins sh σ H as s x y dx dy v u Q I rl r1 r2 rx ry h=> by
 unfold gC2 at h
 split at h
 ·rename_i i j
  cases r1.int_inv;cases r2.int_inv
  exact o pins sh σ H _ _ v u Q I rx ry ⟨i,j,rfl,rfl,Dn.now (Q:=Q) h rl (.da (.bl _))⟩
 ·exact h.elim
def gLe:D -> D -> S -> R D:=gC2 λi j=> decide (i <=j)
def gGt:D -> D -> S -> R D:=gC2 λi j=> decide (j < i)
def gGe:D -> D -> S -> R D:=gC2 λi j=> decide (j <=i)
noncomputable def gLt(dx dy:D)(s:S):R D:=match dx,dy with
 |.int i,.int j=>.ok (.bl (decide (i < j))) s
 |.str a,.str b=>.ok (.bl (decide (a.cps.toList < b.cps.toList))) s
 |_,_=>.bad
theorem a66:Op2 X (aS .LtE) gLe:=anl aw2
theorem a59:Op2 X (aS .Gt) gGt:=anl a3k
theorem a5i:Op2 X (aS .GtE) gGe:=anl a4l
theorem a5q:Op2 X (aS .Lt) gLt:=qz λpins sh σ H as s x y dx dy v u Q I rl r1 r2 rx ry h=> by
 unfold gLt at h
 split at h
 ·rename_i i j
  cases r1.int_inv;cases r2.int_inv
  exact a4a pins sh σ H _ _ v u Q I rx ry ⟨i,j,rfl,rfl,Dn.now (Q:=Q) h rl (.da (.bl _))⟩
 ·rename_i a b
  cases r1.str_inv;cases r2.str_inv
  exact arr pins sh σ H _ _ v u Q I rx ry ⟨a,b,rfl,rfl,Dn.now (Q:=Q) h rl (.da (.bl _))⟩
 ·exact h.elim
noncomputable def isN:D -> Bool
 |.non=> true
 |_=> false
theorem avj{d:D}(r:RD K as H v d):decide (v=.non)=isN d:=by
 cases r with
 |da t=> cases t <;> rfl
 |_=> rfl
def gIs(dx dy:D)(s:S):R D:=match dy with
 |.non=>.ok (.bl (isN dx)) s
 |_=>.bad
def aaq(dx dy:D)(s:S):R D:=match dy with
 |.non=>.ok (.bl (!isN dx)) s
 |_=>.bad
theorem RD.non_inv(h:RD K as H v .non):v=.non:=by
 cases h with|da t=> cases t;rfl
theorem a5p:Op2 X (aS .Is) gIs:=qz λpins sh σ H as s x y dx dy v u Q I rl r1 r2 rx ry h=> by
 unfold gIs at h
 split at h
 ·cases r2.non_inv
  refine a0i pins sh σ H _ _ v u Q I rx ry ⟨rfl,?_⟩
  rw [avj r1]
  exact Dn.now (Q:=Q) h rl (.da (.bl _))
 ·exact h.elim
theorem azd:Op2 X (aS .IsNot) aaq:=qz λpins sh σ H as s x y dx dy v u Q I rl r1 r2 rx ry h=> by
 unfold aaq at h
 split at h
 ·cases r2.non_inv
  refine ax0 pins sh σ H _ _ v u Q I rx ry ⟨rfl,?_⟩
  rw [avj r1]
  exact Dn.now (Q:=Q) h rl (.da (.bl _))
 ·exact h.elim
def afv(f:FE):FE:=λρ s=> (f ρ s).bind λd s1=> match d with
 |.int i=>.ok (.int (-i)) s1
 |_=>.bad
theorem a7x{a:Expr}(h:RE X a fa):RE X (.UnaryOp .USub a pos) (afv fa):=by
 obtain⟨t,p,r⟩:=h.ex
 refine⟨_,a4d a24 p,λas σ H ρ s Q rl en h=> ?_⟩
 refine r as σ H ρ s _ rl en (Dn.bind h λd s1 as1 H1 v st1 rl1 r1 h1=> ?_)
 split at h1
 ·cases r1.int_inv
  exact⟨_,rfl,Dn.now (Q:=Q) h1 rl1 (.da (.int _))⟩
 ·exact h1.elim
end PF
namespace PF
open PySem PySem.Spec
open L2
variable[XW]
noncomputable def ac4(s:S):D -> Option (List D)
 |.lst ds=> some (ds.map D.da)
 |.tup ds=> some (ds.map D.da)
 |.con ds=> some (ds.map D.da)
 |.frz ds=> some (ds.map D.da)
 |.ref n=> match s[n]? with
  |some (.lst ds)=> some ds
  |_=> none
 |_=> none
theorem aci{d:D}{ds:List D}(rl:Rel K as H s)(r:RD K as H v d)(h:ac4 s d=some ds): ∃p xs,v=.ref p/\(SqL K H p xs\/SqT K H p xs)/\RDs K as H xs ds:=by
 cases r with
 |da t=>
  cases t with
  |lst n e q=> cases h;exact⟨_,_,rfl,.inl (SqL.of e),q.rd⟩
  |tup n e q=> cases h;exact⟨_,_,rfl,.inr (SqT.of e),q.rd⟩
  |_=> cases h
 |con q r=> cases h;exact⟨_,_,rfl,.inr (q H),r.rd⟩
 |frz q r=> cases h;exact⟨_,_,rfl,.inl (q as H (Step.refl _ _).toStep0),r.rd⟩
 | @ref p n l hr=>
  have h:(match s[n]? with|some (O.lst ds)=> some ds|_=> none)=some ds:=h
  split at h
  ·rename_i ys e
   cases h
   obtain⟨_,xs,hx,rs⟩:=y6 rl hr e
   exact⟨p,xs,rfl,.inl (SqL.of hx),rs⟩
  ·cases h
 |_=> cases h
theorem RDs.atI{xs:List V}{ds:List D}{d:D}(r:RDs K as H xs ds)(h:atI ds i=some d): ∃v,atI xs i=some v/\RD K as H v d:=by
 unfold L2.atI at h⊢
 rw [r.length]
 cases q:ixN ds.length i with
 |none=> rw [q]at h;cases h
 |some j=>
  rw [q]at h
  obtain⟨v,hv,rv⟩:=r.get (show ds[j]?=some d from h)
  exact⟨v,hv,rv⟩
def gIx(dx dy:D)(s:S):R D:=match dx,dy with
 | .str z,.int i=> if z.length <=sizeLine then match atI z.cps.toList i with
   |some c=>.ok (.str ⟨#[c]⟩) s
   |none=>.bad
  else .bad
 | dx,.int i=> match ac4 s dx with
  |some ds=> match atI ds i with
   |some d=>.ok d s
   |none=>.bad
  |none=>.bad
 |_,_=>.bad
theorem ak9:ahb K (rIx K) gIx:=by
 intro as H s x y dx dy Q rl r1 r2 h
 unfold gIx at h
 split at h
 ·rename_i z i
  cases r1.str_inv;cases r2.int_inv
  split at h
  ·rename_i hz
   split at h
   ·rename_i c e
    exact .inr (.inr ⟨z,i,c,rfl,rfl,hz,e,Dn.now (Q:=Q) h rl (.da (.str _))⟩)
   ·exact h.elim
  ·exact h.elim
 ·rename_i i _
  cases r2.int_inv
  split at h
  ·rename_i ds e
   split at h
   ·rename_i d e2
    obtain⟨p,xs,rfl,sq,rs⟩:=aci rl r1 e
    obtain⟨v,hv,rv⟩:=rs.atI e2
    rcases sq with sq|sq
    ·exact .inl ⟨p,xs,i,v,rfl,rfl,sq,hv,Dn.now (Q:=Q) h rl rv⟩
    ·exact .inr (.inl ⟨p,xs,i,v,rfl,rfl,sq,hv,Dn.now (Q:=Q) h rl rv⟩)
   ·exact h.elim
  ·exact h.elim
 ·exact h.elim
theorem a9j{a b:Expr}{fb:FE}(ha:RE X a fa)(hb:RE X b fb)(hs:ah0 b:=by exact λ_ _=> rfl):RE X (.Subscript a b pos) (fOp gIx fa fb):=by
 obtain⟨ta,pa,ra⟩:=ha.ex
 obtain⟨tb,pb,rb⟩:=hb.ex
 exact⟨_,aw4 aq3 pa pb hs,ae4 ak9 ra rb⟩
def k7{α:Type}(xs:List α)(lo hi:Option Int):List α:=(xs.drop (HT.sIx xs.length 0 lo)).take (HT.sIx xs.length xs.length hi - HT.sIx xs.length 0 lo)
theorem RDs.cut{xs:List V}{ds:List D}(r:RDs K as H xs ds)(lo hi:Option Int):RDs K as H (yz xs lo hi) (k7 ds lo hi):=by
 unfold yz k7
 rw [r.length]
 exact (r.drop _).take _
theorem TDs.cut{xs:List V}(r:TDs as H xs ds)(lo hi:Option Int):TDs as H (yz xs lo hi) (k7 ds lo hi):=by
 unfold yz k7
 rw [r.length]
 exact (r.drop _).take _
noncomputable def aui(z:Str)(lo hi:Option Int):Str:=if ((fI lo hi 1 z.length).length==z.length)=true then z else ⟨((fI lo hi 1 z.length).filterMap (z.cps[·]?)).toArray⟩
def a5r:V -> Option Int -> Option Int -> Hp -> VK -> Prop:=λx lo hi H Q=> ∃z,x=.str z/\z.length <=sizeLine/\Q (.str (aui z lo hi)) H
theorem axe:SlR X a5r:=by
 intro pins s σ H x v vl vu lo hi sl Q I rx hs pl pu h
 obtain⟨z,rfl,hz,q⟩:=h
 obtain⟨t,rfl⟩:=rx
 obtain⟨l,rfl,el⟩:=part_of pl
 obtain⟨u,rfl,eu⟩:=part_of pu
 refine⟨"str",_,PySem.F.slot_str_getitem.lookup,rfl,?_⟩
 have hs':s.heap.IsSlice sl l u none:=by
  obtain⟨o,ho,hc,hd⟩:=hs
  exact⟨o,ho,hc,hd⟩
 refine wpAny_getItem_str_slice hs' rfl ?_
 have ep:gK z l u none=fI lo hi 1 z.length:=by
  unfold gK
  rw [el,eu];rfl
 have hlen:(gK z l u none).length <=z.length:=sliceIndices_le _ _ _
 have hfl:((gK z l u none).filterMap (z.cps[·]?)).length <=z.length:=br (List.length_filterMap_le _ _) hlen
 unfold aui at q
 rw [←ep]at q
 unfold sliceMade
 split
 ·rename_i c
  rw [if_pos (by simpa using c)]at q
  exact⟨.str z,H,I,⟨t,rfl⟩,q⟩
 ·rename_i c
  rw [if_neg (by simpa using c)]at q
  have len:(⟨((gK z l u none).filterMap (z.cps[·]?)).toArray⟩:Str).length <=z.length:=by
   show (((gK z l u none).filterMap (z.cps[·]?)).toArray).size <=z.length
   rw [aE];exact hfl
  exact⟨br len hz,.str _,H,I.tok _,⟨_,rfl⟩,q⟩
def gSl(m:Bool)(d:D)(lo hi:Option Int)(s:S):R D:=match d with
 |.str z=> if z.length <=sizeLine then .ok (.str (aui z lo hi)) s else .bad
 |.tup ds=>.ok (.tup (k7 ds lo hi)) s
 |.frz ds=> kh m (k7 (ds.map D.da) lo hi) s
 |d=> match toL s d with
  |some ds=> kh m (k7 ds lo hi) s
  |none=>.bad
abbrev FO:=En -> S -> R (Option Int)
noncomputable def fNo:FO:=λ_ s=>.ok none s
def aaz(f:FE):FO:=λρ s=> (f ρ s).bind λd s1=> match d with
 |.int i=>.ok (some i) s1
 |_=>.bad
def a52(K:am)(t:TO)(f:FO):Prop:= ∀as σ H ρ s Q,Rel K as H s -> Envs K as H ρ σ -> Dn K (λ_ _ (b a:Option Int)=> b=a) as H (f ρ s) Q -> t σ H Q
structure ROp (X:Cx) (e:Option Expr) (f:FO):Prop where
 ex: ∃t,PO X e t/\a52 X.K t f
theorem ayc:ROp X none fNo:=⟨_,awo,λas σ H ρ s Q rl en h=> Dn.now (Q:=Q) h rl rfl⟩
theorem aze{a:Expr}(h:RE X a fa):ROp X (some a) (aaz fa):=by
 obtain⟨t,p,r⟩:=h.ex
 refine⟨_,awb p,λas σ H ρ s Q rl en h=> ?_⟩
 refine r as σ H ρ s _ rl en (Dn.bind h λd s1 as1 H1 v st1 rl1 r1 h1=> ?_)
 split at h1
 ·cases r1.int_inv
  exact⟨_,rfl,Dn.now (Q:=Q) h1 rl1 rfl⟩
 ·exact h1.elim
def fSl(m:Bool)(f:FE)(lo hi:FO):FE:=λρ s=> (f ρ s).bind λd s1=> (lo ρ s1).bind λl s2=> (hi ρ s2).bind λu s3=> gSl m d l u s3
theorem auk(m:Bool){a:Expr}{lo hi:Option Expr}{fl fu:FO}{p2:Pos}(ha:RE X a fa)(hl:ROp X lo fl)(hu:ROp X hi fu):RE X (.Subscript a (.Slice lo hi none p2) pos) (fSl m fa fl fu):=by
 obtain⟨ta,pa,ra⟩:=ha.ex
 obtain⟨tl,pl,rl'⟩:=hl.ex
 obtain⟨tu,pu,ru⟩:=hu.ex
 refine⟨_,avf (axe.or (ayr.or auf)) pa pl pu,λas σ H ρ s Q rl en h=> ?_⟩
 refine ra as σ H ρ s _ rl en (Dn.bind h λd s1 as1 H1 v st1 rl1 r1 h1=> ?_)
 refine rl' as1 σ H1 ρ s1 _ rl1 (en.mono st1) (Dn.bind h1 λl s2 as2 H2 l' st2 rl2 e2 h2=> ?_)
 have e2:l'=l:=e2
 subst e2
 refine ru as2 σ H2 ρ s2 _ rl2 ((en.mono st1).mono st2) (Dn.bind h2 λu s3 as3 H3 u' st3 rl3 e3 h3=> ?_)
 have e3:u'=u:=e3
 subst e3
 have r1:=(r1.mono st2).mono st3
 unfold gSl at h3
 split at h3
 ·cases r1.str_inv
  split at h3
  ·rename_i hz
   exact .inl ⟨_,rfl,hz,Dn.now (Q:=Q) h3 rl3 (.da (.str _))⟩
  ·exact h3.elim
 ·obtain⟨p,xs,rfl,n,e,t⟩:=r1.tup_inv
  refine .inr (.inl ⟨p,xs,rfl,SqT.of e,λc=> ?_,λq H' nw=> ?_⟩)
  ·have t2:=t.cut l' u'
   rw [c]at t2
   exact Dn.now (Q:=Q) h3 rl3 (.da (.tup n e t2))
  ·exact h3 (.ref q) as3 H' (ju nw) (rl3.new nw) (.da (.tup (λz=> rl3.has z nw.no) nw.at ((t.cut l' u').mono (ju nw))))
 ·cases r1 with
  |frz q t=> exact .inr (.inr ⟨_,_,rfl,q as3 H3 (Step.refl _ _).toStep0,λr H' nw=> zb h3 rl3 (t.rd.cut l' u') nw⟩)
 ·split at h3
  ·rename_i ds e
   obtain⟨p,xs,rfl,hx,rs⟩:=abl rl3 r1 e
   exact .inr (.inr ⟨p,xs,rfl,SqL.of hx,λr H' nw=> zb h3 rl3 (rs.cut l' u') nw⟩)
  ·exact h3.elim
def anq(d:D)(s:S):R Bool:=match d with
 |.non=>.ok false s
 |.bl b=>.ok b s
 |.int i=>.ok (i !=0) s
 |.str z=> if z.length <=sizeLine then .ok ((z.length:Int) !=0) s else .bad
 |d=> match ac4 s d with
  |some ds=>.ok (!ds.isEmpty) s
  |none=>.bad
def yp(f:FE):FT:=λρ s=> (f ρ s).bind anq
theorem RDs.empty{xs:List V}{ds:List D}(r:RDs K as H xs ds):xs.isEmpty=ds.isEmpty:=by cases r <;> rfl
theorem a7b{a:Expr}(h:RE X a fa)(he: ∀whole,isTrue a X.env whole=(do let v←whole;standAt a.pos;holding [v] (truthy v)):=by exact λ_=> rfl):RT X a (yp fa):=by
 obtain⟨t,p,r⟩:=h.ex
 refine⟨_,av8 p he,λas σ H ρ s Q rl en h=> ?_⟩
 refine r as σ H ρ s _ rl en (Dn.bind h λd s1 as1 H1 v st1 rl1 r1 h1=> ?_)
 unfold anq at h1
 split at h1
 ·cases r1.non_inv;exact⟨false,rfl,Dn.now (Q:=Q) h1 rl1 rfl⟩
 ·cases r1.bl_inv;exact⟨_,rfl,Dn.now (Q:=Q) h1 rl1 rfl⟩
 ·cases r1.int_inv;exact⟨_,rfl,Dn.now (Q:=Q) h1 rl1 rfl⟩
 ·cases r1.str_inv
  split at h1
  ·rename_i hz
   exact⟨_,⟨hz,rfl⟩,Dn.now (Q:=Q) h1 rl1 rfl⟩
  ·exact h1.elim
 ·split at h1
  ·rename_i ds e
   obtain⟨p,xs,rfl,sq,rs⟩:=aci rl1 r1 e
   refine⟨!xs.isEmpty,?_,?_⟩
   ·rcases sq with sq|sq
    ·exact .inl ⟨xs,sq,rfl⟩
    ·exact .inr (.inl ⟨xs,sq,rfl⟩)
   ·rw [rs.empty];exact Dn.now (Q:=Q) h1 rl1 rfl
  ·exact h1.elim
structure CB (X:Cx) (f:ae) (g:FF):Prop where
 ex: ∃r,vk X f r/\ ∀as H s xs ds Q,Rel X.K as H s -> RDs X.K as H xs ds -> Dn X.K (rD X.K) as H (g ds s) Q -> r xs H Q
theorem abr{f:ae}{g:FF}(h: ∀(pins:List (Addr×Obj)) (sh:ag) (σ:St) (H:Hp) (as:As) (s:S) (xs:List V) (ds:List D) (us:List ae) (Q:VK),Inv X pins σ H sh -> Rel X.K as H s -> RDs X.K as H xs ds -> ji xs us ->
  Dn X.K (rD X.K) as H (g ds s) Q -> wpAny (model X.prog X.w) X.A (call f us) (EP X pins σ Q) X.xe sh):CB X f g:=
 ⟨λxs H Q=> ∃as s ds,Rel X.K as H s/\RDs X.K as H xs ds/\Dn X.K (rD X.K) as H (g ds s) Q,λpins sh σ H xs us Q I r ⟨as,s,ds,rl,rs,q⟩=> h pins sh σ H as s xs ds us Q I rl rs r q,λas H s xs ds Q rl rs q=> ⟨as,s,ds,rl,rs,q⟩⟩
def fCB(g:FF)(f:FA):FE:=λρ s=> (f ρ s).bind g
section
variable{x:Str}{id:String}{g:FF}{f:FA}{e:Expr}{es:List Expr}{p pos:Pos}
theorem apj{r:List V -> Hp -> VK -> Prop}{t:TA}(hr: ∀as H s xs ds Q,Rel K as H s -> RDs K as H xs ds -> Dn K (rD K) as H (g ds s) Q -> r xs H Q)(h:a0f K t f):zu K (tCB r t) (fCB g f):=by
 intro as σ H ρ s Q rl en q
 exact h as σ H ρ s _ rl en (Dn.bind q λds s1 as1 H1 vs st1 rl1 r1 h1=> hr as1 H1 s1 vs ds Q rl1 r1 h1)
theorem ad1(c:CB X (.builtin id) g)(hm:X.mg x=none)(hv:bG x=some (.builtin id))(ha:RA X (e::es) f)(hg:Gl X x:=by rfl)(hn:x≠"__name__":=by decide)(hdb:(x==("__debug__":Str))=false:=by decide)
  (hs:starEach (e::es) X.env=(false,eval e X.env)::starEach es X.env:=by rfl) (hpl:(backTo pos (starEach es X.env)).any (·.1)=false:=by rfl):RE X (.Call (.Name x p) (e::es) [] pos) (fCB g f):=by
 obtain⟨r,hc,hr⟩:=c.ex
 obtain⟨t,pa,ra⟩:=ha.ex
 exact⟨_,aft hc hg hm hv pa hn hdb hs hpl,apj hr ra⟩
theorem a38(c:CB X (.type id) g)(hm:X.mg x=none)(hv:bG x=some (.type id))(ha:RA X (e::es) f)(hg:Gl X x:=by rfl)(hn:x≠"__name__":=by decide)(hdb:(x==("__debug__":Str))=false:=by decide)
  (hs:starEach (e::es) X.env=(false,eval e X.env)::starEach es X.env:=by rfl) (hpl:(backTo pos (starEach es X.env)).any (·.1)=false:=by rfl):RE X (.Call (.Name x p) (e::es) [] pos) (fCB g f):=by
 obtain⟨r,hc,hr⟩:=c.ex
 obtain⟨t,pa,ra⟩:=ha.ex
 exact⟨_,abq hc hg hm hv pa hn hdb hs hpl,apj hr ra⟩
end
def vo(ds:List D)(s:S):R D:=match ds with
 |[.str z]=> if z.length <=sizeLine then .ok (.int z.length) s else .bad
 |[d]=> match ac4 s d with
  |some xs=>.ok (.int xs.length) s
  |none=>.bad
 |_=>.bad
theorem ant:CB X (.builtin "len") vo:=abr λpins sh σ H as s xs ds us Q I rl rs ru h=> by
 unfold vo at h
 split at h
 ·obtain⟨v,rfl,rv⟩:=rs.one
  cases rv.str_inv
  split at h
  ·rename_i hz
   exact akh pins sh σ H _ us Q I ru ⟨_,rfl,hz,Dn.now (Q:=Q) h rl (.da (.int _))⟩
  ·exact h.elim
 ·obtain⟨v,rfl,rv⟩:=rs.one
  split at h
  ·rename_i ys e
   obtain⟨p,zs,rfl,sq,rz⟩:=aci rl rv e
   refine ajg pins sh σ H _ us Q I ru ⟨p,zs,rfl,sq,?_⟩
   rw [rz.length]
   exact Dn.now (Q:=Q) h rl (.da (.int _))
  ·exact h.elim
 ·exact h.elim
def xx(ds:List D)(s:S):R D:=match ds with
 |[.tup xs]=>.ok (.tup xs) s
 |[.frz xs]=>.ok (.tup xs) s
 |[d]=> match toL s d with
  |some xs=> ah5 xs s
  |none=>.bad
 |_=>.bad
theorem ayq:CB X (.type "tuple") xx:=abr λpins sh σ H as s xs ds us Q I rl rs ru h=> by
 unfold xx at h
 split at h
 ·obtain⟨v,rfl,rv⟩:=rs.one
  obtain⟨p,zs,rfl,n,e,t⟩:=rv.tup_inv
  exact ac1 pins sh σ H _ us Q I ru ⟨p,zs,rfl,.inr ⟨SqT.of e,Dn.now (Q:=Q) h rl (.da (.tup n e t))⟩⟩
 ·obtain⟨v,rfl,rv⟩:=rs.one
  cases rv with
  |frz q t=> exact ac1 pins sh σ H _ us Q I ru ⟨_,_,rfl,.inl ⟨q as H (Step.refl _ _).toStep0,λr H' nw=> h (.ref r) as H' (ju nw) (rl.new nw) (.da (.tup (λz=> rl.has z nw.no) nw.at (t.mono (ju nw))))⟩⟩
 ·obtain⟨v,rfl,rv⟩:=rs.one
  split at h
  ·rename_i ys e
   obtain⟨p,zs,rfl,hx,rz⟩:=abl rl rv e
   exact ac1 pins sh σ H _ us Q I ru ⟨p,zs,rfl,.inl ⟨SqL.of hx,λr H' nw=> am1 h rl rz nw⟩⟩
  ·exact h.elim
 ·exact h.elim
def zm (ds:List D) (s:S):R D:=match ds with
 | [d,.ty n]=> if n="str"\/n="int"\/n="bool"\/n="tuple"\/n="list" then match d with
   |.da d=>.ok (.bl (aa3 d n)) s
   |.ref k=> match s[k]? with
    |some (.lst _)=>.ok (.bl (n=="list")) s
    |_=>.bad
   |_=>.bad
  else .bad
 |_=>.bad
theorem TD.ty{d:ac}(t:TD as H v d):TyOf K H v (.type (tyD d)):=by
 cases t with
 |non=> exact .non
 |bl b=> exact .bl b
 |int i=> exact .int i
 |str x=> exact .str x
 |tup n e w=> exact .tup e
 |lst n e w=> exact .lst e
 |dct n e=> exact .dK e
 |dc1 n e q=> exact .dK e
theorem a4r:CB X (.builtin "isinstance") zm:=abr λpins sh σ H as s xs ds us Q I rl rs ru h=> by
 unfold zm at h
 split at h
 ·rename_i d n
  obtain⟨v,w,rfl,rv,rw⟩:=rs.two
  obtain⟨u,u2,rfl,ru1,ru2⟩:=vals2 ru
  cases rw
  cases (show u2=bn n from ru2)
  split at h
  ·rename_i hn
   split at h
   ·rename_i d
    cases rv with
    |da t=> exact aio I ru1 t.ty (apg X.K d n hn) λtk=> ⟨.bl _,H,I.tok _,rfl,Dn.now (Q:=Q) h rl (.da (.bl _))⟩
   ·rename_i k
    split at h
    ·rename_i ys e
     cases rv with
     |ref l hr=>
      obtain⟨_,zs,hz,_⟩:=y6 rl hr e
      exact aio I ru1 (.lst hz) (apg X.K (.list []) n hn) λtk=> ⟨.bl _,H,I.tok _,rfl,Dn.now (Q:=Q) h rl (.da (.bl _))⟩
    ·exact h.elim
   ·exact h.elim
  ·exact h.elim
 ·exact h.elim
noncomputable def okS(d:ac):Bool:=d.canLay0&&d.showable&&decide (d.depth <=64)&&decide (d.shown.length <=sizeLine)
def acq(ds:List D)(s:S):R D:=match ds with
 |[d]=> match toP s d with
  |some a=> if okS a=true then .ok (.str a.shown) s else .bad
  |none=>.bad
 |_=>.bad
theorem a1h{k:Nat}(hr:Room k X.A):CB X (.builtin "repr") acq:=abr λpins sh σ H as s xs ds us Q I rl rs ru h=> by
 unfold acq at h
 split at h
 ·obtain⟨v,rfl,rv⟩:=rs.one
  obtain⟨u,rfl,ru1⟩:=vals1 ru
  split at h
  ·rename_i a e
   split at h
   ·rename_i ok
    unfold okS at ok
    (simp only [aD,decide_eq_true_eq]at ok)
    obtain⟨⟨⟨ok1,ok2⟩,ok3⟩,ok4⟩:=ok
    have hun:=hr.un
    obtain⟨bs,q⟩:=rv.reads I rl e ru1
    have fin:Q (.str a.shown) H:=Dn.now (Q:=Q) h rl (.da (.str _))
    have nd:=PyData.hasDict_of_canLay a ok1
    cases q with
    |none=> exact PySem.P.repr_of_none ⟨.str "None",H,I.tok _,⟨_,rfl⟩,fin⟩
    |bool b=> exact PySem.P.repr_of_bool ⟨.str (if b then "True" else "False"),H,I.tok _,⟨_,rfl⟩,fin⟩
    |int i t=> exact PySem.P.repr_of_int (by simpa [dR] using ok2) ⟨.str (toString i),H,I.tok _,⟨_,rfl⟩,fin⟩
    |str x t=> exact PySem.P.repr_of_str ⟨.str (reprText x),H,I.tok _,⟨_,rfl⟩,fin⟩ (by simpa [jH] using ok4)
    |tuple k1 k2 k3 k4=> exact repr_of_reads' (.tuple k1 k2 k3 k4) ok2 (λz=> by rw [nd]at z;cases z) hr.gd (by lia) (λ_ _ e=> e) (λh' u tk hk=> ⟨.str _,H,I.kept hk,⟨u,rfl⟩,fin⟩) ok4
    |list k1 k2 k3 k4=> exact repr_of_reads' (.list k1 k2 k3 k4) ok2 (λz=> by rw [nd]at z;cases z) hr.gd (by lia) (λ_ _ e=> e) (λh' u tk hk=> ⟨.str _,H,I.kept hk,⟨u,rfl⟩,fin⟩) ok4
    |dict=> cases ok1
   ·exact h.elim
  ·exact h.elim
 ·exact h.elim
end PF
namespace PF
open PySem PySem.Spec
open L2
variable[XW]
abbrev GM:=D -> List D -> S -> R D
def fMt(g:GM)(fo:FE)(fa:FA):FE:=λρ s=> (fo ρ s).bind λd s1=> if (toL s1 d).isSome=true then (fa ρ s1).bind λds s2=> g d ds s2 else .bad
structure MB (X:Cx) (id:String) (g:GM):Prop where
 ex: ∃r,MtR X id r/\ ∀as H s x xs d ds Q,Rel X.K as H s -> RD X.K as H x d -> RDs X.K as H xs ds -> Dn X.K (rD X.K) as H (g d ds s) Q -> r x xs H Q
theorem az6{d:D}(rl:Rel K as H s)(r:RD K as H v d)(h:(toL s d).isSome=true):tyV K "list" v H:=by
 cases e:toL s d with
 |none=> rw [e]at h;cases h
 |some ds=>
  obtain⟨p,xs,rfl,hx,_⟩:=abl rl r e
  exact .inl ⟨rfl,xs,SqL.of hx⟩
theorem a3g{o:Expr}{fo:FE}{fa:FA}{name:Str}{id:String}{g:GM}{apos cpos:Pos}(slot:Slot "list" name id)(hty:typeOf (.builtin id)=pure (.type "method_descriptor"))(hm:MB X id g)(ho:RE X o fo)(ha:RA X (e::es) fa)(hbase:fQ o name X.env (eval o X.env)=eval o X.env:=by rfl)(hfew:((backTo cpos (starEach (e::es) X.env)).all (λx=> !x.1)&&(backToKw cpos (kH [] X.env)).all (λx=> x.1.isSome)
   &&decide ((e::es).length+([]:List ig).length+(if ([]:List ig).isEmpty then 0 else 1) < 30))=true:=by rfl) (hline:(apos.endLine==cpos.line)=true:=by rfl) (hs:starEach (e::es) X.env=(false,eval e X.env)::starEach es X.env:=by rfl) (hplain:(backTo cpos (starEach es X.env)).any (·.1)=false:=by rfl):
  RE X (.Call (.Attribute o name apos) (e::es) [] cpos) (fMt g fo fa):=by
 obtain⟨r,hr,hg⟩:=hm.ex
 obtain⟨to,po,ro⟩:=ho.ex
 obtain⟨ta,pa,ra⟩:=ha.ex
 refine⟨_,a4m PySem.F.plainAttrs_list slot hty hr po pa hbase hfew hline hs hplain,λas σ H ρ s Q rl en h=> ?_⟩
 refine ro as σ H ρ s _ rl en (Dn.bind h λd s1 as1 H1 v st1 rl1 r1 h1=> ?_)
 split at h1
 ·rename_i hl
  refine⟨az6 rl1 r1 hl,ra as1 σ H1 ρ s1 _ rl1 (en.mono st1) (Dn.bind h1 λds s2 as2 H2 vs st2 rl2 r2 h2=> ?_)⟩
  exact hg as2 H2 s2 v vs d ds Q rl2 (r1.mono st2) r2 h2
 ·exact h1.elim
theorem ar1{o:HO}{d:D}{ys:List V}{es:List D}{Q:VK}(rl:Rel K as H s)(ha:as.ix[n]?=some (some p))(c:Chg H p (.lst ys) H')(rs:RDs K as H ys es)(rv:RD K as H v d)(h:Dn K (rD K) as H (.ok d (s.set n (.lst es))) Q):Q v H':=by
 have st:=yb (kc.mpr ⟨n,ha⟩) (λz=> rl.hx p z (kc.mpr ⟨n,ha⟩)) c
 exact h v as H' st (rl.chg ha c ⟨ys,c.at,rs.mono st⟩) (rv.mono st)
noncomputable def onL(d:D)(s:S)(k:Nat -> List D -> R D):R D:=match d with
 |.ref n=> match s[n]? with
  |some (.lst ds)=> k n ds
  |_=>.bad
 |_=>.bad
theorem arz{d:D}{k:Nat -> List D -> R D}{Q:VK}(rl:Rel K as H s)(r:RD K as H v d)(h:Dn K (rD K) as H (onL d s k) Q): ∃p n xs ds,v=.ref p/\as.ix[n]?=some (some p)/\H p=some (.lst xs)/\RDs K as H xs ds/\Dn K (rD K) as H (k n ds) Q:=by
 cases r with
 | @ref p n l hr=>
  have h:Dn K (rD K) as H (match s[n]? with|some (O.lst ds)=> k n ds|_=>.bad) Q:=h
  split at h
  ·rename_i ds e
   obtain⟨ha,xs,hx,rs⟩:=y6 rl hr e
   exact⟨p,n,xs,ds,rfl,ha,hx,rs,h⟩
  ·exact h.elim
 |_=> exact h.elim
def xj:GM:=λd ds s=> match ds with
 |[x]=> onL d s λn xs=> if xs.length < sizeLine then .ok .non (s.set n (.lst (xs++ [x]))) else .bad
 |_=>.bad
theorem avb:MB X "list.append" xj:=⟨_,aon,λas H s x xs d ds Q rl r rs h=> by
 unfold xj at h
 split at h
 ·obtain⟨v,rfl,rv⟩:=rs.one
  obtain⟨p,n,ys,es,rfl,ha,hy,re,h⟩:=arz rl r h
  split at h
  ·rename_i hz
   exact⟨p,ys,v,rfl,rfl,hy,by rw [re.length];exact hz,λH' c=> ar1 (o:=.lst []) rl ha c (re.append (.cons rv .nil)) (.da .non) h⟩
  ·exact h.elim
 ·exact h.elim⟩
def aom(o i v:D)(s:S):R D:=match i with
 |.int k=> onL o s λn xs=> match ixN xs.length k with
  |some j=>.ok .non (s.set n (.lst (xs.set j v)))
  |none=>.bad
 |_=>.bad
noncomputable def adf:List D -> Option (List Bool)
 |[]=> some []
 |.bl x::r=> match adf r with
  |some xs=> some (x::xs)
  |none=> none
 |_=> none
theorem aq4: ∀{xs:List V} {ds:List D} {bs:List Bool},RDs K as H xs ds -> adf ds=some bs -> xs=bs.map V.bl
 |_,[],ss,r,h=> by cases r;cases h;rfl
 | _,d::ds,ss,r,h=> by
  cases r with
  | cons r rs=>
   unfold adf at h
   split at h
   ·rename_i e;cases e
   ·rename_i x rr e
    cases e
    split at h
    ·rename_i ys e2
     cases h
     have h1:=aq4 rs e2
     cases r.bl_inv
     rw [h1];rfl
    ·cases h
   ·cases h
def ae8(ds:List D)(s:S):R D:=match ds with
 |[d]=> match (toL s d).bind adf with
  |some bs=>.ok (.bl (bs.all id)) s
  |none=>.bad
 |_=>.bad
theorem a4n(hc:X.calm=true):CB X (.builtin "all") ae8:=abr λpins sh σ H as s xs ds us Q I rl rs ru h=> by
 unfold ae8 at h
 split at h
 ·obtain⟨v,rfl,rv⟩:=rs.one
  split at h
  ·rename_i bs e
   cases e2:toL s _ with
   |none=> rw [e2]at e;cases e
   |some ys=>
    rw [e2]at e
    obtain⟨p,zs,rfl,hx,rz⟩:=abl rl rv e2
    have ez:=aq4 rz (show adf ys=some bs from e)
    subst ez
    exact ar5 hc pins sh σ H _ us Q I ru ⟨p,bs,rfl,SqL.of hx,Dn.now (Q:=Q) h rl (.da (.bl _))⟩
  ·exact h.elim
 ·exact h.elim
end PF
namespace PF
open PySem PySem.Spec
open L2
variable[XW]
theorem u64{k:Nat}(hr:Room k A):A.units+64 < cLine:=by have:=hr.un;lia
theorem u65{k:Nat}(hr:Room k A):A.units+65 < cLine:=by have:=hr.un;lia
end PF
namespace PF
open PySem PySem.Spec
open L2
def R.Wk{α β:Type}(f:α -> S -> R β)(Q:β -> S -> Prop)(a:α)(s:S):Prop:=(f a s).W Q
theorem R.W_bindk{α β:Type}(r:R α)(f:α -> S -> R β)(Q:β -> S -> Prop):(r.bind f).W Q=r.W (R.Wk f Q):=R.W_bind r f Q
@[simp] theorem R.Wk_app{α β:Type}(f:α -> S -> R β)(Q:β -> S -> Prop)(a:α)(s:S):R.Wk f Q a s=(f a s).W Q:=(rfl)
section
variable{s:S}{m:Bool}{n:Nat}{i j:Int}{x y:Str}{b:Bool}{xs ys:List ac}{ds es:List D}{d e:D}{ρ:En}{Q:D -> S -> Prop}
theorem ko:sizeLine=16777216:=cp
@[simp] theorem a6e:kf m (.int i) (.int j) s=.ok (.int (i+j)) s:=(rfl)
theorem ak0(h:xs.length+ys.length <=16777216):kf m (.tup xs) (.tup ys) s=.ok (.tup (xs++ys)) s:=if_pos (by rw [ko];exact h)
theorem abn(h:xs.length+ys.length <=16777216):kf false (.lst xs) (.lst ys) s=.ok (.lst (xs++ys)) s:=by
 show (if (xs.map D.da).length+(ys.map D.da).length <=sizeLine then kh false (xs.map D.da++ys.map D.da) s else .bad)=_
 rw [if_pos (by rw [ko,ak,ak];exact h),←c6]
 show (match j3 _ with|some xs=> R.ok (D.lst xs) s|none=>.bad)=_
 rw [qh]
theorem abd(h:(-(2^64) < i/\i < 2^64)\/(-(2^64) < j/\j < 2^64)):yq (.int i) (.int j) s=.ok (.int (i*j)) s:=if_pos h
theorem afm(h:0 < j)(h2:j < 1073741824):acz (.int i) (.int j) s=.ok (.int (i/j)) s:=if_pos ⟨h,h2⟩
theorem xw(h:0 < j):xp (.int i) (.int j) s=.ok (.int (i % j)) s:=if_pos h
theorem akr(h:0 <=j)(h1:j <=1000000)(h2:i.natAbs < 2^64):afn (.int i) (.int j) s=.ok (.int (i^j.toNat)) s:=if_pos ⟨h,h1,h2⟩
@[simp] theorem a71:gLt (.int i) (.int j) s=.ok (.bl (decide (i < j))) s:=(rfl)
@[simp] theorem a79:gLe (.int i) (.int j) s=.ok (.bl (decide (i <=j))) s:=(rfl)
@[simp] theorem a6s:gGt (.int i) (.int j) s=.ok (.bl (decide (j < i))) s:=(rfl)
@[simp] theorem a6l:gGe (.int i) (.int j) s=.ok (.bl (decide (j <=i))) s:=(rfl)
@[simp] theorem a6r:gIs d .non s=.ok (.bl (isN d)) s:=(rfl)
@[simp] theorem a4q:aaq d .non s=.ok (.bl (!isN d)) s:=(rfl)
theorem ajt(x y:Str):aM (.str x) (.str y)=decide (x=y):=by
 show (x==y)=_
 (rw [bh,beq_iff_eq,decide_eq_true_eq])
theorem aqv{p q:ac}(h1:okD p=true)(h2:okD q=true):gEq (.da p) (.da q) s=.ok (.bl (aM p q)) s:=by
 have e:ao4 (.da p) (.da q) s=.ok (.bl (aM p q)) s:=if_pos ⟨h1,h2⟩
 cases p <;> cases q <;> first|exact e|(rw [ajt];rfl)
theorem aea{p q:ac}(h1:okD p=true)(h2:okD q=true):gNe (.da p) (.da q) s=.ok (.bl (!PyData.eqv p q)) s:=by
 have e:aoj (.da p) (.da q) s=.ok (.bl (!PyData.eqv p q)) s:=if_pos ⟨h1,h2⟩
 cases p <;> cases q <;> first|exact e|(rw [ajt];rfl)
theorem amm{k:Nat}(h:s[n]?=some (.lst ds))(h2:ds[k]?=some d):gIx (.ref n) (.int (k:Int)) s=.ok d s:=by
 show (match (match s[n]? with|some (O.lst ds)=> some ds|_=> none) with|some ds=> (match atI ds (k:Int) with|some d=> R.ok d s|none=>.bad)|none=>.bad)=_
 rw [h]
 show (match atI ds (k:Int) with|some d=> R.ok d s|none=>.bad)=_
 rw [ahi h2]
theorem qf{k:Nat}{p:ac}(h2:xs[k]?=some p):gIx (.tup xs) (.int (k:Int)) s=.ok (.da p) s:=by
 show (match atI (xs.map D.da) (k:Int) with|some d=> R.ok d s|none=>.bad)=_
 rw [ahi (v:=D.da p) (by rw [aN,h2];rfl)]
theorem ab6{k:Nat}{p:ac}(h2:xs[k]?=some p):gIx (.lst xs) (.int (k:Int)) s=.ok (.da p) s:=by
 show (match atI (xs.map D.da) (k:Int) with|some d=> R.ok d s|none=>.bad)=_
 rw [ahi (v:=D.da p) (by rw [aN,h2];rfl)]
def azt(g:D -> D -> S -> R D)(fb:FE)(ρ:En)(x:D)(s:S):R D:=(fb ρ s).bind λy s2=> g x y s2
noncomputable def asn(g:D -> D -> S -> R D)(x y:D)(s:S):R D:=g x y s
@[simp] theorem ba0{g:D -> D -> S -> R D}{fb:FE}:fOp g fa fb ρ s=(fa ρ s).bind (azt g fb ρ):=(rfl)
@[simp] theorem a96{g:D -> D -> S -> R D}{fb:FE}:azt g fb ρ d s=(fb ρ s).bind (asn g d):=(rfl)
@[simp] theorem a90{g:D -> D -> S -> R D}:asn g d e s=g d e s:=(rfl)
@[simp] theorem e_c:fC d ρ s=.ok d s:=(rfl)
@[simp] theorem a85{r:En}:ja 0 (some d::r) s=.ok d s:=(rfl)
@[simp] theorem a7l{r:En}:ja 1 (x0::some d::r) s=.ok d s:=(rfl)
@[simp] theorem a86{r:En}:ja 2 (x0::x1::some d::r) s=.ok d s:=(rfl)
@[simp] theorem a7o{r:En}:ja 3 (x0::x1::x2::some d::r) s=.ok d s:=(rfl)
@[simp] theorem a8u{r:En}:ja 4 (x0::x1::x2::x3::some d::r) s=.ok d s:=(rfl)
@[simp] theorem a8h{r:En}:ja 5 (x0::x1::x2::x3::x4::some d::r) s=.ok d s:=(rfl)
@[simp] theorem a7g{r:En}:ja 6 (x0::x1::x2::x3::x4::x5::some d::r) s=.ok d s:=(rfl)
@[simp] theorem a7j{r:En}{x6:Option D}:ja 7 (x0::x1::x2::x3::x4::x5::x6::some d::r) s=.ok d s:=(rfl)
@[simp] theorem a7u{r:En}{x6 x7:Option D}:ja 8 (x0::x1::x2::x3::x4::x5::x6::x7::some d::r) s=.ok d s:=(rfl)
@[simp] theorem a83{r:En}{x6 x7 x8:Option D}:ja 9 (x0::x1::x2::x3::x4::x5::x6::x7::x8::some d::r) s=.ok d s:=(rfl)
noncomputable def aoa(g:FS)(fl:Fl)(s:S):R Fl:=match fl with
 |.nx ρ1=> g ρ1 s
 |fl=>.ok fl s
@[simp] theorem a9l{f g:FS}:jd f g ρ s=(f ρ s).bind (aoa g):=(rfl)
@[simp] theorem a8m{g:FS}:aoa g (.nx ρ) s=g ρ s:=(rfl)
@[simp] theorem a8g{g:FS}:aoa g (.rt d) s=.ok (.rt d) s:=(rfl)
noncomputable def a1l(d:D)(s:S):R Fl:=.ok (.rt d) s
@[simp] theorem a97:jt f ρ s=(f ρ s).bind a1l:=(rfl)
@[simp] theorem a7r:a1l d s=.ok (.rt d) s:=(rfl)
@[simp] theorem a8k:jp ρ s=.ok (.nx ρ) s:=(rfl)
noncomputable def aot(ρ:En)(_:D)(s:S):R Fl:=.ok (.nx ρ) s
@[simp] theorem a7h:zk f ρ s=(f ρ s).bind (aot ρ):=(rfl)
@[simp] theorem a74:aot ρ d s=.ok (.nx ρ) s:=(rfl)
noncomputable def acv(i:Nat)(ρ:En)(d:D)(s:S):R Fl:=.ok (.nx (ρ.set i (some d))) s
@[simp] theorem a8y{i:Nat}:jj i f ρ s=(f ρ s).bind (acv i ρ):=(rfl)
noncomputable def avc(f g:FS)(ρ:En)(k:Bool)(s:S):R Fl:=if k=true then f ρ s else g ρ s
@[simp] theorem a9z{c:FT}{f g:FS}:jy c f g ρ s=(c ρ s).bind (avc f g ρ):=(rfl)
@[simp] theorem a9d{f g:FS}:avc f g ρ true s=f ρ s:=(rfl)
@[simp] theorem a9t{f g:FS}:avc f g ρ false s=g ρ s:=(rfl)
noncomputable def kIf(f g:FE)(ρ:En)(k:Bool)(s:S):R D:=if k=true then f ρ s else g ρ s
@[simp] theorem baj{c:FT}{g:FE}:fIf c f g ρ s=(c ρ s).bind (kIf f g ρ):=(rfl)
@[simp] theorem a7q{g:FE}:kIf f g ρ true s=f ρ s:=(rfl)
@[simp] theorem a7w{g:FE}:kIf f g ρ false s=g ρ s:=(rfl)
noncomputable def avy(d:D)(s:S):R Bool:=match d with
 |.bl k=>.ok k s
 |_=>.bad
@[simp] theorem a7k:jf f ρ s=(f ρ s).bind avy:=(rfl)
@[simp] theorem a78:avy (.bl b) s=.ok b s:=(rfl)
noncomputable def ans(g:FT)(ρ:En)(c:Bool)(s:S):R Bool:=if c=true then g ρ s else .ok false s
noncomputable def atc(g:FT)(ρ:En)(c:Bool)(s:S):R Bool:=if c=true then .ok true s else g ρ s
noncomputable def avx(c:Bool)(s:S):R Bool:=.ok (!c) s
@[simp] theorem a84{f g:FT}:vt f g ρ s=(f ρ s).bind (ans g ρ):=(rfl)
@[simp] theorem a9c{f g:FT}:yc f g ρ s=(f ρ s).bind (atc g ρ):=(rfl)
@[simp] theorem a8d{f:FT}:xv f ρ s=(f ρ s).bind avx:=(rfl)
@[simp] theorem a72{g:FT}:ans g ρ true s=g ρ s:=(rfl)
@[simp] theorem a76{g:FT}:ans g ρ false s=.ok false s:=(rfl)
@[simp] theorem a7s{g:FT}:atc g ρ true s=.ok true s:=(rfl)
@[simp] theorem a8f{g:FT}:atc g ρ false s=g ρ s:=(rfl)
@[simp] theorem a73:avx b s=.ok (!b) s:=(rfl)
noncomputable def a0y(g:FE)(ρ:En)(d:D)(s:S):R D:=match d with
 |.bl true=> g ρ s
 |.bl false=>.ok (.bl false) s
 |_=>.bad
noncomputable def kOr(g:FE)(ρ:En)(d:D)(s:S):R D:=match d with
 |.bl false=> g ρ s
 |.bl true=>.ok (.bl true) s
 |_=>.bad
@[simp] theorem a94{g:FE}:adc f g ρ s=(f ρ s).bind (a0y g ρ):=(rfl)
@[simp] theorem bac{g:FE}:fOr f g ρ s=(f ρ s).bind (kOr g ρ):=(rfl)
@[simp] theorem a7i{g:FE}:a0y g ρ (.bl true) s=g ρ s:=(rfl)
@[simp] theorem a9y{g:FE}:kOr g ρ (.bl true) s=.ok (.bl true) s:=(rfl)
@[simp] theorem a99{g:FE}:kOr g ρ (.bl false) s=g ρ s:=(rfl)
def am3(g g':D -> D -> S -> R D)(fb fc:FE)(ρ:En)(x:D)(s:S):R D:=(fb ρ s).bind λy s2=> (g x y s2).bind λz s3=> match z with
 |.bl true=> (fc ρ s3).bind λw s4=> g' y w s4
 |.bl false=>.ok (.bl false) s3
 |_=>.bad
def amz(g g':D -> D -> S -> R D)(fc:FE)(ρ:En)(x y:D)(s:S):R D:=(g x y s).bind λz s3=> match z with
 |.bl true=> (fc ρ s3).bind λw s4=> g' y w s4
 |.bl false=>.ok (.bl false) s3
 |_=>.bad
def an6(g':D -> D -> S -> R D)(fc:FE)(ρ:En)(y z:D)(s:S):R D:=match z with
 |.bl true=> (fc ρ s).bind λw s4=> g' y w s4
 |.bl false=>.ok (.bl false) s
 |_=>.bad
@[simp] theorem a6n{g g':D -> D -> S -> R D}{fb fc:FE}:agv g g' fa fb fc ρ s=(fa ρ s).bind (am3 g g' fb fc ρ):=(rfl)
@[simp] theorem a5s{g g':D -> D -> S -> R D}{fb fc:FE}:am3 g g' fb fc ρ d s=(fb ρ s).bind (amz g g' fc ρ d):=(rfl)
@[simp] theorem a53{g g':D -> D -> S -> R D}{fc:FE}:amz g g' fc ρ d e s=(g d e s).bind (an6 g' fc ρ e):=(rfl)
@[simp] theorem a61{g':D -> D -> S -> R D}{fc:FE}:an6 g' fc ρ e (.bl true) s=(fc ρ s).bind (asn g' e):=(rfl)
def aqe(g:FA)(ρ:En)(x:D)(s:S):R (List D):=(g ρ s).bind λxs s2=>.ok (x::xs) s2
noncomputable def ajh(x:D)(xs:List D)(s:S):R (List D):=.ok (x::xs) s
@[simp] theorem a9s:jc ρ s=.ok [] s:=(rfl)
@[simp] theorem ba7:fVs ds ρ s=.ok ds s:=(rfl)
@[simp] theorem a7c{g:FA}:jb f g ρ s=(f ρ s).bind (aqe g ρ):=(rfl)
@[simp] theorem a6j{g:FA}:aqe g ρ d s=(g ρ s).bind (ajh d):=(rfl)
@[simp] theorem amj:ajh d ds s=.ok (d::ds) s:=(rfl)
def ajw(ds:List D)(s:S):R D:=if ds.length <=sizeLine then ah5 ds s else .bad
def ac3(m:Bool)(ds:List D)(s:S):R D:=if ds.length <=sizeLine then kh m ds s else .bad
@[simp] theorem a9o{f:FA}:vb f ρ s=(f ρ s).bind ajw:=(rfl)
@[simp] theorem a93{f:FA}:qr m f ρ s=(f ρ s).bind (ac3 m):=(rfl)
theorem ayx(h:j3 ds=some xs)(hl:ds.length <=16777216):ac3 false ds s=.ok (.lst xs) s:=by
 unfold ac3 kh
 rw [if_pos (by rw [ko];exact hl),if_neg ax,h]
@[simp] theorem ba5:ajw [] s=.ok (.tup []) s:=(rfl)
@[simp] theorem bak:ac3 false [] s=.ok (.lst []) s:=(rfl)
@[simp] theorem a9p:ac3 true [] s=.ok (.ref s.length) (s++ [.lst []]):=(rfl)
@[simp] theorem ba6{a:ac}:ajw [.da a] s=.ok (.tup [a]) s:=(rfl)
@[simp] theorem ba1{a b:ac}:ajw [.da a,.da b] s=.ok (.tup [a,b]) s:=(rfl)
@[simp] theorem bae{a b c:ac}:ajw [.da a,.da b,.da c] s=.ok (.tup [a,b,c]) s:=(rfl)
@[simp] theorem bai{a:ac}:ac3 false [.da a] s=.ok (.lst [a]) s:=(rfl)
@[simp] theorem bag{a b c:ac}:ac3 false [.da a,.da b,.da c] s=.ok (.lst [a,b,c]) s:=(rfl)
@[simp] theorem ba8{a b c d:ac}:ac3 false [.da a,.da b,.da c,.da d] s=.ok (.lst [a,b,c,d]) s:=(rfl)
def a28(m:Bool)(lo hi:FO)(ρ:En)(d:D)(s:S):R D:=(lo ρ s).bind λl s2=> (hi ρ s2).bind λu s3=> gSl m d l u s3
def a1w(m:Bool)(hi:FO)(ρ:En)(d:D)(l:Option Int)(s:S):R D:=(hi ρ s).bind λu s3=> gSl m d l u s3
def a1n(m:Bool)(d:D)(l u:Option Int)(s:S):R D:=gSl m d l u s
@[simp] theorem baf{lo hi:FO}:fSl m f lo hi ρ s=(f ρ s).bind (a28 m lo hi ρ):=(rfl)
@[simp] theorem a9m{lo hi:FO}:a28 m lo hi ρ d s=(lo ρ s).bind (a1w m hi ρ d):=(rfl)
@[simp] theorem a9a{hi:FO}{l:Option Int}:a1w m hi ρ d l s=(hi ρ s).bind (a1n m d l):=(rfl)
@[simp] theorem a9q{l u:Option Int}:a1n m d l u s=gSl m d l u s:=(rfl)
@[simp] theorem baa:fNo ρ s=.ok none s:=(rfl)
noncomputable def aw7(d:D)(s:S):R (Option Int):=match d with
 |.int i=>.ok (some i) s
 |_=>.bad
@[simp] theorem a7p:aaz f ρ s=(f ρ s).bind aw7:=(rfl)
@[simp] theorem a6h:aw7 (.int i) s=.ok (some i) s:=(rfl)
noncomputable def a2x(d:D)(s:S):R D:=match d with
 |.int i=>.ok (.int (-i)) s
 |_=>.bad
@[simp] theorem a8z:afv f ρ s=(f ρ s).bind a2x:=(rfl)
@[simp] theorem a80:a2x (.int i) s=.ok (.int (-i)) s:=(rfl)
@[simp] theorem a92:yp f ρ s=(f ρ s).bind anq:=(rfl)
@[simp] theorem a7v:anq (.bl b) s=.ok b s:=(rfl)
@[simp] theorem ba3{g:FF}{f:FA}:fCB g f ρ s=(f ρ s).bind g:=(rfl)
def aex(n:Nat)(F:FF)(ρ:En)(ds:List D)(s:S):R D:=if ds.length=n then (F ds s).at ρ else .bad
@[simp] theorem a87{F:FF}{f:FA}:jh n F f ρ s=(f ρ s).bind (aex n F ρ):=(rfl)
@[simp] theorem a6o{F:FF}:aex 1 F ρ [d] s=(F [d] s).at ρ:=(rfl)
@[simp] theorem a6q{F:FF}:aex 2 F ρ [d,e] s=(F [d,e] s).at ρ:=(rfl)
@[simp] theorem a77{F:FF}{d3:D}:aex 3 F ρ [d,e,d3] s=(F [d,e,d3] s).at ρ:=(rfl)
@[simp] theorem a6t{F:FF}{d3 d4:D}:aex 4 F ρ [d,e,d3,d4] s=(F [d,e,d3,d4] s).at ρ:=(rfl)
@[simp] theorem a6v{F:FF}{d3 d4 d5:D}:aex 5 F ρ [d,e,d3,d4,d5] s=(F [d,e,d3,d4,d5] s).at ρ:=(rfl)
@[simp] theorem a6k:vo [.tup xs] s=.ok (.int xs.length) s:=by show R.ok (D.int (xs.map D.da).length) s=_;rw [ak]
@[simp] theorem a70:vo [.lst xs] s=.ok (.int xs.length) s:=by show R.ok (D.int (xs.map D.da).length) s=_;rw [ak]
theorem len_str(h:x.length <=16777216):vo [.str x] s=.ok (.int x.length) s:=if_pos (by rw [ko];exact h)
theorem awl(h:s[n]?=some (.lst ds)):vo [.ref n] s=.ok (.int ds.length) s:=by
 show (match (match s[n]? with|some (O.lst ds)=> some ds|_=> none) with|some xs=> R.ok (D.int xs.length) s|none=>.bad)=_
 rw [h]
@[simp] theorem a4x:xx [.lst xs] s=.ok (.tup xs) s:=by
 show (match j3 (xs.map D.da) with|some xs=> R.ok (D.tup xs) s|none=>.bad)=_
 rw [qh]
@[simp] theorem a6y{p:ac}:zm [.da p,.ty "tuple"] s=.ok (.bl (aa3 p "tuple")) s:=(rfl)
@[simp] theorem a6w{p:ac}:zm [.da p,.ty "int"] s=.ok (.bl (aa3 p "int")) s:=(rfl)
theorem an3{p:ac}(h:okS p=true):acq [.da p] s=.ok (.str p.shown) s:=if_pos h
@[simp] theorem aq5{lo hi:Option Int}:gSl m (.tup xs) lo hi s=.ok (.tup (k7 xs lo hi)) s:=(rfl)
theorem afp{α β:Type}(f:α -> β)(l:List α)(lo hi:Option Int):k7 (l.map f) lo hi=(k7 l lo hi).map f:=by
 unfold k7
 rw [ak,lZ,l4]
@[simp] theorem a88{lo hi:Option Int}:gSl false (.lst xs) lo hi s=.ok (.lst (k7 xs lo hi)) s:=by
 show (match j3 (k7 (xs.map D.da) lo hi) with|some xs=> R.ok (D.lst xs) s|none=>.bad)=_
 rw [afp,qh]
@[simp] theorem a8j{lo hi:Option Int}:gSl false (.frz xs) lo hi s=.ok (.lst (k7 xs lo hi)) s:=by
 show (match j3 (k7 (xs.map D.da) lo hi) with|some xs=> R.ok (D.lst xs) s|none=>.bad)=_
 rw [afp,qh]
noncomputable def jw(fl:Fl)(s:S):R D:=match fl with
 |.rt d=>.ok d s
 |.nx _=>.ok .non s
 |_=>.bad
@[simp] theorem a6p:jw (.rt d) s=.ok d s:=(rfl)
@[simp] theorem a6i:jw (.nx ρ) s=.ok .non s:=(rfl)
def ats(g:GM)(fa:FA)(ρ:En)(d:D)(s:S):R D:=if (toL s d).isSome=true then (fa ρ s).bind λds s2=> g d ds s2 else .bad
noncomputable def a0e(g:GM)(d:D)(ds:List D)(s:S):R D:=g d ds s
@[simp] theorem ba9{g:GM}{fo:FE}{fa:FA}:fMt g fo fa ρ s=(fo ρ s).bind (ats g fa ρ):=(rfl)
theorem aj2{g:GM}{fa:FA}(h:s[n]?=some (.lst ds)):ats g fa ρ (.ref n) s=(fa ρ s).bind (a0e g (.ref n)):=by
 unfold ats
 rw [if_pos]
 ·rfl
 ·show ((match s[n]? with|some (O.lst ds)=> some ds|_=> none):Option (List D)).isSome=true
  rw [h];rfl
@[simp] theorem a9x{g:GM}:a0e g d ds s=g d ds s:=(rfl)
theorem abo(h:s[n]?=some (.lst ds))(hl:ds.length < 16777216):xj (.ref n) [d] s=.ok .non (s.set n (.lst (ds++ [d]))):=by
 show (match s[n]? with|some (O.lst xs)=> (if xs.length < sizeLine then R.ok D.non (s.set n (.lst (xs++ [d]))) else .bad)|_=>.bad)=_
 rw [h]
 show (if ds.length < sizeLine then _ else _)=_
 rw [if_pos (by rw [ko];exact hl)]
def at9(g:Tg)(ρ:En)(d:D)(s:S):R Fl:=match j6 g d ρ with
 |some ρ1=>.ok (.nx ρ1) s
 |none=>.bad
@[simp] theorem a9v:av4 g f ρ s=(f ρ s).bind (at9 g ρ):=(rfl)
theorem a0v(h:j6 g d ρ=some ρ1):at9 g ρ d s=.ok (.nx ρ1) s:=by unfold at9;rw [h]
def kFor(g:Tg)(fb:FS)(ρ:En)(p:Wk)(s:S):R Fl:=chk p s (vy g fb p p.1 ρ s)
@[simp] theorem a9i:qj fi g fb ρ s=(fi ρ s).bind (kFor g fb ρ):=(rfl)
@[simp] theorem a8l:kFor g fb ρ (ds,none) s=vy g fb (ds,none) ds ρ s:=xc
@[simp] theorem a5f:fIt f ρ s=(f ρ s).bind agl:=(rfl)
@[simp] theorem a8a:agl (.lst xs) s=.ok (xs.map D.da,none) s:=(rfl)
@[simp] theorem ajq:agl (.tup xs) s=.ok (xs.map D.da,none) s:=(rfl)
@[simp] theorem a9e{f:FA}:zw f ρ s=(f ρ s).bind ap4:=(rfl)
theorem z9(h: -(2^62) <=j)(h2:j < 2^62):ap4 [.int j] s=.ok (aag 0 j.toNat,none) s:=if_pos ⟨h,h2⟩
def agi(g:Tg)(fb:FS)(p:Wk)(r:List D)(fl:Fl)(s:S):R Fl:=match fl with
 |.nx ρ2=> chk p s (vy g fb p r ρ2 s)
 |.ct ρ2=> chk p s (vy g fb p r ρ2 s)
 |.bk ρ2=>.ok (.nx ρ2) s
 |.rt d=>.ok (.rt d) s
theorem as0{p:Wk}(h:j6 g d ρ=some ρ1):vy g fb p (d::r) ρ s=(fb ρ1 s).bind (agi g fb p r):=by
 rw [vy,h];rfl
@[simp] theorem ax5:agi g fb (ds,none) r (.nx ρ) s=vy g fb (ds,none) r ρ s:=xc
@[simp] theorem az3:agi g fb (ds,none) r (.ct ρ) s=vy g fb (ds,none) r ρ s:=xc
@[simp] theorem ay5{p:Wk}:agi g fb p r (.bk ρ) s=.ok (.nx ρ) s:=(rfl)
@[simp] theorem ax1{p:Wk}:agi g fb p r (.rt d) s=.ok (.rt d) s:=(rfl)
def kLc(m:Bool)(js:List Nat)(k:Nat)(g:Tg)(ft:FT)(fe:FE)(ρ:En)(p:Wk)(s:S):R D:=if p.1.length <=sizeLine then chk p s ((kq g ft fe (bo k none++aae ρ js) p p.1 s).bind λds s2=> kh m ds s2) else .bad
@[simp] theorem a5z{k:Nat}:fLc m js k fi g ft fe ρ s=(fi ρ s).bind (kLc m js k g ft fe ρ):=(rfl)
def avr(m:Bool)(ds:List D)(s:S):R D:=kh m ds s
theorem aan{k:Nat}{ρ0:En}(h:ds.length <=16777216)(e:bo k none++aae ρ js=ρ0):kLc m js k g ft fe ρ (ds,none) s=(kq g ft fe ρ0 (ds,none) ds s).bind (avr m):=by
 subst e
 unfold kLc
 rw [if_pos (by rw [ko];exact h),xc];rfl
@[simp] theorem ag2:avr false (xs.map D.da) s=.ok (.lst xs) s:=by
 show (match j3 _ with|some xs=> R.ok (D.lst xs) s|none=>.bad)=_
 rw [qh]
@[simp] theorem at1{p:Wk}:kq g ft fe ρ p [] s=.ok [] s:=(rfl)
def ak5(g:Tg)(ft:FT)(fe:FE)(ρ0:En)(p:Wk)(r:List D)(ρ1:En)(b:Bool)(s2:S):R (List D):=if b=true then (fe ρ1 s2).calm.bind λx s3=> chk p s3 ((kq g ft fe ρ0 p r s3).bind λxs s4=>.ok (x::xs) s4) else chk p s2 (kq g ft fe ρ0 p r s2)
def arc(g:Tg)(ft:FT)(fe:FE)(ρ0:En)(p:Wk)(r:List D)(x:D)(s3:S):R (List D):=chk p s3 ((kq g ft fe ρ0 p r s3).bind λxs s4=>.ok (x::xs) s4)
theorem ahz{p:Wk}(h:j6 g d ρ=some ρ1):kq g ft fe ρ p (d::r) s=(ft ρ1 s).calm.bind (ak5 g ft fe ρ p r ρ1):=by
 rw [kq,h];rfl
@[simp] theorem aq2{p:Wk}:ak5 g ft fe ρ p r ρ1 true s=(fe ρ1 s).calm.bind (arc g ft fe ρ p r):=(rfl)
@[simp] theorem ari:ak5 g ft fe ρ (ds,none) r ρ1 false s=kq g ft fe ρ (ds,none) r s:=xc
@[simp] theorem aqq:arc g ft fe ρ (ds,none) r d s=(kq g ft fe ρ (ds,none) r s).bind (ajh d):=xc
@[simp] theorem a91:abe ρ s=.ok true s:=(rfl)
theorem a9u:ac3 true [a0] s=.ok (.ref s.length) (s++ [.lst [a0]]):=(rfl)
theorem a6u(h:xs.length <=16777216):ac3 false (xs.map D.da) s=.ok (.lst xs) s:=ayx (qh xs) (by rw [ak];exact h)
theorem it0{a0:ac}{r:List ac}:gIx (.tup (a0::r)) (.int 0) s=.ok (.da a0) s:=qf (k:=0) rfl
theorem it1{a0 a1:ac}{r:List ac}:gIx (.tup (a0::a1::r)) (.int 1) s=.ok (.da a1) s:=qf (k:=1) rfl
theorem it2{a0 a1 a2:ac}{r:List ac}:gIx (.tup (a0::a1::a2::r)) (.int 2) s=.ok (.da a2) s:=qf (k:=2) rfl
theorem a7d{r:En}{y:Option D}:acv 1 (x0::y::r) d s=.ok (.nx (x0::some d::r)) s:=(rfl)
theorem a82{r:En}{y:Option D}:acv 2 (x0::x1::y::r) d s=.ok (.nx (x0::x1::some d::r)) s:=(rfl)
theorem a37{r:En}{y:Option D}:j6 (.nm 2) d (x0::x1::y::r)=some (x0::x1::some d::r):=(rfl)
theorem a8r{r:En}{y:Option D}:acv 3 (x0::x1::x2::y::r) d s=.ok (.nx (x0::x1::x2::some d::r)) s:=(rfl)
theorem a8s{r:En}{y:Option D}:acv 4 (x0::x1::x2::x3::y::r) d s=.ok (.nx (x0::x1::x2::x3::some d::r)) s:=(rfl)
theorem aw3{r:En}{y:Option D}:j6 (.nm 4) d (x0::x1::x2::x3::y::r)=some (x0::x1::x2::x3::some d::r):=(rfl)
theorem a8x{r:En}{y:Option D}:acv 5 (x0::x1::x2::x3::x4::y::r) d s=.ok (.nx (x0::x1::x2::x3::x4::some d::r)) s:=(rfl)
theorem aw8{r:En}{y:Option D}:j6 (.nm 5) d (x0::x1::x2::x3::x4::y::r)=some (x0::x1::x2::x3::x4::some d::r):=(rfl)
theorem a8q{r:En}{y:Option D}:acv 6 (x0::x1::x2::x3::x4::x5::y::r) d s=.ok (.nx (x0::x1::x2::x3::x4::x5::some d::r)) s:=(rfl)
theorem a2z{r:En}{y:Option D}:j6 (.nm 6) d (x0::x1::x2::x3::x4::x5::y::r)=some (x0::x1::x2::x3::x4::x5::some d::r):=(rfl)
theorem a8n{r:En}{x6 y:Option D}:acv 7 (x0::x1::x2::x3::x4::x5::x6::y::r) d s=.ok (.nx (x0::x1::x2::x3::x4::x5::x6::some d::r)) s:=(rfl)
theorem avt{r:En}{x6 y:Option D}:j6 (.nm 7) d (x0::x1::x2::x3::x4::x5::x6::y::r)=some (x0::x1::x2::x3::x4::x5::x6::some d::r):=(rfl)
theorem a8o{r:En}{x6 x7 y:Option D}:acv 8 (x0::x1::x2::x3::x4::x5::x6::x7::y::r) d s=.ok (.nx (x0::x1::x2::x3::x4::x5::x6::x7::some d::r)) s:=(rfl)
theorem avo{r:En}{x6 x7 y:Option D}:j6 (.nm 8) d (x0::x1::x2::x3::x4::x5::x6::x7::y::r)=some (x0::x1::x2::x3::x4::x5::x6::x7::some d::r):=(rfl)
theorem aw0{r:En}{x6 x7 x8 y:Option D}:j6 (.nm 9) d (x0::x1::x2::x3::x4::x5::x6::x7::x8::y::r)=some (x0::x1::x2::x3::x4::x5::x6::x7::x8::some d::r):=(rfl)
end
@[simp] theorem R.bind_ok'{α β:Type}(a:α)(s:S)(f:α -> S -> R β):(R.ok a s).bind f=f a s:=(rfl)
@[simp] theorem R.W_ok'{α:Type}(a:α)(s:S)(Q:α -> S -> Prop):(R.ok a s).W Q=Q a s:=(rfl)
def flW(J:En -> S -> Prop)(Q:Fl -> S -> Prop)(fl:Fl)(s:S):Prop:=match fl with
 |.nx ρ=> J ρ s
 |.ct ρ=> J ρ s
 |.bk ρ=> Q (.nx ρ) s
 |.rt d=> Q (.rt d) s
theorem jx{g:Tg}{fb:FS}{all:List D}{Q:Fl -> S -> Prop}(J:List D -> En -> S -> Prop)
  (step: ∀d r ρ s,J (d::r) ρ s -> ∃ρ1,j6 g d ρ=some ρ1/\(fb ρ1 s).W (flW (J r) Q)) (fin: ∀ρ s,J [] ρ s -> Q (.nx ρ) s):
  ∀(ds:List D) (ρ:En) (s:S),J ds ρ s -> (vy g fb (all,none) ds ρ s).W Q
 |[],ρ,s,h=> fin ρ s h
 |d::r,ρ,s,h=> by
  obtain⟨ρ1,e,w⟩:=step d r ρ s h
  rw [as0 e,R.W_bind]
  refine R.W_mono w λfl s1 q=> ?_
  cases fl with
  |nx ρ2=> rw [ax5];exact jx J step fin r ρ2 s1 q
  |ct ρ2=> rw [az3];exact jx J step fin r ρ2 s1 q
  |bk ρ2=> rw [ay5];exact q
  |rt d=> rw [ax1];exact q
theorem afo{g:Tg}{ft:FT}{fe:FE}{ρ0:En}{all:List D}{Q:List D -> S -> Prop}(J:List D -> List D -> S -> Prop)
  (step: ∀d r acc s,J (d::r) acc s -> ∃ρ1,j6 g d ρ0=some ρ1/\(ft ρ1 s).W λb s2=> if b=true then (fe ρ1 s2).W λx s3=> J r (acc++ [x]) s3 else J r acc s2) (fin: ∀acc s,J [] acc s -> Q acc s):
  ∀(ds acc:List D) (s:S),J ds acc s -> (kq g ft fe ρ0 (all,none) ds s).W λxs s'=> Q (acc++xs) s'
 |[],acc,s,h=> by
  rw [at1,R.W_ok,b7]
  exact fin acc s h
 | d::r,acc,s,h=> by
  obtain⟨ρ1,e,w⟩:=step d r acc s h
  rw [ahz e,R.W_bind,R.W_calm]
  refine R.W_mono w λb s1 q=> ?_
  cases b with
  |false=>
   rw [ari]
   rw [if_neg ax]at q
   exact afo J step fin r acc s1 q
  |true=>
   rw [aq2,R.W_bind,R.W_calm]
   rw [if_pos rfl]at q
   refine R.W_mono q λx s2 q2=> ?_
   rw [aqq,R.W_bind]
   refine R.W_mono (afo J step fin r (acc++ [x]) s2 q2) λxs s3 q3=> ?_
   rw [amj,R.W_ok]
   rw [gD]at q3
   exact q3
structure Ext (s s':S):Prop where
 ex: ∃g,s'=s++g
theorem Ext.refl(s:S):Ext s s:=⟨[],by simp⟩
theorem Ext.trans{a b c:S}(h1:Ext a b)(h2:Ext b c):Ext a c:=by
 obtain⟨g,rfl⟩:=h1.ex
 obtain⟨k,rfl⟩:=h2.ex
 exact⟨g++k,by rw [gD]⟩
theorem Ext.add(s g:S):Ext s (s++g):=⟨g,rfl⟩
theorem Ext.len(h:Ext s s'):s.length <=s'.length:=by obtain⟨g,rfl⟩:=h.ex;simp
theorem Ext.get(h:Ext s s'){k:Nat}(e:s[k]?=some o):s'[k]?=some o:=by
 obtain⟨g,rfl⟩:=h.ex
 rw [aI (aB.mp e).1];exact e
theorem Ext.getE(h:Ext s s'){k:Nat}(e:k < s.length):s'[k]?=s[k]?:=by
 obtain⟨g,rfl⟩:=h.ex
 rw [aI e]
structure j8 (n:Nat) (s s':S):Prop where
 len:s.length <=s'.length
 get: ∀k,k≠n -> k < s.length -> s'[k]?=s[k]?
theorem j8.trans{a b c:S}(h1:j8 n a b)(h2:j8 n b c):j8 n a c:=⟨br h1.len h2.len,λk hk hl=> (h2.get k hk (aP hl h1.len)).trans (h1.get k hk hl)⟩
theorem Ext.same(h:Ext s s')(n:Nat):j8 n s s':=⟨h.len,λ_ _ hl=> h.getE hl⟩
theorem aa2:j8 n s (s.set n o):=⟨by simp,λk hk hl=> bL (cF hk)⟩
theorem j8.own{k:Nat}(h:j8 n s s')(hk:s.length <=k):j8 n s (s'.set k o):=⟨by simpa using h.len,λj hj hl=> by rw [bL (by lia)];exact h.get j hj hl⟩
theorem au4{α:Type}{s:List α}{o:α}(e:s[n]?=some o):s.set n o=s:=by
 apply cW
 intro i
 by_cases z:n=i
 ·subst z
  have hl:=(aB.mp e).1
  rw [a8 hl,e]
 ·rw [bL z]
structure Nice (B D:Nat) (d:ac):Prop where
 ls:d.leavesShort 13=true
 sh:d.showable=true
 cl:d.canLay0=true
 bk:d.bulk <=B
 dp:d.depth <=D
structure Nices (B D:Nat) (ds:List ac):Prop where
 ls:dS 13 ds=true
 sh:dM ds=true
 cl:ba ds=true
 bk:gw ds <=B
 dp:bH ds <=D
theorem Nice.mono{B D B' D':Nat}{d:ac}(h:Nice B D d)(hb:B <=B')(hd:D <=D'):Nice B' D' d:=⟨h.ls,h.sh,h.cl,br h.bk hb,br h.dp hd⟩
theorem Nices.mono{B D B' D':Nat}(h:Nices B D ds)(hb:B <=B')(hd:D <=D'):Nices B' D' ds:=⟨h.ls,h.sh,h.cl,br h.bk hb,br h.dp hd⟩
theorem Nices.nil{D:Nat}:Nices 0 D []:=⟨rfl,rfl,rfl,av _,b9 _⟩
theorem Nices.cons{B B' D:Nat}{d:ac}(h:Nice B D d)(t:Nices B' D ds):Nices (B+1+B') D (d::ds):=by
 obtain⟨a1,a2,a5,a3,a4⟩:=h
 obtain⟨b1,b2,b5,b3,b4⟩:=t
 refine⟨?_,?_,?_,?_,?_⟩
 ·simp only [dS,a1,b1,df]
 ·simp only [dM,a2,b2,df]
 ·simp only [ba,a5,b5,df]
 ·simp only [gw];lia
 ·simp only [bH];lia
theorem Nices.tup{B D:Nat}(h:Nices B D ds):Nice B (D+1) (.tuple ds):=by
 obtain⟨b1,b2,b5,b3,b4⟩:=h
 refine⟨?_,?_,?_,?_,?_⟩
 ·simpa only [cM] using b1
 ·simpa only [dR] using b2
 ·simpa only [eD] using b5
 ·simpa only [mT] using b3
 ·simp only [cv];lia
theorem Nices.lst{B D:Nat}(h:Nices B D ds):Nice B (D+1) (.list ds):=by
 obtain⟨b1,b2,b5,b3,b4⟩:=h
 refine⟨?_,?_,?_,?_,?_⟩
 ·simpa only [cM] using b1
 ·simpa only [dR] using b2
 ·simpa only [eD] using b5
 ·simpa only [mT] using b3
 ·simp only [cv];lia
theorem Nice.okD{B D:Nat}{d:ac}(h:Nice B D d)(hd:D <=64):okD d=true:=by
 unfold PF.okD
 rw [aD]
 exact⟨h.cl,decide_eq_true (br h.dp hd)⟩
theorem xy{B D:Nat}: ∀(ds:List ac),(∀d∈ds,Nice B D d) -> Nices ((B+1)*ds.length) D ds
 |[],_=> Nices.nil
 |d::r,h=> by
  refine (Nices.cons (h d au) (xy r λy hy=> h y (aw _ hy))).mono ?_ (av _)
  rw [aG,Nat.mul_add];lia
theorem ash:Nice 0 0 .none:=⟨rfl,rfl,rfl,av _,by simp [cv]⟩
theorem aa8(h0:i.natAbs < 10^12):Nice 0 0 (.int i):=by
 refine⟨?_,?_,rfl,av _,by simp [cv]⟩
 ·simp only [cM,decide_eq_true_eq]
  exact PyData.shown_int_le h0
 ·simp only [dR,decide_eq_true_eq]
  have:i.natAbs.log2 <=i.natAbs:=Nat.log2_le_self _
  by_cases z:i.natAbs=0
  ·rw [z];decide
  ·have h2:i.natAbs < 2^40:=by lia
   have:=(Nat.log2_lt z).mpr h2
   lia
noncomputable def ac7(x:Str):Bool:=(decide (0 < x.length)&&decide (x.length <=20))&&x.cps.toList.all λc=> decide (32 <=c)&&decide (c < 127)
theorem y7{x:Str}(h:ac7 x=true):Nice 20 0 (.str x):=by
 unfold ac7 at h
 simp only [aD,decide_eq_true_eq,aC]at h
 refine⟨?_,rfl,?_,h.1.2,by simp [cv]⟩
 ·simp only [cM,aC,decide_eq_true_eq]
  intro c hc
  have:=(h.2 c hc).2
  have e16:(16:Nat)^8=4294967296:=by decide
  lia
 ·simp only [eD]
  unfold PyData.strOk
  (rw [←Array.all_toList,aC])
  intro c hc
  have:=(h.2 c hc).2
  (exact decide_eq_true (by lia))
end PF
namespace PF
open PySem PySem.Spec
open L2
open PyProof.Rows (envOfC)
section
variable{P:aL}{w:aO}{K:am}{mg:Str -> Option ae}{base:Heap}{x:Str}{st:Stmt}{N ps:List Str}{k:Nat}
theorem fnF{f:Addr}(F:Fun K x x st f fd)(S:FnScope N ps (je st))(hm:N.length=m)(hn:ps.length=n)(hbody:BodyOk P w K mg base N x st k fb):FnOk P w K mg base (CX1 P w) (k+1) f fd ps (spF K n (j7 m fb)):=
 F.okX S (λvs H Q E h=> by rw [hn];exact h.1) λcdv A outer s H vs Q E hr h=> ame hm hbody f cdv A outer s H vs Q E hr h
theorem a0w{f:Addr}{F:FF}(h:FnOk P w K mg base (CX1 P w) k f fd ps (spF K 1 F))(ht: ∀ns:List Int,ns.length <=63 -> (F [.frz (ns.map aq)] []).W λd _=> d=.bl true):FnOk P w K mg base CX0 k f fd ps (agh K):=by
 have sp: ∀vs H Q E,agh K vs H Q E -> spF K 1 F vs H Q λ_ _ _=> False:=λvs H Q E q=> by
  obtain⟨a,ns,rfl,hS,hl,hq⟩:=q
  have R0:Rel K ⟨[],[]⟩ H []:=⟨rfl,λi j p e=> by simp at e,λn p o e=> by simp at e,λn o e=> by simp at e,λp hp=> by simp at hp,λp hp=> by simp at hp⟩
  refine⟨rfl,⟨[],[]⟩,[.frz (ns.map aq)],[],R0,.cons (.frz (λas' H' st=> ?_) (TDs.ints ns)) .nil,?_⟩
  ·exact L2.j8.seq (λb o hb=> st.keep b o (by simp [As.has]) hb) hS
  ·have t:=ht ns hl
   cases hr:F [.frz (ns.map aq)] []with
   |ok d s=>
    rw [hr]at t
    intro b as' H' st rl rb
    have:d=.bl true:=t
    subst this
    cases rb with
    |da z=> cases z;exact hq _
   |bad=> rw [hr]at t;exact t
   |ex n ρ s=> rw [hr]at t;exact t.elim
 refine⟨λvs H Q E q=> h.len vs H Q _ (sp vs H Q E q),λA outer s H args us vs Q E hr he hb hv hs=> dL (h.run A outer s H args us vs Q _ hr he hb hv (sp vs H Q E hs)) λr s' hq=> ?_⟩
 cases r with
 |error e=> obtain⟨_,_,_,_,_,_,_,_,_,_,_,_,_,_,_,f⟩:=hq;exact f.elim
 |ok fl=> cases fl <;> exact hq
end
end PF
namespace PF
open PySem PySem.Spec
variable[XW]
open L2
variable[XW]
theorem axb{x:Str}(c: ∃t,X.mg x=some (.int i t))(hg:Gl X x:=by rfl)(hd:(x==("__debug__":Str))=false:=by decide):RE X (.Name x pos) (fC (.da (.int i))):=by
 obtain⟨t,hm⟩:=c
 exact awx (v:=.int i) (λas H=>.da (.int i)) hm ⟨_,rfl⟩ hg hd
end PF
namespace PF
open PySem PySem.Spec
open L2
open PyProof.Rows (is_bool isnot_bool)
variable[XW]
theorem RD.bl_inv'(h:RD K as H v (.bl b)):v=.bl b:=by
 cases h with|da t=> cases t;rfl
noncomputable def aca(dx dy:D)(s:S):R D:=match dx,dy with
 |.da (.bool c),.da (.bool d)=>.ok (.bl (c !=d)) s
 |_,_=>.bad
theorem atr:Op2 X (aS .IsNot) aca:=qz λpins sh σ H as s x y dx dy v u Q I rl r1 r2 rx ry h=> by
 unfold aca at h
 split at h
 ·cases r1.bl_inv';cases r2.bl_inv';cases rx;cases ry
  exact isnot_bool (jn I (Dn.now (Q:=Q) h rl (.da (.bl _))) rfl)
 ·exact h.elim
end PF
namespace PF
open PySem PySem.Spec
open PySem.SeqAt
open AutoSeq1 (wpAny_loadPart') --
open MeetsSeq MeetsSeq2 MeetsSeq3 SeqRoads2 --
def ah9(A:aX)(s:ag)(x y:ae)(b:Bool):Prop:= ∀(prog:aL) (w:aO) (E:ae -> ag -> Prop) (Q:ae -> ag -> Prop),Q (.bool b) s -> wpAny (model prog w) A (mU .Lt x y) Q E s
inductive LexAt (A:aX) (s:ag) (fin:Bool):List (ae×ae) -> Bool -> Prop
 |nil:LexAt A s fin [] fin
 |same {x y:ae} {r:List (ae×ae)} {b:Bool}:EqAt A s x y true -> LexAt A s fin r b -> LexAt A s fin ((x,y)::r) b
 |diff {x y:ae} {r:List (ae×ae)} {b:Bool}:EqAt A s x y false -> ah9 A s x y b -> LexAt A s fin ((x,y)::r) b
theorem api(l b:Addr)(us ws:Array ae)(n n2:Nat)(dd dd2:Option Addr)(sl sl2:Array (Option ae))(r:Bool):
  Meets (cC.«tuple.__lt__» ⟨[.ref l,.ref b],[]⟩)
   (λA R s=> s.heap.get? l=some {cls:=.type "tuple",dict:=dd,data:=.seq us n,slots:=sl}/\s.heap.get? b=some {cls:=.type "tuple",dict:=dd2,data:=.seq ws n2,slots:=sl2}/\
    LexAt A.in1 s (decide (us.size < ws.size)) (us.toList.zip ws.toList) r/\R (.ok (.ret (.bool r))) s):=
 .of_wp λprog w A R s h=> by
  (obtain⟨hp,g,d,tk,os⟩:=s)
  obtain⟨hl,hb,lx,hR⟩:=h
  have sub:=AutoSeq1.sub_tuple_tuple
  wp_walk using m8 hl,m8 hb,eE _ (λjg b s'=> b.1=none/\s'=⟨hp,g,d,tk,os⟩/\LexAt A.in1 ⟨hp,g,d,tk,os⟩ (decide (us.size < ws.size)) jg r) _
  case turn=>
   rintro⟨y,x⟩ jg b s' ⟨hb',rfl,lx⟩
   cases lx with
   |same e t=>
    refine aa (e prog w _ _ ?_)
    wp_walk
    exact⟨rfl,rfl,t⟩
   |diff e t=>
    refine aa (e prog w _ _ ?_)
    have t': ∀(E:ae -> ag -> Prop) (Q:ae -> ag -> Prop),Q (.bool r) ⟨hp,g,d,tk,os⟩ -> wpAny (model prog w) A.in1 (mU .Lt y x) Q E ⟨hp,g,d,tk,os⟩:=λE Q=> t prog w E Q
    generalize mU .Lt y x=m at t'⊢
    wp_walk
    refine t' _ _ ?_
    wp_walk
    exact⟨_,rfl,hR⟩
  case fin=>
   rintro⟨b1,b2⟩ s' ⟨hb',rfl,lx⟩
   simp only at hb'
   subst hb'
   cases lx
   wp_walk
   exact⟨_,rfl,by simpa [Builtin.Tuple.tupleCompareSizes] using hR⟩
  case h=> exact⟨rfl,rfl,lx⟩
section
variable{A:aX}{s:ag} --
theorem ah9.tuples{b:Addr}{us ws:Array ae}{r:Bool}(hl:s.heap.IsTuple l us)(hb:s.heap.IsTuple b ws)(hu:A.units < cLine)(lx:LexAt A.in1 s (decide (us.size < ws.size)) (us.toList.zip ws.toList) r):ah9 A s (.ref l) (.ref b) r:=λprog w E Q h=> by
 obtain⟨⟨c1,d1,e1,s1⟩,o1,k1,n1,q1⟩:=id hl
 obtain⟨⟨c2,d2,e2,s2⟩,o2,k2,n2,q2⟩:=id hb
 simp only at k1 q1 k2 q2
 subst k1 q1 k2 q2
 exact richCompare_meets_room (op:=.Lt) ⟨_,o1,rfl⟩ ⟨_,o2,rfl⟩ kB F.entry_tuple_lt (F.args_tuple_lt_2 _ _) (api l b us ws n1 n2 d1 d2 s1 s2 r) ⟨o1,o2,lx,show gX r≠Value.notImplemented/\Q (.bool r) s from ⟨nofun,h⟩⟩ hu
end
mutual
noncomputable def ltP:ac -> ac -> Option Bool
 |.int i,.int j=> some (decide (i < j))
 |.str a,.str b=> some (decide (a.cps.toList < b.cps.toList))
 |.tuple xs,.tuple ys=> k9 xs ys
 |_,_=> none
noncomputable def k9:List ac -> List ac -> Option Bool
 |[],[]=> some false
 |[],_::_=> some true
 |_::_,[]=> some false
 |x::xs,y::ys=> if aM x y=true then k9 xs ys else ltP x y
end
theorem v6:k9 [] []=some false:=by simp only [k9]
theorem vf{y:ac}:k9 [] (y::ys)=some true:=by simp only [k9]
theorem kw{y:ac}:k9 (y::ys) []=some false:=by simp only [k9]
theorem v7{x y:ac}:k9 (x::xs) (y::ys)=if aM x y=true then k9 xs ys else ltP x y:=by simp only [k9]
theorem aaf:ltP (.int i) (.int j)=some (decide (i < j)):=by simp only [ltP]
theorem ab3{a b:Str}:ltP (.str a) (.str b)=some (decide (a.cps.toList < b.cps.toList)):=by simp only [ltP]
theorem xl:ltP (.tuple xs) (.tuple ys)=k9 xs ys:=by simp only [ltP]
end PF
namespace PF
open PySem PySem.Spec
open PySem.SeqAt
mutual
theorem ad9: ∀(da db:ac) (A:aX) (s:ag) (a b:ae) (as bs:List Addr) (r:Bool),cA s.heap a da as -> cA s.heap b db bs -> da.canLay0=true -> db.canLay0=true -> A.units+min da.depth db.depth < cLine -> ltP da db=some r -> ah9 A s a b r
 | .int i,db,A,s,_,_,_,_,r,ra,rb,_,_,_,h=> by
  cases db with
  |int j=>
   rw [aaf]at h
   cases h
   cases ra;cases rb
   exact λprog w E Q q=> PyProof.Rows.lt_int q
  |none=> simp [ltP]at h
  |bool _=> simp [ltP]at h
  |str _=> simp [ltP]at h
  |list _=> simp [ltP]at h
  |tuple _=> simp [ltP]at h
  |dict _=> simp [ltP]at h
 | .str x,db,A,s,_,_,_,_,r,ra,rb,_,_,_,h=> by
  cases db with
  |str j=>
   rw [ab3]at h
   cases h
   cases ra;cases rb
   exact λprog w E Q q=> PyProof.Rows.lt_str q
  |none=> simp [ltP]at h
  |bool _=> simp [ltP]at h
  |int _=> simp [ltP]at h
  |list _=> simp [ltP]at h
  |tuple _=> simp [ltP]at h
  |dict _=> simp [ltP]at h
 | .tuple xs,db,A,s,_,_,_,_,r,ra,rb,ha,hb,hu,h=> by
  cases db with
  | tuple ys=>
   rw [xl]at h
   cases ra with
   | tuple h1 h2 h3 h4=>
    cases rb with
    |tuple k1 k2 k3 k4=>
     refine ah9.tuples ⟨_,h1,h2,_,h3⟩ ⟨_,k1,k2,_,k3⟩ (room_here hu) ?_
     have t:=ac2 xs ys A.in1 s _ _ _ _ r h4 k4 ha hb (room_in hu) h
     simpa using t
  |none=> simp [ltP]at h
  |bool _=> simp [ltP]at h
  |int _=> simp [ltP]at h
  |list _=> simp [ltP]at h
  |str _=> simp [ltP]at h
  |dict _=> simp [ltP]at h
 |.none,_,_,_,_,_,_,_,_,_,_,_,_,_,h=> by simp [ltP]at h
 |.bool _,_,_,_,_,_,_,_,_,_,_,_,_,_,h=> by simp [ltP]at h
 |.list _,_,_,_,_,_,_,_,_,_,_,_,_,_,h=> by simp [ltP]at h
 |.dict _,_,_,_,_,_,_,_,_,_,_,ha,_,_,_=> nomatch ha
theorem ac2: ∀(xs ys:List ac) (A:aX) (s:ag) (vs ws:List ae) (as bs:List Addr) (r:Bool),cu s.heap vs xs as -> cu s.heap ws ys bs -> ba xs=true -> ba ys=true -> A.units+min (bH xs) (bH ys) < cLine -> k9 xs ys=some r -> LexAt A s (decide (vs.length < ws.length)) (vs.zip ws) r
 |[],[],A,s,_,_,_,_,r,ra,rb,_,_,_,h=> by
  cases ra;cases rb
  rw [v6]at h
  cases h
  exact .nil
 |[],_::_,A,s,_,_,_,_,r,ra,rb,_,_,_,h=> by
  cases ra;cases rb
  rw [vf]at h
  cases h
  simpa using LexAt.nil (A:=A) (s:=s) (fin:=true)
 |_::_,[],A,s,_,_,_,_,r,ra,rb,_,_,_,h=> by
  cases ra;cases rb
  rw [kw]at h
  cases h
  simpa using LexAt.nil (A:=A) (s:=s) (fin:=false)
 | x ::xs,y::ys,A,s,_,_,_,_,r,ra,rb,ha,hb,hu,h=> by
  have ha':x.canLay0=true/\ba xs=true:=by simpa [ba] using ha
  have hb':y.canLay0=true/\ba ys=true:=by simpa [ba] using hb
  rw [v7]at h
  cases ra with
  | cons r1 rs=>
   cases rb with
   | cons r2 rs2=>
    have e:=lB x y A s _ _ _ _ r1 r2 ha'.1 hb'.1 (mG hu)
    rw [iE,aG,aG]
    by_cases q:aM x y=true
    ·rw [if_pos q]at h
     rw [q]at e
     have t:=ac2 xs ys A s _ _ _ _ r rs rs2 ha'.2 hb'.2 (room_tail hu) h
     refine .same e ?_
     simpa using t
    ·rw [if_neg q]at h
     rw [gN]at q
     rw [q]at e
     exact .diff e (ad9 x y A s _ _ _ _ r r1 r2 ha'.1 hb'.1 (mG hu) h)
end
end PF
namespace PF
open PySem PySem.Spec
theorem zo{x y:ac}(hx:plD x=true)(hy:plD y=true)(h:x≠y):k9 (x::xs) (y::ys)=ltP x y:=by
 rw [v7,if_neg (λz=> h ((yt x y hx hy).mp z))]
theorem ae6{x:ac}(hx:plD x=true):k9 (x::xs) (x::ys)=k9 xs ys:=by
 rw [v7,if_pos (av2 hx)]
mutual
theorem a2s: ∀a:ac,plD a=true -> ltP a a≠some true
 |.none,_=> by simp [ltP]
 |.int i,_=> by simp [ltP]
 |.str i,_=> by rw [ab3];simp [List.lt_irrefl]
 |.tuple xs,h=> by rw [xl];exact amx xs (by rw [←ki];exact h)
 |.bool _,h=> by simp [plD]at h
 |.list _,h=> by simp [plD]at h
 |.dict _,h=> by simp [plD]at h
theorem amx: ∀xs:List ac,qy xs=true -> k9 xs xs≠some true
 |[],_=> by rw [v6];simp
 |x::xs,h=> by
  rw [kz,aD]at h
  rw [ae6 h.1]
  exact amx xs h.2
end
mutual
theorem avl: ∀a b:ac,plD a=true -> plD b=true -> ltP a b=some true -> ltP b a=some false
 |.int i,b,_,hb,h=> by
  cases b <;> simp [ltP]at h⊢
  lia
 |.str i,b,_,hb,h=> by
  cases b <;> simp [ltP]at h⊢
  exact List.le_of_lt h
 |.tuple xs,.tuple ys,ha,hb,h=> by
  rw [xl]at h⊢
  exact apt xs ys (by rw [←ki];exact ha) (by rw [←ki];exact hb) h
 |.tuple xs,.none,_,_,h=> by simp [ltP]at h
 |.tuple xs,.int _,_,_,h=> by simp [ltP]at h
 |.tuple xs,.str _,_,_,h=> by simp [ltP]at h
 |.tuple xs,.bool _,_,hb,_=> by simp [plD]at hb
 |.tuple xs,.list _,_,hb,_=> by simp [plD]at hb
 |.tuple xs,.dict _,_,hb,_=> by simp [plD]at hb
 |.none,_,_,_,h=> by simp [ltP]at h
 |.bool _,_,ha,_,_=> by simp [plD]at ha
 |.list _,_,ha,_,_=> by simp [plD]at ha
 |.dict _,_,ha,_,_=> by simp [plD]at ha
theorem apt: ∀xs ys:List ac,qy xs=true -> qy ys=true -> k9 xs ys=some true -> k9 ys xs=some false
 |[],[],_,_,h=> by rw [v6]at h;cases h
 |[],_::_,_,_,h=> by rw [kw]
 |_::_,[],_,_,h=> by rw [kw]at h;cases h
 | x::xs,y::ys,ha,hb,h=> by
  rw [kz,aD]at ha hb
  by_cases e:x=y
  ·subst e
   rw [ae6 ha.1]at h⊢
   exact apt xs ys ha.2 hb.2 h
  ·rw [zo ha.1 hb.1 e]at h
   rw [zo hb.1 ha.1 (cF e)]
   exact avl x y ha.1 hb.1 h
end
theorem a44{a b:ac}(ha:plD a=true)(h:ltP a b=some true):a≠b:=λe=> by subst e;exact a2s a ha h
mutual
theorem apk: ∀a b:ac,plD a=true -> plD b=true -> ltP a b=some false -> a=b\/ltP b a=some true
 |.int i,b,_,hb,h=> by
  cases b <;> simp [ltP]at h⊢
  lia
 | .str i,b,_,hb,h=> by
  cases b with
  | str j=>
   simp [ltP]at h⊢
   rcases List.le_iff_lt_or_eq.mp h with z|z
   ·exact .inr z
   ·refine .inl ?_
    cases i;cases j
    simp at z
    simp [z]
  |_=> simp [ltP]at h
 |.tuple xs,.tuple ys,ha,hb,h=> by
  rw [xl]at h⊢
  rcases amq xs ys (by rw [←ki];exact ha) (by rw [←ki];exact hb) h with z|z
  ·exact .inl (by rw [z])
  ·exact .inr z
 |.tuple xs,.none,_,_,h=> by simp [ltP]at h
 |.tuple xs,.int _,_,_,h=> by simp [ltP]at h
 |.tuple xs,.str _,_,_,h=> by simp [ltP]at h
 |.tuple xs,.bool _,_,hb,_=> by simp [plD]at hb
 |.tuple xs,.list _,_,hb,_=> by simp [plD]at hb
 |.tuple xs,.dict _,_,hb,_=> by simp [plD]at hb
 |.none,_,_,_,h=> by simp [ltP]at h
 |.bool _,_,ha,_,_=> by simp [plD]at ha
 |.list _,_,ha,_,_=> by simp [plD]at ha
 |.dict _,_,ha,_,_=> by simp [plD]at ha
theorem amq: ∀xs ys:List ac,qy xs=true -> qy ys=true -> k9 xs ys=some false -> xs=ys\/k9 ys xs=some true
 |[],[],_,_,h=>.inl rfl
 |[],_::_,_,_,h=> by rw [vf]at h;cases h
 |_::_,[],_,_,h=>.inr vf
 | x::xs,y::ys,ha,hb,h=> by
  rw [kz,aD]at ha hb
  by_cases e:x=y
  ·subst e
   rw [ae6 ha.1]at h⊢
   rcases amq xs ys ha.2 hb.2 h with z|z
   ·exact .inl (by rw [z])
   ·exact .inr z
  ·rw [zo ha.1 hb.1 e]at h
   rw [zo hb.1 ha.1 (cF e)]
   rcases apk x y ha.1 hb.1 h with z|z
   ·exact absurd z e
   ·exact .inr z
end
mutual
theorem avn: ∀a b c:ac,plD a=true -> plD b=true -> plD c=true -> ltP a b=some true -> ltP b c=some true -> ltP a c=some true
 |.int i,b,c,_,_,_,h,k=> by
  cases b <;> simp [ltP]at h
  cases c <;> simp [ltP]at k⊢
  lia
 |.str i,b,c,_,_,_,h,k=> by
  cases b <;> simp [ltP]at h
  cases c <;> simp [ltP]at k⊢
  exact List.lt_trans h k
 |.tuple xs,.tuple ys,.tuple zs,ha,hb,hc,h,k=> by
  rw [xl]at h k⊢
  exact ard xs ys zs (by rw [←ki];exact ha) (by rw [←ki];exact hb) (by rw [←ki];exact hc) h k
 |.tuple xs,.tuple ys,.none,_,_,_,_,h=> by simp [ltP]at h
 |.tuple xs,.tuple ys,.int _,_,_,_,_,h=> by simp [ltP]at h
 |.tuple xs,.tuple ys,.str _,_,_,_,_,h=> by simp [ltP]at h
 |.tuple xs,.tuple ys,.bool _,_,_,hb,_,_=> by simp [plD]at hb
 |.tuple xs,.tuple ys,.list _,_,_,hb,_,_=> by simp [plD]at hb
 |.tuple xs,.tuple ys,.dict _,_,_,hb,_,_=> by simp [plD]at hb
 |.tuple xs,.none,_,_,_,_,h,_=> by simp [ltP]at h
 |.tuple xs,.int _,_,_,_,_,h,_=> by simp [ltP]at h
 |.tuple xs,.str _,_,_,_,_,h,_=> by simp [ltP]at h
 |.tuple xs,.bool _,_,_,hb,_,_,_=> by simp [plD]at hb
 |.tuple xs,.list _,_,_,hb,_,_,_=> by simp [plD]at hb
 |.tuple xs,.dict _,_,_,hb,_,_,_=> by simp [plD]at hb
 |.none,_,_,_,_,_,h,_=> by simp [ltP]at h
 |.bool _,_,_,ha,_,_,_,_=> by simp [plD]at ha
 |.list _,_,_,ha,_,_,_,_=> by simp [plD]at ha
 |.dict _,_,_,ha,_,_,_,_=> by simp [plD]at ha
theorem ard: ∀xs ys zs:List ac,qy xs=true -> qy ys=true -> qy zs=true -> k9 xs ys=some true -> k9 ys zs=some true -> k9 xs zs=some true
 |[],ys,[],_,_,_,h,k=> by
  cases ys with
  |nil=> rw [v6]at h;cases h
  |cons y ys=> rw [kw]at k;cases k
 |[],_,_::_,_,_,_,_,_=> vf
 |_::_,[],_,_,_,_,h,_=> by rw [kw]at h;cases h
 |_::_,_::_,[],_,_,_,_,k=> by rw [kw]at k;cases k
 | x::xs,y::ys,z::zs,ha,hb,hc,h,k=> by
  rw [kz,aD]at ha hb hc
  by_cases e:x=y
  ·subst e
   rw [ae6 ha.1]at h
   by_cases e2:x=z
   ·subst e2
    rw [ae6 ha.1]at k⊢
    exact ard xs ys zs ha.2 hb.2 hc.2 h k
   ·rw [zo ha.1 hc.1 e2]at k⊢
    exact k
  ·rw [zo ha.1 hb.1 e]at h
   by_cases e2:y=z
   ·subst e2
    rw [zo ha.1 hb.1 e]
    exact h
   ·rw [zo hb.1 hc.1 e2]at k
    have t:=avn x y z ha.1 hb.1 hc.1 h k
    rw [zo ha.1 hc.1 (a44 ha.1 t)]
    exact t
end
def ltb(a b:ac):Bool:=match ltP a b with
 |some true=> true
 |_=> false
theorem ze{a b:ac}:ltb a b=true ↔ ltP a b=some true:=by
 unfold ltb
 split
 ·rename_i h;simp [h]
 ·rename_i h
  constructor
  ·intro z;cases z
  ·intro z;exact absurd z h
def j9(ds:List ac):Bool:=ds.all λa=> plD a&&ds.all λb=> (ltP a b).isSome
theorem aa9(h:j9 ds=true){a:ac}(m:a∈ds):plD a=true:=by
 have:=aC.mp h a m
 rw [aD]at this
 exact this.1
theorem aed(h:j9 ds=true){a b:ac}(m:a∈ds)(k:b∈ds): ∃r,ltP a b=some r:=by
 have:=aC.mp h a m
 rw [aD]at this
 have:=aC.mp this.2 b k
 exact dm.mp this
theorem aj1(h:j9 ds=true){a b:ac}(m:a∈ds)(k:b∈ds)(e:ltb a b=false):a=b\/ltb b a=true:=by
 obtain⟨r,hr⟩:=aed h m k
 cases r with
 |true=> rw [ze.mpr hr]at e;cases e
 |false=>
  rcases apk a b (aa9 h m) (aa9 h k) hr with z|z
  ·exact .inl z
  ·exact .inr (ze.mpr z)
theorem ajy(h:j9 ds=true){a b:ac}(m:a∈ds)(k:b∈ds)(e:ltb a b=true):ltb b a=false:=by
 have:=avl a b (aa9 h m) (aa9 h k) (ze.mp e)
 cases q:ltb b a with
 |false=> rfl
 |true=> rw [ze.mp q]at this;cases this
theorem a0u(h:j9 ds=true){a b c:ac}(m:a∈ds)(k:b∈ds)(l:c∈ds)(e:ltb a b=true)(e2:ltb b c=true):ltb a c=true:=
 ze.mpr (avn a b c (aa9 h m) (aa9 h k) (aa9 h l) (ze.mp e) (ze.mp e2))
theorem an9(h:j9 ds=true){a b c:ac}(m:a∈ds)(k:b∈ds)(l:c∈ds)(e:ltb a b=false)(e2:ltb b c=false):ltb a c=false:=by
 rcases aj1 h m k e with rfl|z
 ·exact e2
 ·rcases aj1 h k l e2 with rfl|z2
  ·exact e
  ·exact ajy h l m (a0u h l k m z2 z)
abbrev aam(ds:List ac):Prop:=ds.Pairwise λa b=> ltb b a=false
def ahq(x:ac):List ac -> List ac
 |[]=> [x]
 |y::r=> if ltb y x=true then y::ahq x r else x::y::r
def kr:List ac -> List ac
 |[]=> []
 |x::r=> ahq x (kr r)
theorem afy(x:ac): ∀l:List ac,(ahq x l).Perm (x::l)
 |[]=>.refl _
 |y::r=> by
  unfold ahq
  split
  ·exact ((afy x r).cons y).trans (.swap x y r)
  ·exact .refl _
theorem ya: ∀l:List ac,(kr l).Perm l
 |[]=>.refl _
 |x::r=> (afy x _).trans ((ya r).cons x)
theorem aky{ds:List ac}(h:j9 ds=true){x:ac}(hx:x∈ds): ∀l:List ac,(∀y∈l,y∈ds) -> aam l -> aam (ahq x l)
 |[],_,_=> List.pairwise_singleton _ _
 | y::r,hl,hr=> by
  obtain⟨h1,h2⟩:=cx.mp hr
  have hy:=hl y au
  unfold ahq
  split
  ·rename_i c
   refine cx.mpr ⟨λz hz=> ?_,aky h hx r (λz hz=> hl z (aw _ hz)) h2⟩
   rcases aA.mp ((afy x r).mem_iff.mp hz) with rfl|hz
   ·exact ajy h hy hx c
   ·exact h1 z hz
  ·rename_i c
   have c':ltb y x=false:=by simpa using c
   refine cx.mpr ⟨λz hz=> ?_,hr⟩
   (rcases aA.mp hz with rfl|hz)
   ·exact c'
   ·exact an9 h (hl z (aw _ hz)) hy hx (h1 z hz) c'
theorem agj{ds:List ac}(h:j9 ds=true): ∀l:List ac,(∀y∈l,y∈ds) -> aam (kr l)
 |[],_=> fz
 |x::r,hl=> aky h (hl x au) _ (λy hy=> hl y (aw _ ((ya r).mem_iff.mp hy))) (agj h r λy hy=> hl y (aw _ hy))
theorem ae2(h:j9 ds=true):aam (kr ds):=agj h ds λ_ y=> y
theorem asw{l m:List ac}(h:j9 ds=true)(pl:l.Perm ds)(pm:m.Perm ds)(hl:aam l)(hm:aam m):l=m:=by
 refine iC.eq_of_pairwise (le:=λa b=> ltb b a=false) ?_ hl hm (pl.trans pm.symm)
 intro a b ha hb e1 e2
 rcases aj1 h (pm.mem_iff.mp hb) (pl.mem_iff.mp ha) e1 with z|z
 ·exact z.symm
 ·rw [e2]at z;cases z
theorem afs{l:List ac}(h:j9 ds=true)(pl:l.Perm ds)(hl:aam l):l=kr ds:=asw h pl (ya ds) hl (ae2 h)
end PF
namespace KS
open PySem PySem.W PyProof.Rows
noncomputable def run{α:Type}(lt:Nat -> Nat -> Bool):KasT α -> α
 |.ret a=> a
 |.ask i j k=> run lt (k (lt i j))
section
variable{lt:Nat -> Nat -> Bool}
theorem aa5{α β:Type}(f:α -> KasT β): ∀t:KasT α,run lt (t.bind f)=run lt (f (run lt t))
 |.ret a=> rfl
 |.ask i j k=> aa5 f (k (lt i j))
theorem yn{α:Type}(a:α):run lt (.ret a)=a:=rfl
theorem acb{α:Type}(i j:Nat)(k:Bool -> KasT α):run lt (.ask i j k)=run lt (k (lt i j)):=rfl
theorem ab5{α:Type}(c:Prop)[Decidable c](a b:KasT α):run lt (if c then a else b)=if c then run lt a else run lt b:=by split <;> rfl
structure Swo (lt:Nat -> Nat -> Bool):Prop where
 tr: ∀{a b c},lt a b=false -> lt b c=false -> lt a c=false
 as: ∀{a b},lt a b=true -> lt b a=false
theorem Swo.irr(w:Swo lt)(a:Nat):lt a a=false:=by
 cases h:lt a a with
 |false=> rfl
 |true=> have:=w.as h;rw [h]at this;exact this
def Up(lt:Nat -> Nat -> Bool)(p:Array Nat)(m:Nat):Prop:= ∀k,0 < k -> k < m -> lt (p.getD k 0) (p.getD (k - 1) 0)=false
def xz(lt:Nat -> Nat -> Bool)(p:Array Nat)(m:Nat):Prop:= ∀k,0 < k -> k < m -> lt (p.getD (k - 1) 0) (p.getD k 0)=false
theorem Up.all(w:Swo lt){p:Array Nat}{m:Nat}(h:Up lt p m): ∀(d i:Nat),i+d < m -> lt (p.getD (i+d) 0) (p.getD i 0)=false
 |0,i,_=> w.irr _
 |d+1,i,hl=> by
  have a:=h (i+(d+1)) (by lia) hl
  rw [show i+(d+1) - 1=i+d by lia]at a
  exact w.tr a (Up.all w h d i (by lia))
theorem Up.le(w:Swo lt){p:Array Nat}(h:Up lt p m){i j:Nat}(hij:i <=j)(hj:j < m):lt (p.getD j 0) (p.getD i 0)=false:=by
 have:=Up.all w h (j - i) i (by lia)
 rwa [show i+(j - i)=j by lia]at this
theorem xz.all(w:Swo lt){p:Array Nat}{m:Nat}(h:xz lt p m): ∀(d i:Nat),i+d < m -> lt (p.getD i 0) (p.getD (i+d) 0)=false
 |0,i,_=> w.irr _
 |d+1,i,hl=> by
  have a:=h (i+(d+1)) (by lia) hl
  rw [show i+(d+1) - 1=i+d by lia]at a
  exact w.tr (xz.all w h d i (by lia)) a
theorem xz.le(w:Swo lt){p:Array Nat}(h:xz lt p m){i j:Nat}(hij:i <=j)(hj:j < m):lt (p.getD i 0) (p.getD j 0)=false:=by
 have:=xz.all w h (j - i) i (by lia)
 rwa [show i+(j - i)=j by lia]at this
theorem ajc{p:Array Nat}: ∀(f n:Nat),0 < n -> Up lt p n -> n <=run lt (gx p f n)/\run lt (gx p f n) <=n+f/\Up lt p (run lt (gx p f n))/\(run lt (gx p f n) < n+f -> lt (p.getD (run lt (gx p f n)) 0) (p.getD (run lt (gx p f n) - 1) 0)=true)
 |0,n,_,h=> by
  rw [gx,yn]
  exact⟨av _,av _,h,λz=> absurd z (by lia)⟩
 | f +1,n,h0,h=> by
  rw [gx,acb]
  cases e:lt (p.getD n 0) (p.getD (n - 1) 0) with
  |true=>
   rw [if_pos rfl,yn]
   exact⟨av _,by lia,h,λ_=> e⟩
  | false=>
   rw [if_neg ax]
   have up:Up lt p (n+1):=λk k0 k1=> by
    by_cases z:k < n
    ·exact h k k0 z
    ·have:k=n:=by lia
     subst this;exact e
   obtain⟨a,b,c,d⟩:=ajc f (n+1) (by lia) up
   exact⟨by lia,by lia,c,λz=> d (by lia)⟩
theorem afl(w:Swo lt){p:Array Nat}{k:Nat}(up:Up lt p k): ∀(f l r:Nat),l <=r -> r <=k -> r - l <=f -> (∀i,i < l -> lt (p.getD k 0) (p.getD i 0)=false) -> (∀i,r <=i -> i < k -> lt (p.getD k 0) (p.getD i 0)=true) ->
  run lt (gh p k f l r) <=k/\(∀i,i < run lt (gh p k f l r) -> lt (p.getD k 0) (p.getD i 0)=false)/\ ∀i,run lt (gh p k f l r) <=i -> i < k -> lt (p.getD k 0) (p.getD i 0)=true
 |0,l,r,hlr,hrk,hf,h1,h2=> by
  have:l=r:=by lia
  subst this
  rw [gh,yn]
  exact⟨hrk,h1,h2⟩
 | f +1,l,r,hlr,hrk,hf,h1,h2=> by
  rw [gh,ab5]
  by_cases z:l≥r
  ·rw [if_pos z,yn]
   have:l=r:=by lia
   subst this
   exact⟨hrk,h1,h2⟩
  ·rw [if_neg z,acb]
   have m1:l <=(l+r)/2:=by lia
   have m2:(l+r)/2 < r:=by lia
   generalize (l+r)/2=m at m1 m2
   cases e:lt (p.getD k 0) (p.getD m 0) with
   | true=>
    rw [if_pos rfl]
    refine afl w up f l m m1 (by lia) (by lia) h1 λi i0 i1=> ?_
    by_cases q:r <=i
    ·exact h2 i q i1
    ·cases e2:lt (p.getD k 0) (p.getD i 0) with
     |true=> rfl
     |false=>
      have:=w.tr e2 (up.le w (i:=m) (j:=i) i0 i1)
      rw [e]at this;cases this
   |false=>
    rw [if_neg ax]
    refine afl w up f (m+1) r (by lia) hrk (by lia) (λi i0=> ?_) h2
    exact w.tr e (up.le w (i:=i) (j:=m) (by lia) (by lia))
end
section
variable{lt:Nat -> Nat -> Bool}
theorem gd(p:Array Nat)(k:Nat):p.getD k 0=(p[k]?).getD 0:=Array.getD_eq_getD_getElem? ..
theorem an2{p:Array Nat}{k d:Nat}(hk:k < p.size)(hd:d <=k)(i:Nat):(bubble p k d).getD i 0=if i=k - d then p.getD k 0 else if k - d < i/\i <=k then p.getD (i - 1) 0 else p.getD i 0:=by
 rw [gd,getElem?_bubble hk d hd]
 by_cases c1:i=k - d
 ·rw [if_pos c1,if_pos c1];exact (gd p k).symm
 ·rw [if_neg c1,if_neg c1]
  by_cases c2:k - d < i/\i <=k
  ·rw [if_pos c2,if_pos c2];exact (gd p _).symm
  ·rw [if_neg c2,if_neg c2];exact (gd p _).symm
theorem xm{p:Array Nat}{i j:Nat}(hj:j <=p.size)(k:Nat):(gW p i j).getD k 0=if i <=k/\k < j then p.getD (i+j - 1 - k) 0 else p.getD k 0:=by
 unfold gW
 rw [gd,getElem?_mirror_all hj]
 split <;> rw [gd]
theorem v9(p:Array Nat)(i j:Nat):(gW p i j).Perm p:=mirror_perm _ _ _ _
theorem akw(p:Array Nat)(i j:Nat):(gW p i j).size=p.size:=mirror_size _ _ _ _
theorem apw(w:Swo lt): ∀(f:Nat) (p:Array Nat) (k:Nat),k+f=p.size -> Up lt p k -> (run lt (mM f p k)).Perm p/\Up lt (run lt (mM f p k)) p.size
 |0,p,k,hs,up=> by
  rw [mM,yn]
  have:k=p.size:=by lia
  subst this
  exact⟨.refl _,up⟩
 | f +1,p,k,hs,up=> by
  rw [mM,aa5]
  obtain⟨l1,l2,l3⟩:=afl w up k 0 k (b9 _) (av _) (by lia) (λi h=> absurd h (Nat.not_lt_zero _)) (λi h1 h2=> absurd h2 (by lia))
  generalize run lt (gh p k k 0 k)=l at l1 l2 l3
  have hk:k < p.size:=by lia
  have up1:Up lt (bubble p k (k - l)) (k+1):=λi i0 i1=> by
   rw [an2 hk (by lia),an2 hk (by lia),show k - (k - l)=l by lia]
   by_cases c1:i < l
   ·rw [if_neg (by lia),if_neg (by lia),if_neg (by lia),if_neg (by lia)]
    exact up i i0 (by lia)
   ·by_cases c2:i=l
    ·subst c2
     rw [if_pos rfl,if_neg (by lia),if_neg (by lia)]
     exact l2 (i - 1) (by lia)
    ·by_cases c3:i=l+1
     ·subst c3
      rw [if_neg (by lia),if_pos (by lia),if_pos (by lia)]
      exact w.as (l3 _ (by lia) (by lia))
     ·rw [if_neg (by lia),if_pos (by lia),if_neg (by lia),if_pos (by lia)]
      exact up (i - 1) (by lia) (by lia)
  obtain⟨a,b⟩:=apw w f (bubble p k (k - l)) (k+1) (by rw [bubble_size];lia) up1
  exact⟨a.trans (bubble_perm _ _ _),by rw [bubble_size]at b;exact b⟩
def Seg(lt:Nat -> Nat -> Bool)(p:Array Nat)(n q:Nat):Prop:= ∀k,n - 1 - q < k -> k < n -> lt (p.getD k 0) (p.getD (k - 1) 0)=false
theorem akp(w:Swo lt){p:Array Nat}{q:Nat}(hn:n <=p.size)(hq:q < n)(d:xz lt p n)(s:Seg lt p n q):xz lt (gW p (n - (q+1)) n) n:=λk k0 k1=> by
 rw [xm hn,xm hn]
 by_cases c1:k < n - (q+1)
 ·rw [if_neg (by lia),if_neg (by lia)]
  exact d k k0 k1
 ·by_cases c2:k=n - (q+1)
  ·rw [if_neg (by lia),if_pos (by lia)]
   exact d.le w (by lia) (by lia)
  ·rw [if_pos (by lia),if_pos (by lia)]
   have:=s (n - (q+1)+n - 1 - (k - 1)) (by lia) (by lia)
   rwa [show n - (q+1)+n - 1 - (k - 1) - 1=n - (q+1)+n - 1 - k by lia]at this
theorem a14{p:Array Nat}(hn:n <=p.size)(d:xz lt p n):Up lt (gW p 0 n) n:=λk k0 k1=> by
 rw [xm hn,xm hn,if_pos (by lia),if_pos (by lia)]
 have:=d (0+n - 1 - (k - 1)) (by lia) (by lia)
 rwa [show 0+n - 1 - (k - 1) - 1=0+n - 1 - k by lia]at this
theorem a02{p:Array Nat}(hn:n <=p.size)(d:Up lt p n):xz lt (gW p 0 n) n:=λk k0 k1=> by
 rw [xm hn,xm hn,if_pos (by lia),if_pos (by lia)]
 have:=d (0+n - 1 - (k - 1)) (by lia) (by lia)
 rwa [show 0+n - 1 - (k - 1) - 1=0+n - 1 - k by lia]at this
theorem aao{p:Array Nat}(d:xz lt p n)(h:lt (p.getD (n - 1) 0) (p.getD n 0)=false):xz lt p (n+1):=λk k0 k1=> by
 by_cases z:k < n
 ·exact d k k0 z
 ·have:k=n:=by lia
  subst this;exact h
structure DescOk (lt:Nat -> Nat -> Bool) (p:Array Nat) (n f:Nat) (r:Array Nat×Nat×Nat):Prop where
 pm:r.1.Perm p
 n1:n <=r.2.1
 n2:r.2.1 <=n+f
 q1:r.2.2 < r.2.1
 dn:xz lt r.1 r.2.1
 sg:Seg lt r.1 r.2.1 r.2.2
theorem af0(w:Swo lt): ∀(f:Nat) (p:Array Nat) (n q:Nat),n+f <=p.size -> q < n -> xz lt p n -> Seg lt p n q -> DescOk lt p n f (run lt (lM f p n q))
 |0,p,n,q,hs,hq,d,s=> by
  rw [lM,yn]
  exact⟨.refl _,av _,av _,hq,d,s⟩
 | f +1,p,n,q,hs,hq,d,s=> by
  rw [lM,acb]
  cases e:lt (p.getD n 0) (p.getD (n - 1) 0) with
  | true=>
   rw [if_pos rfl,ab5]
   have sg0: ∀p:Array Nat,Seg lt p (n+1) 0:=λp k k0 k1=> absurd k1 (by lia)
   by_cases z:q > 0
   ·rw [if_pos z]
    have hn:n <=p.size:=by lia
    have d1:xz lt (gW p (n - (q+1)) n) (n+1):=by
     refine aao (akp w hn hq d s) ?_
     rw [xm hn,xm hn,if_pos (by lia),if_neg (by lia),show n - (q+1)+n - 1 - (n - 1)=n - (q+1) by lia]
     exact w.tr (d.le w (i:=n - (q+1)) (j:=n - 1) (by lia) (by lia)) (w.as e)
    obtain⟨a1,a2,a3,a4,a5,a6⟩:=af0 w f _ (n+1) 0 (by rw [akw];lia) (by lia) d1 (sg0 _)
    exact⟨a1.trans (v9 _ _ _),by lia,by lia,a4,a5,a6⟩
   ·rw [if_neg z]
    obtain⟨a1,a2,a3,a4,a5,a6⟩:=af0 w f p (n+1) 0 (by lia) (by lia) (aao d (w.as e)) (sg0 _)
    exact⟨a1,by lia,by lia,a4,a5,a6⟩
  | false=>
   rw [if_neg ax,acb]
   cases e2:lt (p.getD (n - 1) 0) (p.getD n 0) with
   |true=>
    rw [if_pos rfl,yn]
    exact⟨.refl _,av _,by simp,hq,d,s⟩
   | false=>
    rw [if_neg ax]
    have s1:Seg lt p (n+1) (q+1):=λk k0 k1=> by
     by_cases z:k < n
     ·exact s k (by lia) z
     ·have:k=n:=by lia
      subst this;exact e
    obtain⟨a1,a2,a3,a4,a5,a6⟩:=af0 w f p (n+1) (q+1) (by lia) (by lia) (aao d e2) s1
    exact⟨a1,by lia,by lia,a4,a5,a6⟩
structure CountOk (lt:Nat -> Nat -> Bool) (p:Array Nat) (nrem:Nat) (r:Nat×Array Nat):Prop where
 pm:r.2.Perm p
 n1:1 <=r.1
 n2:r.1 <=nrem
 up:Up lt r.2 r.1
theorem akk{p p0:Array Nat}{nrem:Nat}(h0:0 < n)(hn:n <=nrem)(hz:nrem <=p.size)(pm:p.Perm p0)(d:xz lt p n):CountOk lt p0 nrem (run lt (mH n nrem p)):=by
 unfold mH
 rw [aa5,yn]
 obtain⟨a,b,c,_⟩:=ajc (lt:=lt) (p:=gW p 0 n) (nrem - n) n h0 (a14 (by lia) d)
 exact⟨(v9 _ _ _).trans pm,by show 1 <=_;lia,by show _ <=nrem;lia,c⟩
theorem af2(w:Swo lt){p p0:Array Nat}{nrem:Nat}(h0:0 < n)(hn:n+1 <=nrem)(hz:nrem <=p.size)(pm:p.Perm p0)(d:xz lt p (n+1)):CountOk lt p0 nrem (run lt (mI n nrem p)):=by
 unfold mI
 rw [aa5]
 have D:=af0 w (nrem - (n+1)) p (n+1) 0 (by lia) (by lia) d (λk k0 k1=> absurd k1 (by lia))
 generalize run lt (lM (nrem - (n+1)) p (n+1) 0)=r at D
 obtain⟨a1,a2,a3,a4,a5,a6⟩:=D
 have sz:r.1.size=p.size:=a1.size_eq
 rw [ab5]
 split
 ·exact akk (by lia) (by lia) (by rw [akw];lia) ((v9 _ _ _).trans (a1.trans pm)) (akp w (by lia) a4 a5 a6)
 ·exact akk (by lia) (by lia) (by lia) (a1.trans pm) a5
theorem av5(w:Swo lt){p:Array Nat}{nrem:Nat}(h1:1 <=nrem)(hz:nrem=p.size):CountOk lt p nrem (run lt (mJ nrem p)):=by
 unfold mJ
 rw [aa5]
 obtain⟨a,b,c,d⟩:=ajc (lt:=lt) (p:=p) (nrem - 1) 1 (by lia) (λk k0 k1=> absurd k1 (by lia))
 generalize run lt (gx p (nrem - 1) 1)=n at a b c d
 rw [ab5]
 split
 ·rename_i e
  exact⟨.refl _,a,by show n <=nrem;lia,c⟩
 ·rename_i e
  have hne:n≠nrem:=λz=> e (by subst z;exact beq_self_eq_true n)
  have d':=d (by lia)
  rw [ab5]
  split
  ·rename_i h
   rw [acb]
   cases e2:lt (p.getD 0 0) (p.getD (n - 1) 0) with
   |true=>
    rw [if_pos rfl,yn]
    exact⟨.refl _,a,by show n <=nrem;lia,c⟩
   |false=>
    rw [if_neg ax]
    refine af2 w (by lia) (by lia) (by rw [akw];lia) (v9 _ _ _) (aao (a02 (by lia) c) ?_)
    rw [xm (by lia),xm (by lia),if_pos (by lia),if_neg (by lia),show 0+n - 1 - (n - 1)=0 by lia]
    exact w.tr e2 (w.as d')
  ·rename_i h
   have:n=1:=by lia
   subst this
   exact af2 w (by lia) (by lia) (by lia) (.refl _) (aao (λk k0 k1=> absurd k1 (by lia)) (w.as d'))
theorem ayj(w:Swo lt)(h1:1 <=n):(run lt (jI n)).Perm (fF (aW n))/\Up lt (run lt (jI n)) n:=by
 unfold jI
 rw [aa5]
 have hz:n=(fF (aW n)).size:=by simp
 obtain⟨a,b,c,d⟩:=av5 w (p:=fF (aW n)) h1 hz
 generalize run lt (mJ n (fF (aW n)))=r at a b c d
 have sz:r.2.size=n:=by rw [a.size_eq];exact hz.symm
 rw [ab5]
 split
 ·rw [show max r.1 1=r.1 by lia]
  obtain⟨e,f⟩:=apw w (n - r.1) r.2 r.1 (by lia) d
  exact⟨e.trans a,by rw [sz]at f;exact f⟩
 ·rename_i h
  have:r.1=n:=by lia
  rw [this]at d
  exact⟨a,d⟩
end
def aa1{α:Type}(n:Nat):KasT α -> (α -> Prop) -> Prop
 |.ret a,P=> P a
 |.ask i j k,P=> i < n/\j < n/\ ∀b,aa1 n (k b) P
section
variable{lt:Nat -> Nat -> Bool}{n:Nat}
theorem y9{α β:Type}{f:α -> KasT β}{P:α -> Prop}{P':β -> Prop}(h: ∀a,P a -> aa1 n (f a) P'): ∀t:KasT α,aa1 n t P -> aa1 n (t.bind f) P'
 |.ret a,q=> h a q
 |.ask i j k,q=> ⟨q.1,q.2.1,λb=> y9 h (k b) (q.2.2 b)⟩
theorem asj{α:Type}{cmp:Nat -> Nat -> (Bool -> ag -> Prop) -> ag -> Prop}{s:ag}{P:α -> Prop}{Q:α -> ag -> Prop}(hc: ∀i j (C:Bool -> ag -> Prop),i < n -> j < n -> C (lt i j) s -> cmp i j C s): ∀t:KasT α,aa1 n t P -> Q (run lt t) s -> t.kasWp cmp Q s
 |.ret a,_,q=> q
 |.ask i j k,a,q=> hc i j _ a.1 a.2.1 (asj hc (k (lt i j)) (a.2.2 _) q)
def All(n:Nat)(p:Array Nat):Prop:= ∀x∈p.toList,x < n
theorem All.get{p:Array Nat}(h:All n p)(h0:0 < n)(k:Nat):p.getD k 0 < n:=by
 rw [gd]
 cases e:p[k]? with
 |none=> exact h0
 |some x=> exact h x (by rw [←aZ]at e;exact bt e)
theorem All.perm{p q:Array Nat}(h:All n p)(e:q.Perm p):All n q:=λx hx=> h x ((iN.mp e).mem_iff.mp hx)
theorem aff{p:Array Nat}(h:All n p)(h0:0 < n): ∀f m:Nat,aa1 n (gx p f m) λ_=> True
 |0,m=> trivial
 |f+1,m=> ⟨h.get h0 _,h.get h0 _,λb=> by
  cases b with
  |true=> dsimp only;rw [if_pos rfl];trivial
  |false=> dsimp only;rw [if_neg ax];exact aff h h0 f (m+1)⟩
theorem abv(h0:0 < n): ∀(f:Nat) (p:Array Nat) (m q:Nat),All n p -> aa1 n (lM f p m q) λr=> All n r.1
 |0,p,m,q,h=> h
 | f+1,p,m,q,h=> ⟨h.get h0 _,h.get h0 _,λb=> by
  cases b with
  |true=>
   dsimp only;rw [if_pos rfl]
   split
   ·exact abv h0 f _ _ _ (h.perm (v9 _ _ _))
   ·exact abv h0 f _ _ _ h
  | false=>
   dsimp only;rw [if_neg ax]
   exact⟨h.get h0 _,h.get h0 _,λb=> by
    cases b with
    |true=> dsimp only;rw [if_pos rfl];exact h
    |false=> dsimp only;rw [if_neg ax];exact abv h0 f _ _ _ h⟩⟩
theorem agk(h0:0 < n){p:Array Nat}(h:All n p)(m r:Nat):aa1 n (mH m r p) λx=> All n x.2:=by
 unfold mH
 refine y9 (P:=λ_=> True) (λa _=> ?_) _ (aff (h.perm (v9 _ _ _)) h0 _ _)
 exact h.perm (v9 _ _ _)
theorem adk(h0:0 < n){p:Array Nat}(h:All n p)(m r:Nat):aa1 n (mI m r p) λx=> All n x.2:=
 y9 (λa ha=> by
  split
  ·exact agk h0 (All.perm ha (v9 _ _ _)) _ _
  ·exact agk h0 ha _ _) _ (abv h0 _ _ _ _ h)
theorem anx(h0:0 < n){p:Array Nat}(h:All n p)(r:Nat):aa1 n (mJ r p) λx=> All n x.2:=
 y9 (λa _=> by
  split
  ·exact h
  ·split
   ·exact⟨h.get h0 _,h.get h0 _,λb=> by
     cases b with
     |true=> dsimp only;rw [if_pos rfl];exact h
     |false=> dsimp only;rw [if_neg ax];exact adk h0 (h.perm (v9 _ _ _)) _ _⟩
   ·exact adk h0 h _ _) _ (aff h h0 _ _)
theorem acw(h0:0 < n){p:Array Nat}(h:All n p)(k:Nat): ∀f l r:Nat,aa1 n (gh p k f l r) λ_=> True
 |0,l,r=> trivial
 |f+1,l,r=> by
  rw [gh]
  split
  ·trivial
  ·exact⟨h.get h0 _,h.get h0 _,λb=> by
    cases b with
    |true=> dsimp only;rw [if_pos rfl];exact acw h0 h k f _ _
    |false=> dsimp only;rw [if_neg ax];exact acw h0 h k f _ _⟩
theorem ak6(h0:0 < n): ∀(f:Nat) (p:Array Nat) (k:Nat),All n p -> aa1 n (mM f p k) λ_=> True
 |0,p,k,h=> trivial
 |f+1,p,k,h=> y9 (λl _=> ak6 h0 f _ _ (h.perm (bubble_perm _ _ _))) _ (acw h0 h k _ _ _)
theorem arf(h0:0 < n):aa1 n (jI n) λ_=> True:=
 y9 (λr hr=> by
  split
  ·exact ak6 h0 _ _ _ hr
  ·trivial) _ (anx h0 (λx hx=> by simpa using hx) n)
end
section
variable{prog:aL}{w:aO}{A:aX}{E:ae -> ag -> Prop}{s:ag}
theorem atp(vs:List ae):(vs.toArray.zip vs.toArray).map (·.2)=vs.toArray:=by
 apply Array.toList_inj.mp
 rw [Array.toList_map,ksk_zip]
 show (vs.zip vs).map Prod.snd=vs
 rw [List.map_snd_zip (av _)]
theorem aoz(vs:List ae):(aW vs.length).map (λi=> vs.getD i aU)=vs:=by
 apply cW
 intro i
 rw [aN]
 by_cases h:i < vs.length
 ·rw [dB h,ao h]
  simp [h]
 ·rw [di.mpr (by simpa using h),di.mpr (by simpa using h)];rfl
theorem ate{lt:Nat -> Nat -> Bool}{P:PySem.Fin -> ag -> Prop}(ho:s.heap.get? a=some (seqObj "list" vs.toArray n))(h64:vs.length < 64)(wo:Swo lt)(hk:2 <=vs.length -> ∀s':ag,(∀b o,b≠a -> s.heap.get? b=some o -> s'.heap.get? b=some o) ->
   wpAny (model prog w) A (keyKind' vs.toArray) (λ κ s''=> s''=s'/\ ∀(i j:Nat) (C:Bool -> ag -> Prop),i < vs.length -> j < vs.length -> C (lt i j) s' -> wpAny (model prog w) A (keyLt' κ (vs.getD i aU) (vs.getD j aU)) C (λ_ _=> False) s') (λ_ _=> False) s') (h: ∀p:List Nat,p.Perm (aW vs.length) -> p.Pairwise (λi j=> lt j i=false) -> P (.done (.ret .none)) {s with heap:=sortedHeap s.heap a vs (p.map λi=> vs.getD i aU).toArray}):
  wpAny (model prog w) A (cC.«list.sort» ⟨[.ref a],[]⟩) P E s:=by --
 rw [list_sort_plain]
 (have ha:a < s.heap.objs.size:=az ho)
 (refine aa (listItems_at ho rfl ?_))
 (refine aa (l5 ho rfl ?_ (by rw [aE,cp];lia) (b9 _)))
 obtain⟨e1,ho1⟩: ∃e1,(s.heap.update a (eg λ_=> (#[]:Array ae))).get? a=some (seqObj "list" #[] e1):=⟨_,get?_update_seq ho (λ_=> #[])⟩
 (refine aa (mV ho1 rfl ?_))
 (refine aa (lj ?_ (by show vs.length <=_;rw [cp];lia)))
 (refine aa (l6 ?_ (b9 _)))
 (refine a9 ?_)
 generalize hh:((s.heap.update a (eg λ_=> (#[]:Array ae))).push (seqObj "tuple" vs.toArray 0)).push (seqObj "list" #[] 0)=h6
 have ho6:h6.get? a=some (seqObj "list" #[] e1):=by
  rw [←hh,d8 _ _ _ (by rw [size_push',gO];exact aJ (bU ha)),d8 _ _ _ (by rw [gO];exact aJ ha)]
  exact ho1
 have kp: ∀b o,b≠a -> s.heap.get? b=some o -> h6.get? b=some o:=λb o hb e=> by
  have hlt:b < s.heap.objs.size:=az e
  rw [←hh,d8 _ _ _ (by rw [size_push',gO];exact aJ (bU hlt)),d8 _ _ _ (by rw [gO];exact aJ hlt),Heap.get?_update_ne _ _ _ _ hb]
  exact e
 show wpAny (model prog w) A _ P E {s with heap:=h6}
 have hz: ∀out:Array ae,sortedHeap s.heap a vs out=h6.update a (eg λ_=> out):=λout=> by rw [←hh];rfl
 dsimp only
 by_cases h2:vs.toArray.size < 2 --
 ·rw [if_pos h2,if_pos h2]
  refine aa (af ?_)
  rw [StateT.run_pure]
  refine aa (af ?_)
  dsimp only
  (refine aa (mV ho6 rfl ?_))
  have e0:(arrOf (SortSt.mk' general' (vs.toArray.zip vs.toArray) #[] 7 none)).map (·.2)=vs.toArray:=atp vs
  rw [e0]
  refine aa (l5 ho6 rfl ?_ (b9 _) (by rw [aE,cp];lia))
  (simp only [bne_self_eq_false,aY,if_false])
  have t:=h (aW vs.length) (iC.refl _) (by
   rw [aE]at h2
   match hv:vs.length with
   |0=> simp
   |1=> simp
   |k+2=> lia)
  rw [aoz,hz]at t
  exact af t
 ·rw [if_neg h2,if_neg h2]
  have h2':2 <=vs.length:=by rw [aE]at h2;lia
  refine aa (bQ (hk h2' {s with heap:=h6} kp) ?_ λ_ _ x=> x.elim)
  rintro κ _ ⟨rfl,ask⟩
  have hw:(jI vs.length).kasWp (kas_ask prog w A κ vs) (λp s'=> s'={s with heap:=h6}/\p.Perm (fF (aW vs.length))/\Up lt p vs.length) {s with heap:=h6}:=
   asj (lt:=lt) (n:=vs.length) (λi j C hi hj hC=> ask i j C hi hj hC) (jI vs.length) (arf (by lia)) ⟨rfl,ayj wo (by lia)⟩
  refine aa (bQ (kat_run (Q:=λst' s'=> ∃p:Array Nat,p.size=vs.length/\arrOf st'=p.map (kas_item (vs.toArray.zip vs.toArray))/\failedOf st'=none/\s'={s with heap:=h6}/\p.Perm (fF (aW vs.length))/\Up lt p vs.length)
   rfl h2' h64 (λp' st' s' a1 a2 a3 a4=> ⟨p',a1,a2,a3,a4⟩) hw) ?_ λ_ _ e=> e)
  rintro⟨⟨⟩,st'⟩ s' ⟨p,hp,har,hf,rfl,pm,up⟩
  dsimp only
  have hout:=kat_snds rfl har
  rw [hout]
  (refine aa (mV ho6 rfl ?_))
  have hsz:(fF (p.toList.map λi=> vs.getD i aU)).size <=sizeLine:=by rw [aE,ak,ar,hp,cp];lia
  refine aa (l5 ho6 rfl ?_ (b9 _) (Nat.le_succ_of_le hsz))
  rw [hf]
  (simp only [bne_self_eq_false,aY,if_false])
  have t:=h p.toList (by have:=iN.mp pm;simpa using this) (by
   (rw [eA])
   intro i j hi hj hij
   rw [ar]at hi hj
   have u:=Up.le wo up (gY hij) (by lia)
   simpa [cR,hi,hj] using u)
  rw [hz]at t
  exact af t
end
end KS
namespace PF
open PySem PySem.Spec PySem.W PyProof.Rows
open PySem.SeqAt
noncomputable def tyD:ac -> String
 |.none=> "NoneType"
 |.bool _=> "bool"
 |.int _=> "int"
 |.str _=> "str"
 |.list _=> "list"
 |.tuple _=> "tuple"
 |.dict _=> "dict"
section
variable{prog:aL}{w:aO}{A:aX}{E:ae -> ag -> Prop}{s:ag}
theorem aqn{v:ae}{d:ac}{bs:List Addr}(h:cA s.heap v d bs):s.TypeIs v (tyD d):=by
 cases h with
 |none=> exact im s
 |bool b=> exact PySem.typeIs_bool s b
 |int i t=> exact typeIs_int s i t
 |str x t=> exact typeIs_str s x t
 |list h1 h2 h3 h4=> exact⟨_,h1,h2⟩
 |tuple h1 h2 h3 h4=> exact⟨_,h1,h2⟩
 |dict h1 h2 h3 h4 h5=> exact⟨_,h1,h2⟩
theorem ai7{x y:ae}{Q:Bool -> ag -> Prop}(h:ah9 A s x y b)(q:Q b s):wpAny (model prog w) A (oneLt' false x y) Q E s:=
 kat_one x y (h prog w E _ (show PySem.W.BoolBack Q (.bool b) s from q))
theorem aug{b:Addr}{us ws:Array ae}{r:Bool}{Q:Bool -> ag -> Prop}(hl:s.heap.IsTuple l us)(hb:s.heap.IsTuple b ws)(hu:A.units < cLine)(lx:LexAt A.in1 s (decide (us.size < ws.size)) (us.toList.zip ws.toList) r)(q:Q r s):wpAny (model prog w) A (oneLt' true (.ref l) (.ref b)) Q E s:=by
 obtain⟨⟨c1,d1,e1,s1⟩,o1,k1,n1,q1⟩:=id hl
 obtain⟨⟨c2,d2,e2,s2⟩,o2,k2,n2,q2⟩:=id hb
 simp only at k1 q1 k2 q2
 subst k1 q1 k2 q2
 rw [oneLt'_eq]
 simp only [if_true]
 (refine aa (wpAny_cRoomFor hu ?_))
 refine aa (wpAny_callSpecialIfBound?_slot (T:="tuple") (id:="tuple.__lt__") ⟨_,o1,rfl⟩ kB ?_)
 refine call_meets kB ⟨_,o1,rfl⟩ F.entry_tuple_lt (F.args_tuple_lt_2 _ _) (api l b us ws n1 n2 d1 d2 s1 s2 r) ⟨o1,o2,lx,?_⟩
 show wpAny (model prog w) A (truthOfDropped (.bool r)>>=λx=> pure x) Q E s
 exact aa (cU (af q))
theorem ad4: ∀{vs:List ae} {ds:List ac} {bs:List Addr} {Q:List ae -> ag -> Prop},cu s.heap vs ds bs -> Q (ds.map λd=> bn (tyD d)) s -> wpAny (model prog w) A (vs.mapM typeOf) Q E s
 |_,_,_,_,.nil,h=> by rw [List.mapM_nil];exact af h
 |_,_,_,_,.cons r rs,h=> by
  rw [List.mapM_cons]
  exact aa (eI (aqn r) (aa (ad4 rs (af h))))
inductive Fsts (h:Heap):List ac -> List (Option ae) -> Prop
 |nil:Fsts h [] []
 |no {ds:List ac} {fs:List (Option ae)}:Fsts h ds fs -> Fsts h (.tuple []::ds) (none::fs)
 |yes {ds xs:List ac} {x:ac} {u:ae} {bs:List Addr} {fs:List (Option ae)}:cA h u x bs -> Fsts h ds fs -> Fsts h (.tuple (x::xs)::ds) (some u::fs)
theorem ai5: ∀{vs:List ae} {ds:List ac} {bs:List Addr},cu s.heap vs ds bs -> (∀d∈ds,∃xs,d=.tuple xs) -> ∃fs,Fsts s.heap ds fs/\ ∀{Q:List (Option ae) -> ag -> Prop},Q fs s -> wpAny (model prog w) A (vs.mapM firstOfTuple') Q E s
 |_,_,_,.nil,_=> ⟨[],.nil,λh=> by rw [List.mapM_nil];exact af h⟩
 | _, _,_,.cons (v:=v) r rs,ht=> by
  obtain⟨fs,F,k⟩:=ai5 rs λd hd=> ht d (aw _ hd)
  obtain⟨xs,e⟩:=ht _ au
  subst e
  cases r with
  | @tuple a o us n _ _ h1 h2 h3 h4=>
   have go: ∀f:Option ae,us[0]?=f -> ∀{Q:List (Option ae) -> ag -> Prop},Q (f::fs) s -> wpAny (model prog w) A ((bZ a::_).mapM firstOfTuple') Q E s:=λf hf Q h=> by
    rw [List.mapM_cons,kas_first_eq]
    refine aa (aa (eI (T:="tuple") ⟨_,h1,h2⟩ ?_))
    rw [if_neg (by simp)]
    refine aa (listItems_at h1 h3 (af ?_))
    rw [hf]
    exact aa (k (af h))
   cases xs with
   | nil=>
    have:us[0]?=none:=by
     have e:us.toList=[]:=by cases h5:us.toList with
      |nil=> rfl
      |cons a b=> rw [h5]at h4;cases h4
     rw [←aZ,e];rfl
    exact⟨_,.no F,go _ this⟩
   | cons x xs=>
    cases h5:us.toList with
    |nil=> rw [h5]at h4;cases h4
    |cons u t=>
     rw [h5]at h4
     cases h4 with
     |cons r1 r2=> exact⟨_,.yes r1 F,go _ (by rw [←aZ,h5];rfl)⟩
theorem aks: ∀{ds:List ac} {fs:List (Option ae)},Fsts s.heap ds fs -> fs.all (·.isSome)=true -> ∃xs us bs,fs=us.map some/\cu s.heap us xs bs/\xs.length=ds.length/\ ∀(i:Nat) (d:ac),ds[i]?=some d -> ∃x r,xs[i]?=some x/\d=.tuple (x::r)
 |_,_,.nil,_=> ⟨[],[],_,rfl,.nil,rfl,λi d e=> by simp at e⟩
 |_,_,.no F,h=> by simp at h
 |_,_,.yes r F,h=> by
  obtain⟨xs,us,bs,e,ra,hl,k⟩:=aks F (by simpa using h)
  refine⟨_::xs,_::us,_,by rw [e];rfl,.cons r ra,by simp [hl],λi d e=> ?_⟩
  cases i with
  |zero=> simp at e;subst e;exact⟨_,_,rfl,rfl⟩
  |succ i=> simpa using k i d (by simpa using e)
def avk(ds:List ac)(κ:lN):Prop:=κ=general'\/κ=oneType'\/ ∃b,κ=tuples' b/\(b=true -> ∃T:String,T≠"tuple"/\ ∀d∈ds,∃x r,d=.tuple (x::r)/\tyD x=T)
theorem ass{bs:List Addr}(ra:cu s.heap vs ds bs)(ht: ∀d∈ds,∃xs,d=.tuple xs)(hn:ds≠ []): ∃κ,avk ds κ/\ ∀{Q:lN -> ag -> Prop},Q κ s -> wpAny (model prog w) A (keyKind' vs.toArray) Q E s:=by
 obtain⟨fs,F,k⟩:=ai5 (prog:=prog) (w:=w) (A:=A) (E:=E) ra ht
 have hk: ∀{Q:lN -> ag -> Prop},wpAny (model prog w) A (do
   if fs.toArray.all (·.isSome) then
    rule "list.sort.keys-are-tuples" --
    return tuples' ((←oneTypeOnly' (fs.toArray.filterMap id)).any (· !=.type "tuple"))
   if (fs.toArray[0]?.bind id).isSome then return general'
   return if (←oneTypeOnly' vs.toArray).isSome then oneType' else general') Q E s -> wpAny (model prog w) A (keyKind' vs.toArray) Q E s:=λ{Q} h=> by
  (rw [keyKind'_eq,gF,map_eq_pure_bind])
  exact aa (aa (k (af h)))
 by_cases ha:fs.all (·.isSome)=true
 ·obtain⟨xs,us,cs,e,ru,hl,kk⟩:=aks F ha
  have e1:fs.toArray.all (·.isSome)=true:=by simpa using ha
  have e2:fs.toArray.filterMap id=us.toArray:=by rw [e];simp
  obtain⟨x0,xr,hx⟩: ∃x0 xr,xs=x0::xr:=by
   cases xs with
   |nil=> rw [bS]at hl;exact absurd (gC.mp hl.symm) hn
   |cons a b=> exact⟨a,b,rfl⟩
  by_cases hT:xs.all (λx=> decide (tyD x=tyD x0))=true
  ·refine⟨tuples' (bn (tyD x0) !=bn "tuple"),.inr (.inr ⟨_,rfl,λhb=> ⟨tyD x0,λz=> ?_,λd hd=> ?_⟩⟩),λ{Q} h=> hk ?_⟩
   ·rw [z]at hb;simp at hb
   ·obtain⟨i,hi⟩:=gU.mp hd
    obtain⟨x,r,h1,h2⟩:=kk i d hi
    exact⟨x,r,h2,of_decide_eq_true (aC.mp hT x (bt h1))⟩
   ·rw [if_pos e1,e2]
    refine aa (cI ?_)
    (rw [oneTypeOnly'_eq,gF,map_eq_pure_bind])
    refine aa (aa (aa (ad4 ru (af ?_))))
    rw [hx]
    have h0:(cN (λd=> bn (tyD d)) (x0::xr)).toArray[0]?=some (bn (tyD x0)):=by simp
    have hall:((cN (λd=> bn (tyD d)) (x0::xr)).toArray.all λx=> x==bn (tyD x0))=true:=by
     (simp only [jJ,hU,aC])
     intro y hy
     have:=of_decide_eq_true (aC.mp hT y (by rw [hx];exact hy))
     simp [this]
    rw [h0]
    simp only [hall,if_true]
    (exact af (af h))
  ·refine⟨tuples' false,.inr (.inr ⟨_,rfl,λhb=> by cases hb⟩),λ{Q} h=> hk ?_⟩
   rw [if_pos e1,e2]
   refine aa (cI ?_)
   (rw [oneTypeOnly'_eq,gF,map_eq_pure_bind])
   refine aa (aa (aa (ad4 ru (af ?_))))
   rw [hx]
   have h0:(cN (λd=> bn (tyD d)) (x0::xr)).toArray[0]?=some (bn (tyD x0)):=by simp
   have hall:((cN (λd=> bn (tyD d)) (x0::xr)).toArray.all λx=> x==bn (tyD x0))=false:=by
    rw [←hx]
    rw [gN,List.all_eq_false]at hT
    obtain⟨y,hy,hne⟩:=hT
    simp only [jJ,hU,List.all_eq_false]
    refine⟨y,hy,?_⟩
    simpa using hne
   rw [h0]
   simp only [hall,aY,if_false]
   (exact af (af h))
 ·have e1: ¬fs.toArray.all (·.isSome)=true:=by simpa using ha
  by_cases hf:(fs.toArray[0]?.bind id).isSome=true
  ·exact⟨general',.inl rfl,λ{Q} h=> hk (by rw [if_neg e1,if_pos hf];exact af h)⟩
  ·refine⟨oneType',.inr (.inl rfl),λ{Q} h=> hk ?_⟩
   rw [if_neg e1,if_neg hf,oneTypeOnly'_eq,gF,map_eq_pure_bind]
   refine aa (aa (aa (ad4 ra (af ?_))))
   obtain⟨d0,dr,rfl⟩: ∃d0 dr,ds=d0::dr:=by
    cases ds with
    |nil=> exact absurd rfl hn
    |cons a b=> exact⟨a,b,rfl⟩
   have h0:(cN (λd=> bn (tyD d)) (d0::dr)).toArray[0]?=some (bn (tyD d0)):=by simp
   have hall:((cN (λd=> bn (tyD d)) (d0::dr)).toArray.all λx=> x==bn (tyD d0))=true:=by
    (simp only [jJ,hU,aC])
    intro y hy
    obtain⟨z,rfl⟩:=ht y hy
    obtain⟨z0,rfl⟩:=ht d0 au
    simp [tyD]
   rw [h0]
   simp only [hall,if_true]
   (exact af (af h))
def a5h(b:Bool)(i:Nat)(xs ys:List ac):Prop:=b=true -> i=0 -> ∀x y xr yr,xs=x::xr -> ys=y::yr -> ltP x y≠none -> aM x y=false -> (∃i j,x=.int i/\y=.int j)\/ ∃i j,x=.str i/\y=.str j
theorem ain{b:Bool}: ∀(xs ys:List ac) (vs ws:List ae) (as bs:List Addr) (i:Nat) (r:Bool) (Q:Bool -> ag -> Prop),cu s.heap vs xs as -> cu s.heap ws ys bs -> ba xs=true -> ba ys=true -> A.units+min (bH xs) (bH ys) < cLine -> k9 xs ys=some r -> a5h b i xs ys -> Q r s ->
  KatLex prog w A b (decide (vs.length < ws.length)) Q (vs.zip ws) i s
 |[],[],_,_,_,_,i,r,Q,ra,rb,_,_,_,h,_,q=> by
  cases ra;cases rb
  rw [v6]at h
  cases h
  exact kat_nil q
 |[],_::_,_,_,_,_,i,r,Q,ra,rb,_,_,_,h,_,q=> by
  cases ra;cases rb
  rw [vf]at h
  cases h
  exact kat_nil (by simpa using q)
 |_::_,[],_,_,_,_,i,r,Q,ra,rb,_,_,_,h,_,q=> by
  cases ra;cases rb
  rw [kw]at h
  cases h
  exact kat_nil (by simpa using q)
 | x ::xs,y::ys,_,_,_,_,i,r,Q,ra,rb,ha,hb,hu,h,f2,q=> by
  have ha':x.canLay0=true/\ba xs=true:=by simpa [ba] using ha
  have hb':y.canLay0=true/\ba ys=true:=by simpa [ba] using hb
  rw [v7]at h
  cases ra with
  | cons r1 rs=>
   cases rb with
   | cons r2 rs2=>
    have e:=lB x y A s _ _ _ _ r1 r2 ha'.1 hb'.1 (mG hu)
    rw [iE,aG,aG]
    refine kat_cons (e prog w _ _ ?_)
    by_cases c:aM x y=true
    ·rw [if_pos c]at h
     rw [c]
     have t:=ain (b:=b) xs ys _ _ _ _ (i+1) r Q rs rs2 ha'.2 hb'.2 (room_tail hu) h (λ_ z=> by lia) q
     refine kat_yes ?_
     simpa using t
    ·rw [if_neg c]at h
     rw [gN]at c
     rw [c]
     refine kat_no ?_
     by_cases z:(b&&i==0)=true
     ·rw [z]
      rw [aD]at z
      rcases f2 z.1 (by simpa using z.2) x y xs ys rfl rfl (by rw [h];simp) c with ⟨p,p',rfl,rfl⟩|⟨p,p',rfl,rfl⟩
      ·rw [aaf]at h
       cases h
       cases r1;cases r2
       exact oneLt_int q
      ·rw [ab3]at h
       cases h
       cases r1;cases r2
       exact oneLt_str q
     ·rw [gN]at z
      rw [z]
      exact ai7 (ad9 x y A s _ _ _ _ r r1 r2 ha'.1 hb'.1 (mG hu) h) q
theorem awk{κ:lN}(hκ:avk ds κ){v:ae}{as bs:List Addr}{r:Bool}{Q:Bool -> ag -> Prop}(mx:dN xs∈ds)(my:dN ys∈ds)(ra:cA s.heap v (.tuple xs) as)(rb:cA s.heap u (.tuple ys) bs)(hx:(dN xs).canLay0=true)(hy:(dN ys).canLay0=true)(hu:A.units+66 < cLine)(dx:(dN xs).depth <=64)(h:ltP (.tuple xs) (.tuple ys)=some r)(q:Q r s):wpAny (model prog w) A (keyLt' κ v u) Q E s:=by
 have hu':A.units+min (dN xs).depth (dN ys).depth < cLine:=by lia
 rcases hκ with rfl|rfl|⟨b,rfl,hb⟩
 ·exact ai7 (ad9 _ _ A s _ _ _ _ r ra rb hx hy hu' h) q
 ·rw [keyLt'_oneType]
  cases ra with
  | tuple h1 h2 h3 h4=>
   cases rb with
   |tuple k1 k2 k3 k4=>
    rw [xl]at h
    refine aug ⟨_,h1,h2,_,h3⟩ ⟨_,k1,k2,_,k3⟩ (room_here hu') ?_ q
    have t:=ac2 xs ys A.in1 s _ _ _ _ r h4 k4 hx hy (room_in hu') h
    simpa using t
 ·cases ra with
  | tuple h1 h2 h3 h4=>
   cases rb with
   | tuple k1 k2 k3 k4=>
    rw [xl]at h
    refine kat_lt h1 h3 k1 k3 ?_
    have hd:bH xs < (dN xs).depth:=by simp only [cv];lia
    have t:=ain (prog:=prog) (w:=w) (A:=A) (b:=b) xs ys _ _ _ _ 0 r Q h4 k4 hx hy (by lia) h (λhb' _ x y xr yr e1 e2 hn ne=> ?_) q
    ·simpa using t
    ·obtain⟨T,hT,al⟩:=hb hb'
     obtain⟨x',r',e3,t3⟩:=al _ mx
     obtain⟨y',r'',e4,t4⟩:=al _ my
     rw [e1]at e3
     rw [e2]at e4
     cases e3;cases e4
     cases x <;> cases y <;> simp [ltP,tyD]at hn t3 t4⊢
     all_goals (subst t3;simp at hT t4)
end
end PF
namespace PF
open PySem PySem.Spec
open L2
variable[XW]
end PF
namespace PF
open PySem PySem.Spec
open PySem.SeqAt
variable[XW]
end PF
namespace PF
open PySem PySem.Spec
open L2
variable[XW]
end PF
namespace PF
open PySem PySem.Spec
open L2
variable[XW]
end PF
namespace PF
open PySem PySem.Spec
open L2
variable[XW]
end PF
namespace PF
open PySem PySem.Spec
open L2
section
variable{s:S}{a b:ac}{r c d:Bool}{x y:Str}{ρ:En}
theorem anz:aca (.bl c) (.bl d) s=.ok (.bl (c !=d)) s:=(rfl)
end
variable[XW]
end PF
namespace PF
open PySem PySem.Spec
open L2
variable[XW]
end PF
namespace PF
open PySem PySem.Spec PySem.W PyProof.Rows
variable[XW]
open PySem.SeqAt
variable[XW]
def ltN(ds:List ac)(i j:Nat):Bool:=match ds[i]?,ds[j]? with
 |some a,some b=> ltb a b
 |some _,none=> true
 |none,_=> false
theorem axx(h:j9 ds=true):KS.Swo (ltN ds) where
 tr {a b c} h1 h2:=by
  unfold ltN at h1 h2⊢
  cases ha:ds[a]? with
  |none=> rfl
  | some x=>
   rw [ha]at h1
   cases hb:ds[b]? with
   |none=> rw [hb]at h1;cases h1
   | some y=>
    rw [hb]at h1 h2
    cases hc:ds[c]? with
    |none=> rw [hc]at h2;cases h2
    |some z=>
     rw [hc]at h2
     exact an9 h (bt ha) (bt hb) (bt hc) h1 h2
 as {a b} h1:=by
  unfold ltN at h1⊢
  cases ha:ds[a]? with
  |none=> rw [ha]at h1;cases h1
  | some x=>
   rw [ha]at h1
   cases hb:ds[b]? with
   |none=> rfl
   |some y=>
    rw [hb]at h1
    exact ajy h (bt ha) (bt hb) h1
section
variable{prog:aL}{w:aO}{A:aX}{E:ae -> ag -> Prop}{s:ag}
theorem abt{h:Heap}: ∀{vs:List ae} {ds:List ac} {bs:List Addr} {i:Nat},cu h vs ds bs -> i < ds.length -> ∃d cs,ds[i]?=some d/\cA h (vs.getD i aU) d cs
 |_,_,_,_,.nil,hi=> by simp at hi
 |_,_,_,0,.cons r rs,_=> ⟨_,_,rfl,r⟩
 |_,_,_,i+1,.cons r rs,hi=> by
  obtain⟨d,cs,e,q⟩:=abt (i:=i) rs (by simpa using hi)
  exact⟨d,cs,by simpa using e,by simpa using q⟩
theorem a04{bs:List Addr}(ra:cu s.heap vs ds bs)(hc:j9 ds=true)(hok:ds.all okD=true)(h2:2 <=vs.length)(hu:A.units+66 < cLine):
  wpAny (model prog w) A (keyKind' vs.toArray) (λ κ s''=> s''=s/\ ∀(i j:Nat) (C:Bool -> ag -> Prop),i < vs.length -> j < vs.length -> C (ltN ds i j) s -> wpAny (model prog w) A (keyLt' κ (vs.getD i aU) (vs.getD j aU)) C (λ_ _=> False) s) (λ_ _=> False) s:=by
 have hl:vs.length=ds.length:=ReadsAll.length ds vs bs ra
 have ask: ∀(κ:lN),(∀(x y:ac) (v u:ae) (as cs:List Addr) (r:Bool) (C:Bool -> ag -> Prop),x∈ds -> y∈ds -> cA s.heap v x as -> cA s.heap u y cs -> ltP x y=some r -> C r s -> wpAny (model prog w) A (keyLt' κ v u) C (λ_ _=> False) s) ->
   s=s/\ ∀(i j:Nat) (C:Bool -> ag -> Prop),i < vs.length -> j < vs.length -> C (ltN ds i j) s -> wpAny (model prog w) A (keyLt' κ (vs.getD i aU) (vs.getD j aU)) C (λ_ _=> False) s:=λ κ k=> by
  refine⟨rfl,λi j C hi hj hC=> ?_⟩
  obtain⟨x,as,ex,rx⟩:=abt (i:=i) ra (by lia)
  obtain⟨y,cs,ey,ry⟩:=abt (i:=j) ra (by lia)
  have mx:=bt ex
  have my:=bt ey
  obtain⟨r,hr⟩:=aed hc mx my
  refine k x y _ _ as cs r C mx my rx ry hr ?_
  have:ltN ds i j=r:=by
   unfold ltN
   rw [ex,ey]
   show ltb x y=r
   unfold ltb
   rw [hr]
   cases r <;> rfl
  rw [←this];exact hC
 obtain⟨d0,dr,hd⟩: ∃d0 dr,ds=d0::dr:=by
  cases ds with
  |nil=> rw [bS]at hl;lia
  |cons a b=> exact⟨a,b,rfl⟩
 have m0:d0∈ds:=by rw [hd];exact au
 have cmp0: ∀d∈ds,∃r,ltP d0 d=some r:=λd hm=> aed hc m0 hm
 have lay: ∀d∈ds,d.canLay0=true/\d.depth <=64:=λd hm=> by
  have:=aC.mp hok d hm
  unfold okD at this
  rw [aD,decide_eq_true_eq]at this
  exact this
 have typ: ∀v∈vs,∃d cs,d∈ds/\cA s.heap v d cs:=λv hv=> by
  obtain⟨i,hi⟩:=gU.mp hv
  have hil:=(aB.mp hi).1
  obtain⟨x,as,ex,rx⟩:=abt (i:=i) ra (by lia)
  have:vs.getD i aU=v:=by simp [hi]
  rw [this]at rx
  exact⟨x,as,bt ex,rx⟩
 cases d0 with
 | int i0=>
  have ai: ∀d∈ds,∃i,d=.int i:=λd hm=> by
   obtain⟨r,hr⟩:=cmp0 d hm
   cases d <;> simp [ltP]at hr
   exact⟨_,rfl⟩
  refine kas_kind (T:=.type "int") h2 (λv hv=> ?_) (by decide) (by decide) (ask oneType' λx y v u as cs r C mx my rx ry hr hC=> ?_)
  ·obtain⟨d,cs,hm,rd⟩:=typ v hv
   obtain⟨i,rfl⟩:=ai d hm
   cases rd
   exact Looks.of_pure rfl
  ·obtain⟨i,rfl⟩:=ai x mx
   obtain⟨j,rfl⟩:=ai y my
   rw [aaf]at hr
   cases hr
   cases rx;cases ry
   exact kat_lt_int hC
 | str i0=>
  have ai: ∀d∈ds,∃i,d=.str i:=λd hm=> by
   obtain⟨r,hr⟩:=cmp0 d hm
   cases d <;> simp [ltP]at hr
   exact⟨_,rfl⟩
  refine kas_kind (T:=.type "str") h2 (λv hv=> ?_) (by decide) (by decide) (ask oneType' λx y v u as cs r C mx my rx ry hr hC=> ?_)
  ·obtain⟨d,cs,hm,rd⟩:=typ v hv
   obtain⟨i,rfl⟩:=ai d hm
   cases rd
   exact Looks.of_pure rfl
  ·obtain⟨i,rfl⟩:=ai x mx
   obtain⟨j,rfl⟩:=ai y my
   rw [ab3]at hr
   cases hr
   cases rx;cases ry
   exact kas_lt_str hC
 | tuple t0=>
  have ai: ∀d∈ds,∃i,d=.tuple i:=λd hm=> by
   obtain⟨r,hr⟩:=cmp0 d hm
   cases d <;> simp [ltP]at hr
   exact⟨_,rfl⟩
  obtain⟨κ,hκ,k⟩:=ass (prog:=prog) (w:=w) (A:=A) (E:=λ_ _=> False) ra ai (by rw [hd];simp)
  refine k (ask κ λx y v u as cs r C mx my rx ry hr hC=> ?_)
  obtain⟨i,rfl⟩:=ai x mx
  obtain⟨j,rfl⟩:=ai y my
  exact awk hκ mx my rx ry (lay _ mx).1 (lay _ my).1 hu (lay _ mx).2 hr hC
 |none=> obtain⟨r,hr⟩:=cmp0 _ m0;simp [ltP]at hr
 |bool _=> obtain⟨r,hr⟩:=cmp0 _ m0;simp [ltP]at hr
 |list _=> obtain⟨r,hr⟩:=cmp0 _ m0;simp [ltP]at hr
 |dict _=> obtain⟨r,hr⟩:=cmp0 _ m0;simp [ltP]at hr
theorem ag7{r:Addr}(hu:A.units+70 < cLine)(coll: ∀(R:List ae -> ag -> Prop),(∀h' d' tk (vs:List ae) (bs:List Addr) (ds:List ac),ds.length < 64 -> j9 ds=true -> ds.all okD=true -> cu h' vs ds bs -> (∀b u,s.heap.get? b=some u -> h'.get? b=some u) ->
    (∀(h1 h2:Heap) (d2:Drawn) (tk2 e:Nat) (p:List Nat),p.Perm (aW vs.length) -> (p.map λi=> ds.getD i .none)=kr ds -> (∀b u,s.heap.get? b=some u -> h1.get? b=some u) -> (∀b u,h'.get? b=some u -> h1.get? b=some u) -> h2.get? h1.objs.size=some (seqObj "list" (p.map λi=> vs.getD i aU).toArray e) -> (∀b u,h1.get? b=some u -> h2.get? b=some u) ->
     Q (.ref h1.objs.size) {s with heap:=h2,drawn:=d2,toks:=tk2}) -> R vs {s with heap:=h',drawn:=d',toks:=tk}) -> wpAny (model prog w) A.in1 (collect (.ref r)) R E s):
  wpAny (model prog w) A (call (.builtin "sorted") [.ref r]) Q E s:=by --
 refine fY kind_sorted plain_sorted entry_sorted (args_sorted1 _) ?_;unfold cC.«sorted»
 refine aa (m:=checkCount "sorted" 1 1 _) (af (aa (coll _ λh' d' tk vs bs ds h64 hc hok ra kp q=> ?_)))
 have hl:vs.length=ds.length:=ReadsAll.length ds vs bs ra
 refine aa (l6 ?_ (by rw [cp];lia));have g:(h'.push {cls:=.type "list",data:=.seq vs.toArray}).get? h'.objs.size=some (seqObj "list" vs.toArray 0):=ay _ rfl
 have hin1:=aee A
 have hin2:=aee A.in1
 refine aa (a9 (bg slot_list_sort ⟨_,g,rfl⟩ entry_list_sort (KS.ate g (by lia) (axx hc) (λh2 s' k'=> a04 (ds:=ds) (bs:=bs) ?_ hc hok h2 (by lia)) λp pm pw=> ⟨_,rfl,?_⟩) (args_list_sort _)))
 ·refine fJ (λb o eb=> k' b o (aJ (az eb)) (aj _ eb)) ra
 ·obtain⟨e,ge⟩:=sortedHeap_at (out:=(p.map λi=> vs.getD i aU).toArray) g
  have es:(p.map λi=> ds.getD i .none)=kr ds:=by
   have e0:(aW vs.length).map (λi=> ds.getD i .none)=ds:=by
    rw [hl]
    apply cW
    intro i
    rw [aN]
    by_cases z:i < ds.length
    ·rw [dB z,ao z]
     simp [z]
    ·rw [di.mpr (by simpa using z),di.mpr (by simpa using z)];rfl
   refine afs hc ?_ ?_
   ·have:=pm.map λi=> ds.getD i .none
    rwa [e0]at this
   ·rw [aam,cX]
    refine jK ?_ pw
    intro a b ma mb h
    have la:a < ds.length:=by have:=bA.mp (pm.mem_iff.mp ma);lia
    have lb:b < ds.length:=by have:=bA.mp (pm.mem_iff.mp mb);lia
    unfold ltN at h
    rw [ao la,ao lb]at h
    simpa [la,lb] using h
  refine af ⟨_,rfl,q h' _ d' tk e p pm es kp (λb u z=> z) ge λb u eb=> ?_⟩
  have lb:=az eb
  rw [sortedHeap_old (aJ lb) (by rw [aV];exact bU lb)]
  exact aj _ eb
end
end PF
namespace PF
open PySem PySem.Spec
open L2
variable[XW]
theorem TDs.pick{as:As}{H:Hp}{vs:List V}{ds:List ac}(t:TDs as H vs ds): ∀p:List Nat,(∀i∈p,i < ds.length) -> TDs as H (p.map λi=> vs.getD i .non) (p.map λi=> ds.getD i .none)
 |[],_=>.nil
 |i::r,h=> by
  have hi:=h i au
  obtain⟨v,e,td⟩:=t.get (i:=i) (d:=ds[i]) (ao hi)
  refine .cons ?_ (TDs.pick t r λj hj=> h j (aw _ hj))
  show TD as H (vs.getD i .non) (ds.getD i .none)
  rw [show vs.getD i .non=v by simp [e],show ds.getD i .none=ds[i] by simp [hi]]
  exact td
theorem auv{vs:List V}(r:ji vs us){i:Nat}(e:vs[i]?=some v): ∃u,us[i]?=some u/\RelV v u:=by
 induction r generalizing i with
 |nil=> simp at e
 |cons a b ih=>
  cases i with
  |zero=> simp at e;subst e;exact⟨_,rfl,a⟩
  |succ i=> simpa using ih (by simpa using e)
theorem ae5{vs:List V}{us:List ae}(r:ji vs us): ∀p:List Nat,(∀i∈p,i < vs.length) -> ji (p.map λi=> vs.getD i .non) (p.map λi=> us.getD i aU)
 |[],_=>.nil
 |i::q,h=> by
  have hi:=h i au
  obtain⟨u,e,rv⟩:=auv r (i:=i) (ao hi)
  refine .cons ?_ (ae5 r q λj hj=> h j (aw _ hj))
  show RelV (vs.getD i .non) (us.getD i aU)
  rw [show vs.getD i .non=vs[i] by simp [hi],show us.getD i aU=u by simp [e]]
  exact rv
def ab4(m:Bool)(ds:List D)(s:S):R D:=match ds with
 |[d]=> match (ac4 s d).bind j3 with
  |some xs=> if xs.length < 64/\j9 xs=true/\xs.all okD=true then kh m ((kr xs).map D.da) s else .bad
  |none=>.bad
 |_=>.bad
theorem au2(m:Bool)(hu:X.A.units+70 < cLine):CB X (.builtin "sorted") (ab4 m):=abr λpins sh σ H as s xs ds us Q I rl rs ru h=> by
 unfold ab4 at h
 split at h
 ·rename_i d
  split at h
  ·rename_i es he
   split at h
   ·rename_i hcond
    obtain⟨h64,hc,hok⟩:=hcond
    obtain⟨v,rfl,rv⟩:=rs.one
    cases e1:ac4 s d with
    |none=> rw [e1]at he;cases he
    | some ys=>
     rw [e1]at he
     have hp:j3 ys=some es:=he
     have e2:=ye hp
     subst e2
     obtain⟨p,zs,rfl,sq,rz⟩:=aci rl rv e1
     obtain⟨u,rfl,ruv⟩:=vals1 ru
     cases ruv
     have td:=rz.td
     have fin: ∀(its:List ae),ji zs its -> (∃(T:String) (o:Obj) (n:Nat),(T="list"\/T="tuple")/\sh.heap.get? p=some o/\o.cls=.type T/\o.data=.seq its.toArray n) -> wpAny (model X.prog X.w) X.A (call (.builtin "sorted") [.ref p]) (EP X pins σ Q) X.xe sh:=λits rv ⟨T,o,n,hT,ho,hcl,hd⟩=> by
      obtain⟨bs,ra⟩:=td.reads I rv
      have hl2:its.length=es.length:=PySem.SeqAt.ReadsAll.length es its bs ra
      refine ag7 hu λR k=> PySem.wpAny_collect_seq p hT ho hcl hd (λh' kp=> ?_) (by rw [aE,cp];lia)
      have k1:=k h' sh.drawn sh.toks its bs es h64 hc hok (fJ kp ra) kp
      refine k1 λh1 h2 d2 tk2 e p' pm es' kp1 kp1' g kp2=> ?_
      have I1:Inv X pins σ H {sh with heap:=h1,toks:=sh.toks}:=I.un (Un.kept kp1) (I.hok.kept kp1)
      have hz:zs.length=es.length:=td.length
      have hlt: ∀i∈p',i < es.length:=λi hi=> by have:=bA.mp (pm.mem_iff.mp hi);lia
      have vp:=ae5 rv p' (λi hi=> by rw [hz];exact hlt i hi)
      have hlen:p'.length=es.length:=by rw [pm.length_eq,cz,hl2]
      have I2:Inv X pins σ (upd H h1.objs.size (.lst (p'.map λi=> zs.getD i .non))) {sh with heap:=h2,toks:=tk2}:=I1.laid (t':=tk2) kp2 (av _) ⟨by rw [ak,hlen,cp];lia,_,e,vp,by simpa [ml] using g⟩
      have nw:New H h1.objs.size (.lst (p'.map λi=> zs.getD i .non)) (upd H h1.objs.size (.lst (p'.map λi=> zs.getD i .non))):=⟨I1.hok.fresh (av _),rfl⟩
      have tp:=(td.pick p' hlt).rd (K:=X.K)
      rw [es']at tp
      exact⟨.ref h1.objs.size,_,I2.drew d2,rfl,zb h rl tp nw⟩
     rcases sq with sq|sq
     ·obtain⟨its,rv,⟨o,k,h1,h2,h3,h4⟩,z⟩:=I.list sq
      exact fin its rv ⟨"list",o,_,.inl rfl,h1,h2,h4⟩
     ·obtain⟨its,rv,⟨o,h1,h2,k,h3⟩,z⟩:=I.tuple sq
      exact fin its rv ⟨"tuple",o,_,.inr rfl,h1,h2,h3⟩
   ·exact h.elim
  ·exact h.elim
 ·exact h.elim
end PF
namespace L2
open PySem PySem.Spec PyProof.Rows
open MeetsSeq MeetsSeq2 MeetsSeq3 SeqRoads2 --
def akz(h:Heap)(d:Addr)(es:Array dH)(ep:Nat):Prop:= ∃o,h.get? d=some o/\o.ExactDict/\o.data=.dict es ep
section
variable{prog:aL}{w:aO}{A:aX}{E:ae -> ag -> Prop}{s:ag}{it d:Addr}{es:Array dH}{ep i:Nat}
theorem akz.typeIs(x:akz s.heap d es ep):s.TypeIs (.ref d) "dict":=let ⟨_,ho,hc,_⟩:=x;⟨_,ho,hc.1⟩
end
end L2
namespace L2
open PySem PySem.Spec PyProof.Rows
mutual
theorem KD.reads(ok:HOk P w H h): ∀{v:V} {d:ac} {u:ae},KD H v d -> RelV v u -> ∃bs,cA h u d bs
 |_,_,u,.non,r=> by cases (show u=aU from r);exact⟨_,.none⟩
 |_,_,u,.int i,r=> by obtain⟨t,e⟩:=(show∃t,u=eV i t from r);subst e;exact⟨_,.int i t⟩
 |_,_,u,.str x,r=> by obtain⟨t,e⟩:=(show∃t,u=iq x t from r);subst e;exact⟨_,.str x t⟩
 |_,_,u,.tup (p:=b) (xs:=xs) e q,r=> by
  cases (show u=bZ b from r)
  obtain⟨z,its,rv,p⟩:=(show jq P w H h b (.tup xs) from ok b _ e)
  obtain⟨o,h1,h2,k,h3⟩:=p.tup
  obtain⟨bs,ra⟩:=KDs.reads ok q rv
  exact⟨_,.tuple h1 h2 h3 ra⟩
theorem KDs.reads(ok:HOk P w H h): ∀{vs:List V} {ds:List ac} {us:List ae},KDs H vs ds -> ji vs us -> ∃bs,cu h us ds bs
 |_,_,_,.nil,r=> by cases r;exact⟨_,.nil⟩
 | _,_,_,.cons a b,r=> by
  cases r with
  |cons r1 r2=>
   obtain⟨as,h1⟩:=KD.reads ok a r1
   obtain⟨bs,h2⟩:=KDs.reads ok b r2
   exact⟨_,.cons h1 h2⟩
end
theorem acr(ok:HOk P w H h){b:Addr}{k:ac}(hk:PF.vh k=true)(e:KD H (.ref b) k):(PF.qx P w).is h k b:=⟨hk,e.reads ok rfl⟩
abbrev KE(H:Hp):List (ac×V) -> List (ac×Addr×ae) -> Prop:=ir λp q=> p.1=q.1/\(PF.vh p.1=true/\KD H (.ref q.2.1) p.1)/\RelV p.2 q.2.2
theorem KE.val{kvs:List (ac×V)}{xs:List (ac×Addr×ae)}(r:KE H kvs xs)(k:ac):zr (vq kvs k) ((atKey xs k).map (·.2)):=by
 induction r with
 |nil=> exact c9
 | @cons p q ps qs hh t ih=>
  by_cases e:p.1=k
  ·rw [yw e,show atKey (q::qs) k=some q.2 by simp [atKey,cw,hh.1.symm.trans e]]
   exact hh.2.2
  ·have e': ¬q.1=k:=λz=> e (hh.1.trans z)
   rw [yx e,show atKey (q::qs) k=atKey qs k by simp [atKey,cw,e']]
   exact ih
theorem KE.put{kvs:List (ac×V)}{xs:List (ac×Addr×ae)}(r:KE H kvs xs){k:ac}{b:Addr}{y:V}(hk:PF.vh k=true)(hb:KD H (.ref b) k)(ry:RelV y u):KE H (jv kvs k y) (storedH xs k b u):=by
 have e:(kvs.any λkv=> decide (kv.1=k))=(atKey xs k).isSome:=by rw [ab7,(r.val k).isSome_eq,cy]
 unfold jv storedH
 rw [e]
 by_cases q:(atKey xs k).isSome=true
 ·rw [if_pos q,if_pos q]
  clear e q
  induction r with
  |nil=> exact .nil
  | @cons p q ps qs hh t ih=>
   rw [aK,aK]
   refine .cons ?_ ih
   unfold putAt
   by_cases e:p.1=k
   ·rw [if_pos e,if_pos (hh.1.symm.trans e)];exact⟨hh.1,hh.2.1,ry⟩
   ·rw [if_neg e,if_neg λz=> e (hh.1.trans z)];exact hh
 ·rw [if_neg q,if_neg q];exact mQ r ⟨rfl,⟨hk,hb⟩,ry⟩
def zp{prog:aL}{w:aO}{κ:Type}[DecidableEq κ](knd:HeapKind prog w κ)(h:Heap)(d:Addr)(xs:List (κ×Addr×ae)):Prop:=
 ∃o es ep,h.get? d=some o/\o.ExactDict/\(o.data=.dict es ep/\ep=es.size)/\es.toList=xs.map (eW knd)/\(∀x∈xs,knd.is h x.1 x.2.1)/\(xs.map (·.1)).Nodup
theorem zp.oh{prog:aL}{w:aO}{κ:Type}[DecidableEq κ]{knd:HeapKind prog w κ}{d:Addr}{xs:List (κ×Addr×ae)}(z:zp knd h d xs):h.DictOfH knd d xs:=
 let ⟨o,es,ep,h1,h2,h3,h4⟩:=z
 ⟨o,es,ep,h1,h2,h3.1,h4⟩
theorem ar8{kvs:List (ac×V)}(ok:HOk P w H h)(e:H a=some (.dD kvs)):kvs.length <=sizeLine/\(a==bP)=false/\ ∃xs,KE H kvs xs/\zp (PF.qx P w) h a xs:=by
 obtain⟨z,y,xs,r,o,es,ep,h1,h2,h3,h4,h5⟩:=(show jq P w H h a (.dD kvs) from ok a _ e)
 refine⟨z,y,xs,r,o,es,ep,h1,h2,h3,h4,?_,h5⟩
 clear h3 h4 h5 z e
 induction r with
 |nil=> intro x hx;exact nomatch hx
 | @cons p q ps qs hq t ih=>
  intro x hx
  rcases aA.mp hx with e|hx
  ·subst e
   exact acr ok (hq.1▸hq.2.1.1) (hq.1▸hq.2.1.2)
  ·exact ih x hx
theorem a31{kvs:List (ac×V)}(ok:HOk P w H h)(e:H a=some (.dD kvs)):kvs.length <=sizeLine/\(a==bP)=false/\ ∃xs,KE H kvs xs/\h.DictOfH (PF.qx P w) a xs:=
 let ⟨z,y,xs,r,q⟩:=ar8 ok e
 ⟨z,y,xs,r,q.oh⟩
theorem apm(ok:HOk P w H h)(e:H a=some (.dK [])):(a==bP)=false/\zp (PF.qx P w) h a []:=by
 obtain⟨em,z,y,vs,r,o,es,ep,h1,h2,h3,h4,h5,h6⟩:=(show jq P w H h a (.dK []) from ok a _ e)
 obtain⟨o,h1,h2,h3⟩:=em rfl
 exact⟨y,o,#[],0,h1,h2,⟨h3,rfl⟩,rfl,(λx hx=> by cases hx),fE⟩
section
variable{X:Cx}{pins:List (Addr×Obj)}{σ:St}{H:Hp}{s:ag}{a b:Addr}{v:V}{r:ae}{k:ac}{kvs:List (ac×V)}{A:aX}{E:ae -> ag -> Prop}
def DD(H:Hp)(a:Addr)(kvs:List (ac×V)):Prop:=H a=some (.dD kvs)\/(H a=some (.dK [])/\kvs=[])
theorem DD.rs(ok:HOk P w H h)(e:DD H a kvs):kvs.length <=sizeLine/\(a==bP)=false/\ ∃xs,KE H kvs xs/\zp (PF.qx P w) h a xs:=by
 rcases e with e|⟨e,rfl⟩
 ·exact ar8 ok e
 ·exact⟨b9 _,(apm ok e).1,[],.nil,(apm ok e).2⟩
theorem DD.rd(ok:HOk P w H h)(e:DD H a kvs):kvs.length <=sizeLine/\(a==bP)=false/\ ∃xs,KE H kvs xs/\h.DictOfH (PF.qx P w) a xs:=
 let ⟨z,y,xs,r,q⟩:=e.rs ok
 ⟨z,y,xs,r,q.oh⟩
theorem DD.mut(e:DD H a kvs):Mut (H a):=by
 rcases e with e|⟨e,rfl⟩ <;> (rw [e];exact c9)
theorem aeo(hu:A.units+11 < cLine):(PF.qx P w).room A.in1:=by
 show A.in1.units+10 < cLine
 have:A.in1.units <=A.units+1:=by first|exact av _|(unfold i5;simp)
 lia
theorem a3b(hu:A.units+11 < cLine)(I:Inv X pins σ H s)(e:DD H a kvs)(hk:PF.vh k=true)(eb:KD H (.ref b) k)(h: ∀s',Inv X pins σ H s' -> Q (.bool (vq kvs k).isSome) s'):wpAny (model X.prog X.w) A (aS .In (.ref b) (.ref a)) Q E s:=by
 obtain⟨z,hd,xs,rel,dd⟩:=e.rd I.hok
 have q:=(rel.val k).isSome_eq
 rw [cy]at q
 exact wpAny_in_heap (aeo hu) (acr I.hok hk eb) hd dd (q▸h _ (I.tok _))
theorem atx(hu:A.units+11 < cLine)(I:Inv X pins σ H s)(e:DD H a kvs)(hk:PF.vh k=true)(eb:KD H (.ref b) k)(h: ∀s',Inv X pins σ H s' -> Q (.bool (!(vq kvs k).isSome)) s'):wpAny (model X.prog X.w) A (aS .NotIn (.ref b) (.ref a)) Q E s:=by
 obtain⟨z,hd,xs,rel,dd⟩:=e.rd I.hok
 have q:=(rel.val k).isSome_eq
 rw [cy]at q
 exact wpAny_notIn_heap (aeo hu) (acr I.hok hk eb) hd dd (q▸h _ (I.tok _))
theorem ajr{h':Heap}{xs:List (ac×Addr×ae)}(z:kvs.length <=sizeLine)(hd:(a==bP)=false)(rel:KE H kvs xs)(ht: ∀b ys,H b=some (.tup ys) -> H' b=some (.tup ys))(dd:zp (PF.qx P w) h' a xs):jq P w H' h' a (.dD kvs):=by
 obtain⟨o,es,ep,h1,h2,h3,h4,h5,h6⟩:=dd
 exact⟨z,hd,xs,Paired.mapP rel λp q y=> ⟨y.1,⟨y.2.1.1,y.2.1.2.mono ht⟩,y.2.2⟩,o,es,ep,h1,h2,h3,h4,h6⟩
section
variable{prog:aL}{w:aO}{A:aX}{E:ae -> ag -> Prop}{s:ag}{κ:Type}[DecidableEq κ]{knd:HeapKind prog w κ}
theorem aog{o:Obj}{es:Array dH}{d:Addr}{xs:List (κ×Addr×ae)}{k:κ}{v:ae}(hkey:knd.is s.heap k a)(ho:s.heap.get? d=some o)(hc:o.ExactDict)(hd:o.data=.dict es ep)(hp:ep=es.size)(he:es.toList=xs.map (eW knd))(his: ∀x∈xs,knd.is s.heap x.1 x.2.1)(hn:(xs.map (·.1)).Nodup)(hno:atKey xs k=none)(hnot:k∉xs.map (·.1)):
  zp knd (s.heap.update d (Obj.mapDictKeys (·.push (eW knd (k,a,v))))) d (storedH xs k a v):=by
 have sb:bu d s.heap (s.heap.update d (Obj.mapDictKeys (·.push (eW knd (k,a,v))))):=bw ..
 rw [storedH_new hno]
 refine⟨_,_,ep+1,bD _ ho (mn (lO hd _)),hc.mapDictKeys _,⟨lO hd _,by rw [hp];simp⟩,by simp [he],λx hx=> ?_,?_⟩
 ·rcases aR.mp hx with q|q
  ·exact knd.keeps (his x q) ho hd sb
  ·cases aF.mp q
   exact knd.keeps hkey ho hd sb
 ·rw [c6]
  refine dZ.mpr ⟨hn,cZ.mpr ⟨bM,fE⟩,λx hx y hy e=> hnot ?_⟩
  cases aF.mp hy
  have e':x=k:=e
  exact e'▸hx
theorem adq{d:Addr}{xs:List (κ×Addr×ae)}{k:κ}{v:ae}{Q:Unit -> ag -> Prop}(hu:knd.room A)(hkey:knd.is s.heap k a)(hm:zp knd s.heap d xs)(hQ: ∀h',zp knd h' d (storedH xs k a v) -> bu d s.heap h' -> Q () {s with heap:=h',toks:=s.toks+knd.draws k})(hsz:xs.length <=sizeLine):wpAny (model prog w) A (dictSet d (.ref a) v) Q E s:=by
 obtain⟨o,es,ep,ho,hc,⟨hd,hp⟩,he,his,hn⟩:=hm
 unfold dictSet
 (try with_reducible refine a9 ?_)
 refine aa (knd.pyHash hu hkey ?_);unfold dictSetHashed
 (try with_reducible refine a9 ?_)
 refine aa (wpAny_dictFind_heap (s:={s with toks:=s.toks+knd.draws k}) hu hkey ho hd he his hn (λhno=> ?_) λj p hj=> ?_)
 ·exact aa (cI (wpAny_updateDictKeys (hz:=by have e:=size_of_entries he;lia) (s:={s with toks:=s.toks+knd.draws k}) ho hd (hQ _ (aog hkey ho hc hd hp he his hn (atKey_none_of_get hno) (not_mem_keys_of_get hno)) (bw ..))))
 ·refine aa (cI (aa (wpAny_updateDict (s:={s with toks:=s.toks+knd.draws k}) ho hd (wpAny_point (hQ _ ?_ (bw ..))))))
  have k1:=atKey_of_get hn hj
  refine⟨_,_,ep,bD _ ho (mn (Obj.data_mapDict hd _)),hc.mapDict _,⟨Obj.data_mapDict hd _,by rw [hp];simp⟩,?_,?_,?_⟩
  ·have q:=modify_map_putAt (eW knd) (λe:dH=> {e with val:=v}) k v (λ_ _=> rfl) hn hj
   rw [←he]at q;rw [mW k1];obtain⟨l⟩:=es
   simpa using q
  ·rw [mW k1];intro x hx
   obtain⟨y,hy,ey⟩:=aH.mp hx
   have e1:x.1=y.1/\x.2.1=y.2.1:=by rw [←ey];unfold putAt;split <;> exact⟨rfl,rfl⟩
   rw [e1.1,e1.2]
   exact knd.keeps (his y hy) ho hd (bw ..)
  ·rw [mW k1,bj]
   have e1:((·.1)∘putAt k v:κ×Addr×ae -> κ)=(·.1):=by funext y;show (putAt k v y).1=y.1;unfold putAt;split <;> rfl
   rw [e1];exact hn
theorem asb{d:Addr}{xs:List (κ×Addr×ae)}{k:κ}{v:ae}{Q:Unit -> ag -> Prop}(hu:knd.room A.in1)(hkey:knd.is s.heap k a)(hm:zp knd s.heap d xs)(hQ: ∀h',zp knd h' d (storedH xs k a v) -> bu d s.heap h' -> Q () {s with heap:=h',toks:=s.toks+knd.draws k})(hsz:xs.length <=sizeLine):wpAny (model prog w) A (setItem (.ref d) (.ref a) v) Q E s:=by
 unfold setItem
 (try with_reducible refine a9 ?_)
 refine aa (iW hm.oh.typeIs (by decide) (aa (bf (name:=cf "__setitem__") hm.oh.typeIs slot_dict_setitem (bg slot_dict_setitem hm.oh.typeIs entry_dict_setitem ?_ (args_dict_setitem _ _ _)))))
 refine (show wpAny _ _ (Builtin.Dict.notOrdered "__setitem__" ⟨[.ref d,.ref a,v],[]⟩>>=_) _ _ s from aa (wpAny_notOrdered_dict hm.oh.typeIs ?_))
 exact (show wpAny _ _ (dictSet d (.ref a) v >>=_) _ _ s from aa (adq hu hkey hm (λh' hm' hs'=> af ⟨.none,rfl,af (hQ h' hm' hs')⟩) hsz))
end
theorem aod{Q:Unit -> ag -> Prop}(hu:A.units+11 < cLine)(I:Inv X pins σ H s)(e:DD H a kvs)(hl:kvs.length < sizeLine)(hk:PF.vh k=true)(eb:KD H (.ref b) k)(rv:RelV v r)(h: ∀s',Inv X pins σ (upd H a (.dD (jv kvs k v))) s' -> Q () s'):wpAny (model X.prog X.w) A (setItem (.ref a) (.ref b) r) Q E s:=by
 obtain⟨z,hd,xs,rel,dd⟩:=e.rs I.hok
 have hz:xs.length <=sizeLine:=by rw [←eS rel];exact z
 have hl':(jv kvs k v).length <=sizeLine:=by have:=vm kvs k v;lia
 refine asb (hsz:=hz) (aeo hu) (acr I.hok hk eb) dd λh' dd' hs=> h _ ?_
 have he: ∃q,h'.get? a=some q:=let ⟨q,_,_,hq,_⟩:=dd';⟨q,hq⟩
 have ht: ∀c ys,H c=some (.tup ys) -> upd H a (.dD (jv kvs k v)) c=some (.tup ys):=λc ys q=> by
  rw [j4 (λy=> by subst y;rcases e with e|⟨e,_⟩ <;> (rw [e]at q;cases q))];exact q
 exact aa7 I e.mut hs he (ajr hl' hd (rel.put hk eb rv) ht dd')
end
end L2
namespace PF
open PySem PySem.Spec
open L2
variable[XW]
mutual
theorem TD.kd: ∀{v:V} {d:ac},TD as H v d -> plD d=true -> KD H v d
 |_,_,.non,_=>.non
 |_,_,.int i,_=>.int i
 |_,_,.str x,_=>.str x
 |_,_,.tup n e r,h=>.tup e (TDs.kd r (by rw [←ki];exact h))
 |_,_,.bl b,h=> by simp [plD]at h
 |_,_,.lst _ _ _,h=> by simp [plD]at h
 |_,_,.dct _ _,h=> by simp [plD]at h
 |_,_,.dc1 _ _ _,h=> by simp [plD]at h
theorem TDs.kd: ∀{v:List V} {d:List ac},TDs as H v d -> qy d=true -> KDs H v d
 |_,_,.nil,_=>.nil
 |_,_,.cons a r,h=> by
  rw [kz,aD]at h
  exact .cons (TD.kd a h.1) (TDs.kd r h.2)
end
theorem azc(rl:Rel K as H s){q:Addr}{xs:List V}(e:H q=some (.tup xs)): ¬as.has q:=by
 rintro (h|h)
 ·obtain⟨n,hn⟩:=kc.mp h
  have hl:n < s.length:=by rw [←rl.len];exact (aB.mp hn).1
  have ro:=rl.ob n q _ hn (ao hl)
  cases ho:s[n]with
  |lst ds=> rw [ho]at ro;obtain⟨ys,e2,_⟩:=ro;rw [e]at e2;cases e2
  |dct kvs=>
   rw [ho]at ro
   rcases ro with ⟨l,e2,_⟩|⟨l,_,e2,_⟩ <;> (rw [e]at e2;cases e2)
  |set _=> rw [ho]at ro;exact ro.elim
  |ins _ _=> rw [ho]at ro;obtain⟨_,_,_,_,e2,_⟩:=ro;rw [e]at e2;cases e2
  |exc _ _=> rw [ho]at ro;obtain⟨_,_,_,e2,_⟩:=ro;rw [e]at e2;cases e2
  |xcx _ _=> rw [ho]at ro;obtain⟨_,_,_,e2,_⟩:=ro;rw [e]at e2;cases e2
  |gone=> rw [ho]at ro;exact ro.elim
 ·obtain⟨o,e2,t⟩:=rl.hs q h
  rw [e]at e2;cases e2;cases t
mutual
theorem KD.td{s:S}(rl:Rel K as H s): ∀{v:V} {d:ac},KD H v d -> TD as H v d
 |_,_,.non=>.non
 |_,_,.int i=>.int i
 |_,_,.str x=>.str x
 |_,_,.tup e r=>.tup (azc rl e) e (KDs.td rl r)
theorem KDs.td{s:S}(rl:Rel K as H s): ∀{v:List V} {d:List ac},KDs H v d -> TDs as H v d
 |_,_,.nil=>.nil
 |_,_,.cons a r=>.cons (KD.td rl a) (KDs.td rl r)
end
noncomputable def j5{α:Type}(kvs:List (ac×α))(k:ac):Option α:=(kvs.find? λe=> decide (e.1=k)).map (·.2)
noncomputable def kj{α:Type}(kvs:List (ac×α))(k:ac)(v:α):List (ac×α):=
 if (kvs.any λe=> decide (e.1=k))=true then kvs.map (λe=> if e.1=k then (e.1,v) else e) else kvs++ [(k,v)]
noncomputable def isK:ac -> Bool
 |.int _=> true
 |.str _=> true
 |_=> false
def kn{α:Type}(kvs:List (ac×α))(k:ac):Bool:=(isK k&&kvs.all λe=> isK e.1)||(isT k&&kvs.all λe=> isT e.1)
noncomputable def ap8:D -> Option ac
 |.da d=> some d
 |_=> none
theorem apl{a b:Key}(h:kP a=kP b):a=b:=by
 cases a <;> cases b <;> simp [kP]at h <;> rw [h]
theorem azw{k:ac}(h:isK k=true): ∃a,k=kP a:=by
 cases k <;> simp [isK]at h
 ·exact⟨.inl _,rfl⟩
 ·exact⟨.inr _,rfl⟩
theorem aju(l:List (Key×V))(k:Key):vq (pvK l) (kP k)=vq l k:=by
 induction l with
 |nil=> rfl
 |cons p r ih=>
  by_cases e:p.1=k
  ·rw [yw e,show pvK (p::r)=(kP p.1,p.2)::pvK r from rfl,yw (by rw [e])]
  ·rw [yx e,show pvK (p::r)=(kP p.1,p.2)::pvK r from rfl,yx (λz=> e (apl z)),ih]
theorem akj(l:List (Key×V))(k:Key)(v:V):pvK (jv l k v)=jv (pvK l) (kP k) v:=by
 unfold jv
 rw [ab7,ab7,aju]
 split
 ·unfold pvK
  (rw [bj,bj])
  refine ic λe _=> ?_
  show (kP (if e.1=k then (e.1,v) else e).1,(if e.1=k then (e.1,v) else e).2)=if kP e.1=kP k then (kP e.1,v) else (kP e.1,e.2)
  by_cases z:e.1=k
  ·rw [if_pos z,if_pos (by rw [z])]
  ·rw [if_neg z,if_neg (λy=> z (apl y))]
 ·unfold pvK
  rw [c6];rfl
theorem DRs.get{l:List (ac×V)}{kvs:List (ac×D)}(h:DRs K as H l kvs)(k:ac):(∀d,j5 kvs k=some d -> ∃v,vq l k=some v/\RD K as H v d)/\(j5 kvs k=none -> vq l k=none):=by
 induction h with
 |nil=> exact⟨λd e=> by simp [j5]at e,λ_=> rfl⟩
 | @cons k' v d l kvs r t ih=>
  by_cases e:k'=k
  ·subst e
   refine⟨λd' e'=> ?_,λe'=> ?_⟩
   ·simp [j5,cw]at e'
    subst e'
    exact⟨v,yw rfl,r⟩
   ·simp [j5,cw]at e'
  ·have e1:j5 ((k',d)::kvs) k=j5 kvs k:=by simp [j5,cw,e]
   rw [e1,yx e]
   exact ih
theorem DRs.any{l:List (ac×V)}{kvs:List (ac×D)}(h:DRs K as H l kvs)(k:ac):(l.any λe=> decide (e.1=k))=kvs.any λe=> decide (e.1=k):=by
 induction h with
 |nil=> rfl
 |cons r t ih=> rw [dw,dw,ih]
theorem DRs.put{l:List (ac×V)}{kvs:List (ac×D)}(h:DRs K as H l kvs){d:D}(r:RD K as H v d)(k:ac):DRs K as H (jv l k v) (kj kvs k d):=by
 unfold jv kj
 rw [h.any k]
 split
 ·rename_i c
  clear c
  induction h with
  |nil=> exact .nil
  | @cons k' v' d' l kvs r' t ih=>
   rw [aK,aK]
   by_cases e:k'=k
   ·rw [if_pos e,if_pos e];exact .cons r ih
   ·rw [if_neg e,if_neg e];exact .cons r' ih
 ·rename_i c
  clear c
  induction h with
  |nil=> exact .cons r .nil
  |cons r' t ih=> exact .cons r' ih
theorem DRs.len{l:List (ac×V)}{kvs:List (ac×D)}(h:DRs K as H l kvs):l.length=kvs.length:=by
 induction h with
 |nil=> rfl
 |cons r t ih=> simp [ih]
theorem aey(l:List (Key×V)):(pvK l).length=l.length:=by simp [pvK]
noncomputable def onD{α:Type}(d:D)(s:S)(k:Nat -> List (ac×D) -> R α):R α:=match d with
 |.ref n=> match s[n]? with
  |some (.dct kvs)=> k n kvs
  |_=>.bad
 |_=>.bad
theorem alx{kvs:List (ac×D)}(rl:Rel K as H s)(hr: ∀q,as.ix[n]?=some (some q) -> q=p)(e:s[n]?=some (.dct kvs)):as.ix[n]?=some (some p)/\RO K as H p (.dct kvs):=by
 obtain⟨q,hq⟩:=rl.li n _ e (by intro z;cases z)
 cases hr q hq
 exact⟨hq,rl.ob n p _ hq e⟩
theorem ae3{α β:Type}{rel:As -> Hp -> β -> α -> Prop}{d:D}{k:Nat -> List (ac×D) -> R α}{Q:β -> Hp -> Prop}(rl:Rel K as H s)(r:RD K as H v d)(h:Dn K rel as H (onD d s k) Q): ∃p n kvs,v=.ref p/\d=.ref n/\as.ix[n]?=some (some p)/\s[n]?=some (.dct kvs)/\RO K as H p (.dct kvs)/\Dn K rel as H (k n kvs) Q:=by
 cases r with
 | @ref p n l hr=>
  have h:Dn K rel as H (match s[n]? with|some (O.dct kvs)=> k n kvs|_=>.bad) Q:=h
  split at h
  ·rename_i kvs e
   obtain⟨h1,h2⟩:=alx rl hr e
   exact⟨p,n,kvs,rfl,rfl,h1,e,h2,h⟩
  ·exact h.elim
 |_=> exact h.elim
theorem acf{kvs:List (ac×D)}{k:ac}(h:RO K as H p (.dct kvs))(hs:kn kvs k=true):(∃(l:List (Key×V)) (a:Key),k=kP a/\H p=some (.dK l)/\DRs K as H (pvK l) kvs)\/ ∃l:List (ac×V),isT k=true/\DD H p l/\DRs K as H l kvs:=by
 unfold kn at hs
 rw [kC,aD,aD]at hs
 rcases h with ⟨l,e,r⟩|⟨l,e0,e,r⟩
 ·rcases hs with ⟨h1,h2⟩|⟨h1,h2⟩
  ·obtain⟨a,rfl⟩:=azw h1
   exact .inl ⟨l,a,rfl,e,r⟩
  ·cases l with
   |nil=> cases r;exact .inr ⟨[],h1,.inr ⟨e,rfl⟩,.nil⟩
   | cons q l=>
    obtain⟨q1,q2⟩:=q
    exfalso
    have r':DRs K as H ((kP q1,q2)::pvK l) kvs:=r
    cases r' with
    |cons r1 r2=>
     rw [eQ,aD]at h2
     have:=h2.1
     cases q1 <;> simp [kP,isT]at this
 ·rcases hs with ⟨h1,h2⟩|⟨h1,h2⟩
  ·exfalso
   cases l with
   |nil=> exact e0.1 rfl
   | cons q l=>
    obtain⟨q1,q2⟩:=q
    cases r with
    |cons r1 r2=>
     have a1:=e0.2
     rw [eQ,aD]at h2 a1
     have h2:=h2.1
     have a1:=a1.1
     cases q1 <;> simp [isK,isT]at h2 a1
  ·exact .inr ⟨l,h1,.inl e,r⟩
end PF
namespace PF
open PySem PySem.Spec
open L2
open PyProof.Rows (subscriptTail subscriptTail_builtinR)
variable[XW]
theorem alw{kvs:List (ac×D)}(I:Inv X pins σ H sh)(rl:Rel X.K as H s)(h:RO X.K as H p (.dct kvs)):
  ∃(es:Array dH) (ep:Nat) (xs ys:List V),akz sh.heap p es ep/\(p==bP)=false/\es.size=kvs.length/\kvs.length <=sizeLine/\ji xs (es.toList.map (·.key))/\TDs as H xs (kvs.map (·.1))/\ji ys (es.toList.map (·.val))/\RDs X.K as H ys (kvs.map (·.2)):=by
 rcases h with ⟨l,e,r⟩|⟨l,e0,e,r⟩
 ·obtain⟨z,hd,vs,rel,o,es,ep,h1,h2,h3,h4,h5,h6⟩:=aau I.hok e
  have all: ∀{l:List (Key×V)} {vs:List (Key×ae)} {es:List dH} {kvs:List (ac×D)},KV l vs -> PySem.Pairs (ku X.prog X.w) es vs -> DRs X.K as H (pvK l) kvs -> ∃xs ys,es.length=kvs.length/\ji xs (es.map (·.key))/\TDs as H xs (kvs.map (·.1))/\ji ys (es.map (·.val))/\RDs X.K as H ys (kvs.map (·.2)):=by
   intro l vs es kvs q
   induction q generalizing es kvs with
   |nil=> intro q1 q2;cases q1;cases q2;exact⟨[],[],rfl,.nil,.nil,.nil,.nil⟩
   | @cons a b _ _ hq t ih=>
    intro q1 q2
    obtain⟨a1,a2⟩:=a
    obtain⟨b1,b2⟩:=b
    obtain⟨hq1,hq2⟩:=hq
    simp only at hq1 hq2
    subst hq1
    cases q1 with
    | cons k1 k2 k3=>
     have q2':DRs X.K as H ((kP a1,a2)::pvK _) kvs:=q2
     cases q2' with
     | cons r1 r2=>
      obtain⟨xs,ys,i0,i1,i2,i3,i4⟩:=ih k3 r2
      subst k2
      rcases km (show act a1 _=true from k1) with ⟨j,t',e3,e4⟩|⟨y',t',e3,e4⟩
      ·subst e3
       exact⟨.int j::xs,a2::ys,by simp [i0],.cons ⟨t',e4⟩ i1,.cons (.int j) i2,.cons hq2 i3,.cons r1 i4⟩
      ·subst e3
       exact⟨.str y'::xs,a2::ys,by simp [i0],.cons ⟨t',e4⟩ i1,.cons (.str y') i2,.cons hq2 i3,.cons r1 i4⟩
  obtain⟨xs,ys,i0,i1,i2,i3,i4⟩:=all rel h5 r
  refine⟨es,ep,xs,ys,⟨o,h1,h2,h3⟩,hd,by rw [←ar];exact i0,by rw [←r.len,aey];exact z,i1,i2,i3,i4⟩
 ·obtain⟨z,hd,zs,rel,o,es,ep,h1,h2,h3,h4,h5,h6⟩:=a31 I.hok e
  have all: ∀{l:List (ac×V)} {zs:List (ac×Addr×ae)} {kvs:List (ac×D)},KE H l zs -> DRs X.K as H l kvs -> ∃xs ys,zs.length=kvs.length/\ji xs ((zs.map (eW (qx X.prog X.w))).map (·.key))/\TDs as H xs (kvs.map (·.1))/\ji ys ((zs.map (eW (qx X.prog X.w))).map (·.val))/\RDs X.K as H ys (kvs.map (·.2)):=by
   intro l zs kvs q
   induction q generalizing kvs with
   |nil=> intro q2;cases q2;exact⟨[],[],rfl,.nil,.nil,.nil,.nil⟩
   | @cons a b _ _ hq t ih=>
    intro q2
    obtain⟨a1,a2⟩:=a
    obtain⟨b1,b2,b3⟩:=b
    obtain⟨hq1,hq2,hq3⟩:=hq
    simp only at hq1 hq2 hq3
    subst hq1
    cases q2 with
    |cons r1 r2=>
     obtain⟨xs,ys,i0,i1,i2,i3,i4⟩:=ih r2
     exact⟨.ref b2::xs,a2::ys,by simp [i0],.cons rfl i1,.cons (PF.KD.td rl hq2.2) i2,.cons hq3 i3,.cons r1 i4⟩
  obtain⟨xs,ys,i0,i1,i2,i3,i4⟩:=all rel r
  rw [←h4]at i1 i3
  refine⟨es,ep,xs,ys,⟨o,h1,h2,h3⟩,hd,?_,by rw [←r.len];exact z,i1,i2,i3,i4⟩
  rw [←ar,h4,ak];exact i0
noncomputable def ap1:FE:=λ_ s=>.ok (.ref s.length) (s++ [.dct []])
theorem ayp{Q:VK}(rl:Rel K as H s)(n:New H p (.dK []) H')(h:Dn K (rD K) as H (.ok (.ref s.length) (s++ [.dct []])) Q):Q (.ref p) H':=by
 refine h (.ref p) (as.add p) H' (zc n) (rl.laid n (.inl ⟨[],n.at,.nil⟩)) (.ref (by simp [rl.len]) λq e=> ?_)
 rw [←rl.len]at e
 simp at e
 exact e.symm
theorem a6g:RE X (.Dict [] [] pos) ap1:=⟨_,aun,λas σ H ρ s Q rl en h=> λp hp=> ayp rl ⟨hp,rfl⟩ h⟩
def anv(dx dy:D)(s:S):R D:=onD dx s λn kvs=> match ap8 dy with
 | some k=> if kn kvs k=true then match j5 kvs k with
   |some v=>.ok v s
   |none=>.bad
  else .bad
 |none=>.bad
theorem RD.key_inv{d:D}{k:ac}(r:RD K as H v d)(h:ap8 d=some k):TD as H v k:=by
 cases r with
 |da t=> cases h;exact t
 |_=> cases h
theorem ac8{a:Key}(t:TD as H v (kP a))(r:RelV v u):RelV (kV a) u:=by
 cases a with
 |inl i=> cases t;exact r
 |inr x=> cases t;exact r
theorem ac5{k:ac}(h:isT k=true):vh k=true/\plD k=true/\ ∃xs,k=.tuple xs:=by
 cases k with
 |tuple xs=> exact⟨h,(kg.mp (show vh (.tuple xs)=true from h)).1,xs,rfl⟩
 |_=> cases h
theorem aef(t:TD as H v (.tuple xs)): ∃b,v=.ref b:=by cases t with|tup n e r=> exact⟨_,rfl⟩
structure Ix2 (X:Cx) (g:D -> D -> S -> R D):Prop where
 ex: ∃r,IxR X r/\ahb X.K r g
theorem a3u{g:D -> D -> S -> R D}(h: ∀(value slice:Expr) (pins:List (Addr×Obj)) (sh:ag) (σ:St) (H:Hp) (as:As) (s:S) (x y:V) (dx dy:D) (v u:ae) (Q:VK),Inv X pins σ H sh -> Rel X.K as H s -> RD X.K as H x dx -> RD X.K as H y dy -> RelV x v -> RelV y u ->
  Dn X.K (rD X.K) as H (g dx dy s) Q -> mP slice false v u=operate [v,u] (getItem v u) -> wpAny (model X.prog X.w) X.A (lU value slice v u) (EP X pins σ Q) X.xe sh):Ix2 X g:=
 ⟨λx y H Q=> ∃as s dx dy,Rel X.K as H s/\RD X.K as H x dx/\RD X.K as H y dy/\Dn X.K (rD X.K) as H (g dx dy s) Q,
  λvalue slice pins sh σ H x y v u Q I rx ry ⟨as,s,dx,dy,rl,r1,r2,q⟩ hs=> h value slice pins sh σ H as s x y dx dy v u Q I rl r1 r2 rx ry q hs,
  λas H s x y dx dy Q rl r1 r2 q=> ⟨as,s,dx,dy,rl,r1,r2,q⟩⟩
theorem a2q(hu:X.A.units+70 < cLine):Ix2 X anv:=a3u λvalue slice pins sh σ H as s x y dx dy v u Q I rl r1 r2 rx ry h hs=> by
 obtain⟨p,n,kvs,rfl,rfl,ha,e,ro,h⟩:=ae3 rl r1 h
 cases rx
 split at h
 ·rename_i k hk
  split at h
  ·rename_i hsm
   split at h
   ·rename_i d hd
    have ty:=r2.key_inv hk
    obtain⟨es,ep,_,_,raw,_⟩:=alw I rl ro
    rcases acf ro hsm with ⟨l,a,rfl,eh,dr⟩|⟨l,it,dd,dr⟩
    ·obtain⟨w,ew,rw'⟩:=(dr.get (kP a)).1 d hd
     rw [aju]at ew
     obtain⟨z,hsm2,vs,rel,dct⟩:=aau I.hok eh
     obtain⟨w',hw,rw2⟩:=zr.some_of (v:=w) (o:=valueAt vs a) (by rw [←ew];exact rel.val a)
     exact gy (x:=w') raw.typeIs i8.lookup (wpAny_getItem_of (ad2 (ac8 ty ry)) dct.mapOf hw ⟨rfl,⟨w,H,I.tok _,rw2,Dn.now (Q:=Q) h rl rw'⟩⟩) hs
    ·obtain⟨w,ew,rw'⟩:=(dr.get k).1 d hd
     obtain⟨kok,kpl,ks,rfl⟩:=ac5 it
     obtain⟨b,rfl⟩:=aef ty
     cases ry
     obtain⟨z,hsm2,xs,rel,dct⟩:=dd.rd I.hok
     obtain⟨w',hw,rw2⟩:=zr.some_of (v:=w) (o:=(atKey xs (.tuple ks)).map (·.2)) (by rw [←ew];exact rel.val _)
     obtain⟨q,hq,hq2⟩:=kO.mp hw
     exact gy (x:=w') raw.typeIs i8.lookup (wpAny_getItem_heap (aeo (by lia)) (acr I.hok kok (TD.kd ty kpl)) dct hq ⟨hq2,⟨w,H,I.tok _,hq2▸rw2,Dn.now (Q:=Q) h rl rw'⟩⟩) hs
   ·exact h.elim
  ·exact h.elim
 ·exact h.elim
def xg(dx dy:D)(s:S):R D:=match dx with
 |.ref n=> match s[n]? with
  |some (.dct kvs)=> anv dx dy s
  |_=> gIx dx dy s
 |_=> gIx dx dy s
theorem a2f(hu:X.A.units+70 < cLine):Ix2 X xg:=by
 obtain⟨r,h1,h2⟩:=(a2q (X:=X) hu).ex
 refine⟨_,h1.or aq3,λas H s x y dx dy Q rl r1 r2 h=> ?_⟩
 unfold xg at h
 split at h
 ·split at h
  ·exact .inl (h2 as H s x y _ dy Q rl r1 r2 h)
  ·exact .inr (ak9 as H s x y _ dy Q rl r1 r2 h)
 ·exact .inr (ak9 as H s x y _ dy Q rl r1 r2 h)
theorem a1m{a b:Expr}{fb:FE}{g:D -> D -> S -> R D}(o:Ix2 X g)(ha:RE X a fa)(hb:RE X b fb)(hs:ah0 b:=by exact λ_ _=> rfl):RE X (.Subscript a b pos) (fOp g fa fb):=by
 obtain⟨r,h1,h2⟩:=o.ex
 obtain⟨ta,pa,ra⟩:=ha.ex
 obtain⟨tb,pb,rb⟩:=hb.ex
 exact⟨_,aw4 h1 pa pb hs,ae4 h2 ra rb⟩
def ahe(neg:Bool)(dx dy:D)(s:S):R D:=onD dy s λn kvs=> match ap8 dx with
 |some k=> if kn kvs k=true then .ok (.bl (nb neg (j5 kvs k).isSome)) s else .bad
 |none=>.bad
theorem DRs.isSome{l:List (ac×V)}{kvs:List (ac×D)}(h:DRs K as H l kvs)(k:ac):(vq l k).isSome=(j5 kvs k).isSome:=by
 cases e:j5 kvs k with
 |none=> rw [(h.get k).2 e];rfl
 |some d=> obtain⟨v,ev,_⟩:=(h.get k).1 d e;rw [ev];rfl
theorem a1r(neg:Bool)(hop:(neg=false/\op=.In)\/(neg=true/\op=.NotIn))(hu:X.A.units+70 < cLine):Op2 X (aS op) (ahe neg):=qz λpins sh σ H as s x y dx dy v u Q I rl r1 r2 rx ry h=> by
 obtain⟨p,n,kvs,rfl,rfl,ha,e,ro,h⟩:=ae3 rl r2 h
 cases ry
 split at h
 ·rename_i k hk
  split at h
  ·rename_i hsm
   have ty:=r1.key_inv hk
   rcases acf ro hsm with ⟨l,a,rfl,eh,dr⟩|⟨l,it,dd,dr⟩
   ·have es:(vq l a).isSome=(j5 kvs (kP a)).isSome:=by rw [←dr.isSome,aju]
    have dg:ahk H p (kV a) (vq l a):=ahk.k eh
    rcases hop with ⟨rfl,rfl⟩|⟨rfl,rfl⟩
    ·exact L2.a5e (by lia) I dg (ac8 ty rx) λs' I'=> ⟨.bl _,H,I',by rw [es];rfl,Dn.now (Q:=Q) h rl (.da (.bl _))⟩
    ·exact L2.azp (by lia) I dg (ac8 ty rx) λs' I'=> ⟨.bl _,H,I',by rw [es];rfl,Dn.now (Q:=Q) h rl (.da (.bl _))⟩
   ·obtain⟨kok,kpl,ks,rfl⟩:=ac5 it
    obtain⟨b,rfl⟩:=aef ty
    cases rx
    have es:=dr.isSome (.tuple ks)
    rcases hop with ⟨rfl,rfl⟩|⟨rfl,rfl⟩
    ·exact a3b (by lia) I dd kok (TD.kd ty kpl) λs' I'=> ⟨.bl _,H,I',by rw [es];rfl,Dn.now (Q:=Q) h rl (.da (.bl _))⟩
    ·exact atx (by lia) I dd kok (TD.kd ty kpl) λs' I'=> ⟨.bl _,H,I',by rw [es];rfl,Dn.now (Q:=Q) h rl (.da (.bl _))⟩
  ·exact h.elim
 ·exact h.elim
def qd(neg:Bool)(dx dy:D)(s:S):R D:=match dy with
 |.ref n=> match s[n]? with
  |some (.dct kvs)=> ahe neg dx dy s
  |_=> ah6 neg dx dy s
 |_=> ah6 neg dx dy s
theorem asd(neg:Bool)(hop:(neg=false/\op=.In)\/(neg=true/\op=.NotIn))(hu:X.A.units+70 < cLine):Op2 X (aS op) (qd neg):=qz λpins sh σ H as s x y dx dy v u Q I rl r1 r2 rx ry h=> by
 unfold qd at h
 split at h
 ·split at h
  ·obtain⟨r,ho,hr⟩:=(a1r (X:=X) neg hop hu).ex
   exact ho pins sh σ H x y v u Q I rx ry (hr as H s x y _ _ Q rl r1 r2 h)
  ·obtain⟨r,ho,hr⟩:=(aj6 (X:=X) neg hop (by lia)).ex
   exact ho pins sh σ H x y v u Q I rx ry (hr as H s x y _ _ Q rl r1 r2 h)
 ·obtain⟨r,ho,hr⟩:=(aj6 (X:=X) neg hop (by lia)).ex
  exact ho pins sh σ H x y v u Q I rx ry (hr as H s x y _ _ Q rl r1 r2 h)
theorem a3x(hu:X.A.units+70 < cLine):Op2 X (aS .In) (qd false):=asd false (.inl ⟨rfl,rfl⟩) hu
theorem av3(hu:X.A.units+70 < cLine):Op2 X (aS .NotIn) (qd true):=asd true (.inr ⟨rfl,rfl⟩) hu
end PF
namespace PF
open PySem PySem.Spec
open L2
variable[XW]
def v8(o i v:D)(s:S):R D:=onD o s λn kvs=> match ap8 i with
 |some k=> if kn kvs k=true/\kvs.length < sizeLine then .ok .non (s.set n (.dct (kj kvs k v))) else .bad
 |none=>.bad
def xu(o i v:D)(s:S):R D:=match o with
 |.ref n=> match s[n]? with
  |some (.dct kvs)=> v8 o i v s
  |_=> aom o i v s
 |_=> aom o i v s
theorem ab1{o:HO}{d:D}{kvs:List (ac×D)}{Q:VK}(rl:Rel K as H s)(ha:as.ix[n]?=some (some p))(c:Chg H p o H')(ro:RO K as H' p (.dct kvs))(rv:RD K as H v d)(h:Dn K (rD K) as H (.ok d (s.set n (.dct kvs))) Q):Q v H':=by
 have st:=yb (kc.mpr ⟨n,ha⟩) (λz=> rl.hx p z (kc.mpr ⟨n,ha⟩)) c
 exact h v as H' st (rl.chg ha c ro) (rv.mono st)
theorem ahu{l:List (ac×V)}{k:ac}(hl:(l.all λe=> isT e.1)=true)(hk:isT k=true):((jv l k v).all λe=> isT e.1)=true:=by
 rw [aC]at hl⊢
 intro e he
 unfold jv at he
 split at he
 ·obtain⟨e',h1,h2⟩:=aH.mp he
  split at h2
  ·subst h2;exact hl e' h1
  ·subst h2;exact hl _ h1
 ·rcases aR.mp he with h|h
  ·exact hl e h
  ·rw [aF]at h
   subst h;exact hk
theorem aha{κ:Type}[DecidableEq κ](l:List (κ×V))(k:κ)(v:V):jv l k v≠ []:=by
 unfold jv
 split
 ·rename_i h
  cases l with
  |nil=> simp at h
  |cons a b=> simp
 ·simp
theorem ako{kvs:List (ac×D)}(h:RO K as H p (.dct kvs)){l:List (ac×V)}(dd:DD H p l):(l.all λe=> isT e.1)=true:=by
 rcases dd with e|⟨_,rfl⟩
 ·rcases h with ⟨l',e',_⟩|⟨l',h0,e',_⟩
  ·rw [e]at e';cases e'
  ·rw [e]at e';cases e';exact h0.2
 ·rfl
theorem ayn(hu:X.A.units+70 < cLine){x y z:V}{dx dy dz:D}{v r:ae}{Q:VK}(I:Inv X pins σ H sh)(rl:Rel X.K as H s)(r1:RD X.K as H x dx)(r2:RD X.K as H y dy)(r3:RD X.K as H z dz)(rx:RelV x v)(ry:RelV y u)(rz:RelV z r)(h:Dn X.K (rD X.K) as H (v8 dx dy dz s) Q):wpAny (model X.prog X.w) X.A (setItem v u r) (λ_ s'=> ∃H',Inv X pins σ H' s'/\Q .non H') X.xe sh:=by
 obtain⟨p,n,kvs,rfl,rfl,ha,e,ro,h⟩:=ae3 rl r1 h
 cases rx
 split at h
 ·rename_i k hk
  split at h
  ·rename_i hsm
   obtain⟨hsm,hlen⟩:=hsm
   have ty:=r2.key_inv hk
   rcases acf ro hsm with ⟨l,a,rfl,eh,dr⟩|⟨l,it,dd,dr⟩
   ·have hl:l.length < sizeLine:=by rw [←aey,dr.len];exact hlen
    refine aqh (by lia) I (aow.k (k:=a) (v:=z) eh hl) (ac8 ty ry) rz λs' I'=> ⟨_,I',?_⟩
    have c:Chg H p (.dK (jv l a z)) (upd H p (.dK (jv l a z))):=⟨rfl⟩
    have st:=yb (kc.mpr ⟨n,ha⟩) (λq=> rl.hx p q (kc.mpr ⟨n,ha⟩)) c
    refine ab1 (v:=.non) rl ha c (.inl ⟨_,c.at,?_⟩) (.da .non) h
    rw [akj]
    exact (dr.put r3 (kP a)).mono st
   ·obtain⟨kok,kpl,ks,rfl⟩:=ac5 it
    obtain⟨b,rfl⟩:=aef ty
    cases ry
    have hl:l.length < sizeLine:=by rw [dr.len];exact hlen
    refine aod (by lia) I dd hl kok (TD.kd ty kpl) rz λs' I'=> ⟨_,I',?_⟩
    have c:Chg H p (.dD (jv l (.tuple ks) z)) (upd H p (.dD (jv l (.tuple ks) z))):=⟨rfl⟩
    have st:=yb (kc.mpr ⟨n,ha⟩) (λq=> rl.hx p q (kc.mpr ⟨n,ha⟩)) c
    exact ab1 (v:=.non) rl ha c (.inr ⟨_,⟨aha _ _ _,ahu (ako ro dd) it⟩,c.at,(dr.put r3 _).mono st⟩) (.da .non) h
  ·exact h.elim
 ·exact h.elim
def yj(g:D -> D -> D -> S -> R D)(fv fo fi:FE):FS:=λρ s=> (fv ρ s).bind λv s1=> (fo ρ s1).bind λo s2=> (fi ρ s2).bind λi s3=> (g o i v s3).bind λ_ s4=>.ok (.nx ρ) s4
structure Set2 (X:Cx) (g:D -> D -> D -> S -> R D):Prop where
 run: ∀(pins:List (Addr×Obj)) (sh:ag) (σ:St) (H:Hp) (as:As) (s:S) (x y z:V) (dx dy dz:D) (v u r:ae) (Q:VK),Inv X pins σ H sh -> Rel X.K as H s -> RD X.K as H x dx -> RD X.K as H y dy -> RD X.K as H z dz -> RelV x v -> RelV y u -> RelV z r ->
  Dn X.K (rD X.K) as H (g dx dy dz s) Q -> wpAny (model X.prog X.w) X.A (setItem v u r) (λ_ s'=> ∃H',Inv X pins σ H' s'/\Q .non H') X.xe sh
theorem ay9(hu:X.A.units+70 < cLine):Set2 X xu:=⟨λpins sh σ H as s x y z dx dy dz v u r Q I rl r1 r2 r3 rx ry rz h=> by
 have lst:Dn X.K (rD X.K) as H (aom dx dy dz s) Q -> wpAny (model X.prog X.w) X.A (setItem v u r) (λ_ s'=> ∃H',Inv X pins σ H' s'/\Q .non H') X.xe sh:=λh=> by
  unfold aom at h
  split at h
  ·cases r2.int_inv
   obtain⟨p,n,xs,ds,rfl,ha,hx,rs,h⟩:=arz rl r1 h
   split at h
   ·rename_i j e
    exact aqb pins sh σ H _ _ z v u r (Q .non) I rx ry rz ⟨p,xs,_,j,rfl,rfl,hx,by rw [rs.length];exact e,λH' c=> ar1 (v:=.non) (o:=.lst []) rl ha c (rs.set j r3) (.da .non) h⟩
   ·exact h.elim
  ·exact h.elim
 unfold xu at h
 split at h
 ·split at h
  ·exact ayn hu I rl r1 r2 r3 rx ry rz h
  ·exact lst h
 ·exact lst h⟩
theorem az8{o i:Expr}{fo fi:FE}{pos':Pos}{g:D -> D -> D -> S -> R D}(hg:Set2 X g)(he:RE X e fv)(ho:RE X o fo)(hi:RE X i fi)(ha: ∀v,assign (.Subscript o i pos') X.env v=(do
   let ov←holding [v] (eval o X.env)
   let iv←holding [v,ov] (eval i X.env)
   standAt pos'
   holding [v,ov,iv] (setItem ov iv v)
   release [v,ov,iv] []):=by intro _;rfl) (hs:lR [.Subscript o i pos'] e pos.line X.env=pure false:=by rfl) (hw:lS [.Subscript o i pos'] e X.env=pure none:=by rfl) (h1:(bE [.Subscript o i pos'] X.env).map (·.2)=[assign (.Subscript o i pos') X.env]:=by rfl):RS X (.Assign [.Subscript o i pos'] e pos) (yj g fv fo fi):=by
 obtain⟨te,pe,re⟩:=he.ex
 obtain⟨to,po,ro⟩:=ho.ex
 obtain⟨ti,pi,ri⟩:=hi.ex
 have hset:afe X (λx y z H Q=> ∃as s dx dy dz,Rel X.K as H s/\RD X.K as H x dx/\RD X.K as H y dy/\RD X.K as H z dz/\Dn X.K (rD X.K) as H (g dx dy dz s) (λ_ H'=> Q H')):=λpins s σ H o i v ov iv u Q I rx ry rz ⟨as,s',dx,dy,dz,rl,a,b,c,q⟩=> hg.run pins s σ H as s' o i v dx dy dz ov iv u _ I rl a b c rx ry rz q
 refine⟨_,aqd pe (a1t po pi hset ha) hs hw h1,λas σ H ρ s D rl en h=> ?_⟩
 refine re as σ H ρ s _ rl en (Dn.bind h λv s1 as1 H1 vv st1 rl1 r1 h1=> ?_)
 refine ro as1 σ H1 ρ s1 _ rl1 (en.mono st1) (Dn.bind h1 λo s2 as2 H2 ov st2 rl2 r2 h2=> ?_)
 refine ri as2 σ H2 ρ s2 _ rl2 ((en.mono st1).mono st2) (Dn.bind h2 λi s3 as3 H3 iv st3 rl3 r3 h3=> ?_)
 have en3:=((en.mono st1).mono st2).mono st3
 exact⟨as3,s3,o,i,v,rl3,r2.mono st3,r3,(r1.mono st2).mono st3,Dn.bind h3 λd s4 as4 H4 vv st4 rl4 r4 h4=> Dn.now (b:=FV.nx σ) h4 rl4 (.nx (en3.mono st4))⟩
end PF
namespace L2
open PySem PySem.Spec PyProof.Rows
open MeetsSeq MeetsSeq2 MeetsSeq3 SeqRoads2 --
section
variable{prog:aL}{w:aO}{A:aX}{E:ae -> ag -> Prop}{s:ag}{d:Addr}{es:Array dH}{ep:Nat}
theorem alm(hd:(d==bP)=false)(hm:akz s.heap d es ep)(h: ∀t tk,Q (.int es.size t) {s with toks:=tk}):wpAny (model prog w) A (call (.builtin "dict.__len__") [.ref d]) Q E s:=by
 obtain⟨⟨dc,dd1,ddat,dsl⟩,hod,⟨hc1,hc2,hc3⟩,hdd⟩:=id hm
 simp only at hdd hc1 hc2 hc3
 subst hdd hc1 hc2 hc3
 have hT:s.TypeIs (.ref d) "dict":=⟨_,hod,rfl⟩
 refine bg F.slot_dict_len hT F.entry_dict_len ?_ (F.args_dict_len_1 _)
 wp_walk
 exact⟨_,rfl,by simpa using h _ _⟩
theorem aw9(hd:(d==bP)=false)(hm:akz s.heap d es ep)(hz:es.size <=sizeLine)(h: ∀t tk,Q (.int es.size t) {s with toks:=tk}):wpAny (model prog w) A (call (.builtin "len") [.ref d]) Q E s:=by
 have hz':es.size < 2^63:=by rw [cp]at hz;lia
 (refine fY kind_len plain_len entry_len (args_len1 _) ?_)
 unfold cC.«len»
 refine aa (m:=oneArg "len" _) (af (aa (m:=callSpecial? (.ref d) (cf "__len__")) (bf (name:=cf "__len__") hm.typeIs F.slot_dict_len (alm hd hm λt tk=> ?_))))
 refine aa (a9 (af (aa (io ?_))))
 show wpAny _ _ (if ((es.size:Nat):Int) < 0 then _ else (if ((es.size:Nat):Int)≥2^63 then _ else _)) _ _ _
 rw [if_neg (by lia),if_neg (by lia)]
 exact aa (wpAny_mkInt (af ⟨_,rfl,h _ _⟩))
end
end L2
namespace PF
open PySem PySem.Spec
open L2
variable[XW]
noncomputable def ajb(s:S):D -> Option (List (ac×D))
 |.ref n=> match s[n]? with
  |some (.dct kvs)=> some kvs
  |_=> none
 |_=> none
theorem amo{d:D}{kvs:List (ac×D)}(rl:Rel K as H s)(r:RD K as H v d)(h:ajb s d=some kvs): ∃p n,v=.ref p/\d=.ref n/\as.ix[n]?=some (some p)/\s[n]?=some (.dct kvs)/\RO K as H p (.dct kvs):=by
 cases r with
 | @ref p n l hr=>
  have h:(match s[n]? with|some (O.dct kvs)=> some kvs|_=> none)=some kvs:=h
  split at h
  ·rename_i e
   cases h
   obtain⟨h1,h2⟩:=alx rl hr e
   exact⟨p,n,rfl,rfl,h1,e,h2⟩
  ·cases h
 |_=> cases h
def acu(ds:List D)(s:S):R D:=match ds with
 |[d]=> match ajb s d with
  |some kvs=>.ok (.int kvs.length) s
  |none=> vo ds s
 |_=> vo ds s
theorem apr{f:ae}{g:FF}(c:CB X f g){xs:List V}{ds:List D}{Q:VK}(I:Inv X pins σ H sh)(rl:Rel X.K as H s)(rs:RDs X.K as H xs ds)(ru:ji xs us)(h:Dn X.K (rD X.K) as H (g ds s) Q):wpAny (model X.prog X.w) X.A (call f us) (EP X pins σ Q) X.xe sh:=by
 obtain⟨r,h1,h2⟩:=c.ex
 exact h1 pins sh σ H xs us Q I ru (h2 as H s xs ds Q rl rs h)
theorem a0h:CB X (.builtin "len") acu:=abr λpins sh σ H as s xs ds us Q I rl rs ru h=> by
 unfold acu at h
 split at h
 ·rename_i d
  split at h
  ·rename_i kvs e
   obtain⟨v,rfl,rv⟩:=rs.one
   obtain⟨u,rfl,ruv⟩:=vals1 ru
   obtain⟨p,n,rfl,rfl,ha,e2,ro⟩:=amo rl rv e
   cases ruv
   obtain⟨es,ep,zs,ys,raw,hsm,hsz,hz,_⟩:=alw I rl ro
   refine aw9 hsm raw (by lia) λt tk=> ⟨.int kvs.length,H,I.tok _,⟨t,by rw [hsz]⟩,Dn.now (Q:=Q) h rl (.da (.int _))⟩
  ·exact apr ant I rl rs ru h
 ·exact apr ant I rl rs ru h
end PF
namespace L2
open PySem PySem.Spec PyProof.Rows
abbrev DC(kx vx tg iter:Expr)(ifs:List Expr)(sc:eX)(pos:Pos):Expr:=.DictComp kx vx [⟨tg,iter,ifs,0⟩] sc pos
theorem aoe{s:ag}{kvs:List (Key×V)}{k:Key}{r:ae}{Q:Unit -> ag -> Prop}(I:Inv X pins σ H s)(e:H a=some (.dK kvs))(l:kvs.length < sizeLine)(ry:RelV (kV k) u)(rv:RelV v r)(h: ∀s',Inv X pins σ (upd H a (.dK (jv kvs k v))) s' -> Q () s'):
  wpAny (model X.prog X.w) A (dictSet a u r) Q E s:=by
 obtain⟨z,hd,vs,rel,dd⟩:=aau I.hok e
 have hz:vs.length <=sizeLine:=by rw [←rel.length];exact z
 have hl:(jv kvs k v).length <=sizeLine:=by have:=vm kvs k v;lia
 refine mq (hsz:=hz) (ad2 ry) dd λh' dd' hs=> h _ ?_
 have he: ∃q,h'.get? a=some q:=let ⟨q,_,_,hq,_⟩:=dd';⟨q,hq⟩
 exact aa7 I (by rw [e];exact c9) hs he (akt hl hd (rel.put k rv) dd')
theorem ap3{s:ag}{b:Addr}{kvs:List (ac×V)}{k:ac}{r:ae}{Q:Unit -> ag -> Prop}(hu:A.units+11 < cLine)(I:Inv X pins σ H s)(e:DD H a kvs)(hl:kvs.length < sizeLine)(hk:PF.vh k=true)(eb:KD H (.ref b) k)(rv:RelV v r)(h: ∀s',Inv X pins σ (upd H a (.dD (jv kvs k v))) s' -> Q () s'):wpAny (model X.prog X.w) A (dictSet a (.ref b) r) Q E s:=by
 obtain⟨z,hd,xs,rel,dd⟩:=e.rs I.hok
 have hz:xs.length <=sizeLine:=by rw [←eS rel];exact z
 have hl':(jv kvs k v).length <=sizeLine:=by have:=vm kvs k v;lia
 refine adq (hsz:=hz) (show A.units+10 < cLine by lia) (acr I.hok hk eb) dd λh' dd' hs=> h _ ?_
 have he: ∃q,h'.get? a=some q:=let ⟨q,_,_,hq,_⟩:=dd';⟨q,hq⟩
 have ht: ∀c ys,H c=some (.tup ys) -> upd H a (.dD (jv kvs k v)) c=some (.tup ys):=λc ys q=> by
  rw [j4 (λy=> by subst y;rcases e with e|⟨e,_⟩ <;> (rw [e]at q;cases q))];exact q
 exact aa7 I e.mut hs he (ajr hl' hd (rel.put hk eb rv) ht dd')
theorem avd{D:Addr}(hb:bP < h0.objs.size)(hD:h0.objs.size=D)(g:h.get? D=some ({cls:=.type "dict",data:=.dict #[]}:Obj)):jq P w H h D (.dK []):=by
 subst hD
 exact⟨λ_=> ⟨_,g,⟨rfl,rfl,rfl⟩,rfl⟩,b9 _,beq_eq_false_iff_ne.mpr (cF (aJ hb)),[],.nil,(Heap.DictOf.new h0).at λo e=> by rw [ay _ rfl]at e;cases e;exact g⟩
def a0l(P:aL)(w:aO)(A:aX)(K:am)(D:Addr)(a b:V)(H:Hp)(Q:Hp -> Prop):Prop:= ∀(X:Cx) (pins:List (Addr×Obj)) (s:ag) (σ:St) (u r:ae),X.prog=P -> X.w=w -> X.A=A -> X.K=K -> Inv X pins σ H s -> RelV a u -> RelV b r -> Wn P w A (dictSet D u r) (λ_ s'=> ∃H',Inv X pins σ H' s'/\Q H') s
def a22 (P:aL) (w:aO) (A:aX) (it:ae) (D:Addr) (tg kx vx:Expr) (l:List Expr) (env:Env) (fin:ag -> Prop) (again:ag -> Prop) (s:ag):Prop:=
 Wn P w A (pyNext it) (λr a=> match r with
  |none=> fin a
  | some v=> Wn P w A (fW tg it v) (λ_ b=> Wn P w A (assign tg env v) (λ_ c=> Wn P w A (aqx env l) (λok d=>
    if ok=true then Wn P w A (eval kx env) (λx e=> Wn P w A (eval vx env) (λy f=> Wn P w A (dictSet D x y) (λ_ g=> again g) f) e) d else again d) c) b) a) s
theorem ax6{R:gZ -> ag -> Prop}{s:ag}{kx vx:Expr}{l:List Expr}{sc:eX}{it:ae}{D:Addr}{env:Env}(J:Nat -> ag -> Prop)(turn: ∀n s,J n s -> a22 P w A it D tg kx vx l env (R (.ok .next)) (λz=> ∃m,m < n/\J m z) s)(n:Nat)(h:J n s):codeAny (model P w) A (.compLoop (DC kx vx tg iter l sc pos) 0 it (.ref D) env) R s:=by
 refine codeAny_loop rfl J (λk z hz=> ?_) n h
 have one:=turn k z hz
 show wpAny _ A (Sem.onRaise (compTurn (DC kx vx tg iter l sc pos) 0 it (.ref D) env) λx=> do mC x env;theTreesLotGoes x) _ _ z
 refine wpAny_noted ?_
 rw [compTurn_dict]
 refine aa (eU (aa (bQ one (λr a ha=> ?_) λ_ _ f=> f.elim)))
 cases r with
 |none=> exact af ha
 | some v=>
  refine aa (bQ ha (λ_ b hb=> aa (bQ hb (λ_ c hc=> aa (bQ hc (λok d hd=> ?_) λ_ _ f=> f.elim)) λ_ _ f=> f.elim)) λ_ _ f=> f.elim)
  cases ok with
  |false=>
   have q: ∃m,m < k/\J m d:=hd
   exact af ⟨rfl,q⟩
  |true=>
   have q:Wn P w A (eval kx env) (λx e=> Wn P w A (eval vx env) (λy f=> Wn P w A (dictSet D x y) (λ_ g=> ∃m,m < k/\J m g) f) e) d:=hd
   exact aa (aa (bQ q (λx e he=> aa (a9 (bQ he (λy f hf=> aa (eU (a9 (bQ hf (λ_ g hg=> af ⟨rfl,hg⟩) λ_ _ f=> f.elim)))) λ_ _ f=> f.elim))) λ_ _ f=> f.elim))
def at6(P:aL)(w:aO)(A:aX)(K:am)(g:TG)(tt:TT)(te tv:TE)(k:Nat)(cap:St)(J:It)(H1:Hp)(Q:VK):Prop:=
 ∀ D,H1 D=none -> ∃W:Nat -> Nat -> Hp -> Prop,(∃m,W 0 m (upd H1 D (.dK [])))/\ ∀i m H,W i m H ->
  (J.stop i H/\Q (.ref D) H)\/(J.go i H/\ ∀x H',J.yld i H x H' -> ∀vs:St,vs.length=k -> g x (vs++cap) H' λσ2 H2=> (∃vs':St,vs'.length=k/\σ2=vs'++cap)/\tt σ2 H2 λb H3=>
   if b=true then te σ2 H3 λa H4=> tv σ2 H4 λb H5=> a0l P w A K D a b H5 λH6=> ∃m',m' < m/\W (i+1) m' H6 else∃m',m' < m/\W (i+1) m' H3)
def tDc(P:aL)(w:aO)(A:aX)(K:am)(js:List Nat)(k:Nat)(wi:TI)(g:TG)(tt:TT)(te tv:TE):TE:=λσ H Q=> wi σ H λJ H1=> at6 P w A K g tt te tv k (vc σ js) J H1 Q
section
variable{X:Cx}{own caps:List Str}{js:List Nat}{scope:eX}{tg iter kx vx:Expr}{ifs:List Expr}{wi:TI}{g:TG}{tt:TT}{te tv:TE}{pos:Pos}
theorem ac9{H2:Hp}{s2:ag}{it:Addr}{tn:Nat -> Heap -> Prop}{J:It}{Q:VK}{post:ae -> Addr -> gZ -> ag -> Prop}(hcalm:X.calm=true)(hkind:scope.kind=.function)(hcell:(scope.names.any λp=> p.2==.cell)=false)(hk:(scope.names.all λp=> !(p.2==.free)||(X.env.kindOf p.1==some .cell||X.env.kindOf p.1==some .free))=true)(hcap:v4 X scope caps js)(hg: ∀C fp s H,PG (jo X own caps scope C fp s H) tg g)(hi: ∀C fp s H,ady (jo X own caps scope C fp s H) ifs tt)(he: ∀C fp s H,PE (jo X own caps scope C fp s H) kx te)(hv: ∀C fp s H,PE (jo X own caps scope C fp s H) vx tv)(I2:Inv X pins σ H2 s2)(T:Turn X.prog X.w X.K tg J fp it tn)(st2:tn 0 s2.heap)(f2: ∀b∈fp,aa0 X pins H2 b)(hw:at6 X.prog X.w X.A X.K g tt te tv own.length (vc σ js) J H2 Q)(hpost: ∀D C s' m H',s'.heap.Ns C m -> s2.heap.objs.size <=C -> aa0 X pins H' C -> Inv X pins σ H' s' -> Q (.ref D) H' -> post (.ref D) C (.ok .next) s'):
  wpAny (model X.prog X.w) X.A newDict (λacc s₃=> wpAny (model X.prog X.w) X.A (newFunctionEnv scope X.env.globals (qi X.env scope.names []) [] X.env.qual none .none (some X.env)) (λcenv s₄=>
   codeAny (model X.prog X.w) X.A (.compStart (DC kx vx tg iter ifs scope pos) 0 (.ref it) acc {cenv with scope:=relabel scope X.env}) (post acc cenv.locals) s₄) E s₃) E s2:=by
 have hcell': ∀y∈scope.names,y.2≠ .cell:=λy hy e=> by
  have:=(iU.mp hcell) y hy
  simp [e]at this
 have hfr: ∀n,(n,bK)∈scope.names -> X.env.kindOf n=some .cell\/X.env.kindOf n=some .free:=λn hn=> by
  have:=(aC.mp hk) _ hn
  simpa using this
 refine bN (lE hcell' (by intro y hy;simp at hy) (λh₁ hns₁ hsb₁=> ?_) hkind)
 dsimp only at hns₁ hsb₁⊢
 generalize hHp:s2.heap.push ({cls:=.type "dict",data:=.dict #[]}:Obj)=G2 at hns₁ hsb₁⊢
 have hC:G2.objs.size=s2.heap.objs.size+1:=by rw [←hHp,aV]
 obtain⟨D,hDe⟩: ∃D:Nat,s2.heap.objs.size=D:=⟨_,rfl⟩
 obtain⟨C,hCe⟩: ∃C:Nat,G2.objs.size=C:=⟨_,rfl⟩
 rw [hCe]at hns₁ hsb₁
 rw [hDe,hCe]at hC
 show codeAny _ _ (.compStart _ 0 (.ref it) (.ref s2.heap.objs.size) (compEnvC scope (qi X.env scope.names []) G2.objs.size X.env)) (post (.ref s2.heap.objs.size) G2.objs.size) _
 rw [hDe,hCe]
 have hDC:D≠C:=by lia
 have hDCl:D < C:=by lia
 have old: ∀b o,s2.heap.get? b=some o -> h₁.get? b=some o:=λb o e=> by
  have hlt:b < D:=hDe▸az e
  exact hsb₁.extBut b o (aJ (eK hlt hDCl)) (aj _ (hHp▸aj _ e))
 have hD2:H2 D=none:=I2.hok.fresh (dt hDe)
 have hC2:H2 C=none:=I2.hok.fresh (by rw [hDe];lia)
 have accD:h₁.get? D=some ({cls:=.type "dict",data:=.dict #[]}:Obj):=hsb₁.extBut _ _ hDC (aj _ (hHp▸hDe▸ay _ rfl))
 obtain⟨W,⟨m0,w0⟩,turn⟩:=hw D hD2
 -- the block's own state
 have fpn: ∀b∈fp,H2 b=none:=λb hb=> (f2 b hb).1
 have fplt: ∀b∈fp,b < D:=λb hb=> by obtain⟨o,e,_⟩:=T.obj _ _ st2 b hb;exact hDe▸az e
 have clsub: ∀n c,(n,c)∈qi X.env scope.names [] -> X.env.cells.lookup n=some c:=afw (by intro _ _ z;cases z)
 have cllook: ∀n c,(qi X.env scope.names []).lookup n=some c -> X.env.cells.lookup n=some c:=λn c e=> clsub n c (c7 e)
 have clhas: ∀n,(n,bK)∈scope.names -> ∃c,(qi X.env scope.names []).lookup n=some c/\X.env.cells.lookup n=some c:=λn hn=> by
  obtain⟨c,e⟩:=I2.ok.has n (hfr n hn)
  have m:=afx (cs:=[]) hn e
  cases q:(qi X.env scope.names []).lookup n with
  |none=>
   have:=jN.mp q _ m
   simp at this
  |some c'=> exact⟨c',rfl,cllook n c' q⟩
 have clt: ∀x c,(qi X.env scope.names []).lookup x=some c -> c < D:=λx c e=> by
  obtain⟨v,z⟩:=I2.cell x c (cllook x c e)
  exact hDe▸z.lt
 have ok':(jo X own caps scope C fp s2 H2).Ok:=by
  refine⟨I2.ok.mod,hkind,I2.ok.glob,I2.ok.blt,?_,λx y c e1 e2=> I2.ok.inj x y c (cllook x c e1) (cllook y c e2),λx hx=> ?_,λx c z=> (by cases z),I2.ok.hd,I2.ok.frames,.inl rfl,λb hb=> ⟨?_,λx c e=> ?_⟩,I2.bs,br I2.ok.bsz I2.sz,λb o e hb=> ?_,λb hb hs=> ?_,I2.stack,I2.stkFree⟩
  ·show s2.heap.objs.size <=C
   rw [hDe];lia
  ·have hx':(relabel scope X.env).names.lookup x=some .cell\/(relabel scope X.env).names.lookup x=some .free:=hx
   obtain⟨c,e,_⟩:=clhas x (x9 hcell' hx')
   exact⟨c,e⟩
  ·exact aJ (eK (fplt b hb) hDCl)
  ·exact (f2 b hb).2.2.2.2.1 x c (cllook x c e)
  ·rcases (f2 b hb).2.2.2.1 with z|z
   ·exact I2.ok.noex b o e z
   ·exact absurd (aP (az (I2.ok.bs b o e).1) z) (cD _)
  ·rcases aA.mp (I2.stkSub b hs) with z|z
   ·exact (f2 b hb).2.1 z
   ·exact (f2 b hb).2.2.1 z
 have I4:Inv (jo X own caps scope C fp s2 H2) [] (bo own.length none++vc σ js) (upd H2 D (.dK [])) {s2 with heap:=h₁,toks:=s2.toks+([]:List (Str×ae)).length}:=by
  refine⟨ok',rfl,I2.bare,Un.laid old (dt hDe) hD2,⟨_,hns₁,λi x v e1 e2 e3=> ?_⟩,λx c e=> ?_,?_,λx c e=> ?_,λp hp=> absurd (show p∈([]:List (Addr×Obj)) from hp) (by simp),?_,?_⟩
  ·have e1:(own++caps)[i]?=some x:=e1
   by_cases hio:i < own.length
   ·rw [aI (by simpa using hio),dA]at e2
    split at e2 <;> cases e2
   ·have hle:own.length <=i:=bT hio
    rw [aT hle]at e1
    rw [aT (by simpa using hle)]at e2
    obtain⟨j,c,e⟩:=v4.at (σ:=σ) hcap e1 (by simpa using e2)
    obtain⟨c1,c2,c3,c4⟩:=c
    obtain⟨m,hn,hl⟩:=I2.loc
    obtain⟨u,r,lk⟩:=hl j x v c1 e c2
    refine⟨u,r,.inr ⟨?_,?_⟩⟩
    ·have c4':(relabel scope X.env).names.lookup x=some .cell\/(relabel scope X.env).names.lookup x=some .free:=by simpa using c4
     exact c4'
    ·have c4':(relabel scope X.env).names.lookup x=some .cell\/(relabel scope X.env).names.lookup x=some .free:=by simpa using c4
     obtain⟨c',q1,q2⟩:=clhas x (x9 hcell' c4')
     rcases lk with ⟨k1,_⟩|⟨_,c'',k2,k3⟩
     ·rw [k1]at c3;simp at c3
     ·rw [q2]at k2;cases k2
      obtain⟨oc,hoc,hod⟩:=k3
      exact⟨c',q1,oc,old _ _ hoc,hod⟩
  ·obtain⟨v,oc,hoc,hod⟩:=I2.cell x c (cllook x c e)
   exact⟨v,oc,old _ _ hoc,hod⟩
  ·show upd H2 D (.dK []) C=none
   rw [j4 (cF hDC)];exact hC2
  ·rw [j4 (aJ (clt x c e))];exact I2.freeC x c (cllook x c e)
  ·exact I2.hok.laid old (dt hDe) (avd I2.big hDe accD)
  ·show (bo own.length none++vc σ js).length=(own++caps).length
   rw [aQ,aQ,gQ,hcap.len]
 have stat: ∀{H':Hp},(∀b∈fp,H' b=none) -> ∀b∈fp,aa0 (jo X own caps scope C fp s2 H2) [] H' b:=λhn b hb=>
  ⟨hn b hb,(ok'.exf b hb).1,ok'.exfs b hb,.inl hb,(ok'.exf b hb).2,λp hp=> absurd (show p∈([]:List (Addr×Obj)) from hp) (by simp)⟩
 have loop: ∀s₃:ag,s₃={s2 with heap:=h₁,toks:=s2.toks+([]:List (Str×ae)).length} ->
   codeAny (model X.prog X.w) X.A (.compLoop (DC kx vx tg iter ifs scope pos) 0 (.ref it) (.ref D) (compEnvC scope (qi X.env scope.names []) C X.env)) (post (.ref D) C) s₃:=by
  rintro s₃ rfl
  refine ax6 (λn s'=> ∃i vs H',vs.length=own.length/\Inv (jo X own caps scope C fp s2 H2) [] (vs++vc σ js) H' s'/\tn i s'.heap/\(∀b∈fp,H' b=none)/\W i n H') ?_ m0
   ⟨0,bo own.length none,upd H2 D (.dK []),by simp,I4,T.keep _ _ _ st2 λb _ o e=> old b o e,λb hb=> by rw [j4 (aJ (fplt b hb))];exact fpn b hb,w0⟩
  rintro n s3 ⟨i,vs,H3,hvs,I3,st3,fr3,w3⟩
  rcases turn i n H3 w3 with ⟨stop,qn⟩|⟨go,step⟩
  ·refine thn (T.done (jo X own caps scope C fp s2 H2) rfl rfl rfl hcalm i [] s3 _ H3 (λ_ _=> False) I3 (stat fr3) st3 stop) λr s5 ⟨hr,I5⟩=> ?_
   subst hr
   obtain⟨m5,hn5,_⟩:=id I5.loc
   refine hpost D C s5 m5 H3 hn5 (by rw [hDe];lia) (I2.fpOk (by rw [hDe];lia) I5.free) ?_ qn
   exact I2.call' (ch:=fp) I5.os I5.base I5.hok I5.bare λb hb=> ⟨(f2 b hb).2.2.2.1,(f2 b hb).2.1,(f2 b hb).2.2.2.2⟩
  ·refine thn (T.item (jo X own caps scope C fp s2 H2) rfl rfl rfl hcalm i [] s3 _ H3 (λ_ _=> False) I3 (stat fr3) st3 go) λr s4 ⟨u,hr,h4⟩=> ?_
   subst hr
   refine thn h4 λ_ s5 ⟨x,H5,I5,r5,y5,st5,fr5⟩=> ?_
   have I5':=I5.pinned (stat fr5) (T.obj _ _ st5);refine thn (hg C fp s2 H2 _ s5 _ H5 x u _ I5' r5 (step x H5 y5 vs hvs)) λ_ s6 ⟨σ6,H6,I6,⟨vs6,hvs6,e6⟩,q6⟩=> ?_
   subst e6
   refine thn (hi C fp s2 H2 _ s6 _ H6 _ I6 q6) λb s7 ⟨H7,I7,q7⟩=> ?_
   have again: ∀{H8:Hp} {s8:ag},Inv (jo X own caps scope C fp s2 H2) ([]++acj fp s5.heap) (vs6++vc σ js) H8 s8 -> (∃m',m' < n/\W (i+1) m' H8) ->
     ∃m,m < n/\ ∃i vs H',vs.length=own.length/\Inv (jo X own caps scope C fp s2 H2) [] (vs++vc σ js) H' s8/\tn i s8.heap/\(∀b∈fp,H' b=none)/\W i m H':=λ{H8 s8} I8 w8=> by
    obtain⟨m',hm,w8⟩:=w8
    refine⟨m',hm,i+1,vs6,H8,hvs6,I8.unpinned,T.keep _ _ _ st5 λb hb o e=> (I8.pin (b,o) (bi _ (bi _ (yi hb e)))).1,λb hb=> ?_,w8⟩
    obtain⟨o,e,d⟩:=T.obj _ _ st5 b hb
    exact (I8.pin (b,o) (bi _ (bi _ (yi hb e)))).2.1
   cases b with
   |false=> exact again I7 q7
   |true=>
    refine thn (he C fp s2 H2 _ s7 _ H7 _ I7 q7) λy s8 ⟨v,H8,I8,r8,q8⟩=> ?_
    refine thn (hv C fp s2 H2 _ s8 _ H8 _ I8 q8) λz s9 ⟨vz,H9,I9,r9,q9⟩=> ?_
    exact thn (q9 (jo X own caps scope C fp s2 H2) _ s9 _ y z rfl rfl rfl rfl I9 r8 r9) λ_ s10 ⟨H10,I10,q10⟩=> again I10 q10
 refine codeAny_compStart_dict (loop _ rfl) (T.self _ 0 _ _ _ (T.keep _ _ _ st2 λb _ o e=> old b o e) (loop _ rfl))
theorem auc{i:Nat}{py:Pos}{spos:Pos}(hsw:f8 (DC kx vx tg iter ifs scope pos) (some (.Name y py)) spos.line X.env=pure true)(hN:X.N.Nodup)(hy:X.N[i]?=some y)(hyl:X.env.scope.names.lookup y=some .local)(hcalm:X.calm=true)(hkind:scope.kind=.function)(hnames:(scope.names.all λp=> !(p.2==.local)||(scope.names.lookup p.1==some .local))=true)(hcell:(scope.names.any λp=> p.2==.cell)=false)(hk:(scope.names.all λp=> !(p.2==.free)||(X.env.kindOf p.1==some .cell||X.env.kindOf p.1==some .free))=true)(hcap:v4 X scope caps js)(hi:PI X tg iter wi)(hg: ∀C fp s H,PG (jo X own caps scope C fp s H) tg g)(ht: ∀C fp s H,ady (jo X own caps scope C fp s H) ifs tt)(he: ∀C fp s H,PE (jo X own caps scope C fp s H) kx te)(hv: ∀C fp s H,PE (jo X own caps scope C fp s H) vx tv)(hs: ∀x,cV iter X.env x=pure x:=by intro _;rfl):PS X (.Assign [.Name y py] (DC kx vx tg iter ifs scope pos) spos) (λD σ H=> tDc X.prog X.w X.A X.K js own.length wi g tt te tv σ H λv H'=> D.nx (σ.set i (some v)) H'):=by
 refine⟨?_⟩
 intro pins s σ H D I h
 have hfr: ∀n,(n,bK)∈scope.names -> X.env.kindOf n=some .cell\/X.env.kindOf n=some .free:=λn hn=> by
  have:=(aC.mp hk) _ hn
  simpa using this
 have hn': ∀x∈scope.names,x.2=.local -> scope.names.lookup x.1=some .local:=λx hx e=> by
  have:=(aC.mp hnames) _ hx
  simpa [e] using this
 rw [kY _ _ _ _ hsw];refine aa (eU (aa ?_))
 show wpAny _ _ (do let _←comprehension (DC kx vx tg iter ifs scope pos) scope X.env _ newDict false (eval iter X.env) (some (assign (.Name y py) X.env))) _ _ s
 refine aa (bQ (gf (use:=some (assign (.Name y py) X.env)) (Q:=λ_ s'=> SP X pins D .next s') rfl hs (aat λn hn=> I.ok.has n (hfr n hn)) hkind hn'
  (thn (hi pins s σ H _ I h) λv s1 h1=> thn h1 λitv s2 h2=> ?_)) (λ_ s' hq=> af (af hq)) λ_ _ e=> e)
 obtain⟨it,fp,tn,J,H2,e,I2,T,st2,f2,hw⟩:=h2
 subst e
 refine ac9 (iter:=iter) (pos:=pos) (post:=λacc C=> compPost (model X.prog X.w) X.A X.xe (some (assign (.Name y py) X.env)) (λ_ s'=> SP X pins D .next s') acc C) hcalm hkind hcell hk hcap hg ht he hv I2 T st2 f2 hw ?_
 intro Da C s' m H' hn hCs f I' hq
 show wpAny _ _ (assign (.Name y py) X.env (.ref Da)) _ _ _
 refine iS (aeg (v:=.ref Da) (u:=.ref Da) I' hN hy (.inl hyl) rfl (λs6 I6 hs6=> ?_) (.inr hyl))
 obtain⟨a,hsb,ha⟩:=hs6
 have haC:a≠C:=by
  rcases ha with z|z
  ·rw [z];exact cF f.2.1
  ·exact f.2.2.2.2.1 y a z
 exact⟨m,hn.sameBut hsb (cF haC),λh' hs'=> ⟨σ.set i (some (.ref Da)),H',I6.turned (t':=s6.toks) (λb o hb e=> (hs'.2 b hb).trans e) f.1 f.2.1 f.2.2.2.1 f.2.2.2.2.1 f.2.2.2.2.2,hq⟩⟩
end
end L2
namespace PF
open PySem PySem.Spec
open L2
variable[XW]
def dcF(g:Tg)(ft:FT)(fk fv:FE)(ρ0:En)(p:Wk)(n:Nat):List D -> S -> R D
 |[],s=>.ok (.ref n) s
 |d::r,s=> match j6 g d ρ0 with
  |none=>.bad
  |some ρ1=> (ft ρ1 s).calm.bind λb s2=> if b=true then (fk ρ1 s2).calm.bind λk s3=> (fv ρ1 s3).calm.bind λv s4=> (v8 (.ref n) k v s4).calm.bind λ_ s5=> chk p s5 (dcF g ft fk fv ρ0 p n r s5) else chk p s2 (dcF g ft fk fv ρ0 p n r s2)
def fDc(js:List Nat)(k:Nat)(fi:FI)(g:Tg)(ft:FT)(fk fv:FE):FE:=λρ s=> (fi ρ s).bind λp s1=> chk p s1 (dcF g ft fk fv (bo k none++aae ρ js) p s1.length p.1 (s1++ [.dct []]))
theorem auo{Da:Addr}(hu:A.units+70 < cLine){y z:V}{dx dy dz:D}{Q:VK}(rl:Rel K as H s)(r1:RD K as H (.ref Da) dx)(r2:RD K as H y dy)(r3:RD K as H z dz)(h:Dn K (rD K) as H (v8 dx dy dz s) Q):a0l P w A K Da y z H λH'=> Q .non H':=by
 rintro X pins sh σ u r rfl rfl rfl rfl I ry rz
 obtain⟨p,n,kvs,e0,rfl,ha,e,ro,h⟩:=ae3 rl r1 h
 cases e0
 split at h
 ·rename_i k hk
  split at h
  ·rename_i hsm
   obtain⟨hsm,hlen⟩:=hsm
   have ty:=r2.key_inv hk
   rcases acf ro hsm with ⟨l,a,rfl,eh,dr⟩|⟨l,it,dd,dr⟩
   ·have hl:l.length < sizeLine:=by rw [←aey,dr.len];exact hlen
    refine aoe I eh hl (ac8 ty ry) rz λs' I'=> ⟨_,I',?_⟩
    have c:Chg H Da (.dK (jv l a z)) (upd H Da (.dK (jv l a z))):=⟨rfl⟩
    have st:=yb (kc.mpr ⟨n,ha⟩) (λq=> rl.hx Da q (kc.mpr ⟨n,ha⟩)) c
    refine ab1 (v:=.non) rl ha c (.inl ⟨_,c.at,?_⟩) (.da .non) h
    rw [akj]
    exact (dr.put r3 (kP a)).mono st
   ·obtain⟨kok,kpl,ks,rfl⟩:=ac5 it
    obtain⟨b,rfl⟩:=aef ty
    cases ry
    have hl:l.length < sizeLine:=by rw [dr.len];exact hlen
    refine ap3 (by lia) I dd hl kok (TD.kd ty kpl) rz λs' I'=> ⟨_,I',?_⟩
    have c:Chg H Da (.dD (jv l (.tuple ks) z)) (upd H Da (.dD (jv l (.tuple ks) z))):=⟨rfl⟩
    have st:=yb (kc.mpr ⟨n,ha⟩) (λq=> rl.hx Da q (kc.mpr ⟨n,ha⟩)) c
    exact ab1 (v:=.non) rl ha c (.inr ⟨_,⟨aha _ _ _,ahu (ako ro dd) it⟩,c.at,(dr.put r3 _).mono st⟩) (.da .non) h
  ·exact h.elim
 ·exact h.elim
theorem dcB {J:It} {p:Wk} {fk:FE} {ρ0:En} {k:Nat} {cap:St} {Q:VK} (hu:A.units+70 < cLine) (hg:yy k g=true) (rl:Rel K as H s) (ri:aeh K as H J p) (so:qw p (s++ [.dct []])) (en: ∀vs:St,vs.length=k -> Envs K as H ρ0 (vs++cap)) (h:Dn K (rD K) as H (dcF g ft fk fv ρ0 p s.length p.1 (s++ [.dct []])) Q):at6 P w A K (gOf K g) (@adp XW.dft K ft) (@tOf XW.dft K fk) (@tOf XW.dft K fv) k cap J H Q:=by
 intro D hD
 have n0:New H D (.dK []) (upd H D (.dK [])):=⟨hD,rfl⟩
 have s0:=zc (as:=as) n0
 refine⟨λi mm H'=> ∃as2 s2,mm=p.1.length - i/\i <=p.1.length/\Step as H as2 H'/\Rel K as2 H' s2/\qw p s2/\RD K as2 H' (.ref D) (.ref s.length)/\Dn K (rD K) as2 H' (dcF g ft fk fv ρ0 p s.length (p.1.drop i) s2) Q,
  ⟨_,as.add D,s++ [.dct []],rfl,b9 _,s0,rl.laid n0 (u:=.dct []) (show RO K (as.add D) (upd H D (.dK [])) D (.dct []) from .inl ⟨[],n0.at,.nil⟩),so,.ref (by simp [rl.len]) (λq e=> ?_),Dn.step h s0⟩,?_⟩
 ·rw [←rl.len]at e
  simp at e
  exact e.symm
 rintro i mm H' ⟨as2,s2,hm,hi,st2,rl2,so2,rD2,h2⟩
 have tn:=ri as2 H' s2 st2.toStep0 rl2 so2 i
 by_cases hl:i < p.1.length
 ·obtain⟨d,hd⟩: ∃d,p.1[i]?=some d:=⟨_,ao hl⟩
  have hdr:p.1.drop i=d::p.1.drop (i+1):=by
   rw [eC hl]
   rw [ao hl]at hd
   cases hd;rfl
  rw [hdr]at h2
  obtain⟨go,yl⟩:=tn.2 d hd
  unfold dcF at h2
  split at h2
  ·exact h2.elim
  ·rename_i ρ3 q3
   refine .inr ⟨go,λx H3 hy vs hv=> ?_⟩
   obtain⟨st3,rl3,rx⟩:=yl x H3 hy
   refine zi g ((en vs hv).mono (st2.trans st3)) rx q3 λσ3 en3 fr=> ?_
   refine⟨fr k hg vs cap hv rfl,as2,ρ3,s2,rl3,en3,?_⟩
   cases qt:ft ρ3 s2 with
   |bad=> rw [qt]at h2;exact h2.elim
   |ex _ _ _=> rw [qt]at h2;exact h2.elim
   | ok b s4=>
    rw [qt,R.calm_ok,R.bind_ok]at h2
    intro b' as4 H4 st4 rl4 eb
    have eb':b'=b:=eb
    subst eb'
    have st24:=(st2.trans st3).trans st4
    have h2:=Dn.step (Dn.step h2 st3) st4
    cases b' with
    |false=>
     rw [if_neg ax]at h2⊢
     obtain⟨c,h2⟩:=Dn.chk h2
     exact⟨_,by lia,as4,s4,rfl,hl,st24,rl4,c,(rD2.mono st3).mono st4,h2⟩
    | true=>
     rw [if_pos rfl]at h2⊢
     refine⟨as4,ρ3,s4,rl4,en3.mono st4,?_⟩
     cases qk:fk ρ3 s4 with
     |bad=> rw [qk]at h2;exact h2.elim
     |ex _ _ _=> rw [qk]at h2;exact h2.elim
     | ok kd s5=>
      rw [qk,R.calm_ok,R.bind_ok]at h2
      intro kv as5 H5 st5 rl5 r5
      refine⟨as5,ρ3,s5,rl5,(en3.mono st4).mono st5,?_⟩
      cases qv:fv ρ3 s5 with
      |bad=> rw [qv]at h2;exact h2.elim
      |ex _ _ _=> rw [qv]at h2;exact h2.elim
      | ok vd s6=>
       rw [qv,R.calm_ok,R.bind_ok]at h2
       intro vv as6 H6 st6 rl6 r6
       have h2:=Dn.step (Dn.step h2 st5) st6
       refine auo (as:=as6) (s:=s6) (Q:=λ_ H7=> ∃m',m' < mm/\ ∃as2 s2,m'=p.1.length - (i+1)/\i+1 <=p.1.length/\Step as H as2 H7/\Rel K as2 H7 s2/\qw p s2/\RD K as2 H7 (.ref D) (.ref s.length)/\Dn K (rD K) as2 H7 (dcF g ft fk fv ρ0 p s.length (p.1.drop (i+1)) s2) Q) hu rl6 ((((rD2.mono st3).mono st4).mono st5).mono st6) (r5.mono st6) r6 ?_
       cases qg:v8 (.ref s.length) kd vd s6 with
       |bad=> rw [qg]at h2;exact h2.elim
       |ex _ _ _=> rw [qg]at h2;exact h2.elim
       |ok _ s7=>
        rw [qg,R.calm_ok,R.bind_ok]at h2
        intro _ as7 H7 st7 rl7 _
        obtain⟨c,h7⟩:=Dn.chk (Dn.step h2 st7)
        exact⟨_,by lia,as7,s7,rfl,hl,((st24.trans st5).trans st6).trans st7,rl7,c,((((rD2.mono st3).mono st4).mono st5).mono st6).mono st7,h7⟩
 ·refine .inl ⟨tn.1 (bT hl),?_⟩
  rw [fx (bT hl)]at h2
  exact Dn.now (Q:=Q) h2 rl2 rD2
section
variable{X:Cx}{own caps:List Str}{js:List Nat}{scope:eX}{tg iter kx vx:Expr}{ifs:List Expr}{fi:FI}{g:Tg}{ft:FT}{fk fv:FE}{pos:Pos}
theorem azf{p:Wk}(h:qw p s):qw p (s++ [o]):=by
 unfold qw at h⊢
 split at h
 ·trivial
 ·rw [aI (aB.mp h).1];exact h
theorem a2r{wi:TI}{k:Nat}(hu:A.units+70 < cLine)(ri:asy K wi fi)(hl:yy k g=true):zu K (tDc P w A K js k wi (gOf K g) (@adp XW.dft K ft) (@tOf XW.dft K fk) (@tOf XW.dft K fv)) (fDc js k fi g ft fk fv):=by
 intro as σ H ρ s Q rl en h
 refine ri as σ H ρ s _ rl en (Dn.bind h λp s1 as1 H1 J st1 rl1 r1 h1=> ?_)
 obtain⟨so,h1⟩:=Dn.chk h1
 exact dcB hu hl rl1 r1 (azf so) (λvs hv=> ((en.mono st1).caps js).own hv) h1
theorem al0{i:Nat}{py:Pos}{spos:Pos}(hu:X.A.units+70 < cLine)(hsw:f8 (DC kx vx tg iter ifs scope pos) (some (.Name y py)) spos.line X.env=pure true)(hN:X.N.Nodup)(hy:X.N[i]?=some y)(hyl:X.env.scope.names.lookup y=some .local)(hcalm:X.calm=true)(hkind:scope.kind=.function)(hnames:(scope.names.all λp=> !(p.2==.local)||(scope.names.lookup p.1==some .local))=true)(hcell:(scope.names.any λp=> p.2==.cell)=false)(hk:(scope.names.all λp=> !(p.2==.free)||(X.env.kindOf p.1==some .cell||X.env.kindOf p.1==some .free))=true)(hcap:v4 X scope caps js)(hl:yy own.length g=true)(hi:RI X tg iter fi)(hg: ∀C fp s H,RG (jo X own caps scope C fp s H) tg g)(ht: ∀(I:XW) C fp s H,XOk (jo X own caps scope C fp s H) I.xk -> @RIfs I (jo X own caps scope C fp s H) ifs ft)(he: ∀(I:XW) C fp s H,XOk (jo X own caps scope C fp s H) I.xk -> @RE I (jo X own caps scope C fp s H) kx fk)(hv: ∀(I:XW) C fp s H,XOk (jo X own caps scope C fp s H) I.xk -> @RE I (jo X own caps scope C fp s H) vx fv)(hs: ∀x,cV iter X.env x=pure x:=by intro _;rfl):RS X (.Assign [.Name y py] (DC kx vx tg iter ifs scope pos) spos) (jj i (fDc js own.length fi g ft fk fv)):=by
 obtain⟨wi,pi,ri⟩:=hi.ex
 refine⟨_,auc (own:=own) (te:= @tOf XW.dft X.K fk) (tv:= @tOf XW.dft X.K fv) (tt:= @adp XW.dft X.K ft) (g:=gOf X.K g) hsw hN hy hyl hcalm hkind hnames hcell hk hcap pi (λC fp s H=> (hg C fp s H).pg) (λC fp s H=> @RIfs.run XW.dft _ _ _ (ht XW.dft C fp s H (XOk.never du))) (λC fp s H=> @RE.pe XW.dft _ _ _ (he XW.dft C fp s H (XOk.never du))) (λC fp s H=> @RE.pe XW.dft _ _ _ (hv XW.dft C fp s H (XOk.never du))) hs,λas σ H ρ s D rl en h=> ?_⟩
 exact a2r hu ri hl as σ H ρ s _ rl en (Dn.bind h λd s1 as1 H1 v st1 rl1 r1 h1=> Dn.now (b:=FV.nx (σ.set i (some v))) h1 rl1 (.nx ((en.mono st1).set i r1)))
end
end PF
namespace PF
open PySem PySem.Spec PyProof.Rows
open L2
variable[XW]
noncomputable def aj5(q p:Addr):HO:=.ext λh=> h.IsValuesView q p
theorem ays{k:ac}(a:isK k=true)(b:isT k=true):False:=by
 cases k <;> simp [isK,isT]at a b
theorem akq{K:am}{as:As}{H:Hp}: ∀{l:List (ac×V)} {kvs:List (ac×D)},DRs K as H l kvs -> RDs K as H (l.map (·.2)) (kvs.map (·.2))
 |_,_,.nil=>.nil
 |_,_,.cons r t=>.cons r (akq t)
theorem amk: ∀{l:List (Key×V)} {vs:List (Key×ae)},KV l vs -> ji (l.map (·.2)) (vs.map (·.2))
 |_,_,.nil=>.nil
 |_,_,.cons r t=>.cons r.2 (amk t)
theorem ara:MtR X "dict.values" λx xs H Q=> ∃p l,x=.ref p/\xs=[]/\H p=some (.dK l)/\ ∀q H2,New H q (aj5 q p) H2 -> Q (.ref q) H2:=by
 intro pins s σ H x xs v us Q I r rs h
 obtain⟨p,l,rfl,rfl,hp,q⟩:=h
 cases r
 cases rs
 obtain⟨z,hd,vs,rel,dd⟩:=aau I.hok hp
 refine call_meetsIn jL dd.typeIs PySem.F.entry_dict_values (PySem.F.args_dict_values_1 _) (meets_dict_values _ p hd) ⟨⟨vs,dd⟩,?_⟩
 refine⟨.ref s.heap.objs.size,upd H s.heap.objs.size (aj5 s.heap.objs.size p),I.laid (λb u e=> aj _ e) (av _) ⟨⟨_,ay _ rfl,rfl,rfl⟩,⟨_,ay _ rfl⟩,λh1 h2 ⟨o,a,b⟩ k=> ⟨o,k _ a,b⟩⟩,rfl,q _ _ ⟨I.fresh,rfl⟩⟩
theorem aor(hh:X.A.handled=none):vk X (.type "list") (λvs H Q=> ∃q p l,vs=[.ref q]/\H q=some (aj5 q p)/\H p=some (.dK l)/\ ∀r H',New H r (.lst (l.map (·.2))) H' -> Q (.ref r) H'):=by
 intro pins s σ H vs us Q I r h
 obtain⟨q,p,l,rfl,hq,hp,h⟩:=h
 obtain⟨u,rfl,ru⟩:=vals1 r
 cases ru
 obtain⟨z,hd,vs,rel,dd⟩:=aau I.hok hp
 obtain⟨vw,_⟩:=(show jq X.prog X.w H s.heap q (aj5 q p) from I.hok q _ hq)
 obtain⟨ep,hat⟩:=dd.dictAt
 have hl:vs.length=l.length:=rel.length.symm
 refine PySem.W.kdl_call (PySem.W.kdl_values (knd:=ku X.prog X.w) (kvs:=vs) (ep:=ep)) hh ⟨vw,hat⟩ (by lia) λh' tk acc c kp g it=> ?_
 have ea:acc.toList=vs.map (·.2):=PySem.W.kdl_vals_eq acc.toList (by rw [ar];exact it.1) λj v e=> it.2 j v (by rw [←aZ];exact e)
 have I2:Inv X pins σ (upd H s.heap.objs.size (.lst (l.map (·.2)))) {s with heap:=h',toks:=tk}:=I.laid (t':=tk) kp (av _) ⟨by rw [ak];exact z,acc.toList,c,by rw [ea];exact amk rel,by simpa using g⟩
 exact⟨.ref s.heap.objs.size,_,I2,rfl,h _ _ ⟨I.fresh,rfl⟩⟩
def age(m:Bool)(d:D)(s:S):R D:=match ajb s d with
 |some kvs=> if (kvs.all λe=> isK e.1)=true then kh m (kvs.map (·.2)) s else .bad
 |none=>.bad
def aj9(m:Bool)(f:FE):FE:=λρ s=> (f ρ s).bind λd s1=> age m d s1
theorem az7(m:Bool){o:Expr}{p1 apos cpos:Pos}(hh:X.A.handled=none)(hm1:X.mg "list"=none)(ho:RE X o f)(hg1:Gl X "list":=by rfl)(hbase:fQ o "values" X.env (eval o X.env)=eval o X.env:=by rfl)(hline:(apos.endLine==cpos.line)=true:=by rfl)(hs2:starEach [.Call (.Attribute o "values" apos) [] [] cpos] X.env=(false,eval (.Call (.Attribute o "values" apos) [] [] cpos) X.env)::starEach [] X.env:=by rfl)(hpl:(backTo pos (starEach [] X.env)).any (·.1)=false:=by rfl):
  RE X (.Call (.Name "list" p1) [.Call (.Attribute o "values" apos) [] [] cpos] [] pos) (aj9 m f):=by
 obtain⟨to,po,ro⟩:=ho.ex
 have pv:=a0j (cpos:=cpos) (apos:=apos) (name:="values") PySem.F.plainAttrs_dict jL PySem.F.type_dict_values ara po hbase hline
 have pl:=abq (X:=X) (aor hh) hg1 hm1 a0s (acd pv aei hs2) (pos:=pos) (p:=p1) (by decide) (by decide) hs2 hpl
 refine⟨_,pl,λas σ H ρ s Q rl en h=> ?_⟩
 refine ro as σ H ρ s _ rl en (Dn.bind h λd s1 as1 H1 v st1 rl1 r1 h1=> ?_)
 unfold age at h1
 split at h1
 ·rename_i kvs e
  split at h1
  ·rename_i hk
   obtain⟨p,n,rfl,rfl,ha,e2,ro⟩:=amo rl1 r1 e
   have key: ∃l:List (Key×V),H1 p=some (.dK l)/\DRs X.K as1 H1 (pvK l) kvs:=by
    rcases ro with h|⟨l,⟨e0,e1⟩,e,r⟩
    ·exact h
    ·exfalso
     cases r with
     |nil=> exact e0 rfl
     |cons r t=>
      rw [eQ,aD]at hk e1
      exact ays hk.1 e1.1
   obtain⟨l,hp,dr⟩:=key
   have rv:RDs X.K as1 H1 (l.map (·.2)) (kvs.map (·.2)):=by
    have:=akq dr
    simpa [pvK,Function.comp_def] using this
   refine⟨.inr (.inr (.inl ⟨rfl,.inl ⟨l,hp⟩⟩)),p,l,rfl,rfl,hp,λq H2 n2=> ⟨q,p,l,rfl,n2.at,?_,λr H3 n3=> ?_⟩⟩
   ·exact n2.keep hp
   ·exact zb (Dn.step h1 (ju n2)) (rl1.new n2) (rv.mono (ju n2)) n3
  ·exact h1.elim
 ·exact h1.elim
end PF
namespace ST
open PySem PySem.SetTable
section
variable{α:Type}
noncomputable def ha(es:Array (Int×α))(i:Nat):Int:=(es[i]?.map (·.1)).getD 0
structure Rc (t:bp) (es:Array (Int×α)):Prop where
 size:t.place.size=es.size
 met: ∀(i j:Nat) (h:Int) (x:α),t.place[i]?=some j -> es[i]?=some (h,x) -> ∃k,(adv t k (t.probeStart h)).j=j/\ ∀k',k' < k -> (adv t k' (t.probeStart h)).j∈t.place.toList
theorem agw(t:bp)(h:Int): ∀k,(adv t k (t.probeStart h)).j+(adv t k (t.probeStart h)).more <=t.mask/\(adv t k (t.probeStart h)).i <=t.mask:=by
 have re: ∀i,i <=t.mask -> i+(runEnd t.mask i - i) <=t.mask:=λi hi=> by unfold runEnd;split <;> lia
 intro k
 induction k with
 |zero=>
  have hi:bits h % (t.mask+1) <=t.mask:=by have:=gq (bits h) (show 0 < t.mask+1 by lia);lia
  exact⟨re _ hi,hi⟩
 | succ k ih=>
  rw [aab]
  generalize adv t k (t.probeStart h)=p at ih
  unfold advance
  split
  ·exact⟨by show p.j+1+(p.more - 1) <=_;lia,ih.2⟩
  ·have hi:(leap t.mask p.i p.perturb).1 <=t.mask:=by
    show _ % (t.mask+1) <=_
    have:=gq (p.i*5+1+p.perturb/32) (show 0 < t.mask+1 by lia)
    lia
   exact⟨re _ hi,hi⟩
abbrev Full(t:bp)(h:Int)(k:Nat):Prop:= ∀k',k' < k -> ∃i,t.slot (adv t k' (t.probeStart h)).j=.live i
theorem search_step(O:Ok t)(hs:Nat -> Int)(h:Int)(k0:Nat)(B:Full t h k0):
  (∃k,k0 <=k/\k < 10*turns t.mask/\t.slot (adv t k (t.probeStart h)).j=.empty/\(∀k',k0 <=k' -> k' < k -> ∃i,t.slot (adv t k' (t.probeStart h)).j=.live i/\hs i≠h)/\t.probe hs h (adv t k0 (t.probeStart h))=some (.empty (adv t k (t.probeStart h)).j none))\/
  (∃k i,k0 <=k/\k < 10*turns t.mask/\t.slot (adv t k (t.probeStart h)).j=.live i/\hs i=h/\(∀k',k0 <=k' -> k' < k -> ∃i,t.slot (adv t k' (t.probeStart h)).j=.live i/\hs i≠h)/\t.probe hs h (adv t k0 (t.probeStart h))=some (.candidate (adv t k (t.probeStart h)).j i (adv t (k+1) (t.probeStart h)))):=by
 obtain⟨j,hj,he⟩:=aup O
 obtain⟨k1,hk1,e1⟩:=a32 t O.cyc h hj
 have h01:k0 <=k1:=by
  apply bJ
  intro z
  obtain⟨i,e⟩:=B k1 (by lia)
  rw [e1,he]at e
  cases e
 have ad: ∀n,adv t n (adv t k0 (t.probeStart h))=adv t (k0+n) (t.probeStart h):=λn=> (ab0 t k0 n _).symm
 have jg: ∀n,(∀k',k' < n -> ∃i,t.slot (adv t k' (adv t k0 (t.probeStart h))).j=.live i/\hs i≠h) -> ∀k',k0 <=k' -> k' < k0+n -> ∃i,t.slot (adv t k' (t.probeStart h)).j=.live i/\hs i≠h:=by
  intro n hn k' a b
  obtain⟨i,e⟩:=hn (k' - k0) (by lia)
  rw [ad,show k0+(k' - k0)=k' by lia]at e
  exact⟨i,e⟩
 have dn:(adv t k0 (t.probeStart h)).dummy=none:=adv_dummy t k0 _
 -- the first empty one lies behind k1 at the latest
 rcases ajs t hs h (azk O) (10*turns t.mask) (adv t k0 (t.probeStart h)) dn ⟨k1 - k0,by lia,by rw [ad,show k0+(k1 - k0)=k1 by lia,e1];exact he⟩with ⟨n,a,b,c⟩|⟨n,i,a,b,c⟩
 ·have hn:k0+n <=k1:=by
   apply bJ
   intro z
   obtain⟨i,e,_⟩:=jg n b.live k1 h01 (by lia)
   rw [e1,he]at e
   cases e
  exact .inl ⟨k0+n,by lia,by lia,by rw [←ad];exact b.empty,jg n b.live,by rw [←ad];exact c⟩
 ·have hn:k0+n <=k1:=by
   apply bJ
   intro z
   obtain⟨i,e,_⟩:=jg n b.live k1 h01 (by lia)
   rw [e1,he]at e
   cases e
  refine .inr ⟨k0+n,i,by lia,by lia,by rw [←ad];exact b.cand,b.hash,jg n b.live,?_⟩
  rw [←ad,show k0+n+1=k0+(n+1) by lia,←ad]
  exact c
theorem elem_met{es:Array (Int×α)}(O:Ok t)(R:Rc t es){h:Int}{k:Nat}(he:t.slot (adv t k (t.probeStart h)).j=.empty){i:Nat}{x:α}(e:es[i]?=some (h,x)): ∃k2,k2 < k/\t.slot (adv t k2 (t.probeStart h)).j=.live i:=by
 have hi:i < t.place.size:=by rw [R.size];exact (cb.mp e).1
 have ej:t.place[i]?=some t.place[i]:=bC hi
 obtain⟨k2,e2,f2⟩:=R.met i _ h x ej e
 refine⟨k2,?_,by rw [e2];exact (slot_live O).mpr ej⟩
 apply bJ
 intro z
 rw [adg O]at he
 rcases Nat.lt_or_eq_of_le (bT z) with q|q
 ·exact he (f2 k q)
 ·subst q
  rw [e2]at he
  exact he (dk.mpr (Array.getElem_mem hi))
theorem ins_get{β:Type}{l:List β}{p i:Nat}{x y:β}(hp:p <=l.length)(h:(l.take p++x::l.drop p)[i]?=some y):(i=p/\y=x)\/(i < p/\l[i]?=some y)\/(p < i/\l[i - 1]?=some y):=by
 rcases Nat.lt_trichotomy i p with q|q|q
 ·rw [aI (by rw [bc];lia),eG q]at h
  exact .inr (.inl ⟨q,h⟩)
 ·subst q
  rw [aT (by rw [bc];lia),bc,fZ hp,mK]at h
  exact .inl ⟨rfl,by simpa using h.symm⟩
 ·rw [aT (by rw [bc];lia),bc,fZ hp,show i - p=(i - p - 1)+1 by lia,cT,gi,show p+(i - p - 1)=i - 1 by lia]at h
  exact .inr (.inr ⟨q,h⟩)
theorem aa6{t t':bp}(h:t'.mask=t.mask): ∀(k:Nat) (p:Probe),adv t' k p=adv t k p
 |0,_=> rfl
 |k+1,p=> by
  rw [aab,aab,aa6 h k p]
  unfold advance
  rw [h]
theorem zt(h:t'.mask=t.mask)(x:Int):t'.probeStart x=t.probeStart x:=by unfold probeStart;rw [h]
theorem put_eq(O:Ok t)(j:Nat):t.put j=({t with place:=insertAt t.place (below t.place j) j},below t.place j):=by
 unfold put
 rw [O.nd,has_nil]
 simp [O.nd]
theorem put_ok{es:Array (Int×α)}(O:Ok t)(R:Rc t es){h:Int}{x:α}{k:Nat}(F:Full t h k)(he:t.slot (adv t k (t.probeStart h)).j=.empty)(hr:t.place.size+1 <=t.mask)(hm:t'.mask=t.mask)(hd:t'.dummies=t.dummies)(hpl:t'.place=insertAt t.place (below t.place (adv t k (t.probeStart h)).j) (adv t k (t.probeStart h)).j):
  Ok t'/\Rc t' (insertAt es (below t.place (adv t k (t.probeStart h)).j) (h,x)):=by
 have hjm:=(agw t h k).1
 have hnm:=(adg O).mp he
 generalize hj:(adv t k (t.probeStart h)).j=j at*
 obtain⟨b1,b2,b3⟩:=below_spec t.place j O.ris
 have pl:t'.place.toList=t.place.toList.take (below t.place j)++j::t.place.toList.drop (below t.place j):=by rw [hpl];exact eO _ _ _
 have el:(insertAt es (below t.place j) (h,x)).toList=es.toList.take (below t.place j)++(h,x)::es.toList.drop (below t.place j):=eO _ _ _
 generalize below t.place j=p at*
 have mem: ∀y,y∈t'.place.toList ↔ y∈t.place.toList\/y=j:=by
  intro y
  rw [pl]
  conv=> rhs;rw [←lm p t.place.toList]
  simp only [aR,aA]
  constructor
  ·rintro (q|q|q)
   ·exact .inl (.inl q)
   ·exact .inr q
   ·exact .inl (.inr q)
  ·rintro ((q|q)|q)
   ·exact .inl q
   ·exact .inr (.inr q)
   ·exact .inr (.inl q)
 have gd: ∀i (hi:i < t.place.size),t.place.getD i j=t.place.toList[i]'(by rw [ar];exact hi):=λi hi=> by simp only [cR,hi,dif_pos];simp
 have lt1: ∀y∈t.place.toList.take p,y < j:=by
  intro y hy
  obtain⟨i,hi⟩:=eB hy
  have hip:i < p:=by
   have:=(aB.mp hi).1
   rw [bc]at this;lia
  rw [eG hip]at hi
  have:=b2 i hip
  rw [gd i (by lia)]at this
  rw [←(aB.mp hi).2]
  exact this
 have lt2: ∀y∈t.place.toList.drop p,j < y:=by
  intro y hy
  obtain⟨i,hi⟩:=eB hy
  rw [gi]at hi
  have hl:=(aB.mp hi).1
  rw [ar]at hl
  have:=b3 (p+i) (by lia) hl
  rw [gd _ hl,(aB.mp hi).2]at this
  have ne:y≠j:=λz=> hnm (z▸List.mem_of_mem_drop hy)
  lia
 constructor
 ·refine⟨hd.trans O.nd,?_,?_,?_,by rw [hm];exact O.cyc⟩
  ·show l7 (· < ·) t'.place.toList
   rw [pl,fM]
   refine⟨O.ris.sublist (iV _ _),cx.mpr ⟨lt2,O.ris.sublist (List.drop_sublist _ _)⟩,λa ha b hb=> ?_⟩
   rcases aA.mp hb with q|q
   ·subst q;exact lt1 a ha
   ·exact eK (lt1 a ha) (lt2 b q)
  ·intro y hy
   rw [hm]
   rcases (mem y).mp hy with q|q
   ·exact O.le y q
   ·subst q;lia
  ·have:t'.place.toList.length=t.place.size+1:=by
    rw [pl];simp only [aQ,aG,bc,dC,ar];lia
   rw [ar]at this
   rw [hm];lia
 ·have hps:p <=es.size:=by rw [←R.size];exact b1
  refine⟨?_,?_⟩
  ·have l1:t'.place.toList.length=t.place.size+1:=by
    rw [pl];simp only [aQ,aG,bc,dC,ar];lia
   have l2:(insertAt es p (h,x)).toList.length=es.size+1:=by
    rw [el];simp only [aQ,aG,bc,dC,ar];lia
   rw [ar]at l1 l2
   rw [l1,l2,R.size]
  ·intro i j' h' x' e1 e2
   have e1':(t.place.toList.take p++j::t.place.toList.drop p)[i]?=some j':=by rw [←pl];simpa using e1
   have e2':(es.toList.take p++(h,x)::es.toList.drop p)[i]?=some (h',x'):=by rw [←el];simpa using e2
   have old: ∀i0:Nat,t.place.toList[i0]?=some j' -> es.toList[i0]?=some (h',x') -> ∃k,(adv t' k (t'.probeStart h')).j=j'/\ ∀k',k' < k -> (adv t' k' (t'.probeStart h')).j∈t'.place.toList:=by
    intro i0 a b
    obtain⟨k2,f1,f2⟩:=R.met i0 j' h' x' (by simpa using a) (by simpa using b)
    refine⟨k2,?_,λk' hk'=> ?_⟩
    ·rw [aa6 hm,zt hm];exact f1
    ·rw [aa6 hm,zt hm];exact (mem _).mpr (.inl (f2 k' hk'))
   rcases ins_get (by rw [ar];exact b1) e1' with ⟨q,r1⟩|⟨q,r1⟩|⟨q,r1⟩
   ·rcases ins_get (by rw [ar];exact hps) e2' with ⟨q2,r2⟩|⟨q2,r2⟩|⟨q2,r2⟩
    ·cases r2
     subst r1
     refine⟨k,?_,λk' hk'=> ?_⟩
     ·rw [aa6 hm,zt hm];exact hj
     ·rw [aa6 hm,zt hm]
      obtain⟨i2,e⟩:=F k' hk'
      exact (mem _).mpr (.inl (dk.mpr (kZ ((slot_live O).mp e))))
    ·lia
    ·lia
   ·rcases ins_get (by rw [ar];exact hps) e2' with ⟨q2,r2⟩|⟨q2,r2⟩|⟨q2,r2⟩
    ·lia
    ·exact old i r1 r2
    ·lia
   ·rcases ins_get (by rw [ar];exact hps) e2' with ⟨q2,r2⟩|⟨q2,r2⟩|⟨q2,r2⟩
    ·lia
    ·lia
    ·exact old (i - 1) r1 r2
end
theorem ai2(ht:t.mask=m)(o:Array (Option Nat)): ∀(fuel:Nat) (p:Nat×Nat),(∃n,n < fuel/\o.getD (lp m n p).1 (some 0)=none) ->
  ∃k,layClean.free m o fuel p.1 p.2=some (adv t k (blk m p)).j/\o.getD (adv t k (blk m p)).j (some 0)=none/\ ∀k',k' < k -> (o.getD (adv t k' (blk m p)).j (some 0)).isSome=true
 |0,_,⟨n,hn,_⟩=> by lia
 | fuel+1,p,⟨n,hn,e⟩=> by
  have run: ∀k,k <=runEnd m p.1 - p.1 -> (adv t k (blk m p)).j=p.1+k:=λk hk=> by rw [ah2 t k (blk m p) hk];rfl
  have le:p.1 <=runEnd m p.1:=by unfold runEnd;split <;> lia
  unfold layClean.free
  cases hf:(aW (runEnd m p.1+1 - p.1)).find? λk=> (o.getD (p.1+k) (some 0)).isNone with
  |some k=>
   have h1:=List.find?_some hf
   have h2:=List.mem_of_find?_eq_some hf
   rw [bA]at h2
   refine⟨k,by dsimp only;rw [run k (by lia)],by rw [run k (by lia)];simpa using h1,λk' hk'=> ?_⟩
   rw [run k' (by lia)]
   rw [List.find?_range_eq_some]at hf
   have:=hf.2.2 k' hk'
   cases q:o.getD (p.1+k') (some 0) with
   |none=> rw [q]at this;simp at this
   |some _=> rfl
  | none=>
   have all: ∀k,k <=runEnd m p.1 - p.1 -> (o.getD (p.1+k) (some 0)).isSome=true:=by
    intro k hk
    rw [List.find?_eq_none]at hf
    have:=hf k (bA.mpr (by lia))
    cases q:o.getD (p.1+k) (some 0) with
    |none=> rw [q]at this;simp at this
    |some _=> rfl
   have hn0:n≠0:=λz=> by
    subst z
    have:=all 0 (by lia)
    rw [Nat.add_zero]at this
    rw [show (lp m 0 p).1=p.1 from rfl]at e
    rw [e]at this;cases this
   obtain⟨n2,rfl⟩: ∃n2,n=n2+1:=⟨n - 1,by lia⟩
   obtain⟨k,e1,e2,e3⟩:=ai2 ht o fuel (leap m p.1 p.2) ⟨n2,by lia,e⟩
   have nx:adv t (runEnd m p.1 - p.1+1) (blk m p)=blk m (leap m p.1 p.2):=by
    have:=alc t p
    rw [ht]at this
    exact this
   refine⟨runEnd m p.1 - p.1+1+k,?_,?_,λk' hk'=> ?_⟩
   ·rw [ab0,nx];exact e1
   ·rw [ab0,nx];exact e2
   ·by_cases c:k' <=runEnd m p.1 - p.1
    ·rw [run k' c];exact all k' c
    ·have:adv t k' (blk m p)=adv t (k' - (runEnd m p.1 - p.1+1)) (blk m (leap m p.1 p.2)):=by
      rw [←nx,←ab0];congr 1;lia
     rw [this];exact e3 _ (by lia)
structure Lc (t:bp) (o:Array (Option Nat)) (hl:List Int):Prop where
 size:o.size=t.mask+1
 lt: ∀j k,o.getD j none=some k -> k < hl.length
 inj: ∀j j' k,o.getD j none=some k -> o.getD j' none=some k -> j=j'
 met: ∀k h,hl[k]?=some h -> ∃q,o.getD (adv t q (t.probeStart h)).j none=some k/\ ∀q',q' < q -> (o.getD (adv t q' (t.probeStart h)).j none).isSome=true
theorem ahp{o:Array (Option Nat)}{j:Nat}(h:j < o.size):o.getD j (some 0)=o.getD j none:=by simp only [cR,h,dif_pos]
theorem Lc.room{o:Array (Option Nat)}(L:Lc t o hl)(hl':hl.length <=t.mask): ∃j,j <=t.mask/\o.getD j none=none:=by
 apply bJ
 intro z
 have all: ∀j,j <=t.mask -> ∃k,o.getD j none=some k:=λj hj=> by
  cases q:o.getD j none with
  |none=> exact absurd ⟨j,hj,q⟩ z
  |some k=> exact⟨k,rfl⟩
 let f:Nat -> Nat:=λj=> (o.getD j none).getD 0
 have fe: ∀j,j <=t.mask -> o.getD j none=some (f j):=λj hj=> by
  obtain⟨k,e⟩:=all j hj
  show _=some ((o.getD j none).getD 0)
  rw [e];rfl
 have nd:((aW (t.mask+1)).map f).Nodup:=by
  unfold lP
  rw [cX]
  refine jK ?_ (jD (n:=t.mask+1))
  intro a b ha hb hab e
  rw [bA]at ha hb
  exact hab (L.inj a b (f a) (fe a (by lia)) (by rw [e];exact fe b (by lia)))
 have sub: ∀k∈(aW (t.mask+1)).map f,k∈aW hl.length:=by
  intro k hk
  obtain⟨j,hj,rfl⟩:=aH.mp hk
  rw [bA]at hj
  exact bA.mpr (L.lt j _ (fe j (by lia)))
 have:=nd.length_le_of_subset sub
 rw [ak,cz,cz]at this
 lia
theorem Lc.put{o:Array (Option Nat)}(L:Lc t o hl)(hc:cyc t.mask=true)(hl':hl.length <=t.mask)(h:Int):
  ∃j,layClean.free t.mask o (turns t.mask) (bits h % (t.mask+1)) (bits h)=some j/\Lc t (o.setIfInBounds j (some hl.length)) (hl++ [h]):=by
 obtain⟨j0,hj0,e0⟩:=L.room hl'
 have hi:bits h % (t.mask+1) <=t.mask:=by have:=gq (bits h) (show 0 < t.mask+1 by lia);lia
 obtain⟨n,hn,en⟩:=akn hc hi (amg h) hj0
 obtain⟨k,e1,e2,e3⟩:=ai2 (t:=t) rfl o (turns t.mask) (bits h % (t.mask+1),bits h) ⟨n,by unfold turns;lia,by rw [en,ahp (by rw [L.size];lia)];exact e0⟩
 have inb: ∀q,(adv t q (t.probeStart h)).j < o.size:=λq=> by have:=(agw t h q).1;rw [L.size];lia
 rw [←ai4]at e1 e2 e3
 rw [ahp (inb k)]at e2
 have e3': ∀q',q' < k -> (o.getD (adv t q' (t.probeStart h)).j none).isSome=true:=λq' hq=> by rw [←ahp (inb q')];exact e3 q' hq
 have hjs:=inb k
 refine⟨(adv t k (t.probeStart h)).j,e1,?_⟩
 generalize hj:(adv t k (t.probeStart h)).j=j at*
 have gs: ∀i,(o.setIfInBounds j (some hl.length)).getD i none=if i=j then some hl.length else o.getD i none:=by
  intro i
  by_cases c:i=j
  ·subst c
   rw [if_pos rfl]
   simp [cR,hjs]
  ·rw [if_neg c]
   by_cases ci:i < o.size
   ·simp [cR,ci,Array.getElem_setIfInBounds,cF c]
   ·simp [cR,ci]
 refine⟨by rw [Array.size_setIfInBounds,L.size],?_,?_,?_⟩
 ·intro i k' e
  rw [gs]at e
  rw [aQ,fD]
  split at e
  ·injection e with e;lia
  ·have:=L.lt i k' e;lia
 ·intro i i' k' a b
  rw [gs]at a b
  split at a
  ·rename_i c
   split at b
   ·rename_i c2;lia
   ·injection a with a
    have:=L.lt _ _ b
    lia
  ·split at b
   ·injection b with b
    have:=L.lt _ _ a
    lia
   ·exact L.inj i i' k' a b
 ·intro k' h' e
  by_cases c:k' < hl.length
  ·rw [aI c]at e
   obtain⟨q,f1,f2⟩:=L.met k' h' e
   refine⟨q,?_,λq' hq=> ?_⟩
   ·rw [gs,if_neg (λz=> by rw [z,e2]at f1;cases f1)];exact f1
   ·rw [gs]
    split
    ·rfl
    ·exact f2 q' hq
  ·have hk:k'=hl.length:=by
    have:=(aB.mp e).1
    rw [aQ,fD]at this
    lia
   subst hk
   rw [aT (av _),mK]at e
   have:h'=h:=by simpa using e.symm
   subst this
   refine⟨k,by rw [gs,hj,if_pos rfl],λq' hq=> ?_⟩
   rw [gs]
   split
   ·rfl
   ·exact e3' q' hq
theorem al2{t:bp}(hc:cyc t.mask=true): ∀(l pre:List Int) (o:Array (Option Nat)),Lc t o pre -> pre.length+l.length <=t.mask ->
  ∃o',l.foldl (λacc h=> do
   let (owner,k)←acc
   let j←layClean.free t.mask owner (turns t.mask) (bits h % (t.mask+1)) (bits h)
   pure (owner.setIfInBounds j (some k),k+1)) (some (o,pre.length))=some (o',(pre++l).length)/\Lc t o' (pre++l)
 |[],pre,o,L,_=> ⟨o,by rw [b7];rfl,by rw [b7];exact L⟩
 | h::r,pre,o,L,hl=> by
  rw [aG]at hl
  obtain⟨j,e,L2⟩:=L.put hc (by lia) h
  obtain⟨o',e2,L3⟩:=al2 hc r (pre++ [h]) _ L2 (by rw [aQ,fD];lia)
  refine⟨o',?_,by rw [show pre++h::r=(pre++ [h])++r by simp];exact L3⟩
  rw [dQ]
  have:(do
   let (owner,k)←(some (o,pre.length):Option (Array (Option Nat)×Nat))
   let j←layClean.free t.mask owner (turns t.mask) (bits h % (t.mask+1)) (bits h)
   pure (owner.setIfInBounds j (some k),k+1))=some (o.setIfInBounds j (some pre.length),(pre++ [h]).length):=by
   simp only [ib,jE,e,jY]
   simp
  rw [this,e2]
  simp
theorem aq0(hc:cyc t.mask=true)(hs:Array Int)(hl:hs.size <=t.mask): ∃o,layClean t.mask hs=some o/\Lc t o hs.toList:=by
 have L0:Lc t (hV (t.mask+1) none) []:=by
  have g: ∀j,(hV (t.mask+1) (none:Option Nat)).getD j none=none:=λj=> by
   by_cases c:j < t.mask+1
   ·simp [cR,c]
   ·simp [cR,c]
  exact⟨by simp,λj k e=> (by rw [g]at e;cases e),λj j' k e=> (by rw [g]at e;cases e),λk h e=> (by simp at e)⟩
 obtain⟨o',e,L⟩:=al2 hc hs.toList [] _ L0 (by rw [ar];simpa using hl)
 refine⟨o',?_,by simpa using L⟩
 unfold layClean
 rw [←Array.foldl_toList]
 rw [show (some (hV (t.mask+1) (none:Option Nat),0))=some (hV (t.mask+1) none,([]:List Int).length) from rfl,e]
 rfl
section
variable{α:Type}
noncomputable def liveL(m:Nat)(o:Array (Option Nat)):List (Nat×Nat):=(aW (m+1)).filterMap λj=> (o.getD j none).map (j,·)
theorem y8{o:Array (Option Nat)}{j k:Nat}:(j,k)∈liveL m o ↔ j <=m/\o.getD j none=some k:=by
 unfold liveL
 rw [iw]
 constructor
 ·rintro⟨a,ha,e⟩
  rw [bA]at ha
  cases q:o.getD a none with
  |none=> rw [q]at e;cases e
  |some b=>
   rw [q]at e
   simp only [hG,dv,iI]at e
   obtain⟨rfl,rfl⟩:=e
   exact⟨by lia,q⟩
 ·rintro⟨a,b⟩
  exact⟨j,bA.mpr (by lia),by rw [b];rfl⟩
theorem live_ris(m:Nat)(o:Array (Option Nat)):Ris ((liveL m o).map (·.1)):=by
 unfold liveL Ris
 rw [cX,List.pairwise_filterMap]
 refine l7.imp ?_ (List.pairwise_lt_range (n:=m+1))
 intro a b hab x hx y hy
 cases qa:o.getD a none with
 |none=> rw [qa]at hx;cases hx
 | some ka=>
  cases qb:o.getD b none with
  |none=> rw [qb]at hy;cases hy
  |some kb=>
   rw [qa]at hx;rw [qb]at hy
   simp only [hG,dv]at hx hy
   subst hx;subst hy
   exact hab
theorem axl{o:Array (Option Nat)}(L:Lc t o hl):((liveL t.mask o).map (·.2)).Nodup:=by
 have r:=live_ris t.mask o
 unfold Ris at r
 unfold lP
 rw [cX]at r⊢
 refine r.imp_of_mem ?_
 rintro⟨a,ka⟩ ⟨b,kb⟩ ha hb hab e
 have e:ka=kb:=e
 subst e
 have:=L.inj a b ka (y8.mp ha).2 (y8.mp hb).2
 have:a < b:=hab
 lia
theorem aqc{o:Array (Option Nat)}(L:Lc t o hl):((liveL t.mask o).map (·.2)).Perm (aW hl.length):=by
 refine (List.perm_ext_iff_of_nodup (axl L) jD).mpr λk=> ?_
 rw [bA,aH]
 constructor
 ·rintro⟨⟨j,k'⟩,hm,rfl⟩
  exact L.lt j k' (y8.mp hm).2
 ·intro hk
  obtain⟨q,e,_⟩:=L.met k hl[k] (ao hk)
  exact⟨(_,k),y8.mpr ⟨by have:=(agw t hl[k] q).1;lia,e⟩,rfl⟩
theorem al8{β:Type}(es:Array β): ∀(l:List Nat),(∀k∈l,k < es.size) -> ∃ys:List β,l.filterMap (es[·]?)=ys/\ys.length=l.length/\ ∀i k:Nat,l[i]?=some k -> ys[i]?=es[k]?
 |[],_=> ⟨[],rfl,rfl,λi k e=> by simp at e⟩
 | k::r,h=> by
  obtain⟨ys,e,hl,hg⟩:=al8 es r λy hy=> h y (aw _ hy)
  have hk:=h k au
  refine⟨es[k]::ys,?_,by simp [hl],λi k' e'=> ?_⟩
  ·rw [List.filterMap_cons_some (b:=es[k]) (bC hk),e]
  ·cases i with
   |zero=>
    have:k=k':=by simpa using e'
    subst this
    simp [bC hk]
   |succ i=>
    have:=hg i k' (by simpa using e')
    simpa using this
theorem awt{β:Type}(es:Array β){l:List Nat}(h:l.Perm (aW es.size)):(l.filterMap (es[·]?)).Perm es.toList:=by
 refine (h.filterMap _).trans ?_
 have:(aW es.size).filterMap (es[·]?)=es.toList:=by
  apply cW
  intro i
  obtain⟨ys,e,hl,hg⟩:=al8 es (aW es.size) λk hk=> bA.mp hk
  rw [e]
  by_cases c:i < es.size
  ·rw [hg i i (by rw [dB c])];simp
  ·rw [cK (by rw [hl,cz];lia),cK (by rw [ar];lia)]
 rw [this]
theorem aus(h:t'.mask=t.mask)(k:Nat)(x:Int):adv t' k (t'.probeStart x)=adv t k (t.probeStart x):=by rw [aa6 h,zt h]
theorem laid_ok(es:Array (Int×α)){mask finger moves:Nat}{led plain:Bool}(hc:cyc mask=true)(hl:es.size <=mask):
  ∃t' od,laid mask finger moves led plain (es.map (·.1))=some (t',od)/\t'.mask=mask/\t'.led=led/\t'.plain=plain/\t'.moves=moves/\t'.finger=finger/\Ok t'/\Rc t' (od.filterMap (es[·]?))/\(od.filterMap (es[·]?)).toList.Perm es.toList/\t'.place.size=es.size:=by
 let t:bp:={mask,place:= #[],dummies:= #[],finger,led,moves,plain}
 obtain⟨o,e,L⟩:=aq0 (t:=t) hc (es.map (·.1)) (by simpa using hl)
 have hln:(es.map (·.1)).toList.length=es.size:=by simp
 have pm:=aqc L
 rw [hln]at pm
 have lt: ∀k∈(liveL mask o).map (·.2),k < es.size:=λk hk=> bA.mp (pm.mem_iff.mp hk)
 have ll:(liveL mask o).length=es.size:=by have:=pm.length_eq;rwa [ak,cz]at this
 obtain⟨ys,e1,e2,e3⟩:=al8 es ((liveL mask o).map (·.2)) lt
 have fm:(((liveL mask o).map (·.2)).toArray.filterMap (es[·]?)).toList=ys:=by rw [Array.toList_filterMap];simpa using e1
 let T:bp:={mask,place:=((liveL mask o).map (·.1)).toArray,dummies:= #[],finger,led,moves,plain}
 have tp:T.place.toList=(liveL mask o).map (·.1):=rfl
 have ts:T.place.size=es.size:=by show ((liveL mask o).map (·.1)).toArray.size=_;simp [ll]
 have pe: ∀(k:Nat) (x:Int),adv T k (T.probeStart x)=adv t k (t.probeStart x):=λk x=> aus (t:=t) (t':=T) rfl k x
 refine⟨T,((liveL mask o).map (·.2)).toArray,?_,rfl,rfl,rfl,rfl,rfl,?_,?_,?_,ts⟩
 ·unfold laid
  rw [show layClean mask (es.map (·.1))=some o from e]
  rfl
 ·refine⟨rfl,by rw [tp];exact live_ris mask o,?_,by rw [ts];exact hl,hc⟩
  intro j hj
  rw [tp]at hj
  obtain⟨⟨a,b⟩,hm,rfl⟩:=aH.mp hj
  exact (y8.mp hm).1
 ·refine⟨?_,?_⟩
  ·have:(((liveL mask o).map (·.2)).toArray.filterMap (es[·]?)).size=es.size:=by
    rw [←ar,fm,e2,ak,ll]
   rw [this,ts]
  ·intro i j h x a b
   have a:((liveL mask o).map (·.1))[i]?=some j:=by rw [←tp,aZ];exact a
   have b:ys[i]?=some (h,x):=by rw [←fm];simpa using b
   rw [aN]at a
   cases q:(liveL mask o)[i]? with
   |none=> rw [q]at a;cases a
   | some jk=>
    obtain⟨j',k⟩:=jk
    rw [q]at a
    have:j'=j:=by simpa using a
    subst this
    have hk:=e3 i k (by rw [aN,q];rfl)
    rw [b]at hk
    obtain⟨_,hjo⟩:=y8.mp (bt q)
    obtain⟨w,f1,f2⟩:=L.met k h (by
     have:(es.map (·.1)).toList[k]?=(es[k]?).map (·.1):=by simp
     rw [this,←hk];rfl)
    have ej:=L.inj _ _ k f1 hjo
    refine⟨w,?_,λw' hw=> ?_⟩
    ·rw [pe];exact ej
    ·rw [pe]
     have:=f2 w' hw
     obtain⟨k2,hk2⟩:=dm.mp this
     have m:((adv t w' (t.probeStart h)).j,k2)∈liveL mask o:=y8.mpr ⟨by have:=(agw t h w').1;show _ <=t.mask;lia,hk2⟩
     have m2:=bR (f:=λp:Nat×Nat=> p.1) m
     rw [tp];exact m2
 ·rw [fm,←e1]
  exact awt es pm
end
end ST
namespace L2
open PySem PySem.Spec PyProof.Rows
def acx(w:aO)(t:bp):Prop:=t.led= !(w.params.followText "set-order")/\(t.plain=false\/(ST.Ris t.place.toList/\t.dummies= #[]))
theorem acx.x(h:acx w t)(k:Nat):ajx w k t:=⟨h.1,λ_=> h.2.elim .inl λz=>.inr z.1⟩
theorem ag4{t:bp}(nd:t.dummies= #[]){ha:Nat -> Int}{h:Int}{j:Nat}{d:Option Nat}: ∀(fuel:Nat) (p:SetTable.Probe),p.dummy=none -> lq.go t ha h fuel p=some (.empty j d) -> d=none/\t.slot j=.empty
 |0,_,_,e=> by cases e
 | fuel+1,p,hp,e=> by
  unfold lq.go at e
  split at e
  ·rename_i hs
   cases e
   exact⟨hp,hs⟩
  ·rename_i hs
   unfold SetTable.slot at hs
   dsimp only at hs
   rw [nd,ST.has_nil]at hs
   split at hs
   ·cases hs
   ·cases hs
  ·split at e
   ·cases e
   ·refine ag4 nd fuel (t.advance p) ?_ e
    exact (ST.adv_dummy t 1 p).trans hp
theorem azi{j:Nat}(h:ST.Ris t.place.toList)(hs:t.slot j=.empty):ST.Ris (cY t.place (bO t.place j) j).toList:=by
 rw [eO]
 obtain⟨b1,b2,b3⟩:=ST.below_spec t.place j h
 have gd: ∀(k d:Nat) (hk:k < t.place.size),t.place.getD k d=t.place[k]:=λk d hk=> by simp [cR,hk]
 have ne: ∀k,(hk:k < t.place.size) -> t.place[k]≠j:=λk hk z=> by
  have:=ST.below_ix h (i:=k) (j:=j) (by rw [bC hk,z])
  unfold SetTable.slot at hs
  dsimp only at hs
  rw [this,bC hk,z,if_pos (by simp)]at hs
  cases hs
 have sub1:=lr (iV (bO t.place j) t.place.toList) h
 have sub2:=lr (List.drop_sublist (bO t.place j) t.place.toList) h
 have lo: ∀a∈t.place.toList.take (bO t.place j),a < j:=λa ha=> by
  obtain⟨i,hi,rfl⟩:=fU ha
  rw [bc,ar]at hi
  have:=b2 i (by lia)
  rw [gd i _ (by lia)]at this
  simpa using this
 have hi: ∀a∈t.place.toList.drop (bO t.place j),j < a:=λa ha=> by
  obtain⟨i,hi,rfl⟩:=fU ha
  rw [dC,ar]at hi
  have h3:=b3 (bO t.place j+i) (by lia) (by lia)
  rw [gd _ _ (by lia)]at h3
  have h4:=ne (bO t.place j+i) (by lia)
  simp only [List.getElem_drop,lF]
  lia
 refine fM.mpr ⟨sub1,cx.mpr ⟨hi,sub2⟩,λa ha b hb=> ?_⟩
 (rcases aA.mp hb with rfl|hb)
 ·exact lo a ha
 ·exact eK (lo a ha) (hi b hb)
theorem a29(T:acx w t)(es:Array (Int×ae))(h:Int)(x:ae):acx w (layNew t es h x).2.1:=by
 refine⟨(awr t es h x).trans T.1,?_⟩
 unfold layNew
 cases e:t.freeSlot h with
 |none=> exact .inl rfl
 | some q=>
  obtain⟨sl,wd⟩:=q
  dsimp only
  unfold SetTable.orStandIn
  split
  ·rcases T.2 with z|⟨z1,z2⟩
   ·exact .inl z
   ·refine .inr ?_
    unfold SetTable.freeSlot at e
    split at e
    ·rename_i j d hp
     unfold lq at hp
     obtain⟨rfl,hs⟩:=ag4 z2 _ _ rfl hp
     simp only [jC,dv,iI]at e
     obtain⟨rfl,_⟩:=e
     refine⟨azi z1 hs,?_⟩
     show (if SetTable.has t.dummies j then _ else t.dummies)= #[]
     rw [z2,ST.has_nil];rfl
    ·cases e
  ·exact .inl rfl
theorem av7(T:acx w t)(es:Array (Int×ae))(wd:Nat):acx w (relayAll t es wd).2.1:=by
 obtain⟨k1,k2⟩:=ase t es wd
 refine⟨k1.trans T.1,?_⟩
 rcases T.2 with z|_
 ·exact .inl (k2 z)
 unfold relayAll
 cases c:t.relaid (es.map (·.1)) wd with
 |none=> exact .inl rfl
 | some q=>
  obtain⟨t',od⟩:=q
  dsimp only
  split
  ·refine .inr ?_
   unfold jX lV at c
   cases c2:SetTable.layClean (dh wd - 1) (es.map (·.1)) with
   |none=> rw [c2]at c;cases c
   |some ow=>
    rw [c2]at c
    simp only [ib,jE,jY,dv,iI]at c
    obtain⟨rfl,_⟩:=c
    exact⟨by simpa [ST.liveL] using ST.live_ris (dh wd - 1) ow,rfl⟩
  ·exact .inl rfl
def xb(P:aL)(w:aO)(h:Heap)(a:Addr)(S:Int -> Bool)(n:Nat):Prop:=
 ∃o es ep t,h.get? a=some o/\o.ExactSet/\o.data=.set es ep t/\(ElemsOf (bV P w) es.toList/\(∀k,S k=true ↔ ∃e∈es.toList,(bV P w).is k e.2=true)
  /\es.size < cL/\t.fits es.size=true/\es.size=n)/\acx w t
theorem xb.congr{S S':Int -> Bool}{n':Nat}(z:xb P w h a S n)(hS: ∀k,S' k=S k)(hn:n'=n):xb P w h a S' n':=by
 subst hn
 obtain⟨o,es,ep,t,e,ex,d,⟨q1,q2,q3⟩,q4⟩:=z
 exact⟨o,es,ep,t,e,ex,d,⟨q1,λk=> by rw [hS k];exact q2 k,q3⟩,q4⟩
section
variable{prog:aL}{w:aO}{A:aX}{E:ae -> ag -> Prop}{s:ag}
theorem arl{o:Obj}{es:Array (Int×ae)}(ho:h.get? a=some o)(hex:o.ExactSet)(hd:o.data=.set es ep t){es':Array (Int×ae)}{S':Int -> Bool}(q:ElemsOf (bV prog w) es'.toList/\(∀k,S' k=true ↔ ∃e∈es'.toList,(bV prog w).is k e.2=true)/\es'.size < cL/\t'.fits es'.size=true)(tx:acx w t'):
  (h.update a (gz es' t')).get? a=some {o with data:=.set es' (ep+1) t'}/\xb prog w (h.update a (gz es' t')) a S' es'.size:=by
 obtain⟨g,_⟩:=SetOf_store (knd:=bV prog w) ho hex hd q.1 q.2.1 q.2.2.1 q.2.2.2
 exact⟨g,_,es',ep+1,t',g,hex,rfl,⟨q.1,q.2.1,q.2.2.1,q.2.2.2,rfl⟩,tx⟩
theorem aw6{g:Bool -> Sem Unit}(hg: ∀(b:Bool) (s1:ag) (Q':Unit -> ag -> Prop),Q' () s1 -> wpAny (model prog w) A (g b) Q' E s1){o:Obj}{es:Array (Int×ae)}(ho:s.heap.get? a=some o)(hex:o.ExactSet)(hd:o.data=.set es ep t){es1:Array (Int×ae)}{t2:bp}{S':Int -> Bool}(q:ElemsOf (bV prog w) es1.toList/\(∀k,S' k=true ↔ ∃e∈es1.toList,(bV prog w).is k e.2=true)/\es1.size < cL/\t2.fits es1.size=true)(tx:acx w t2){wasDummy:Bool}{R:Option Bool -> ag -> Prop}(h: ∀h',bu a s.heap h' -> xb prog w h' a S' es1.size -> R (some true) {s with heap:=h'}):
  wpAny (model prog w) A (do
   storeSet a es1 t2
   if (!wasDummy&&t2.tooFull)=true then do g (relayAll t2 es1 (ck es1.size)).2.2;storeSet a (relayAll t2 es1 (ck es1.size)).1 (relayAll t2 es1 (ck es1.size)).2.1;pure (some true) else pure (some true)) R E s:=by
 obtain⟨q1,q2,q3,q4⟩:=q
 refine aa (gG ho hd ?_ (gE q3))
 obtain⟨g1,x1⟩:=arl (w:=w) (prog:=prog) ho hex hd ⟨q1,q2,q3,q4⟩ tx
 have b1:=bw s.heap a (gz es1 t2)
 split
 ·have p:=relayAll_perm t2 es1 (ck es1.size)
  have f:=relayAll_fits t2 es1 (ck es1.size)
  have tt:=av7 tx es1 (ck es1.size)
  revert p f tt
  generalize relayAll t2 es1 (ck es1.size)=Rl
  obtain⟨es2,t3,gv⟩:=Rl
  intro p f tt
  dsimp only at p f tt⊢
  have z:es2.size=es1.size:=by
   have:=p.length_eq
   rwa [ar,ar]at this
  have b2:es2.size < cL:=z▸q3
  refine aa (hg _ _ _ (aa (gG g1 rfl ?_ (gE b2))))
  obtain⟨_,x2⟩:=arl (w:=w) (prog:=prog) (S':=S') g1 hex rfl ⟨q1.perm p,λk=> (q2 k).trans ⟨λ⟨e,m,y⟩=> ⟨e,p.mem_iff.mpr m,y⟩,λ⟨e,m,y⟩=> ⟨e,p.mem_iff.mp m,y⟩⟩,b2,f⟩ tt
  exact af (h _ (b1.trans (bw _ a _)) (z▸x2))
 ·exact af (h _ b1 x1)
theorem a50{S:Int -> Bool}{k:Int}{tk:Tok}{Q:Bool -> ag -> Prop}(hS:xb prog w s.heap a S n)(hroom:n+1 < cL)(h: ∀h',bu a s.heap h' -> xb prog w h' a (λy=> S y||decide (y=k)) (if S k then n else n+1) -> Q (!S k) {s with heap:=h'}):
  wpAny (model prog w) A (jM a (.int k tk) ((bV prog w).hash k)) Q E s:=by
 have hkey:(bV prog w).is k (.int k tk)=true:=by show fg k (.int k tk)=true;simp [fg]
 obtain⟨o,es,ep,t,ho,hex,hd,⟨hel,hmem,hb,hf,hn⟩,tx⟩:=hS
 have hgw: ∀(b:Bool) {s1:ag} {Q':Unit -> ag -> Prop},Q' () s1 -> wpAny (model prog w) A (match b with|true=> rule "set.scan.the-table-gave-way"|false=> pure ()) Q' E s1:=by
  intro b s1 Q' z
  cases b
  ·exact af z
  ·exact cI z
 unfold jM setAddHashedIn;refine a9 (aa (cq ho hd hf ?_))
 dsimp only
 rw [byScan_of (knd:=bV prog w) rfl hb hel,if_pos rfl]
 unfold setAddByScan
 refine aa (aa (cI (aa (wpAny_setScan_of hkey ho hd hf hel ?_))))
 cases hr:List.findIdx? (λe=> (bV prog w).is k e.2) es.toList with
 | some j=>
  obtain⟨hj,hpj,_⟩:=List.findIdx?_eq_some_iff_getElem.mp hr;have sk:S k=true:=(hmem k).mpr ⟨es.toList[j],eL hj,hpj⟩
  dsimp only
  refine af (af ?_);have z:=h s.heap (iX a s.heap) ⟨o,es,ep,t,ho,hex,hd,⟨hel,λy=> by
   rw [kC,decide_eq_true_eq,←hmem y]
   exact⟨λc=> c.elim id (λe=> e▸sk),.inl⟩,hb,hf,by rw [sk];exact hn⟩,tx⟩
  rw [sk]at z
  exact z
 | none=>
  dsimp only
  have sk:S k=false:=by
   cases c:S k with
   |false=> rfl
   |true=>
    obtain⟨e,m,y⟩:=(hmem k).mp c
    exact Bool.noConfusion (y.symm.trans (List.findIdx?_eq_none_iff.mp hr e m))
  have p:=layNew_perm t es ((bV prog w).hash k) (.int k tk)
  have f:=layNew_fits t es ((bV prog w).hash k) (.int k tk)
  have ld:=a29 tx es ((bV prog w).hash k) (.int k tk)
  revert p f ld
  generalize layNew t es ((bV prog w).hash k) (.int k tk)=L
  obtain⟨es1,t1,wd,gv⟩:=L
  intro p f ld
  dsimp only at p f ld⊢
  rw [Array.toList_push]at p
  have z1:es1.size=n+1:=by
   have:=p.length_eq
   rw [ar,aQ,ar,hn]at this
   exact this
  have b1:es1.size < cL:=z1▸hroom
  have q:ElemsOf (bV prog w) es1.toList/\(∀y,(λy=> S y||decide (y=k)) y=true ↔ ∃e∈es1.toList,(bV prog w).is y e.2=true)/\es1.size < cL:=
   ⟨(hel.push hkey rfl).perm p,λy=> mem_push_iff hkey hmem p y,b1⟩
  have fin: ∀h',bu a s.heap h' -> xb prog w h' a (λy=> S y||decide (y=k)) es1.size -> Q true {s with heap:=h'}:=λh' u v=> by
   have:=h h' u
   rw [sk,if_neg ax,←z1]at this
   exact this v
  refine aa (hgw _ ?_)
  split
  ·refine aa ?_
   rw [hashByValue_scannable 8 rfl]
   refine af (aw6 (t2:=t1) (λb s1 Q' z=> ?_) ho hex hd ⟨q.1,q.2.1,q.2.2,f⟩ ld λh' u v=> ?_)
   ·cases b
    ·exact af z
    ·exact cI z
   ·dsimp only;exact af (fin h' u v)
  ·rename_i hpl
   refine aa (af ?_);simp only [↓reduceIte]
   refine aw6 (λb s1 Q' z=> ?_) ho hex hd ⟨q.1,q.2.1,q.2.2,f⟩ ld λh' u v=> ?_
   ·cases b
    ·exact af z
    ·exact cI z
   ·dsimp only;exact af (fin h' u v)
end
section
variable{prog:aL}{w:aO}{A:aX}{R:gZ -> ag -> Prop}{I:Addr}{wr fp:List Addr}{G:Array jA -> Array jA -> Prop}{n:Nat}{P:Nat -> ae -> Prop}{St:Nat -> ag -> Prop}
theorem aqj(W:WalksS prog w A.in1 I fp wr G n P St)(p:Addr)(hp:p∉fp)(xs:List Int)(hn:xs.length=n)(hval: ∀i v,P i v -> ∃x t,xs[i]?=some x/\v=.int x t)(hb:n+1 < cL):
  ∀(j i:Nat) (s:ag),i+j=n -> St i s -> xb prog w s.heap p (λy=> decide (y∈jr (xs.take i))) (jr (xs.take i)).length ->
   (∀s',lG (p::wr) G s s' -> xb prog w s'.heap p (λy=> decide (y∈jr xs)) (jr xs).length -> R (.ok (.ret .none)) s') ->
   codeAny (model prog w) A (.builtin "set.update.loop" ⟨[.ref p,.ref I],[]⟩) R s:=by
 have hpw:p∉wr:=λz=> hp (W.sub _ z)
 have up: ∀b∈wr,b∈p::wr:=λb z=> aw _ z
 have stays: ∀{s s':ag} {S:Int -> Bool} {m:Nat},lG wr G s s' -> xb prog w s.heap p S m -> xb prog w s'.heap p S m:=λmv z=> by
  obtain⟨o,es,ep,t,ho,q⟩:=z
  exact⟨o,es,ep,t,mv.heap p _ hpw ho,q⟩
 intro j
 induction j with
 |zero=>
  intro i s hij hst hS hR
  have ei:i=n:=by lia
  subst ei
  refine c0 cO ?_
  rw [cS b6 _]
  refine (show wpAny _ A.in1 (pyNext (.ref I)>>=_) _ _ s from aa (W.done s _ _ hst λs' mv=> ?_))
  refine af (hR s' (mv.mono up) ?_)
  have:=stays mv hS
  rw [fw (dt hn)]at this
  exact this
 | succ j ih=>
  intro i s hij hst hS hR
  refine c0 cO ?_
  rw [cS b6 _]
  refine (show wpAny _ A.in1 (pyNext (.ref I)>>=_) _ _ s from aa (W.item i s _ _ (by lia) hst λv s' hP hst' mv=> ?_))
  obtain⟨x,t,hx,rfl⟩:=hval i v hP
  show wpAny _ A.in1 (holding [eV x t] (setAdd p (.int x t))>>=_) _ _ s'
  refine aa (a9 ?_);unfold setAdd
  refine a9 (aa ((intKind prog w).pyHash (k:=x) (by show fg x (.int x t)=true;simp [fg]) ?_))
  have few:(jr (xs.take i)).length <=i:=br (agp _).2.2 (by rw [bc];lia)
  refine a50 (s:={s' with toks:=s'.toks+1}) (show xb prog w s'.heap p _ _ from stays mv hS) (by lia) λh' sb hS2=> ?_
  have et:xs.take (i+1)=xs.take i++ [x]:=by rw [List.take_add_one,hx];rfl
  have hS3:xb prog w h' p (λy=> decide (y∈jr (xs.take (i+1)))) (jr (xs.take (i+1))).length:=by
   refine xb.congr hS2 (λy=> ?_) ?_
   ·rw [et,ait]
    by_cases h1:y∈jr (xs.take i)
    ·simp [h1,abh]
    ·by_cases h2:y=x
     ·simp [h1,h2,abh]
     ·simp [h1,h2,abh]
   ·rw [et,ait]
    by_cases h1:x∈jr (xs.take i)
    ·rw [show k8 (jr (xs.take i)) x=jr (xs.take i) from by unfold k8;rw [if_pos h1]];simp [h1]
    ·rw [show k8 (jr (xs.take i)) x=jr (xs.take i)++ [x] from by unfold k8;rw [if_neg h1]];simp [h1]
  refine af ⟨fS b6 _,ih (i+1) _ (by lia) (W.frame _ s' _ _ hst' (kL _) λb hbm o e=> ?_) hS3 λs'' mv2 hS''=> ?_⟩
  ·rw [sb.2 b (λz:b=p=> hp (by rw [←z];exact hbm))];exact e
  ·refine hR s'' (Moved.trans W.gtrans ((mv.mono up).then_heap (kL _) λb o hbm e=> ?_) mv2) hS''
   rw [sb.2 b (λz:b=p=> hbm (by rw [z];exact au))];exact e
end
section
variable{prog:aL}{w:aO}{A:aX}{s:ag}{E:ae -> ag -> Prop}
theorem ai1{T:String}{oc:Obj}(hh:A.handled=none)(hT:T="list"\/T="tuple")(ho:s.heap.get? a=some oc)(hc:oc.cls=.type T){its:Array ae}{k:Nat}(hd:oc.data=.seq its k)(xs:List Int)(hx:ji (xs.map V.int) its.toList)(hb:its.size+1 < cL)(h: ∀(h':Heap) (tk:Nat),xb prog w h' s.heap.objs.size (λy=> decide (y∈jr xs)) (jr xs).length -> (∀b o,b < s.heap.objs.size -> s.heap.get? b=some o -> h'.get? b=some o) -> Q (.ref s.heap.objs.size) {s with heap:=h',toks:=tk}):
  wpAny (model prog w) A (call (.type "set") [.ref a]) Q E s:=by
 have hlen:xs.length=its.size:=by
  have:=hx.length
  rw [ak]at this
  simpa using this
 refine apu hh hT ho hc hd (λA' I fp wr P St s0 R W hP nf st g0 k=> ?_) h
 obtain⟨led,hled,g0⟩:=g0
 refine aqj W s.heap.objs.size nf xs hlen (λi v hv=> ?_) hb its.size 0 s0 (by lia) st ⟨_,#[],0,_,g0,⟨rfl,rfl,rfl⟩,rfl,⟨λe he=> by simp at he,λk=> by simp [jr],by decide,rfl,rfl⟩,hled,.inr ⟨fz,rfl⟩⟩ k
 have hv:=hP i v hv
 have hi:i < its.size:=(cb.mp hv).1
 have hxi:(xs.map V.int)[i]?=some (.int xs[i]):=by rw [aN,ao (by lia)];rfl
 obtain⟨u,hu,ru⟩:=hx.get hxi
 rw [aZ,hv]at hu
 cases hu
 obtain⟨t,e⟩:=(show∃t,v=eV xs[i] t from ru)
 exact⟨xs[i],t,ao (by lia),e⟩
end
def agf(P:aL)(w:aO)(p:Addr)(xs:List Int):HO:=.ext λh=> xb P w h p (λy=> decide (y∈jr xs)) (jr xs).length
theorem aub{xs:List Int}(hS:xb P w h p (λy=> decide (y∈jr xs)) (jr xs).length):jq P w H h p (agf P w p xs):=by
 refine⟨hS,?_,λh1 h2 z k=> ?_⟩
 ·obtain⟨o,_,_,_,e,_⟩:=hS
  exact⟨o,e⟩
 ·obtain⟨o,es,ep,t,e,q⟩:=z
  exact⟨o,es,ep,t,k o e,q⟩
theorem arx(hc:X.calm=true):vk X (.type "set") (λvs H Q=> ∃a xs,vs=[.ref a]/\(SqL X.K H a (xs.map V.int)\/SqT X.K H a (xs.map V.int))/\xs.length < 4000/\ ∀p H',New H p (agf X.prog X.w p xs) H' -> Q (.ref p) H'):=by
 intro pins s σ H vs us Q I r h
 obtain⟨a,xs,rfl,hS,hl,q⟩:=h
 obtain⟨u,rfl,ru⟩:=vals1 r
 cases ru
 have hh:=I.ok.hd hc
 have fin: ∀(h':Heap) (tk:Nat),xb X.prog X.w h' s.heap.objs.size (λy=> decide (y∈jr xs)) (jr xs).length -> (∀b o,b < s.heap.objs.size -> s.heap.get? b=some o -> h'.get? b=some o) ->
   EP X pins σ Q (.ref s.heap.objs.size) {s with heap:=h',toks:=tk}:=λh' tk z k=>
  ⟨.ref s.heap.objs.size,upd H s.heap.objs.size (agf X.prog X.w s.heap.objs.size xs),I.laid (λb u e=> k b u (az e) e) (av _) (aub z),rfl,q _ _ ⟨I.fresh,rfl⟩⟩
 rcases hS with hS|hS
 ·obtain⟨its,rv,⟨o,n,e,c,dd,d⟩,z⟩:=I.list hS
  have hsz:its.toArray.size+1 < cL:=by
   have:=rv.length
   rw [ak]at this
   rw [aE]
   unfold cL
   lia
  exact ai1 hh (.inl rfl) e c d xs (by simpa using rv) hsz fin
 ·obtain⟨its,rv,⟨o,e,c,n,d⟩,z⟩:=I.tuple hS
  have hsz:its.toArray.size+1 < cL:=by
   have:=rv.length
   rw [ak]at this
   rw [aE]
   unfold cL
   lia
  exact ai1 hh (.inr rfl) e c d xs (by simpa using rv) hsz fin
section
variable{prog:aL}{w:aO}{A:aX}{E:ae -> ag -> Prop}{s:ag}
theorem att{r:Addr}{ks:List Int}(h64:ks.length < 64)(coll: ∀(R:List ae -> ag -> Prop),(∀h' d' tk (vs:List ae) (xs:List Int),gR vs xs -> xs.Perm ks -> (∀b u,s.heap.get? b=some u -> h'.get? b=some u) -> R vs {s with heap:=h',drawn:=d',toks:=tk}) -> wpAny (model prog w) A.in1 (collect (.ref r)) R E s)(h: ∀(h1 h':Heap) (d':Drawn) (tk e:Nat) (out:Array ae) (xs:List Int),gR out.toList xs -> xs.Perm ks -> xs.Pairwise (· <= ·) -> (∀b u,s.heap.get? b=some u -> h1.get? b=some u) -> h'.get? h1.objs.size=some (seqObj "list" out e) -> (∀b u,h1.get? b=some u -> h'.get? b=some u) ->
   Q (.ref h1.objs.size) {s with heap:=h',drawn:=d',toks:=tk}):wpAny (model prog w) A (call (.builtin "sorted") [.ref r]) Q E s:=by
 refine fY kind_sorted plain_sorted entry_sorted (args_sorted1 _) ?_;unfold cC.«sorted»
 refine aa (m:=checkCount "sorted" 1 1 _) (af (aa (coll _ λh' d' tk vs xs st pm k=> ?_)))
 have lv:vs.length < 64:=by
  have:vs.length=xs.length:=by rw [←st.nums,ak]
  rw [this,pm.length_eq];exact h64
 refine aa (l6 ?_ (by rw [cp];lia));have g:(h'.push {cls:=.type "list",data:=.seq vs.toArray}).get? h'.objs.size=some (seqObj "list" vs.toArray 0):=ay _ rfl
 refine aa (a9 (bg slot_list_sort ⟨_,g,rfl⟩ entry_list_sort (list_sort_tree g st lv λout ys y1 y2 y3=> ⟨_,rfl,?_⟩) (args_list_sort _)))
 obtain⟨e,ge⟩:=sortedHeap_at (out:=out) g
 refine af ⟨_,rfl,h h' _ d' tk e _ ys y1 (y2.trans pm) y3 k ge λb u eb=> ?_⟩
 have lb:=az eb
 rw [sortedHeap_old (aJ lb) (by rw [aV];exact bU lb)]
 exact aj _ eb
end
theorem ak7: ∀{vs:List ae} {xs:List Int},gR vs xs -> ji (xs.map V.int) vs
 |_,_,.nil=>.nil
 |_,_,.cons n t h=>.cons ⟨t,rfl⟩ (ak7 h)
end L2
namespace PF
open PySem PySem.Spec
open L2
noncomputable def xq(ks:List Int):List Int:=ks.mergeSort λa b=> decide (a <=b)
theorem zg(ks:List Int):(xq ks).Perm ks:=List.mergeSort_perm _ _
theorem adw(ks:List Int):(xq ks).Pairwise (· <= ·):=
 (List.pairwise_mergeSort (le:=λa b:Int=> decide (a <=b)) (λa b c h k=> decide_eq_true (gj (of_decide_eq_true h) (of_decide_eq_true k))) (λa b=> by
  rcases Int.le_total a b with h|h
  ·rw [decide_eq_true h];rfl
  ·rw [decide_eq_true h,Bool.or_true]) ks).imp λh=> of_decide_eq_true h
theorem ahv: ∀{l m:List Int},l.Perm m -> l.Pairwise (· <= ·) -> m.Pairwise (· <= ·) -> l=m
 |[],m,p,_,_=> (List.nil_perm.mp p).symm
 |a::l,[],p,_,_=> by have:=p.length_eq;simp at this
 | a::l,b::m,p,h,k=> by
  have ha:=cx.mp h
  have hb:=cx.mp k
  have e:a=b:=by
   have h1:a∈b::m:=p.mem_iff.mp au
   have h2:b∈a::l:=p.mem_iff.mpr au
   rcases aA.mp h1 with z|z
   ·exact z
   ·rcases aA.mp h2 with y|y
    ·exact y.symm
    ·exact Int.le_antisymm (ha.1 b y) (hb.1 a z)
  subst e
  rw [ahv (iC.cons_inv p) ha.2 hb.2]
theorem ayl{ks js:List Int}(p:js.Perm ks)(h:js.Pairwise (· <= ·)):js=xq ks:=ahv (p.trans (zg ks).symm) h (adw ks)
open PyProof.Rows in
theorem alj(hc:X.calm=true)(hu:X.A.units+70 < cLine):vk X (.builtin "sorted") (λvs H Q=> ∃a xs,vs=[.ref a]/\H a=some (agf X.prog X.w a xs)/\(jr xs).length < 64/\ ∀p H',New H p (.lst ((xq (jr xs)).map V.int)) H' -> Q (.ref p) H'):=by
 intro pins s σ H vs us Q I r h
 obtain⟨a,xs,rfl,e,hl,q⟩:=h
 obtain⟨u,rfl,ru⟩:=vals1 r
 cases ru
 have hh:=I.ok.hd hc
 obtain⟨hx,_,_⟩:=(show jq X.prog X.w H s.heap a (agf X.prog X.w a xs) from I.hok a _ e)
 obtain⟨o,es,ep,t,eo,ex,d,⟨hel,hmem,hb,hf,hn⟩,tx⟩:=hx
 refine att hl (λR k=> ajl (by exact hh) eo ex d hf hb (tx.x _) λh' d' tk ord p kp=> ?_) ?_
 ·have al: ∀v∈ord,∃i t,v=eV i t:=λv hv=> by
   obtain⟨en,m,rfl⟩:=aH.mp (p.mem_iff.mp hv)
   obtain⟨⟨y,hy,_⟩,_⟩:=hel en m
   obtain⟨t,z⟩:=iQ (show fg y en.2=true from hy)
   exact⟨y,t,z⟩
  refine k h' d' tk ord (ord.map numOf) (intsAre_map ord al) ?_ kp
  refine (an4 (agp xs).1 (λy hy=> ?_) ?_).symm
  ·obtain⟨en,m,hy'⟩:=(hmem y).mp (by simpa using hy)
   obtain⟨t,z⟩:=iQ (show fg y en.2=true from hy')
   exact aH.mpr ⟨en.2,p.mem_iff.mpr (aH.mpr ⟨en,m,rfl⟩),by rw [z];rfl⟩
  ·rw [ak,p.length_eq,ak,ar,hn]
   exact av _
 ·intro h1 h' d' tk e out ys st pm so k1 g k2
  have I1:Inv X pins σ H {s with heap:=h1,toks:=s.toks}:=I.un (Un.kept k1) (I.hok.kept k1)
  have lx:ys.length < 64:=by rw [pm.length_eq];exact hl
  have ey:=ayl pm so
  subst ey
  have I2:Inv X pins σ (upd H h1.objs.size (.lst ((xq (jr xs)).map V.int))) {s with heap:=h',toks:=tk}:=I1.laid (t':=tk) k2 (av _) ⟨by rw [ak,cp];lia,out.toList,e,ak7 st,by simpa [seqObj] using g⟩
  exact⟨.ref h1.objs.size,_,I2.drew d',rfl,q _ _ ⟨I1.hok.fresh (av _),rfl⟩⟩
noncomputable def yu:List D -> Option (List Int)
 |[]=> some []
 |.da (.int i)::r=> match yu r with
  |some xs=> some (i::xs)
  |none=> none
 |_=> none
theorem afk{K:am}{as:As}{H:Hp}: ∀{xs:List V} {ds:List D} {is:List Int},RDs K as H xs ds -> yu ds=some is -> xs=is.map V.int
 |_,_,is,.nil,h=> by cases h;rfl
 | x::xs,d::ds,is,.cons r rs,h=> by
  unfold yu at h
  split at h
  ·cases‹_::_=_›
  ·rename_i i r' e
   cases e
   split at h
   ·rename_i ys q
    cases h
    rw [afk rs q]
    cases r.int_inv
    rfl
   ·cases h
  ·cases h
theorem ai6{K:am}{as:As}{H:Hp}: ∀is:List Int,RDs K as H (is.map V.int) (is.map D.int)
 |[]=>.nil
 |i::r=>.cons (.da (.int i)) (ai6 r)
def aar(m:Bool)(ds:List D)(s:S):R D:=match ds with
 |[d]=> match (ac4 s d).bind yu with
  |some is=> if is.length < 4000/\(jr is).length < 64 then kh m ((xq (jr is)).map D.int) s else .bad
  |none=>.bad
 |_=>.bad
section
variable[XW]{X:Cx}
theorem alp(m:Bool){f:FA}{p1 p2 pos2:Pos}(hc:X.calm=true)(hu:X.A.units+70 < cLine)(hm1:X.mg "sorted"=none)(hm2:X.mg "set"=none)(ha:RA X [e] f)(hg1:Gl X "sorted":=by rfl)(hg2:Gl X "set":=by rfl)(hs:starEach [e] X.env=(false,eval e X.env)::starEach [] X.env:=by rfl)(hs2:starEach [.Call (.Name "set" p2) [e] [] pos2] X.env=(false,eval (.Call (.Name "set" p2) [e] [] pos2) X.env)::starEach [] X.env:=by rfl)(hpl:(backTo pos (starEach [] X.env)).any (·.1)=false:=by rfl)(hpl2:(backTo pos2 (starEach [] X.env)).any (·.1)=false:=by rfl):
  RE X (.Call (.Name "sorted" p1) [.Call (.Name "set" p2) [e] [] pos2] [] pos) (fCB (aar m) f):=by
 obtain⟨t,pa,ra⟩:=ha.ex
 have pset:=abq (X:=X) (arx hc) hg2 hm2 avw pa (pos:=pos2) (p:=p2) (by decide) (by decide) hs hpl2
 have psort:=aft (X:=X) (alj hc hu) hg1 hm1 afh (acd pset aei hs2) (pos:=pos) (p:=p1) (by decide) (by decide) hs2 hpl
 refine⟨_,psort,λas σ H ρ s Q rl en h=> ?_⟩
 refine ra as σ H ρ s _ rl en (Dn.bind h λds s1 as1 H1 vs st1 rl1 r1 h1=> ?_)
 unfold aar at h1
 split at h1
 ·obtain⟨v,rfl,rv⟩:=r1.one
  split at h1
  ·rename_i is e
   split at h1
   ·rename_i hz
    cases e2:ac4 s1 _ with
    |none=> rw [e2]at e;cases e
    |some xs=>
     rw [e2]at e
     obtain⟨p,zs,rfl,sq,rz⟩:=aci rl1 rv e2
     have ez:=afk rz (show yu xs=some is from e)
     subst ez
     refine⟨p,is,rfl,sq,hz.1,λq H2 n2=> ⟨q,is,rfl,n2.at,hz.2,λr H3 n3=> ?_⟩⟩
     exact zb (Dn.step h1 (ju n2)) (rl1.new n2) (ai6 _) n3
   ·exact h1.elim
  ·exact h1.elim
 ·exact h1.elim
end
end PF
namespace PF
open PySem PySem.Spec PyProof.Rows
open L2
noncomputable def abf(i:Int)(is:List Int):Int:=is.foldl (λa b=> if b > a then b else a) i
theorem aem: ∀(is:List Int) (i:Int),abf i is∈i::is/\ ∀a∈i::is,a <=abf i is
 |[],i=> ⟨au,λa h=> by rw [aF.mp h];exact Int.le_refl _⟩
 | j::r,i=> by
  have e:abf i (j::r)=abf (if j > i then j else i) r:=rfl
  obtain⟨h1,h2⟩:=aem r (if j > i then j else i)
  rw [e]
  have h3:=h2 _ au
  refine⟨?_,λa ha=> ?_⟩
  ·rcases aA.mp h1 with z|z
   ·rw [z];split
    ·exact aw _ au
    ·exact au
   ·exact aw _ (aw _ z)
  ·rcases aA.mp ha with z|z
   ·subst z;exact gj (by split <;> lia) h3
   ·rcases aA.mp z with y|y
    ·subst y;exact gj (by split <;> lia) h3
    ·exact h2 a (aw _ y)
def aet(ds:List D)(s:S):R D:=match ds with
 | [d]=> match toL s d with
  |some xs=> match yu xs with
   |some (i::is)=>.ok (.int (abf i is)) s
   |_=>.bad
  |none=>.bad
 |_=>.bad
theorem ala: ∀{is:List Int} {us:List ae},ji (is.map V.int) us -> gR us is
 |[],_,.nil=>.nil
 |i::r,_,.cons ⟨t,e⟩ h=> by subst e;exact .cons i t (ala h)
theorem ar4(hc:X.calm=true):vk X (.builtin "max") (λvs H Q=> ∃(a:Addr) (i:Int) (is:List Int),vs=[.ref a]/\SqL X.K H a ((i::is).map V.int)/\Q (.int (abf i is)) H):=by
 intro pins s σ H vs us Q I r h
 obtain⟨a,i,is,rfl,hS,q⟩:=h
 obtain⟨u,rfl,ru⟩:=vals1 r
 cases ru
 have hh:X.A.handled=none:=I.ok.hd hc
 obtain⟨its,rv,⟨o,n,e,c,dd,d⟩,z⟩:=I.list hS
 have l1:s.heap.IsList a its.toArray:=⟨o,e,c,n,d⟩
 have hi:=ala rv
 obtain⟨xs,ex⟩:=hi.allInts.items
 have hns:(i::is)=xs.toList.map (·.1):=by
  rw [←hi.numsOf,←nums_intItems,←ex]
 have hsz:0 < xs.size:=by
  have h3:=congrArg fj hns
  rw [ak,aG,ar (xs:=xs)]at h3;lia
 rw [ex]at l1
 refine max_intList hh l1 hsz λv h' tk hv hk=> ?_
 (obtain⟨t,rfl⟩:=intItems_at hv)
 (obtain⟨h1,h2⟩:=argBest_gt (numAt xs) (xs.size - 1))
 have m1:numAt xs (argBest (λi j=> decide (numAt xs i > numAt xs j)) (xs.size - 1))∈i::is:=by
  rw [hns,numAt_eq];exact getD_mem (by rw [ak,ar];lia)
 have m2: ∀b∈i::is,b <=numAt xs (argBest (λi j=> decide (numAt xs i > numAt xs j)) (xs.size - 1)):=λb hb=> by
  rw [hns]at hb
  obtain⟨j,hj,rfl⟩:=mem_getD hb
  (rw [ak,ar]at hj)
  (rw [←numAt_eq];exact h2 j (by lia))
 obtain⟨k1,k2⟩:=aem is i
 have em:numAt xs (argBest (λi j=> decide (numAt xs i > numAt xs j)) (xs.size - 1))=abf i is:=Int.le_antisymm (k2 _ m1) (m2 _ k1)
 rw [em]
 exact⟨.int (abf i is),H,I.kept hk,⟨t,rfl⟩,q⟩
section
variable[XW]{X:Cx}
theorem a17(hc:X.calm=true):CB X (.builtin "max") aet:=abr λpins sh σ H as s xs ds us Q I rl rs ru h=> by
 unfold aet at h
 split at h
 ·obtain⟨v,rfl,rv⟩:=rs.one
  split at h
  ·rename_i ys e
   split at h
   ·rename_i i is q
    obtain⟨p,zs,rfl,hx,rz⟩:=abl rl rv e
    have ez:=afk rz q
    subst ez
    exact ar4 hc pins sh σ H _ us Q I ru ⟨p,i,is,rfl,SqL.of hx,Dn.now (Q:=Q) h rl (.da (.int _))⟩
   ·exact h.elim
  ·exact h.elim
 ·exact h.elim
end
theorem au6:aet [.lst ((i::is).map aq)] s=.ok (.int (abf i is)) s:=by
 have e: ∀is:List Int,yu ((is.map aq).map D.da)=some is:=by
  intro is
  induction is with
  |nil=> rfl
  |cons a r ih=> show (match yu ((r.map aq).map D.da) with|some xs=> some (a::xs)|none=> none)=_;rw [ih]
 show (match yu (((i::is).map aq).map D.da) with|some (i::is)=> R.ok (D.int (abf i is)) s|_=>.bad)=_
 rw [e]
end PF
namespace PF
open PySem PySem.Spec
open L2
variable[XW]
theorem awg(hu:X.A.units+70 < cLine){y z:V}{dy dz:D}{r:ae}{Q:VK}(I:Inv X pins σ H sh)(rl:Rel X.K as H s)(r1:RD X.K as H (.ref p) (.ref n))(r2:RD X.K as H y dy)(r3:RD X.K as H z dz)(ry:RelV y u)(rz:RelV z r)(h:Dn X.K (rD X.K) as H (v8 (.ref n) dy dz s) Q):wpAny (model X.prog X.w) X.A (dictSet p u r) (λ_ s'=> ∃H',Inv X pins σ H' s'/\Q .non H') E sh:=by
 obtain⟨p',n',kvs,e0,e1,ha,e,ro,h⟩:=ae3 rl r1 h
 cases e0;cases e1
 split at h
 ·rename_i k hk
  split at h
  ·rename_i hsm
   obtain⟨hsm,hlen⟩:=hsm
   have ty:=r2.key_inv hk
   rcases acf ro hsm with ⟨l,a,rfl,eh,dr⟩|⟨l,it,dd,dr⟩
   ·have hl:l.length < sizeLine:=by rw [←aey,dr.len];exact hlen
    obtain⟨zz,hd,vs,rel,dct⟩:=aau I.hok eh
    have hl':(jv l a z).length <=sizeLine:=by have:=vm l a z;lia
    refine mq (hsz:=by rw [←rel.length];exact zz) (ad2 (ac8 ty ry)) dct λh' dd' hs=> ?_
    have he: ∃q,h'.get? p=some q:=let ⟨q,_,_,hq,_⟩:=dd';⟨q,hq⟩
    refine⟨_,aa7 I (by rw [eh];exact c9) hs he (akt hl' hd (rel.put a rz) dd'),?_⟩
    have c:Chg H p (.dK (jv l a z)) (upd H p (.dK (jv l a z))):=⟨rfl⟩
    have st:=yb (kc.mpr ⟨n,ha⟩) (λq=> rl.hx p q (kc.mpr ⟨n,ha⟩)) c
    refine ab1 (v:=.non) rl ha c (.inl ⟨_,c.at,?_⟩) (.da .non) h
    rw [akj]
    exact (dr.put r3 (kP a)).mono st
   ·obtain⟨kok,kpl,ks,rfl⟩:=ac5 it
    obtain⟨b,rfl⟩:=aef ty
    cases ry
    have hl:l.length < sizeLine:=by rw [dr.len];exact hlen
    obtain⟨zz,hd,xs,rel,dct⟩:=dd.rs I.hok
    have hl':(jv l (.tuple ks) z).length <=sizeLine:=by have:=vm l (.tuple ks) z;lia
    refine adq (hsz:=by rw [←eS rel];exact zz) (show (qx X.prog X.w).room X.A from (show X.A.units+10 < cLine by lia)) (acr I.hok kok (TD.kd ty kpl)) dct λh' dd' hs=> ?_
    have he: ∃q,h'.get? p=some q:=let ⟨q,_,_,hq,_⟩:=dd';⟨q,hq⟩
    have ht: ∀c ys,H c=some (.tup ys) -> upd H p (.dD (jv l (.tuple ks) z)) c=some (.tup ys):=λc ys q=> by
     rw [j4 (λy=> by subst y;rcases dd with e|⟨e,_⟩ <;> (rw [e]at q;cases q))];exact q
    refine⟨_,aa7 I dd.mut hs he (ajr hl' hd (rel.put kok (TD.kd ty kpl) rz) ht dd'),?_⟩
    have c:Chg H p (.dD (jv l (.tuple ks) z)) (upd H p (.dD (jv l (.tuple ks) z))):=⟨rfl⟩
    have st:=yb (kc.mpr ⟨n,ha⟩) (λq=> rl.hx p q (kc.mpr ⟨n,ha⟩)) c
    exact ab1 (v:=.non) rl ha c (.inr ⟨_,⟨aha _ _ _,ahu (ako ro dd) it⟩,c.at,(dr.put r3 _).mono st⟩) (.da .non) h
  ·exact h.elim
 ·exact h.elim
abbrev FP:=En -> S -> R (List (D×D))
inductive RPs (K:am) (as:As) (H:Hp):List (V×V) -> List (D×D) -> Prop
 |nil:RPs K as H [] []
 |cons {x y:V} {a b:D} {ps:List (V×V)} {ds:List (D×D)}:RD K as H x a -> RD K as H y b -> RPs K as H ps ds -> RPs K as H ((x,y)::ps) ((a,b)::ds)
theorem RPs.mono{as':As}(st:Step as H as' H'){ps:List (V×V)}{ds:List (D×D)}(h:RPs K as H ps ds):RPs K as' H' ps ds:=by
 induction h with
 |nil=> exact .nil
 |cons a b t ih=> exact .cons (a.mono st) (b.mono st) ih
noncomputable def aov:FP:=λ_ s=>.ok [] s
def adu(fk fv:FE)(r:FP):FP:=λρ s=> (fk ρ s).bind λk s1=> (fv ρ s1).bind λv s2=> (r ρ s2).bind λps s3=>.ok ((k,v)::ps) s3
structure RP (X:Cx) (pos:Pos) (keys:List (Option Expr)) (values:List Expr) (f:FP):Prop where
 ex: ∃trs,PPs X pos keys values trs/\ ∀as σ H ρ s Q,Rel X.K as H s -> Envs X.K as H ρ σ -> Dn X.K (RPs X.K) as H (f ρ s) Q -> ago trs σ H Q
theorem a07:RP X pos [] [] aov:=⟨[],ay7,λas σ H ρ s Q rl en h=> Dn.now (Q:=Q) h rl .nil⟩
theorem ahg{k v:Expr}{ks:List (Option Expr)}{vs:List Expr}{fk:FE}{f:FP}(hk:RE X k fk)(hv:RE X v fv)(hr:RP X pos ks vs f):RP X pos (some k::ks) (v::vs) (adu fk fv f):=by
 obtain⟨tk,pk,rk⟩:=hk.ex
 obtain⟨tv,pv,rv⟩:=hv.ex
 obtain⟨trs,pp,rr⟩:=hr.ex
 refine⟨(tk,tv)::trs,auw pk pv pp,λas σ H ρ s Q rl en h=> ?_⟩
 refine rk as σ H ρ s _ rl en (Dn.bind h λd1 s1 as1 H1 x st1 rl1 r1 h1=> ?_)
 refine rv as1 σ H1 ρ s1 _ rl1 (en.mono st1) (Dn.bind h1 λd2 s2 as2 H2 y st2 rl2 r2 h2=> ?_)
 refine rr as2 σ H2 ρ s2 _ rl2 ((en.mono st1).mono st2) (Dn.bind h2 λps s3 as3 H3 qs st3 rl3 r3 h3=> ?_)
 exact Dn.now (Q:=Q) h3 rl3 (.cons ((r1.mono st2).mono st3) (r2.mono st3) r3)
def putAll(n:Nat):List (D×D) -> S -> R D
 |[],s=>.ok .non s
 |(k,v)::r,s=> (v8 (.ref n) k v s).bind λ_ s1=> putAll n r s1
def aoh(f:FP):FE:=λρ s=> (f ρ (s++ [.dct []])).bind λps s1=> (putAll s.length ps s1).bind λ_ s2=>.ok (.ref s.length) s2
theorem abj(hu:X.A.units+70 < cLine){E:ae -> ag -> Prop}{pins:List (Addr×Obj)}{σ:St}{p:Addr}{n:Nat}: ∀{ps:List (V×V)} {ds:List (D×D)} {us:List (ae×ae)} {sh:ag} {H:Hp} {as:As} {s:S} {Q:VK},RPs X.K as H ps ds -> VV ps us -> Inv X pins σ H sh -> Rel X.K as H s -> RD X.K as H (.ref p) (.ref n) -> Dn X.K (rD X.K) as H ((putAll n ds s).bind λ_ s2=>.ok (.ref n) s2) Q ->
  wpAny (model X.prog X.w) X.A (storeAll p us) (λ_ s'=> ∃H',Inv X pins σ H' s'/\Q (.ref p) H') E sh
 |_,_,_,sh,H,as,s,Q,.nil,v,I,rl,r,h=> by
  cases v
  show wpAny _ _ (forIn [] _ _) _ _ _
  rw [lu]
  exact af ⟨H,I,Dn.now (Q:=Q) (show Dn X.K (rD X.K) as H (.ok (.ref n) s) Q from h) rl r⟩
 | _,_,_,sh,H,as,s,Q,.cons (ps:=ps) (ds:=ds) (a:=a) (b:=b) ra rb t,v,I,rl,r,h=> by
  cases v with
  | @cons _ q _ us hq vr=>
   obtain⟨q1,q2⟩:=q
   show wpAny _ _ (forIn ((q1,q2)::us) _ _) _ _ _
   rw [g6]
   have h':Dn X.K (rD X.K) as H ((v8 (.ref n) a b s).bind λ_ s1=> (putAll n ds s1).bind λ_ s2=>.ok (.ref n) s2) Q:=by
    have e:((putAll n ((a,b)::ds) s).bind λ_ s2=> R.ok (D.ref n) s2)=(v8 (.ref n) a b s).bind λ_ s1=> (putAll n ds s1).bind λ_ s2=>.ok (.ref n) s2:=by
     show ((v8 (.ref n) a b s).bind λ_ s1=> putAll n ds s1).bind _=_
     cases v8 (.ref n) a b s <;> rfl
    rw [←e];exact h
   refine aa (aa (bQ (awg (E:=E) (Q:=λ_ H'=> ∃as' s',Step as H as' H'/\Rel X.K as' H' s'/\Dn X.K (rD X.K) as' H' ((putAll n ds s').bind λ_ s2=>.ok (.ref n) s2) Q) hu I rl r ra rb hq.1 hq.2 (Dn.bind h' λd s1 as1 H1 vv st1 rl1 r1 h1=> ⟨as1,s1,st1,rl1,h1⟩)) (λ_ s' hx=> ?_) λ_ _ e=> e))
   obtain⟨H1,I1,as1,s1,st1,rl1,h1⟩:=hx
   exact af (abj hu (t.mono st1) vr I1 rl1 (r.mono st1) h1)
theorem azl{keys:List (Option Expr)}{values:List Expr}{f:FP}(hu:X.A.units+70 < cLine)(h:RP X pos keys values f)(hall:keys.all (·.isSome)=true:=by rfl)(hl:keys.length=values.length:=by rfl)(h0:keys≠ []:=by (intro z;cases z))(h15:keys.length <=15:=by decide):RE X (.Dict keys values pos) (aoh f):=by
 obtain⟨trs,pp,rr⟩:=h.ex
 refine⟨λσ H Q=> ∀p,H p=none -> ago trs σ (upd H p (.dK [])) λps H2=> ∃as s ds n,Rel X.K as H2 s/\RPs X.K as H2 ps ds/\RD X.K as H2 (.ref p) (.ref n)/\Dn X.K (rD X.K) as H2 ((putAll n ds s).bind λ_ s2=>.ok (.ref n) s2) Q,⟨λpins sh σ H Q I h=> ?_⟩,λas σ H ρ s Q rl en h=> ?_⟩
 ·have I1:=I.laid (a:=sh.heap.objs.size) (o:=.dK []) (h':=sh.heap.push {cls:=.type "dict",data:=.dict #[]}) (t':=sh.toks) (λ_ _ q=> aj _ q) (av _) (aje sh.heap I.big)
  refine wpAny_Dict_any hall hl h0 h15 (thn (pp pins _ σ _ _ I1 (h _ (I.hok.fresh (av _)))) λus s1 ⟨ps,H1,I2,vv,as,s,ds,n,rl,rps,rd,q⟩=> ?_)
  exact bQ (abj hu rps vv I2 rl rd q) (λ_ s2 ⟨H2,I3,q2⟩=> ⟨.ref _,H2,I3,rfl,q2⟩) λ_ _ e=> e
 ·intro p hp
  have nw:New H p (.dK []) (upd H p (.dK [])):=⟨hp,rfl⟩
  have st:=zc (as:=as) nw
  have rl1:=rl.laid nw (u:=.dct []) (.inl ⟨[],nw.at,.nil⟩)
  have rd:RD X.K (as.add p) (upd H p (.dK [])) (.ref p) (.ref s.length):=.ref (by simp [rl.len]) λq e=> by
   rw [←rl.len]at e
   simp at e
   exact e.symm
  refine rr (as.add p) σ _ ρ (s++ [.dct []]) _ rl1 (en.mono st) (Dn.bind (Dn.step h st) λds s1 as1 H1 ps st1 rl2 r1 h1=> ⟨as1,s1,ds,s.length,rl2,r1,rd.mono st1,h1⟩)
end PF
namespace L2
open PySem PySem.Spec PyProof.Rows
abbrev TBd:=Addr -> St -> Hp -> (St -> Hp -> Prop) -> Prop
end L2
namespace PF
open PySem PySem.Spec
open L2
variable[XW]
end PF
namespace L2
open PySem PySem.Spec PyProof.Rows
def ke(b:Bool)(h:Heap)(l:Addr)(xs:Array ae):Prop:=if b=true then h.IsList l xs else h.IsTuple l xs
def vi(b:Bool)(h:Heap)(i l:Addr)(k:Nat):Prop:=if b=true then h.IsListIter i l k else h.IsTupleIter i l k
theorem ke.to{h':Heap}{xs:Array ae}(x:ke b h l xs)(k: ∀o,h.get? l=some o -> h'.get? l=some o):ke b h' l xs:=by
 cases b with
 |true=> obtain⟨o,e,r⟩:=x;exact⟨o,k o e,r⟩
 |false=> obtain⟨o,e,r⟩:=x;exact⟨o,k o e,r⟩
theorem vi.to{h':Heap}{i:Addr}(x:vi b h i l n)(k: ∀o,h.get? i=some o -> h'.get? i=some o):vi b h' i l n:=by
 cases b with
 |true=> obtain⟨o,e,r⟩:=x;exact⟨o,k o e,r⟩
 |false=> obtain⟨o,e,r⟩:=x;exact⟨o,k o e,r⟩
theorem vi.obj{i:Addr}(x:vi b h i l n): ∃o,h.get? i=some o/\ ∃vs,o.data=.fields vs:=by
 cases b with
 |true=> obtain⟨o,e,_,r⟩:=x;exact⟨o,e,_,r⟩
 |false=> obtain⟨o,e,_,r⟩:=x;exact⟨o,e,_,r⟩
theorem ke.lt{xs:Array ae}(x:ke b h l xs):l < h.objs.size:=by
 cases b with
 |true=> obtain⟨o,e,r⟩:=x;exact az e
 |false=> obtain⟨o,e,r⟩:=x;exact az e
section
variable{P:aL}{w:aO}{A:aX}{E:ae -> ag -> Prop}{s:ag}
open PySem.F in
theorem aal{i:Addr}{k:Nat}{xs:Array ae}{x:ae}(hi:vi b s.heap i l k)(hl:ke b s.heap l xs)(hx:xs[k]?=some x)(hQ: ∀h',vi b h' i l (k+1) -> bu i s.heap h' -> Q x {s with heap:=h'}):wpAny (model P w) A (cJ (.ref i)) Q E s:=by
 cases b with
 |true=> exact wpAny_nextOf_list_item hi hl hx hQ
 |false=>
  have hi:s.heap.IsTupleIter i l k:=hi
  have hl:s.heap.IsTuple l xs:=hl
  obtain⟨o,ho,hc,hd⟩:=id hi
  (obtain⟨ol,hol,_,nl,hdl⟩:=hl)
  refine aa (bf (name:=cf "__next__") hi.typeIs slot_tuple_iterator_next (bg slot_tuple_iterator_next hi.typeIs entry_tuple_iterator_next ?_ (args_tuple_iterator_next_1 _)))
  wp_walk using bB ho hd (x:=.ref l) rfl,bB ho hd (x:=.int k 0) rfl,cE hol hdl
  (simp only [cc,hx])
  refine aa (cG ho hd (by simp) (af ⟨_,rfl,af (hQ _ ?_ (.update ..))⟩))
  exact⟨_,bD _ ho (gV (ff hd _)),by rw [Obj.cls_mapFields];exact hc,by rw [ff hd];simp [rawInt]⟩
open PySem.F in
theorem acy{i:Addr}{k:Nat}{xs:Array ae}(hh:A.handled=none)(hi:vi b s.heap i l k)(hl:ke b s.heap l xs)(hx:xs[k]?=none)(hE: ∀h' e,fq i s.heap h' -> (∃o,h'.get? e=some o/\o.cls=.type "StopIteration") -> E (.ref e) {s with heap:=h'}):wpAny (model P w) A (cJ (.ref i)) Q E s:=by
 cases b with
 |true=> exact wpAny_nextOf_list_end hh hi hl hx hE
 |false=>
  have hi:s.heap.IsTupleIter i l k:=hi
  have hl:s.heap.IsTuple l xs:=hl
  obtain⟨o,ho,hc,hd⟩:=id hi
  (obtain⟨ol,hol,_,nl,hdl⟩:=hl)
  refine aa (bf (name:=cf "__next__") hi.typeIs slot_tuple_iterator_next (bg slot_tuple_iterator_next hi.typeIs entry_tuple_iterator_next ?_ (args_tuple_iterator_next_1 _)))
  (have hh1:A.in1.handled=none:=hh)
  wp_walk using bB ho hd (x:=.ref l) rfl,bB ho hd (x:=.int k 0) rfl,cE hol hdl
  (simp only [cc,hx])
  (refine aa (cI (aa (cG ho hd (by simp) ?_))))
  wp_walk
  simp only [raiseNew]
  (refine aa (lX ?_))
  rw [hh1]
  refine aa (af (mS (hE _ _ (((bw ..).extBut.push _).push _) ?_)))
  exact⟨_,ay _ rfl,rfl⟩
end
section
variable{P:aL}{w:aO}{A:aX}{E:ae -> ag -> Prop}{s:ag}
structure ZAt (b1 b2:Bool) (l1 l2 z TI TO i1 i2:Addr) (f0:ae) (k1 k2:Nat) (h:Heap):Prop where
 ap:ZipApart z TI TO i1 i2 l1 l2
 oz:ip h z TI TO f0
 oi:gk h TI (.ref i1) (.ref i2)
 oo: ∃a b,gk h TO a b
 c1:vi b1 h i1 l1 k1
 c2:vi b2 h i2 l2 k2
theorem a1j{b1 b2:Bool}{z TI TO i1 i2 l1 l2:Addr}{k1 k2:Nat}{xs ys:Array ae}{x y:ae}(Z:ZAt b1 b2 l1 l2 z TI TO i1 i2 .none k1 k2 s.heap)(hl1:ke b1 s.heap l1 xs)(hl2:ke b2 s.heap l2 ys)(hx:xs[k1]?=some x)(hy:ys[k2]?=some y)(hQ: ∀h',ZAt b1 b2 l1 l2 z TI TO i1 i2 (rawInt s.heap.objs.size) (k1+1) (k2+1) h' -> gk h' s.heap.objs.size x y ->
   (∀c o,c≠z -> c≠TO -> c≠i1 -> c≠i2 -> s.heap.get? c=some o -> h'.get? c=some o) -> Q (.ref s.heap.objs.size) {s with heap:=h'}):
  wpAny (model P w) A (cC.«zip.__next__» ⟨[.ref z],[]⟩) (λfin s'=> ∃v,fin=.done (.ret v)/\Q v s') E s:=by
 obtain⟨ap,oz,oi,⟨a,b,oo⟩,c1,c2⟩:=Z
 (show wpAny _ _ (field (.ref z) 2 >>=_) _ _ _);refine aa (bB oz rfl (x:=.bool false) rfl ?_)
 (show wpAny _ _ (field (.ref z) 3 >>=_) _ _ _);refine aa (bB oz rfl (x:=.ref TI) rfl (aa (cE oi rfl ?_)))
 (show wpAny _ _ (dU (.ref z)>>=_) _ _ _);refine aa (aa (bB oz rfl (x:=.none) rfl (af ?_)))
 simp only [if_true]
 refine aa (cI (aa (bB oz rfl (x:=.ref TO) rfl (aa (cj oz (by simp) λg1 z1 e1=> aa ?_)))))
 have z1:ip g1 z TI TO .ellipsis:=z1
 (simp only [List.zipIdx_cons,List.zipIdx_nil,g6,lu])
 (refine aa (aa (iO ?_)))
 (show wpAny _ _ (cJ (.ref i1)>>=_) _ _ _);refine aa (aal (c1.to λo=> e1.extBut _ _ ap.i1z) (hl1.to λo=> e1.extBut _ _ ap.l1z) hx λg2 c1' e2=> af ?_)
 have o2:gk g2 TO a b:=e2.extBut _ _ ap.TOi1 (e1.extBut _ _ ap.TOz oo)
 refine aa (cE o2 rfl (aa (hX o2 λg3 o3 e3=> aa (io (af (aa (aa (iO ?_))))))))
 have o3:gk g3 TO x b:=o3
 have k3: ∀c o,c≠z -> c≠i1 -> c≠TO -> s.heap.get? c=some o -> g3.get? c=some o:=λc o a1 a2 a3 e=> e3.extBut _ _ a3 (e2.extBut _ _ a2 (e1.extBut _ _ a1 e))
 (show wpAny _ _ (cJ (.ref i2)>>=_) _ _ _);refine aa (aal (c2.to λo=> k3 _ o ap.i2z ap.i12.symm ap.TOi2.symm) (hl2.to λo=> k3 _ o ap.l2z ap.l2i1 ap.l2TO) hy λg4 c2' e4=> af ?_)
 have o4:gk g4 TO x b:=e4.extBut _ _ ap.TOi2 o3
 refine aa (cE o4 rfl (aa (hX o4 λg5 o5 e5=> aa (io (af (af ?_))))))
 have o5:gk g5 TO x y:=o5
 refine aa (cE o5 rfl (aa (lj ?_)))
 have sz:g5.objs.size=s.heap.objs.size:=by rw [e5.1,e4.1,e3.1,e2.1,e1.1]
 have z5:ip g5 z TI TO .ellipsis:=e5.extBut _ _ ap.TOz.symm (e4.extBut _ _ ap.i2z.symm (e3.extBut _ _ ap.TOz.symm (e2.extBut _ _ ap.i1z.symm z1)))
 have k5: ∀c o,c≠z -> c≠TO -> c≠i1 -> c≠i2 -> s.heap.get? c=some o -> g5.get? c=some o:=λc o a1 a2 a3 a4 e=> e5.extBut _ _ a2 (e4.extBut _ _ a4 (k3 c o a1 a3 a2 e))
 have c15:vi b1 g5 i1 l1 (k1+1):=c1'.to λo e=> e5.extBut _ _ ap.TOi1.symm (e4.extBut _ _ ap.i12 (e3.extBut _ _ ap.TOi1.symm e))
 have c25:vi b2 g5 i2 l2 (k2+1):=c2'.to λo e=> e5.extBut _ _ ap.TOi2.symm e
 (show wpAny _ _ (gl (.ref z) (.ref g5.objs.size)>>=_) _ _ _);refine aa ?_
 have z6:ip (g5.push {cls:=.type "tuple",data:=.seq #[x,y]}) z TI TO .ellipsis:=aj _ z5
 refine aa (cj z6 (by simp) λg7 z7 e7=> ?_)
 have z7:ip g7 z TI TO (rawInt g5.objs.size):=z7
 refine cj z7 (by simp) λg8 z8 e8=> ?_
 have z8:ip g8 z TI TO (rawInt g5.objs.size):=z8
 have up: ∀c o,c≠z -> g5.get? c=some o -> g8.get? c=some o:=λc o a1 e=> e8.extBut _ _ a1 (e7.extBut _ _ a1 (aj _ e))
 have nz:g5.objs.size≠z:=dI (az z5)
 have t8:gk g8 g5.objs.size x y:=e8.extBut _ _ nz (e7.extBut _ _ nz (ay _ rfl))
 rw [sz]at z8 t8
 (refine af ⟨_,rfl,?_⟩)
 show Q (.ref g5.objs.size) _
 rw [sz]
 exact hQ g8 ⟨ap,z8,up _ _ ap.TIz (k5 _ _ ap.TIz ap.TITO ap.TIi1 ap.TIi2 oi),⟨_,_,up _ _ ap.TOz o5⟩,c15.to λo=> up _ o ap.i1z,c25.to λo=> up _ o ap.i2z⟩ t8 λc o a1 a2 a3 a4 e=> up c o a1 (k5 c o a1 a2 a3 a4 e)
theorem axp{b1 b2:Bool}{z TI TO i1 i2 l1 l2:Addr}{k1 k2:Nat}{xs ys:Array ae}{Q:Fin -> ag -> Prop}(hh:A.handled=none)(Z:ZAt b1 b2 l1 l2 z TI TO i1 i2 .none k1 k2 s.heap)
  (hl1:ke b1 s.heap l1 xs) (hl2:ke b2 s.heap l2 ys) (hend:xs[k1]?=none\/ys[k2]?=none)
  (hE: ∀h' e,(∀c o,c≠z -> c≠TO -> c≠i1 -> c≠i2 -> s.heap.get? c=some o -> h'.get? c=some o) -> (∃o,h'.get? e=some o/\o.cls=.type "StopIteration") -> E (.ref e) {s with heap:=h'}):
  wpAny (model P w) A (cC.«zip.__next__» ⟨[.ref z],[]⟩) Q E s:=by
 obtain⟨ap,oz,oi,⟨a,b,oo⟩,c1,c2⟩:=Z
 (show wpAny _ _ (field (.ref z) 2 >>=_) _ _ _);refine aa (bB oz rfl (x:=.bool false) rfl ?_)
 (show wpAny _ _ (field (.ref z) 3 >>=_) _ _ _);refine aa (bB oz rfl (x:=.ref TI) rfl (aa (cE oi rfl ?_)))
 (show wpAny _ _ (dU (.ref z)>>=_) _ _ _);refine aa (aa (bB oz rfl (x:=.none) rfl (af ?_)))
 simp only [if_true]
 refine aa (cI (aa (bB oz rfl (x:=.ref TO) rfl (aa (cj oz (by simp) λg1 z1 e1=> aa ?_)))))
 have z1:ip g1 z TI TO .ellipsis:=z1
 have stop: ∀(g:Heap) (o:Obj) (e:Addr),ip g z TI TO .ellipsis -> g.get? e=some o -> o.cls=.type "StopIteration" -> e≠z:=λg o e hz ho hc q=> by
  subst q;rw [hz]at ho;cases ho;simp at hc
 (simp only [List.zipIdx_cons,List.zipIdx_nil,g6,lu])
 (refine aa (aa (iO ?_)))
 (show wpAny _ _ (cJ (.ref i1)>>=_) _ _ _);cases hx:xs[k1]? with
 |none=>
  refine aa (acy hh (c1.to λo=> e1.extBut _ _ ap.i1z) (hl1.to λo=> e1.extBut _ _ ap.l1z) hx λg2 e e2 ⟨oe,he,ce⟩=> ?_)
  have z2:ip g2 z TI TO .ellipsis:=e2 _ _ ap.i1z.symm z1
  exact cj z2 (by simp) λg3 _ e3=> hE g3 e (λc o a1 _ a3 _ q=> e3.extBut _ _ a1 (e2 _ _ a3 (e1.extBut _ _ a1 q))) ⟨oe,e3.extBut _ _ (stop _ _ _ z2 he ce) he,ce⟩
 |some x=>
  have hy:ys[k2]?=none:=hend.elim (λh=> by rw [hx]at h;cases h) id
  refine aa (aal (c1.to λo=> e1.extBut _ _ ap.i1z) (hl1.to λo=> e1.extBut _ _ ap.l1z) hx λg2 c1' e2=> af ?_)
  have o2:gk g2 TO a b:=e2.extBut _ _ ap.TOi1 (e1.extBut _ _ ap.TOz oo)
  refine aa (cE o2 rfl (aa (hX o2 λg3 o3 e3=> aa (io (af (aa (aa (iO ?_))))))))
  have k3: ∀c o,c≠z -> c≠i1 -> c≠TO -> s.heap.get? c=some o -> g3.get? c=some o:=λc o a1 a2 a3 e=> e3.extBut _ _ a3 (e2.extBut _ _ a2 (e1.extBut _ _ a1 e))
  (show wpAny _ _ (cJ (.ref i2)>>=_) _ _ _);refine aa (acy hh (c2.to λo=> k3 _ o ap.i2z ap.i12.symm ap.TOi2.symm) (hl2.to λo=> k3 _ o ap.l2z ap.l2i1 ap.l2TO) hy λg4 e e4 ⟨oe,he,ce⟩=> ?_)
  have z4:ip g4 z TI TO .ellipsis:=e4 _ _ ap.i2z.symm (e3.extBut _ _ ap.TOz.symm (e2.extBut _ _ ap.i1z.symm z1))
  exact cj z4 (by simp) λg5 _ e5=> hE g5 e (λc o a1 a2 a3 a4 q=> e5.extBut _ _ a1 (e4 _ _ a4 (k3 c o a1 a3 a2 q))) ⟨oe,e5.extBut _ _ (stop _ _ _ z4 he ce) he,ce⟩
theorem ayd{b1 b2:Bool}{z TI TO i1 i2 l1 l2:Addr}{k1 k2:Nat}{xs ys:Array ae}{x y:ae}{Q:Option ae -> ag -> Prop}(Z:ZAt b1 b2 l1 l2 z TI TO i1 i2 .none k1 k2 s.heap)
  (hl1:ke b1 s.heap l1 xs) (hl2:ke b2 s.heap l2 ys) (hx:xs[k1]?=some x) (hy:ys[k2]?=some y)
  (hQ: ∀h',ZAt b1 b2 l1 l2 z TI TO i1 i2 (rawInt s.heap.objs.size) (k1+1) (k2+1) h' -> gk h' s.heap.objs.size x y ->
   (∀c o,c≠z -> c≠TO -> c≠i1 -> c≠i2 -> s.heap.get? c=some o -> h'.get? c=some o) -> Q (some (.ref s.heap.objs.size)) {s with heap:=h'}):
  wpAny (model P w) A (pyNext (.ref z)) Q E s:=
 have hT:s.TypeIs (.ref z) "zip":=⟨_,Z.oz,rfl⟩
 aa (dX (bf (name:=cf "__next__") hT hZ (bg hZ hT F.entry_zip_next (a1j Z hl1 hl2 hx hy λh' a1 a2 a3=> af (hQ h' a1 a2 a3)) (F.args_zip_next_1 _))))
theorem auq{b1 b2:Bool}{z TI TO i1 i2 l1 l2:Addr}{k1 k2:Nat}{xs ys:Array ae}{Q:Option ae -> ag -> Prop}(hh:A.handled=none)(Z:ZAt b1 b2 l1 l2 z TI TO i1 i2 .none k1 k2 s.heap)
  (hl1:ke b1 s.heap l1 xs) (hl2:ke b2 s.heap l2 ys) (hend:xs[k1]?=none\/ys[k2]?=none)
  (hQ: ∀h',(∀c o,c≠z -> c≠TO -> c≠i1 -> c≠i2 -> s.heap.get? c=some o -> h'.get? c=some o) -> Q none {s with heap:=h'}):wpAny (model P w) A (pyNext (.ref z)) Q E s:=
 have hT:s.TypeIs (.ref z) "zip":=⟨_,Z.oz,rfl⟩
 aa (dX (bf (name:=cf "__next__") hT hZ (bg hZ hT F.entry_zip_next (axp hh Z hl1 hl2 hend λh' e hk ⟨o,ho,hc⟩=>
  aa (eF (T:="StopIteration") (b:=true) ⟨o,ho,hc⟩ il (af (hQ _ hk)))) (F.args_zip_next_1 _))))
end
def SqB(K:am)(b:Bool)(H:Hp)(l:Addr)(xs:List V):Prop:=if b=true then SqL K H l xs else SqT K H l xs
theorem Inv.seqB{s:ag}{xs:List V}(I:Inv X pins σ H s)(q:SqB X.K b H l xs): ∃its,ji xs its/\ke b s.heap l its.toArray:=by
 cases b with
 |true=> obtain⟨its,rv,p,_⟩:=I.list q;exact⟨its,rv,p.isList⟩
 |false=> obtain⟨its,rv,p,_⟩:=I.tuple q;exact⟨its,rv,p⟩
noncomputable def a2k(K:am)(b1 b2:Bool)(l1 l2:Addr):It:=
 ⟨λi H=> ∃xs ys x y,SqB K b1 H l1 xs/\SqB K b2 H l2 ys/\xs[i]?=some x/\ys[i]?=some y,
   λi H v H'=> ∃T,v=.ref T/\ ∀xs ys,SqB K b1 H l1 xs -> SqB K b2 H l2 ys -> ∃x y,xs[i]?=some x/\ys[i]?=some y/\New H T (.tup [x,y]) H',
   λi H=> ∃xs ys,SqB K b1 H l1 xs/\SqB K b2 H l2 ys/\(xs.length <=i\/ys.length <=i)⟩
theorem Inv.seqB_inj{s:ag}{xs ys:List V}(I:Inv X pins σ H s)(p:SqB X.K b H l xs)(q:SqB X.K b H l ys):xs=ys:=by
 cases b with
 |true=> exact I.list_inj p q
 |false=> exact I.tuple_inj p q
theorem arb{x1:Nat}{b1 b2:Bool}(l1 l2 z TI TO i1 i2:Addr):Turn P w K (.Tuple es x1 pos) (a2k K b1 b2 l1 l2) [z,TI,TO,i1,i2] z (λi h=> ZAt b1 b2 l1 l2 z TI TO i1 i2 .none i i h) where
 mem:=by simp
 obj:=λi h ⟨_,hz,hTI,⟨a,c,hTO⟩,q1,q2⟩ b hb=> by
  obtain⟨o1,e1,v1,d1⟩:=q1.obj
  obtain⟨o2,e2,v2,d2⟩:=q2.obj
  (simp only [aA,bM,or_false]at hb)
  rcases hb with rfl|rfl|rfl|rfl|rfl
  ·exact⟨_,hz,λv y=> by cases y⟩
  ·exact⟨_,hTI,λv y=> by cases y⟩
  ·exact⟨_,hTO,λv y=> by cases y⟩
  ·exact⟨_,e1,λv y=> by rw [d1]at y;cases y⟩
  ·exact⟨_,e2,λv y=> by rw [d2]at y;cases y⟩
 keep:=λi h h' ⟨D,hz,hTI,⟨a,c,hTO⟩,q1,q2⟩ k=>
  ⟨D,k z (by simp) _ hz,k TI (by simp) _ hTI,⟨a,c,k TO (by simp) _ hTO⟩,q1.to λo e=> k i1 (by simp) o e,q2.to λo e=> k i2 (by simp) o e⟩
 item:=by
  intro X hP hw hK hc i pins s σ H E I hf st hg
  subst hP hw hK
  obtain⟨xs,ys,x,y,q1,q2,hx,hy⟩:=hg
  obtain⟨its1,rv1,p1⟩:=I.seqB q1
  obtain⟨its2,rv2,p2⟩:=I.seqB q2
  obtain⟨u1,hu1,ru1⟩:=rv1.get hx
  obtain⟨u2,hu2,ru2⟩:=rv2.get hy
  refine ayd st p1 p2 (x:=u1) (y:=u2) (by simpa using hu1) (by simpa using hu2) λh' Z a5 k=> ?_
  refine⟨_,rfl,wpAny_letOwnedTupleGo_zip (s:={s with heap:=h'}) Z.oz λh2' hz' sb=> ?_⟩
  have lt: ∀b∈ [z,TI,TO,i1,i2],b < s.heap.objs.size:=λb hb=> by
   obtain⟨_,hz,hTI,⟨_,_,hTO⟩,q1,q2⟩:=st
   obtain⟨o1,e1,_⟩:=q1.obj
   obtain⟨o2,e2,_⟩:=q2.obj
   (simp only [aA,bM,or_false]at hb)
   rcases hb with rfl|rfl|rfl|rfl|rfl
   ·exact az hz
   ·exact az hTI
   ·exact az hTO
   ·exact az e1
   ·exact az e2
  have I1:Inv X pins σ (upd H s.heap.objs.size (.tup [x,y])) {s with heap:=s.heap.push {cls:=.type "tuple",data:=.seq #[u1,u2]},toks:=s.toks}:=
   I.laid (λb u e=> aj _ e) (av _) ⟨by show 2 <=sizeLine;decide,[u1,u2],.cons ru1 (.cons ru2 .nil),⟨_,ay _ rfl⟩⟩
  have nT: ∀b∈ [z,TI,TO,i1,i2],upd H s.heap.objs.size (.tup [x,y]) b=none:=λb hb=> by
   rw [j4 (aJ (lt b hb))];exact (hf b hb).1
  have D:=Z.ap
  have I2:=I1.turnedL (h':=h2') (t':=s.toks) (ch:=[z,TI,TO,i1,i2]) (λb o hb e=> by
   have hbz:b≠z:=λy=> hb (by simp [y])
   rw [sb.2 b hbz]
   by_cases hT:b=s.heap.objs.size
   ·subst hT
    rw [ay _ rfl]at e
    cases e
    exact a5
   ·rw [d8 _ _ _ hT]at e
    exact k b o hbz (λy=> hb (by simp [y])) (λy=> hb (by simp [y])) (λy=> hb (by simp [y])) e) λb hb=> ⟨nT b hb,(hf b hb).2⟩
  obtain⟨_,_,oi,⟨_,_,oo⟩,c1,c2⟩:=Z
  refine⟨.ref s.heap.objs.size,_,I2,rfl,⟨_,rfl,λxs' ys' q1' q2'=> ?_⟩,⟨D,hz',sb.extBut _ _ D.TIz oi,⟨_,_,sb.extBut _ _ D.TOz oo⟩,c1.to λo=> sb.extBut _ _ D.i1z,c2.to λo=> sb.extBut _ _ D.i2z⟩,nT⟩
  rw [I.seqB_inj q1' q1,I.seqB_inj q2' q2]
  exact⟨x,y,hx,hy,I.fresh,rfl⟩
 done:=by
  intro X hP hw hK hc i pins s σ H E I hf st hg
  subst hP hw hK
  obtain⟨xs,ys,q1,q2,hx⟩:=hg
  obtain⟨its1,rv1,p1⟩:=I.seqB q1
  obtain⟨its2,rv2,p2⟩:=I.seqB q2
  have l1':=rv1.length
  have l2':=rv2.length
  refine auq (I.ok.hd hc) st p1 p2 ?_ λh' k=> ⟨rfl,I.turnedL (t':=s.toks) (ch:=[z,TI,TO,i1,i2]) (λb o hb e=> k b o (λy=> hb (by simp [y])) (λy=> hb (by simp [y])) (λy=> hb (by simp [y])) (λy=> hb (by simp [y])) e) hf⟩
  rcases hx with hx|hx
  ·exact .inl (by simp;lia)
  ·exact .inr (by simp;lia)
 self:=λ_ _ _ _ _ st h=> wpAny_pyIter_zip st.oz h
noncomputable def ad3(b:Bool):String:=if b=true then "list_iterator" else "tuple_iterator"
section
variable{P:aL}{w:aO}{A:aX}{E:ae -> ag -> Prop}{s:ag}
theorem agr{xs:Array ae}(h:ke b s.heap l xs)(hQ:Q (.ref s.heap.objs.size) {s with heap:=s.heap.push {cls:=.type (ad3 b),data:=.fields #[.ref l,.int 0 0]}}):wpAny (model P w) A (pyIter (.ref l)) Q E s:=by
 cases b with
 |true=> exact d7 h hQ
 |false=> exact gg h hQ
theorem aum{i:Addr}(e:h.get? i=some {cls:=.type (ad3 b),data:=.fields #[.ref l,.int 0 0]}):vi b h i l 0:=by
 cases b with
 |true=> exact⟨_,e,rfl,rfl⟩
 |false=> exact⟨_,e,rfl,rfl⟩
def zH(h:Heap)(b1 b2:Bool)(l1 l2:Addr):Heap:=
 ((((h.push {cls:=.type (ad3 b1),data:=.fields #[.ref l1,.int 0 0]}).push {cls:=.type (ad3 b2),data:=.fields #[.ref l2,.int 0 0]}).push {cls:=.type "tuple",data:=.seq #[.ref h.objs.size,.ref (h.objs.size+1)]}).push {cls:=.type "tuple",data:=.seq #[.none,.none]}).push
  {cls:=.type "zip",data:=.fields #[.none,.bool false,.bool false,.ref (h.objs.size+2),.ref (h.objs.size+3)]}
theorem anm(b1 b2:Bool)(l1 l2:Addr)(xs ys:Array ae):
  Meets (cC.«zip.__new__» ⟨[.type "zip",.ref l1,.ref l2],[]⟩) (λ_ R s=> ke b1 s.heap l1 xs/\ke b2 s.heap l2 ys/\R (.ok (.ret (.ref (s.heap.objs.size+4)))) {s with heap:=zH s.heap b1 b2 l1 l2}):=
 .of_wp λprog w A R s h=> by
  obtain⟨hp,g,d,tk,os⟩:=s;obtain⟨h1,h2,h⟩:=h
  have hsub:=sub_zip
  have L1:ke b1 (mX ⟨hp,g,d,tk,os⟩) l1 xs:=h1
  have L2:ke b2 (mX ⟨hp.push {cls:=.type (ad3 b1),data:=.fields #[.ref l1,.int 0 0]},g,d,tk,os⟩) l2 ys:=h2.to λo=> aj _
  wp_walk using agr L1,agr L2
  refine⟨_,rfl,?_⟩
  simp only [aV]
  exact h
theorem ar2{b1 b2:Bool}{l1 l2:Addr}{xs ys:Array ae}(h1:ke b1 s.heap l1 xs)(h2:ke b2 s.heap l2 ys)(h: ∀h',ZAt b1 b2 l1 l2 (s.heap.objs.size+4) (s.heap.objs.size+2) (s.heap.objs.size+3) s.heap.objs.size (s.heap.objs.size+1) .none 0 0 h' -> (∀c o,s.heap.get? c=some o -> h'.get? c=some o) -> Q (.ref (s.heap.objs.size+4)) {s with heap:=h'}):
  wpAny (model P w) A (call (.type "zip") [.ref l1,.ref l2]) Q E s:=by
 refine callType_new F.called_zip (by decide) (F.typeCall_zip_2 _ _) (F.newCall_zip_2 _ _) (λobj=> F.args_object_init_3 obj _ _) F.entry_zip_new (anm b1 b2 l1 l2 xs ys) ⟨h1,h2,?_⟩
 have q1:=h1.lt
 have q2:=h2.lt
 have up: ∀(g:Heap) (o:Obj) (n:Nat),n=g.objs.size -> o.isFreed=false -> (g.push o).get? n=some o:=λg o n e hf=> by subst e;exact ay _ hf
 have sz: ∀(g:Heap) (o:Obj) (n:Nat),g.objs.size=n -> (g.push o).objs.size=n+1:=λg o n e=> by rw [aV,e]
 have g5:ip (zH s.heap b1 b2 l1 l2) (s.heap.objs.size+4) (s.heap.objs.size+2) (s.heap.objs.size+3) .none:=up _ _ _ (by simp only [aV]) rfl
 have g4:gk (zH s.heap b1 b2 l1 l2) (s.heap.objs.size+3) .none .none:=aj _ (up _ _ _ (by simp only [aV]) rfl)
 have g3:gk (zH s.heap b1 b2 l1 l2) (s.heap.objs.size+2) (.ref s.heap.objs.size) (.ref (s.heap.objs.size+1)):=aj _ (aj _ (up _ _ _ (by simp only [aV]) rfl))
 have g2:(zH s.heap b1 b2 l1 l2).get? (s.heap.objs.size+1)=some {cls:=.type (ad3 b2),data:=.fields #[.ref l2,.int 0 0]}:=aj _ (aj _ (aj _ (up _ _ _ (by simp only [aV]) rfl)))
 have g1:(zH s.heap b1 b2 l1 l2).get? s.heap.objs.size=some {cls:=.type (ad3 b1),data:=.fields #[.ref l1,.int 0 0]}:=aj _ (aj _ (aj _ (aj _ (up _ _ _ rfl rfl))))
 refine⟨⟨_,g5,rfl⟩,h _ ⟨?_,g5,g3,⟨_,_,g4⟩,aum g1,aum g2⟩ λc o x=> aj _ (aj _ (aj _ (aj _ (aj _ x))))⟩
 constructor <;> (unfold Addr at*;lia)
end
def a3s(K:am)(ta:TA):TI:=λσ H R=> ta σ H λvs H1=> ∃l1 l2 xs ys b1 b2,vs=[.ref l1,.ref l2]/\SqB K b1 H1 l1 xs/\SqB K b2 H1 l2 ys/\R (a2k K b1 b2 l1 l2) H1
theorem awz{x1:Nat}{a b:Expr}{ta:TA}{p:Pos}(hg:Gl X "zip")(hm:X.mg "zip"=none)(ha:PA X [a,b] ta)(hs:starEach [a,b] X.env=[(false,eval a X.env),(false,eval b X.env)]:=by rfl)(hs2:starEach [b] X.env=[(false,eval b X.env)]:=by rfl):
  PI X (.Tuple es x1 tp) (.Call (.Name "zip" p) [a,b] [] pos) (a3s X.K ta):=by
 intro pins s σ H R I h
 refine Call_ (acg I hg hm a41 (dJ (thn (ha pos pins s σ H _ I h) λus s1 ⟨vs,H1,I1,r1,q1⟩=> ?_) (by rw [hs,hs2]) (by rw [hs2];rfl)))
 obtain⟨l1,l2,xs,ys,b1,b2,e,q1,q2,q⟩:=q1
 subst e
 cases r1 with
 | cons r rr=>
  cases rr with
  | cons r' rr=>
   cases rr
   cases r
   cases r'
   obtain⟨its1,rv1,p1⟩:=I1.seqB q1
   obtain⟨its2,rv2,p2⟩:=I1.seqB q2
   refine ar2 p1 p2 λh' Z k=> wpAny_pyIter_zip (s:={s1 with heap:=h'}) Z.oz ?_
   refine⟨s1.heap.objs.size+4,_,_,_,H1,rfl,I1.kept (t':=s1.toks) k,arb l1 l2 _ _ _ _ _,Z,λb hb=> ?_,q⟩
   have hb':s1.heap.objs.size <=b:=by
    (simp only [aA,bM,or_false]at hb)
    rcases hb with rfl|rfl|rfl|rfl|rfl <;> (unfold Addr at*;lia)
   exact I1.fpOk hb' (I1.hok.fresh hb')
end L2
namespace PF
open PySem PySem.Spec
open L2
variable[XW]
noncomputable def sqD:D -> Option (Bool×List ac)
 |.lst xs=> some (true,xs)
 |.tup xs=> some (false,xs)
 |_=> none
def aj4(ds:List D)(s:S):R Wk:=match ds with
 |[a,b]=> match sqD a,sqD b with
  |some (_,xs),some (_,ys)=>.ok ((xs.zip ys).map λp=> D.tup [p.1,p.2],none) s
  |_,_=>.bad
 |_=>.bad
def ap2(f:FA):FI:=λρ s=> (f ρ s).bind aj4
theorem ahn{d:D}(r:RD K as H v d)(e:sqD d=some (b,xs)): ∃l vs,v=.ref l/\(∀as2 H2,Step0 as H as2 H2 -> SqB K b H2 l vs)/\TDs as H vs xs:=by
 cases d with
 | da d=>
  cases d with
  |list zs=>
   cases e
   obtain⟨l,vs,rfl,n,q,t⟩:=r.lst_inv
   exact⟨l,vs,rfl,λas2 H2 st=> SqL.of (st.keep _ _ n q),t⟩
  | tuple zs=>
   cases e
   cases r with
   |da t=> cases t with
    |tup n q t=> exact⟨_,_,rfl,λas2 H2 st=> SqT.of (st.keep _ _ n q),t⟩
  |_=> cases e
 |_=> cases e
theorem axo{x1:Nat}{a b:Expr}{f:FA}{p:Pos}(hm:X.mg "zip"=none)(h:RA X [a,b] f)(hg:Gl X "zip":=by rfl)(hs:starEach [a,b] X.env=[(false,eval a X.env),(false,eval b X.env)]:=by rfl)(hs2:starEach [b] X.env=[(false,eval b X.env)]:=by rfl):
  RI X (.Tuple es x1 tp) (.Call (.Name "zip" p) [a,b] [] pos) (ap2 f):=by
 obtain⟨t,pa,ra⟩:=h.ex
 refine⟨_,awz hg hm pa hs hs2,λas σ H ρ s Q rl en h=> ?_⟩
 refine ra as σ H ρ s _ rl en (Dn.bind h λds s1 as1 H1 vs st1 rl1 r1 h1=> ?_)
 unfold aj4 at h1
 split at h1
 ·split at h1
  ·rename_i da db _ xd bx _ yd ea eb
   obtain⟨v,w,rfl,rv,rw⟩:=r1.two
   obtain⟨l1,xs,rfl,k1,t1⟩:=ahn rv ea
   obtain⟨l2,ys,rfl,k2,t2⟩:=ahn rw eb
   refine⟨l1,l2,xs,ys,_,_,rfl,k1 as1 H1 (Step.refl _ _).toStep0,k2 as1 H1 (Step.refl _ _).toStep0,Dn.now (Q:=Q) h1 rl1 ?_⟩
   intro as2 H2 s2 st2 rl2 _ i
   have sq1:=k1 as2 H2 st2
   have sq2:=k2 as2 H2 st2
   have u1:=t1.mono0 st2
   have u2:=t2.mono0 st2
   refine⟨λhl=> ⟨xs,ys,sq1,sq2,?_⟩,λd hd=> ?_⟩
   ·simp only [ak,List.length_zip]at hl
    rw [u1.length,u2.length]
    lia
   ·rw [aN]at hd
    cases q:(List.zip _ _)[i]? with
    |none=> rw [q]at hd;cases hd
    |some pr=>
     rw [q]at hd
     cases hd
     rw [List.getElem?_zip_eq_some]at q
     obtain⟨x,hx,rx⟩:=u1.get q.1
     obtain⟨y,hy,ry⟩:=u2.get q.2
     refine⟨⟨xs,ys,x,y,sq1,sq2,hx,hy⟩,λvv H3 hv=> ?_⟩
     obtain⟨T,rfl,hT⟩:=hv
     obtain⟨x',y',hx',hy',nw⟩:=hT xs ys sq1 sq2
     rw [hx]at hx';cases hx'
     rw [hy]at hy';cases hy'
     exact⟨ju nw,rl2.new nw,.da (.tup (λz=> rl2.has z nw.no) nw.at (.cons (rx.mono (ju nw)) (.cons (ry.mono (ju nw)) .nil)))⟩
  ·exact h1.elim
 ·exact h1.elim
end PF
namespace PF
open PySem PySem.Spec PyProof.Rows PyProof.Rows.KTD
open L2
variable[XW]
end PF
namespace PF
open PySem PySem.Spec
open L2
variable[XW]
end PF
namespace PF
open PySem PySem.Spec
open L2
variable[XW]
end PF
namespace PF
open PySem PySem.Spec
open L2
variable[XW]
end PF
namespace PF
open PySem PySem.Spec
open L2
variable[XW]
end PF
namespace PF
open PySem PySem.Spec
open L2
variable[XW]
noncomputable def anb(dx dy:D)(s:S):R D:=match dx,dy with
 |.int i,.int j=>.ok (.bl (decide (i <=j))) s
 |.str a,.str b=>.ok (.bl (!decide (b.cps.toList < a.cps.toList))) s
 |_,_=>.bad
theorem a4c:Op2 X (aS .LtE) anb:=qz λpins sh σ H as s x y dx dy v u Q I rl r1 r2 rx ry h=> by
 unfold anb at h
 split at h
 ·rename_i i j
  cases r1.int_inv;cases r2.int_inv
  exact aw2 pins sh σ H _ _ v u Q I rx ry ⟨i,j,rfl,rfl,Dn.now (Q:=Q) h rl (.da (.bl _))⟩
 ·rename_i a b
  cases r1.str_inv;cases r2.str_inv
  obtain⟨t,rfl⟩:=rx
  obtain⟨t',rfl⟩:=ry
  exact PySem.P.le_str ⟨.bl _,H,I,rfl,Dn.now (Q:=Q) h rl (.da (.bl _))⟩
 ·exact h.elim
theorem ati{i j:Str}:anb (.str i) (.str j) s=.ok (.bl (!decide (j.cps.toList < i.cps.toList))) s:=(rfl)
end PF
namespace PF
open PySem PySem.Spec L2
theorem u70{k:Nat}(hr:Room k A):A.units+70 < cLine:=by have:=hr.un;lia
section
variable{s:S}{m:Bool}{n:Nat}{x y:Str}{b:Bool}{xs ys:List ac}{ds es:List D}{d e v o:D}{ρ:En}{kvs:List (ac×D)}{k:ac}
def a0b(g:D -> D -> D -> S -> R D)(fo fi:FE)(ρ:En)(v:D)(s:S):R Fl:=(fo ρ s).bind λo s2=> (fi ρ s2).bind λi s3=> (g o i v s3).bind λ_ s4=>.ok (.nx ρ) s4
def a0n(g:D -> D -> D -> S -> R D)(fi:FE)(ρ:En)(v o:D)(s:S):R Fl:=(fi ρ s).bind λi s3=> (g o i v s3).bind λ_ s4=>.ok (.nx ρ) s4
def a0d(g:D -> D -> D -> S -> R D)(ρ:En)(v o i:D)(s:S):R Fl:=(g o i v s).bind λ_ s4=>.ok (.nx ρ) s4
theorem bab{g:D -> D -> D -> S -> R D}{fo fi:FE}:yj g fv fo fi ρ s=(fv ρ s).bind (a0b g fo fi ρ):=(rfl)
theorem a9k{g:D -> D -> D -> S -> R D}{fo fi:FE}:a0b g fo fi ρ v s=(fo ρ s).bind (a0n g fi ρ v):=(rfl)
theorem a9g{g:D -> D -> D -> S -> R D}{fi:FE}:a0n g fi ρ v o s=(fi ρ s).bind (a0d g ρ v o):=(rfl)
theorem a9f{g:D -> D -> D -> S -> R D}:a0d g ρ v o d s=(g o d v s).bind (aot ρ):=(rfl)
theorem acl{α:Type}{f:Nat -> List (ac×D) -> R α}(h:s[n]?=some (.dct kvs)):onD (.ref n) s f=f n kvs:=by
 show (match s[n]? with|some (O.dct kvs)=> f n kvs|_=>.bad)=_
 rw [h]
theorem ad6(h:s[n]?=some (.dct kvs))(hk:kn kvs k=true)(hl:kvs.length < 16777216):xu (.ref n) (.da k) v s=.ok .non (s.set n (.dct (kj kvs k v))):=by
 have e:xu (.ref n) (.da k) v s=v8 (.ref n) (.da k) v s:=by unfold xu;simp only [h]
 rw [e]
 unfold v8
 rw [acl h]
 exact if_pos ⟨hk,by rw [ko];exact hl⟩
theorem an5(h:s[n]?=some (.dct kvs))(hk:kn kvs k=true):qd false (.da k) (.ref n) s=.ok (.bl (j5 kvs k).isSome) s:=by
 have e:qd false (.da k) (.ref n) s=ahe false (.da k) (.ref n) s:=by unfold qd;simp only [h]
 rw [e]
 unfold ahe
 rw [acl h]
 exact if_pos hk
theorem ad5(h:s[n]?=some (.dct kvs))(hk:kn kvs k=true):qd true (.da k) (.ref n) s=.ok (.bl (!(j5 kvs k).isSome)) s:=by
 have e:qd true (.da k) (.ref n) s=ahe true (.da k) (.ref n) s:=by unfold qd;simp only [h]
 rw [e]
 unfold ahe
 rw [acl h]
 exact if_pos hk
theorem aeq(h:s[n]?=some (.dct kvs))(hk:kn kvs k=true)(hg:j5 kvs k=some d):xg (.ref n) (.da k) s=.ok d s:=by
 have e:xg (.ref n) (.da k) s=anv (.ref n) (.da k) s:=by unfold xg;simp only [h]
 rw [e]
 unfold anv
 rw [acl h]
 show (if kn kvs k=true then (match j5 kvs k with|some v=> R.ok v s|none=>.bad) else .bad)=_
 rw [if_pos hk,hg]
theorem ak4(h:s[n]?=some (.dct kvs)):ajb s (.ref n)=some kvs:=by
 show (match s[n]? with|some (O.dct kvs)=> some kvs|_=> none)=_
 rw [h]
theorem a8w:ap1 ρ s=.ok (.ref s.length) (s++ [.dct []]):=(rfl)
def kDp(n:Nat)(ps:List (D×D))(s:S):R D:=(putAll n ps s).bind λ_ s2=>.ok (.ref n) s2
def kP1(fv:FE)(r:FP)(ρ:En)(k:D)(s:S):R (List (D×D)):=(fv ρ s).bind λv s2=> (r ρ s2).bind λps s3=>.ok ((k,v)::ps) s3
def kP2(r:FP)(ρ:En)(k v:D)(s:S):R (List (D×D)):=(r ρ s).bind λps s3=>.ok ((k,v)::ps) s3
noncomputable def kP3(k v:D)(ps:List (D×D))(s:S):R (List (D×D)):=.ok ((k,v)::ps) s
theorem a81{f:FP}:aoh f ρ s=(f ρ (s++ [.dct []])).bind (kDp s.length):=(rfl)
theorem a7a{fk:FE}{r:FP}:adu fk fv r ρ s=(fk ρ s).bind (kP1 fv r ρ):=(rfl)
theorem ba2{r:FP}:kP1 fv r ρ d s=(fv ρ s).bind (kP2 r ρ d):=(rfl)
theorem ba4{r:FP}:kP2 r ρ d e s=(r ρ s).bind (kP3 d e):=(rfl)
theorem bah{ps:List (D×D)}:kP3 d e ps s=.ok ((d,e)::ps) s:=(rfl)
theorem a89:aov ρ s=.ok [] s:=(rfl)
theorem a7e{f:FA}:ap2 f ρ s=(f ρ s).bind aj4:=(rfl)
theorem a6m:aj4 [.tup xs,.tup ys] s=.ok ((xs.zip ys).map λp=> D.tup [p.1,p.2],none) s:=(rfl)
theorem aop(h:s[n]?=some (.lst (xs.map D.da)))(h1:xs.length < 64)(h2:j9 xs=true)(h3:xs.all okD=true):ab4 false [.ref n] s=.ok (.lst (kr xs)) s:=by
 show (match (match s[n]? with|some (O.lst ds)=> some ds|_=> none).bind j3 with|some xs=> if xs.length < 64/\j9 xs=true/\xs.all okD=true then kh false ((kr xs).map D.da) s else .bad|none=>.bad)=_
 rw [h]
 show (match j3 (xs.map D.da) with|some xs=> if xs.length < 64/\j9 xs=true/\xs.all okD=true then kh false ((kr xs).map D.da) s else .bad|none=>.bad)=_
 rw [qh]
 show (if xs.length < 64/\j9 xs=true/\xs.all okD=true then kh false ((kr xs).map D.da) s else .bad)=_
 rw [if_pos ⟨h1,h2,h3⟩]
 exact ag2
theorem aqy(h:s[n]?=some (.lst (xs.map D.da))):xx [.ref n] s=.ok (.tup xs) s:=by
 show (match (match s[n]? with|some (O.lst ds)=> some ds|_=> none) with|some xs=> ah5 xs s|none=>.bad)=_
 rw [h]
 show (match j3 (xs.map D.da) with|some xs=> R.ok (D.tup xs) s|none=>.bad)=_
 rw [qh]
theorem axr(h:s[n]?=some (.lst (xs.map D.da))):toP s (.ref n)=some (.list xs):=by
 show (match s[n]? with|some (O.lst ds)=> (j3 ds).map kN|_=> none)=_
 rw [h]
 show (j3 (xs.map D.da)).map kN=_
 rw [qh];rfl
end
noncomputable def ao2(ks:List ac)(k:ac):List ac:=if k∈ks then ks else ks++ [k]
theorem ak8{α:Type}(kvs:List (ac×α))(k:ac)(v:α):(kj kvs k v).map (·.1)=ao2 (kvs.map (·.1)) k:=by
 unfold kj ao2
 have e:(kvs.any λe=> decide (e.1=k))=decide (k∈kvs.map (·.1)):=by
  rw [bh,dG,decide_eq_true_eq,aH]
  constructor
  ·rintro⟨x,hx,h⟩;exact⟨x,hx,of_decide_eq_true h⟩
  ·rintro⟨x,hx,h⟩;exact⟨x,hx,decide_eq_true h⟩
 rw [e]
 by_cases c:k∈kvs.map (·.1)
 ·rw [if_pos (decide_eq_true c),if_pos c,bj]
  (refine ic λx _=> ?_)
  show (if x.1=k then (x.1,v) else x).1=x.1
  split <;> rfl
 ·rw [if_neg (λh=> c (of_decide_eq_true h)),if_neg c,c6];rfl
theorem ams{α:Type}(kvs:List (ac×α))(k j:ac)(v:α):j5 (kj kvs k v) j=if k=j then some v else j5 kvs j:=by
 unfold kj
 split
 ·rename_i c
  induction kvs with
  |nil=> simp at c
  | cons x r ih=>
   by_cases hx:x.1=k
   ·by_cases hj:k=j
    ·subst hj
     rw [if_pos rfl]
     simp [j5,hx]
    ·have hxj:x.1≠j:=λz=> hj (hx.symm.trans z)
     rw [if_neg hj]
     by_cases hr:(r.any λe=> decide (e.1=k))=true
     ·have:=ih hr
      rw [if_neg hj]at this
      simp only [aK,if_pos hx]
      unfold j5 at this⊢
      rw [c8 (by simpa using hxj),c8 (by simpa using hxj)]
      exact this
     ·have e2:r.map (λe=> if e.1=k then (e.1,v) else e)=r:=by
       refine (ic λy hy=> ?_).trans (List.map_id _)
       have: ¬y.1=k:=λz=> hr (dG.mpr ⟨y,hy,decide_eq_true z⟩)
       rw [if_neg this];rfl
      simp only [aK,if_pos hx,e2]
      unfold j5
      rw [c8 (by simpa using hxj),c8 (by simpa using hxj)]
   ·have hr:(r.any λe=> decide (e.1=k))=true:=by
     rw [dw,decide_eq_false hx,Bool.false_or]at c;exact c
    have:=ih hr
    simp only [aK,if_neg hx]
    unfold j5 at this⊢
    by_cases hxj:x.1=j
    ·have hkj: ¬k=j:=λz=> hx (hxj.trans z.symm)
     rw [if_neg hkj,kQ (by simpa using hxj),kQ (by simpa using hxj)]
    ·rw [c8 (by simpa using hxj),c8 (by simpa using hxj)]
     exact this
 ·rename_i c
  have hn: ∀y∈kvs,y.1≠k:=λy hy z=> c (dG.mpr ⟨y,hy,decide_eq_true z⟩)
  unfold j5
  rw [List.find?_append]
  by_cases hj:k=j
  ·subst hj
   rw [if_pos rfl,List.find?_eq_none.mpr λy hy=> by simpa using hn y hy]
   simp
  ·rw [if_neg hj]
   cases e:kvs.find? λe=> decide (e.1=j) with
   |some y=> rfl
   |none=> simp [hj]
theorem xi{g:Tg}{ft:FT}{fe:FE}{ρ0:En}{all:List D}{s:S}{α:Type}(c:α -> D)(p:α -> Bool)(f:α -> ac): ∀(l:List α),(∀a∈l,∃ρ1,j6 g (c a) ρ0=some ρ1/\ft ρ1 s=.ok (p a) s/\(p a=true -> fe ρ1 s=.ok (.da (f a)) s)) ->
  kq g ft fe ρ0 (all,none) (l.map c) s=.ok (((l.filter p).map f).map D.da) s
 |[],_=> rfl
 | a::r,h=> by
  obtain⟨ρ1,e,e1,e2⟩:=h a au
  have ih:=xi (all:=all) c p f r λb hb=> h b (aw _ hb)
  rw [aK,ahz e,e1,R.calm_ok,R.bind_ok]
  cases hp:p a with
  |false=>
   rw [ari,ih,jP (by simp [hp])]
  |true=>
   rw [aq2,e2 hp,R.calm_ok,R.bind_ok,aqq,ih,R.bind_ok,amj,jQ hp]
   rfl
end PF
namespace PF
open PySem PySem.Spec
open L2
open PyProof.Rows (envOfC)
section XWs
variable[XW]
abbrev a5d:=List (Str×List Str)
end XWs
end PF
namespace PF
open PySem PySem.Spec
open L2
variable[XW]
end PF
namespace PF
open PySem PySem.Spec
open L2
variable[XW]
theorem u66{k:Nat}(hr:Room k X.A):X.A.units+66 < cLine:=by have:=u70 hr;lia
end PF
namespace PF
open PySem PySem.Spec PySem.SeqAt --
section
variable{prog:aL}{w:aO} --
mutual
theorem ald: ∀(d:ac) {n:Nat} {A:aX} {E:ae -> ag -> Prop} {s:ag} {v:ae} {bs:List Addr} {Q:Bool -> ag -> Prop},plD d=true -> cA s.heap v d bs -> (∀b,Q b s) -> wpAny (model prog w) A (mY n v) Q E s
 |.none,n,A,E,s,v,bs,Q,_,r,h=> by cases r;cases n <;> exact af (h _)
 |.int i,n,A,E,s,v,bs,Q,_,r,h=> by cases r;cases n <;> exact af (h _)
 |.str x,n,A,E,s,v,bs,Q,_,r,h=> by cases r;cases n <;> exact af (h _)
 |.tuple xs,0,A,E,s,v,bs,Q,hp,r,h=> by cases r;exact af (h _)
 | .tuple xs,m+1,A,E,s,v,bs,Q,hp,r,h=> by
  have ih:=ahx xs
  rw [ki,abm,aC]at hp
  cases r with
  | @tuple a o items n _ _ ho hc hd hi=>
  have hT:s.TypeIs (.ref a) "tuple":=⟨o,ho,hc⟩
  unfold mY
  (refine aa (dj hT fy.lookup ?_))
  show wpAny _ _ (seqItems? (.ref a)>>=_) _ _ s
  (refine aa (cE ho hd ?_))
  refine aa ?_
  show wpAny _ _ (forIn items _ _) _ _ s --
  rw [←f7]
  refine eE _ (λjg r s'=> (r.1=none\/r.1=some false)/\s'=s/\ ∃left cs,(∀x∈left,x∈xs)/\cu s.heap jg left cs) _ ?_ ?_ _ _ ⟨.inl rfl,rfl,xs,_,λ_ m=> m,hi⟩
  ·rintro v jg r s' ⟨hr,rfl,left,cs,sub,hl⟩
   cases hl with
   | @cons _ _ k ks' _ _ h1 hl'=>
    have hm:=sub k au
    refine aa (ih k hm (hp k hm) h1 λb=> ?_)
    cases b
    ·simp only [lw,if_true]
     (exact af (af (h _)))
    ·simp only [eR,aY,if_false]
     exact af ⟨.inl rfl,rfl,ks',_,λx m=> sub x (aw _ m),hl'⟩
  ·rintro⟨r1,r2⟩ s' ⟨hr,rfl,_⟩
   simp only at hr
   rcases hr with rfl|rfl
   ·exact af (h _)
   ·exact af (h _)
 |.bool _,_,_,_,_,_,_,_,hp,_,_=> by simp [plD]at hp
 |.list _,_,_,_,_,_,_,_,hp,_,_=> by simp [plD]at hp
 |.dict _,_,_,_,_,_,_,_,hp,_,_=> by simp [plD]at hp
theorem ahx: ∀(xs:List ac),∀d∈xs,∀{n:Nat} {A:aX} {E:ae -> ag -> Prop} {s:ag} {v:ae} {bs:List Addr} {Q:Bool -> ag -> Prop},plD d=true -> cA s.heap v d bs -> (∀b,Q b s) -> wpAny (model prog w) A (mY n v) Q E s
 |[],d,m=> by cases m
 | x::r,d,m=> by
  intro h1 h2 h3
  rcases aA.mp m with e|m
  ·rw [e]at h1 h2
   exact ald x h1 h2 h3
  ·exact ahx r d m h1 h2 h3
end
mutual
theorem afz: ∀(d:ac) {n:Nat} {A:aX} {E:ae -> ag -> Prop} {s:ag} {v:ae} {bs:List Addr} {Q:Bool -> ag -> Prop},plD d=true -> cA s.heap v d bs -> d.depth <=n -> Q false s -> wpAny (model prog w) A (d9 n v) Q E s
 |.none,n,A,E,s,v,bs,Q,_,r,_,h=> by cases r;unfold d9;exact af h
 |.int i,n,A,E,s,v,bs,Q,_,r,_,h=> by cases r;unfold d9;exact af h
 |.str x,n,A,E,s,v,bs,Q,_,r,_,h=> by cases r;unfold d9;exact af h
 | .tuple xs,n,A,E,s,v,bs,Q,hp,r,hu,h=> by
  have ih:=aiu xs
  rw [ki,abm,aC]at hp
  (simp only [cv]at hu)
  obtain⟨m,rfl⟩: ∃m,n=m+1:=⟨n - 1,by lia⟩
  cases r with
  | @tuple a o items n _ _ ho hc hd hi=>
  have hT:s.TypeIs (.ref a) "tuple":=⟨o,ho,hc⟩
  unfold d9
  (refine aa (eI hT ?_))
  show wpAny _ _ (pure true >>=_) _ _ s
  refine aa (af ?_)
  (simp only [eR,aY,if_false])
  (refine aa (cE ho hd ?_))
  refine aa ?_
  show wpAny _ _ (forIn items _ _) _ _ s --
  rw [←f7]
  refine eE _ (λjg r s'=> r.1=none/\s'=s/\ ∃left cs,(∀x∈left,x∈xs)/\cu s.heap jg left cs) _ ?_ ?_ _ _ ⟨rfl,rfl,xs,_,λ_ m=> m,hi⟩
  ·rintro v jg r s' ⟨hr,rfl,left,cs,sub,hl⟩
   cases hl with
   | @cons _ _ k ks' _ _ h1 hl'=>
    have hm:=sub k au
    have hdk:=abx hm
    refine aa (ih k hm (hp k hm) h1 (by lia) ?_)
    (simp only [aY,if_false])
    exact af ⟨rfl,rfl,ks',_,λx m=> sub x (aw _ m),hl'⟩
  ·rintro⟨r1,r2⟩ s' ⟨hr,rfl,_⟩
   simp only at hr
   subst hr
   exact af h
 |.bool _,_,_,_,_,_,_,_,hp,_,_,_=> by simp [plD]at hp
 |.list _,_,_,_,_,_,_,_,hp,_,_,_=> by simp [plD]at hp
 |.dict _,_,_,_,_,_,_,_,hp,_,_,_=> by simp [plD]at hp
theorem aiu: ∀(xs:List ac),∀d∈xs,∀{n:Nat} {A:aX} {E:ae -> ag -> Prop} {s:ag} {v:ae} {bs:List Addr} {Q:Bool -> ag -> Prop},plD d=true -> cA s.heap v d bs -> d.depth <=n -> Q false s -> wpAny (model prog w) A (d9 n v) Q E s
 |[],d,m=> by cases m
 | x::r,d,m=> by
  intro h1 h2 h3 h4
  rcases aA.mp m with e|m
  ·rw [e]at h1 h2 h3
   exact afz x h1 h2 h3 h4
  ·exact aiu r d m h1 h2 h3 h4
end
class PV where
 p:ac -> ae -> Prop
variable[PV]
structure TupV (h:Heap) (k:ac) (v:ae):Prop where
 ok:vh k=true
 pv:PV.p k v
 ex: ∃a bs,v=.ref a/\cA h (.ref a) k bs
theorem ah3{s:ag}{k:ac}{v:ae}{Q:Bool -> ag -> Prop}(hk:TupV s.heap k v)(vs:List ae)(hvs: ∀y∈vs,∃k',TupV s.heap k' y)(h:Q false s):wpAny (model prog w) A (iY v vs) Q E s:=by
 obtain⟨ok,pv,a,bs,rfl,rd⟩:=hk
 obtain⟨p,c,d⟩:=kg.mp ok
 unfold iY
 refine aa ?_
 refine eE _ (λjg r s'=> r.1=none/\s'=s/\ ∀y∈jg,∃k',TupV s.heap k' y) _ ?_ ?_ _ _ ⟨rfl,rfl,hvs⟩
 ·rintro y jg r s' ⟨hr,rfl,hy⟩
  obtain⟨k',ok',_,b,bs',rfl,rd'⟩:=hy y au
  obtain⟨p',c',d'⟩:=kg.mp ok'
  have nx: ∀y∈jg,∃k',TupV s'.heap k' y:=λy m=> hy y (aw _ m)
  dsimp only
  split
  ·exact af ⟨rfl,rfl,nx⟩
  ·refine aa (ade k p rd d ?_)
   (simp only [eR,aY,if_false])
   refine aa (ade k' p' rd' d' ?_)
   (simp only [eR,aY,if_false])
   refine aa (afz k p rd d ?_)
   (simp only [aY,if_false])
   refine aa (afz k' p' rd' d' ?_)
   (simp only [aY,if_false])
   exact af ⟨rfl,rfl,nx⟩
 ·rintro⟨r1,r2⟩ s' ⟨hr,rfl,_⟩
  simp only at hr
  subst hr
  exact af h
end
section
variable{prog:aL}{w:aO}[PV]
structure Tb (w:aO) (h:Heap) (es:Array (Int×ae)) (t:bp) (kt:List ac):Prop where
 ok:ST.Ok t
 rc:ST.Rc t es
 len:kt.length=es.size
 el: ∀(i:Nat) (k:ac),kt[i]?=some k -> ∃v,es[i]?=some (jm w k,v)/\TupV h k v
 nd:kt.Nodup
 led:t.led= !(w.params.followText "set-order")
 msk:(t.mask=7/\es.size <=4)\/(t.mask=31/\es.size <=18)\/(t.mask=127/\es.size <=76)\/(t.mask=511/\es.size <=306)
theorem Tb.fits{es:Array (Int×ae)}(T:Tb w h es t kt):t.fits es.size=true:=by
 simp only [lY,aD,beq_iff_eq,decide_eq_true_eq]
 refine⟨T.rc.size,?_⟩
 unfold l8
 rw [T.ok.nd]
 have:=T.ok.room
 simpa using this
theorem Tb.odd{es:Array (Int×ae)}(T:Tb w h es t kt):t.gaveWay=false:=by
 unfold SetTable.gaveWay
 rcases T.msk with ⟨e,_⟩|⟨e,_⟩|⟨e,_⟩|⟨e,_⟩ <;> rw [e] <;> rfl
theorem Tb.turn{es:Array (Int×ae)}(T:Tb w h es t kt):10*SetTable.turns t.mask <=6000:=by
 unfold SetTable.turns
 rcases T.msk with ⟨e,_⟩|⟨e,_⟩|⟨e,_⟩|⟨e,_⟩ <;> rw [e] <;> decide
theorem Tb.hash{es:Array (Int×ae)}(T:Tb w h es t kt){i:Nat}{k:ac}(e:kt[i]?=some k):ST.ha es i=jm w k:=by
 obtain⟨v,ev,_⟩:=T.el i k e
 unfold ST.ha
 rw [ev];rfl
theorem a0g{s:ag}{k:ac}{v:ae}{Q:SetFound -> ag -> Prop}{X Y:Sem SetFound}(hk:TupV s.heap k v)(hvs: ∀y∈vs,∃k',TupV s.heap k' y)(h:wpAny (model prog w) A X Q E s):
  wpAny (model prog w) A (if (!t.led)=true then (do
   let b←iY v vs
   if b=true then Y else X) else X) Q E s:=by
 split
 ·refine aa (ah3 hk vs hvs ?_)
  rw [if_neg ax]
  exact h
 ·exact h
theorem ail {A:aX} {E:ae -> ag -> Prop} {s:ag} {a:Addr} {o:Obj} {es:Array (Int×ae)} {ep:Nat} {t:bp} {kt:List ac} {k:ac} {v:ae} {Q:SetFound -> ag -> Prop}
  (hu:A.units+10 < cLine) (ho:s.heap.get? a=some o) (hd:o.data=.set es ep t) (T:Tb w s.heap es t kt) (hk:TupV s.heap k v)
  (h1:k∈kt -> Q (.there none) s) (h2: ∀kk,k∉kt -> t.slot (ST.adv t kk (t.probeStart (jm w k))).j=.empty -> ST.Full t (jm w k) kk -> Q (.free (ST.adv t kk (t.probeStart (jm w k))).j false) s):
  ∀(fuel k0:Nat) (st:Option SetTable.Probe),st.getD (t.probeStart (jm w k))=ST.adv t k0 (t.probeStart (jm w k)) -> 6001 <=fuel+k0 -> k0 <=6000 -> ST.Full t (jm w k) k0 -> (∀k',k' < k0 -> ∀i,t.slot (ST.adv t k' (t.probeStart (jm w k))).j=.live i -> kt[i]?≠some k) ->
   wpAny (model prog w) A (setSearchFrom a v (jm w k) true fuel st) Q E s
 |0,k0,st,e,f,g,_,_=> by lia
 | fuel +1,k0,st,e,f,g,F,NE=> by
  unfold setSearchFrom
  refine aa (cq ho hd T.fits ?_)
  dsimp only
  rw [T.odd]
  (simp only [aY,if_false])
  rw [e]
  have same: ∀{i:Nat} {kk:Nat},t.slot (ST.adv t kk (t.probeStart (jm w k))).j=.live i -> ST.ha es i≠jm w k -> kt[i]?≠some k:=λa b c=> b (T.hash c)
  have tt:=T.turn
  generalize hf:t.probe _ (jm w k) (ST.adv t k0 (t.probeStart (jm w k)))=m
  rcases ST.search_step T.ok (ST.ha es) (jm w k) k0 F with ⟨kk,a1,a2,a3,a4,a5⟩|⟨kk,i,a1,a2,a3,ah,a4,a5⟩
  ·obtain rfl:m=some (.empty (ST.adv t kk (t.probeStart (jm w k))).j none):=hf.symm.trans a5
   dsimp only
   refine af (h2 kk ?_ a3 ?_)
   ·intro m
    obtain⟨i,hi⟩:=eB m
    obtain⟨v',ev,_⟩:=T.el i k hi
    obtain⟨k2,b1,b2⟩:=ST.elem_met T.ok T.rc a3 ev
    by_cases c:k2 < k0
    ·exact NE k2 c i b2 hi
    ·obtain⟨i',c1,c2⟩:=a4 k2 (by lia) b1
     rw [b2]at c1
     cases c1
     exact c2 (T.hash hi)
   ·intro k' hk'
    by_cases c:k' < k0
    ·exact F k' c
    ·obtain⟨i',c1,_⟩:=a4 k' (by lia) hk'
     exact⟨i',c1⟩
  ·obtain rfl:m=some (.candidate (ST.adv t kk (t.probeStart (jm w k))).j i (ST.adv t (kk+1) (t.probeStart (jm w k)))):=hf.symm.trans a5
   dsimp only
   have hi:i < kt.length:=by
    rw [T.len,←T.rc.size]
    exact (cb.mp ((ST.slot_live T.ok).mp a3)).1
   obtain⟨y,ey,hy⟩:=T.el i kt[i] (ao hi)
   refine a0g hk (λy hy=> ?_) ?_
   ·obtain⟨e,he,rfl⟩:=aH.mp hy
    have he':e∈es.toList:=by
     have:=dk.mp he
     exact dk.mpr (Array.mem_filter.mp this).1
    obtain⟨i2,hi2⟩:=eB he'
    have l2:i2 < kt.length:=by rw [T.len,←ar];exact (aB.mp hi2).1
    obtain⟨y2,ey2,hy2⟩:=T.el i2 kt[i2] (ao l2)
    rw [aZ,ey2]at hi2
    cases hi2
    exact⟨_,hy2⟩
   ·skip
    rw [ey]
    dsimp only
    obtain⟨ok',_,b',bs',rfl,rd'⟩:=hy
    obtain⟨ok,_,b,bs,rfl,rd⟩:=id hk
    obtain⟨p,c,d⟩:=kg.mp ok
    obtain⟨p',c',d'⟩:=kg.mp ok'
    refine aa (a9 (lB kt[i] k A s _ _ _ _ rd' rd c' c (by lia) prog w E _ ?_))
    refine aa (cq ho hd T.fits ?_)
    dsimp only
    by_cases ek:kt[i]=k
    ·rw [show aM kt[i] k=true from (yt _ _ p' p).mpr ek]
     (simp only [df,if_true])
     exact af (h1 (ek▸eL hi))
    ·rw [show aM kt[i] k=false by
      cases q:aM kt[i] k with
      |false=> rfl
      |true=> exact absurd ((yt _ _ p' p).mp q) ek]
     simp only [Bool.and_false,aY,if_false]
     rw [show t.sameMemory t.moves t.mask=some true by unfold SetTable.sameMemory;simp]
     simp only [if_true]
     rw [a3]
     dsimp only
     rw [ey]
     dsimp only
     refine aa (wpAny_isSame_ref_self ?_)
     simp only [if_true]
     refine aa (af ?_)
     dsimp only
     refine ail hu ho hd T hk h1 h2 fuel (kk+1) (some _) rfl (by lia) (by lia) (λk' hk'=> ?_) (λk' hk' i' hl=> ?_)
     ·by_cases c:k' < k0
      ·exact F k' c
      ·by_cases c2:k' < kk
       ·obtain⟨i',c1,_⟩:=a4 k' (by lia) c2
        exact⟨i',c1⟩
       ·rw [show k'=kk by lia];exact⟨i,a3⟩
     ·by_cases c:k' < k0
      ·exact NE k' c i' hl
      ·by_cases c2:k' < kk
       ·obtain⟨i2,c1,c3⟩:=a4 k' (by lia) c2
        rw [hl]at c1
        cases c1
        exact same hl c3
       ·rw [show k'=kk by lia,a3]at hl
        cases hl
        rw [ao hi]
        exact λz=> ek (by injection z)
structure Tb1 (w:aO) (h:Heap) (es:Array (Int×ae)) (t:bp) (kt:List ac):Prop where
 ok:ST.Ok t
 rc:ST.Rc t es
 len:kt.length=es.size
 el: ∀(i:Nat) (k:ac),kt[i]?=some k -> ∃v,es[i]?=some (jm w k,v)/\TupV h k v
 nd:kt.Nodup
 led:t.led= !(w.params.followText "set-order")
theorem asf{α:Type}(l:List α)(p:Nat)(x:α):(l.take p++x::l.drop p).Perm (x::l):=by
 have:=List.perm_middle (a:=x) (l₁:=l.take p) (l₂:=l.drop p)
 rwa [lm]at this
theorem Tb.put{es:Array (Int×ae)}{k:ac}{v:ae}{kk:Nat}(T:Tb w h es t kt)(hk:TupV h k v)(nm:k∉kt)(F:ST.Full t (jm w k) kk)(he:t.slot (ST.adv t kk (t.probeStart (jm w k))).j=.empty)(hm:t'.mask=t.mask)(hd:t'.dummies=t.dummies)(hld:t'.led=t.led)(hpl:t'.place=cY t.place (bO t.place (ST.adv t kk (t.probeStart (jm w k))).j) (ST.adv t kk (t.probeStart (jm w k))).j):
  ∃kt',Tb1 w h (cY es (bO t.place (ST.adv t kk (t.probeStart (jm w k))).j) (jm w k,v)) t' kt'/\kt'.Perm (k::kt):=by
 obtain⟨o1,r1⟩:=ST.put_ok (x:=v) T.ok T.rc F he (by
  rw [T.rc.size]
  rcases T.msk with ⟨e,c⟩|⟨e,c⟩|⟨e,c⟩|⟨e,c⟩ <;> rw [e] <;> lia) hm hd hpl
 have b1:=(ST.below_spec t.place (ST.adv t kk (t.probeStart (jm w k))).j T.ok.ris).1
 generalize bO t.place (ST.adv t kk (t.probeStart (jm w k))).j=p at*
 have pe:p <=es.size:=by rw [←T.rc.size];exact b1
 have el:(cY es p (jm w k,v)).toList=es.toList.take p++(jm w k,v)::es.toList.drop p:=eO _ _ _
 have pm:=asf kt p k
 refine⟨kt.take p++k::kt.drop p,⟨o1,r1,?_,?_,pm.nodup_iff.mpr (cZ.mpr ⟨nm,T.nd⟩),hld.trans T.led⟩,pm⟩
 ·rw [←ar,el]
  simp only [aQ,aG,bc,dC,ar,T.len]
 ·intro i k' e
  have get: ∀(i:Nat) (y:Int×ae),(es.toList.take p++(jm w k,v)::es.toList.drop p)[i]?=some y -> (cY es p (jm w k,v))[i]?=some y:=λi y q=> by rw [←aZ,el];exact q
  rcases ST.ins_get (by rw [T.len];exact pe) e with ⟨rfl,rfl⟩|⟨q,r⟩|⟨q,r⟩
  ·refine⟨v,get _ _ ?_,hk⟩
   rw [aT (by rw [bc,ar];lia),bc,ar,fZ pe,mK]
   rfl
  ·obtain⟨v',ev,hv⟩:=T.el i k' r
   refine⟨v',get _ _ ?_,hv⟩
   rw [aI (by rw [bc,ar];lia),eG q,aZ]
   exact ev
  ·obtain⟨v',ev,hv⟩:=T.el (i - 1) k' r
   refine⟨v',get _ _ ?_,hv⟩
   rw [aT (by rw [bc,ar];lia),bc,ar,fZ pe,show i - p=(i - p - 1)+1 by lia,cT,gi,show p+(i - p - 1)=i - 1 by lia,aZ]
   exact ev
end
theorem aqk{α β:Type}{f:α -> β}{l:List α}: ∀{ys:List β},ys.Perm (l.map f) -> ∃qs:List α,qs.Perm l/\qs.map f=ys:=by
 intro ys h
 generalize hz:l.map f=zs at h
 induction h generalizing l with
 |nil=>
  cases l with
  |nil=> exact⟨[],.refl _,rfl⟩
  |cons a b=> cases hz
 | cons x h ih=>
  cases l with
  |nil=> cases hz
  |cons a b=>
   cases hz
   obtain⟨qs,p,e⟩:=ih rfl
   exact⟨a::qs,p.cons a,by rw [aK,e]⟩
 | swap x y r=>
  match l,hz with
  |a::b::c,hz=>
   cases hz
   exact⟨b::a::c,.swap _ _ _,rfl⟩
 |trans h1 h2 ih1 ih2=>
  obtain⟨q2,p2,e2⟩:=ih2 hz
  obtain⟨q1,p1,e1⟩:=ih1 e2
  exact⟨q1,p1.trans p2,e1⟩
section
variable{prog:aL}{w:aO}[PV]
abbrev Kp(h h':Heap):Prop:= ∀b o,h.get? b=some o -> h'.get? b=some o
mutual
theorem ak3: ∀(d:ac) {h h':Heap} {v:ae} {bs:List Addr},plD d=true -> Kp h h' -> cA h v d bs -> cA h' v d bs
 |.none,_,_,_,_,_,_,r=> by cases r;exact .none
 |.int i,_,_,_,_,_,_,r=> by cases r;exact .int _ _
 |.str x,_,_,_,_,_,_,r=> by cases r;exact .str _ _
 |.tuple xs,h,h',v,bs,hp,hs,r=> by
  rw [ki]at hp
  cases r with
  | @tuple b ob items n _ _ h1 h2 h3 h4=> exact .tuple (hs b _ h1) h2 h3 (ai9 xs hp hs h4)
 |.bool _,_,_,_,_,hp,_,_=> by simp [plD]at hp
 |.list _,_,_,_,_,hp,_,_=> by simp [plD]at hp
 |.dict _,_,_,_,_,hp,_,_=> by simp [plD]at hp
theorem ai9: ∀(xs:List ac) {h h':Heap} {vs:List ae} {bs:List Addr},qy xs=true -> Kp h h' -> cu h vs xs bs -> cu h' vs xs bs
 |[],_,_,_,_,_,_,r=> by cases r;exact .nil
 |x::xs,_,_,_,_,hp,hs,r=> by
  rw [kz,aD]at hp
  cases r with
  |cons r1 r2=> exact .cons (ak3 x hp.1 hs r1) (ai9 xs hp.2 hs r2)
end
theorem TupV.kp{h':Heap}{k:ac}{v:ae}(t:TupV h k v)(hs:Kp h h'):TupV h' k v:=by
 obtain⟨ok,pv,a,bs,rfl,rd⟩:=t
 exact⟨ok,pv,a,bs,rfl,ak3 k (kg.mp ok).1 hs rd⟩
theorem Tb.kp{h':Heap}{es:Array (Int×ae)}(T:Tb w h es t kt)(hs:Kp h h'):Tb w h' es t kt:=⟨T.ok,T.rc,T.len,λi k e=> by
 obtain⟨v,a,b⟩:=T.el i k e
 exact⟨v,a,b.kp hs⟩,T.nd,T.led,T.msk⟩
structure SetT0 (w:aO) (h0 h:Heap) (a:Addr) (ks:List ac):Prop where
 ex: ∃o es ep t kt,h.get? a=some o/\o.ExactSet/\o.data=.set es ep t/\Tb w h0 es t kt/\kt.Perm ks
theorem akf{h:Heap}: ∀(kt:List ac) (el:List (Int×ae)),kt.length=el.length -> (∀(i:Nat) (k:ac),kt[i]?=some k -> ∃v,el[i]?=some (jm w k,v)/\TupV h k v) ->
  ∃zs:List (ac×ae),el=zs.map (λp=> (jm w p.1,p.2))/\zs.map (λp=> p.1)=kt/\ ∀p∈zs,TupV h p.1 p.2
 |[],[],_,_=> ⟨[],rfl,rfl,λ_ m=> by cases m⟩
 |[],_::_,e,_=> by cases e
 |_::_,[],e,_=> by cases e
 | k::kt,x::el,e,H=> by
  obtain⟨zs,e1,e2,e3⟩:=akf kt el (by simpa using e) (λi k' q=> by
   obtain⟨v,a,b⟩:=H (i+1) k' (by simpa using q)
   exact⟨v,by simpa using a,b⟩)
  obtain⟨v,a,b⟩:=H 0 k rfl
  have:x=(jm w k,v):=by simpa using a
  subst this
  exact⟨(k,v)::zs,by rw [aK,e1],by rw [aK,e2],λp m=> by
   rcases aA.mp m with rfl|m
   ·exact b
   ·exact e3 p m⟩
theorem Tb1.relay{es:Array (Int×ae)}(T:Tb1 w h es t kt){led:Bool}(hld:led=t.led){mask finger moves:Nat}{plain:Bool}(hc:ST.cyc mask=true)(hl:es.size <=mask)(hm:(mask=31/\es.size <=18)\/(mask=127/\es.size <=76)\/(mask=511/\es.size <=306)):
  ∃t' od,lV mask finger moves led plain (es.map (·.1))=some (t',od)/\(od.filterMap (es[·]?)).size=es.size/\ ∃kt',Tb w h (od.filterMap (es[·]?)) t' kt'/\kt'.Perm kt:=by
 obtain⟨t',od,e,m1,ld1,_,_,_,o1,r1,pm,sz⟩:=ST.laid_ok es (mask:=mask) (finger:=finger) (moves:=moves) (led:=led) (plain:=plain) hc hl
 obtain⟨zs,z1,z2,z3⟩:=akf (w:=w) (h:=h) kt es.toList (by rw [T.len,ar]) (λi k q=> by
  obtain⟨v,a,b⟩:=T.el i k q
  exact⟨v,by rw [aZ];exact a,b⟩)
 have hs:(od.filterMap (es[·]?)).size=es.size:=by
  have:=pm.length_eq
  rwa [ar,ar]at this
 rw [z1]at pm
 obtain⟨qs,qp,qe⟩:=aqk pm
 refine⟨t',od,e,hs,qs.map (λp=> p.1),⟨o1,r1,?_,?_,?_,ld1.trans (hld.trans T.led),?_⟩,by rw [←z2];exact qp.map _⟩
 ·rw [ak,hs,qp.length_eq,←ar,z1,ak]
 ·intro i k q
  rw [aN]at q
  cases c:qs[i]? with
  |none=> rw [c]at q;cases q
  |some p=>
   rw [c]at q
   have:p.1=k:=by simpa using q
   subst this
   refine⟨p.2,?_,z3 p (qp.mem_iff.mp (bt c))⟩
   rw [←aZ,←qe,aN,c]
   rfl
 ·have:(qs.map λp=> p.1).Perm kt:=by rw [←z2];exact qp.map _
  exact this.nodup_iff.mpr T.nd
 ·rw [m1,hs]
  rcases hm with ⟨a,b⟩|⟨a,b⟩|⟨a,b⟩
  ·exact .inr (.inl ⟨a,b⟩)
  ·exact .inr (.inr (.inl ⟨a,b⟩))
  ·exact .inr (.inr (.inr ⟨a,b⟩))
theorem amf{o:Obj}{es:Array (Int×ae)}(ho:h.get? a=some o)(hd:o.data=.set es ep t)(es':Array (Int×ae))(t':bp):(h.update a (gz es' t')).get? a=some {o with data:=.set es' (ep+1) t'}:=by
 rw [bD _ ho (by rw [putSet_of es' t' hd];rfl),putSet_of es' t' hd]
theorem axy:dh 20=32:=by decide+kernel
theorem axf:dh 76=128:=by decide+kernel
theorem aux:dh 308=512:=by decide+kernel
theorem a27:ST.cyc 511=true:=by decide+kernel
theorem atn{s:ag}{o:Obj}{es:Array (Int×ae)}{Q:Unit -> ag -> Prop}(ho:s.heap.get? a=some o)(hex:o.ExactSet)(hd:o.data=.set es ep t)(T:Tb1 w h0 es t kt)(hm:(m=5/\es.size=5)\/(m=19/\es.size=19)\/(m=77/\es.size=77))(h: ∀h',bu a s.heap h' -> (∃o' es' ep' t' kt',h'.get? a=some o'/\o'.ExactSet/\o'.data=.set es' ep' t'/\Tb w h0 es' t' kt'/\kt'.Perm kt) -> Q () {s with heap:=h'}):
  wpAny (model prog w) A (setRelay a (ck m)) Q E s:=by
 have hf:t.fits es.size=true:=by
  simp only [lY,aD,beq_iff_eq,decide_eq_true_eq]
  refine⟨T.rc.size,?_⟩
  unfold l8
  rw [T.ok.nd]
  have:=T.ok.room
  simpa using this
 have gr: ∃mask,dh (ck m)=mask+1/\ST.cyc mask=true/\es.size <=mask/\((mask=31/\es.size <=18)\/(mask=127/\es.size <=76)\/(mask=511/\es.size <=306)):=by
  rcases hm with ⟨rfl,e⟩|⟨rfl,e⟩|⟨rfl,e⟩
  ·exact⟨31,by rw [show ck 5=20 from rfl,axy],ST.cyc31,by lia,.inl ⟨rfl,by lia⟩⟩
  ·exact⟨127,by rw [show ck 19=76 from rfl,axf],ST.cyc127,by lia,.inr (.inl ⟨rfl,by lia⟩)⟩
  ·exact⟨511,by rw [show ck 77=308 from rfl,aux],a27,by lia,.inr (.inr ⟨rfl,by lia⟩)⟩
 obtain⟨mask,g1,g2,g3,g4⟩:=gr
 obtain⟨t',od,e,hs,kt',T',pm⟩:=T.relay (led:=t.led) rfl (finger:=t.finger) (moves:=t.movedTo mask) (plain:=t.plain) g2 g3 g4
 unfold setRelay
 (refine aa (cq ho hd hf ?_))
 dsimp only
 rw [g1,if_neg (by rw [cp];rcases g4 with ⟨a,_⟩|⟨a,_⟩|⟨a,_⟩ <;> lia)]
 have er:t.relaid (es.map (·.1)) (ck m)=some (t',od):=by
  unfold jX
  rw [g1]
  exact e
 rw [er]
 refine aa ?_
 show wpAny _ _ (if ((od.filterMap (es[·]?)).size !=es.size)=true then _ else pure (od.filterMap (es[·]?),t')) _ _ s
 rw [if_neg (by rw [hs];simp)]
 refine af ?_
 dsimp only
 refine gG ho hd ?_ (by rw [hs,cp];rcases g4 with ⟨a,_⟩|⟨a,_⟩|⟨a,_⟩ <;> lia)
 have sb:=bw s.heap a (gz (od.filterMap (es[·]?)) t')
 exact h _ sb ⟨{o with data:=.set (od.filterMap (es[·]?)) (ep+1) t'},_,ep+1,t',kt',amf ho hd _ _,hex,rfl,T',pm⟩
theorem a58{s:ag}{ks:List ac}{k:ac}{v:ae}{Q:Bool -> ag -> Prop}(hu:A.units+10 < cLine)(kp:Kp h0 s.heap)(hS:SetT0 w h0 s.heap a ks)(hn:ks.length+1 <=306)(hk0:TupV h0 k v)(h: ∀h',bu a s.heap h' -> SetT0 w h0 h' a (if k∈ks then ks else k::ks) -> Q (decide (k∉ks)) {s with heap:=h'}):
  wpAny (model prog w) A (jM a v (jm w k)) Q E s:=by
 obtain⟨o,es,ep,t,kt,ho,hex,hd,T,pm⟩:=hS.ex
 have hsz:es.size=ks.length:=by rw [←T.len,pm.length_eq]
 have hk:=hk0.kp kp
 obtain⟨ok,_,b,bs,rfl,rd⟩:=id hk
 (unfold jM setAddHashedIn)
 refine a9 (aa (cq ho hd T.fits ?_))
 dsimp only
 rw [show byScan (.ref b) es=false from rfl]
 (simp only [aY,if_false])
 unfold setSearch
 refine aa (ail hu ho hd (T.kp kp) hk (λhm=> ?_) (λkk nm he F=> ?_) 100000 0 none rfl (by decide) (by decide) (λk' h'=> by lia) (λk' h'=> by lia))
 ·have hm':k∈ks:=pm.mem_iff.mp hm
  have:=h s.heap (iX a s.heap) (by rw [if_pos hm'];exact hS)
  rw [decide_eq_false (by simpa using hm')]at this
  exact af this
 ·have nm':k∉ks:=λz=> nm (pm.mem_iff.mpr z)
  have h': ∀h',bu a s.heap h' -> SetT0 w h0 h' a (k::ks) -> Q true {s with heap:=h'}:=λh1 a1 a2=> by
   have:=h h1 a1 (by rw [if_neg nm'];exact a2)
   rw [decide_eq_true nm']at this
   exact this
  refine aa (cq ho hd T.fits ?_)
  dsimp only
  rw [ST.put_eq T.ok]
  dsimp only
  have key: ∀t2:bp,t2.mask=t.mask -> t2.dummies=t.dummies -> t2.led=t.led -> t2.place=cY t.place (bO t.place (ST.adv t kk (t.probeStart (jm w k))).j) (ST.adv t kk (t.probeStart (jm w k))).j ->
    wpAny (model prog w) A (do
     storeSet a (cY es (bO t.place (ST.adv t kk (t.probeStart (jm w k))).j) (jm w k,.ref b)) t2
     if (!false&&t2.tooFull)=true then do setRelay a (ck (es.size+1));pure true else pure true) Q E s:=by
   intro t2 m1 m2 m4 m3
   obtain⟨kt',T1,pm1⟩:=T.put (t':=t2) hk0 nm F he m1 m2 m4 m3
   have sz1:=T1.len
   rw [pm1.length_eq,aG,T.len]at sz1
   generalize cY es (bO t.place (ST.adv t kk (t.probeStart (jm w k))).j) (jm w k,bZ b)=es1 at*
   refine aa (gG ho hd ?_ (by rw [←sz1,cp];lia))
   have sb:=bw s.heap a (gz es1 t2)
   have got:=amf ho hd es1 t2
   have fill:t2.fill=es.size+1:=by
    unfold l8
    rw [T1.ok.nd,T1.rc.size,←sz1];rfl
   split
   ·rename_i c
    have full:t2.mask*3 <=(es.size+1)*5:=by
     simp only [lw,l9,SetTable.tooFull,decide_eq_true_eq,fill]at c
     exact c
    rw [m1]at full
    have hm:(es.size+1=5/\es1.size=5)\/(es.size+1=19/\es1.size=19)\/(es.size+1=77/\es1.size=77):=by
     rcases T.msk with ⟨e,c⟩|⟨e,c⟩|⟨e,c⟩|⟨e,c⟩ <;> rw [e]at full <;> lia
    refine aa (atn (s:={s with heap:=s.heap.update a (gz es1 t2)}) got hex rfl T1 hm λh2 sb2 ⟨o',es',ep',t',kt2,g1,g2,g3,g4,g5⟩=> ?_)
    exact af (h' h2 (sb.trans sb2) ⟨o',es',ep',t',kt2,g1,g2,g3,g4,g5.trans (pm1.trans (pm.cons k))⟩)
   ·rename_i c
    have full: ¬t2.mask*3 <=(es.size+1)*5:=by
     intro z
     apply c
     simp only [lw,l9,SetTable.tooFull,decide_eq_true_eq,fill]
     exact z
    rw [m1]at full
    refine af (h' _ sb ⟨_,es1,ep+1,t2,kt',got,hex,rfl,⟨T1.ok,T1.rc,T1.len,T1.el,T1.nd,T1.led,?_⟩,pm1.trans (pm.cons k)⟩)
    rw [m1]
    rcases T.msk with ⟨e,c⟩|⟨e,c⟩|⟨e,c⟩|⟨e,c⟩ <;> rw [e]at full⊢ <;> lia
  split
  ·refine aa (ald k (kg.mp ok).1 rd λbv=> ?_)
   cases bv
   ·exact key _ rfl rfl rfl rfl
   ·exact key _ rfl rfl rfl rfl
  ·refine aa (af ?_)
   exact key _ rfl rfl rfl rfl
end
end PF
namespace L2
open PySem PySem.Spec PyProof.Rows PF
theorem anu(A:aX):A.in1.units <=A.units+1:=by first|exact av _|(unfold i5;simp)
noncomputable def ahs(l:List ac)(x:ac):List ac:=if x∈l then l else x::l
def ud(xs:List ac):List ac:=xs.foldl ahs []
theorem awi(xs:List ac)(x:ac):ud (xs++ [x])=ahs (ud xs) x:=by unfold ud;rw [List.foldl_append];rfl
theorem afi(xs:List ac):(ud xs).Nodup/\(∀y,y∈ud xs ↔ y∈xs)/\(ud xs).length <=xs.length:=by
 have all: ∀(ys acc:List ac),acc.Nodup -> (ys.foldl ahs acc).Nodup/\(∀y,y∈ys.foldl ahs acc ↔ y∈acc\/y∈ys)/\(ys.foldl ahs acc).length <=acc.length+ys.length:=by
  intro ys
  induction ys with
  |nil=> intro acc h;exact⟨h,by simp,av _⟩
  | cons z r ih=>
   intro acc h
   have e:ahs acc z=if z∈acc then acc else z::acc:=rfl
   by_cases m:z∈acc
   ·rw [if_pos m]at e
    obtain⟨h1,h2,h3⟩:=ih acc h
    rw [dQ,e]
    refine⟨h1,λy=> ?_,by rw [aG];lia⟩
    rw [h2 y,aA]
    exact⟨λc=> c.elim .inl (λd=>.inr (.inr d)),λc=> c.elim .inl (λd=> d.elim (λf=>.inl (f▸m)) .inr)⟩
   ·rw [if_neg m]at e
    obtain⟨h1,h2,h3⟩:=ih (z::acc) (cZ.mpr ⟨m,h⟩)
    rw [dQ,e]
    refine⟨h1,λy=> ?_,by rw [aG]at h3⊢;lia⟩
    rw [h2 y,aA,aA]
    exact⟨λc=> c.elim (λd=> d.elim (λf=>.inr (.inl f)) .inl) (λd=>.inr (.inr d)),λc=> c.elim (λd=>.inl (.inr d)) (λd=> d.elim (λf=>.inl (.inl f)) .inr)⟩
 have:=all xs [] fE
 simpa [ud] using this
section
variable[PF.PV]{prog:aL}{w:aO}{A:aX}{R:gZ -> ag -> Prop}{I:Addr}{wr fp:List Addr}{G:Array jA -> Array jA -> Prop}{n:Nat}{P:Nat -> ae -> Prop}{St:Nat -> ag -> Prop}
theorem aib(hu:A.units+30 < cLine)(W:WalksS prog w A.in1 I fp wr G n P St)(p:Addr)(hp:p∉fp)(hw: ∀b o,h0.get? b=some o -> b∉p::wr)(xs:List ac)(hn:xs.length=n)(hval: ∀i v,P i v -> ∃x,xs[i]?=some x/\TupV h0 x v)(hb:n+1 <=306):
  ∀(j i:Nat) (s:ag),i+j=n -> St i s -> Kp h0 s.heap -> SetT0 w h0 s.heap p (ud (xs.take i)) ->
   (∀s',lG (p::wr) G s s' -> SetT0 w h0 s'.heap p (ud xs) -> R (.ok (.ret .none)) s') ->
   codeAny (model prog w) A (.builtin "set.update.loop" ⟨[.ref p,.ref I],[]⟩) R s:=by
 have hpw:p∉wr:=λz=> hp (W.sub _ z)
 have up: ∀b∈wr,b∈p::wr:=λb z=> aw _ z
 have stays: ∀{s s':ag} {ks:List ac},lG wr G s s' -> SetT0 w h0 s.heap p ks -> SetT0 w h0 s'.heap p ks:=λmv z=> by
  obtain⟨o,es,ep,t,kt,ho,q⟩:=z.ex
  exact⟨o,es,ep,t,kt,mv.heap p _ hpw ho,q⟩
 have kps: ∀{s s':ag},lG wr G s s' -> Kp h0 s.heap -> Kp h0 s'.heap:=λmv z b o e=> mv.heap b o (λm=> hw b o e (aw _ m)) (z b o e)
 intro j
 induction j with
 |zero=>
  intro i s hij hst kp hS hR
  have ei:i=n:=by lia
  subst ei
  refine c0 cO ?_
  rw [cS b6 _]
  refine (show wpAny _ A.in1 (pyNext (.ref I)>>=_) _ _ s from aa (W.done s _ _ hst λs' mv=> ?_))
  refine af (hR s' (mv.mono up) ?_)
  have:=stays mv hS
  rw [fw (dt hn)]at this
  exact this
 | succ j ih=>
  intro i s hij hst kp hS hR
  refine c0 cO ?_
  rw [cS b6 _]
  refine (show wpAny _ A.in1 (pyNext (.ref I)>>=_) _ _ s from aa (W.item i s _ _ (by lia) hst λv s' hP hst' mv=> ?_))
  obtain⟨x,hx,tv⟩:=hval i v hP
  have kp1:=kps mv kp
  show wpAny _ A.in1 (holding [v] (setAdd p v)>>=_) _ _ s'
  refine aa (a9 ?_);unfold setAdd
  obtain⟨ok,_,b0,bs,hv0,rd⟩:=tv.kp kp1
  obtain⟨pd,cd,dd⟩:=kg.mp ok
  have in1:=anu A
  refine a9 (aa (ah8 x pd (by rw [hv0];exact rd) (by lia) ?_))
  have few:(ud (xs.take i)).length <=i:=br (afi _).2.2 (by rw [bc];lia)
  refine a58 (h0:=h0) (s:={s' with toks:=s'.toks+zy x}) (by lia) kp1 (show SetT0 w h0 s'.heap p _ from stays mv hS) (by lia) tv λh' sb hS2=> ?_
  have et:xs.take (i+1)=xs.take i++ [x]:=by rw [List.take_add_one,hx];rfl
  have hS3:SetT0 w h0 h' p (ud (xs.take (i+1))):=by
   rw [et,awi]
   exact hS2
  have kp2:Kp h0 h':=λb o e=> by
   rw [sb.2 b (λz:b=p=> hw b o e (by rw [z];exact au))]
   exact kp1 b o e
  refine af ⟨fS b6 _,ih (i+1) _ (by lia) (W.frame _ s' _ _ hst' (Nat.le_add_right _ _) λb hbm o e=> ?_) kp2 hS3 λs'' mv2 hS''=> ?_⟩
  ·rw [sb.2 b (λz:b=p=> hp (by rw [←z];exact hbm))];exact e
  ·refine hR s'' (Moved.trans W.gtrans ((mv.mono up).then_heap (Nat.le_add_right _ _) λb o hbm e=> ?_) mv2) hS''
   rw [sb.2 b (λz:b=p=> hbm (by rw [z];exact au))];exact e
end
section
variable[PF.PV]{prog:aL}{w:aO}{A:aX}{s:ag}{E:ae -> ag -> Prop}
set_option maxHeartbeats 8000000 in
theorem ais{T:String}{oc:Obj}(hh:A.handled=none)(hT:T="list"\/T="tuple")(ho:s.heap.get? a=some oc)(hc:oc.cls=.type T){its:Array ae}{k:Nat}(hd:oc.data=.seq its k)(hu:A.units+40 < cLine)(xs:List ac)(hlen:xs.length=its.size)(hval: ∀(i:Nat) (v:ae),its[i]?=some v -> ∃x,xs[i]?=some x/\TupV s.heap x v)(hb:its.size+1 <=306)(h: ∀(h':Heap) (tk:Nat),SetT0 w s.heap h' s.heap.objs.size (ud xs) -> (∀b o,b < s.heap.objs.size -> s.heap.get? b=some o -> h'.get? b=some o) -> Q (.ref s.heap.objs.size) {s with heap:=h',toks:=tk}):
  wpAny (model prog w) A (call (.type "set") [.ref a]) Q E s:=by
 obtain⟨cm,mrest,m0⟩:=cn.mro
 have m1:=cn.made
 have m2:=cn.sub
 refine wpAny_call (jZ (show wpAny _ _ (callAny (.type "set") _) _ _ _ from af ⟨Code.quiet_builtin _ (by decide+kernel),c0 F.entry_type_call ?_⟩))
 rw [Around.under_plain (lf "set" [.ref a] []) rfl]
 have m3:=cn.notType
 have m4:=cn.canCreate
 have m5:=kJ (.ref a)
 repeat any_goals (first|assumption|wp_step)
 refine dL (azs (.ref a) (E:=E) (Q1:=λob s1=> ∃led:Bool,led= !(w.params.followText "set-order")/\ob=.ref s.heap.objs.size/\s1={s with heap:=s.heap.push {cls:=.type "set",dict:=none,data:=.set #[] 0 (.fresh 0 0 led)}}) ⟨_,rfl,rfl,rfl⟩) λr s1 hr=> ?_
 cases r with
 |error e=> exact hr
 | ok fl=>
  cases fl with
  | ret ob=>
   obtain⟨led,hled,rfl,rfl⟩:=hr
   have g0:(s.heap.push {cls:=.type "set",dict:=none,data:=.set #[] 0 (.fresh 0 0 led)}).get? s.heap.objs.size=some {cls:=.type "set",dict:=none,data:=.set #[] 0 (.fresh 0 0 led)}:=ay _ rfl
   have g1:Shared.TypeIs {s with heap:=s.heap.push {cls:=.type "set",dict:=none,data:=.set #[] 0 (.fresh 0 0 led)}} (.ref s.heap.objs.size) "set":=⟨_,g0,rfl⟩
   have m6:=cn.init.lookup
   have m7:=cn.init.bind (.ref s.heap.objs.size)
   repeat any_goals (first|assumption|wp_step)
   refine dL (lH (R:=wants (λr s2=> r=.none/\ ∃h' tk,s2={s with heap:=h',toks:=tk}/\SetT0 w s.heap h' s.heap.objs.size (ud xs)/\
     (∀b o,b < s.heap.objs.size -> s.heap.get? b=some o -> h'.get? b=some o)) E) cn.init.plain F.entry_set_init (check_set_init_1 g1 ?_)) λr2 s2 hr2=> ?_
   ·have halt:a < s.heap.objs.size:=az ho
    obtain⟨o1,o2,o3,o4⟩:=oc
    simp only at hc hd
    subst hc hd
    have g2:(s.heap.push {cls:=.type "set",dict:=none,data:=.set #[] 0 (.fresh 0 0 led)}).get? a=some {cls:=.type T,dict:=o2,data:=.seq its k,slots:=o4}:=aj _ ho
    have h3:A.in1.in1.in1.handled=none:=by simp [hh]
    have neI:a≠(s.heap.push {cls:=.type "set",dict:=none,data:=.set #[] 0 (.fresh 0 0 led)}).objs.size:=by
     rw [aV]
     exact aJ (bU halt)
    have nf:s.heap.objs.size∉ [(s.heap.push {cls:=.type "set",dict:=none,data:=.set #[] 0 (.fresh 0 0 led)}).objs.size,a]:=by
     rw [aV]
     simp only [aA,bM,or_false,not_or]
     exact⟨aJ (dE _),dI halt⟩
    have s0: ∀{o:Obj},SetT0 w s.heap ((s.heap.push {cls:=.type "set",dict:=none,data:=.set #[] 0 (.fresh 0 0 led)}).push o) s.heap.objs.size (ud (xs.take 0)):=λ{o}=>
     ⟨_,#[],0,_,[],aj _ g0,⟨rfl,rfl,rfl⟩,rfl,⟨⟨rfl,fz,(λj hj=> by have hj':j∈([]:List Nat):=hj;cases hj'),b9 _,ST.cyc7⟩,⟨rfl,(λi j h x a b=> by simp [SetTable.fresh]at a)⟩,rfl,(λi k e=> by simp at e),fE,hled,.inl ⟨rfl,b9 _⟩⟩,iC.refl _⟩
    have kp0: ∀{o:Obj},Kp s.heap ((s.heap.push {cls:=.type "set",dict:=none,data:=.set #[] 0 (.fresh 0 0 led)}).push o):=λb o' e=> aj _ (aj _ e)
    have hw: ∀b o,s.heap.get? b=some o -> b∉ [s.heap.objs.size,(s.heap.push {cls:=.type "set",dict:=none,data:=.set #[] 0 (.fresh 0 0 led)}).objs.size]:=λb o e=> by
     have lb:=az e
     rw [aV]
     simp only [aA,bM,or_false,not_or]
     exact⟨aJ lb,aJ (bU lb)⟩
    have hu3:A.in1.in1.units+30 < cLine:=by
     have i1:=anu A
     have i2:=anu A.in1
     lia
    have fin: ∀(o:Obj) (s':ag),lG [s.heap.objs.size,(s.heap.push {cls:=.type "set",dict:=none,data:=.set #[] 0 (.fresh 0 0 led)}).objs.size] (λx y=> y=x) {s with heap:=(s.heap.push {cls:=.type "set",dict:=none,data:=.set #[] 0 (.fresh 0 0 led)}).push o} s' ->
      SetT0 w s.heap s'.heap s.heap.objs.size (ud xs) ->
      ∃h' tk,s'={s with heap:=h',toks:=tk}/\SetT0 w s.heap h' s.heap.objs.size (ud xs)/\(∀b o,b < s.heap.objs.size -> s.heap.get? b=some o -> h'.get? b=some o):=by
     intro o s' mv hS'
     obtain⟨h',ge,dr,tk',oz⟩:=s'
     have e1:ge=s.gens:=mv.gens
     have e2:dr=s.drawn:=mv.drawn
     have e3:oz=s.os:=mv.os
     subst e1 e2 e3
     refine⟨h',tk',rfl,hS',λb o' hb' e=> mv.heap b o' ?_ (aj _ (aj _ e))⟩
     rw [aV]
     simp only [aA,bM,or_false,not_or]
     exact⟨aJ hb',aJ (bU hb')⟩
    rcases hT with rfl|rfl
    ·have n1:=lI
     have n2:=iJ
     have n3:(bn "list"==bn "dict")=false:=by decide
     have l1:(s.heap.push {cls:=.type "set",dict:=none,data:=.set #[] 0 (.fresh 0 0 led)}).IsList a its:=⟨_,g2,rfl,k,rfl⟩
     unfold cC.«set.__init__» lJ dF;generalize hPI:pyIter=PI
     wp_walk
     subst hPI
     refine d7 l1 (aa (gu ?_))
     refine aib (h0:=s.heap) hu3 ((Walks.list h3 _ a neI its).toS) s.heap.objs.size nf hw xs hlen hval hb its.size 0 _ (by lia) ⟨⟨_,ay _ rfl,rfl,rfl⟩,l1.push _⟩ kp0 s0 ?_
     intro s' mv hS'
     obtain⟨h',tk,rfl,z1,z2⟩:=fin _ s' mv hS'
     exact af (show wpAny _ _ (ret aU) _ _ _ from af ⟨rfl,h',tk,rfl,z1,z2⟩)
    ·have n1:=lg
     have n2:=iB
     have n3:(bn "tuple"==bn "dict")=false:=by decide
     have l1:(s.heap.push {cls:=.type "set",dict:=none,data:=.set #[] 0 (.fresh 0 0 led)}).IsTuple a its:=⟨_,g2,rfl,k,rfl⟩
     unfold cC.«set.__init__» lJ dF;generalize hPI:pyIter=PI
     wp_walk
     subst hPI
     refine gg l1 (aa (gu ?_))
     refine aib (h0:=s.heap) hu3 ((Walks.tuple h3 _ a neI its).toS) s.heap.objs.size nf hw xs hlen hval hb its.size 0 _ (by lia) ⟨⟨_,ay _ rfl,rfl,rfl⟩,?_⟩ kp0 s0 ?_
     ·exact⟨_,aj _ g2,rfl,k,rfl⟩
     intro s' mv hS'
     obtain⟨h',tk,rfl,z1,z2⟩:=fin _ s' mv hS'
     exact af (show wpAny _ _ (ret aU) _ _ _ from af ⟨rfl,h',tk,rfl,z1,z2⟩)
   ·cases r2 with
    |error e=> exact hr2
    | ok f2=>
     cases f2 with
     |ret u=>
      obtain⟨rfl,h',tk,rfl,z1,z2⟩:=hr2
      repeat any_goals (first|assumption|wp_step)
      exact h h' tk z1 z2
     |next=> exact hr2.elim
     |brk=> exact hr2.elim
     |cont=> exact hr2.elim
  |next=> exact hr.elim
  |brk=> exact hr.elim
  |cont=> exact hr.elim
end
end L2
namespace PF
open PySem PySem.Spec
open L2
variable[XW]
abbrev alg(P:ac -> ae -> Prop):PV:=⟨P⟩
def ag9(P:ac -> ae -> Prop)(w:aO)(p:Addr)(xs:List ac):HO:=.ext λh=> ∃h0,@SetT0 (alg P) w h0 h p (ud xs)
theorem auu{R:ac -> ae -> Prop}(hS: @SetT0 (alg R) w h0 h p (ud xs)):jq P w H h p (ag9 R w p xs):=by
 letI:PV:=alg R
 refine⟨⟨h0,hS⟩,?_,λh1 h2 z k=> ?_⟩
 ·obtain⟨o,_,_,_,_,e,_⟩:=hS.ex
  exact⟨o,e⟩
 ·obtain⟨h3,z⟩:=z
  obtain⟨o,es,ep,t,kt,e,q⟩:=z.ex
  exact⟨h3,⟨o,es,ep,t,kt,k o e,q⟩⟩
def aa4(d:ac):Bool:=vh d&&(match d with|.tuple _=> true|_=> false)
theorem amr{d:ac}(h:aa4 d=true):vh d=true/\ ∃xs,d=.tuple xs:=by
 unfold aa4 at h
 rw [aD]at h
 refine⟨h.1,?_⟩
 cases d with
 |tuple xs=> exact⟨xs,rfl⟩
 |_=> cases h.2
theorem az0[PV]{v:ae}{d:ac}{bs:List Addr}(k:aa4 d=true)(r:cA h v d bs)(hp:PV.p d v):TupV h d v:=by
 obtain⟨ok,xs,rfl⟩:=amr k
 cases r with
 | @tuple a o items n _ _ h1 h2 h3 h4=> exact⟨ok,hp,a,_,rfl,.tuple h1 h2 h3 h4⟩
theorem abc[PV]{h:Heap}: ∀{us:List ae} {ds:List ac} {bs:List Addr},cu h us ds bs -> ds.all aa4=true -> (∀(i:Nat) (v:ae) (x:ac),us[i]?=some v -> ds[i]?=some x -> PV.p x v) -> us.length=ds.length/\ ∀(i:Nat) (v:ae),us[i]?=some v -> ∃x,ds[i]?=some x/\TupV h x v
 |_,_,_,.nil,_,_=> ⟨rfl,λi v e=> by simp at e⟩
 | _,_,_,.cons r rs,hk,hp=> by
  rw [eQ,aD]at hk
  obtain⟨l,g⟩:=abc rs hk.2 λi v x a b=> hp (i+1) v x (by simpa using a) (by simpa using b)
  refine⟨by simp [l],λi v e=> ?_⟩
  cases i with
  |zero=>
   have e':=b8 (by simpa using e)
   subst e'
   exact⟨_,rfl,az0 hk.1 r (hp 0 _ _ rfl rfl)⟩
  |succ i=>
   obtain⟨x,a,b⟩:=g i v (by simpa using e)
   exact⟨x,by simpa using a,b⟩
def prP(zs:List V)(ds:List ac):ac -> ae -> Prop:=λk v=> ∃(i:Nat) (z:V),zs[i]?=some z/\ds[i]?=some k/\RelV z v
theorem ali: ∀{zs:List V} {us:List ae} {ds:List ac},ji zs us -> ∀(i:Nat) (v:ae) (x:ac),us[i]?=some v -> ds[i]?=some x -> prP zs ds x v
 |_,_,_,.nil,i,v,x,a,_=> by simp at a
 | z::zs,u::us,ds,.cons r rs,i,v,x,a,b=> by
  cases i with
  |zero=>
   cases a
   exact⟨0,z,rfl,b,r⟩
  | succ i=>
   cases ds with
   |nil=> cases b
   |cons d ds=>
    obtain⟨j,y,h1,h2,h3⟩:=ali (ds:=ds) rs i v x (by simpa using a) (by simpa using b)
    exact⟨j+1,y,by simpa using h1,by simpa using h2,h3⟩
def a39(X:Cx)(vs:List V)(H:Hp)(Q:VK):Prop:= ∃a zs ds as,vs=[.ref a]/\(SqL X.K H a zs\/SqT X.K H a zs)/\TDs as H zs ds/\ds.all aa4=true/\ds.length+1 <=306/\ ∀p H',New H p (ag9 (prP zs ds) X.w p ds) H' -> Q (.ref p) H'
theorem aph(hc:X.calm=true)(hu:X.A.units+40 < cLine):vk X (.type "set") (a39 X):=by
 intro pins s σ H vs us Q I r h
 obtain⟨a,zs,ds,as,rfl,hS,hT,hk,hl,q⟩:=h
 obtain⟨u,rfl,ru⟩:=vals1 r
 cases ru
 have hh:=I.ok.hd hc
 letI:PV:=alg (prP zs ds)
 have fin: ∀(h':Heap) (tk:Nat),SetT0 X.w s.heap h' s.heap.objs.size (ud ds) -> (∀b o,b < s.heap.objs.size -> s.heap.get? b=some o -> h'.get? b=some o) ->
   EP X pins σ Q (.ref s.heap.objs.size) {s with heap:=h',toks:=tk}:=λh' tk z k=>
  ⟨.ref s.heap.objs.size,upd H s.heap.objs.size (ag9 (prP zs ds) X.w s.heap.objs.size ds),I.laid (λb u e=> k b u (az e) e) (av _) (auu z),rfl,q _ _ ⟨I.fresh,rfl⟩⟩
 rcases hS with hS|hS
 ·obtain⟨its,rv,⟨o,n,e,c,dd,d⟩,z⟩:=I.list hS
  obtain⟨bs,ra⟩:=TDs.reads I hT rv
  obtain⟨l1,g1⟩:=abc ra hk (ali rv)
  exact ais hh (.inl rfl) e c d hu ds (by rw [aE];exact l1.symm) (λi v q=> g1 i v (by simpa using q)) (by rw [aE,l1];exact hl) fin
 ·obtain⟨its,rv,⟨o,e,c,n,d⟩,z⟩:=I.tuple hS
  obtain⟨bs,ra⟩:=TDs.reads I hT rv
  obtain⟨l1,g1⟩:=abc ra hk (ali rv)
  exact ais hh (.inr rfl) e c d hu ds (by rw [aE];exact l1.symm) (λi v q=> g1 i v (by simpa using q)) (by rw [aE,l1];exact hl) fin
end PF
namespace PF
open PySem PySem.Spec
open L2
theorem aga{α β:Type}{R:α -> β -> Prop}: ∀{l:List α},(∀a∈l,∃b,R a b) -> ∃qs:List (α×β),qs.map (·.1)=l/\ ∀q∈qs,R q.1 q.2
 |[],_=> ⟨[],rfl,λq h=> by cases h⟩
 |a::l,h=> by
  obtain⟨b,hb⟩:=h a au
  obtain⟨qs,e,hq⟩:=aga λx hx=> h x (aw _ hx)
  refine⟨(a,b)::qs,by rw [aK,e],λq m=> ?_⟩
  rcases aA.mp m with z|z
  ·rw [z];exact hb
  ·exact hq q z
theorem ay3{α β:Type}{f:α -> β}{l:List α}{ys:List β}(h:ys.Perm (l.map f)): ∃qs:List α,qs.Perm l/\qs.map f=ys:=by
 generalize hz:l.map f=zs at h
 induction h generalizing l with
 |nil=>
  cases l with
  |nil=> exact⟨[],.refl _,rfl⟩
  |cons a b=> cases hz
 | cons x h ih=>
  cases l with
  |nil=> cases hz
  |cons a b=>
   cases hz
   obtain⟨qs,p,e⟩:=ih rfl
   exact⟨a::qs,p.cons a,by rw [aK,e]⟩
 | swap x y r=>
  match l,hz with
  |a::b::c,hz=>
   cases hz
   exact⟨b::a::c,.swap _ _ _,rfl⟩
 |trans h1 h2 ih1 ih2=>
  obtain⟨q2,p2,e2⟩:=ih2 hz
  obtain⟨q1,p1,e1⟩:=ih1 e2
  exact⟨q1,p1.trans p2,e1⟩
theorem akg{α:Type}{f:α -> V}{g:α -> ae}: ∀{l:List α},(∀a∈l,RelV (f a) (g a)) -> ji (l.map f) (l.map g)
 |[],_=>.nil
 |a::l,h=>.cons (h a au) (akg λx hx=> h x (aw _ hx))
theorem am0{as:As}{H:Hp}{α:Type}{f:α -> V}{g:α -> ac}: ∀{l:List α},(∀a∈l,TD as H (f a) (g a)) -> TDs as H (l.map f) (l.map g)
 |[],_=>.nil
 |a::l,h=>.cons (h a au) (am0 λx hx=> h x (aw _ hx))
theorem TDs.get2{as:As}{H:Hp}: ∀{zs:List V} {ds:List ac} {i:Nat} {z:V} {d:ac},TDs as H zs ds -> zs[i]?=some z -> ds[i]?=some d -> TD as H z d
 |_,_,i,z,d,.nil,h,_=> by simp at h
 |_,_,0,z,d,.cons a _,h1,h2=> by
  cases h1;cases h2;exact a
 |_,_,i+1,z,d,.cons _ r,h1,h2=> TDs.get2 r (by simpa using h1) (by simpa using h2)
theorem akb(hc:X.calm=true)(hu:X.A.units+70 < cLine):vk X (.builtin "sorted") (λvs H Q=> ∃a zs0 ds0 as,vs=[.ref a]/\H a=some (ag9 (prP zs0 ds0) X.w a ds0)/\TDs as H zs0 ds0/\(ud ds0).length < 64/\j9 (ud ds0)=true/\(ud ds0).all okD=true/\ ∀zs p H',New H p (.lst zs) H' -> TDs as H zs (kr (ud ds0)) -> Q (.ref p) H'):=by
 intro pins s σ H vs us Q I r h
 obtain⟨a,zs0,ds0,as,rfl,e,td,h64,hcm,hok,q⟩:=h
 obtain⟨u,rfl,ru⟩:=vals1 r
 cases ru
 have hh:=I.ok.hd hc
 letI:PV:=alg (prP zs0 ds0)
 obtain⟨⟨h0,hS⟩,_,_⟩:=(show jq X.prog X.w H s.heap a (ag9 (prP zs0 ds0) X.w a ds0) from I.hok a _ e)
 obtain⟨o,es,ep,t,kt,eo,ex,d,T,pm⟩:=hS.ex
 have hb:es.size <=306:=by rcases T.msk with ⟨_,c⟩|⟨_,c⟩|⟨_,c⟩|⟨_,c⟩ <;> lia
 have tx:ajx X.w es.size t:=⟨T.led,λ_=>.inr T.ok.ris⟩
 refine ag7 hu λR k=> ajl (by exact hh) eo ex d T.fits (Nat.lt_of_le_of_lt hb (by decide)) tx λh' d' tk ord p kp=> ?_
 obtain⟨zs,ez,ekt,hz⟩:=akf (h:=h0) kt es.toList (by rw [T.len,ar]) (λi k hk=> by
  obtain⟨v,e1,e2⟩:=T.el i k hk
  exact⟨v,by rw [aZ];exact e1,e2⟩)
 obtain⟨qs,eq,hq⟩:=aga (l:=zs) (R:=λ(p:ac×ae) (z:V)=> RelV z p.2/\TD as H z p.1) (λp hp=> by
  obtain⟨i,z,z1,z2,z3⟩:=(hz p hp).pv
  exact⟨z,z3,td.get2 z1 z2⟩)
 have eu:es.toList.map (·.2)=qs.map λq=> q.1.2:=by rw [ez,←eq,bj,bj];rfl
 rw [eu]at p
 obtain⟨rs,pr,er⟩:=ay3 p
 have hr: ∀q∈rs,RelV q.2 q.1.2/\TD as H q.2 q.1.1:=λq m=> hq q (pr.mem_iff.mp m)
 have vz:ji (rs.map (·.2)) ord:=by rw [←er];exact akg λq m=> (hr q m).1
 have tz:TDs as H (rs.map (·.2)) (rs.map λq=> q.1.1):=am0 λq m=> (hr q m).2
 have pk:(rs.map λq=> q.1.1).Perm (ud ds0):=by
  refine (pr.map _).trans ?_
  rw [show (qs.map λq=> q.1.1)=kt by rw [←ekt,←eq,bj];rfl]
  exact pm
 generalize hks:(rs.map λq=> q.1.1)=ks at tz pk
 generalize hzs:rs.map (·.2)=zs1 at vz tz
 obtain⟨bs,ra⟩:=TDs.reads I tz vz
 have cks:j9 ks=true:=by
  unfold j9 at hcm⊢
  simp only [aC,aD]at hcm⊢
  exact λx hx=> ⟨(hcm x (pk.mem_iff.mp hx)).1,λy hy=> (hcm x (pk.mem_iff.mp hx)).2 y (pk.mem_iff.mp hy)⟩
 have oks:ks.all okD=true:=by
  rw [aC]at hok⊢
  exact λx hx=> hok x (pk.mem_iff.mp hx)
 have es1:kr ks=kr (ud ds0):=afs hcm ((ya ks).trans pk) (ae2 cks)
 refine k h' d' tk ord bs ks (by rw [pk.length_eq];exact h64) cks oks (fJ kp ra) kp λh1 h2 d2 tk2 e' p' pm' es' k1 k1' g k2=> ?_
 have I1:Inv X pins σ H {s with heap:=h1,toks:=s.toks}:=I.un (Un.kept k1) (I.hok.kept k1)
 have lo:ord.length=ks.length:=by rw [←vz.length,tz.length]
 have hlt: ∀i∈p',i < ks.length:=λi hi=> by have:=bA.mp (pm'.mem_iff.mp hi);lia
 have vp:=ae5 vz p' (λi hi=> by rw [tz.length];exact hlt i hi)
 have hlen:p'.length=ks.length:=by rw [pm'.length_eq,cz,lo]
 have I2:Inv X pins σ (upd H h1.objs.size (.lst (p'.map λi=> zs1.getD i .non))) {s with heap:=h2,toks:=tk2}:=I1.laid (t':=tk2) k2 (av _) ⟨by rw [ak,hlen,pk.length_eq,cp];lia,_,e',vp,by simpa [ml] using g⟩
 have tp:=tz.pick p' hlt
 rw [es',es1]at tp
 exact⟨.ref h1.objs.size,_,I2.drew d2,rfl,q _ _ _ ⟨I1.hok.fresh (av _),rfl⟩ tp⟩
def vj(m:Bool)(ds:List D)(s:S):R D:=match ds with
 |[d]=> match (ac4 s d).bind j3 with
  |some ps=> if (ps.all aa4=true/\ps.length+1 <=306)/\(ud ps).length < 64/\j9 (ud ps)=true/\(ud ps).all okD=true then kh m ((kr (ud ps)).map D.da) s else .bad
  |none=>.bad
 |_=>.bad
section
variable[XW]{X:Cx}
theorem alu(m:Bool){f:FA}{p1 p2 pos2:Pos}(hc:X.calm=true)(hu:X.A.units+70 < cLine)(hm1:X.mg "sorted"=none)(hm2:X.mg "set"=none)(ha:RA X [e] f)(hg1:Gl X "sorted":=by rfl)(hg2:Gl X "set":=by rfl)(hs:starEach [e] X.env=(false,eval e X.env)::starEach [] X.env:=by rfl)(hs2:starEach [.Call (.Name "set" p2) [e] [] pos2] X.env=(false,eval (.Call (.Name "set" p2) [e] [] pos2) X.env)::starEach [] X.env:=by rfl)(hpl:(backTo pos (starEach [] X.env)).any (·.1)=false:=by rfl)(hpl2:(backTo pos2 (starEach [] X.env)).any (·.1)=false:=by rfl):
  RE X (.Call (.Name "sorted" p1) [.Call (.Name "set" p2) [e] [] pos2] [] pos) (fCB (vj m) f):=by
 obtain⟨t,pa,ra⟩:=ha.ex
 have pset:=abq (X:=X) (aph hc (by lia)) hg2 hm2 avw pa (pos:=pos2) (p:=p2) (by decide) (by decide) hs hpl2
 have psort:=aft (X:=X) (akb hc hu) hg1 hm1 afh (acd pset aei hs2) (pos:=pos) (p:=p1) (by decide) (by decide) hs2 hpl
 refine⟨_,psort,λas σ H ρ s Q rl en h=> ?_⟩
 refine ra as σ H ρ s _ rl en (Dn.bind h λds s1 as1 H1 vs st1 rl1 r1 h1=> ?_)
 unfold vj at h1
 split at h1
 ·obtain⟨v,rfl,rv⟩:=r1.one
  split at h1
  ·rename_i ps e
   split at h1
   ·rename_i hk
    cases e2:ac4 s1 _ with
    |none=> rw [e2]at e;cases e
    |some xs=>
     rw [e2]at e
     obtain⟨p,zs,rfl,sq,rz⟩:=aci rl1 rv e2
     have ep2:=ye (show j3 xs=some ps from e)
     subst ep2
     have tz:=RDs.td rz
     refine⟨p,zs,ps,as1,rfl,sq,tz,hk.1.1,hk.1.2,λq H2 n2=> ⟨q,zs,ps,as1,rfl,n2.at,tz.mono (ju n2),hk.2.1,hk.2.2.1,hk.2.2.2,λzs2 r H3 n3 t3=> ?_⟩⟩
     exact zb (Dn.step h1 (ju n2)) (rl1.new n2) (t3.rd (K:=X.K)) n3
   ·exact h1.elim
  ·exact h1.elim
 ·exact h1.elim
end
end PF
namespace L2
open PySem PySem.Spec PyProof.Rows
section
variable{P:aL}{w:aO}{A:aX}{E:ae -> ag -> Prop}{s:ag}
structure NAt (b:Bool) (l e i:Addr) (n:Int) (k:Nat) (h:Heap):Prop where
 ne:e≠i
 oe: ∃old,ly h e i n old
 c:vi b h i l k
theorem azv{e i:Addr}{n:Int}{k:Nat}{xs:Array ae}{x:ae}(N:NAt b l e i n k s.heap)(hl:ke b s.heap l xs)(hx:xs[k]?=some x)(hQ: ∀h' t,mL h' e i (n+1) x s.heap.objs.size -> vi b h' i l (k+1) -> h'.get? s.heap.objs.size=some {cls:=.type "tuple",data:=.seq #[.int n s.toks,x]} ->
   (∀c o,c≠e -> c≠i -> s.heap.get? c=some o -> h'.get? c=some o) -> Q (.ref s.heap.objs.size) {s with heap:=h',toks:=t}):
  wpAny (model P w) A (cC.«enumerate.__next__» ⟨[.ref e],[]⟩) (λfin s'=> ∃v,fin=.done (.ret v)/\Q v s') E s:=by
 (obtain⟨hp,g,d,tk,os⟩:=s)
 obtain⟨ne,⟨old,he⟩,hc⟩:=N
 (show wpAny _ _ (field (.ref e) 2 >>=_) _ _ _);refine aa (bB he rfl (x:=.ref i) rfl (aa (aal hc hl hx λh1 c1 e1=> ?_)))
 have e1:bu i hp h1:=e1
 have he1:ly h1 e i n old:=(e1.2 e ne).trans he
 (show wpAny _ _ (field (.ref e) 3 >>=_) _ _ _);refine aa (bB he1 rfl (x:=rawInt n) rfl ?_)
 (show wpAny _ _ (field (.ref e) 4 >>=_) _ _ _);refine aa (bB he1 rfl (x:=.none) rfl ?_)
 (show wpAny _ _ (mkInt n >>=_) _ _ _);refine aa (wpAny_mkInt ?_)
 (show wpAny _ _ (setField (.ref e) 3 (rawInt (n+1))>>=_) _ _ _);refine aa (cj he1 (by simp) λh2 he2 e2=> ?_)
 have e2:bu e h1 h2:=e2
 have he2:ly h2 e i (n+1) old:=he2
 (show wpAny _ _ (setField (.ref e) 4 .none >>=_) _ _ _);refine aa (cj he2 (by simp) λh3 he3 e3=> ?_)
 have e3:bu e h2 h3:=e3
 have he3:ly h3 e i (n+1) old:=he3
 (show wpAny _ _ (newTuple [.int n tk,x]>>=_) _ _ _);refine aa (lj ?_)
 have he4:ly (h3.push {cls:=.type "tuple",data:=.seq #[.int n tk,x]}) e i (n+1) old:=aj _ he3
 have sz:h3.objs.size=hp.objs.size:=by rw [e3.1,e2.1,e1.1]
 have lt:e < hp.objs.size:=az he
 have ht4:(h3.push {cls:=.type "tuple",data:=.seq #[.int n tk,x]}).get? hp.objs.size=some {cls:=.type "tuple",data:=.seq #[.int n tk,x]}:=by rw [←sz];exact ay _ rfl
 have k4: ∀c o,c≠e -> c≠i -> hp.get? c=some o -> (h3.push {cls:=.type "tuple",data:=.seq #[.int n tk,x]}).get? c=some o:=λc o a1 a2 q=> aj _ (e3.extBut _ _ a1 (e2.extBut _ _ a1 (e1.extBut _ _ a2 q)))
 have c4:vi b (h3.push {cls:=.type "tuple",data:=.seq #[.int n tk,x]}) i l (k+1):=c1.to λo q=> aj _ (e3.extBut _ _ ne.symm (e2.extBut _ _ ne.symm q))
 generalize (h3.push {cls:=.type "tuple",data:=.seq #[.int n tk,x]})=h4 at he4 ht4 k4 c4⊢
 (show wpAny _ _ (dU (.ref e)>>=_) _ _ ⟨h4,g,d,tk+1,os⟩);rw [sz]
 refine aa (aa (bB he4 rfl (x:=.none) rfl (af ?_)))
 simp only [if_true]
 refine aa (cI (aa (bB he4 rfl (x:=old) rfl (aa (cj he4 (by simp) λh5 he5 e5=> ?_)))))
 have e5:bu e h4 h5:=e5
 have he5:ly h5 e i (n+1) x:=he5
 (show wpAny _ _ (gl (.ref e) (.ref hp.objs.size)>>=_) _ _ ⟨h5,g,d,tk+1,os⟩);refine aa (aa (cj he5 (by simp) λh6 he6 e6=> ?_))
 have e6:bu e h5 h6:=e6
 have he6:mL h6 e i (n+1) x hp.objs.size:=he6
 refine cj he6 (by simp) λh7 he7 e7=> ?_
 have e7:bu e h6 h7:=e7
 have he7:mL h7 e i (n+1) x hp.objs.size:=he7
 have up: ∀c o,c≠e -> h4.get? c=some o -> h7.get? c=some o:=λc o a1 q=> e7.extBut _ _ a1 (e6.extBut _ _ a1 (e5.extBut _ _ a1 q))
 exact aa (io (af ⟨_,rfl,hQ h7 _ he7 (c4.to λo=> up _ o ne.symm) (up _ _ (dI lt) ht4) λc o a1 a2 q=> up c o a1 (k4 c o a1 a2 q)⟩))
theorem aty{e i:Addr}{n:Int}{k:Nat}{xs:Array ae}{x:ae}{Q:Option ae -> ag -> Prop}(N:NAt b l e i n k s.heap)(hl:ke b s.heap l xs)(hx:xs[k]?=some x)(hQ: ∀h' t,mL h' e i (n+1) x s.heap.objs.size -> vi b h' i l (k+1) -> h'.get? s.heap.objs.size=some {cls:=.type "tuple",data:=.seq #[.int n s.toks,x]} ->
   (∀c o,c≠e -> c≠i -> s.heap.get? c=some o -> h'.get? c=some o) -> Q (some (.ref s.heap.objs.size)) {s with heap:=h',toks:=t}):wpAny (model P w) A (pyNext (.ref e)) Q E s:=
 have hT:s.TypeIs (.ref e) "enumerate":=let ⟨_,h⟩:=N.oe;⟨_,h,rfl⟩
 aa (dX (bf (name:=cf "__next__") hT fG (bg fG hT kR (azv N hl hx λh' t a1 a2 a3 a4=> af (hQ h' t a1 a2 a3 a4)) (jR _))))
theorem ay0{e i:Addr}{n:Int}{k:Nat}{xs:Array ae}{Q:Option ae -> ag -> Prop}(hh:A.handled=none)(N:NAt b l e i n k s.heap)(hl:ke b s.heap l xs)(hx:xs[k]?=none)(hQ: ∀h',fq i s.heap h' -> Q none {s with heap:=h'}):wpAny (model P w) A (pyNext (.ref e)) Q E s:=by
 obtain⟨ne,⟨old,he⟩,hc⟩:=N
 (have hT:s.TypeIs (.ref e) "enumerate":=⟨_,he,rfl⟩)
 refine aa (dX (bf (name:=cf "__next__") hT fG (bg fG hT kR ?_ (jR _))))
 (show wpAny _ _ (field (.ref e) 2 >>=_) _ _ _);refine aa (bB he rfl (x:=.ref i) rfl ?_)
 exact aa (acy hh hc hl hx λh' x e1 ⟨o,ho,hcl⟩=> aa (eF (T:="StopIteration") (b:=true) ⟨o,ho,hcl⟩ il (af (hQ _ e1))))
end
noncomputable def Itn(K:am)(b:Bool)(l:Addr)(n:Int):It:=
 ⟨λi H=> ∃xs x,SqB K b H l xs/\xs[i]?=some x,
   λi H v H'=> ∃T,v=.ref T/\ ∀xs,SqB K b H l xs -> ∃x,xs[i]?=some x/\New H T (.tup [.int (n+i),x]) H',
   λi H=> ∃xs,SqB K b H l xs/\xs.length <=i⟩
theorem atb{x1:Nat}{n:Int}(l e i:Addr):Turn P w K (.Tuple es x1 pos) (Itn K b l n) [e,i] e (λk h=> NAt b l e i (n+k) k h) where
 mem:=by simp
 obj:=λk h ⟨_,⟨old,he⟩,q⟩ c hb=> by
  obtain⟨o1,e1,v1,d1⟩:=q.obj
  (simp only [aA,bM,or_false]at hb)
  rcases hb with rfl|rfl
  ·exact⟨_,he,λv y=> by cases y⟩
  ·exact⟨_,e1,λv y=> by rw [d1]at y;cases y⟩
 keep:=λk h h' ⟨ne,⟨old,he⟩,q⟩ kp=> ⟨ne,⟨old,kp e (by simp) _ he⟩,q.to λo z=> kp i (by simp) o z⟩
 item:=by
  intro X hP hw hK hc k pins s σ H E I hf st hg
  subst hP hw hK
  obtain⟨xs,x,q1,hx⟩:=hg
  obtain⟨its1,rv1,p1⟩:=I.seqB q1
  obtain⟨u1,hu1,ru1⟩:=rv1.get hx
  have lt: ∀c∈ [e,i],c < s.heap.objs.size:=λc hb=> by
   obtain⟨_,⟨old,he⟩,q⟩:=st
   obtain⟨o1,e1,_⟩:=q.obj
   (simp only [aA,bM,or_false]at hb)
   rcases hb with rfl|rfl
   ·exact az he
   ·exact az e1
  refine aty st p1 (x:=u1) (by simpa using hu1) λh' t a1 a2 a3 kp=> ?_
  refine⟨_,rfl,wpAny_letOwnedTupleGo_enum (s:={s with heap:=h',toks:=t}) a1 λh2 he2 sb=> ?_⟩
  have I1:Inv X pins σ (upd H s.heap.objs.size (.tup [.int (n+k),x])) {s with heap:=s.heap.push {cls:=.type "tuple",data:=.seq #[.int (n+k) s.toks,u1]},toks:=t}:=
   I.laid (t':=t) (λc u q=> aj _ q) (av _) ⟨by show 2 <=sizeLine;decide,[.int (n+k) s.toks,u1],.cons ⟨_,rfl⟩ (.cons ru1 .nil),⟨_,ay _ rfl⟩⟩
  have nT: ∀c∈ [e,i],upd H s.heap.objs.size (.tup [.int (n+k),x]) c=none:=λc hb=> by
   rw [j4 (aJ (lt c hb))];exact (hf c hb).1
  have I2:=I1.turnedL (h':=h2) (t':=t) (ch:=[e,i]) (λc o hb q=> by
   have hbe:c≠e:=λy=> hb (by simp [y])
   rw [sb.2 c hbe]
   by_cases hT:c=s.heap.objs.size
   ·subst hT
    rw [ay _ rfl]at q
    cases q
    exact a3
   ·rw [d8 _ _ _ hT]at q
    exact kp c o hbe (λy=> hb (by simp [y])) q) λc hb=> ⟨nT c hb,(hf c hb).2⟩
  refine⟨.ref s.heap.objs.size,_,I2,rfl,⟨_,rfl,λxs' q1'=> ?_⟩,⟨st.ne,⟨u1,?_⟩,a2.to λo=> sb.extBut _ _ st.ne.symm⟩,nT⟩
  ·rw [I.seqB_inj q1' q1]
   exact⟨x,hx,I.fresh,rfl⟩
  ·have:n+((k+1:Nat):Int)=n+k+1:=by lia
   rw [this];exact he2
 done:=by
  intro X hP hw hK hc k pins s σ H E I hf st hg
  subst hP hw hK
  obtain⟨xs,q1,hx⟩:=hg
  obtain⟨its1,rv1,p1⟩:=I.seqB q1
  have l1':=rv1.length
  exact ay0 (I.ok.hd hc) st p1 (by simp;lia) λh' kp=> ⟨rfl,I.turnedL (t':=s.toks) (ch:=[e,i]) (λc o hb q=> kp c o (λy=> hb (by simp [y])) q) hf⟩
 self:=λ_ _ _ _ _ st h=> let ⟨_,he⟩:=st.oe;wpAny_pyIter_enum he h
section
variable{P:aL}{w:aO}{A:aX}{E:ae -> ag -> Prop}{s:ag}
def nH(h:Heap)(b:Bool)(l:Addr)(n:Int):Heap:=(h.push {cls:=.type (ad3 b),data:=.fields #[.ref l,.int 0 0]}).push {cls:=.type "enumerate",data:=.fields #[.none,.bool false,.ref h.objs.size,rawInt n,.none,.none]}
theorem apz(b:Bool)(l:Addr)(xs:Array ae):
  Meets (cC.«enumerate.__new__» ⟨[.type "enumerate",.ref l],[]⟩) (λ_ R s=> ke b s.heap l xs/\R (.ok (.ret (.ref (s.heap.objs.size+1)))) {s with heap:=nH s.heap b l 0}):=
 .of_wp λprog w A R s h=> by
  obtain⟨hp,g,d,tk,os⟩:=s;obtain⟨h1,h⟩:=h
  have hsub:=sub_enumerate
  have L1:ke b (mX ⟨hp,g,d,tk,os⟩) l xs:=h1
  wp_walk
  (refine wpAny_stack_any λst=> af ?_)
  split
  ·rename_i c _ _ _ _ _
   (cases (c==bn "enumerate"))
   ·wp_walk using agr L1
    refine⟨_,rfl,?_⟩
    simp only [aV];exact h
   ·wp_walk using agr L1
    refine⟨_,rfl,?_⟩
    simp only [aV];exact h
  ·wp_walk using agr L1
   refine⟨_,rfl,?_⟩
   simp only [aV];exact h
theorem aul{n:Int}:NAt b l (h.objs.size+1) h.objs.size n 0 (nH h b l n):=by
 have g2:ly (nH h b l n) (h.objs.size+1) h.objs.size n .none:=by
  have:=ay (h.push {cls:=.type (ad3 b),data:=.fields #[.ref l,.int 0 0]}) (o:={cls:=.type "enumerate",data:=.fields #[.none,.bool false,.ref h.objs.size,rawInt n,.none,.none]}) rfl
  rw [aV]at this;exact this
 exact⟨by unfold Addr at*;lia,⟨_,g2⟩,aum (aj _ (ay _ rfl))⟩
theorem auj{xs:Array ae}(h1:ke b s.heap l xs)(h: ∀h',NAt b l (s.heap.objs.size+1) s.heap.objs.size 0 0 h' -> (∀c o,s.heap.get? c=some o -> h'.get? c=some o) -> Q (.ref (s.heap.objs.size+1)) {s with heap:=h'}):
  wpAny (model P w) A (call (.type "enumerate") [.ref l]) Q E s:=by
 refine callType_new F.called_enumerate (by decide) (F.typeCall_enumerate_1 _) (F.newCall_enumerate_1 _) (λobj=> F.args_object_init_2 obj _) F.entry_enumerate_new (apz b l xs) ⟨h1,?_⟩
 have z:=aul (b:=b) (l:=l) (n:=0) (h:=s.heap)
 refine⟨?_,h _ z λc o x=> aj _ (aj _ x)⟩
 obtain⟨_,⟨o,q⟩,_⟩:=z
 exact⟨_,q,rfl⟩
end
theorem aln:bG "enumerate"=some (.type "enumerate"):=by decide+kernel
def a5g(K:am)(ta:TA):TI:=λσ H R=> ta σ H λvs H1=> ∃l xs b,vs=[.ref l]/\SqB K b H1 l xs/\R (Itn K b l 0) H1
theorem azr{x1:Nat}{a:Expr}{ta:TA}{p:Pos}(hg:Gl X "enumerate")(hm:X.mg "enumerate"=none)(ha:PA X [a] ta)(hs:starEach [a] X.env=[(false,eval a X.env)]:=by rfl):
  PI X (.Tuple es x1 tp) (.Call (.Name "enumerate" p) [a] [] pos) (a5g X.K ta):=by
 intro pins s σ H R I h
 refine Call_ (acg I hg hm aln (dJ (thn (ha pos pins s σ H _ I h) λus s1 ⟨vs,H1,I1,r1,q1⟩=> ?_) hs rfl))
 obtain⟨l,xs,b,e,q1,q⟩:=q1
 subst e
 obtain⟨u,rfl,r⟩:=vals1 r1
 cases r
 obtain⟨its1,rv1,p1⟩:=I1.seqB q1
 refine auj p1 λh' Z k=> ?_
 obtain⟨old,he⟩:=Z.oe
 refine wpAny_pyIter_enum (s:={s1 with heap:=h'}) he ?_
 refine⟨s1.heap.objs.size+1,_,_,_,H1,rfl,I1.kept (t':=s1.toks) k,atb (n:=0) l _ _,Z,λb hb=> ?_,q⟩
 have hb':s1.heap.objs.size <=b:=by
  (simp only [aA,bM,or_false]at hb)
  rcases hb with rfl|rfl <;> (unfold Addr at*;lia)
 exact I1.fpOk hb' (I1.hok.fresh hb')
end L2
namespace PF
open PySem PySem.Spec
open L2
variable[XW]
noncomputable def enD:Int -> List ac -> List D
 |_,[]=> []
 |n,x::r=>.tup [.int n,x]::enD (n+1) r
theorem agy: ∀(xs:List ac) (n:Int) (i:Nat),(enD n xs)[i]?=xs[i]?.map λx=> D.tup [.int (n+i),x]
 |[],n,i=> by simp [enD]
 |x::r,n,0=> by simp [enD]
 |x::r,n,i+1=> by
  have e:n+1+(i:Int)=n+((i+1:Nat):Int):=by lia
  rw [enD,cT,cT,agy r (n+1) i,e]
theorem ahf: ∀(xs:List ac) (n:Int),(enD n xs).length=xs.length
 |[],_=> rfl
 |x::r,n=> by rw [enD,aG,aG,ahf r]
def aka(n:Int)(ds:List D)(s:S):R Wk:=match ds with
 | [.ref a]=> match s[a]? with
  |some (.lst es)=> match j3 es with
   |some xs=>.ok (enD n xs,some (a,.lst es)) s
   |none=>.bad
  |_=>.bad
 |[a]=> match sqD a with
  |some (_,xs)=>.ok (enD n xs,none) s
  |_=>.bad
 |_=>.bad
def ao9(n:Int)(f:FA):FI:=λρ s=> (f ρ s).bind (aka n)
theorem a25{n:Int}{ds:List D}{vs:List V}{Q:It -> Hp -> Prop}(rl:Rel K as H s)(r:RDs K as H vs ds)(h:Dn K (aeh K) as H (aka n ds s) Q): ∃l xs b,vs=[.ref l]/\SqB K b H l xs/\Q (Itn K b l n) H:=by
 unfold aka at h
 split at h
 ·rename_i n0
  obtain⟨v,rfl,rv⟩:=r.one
  split at h
  ·rename_i es e
   split at h
   ·rename_i xd px
    cases rv with
    | @ref pp _ l hr=>
     obtain⟨ha,xs,hx,rs⟩:=y6 rl hr e
     refine⟨pp,xs,true,rfl,SqL.of hx,Dn.now (Q:=Q) h rl ?_⟩
     intro as2 H2 s2 st2 rl2 so i
     have so':s2[n0]?=some (O.lst es):=so
     obtain⟨q,hq⟩:=rl2.li _ _ so' (by intro z;cases z)
     have e2:=hq
     have em:=ye px
     subst em
     rcases st2.old _ l with z|z
     ·rw [z]at e2
      cases hr q e2
      obtain⟨ys,hy,rs2⟩:=rl2.ob _ _ _ hq so'
      have sq1:SqB K true H2 pp ys:=SqL.of hy
      refine⟨λhl=> ⟨ys,sq1,by rw [rs2.length,ak];rw [ahf]at hl;exact hl⟩,λd hd=> ?_⟩
      rw [agy]at hd
      cases qq:xd[i]? with
      |none=> rw [qq]at hd;cases hd
      |some pr=>
       rw [qq]at hd
       cases hd
       obtain⟨x,hx,rx⟩:=rs2.get (d:=D.da pr) (by rw [aN,qq];rfl)
       refine⟨⟨ys,x,sq1,hx⟩,λvv H3 hv=> ?_⟩
       obtain⟨T,rfl,hT⟩:=hv
       obtain⟨x',hx',nw⟩:=hT ys sq1
       rw [hx]at hx';cases hx'
       cases rx with
       |da rt=> exact⟨ju nw,rl2.new nw,.da (.tup (λz=> rl2.has z nw.no) nw.at (.cons (.int _) (.cons (rt.mono (ju nw)) .nil)))⟩
     ·rw [z]at e2;cases e2
   ·exact h.elim
  ·exact h.elim
 ·split at h
  ·rename_i d _ b xd ea
   obtain⟨v,rfl,rv⟩:=r.one
   obtain⟨l,xs,rfl,k1,t1⟩:=ahn rv ea
   refine⟨l,xs,_,rfl,k1 as H (Step.refl _ _).toStep0,Dn.now (Q:=Q) h rl ?_⟩
   intro as2 H2 s2 st2 rl2 _ i
   have sq1:=k1 as2 H2 st2
   have u1:=t1.mono0 st2
   refine⟨λhl=> ⟨xs,sq1,by rw [u1.length];rw [ahf]at hl;exact hl⟩,λd hd=> ?_⟩
   rw [agy]at hd
   cases q:xd[i]? with
   |none=> rw [q]at hd;cases hd
   |some pr=>
    rw [q]at hd
    cases hd
    obtain⟨x,hx,rx⟩:=u1.get q
    refine⟨⟨xs,x,sq1,hx⟩,λvv H3 hv=> ?_⟩
    obtain⟨T,rfl,hT⟩:=hv
    obtain⟨x',hx',nw⟩:=hT xs sq1
    rw [hx]at hx';cases hx'
    exact⟨ju nw,rl2.new nw,.da (.tup (λz=> rl2.has z nw.no) nw.at (.cons (.int _) (.cons (rx.mono (ju nw)) .nil)))⟩
  ·exact h.elim
 ·exact h.elim
theorem a09{x1:Nat}{a:Expr}{f:FA}{p:Pos}(hm:X.mg "enumerate"=none)(h:RA X [a] f)(hg:Gl X "enumerate":=by rfl)(hs:starEach [a] X.env=[(false,eval a X.env)]:=by rfl):
  RI X (.Tuple es x1 tp) (.Call (.Name "enumerate" p) [a] [] pos) (ao9 0 f):=by
 obtain⟨t,pa,ra⟩:=h.ex
 refine⟨_,azr hg hm pa hs,λas σ H ρ s Q rl en h=> ?_⟩
 exact ra as σ H ρ s _ rl en (Dn.bind h λds s1 as1 H1 vs st1 rl1 r1 h1=> a25 rl1 r1 h1)
end PF
namespace PF
open PySem PySem.Spec
open L2
variable[XW]
def whF(ft:FT)(fb:FS):Nat -> En -> S -> R Fl
 |0,_,_=>.bad
 | n+1,ρ,s=> (ft ρ s).bind λc s1=> if c=true then (fb ρ s1).bind λfl s2=> match fl with
   |.nx ρ'=> whF ft fb n ρ' s2
   |.ct ρ'=> whF ft fb n ρ' s2
   |.bk ρ'=>.ok (.nx ρ') s2
   |.rt d=>.ok (.rt d) s2
  else .ok (.nx ρ) s1
def ae0(n:Nat)(ft:FT)(fb:FS):FS:=whF ft fb n
theorem asp(n:Nat){c:Expr}(hc:RT X c ft)(hb:RSs X body fb)(hx:XOk X XW.xk:=by assumption):RS X (.While c body [] pos) (ae0 n ft fb):=by
 obtain⟨tc,pc,rc⟩:=hc.ex
 obtain⟨tb,pb,rb⟩:=hb.ex
 refine⟨_,av0 hx.own pc pb,λas σ H ρ s D rl en h=> ?_⟩
 refine⟨λm σ' H'=> ∃as2 ρ2 s2,Step as H as2 H'/\Rel X.K as2 H' s2/\Envs X.K as2 H' ρ2 σ'/\Dn X.K (rF X.K) as2 H' (whF ft fb m ρ2 s2) (v3 D),⟨n,as,ρ,s,Step.refl _ _,rl,en,h⟩,?_⟩
 rintro m σ' H' ⟨as2,ρ2,s2,st2,rl2,en2,h2⟩
 cases m with
 |zero=> exact h2.elim
 | succ m=>
  refine rc as2 σ' H' ρ2 s2 _ rl2 en2 (Dn.bind h2 λk s3 as3 H3 x st3 rl3 r3 h3=> ?_)
  have e1:x=k:=r3
  subst e1
  cases x with
  |true=>
   rw [if_pos rfl]at h3⊢
   refine⟨λσ4 H4=> ∃as4 ρ4 s4,Step as H as4 H4/\Rel X.K as4 H4 s4/\Envs X.K as4 H4 ρ4 σ4/\Dn X.K (rF X.K) as4 H4 (whF ft fb m ρ4 s4) (v3 D),λσ4 H4 q=> ⟨m,dE m,q⟩,?_⟩
   refine rb as3 σ' H3 ρ2 s3 _ rl3 (en2.mono st3) (Dn.bind h3 λfl s5 as5 H5 fv st5 rl5 r5 h5=> ?_)
   cases r5 with
   |nx e=> exact⟨as5,_,s5,(st2.trans st3).trans st5,rl5,e,h5⟩
   |ct e=> exact⟨as5,_,s5,(st2.trans st3).trans st5,rl5,e,h5⟩
   |rt e=> exact (show v3 D (.rt _) H5 from Dn.now (K:=X.K) (rel:=rF X.K) (Q:=v3 D) (b:=FV.rt _) h5 rl5 (rF.rt e))
   |bk e=> exact (show v3 D (.nx _) H5 from Dn.now (K:=X.K) (rel:=rF X.K) (Q:=v3 D) (b:=FV.nx _) h5 rl5 (rF.nx e))
  |false=>
   rw [if_neg ax]at h3⊢
   exact Dn.now (b:=FV.nx σ') h3 rl3 (.nx (en2.mono st3))
noncomputable def zq:FS:=λ_ _=>.bad
theorem a56:RS X st zq:=⟨_,atm,λas σ H ρ s D rl en h=> h.elim⟩
def a1i(n:Nat)(ft:FT)(fb:FS)(fl:Fl)(s:S):R Fl:=match fl with
 |.nx ρ'=> whF ft fb n ρ' s
 |.ct ρ'=> whF ft fb n ρ' s
 |.bk ρ'=>.ok (.nx ρ') s
 |.rt d=>.ok (.rt d) s
def a5b(n:Nat)(ft:FT)(fb:FS)(ρ:En)(c:Bool)(s:S):R Fl:=if c=true then (fb ρ s).bind (a1i n ft fb) else .ok (.nx ρ) s
theorem awd:ae0 (n+1) ft fb ρ s=(ft ρ s).bind (a5b n ft fb ρ):=(rfl)
theorem abz{ft:FT}{fb:FS}{Q:Fl -> S -> Prop}(J:Nat -> En -> S -> Prop)
  (step: ∀m ρ s,J m ρ s -> (ft ρ s).W λc s1=> if c=true then (fb ρ s1).W (flW (λρ' s'=> ∃m',m' < m/\J m' ρ' s') Q) else Q (.nx ρ) s1):
  ∀(n m:Nat) (ρ:En) (s:S),m < n -> J m ρ s -> (ae0 n ft fb ρ s).W Q
 |0,m,_,_,h,_=> by lia
 | n+1,m,ρ,s,h,hJ=> by
  rw [awd,R.W_bind]
  refine R.W_mono (step m ρ s hJ) λc s1 q=> ?_
  cases c with
  |false=> exact q
  | true=>
   rw [if_pos rfl]at q
   show ((fb ρ s1).bind (a1i n ft fb)).W Q
   rw [R.W_bind]
   refine R.W_mono q λfl s2 q2=> ?_
   cases fl with
   |nx ρ'=>
    obtain⟨m',hm,j⟩:=(show∃m',m' < m/\J m' ρ' s2 from q2)
    exact abz J step n m' ρ' s2 (by lia) j
   |ct ρ'=>
    obtain⟨m',hm,j⟩:=(show∃m',m' < m/\J m' ρ' s2 from q2)
    exact abz J step n m' ρ' s2 (by lia) j
   |bk ρ'=> exact q2
   |rt d=> exact q2
end PF
namespace PF
open PySem PySem.Spec
open L2
variable[XW]
end PF
namespace PF
open PySem PySem.Spec
open L2
variable[XW]
end PF
namespace PF
open PySem PySem.Spec
open L2
variable[XW]
end PF
namespace PF
open PySem PySem.Spec
open L2
variable[XW]
end PF
namespace PF
open PySem PySem.Spec
open PySem.SeqAt
variable[XW]
end PF
namespace PF
open PySem L2
theorem a98{k:Int}{f:FA}:ao9 k f ρ s=(f ρ s).bind (aka k):=(rfl)
end PF
namespace PF
open PySem PySem.Spec PyProof.Rows
open L2
variable[XW]
end PF
namespace PF
open PySem L2
variable{ρ:En}{s:S}{ct:a5d}{f m C:Str}{n k:Nat}{fs:List (Str×D)}{x d:D}
end PF
namespace PF
open PySem PySem.Spec
open L2
variable[XW]
end PF
namespace L2
open PySem PySem.Spec PyProof.Rows
theorem KE.at{kvs:List (ac×V)}{xs:List (ac×Addr×ae)}(r:KE H kvs xs): ∀(i:Nat) (p:ac×V),kvs[i]?=some p -> ∃q,xs[i]?=some q/\KD H (.ref q.2.1) p.1:=by
 induction r with
 |nil=> intro i p e;cases e
 | @cons p q ps qs h t ih=>
  intro i p' e
  cases i with
  |zero=> cases e;exact⟨q,rfl,h.2.1.2⟩
  |succ i=> exact ih i p' e
end L2
namespace PF
open PySem PySem.Spec
open L2
variable[XW]
end PF
namespace PF
open PySem PySem.Spec
open L2
open PyProof.Rows (envOfC)
section XWs
variable[XW]
end XWs
end PF
namespace L2
open PySem PySem.Spec PyProof.Rows EX
noncomputable def a69(j:Nat)(D:Ends):Ends:={nx:=λσ H=> D.nx (σ.set j none) H,rt:=D.rt,bk:=λσ H=> D.bk (σ.set j none) H,ct:=λσ H=> D.ct (σ.set j none) H}
def hE(K:am)(Ca:Addr)(j:Option Nat)(th:TS)(D:Ends):XE:=λσ p H=> ∃C fs,H p=some (.exx C fs)/\ClsX K C/\PySem.W.exmOne K (.ref C) (.ref Ca)=some true/\match j with
 |none=> th D σ H
 |some j=> th (a69 j D) (σ.set j (some (.ref p))) H
variable{X:Cx}{e:Expr}{es:List Expr}{p pos tp:Pos}{k:ExprContext}{te:TE}
end L2
namespace PF
open PySem PySem.Spec
open L2 EX
variable[XW]
end PF
namespace PF
open PySem PySem.Spec
open L2
variable[XW]
end PF
namespace Ln
open PySem L2 PF
def top(i:Nat):Stmt:=PySem.Challenge.pw_mannerports_k61_wish_papers_let_by.main.body.getD i (.Pass ⟨0,0,0,0⟩)
noncomputable abbrev agc:Stmt:=top 4
noncomputable abbrev af7:Stmt:=top 5
noncomputable abbrev agq:Stmt:=top 6
noncomputable abbrev af6:Stmt:=top 7
noncomputable abbrev agu:Stmt:=top 10
noncomputable abbrev ac6:Stmt:=top 12
noncomputable abbrev ae7:Stmt:=top 13
abbrev adt:Stmt:=top 15
abbrev af3:Stmt:=top 17
noncomputable abbrev acn:Stmt:=top 18
noncomputable abbrev abi:Stmt:=top 19
abbrev afb:Stmt:=top 20
abbrev adm:Stmt:=top 21
abbrev adj:Stmt:=top 22
abbrev ajv:Stmt:=top 23
abbrev afa:Stmt:=top 25
abbrev af9:Stmt:=top 26
abbrev afd:Stmt:=top 27
abbrev ado:Stmt:=top 28
abbrev aec:Stmt:=top 29
abbrev af4:Stmt:=top 30
abbrev af8:Stmt:=top 31
abbrev adl:Stmt:=top 32
abbrev ag3:Stmt:=top 33
abbrev aej:Stmt:=top 34
abbrev afc:Stmt:=top 35
abbrev aai:Stmt:=top 36
structure Txt0 (K:am) (mg:Str -> Option ae):Prop where
 h_is_whole:Has K mg "is_whole" agc ["thing"]
 h_is_from_0:Has K mg "is_from_0" af7 ["thing"]
 h_is_below:Has K mg "is_below" agq ["many","thing"]
 h_is_rising:Has K mg "is_rising" af6 ["things"]
 h_is_thing:Has K mg "is_thing" agu ["things","thing"]
 h_is_moment_of:Has K mg "is_moment_of" ac6 ["things","ports","thing"]
 h_is_passing:Has K mg "is_passing" ae7 ["things","ports","pair"]
 h_are_stands:Has K mg "are_stands" adt ["many","thing"]
 h_lets_wish:Has K mg "lets_wish" af3 ["table","wish","thing"]
 h_is_can_paper:Has K mg "is_can_paper" acn ["table","thing"]
 h_is_waits_paper:Has K mg "is_waits_paper" abi ["table","thing"]
 h_check_can:Has K mg "check_can" afb ["table","wish","ranks"]
 h_goes_nearer:Has K mg "goes_nearer" adm ["wish","ranks","begin","moment","end"]
 h_check_waits:Has K mg "check_waits" adj ["table","wish","walk","stands"]
 h_end_of:Has K mg "end_of" ajv ["table","walk"]
 h__law_tape:Has K mg "_law_tape" afa ["_law_script"]
 h__law_draw:Has K mg "_law_draw" af9 ["_law_tape_here","_law_many"]
 h__law_seen:Has K mg "_law_seen" afd ["_law_tape_here","_law_most"]
 h__law_moment:Has K mg "_law_moment" ado ["_law_tape_here","_law_seen_here","_law_things"]
 h__law_table:Has K mg "_law_table" aec ["_law_tape_here","_law_most","_law_seen_here"]
 h__law_wish:Has K mg "_law_wish" af4 ["_law_tape_here","_law_seen_here"]
 h__law_from:Has K mg "_law_from" af8 ["_law_table_here","_law_stand"]
 h__law_levels:Has K mg "_law_levels" adl ["_law_table_here","_law_wish_here"]
 h__law_can:Has K mg "_law_can" ag3 ["_law_tape_here","_law_table_here","_law_wish_here"]
 h__law_waits:Has K mg "_law_waits" aej ["_law_tape_here","_law_table_here","_law_wish_here"]
 h__law_told:Has K mg "_law_told" afc ["_law_table_here","_law_wish_here","_law_thing"]
 h_law:Has K mg "law" aai ["_law_script"]
 c_MOST_THINGS: ∃t,mg "MOST_THINGS"=some (.int 3 t)
 n_len:mg "len"=none
 n_max:mg "max"=none
 n_repr:mg "repr"=none
 n_sorted:mg "sorted"=none
 n_list:mg "list"=none
 n_tuple:mg "tuple"=none
 n_set:mg "set"=none
 n_range:mg "range"=none
 n_isinstance:mg "isinstance"=none
 n_int:mg "int"=none
 n_bool:mg "bool"=none
 n_all:mg "all"=none
 n_zip:mg "zip"=none
 n_enumerate:mg "enumerate"=none
 n_ValueError:mg "ValueError"=none
local macro_rules | `(tactic| walk_at $s:str) => do
 let n := s.getString
 unless n.startsWith "ok" do Lean.Macro.throwUnsupported
 let x := (n.drop 2).toString
 let i (p : String) := cP (p ++ x).toName
 let sc := cP `sc
 let hr := cP `hr
 `(tactic| (have $sc:ident := $(i "sc"); exact a1p $(i "T.h_") $sc rfl rfl λf cdv A outer s H E I hx $hr => by unfold $(i "B"):ident; walk_at "dr"))
local macro_rules | `(tactic| walk_at "cl") => do
 let T := cP `T
 let ns := "okis_whole okis_from_0 okis_below okis_rising okis_thing okis_passing okis_moment_of okare_stands okis_can_paper okis_waits_paper okgoes_nearer okcheck_can okend_of okcheck_waits oklets_wish ok_law_tape ok_law_draw ok_law_seen ok_law_moment ok_law_table ok_law_wish ok_law_from ok_law_levels ok_law_can ok_law_waits ok_law_told"
 let a : h8 `tactic ← `(tactic| first | assumption)
 let r ← (ns.splitOn " ").foldrM (init := a) λn (acc : h8 `tactic) => `(tactic| first | exact $(cP n.toName) $T | $acc:tactic)
 return r
theorem asr:v4 X scope [] []:=trivial
theorem ar3{ys:List Str}{j:Nat}(h:ap6 X scope y j)(k:v4 X scope ys js):v4 X scope (y::ys) (j::js):=⟨h,k⟩
local macro_rules | `(tactic| walk_at "dr") => do
 let T := cP `T
 let hr := cP `hr
 let sc := cP `sc
 let ns := "agg:_ ajd: a9j:?? a95:??? a9n: akd: a8v:_? a8t:? a7z: a8i:??? a7m:? a8e:?? auk:_??? a7x:? a7n:? a5a:????? a9w:?? a6g: a9r:???|ah1:?? azy:|an0:? a5x:?? a75:|a2a:? a9b:??? a56: a6x:? a8p:??|a7f:??? a7b:? a8b:?|a9h:?? a7t:? a6z:? a8c:??|a7y:?|a6f:????|aze:? ayc:|a62: a5m:?"
 let q ← `(?_)
 let u ← `(_)
 let gs ← (ns.splitOn "|").mapM λl => do
  let e ← `(tactic| fail)
  (l.splitOn " ").foldrM (init := e) λx (acc : h8 `tactic) => do
   let p := x.splitOn ":"
   let f := cP p.head!.toName
   let as := (p.getLast!.toList.map λc => if c == '?' then q else u).toArray
   if as.isEmpty then `(tactic| first | exact $f | $acc:tactic) else `(tactic| first | refine $f $as* | $acc:tactic)
 let g (i : Nat) : h8 `tactic := gs.getD i ⟨.missing⟩
 `(tactic|
  ((repeat' first
 | (show RE _ _ _; first
  | $(g 0):tactic
  | refine a20 (by walk_at "cl") (($hr).mono (by first | decide | lia)) ?_
  | refine ad1 ant ($T).n_len avg ?_
  | refine ad1 a4r ($T).n_isinstance al1 ?_
  | refine a1m (a2f (u70 $hr)) ?_ ?_
  | exact agz ($T).n_tuple am4
  | refine a38 ayq ($T).n_tuple am4 ?_
  | refine ad1 (a4n rfl) ($T).n_all a3w ?_
  | refine a3g PySem.F.slot_list_append PySem.F.type_list_append avb ?_ ?_
  | refine ad1 (au2 _ (u70 $hr)) ($T).n_sorted afh ?_
  | refine alu false rfl (u70 $hr) ($T).n_sorted ($T).n_set ?_
  | refine ad1 a0h ($T).n_len avg ?_
  | refine ad1 (a1h $hr) ($T).n_repr a0x ?_
  | exact agz ($T).n_int a3h
  | exact agz ($T).n_bool a2w
  | exact axb ($T).c_MOST_THINGS
  | exact azl (u70 $hr) (ahg akd (auk false (agg 0) ayc (aze ajd)) (ahg akd ajd (ahg akd ajd a07)))
  | refine az7 false (($hr).hd) ($T).n_list ?_
  | refine ad1 (a17 rfl) ($T).n_max a4h ?_
  | refine alp false rfl (u70 $hr) ($T).n_sorted ($T).n_set ?_
  | refine' avs _ (own := [_]) (caps := _) _ _ _ _ _ _ _ _ _ _ _
  | refine' avs _ (own := [_, _]) (caps := _) _ _ _ _ _ _ _ _ _ _ _)
 | (show RA _ _ _; first
  | $(g 1):tactic
  | exact arp rfl)
 | (show RSs _ _ _; first
  | $(g 2):tactic)
 | (show RS _ _ _; first
  | refine' al0 (own := [_]) (caps := _) (u70 $hr) _ _ _ _ _ _ _ _ _ _ _ _ _ _ _ _
  | refine' al3 _ (own := [_]) (caps := _) _ _ _ _ _ _ _ _ _ _ _ _ _ _ _
  | refine' al0 (own := [_, _, _]) (caps := _) (u70 $hr) _ _ _ _ _ _ _ _ _ _ _ _ _ _ _ _
  | refine' al3 _ (own := [_, _, _]) (caps := _) _ _ _ _ _ _ _ _ _ _ _ _ _ _ _
  | $(g 3):tactic
  | refine a2v ?_ rfl (by first | exact gJ rfl | exact gc rfl) ?_
  | refine a18 rfl ?_ ?_ ?_
  | refine az8 (ay9 (u70 $hr)) ?_ ?_ ?_
  | refine asp 100 ?_ ?_)
 | (show RT _ _ _; first
  | $(g 4):tactic
  | refine RW.rt ?_)
 | (show RW _ _ _; first
  | $(g 5):tactic)
 | (show RI _ _ _ _; first
  | $(g 6):tactic
  | refine a2n ($T).n_range ?_
  | refine a09 ($T).n_enumerate ?_
  | refine axo ($T).n_zip ?_)
 | (show RG _ _ _; first
  | $(g 7):tactic
  | refine a43 rfl ?_ ?_ ?_
  | refine a4e rfl ?_ ?_)
 | (show ROp _ _ _; first
  | $(g 8):tactic)
 | (show RIfs _ _ _; first
  | $(g 9):tactic)
 | (show Op2 _ _ _; with_reducible first | refine a5n ?_ | refine a65 ?_ | refine a3x ?_ | refine a64 ?_ | refine axn ?_ | refine av3 ?_ | exact a4w _ | exact a3e | exact a5i | exact a59 | exact a5p | exact azd | exact atr | exact a66 | exact a4c | exact a5q | exact a3z | exact a3q | exact a49)
 | (show _ < cLine; first | exact u64 $hr | exact u65 $hr | exact u66 $hr | exact u70 $hr)
 | exact gJ ⟨rfl, rfl⟩
 | exact asr
 | refine' ar3 ⟨rfl, by first | exact gc (gJ rfl) | exact gJ rfl | exact gc (gc rfl), rfl, rfl⟩ _
 | (show _ = _; exact rfl)
 | (show Loc _ _; first | exact gJ rfl | exact gc rfl)
 | (show _ \/ _; first | exact gJ rfl | exact gc rfl)
 | (intro _ _ _ _ _ _; show RE _ _ _)
 | (intro _ _ _ _; show RG _ _ _)
 | (intro _ _ _ _ _ _; show RIfs _ _ _)
 | (intro _ _ _ _; show RI _ _ _ _)); all_goals first | exact ($sc).nd | exact (show (_ ++ _ : List Str).Nodup by decide +kernel)))
variable{P:aL}{w:aO}{K:am}{mg:Str -> Option ae}{base:Heap}
def Bis_whole:FS:=
  (jt (adc (fCB zm (jb (ja 0) (jb (fC (.ty "int")) jc))) (a1z (fCB zm (jb (ja 0) (jb (fC (.ty "bool")) jc))))))
def aap:FF:=j7 1 Bis_whole
theorem arh:aap [a0] s=(Bis_whole [some a0] s).bind jw:=rfl
theorem scis_whole:FnScope ["thing"] ["thing"] (je agc):=⟨rfl,rfl,rfl,by decide+kernel,rfl,by decide+kernel,by decide+kernel⟩
theorem okis_whole(T:Txt0 K mg):CalF P w K mg base "is_whole" 1 1 aap:=by walk_at "okis_whole"
def Bis_from_0:FS:=
  (jt (adc (jh 1 aap (jb (ja 0) jc)) (fOp gGe (ja 0) (fC (.da (.int 0))))))
def aax:FF:=j7 1 Bis_from_0
theorem aoq:aax [a0] s=(Bis_from_0 [some a0] s).bind jw:=rfl
theorem scis_from_0:FnScope ["thing"] ["thing"] (je af7):=⟨rfl,rfl,rfl,by decide+kernel,rfl,by decide+kernel,by decide+kernel⟩
theorem okis_from_0(T:Txt0 K mg):CalF P w K mg base "is_from_0" 2 1 aax:=by walk_at "okis_from_0"
def Bis_below:FS:=
  (jt (adc (jh 1 aap (jb (ja 1) jc)) (agv gLe gLt (fC (.da (.int 0))) (ja 1) (ja 0))))
def zd:FF:=j7 2 Bis_below
theorem ar0:zd [a0,a1] s=(Bis_below [some a0,some a1] s).bind jw:=rfl
theorem scis_below:FnScope ["many","thing"] ["many","thing"] (je agq):=⟨rfl,rfl,rfl,by decide+kernel,rfl,by decide+kernel,by decide+kernel⟩
theorem okis_below(T:Txt0 K mg):CalF P w K mg base "is_below" 2 2 zd:=by walk_at "okis_below"
def Bis_rising:FS:=
  (jt (fCB ae8 (jb (fLc false [] 2 (ap2 (jb (ja 0) (jb (fSl false (ja 0) (aaz (fC (.da (.int 1)))) fNo) jc))) (.t2 (.nm 0) (.nm 1)) abe (fOp gLt (ja 0) (ja 1))) jc)))
def aaw:FF:=j7 1 Bis_rising
theorem ana:aaw [a0] s=(Bis_rising [some a0] s).bind jw:=rfl
theorem scis_rising:FnScope ["things"] ["things"] (je af6):=⟨rfl,rfl,rfl,by decide+kernel,rfl,by decide+kernel,by decide+kernel⟩
theorem okis_rising(T:Txt0 K mg):CalF P w K mg base "is_rising" 1 1 aaw:=by walk_at "okis_rising"
def Bis_thing:FS:=
  (jt (jh 2 zd (jb (ja 0) (jb (ja 1) jc))))
def abp:FF:=j7 2 Bis_thing
theorem aq1:abp [a0,a1] s=(Bis_thing [some a0,some a1] s).bind jw:=rfl
theorem scis_thing:FnScope ["things","thing"] ["things","thing"] (je agu):=⟨rfl,rfl,rfl,by decide+kernel,rfl,by decide+kernel,by decide+kernel⟩
theorem okis_thing(T:Txt0 K mg):CalF P w K mg base "is_thing" 3 2 abp:=by walk_at "okis_thing"
def Bis_passing:FS:=
  (jd (jy (yc (xv (yp (fCB zm (jb (ja 2) (jb (fC (.ty "tuple")) jc))))) (jf (fOp gNe (fCB vo (jb (ja 2) jc)) (fC (.da (.int 2)))))) (jt (fC (.da (.bool false)))) jp)
  (jt (adc (fOp gIn (fOp gIx (ja 2) (fC (.da (.int 0)))) (ja 1)) (jh 2 abp (jb (ja 0) (jb (fOp gIx (ja 2) (fC (.da (.int 1)))) jc))))))
def aak:FF:=j7 3 Bis_passing
theorem alt:aak [a0,a1,a2] s=(Bis_passing [some a0,some a1,some a2] s).bind jw:=rfl
theorem scis_passing:FnScope ["things","ports","pair"] ["things","ports","pair"] (je ae7):=⟨rfl,rfl,rfl,by decide+kernel,rfl,by decide+kernel,by decide+kernel⟩
theorem okis_passing(T:Txt0 K mg):CalF P w K mg base "is_passing" 4 3 aak:=by walk_at "okis_passing"
def Bis_moment_of:FS:=
  (jd (jy (xv (yp (fCB zm (jb (ja 2) (jb (fC (.ty "tuple")) jc))))) (jt (fC (.da (.bool false)))) jp)
  (jd (jj 3 (fC (.da (.str ""))))
  (jd (qj (fIt (ja 2)) (.nm 4) (jd (jy (yc (xv (yp (jh 3 aak (jb (ja 0) (jb (ja 1) (jb (ja 4) jc)))))) (jf (fOp anb (fOp gIx (ja 4) (fC (.da (.int 0)))) (ja 3)))) (jt (fC (.da (.bool false)))) jp)
  (jj 3 (fOp gIx (ja 4) (fC (.da (.int 0)))))))
  (jt (fC (.da (.bool true)))))))
def vg:FF:=j7 5 Bis_moment_of
theorem aiy:vg [a0,a1,a2] s=(Bis_moment_of [some a0,some a1,some a2,none,none] s).bind jw:=rfl
theorem scis_moment_of:FnScope ["things","ports","thing","ahead","pair"] ["things","ports","thing"] (je ac6):=⟨rfl,rfl,rfl,by decide+kernel,rfl,by decide+kernel,by decide+kernel⟩
theorem okis_moment_of(T:Txt0 K mg):CalF P w K mg base "is_moment_of" 5 3 vg:=by walk_at "okis_moment_of"
def Bare_stands:FS:=
  (jd (jy (yc (xv (yp (fCB zm (jb (ja 1) (jb (fC (.ty "tuple")) jc))))) (xv (yp (fCB ae8 (jb (fLc false [0] 1 (fIt (ja 1)) (.nm 0) abe (jh 2 zd (jb (ja 1) (jb (ja 0) jc)))) jc))))) (jt (fC (.da (.bool false)))) jp)
  (jt (adc (fOp gGt (fCB vo (jb (ja 1) jc)) (fC (.da (.int 0)))) (jh 1 aaw (jb (ja 1) jc)))))
def aaj:FF:=j7 2 Bare_stands
theorem alv:aaj [a0,a1] s=(Bare_stands [some a0,some a1] s).bind jw:=rfl
theorem scare_stands:FnScope ["many","thing"] ["many","thing"] (je adt):=⟨rfl,rfl,rfl,by decide+kernel,rfl,by decide+kernel,by decide+kernel⟩
theorem okare_stands(T:Txt0 K mg):CalF P w K mg base "are_stands" 3 2 aaj:=by walk_at "okare_stands"
def Bis_can_paper:FS:=
  (jd (jy (yc (xv (yp (fCB zm (jb (ja 1) (jb (fC (.ty "tuple")) jc))))) (yc (jf (fOp gNe (fCB vo (jb (ja 1) jc)) (fC (.da (.int 2))))) (jf (fOp gNe (fOp gIx (ja 1) (fC (.da (.int 0)))) (fC (.da (.str "can"))))))) (jt (fC (.da (.bool false)))) jp)
  (jd (jj 2 (fOp gIx (ja 1) (fC (.da (.int 1)))))
  (jd (jy (yc (xv (yp (fCB zm (jb (ja 2) (jb (fC (.ty "tuple")) jc))))) (jf (fOp gNe (fCB vo (jb (ja 2) jc)) (fOp gIx (ja 0) (fC (.da (.int 1))))))) (jt (fC (.da (.bool false)))) jp)
  (jt (fCB ae8 (jb (fLc false [] 1 (fIt (ja 2)) (.nm 0) abe (fOr (fOp gIs (ja 0) (fC (.da (.none)))) (jh 1 aax (jb (ja 0) jc)))) jc))))))
def xh:FF:=j7 3 Bis_can_paper
theorem adn:xh [a0,a1] s=(Bis_can_paper [some a0,some a1,none] s).bind jw:=rfl
theorem scis_can_paper:FnScope ["table","thing","ranks"] ["table","thing"] (je acn):=⟨rfl,rfl,rfl,by decide+kernel,rfl,by decide+kernel,by decide+kernel⟩
theorem okis_can_paper(T:Txt0 K mg):CalF P w K mg base "is_can_paper" 3 2 xh:=by walk_at "okis_can_paper"
def Bis_waits_paper:FS:=
  (jd (jy (yc (xv (yp (fCB zm (jb (ja 1) (jb (fC (.ty "tuple")) jc))))) (yc (jf (fOp gNe (fCB vo (jb (ja 1) jc)) (fC (.da (.int 3))))) (jf (fOp gNe (fOp gIx (ja 1) (fC (.da (.int 0)))) (fC (.da (.str "waits"))))))) (jt (fC (.da (.bool false)))) jp)
  (jd (av4 (.t3 (.nm 2) (.nm 3) (.nm 4)) (ja 1))
  (jd (jy (yc (xv (yp (fCB zm (jb (ja 3) (jb (fC (.ty "tuple")) jc))))) (xv (yp (jh 2 aaj (jb (fOp gIx (ja 0) (fC (.da (.int 1)))) (jb (ja 4) jc)))))) (jt (fC (.da (.bool false)))) jp)
  (jt (fCB ae8 (jb (fLc false [0] 1 (fIt (ja 3)) (.nm 0) abe (adc (fCB zm (jb (ja 0) (jb (fC (.ty "tuple")) jc))) (adc (fOp gEq (fCB vo (jb (ja 0) jc)) (fC (.da (.int 2)))) (jh 2 zd (jb (fOp gIx (ja 1) (fC (.da (.int 1)))) (jb (fOp gIx (ja 0) (fC (.da (.int 1)))) jc)))))) jc))))))
def xt:FF:=j7 5 Bis_waits_paper
theorem agd:xt [a0,a1] s=(Bis_waits_paper [some a0,some a1,none,none,none] s).bind jw:=rfl
theorem scis_waits_paper:FnScope ["table","thing","word","walk","stands"] ["table","thing"] (je abi):=⟨rfl,rfl,rfl,by decide+kernel,rfl,by decide+kernel,by decide+kernel⟩
theorem okis_waits_paper(T:Txt0 K mg):CalF P w K mg base "is_waits_paper" 4 2 xt:=by walk_at "okis_waits_paper"
def Bgoes_nearer:FS:=
  (jd (jy (jf (fOp gIs (fOp gIx (ja 1) (ja 2)) (fC (.da (.none))))) (jt (fC (.da (.bool false)))) jp)
  (jd (jy (jf (fOp gEq (fOp gIx (ja 1) (ja 2)) (fC (.da (.int 0))))) (jt (fOp gIn (ja 0) (ja 3))) jp)
  (jt (fOp gLt (fOp gIx (ja 1) (ja 4)) (fOp gIx (ja 1) (ja 2))))))
def zj:FF:=j7 5 Bgoes_nearer
theorem al5{a3 a4:D}:zj [a0,a1,a2,a3,a4] s=(Bgoes_nearer [some a0,some a1,some a2,some a3,some a4] s).bind jw:=rfl
theorem scgoes_nearer:FnScope ["wish","ranks","begin","moment","end"] ["wish","ranks","begin","moment","end"] (je adm):=⟨rfl,rfl,rfl,by decide+kernel,rfl,by decide+kernel,by decide+kernel⟩
theorem okgoes_nearer(T:Txt0 K mg):CalF P w K mg base "goes_nearer" 1 5 zj:=by walk_at "okgoes_nearer"
def Bcheck_can:FS:=
  (jd (jy (jf (fOp gIs (fOp gIx (ja 2) (fC (.da (.int 0)))) (fC (.da (.none))))) zq jp)
  (jd (qj (fIt (fOp gIx (ja 0) (fC (.da (.int 2))))) (.t3 (.nm 3) (.nm 4) (.nm 5)) (jy (vt (jf (fOp aaq (fOp gIx (ja 2) (ja 3)) (fC (.da (.none))))) (jf (fOp gIs (fOp gIx (ja 2) (ja 5)) (fC (.da (.none)))))) zq jp))
  (jd (jj 6 (fDc [1,2] 3 (fIt (fOp gIx (ja 0) (fC (.da (.int 2))))) (.t3 (.nm 0) (.nm 1) (.nm 2)) (yp (jh 5 zj (jb (ja 3) (jb (ja 4) (jb (ja 0) (jb (ja 1) (jb (ja 2) jc))))))) (ja 0) (fC (.da (.bool true)))))
  (qj (ao9 0 (jb (ja 2) jc)) (.t2 (.nm 7) (.nm 8)) (jy (vt (jf (fOp aaq (ja 8) (fC (.da (.none))))) (jf (fOp (qd true) (ja 7) (ja 6)))) zq jp)))))
def aav:FF:=j7 9 Bcheck_can
theorem ao5:aav [a0,a1,a2] s=(Bcheck_can [some a0,some a1,some a2,none,none,none,none,none,none] s).bind jw:=rfl
theorem sccheck_can:FnScope ["table","wish","ranks","begin","moment","end","nearer","stand","rank"] ["table","wish","ranks"] (je afb):=⟨rfl,rfl,rfl,by decide+kernel,rfl,by decide+kernel,by decide+kernel⟩
theorem okcheck_can(T:Txt0 K mg):CalF P w K mg base "check_can" 2 3 aav:=by walk_at "okcheck_can"
def Bend_of:FS:=
  (jd (jj 2 (fDc [] 1 (fIt (fOp gIx (ja 0) (fC (.da (.int 2))))) (.nm 0) abe (ja 0) (fC (.da (.bool true)))))
  (jd (jj 3 (fC (.da (.int 0))))
  (jd (qj (ao9 0 (jb (ja 1) jc)) (.t2 (.nm 4) (.t2 (.nm 5) (.nm 6))) (jd (jy (yc (xv (yp (jh 3 vg (jb (fC (.da (.int 3))) (jb (fOp gIx (ja 0) (fC (.da (.int 0)))) (jb (ja 5) jc)))))) (jf (fOp (qd true) (vb (jb (ja 3) (jb (ja 5) (jb (ja 6) jc)))) (ja 2)))) zq jp)
  (jj 3 (ja 6))))
  (jt (ja 3)))))
def aes:FF:=j7 7 Bend_of
theorem aya:aes [a0,a1] s=(Bend_of [some a0,some a1,none,none,none,none,none] s).bind jw:=rfl
theorem scend_of:FnScope ["table","walk","steps","stand","number","moment","end"] ["table","walk"] (je ajv):=⟨rfl,rfl,rfl,by decide+kernel,rfl,by decide+kernel,by decide+kernel⟩
theorem okend_of(T:Txt0 K mg):CalF P w K mg base "end_of" 6 2 aes:=by walk_at "okend_of"
def Bcheck_waits:FS:=
  (jd (jj 4 (jh 2 aes (jb (ja 0) (jb (ja 2) jc))))
  (jd (jj 5 (fDc [] 1 (fIt (ja 3)) (.nm 0) abe (ja 0) (fC (.da (.bool true)))))
  (jd (jy (jf (fOp (qd true) (ja 4) (ja 5))) zq jp)
  (jd (qj (fIt (fOp gIx (ja 0) (fC (.da (.int 2))))) (.t3 (.nm 6) (.nm 7) (.nm 8)) (jy (vt (jf (fOp (qd false) (ja 6) (ja 5))) (jf (fOp (qd true) (ja 8) (ja 5)))) zq jp))
  (qj (fIt (fOp gIx (ja 0) (fC (.da (.int 2))))) (.t3 (.nm 6) (.nm 7) (.nm 8)) (jy (vt (jf (fOp (qd false) (ja 6) (ja 5))) (jf (fOp gIn (ja 1) (ja 7)))) zq jp))))))
def zn:FF:=j7 9 Bcheck_waits
theorem akx{a3:D}:zn [a0,a1,a2,a3] s=(Bcheck_waits [some a0,some a1,some a2,some a3,none,none,none,none,none] s).bind jw:=rfl
theorem sccheck_waits:FnScope ["table","wish","walk","stands","last","within","begin","moment","end"] ["table","wish","walk","stands"] (je adj):=⟨rfl,rfl,rfl,by decide+kernel,rfl,by decide+kernel,by decide+kernel⟩
theorem okcheck_waits(T:Txt0 K mg):CalF P w K mg base "check_waits" 7 4 zn:=by walk_at "okcheck_waits"
def Blets_wish:FS:=
  (jd (jy (yp (jh 2 xh (jb (ja 0) (jb (ja 2) jc)))) (zk (jh 3 aav (jb (ja 0) (jb (ja 1) (jb (fOp gIx (ja 2) (fC (.da (.int 1)))) jc))))) (jy (yp (jh 2 xt (jb (ja 0) (jb (ja 2) jc)))) (zk (jh 4 zn (jb (ja 0) (jb (ja 1) (jb (fOp gIx (ja 2) (fC (.da (.int 1)))) (jb (fOp gIx (ja 2) (fC (.da (.int 2)))) jc)))))) zq))
  (jt (fC (.da (.bool true)))))
def aay:FF:=j7 3 Blets_wish
theorem ane:aay [a0,a1,a2] s=(Blets_wish [some a0,some a1,some a2] s).bind jw:=rfl
theorem sclets_wish:FnScope ["table","wish","thing"] ["table","wish","thing"] (je af3):=⟨rfl,rfl,rfl,by decide+kernel,rfl,by decide+kernel,by decide+kernel⟩
theorem oklets_wish(T:Txt0 K mg):CalF P w K mg base "lets_wish" 8 3 aay:=by walk_at "oklets_wish"
def B_law_tape:FS:=
  (jt (aoh (adu (fC (.da (.str "script"))) (fSl false (ja 0) fNo (aaz (fC (.da (.int 63))))) (adu (fC (.da (.str "turn"))) (fC (.da (.int 0))) (adu (fC (.da (.str "left"))) (fC (.da (.int 0))) aov)))))
def zh:FF:=j7 1 B_law_tape
theorem anr:zh [a0] s=(B_law_tape [some a0] s).bind jw:=rfl
theorem sc_law_tape:FnScope ["_law_script"] ["_law_script"] (je afa):=⟨rfl,rfl,rfl,by decide+kernel,rfl,by decide+kernel,by decide+kernel⟩
theorem ok_law_tape(T:Txt0 K mg):CalF P w K mg base "_law_tape" 1 1 zh:=by walk_at "ok_law_tape"
def B_law_draw:FS:=
  (jd (jy (jf (fOp gGt (fOp xg (ja 0) (fC (.da (.str "left")))) (fC (.da (.int 0))))) (jd (jj 2 (fOp xp (fOp xg (ja 0) (fC (.da (.str "left")))) (ja 1)))
  (jd (yj xu (fOp acz (fOp xg (ja 0) (fC (.da (.str "left")))) (ja 1)) (ja 0) (fC (.da (.str "left"))))
  (jt (ja 2)))) jp)
  (jd (jj 3 (fOp xg (ja 0) (fC (.da (.str "turn")))))
  (jd (yj xu (fOp (kf false) (ja 3) (fC (.da (.int 1)))) (ja 0) (fC (.da (.str "turn"))))
  (jd (jj 4 (fOp yq (fC (.da (.int 31))) (ja 3)))
  (jd (jy (jf (fOp gNe (fOp xg (ja 0) (fC (.da (.str "script")))) (qr false jc))) (jj 4 (fOp gIx (fOp xg (ja 0) (fC (.da (.str "script")))) (fOp xp (ja 3) (fCB vo (jb (fOp xg (ja 0) (fC (.da (.str "script")))) jc))))) jp)
  (jd (jy (vt (jf (fOp gGe (ja 4) (fOp afn (fC (.da (.int 10))) (fC (.da (.int 18)))))) (jf (fOp gLt (ja 3) (fCB vo (jb (fOp xg (ja 0) (fC (.da (.str "script")))) jc))))) (jd (yj xu (fOp acz (ja 4) (ja 1)) (ja 0) (fC (.da (.str "left"))))
  (jt (fOp xp (ja 4) (ja 1)))) jp)
  (jd (jj 5 (fOp xp (fOp yq (fOp (kf false) (fOp (kf false) (fOp xp (ja 4) (fC (.da (.int 2147483629)))) (fOp yq (fC (.da (.int 7919))) (ja 3))) (fC (.da (.int 104729)))) (fC (.da (.int 48271)))) (fC (.da (.int 2147483647)))))
  (jd (jj 5 (fOp xp (fOp yq (fOp (kf false) (fOp (kf false) (fOp acz (ja 5) (fC (.da (.int 64)))) (fOp yq (fC (.da (.int 6151))) (ja 3))) (fC (.da (.int 17)))) (fC (.da (.int 69621)))) (fC (.da (.int 2147483587)))))
  (jt (fOp xp (fOp acz (ja 5) (fC (.da (.int 64)))) (ja 1)))))))))))
def jl:FF:=j7 6 B_law_draw
theorem ap0:jl [a0,a1] s=(B_law_draw [some a0,some a1,none,none,none,none] s).bind jw:=rfl
theorem sc_law_draw:FnScope ["_law_tape_here","_law_many","_law_found","_law_turn","_law_cell","_law_mixed"] ["_law_tape_here","_law_many"] (je af9):=⟨rfl,rfl,rfl,by decide+kernel,rfl,by decide+kernel,by decide+kernel⟩
theorem ok_law_draw(T:Txt0 K mg):CalF P w K mg base "_law_draw" 1 2 jl:=by walk_at "ok_law_draw"
def B_law_seen:FS:=
  (jd (jj 2 (qr false (fVs (cN D.da [.str "a",.str "ab",.str "step",.str "b",.str "abc",.str "to",.str "net",.str "z"]))))
  (jd (jj 3 (jh 2 jl (jb (ja 0) (jb (fC (.da (.int 8))) jc))))
  (jd (jj 2 (fOp (kf false) (fSl false (ja 2) (aaz (ja 3)) fNo) (fSl false (ja 2) fNo (aaz (ja 3)))))
  (jt (fCB xx (jb (fSl false (ja 2) fNo (aaz (jh 2 jl (jb (ja 0) (jb (fOp (kf false) (ja 1) (fC (.da (.int 1)))) jc))))) jc))))))
def yo:FF:=j7 4 B_law_seen
theorem aol:yo [a0,a1] s=(B_law_seen [some a0,some a1,none,none] s).bind jw:=rfl
theorem sc_law_seen:FnScope ["_law_tape_here","_law_most","_law_pool","_law_turn"] ["_law_tape_here","_law_most"] (je afd):=⟨rfl,rfl,rfl,by decide+kernel,rfl,by decide+kernel,by decide+kernel⟩
theorem ok_law_seen(T:Txt0 K mg):CalF P w K mg base "_law_seen" 2 2 yo:=by walk_at "ok_law_seen"
def B_law_moment:FS:=
  (jd (jj 3 (qr true jc))
  (jd (qj (fIt (fCB (ab4 false) (jb (ja 1) jc))) (.nm 4) (jd (jj 5 (fOp gIx (qr false (fVs (cN D.da [.none,.int 0,.none,.int 1,.int 2,.int 0]))) (jh 2 jl (jb (ja 0) (jb (fC (.da (.int 6))) jc)))))
  (jy (jf (fOp aaq (ja 5) (fC (.da (.none))))) (zk (fMt xj (ja 3) (jb (vb (jb (ja 4) (jb (fOp xp (ja 5) (ja 2)) jc))) jc))) jp)))
  (jt (fCB xx (jb (ja 3) jc)))))
def zl:FF:=j7 6 B_law_moment
theorem ajf:zl [a0,a1,a2] s=(B_law_moment [some a0,some a1,some a2,none,none,none] s).bind jw:=rfl
theorem sc_law_moment:FnScope ["_law_tape_here","_law_seen_here","_law_things","_law_found","_law_port","_law_thing"] ["_law_tape_here","_law_seen_here","_law_things"] (je ado):=⟨rfl,rfl,rfl,by decide+kernel,rfl,by decide+kernel,by decide+kernel⟩
theorem ok_law_moment(T:Txt0 K mg):CalF P w K mg base "_law_moment" 2 3 zl:=by walk_at "ok_law_moment"
def B_law_table:FS:=
  (jd (jj 3 (fOp (kf false) (fC (.da (.int 1))) (jh 2 jl (jb (ja 0) (jb (ja 1) jc)))))
  (jd (jj 4 (fOp (kf false) (qr false (jb (vb jc) jc)) (fLc false [0,2] 1 (zw (jb (fOp (kf false) (fC (.da (.int 1))) (jh 2 jl (jb (ja 0) (jb (fC (.da (.int 3))) jc)))) jc)) (.nm 0) abe (jh 3 zl (jb (ja 1) (jb (ja 2) (jb (fC (.da (.int 3))) jc)))))))
  (jd (jj 5 (qr true jc))
  (jd (qj (zw (jb (ja 3) jc)) (.nm 6) (qj (fIt (fCB (vj false) (jb (ja 4) jc))) (.nm 7) (qj (zw (jb (fOp gIx (qr false (fVs (cN D.da [.int 1,.int 1,.int 2,.int 0,.int 1]))) (jh 2 jl (jb (ja 0) (jb (fC (.da (.int 5))) jc)))) jc)) (.nm 8) (zk (fMt xj (ja 5) (jb (vb (jb (ja 6) (jb (ja 7) (jb (jh 2 jl (jb (ja 0) (jb (ja 3) jc))) jc)))) jc))))))
  (jt (vb (jb (ja 2) (jb (ja 3) (jb (fCB xx (jb (fCB (vj false) (jb (ja 5) jc)) jc)) jc)))))))))
def xo:FF:=j7 9 B_law_table
theorem als:xo [a0,a1,a2] s=(B_law_table [some a0,some a1,some a2,none,none,none,none,none,none] s).bind jw:=rfl
theorem sc_law_table:FnScope ["_law_tape_here","_law_most","_law_seen_here","_law_many","_law_pool","_law_steps","_law_stand","_law_moment_here","_law_k"] ["_law_tape_here","_law_most","_law_seen_here"] (je aec):=⟨rfl,rfl,rfl,by decide+kernel,rfl,by decide+kernel,by decide+kernel⟩
theorem ok_law_table(T:Txt0 K mg):CalF P w K mg base "_law_table" 3 3 xo:=by walk_at "ok_law_table"
def B_law_wish:FS:=
  (jt (vb (jb (fOp gIx (ja 1) (jh 2 jl (jb (ja 0) (jb (fCB vo (jb (ja 1) jc)) jc)))) (jb (fOp gIx (qr false (fVs (cN D.da [.int 0,.int 0,.int 1,.int 2]))) (jh 2 jl (jb (ja 0) (jb (fC (.da (.int 4))) jc)))) jc))))
def ym:FF:=j7 2 B_law_wish
theorem ano:ym [a0,a1] s=(B_law_wish [some a0,some a1] s).bind jw:=rfl
theorem sc_law_wish:FnScope ["_law_tape_here","_law_seen_here"] ["_law_tape_here","_law_seen_here"] (je af4):=⟨rfl,rfl,rfl,by decide+kernel,rfl,by decide+kernel,by decide+kernel⟩
theorem ok_law_wish(T:Txt0 K mg):CalF P w K mg base "_law_wish" 2 2 ym:=by walk_at "ok_law_wish"
def B_law_from:FS:=
  (jd (jj 2 (qr true (jb (ja 1) jc)))
  (jd (jj 3 (fC (.da (.int 0))))
  (jd (ae0 100 (jf (fOp gLt (ja 3) (fCB vo (jb (ja 2) jc)))) (jd (qj (fIt (fOp gIx (ja 0) (fC (.da (.int 2))))) (.t3 (.nm 4) (.nm 5) (.nm 6)) (jy (vt (jf (fOp gEq (ja 4) (fOp gIx (ja 2) (ja 3)))) (jf (fOp yg (ja 6) (ja 2)))) (zk (fMt xj (ja 2) (jb (ja 6) jc))) jp))
  (jj 3 (fOp (kf false) (ja 3) (fC (.da (.int 1)))))))
  (jt (fCB (ab4 false) (jb (ja 2) jc))))))
def qo:FF:=j7 7 B_law_from
theorem anj:qo [a0,a1] s=(B_law_from [some a0,some a1,none,none,none,none,none] s).bind jw:=rfl
theorem sc_law_from:FnScope ["_law_table_here","_law_stand","_law_line","_law_at","_law_begin","_law_moment_here","_law_end"] ["_law_table_here","_law_stand"] (je af8):=⟨rfl,rfl,rfl,by decide+kernel,rfl,by decide+kernel,by decide+kernel⟩
theorem ok_law_from(T:Txt0 K mg):CalF P w K mg base "_law_from" 1 2 qo:=by walk_at "ok_law_from"
def B_law_levels:FS:=
  (jd (jj 2 ap1)
  (jd (qj (fIt (fOp gIx (ja 0) (fC (.da (.int 2))))) (.t3 (.nm 3) (.nm 4) (.nm 5)) (jy (jf (fOp gIn (ja 1) (ja 4))) (yj xu (fC (.da (.int 0))) (ja 2) (ja 3)) jp))
  (jd (jj 6 (afv (fC (.da (.int 1)))))
  (jd (ae0 100 (jf (fOp gLt (ja 6) (fCB acu (jb (ja 2) jc)))) (jd (jj 6 (fCB acu (jb (ja 2) jc)))
  (jd (jj 7 (fLc false [2] 3 (fIt (fOp gIx (ja 0) (fC (.da (.int 2))))) (.t3 (.nm 0) (.nm 1) (.nm 2)) (vt (jf (fOp (qd true) (ja 0) (ja 3))) (jf (fOp (qd false) (ja 2) (ja 3)))) (ja 0)))
  (jd (jj 8 (fCB aet (jb (fOp (kf false) (aj9 false (ja 2)) (qr false (jb (fC (.da (.int 0))) jc))) jc)))
  (qj (fIt (ja 7)) (.nm 9) (yj xu (fOp (kf false) (ja 8) (fC (.da (.int 1)))) (ja 2) (ja 9)))))))
  (jt (ja 2))))))
def yf:FF:=j7 10 B_law_levels
theorem ajo:yf [a0,a1] s=(B_law_levels [some a0,some a1,none,none,none,none,none,none,none,none] s).bind jw:=rfl
theorem sc_law_levels:FnScope ["_law_table_here","_law_wish_here","_law_found","_law_begin","_law_moment_here","_law_end","_law_many","_law_fresh","_law_most","_law_stand"] ["_law_table_here","_law_wish_here"] (je adl):=⟨rfl,rfl,rfl,by decide+kernel,rfl,by decide+kernel,by decide+kernel⟩
theorem ok_law_levels(T:Txt0 K mg):CalF P w K mg base "_law_levels" 1 2 yf:=by walk_at "ok_law_levels"
def B_law_can:FS:=
  (jd (jj 3 (jh 2 yf (jb (ja 1) (jb (ja 2) jc))))
  (jd (jj 4 (jh 2 qo (jb (ja 1) (jb (fC (.da (.int 0))) jc))))
  (jd (qj (zw (jb (fOp gIx (ja 1) (fC (.da (.int 1)))) jc)) (.nm 5) (jd (jj 6 (jh 2 qo (jb (ja 1) (jb (ja 5) jc))))
  (jy (vt (jf (fOp gEq (fLc false [3] 1 (fIt (ja 6)) (.nm 0) (jf (fOp (qd true) (ja 0) (ja 1))) (ja 0)) (qr false jc))) (jf (fOp gEq (jh 2 jl (jb (ja 0) (jb (fC (.da (.int 2))) jc))) (fC (.da (.int 0)))))) (jj 4 (fOp (kf false) (ja 4) (ja 6))) jp)))
  (jd (jy (jf (fOp gNe (fLc false [3] 1 (fIt (ja 4)) (.nm 0) (jf (fOp (qd true) (ja 0) (ja 1))) (ja 0)) (qr false jc))) (jt (fC (.da (.none)))) jp)
  (jd (jj 7 (qr true (jb (fC (.da (.int 0))) jc)))
  (jd (qj (zw (jb (fOp gIx (ja 1) (fC (.da (.int 1)))) jc)) (.nm 8) (zk (fMt xj (ja 7) (jb (fOp (kf false) (fOp (kf false) (fOp gIx (ja 7) (afv (fC (.da (.int 1))))) (fC (.da (.int 1)))) (fOp gIx (qr false (jb (fC (.da (.int 0))) (jb (fC (.da (.int 0))) (jb (fC (.da (.int 1))) (jb (fOp afn (fC (.da (.int 10))) (fC (.da (.int 18)))) jc))))) (jh 2 jl (jb (ja 0) (jb (fC (.da (.int 4))) jc))))) jc))))
  (jt (vb (jb (fC (.da (.str "can"))) (jb (fCB xx (jb (fLc false [4,7,3] 1 (zw (jb (fOp gIx (ja 1) (fC (.da (.int 1)))) jc)) (.nm 0) abe (fIf (jf (fOp gIn (ja 0) (ja 1))) (fOp gIx (ja 2) (fOp xg (ja 3) (ja 0))) (fC (.da (.none))))) jc)) jc))))))))))
def za:FF:=j7 9 B_law_can
theorem aqm:za [a0,a1,a2] s=(B_law_can [some a0,some a1,some a2,none,none,none,none,none,none] s).bind jw:=rfl
theorem sc_law_can:FnScope ["_law_tape_here","_law_table_here","_law_wish_here","_law_levels_here","_law_some","_law_stand","_law_more","_law_ranks","_law_k"] ["_law_tape_here","_law_table_here","_law_wish_here"] (je ag3):=⟨rfl,rfl,rfl,by decide+kernel,rfl,by decide+kernel,by decide+kernel⟩
theorem ok_law_can(T:Txt0 K mg):CalF P w K mg base "_law_can" 2 3 za:=by walk_at "ok_law_can"
def B_law_waits:FS:=
  (jd (jj 3 (jh 2 yf (jb (ja 1) (jb (ja 2) jc))))
  (jd (jj 4 (fLc false [3] 1 (zw (jb (fOp gIx (ja 1) (fC (.da (.int 1)))) jc)) (.nm 0) (jf (fOp (qd true) (ja 0) (ja 1))) (ja 0)))
  (jd (jj 5 (fC (.da (.int 0))))
  (jd (jj 6 (vb jc))
  (jd (qj (zw (jb (fC (.da (.int 30))) jc)) (.nm 7) (jd (jj 8 (fLc false [5] 1 (fIt (fOp gIx (ja 1) (fC (.da (.int 2))))) (.nm 0) (jf (fOp gEq (fOp gIx (ja 0) (fC (.da (.int 0)))) (ja 1))) (fSl false (ja 0) (aaz (fC (.da (.int 1)))) fNo)))
  (jy (vt (jf (fOp gNe (ja 8) (qr false jc))) (yc (jf (fOp yg (ja 5) (ja 4))) (jf (fOp gEq (jh 2 jl (jb (ja 0) (jb (fC (.da (.int 3))) jc))) (fC (.da (.int 0))))))) (jd (jj 6 (fOp (kf false) (ja 6) (vb (jb (fOp gIx (ja 8) (jh 2 jl (jb (ja 0) (jb (fCB vo (jb (ja 8) jc)) jc)))) jc))))
  (jj 5 (fOp gIx (fOp gIx (ja 6) (afv (fC (.da (.int 1))))) (fC (.da (.int 1)))))) jp)))
  (jd (jy (jf (fOp yg (ja 5) (ja 4))) (jt (fC (.da (.none)))) jp)
  (jd (jj 8 (jh 2 qo (jb (ja 1) (jb (ja 5) jc))))
  (jd (qj (fIt (ja 4)) (.nm 9) (jy (jf (fOp gEq (jh 2 jl (jb (ja 0) (jb (fC (.da (.int 3))) jc))) (fC (.da (.int 0))))) (jj 8 (fOp (kf false) (ja 8) (jh 2 qo (jb (ja 1) (jb (ja 9) jc))))) jp))
  (jt (vb (jb (fC (.da (.str "waits"))) (jb (ja 6) (jb (fCB xx (jb (fCB (aar false) (jb (ja 8) jc)) jc)) jc)))))))))))))
def va:FF:=j7 10 B_law_waits
theorem alq:va [a0,a1,a2] s=(B_law_waits [some a0,some a1,some a2,none,none,none,none,none,none,none] s).bind jw:=rfl
theorem sc_law_waits:FnScope ["_law_tape_here","_law_table_here","_law_wish_here","_law_levels_here","_law_lost","_law_stand","_law_walk","_law_turn","_law_some","_law_more"] ["_law_tape_here","_law_table_here","_law_wish_here"] (je aej):=⟨rfl,rfl,rfl,by decide+kernel,rfl,by decide+kernel,by decide+kernel⟩
theorem ok_law_waits(T:Txt0 K mg):CalF P w K mg base "_law_waits" 2 3 va:=by walk_at "ok_law_waits"
def B_law_told:FS:=
  (aj7 (jt (jh 3 aay (jb (ja 0) (jb (ja 1) (jb (ja 2) jc))))))
def yh:FF:=j7 4 B_law_told
theorem ao8:yh [a0,a1,a2] s=(B_law_told [some a0,some a1,some a2,none] s).bind jw:=rfl
theorem sc_law_told:FnScope ["_law_table_here","_law_wish_here","_law_thing","e"] ["_law_table_here","_law_wish_here","_law_thing"] (je afc):=⟨rfl,rfl,rfl,by decide+kernel,rfl,by decide+kernel,by decide+kernel⟩
theorem ok_law_told(T:Txt0 K mg):CalF P w K mg base "_law_told" 9 3 yh:=by
 have clets_wish:=oklets_wish (P:=P) (w:=w) (base:=base) T
 exact a1p (k:=8) T.h__law_told sc_law_told rfl rfl (λf cdv A outer s H E I hx hr=>
   (an0 (aye (λI _ _ hx=> (an0 (a2a (a20 clets_wish (hr.mono (by decide)) (ah1 (agg 0) (ah1 (agg 1) (ah1 (agg 2) azy))))))))))
def Blaw:FS:=
  (jd (jj 1 (jh 1 zh (jb (ja 0) jc)))
  (jd (qj (zw (jb (fC (.da (.int 8))) jc)) (.nm 2) (jd (jj 3 (jh 3 xo (jb (ja 1) (jb (fC (.da (.int 6))) (jb (fOp (kf false) (jh 2 yo (jb (ja 1) (jb (fC (.da (.int 2))) jc))) (vb (jb (fC (.da (.str "q"))) jc))) jc)))))
  (jd (jj 4 (jh 2 ym (jb (ja 1) (jb (fOp gIx (ja 3) (fC (.da (.int 0)))) jc))))
  (qj (fIt (qr false (jb (jh 3 za (jb (ja 1) (jb (ja 3) (jb (ja 4) jc)))) (jb (jh 3 va (jb (ja 1) (jb (ja 3) (jb (ja 4) jc)))) (jb (jh 3 va (jb (ja 1) (jb (ja 3) (jb (ja 4) jc)))) jc))))) (.nm 5) (jd (jj 6 (fCB acq (jb (vb (jb (ja 3) (jb (ja 4) (jb (ja 5) jc)))) jc)))
  (jy (jf (fOp aaq (ja 5) (fC (.da (.none))))) (jy (yc (jf (fOp aca (jh 3 yh (jb (ja 3) (jb (ja 4) (jb (ja 5) jc)))) (fC (.da (.bool true))))) (jf (fOp gNe (fCB acq (jb (vb (jb (ja 3) (jb (ja 4) (jb (ja 5) jc)))) jc)) (ja 6)))) (jt (fC (.da (.bool false)))) jp) jp))))))
  (jt (fC (.da (.bool true))))))
def at3:FF:=j7 7 Blaw
theorem a5v:at3 [a0] s=(Blaw [some a0,none,none,none,none,none,none] s).bind jw:=rfl
theorem sclaw:FnScope ["_law_script","_law_tape_here","_law_k","_law_table_here","_law_wish_here","_law_paper","_law_former"] ["_law_script"] (je aai):=⟨rfl,rfl,rfl,by decide+kernel,rfl,by decide+kernel,by decide+kernel⟩
theorem a3d{f:Addr}(F:Fun K "law" "law" aai f fd)(T:Txt0 K mg):FnOk P w K mg base (CX1 P w) 10 f fd ["_law_script"] (spF K 1 at3):=by
 have sc:=sclaw
 exact fnF (k:=9) F sc rfl rfl λf cdv A outer s H E I hx hr=> by
  unfold Blaw
  walk_at "dr"
end Ln
local macro_rules | `(tactic| walk_at "ev") => do
  let ns := "PF.R.calm_ok PF.R.at_ok PF.R.W_calm PF.R.W_at PF.a98 PF.bab PF.a9k PF.a9g PF.a9f PF.a8w PF.a81 PF.a7a PF.ba2 PF.ba4 PF.bah PF.a89 PF.a7e PF.a6m PF.a6e PF.a71 PF.a79 PF.a6s PF.a6l PF.a6r PF.a4q PF.ba0 PF.a96 PF.a90 PF.e_c PF.a85 PF.a7l PF.a86 PF.a7o PF.a8u PF.a8h PF.a7g PF.a7j PF.a7u PF.a83 PF.a9l PF.a8m PF.a8g PF.a97 PF.a7r PF.a8k PF.a7h PF.a74 PF.a8y PF.a9z PF.a9d PF.a9t PF.baj PF.a7q PF.a7w PF.a7k PF.a78 PF.a84 PF.a9c PF.a8d PF.a72 PF.a76 PF.a7s PF.a8f PF.a73 PF.a94 PF.bac PF.a7i PF.a9y PF.a99 PF.a6n PF.a5s PF.a53 PF.a61 PF.a9s PF.ba7 PF.a7c PF.a6j PF.amj PF.a9o PF.a93 PF.ba5 PF.bak PF.a9p PF.ba6 PF.ba1 PF.bae PF.bai PF.bag PF.ba8 PF.baf PF.a9m PF.a9a PF.a9q PF.baa PF.a7p PF.a6h PF.a8z PF.a80 PF.a92 PF.a7v PF.ba3 PF.a87 PF.a6o PF.a6q PF.a77 PF.a6t PF.a6v PF.a6k PF.a70 PF.a4x PF.a6y PF.a6w PF.aq5 PF.a88 PF.a8j PF.a6p PF.a6i PF.ba9 PF.a9x PF.a9v PF.a9i PF.a8l PF.a5f PF.a8a PF.ajq PF.a9e PF.ax5 PF.az3 PF.ay5 PF.ax1 PF.a5z PF.ag2 PF.at1 PF.aq2 PF.ari PF.aqq PF.a91 PF.R.bind_ok' PF.R.W_ok' PF.R.Wk_app PF.a7d PF.a82 PF.a8r PF.a8s PF.a8x PF.a8q PF.a8n PF.a8o PF.a37 PF.aw3 PF.aw8 PF.a2z PF.avt PF.avo PF.aw0 Bool.not_true Bool.not_false decide_true decide_false Bool.and_true Bool.and_false Bool.true_and Bool.false_and List.length_append List.length_cons List.length_nil List.append_assoc List.cons_append List.nil_append Nat.zero_add Nat.reduceAdd PF.a9u PF.a6u Nat.reduceLeDiff PF.it0 PF.it1 PF.it2 if_true if_false Bool.false_eq_true".splitOn " "
  let ids : Array (h8 `term) := ns.toArray.map λn => cP n.toName
  `(tactic| try simp only [$[$ids:term],*])
local macro_rules | `(tactic| walk_at "go") => `(tactic| (walk_at "ev"; (try simp only [PF.R.W_bindk, PF.R.W_at, PF.R.W_calm])))
namespace Ln
open PySem L2 PF
noncomputable def tpD(xs:List Int)(i j:Int):List (ac×D):=[(.str "script",.lst (xs.map aq)),(.str "turn",.int i),(.str "left",.int j)]
theorem abu:((("script":Str)="turn")=False)/\((("script":Str)="left")=False)/\((("turn":Str)="script")=False)/\((("turn":Str)="left")=False)/\((("left":Str)="script")=False)/\((("left":Str)="turn")=False):=
 ⟨eq_false (by decide),eq_false (by decide),eq_false (by decide),eq_false (by decide),eq_false (by decide),eq_false (by decide)⟩
section
variable{s:S}{n:Nat}{xs:List Int}{i j v:Int}
theorem tgL:j5 (tpD xs i j) (.str "left")=some (.int j):=by simp [j5,tpD,abu]
theorem tgT:j5 (tpD xs i j) (.str "turn")=some (.int i):=by simp [j5,tpD,abu]
theorem tgS:j5 (tpD xs i j) (.str "script")=some (.lst (xs.map aq)):=by simp [j5,tpD,abu]
theorem tuL:kj (tpD xs i j) (.str "left") (.int v)=tpD xs i v:=by simp [kj,tpD,abu]
theorem tuT:kj (tpD xs i j) (.str "turn") (.int v)=tpD xs v j:=by simp [kj,tpD,abu]
theorem tpL(hl:n < s.length):xg (.ref n) (.str "left") (s.set n (.dct (tpD xs i j)))=.ok (.int j) (s.set n (.dct (tpD xs i j))):=aeq (a8 hl) rfl tgL
theorem tpT(hl:n < s.length):xg (.ref n) (.str "turn") (s.set n (.dct (tpD xs i j)))=.ok (.int i) (s.set n (.dct (tpD xs i j))):=aeq (a8 hl) rfl tgT
theorem tpS(hl:n < s.length):xg (.ref n) (.str "script") (s.set n (.dct (tpD xs i j)))=.ok (.lst (xs.map aq)) (s.set n (.dct (tpD xs i j))):=aeq (a8 hl) rfl tgS
theorem tsL(hl:n < s.length):xu (.ref n) (.str "left") (.int v) (s.set n (.dct (tpD xs i j)))=.ok .non (s.set n (.dct (tpD xs i v))):=by
 rw [ad6 (a8 hl) rfl (by show 3 < 16777216;decide),List.set_set,tuL]
theorem tsT(hl:n < s.length):xu (.ref n) (.str "turn") (.int v) (s.set n (.dct (tpD xs i j)))=.ok .non (s.set n (.dct (tpD xs v j))):=by
 rw [ad6 (a8 hl) rfl (by show 3 < 16777216;decide),List.set_set,tuT]
end
structure Fd (s:S) (n c:Nat):Prop where
 ex: ∃(xs:List Int) (i j:Int),s[n]?=some (.dct (tpD xs i j))/\xs.length <=63/\0 <=i/\i <=c
theorem Fd.lt(h:Fd s n c):n < s.length:=by
 obtain⟨xs,i,j,e,_⟩:=h.ex
 exact (aB.mp e).1
theorem ace{xs:List Int}(hl:n < s.length)(hx:xs.length <=63)(hi:0 <=i)(hc:i <=c):Fd (s.set n (.dct (tpD xs i j))) n c:=⟨xs,i,j,a8 hl,hx,hi,hc⟩
theorem Fd.le{c':Nat}(h:Fd s n c)(hc:c <=c'):Fd s n c':=by
 obtain⟨xs,i,j,e,hx,hi,hkc⟩:=h.ex
 exact⟨xs,i,j,e,hx,hi,by lia⟩
theorem Fd.ext(h:Fd s n c)(x:Ext s s'):Fd s' n c:=by
 obtain⟨xs,i,j,e,r⟩:=h.ex
 exact⟨xs,i,j,x.get e,r⟩
theorem Fd.set{k:Nat}(h:Fd s n c)(hk:k≠n):Fd (s.set k o) n c:=by
 obtain⟨xs,i,j,e,r⟩:=h.ex
 exact⟨xs,i,j,by rw [bL hk];exact e,r⟩
theorem aev(xs:List ac):aM (.list xs) (.list [])=xs.isEmpty:=by cases xs <;> rfl
theorem akc: ∀xs:List Int,ba (xs.map aq)=true
 |[]=> rfl
 |x::r=> by simp only [aK,ba,eD,akc r,df]
theorem agn: ∀xs:List Int,bH (xs.map aq) <=1
 |[]=> by (simp [bH])
 |x::r=> by simp only [aK,bH,cv];have:=agn r;lia
theorem afu(xs:List Int):okD (.list (xs.map aq))=true:=by
 unfold okD
 rw [aD]
 refine⟨by simp only [eD];exact akc xs,decide_eq_true ?_⟩
 simp only [cv]
 have:=agn xs
 lia
theorem qu{m:Int}(h:Fd s n c)(hm:0 < m)(hm2:m < 1073741824)(hc:c < 2^40):(jl [.ref n,.int m] s).W λd s'=> ∃i,d=.int i/\0 <=i/\i < m/\Fd s' n (c+1)/\j8 n s s':=by
 obtain⟨xs,i,j,e,hx,hi,hkc⟩:=h.ex
 have hl:n < s.length:=(aB.mp e).1
 have e0:jl [.ref n,.int m] s=jl [.ref n,.int m] (s.set n (.dct (tpD xs i j))):=by rw [au4 e]
 rw [e0,ap0];unfold B_law_draw
 have fin: ∀x:Int,0 <=x % m/\x % m < m:=λx=> ⟨jW _ (by lia),iA _ hm⟩
 have p18: ∀s:S,afn (.int 10) (.int 18) s=.ok (.int 1000000000000000000) s:=λs=> akr (by decide) (by decide) (by decide)
 by_cases hj:0 < j
 ·walk_at "ev"
  rw [tpL hl]
  walk_at "ev"
  rw [decide_eq_true hj]
  walk_at "ev"
  rw [tpL hl]
  walk_at "ev"
  rw [xw hm]
  walk_at "ev"
  rw [tpL hl]
  walk_at "ev"
  rw [afm hm hm2]
  walk_at "ev"
  rw [tsL hl]
  walk_at "go"
  exact⟨_,rfl,(fin _).1,(fin _).2,ace hl hx hi (by lia),aa2⟩
 ·have q1: ∀(x:Int) (s:S),xp (.int x) (.int 2147483629) s=.ok (.int (x % 2147483629)) s:=λx s=> xw (by decide)
  have q2: ∀(x:Int) (s:S),yq (.int 31) (.int x) s=.ok (.int (31*x)) s:=λx s=> abd (.inl (by decide))
  have q3: ∀(x:Int) (s:S),yq (.int x) (.int 69621) s=.ok (.int (x*69621)) s:=λx s=> abd (.inr (by decide))
  have q4: ∀(x:Int) (s:S),xp (.int x) (.int 2147483647) s=.ok (.int (x % 2147483647)) s:=λx s=> xw (by decide)
  have q5: ∀(x:Int) (s:S),yq (.int 6151) (.int x) s=.ok (.int (6151*x)) s:=λx s=> abd (.inl (by decide))
  have q6: ∀(x:Int) (s:S),yq (.int 7919) (.int x) s=.ok (.int (7919*x)) s:=λx s=> abd (.inl (by decide))
  have q8: ∀(x:Int) (s:S),yq (.int x) (.int 48271) s=.ok (.int (x*48271)) s:=λx s=> abd (.inr (by decide))
  have q9: ∀(x:Int) (s:S),xp (.int x) (.int 2147483587) s=.ok (.int (x % 2147483587)) s:=λx s=> xw (by decide)
  have q10: ∀(x:Int) (s:S),acz (.int x) (.int 64) s=.ok (.int (x/64)) s:=λx s=> afm (by decide) (by decide)
  have jg: ∀(cell:Int) (s1:S) (u2 u5:Option D),Fd s1 n (c+1) -> j8 n s s1 -> (((jd (jj 5 (fOp xp (fOp yq (fOp (kf false) (fOp (kf false) (fOp xp (ja 4) (fC (.da (.int 2147483629)))) (fOp yq (fC (.da (.int 7919))) (ja 3))) (fC (.da (.int 104729)))) (fC (.da (.int 48271)))) (fC (.da (.int 2147483647)))))
  (jd (jj 5 (fOp xp (fOp yq (fOp (kf false) (fOp (kf false) (fOp acz (ja 5) (fC (.da (.int 64)))) (fOp yq (fC (.da (.int 6151))) (ja 3))) (fC (.da (.int 17)))) (fC (.da (.int 69621)))) (fC (.da (.int 2147483587)))))
  (jt (fOp xp (fOp acz (ja 5) (fC (.da (.int 64)))) (ja 1))))) [some (.ref n),some (.int m),u2,some (.int i),some (.int cell),u5] s1).bind jw).W λd s'=> ∃i,d=.int i/\0 <=i/\i < m/\Fd s' n (c+1)/\j8 n s s':=by
   intro cell s1 u2 u5 f1 f2
   walk_at "ev"
   rw [q1]
   walk_at "ev"
   rw [q6]
   walk_at "ev"
   rw [q8]
   walk_at "ev"
   rw [q4]
   walk_at "ev"
   rw [q10]
   walk_at "ev"
   rw [q5]
   walk_at "ev"
   rw [q3]
   walk_at "ev"
   rw [q9]
   walk_at "ev"
   rw [q10]
   walk_at "ev"
   rw [xw hm]
   walk_at "go"
   exact⟨_,rfl,(fin _).1,(fin _).2,f1,f2⟩
  walk_at "ev"
  rw [tpL hl]
  walk_at "ev"
  rw [decide_eq_false hj]
  walk_at "ev"
  rw [tpT hl]
  walk_at "ev"
  rw [tsT hl]
  walk_at "ev"
  rw [q2]
  walk_at "ev"
  rw [tpS hl]
  walk_at "ev"
  rw [aea (afu xs) rfl,aev]
  walk_at "ev"
  cases hxs:xs with
  | nil=>
   subst hxs
   rw [show (!(cN aq ([]:List Int)).isEmpty)=false from rfl]
   walk_at "ev"
   rw [p18]
   walk_at "ev"
   by_cases hb:1000000000000000000 <=31*i
   ·rw [decide_eq_true hb]
    walk_at "ev"
    rw [tpS hl]
    walk_at "ev"
    rw [decide_eq_false (show¬(i < ((cN aq ([]:List Int)).length:Int)) by simp;lia)]
    walk_at "ev"
    exact jg _ _ _ _ (ace hl hx (by lia) (by lia)) aa2
   ·rw [decide_eq_false hb]
    walk_at "ev"
    exact jg _ _ _ _ (ace hl hx (by lia) (by lia)) aa2
  | cons y ys=>
   have hne:xs≠ []:=by rw [hxs];simp
   have hlen:0 < (xs.length:Int):=by rw [hxs];simp
   rw [←hxs]
   rw [show (!(xs.map aq).isEmpty)=true by rw [hxs];rfl]
   have ixx: ∀s:S,gIx (.lst (xs.map aq)) (.int (i % (xs.length:Int))) s=.ok (.int (xs.getD (i % (xs.length:Int)).toNat 0)) s:=λs=> by
    have h0:=jW i (show (xs.length:Int)≠0 by lia)
    have h1:=iA i hlen
    obtain⟨q,hq⟩: ∃q:Nat,i % (xs.length:Int)=q:=⟨(i % (xs.length:Int)).toNat,by lia⟩
    rw [hq]
    have hlt:q < xs.length:=by lia
    rw [ab6 (p:=.int (xs.getD q 0)) (by rw [aN,ao hlt,dY,ao hlt];rfl)]
    rfl
   generalize hcell:xs.getD (i % (xs.length:Int)).toNat 0=cell at ixx
   have qm: ∀s:S,xp (.int i) (.int ((xs.map aq).length:Int)) s=.ok (.int (i % (xs.length:Int))) s:=λs=> by rw [ak];exact xw hlen
   walk_at "ev"
   rw [tpS hl]
   walk_at "ev"
   rw [tpS hl]
   walk_at "ev"
   rw [qm]
   walk_at "ev"
   rw [ixx]
   walk_at "ev"
   rw [p18]
   walk_at "ev"
   by_cases hb:1000000000000000000 <=cell
   ·rw [decide_eq_true hb]
    walk_at "ev"
    rw [tpS hl]
    walk_at "ev"
    by_cases hi2:i < ((xs.map aq).length:Int)
    ·rw [decide_eq_true hi2]
     walk_at "ev"
     rw [afm hm hm2]
     walk_at "ev"
     rw [tsL hl]
     walk_at "ev"
     rw [xw hm]
     walk_at "go"
     exact⟨_,rfl,(fin _).1,(fin _).2,ace hl hx (by lia) (by lia),aa2⟩
    ·rw [decide_eq_false hi2]
     walk_at "ev"
     exact jg _ _ _ _ (ace hl hx (by lia) (by lia)) aa2
   ·rw [decide_eq_false hb]
    walk_at "ev"
    exact jg _ _ _ _ (ace hl hx (by lia) (by lia)) aa2
theorem aep{kvs:List (ac×D)}{k:ac}{v:D}(hk:kn kvs k=true)(hl:kvs.length < 16777216):v8 (.ref s.length) (.da k) v (s++ [.dct kvs])=.ok .non (s++ [.dct (kj kvs k v)]):=by
 unfold v8
 rw [acl (show (s++ [O.dct kvs])[s.length]?=some (.dct kvs) by simp)]
 show (if kn kvs k=true/\kvs.length < sizeLine then R.ok D.non ((s++ [O.dct kvs]).set s.length (.dct (kj kvs k v))) else .bad)=_
 rw [if_pos ⟨hk,by rw [ko];exact hl⟩]
 simp
theorem a15{xs:List Int}:kj (kj (kj [] (.str "script") (D.lst (xs.map aq))) (.str "turn") (.int 0)) (.str "left") (.int 0)=tpD xs 0 0:=by simp [kj,tpD,abu]
theorem az9{xs:List Int}:(zh [.frz (xs.map aq)] s).W λd s'=> d=.ref s.length/\Fd s' s.length 0/\Ext s s':=by
 rw [anr];unfold B_law_tape
 walk_at "go"
 have e:k7 (xs.map aq) none (some 63)=(k7 xs none (some 63)).map aq:=afp _ _ _ _
 rw [e]
 have e2:kDp s.length [(D.str "script",D.lst ((k7 xs none (some 63)).map aq)),(D.str "turn",D.int 0),(D.str "left",D.int 0)] (s++ [O.dct []])=.ok (.ref s.length) (s++ [.dct (tpD (k7 xs none (some 63)) 0 0)]):=by
  unfold kDp
  rw [putAll,aep rfl (by decide)]
  show ((putAll s.length _ _).bind _)=_
  rw [putAll,aep (by simp [kj,kn,isK]) (by simp [kj])]
  show ((putAll s.length _ _).bind _)=_
  rw [putAll,aep (by simp [kj,kn,isK,abu]) (by simp [kj,abu])]
  show ((putAll s.length [] _).bind _)=_
  rw [a15];rfl
 rw [e2]
 walk_at "go"
 refine⟨trivial,⟨⟨k7 xs none (some 63),0,0,by simp,?_,by decide,by decide⟩⟩,Ext.add _ _⟩
 unfold k7
 rw [show (63:Int)=((63:Nat):Int) from rfl,HT.sIx_nat]
 simp
 lia
end Ln
namespace PF
open PySem L2
theorem aml: ∀bs:List Bool,adf (bs.map D.bl)=some bs
 |[]=> rfl
 |b::r=> by rw [aK,adf,aml r]
theorem awh{bs:List Bool}:ae8 [.lst (bs.map gL)] s=.ok (.bl (bs.all id)) s:=by
 show (match (some ((bs.map gL).map D.da)).bind adf with|some bs=> R.ok (D.bl (bs.all id)) s|none=>.bad)=_
 rw [show (bs.map gL).map D.da=bs.map D.bl by rw [bj];rfl]
 show (match adf (bs.map D.bl) with|some bs=> R.ok (D.bl (bs.all id)) s|none=>.bad)=_
 rw [aml]
theorem ab2(i j:Int):aM (.int i) (.int j)=decide (i=j):=by
 show (i==j)=_
 (rw [bh,beq_iff_eq,decide_eq_true_eq])
theorem ack:gNe (.int i) (.int j) s=.ok (.bl (!decide (i=j))) s:=by rw [aea rfl rfl,ab2]
theorem aaa:gEq (.int i) (.int j) s=.ok (.bl (decide (i=j))) s:=by rw [aqv rfl rfl,ab2]
end PF
namespace Ln
open PySem L2 PF
theorem ajp{α:Type}(l:List α)(t:Nat)(h:t <=l.length):k7 l (some (t:Int)) none=l.drop t:=by
 unfold k7
 rw [HT.sIx_nat,HT.sIx_none,fZ h,fw (by simp)]
theorem apb{α:Type}(l:List α)(t:Nat):k7 l none (some (t:Int))=l.take t:=by
 unfold k7
 rw [HT.sIx_nat,HT.sIx_none,lh,Nat.sub_zero,List.take_eq_take_iff]
 lia
theorem ab9{α β:Type}{f:α -> β}{l:List α}{k:Nat}{x:α}(h:l[k]?=some x):(l.map f)[k]?=some (f x):=by rw [aN,h];rfl
theorem aps{α:Type}(l:List α)(t:Nat):k7 l (some (t:Int)) none=l.drop t:=by
 by_cases h:t <=l.length
 ·exact ajp l t h
 ·unfold k7
  rw [HT.sIx_nat,HT.sIx_none,Nat.min_eq_right (by lia),List.drop_length,fx (by lia)]
  simp
theorem alh{w:Str}: ∀ss:List Str,((ss.map bb).any λd=> aM d (.str w))=decide (w∈ss)
 |[]=> by simp
 | x::r=> by
  rw [aK,dw,alh r]
  have:aM (.str x) (.str w)=decide (x=w):=by
   show (x==w)=_
   (rw [bh,beq_iff_eq,decide_eq_true_eq])
  rw [this,bh,kC,decide_eq_true_eq,decide_eq_true_eq,decide_eq_true_eq,aA]
  exact⟨λh=> h.imp Eq.symm id,λh=> h.imp Eq.symm id⟩
theorem all_strs(h: ∀x∈ss,okD (.str x)=true):(ss.map bb).all okD=true:=by
 rw [aC]
 intro d hd
 obtain⟨x,hx,rfl⟩:=aH.mp hd
 exact h x hx
theorem acp{x:Str}(h:ac7 x=true):okD (.str x)=true:=(y7 h).okD (by decide)
theorem atf{α β:Type}{f:α -> β}{l:List α}: ∀{ys:List β},ys.Perm (l.map f) -> ∃qs:List α,qs.Perm l/\qs.map f=ys:=by
 intro ys h
 generalize hz:l.map f=zs at h
 induction h generalizing l with
 |nil=>
  cases l with
  |nil=> exact⟨[],.refl _,rfl⟩
  |cons a b=> cases hz
 | cons x h ih=>
  cases l with
  |nil=> cases hz
  |cons a b=>
   cases hz
   obtain⟨qs,p,e⟩:=ih rfl
   exact⟨a::qs,p.cons a,by rw [aK,e]⟩
 | swap x y r=>
  match l,hz with
  |a::b::c,hz=>
   cases hz
   exact⟨b::a::c,.swap _ _ _,rfl⟩
 |trans h1 h2 ih1 ih2=>
  obtain⟨q2,p2,e2⟩:=ih2 hz
  obtain⟨q1,p1,e1⟩:=ih1 e2
  exact⟨q1,p1.trans p2,e1⟩
structure DW {α:Type} (r:R α) (Q:α -> S -> Prop):Prop where
 w:r.W Q
theorem DW.mono{α:Type}{r:R α}{Q Q':α -> S -> Prop}(h:DW r Q)(k: ∀a s,Q a s -> Q' a s):r.W Q':=R.W_mono h.w k
noncomputable def avp(c:Nat):Bool:=decide (97 <=c)&&decide (c <=122)
def yv(x:Str):Bool:=(decide (1 <=x.length)&&decide (x.length <=8))&&x.cps.toList.all avp
theorem aad{x:Str}(h:yv x=true):ac7 x=true:=by
 unfold yv at h
 unfold ac7
 simp only [aD,decide_eq_true_eq,aC,avp]at h⊢
 exact⟨⟨by lia,by lia⟩,λc hc=> by have:=h.2 c hc;lia⟩
noncomputable def ltS(a b:Str):Bool:=decide (a.cps.toList < b.cps.toList)
noncomputable def pr(p:Str×Int):ac:=.tuple [.str p.1,.int p.2]
theorem a30(p q:Str×Int):(ltP (pr p) (pr q)).isSome=true:=by
 unfold pr
 simp only [ltP,k9]
 repeat (first|rfl|split)
theorem al4: ∀ps qs:List (Str×Int),(k9 (ps.map pr) (qs.map pr)).isSome=true
 |[],[]=> rfl
 |[],_::_=> by rw [f6,aK,vf];rfl
 |_::_,[]=> by rw [f6,aK,kw];rfl
 |p::ps,q::qs=> by
  rw [aK,aK,v7]
  split
  ·exact al4 ps qs
  ·exact a30 p q
structure StK (many:Int) (ss:List Str) (d:ac):Prop where
 ex: ∃(i:Int) (ps:List (Str×Int)) (j:Int),d=.tuple [.int i,.tuple (ps.map pr),.int j]/\(0 <=i/\i < many)/\(0 <=j/\j < many)/\ ∀p∈ps,p.1∈ss/\0 <=p.2/\p.2 < 3
theorem StK.lt{m':Int}{ss':List Str}{a b:ac}(h:StK many ss a)(k:StK m' ss' b):(ltP a b).isSome=true:=by
 obtain⟨i,ps,j,rfl,_⟩:=h.ex
 obtain⟨i2,qs,j2,rfl,_⟩:=k.ex
 rw [xl,v7]
 split
 ·rw [v7]
  split
  ·rw [v7]
   split
   ·rw [v6];rfl
   ·rw [aaf];rfl
  ·rw [xl];exact al4 ps qs
 ·rw [aaf];rfl
theorem ahm{p:Str×Int}(h:ac7 p.1=true)(h0:0 <=p.2)(h1:p.2 < 3):Nice 22 1 (pr p):=
 (Nices.cons (y7 h) (Nices.cons (aa8 (by lia)) Nices.nil)).tup.mono (by lia) (by lia)
theorem ag0(p:Str×Int):plD (pr p)=true:=by unfold pr;simp [plD,qy]
theorem akm: ∀ps:List (Str×Int),qy (ps.map pr)=true
 |[]=> by simp [qy]
 |p::r=> by rw [aK,kz,ag0 p,akm r];rfl
theorem StK.pl{a:ac}(h:StK many ss a):plD a=true:=by
 obtain⟨i,ps,j,rfl,_⟩:=h.ex
 rw [ki,kz,kz,ki,akm ps]
 simp [plD,qy]
theorem aic(n:Nat):aag 0 n=(aW n).map λi:Nat=> D.int (i:Int):=by
 apply cW
 intro i
 by_cases hi:i < n
 ·rw [ahc _ _ _ hi,aN,dB hi];simp
 ·rw [cK (by rw [jz];lia),cK (by simp;lia)]
theorem aro{a:Nat}{d:ac}(h:s[a]?=some (.lst (xs.map D.da)))(hd:okD d=true)(hx: ∀x∈xs,okD x=true)(p1:plD d=true)(p2: ∀x∈xs,plD x=true):yg (.da d) (.ref a) s=.ok (.bl (decide (d∉xs))) s:=by
 have e0:yg (.da d) (.ref a) s=aku true (.da d) (.ref a) s:=by cases d <;> rfl
 rw [e0]
 unfold aku
 rw [axr h,show toP s (.da d)=some d from rfl]
 show (if okD d=true/\xs.all okD=true then R.ok (D.bl (nb true (xs.any λx=> aM x d))) s else .bad)=_
 rw [if_pos ⟨hd,aC.mpr hx⟩]
 have:(xs.any λx=> aM x d)=decide (d∈xs):=by
  (rw [bh,dG,decide_eq_true_eq])
  constructor
  ·rintro⟨x,hm,e⟩
   rw [yt x d (p2 x hm) p1]at e
   exact e▸hm
  ·exact λhm=> ⟨d,hm,(yt d d p1 p1).mpr rfl⟩
 rw [this]
 show R.ok (D.bl (!decide (d∈xs))) s=_
 congr 2
 simp
noncomputable def iT(is:List Int):ac:=.tuple (is.map aq)
theorem abg: ∀(l:List Int) (lo hi:Int),l.Pairwise (· < ·) -> (∀x∈l,lo <=x/\x < hi) -> l=[]\/(l.length:Int) <=hi - lo
 |[],_,_,_,_=>.inl rfl
 |x::r,lo,hi,p,h=> by
  rw [cx]at p
  have hx:=h x au
  rcases abg r (x+1) hi p.2 (λy hy=> ⟨by have:=p.1 y hy;lia,(h y (aw _ hy)).2⟩) with z|z
  ·subst z;right;simp;lia
  ·right;simp only [aG];lia
theorem asu(l:List Int):(jr l).Nodup/\ ∀x,x∈jr l ↔ x∈l:=by
 have all: ∀(ys acc:List Int),acc.Nodup -> (ys.foldl k8 acc).Nodup/\ ∀x,x∈ys.foldl k8 acc ↔ x∈acc\/x∈ys:=by
  intro ys
  induction ys with
  |nil=> intro acc h;exact⟨h,λx=> by simp⟩
  | cons y r ih=>
   intro acc h
   have hn:(k8 acc y).Nodup:=by
    unfold k8
    split
    ·exact h
    ·rename_i z
     rw [dZ]
     exact⟨h,by simp,λa ha b hb e=> z (by rw [aF.mp hb]at e;exact e▸ha)⟩
   obtain⟨a,b⟩:=ih (k8 acc y) hn
   exact⟨a,λx=> by rw [dQ,b,abh,aA,or_assoc]⟩
 obtain⟨a,b⟩:=all l [] fE
 exact⟨a,λx=> by rw [show jr l=l.foldl k8 [] from rfl,b];simp⟩
theorem ape{l:List Int}(nd:l.Nodup):(xq l).Pairwise (· < ·):=by
 have n2:(xq l).Nodup:=(zg l).nodup_iff.mpr nd
 exact l7.imp₂ (R:=(· <= ·)) (S:=(· ≠ ·)) (λa b h k=> by lia) (adw l) n2
theorem ajq(is:List Int):agl (.da (iT is)) s=.ok (is.map D.int,none) s:=by
 show R.ok ((is.map aq).map D.da,none) s=_
 rw [bj];rfl
theorem ai3(ks:List Int):j9 (ks.map aq)=true:=by
 unfold j9
 simp only [hU,aC,Function.comp,aD]
 exact λa _=> ⟨rfl,λb _=> by rw [aaf];rfl⟩
theorem auz(ks:List Int):kr (ks.map aq)=(xq ks).map aq:=by
 refine (afs (ai3 ks) ((zg ks).map _) ?_).symm
 unfold aam
 rw [cX]
 refine (adw ks).imp λ{a b} h=> ?_
 unfold ltb
 rw [aaf]
 rw [decide_eq_false (show¬b < a by lia)]
theorem ayb(l:List Int):(jr l).length <=l.length:=by
 have all: ∀(ys acc:List Int),(ys.foldl k8 acc).length <=acc.length+ys.length:=by
  intro ys
  induction ys with
  |nil=> intro acc;simp
  |cons y r ih=>
   intro acc
   have:=ih (k8 acc y)
   have h2:(k8 acc y).length <=acc.length+1:=by unfold k8;split <;> simp
   rw [dQ,aG];lia
 have:=all l []
 simpa [jr] using this
theorem axd{α:Type}(kvs:List (ac×α))(k:ac)(v:α):(kj kvs k v).length <=kvs.length+1:=by
 unfold kj
 split <;> simp
theorem alz{α:Type}{kvs:List (ac×α)}{k:ac}{v:α}{e:ac×α}(h:e∈kj kvs k v):e.1=k\/ ∃e'∈kvs,e'.1=e.1:=by
 unfold kj at h
 split at h
 ·obtain⟨a,ha,rfl⟩:=aH.mp h
  split
  ·rename_i z;exact .inl z
  ·exact .inr ⟨a,ha,rfl⟩
 ·rcases aR.mp h with z|z
  ·exact .inr ⟨e,z,rfl⟩
  ·rw [aF.mp z];exact .inl rfl
theorem aly{α:Type}{p:ac -> Bool}{kvs:List (ac×α)}{k:ac}{v:α}(h:(kvs.all λe=> p e.1)=true)(hk:p k=true):((kj kvs k v).all λe=> p e.1)=true:=by
 rw [aC]at h⊢
 intro e he
 rcases alz he with z|⟨e',h',z⟩
 ·rw [z];exact hk
 ·rw [←z];exact h e' h'
theorem az4{α:Type}{kvs:List (ac×α)}{k:ac}:(j5 kvs k).isSome=true ↔ k∈kvs.map (·.1):=by
 unfold j5
 rw [cy,List.find?_isSome,aH]
 constructor
 ·rintro⟨e,he,h⟩;exact⟨e,he,by simpa using h⟩
 ·rintro⟨e,he,h⟩;exact⟨e,he,by simpa using h⟩
theorem ach{kvs:List (ac×D)}(h:(kvs.all λe=> isK e.1)=true)(i:Int):kn kvs (.int i)=true:=by
 unfold kn
 rw [h];rfl
theorem a2m{kvs:List (ac×D)}(h:(kvs.all λe=> isT e.1)=true){m:ac}(hm:isT m=true):kn kvs m=true:=by
 unfold kn
 rw [h,hm];simp
theorem apy(h: ∀k,k < s.length -> s'[k]?=s[k]?)(hl:s.length <=s'.length):Ext s s':=by
 refine⟨s'.drop s.length,?_⟩
 refine cW λk=> ?_
 by_cases hk:k < s.length
 ·rw [aI hk];exact h k hk
 ·rw [aT (by lia),gi];congr 1;lia
theorem anw{a b c:ac}:gIx (.da (.tuple [a,b,c])) (.da (.int 2)) s=.ok (.da c) s:=qf (k:=2) rfl
theorem ak1{a b c:ac}:gIx (.da (.tuple [a,b,c])) (.da (.int 1)) s=.ok (.da b) s:=qf (k:=1) rfl
theorem atv{a b c:ac}:gIx (.da (.tuple [a,b,c])) (.da (.int 0)) s=.ok (.da a) s:=qf (k:=0) rfl
structure MoK (ss:List Str) (ps:List (Str×Int)):Prop where
 len:ps.length <=3
 mem: ∀p∈ps,p.1∈ss/\0 <=p.2/\p.2 < 3
 up:ps.Pairwise λa b=> ltS a.1 b.1=true
def moD(ps:List (Str×Int)):ac:=.tuple (ps.map pr)
structure SsK (ss:List Str):Prop where
 len:ss.length <=3
 pos:1 <=ss.length
 nd:ss.Nodup
 ok: ∀x∈ss,yv x=true
structure St where
 b:Int
 m:List (Str×Int)
 e:Int
def St.d(t:St):ac:=.tuple [.int t.b,moD t.m,.int t.e]
structure StOk (many:Int) (ss:List Str) (t:St):Prop where
 b0:0 <=t.b
 b1:t.b < many
 e0:0 <=t.e
 e1:t.e < many
 mo:MoK ss t.m
theorem aer{ps:List (Str×Int)}(h:MoK ss ps)(hs: ∀x∈ss,yv x=true):Nice 70 2 (moD ps):=by
 have n1:=xy (B:=22) (D:=1) (ps.map pr) (by
  intro d hd
  obtain⟨p,hp',rfl⟩:=aH.mp hd
  obtain⟨a,b,c⟩:=h.mem p hp'
  exact ahm (aad (hs _ a)) b c)
 rw [ak]at n1
 have:=h.len
 exact n1.tup.mono (by lia) (av _)
theorem St.stk{t:St}(h:StOk many ss t):StK many ss t.d:=⟨t.b,t.m,t.e,rfl,⟨h.b0,h.b1⟩,⟨h.e0,h.e1⟩,h.mo.mem⟩
theorem St.nice{t:St}(h:StOk many ss t)(hs: ∀x∈ss,yv x=true)(hm:many <=6):Nice 100 3 t.d:=by
 have:=h.b0;have:=h.b1;have:=h.e0;have:=h.e1
 exact (Nices.cons ((aa8 (by lia)).mono (av _) (by decide)) (Nices.cons (aer h.mo hs) (Nices.cons ((aa8 (by lia)).mono (av _) (by decide)) Nices.nil))).tup.mono (by lia) (av _)
theorem aos{α:Type}{f:α -> ac}{P:α -> Prop}: ∀{l:List ac},(∀x∈l,∃a,x=f a/\P a) -> ∃as:List α,l=as.map f/\ ∀a∈as,P a
 |[],_=> ⟨[],rfl,λ_ h=> by cases h⟩
 |x::r,h=> by
  obtain⟨a,e,p⟩:=h x au
  obtain⟨as,e2,p2⟩:=aos (l:=r) λy hy=> h y (aw _ hy)
  refine⟨a::as,by rw [e,e2];rfl,λb hb=> ?_⟩
  rcases aA.mp hb with z|z
  ·rw [z];exact p
  ·exact p2 b z
noncomputable def adh:List Str:=["a","ab","step","b","abc","to","net","z"]
theorem aww: ∀t:Nat,t < 8 -> ∀k:Nat,k < 3 -> (((adh.drop t++adh.take t).take k).all λx=> yv x&& !(x=="q"))=true/\((adh.drop t++adh.take t).take k).Nodup:=by decide+kernel
theorem ah3(h:Fd s n c)(hc:c+10 < 2^40):(yo [.ref n,.int 2] s).W λd s'=> ∃ss:List Str,d=.tup (ss.map bb)/\SsK (ss++ [("q":Str)])/\Fd s' n (c+2)/\j8 n s s':=by
 rw [aol];unfold B_law_seen
 walk_at "go"
 refine R.W_mono (qu h (by decide) (by decide) (by lia)) ?_
 rintro _ s1 ⟨f,rfl,f0,f1,fd1,sm1⟩
 obtain⟨t,rfl⟩:=bI f0
 have e0:(([.str "a",.str "ab",.str "step",.str "b",.str "abc",.str "to",.str "net",.str "z"]:List ac))=adh.map bb:=rfl
 try rw [e0]
 walk_at "go"
 rw [ajp _ _ (by show t <=8;lia),apb,←l4,←lZ,abn (by simp;show 8 - t+min t 8 <=_;lia),←c6]
 walk_at "go"
 refine R.W_mono (qu fd1 (by decide) (by decide) (by lia)) ?_
 rintro _ s2 ⟨g,rfl,g0,g1,fd2,sm2⟩
 obtain⟨k,rfl⟩:=bI g0
 walk_at "go"
 rw [apb,←lZ]
 obtain⟨p1,p2⟩:=aww t (by lia) k (by lia)
 rw [aC]at p1
 refine⟨_,rfl,⟨?_,by simp,?_,?_⟩,fd2,sm1.trans sm2⟩
 ·have:=List.length_take_le k (adh.drop t++adh.take t)
  rw [aQ]
  (simp only [aG,bS])
  lia
 ·rw [dZ]
  refine⟨p2,by simp,λx hx y hy e=> ?_⟩
  have:=p1 x hx
  rw [aF.mp hy]at e
  subst e
  simp at this
 ·intro x hx
  rcases aR.mp hx with z|z
  ·have:=p1 x z
   rw [aD]at this
   exact this.1
  ·rw [aF.mp z];decide+kernel
theorem aou(h1:xs.length < 64)(h2:j9 xs=true)(h3:xs.all okD=true):ab4 false [.tup xs] s=.ok (.lst (kr xs)) s:=by
 show (match (some (xs.map D.da)).bind j3 with|some xs=> if xs.length < 64/\j9 xs=true/\xs.all okD=true then kh false ((kr xs).map D.da) s else .bad|none=>.bad)=_
 show (match j3 (xs.map D.da) with|some xs=> if xs.length < 64/\j9 xs=true/\xs.all okD=true then kh false ((kr xs).map D.da) s else .bad|none=>.bad)=_
 rw [qh]
 show (if xs.length < 64/\j9 xs=true/\xs.all okD=true then kh false ((kr xs).map D.da) s else .bad)=_
 rw [if_pos ⟨h1,h2,h3⟩]
 exact ag2
theorem aik(h0:xs.all aa4=true)(hl:xs.length+1 <=306)(h1:(ud xs).length < 64)(h2:j9 (ud xs)=true)(h3:(ud xs).all okD=true):vj false [.lst xs] s=.ok (.lst (kr (ud xs))) s:=by
 show (match j3 (xs.map D.da) with|some ps=> if (ps.all aa4=true/\ps.length+1 <=306)/\(ud ps).length < 64/\j9 (ud ps)=true/\(ud ps).all okD=true then kh false ((kr (ud ps)).map D.da) s else .bad|none=>.bad)=_
 rw [qh]
 show (if (xs.all aa4=true/\xs.length+1 <=306)/\(ud xs).length < 64/\j9 (ud xs)=true/\(ud xs).all okD=true then kh false ((kr (ud xs)).map D.da) s else .bad)=_
 rw [if_pos ⟨⟨h0,hl⟩,h1,h2,h3⟩]
 exact ag2
theorem apd(h:s[n]?=some (.lst (xs.map D.da)))(h0:xs.all aa4=true)(hl:xs.length+1 <=306)(h1:(ud xs).length < 64)(h2:j9 (ud xs)=true)(h3:(ud xs).all okD=true):vj false [.ref n] s=.ok (.lst (kr (ud xs))) s:=by
 show (match (match s[n]? with|some (O.lst ds)=> some ds|_=> none).bind j3 with|some ps=> if (ps.all aa4=true/\ps.length+1 <=306)/\(ud ps).length < 64/\j9 (ud ps)=true/\(ud ps).all okD=true then kh false ((kr (ud ps)).map D.da) s else .bad|none=>.bad)=_
 rw [h]
 exact aik h0 hl h1 h2 h3
theorem ahr(h1: ∀x∈xs,plD x=true)(h2: ∀x∈xs,∀y∈xs,(ltP x y).isSome=true):j9 xs=true:=by
 unfold j9
 rw [aC]
 intro a ha
 rw [aD,aC]
 exact⟨h1 a ha,λb hb=> h2 a ha b hb⟩
theorem awy{x:Str}(h:ltb (.str x) (.str y)=true):ltS x y=true:=by
 rw [ze,ab3]at h
 unfold ltS
 injection h
theorem adr(ss:List Str):j9 (ss.map bb)=true:=ahr (λx hx=> by obtain⟨a,_,rfl⟩:=aH.mp hx;simp [plD]) (λx hx y hy=> by
 obtain⟨a,_,rfl⟩:=aH.mp hx
 obtain⟨b,_,rfl⟩:=aH.mp hy
 rw [ab3];rfl)
theorem arj(nd:ss.Nodup): ∃qs:List Str,kr (ss.map bb)=qs.map bb/\qs.Perm ss/\qs.Pairwise λa b=> ltS a b=true:=by
 obtain⟨qs,pm,e⟩:=atf (ya (ss.map bb))
 refine⟨qs,e.symm,pm,?_⟩
 have rs:=ae2 (adr ss)
 rw [←e]at rs
 have nd2:qs.Nodup:=pm.nodup_iff.mpr nd
 unfold lP at nd2
 unfold aam at rs
 rw [cX]at rs
 have both:=List.pairwise_and_iff.mpr ⟨rs,nd2⟩
 refine both.imp_of_mem λ{a b} ha hb hab=> ?_
 rcases aj1 (adr qs) (bR hb) (bR ha) hab.1 with z|z
 ·injection z with z;exact absurd z.symm hab.2
 ·exact awy z
structure MoJ (s0:S) (n a c:Nat) (ss:List Str) (qs:List Str) (r:List D) (ρ:En) (s:S):Prop where
 ex: ∃(ps:List (Str×Int)) (done left:List Str) (c':Nat) (u4 u5:Option D),qs=done++left/\r=left.map (λx=> D.str x)/\ρ=[some (.ref n),some (.tup (ss.map bb)),some (.int 3),some (.ref a),u4,u5]/\
  s[a]?=some (.lst ((ps.map pr).map D.da))/\(ps.map λp=> p.1).Sublist done/\(∀p∈ps,0 <=p.2/\p.2 < 3)/\Fd s n c'/\c'+left.length <=c+qs.length/\j8 n s0 s
theorem aqw(h:Fd s n c)(hs:SsK ss)(hc:c+10 < 2^40):
  (zl [.ref n,.tup (ss.map bb),.int 3] s).W λd s'=> ∃ps:List (Str×Int),d=.da (moD ps)/\MoK ss ps/\Fd s' n (c+3)/\j8 n s s':=by
 rw [ajf];unfold B_law_moment
 walk_at "go"
 have hl:=hs.len
 rw [aou (by rw [ak];lia) (adr ss) (all_strs λx hx=> acp (aad (hs.ok x hx)))]
 walk_at "go"
 obtain⟨qs,eq,pm,up⟩:=arj hs.nd
 have ql:qs.length <=3:=by rw [pm.length_eq];exact hl
 rw [eq]
 refine R.W_mono (jx (Q:=λfl s'=> ∃ρ,fl=.nx ρ/\MoJ s n s.length c ss qs [] ρ s') (MoJ s n s.length c ss qs) ?_ ?_ _ _ _ ⟨[],[],qs,c,none,none,rfl,by rw [bj];rfl,rfl,by simp,List.nil_sublist _,(λ_ h=> by cases h),h.ext (Ext.add _ _),by lia,(Ext.add _ _).same n⟩) ?_
 ·intro d r ρ s' J
  obtain⟨ps,done,left,c',u4,u5,e1,e2,rfl,ha,sb,hb,fd,hcc,sm⟩:=J.ex
  cases left with
  |nil=> cases e2
  | cons x left=>
   cases e2
   have hql:=congrArg fj e1
   simp only [aQ,aG]at hql hcc
   have psl:ps.length <=done.length:=by have:=sb.length_le;rwa [ak]at this
   refine⟨_,aw3,?_⟩
   walk_at "go"
   refine R.W_mono (qu fd (by decide) (by decide) (by lia)) ?_
   rintro _ s1 ⟨i,rfl,i0,i1,fd1,sm1⟩
   obtain⟨k,rfl⟩:=bI i0
   have la:s.length < s'.length:=(aB.mp ha).1
   have hn:n < s.length:=h.lt
   have ha1:s1[s.length]?=some (.lst ((ps.map pr).map D.da)):=by rw [sm1.get _ (by lia) la];exact ha
   have key: ∃y:ac,([.none,.int 0,.none,.int 1,.int 2,.int 0]:List ac)[k]?=some y/\(y=.none\/ ∃i:Int,y=.int i/\0 <=i/\i < 3):=by
    have:k < 6:=by lia
    match k,this with
    |0,_=> exact⟨_,rfl,.inl rfl⟩
    |1,_=> exact⟨_,rfl,.inr ⟨_,rfl,by decide,by decide⟩⟩
    |2,_=> exact⟨_,rfl,.inl rfl⟩
    |3,_=> exact⟨_,rfl,.inr ⟨_,rfl,by decide,by decide⟩⟩
    |4,_=> exact⟨_,rfl,.inr ⟨_,rfl,by decide,by decide⟩⟩
    |5,_=> exact⟨_,rfl,.inr ⟨_,rfl,by decide,by decide⟩⟩
   obtain⟨y,hy,yk⟩:=key
   walk_at "go"
   rw [ab6 hy]
   rcases yk with rfl|⟨i,rfl,y0,y1⟩
   ·walk_at "go"
    exact⟨ps,done++ [x],left,c'+1,_,_,by rw [e1];simp,rfl,rfl,ha1,sb.trans (List.sublist_append_left _ _),hb,fd1,by lia,sm.trans sm1⟩
   ·walk_at "go"
    rw [show (!isN (D.da (aq i)))=true from rfl]
    walk_at "go"
    rw [aj2 ha1]
    walk_at "go"
    rw [xw (by decide),Int.emod_eq_of_lt y0 y1]
    walk_at "go"
    rw [show D.tup [bb x,aq i]=D.da (pr (x,i)) from rfl,abo (d:=.da (pr (x,i))) ha1 (by rw [ak,ak];lia)]
    walk_at "go"
    refine⟨ps++ [(x,i)],done++ [x],left,c'+1,_,_,by rw [e1];simp,rfl,rfl,?_,?_,?_,fd1.set (by lia),by lia,(sm.trans sm1).own (by lia)⟩
    ·rw [a8 (aP la sm1.len)];simp
    ·simpa using sb.append (List.Sublist.refl [x])
    ·intro p hp
     (rcases aR.mp hp with z|z)
     ·exact hb p z
     ·rw [aF.mp z];exact⟨y0,y1⟩
 ·intro ρ s' J
  exact⟨ρ,rfl,J⟩
 ·rintro _ s4 ⟨ρ,rfl,ps,done,left,c',u4,u5,e1,e2,rfl,ha,sb,hb,fd,hcc,sm⟩
  cases left with
  |cons x left=> cases e2
  | nil=>
   rw [b7]at e1
   subst e1
   simp only [bS]at hcc
   walk_at "go"
   rw [aqy ha]
   walk_at "go"
   refine⟨ps,rfl,⟨?_,λp hp=> ⟨?_,hb p hp⟩,?_⟩,fd.le (by lia),sm⟩
   ·have:=sb.length_le;rw [ak]at this;lia
   ·exact pm.mem_iff.mp (sb.subset (bR (f:=λp:Str×Int=> p.1) hp))
   ·have:=up.sublist sb
    rwa [cX]at this
theorem ayo(h:Fd s n c)(hs:SsK ss)(hc:c+10 < 2^40):
  (ym [.ref n,.tup (ss.map bb)] s).W λd s'=> ∃w:Str×Int,d=.da (pr w)/\w.1∈ss/\0 <=w.2/\w.2 < 3/\Fd s' n (c+2)/\j8 n s s':=by
 rw [ano];unfold B_law_wish
 walk_at "go"
 have hl:=hs.len
 have hp:=hs.pos
 refine R.W_mono (qu h (by simp;lia) (by simp;lia) (by lia)) ?_
 rintro _ s1 ⟨i,rfl,i0,i1,fd1,sm1⟩
 obtain⟨k,rfl⟩:=bI i0
 rw [ak]at i1
 have kl:k < ss.length:=by lia
 walk_at "go"
 rw [qf (p:=.str ss[k]) (ab9 (ao kl))]
 walk_at "go"
 refine R.W_mono (qu fd1 (by decide) (by decide) (by lia)) ?_
 rintro _ s2 ⟨j,rfl,j0,j1,fd2,sm2⟩
 obtain⟨q,rfl⟩:=bI j0
 have key: ∃y:Int,([.int 0,.int 0,.int 1,.int 2]:List ac)[q]?=some (.int y)/\0 <=y/\y < 3:=by
  have:q < 4:=by lia
  match q,this with
  |0,_=> exact⟨_,rfl,by decide,by decide⟩
  |1,_=> exact⟨_,rfl,by decide,by decide⟩
  |2,_=> exact⟨_,rfl,by decide,by decide⟩
  |3,_=> exact⟨_,rfl,by decide,by decide⟩
 obtain⟨y,hy,y0,y1⟩:=key
 walk_at "go"
 rw [ab6 hy]
 walk_at "go"
 exact⟨(ss[k],y),rfl,eL kl,y0,y1,fd2,sm1.trans sm2⟩
theorem adz{B k:Nat}(h:Nice B k (.tuple xs))(hk:k <=8)(hp:plD (.tuple xs)=true):aa4 (.tuple xs)=true:=by
 have ok:=aah (h.okD (by lia))
 unfold aa4
 rw [aD]
 refine⟨kg.mpr ⟨hp,ok.1,?_⟩,rfl⟩
 have:=h.dp
 lia
theorem avv(ps:List (Str×Int)):plD (moD ps)=true:=by unfold moD;simp [plD,akm]
theorem a46(ps qs:List (Str×Int)):(ltP (moD ps) (moD qs)).isSome=true:=by
 unfold moD
 rw [xl]
 exact al4 ps qs
theorem at8{ms:List (List (Str×Int))}(hs:SsK ss)(hm: ∀m∈ms,MoK ss m)(hl:ms.length <=4): ∃ks:List (List (Str×Int)),vj false [.lst (ms.map moD)] s=.ok (.lst (ks.map moD)) s/\(∀m∈ks,MoK ss m)/\ks.length <=4:=by
 obtain⟨u1,u2,u3⟩:=afi (ms.map moD)
 rw [ak]at u3
 have mem: ∀x∈ud (ms.map moD),∃m,x=moD m/\MoK ss m:=λx hx=> by
  obtain⟨m,hm',rfl⟩:=aH.mp ((u2 x).mp hx)
  exact⟨m,rfl,hm m hm'⟩
 have pm:=ya (ud (ms.map moD))
 obtain⟨ks,e,hk⟩:=aos (f:=moD) (P:=MoK ss) (l:=kr (ud (ms.map moD))) λx hx=> mem x (pm.mem_iff.mp hx)
 refine⟨ks,?_,hk,?_⟩
 ·rw [aik (aC.mpr λx hx=> by
   obtain⟨m,hm',rfl⟩:=aH.mp hx
   exact adz (aer (hm m hm') hs.ok) (by decide) (avv m)) (by rw [ak];lia) (by lia) (ahr (λx hx=> by
   obtain⟨m,rfl,_⟩:=mem x hx
   exact avv m) (λx hx y hy=> by
   obtain⟨m,rfl,_⟩:=mem x hx
   obtain⟨q,rfl,_⟩:=mem y hy
   exact a46 m q)) (aC.mpr λx hx=> by
   obtain⟨m,rfl,h⟩:=mem x hx
   exact (aer h hs.ok).okD (by decide)),e]
 ·have:=congrArg fj e
  rw [pm.length_eq,ak]at this
  lia
theorem apo{sts:List St}{a:Nat}(hs:SsK ss)(h6:many <=6)(ha:s[a]?=some (.lst ((sts.map St.d).map D.da)))(hm: ∀t∈sts,StOk many ss t)(hl:sts.length <=48): ∃ks:List St,vj false [.ref a] s=.ok (.lst (ks.map St.d)) s/\(∀m∈ks,StOk many ss m)/\ks.length <=48:=by
 obtain⟨u1,u2,u3⟩:=afi (sts.map St.d)
 rw [ak]at u3
 have mem: ∀x∈ud (sts.map St.d),∃m,x=St.d m/\StOk many ss m:=λx hx=> by
  obtain⟨m,hm',rfl⟩:=aH.mp ((u2 x).mp hx)
  exact⟨m,rfl,hm m hm'⟩
 have pm:=ya (ud (sts.map St.d))
 obtain⟨ks,e,hk⟩:=aos (f:=St.d) (P:=StOk many ss) (l:=kr (ud (sts.map St.d))) λx hx=> mem x (pm.mem_iff.mp hx)
 refine⟨ks,?_,hk,?_⟩
 ·rw [apd ha (aC.mpr λx hx=> by
   obtain⟨m,hm',rfl⟩:=aH.mp hx
   exact adz (St.nice (hm m hm') hs.ok h6) (by decide) (St.stk (hm m hm')).pl) (by rw [ak];lia) (by lia) (ahr (λx hx=> by
   obtain⟨m,rfl,h⟩:=mem x hx
   exact (St.stk h).pl) (λx hx y hy=> by
   obtain⟨m,rfl,h⟩:=mem x hx
   obtain⟨q,rfl,h2⟩:=mem y hy
   exact (St.stk h).lt (St.stk h2))) (aC.mpr λx hx=> by
   obtain⟨m,rfl,h⟩:=mem x hx
   exact (St.nice h hs.ok h6).okD (by decide)),e]
 ·have:=congrArg fj e
  rw [pm.length_eq,ak]at this
  lia
def tbD(ss:List Str)(many:Int)(sts:List St):ac:=.tuple [.tuple (ss.map bb),.int many,.tuple (sts.map St.d)]
structure TbK (ss:List Str) (many:Int) (sts:List St):Prop where
 s:SsK ss
 m1:1 <=many
 m6:many <=6
 st: ∀t∈sts,StOk many ss t
 len:sts.length <=48
structure PoJ (s0:S) (n c:Nat) (ss:List Str) (r acc:List D) (s:S):Prop where
 ex: ∃(ms:List (List (Str×Int))) (c':Nat),acc=ms.map (λm=> D.da (moD m))/\(∀m∈ms,MoK ss m)/\ms.length+r.length <=3/\Fd s n c'/\c'+3*r.length <=c+9/\j8 n s0 s
abbrev tEn(n a:Nat)(ss:List Str)(many:Int)(ms:List ac)(u6 u7 u8:Option D):En:=[some (.ref n),some (.int 6),some (.tup (ss.map bb)),some (.int many),some (.lst ms),some (.ref a),u6,u7,u8]
structure TsK (s0 s:S) (n a c:Nat) (ss:List Str) (many:Int) (k:Nat):Prop where
 ex: ∃fs:List St,s[a]?=some (.lst ((fs.map St.d).map D.da))/\(∀t∈fs,StOk many ss t)/\fs.length <=k/\Fd s n c/\j8 n s0 s/\s0.length <=a
structure I3 (s0:S) (n a c:Nat) (ss:List Str) (many:Int) (ms:List ac) (k:Nat) (i:Int) (m:ac) (r:List D) (ρ:En) (s:S):Prop where
 ex: ∃u8 k' c',ρ=tEn n a ss many ms (some (.int i)) (some (.da m)) u8/\TsK s0 s n a c' ss many k'/\k'+r.length <=k+2/\c'+r.length <=c+2
def t3B:FS:=(zk (fMt xj (ja 5) (jb (vb (jb (ja 6) (jb (ja 7) (jb (jh 2 jl (jb (ja 0) (jb (ja 3) jc))) jc)))) jc)))
theorem ay1{a k:Nat}{ms:List ac}{m:List (Str×Int)}{d:D}(h1:1 <=many)(h6:many <=6)(hi:0 <=i/\i < many)(hm:MoK ss m)(hc:c+10 < 2^40)(hk:k < 1000)(hn:n < s0.length)(J:I3 s0 n a c ss many ms k i (moD m) (d::r) ρ s):
  ∃ρ1,j6 (.nm 8) d ρ=some ρ1/\(t3B ρ1 s).W λfl s'=> ∃ρ2,fl=.nx ρ2/\I3 s0 n a c ss many ms k i (moD m) r ρ2 s':=by
 obtain⟨u8,k',c',rfl,⟨fs,ha,hf,fl,fd,sm,l0⟩,hkk,hcc⟩:=J.ex
 simp only [aG]at hkk hcc
 refine⟨_,avo,?_⟩
 unfold t3B
 walk_at "go"
 rw [aj2 ha]
 walk_at "go"
 refine R.W_mono (qu fd (by lia) (by lia) (by lia)) ?_
 rintro _ s1 ⟨j,rfl,j0,j1,fd1,sm1⟩
 have la:a < s.length:=(aB.mp ha).1
 have ha1:s1[a]?=some (.lst ((fs.map St.d).map D.da)):=by rw [sm1.get _ (by lia) la];exact ha
 walk_at "go"
 rw [show D.tup [aq i,moD m,aq j]=D.da (St.d ⟨i,m,j⟩) from rfl,abo (d:=.da (St.d ⟨i,m,j⟩)) ha1 (by rw [ak,ak];lia)]
 walk_at "go"
 refine⟨_,rfl,_,k'+1,c'+1,rfl,⟨fs++ [⟨i,m,j⟩],?_,?_,by simp;lia,fd1.set (by lia),(sm.trans sm1).own (by lia),l0⟩,by lia,by lia⟩
 ·rw [a8 (aP la sm1.len)];simp
 ·intro t ht
  rcases aR.mp ht with z|z
  ·exact hf t z
  ·rw [aF.mp z];exact⟨hi.1,hi.2,j0,j1,hm⟩
structure I2 (s0:S) (n a c:Nat) (ss:List Str) (many:Int) (ms:List ac) (k:Nat) (i:Int) (r:List D) (ρ:En) (s:S):Prop where
 ex: ∃(u7 u8:Option D) (k' c':Nat) (left:List (List (Str×Int))),r=left.map (λm=> D.da (moD m))/\(∀m∈left,MoK ss m)/\ρ=tEn n a ss many ms (some (.int i)) u7 u8/\TsK s0 s n a c' ss many k'/\k'+2*left.length <=k+8/\c'+3*left.length <=c+12
def t2B:FS:=(qj (zw (jb (fOp gIx (qr false (fVs (cN D.da [.int 1,.int 1,.int 2,.int 0,.int 1]))) (jh 2 jl (jb (ja 0) (jb (fC (.da (.int 5))) jc)))) jc)) (.nm 8) t3B)
theorem ax9{a k:Nat}{ms:List ac}{d:D}(h1:1 <=many)(h6:many <=6)(hi:0 <=i/\i < many)(hc:c+30 < 2^40)(hk:k < 900)(hn:n < s0.length)(J:I2 s0 n a c ss many ms k i (d::r) ρ s):
  ∃ρ1,j6 (.nm 7) d ρ=some ρ1/\(t2B ρ1 s).W λfl s'=> ∃ρ2,fl=.nx ρ2/\I2 s0 n a c ss many ms k i r ρ2 s':=by
 obtain⟨u7,u8,k',c',left,e2,hm,rfl,tk,hkk,hcc⟩:=J.ex
 cases left with
 |nil=> cases e2
 | cons m left=>
  cases e2
  obtain⟨fs,ha,hf,fl,fd,sm,l0⟩:=tk.ex
  simp only [aG]at hkk hcc
  refine⟨_,avt,?_⟩
  unfold t2B
  walk_at "go"
  refine R.W_mono (qu fd (by decide) (by decide) (by lia)) ?_
  rintro _ s1 ⟨j,rfl,j0,j1,fd1,sm1⟩
  obtain⟨q,rfl⟩:=bI j0
  have key: ∃y:Nat,([.int 1,.int 1,.int 2,.int 0,.int 1]:List ac)[q]?=some (.int (y:Int))/\y <=2:=by
   have:q < 5:=by lia
   match q,this with
   |0,_=> exact⟨1,rfl,by decide⟩
   |1,_=> exact⟨1,rfl,by decide⟩
   |2,_=> exact⟨2,rfl,by decide⟩
   |3,_=> exact⟨0,rfl,by decide⟩
   |4,_=> exact⟨1,rfl,by decide⟩
  obtain⟨y,hy,y2⟩:=key
  have la:a < s.length:=(aB.mp ha).1
  have ha1:s1[a]?=some (.lst ((fs.map St.d).map D.da)):=by rw [sm1.get _ (by lia) la];exact ha
  walk_at "go"
  rw [ab6 hy]
  walk_at "go"
  rw [z9 (by lia) (by lia),show ((y:Int)).toNat=y from cc _]
  walk_at "go"
  have hmm:MoK ss m:=hm m au
  refine R.W_mono (jx (Q:=λfl s'=> ∃ρ,fl=.nx ρ/\I3 s0 n a (c'+1) ss many ms k' i (moD m) [] ρ s') (I3 s0 n a (c'+1) ss many ms k' i (moD m)) ?_ ?_ _ _ _ ⟨u8,k',c'+1,rfl,⟨fs,ha1,hf,fl,fd1,sm.trans sm1,l0⟩,by rw [jz];lia,by rw [jz];lia⟩) ?_
  ·intro d r ρ s' J
   obtain⟨ρ1,e,w⟩:=ay1 h1 h6 hi hmm (by lia) (by lia) hn J
   refine⟨ρ1,e,R.W_mono w ?_⟩
   rintro _ s4 ⟨ρ2,rfl,J2⟩
   exact J2
  ·intro ρ s' J
   exact⟨ρ,rfl,J⟩
  ·rintro _ s4 ⟨ρ,rfl,u8',k'',c'',rfl,tk',hk',hc'⟩
   simp only [bS]at hk' hc'
   exact⟨_,rfl,_,_,k'',c'',left,rfl,(λx hx=> hm x (aw _ hx)),rfl,tk',by lia,by lia⟩
structure I1 (s0:S) (n a c:Nat) (ss:List Str) (many:Int) (ms:List ac) (r:List D) (ρ:En) (s:S):Prop where
 ex: ∃(u6 u7 u8:Option D) (k' c':Nat) (j:Nat),r=(aag j r.length)/\(j:Int)+r.length <=many/\ρ=tEn n a ss many ms u6 u7 u8/\TsK s0 s n a c' ss many k'/\k'+8*r.length <=48/\c'+12*r.length <=c+72
def t1B:FS:=(qj (fIt (fCB (vj false) (jb (ja 4) jc))) (.nm 7) t2B)
theorem awq{a:Nat}{ms:List (List (Str×Int))}{d:D}(h1:1 <=many)(h6:many <=6)(hs:SsK ss)(hms: ∀m∈ms,MoK ss m)(hml:ms.length <=4)(hc:c+200 < 2^40)(hn:n < s0.length)(J:I1 s0 n a c ss many (ms.map moD) (d::r) ρ s):
  ∃ρ1,j6 (.nm 6) d ρ=some ρ1/\(t1B ρ1 s).W λfl s'=> ∃ρ2,fl=.nx ρ2/\I1 s0 n a c ss many (ms.map moD) r ρ2 s':=by
 obtain⟨u6,u7,u8,k',c',j,er,hj,rfl,tk,hkk,hcc⟩:=J.ex
 simp only [aG]at er hj hkk hcc
 have er2:d::r=D.int (j:Int)::aag (j+1) r.length:=er
 injection er2 with e1 e2
 subst e1
 refine⟨_,a2z,?_⟩
 unfold t1B
 walk_at "go"
 obtain⟨ks,e,hk,hkl⟩:=at8 (s:=s) hs hms hml
 rw [e]
 walk_at "go"
 refine R.W_mono (jx (Q:=λfl s'=> ∃ρ,fl=.nx ρ/\I2 s0 n a c' ss many (ms.map moD) k' (j:Int) [] ρ s') (I2 s0 n a c' ss many (ms.map moD) k' (j:Int)) ?_ ?_ _ _ _ ⟨_,_,k',c',ks,by rw [bj];rfl,hk,rfl,tk,by lia,by lia⟩) ?_
 ·intro d r ρ s' J
  obtain⟨ρ1,e,w⟩:=ax9 h1 h6 ⟨by lia,by lia⟩ (by lia) (by lia) hn J
  refine⟨ρ1,e,R.W_mono w ?_⟩
  rintro _ s4 ⟨ρ2,rfl,J2⟩
  exact J2
 ·intro ρ s' J
  exact⟨ρ,rfl,J⟩
 ·rintro _ s4 ⟨ρ,rfl,u7',u8',k'',c'',left,el,_,rfl,tk',hk',hc'⟩
  cases left with
  |cons x l=> cases el
  |nil=>
   simp only [bS]at hk' hc'
   exact⟨_,rfl,_,_,_,k'',c'',j+1,e2,by push_cast;lia,rfl,tk',by lia,by lia⟩
theorem au8(h:Fd s n c)(hs:SsK ss)(hc:c+1000 < 2^40):
  DW (xo [.ref n,.int 6,.tup (ss.map bb)] s) λd s'=> ∃many sts,d=.da (tbD ss many sts)/\TbK ss many sts/\Fd s' n (c+100)/\j8 n s s':=by
 refine⟨?_⟩
 rw [als]
 show ((B_law_table [some (.ref n),some (.int 6),some (.tup (ss.map bb)),none,none,none,none,none,none] s).bind jw).W _
 unfold B_law_table
 walk_at "go"
 refine R.W_mono (qu h (by decide) (by decide) (by lia)) ?_
 rintro _ s1 ⟨m,rfl,m0,m1,fd1,sm1⟩
 walk_at "go"
 refine R.W_mono (qu fd1 (by decide) (by decide) (by lia)) ?_
 rintro _ s2 ⟨k,rfl,k0,k1,fd2,sm2⟩
 walk_at "go"
 rw [z9 (by lia) (by lia)]
 walk_at "go"
 rw [aan (ρ0:=[none,some (.ref n),some (.tup (ss.map bb))]) (by rw [jz];lia) rfl,R.W_bindk]
 refine R.W_mono (afo (Q:=λxs s'=> ∃ms:List (List (Str×Int)),xs=ms.map (λm=> D.da (moD m))/\(∀m∈ms,MoK ss m)/\ms.length <=3/\Fd s' n (c+11)/\j8 n s s') (PoJ s n (c+2) ss) ?_ ?_ _ [] s2 ⟨[],c+2,rfl,(λ_ h=> by cases h),by rw [jz];simp;lia,fd2,by rw [jz];lia,sm1.trans sm2⟩) ?_
 ·rintro d r acc s' ⟨ms,c',rfl,hm,hl,fd,hcc,sm⟩
  simp only [aG]at hl hcc
  refine⟨[some d,some (.ref n),some (.tup (ss.map bb))],rfl,?_⟩
  walk_at "go"
  refine R.W_mono (aqw fd hs (by lia)) ?_
  rintro _ s3 ⟨ps,rfl,hps,fd3,sm3⟩
  refine⟨ms++ [ps],c'+3,by simp,?_,by simp;lia,fd3,by lia,sm.trans sm3⟩
  intro x hx
  rcases aR.mp hx with z|z
  ·exact hm x z
  ·rw [aF.mp z];exact hps
 ·rintro acc s' ⟨ms,c',rfl,hm,hl,fd,hcc,sm⟩
  simp only [bS]at hl hcc
  exact⟨ms,rfl,hm,by lia,fd.le (by lia),sm⟩
 ·rintro xs s3 ⟨ms,e,hm,hl,fd3,sm3⟩
  rw [List.nil_append]at e
  subst e
  rw [show ms.map (λm=> D.da (moD m))=(ms.map moD).map D.da by rw [bj];rfl]
  walk_at "go"
  rw [abn (by simp;lia),show [dN []]++ms.map moD=([]::ms).map moD from rfl]
  walk_at "go"
  have hms: ∀m∈ []::ms,MoK ss m:=λx hx=> by
   rcases aA.mp hx with z|z
   ·rw [z];exact⟨by simp,(λ_ h=> by cases h),fz⟩
   ·exact hm x z
  have hl3:s.length <=s3.length:=sm3.len
  rw [z9 (by lia) (by lia)]
  walk_at "go"
  obtain⟨mm,em⟩: ∃mm:Nat,1+m=(mm:Int):=⟨(1+m).toNat,by lia⟩
  rw [em,cc]
  refine R.W_mono (jx (Q:=λfl s'=> ∃ρ,fl=.nx ρ/\I1 s n s3.length (c+11) ss (mm:Int) (([]::ms).map moD) [] ρ s') (I1 s n s3.length (c+11) ss (mm:Int) (([]::ms).map moD)) ?_ ?_ _ _ _ ⟨_,_,_,0,c+11,0,(by rw [jz];rfl),by rw [jz];simp,rfl,⟨[],by simp,(λ_ h=> by cases h),by simp,fd3.ext (Ext.add _ _),sm3.trans ((Ext.add _ _).same n),hl3⟩,by rw [jz];lia,by rw [jz];lia⟩) ?_
  ·intro d r ρ s' J
   obtain⟨ρ1,e,w⟩:=awq (by lia) (by lia) hs hms (by simp;lia) (by lia) h.lt J
   refine⟨ρ1,e,R.W_mono w ?_⟩
   rintro _ s4 ⟨ρ2,rfl,J2⟩
   exact J2
  ·intro ρ s' J
   exact⟨ρ,rfl,J⟩
  ·rintro _ s4 ⟨ρ,rfl,u6,u7,u8,k',c',j,_,_,rfl,⟨fs,ha,hf,fl,fd4,sm4,l0⟩,hkk,hcc⟩
   simp only [bS]at hkk hcc
   walk_at "go"
   obtain⟨ks,e,hk,hkl⟩:=apo hs (by lia) ha hf (by lia)
   rw [e]
   walk_at "go"
   exact⟨(mm:Int),ks,rfl,⟨hs,by lia,by lia,hk,hkl⟩,fd4.le (by lia),sm4⟩
abbrev iL(l:List Int):List D:=(l.map aq).map D.da
theorem aby{l:List Int}{hi:Int}(nd:l.Nodup)(h: ∀x∈l,0 <=x/\x < hi)(h0:0 <=hi):(l.length:Int) <=hi:=by
 have pm:=zg l
 rcases abg (xq l) 0 hi (ape nd) (λx hx=> h x (pm.mem_iff.mp hx)) with e|e
 ·have:=pm.length_eq
  rw [e]at this
  simp at this
  lia
 ·rw [pm.length_eq]at e
  lia
structure FrK (sts:List St) (many i:Int) (l:List Int):Prop where
 me:i∈l
 bd: ∀x∈l,0 <=x/\x < many
 cl: ∀t∈sts,t.b∈l -> t.e∈l
 by_: ∀P:Int -> Prop,P i -> (∀t∈sts,P t.b -> P t.e) -> ∀x∈l,P x
 len:l.length <=6
structure LnK (sts:List St) (many i:Int) (l:List Int):Prop where
 nd:l.Nodup
 me:i∈l
 bd: ∀x∈l,0 <=x/\x < many
 by_: ∀P:Int -> Prop,P i -> (∀t∈sts,P t.b -> P t.e) -> ∀x∈l,P x
theorem LnK.add{sts:List St}{l:List Int}{t:St}(h:LnK sts many i l)(ht:t∈sts)(hb:t.b∈l)(he:t.e∉l)(h0:0 <=t.e/\t.e < many):LnK sts many i (l++ [t.e]):=by
 refine⟨?_,bX _ h.me,?_,?_⟩
 ·rw [dZ]
  refine⟨h.nd,by simp,λx hx y hy e=> ?_⟩
  rw [aF.mp hy]at e
  exact he (e▸hx)
 ·intro x hx
  rcases aR.mp hx with z|z
  ·exact h.bd x z
  ·rw [aF.mp z];exact h0
 ·intro P p0 p1 x hx
  rcases aR.mp hx with z|z
  ·exact h.by_ P p0 p1 x z
  ·rw [aF.mp z];exact p1 t ht (h.by_ P p0 p1 _ hb)
theorem a2i{a:Nat}{l:List Int}{x:Int}(h:s[a]?=some (.lst (iL l))):yg (.int x) (.ref a) s=.ok (.bl (decide (x∉l))) s:=by
 have:=aro (d:=.int x) h rfl (λy hy=> by obtain⟨k,_,rfl⟩:=aH.mp hy;rfl) (by simp [plD]) (λy hy=> by obtain⟨k,_,rfl⟩:=aH.mp hy;simp [plD])
 rw [this]
 congr 2
 (rw [bh,decide_eq_true_eq,decide_eq_true_eq])
 refine not_congr ⟨λz=> ?_,λz=> aH.mpr ⟨x,z,rfl⟩⟩
 obtain⟨k,hk,e⟩:=aH.mp z
 injection e with e
 exact e▸hk
def frB:FS:=(jy (vt (jf (fOp gEq (ja 4) (fOp gIx (ja 2) (ja 3)))) (jf (fOp yg (ja 6) (ja 2)))) (zk (fMt xj (ja 2) (jb (ja 6) jc))) jp)
abbrev fEn(T i:D)(a k:Nat)(u4 u5 u6:Option D):En:=[some T,some i,some (.ref a),some (.int (k:Int)),u4,u5,u6]
structure FrJ (s0:S) (T:D) (many i:Int) (sts:List St) (l0:List Int) (k:Nat) (r:List D) (ρ:En) (s:S):Prop where
 ex: ∃(l:List Int) (u4 u5 u6:Option D) (done jg:List St),sts=done++jg/\r=(jg.map St.d).map D.da/\ρ=fEn T (.int i) s0.length k u4 u5 u6/\s[s0.length]?=some (.lst (iL l))/\LnK sts many i l/\(∃g,l=l0++g)/\
  (∀t∈done,l[k]?=some t.b -> t.e∈l)/\s0.length <=s.length/\ ∀j,j < s0.length -> s[j]?=s0[j]?
theorem ayv{T:D}{sts:List St}{l0:List Int}{k:Nat}{d:D}(hst: ∀t∈sts,StOk many ss t)(h6:many <=6)(hk:k < l0.length)(J:FrJ s0 T many i sts l0 k (d::r) ρ s):
  ∃ρ1,j6 (.t3 (.nm 4) (.nm 5) (.nm 6)) d ρ=some ρ1/\(frB ρ1 s).W λfl s'=> ∃ρ2,fl=.nx ρ2/\FrJ s0 T many i sts l0 k r ρ2 s':=by
 obtain⟨l,u4,u5,u6,done,jg,e1,e2,rfl,ha,lk,⟨g,hg⟩,hd,hl,hf⟩:=J.ex
 cases jg with
 |nil=> cases e2
 | cons t jg=>
  cases e2
  have ht:t∈sts:=by rw [e1];simp
  have hkl:k < l.length:=by rw [hg,aQ];lia
  refine⟨fEn T (.int i) s0.length k (some (.int t.b)) (some (.da (moD t.m))) (some (.int t.e)),rfl,?_⟩
  unfold frB
  walk_at "go"
  rw [amm (d:=.int l[k]) ha (ab9 (ab9 (ao hkl)))]
  walk_at "go"
  rw [aaa]
  have bl:(l.length:Int) <=6:=gj (aby lk.nd lk.bd (by have:=(hst t ht).b0;have:=(hst t ht).b1;lia)) h6
  by_cases z:t.b=l[k]
  ·rw [decide_eq_true z]
   walk_at "go"
   rw [a2i ha]
   by_cases y:t.e∈l
   ·rw [decide_eq_false (by simpa using y)]
    walk_at "go"
    refine⟨_,rfl,l,_,_,_,done++ [t],jg,by rw [e1];simp,rfl,rfl,ha,lk,⟨g,hg⟩,?_,hl,hf⟩
    intro t' ht' e'
    rcases aR.mp ht' with w|w
    ·exact hd t' w e'
    ·rw [aF.mp w];exact y
   ·rw [decide_eq_true y]
    walk_at "go"
    rw [aj2 ha]
    walk_at "go"
    rw [abo ha (by simp;lia)]
    walk_at "go"
    refine⟨_,rfl,l++ [t.e],_,_,_,done++ [t],jg,by rw [e1];simp,rfl,rfl,?_,lk.add ht (by rw [z];exact eL hkl) y ⟨(hst t ht).e0,(hst t ht).e1⟩,⟨g++ [t.e],by rw [hg];simp⟩,?_,by simpa using hl,λj hj=> by rw [bL (by lia)];exact hf j hj⟩
    ·rw [a8 (aB.mp ha).1];simp
    ·intro t' ht' e'
     rw [aI hkl]at e'
     rcases aR.mp ht' with w|w
     ·exact bX _ (hd t' w e')
     ·rw [aF.mp w];simp
  ·rw [decide_eq_false z]
   walk_at "go"
   refine⟨_,rfl,l,_,_,_,done++ [t],jg,by rw [e1];simp,rfl,rfl,ha,lk,⟨g,hg⟩,?_,hl,hf⟩
   intro t' ht' e'
   rcases aR.mp ht' with w|w
   ·exact hd t' w e'
   ·rw [aF.mp w,ao hkl]at e'
    exact absurd (b8 e').symm z
structure FwJ (s0:S) (T:D) (many i:Int) (sts:List St) (m:Nat) (ρ:En) (s:S):Prop where
 ex: ∃(l:List Int) (k:Nat) (u4 u5 u6:Option D),ρ=fEn T (.int i) s0.length k u4 u5 u6/\s[s0.length]?=some (.lst (iL l))/\LnK sts many i l/\k <=l.length/\m+k=6/\
  (∀j,j < k -> ∀t∈sts,l[j]?=some t.b -> t.e∈l)/\s0.length <=s.length/\ ∀j,j < s0.length -> s[j]?=s0[j]?
theorem aeu{sts:List St}(h:TbK ss many sts)(hi:0 <=i/\i < many):
  (qo [.da (tbD ss many sts),.int i] s).W λd s'=> ∃l:List Int,d=.lst (l.map aq)/\FrK sts many i l/\Ext s s':=by
 rw [anj];unfold B_law_from
 walk_at "go"
 have m6:=h.m6
 refine R.W_mono (abz (Q:=λfl s'=> ∃(l:List Int) (ρ:En),fl=.nx ρ/\ρ=fEn (.da (tbD ss many sts)) (.int i) s.length l.length ρ[4]! ρ[5]! ρ[6]! /\s'[s.length]?=some (.lst (iL l))/\LnK sts many i l/\(∀t∈sts,t.b∈l -> t.e∈l)/\Ext s s') (FwJ s (.da (tbD ss many sts)) many i sts) ?_ 100 6 _ _ (by decide) ⟨[i],0,_,_,_,rfl,by simp,⟨by simp,by simp,λx hx=> by rw [aF.mp hx];exact hi,λP p0 _ x hx=> by rw [aF.mp hx];exact p0⟩,by simp,rfl,λj hj=> absurd hj (by lia),by simp,λj hj=> by rw [aI hj]⟩) ?_
 ·rintro m ρ s1 ⟨l,k,u4,u5,u6,rfl,ha,lk,hkl,hm,hc,hL,hF⟩
  have bl:(l.length:Int) <=6:=gj (aby lk.nd lk.bd (by lia)) m6
  walk_at "go"
  rw [awl ha]
  walk_at "go"
  rw [ak,ak]
  by_cases z:k < l.length
  ·rw [decide_eq_true (by lia),if_pos rfl]
   unfold tbD
   walk_at "go"
   refine R.W_mono (jx (Q:=λfl s'=> ∃ρ,fl=.nx ρ/\FrJ s (.da (tbD ss many sts)) many i sts l k [] ρ s') (FrJ s (.da (tbD ss many sts)) many i sts l k) ?_ ?_ _ _ _ ⟨l,_,_,_,[],sts,rfl,rfl,rfl,ha,lk,⟨[],by simp⟩,(λ_ h=> by cases h),hL,hF⟩) ?_
   ·intro d r ρ s' J
    obtain⟨ρ1,e,w⟩:=ayv h.st m6 z J
    refine⟨ρ1,e,R.W_mono w ?_⟩
    rintro _ s4 ⟨ρ2,rfl,J2⟩
    exact J2
   ·intro ρ s' J
    exact⟨ρ,rfl,J⟩
   ·rintro _ s4 ⟨ρ,rfl,l',u4',u5',u6',done,jg,e1,e2,rfl,ha',lk',⟨g,hg⟩,hd,hL',hF'⟩
    cases jg with
    |cons x r=> cases e2
    | nil=>
     rw [b7]at e1
     subst e1
     walk_at "go"
     refine⟨m - 1,by lia,l',k+1,_,_,_,rfl,ha',lk',by rw [hg,aQ];lia,by lia,?_,hL',hF'⟩
     intro j hj t ht e'
     by_cases y:j=k
     ·subst y;exact hd t ht e'
     ·have hjk:j < k:=by lia
      rw [hg,aI (by lia)]at e'
      rw [hg]
      exact bX _ (hc j hjk t ht e')
  ·rw [decide_eq_false (by lia),if_neg ax]
   have hke:k=l.length:=by lia
   subst hke
   refine⟨l,_,rfl,rfl,ha,lk,λt ht hb=> ?_,apy hF hL⟩
   obtain⟨j,hj,e⟩:=fU hb
   exact hc j hj t ht (by rw [ao hj,e])
 ·rintro _ s1 ⟨l,ρ,rfl,e,ha,lk,hc,x⟩
  rw [e]
  have bl:(l.length:Int) <=6:=gj (aby lk.nd lk.bd (by lia)) m6
  walk_at "go"
  rw [aop ha (by rw [ak];lia) (ai3 l) (by simp only [hU,aC,Function.comp];exact λa _=> rfl),auz]
  walk_at "go"
  have pm:=zg l
  exact⟨xq l,rfl,⟨pm.mem_iff.mpr lk.me,λx hx=> lk.bd x (pm.mem_iff.mp hx),λt ht hb=> pm.mem_iff.mpr (hc t ht (pm.mem_iff.mp hb)),λP p0 p1 x hx=> lk.by_ P p0 p1 x (pm.mem_iff.mp hx),by rw [pm.length_eq];lia⟩,x⟩
theorem a12{p q:Str×Int}(h:pr p=pr q):p=q:=by
 unfold pr at h
 injection h with h
 injection h with h1 h2
 injection h1 with h1
 injection h2 with h2 _
 injection h2 with h2
 exact Prod.ext h1 h2
theorem aho{w:Str×Int}{ps:List (Str×Int)}(hs:SsK ss)(hw:w.1∈ss/\0 <=w.2/\w.2 < 3)(h:MoK ss ps):gIn (.da (pr w)) (.da (moD ps)) s=.ok (.bl (decide (w∈ps))) s:=by
 have okp: ∀p:Str×Int,p.1∈ss/\0 <=p.2/\p.2 < 3 -> okD (pr p)=true:=λp hp=> (ahm (aad (hs.ok _ hp.1)) hp.2.1 hp.2.2).okD (by decide)
 show (if okD (pr w)=true/\(ps.map pr).all okD=true then R.ok (D.bl (nb false ((ps.map pr).any λd=> aM d (pr w)))) s else .bad)=_
 rw [if_pos ⟨okp w hw,aC.mpr λx hx=> by
  obtain⟨p,hp,rfl⟩:=aH.mp hx
  exact okp p (h.mem p hp)⟩]
 have:((ps.map pr).any λd=> aM d (pr w))=decide (w∈ps):=by
  (rw [bh,dG,decide_eq_true_eq])
  constructor
  ·rintro⟨x,hx,e⟩
   obtain⟨p,hp,rfl⟩:=aH.mp hx
   have:=a12 ((yt _ _ (ag0 p) (ag0 w)).mp e)
   exact this▸hp
  ·exact λhm=> ⟨pr w,bR hm,(yt _ _ (ag0 w) (ag0 w)).mpr rfl⟩
 rw [this];rfl
theorem akv{kvs:List (ac×D)}(h:s[n]?=some (.dct kvs)):acu [.ref n] s=.ok (.int kvs.length) s:=by
 show (match ajb s (.ref n) with|some kvs=> R.ok (D.int kvs.length) s|none=> vo [.ref n] s)=_
 rw [ak4 h]
theorem anp{kvs:List (ac×D)}(nd:(kvs.map (·.1)).Nodup){e:ac×D}(h:e∈kvs):j5 kvs e.1=some e.2:=by
 induction kvs with
 |nil=> cases h
 | cons x r ih=>
  rw [aK,cZ]at nd
  unfold j5
  rw [cw]
  by_cases z:x.1=e.1
  ·rw [decide_eq_true z]
   rcases aA.mp h with y|y
   ·rw [y];rfl
   ·exact absurd (z▸bR (f:=λp:ac×D=> p.1) y) nd.1
  ·rw [decide_eq_false z]
   rcases aA.mp h with y|y
   ·exact absurd (by rw [y]) z
   ·exact ih nd.2 y
theorem auy{kvs:List (ac×D)}{k:ac}{v:D}:kvs.length <=(kj kvs k v).length/\(k∉kvs.map (·.1) -> (kj kvs k v).length=kvs.length+1):=by
 have:=congrArg fj (ak8 kvs k v)
 rw [ak]at this
 rw [this]
 unfold ao2
 split
 ·rename_i h
  rw [ak]
  exact⟨av _,λn=> absurd h n⟩
 ·simp
structure Lv (kvs:List (ac×D)) (lv:Int -> Option Nat) (many:Int):Prop where
 kI: ∀k∈kvs.map (·.1),∃i:Int,k=.int i
 nd:(kvs.map (·.1)).Nodup
 g: ∀i,j5 kvs (.int i)=(lv i).map λv:Nat=> D.int (v:Int)
 bd: ∀i v,lv i=some v -> 0 <=i/\i < many
theorem Lv.ks{kvs lv many}(h:Lv kvs lv many):(kvs.all λe=> isK e.1)=true:=by
 rw [aC]
 intro e he
 obtain⟨i,z⟩:=h.kI e.1 (bR he)
 rw [z];rfl
theorem Lv.mem{kvs lv many}(h:Lv kvs lv many):aq i∈kvs.map (·.1) ↔ (lv i).isSome=true:=by
 rw [←az4,h.g];cases lv i <;> simp
theorem Lv.len{kvs lv many}(h:Lv kvs lv many)(h0:0 <=many):(kvs.length:Int) <=many:=by
 obtain⟨is,e,_⟩:=aos (f:=aq) (P:=λ_=> True) (l:=kvs.map (·.1)) λx hx=> by obtain⟨i,z⟩:=h.kI x hx;exact⟨i,z,trivial⟩
 have nd:=h.nd
 rw [e]at nd
 have nd2:is.Nodup:=by
  unfold lP at nd⊢
  rw [cX]at nd
  exact nd.imp λ{a b} h e=> h (by rw [e])
 have l:kvs.length=is.length:=by have:=congrArg fj e;simpa using this
 rw [l]
 refine aby nd2 (λx hx=> ?_) h0
 have:aq x∈kvs.map (·.1):=by rw [e];exact bR hx
 obtain⟨v,hv⟩:=dm.mp (h.mem.mp this)
 exact h.bd x v hv
theorem Lv.put{kvs lv many}(h:Lv kvs lv many)(i:Int)(v:Nat)(hi:0 <=i/\i < many):Lv (kj kvs (.int i) (.int (v:Int))) (λj=> if j=i then some v else lv j) many:=by
 refine⟨?_,?_,?_,?_⟩
 ·intro k hk
  obtain⟨e,he,rfl⟩:=aH.mp hk
  rcases alz he with z|⟨e',h',z⟩
  ·exact⟨i,z⟩
  ·rw [←z];exact h.kI _ (bR h')
 ·rw [ak8]
  unfold ao2
  split
  ·exact h.nd
  ·rename_i z
   rw [dZ]
   refine⟨h.nd,by simp,λx hx y hy e=> ?_⟩
   rw [aF.mp hy]at e
   exact z (e▸hx)
 ·intro j
  rw [ams]
  by_cases z:j=i
  ·subst z;simp
  ·rw [if_neg (λe=> z (by injection e with e;exact e.symm)),if_neg z];exact h.g j
 ·intro j u hu
  by_cases z:j=i
  ·rw [z];exact hi
  ·simp only [if_neg z]at hu;exact h.bd j u hu
theorem ath(many:Int):Lv [] (λ_=> none) many:=⟨(λ_ h=> by cases h),by simp,λi=> rfl,λi v h=> by cases h⟩
theorem Lv.vals{kvs lv many}(h:Lv kvs lv many): ∃vs:List Nat,kvs.map (·.2)=vs.map (λv:Nat=> D.int (v:Int))/\(∀v∈vs,∃i,lv i=some v)/\ ∀i v,lv i=some v -> v∈vs:=by
 have all: ∀l:List (ac×D),(∀e∈l,e∈kvs) -> ∃vs:List Nat,l.map (·.2)=vs.map (λv:Nat=> D.int (v:Int))/\(∀v∈vs,∃i,lv i=some v)/\ ∀i v,aq i∈l.map (·.1) -> lv i=some v -> v∈vs:=by
  intro l
  induction l with
  |nil=> intro _;exact⟨[],rfl,(λ_ h=> by cases h),λi v h=> by cases h⟩
  | cons e r ih=>
   intro hl
   obtain⟨vs,e1,e2,e3⟩:=ih λx hx=> hl x (aw _ hx)
   obtain⟨i,hi⟩:=h.kI e.1 (bR (hl e au))
   have gm:=anp h.nd (hl e au)
   rw [hi,h.g]at gm
   obtain⟨v,hv,hv2⟩:=kO.mp gm
   refine⟨v::vs,by rw [aK,aK,e1,←hv2],λu hu=> ?_,λj u hj hu=> ?_⟩
   ·rcases aA.mp hu with z|z
    ·exact⟨i,z▸hv⟩
    ·exact e2 u z
   ·rcases aA.mp hj with z|z
    ·have z:aq j=e.1:=z
     rw [hi]at z
     injection z with z
     subst z
     rw [hv]at hu
     injection hu with hu
     rw [hu];exact au
    ·exact aw _ (e3 j u z hu)
 obtain⟨vs,e1,e2,e3⟩:=all kvs λ_ h=> h
 exact⟨vs,e1,e2,λi v hv=> e3 i v (h.mem.mpr (by rw [hv];rfl)) hv⟩
def l1B:FS:=(jy (jf (fOp gIn (ja 1) (ja 4))) (yj xu (fC (.da (.int 0))) (ja 2) (ja 3)) jp)
abbrev lEn(T W:D)(a:Nat)(u3 u4 u5 u6 u7 u8 u9:Option D):En:=[some T,some W,some (.ref a),u3,u4,u5,u6,u7,u8,u9]
structure Oth (s0 s:S):Prop where
 le:s0.length <=s.length
 at_: ∀j,j < s0.length -> s[j]?=s0[j]?
theorem Oth.set(h:Oth s0 s):Oth s0 (s.set s0.length o):=⟨by simpa using h.le,λj hj=> by rw [bL (by lia)];exact h.at_ j hj⟩
structure L1J (s0:S) (T:D) (w:Str×Int) (many:Int) (sts:List St) (r:List D) (ρ:En) (s:S):Prop where
 ex: ∃(kvs:List (ac×D)) (lv:Int -> Option Nat) (u3 u4 u5:Option D) (done jg:List St),sts=done++jg/\r=(jg.map St.d).map D.da/\ρ=lEn T (.da (pr w)) s0.length u3 u4 u5 none none none none/\s[s0.length]?=some (.dct kvs)/\Lv kvs lv many/\
  (∀i v,lv i=some v -> v=0/\ ∃t∈sts,t.b=i/\w∈t.m)/\(∀t∈done,w∈t.m -> lv t.b=some 0)/\Oth s0 s
theorem awf{T:D}{w:Str×Int}{sts:List St}{d:D}(hs:SsK ss)(hw:w.1∈ss/\0 <=w.2/\w.2 < 3)(hst: ∀t∈sts,StOk many ss t)(h6:many <=6)(J:L1J s0 T w many sts (d::r) ρ s):
  ∃ρ1,j6 (.t3 (.nm 3) (.nm 4) (.nm 5)) d ρ=some ρ1/\(l1B ρ1 s).W λfl s'=> ∃ρ2,fl=.nx ρ2/\L1J s0 T w many sts r ρ2 s':=by
 obtain⟨kvs,lv,u3,u4,u5,done,jg,e1,e2,rfl,ha,hL,h1,h2,ot⟩:=J.ex
 cases jg with
 |nil=> cases e2
 | cons t jg=>
  cases e2
  have ht:t∈sts:=by rw [e1];simp
  have ok:=hst t ht
  have b0:=ok.b0;have b1:=ok.b1
  have len:=hL.len (by lia)
  refine⟨lEn T (.da (pr w)) s0.length (some (.int t.b)) (some (.da (moD t.m))) (some (.int t.e)) none none none none,rfl,?_⟩
  unfold l1B
  walk_at "go"
  rw [aho hs hw ok.mo]
  by_cases z:w∈t.m
  ·rw [decide_eq_true z]
   walk_at "go"
   rw [ad6 ha (ach hL.ks t.b) (by lia)]
   walk_at "go"
   refine⟨_,rfl,_,_,_,_,_,done++ [t],jg,by rw [e1];simp,rfl,rfl,a8 (aB.mp ha).1,hL.put t.b 0 ⟨b0,b1⟩,?_,?_,ot.set⟩
   ·intro i v hv
    by_cases y:i=t.b
    ·simp only [if_pos y]at hv
     injection hv with hv
     exact⟨hv.symm,t,ht,y.symm,z⟩
    ·simp only [if_neg y]at hv;exact h1 i v hv
   ·intro t' ht' hm
    by_cases y:t'.b=t.b
    ·simp only [if_pos y]
    ·simp only [if_neg y]
     rcases aR.mp ht' with q|q
     ·exact h2 t' q hm
     ·rw [aF.mp q]at y;exact absurd rfl y
  ·rw [decide_eq_false z]
   walk_at "go"
   refine⟨_,rfl,kvs,lv,_,_,_,done++ [t],jg,by rw [e1];simp,rfl,rfl,ha,hL,h1,?_,ot⟩
   intro t' ht' hm
   rcases aR.mp ht' with q|q
   ·exact h2 t' q hm
   ·rw [aF.mp q]at hm;exact absurd hm z
theorem a08{m:Bool}:aj9 m f ρ s=(f ρ s).bind (age m):=(rfl)
theorem azg{kvs:List (ac×D)}(h:s[n]?=some (.dct kvs))(hk:(kvs.all λe=> isK e.1)=true)(hv:kvs.map (·.2)=xs.map D.da):age false (.ref n) s=.ok (.lst xs) s:=by
 unfold age
 rw [ak4 h]
 show (if (kvs.all λe=> isK e.1)=true then kh false (kvs.map (·.2)) s else .bad)=_
 rw [if_pos hk,hv]
 exact ag2
theorem axu: ∀(zs:List Int),zs≠ [] -> ∃M,aet [.lst (zs.map aq)] s=.ok (.int M) s/\M∈zs/\ ∀a∈zs,a <=M
 |[],h=> absurd rfl h
 |i::is,_=> ⟨abf i is,au6,(aem is i).1,(aem is i).2⟩
structure Wv (sts:List St) (w:Str×Int) (lv:Int -> Option Nat) (n:Nat):Prop where
 w1: ∀i v,lv i=some v -> v+1 <=n
 w2: ∀i,lv i=some 0 -> ∃t∈sts,t.b=i/\w∈t.m
 w3: ∀i v,lv i=some (v+1) -> ∃t∈sts,t.b=i/\ ∃v',lv t.e=some v'/\v' <=v
 w4: ∀t∈sts,w∈t.m -> lv t.b=some 0
def l3B:FS:=(yj xu (fOp (kf false) (ja 8) (fC (.da (.int 1)))) (ja 2) (ja 9))
structure L3J (s0:S) (T W:D) (u3 u4 u5 u6 u7:Option D) (mm:Nat) (many:Int) (kvs:List (ac×D)) (lv:Int -> Option Nat) (fs:List Int) (r:List D) (ρ:En) (s:S):Prop where
 ex: ∃(kvs':List (ac×D)) (lv':Int -> Option Nat) (u9:Option D) (done jg:List Int),fs=done++jg/\r=(jg.map aq).map D.da/\ρ=lEn T W s0.length u3 u4 u5 u6 u7 (some (.int (mm:Int))) u9/\s[s0.length]?=some (.dct kvs')/\Lv kvs' lv' many/\
  (∀j,lv' j=if j∈done then some (mm+1) else lv j)/\kvs.length <=kvs'.length/\(done≠ [] -> kvs.length+1 <=kvs'.length)/\Oth s0 s
theorem azh{T W:D}{u3 u4 u5 u6 u7:Option D}{mm:Nat}{kvs:List (ac×D)}{lv:Int -> Option Nat}{fs:List Int}{d:D}(h1:1 <=many)(h6:many <=6)(hf: ∀x∈fs,(0 <=x/\x < many)/\lv x=none)(J:L3J s0 T W u3 u4 u5 u6 u7 mm many kvs lv fs (d::r) ρ s):
  ∃ρ1,j6 (.nm 9) d ρ=some ρ1/\(l3B ρ1 s).W λfl s'=> ∃ρ2,fl=.nx ρ2/\L3J s0 T W u3 u4 u5 u6 u7 mm many kvs lv fs r ρ2 s':=by
 obtain⟨kvs',lv',u9,done,jg,e1,e2,rfl,ha,hL,hv,hle,hne,ot⟩:=J.ex
 cases jg with
 |nil=> cases e2
 | cons x jg=>
  cases e2
  have hx:=hf x (by rw [e1];simp)
  have len:=hL.len (by lia)
  refine⟨_,aw0,?_⟩
  unfold l3B
  walk_at "go"
  rw [ad6 ha (ach hL.ks x) (by lia)]
  walk_at "go"
  have pl:=auy (kvs:=kvs') (k:=.int x) (v:=.int ((mm+1:Nat):Int))
  refine⟨_,rfl,kj kvs' (.int x) (.int ((mm+1:Nat):Int)),_,_,done++ [x],jg,by rw [e1];simp,rfl,rfl,a8 (aB.mp ha).1,hL.put x (mm+1) hx.1,?_,by lia,λ_=> ?_,ot.set⟩
  ·intro j
   by_cases y:j=x
   ·subst y;simp
   ·simp only [if_neg y]
    rw [hv j]
    by_cases z:j∈done
    ·rw [if_pos z,if_pos (bX _ z)]
    ·rw [if_neg z,if_neg (λq=> by rcases aR.mp q with q|q;exact z q;exact y (aF.mp q))]
  ·by_cases z:done=[]
   ·subst z
    have:aq x∉kvs'.map (·.1):=λq=> by
     have:=hL.mem.mp q
     rw [hv x]at this
     simp [hx.2]at this
    have:=pl.2 this
    lia
   ·have:=hne z;lia
def lwB:FS:=(jd (jj 6 (fCB acu (jb (ja 2) jc)))
  (jd (jj 7 (fLc false [2] 3 (fIt (fOp gIx (ja 0) (fC (.da (.int 2))))) (.t3 (.nm 0) (.nm 1) (.nm 2)) (vt (jf (fOp (qd true) (ja 0) (ja 3))) (jf (fOp (qd false) (ja 2) (ja 3)))) (ja 0)))
  (jd (jj 8 (fCB aet (jb (fOp (kf false) (aj9 false (ja 2)) (qr false (jb (fC (.da (.int 0))) jc))) jc)))
  (qj (fIt (ja 7)) (.nm 9) l3B))))
structure LwJ (s0:S) (ss:List Str) (many:Int) (sts:List St) (w:Str×Int) (m:Nat) (ρ:En) (s:S):Prop where
 ex: ∃(kvs:List (ac×D)) (lv:Int -> Option Nat) (u3 u4 u5 u7 u8 u9:Option D) (mny:Int),ρ=lEn (.da (tbD ss many sts)) (.da (pr w)) s0.length u3 u4 u5 (some (.int mny)) u7 u8 u9/\s[s0.length]?=some (.dct kvs)/\Lv kvs lv many/\Wv sts w lv kvs.length/\
  mny <=kvs.length/\(mny=kvs.length -> ∀t∈sts,lv t.e≠none -> lv t.b≠none)/\(m:Int)=7 - mny/\Oth s0 s
theorem ayi{w:Str×Int}{sts:List St}{kvs:List (ac×D)}{lv:Int -> Option Nat}{u3 u4 u5 u7 u8 u9:Option D}{mny:Int}(h:TbK ss many sts)(ha:s[s0.length]?=some (.dct kvs))(hL:Lv kvs lv many)(hW:Wv sts w lv kvs.length)(hm:mny < kvs.length)(hmm:(m:Int)=7 - mny)(ot:Oth s0 s):
  (lwB (lEn (.da (tbD ss many sts)) (.da (pr w)) s0.length u3 u4 u5 (some (.int mny)) u7 u8 u9) s).W λfl s'=> ∃ρ2,fl=.nx ρ2/\ ∃m',m' < m/\LwJ s0 ss many sts w m' ρ2 s':=by
 have h1:=h.m1
 have h6:=h.m6
 have len:=hL.len (by lia)
 unfold lwB tbD
 walk_at "go"
 rw [akv ha]
 walk_at "go"
 rw [aan (ρ0:=[none,none,none,some (.ref s0.length)]) (by rw [ak,ak];have:=h.len;lia) rfl]
 rw [show ((sts.map St.d).map D.da)=sts.map (λt=> D.da (St.d t)) by rw [bj];rfl]
 rw [xi (λt:St=> D.da t.d) (λt=> !(lv t.b).isSome&&(lv t.e).isSome) (λt=>.int t.b) sts (λt ht=> ⟨[some (.int t.b),some (.da (moD t.m)),some (.int t.e),some (.ref s0.length)],rfl,by
  walk_at "ev"
  rw [ad5 ha (ach hL.ks t.b),hL.g,cy]
  walk_at "ev"
  cases (lv t.b).isSome with
  |true=> walk_at "ev"
  |false=>
   walk_at "ev"
   rw [an5 ha (ach hL.ks t.e),hL.g,cy]
   walk_at "ev",λ_=> by walk_at "ev"⟩)]
 walk_at "go"
 obtain⟨vs,ev,v1,v2⟩:=hL.vals
 rw [a08]
 walk_at "go"
 rw [azg (xs:=(vs.map λv:Nat=> (v:Int)).map aq) ha hL.ks (by rw [ev,bj,bj];rfl)]
 walk_at "go"
 rw [abn (by
  have:=congrArg fj ev
  simp at this
  simp
  lia)]
 rw [show (vs.map λv:Nat=> (v:Int)).map aq++ [aq 0]=((vs.map λv:Nat=> (v:Int))++ [0]).map aq by rw [c6];rfl]
 walk_at "go"
 obtain⟨M,eM,M1,M2⟩:=axu (s:=s) ((vs.map λv:Nat=> (v:Int))++ [0]) (by simp)
 rw [eM]
 walk_at "go"
 have M0:0 <=M:=M2 0 (by simp)
 obtain⟨mm,rfl⟩:=bI M0
 have Mv: ∀i v,lv i=some v -> v <=mm:=λi v hv=> by
  have:=M2 (v:Int) (bX _ (aH.mpr ⟨v,v2 i v hv,rfl⟩))
  lia
 have Mn:0 < kvs.length -> mm+1 <=kvs.length:=λhn=> by
  rcases aR.mp M1 with z|z
  ·obtain⟨v,hv,e⟩:=aH.mp z
   obtain⟨i,hi⟩:=v1 v hv
   have:=hW.w1 i v hi
   lia
  ·have:=aF.mp z;lia
 have hfs: ∀x∈(sts.filter λt=> !(lv t.b).isSome&&(lv t.e).isSome).map (λt=> t.b),((0 <=x/\x < many)/\lv x=none)/\ ∃t∈sts,t.b=x/\ ∃v,lv t.e=some v:=λx hx=> by
  obtain⟨t,ht,rfl⟩:=aH.mp hx
  obtain⟨h1,h2⟩:=bq.mp ht
  rw [aD]at h2
  refine⟨⟨⟨(h.st t h1).b0,(h.st t h1).b1⟩,?_⟩,t,h1,rfl,dm.mp h2.2⟩
  have:=h2.1
  cases q:lv t.b with
  |none=> rfl
  |some v=> rw [q]at this;cases this
 have hcl:((sts.filter λt=> !(lv t.b).isSome&&(lv t.e).isSome).map (λt=> t.b))=[] -> ∀t∈sts,lv t.e≠none -> lv t.b≠none:=λe t ht he hb=> by
  have:t.b∈(sts.filter λt=> !(lv t.b).isSome&&(lv t.e).isSome).map (λt=> t.b):=aH.mpr ⟨t,bq.mpr ⟨ht,by
   rw [hb]
   cases q:lv t.e with
   |none=> exact absurd q he
   |some v=> rfl⟩,rfl⟩
  rw [e]at this
  cases this
 rw [show (sts.filter λt=> !(lv t.b).isSome&&(lv t.e).isSome).map (λt=> aq t.b)=((sts.filter λt=> !(lv t.b).isSome&&(lv t.e).isSome).map (λt=> t.b)).map aq by rw [bj];rfl]
 generalize (sts.filter λt=> !(lv t.b).isSome&&(lv t.e).isSome).map (λt=> t.b)=fs at hfs hcl
 refine R.W_mono (jx (Q:=λfl s'=> ∃ρ,fl=.nx ρ/\L3J s0 (.da (tbD ss many sts)) (.da (pr w)) u3 u4 u5 (some (.int (kvs.length:Int))) (some (.lst (fs.map aq))) mm many kvs lv fs [] ρ s') (L3J s0 (.da (tbD ss many sts)) (.da (pr w)) u3 u4 u5 (some (.int (kvs.length:Int))) (some (.lst (fs.map aq))) mm many kvs lv fs) ?_ ?_ _ _ _ ⟨kvs,lv,u9,[],fs,rfl,rfl,rfl,ha,hL,(λj=> by simp),av _,(λq=> absurd rfl q),ot⟩) ?_
 ·intro d r ρ s' J
  obtain⟨ρ1,e,w⟩:=azh h1 h6 (λx hx=> (hfs x hx).1) J
  refine⟨ρ1,e,R.W_mono w ?_⟩
  rintro _ s4 ⟨ρ2,rfl,J2⟩
  exact J2
 ·intro ρ s' J
  exact⟨ρ,rfl,J⟩
 ·rintro _ s4 ⟨ρ,rfl,kvs',lv',u9',done,jg,e1,e2,rfl,ha',hL',hv',hle,hne,ot'⟩
  cases jg with
  |cons x r=> cases e2
  | nil=>
   rw [b7]at e1
   subst e1
   refine⟨_,rfl,7 - kvs.length,by lia,kvs',lv',_,_,_,_,_,_,_,rfl,ha',hL',?_,by lia,?_,by lia,ot'⟩
   ·have nf: ∀i v,lv i=some v -> lv' i=some v:=λi v hi=> by
     rw [hv' i,if_neg (λq=> by rw [(hfs i q).1.2]at hi;cases hi)];exact hi
    refine⟨λi v hi=> ?_,λi hi=> ?_,λi v hi=> ?_,λt ht hw=> nf _ _ (hW.w4 t ht hw)⟩
    ·rw [hv' i]at hi
     split at hi
     ·rename_i q
      injection hi with hi
      have l1:=hne (λz=> by rw [z]at q;cases q)
      obtain⟨_,t,ht,_,v',hv⟩:=hfs i q
      have:=hW.w1 _ _ hv
      have:=Mn (by lia)
      lia
     ·have:=hW.w1 i v hi;lia
    ·rw [hv' i]at hi
     split at hi
     ·injection hi with hi;lia
     ·exact hW.w2 i hi
    ·rw [hv' i]at hi
     split at hi
     ·rename_i q
      injection hi with hi
      obtain⟨_,t,ht,hb,v',hv⟩:=hfs i q
      exact⟨t,ht,hb,v',nf _ _ hv,by have:=Mv _ _ hv;lia⟩
     ·obtain⟨t,ht,hb,v',hv,l⟩:=hW.w3 i v hi
      exact⟨t,ht,hb,v',nf _ _ hv,l⟩
   ·intro hq
    have z:fs=[]:=bJ λz=> by have:=hne z;lia
    subst z
    have el: ∀j,lv' j=lv j:=λj=> by rw [hv' j];simp
    intro t ht he
    rw [el]at he⊢
    exact hcl rfl t ht he
structure LvK (sts:List St) (w:Str×Int) (many:Int) (lv:Int -> Option Nat):Prop where
 bd: ∀i v,lv i=some v -> (0 <=i/\i < many)/\(v:Int) < many
 w2: ∀i,lv i=some 0 -> ∃t∈sts,t.b=i/\w∈t.m
 w3: ∀i v,lv i=some (v+1) -> ∃t∈sts,t.b=i/\ ∃v',lv t.e=some v'/\v' <=v
 w4: ∀t∈sts,w∈t.m -> lv t.b=some 0
 cl: ∀t∈sts,lv t.e≠none -> lv t.b≠none
structure LvS (s:S) (a:Nat) (lv:Int -> Option Nat):Prop where
 ex: ∃kvs,s[a]?=some (.dct kvs)/\(kvs.all λe=> isK e.1)=true/\ ∀i,j5 kvs (.int i)=(lv i).map λv:Nat=> D.int (v:Int)
theorem LvS.ext{a:Nat}{lv}(h:LvS s a lv)(x:Ext s s'):LvS s' a lv:=let ⟨k,e,r⟩:=h.ex;⟨k,x.get e,r⟩
theorem LvS.same{a:Nat}{lv}(h:LvS s a lv)(x:j8 n s s')(hn:a≠n):LvS s' a lv:=by
 obtain⟨k,e,r⟩:=h.ex
 exact⟨k,by rw [x.get _ hn (aB.mp e).1];exact e,r⟩
theorem LvS.set{a k:Nat}{lv}(h:LvS s a lv)(hn:k≠a):LvS (s.set k o) a lv:=by
 obtain⟨q,e,r⟩:=h.ex
 exact⟨q,by rw [bL hn];exact e,r⟩
theorem LvS.lt{a:Nat}{lv}(h:LvS s a lv):a < s.length:=let ⟨_,e,_⟩:=h.ex;(aB.mp e).1
theorem LvS.notin{a:Nat}{lv}(h:LvS s a lv)(i:Int):qd true (.int i) (.ref a) s=.ok (.bl (!(lv i).isSome)) s:=by
 obtain⟨k,e,ks,g⟩:=h.ex
 have:=ad5 (k:=.int i) e (ach ks i)
 rw [g,cy]at this
 exact this
theorem LvS.ix{a:Nat}{lv}(h:LvS s a lv){v:Nat}(hv:lv i=some v):xg (.ref a) (.int i) s=.ok (.int (v:Int)) s:=by
 obtain⟨k,e,ks,g⟩:=h.ex
 exact aeq e (ach ks i) (by rw [g,hv];rfl)
theorem aiw{w:Str×Int}{sts:List St}(h:TbK ss many sts)(hw:w.1∈ss/\0 <=w.2/\w.2 < 3):
  DW (yf [.da (tbD ss many sts),.da (pr w)] s) λd s'=> d=.ref s.length/\ ∃lv,LvS s' s.length lv/\LvK sts w many lv/\Ext s s':=by
 refine⟨?_⟩
 have h1:=h.m1
 have h6:=h.m6
 rw [ajo]
 show ((B_law_levels [some (.da (tbD ss many sts)),some (.da (pr w)),none,none,none,none,none,none,none,none] s).bind jw).W _
 unfold B_law_levels
 rw [show (tbD ss many sts)=.tuple [.tuple (ss.map bb),.int many,.tuple (sts.map St.d)] from rfl]
 walk_at "go"
 refine R.W_mono (jx (Q:=λfl s'=> ∃ρ,fl=.nx ρ/\L1J s (.da (tbD ss many sts)) w many sts [] ρ s') (L1J s (.da (tbD ss many sts)) w many sts) ?_ ?_ _ _ _ ⟨[],λ_=> none,_,_,_,[],sts,rfl,rfl,rfl,by simp,ath many,(λi v h=> by cases h),(λ_ h=> by cases h),⟨by simp,λj hj=> by rw [aI hj]⟩⟩) ?_
 ·intro d r ρ s' J
  obtain⟨ρ1,e,w⟩:=awf h.s hw h.st h6 J
  refine⟨ρ1,e,R.W_mono w ?_⟩
  rintro _ s4 ⟨ρ2,rfl,J2⟩
  exact J2
 ·intro ρ s' J
  exact⟨ρ,rfl,J⟩
 ·rintro _ s1 ⟨ρ,rfl,kvs,lv,u3,u4,u5,done,jg,e1,e2,rfl,ha,hL,hv1,hv2,ot⟩
  cases jg with
  |cons x r=> cases e2
  | nil=>
   rw [b7]at e1
   subst e1
   walk_at "go"
   have hne: ∀i v,lv i=some v -> 1 <=kvs.length:=λi v hv=> by
    have:=hL.mem.mpr (by rw [hv];rfl)
    have:=List.length_pos_of_mem this
    rw [ak]at this
    exact this
   refine R.W_mono (abz (Q:=λfl s'=> ∃ρ,fl=.nx ρ/\ρ[2]?=some (some (.ref s.length))/\ ∃lv,LvS s' s.length lv/\LvK sts w many lv/\Oth s s') (LwJ s ss many sts w) ?_ 100 8 _ _ (by decide) ⟨kvs,lv,_,_,_,_,_,_,-1,rfl,ha,hL,⟨λi v hv=> by rw [(hv1 i v hv).1];exact hne i v hv,λi hi=> (hv1 i 0 hi).2,λi v hv=> absurd (hv1 i _ hv).1 (by lia),hv2⟩,by lia,λq=> by lia,by decide,ot⟩) ?_
   ·rintro m ρ s2 ⟨kvs,lv,u3,u4,u5,u7,u8,u9,mny,rfl,ha,hL,hW,hm,hcl,hmm,ot⟩
    have te:(jf (fOp gLt (ja 6) (fCB acu (jb (ja 2) jc)))) (lEn (.da (tbD ss many sts)) (.da (pr w)) s.length u3 u4 u5 (some (.int mny)) u7 u8 u9) s2=.ok (decide (mny < kvs.length)) s2:=by
     walk_at "ev"
     rw [akv ha]
     walk_at "ev"
    rw [te]
    by_cases z:mny < kvs.length
    ·rw [decide_eq_true z]
     show (lwB (lEn (.da (tbD ss many sts)) (.da (pr w)) s.length u3 u4 u5 (some (.int mny)) u7 u8 u9) s2).W _
     refine R.W_mono (ayi (m:=m) h ha hL hW z hmm ot) ?_
     rintro _ s4 ⟨ρ2,rfl,J2⟩
     exact J2
    ·rw [decide_eq_false z]
     show (∃ρ,_/\_)
     have len:=hL.len (by lia)
     refine⟨_,rfl,rfl,lv,⟨kvs,ha,hL.ks,hL.g⟩,⟨λi v hv=> ⟨hL.bd i v hv,?_⟩,hW.w2,hW.w3,hW.w4,hcl (by lia)⟩,ot⟩
     have:=hW.w1 i v hv
     lia
   ·rintro _ s2 ⟨ρ,rfl,e,lv,l1,l2,ot⟩
    have e3:ja 2 ρ s2=.ok (.ref s.length) s2:=by
     unfold ja
     rw [e]
    walk_at "go"
    rw [e3]
    walk_at "go"
    exact⟨trivial,lv,l1,l2,apy ot.at_ ot.le⟩
theorem inI{l:List Int}{x:Int}:gIn (.int x) (.lst (l.map aq)) s=.ok (.bl (decide (x∈l))) s:=by
 show (if okD (.int x)=true/\(l.map aq).all okD=true then R.ok (D.bl (nb false ((l.map aq).any λd=> aM d (.int x)))) s else .bad)=_
 rw [if_pos ⟨rfl,aC.mpr λy hy=> by obtain⟨k,_,rfl⟩:=aH.mp hy;rfl⟩]
 have:((l.map aq).any λd=> aM d (.int x))=decide (x∈l):=by
  (rw [bh,dG,decide_eq_true_eq])
  constructor
  ·rintro⟨y,hy,e⟩
   obtain⟨k,hk,rfl⟩:=aH.mp hy
   rw [ab2,decide_eq_true_eq]at e
   exact e▸hk
  ·exact λhm=> ⟨.int x,bR hm,by rw [ab2,decide_eq_true rfl]⟩
 rw [this];rfl
theorem asg{l:List Int}{x:Int}:yg (.int x) (.lst (l.map aq)) s=.ok (.bl (decide (x∉l))) s:=by
 show (if okD (.int x)=true/\(l.map aq).all okD=true then R.ok (D.bl (nb true ((l.map aq).any λd=> aM d (.int x)))) s else .bad)=_
 rw [if_pos ⟨rfl,aC.mpr λy hy=> by obtain⟨k,_,rfl⟩:=aH.mp hy;rfl⟩]
 have:((l.map aq).any λd=> aM d (.int x))=decide (x∈l):=by
  (rw [bh,dG,decide_eq_true_eq])
  constructor
  ·rintro⟨y,hy,e⟩
   obtain⟨k,hk,rfl⟩:=aH.mp hy
   rw [ab2,decide_eq_true_eq]at e
   exact e▸hk
  ·exact λhm=> ⟨.int x,bR hm,by rw [ab2,decide_eq_true rfl]⟩
 rw [this]
 show R.ok (D.bl (!decide (x∈l))) s=_
 congr 2
 simp
structure SmK (sts:List St) (many:Int) (sm:List Int):Prop where
 bd: ∀x∈sm,0 <=x/\x < many
 cl: ∀t∈sts,t.b∈sm -> t.e∈sm
theorem FrK.sm{sts:List St}{l:List Int}(h:FrK sts many i l):SmK sts many l:=⟨h.bd,h.cl⟩
theorem SmK.app{sts:List St}{l r:List Int}(h:SmK sts many l)(k:SmK sts many r):SmK sts many (l++r):=by
 refine⟨λx hx=> ?_,λt ht hb=> ?_⟩
 ·rcases aR.mp hx with z|z
  ·exact h.bd x z
  ·exact k.bd x z
 ·rcases aR.mp hb with z|z
  ·exact bX _ (h.cl t ht z)
  ·exact bi _ (k.cl t ht z)
def nlF(i:Nat):FE:=(fLc false [3] 1 (fIt (ja i)) (.nm 0) (jf (fOp (qd true) (ja 0) (ja 1))) (ja 0))
theorem avu{i a:Nat}{l:List Int}{lv:Int -> Option Nat}(hρ:ρ[i]?=some (some (.lst (l.map aq))))(h3:ρ[3]?=some (some (.ref a)))(hl:l.length <=1000)(L:LvS s a lv):nlF i ρ s=.ok (.lst ((l.filter λx=> !(lv x).isSome).map aq)) s:=by
 have e1:ja i ρ s=.ok (.lst (l.map aq)) s:=by unfold ja;rw [hρ]
 unfold nlF
 rw [a5z,a5f,e1]
 walk_at "ev"
 rw [aan (ρ0:=[none,some (.ref a)]) (by rw [ak,ak];lia) (by
  show [none]++aae ρ [3]=_
  unfold aae
  simp [h3])]
 rw [show (l.map aq).map D.da=l.map (λx=> D.int x) by rw [bj];rfl]
 rw [xi (λx:Int=> D.int x) (λx=> !(lv x).isSome) (λx=>.int x) l (λx hx=> ⟨[some (.int x),some (.ref a)],rfl,by
  walk_at "ev"
  rw [L.notin]
  walk_at "ev",λ_=> by walk_at "ev"⟩)]
 walk_at "ev"
theorem atj{a:Nat}{xs:List D}{x:D}(h:s[a]?=some (.lst (xs++ [x]))):gIx (.ref a) (.int (-1)) s=.ok x s:=by
 show (match (match s[a]? with|some (O.lst ds)=> some ds|_=> none) with|some ds=> (match atI ds (-1) with|some d=> R.ok d s|none=>.bad)|none=>.bad)=_
 rw [h]
 show (match atI (xs++ [x]) (-1) with|some d=> R.ok d s|none=>.bad)=_
 have:atI (xs++ [x]) (-1)=some x:=by
  unfold atI ixN
  rw [if_neg (by decide),if_pos (by simp;lia)]
  show (xs++ [x])[((-1:Int)+((xs++ [x]).length:Nat)).toNat]?=_
  rw [show ((-1:Int)+((xs++ [x]).length:Nat)).toNat=xs.length by simp;lia]
  simp
 rw [this]
theorem ayk{α:Type}(l:List α)(z:α):atI (l++ [z]) (-1)=some z:=by
 unfold atI ixN
 rw [if_neg (by decide),if_pos (by simp;lia)]
 simp
 have:((-1:Int)+(↑l.length+1)).toNat=l.length:=by lia
 rw [this]
 simp
theorem ast{l:List ac}{z:ac}:gIx (.tup (l++ [z])) (.int (-1)) s=.ok (.da z) s:=by
 show (match atI ((l++ [z]).map D.da) (-1) with|some d=> R.ok d s|none=>.bad)=_
 rw [c6,show cN D.da [z]=[D.da z] from rfl,ayk]
structure RkK (rs:List Int):Prop where
 h0:rs[0]?=some 0
 up:rs.Pairwise (· < ·)
 bd: ∀x∈rs,0 <=x/\x <=(rs.length:Int)*2000000000000000000
theorem RkK.add{rs:List Int}{z g:Int}(h:RkK (rs++ [z]))(hg:0 <=g/\g <=1000000000000000000):RkK (rs++ [z]++ [z+1+g]):=by
 have bz:=h.bd z (by simp)
 have pz: ∀x∈rs++ [z],x <=z:=λx hx=> by
  rcases aR.mp hx with q|q
  ·have:=(fM.mp h.up).2.2 x q z (by simp)
   lia
  ·rw [aF.mp q];exact Int.le_refl _
 refine⟨?_,?_,?_⟩
 ·rw [aI (by simp)];exact h.h0
 ·rw [fM]
  refine⟨h.up,by simp,λx hx y hy=> ?_⟩
  rw [aF.mp hy]
  have:=pz x hx
  lia
 ·intro x hx
  have l1:((rs++ [z]).length:Int)=(rs.length:Int)+1:=by simp
  have l2:((rs++ [z]++ [z+1+g]).length:Int)=(rs.length:Int)+2:=by simp
  rw [l1]at bz
  rw [l2]
  rcases aR.mp hx with q|q
  ·have:=h.bd x q
   rw [l1]at this
   lia
  ·rw [aF.mp q]
   lia
noncomputable def pd:Option Int -> ac
 |none=>.none
 |some r=>.int r
def rkL(m:Nat)(rk:Int -> Option Int):List ac:=(aW m).map λk:Nat=> pd (rk (k:Int))
def zx(m:Nat)(rk:Int -> Option Int):ac:=.tuple [.str "can",.tuple (rkL m rk)]
structure CanK (sts:List St) (w:Str×Int) (rk:Int -> Option Int):Prop where
 z:rk 0≠none
 nn: ∀i r,rk i=some r -> 0 <=r/\r <=100000000000000000000
 cl: ∀t∈sts,rk t.b≠none -> rk t.e≠none
 go: ∀i r,rk i=some r -> ∃t∈sts,t.b=i/\((r=0/\w∈t.m)\/(r≠0/\ ∃r',rk t.e=some r'/\r' < r))
def rkF(lv:Int -> Option Nat)(sm rs:List Int)(i:Int):Option Int:=if i∈sm then (lv i).bind λv=> rs[v]? else none
theorem a4g{sts:List St}{w:Str×Int}{lv:Int -> Option Nat}{sm rs:List Int}(h6:many <=6)(hl:LvK sts w many lv)(hs:SmK sts many sm)(h0:0∈sm)(hv: ∀x∈sm,lv x≠none)(hr:RkK rs)(hlen:(rs.length:Int)=many+1):CanK sts w (rkF lv sm rs):=by
 have at_: ∀i∈sm,∃v r,lv i=some v/\rs[v]?=some r/\rkF lv sm rs i=some r:=λi hi=> by
  cases q:lv i with
  |none=> exact absurd q (hv i hi)
  |some v=>
   have:=(hl.bd i v q).2
   have hlt:v < rs.length:=by lia
   refine⟨v,rs[v],rfl,ao hlt,?_⟩
   unfold rkF
   rw [if_pos hi,q]
   show rs[v]?=_
   exact ao hlt
 have sm_of: ∀i,rkF lv sm rs i≠none -> i∈sm:=λi hi=> bJ λz=> hi (by unfold rkF;rw [if_neg z])
 have lt_: ∀(v v':Nat) (r r':Int),rs[v]?=some r -> rs[v']?=some r' -> v' < v -> r' < r:=λv v' r r' e e' l=> by
  obtain⟨h1,e1⟩:=aB.mp e
  obtain⟨h2,e2⟩:=aB.mp e'
  rw [←e1,←e2]
  exact eA.mp hr.up v' v h2 h1 l
 refine⟨?_,λi r hi=> ?_,λt ht hb=> ?_,λi r hi=> ?_⟩
 ·obtain⟨_,r,_,_,e⟩:=at_ 0 h0
  rw [e];intro z;cases z
 ·obtain⟨v,r',_,e1,e2⟩:=at_ i (sm_of i (by rw [hi];intro z;cases z))
  rw [hi]at e2
  injection e2 with e2
  subst e2
  have:=hr.bd r (bt e1)
  have:=hs.bd 0 h0
  rw [hlen]at*
  lia
 ·obtain⟨_,r,_,_,e⟩:=at_ t.e (hs.cl t ht (sm_of _ hb))
  rw [e];intro z;cases z
 ·have him:=sm_of i (by rw [hi];intro z;cases z)
  obtain⟨v,r',ev,e1,e2⟩:=at_ i him
  rw [hi]at e2
  injection e2 with e2
  subst e2
  cases v with
  |zero=>
   rw [hr.h0]at e1
   injection e1 with e1
   obtain⟨t,ht,hb,hw⟩:=hl.w2 i ev
   exact⟨t,ht,hb,.inl ⟨e1.symm,hw⟩⟩
  |succ u=>
   obtain⟨t,ht,hb,v',hv',l⟩:=hl.w3 i u ev
   obtain⟨v2,r2,ev2,e3,e4⟩:=at_ t.e (hs.cl t ht (hb▸him))
   rw [hv']at ev2
   injection ev2 with ev2
   subst ev2
   have l1:=lt_ _ _ _ _ e1 e3 (by lia)
   have l0:=lt_ _ _ _ _ e1 hr.h0 (by lia)
   exact⟨t,ht,hb,.inr ⟨by lia,r2,e4,l1⟩⟩
abbrev cEn(n:Nat)(T W:D)(a:Nat)(sm:List Int)(u5 u6 u7 u8:Option D):En:=[some (.ref n),some T,some W,some (.ref a),some (.lst (sm.map aq)),u5,u6,u7,u8]
structure CaJ (s0:S) (n a c:Nat) (T W:D) (many:Int) (sts:List St) (lv:Int -> Option Nat) (r:List D) (ρ:En) (s:S):Prop where
 ex: ∃(sm:List Int) (u5 u6:Option D) (c' j:Nat),r=aag j r.length/\(j:Int)+r.length <=many/\ρ=cEn n T W a sm u5 u6 none none/\SmK sts many sm/\0∈sm/\sm.length+6*r.length <=42/\LvS s a lv/\Fd s n c'/\c'+r.length <=c+6/\j8 n s0 s
def caB:FS:=(jd (jj 6 (jh 2 qo (jb (ja 1) (jb (ja 5) jc))))
  (jy (vt (jf (fOp gEq (nlF 6) (qr false jc))) (jf (fOp gEq (jh 2 jl (jb (ja 0) (jb (fC (.da (.int 2))) jc))) (fC (.da (.int 0)))))) (jj 4 (fOp (kf false) (ja 4) (ja 6))) jp))
theorem azo{a:Nat}{W:D}{sts:List St}{lv:Int -> Option Nat}{d:D}(h:TbK ss many sts)(hc:c+100 < 2^40)(hna:a≠n)(J:CaJ s0 n a c (.da (tbD ss many sts)) W many sts lv (d::r) ρ s):
  ∃ρ1,j6 (.nm 5) d ρ=some ρ1/\(caB ρ1 s).W λfl s'=> ∃ρ2,fl=.nx ρ2/\CaJ s0 n a c (.da (tbD ss many sts)) W many sts lv r ρ2 s':=by
 obtain⟨sm,u5,u6,c',j,er,hj,rfl,hsm,hz,hl,L,fd,hcc,sme⟩:=J.ex
 simp only [aG]at er hj hl hcc
 have er2:d::r=D.int (j:Int)::aag (j+1) r.length:=er
 injection er2 with e1 e2
 subst e1
 have m6:=h.m6
 refine⟨_,aw8,?_⟩
 unfold caB
 walk_at "go"
 refine R.W_mono (aeu h ⟨by lia,by lia⟩) ?_
 rintro _ s1 ⟨l,rfl,fr,x1⟩
 walk_at "go"
 have L1:=L.ext x1
 have ll:=fr.len
 rw [avu (l:=l) (a:=a) rfl rfl (by lia) L1]
 walk_at "go"
 rw [aqv (afu _) rfl,aev]
 walk_at "go"
 have fin: ∀(s2:S) (c2:Nat) (sm2:List Int),SmK sts many sm2 -> 0∈sm2 -> sm2.length <=sm.length+6 -> LvS s2 a lv -> Fd s2 n c2 -> c2 <=c'+1 -> j8 n s0 s2 -> ∃ρ2,Fl.nx (cEn n (.da (tbD ss many sts)) W a sm2 (some (.int (j:Int))) (some (.lst (l.map aq))) none none)=.nx ρ2/\CaJ s0 n a c (.da (tbD ss many sts)) W many sts lv r ρ2 s2:=λs2 c2 sm2 a1 a2 a3 a4 a5 a6 a7=> ⟨_,rfl,sm2,_,_,c2,j+1,e2,by push_cast;lia,rfl,a1,a2,by lia,a4,a5,by lia,a7⟩
 have sm1:j8 n s0 s1:=sme.trans (x1.same n)
 cases (cN aq (l.filter λx=> !(lv x).isSome)).isEmpty with
 |false=>
  walk_at "go"
  exact fin s1 c' sm hsm hz (by lia) L1 (fd.ext x1) (by lia) sm1
 | true=>
  walk_at "go"
  refine R.W_mono (qu (fd.ext x1) (by decide) (by decide) (by lia)) ?_
  rintro _ s2 ⟨i,rfl,i0,i1,fd2,sm2⟩
  walk_at "go"
  rw [aaa]
  by_cases z:i=0
  ·rw [decide_eq_true z]
   walk_at "go"
   rw [abn (by simp;lia),←c6]
   walk_at "go"
   exact fin s2 (c'+1) (sm++l) (hsm.app fr.sm) (bX _ hz) (by simp;lia) (L1.same sm2 hna) fd2 (by lia) (sm1.trans sm2)
  ·rw [decide_eq_false z]
   walk_at "go"
   exact fin s2 (c'+1) sm hsm hz (by lia) (L1.same sm2 hna) fd2 (by lia) (sm1.trans sm2)
structure RaJ (s0:S) (n a b c:Nat) (T W:D) (sm:List Int) (many:Int) (lv:Int -> Option Nat) (u5 u6:Option D) (r:List D) (ρ:En) (s:S):Prop where
 ex: ∃(rs:List Int) (z:Int) (u8:Option D) (c':Nat),ρ=cEn n T W a sm u5 u6 (some (.ref b)) u8/\s[b]?=some (.lst (iL (rs++ [z])))/\RkK (rs++ [z])/\(rs.length:Int)+r.length=many/\LvS s a lv/\Fd s n c'/\c'+r.length <=c+6/\j8 n s0 s
def raB:FS:=(zk (fMt xj (ja 7) (jb (fOp (kf false) (fOp (kf false) (fOp gIx (ja 7) (afv (fC (.da (.int 1))))) (fC (.da (.int 1)))) (fOp gIx (qr false (jb (fC (.da (.int 0))) (jb (fC (.da (.int 0))) (jb (fC (.da (.int 1))) (jb (fOp afn (fC (.da (.int 10))) (fC (.da (.int 18)))) jc))))) (jh 2 jl (jb (ja 0) (jb (fC (.da (.int 4))) jc))))) jc)))
theorem axg{a b:Nat}{T W:D}{sm:List Int}{lv:Int -> Option Nat}{u5 u6:Option D}{d:D}(h6:many <=6)(hc:c+100 < 2^40)(hna:a≠n)(hnb:b≠n)(hab:b≠a)(hb0:s0.length <=b)(J:RaJ s0 n a b c T W sm many lv u5 u6 (d::r) ρ s):
  ∃ρ1,j6 (.nm 8) d ρ=some ρ1/\(raB ρ1 s).W λfl s'=> ∃ρ2,fl=.nx ρ2/\RaJ s0 n a b c T W sm many lv u5 u6 r ρ2 s':=by
 obtain⟨rs,z,u8,c',rfl,hb,hr,hl,L,fd,hcc,sme⟩:=J.ex
 simp only [aG]at hl hcc
 push_cast at hl
 refine⟨_,avo,?_⟩
 have p18: ∀s:S,afn (.int 10) (.int 18) s=.ok (.int 1000000000000000000) s:=λs=> akr (by decide) (by decide) (by decide)
 have hb':s[b]?=some (.lst (iL rs++ [.int z])):=by rw [hb];simp [iL]
 unfold raB
 walk_at "go"
 rw [aj2 hb]
 walk_at "go"
 rw [atj hb']
 walk_at "go"
 rw [p18]
 walk_at "go"
 refine R.W_mono (qu fd (by decide) (by decide) (by lia)) ?_
 rintro _ s1 ⟨i,rfl,i0,i1,fd1,sm1⟩
 obtain⟨k,rfl⟩:=bI i0
 have key: ∃y:Int,([.int 0,.int 0,.int 1,.int 1000000000000000000]:List ac)[k]?=some (.int y)/\0 <=y/\y <=1000000000000000000:=by
  have:k < 4:=by lia
  match k,this with
  |0,_=> exact⟨_,rfl,by decide,by decide⟩
  |1,_=> exact⟨_,rfl,by decide,by decide⟩
  |2,_=> exact⟨_,rfl,by decide,by decide⟩
  |3,_=> exact⟨_,rfl,by decide,by decide⟩
 obtain⟨y,hy,y0,y1⟩:=key
 walk_at "go"
 rw [ab6 hy]
 walk_at "go"
 have lb:b < s.length:=(aB.mp hb).1
 have hb1:s1[b]?=some (.lst (iL (rs++ [z]))):=by rw [sm1.get _ hnb lb];exact hb
 rw [abo hb1 (by simp;lia)]
 walk_at "go"
 refine⟨_,rfl,rs++ [z],z+1+y,_,c'+1,rfl,?_,hr.add ⟨y0,y1⟩,by simp;lia,(L.same sm1 hna).set hab,fd1.set hnb,by lia,(sme.trans sm1).own (by lia)⟩
 rw [a8 (aP lb sm1.len)]
 simp [iL]
structure CanQ (s0:S) (n c:Nat) (many:Int) (sts:List St) (w:Str×Int) (d:D) (s:S):Prop where
 ex:(d=.da .none\/ ∃(m:Nat) (rk:Int -> Option Int),many=(m:Int)/\d=.da (zx m rk)/\CanK sts w rk)/\Fd s n c/\j8 n s0 s
def cnL:FE:=(fLc false [4,7,3] 1 (zw (jb (fOp gIx (ja 1) (fC (.da (.int 1)))) jc)) (.nm 0) abe (fIf (jf (fOp gIn (ja 0) (ja 1))) (fOp gIx (ja 2) (fOp xg (ja 3) (ja 0))) (fC (.da (.none)))))
def cnR:FS:=(jt (vb (jb (fC (.da (.str "can"))) (jb (fCB xx (jb cnL jc)) jc))))
def cnZ:FS:=(jd (jy (jf (fOp gNe (nlF 4) (qr false jc))) (jt (fC (.da (.none)))) jp)
  (jd (jj 7 (qr true (jb (fC (.da (.int 0))) jc)))
  (jd (qj (zw (jb (fOp gIx (ja 1) (fC (.da (.int 1)))) jc)) (.nm 8) raB) cnR)))
theorem a5c{a b:Nat}{W:D}{sts:List St}{sm rs:List Int}{lv:Int -> Option Nat}{u5 u6 u8:Option D}(h6:m <=6)(L:LvS s a lv)(hb:s[b]?=some (.lst (iL rs)))(hv: ∀x∈sm,∃v,lv x=some v/\v < rs.length):
  cnL (cEn n (.da (tbD ss (m:Int) sts)) W a sm u5 u6 (some (.ref b)) u8) s=.ok (.lst (rkL m (rkF lv sm rs))) s:=by
 have eT: ∀s:S,gIx (.da (tbD ss (m:Int) sts)) (.da (.int 1)) s=.ok (.int (m:Int)) s:=λs=> ak1
 unfold cnL
 walk_at "ev"
 rw [eT]
 walk_at "ev"
 rw [z9 (by lia) (by lia),cc]
 walk_at "ev"
 rw [aan (ρ0:=[none,some (.lst (sm.map aq)),some (.ref b),some (.ref a)]) (by rw [jz];lia) rfl,aic]
 rw [xi (λi:Nat=> D.int (i:Int)) (λ_=> true) (λi=> pd (rkF lv sm rs (i:Int))) (aW m) (λi hi=> ⟨[some (.int (i:Int)),some (.lst (sm.map aq)),some (.ref b),some (.ref a)],rfl,rfl,λ_=> by
  walk_at "ev"
  rw [inI]
  by_cases z:(i:Int)∈sm
  ·rw [decide_eq_true z]
   walk_at "ev"
   obtain⟨v,hv1,hv2⟩:=hv _ z
   rw [L.ix hv1]
   walk_at "ev"
   rw [amm (d:=.int rs[v]) hb (ab9 (ab9 (ao hv2)))]
   unfold rkF
   rw [if_pos z,hv1]
   show R.ok (D.int rs[v]) s=.ok (.da (pd rs[v]?)) s
   rw [ao hv2];rfl
  ·rw [decide_eq_false z]
   walk_at "ev"
   unfold rkF
   rw [if_neg z];rfl⟩)]
 rw [show (aW m).filter (λ_=> true)=aW m from List.filter_eq_self.mpr (λ_ _=> rfl)]
 walk_at "ev"
 rfl
theorem ank{sm:List Int}{lv:Int -> Option Nat}(h:(cN aq (sm.filter λx=> !(lv x).isSome)).isEmpty=true): ∀x∈sm,lv x≠none:=λx hx e=> by
 rw [List.isEmpty_iff,mi,List.filter_eq_nil_iff]at h
 have:=h x hx
 rw [e]at this
 exact this rfl
theorem a1e{w:Str×Int}{sts:List St}(hf:Fd s n c)(h:TbK ss many sts)(hw:w.1∈ss/\0 <=w.2/\w.2 < 3)(hc:c+1000 < 2^40):
  DW (za [.ref n,.da (tbD ss many sts),.da (pr w)] s) (CanQ s n (c+12) many sts w):=by
 refine⟨?_⟩
 have h1:=h.m1
 have h6:=h.m6
 have hn:=hf.lt
 rw [aqm]
 show ((B_law_can [some (.ref n),some (.da (tbD ss many sts)),some (.da (pr w)),none,none,none,none,none,none] s).bind jw).W _
 unfold B_law_can
 walk_at "go"
 refine (aiw h hw).mono ?_
 rintro _ s1 ⟨rfl,lv,L,K,x1⟩
 have hna:s.length≠n:=by lia
 walk_at "go"
 refine R.W_mono (aeu h ⟨by lia,by lia⟩) ?_
 rintro _ s2 ⟨l0,rfl,fr,x2⟩
 have eT: ∀s:S,gIx (.da (tbD ss many sts)) (.da (.int 1)) s=.ok (.int many) s:=λs=> ak1
 walk_at "go"
 rw [eT]
 walk_at "go"
 obtain⟨m,rfl⟩: ∃m:Nat,many=(m:Int):=⟨many.toNat,by lia⟩
 rw [z9 (by lia) (by lia),cc]
 walk_at "go"
 have L2:=L.ext x2
 have ll:=fr.len
 refine R.W_mono (jx (Q:=λfl s'=> ∃ρ,fl=.nx ρ/\CaJ s n s.length c (.da (tbD ss (m:Int) sts)) (.da (pr w)) (m:Int) sts lv [] ρ s') (CaJ s n s.length c (.da (tbD ss (m:Int) sts)) (.da (pr w)) (m:Int) sts lv) ?_ ?_ _ _ _ ⟨l0,_,_,c,0,(by rw [jz];rfl),by rw [jz];simp,rfl,fr.sm,fr.me,by rw [jz];lia,L2,(hf.ext x1).ext x2,by rw [jz];lia,(x1.trans x2).same n⟩) ?_
 ·intro d r ρ s' J
  obtain⟨ρ1,e,w⟩:=azo h (by lia) hna J
  refine⟨ρ1,e,R.W_mono w ?_⟩
  rintro _ s4 ⟨ρ2,rfl,J2⟩
  exact J2
 ·intro ρ s' J
  exact⟨ρ,rfl,J⟩
 ·rintro _ s3 ⟨ρ,rfl,sm,u5,u6,c',j,_,_,rfl,hsm,hz,hl,L3,fd3,hcc,sm3⟩
  simp only [bS]at hl hcc
  show (cnZ (cEn n (.da (tbD ss (m:Int) sts)) (.da (pr w)) s.length sm u5 u6 none none) s3).W (R.Wk jw (CanQ s n (c+12) (m:Int) sts w))
  unfold cnZ
  walk_at "go"
  rw [avu (l:=sm) (a:=s.length) rfl rfl (by lia) L3]
  walk_at "go"
  rw [aea (afu _) rfl,aev]
  walk_at "go"
  cases q:(cN aq (sm.filter λx=> !(lv x).isSome)).isEmpty with
  |false=>
   walk_at "go"
   exact⟨.inl rfl,fd3.le (by lia),sm3⟩
  | true=>
   have hv:=ank q
   walk_at "go"
   rw [eT]
   walk_at "go"
   rw [z9 (by lia) (by lia),cc]
   walk_at "go"
   have hb0:s.length < s3.length:=L3.lt
   refine R.W_mono (jx (Q:=λfl s'=> ∃ρ,fl=.nx ρ/\RaJ s n s.length s3.length (c+6) (.da (tbD ss (m:Int) sts)) (.da (pr w)) sm (m:Int) lv u5 u6 [] ρ s') (RaJ s n s.length s3.length (c+6) (.da (tbD ss (m:Int) sts)) (.da (pr w)) sm (m:Int) lv u5 u6) ?_ ?_ _ _ _ ⟨[],0,_,c+6,rfl,by simp [iL],⟨rfl,by simp,λx hx=> by rw [aF.mp hx];exact⟨by decide,by decide⟩⟩,by rw [jz];simp,L3.ext (Ext.add _ _),(fd3.ext (Ext.add _ _)).le (by lia),by rw [jz];lia,sm3.trans ((Ext.add _ _).same n)⟩) ?_
   ·intro d r ρ s' J
    obtain⟨ρ1,e,w⟩:=axg h6 (by lia) hna (by lia) (by lia) (by lia) J
    refine⟨ρ1,e,R.W_mono w ?_⟩
    rintro _ s4 ⟨ρ2,rfl,J2⟩
    exact J2
   ·intro ρ s' J
    exact⟨ρ,rfl,J⟩
   ·refine λfl s4 qq=> ?_
    generalize hQ:R.Wk (aoa cnR)=Q at*
    obtain⟨ρ,e,rs,z,u8,c'',eρ,hb,hr,hrl,L4,fd4,hcc4,sm4⟩:=qq
    subst hQ
    rw [e,eρ]
    clear e eρ
    simp only [bS]at hrl hcc4
    have hlen:(((rs++ [z]).length:Nat):Int)=(m:Int)+1:=by simp;lia
    unfold cnR
    walk_at "go"
    rw [a5c (rs:=rs++ [z]) (by lia) L4 hb (λx hx=> by
     cases e:lv x with
     |none=> exact absurd e (hv x hx)
     |some v=> exact⟨v,rfl,by have:=(K.bd x v e).2;lia⟩)]
    walk_at "go"
    exact⟨.inr ⟨m,_,rfl,rfl,a4g h6 K hsm hz hv hr hlen⟩,fd4.le (by lia),sm4⟩
theorem aiv: ∀is:List Int,yu ((is.map aq).map D.da)=some is
 |[]=> rfl
 |i::r=> by
  show (match yu ((r.map aq).map D.da) with|some xs=> some (i::xs)|none=> none)=_
  rw [aiv r]
theorem ars(h:is.length < 4000)(h2:(jr is).length < 64):aar false [.lst (is.map aq)] s=.ok (.lst ((xq (jr is)).map aq)) s:=by
 show (match yu ((is.map aq).map D.da) with|some is=> if is.length < 4000/\(jr is).length < 64 then kh false ((xq (jr is)).map D.int) s else .bad|none=>.bad)=_
 rw [aiv]
 show (if is.length < 4000/\(jr is).length < 64 then kh false ((xq (jr is)).map D.int) s else .bad)=_
 rw [if_pos ⟨h,h2⟩]
 rw [show (xq (jr is)).map D.int=((xq (jr is)).map aq).map D.da by rw [bj];rfl]
 unfold kh
 rw [if_neg ax,qh]
abbrev Wp:=List (Str×Int)×Int
def wp(p:Wp):ac:=.tuple [moD p.1,.int p.2]
inductive Pth (sts:List St):Int -> List Wp -> Int -> Prop
 |nil (i:Int):Pth sts i [] i
 |cons {t:St} {l:List Wp} {j:Int}:t∈sts -> Pth sts t.e l j -> Pth sts t.b ((t.m,t.e)::l) j
theorem Pth.add{sts:List St}{l:List Wp}(h:Pth sts i l j): ∀{t:St},t∈sts -> t.b=j -> Pth sts i (l++ [(t.m,t.e)]) t.e:=by
 induction h with
 |nil i=> intro t ht hb;rw [←hb];exact .cons ht (.nil _)
 |cons h1 _ ih=> intro t ht hb;exact .cons h1 (ih ht hb)
noncomputable def loL(lv:Int -> Option Nat)(m:Nat):List Int:=((aW m).filter λk:Nat=> !(lv (k:Int)).isSome).map λk:Nat=> (k:Int)
theorem amv{lv:Int -> Option Nat}{x:Int}:x∈loL lv m ↔ (0 <=x/\x < m)/\lv x=none:=by
 unfold loL
 rw [aH]
 constructor
 ·rintro⟨k,hk,rfl⟩
  obtain⟨h1,h2⟩:=bq.mp hk
  have:=bA.mp h1
  refine⟨⟨by lia,by lia⟩,?_⟩
  cases e:lv (k:Int) with
  |none=> rfl
  |some v=> rw [e]at h2;cases h2
 ·rintro⟨⟨h0,h1⟩,h2⟩
  obtain⟨k,rfl⟩:=bI h0
  exact⟨k,bq.mpr ⟨bA.mpr (by lia),by rw [h2];rfl⟩,rfl⟩
theorem ax7{lv:Int -> Option Nat}:(loL lv m).length <=m:=by
 unfold loL
 rw [ak]
 exact br (lz _ _) (by rw [cz];exact av _)
abbrev wEn(n:Nat)(T W:D)(a:Nat)(lo:List Int)(st:Int)(wk:List Wp)(u7 u8 u9:Option D):En:=[some (.ref n),some T,some W,some (.ref a),some (.lst (lo.map aq)),some (.int st),some (.tup (wk.map wp)),u7,u8,u9]
structure W1J (s0:S) (n a c:Nat) (T W:D) (many:Int) (sts:List St) (lo:List Int) (r:List D) (ρ:En) (s:S):Prop where
 ex: ∃(st:Int) (wk:List Wp) (u7 u8:Option D) (c':Nat),ρ=wEn n T W a lo st wk u7 u8 none/\(0 <=st/\st < many)/\Pth sts 0 wk st/\wk.length+r.length <=30/\Fd s n c'/\c'+2*r.length <=c+60/\j8 n s0 s
def w1C:FS:=(jd (jj 6 (fOp (kf false) (ja 6) (vb (jb (fOp gIx (ja 8) (jh 2 jl (jb (ja 0) (jb (fCB vo (jb (ja 8) jc)) jc)))) jc))))
  (jj 5 (fOp gIx (fOp gIx (ja 6) (afv (fC (.da (.int 1))))) (fC (.da (.int 1))))))
theorem a4z{a:Nat}{T W:D}{sts:List St}{lo:List Int}{st:Int}{wk:List Wp}{u7:Option D}{fs:List St}(hst: ∀t∈sts,0 <=t.e/\t.e < many)(hf:fs≠ [])(hfs: ∀t∈fs,t∈sts/\t.b=st)(hfl:fs.length <=48)(hp:Pth sts 0 wk st)(hl:wk.length+r.length+1 <=30)(fd:Fd s n c)(hc:c < 2^40)(sm:j8 n s0 s):
  (w1C (wEn n T W a lo st wk u7 (some (.lst (fs.map λt=> wp (t.m,t.e)))) none) s).W λfl s'=> ∃ρ2,fl=.nx ρ2/\ ∃(st:Int) (wk:List Wp) (u7 u8:Option D),ρ2=wEn n T W a lo st wk u7 u8 none/\(0 <=st/\st < many)/\Pth sts 0 wk st/\wk.length+r.length <=30/\Fd s' n (c+1)/\j8 n s0 s':=by
 have hpos:0 < fs.length:=by cases fs with
  |nil=> exact absurd rfl hf
  |cons _ _=> simp
 unfold w1C
 walk_at "go"
 rw [ak]
 refine R.W_mono (qu fd (by lia) (by lia) (by lia)) ?_
 rintro _ s1 ⟨i,rfl,i0,i1,fd1,sm1⟩
 obtain⟨k,rfl⟩:=bI i0
 have hk:k < fs.length:=by lia
 walk_at "go"
 rw [ab6 (ab9 (ao hk))]
 walk_at "go"
 rw [ak0 (by simp;lia)]
 walk_at "go"
 rw [ast]
 rw [show D.da (wp (fs[k].m,fs[k].e))=.tup [moD fs[k].m,.int fs[k].e] from rfl]
 walk_at "go"
 try rw [qf (k:=1) (p:=.int fs[k].e) rfl]
 walk_at "go"
 obtain⟨m1,m2⟩:=hfs _ (eL hk)
 refine⟨_,rfl,fs[k].e,wk++ [(fs[k].m,fs[k].e)],u7,some (.lst (fs.map λt=> wp (t.m,t.e))),?_,hst _ m1,hp.add m1 m2,by simp;lia,fd1,sm.trans sm1⟩
 simp [wEn]
theorem amn{p:Wp}(h:MoK ss p.1)(hs: ∀x∈ss,yv x=true)(h0:0 <=p.2)(h6:p.2 < 6):Nice 80 3 (wp p):=
 (Nices.cons (aer h hs) (Nices.cons ((aa8 (by lia)).mono (av _) (by decide)) Nices.nil)).tup.mono (by lia) (av _)
def w1B:FS:=(jd (jj 8 (fLc false [5] 1 (fIt (fOp gIx (ja 1) (fC (.da (.int 2))))) (.nm 0) (jf (fOp gEq (fOp gIx (ja 0) (fC (.da (.int 0)))) (ja 1))) (fSl false (ja 0) (aaz (fC (.da (.int 1)))) fNo)))
  (jy (vt (jf (fOp gNe (ja 8) (qr false jc))) (yc (jf (fOp yg (ja 5) (ja 4))) (jf (fOp gEq (jh 2 jl (jb (ja 0) (jb (fC (.da (.int 3))) jc))) (fC (.da (.int 0))))))) w1C jp))
theorem axq{a:Nat}{W:D}{sts:List St}{lo:List Int}{d:D}(h:TbK ss many sts)(hc:c+100 < 2^40)(J:W1J s0 n a c (.da (tbD ss many sts)) W many sts lo (d::r) ρ s):
  ∃ρ1,j6 (.nm 7) d ρ=some ρ1/\(w1B ρ1 s).W λfl s'=> ∃ρ2,fl=.nx ρ2/\W1J s0 n a c (.da (tbD ss many sts)) W many sts lo r ρ2 s':=by
 obtain⟨st,wk,u7,u8,c',rfl,hb,hp,hl,fd,hcc,sm⟩:=J.ex
 simp only [aG]at hl hcc
 have h6:=h.m6
 refine⟨_,avt,?_⟩
 unfold w1B
 walk_at "go"
 have eT: ∀s:S,gIx (.da (tbD ss many sts)) (.da (.int 2)) s=.ok (.da (.tuple (sts.map St.d))) s:=λs=> anw
 rw [eT]
 walk_at "go"
 have hsl:=h.len
 rw [aan (ρ0:=[none,some (.int st)]) (by rw [ak,ak];lia) rfl]
 rw [show ((sts.map St.d).map D.da)=sts.map (λt=> D.da (St.d t)) by rw [bj];rfl]
 rw [xi (λt:St=> D.da t.d) (λt=> decide (t.b=st)) (λt=> wp (t.m,t.e)) sts (λt ht=> ⟨[some (.da t.d),some (.int st)],rfl,by
  have e0: ∀s:S,gIx (.da (St.d t)) (.da (.int 0)) s=.ok (.da (.int t.b)) s:=λs=> atv
  walk_at "ev"
  rw [e0]
  walk_at "ev"
  rw [aaa]
  walk_at "ev",λ_=> by
  walk_at "ev"
  rw [show D.da (St.d t)=.tup [.int t.b,moD t.m,.int t.e] from rfl]
  walk_at "ev"
  rfl⟩)]
 walk_at "go"
 have hfs: ∀t∈sts.filter (λt=> decide (t.b=st)),t∈sts/\t.b=st:=λt ht=> by
  obtain⟨h1,h2⟩:=bq.mp ht
  exact⟨h1,of_decide_eq_true h2⟩
 have hfl:(sts.filter (λt=> decide (t.b=st))).length <=48:=br (lz _ _) hsl
 generalize sts.filter (λt=> decide (t.b=st))=fs at hfs hfl
 have okl:okD (.list (fs.map λt=> wp (t.m,t.e)))=true:=(xy (B:=80) (D:=3) _ (λx hx=> by
  obtain⟨t,ht,rfl⟩:=aH.mp hx
  have q:=h.st t (hfs t ht).1
  exact amn q.mo h.s.ok q.e0 (Int.lt_of_lt_of_le q.e1 h6))).lst.okD (by decide)
 rw [aea okl rfl,aev]
 have hbe: ∀t∈sts,0 <=t.e/\t.e < many:=λt ht=> ⟨(h.st t ht).e0,(h.st t ht).e1⟩
 have fin: ∀(s2:S) (c2:Nat) (hc2:c2 <=c'+1) (hne:fs≠ []) (fd2:Fd s2 n c2) (sm2:j8 n s0 s2),(w1C (wEn n (.da (tbD ss many sts)) W a lo st wk (some d) (some (.lst (fs.map λt=> wp (t.m,t.e)))) none) s2).W λfl s'=> ∃ρ2,fl=.nx ρ2/\W1J s0 n a c (.da (tbD ss many sts)) W many sts lo r ρ2 s':=λs2 c2 hc2 hne fd2 sm2=> by
  refine R.W_mono (a4z (s0:=s0) (r:=r) hbe hne hfs hfl hp (by lia) fd2 (by lia) sm2) ?_
  rintro _ s4 ⟨ρ2,rfl,st',wk',u7',u8',e,b',p',l',fd',sm'⟩
  exact⟨_,rfl,st',wk',u7',u8',_,e,b',p',l',fd',by lia,sm'⟩
 have skip: ∀(s2:S) (c2:Nat) (hc2:c2 <=c'+1) (fd2:Fd s2 n c2) (sm2:j8 n s0 s2),∃ρ2,Fl.nx (wEn n (.da (tbD ss many sts)) W a lo st wk (some d) (some (.lst (fs.map λt=> wp (t.m,t.e)))) none)=.nx ρ2/\W1J s0 n a c (.da (tbD ss many sts)) W many sts lo r ρ2 s2:=λs2 c2 hc2 fd2 sm2=>
  ⟨_,rfl,st,wk,_,_,c2,rfl,hb,hp,by lia,fd2,by lia,sm2⟩
 by_cases hne:fs=[]
 ·subst hne
  walk_at "go"
  exact skip s c' (by lia) fd sm
 ·rw [show (cN (λt:St=> wp (t.m,t.e)) fs).isEmpty=false by
   cases fs with
   |nil=> exact absurd rfl hne
   |cons _ _=> rfl]
  walk_at "go"
  rw [asg]
  by_cases z:st∈lo
  ·rw [decide_eq_false (by simpa using z)]
   walk_at "go"
   refine R.W_mono (qu fd (by decide) (by decide) (by lia)) ?_
   rintro _ s1 ⟨i,rfl,i0,i1,fd1,sm1⟩
   walk_at "go"
   rw [aaa]
   by_cases y:i=0
   ·rw [decide_eq_true y]
    walk_at "go"
    exact fin s1 (c'+1) (by lia) hne fd1 (sm.trans sm1)
   ·rw [decide_eq_false y]
    walk_at "go"
    exact skip s1 (c'+1) (by lia) fd1 (sm.trans sm1)
  ·rw [decide_eq_true z]
   walk_at "go"
   exact fin s c' (by lia) hne fd sm
structure W2J (s0:S) (n a c:Nat) (T W:D) (many:Int) (sts:List St) (lv:Int -> Option Nat) (lo:List Int) (st:Int) (wk:List Wp) (u7:Option D) (r:List D) (ρ:En) (s:S):Prop where
 ex: ∃(sm:List Int) (u9:Option D) (left:List Int) (c':Nat),r=(left.map aq).map D.da/\(∀x∈left,x∈lo)/\ρ=wEn n T W a lo st wk u7 (some (.lst (sm.map aq))) u9/\SmK sts many sm/\st∈sm/\(∀x∈sm,lv x=none)/\sm.length+6*left.length <=42/\Fd s n c'/\c'+left.length <=c+6/\j8 n s0 s
def w2B:FS:=(jy (jf (fOp gEq (jh 2 jl (jb (ja 0) (jb (fC (.da (.int 3))) jc))) (fC (.da (.int 0))))) (jj 8 (fOp (kf false) (ja 8) (jh 2 qo (jb (ja 1) (jb (ja 9) jc))))) jp)
theorem axs{a:Nat}{W:D}{sts:List St}{lv:Int -> Option Nat}{st:Int}{wk:List Wp}{u7:Option D}{d:D}(h:TbK ss (m:Int) sts)(hcl: ∀t∈sts,lv t.b=none -> lv t.e=none)(hc:c+100 < 2^40)(J:W2J s0 n a c (.da (tbD ss (m:Int) sts)) W (m:Int) sts lv (loL lv m) st wk u7 (d::r) ρ s):
  ∃ρ1,j6 (.nm 9) d ρ=some ρ1/\(w2B ρ1 s).W λfl s'=> ∃ρ2,fl=.nx ρ2/\W2J s0 n a c (.da (tbD ss (m:Int) sts)) W (m:Int) sts lv (loL lv m) st wk u7 r ρ2 s':=by
 obtain⟨sm,u9,left,c',er,hleft,rfl,hsm,hst,hlv,hl,fd,hcc,sme⟩:=J.ex
 cases left with
 |nil=> cases er
 | cons x left=>
  cases er
  simp only [aG]at hl hcc
  have hx:=amv.mp (hleft x au)
  have hleft': ∀y∈left,y∈loL lv m:=λy hy=> hleft y (aw _ hy)
  refine⟨_,aw0,?_⟩
  unfold w2B
  walk_at "go"
  refine R.W_mono (qu fd (by decide) (by decide) (by lia)) ?_
  rintro _ s1 ⟨i,rfl,i0,i1,fd1,sm1⟩
  walk_at "go"
  rw [aaa]
  by_cases y:i=0
  ·rw [decide_eq_true y]
   walk_at "go"
   refine R.W_mono (aeu h hx.1) ?_
   rintro _ s2 ⟨l,rfl,fr,x2⟩
   have ll:=fr.len
   walk_at "go"
   rw [abn (by simp;lia),←c6]
   walk_at "go"
   refine⟨_,rfl,sm++l,_,left,c'+1,rfl,hleft',rfl,hsm.app fr.sm,bX _ hst,λy hy=> ?_,by simp;lia,fd1.ext x2,by lia,(sme.trans sm1).trans (x2.same n)⟩
   rcases aR.mp hy with q|q
   ·exact hlv y q
   ·exact fr.by_ (λy=> lv y=none) hx.2 hcl y q
  ·rw [decide_eq_false y]
   walk_at "go"
   exact⟨_,rfl,sm,_,left,c'+1,rfl,hleft',rfl,hsm,hst,hlv,by lia,fd1,by lia,sme.trans sm1⟩
def waD(wk:List Wp)(is:List Int):ac:=.tuple [.str "waits",.tuple (wk.map wp),iT is]
structure WaK (sts:List St) (w:Str×Int) (many:Int) (wk:List Wp) (is:List Int):Prop where
 ex: ∃e,Pth sts 0 wk e/\e∈is
 bd: ∀x∈is,0 <=x/\x < many
 up:is.Pairwise (· < ·)
 cl: ∀t∈sts,t.b∈is -> t.e∈is
 nw: ∀t∈sts,t.b∈is -> w∉t.m
 wl:wk.length <=30
structure WaQ (s0:S) (n c:Nat) (many:Int) (sts:List St) (w:Str×Int) (d:D) (s:S):Prop where
 ex:(d=.da .none\/ ∃wk is,d=.da (waD wk is)/\WaK sts w many wk is)/\Fd s n c/\j8 n s0 s
def w2Z:FS:=(jd (jy (jf (fOp yg (ja 5) (ja 4))) (jt (fC (.da (.none)))) jp)
  (jd (jj 8 (jh 2 qo (jb (ja 1) (jb (ja 5) jc))))
  (jd (qj (fIt (ja 4)) (.nm 9) w2B)
  (jt (vb (jb (fC (.da (.str "waits"))) (jb (ja 6) (jb (fCB xx (jb (fCB (aar false) (jb (ja 8) jc)) jc)) jc))))))))
theorem aut{w:Str×Int}{sts:List St}(hf:Fd s n c)(h:TbK ss many sts)(hw:w.1∈ss/\0 <=w.2/\w.2 < 3)(hc:c+1000 < 2^40):
  DW (va [.ref n,.da (tbD ss many sts),.da (pr w)] s) (WaQ s n (c+66) many sts w):=by
 refine⟨?_⟩
 have h1:=h.m1
 have h6:=h.m6
 have hn:=hf.lt
 rw [alq]
 show ((B_law_waits [some (.ref n),some (.da (tbD ss many sts)),some (.da (pr w)),none,none,none,none,none,none,none] s).bind jw).W _
 unfold B_law_waits
 walk_at "go"
 refine (aiw h hw).mono ?_
 rintro _ s1 ⟨rfl,lv,L,K,x1⟩
 have eT: ∀s:S,gIx (.da (tbD ss many sts)) (.da (.int 1)) s=.ok (.int many) s:=λs=> ak1
 walk_at "go"
 rw [eT]
 walk_at "go"
 obtain⟨m,rfl⟩: ∃m:Nat,many=(m:Int):=⟨many.toNat,by lia⟩
 rw [z9 (by lia) (by lia),cc]
 walk_at "go"
 rw [aan (ρ0:=[none,some (.ref s.length)]) (by rw [jz];lia) rfl,aic]
 rw [xi (λi:Nat=> D.int (i:Int)) (λk=> !(lv (k:Int)).isSome) (λi=>.int (i:Int)) (aW m) (λi hi=> ⟨[some (.int (i:Int)),some (.ref s.length)],rfl,by
  walk_at "ev"
  rw [L.notin]
  walk_at "ev",λ_=> by walk_at "ev"⟩)]
 rw [show ((aW m).filter λk:Nat=> !(lv (k:Int)).isSome).map (λi:Nat=> aq (i:Int))=(loL lv m).map aq by unfold loL;rw [bj];rfl]
 walk_at "go"
 rw [z9 (by decide) (by decide)]
 walk_at "go"
 refine R.W_mono (jx (Q:=λfl s'=> ∃ρ,fl=.nx ρ/\W1J s n s.length c (.da (tbD ss (m:Int) sts)) (.da (pr w)) (m:Int) sts (loL lv m) [] ρ s') (W1J s n s.length c (.da (tbD ss (m:Int) sts)) (.da (pr w)) (m:Int) sts (loL lv m)) ?_ ?_ _ _ _ ⟨0,[],_,_,c,rfl,by lia,.nil 0,by rw [jz];decide,hf.ext x1,by rw [jz];exact av _,x1.same n⟩) ?_
 ·intro d r ρ s' J
  obtain⟨ρ1,e,w⟩:=axq h (by lia) J
  refine⟨ρ1,e,R.W_mono w ?_⟩
  rintro _ s4 ⟨ρ2,rfl,J2⟩
  exact J2
 ·intro ρ s' J
  exact⟨ρ,rfl,J⟩
 ·rintro _ s3 ⟨ρ,rfl,st,wk,u7,u8,c',rfl,hb,hp,hl,fd3,hcc,sm3⟩
  simp only [bS]at hl hcc
  show (w2Z (wEn n (.da (tbD ss (m:Int) sts)) (.da (pr w)) s.length (loL lv m) st wk u7 u8 none) s3).W (R.Wk jw (WaQ s n (c+66) (m:Int) sts w))
  unfold w2Z
  walk_at "go"
  rw [asg]
  by_cases z:st∈loL lv m
  ·rw [decide_eq_false (by simpa using z)]
   walk_at "go"
   refine R.W_mono (aeu h hb) ?_
   rintro _ s4 ⟨l,rfl,fr,x4⟩
   have ll:=fr.len
   have lo6:=ax7 (lv:=lv) (m:=m)
   have hcl: ∀t∈sts,lv t.b=none -> lv t.e=none:=λt ht e=> bJ λq=> K.cl t ht q e
   walk_at "go"
   refine R.W_mono (jx (Q:=λfl s'=> ∃ρ,fl=.nx ρ/\W2J s n s.length c' (.da (tbD ss (m:Int) sts)) (.da (pr w)) (m:Int) sts lv (loL lv m) st wk u7 [] ρ s') (W2J s n s.length c' (.da (tbD ss (m:Int) sts)) (.da (pr w)) (m:Int) sts lv (loL lv m) st wk u7) ?_ ?_ _ _ _ ⟨l,_,loL lv m,c',rfl,λ_ h=> h,rfl,fr.sm,fr.me,fr.by_ (λy=> lv y=none) (amv.mp z).2 hcl,by lia,fd3.ext x4,by lia,sm3.trans (x4.same n)⟩) ?_
   ·intro d r ρ s' J
    obtain⟨ρ1,e,w⟩:=axs h hcl (by lia) J
    refine⟨ρ1,e,R.W_mono w ?_⟩
    rintro _ s4 ⟨ρ2,rfl,J2⟩
    exact J2
   ·intro ρ s' J
    exact⟨ρ,rfl,J⟩
   ·rintro _ s5 ⟨ρ,rfl,sm,u9,left,c'',el,_,rfl,hsm,hst,hlv,hl5,fd5,hc5,sm5⟩
    walk_at "go"
    have ul:=ayb sm
    rw [ars (by lia) (by lia)]
    walk_at "go"
    obtain⟨un,um⟩:=asu sm
    have pm:=zg (jr sm)
    have mem: ∀x,x∈xq (jr sm) ↔ x∈sm:=λx=> by rw [pm.mem_iff,um]
    refine⟨.inr ⟨wk,xq (jr sm),rfl,⟨st,hp,(mem st).mpr hst⟩,λx hx=> hsm.bd x ((mem x).mp hx),ape un,λt ht hx=> (mem _).mpr (hsm.cl t ht ((mem _).mp hx)),λt ht hx hw'=> ?_,by lia⟩,fd5.le (by lia),sm5⟩
    have:=K.w4 t ht hw'
    rw [hlv _ ((mem _).mp hx)]at this
    cases this
  ·rw [decide_eq_true z]
   walk_at "go"
   exact⟨.inl rfl,fd3.le (by lia),sm3⟩
def xa(kvs:List (ac×D))(ks:List ac):List (ac×D):=ks.foldl (λkvs k=> kj kvs k (.bl true)) kvs
theorem ag5{kvs:List (ac×D)}{k:ac}{ks:List ac}:xa kvs (k::ks)=xa (kj kvs k (.bl true)) ks:=rfl
theorem aix: ∀(ks:List ac) (kvs:List (ac×D)) (x:ac),(j5 (xa kvs ks) x).isSome=true ↔ ((j5 kvs x).isSome=true\/x∈ks)
 |[],kvs,x=> by show (j5 kvs x).isSome=true ↔ _;simp
 | k::r,kvs,x=> by
  rw [ag5,aix r,ams]
  by_cases z:x=k
  ·subst z;simp
  ·rw [if_neg (λe=> z e.symm)]
   simp [z]
theorem aid{kd:ac -> Bool}: ∀(ks:List ac) (kvs:List (ac×D)),(kvs.all λe=> kd e.1)=true -> (∀k∈ks,kd k=true) -> ((xa kvs ks).all λe=> kd e.1)=true
 |[],_,h,_=> h
 |k::r,kvs,h,hk=> by
  rw [ag5]
  exact aid r _ (aly h (hk k au)) λx hx=> hk x (aw _ hx)
theorem ac9{g:Tg}{ft:FT}{fk fv:FE}{ρ0:En}{all:List D}{s0:S}{α:Type}(c:α -> D)(p:α -> Bool)(k:α -> ac)(kd:ac -> Bool)(hkd: ∀(kvs:List (ac×D)) k,(kvs.all λe=> kd e.1)=true -> kd k=true -> kn kvs k=true): ∀(l:List α) (kvs:List (ac×D)),(kvs.all λe=> kd e.1)=true -> kvs.length+l.length < 16777216 ->
  (∀a∈l,(p a=true -> kd (k a)=true)/\ ∃ρ1,j6 g (c a) ρ0=some ρ1/\ ∀s,ft ρ1 s=.ok (p a) s/\(p a=true -> fk ρ1 s=.ok (.da (k a)) s/\fv ρ1 s=.ok (.bl true) s)) ->
  dcF g ft fk fv ρ0 (all,none) s0.length (l.map c) (s0++ [.dct kvs])=.ok (.ref s0.length) (s0++ [.dct (xa kvs ((l.filter p).map k))])
 |[],kvs,_,_,_=> rfl
 | a::r,kvs,h1,hl,h=> by
  obtain⟨ka,ρ1,e,q⟩:=h a au
  have ih:=λkvs h1 hl=> ac9 (all:=all) (s0:=s0) c p k kd hkd r kvs h1 hl λb hb=> h b (aw _ hb)
  simp only [aG]at hl
  rw [aK]
  unfold dcF
  rw [e]
  show (((ft ρ1 (s0++ [.dct kvs])).calm.bind _):R D)=_
  rw [(q _).1,R.calm_ok,R.bind_ok']
  cases hp:p a with
  |false=>
   rw [if_neg ax,xc,ih kvs h1 (by lia),jP (by rw [hp];exact ax)]
  |true=>
   rw [if_pos rfl,((q _).2 hp).1,R.calm_ok,R.bind_ok',((q _).2 hp).2,R.calm_ok,R.bind_ok',aep (hkd _ _ h1 (ka hp)) (by lia),R.calm_ok,R.bind_ok',xc]
   have pl:=axd kvs (k a) (D.bl true)
   rw [ih _ (aly h1 (ka hp)) (by lia),jQ hp]
   rfl
structure KyS (s:S) (a:Nat) (kd:ac -> Bool) (ks:List ac):Prop where
 ex: ∃kvs:List (ac×D),s[a]?=some (.dct kvs)/\(kvs.all λe=> kd e.1)=true/\ ∀x,(j5 kvs x).isSome=true ↔ x∈ks
theorem KyS.notin{a:Nat}{kd:ac -> Bool}{ks:List ac}(h:KyS s a kd ks)(hkd: ∀(kvs:List (ac×D)) k,(kvs.all λe=> kd e.1)=true -> kd k=true -> kn kvs k=true){x:ac}(hx:kd x=true):qd true (.da x) (.ref a) s=.ok (.bl (!decide (x∈ks))) s:=by
 obtain⟨kvs,e,k1,k2⟩:=h.ex
 rw [ad5 e (hkd kvs x k1 hx)]
 congr 3
 (rw [bh,decide_eq_true_eq])
 exact k2 x
theorem KyS.in_{a:Nat}{kd:ac -> Bool}{ks:List ac}(h:KyS s a kd ks)(hkd: ∀(kvs:List (ac×D)) k,(kvs.all λe=> kd e.1)=true -> kd k=true -> kn kvs k=true){x:ac}(hx:kd x=true):qd false (.da x) (.ref a) s=.ok (.bl (decide (x∈ks))) s:=by
 obtain⟨kvs,e,k1,k2⟩:=h.ex
 rw [an5 e (hkd kvs x k1 hx)]
 congr 2
 (rw [bh,decide_eq_true_eq])
 exact k2 x
theorem KyS.mk_{kd:ac -> Bool}{ks:List ac}(hk: ∀k∈ks,kd k=true):KyS (s++ [.dct (xa [] ks)]) s.length kd ks:=
 ⟨_,by simp,aid ks [] rfl hk,λx=> by rw [aix];simp [j5]⟩
theorem kdK(kvs:List (ac×D))(k:ac)(h:(kvs.all λe=> isK e.1)=true)(hk:isK k=true):kn kvs k=true:=by
 unfold kn
 rw [h,hk];rfl
theorem kdT(kvs:List (ac×D))(k:ac)(h:(kvs.all λe=> isT e.1)=true)(hk:isT k=true):kn kvs k=true:=a2m h hk
theorem atq{k:Nat}{fk:FE}{s1:S}{ds:List D}(h:fi ρ s=.ok (ds,none) s1):fDc js k fi g ft fk fv ρ s=dcF g ft fk fv (bo k none++aae ρ js) (ds,none) s1.length ds (s1++ [.dct []]):=by
 unfold fDc
 rw [h]
 show chk (ds,none) s1 _=_
 rw [xc]
theorem a3l{Q:Fl -> S -> Prop}(h:(fb ρ s).W Q):(aj7 fb ρ s).W Q:=by
 unfold aj7
 rw [R.W_calm];exact h
theorem an1:aap [.int i] s=.ok (.bl true) s:=by
 rw [arh];unfold Bis_whole
 walk_at "ev"
 rfl
theorem awc(h:0 <=i):aax [.int i] s=.ok (.bl true) s:=by
 rw [aoq];unfold Bis_from_0
 walk_at "ev"
 rw [an1]
 walk_at "ev"
 rw [decide_eq_true h]
 walk_at "ev"
theorem ah4{m:Int}(h0:0 <=i)(h1:i < m):zd [.int m,.int i] s=.ok (.bl true) s:=by
 rw [ar0];unfold Bis_below
 walk_at "ev"
 rw [an1]
 walk_at "ev"
 rw [decide_eq_true h0]
 walk_at "ev"
 rw [decide_eq_true h1]
 walk_at "ev"
theorem azb{m:Int}(h0:0 <=i)(h1:i < m):abp [.int m,.int i] s=.ok (.bl true) s:=by
 rw [aq1];unfold Bis_thing
 walk_at "ev"
 rw [ah4 h0 h1]
 walk_at "ev"
theorem az1{x:Str}(hs: ∀x∈ss,yv x=true)(hx:x∈ss):gIn (.str x) (.tup (ss.map bb)) s=.ok (.bl true) s:=by
 have ok: ∀x∈ss,okD (.str x)=true:=λx hx=> acp (aad (hs x hx))
 show (if okD (.str x)=true/\(ss.map bb).all okD=true then R.ok (D.bl (nb false ((ss.map bb).any λd=> aM d (.str x)))) s else .bad)=_
 rw [if_pos ⟨ok x hx,all_strs ok⟩,alh,decide_eq_true hx];rfl
theorem a1k{p:Str×Int}(hs: ∀x∈ss,yv x=true)(hp:p.1∈ss/\0 <=p.2/\p.2 < 3):aak [.int 3,.tup (ss.map bb),.tup [.str p.1,.int p.2]] s=.ok (.bl true) s:=by
 rw [alt];unfold Bis_passing
 walk_at "ev"
 rw [show aa3 (.tuple [.str p.1,.int p.2]) "tuple"=true from rfl]
 walk_at "ev"
 rw [ack]
 rw [show (!decide (((2:Nat):Int)=2))=false from rfl]
 walk_at "ev"
 try rw [qf (k:=0) (p:=.str p.1) rfl]
 walk_at "ev"
 rw [az1 hs hp.1]
 walk_at "ev"
 try rw [qf (k:=1) (p:=.int p.2) rfl]
 walk_at "ev"
 rw [azb hp.2.1 hp.2.2]
 walk_at "ev"
structure VmJ (s0:S) (ss:List Str) (ps:List (Str×Int)) (r:List D) (ρ:En) (s:S):Prop where
 ex: ∃(a:Str) (u:Option D) (left:List (Str×Int)),r=(left.map pr).map D.da/\ρ=[some (.int 3),some (.tup (ss.map bb)),some (.da (moD ps)),some (.str a),u]/\s=s0/\(∀p∈left,p.1∈ss/\0 <=p.2/\p.2 < 3)/\(left.Pairwise λa b=> ltS a.1 b.1=true)/\ ∀p∈left.head?,ltS a p.1=true
theorem a42{ps:List (Str×Int)}(hs: ∀x∈ss,yv x=true)(h:MoK ss ps):vg [.int 3,.tup (ss.map bb),.da (moD ps)] s=.ok (.bl true) s:=by
 have key:(vg [.int 3,.tup (ss.map bb),.da (moD ps)] s).W λd s'=> d=.bl true/\s'=s:=by
  rw [aiy];unfold Bis_moment_of
  walk_at "go"
  rw [show aa3 (moD ps) "tuple"=true from rfl]
  walk_at "go"
  rw [show D.da (moD ps)=.tup (ps.map pr) from rfl]
  walk_at "go"
  refine R.W_mono (jx (Q:=λfl s'=> (∃ρ,fl=.nx ρ)/\s'=s) (VmJ s ss ps) ?_ ?_ _ _ _ ⟨"",_,ps,rfl,rfl,rfl,h.mem,h.up,λp hp=> ?_⟩) ?_
  ·rintro _ r ρ s2 ⟨a,u,left,e2,rfl,rfl,hm,hu,ha⟩
   cases left with
   |nil=> cases e2
   |cons p left=>
    cases e2
    refine⟨_,aw3,?_⟩
    walk_at "go"
    rw [show D.da (pr p)=.tup [.str p.1,.int p.2] from rfl,a1k hs (hm p au)]
    walk_at "go"
    try rw [qf (k:=0) (p:=.str p.1) rfl]
    walk_at "go"
    rw [ati]
    have hl:decide (a.cps.toList < p.1.cps.toList)=true:=ha p rfl
    rw [hl]
    walk_at "go"
    try rw [qf (k:=0) (p:=.str p.1) rfl]
    walk_at "go"
    rw [cx]at hu
    refine⟨p.1,_,left,rfl,rfl,rfl,λq hq=> hm q (aw _ hq),hu.2,λq hq=> hu.1 q (lA hq)⟩
  ·rintro ρ s2 ⟨a,u,left,e2,rfl,rfl,_⟩
   exact⟨⟨_,rfl⟩,rfl⟩
  ·have hp':p∈ps:=lA hp
   have:=hs _ (h.mem p hp').1
   unfold yv at this
   simp only [aD,decide_eq_true_eq]at this
   refine decide_eq_true ?_
   have l1:0 < p.1.cps.toList.length:=by rw [ar];exact this.1.1
   match hx:p.1.cps.toList with
   |[]=> rw [hx]at l1;simp at l1
   |c::r=> exact List.nil_lt_cons _ _
  ·rintro _ s2 ⟨⟨ρ,rfl⟩,rfl⟩
   walk_at "go"
   first|exact⟨rfl,rfl⟩|exact⟨trivial,trivial⟩|exact⟨rfl,trivial⟩|trivial
 cases e:vg [.int 3,.tup (ss.map bb),.da (moD ps)] s with
 |ok a s1=> rw [e]at key;obtain⟨rfl,rfl⟩:=key;rfl
 |bad=> rw [e]at key;exact key.elim
 |ex _ _ _=> rw [e]at key;exact key.elim
theorem ne_str{x:Str}(h1:okD (.str x)=true)(h2:okD (.str y)=true):gNe (.str x) (.str y) s=.ok (.bl (!decide (x=y))) s:=by
 rw [aea h1 h2]
 have:aM (.str x) (.str y)=decide (x=y):=by
  show (x==y)=_
  (rw [bh,beq_iff_eq,decide_eq_true_eq])
 rw [this]
theorem aqr:okD (.str "can")=true:=acp (by decide)
theorem ajn:okD (.str "waits")=true:=acp (by decide)
theorem aew{rk:Int -> Option Int}:(rkL m rk).length=m:=by unfold rkL;rw [ak,cz]
theorem acs{rk:Int -> Option Int}(h0:0 <=i)(h1:i < (m:Int)):gIx (.tup (rkL m rk)) (.int i) s=.ok (.da (pd (rk i))) s:=by
 obtain⟨k,rfl⟩:=bI h0
 refine qf (k:=k) ?_
 unfold rkL
 exact ab9 (dB (by lia))
theorem adi{α:Type}(l:List α)(p:α -> Bool)(hp: ∀x∈l,p x=true):ae8 [.lst ((l.filter p).map λ_=> gL true)] s=.ok (.bl true) s:=by
 rw [show (l.filter p).map (λ_=> gL true)=((l.filter p).map λ_=> true).map gL by rw [bj];rfl,awh]
 congr 2
 rw [aC]
 intro x hx
 obtain⟨_,_,rfl⟩:=aH.mp hx
 rfl
theorem aza{sts:List St}{rk:Int -> Option Int}(h6:m <=6)(hr: ∀i r,rk i=some r -> 0 <=r):xh [.da (tbD ss (m:Int) sts),.da (zx m rk)] s=.ok (.bl true) s:=by
 have eT: ∀s:S,gIx (.da (tbD ss (m:Int) sts)) (.da (.int 1)) s=.ok (.int (m:Int)) s:=λs=> ak1
 rw [adn];unfold Bis_can_paper
 walk_at "ev"
 rw [show aa3 (zx m rk) "tuple"=true from rfl]
 rw [show D.da (zx m rk)=.tup [.str "can",.tuple (rkL m rk)] from rfl]
 walk_at "ev"
 rw [ack]
 rw [show (!decide (((2:Nat):Int)=2))=false from rfl]
 walk_at "ev"
 try rw [qf (k:=0) (p:=.str "can") rfl]
 walk_at "ev"
 rw [ne_str aqr aqr,decide_eq_true rfl]
 walk_at "ev"
 try rw [qf (k:=1) (p:=.tuple (rkL m rk)) rfl]
 walk_at "ev"
 rw [show aa3 (.tuple (rkL m rk)) "tuple"=true from rfl]
 walk_at "ev"
 rw [eT]
 walk_at "ev"
 rw [ack,aew,decide_eq_true rfl]
 walk_at "ev"
 rw [aan (ρ0:=[none]) (by rw [ak,aew];lia) rfl]
 rw [show (rkL m rk).map D.da=(aW m).map (λk:Nat=> D.da (pd (rk (k:Int)))) by unfold rkL;rw [bj];rfl]
 rw [xi (λk:Nat=> D.da (pd (rk (k:Int)))) (λ_=> true) (λ_=>.bool true) (aW m) (λk hk=> ⟨[some (.da (pd (rk (k:Int))))],rfl,rfl,λ_=> by
  walk_at "ev"
  cases e:rk (k:Int) with
  |none=>
   rw [show isN (D.da (pd none))=true from rfl]
   walk_at "ev"
  |some r=>
   rw [show isN (D.da (pd (some r)))=false from rfl]
   walk_at "ev"
   rw [show D.da (pd (some r))=D.int r from rfl,awc (hr _ _ e)]
   walk_at "ev"⟩)]
 walk_at "ev"
 rw [adi _ _ (λ_ _=> rfl)]
 walk_at "ev"
noncomputable def goF(w:Str×Int)(rk:Int -> Option Int)(t:St):Bool:=match rk t.b with
 |none=> false
 |some r=> if r=0 then decide (w∈t.m) else match rk t.e with
  |some r'=> decide (r' < r)
  |none=> false
theorem a03{w:Str×Int}{rk:Int -> Option Int}{t:St}(hs:SsK ss)(hw:w.1∈ss/\0 <=w.2/\w.2 < 3)(ht:StOk (m:Int) ss t)(hc:rk t.b≠none -> rk t.e≠none):
  zj [.da (pr w),.tup (rkL m rk),.int t.b,.da (moD t.m),.int t.e] s=.ok (.bl (goF w rk t)) s:=by
 rw [al5];unfold Bgoes_nearer
 walk_at "ev"
 rw [acs ht.b0 ht.b1]
 walk_at "ev"
 unfold goF
 cases e:rk t.b with
 |none=>
  rw [show isN (D.da (pd none))=true from rfl]
  walk_at "ev"
 | some r=>
  rw [show isN (D.da (pd (some r)))=false from rfl]
  walk_at "ev"
  rw [acs ht.b0 ht.b1,e]
  walk_at "ev"
  rw [show D.da (pd (some r))=D.int r from rfl,aaa]
  by_cases z:r=0
  ·rw [decide_eq_true z]
   walk_at "ev"
   rw [aho hs hw ht.mo]
   walk_at "ev"
   rw [if_pos z]
  ·rw [decide_eq_false z]
   walk_at "ev"
   rw [acs ht.e0 ht.e1]
   walk_at "ev"
   rw [acs ht.b0 ht.b1,e]
   walk_at "ev"
   cases e2:rk t.e with
   |none=> exact absurd e2 (hc (by rw [e];intro q;cases q))
   |some r'=>
    rw [show D.da (pd (some r))=D.int r from rfl,show D.da (pd (some r'))=D.int r' from rfl]
    walk_at "ev"
    rw [if_neg z]
abbrev kEn(T W R:D)(u3 u4 u5 u6 u7 u8:Option D):En:=[some T,some W,some R,u3,u4,u5,u6,u7,u8]
structure C1J (s0:S) (T W R:D) (sts:List St) (r:List D) (ρ:En) (s:S):Prop where
 ex: ∃(u3 u4 u5:Option D) (left:List St),r=(left.map St.d).map D.da/\(∀t∈left,t∈sts)/\ρ=kEn T W R u3 u4 u5 none none none/\s=s0
structure C2J (s0:S) (a:Nat) (T W:D) (m:Nat) (rk:Int -> Option Int) (r:List D) (ρ:En) (s:S):Prop where
 ex: ∃(u3 u4 u5 u7 u8:Option D) (j k:Nat),r=enD (j:Int) ((mZ j k).map λi:Nat=> pd (rk (i:Int)))/\j+k=m/\ρ=kEn T W (.tup (rkL m rk)) u3 u4 u5 (some (.ref a)) u7 u8/\s=s0
theorem amb{k:Int}:aka k [.tup xs] s=.ok (enD k xs,none) s:=rfl
theorem aoc {w:Str×Int} {sts:List St} {rk:Int -> Option Int} (h:TbK ss (m:Int) sts) (hw:w.1∈ss/\0 <=w.2/\w.2 < 3) (hc:CanK sts w rk):
  (aav [.da (tbD ss (m:Int) sts),.da (pr w),.tup (rkL m rk)] s).W λd s'=> Ext s s':=by
 have h1:=h.m1
 have h6:=h.m6
 have hl:=h.len
 have eT: ∀s:S,gIx (.da (tbD ss (m:Int) sts)) (.da (.int 2)) s=.ok (.tup (sts.map St.d)) s:=λs=> anw
 rw [ao5];unfold Bcheck_can
 walk_at "go"
 rw [acs (by decide) (by lia)]
 walk_at "go"
 cases e0:rk 0 with
 |none=> exact absurd e0 hc.z
 | some r0=>
  rw [show isN (D.da (pd (some r0)))=false from rfl]
  walk_at "go"
  rw [eT]
  walk_at "go"
  refine R.W_mono (jx (Q:=λfl s'=> ∃ρ,fl=.nx ρ/\C1J s (.da (tbD ss (m:Int) sts)) (.da (pr w)) (.tup (rkL m rk)) sts [] ρ s') (C1J s (.da (tbD ss (m:Int) sts)) (.da (pr w)) (.tup (rkL m rk)) sts) ?_ ?_ _ _ _ ⟨none,none,none,sts,rfl,λ_ h=> h,rfl,rfl⟩) ?_
  ·rintro d r ρ s2 ⟨u3,u4,u5,left,er,hleft,rfl,rfl⟩
   cases left with
   |nil=> cases er
   | cons t left=>
    cases er
    have ht:=h.st t (hleft t au)
    have hleft': ∀y∈left,y∈sts:=λy hy=> hleft y (aw _ hy)
    refine⟨kEn (.da (tbD ss (m:Int) sts)) (.da (pr w)) (.tup (rkL m rk)) (some (.int t.b)) (some (.da (moD t.m))) (some (.int t.e)) none none none,rfl,?_⟩
    walk_at "go"
    rw [acs ht.b0 ht.b1]
    walk_at "go"
    cases e:rk t.b with
    |none=>
     rw [show isN (D.da (pd none))=true from rfl]
     walk_at "go"
     exact⟨_,_,_,left,rfl,hleft',rfl,rfl⟩
    | some r=>
     rw [show isN (D.da (pd (some r)))=false from rfl]
     walk_at "go"
     rw [acs ht.e0 ht.e1]
     walk_at "go"
     cases e2:rk t.e with
     |none=> exact absurd e2 (hc.cl t (hleft t au) (by rw [e];intro q;cases q))
     |some r'=>
      rw [show isN (D.da (pd (some r')))=false from rfl]
      walk_at "go"
      exact⟨_,_,_,left,rfl,hleft',rfl,rfl⟩
  ·intro ρ s' J
   exact⟨ρ,rfl,J⟩
  ·rintro _ s2 ⟨ρ,rfl,u3,u4,u5,left,_,_,rfl,rfl⟩
   walk_at "go"
   rw [atq (ds:=(sts.map St.d).map D.da) (s1:=s2) (by
    walk_at "ev"
    rw [eT]
    walk_at "ev")]
   rw [show bo 3 none++aae (kEn (.da (tbD ss (m:Int) sts)) (.da (pr w)) (.tup (rkL m rk)) u3 u4 u5 none none none) [1,2]=[none,none,none,some (.da (pr w)),some (.tup (rkL m rk))] from rfl]
   rw [show ((sts.map St.d).map D.da)=sts.map (λt=> D.da (St.d t)) by rw [bj];rfl]
   rw [ac9 (λt:St=> D.da t.d) (goF w rk) (λt=>.int t.b) isK kdK sts [] rfl (by simp;lia) (λt ht=> ⟨λ_=> rfl,[some (.int t.b),some (.da (moD t.m)),some (.int t.e),some (.da (pr w)),some (.tup (rkL m rk))],rfl,λs=> ⟨by
    walk_at "ev"
    rw [a03 h.s hw (h.st t ht) (hc.cl t ht)]
    walk_at "ev",λ_=> ⟨by walk_at "ev",by walk_at "ev"⟩⟩⟩)]
   walk_at "go"
   have ky:KyS (s2++ [.dct (xa [] ((sts.filter (goF w rk)).map λt=>.int t.b))]) s2.length isK ((sts.filter (goF w rk)).map λt=>.int t.b):=KyS.mk_ λk hk=> by
    obtain⟨t,_,rfl⟩:=aH.mp hk
    rfl
   have ex:Ext s2 (s2++ [.dct (xa [] ((sts.filter (goF w rk)).map λt=>.int t.b))]):=Ext.add _ _
   generalize s2++ [.dct (xa [] ((sts.filter (goF w rk)).map λt=>.int t.b))]=s3 at ky ex⊢
   rw [amb]
   walk_at "go"
   refine R.W_mono (jx (Q:=λfl s'=> ∃ρ,fl=.nx ρ/\C2J s3 s2.length (.da (tbD ss (m:Int) sts)) (.da (pr w)) m rk [] ρ s') (C2J s3 s2.length (.da (tbD ss (m:Int) sts)) (.da (pr w)) m rk) ?_ ?_ _ _ _ ⟨_,_,_,_,_,0,m,by unfold rkL;rw [List.range_eq_range'];rfl,by lia,rfl,rfl⟩) ?_
   ·rintro d r ρ s4 ⟨u3,u4,u5,u7,u8,j,k,er,hjk,rfl,rfl⟩
    cases k with
    |zero=> cases er
    | succ k=>
     rw [List.range'_succ]at er
     cases er
     refine⟨kEn (.da (tbD ss (m:Int) sts)) (.da (pr w)) (.tup (rkL m rk)) u3 u4 u5 (some (.ref s2.length)) (some (.int (j:Int))) (some (.da (pd (rk (j:Int))))),rfl,?_⟩
     have nxt: ∃(u3' u4' u5' u7' u8':Option D) (j' k':Nat),enD ((j:Int)+1) ((mZ (j+1) k).map λi:Nat=> pd (rk (i:Int)))=enD (j':Int) ((mZ j' k').map λi:Nat=> pd (rk (i:Int)))/\j'+k'=m/\kEn (.da (tbD ss (m:Int) sts)) (.da (pr w)) (.tup (rkL m rk)) u3 u4 u5 (some (.ref s2.length)) (some (.int (j:Int))) (some (.da (pd (rk (j:Int)))))=kEn (.da (tbD ss (m:Int) sts)) (.da (pr w)) (.tup (rkL m rk)) u3' u4' u5' (some (.ref s2.length)) u7' u8'/\s4=s4:=
      ⟨_,_,_,_,_,j+1,k,rfl,by lia,rfl,rfl⟩
     walk_at "go"
     cases e:rk (j:Int) with
     |none=>
      rw [e]at nxt
      rw [show isN (D.da (pd none))=true from rfl]
      walk_at "go"
      exact⟨nxt⟩
     | some r=>
      rw [e]at nxt
      rw [show isN (D.da (pd (some r)))=false from rfl]
      walk_at "go"
      rw [ky.notin kdK rfl]
      have hin:aq (j:Int)∈(sts.filter (goF w rk)).map λt=> aq t.b:=by
       obtain⟨t,ht,hb,hg⟩:=hc.go _ _ e
       refine aH.mpr ⟨t,bq.mpr ⟨ht,?_⟩,by rw [hb]⟩
       unfold goF
       rw [hb,e]
       rcases hg with ⟨z,hm⟩|⟨z,r',e2,l⟩
       ·show (if r=0 then decide (w∈t.m) else _)=true
        rw [if_pos z,decide_eq_true hm]
       ·show (if r=0 then decide (w∈t.m) else _)=true
        rw [if_neg z,e2]
        exact decide_eq_true l
      rw [decide_eq_true hin]
      walk_at "go"
      exact⟨nxt⟩
   ·intro ρ s' J
    exact⟨ρ,rfl,J⟩
   ·rintro _ s4 ⟨ρ,rfl,u3,u4,u5,u7,u8,j,k,_,_,rfl,rfl⟩
    walk_at "go"
    exact ex
theorem a1x(h:is.Pairwise (· < ·)): ∀p∈is.zip (is.drop 1),p.1 < p.2:=by
 induction is with
 |nil=> intro p hp;cases hp
 | cons x r ih=>
  cases r with
  |nil=> intro p hp;simp at hp
  |cons y r=>
   intro p hp
   rw [cx]at h
   simp only [List.drop_succ_cons,lh,iE,aA]at hp ih
   rcases hp with z|z
   ·rw [z];exact h.1 y au
   ·exact ih h.2 p z
theorem at5(h:is.Pairwise (· < ·))(hl:is.length <=1000):aaw [.da (iT is)] s=.ok (.bl true) s:=by
 rw [ana];unfold Bis_rising
 walk_at "ev"
 rw [show D.da (iT is)=.tup (is.map aq) from rfl]
 walk_at "ev"
 rw [show k7 (is.map aq) (some 1) none=(is.map aq).drop 1 from aps _ 1]
 rw [aan (ρ0:=[none,none]) (by rw [ak,List.length_zip,ak];lia) rfl]
 rw [show ((is.map aq).zip ((is.map aq).drop 1)).map (λp=> D.tup [p.1,p.2])=(is.zip (is.drop 1)).map (λp=> D.tup [.int p.1,.int p.2]) by rw [←l4,List.zip_map,bj];rfl]
 rw [xi (λp:Int×Int=> D.tup [.int p.1,.int p.2]) (λ_=> true) (λ_=>.bool true) (is.zip (is.drop 1)) (λp hp=> ⟨[some (.int p.1),some (.int p.2)],rfl,rfl,λ_=> by
  walk_at "ev"
  rw [decide_eq_true (a1x h p hp)]⟩)]
 walk_at "ev"
 rw [adi _ _ (λ_ _=> rfl)]
 walk_at "ev"
theorem alk(h6:m <=6)(hne:is≠ [])(hb: ∀x∈is,0 <=x/\x < (m:Int))(hu:is.Pairwise (· < ·)):aaj [.int (m:Int),.da (iT is)] s=.ok (.bl true) s:=by
 have hl:is.length <=1000:=by
  rcases abg is 0 (m:Int) hu hb with z|z
  ·exact absurd z hne
  ·lia
 have hpos:0 < is.length:=by
  cases is with
  |nil=> exact absurd rfl hne
  |cons _ _=> simp
 rw [alv];unfold Bare_stands
 walk_at "ev"
 rw [show aa3 (iT is) "tuple"=true from rfl]
 walk_at "ev"
 rw [ajq]
 walk_at "ev"
 rw [aan (ρ0:=[none,some (.int (m:Int))]) (by rw [ak];lia) rfl]
 rw [xi (λi:Int=> D.int i) (λ_=> true) (λ_=>.bool true) is (λi hi=> ⟨[some (.int i),some (.int (m:Int))],rfl,rfl,λ_=> by
  walk_at "ev"
  rw [ah4 (hb i hi).1 (hb i hi).2]
  walk_at "ev"⟩)]
 walk_at "ev"
 rw [adi _ _ (λ_ _=> rfl)]
 walk_at "ev"
 rw [show D.da (iT is)=.tup (is.map aq) from rfl]
 walk_at "ev"
 rw [ak,decide_eq_true (show (0:Int) < (is.length:Int) by lia)]
 walk_at "ev"
 rw [show D.tup (is.map aq)=.da (iT is) from rfl,at5 hu hl]
 walk_at "ev"
theorem atg{T:D}{wk:List Wp}:xh [T,.da (waD wk is)] s=.ok (.bl false) s:=by
 rw [adn];unfold Bis_can_paper
 walk_at "ev"
 rw [show aa3 (waD wk is) "tuple"=true from rfl]
 rw [show D.da (waD wk is)=.tup [.str "waits",.tuple (wk.map wp),iT is] from rfl]
 walk_at "ev"
 rw [ack]
 rw [show (!decide (((3:Nat):Int)=2))=true from rfl]
 walk_at "ev"
theorem asi{sts:List St}{wk:List Wp}(h6:m <=6)(hne:is≠ [])(hb: ∀x∈is,0 <=x/\x < (m:Int))(hu:is.Pairwise (· < ·))(hw: ∀p∈wk,0 <=p.2/\p.2 < (m:Int))(hl:wk.length <=30):
  xt [.da (tbD ss (m:Int) sts),.da (waD wk is)] s=.ok (.bl true) s:=by
 have eT: ∀s:S,gIx (.da (tbD ss (m:Int) sts)) (.da (.int 1)) s=.ok (.int (m:Int)) s:=λs=> ak1
 rw [agd];unfold Bis_waits_paper
 walk_at "ev"
 rw [show aa3 (waD wk is) "tuple"=true from rfl]
 rw [show D.da (waD wk is)=.tup [.str "waits",.tuple (wk.map wp),iT is] from rfl]
 walk_at "ev"
 rw [ack]
 rw [show (!decide (((3:Nat):Int)=3))=false from rfl]
 walk_at "ev"
 rw [ne_str ajn ajn,decide_eq_true rfl]
 walk_at "ev"
 rw [a0v (ρ1:=[some (.da (tbD ss (m:Int) sts)),some (.tup [.str "waits",.tuple (wk.map wp),iT is]),some (.str "waits"),some (.tup (wk.map wp)),some (.da (iT is))]) rfl]
 walk_at "ev"
 rw [show aa3 (.tuple (wk.map wp)) "tuple"=true from rfl]
 walk_at "ev"
 rw [eT]
 walk_at "ev"
 rw [alk h6 hne hb hu]
 walk_at "ev"
 rw [aan (ρ0:=[none,some (.da (tbD ss (m:Int) sts))]) (by rw [ak,ak];lia) rfl]
 rw [show (wk.map wp).map D.da=wk.map (λp=> D.da (wp p)) by rw [bj];rfl]
 rw [xi (λp:Wp=> D.da (wp p)) (λ_=> true) (λ_=>.bool true) wk (λp hp=> ⟨[some (.da (wp p)),some (.da (tbD ss (m:Int) sts))],rfl,rfl,λ_=> by
  walk_at "ev"
  rw [show aa3 (wp p) "tuple"=true from rfl]
  walk_at "ev"
  rw [show D.da (wp p)=.tup [moD p.1,.int p.2] from rfl]
  walk_at "ev"
  rw [aaa,show decide (((2:Nat):Int)=2)=true from rfl]
  walk_at "ev"
  rw [eT]
  walk_at "ev"
  rw [ah4 (hw p hp).1 (hw p hp).2]
  walk_at "ev"⟩)]
 walk_at "ev"
 rw [adi _ _ (λ_ _=> rfl)]
 walk_at "ev"
theorem afq{t:St}(h:StOk many ss t)(hs: ∀x∈ss,yv x=true)(h6:many <=6):isT t.d=true:=by
 have k:=adz (k:=3) (St.nice h hs h6) (by decide) (St.stk h).pl
 exact (amr k).1
structure EoJ (s0:S) (a:Nat) (T W:D) (sts:List St) (e:Int) (r:List D) (ρ:En) (s:S):Prop where
 ex: ∃(cur:Int) (u4 u5 u6:Option D) (j:Int) (left:List Wp),r=enD j (left.map wp)/\Pth sts cur left e/\ρ=[some T,some W,some (.ref a),some (.int cur),u4,u5,u6]/\s=s0
theorem awm{sts:List St}{wk:List Wp}{e:Int}(h:TbK ss (m:Int) sts)(hp:Pth sts 0 wk e):
  (aes [.da (tbD ss (m:Int) sts),.tup (wk.map wp)] s).W λd s'=> d=.int e/\Ext s s':=by
 have h6:=h.m6
 have hl:=h.len
 have eT: ∀s:S,gIx (.da (tbD ss (m:Int) sts)) (.da (.int 2)) s=.ok (.tup (sts.map St.d)) s:=λs=> anw
 have eT0: ∀s:S,gIx (.da (tbD ss (m:Int) sts)) (.da (.int 0)) s=.ok (.tup (ss.map bb)) s:=λs=> atv
 rw [aya];unfold Bend_of
 walk_at "go"
 rw [atq (ds:=(sts.map St.d).map D.da) (s1:=s) (by
  walk_at "ev"
  rw [eT]
  walk_at "ev")]
 rw [show bo 1 none++aae [some (.da (tbD ss (m:Int) sts)),some (.tup (wk.map wp)),none,none,none,none,none] []=[none] from rfl]
 rw [show ((sts.map St.d).map D.da)=sts.map (λt=> D.da (St.d t)) by rw [bj];rfl]
 rw [ac9 (λt:St=> D.da t.d) (λ_=> true) (λt=> t.d) isT kdT sts [] rfl (by simp;lia) (λt ht=> ⟨λ_=> afq (h.st t ht) h.s.ok h6,[some (.da t.d)],rfl,λs=> ⟨rfl,λ_=> ⟨by walk_at "ev",by walk_at "ev"⟩⟩⟩)]
 walk_at "go"
 have ky:KyS (s++ [.dct (xa [] ((sts.filter λ_=> true).map λt=> t.d))]) s.length isT ((sts.filter λ_=> true).map λt=> t.d):=KyS.mk_ λk hk=> by
  obtain⟨t,ht,rfl⟩:=aH.mp hk
  exact afq (h.st t (bq.mp ht).1) h.s.ok h6
 have ex:Ext s (s++ [.dct (xa [] ((sts.filter λ_=> true).map λt=> t.d))]):=Ext.add _ _
 generalize s++ [.dct (xa [] ((sts.filter λ_=> true).map λt=> t.d))]=s3 at ky ex⊢
 rw [amb]
 walk_at "go"
 refine R.W_mono (jx (Q:=λfl s'=> ∃ρ,fl=.nx ρ/\EoJ s3 s.length (.da (tbD ss (m:Int) sts)) (.tup (wk.map wp)) sts e [] ρ s') (EoJ s3 s.length (.da (tbD ss (m:Int) sts)) (.tup (wk.map wp)) sts e) ?_ ?_ _ _ _ ⟨0,_,_,_,0,wk,rfl,hp,rfl,rfl⟩) ?_
 ·rintro d r ρ s4 ⟨cur,u4,u5,u6,j,left,er,pth,rfl,rfl⟩
  cases pth with
  |nil=> cases er
  | @cons t left _ ht pth=>
   have er2:d::r=D.tup [.int j,wp (t.m,t.e)]::enD (j+1) (left.map wp):=er
   injection er2 with e1 e2
   subst e1 e2
   refine⟨[some (.da (tbD ss (m:Int) sts)),some (.tup (wk.map wp)),some (.ref s.length),some (.int t.b),some (.int j),some (.da (moD t.m)),some (.int t.e)],rfl,?_⟩
   walk_at "go"
   rw [eT0]
   walk_at "go"
   rw [a42 h.s.ok (h.st t ht).mo]
   walk_at "go"
   rw [show D.tup [.int t.b,moD t.m,.int t.e]=.da (St.d t) from rfl,ky.notin kdT (afq (h.st t ht) h.s.ok h6),decide_eq_true (aH.mpr ⟨t,bq.mpr ⟨ht,rfl⟩,rfl⟩)]
   walk_at "go"
   exact⟨_,_,_,_,j+1,left,rfl,pth,rfl,rfl⟩
 ·intro ρ s' J
  exact⟨ρ,rfl,J⟩
 ·rintro _ s4 ⟨ρ,rfl,cur,u4,u5,u6,j,left,er,pth,rfl,rfl⟩
  cases pth with
  |nil=>
   walk_at "go"
   first|exact⟨rfl,ex⟩|exact⟨trivial,ex⟩|exact ex
  |cons ht pth=> cases er
abbrev oEn(T W Wk S:D)(u4 u5 u6 u7 u8:Option D):En:=[some T,some W,some Wk,some S,u4,u5,u6,u7,u8]
structure O1J (s0:S) (T W Wk S:D) (u4 u5:Option D) (sts:List St) (r:List D) (ρ:En) (s:PF.S):Prop where
 ex: ∃(u6 u7 u8:Option D) (left:List St),r=(left.map St.d).map D.da/\(∀t∈left,t∈sts)/\ρ=oEn T W Wk S u4 u5 u6 u7 u8/\s=s0
theorem ale{w:Str×Int}{sts:List St}{wk:List Wp}(h:TbK ss (m:Int) sts)(hw:w.1∈ss/\0 <=w.2/\w.2 < 3)(hk:WaK sts w (m:Int) wk is):
  (zn [.da (tbD ss (m:Int) sts),.da (pr w),.tup (wk.map wp),.da (iT is)] s).W λd s'=> Ext s s':=by
 have h6:=h.m6
 obtain⟨e,hp,hei⟩:=hk.ex
 have hil:is.length <=1000:=by
  rcases abg is 0 (m:Int) hk.up hk.bd with z|z
  ·rw [z];simp
  ·lia
 have eT: ∀s:S,gIx (.da (tbD ss (m:Int) sts)) (.da (.int 2)) s=.ok (.tup (sts.map St.d)) s:=λs=> anw
 rw [akx];unfold Bcheck_waits
 walk_at "go"
 refine R.W_mono (awm h hp) ?_
 rintro _ s1 ⟨rfl,x1⟩
 walk_at "go"
 rw [atq (ds:=is.map D.int) (s1:=s1) (by
  walk_at "ev"
  rw [ajq])]
 rw [show bo 1 none++aae (oEn (.da (tbD ss (m:Int) sts)) (.da (pr w)) (.tup (wk.map wp)) (.da (iT is)) (some (.int e)) none none none none) []=[none] from rfl]
 rw [ac9 (λi:Int=> D.int i) (λ_=> true) (λi=>.int i) isK kdK is [] rfl (by simp;lia) (λt ht=> ⟨λ_=> rfl,[some (.int t)],rfl,λs=> ⟨rfl,λ_=> ⟨by walk_at "ev",by walk_at "ev"⟩⟩⟩)]
 walk_at "go"
 have ky:KyS (s1++ [.dct (xa [] ((is.filter λ_=> true).map λi=>.int i))]) s1.length isK ((is.filter λ_=> true).map λi=>.int i):=KyS.mk_ λk hk=> by
  obtain⟨t,ht,rfl⟩:=aH.mp hk
  rfl
 have mem: ∀x:Int,aq x∈((is.filter λ_=> true).map λi=> aq i) ↔ x∈is:=λx=> by
  rw [aH]
  constructor
  ·rintro⟨y,hy,e⟩
   injection e with e
   exact e▸(bq.mp hy).1
  ·exact λhx=> ⟨x,bq.mpr ⟨hx,rfl⟩,rfl⟩
 have ex:Ext s (s1++ [.dct (xa [] ((is.filter λ_=> true).map λi=>.int i))]):=x1.trans (Ext.add _ _)
 generalize s1++ [.dct (xa [] ((is.filter λ_=> true).map λi=>.int i))]=s3 at ky ex⊢
 rw [ky.notin kdK rfl,decide_eq_true ((mem e).mpr hei)]
 walk_at "go"
 rw [eT]
 walk_at "go"
 refine R.W_mono (jx (Q:=λfl s'=> ∃ρ,fl=.nx ρ/\O1J s3 (.da (tbD ss (m:Int) sts)) (.da (pr w)) (.tup (wk.map wp)) (.da (iT is)) (some (.int e)) (some (.ref s1.length)) sts [] ρ s') (O1J s3 (.da (tbD ss (m:Int) sts)) (.da (pr w)) (.tup (wk.map wp)) (.da (iT is)) (some (.int e)) (some (.ref s1.length)) sts) ?_ ?_ _ _ _ ⟨none,none,none,sts,rfl,λ_ h=> h,rfl,rfl⟩) ?_
 ·rintro d r ρ s2 ⟨u6,u7,u8,left,er,hleft,rfl,rfl⟩
  cases left with
  |nil=> cases er
  | cons t left=>
   cases er
   have htm:=hleft t au
   have hleft': ∀y∈left,y∈sts:=λy hy=> hleft y (aw _ hy)
   refine⟨oEn (.da (tbD ss (m:Int) sts)) (.da (pr w)) (.tup (wk.map wp)) (.da (iT is)) (some (.int e)) (some (.ref s1.length)) (some (.int t.b)) (some (.da (moD t.m))) (some (.int t.e)),rfl,?_⟩
   walk_at "go"
   rw [ky.in_ kdK rfl]
   by_cases z:aq t.b∈((is.filter λ_=> true).map λi=> aq i)
   ·rw [decide_eq_true z]
    walk_at "go"
    rw [ky.notin kdK rfl,decide_eq_true ((mem t.e).mpr (hk.cl t htm ((mem _).mp z)))]
    walk_at "go"
    exact⟨_,_,_,left,rfl,hleft',rfl,rfl⟩
   ·rw [decide_eq_false z]
    walk_at "go"
    exact⟨_,_,_,left,rfl,hleft',rfl,rfl⟩
 ·intro ρ s' J
  exact⟨ρ,rfl,J⟩
 ·rintro _ s2 ⟨ρ,rfl,u6,u7,u8,left,_,_,rfl,rfl⟩
  walk_at "go"
  rw [eT]
  walk_at "go"
  refine R.W_mono (jx (Q:=λfl s'=> ∃ρ,fl=.nx ρ/\O1J s2 (.da (tbD ss (m:Int) sts)) (.da (pr w)) (.tup (wk.map wp)) (.da (iT is)) (some (.int e)) (some (.ref s1.length)) sts [] ρ s') (O1J s2 (.da (tbD ss (m:Int) sts)) (.da (pr w)) (.tup (wk.map wp)) (.da (iT is)) (some (.int e)) (some (.ref s1.length)) sts) ?_ ?_ _ _ _ ⟨_,_,_,sts,rfl,λ_ h=> h,rfl,rfl⟩) ?_
  ·rintro d r ρ s2 ⟨u6,u7,u8,left,er,hleft,rfl,rfl⟩
   cases left with
   |nil=> cases er
   | cons t left=>
    cases er
    have htm:=hleft t au
    have hleft': ∀y∈left,y∈sts:=λy hy=> hleft y (aw _ hy)
    refine⟨oEn (.da (tbD ss (m:Int) sts)) (.da (pr w)) (.tup (wk.map wp)) (.da (iT is)) (some (.int e)) (some (.ref s1.length)) (some (.int t.b)) (some (.da (moD t.m))) (some (.int t.e)),rfl,?_⟩
    walk_at "go"
    rw [ky.in_ kdK rfl]
    by_cases z:aq t.b∈((is.filter λ_=> true).map λi=> aq i)
    ·rw [decide_eq_true z]
     walk_at "go"
     rw [aho h.s hw (h.st t htm).mo,decide_eq_false (hk.nw t htm ((mem _).mp z))]
     walk_at "go"
     exact⟨_,_,_,left,rfl,hleft',rfl,rfl⟩
    ·rw [decide_eq_false z]
     walk_at "go"
     exact⟨_,_,_,left,rfl,hleft',rfl,rfl⟩
  ·intro ρ s' J
   exact⟨ρ,rfl,J⟩
  ·rintro _ s2 ⟨ρ,rfl,u6,u7,u8,left,_,_,rfl,rfl⟩
   walk_at "go"
   exact ex
structure N0 (d:ac):Prop where
 cl:d.canLay0=true
 sh:d.showable=true
 ls:d.leavesShort 24=true
 bk:d.bulk=0
 dp:d.depth=0
structure N0s (ds:List ac):Prop where
 cl:ba ds=true
 sh:dM ds=true
 ls:dS 24 ds=true
 bk:gw ds=ds.length
 dp:bH ds <=1
theorem n0s: ∀ds:List ac,(∀d∈ds,N0 d) -> N0s ds
 |[],_=> ⟨rfl,rfl,rfl,rfl,by simp [bH]⟩
 |d::r,h=> by
  obtain⟨a1,a2,a3,a4,a5⟩:=h d au
  obtain⟨b1,b2,b3,b4,b5⟩:=n0s r λx hx=> h x (aw _ hx)
  refine⟨?_,?_,?_,?_,?_⟩
  ·simp only [ba,a1,b1,df]
  ·simp only [dM,a2,b2,df]
  ·simp only [dS,a3,b3,df]
  ·simp only [gw,a4,b4,aG];lia
  ·simp only [bH,a5];lia
theorem a4b{o:Option Int}(h: ∀r,o=some r -> 0 <=r/\r <=100000000000000000000):N0 (pd o):=by
 cases o with
 |none=> exact⟨rfl,rfl,rfl,rfl,by simp [pd,cv]⟩
 | some r=>
  obtain⟨h0,h1⟩:=h r rfl
  have hn:r.natAbs < 10^21:=by
   have:(10:Nat)^21=1000000000000000000000:=by decide
   lia
  refine⟨rfl,?_,?_,rfl,by simp [pd,cv]⟩
  ·show (aq r).showable=true
   (simp only [dR,decide_eq_true_eq])
   by_cases z:r.natAbs=0
   ·rw [z];decide
   ·have h2:r.natAbs < 2^70:=eK hn (by decide)
    have:=(Nat.log2_lt z).mpr h2
    lia
  ·show (aq r).leavesShort 24=true
   simp only [cM,decide_eq_true_eq]
   have e:=int_text_length_le10 (k:=21) (by decide) hn
   have:(jH (.int r)).length=(toString r).length:=by
    show (cf (toString r)).length=_
    exact ofString_length _
   lia
structure PpK (c:ac):Prop where
 cl:c.canLay0=true
 sh:c.showable=true
 dp:c.depth <=10
 ln:c.shown.length <=1000000
theorem Nice.pp{c:ac}{B:Nat}(h:Nice B 10 c)(hb:B <=20000):PpK c:=⟨h.cl,h.sh,h.dp,by
 have:=fN 13 (by decide) c h.ls
 have:=h.bk
 lia⟩
theorem a23{sts:List St}{w:Str×Int}{rk:Int -> Option Int}(h6:m <=6)(h:CanK sts w rk):PpK (zx m rk):=by
 have n:=n0s (rkL m rk) λd hd=> by
  unfold rkL at hd
  obtain⟨k,_,rfl⟩:=aH.mp hd
  exact a4b (h.nn _)
 have hl:=aew (m:=m) (rk:=rk)
 have c1:=(y7 (x:="can") (by decide)).cl
 have lsh:(zx m rk).leavesShort 24=true:=by
  have:(bb "can").leavesShort 24=true:=by
   simp only [cM,aC,decide_eq_true_eq]
   have q:=(y7 (x:="can") (by decide)).ls
   simp only [cM,aC,decide_eq_true_eq]at q
   exact q
  unfold zx
  simp only [cM,dS,n.ls,md,aD]
  exact this
 refine⟨?_,?_,?_,?_⟩
 ·unfold zx;simp only [eD,ba,n.cl,md]at c1⊢;exact c1
 ·unfold zx;simp only [dR,dM,n.sh,md,l9]
 ·unfold zx;simp only [cv,bH];have:=n.dp;lia
 ·have b:=fN 24 (by decide) _ lsh
  have:(zx m rk).bulk <=100:=by
   unfold zx
   have q:=(y7 (x:="can") (by decide)).bk
   simp only [mT,gw,n.bk,aew]at q⊢
   lia
  exact br b (by lia)
theorem asc{sts:List St}{wk:List Wp}(h:Pth sts i wk j): ∀p∈wk,∃t∈sts,p=(t.m,t.e):=by
 induction h with
 |nil=> intro p hp;cases hp
 |cons h1 _ ih=>
  intro p hp
  rcases aA.mp hp with z|z
  ·exact⟨_,h1,z⟩
  ·exact ih p z
theorem awu{sts:List St}{w:Str×Int}{wk:List Wp}(h:TbK ss (m:Int) sts)(hk:WaK sts w (m:Int) wk is):PpK (waD wk is):=by
 have h6:=h.m6
 obtain⟨e,hp,_⟩:=hk.ex
 have n1:=(xy (B:=80) (D:=3) (wk.map wp) (λd hd=> by
  obtain⟨p,hp',rfl⟩:=aH.mp hd
  obtain⟨t,ht,rfl⟩:=asc hp p hp'
  have q:=h.st t ht
  exact amn q.mo h.s.ok q.e0 (Int.lt_of_lt_of_le q.e1 h6))).tup
 have n2:=(xy (B:=0) (D:=0) (is.map aq) (λd hd=> by
  obtain⟨i,hi,rfl⟩:=aH.mp hd
  have:=hk.bd i hi
  exact aa8 (by lia))).tup
 have n:=(Nices.cons ((y7 (x:="waits") (by decide)).mono (av _) (b9 9)) (Nices.cons (n1.mono (av _) (show _ <=9 by decide)) (Nices.cons (n2.mono (av _) (show _ <=9 by decide)) Nices.nil))).tup
 refine Nice.pp n ?_
 have l1:=hk.wl
 have l2:(is.length:Int) <=6:=by
  rcases abg is 0 (m:Int) hk.up hk.bd with z|z
  ·rw [z];simp
  ·lia
 rw [ak,ak]
 lia
theorem aym{sts:List St}(h:TbK ss (m:Int) sts):Nice 20000 9 (tbD ss (m:Int) sts):=by
 have h6:=h.m6
 have n1:=(xy (ss.map bb) (λd hd=> by
  obtain⟨x,hx,rfl⟩:=aH.mp hd
  exact y7 (aad (h.s.ok x hx)))).tup
 have n2:=(xy (sts.map St.d) (λd hd=> by
  obtain⟨t,ht,rfl⟩:=aH.mp hd
  exact St.nice (h.st t ht) h.s.ok h6)).tup
 have n:=(Nices.cons (n1.mono (av _) (show _ <=4 by decide)) (Nices.cons ((aa8 (i:=(m:Int)) (by lia)).mono (av _) (by decide)) (Nices.cons n2 Nices.nil))).tup
 refine Nice.mono n ?_ (by decide)
 have l1:=h.s.len
 have l2:=h.len
 rw [ak,ak]
 lia
theorem a54{a b c:ac}(ha:Nice 20000 9 a)(hb:Nice 20000 9 b)(hc:PpK c):okS (.tuple [a,b,c])=true:=by
 unfold okS
 (simp only [aD,decide_eq_true_eq])
 refine⟨⟨⟨?_,?_⟩,?_⟩,?_⟩
 ·simp only [eD,ba,ha.cl,hb.cl,hc.cl,df]
 ·simp only [dR,dM,ha.sh,hb.sh,hc.sh,df]
 ·simp only [cv,bH]
  have:=ha.dp;have:=hb.dp;have:=hc.dp
  lia
 ·have l:=tupleText_len_le [a.shown,b.shown,c.shown]
  simp only [aK,f6,List.sum_cons,List.sum_nil,aG,bS]at l
  have e:(jH (.tuple [a,b,c]))=tupleText [a.shown,b.shown,c.shown]:=by simp only [jH,PyData.shownAll]
  rw [e,ko]
  have:=fN 13 (by decide) a ha.ls
  have:=fN 13 (by decide) b hb.ls
  have:=ha.bk;have:=hb.bk;have:=hc.ln
  lia
inductive PaK (m:Nat) (sts:List St) (w:Str×Int):ac -> Prop
 |none:PaK m sts w .none
 |can {rk:Int -> Option Int}:CanK sts w rk -> PaK m sts w (zx m rk)
 |wait {wk:List Wp} {is:List Int}:WaK sts w (m:Int) wk is -> PaK m sts w (waD wk is)
theorem a1a{w:Str×Int}{sts:List St}{p:ac}(h:TbK ss (m:Int) sts)(hw:w.1∈ss/\0 <=w.2/\w.2 < 3)(hp:PaK m sts w p)(hn:p≠ .none):
  DW (aay [.da (tbD ss (m:Int) sts),.da (pr w),.da p] s) λd s'=> d=.bl true/\Ext s s':=by
 refine⟨?_⟩
 have h6:=h.m6
 rw [ane];unfold Blets_wish
 cases hp with
 |none=> exact absurd rfl hn
 | @can rk hc=>
  walk_at "go"
  rw [aza (by lia) (λi r e=> (hc.nn i r e).1)]
  walk_at "go"
  rw [show D.da (zx m rk)=.tup [.str "can",.tuple (rkL m rk)] from rfl]
  walk_at "go"
  refine R.W_mono (aoc h hw hc) ?_
  rintro _ s1 x1
  walk_at "go"
  first|exact⟨rfl,x1⟩|exact⟨trivial,x1⟩|exact x1
 | @wait wk is hk=>
  have hi:=hk.ex
  have hne:is≠ []:=λz=> by
   obtain⟨_,_,q⟩:=hi
   rw [z]at q;cases q
  have hwk: ∀p∈wk,0 <=p.2/\p.2 < (m:Int):=λp hp=> by
   obtain⟨_,pth,_⟩:=hi
   obtain⟨t,ht,rfl⟩:=asc pth p hp
   exact⟨(h.st t ht).e0,(h.st t ht).e1⟩
  walk_at "go"
  rw [atg]
  walk_at "go"
  rw [asi (by lia) hne hk.bd hk.up hwk hk.wl]
  walk_at "go"
  rw [show D.da (waD wk is)=.tup [.str "waits",.tuple (wk.map wp),iT is] from rfl]
  walk_at "go"
  refine R.W_mono (ale h hw hk) ?_
  rintro _ s1 x1
  walk_at "go"
  first|exact⟨rfl,x1⟩|exact⟨trivial,x1⟩|exact x1
theorem azz{w:Str×Int}{sts:List St}{p:ac}(h:TbK ss (m:Int) sts)(hw:w.1∈ss/\0 <=w.2/\w.2 < 3)(hp:PaK m sts w p)(hn:p≠ .none):
  DW (yh [.da (tbD ss (m:Int) sts),.da (pr w),.da p] s) λd s'=> d=.bl true/\Ext s s':=by
 refine⟨?_⟩
 rw [ao8];unfold B_law_told
 rw [R.W_bindk]
 refine a3l ?_
 walk_at "go"
 refine (a1a h hw hp hn).mono ?_
 rintro _ s1 ⟨rfl,x1⟩
 walk_at "go"
 first|exact⟨rfl,x1⟩|exact⟨trivial,x1⟩|exact x1
theorem PaK.pp{w:Str×Int}{sts:List St}{p:ac}(h:TbK ss (m:Int) sts)(hp:PaK m sts w p):PpK p:=by
 have h6:=h.m6
 cases hp with
 |none=> exact Nice.pp (ash.mono (av _) (b9 _)) (by decide)
 |can hc=> exact a23 (by lia) hc
 |wait hk=> exact awu h hk
theorem PaK.isN{w:Str×Int}{sts:List St}{p:ac}(hp:PaK m sts w p):(isN (.da p)=true/\p=.none)\/(isN (.da p)=false/\p≠ .none):=by
 cases hp with
 |none=> exact .inl ⟨rfl,rfl⟩ --
 |can _=> exact .inr ⟨rfl,by intro z;cases z⟩
 |wait _=> exact .inr ⟨rfl,by intro z;cases z⟩
theorem az5{x:Str}:gNe (.str x) (.str x) s=.ok (.bl false) s:=by
 rw [show gNe (.str x) (.str x) s=.ok (.bl (!decide (x=x))) s from rfl,decide_eq_true rfl];rfl
def inB:FS:=(jd (jj 6 (fCB acq (jb (vb (jb (ja 3) (jb (ja 4) (jb (ja 5) jc)))) jc)))
  (jy (jf (fOp aaq (ja 5) (fC (.da (.none))))) (jy (yc (jf (fOp aca (jh 3 yh (jb (ja 3) (jb (ja 4) (jb (ja 5) jc)))) (fC (.da (.bool true))))) (jf (fOp gNe (fCB acq (jb (vb (jb (ja 3) (jb (ja 4) (jb (ja 5) jc)))) jc)) (ja 6)))) (jt (fC (.da (.bool false)))) jp) jp))
abbrev iEn(u0 u1 u2:Option D)(T W:D)(u5 u6:Option D):En:=[u0,u1,u2,some T,some W,u5,u6]
structure InJ (s0:S) (u0 u1 u2:Option D) (ss:List Str) (m:Nat) (sts:List St) (w:Str×Int) (r:List D) (ρ:En) (s:S):Prop where
 ex: ∃(u5 u6:Option D) (left:List ac),r=left.map D.da/\(∀p∈left,PaK m sts w p)/\ρ=iEn u0 u1 u2 (.da (tbD ss (m:Int) sts)) (.da (pr w)) u5 u6/\Ext s0 s
theorem ayh{u0 u1 u2:Option D}{sts:List St}{w:Str×Int}{d:D}(h:TbK ss (m:Int) sts)(hw:w.1∈ss/\0 <=w.2/\w.2 < 3)(J:InJ s0 u0 u1 u2 ss m sts w (d::r) ρ s):
  ∃ρ1,j6 (.nm 5) d ρ=some ρ1/\(inB ρ1 s).W λfl s'=> ∃ρ2,fl=.nx ρ2/\InJ s0 u0 u1 u2 ss m sts w r ρ2 s':=by
 obtain⟨u5,u6,left,er,hl,rfl,x⟩:=J.ex
 cases left with
 |nil=> cases er
 | cons p left=>
  cases er
  have hp:=hl p au
  have hl': ∀q∈left,PaK m sts w q:=λq hq=> hl q (aw _ hq)
  have nw:Nice 20000 9 (pr w):=(ahm (aad (h.s.ok _ hw.1)) hw.2.1 hw.2.2).mono (by decide) (by decide)
  have ok:=a54 (aym h) nw (hp.pp h)
  have wt:=λs hn=> azz (s:=s) h hw hp hn
  refine⟨_,aw8,?_⟩
  unfold inB
  generalize yh=FT at wt⊢
  walk_at "go"
  rw [show D.tup [tbD ss (m:Int) sts,pr w,p]=.da (.tuple [tbD ss (m:Int) sts,pr w,p]) from rfl,an3 ok]
  walk_at "go"
  rcases hp.isN with ⟨e,_⟩|⟨e,hn⟩
  ·rw [e]
   walk_at "go"
   exact⟨_,rfl,_,_,left,rfl,hl',rfl,x⟩
  ·rw [e]
   walk_at "go"
   refine (wt _ hn).mono λd2 s2 q=> ?_
   obtain⟨e2,x2⟩:=q
   rw [e2];clear e2
   walk_at "go"
   rw [anz]
   walk_at "go"
   rw [show (true !=true)=false from rfl]
   walk_at "go"
   rw [show D.tup [tbD ss (m:Int) sts,pr w,p]=.da (.tuple [tbD ss (m:Int) sts,pr w,p]) from rfl,an3 ok]
   walk_at "go"
   rw [az5]
   walk_at "go"
   exact⟨_,rfl,_,_,left,rfl,hl',rfl,x.trans x2⟩
def at4:FS:=(jd (jj 3 (jh 3 xo (jb (ja 1) (jb (fC (.da (.int 6))) (jb (fOp (kf false) (jh 2 yo (jb (ja 1) (jb (fC (.da (.int 2))) jc))) (vb (jb (fC (.da (.str "q"))) jc))) jc)))))
  (jd (jj 4 (jh 2 ym (jb (ja 1) (jb (fOp gIx (ja 3) (fC (.da (.int 0)))) jc))))
  (qj (fIt (qr false (jb (jh 3 za (jb (ja 1) (jb (ja 3) (jb (ja 4) jc)))) (jb (jh 3 va (jb (ja 1) (jb (ja 3) (jb (ja 4) jc)))) (jb (jh 3 va (jb (ja 1) (jb (ja 3) (jb (ja 4) jc)))) jc))))) (.nm 5) inB)))
structure OutJ (n c:Nat) (u0:Option D) (r:List D) (ρ:En) (s:S):Prop where
 ex: ∃(c':Nat) (u2 u3 u4 u5 u6:Option D),ρ=[u0,some (.ref n),u2,u3,u4,u5,u6]/\Fd s n c'/\c'+300*r.length <=c
theorem ayt{sts:List St}{w:Str×Int}{d:D}(q:CanQ s0 n c (m:Int) sts w d s): ∃p,d=.da p/\PaK m sts w p:=by
 rcases q.ex.1 with rfl|⟨m',rk,e,rfl,k⟩
 ·exact⟨_,rfl,.none⟩
 ·have:m'=m:=by lia
  subst this
  exact⟨_,rfl,.can k⟩
theorem al9{sts:List St}{w:Str×Int}{d:D}(q:WaQ s0 n c (m:Int) sts w d s): ∃p,d=.da p/\PaK m sts w p:=by
 rcases q.ex.1 with rfl|⟨wk,is,rfl,k⟩
 ·exact⟨_,rfl,.none⟩
 ·exact⟨_,rfl,.wait k⟩
theorem at2{u0:Option D}{d:D}(hc:c <=10000)(J:OutJ n c u0 (d::r) ρ s):
  ∃ρ1,j6 (.nm 2) d ρ=some ρ1/\(at4 ρ1 s).W λfl s'=> ∃ρ2,fl=.nx ρ2/\OutJ n c u0 r ρ2 s':=by
 obtain⟨c',u2,u3,u4,u5,u6,rfl,fd,hcc⟩:=J.ex
 simp only [aG]at hcc
 refine⟨_,a37,?_⟩
 have w1:=λs n c h hc=> (⟨ah3 (s:=s) (n:=n) (c:=c) h hc⟩:DW _ _)
 have w2:=λs n c ss h hs hc=> au8 (s:=s) (n:=n) (c:=c) (ss:=ss) h hs hc
 have w3:=λs n c ss h hs hc=> (⟨ayo (s:=s) (n:=n) (c:=c) (ss:=ss) h hs hc⟩:DW _ _)
 have w4:=λs n c ss w many sts hf h hw hc=> a1e (s:=s) (n:=n) (c:=c) (ss:=ss) (w:=w) (many:=many) (sts:=sts) hf h hw hc
 have w5:=λs n c ss w many sts hf h hw hc=> aut (s:=s) (n:=n) (c:=c) (ss:=ss) (w:=w) (many:=many) (sts:=sts) hf h hw hc
 unfold at4
 generalize yo=F1 at w1⊢
 generalize xo=F2 at w2⊢
 generalize ym=F3 at w3⊢
 generalize za=F4 at w4⊢
 generalize va=F5 at w5⊢
 walk_at "go"
 refine (w1 _ _ _ fd (by lia)).mono λd1 s1 q=> ?_
 obtain⟨ss0,e,hs,fd1,sm1⟩:=q
 rw [e];clear e
 walk_at "go"
 have l0:=hs.len
 rw [aQ]at l0
 rw [ak0 (by simp;lia),show ss0.map bb++ [bb "q"]=(ss0++ [("q":Str)]).map bb by simp]
 generalize ss0++ [("q":Str)]=ss at hs⊢
 walk_at "go"
 refine (w2 _ _ _ _ fd1 hs (by lia)).mono λd2 s2 q=> ?_
 obtain⟨many,sts,e,tb,fd2,sm2⟩:=q
 rw [e];clear e
 obtain⟨m,rfl⟩: ∃m:Nat,many=(m:Int):=⟨many.toNat,by have:=tb.m1;lia⟩
 have eT0: ∀s:S,gIx (.da (tbD ss (m:Int) sts)) (.da (.int 0)) s=.ok (.tup (ss.map bb)) s:=λs=> atv
 walk_at "go"
 rw [eT0]
 walk_at "go"
 refine (w3 _ _ _ _ fd2 hs (by lia)).mono λd3 s3 q=> ?_
 obtain⟨w,e,hw1,hw2,hw3,fd3,sm3⟩:=q
 rw [e];clear e
 have hw:w.1∈ss/\0 <=w.2/\w.2 < 3:=⟨hw1,hw2,hw3⟩
 walk_at "go"
 refine (w4 _ _ _ _ _ _ _ fd3 tb hw (by lia)).mono λd4 s4 q4=> ?_
 obtain⟨p4,e,k4⟩:=ayt q4
 rw [e];clear e
 have fd4:=q4.ex.2.1
 walk_at "go"
 refine (w5 _ _ _ _ _ _ _ fd4 tb hw (by lia)).mono λd5 s5 q5=> ?_
 obtain⟨p5,e,k5⟩:=al9 q5
 rw [e];clear e
 have fd5:=q5.ex.2.1
 walk_at "go"
 refine (w5 _ _ _ _ _ _ _ fd5 tb hw (by lia)).mono λd6 s6 q6=> ?_
 obtain⟨p6,e,k6⟩:=al9 q6
 rw [e];clear e
 have fd6:=q6.ex.2.1
 walk_at "go"
 refine R.W_mono (jx (Q:=λfl s'=> ∃ρ,fl=.nx ρ/\InJ s6 u0 (some (.ref n)) (some d) ss m sts w [] ρ s') (InJ s6 u0 (some (.ref n)) (some d) ss m sts w) ?_ ?_ _ _ _ ⟨_,_,[p4,p5,p6],rfl,λp hp=> ?_,rfl,Ext.refl _⟩) ?_
 ·intro d r ρ s' J
  obtain⟨ρ1,e,w⟩:=ayh tb hw J
  refine⟨ρ1,e,R.W_mono w ?_⟩
  rintro _ s4 ⟨ρ2,rfl,J2⟩
  exact J2
 ·intro ρ s' J
  exact⟨ρ,rfl,J⟩
 ·simp only [aA,bM,or_false]at hp
  rcases hp with rfl|rfl|rfl
  ·exact k4
  ·exact k5
  ·exact k6
 ·rintro _ s7 ⟨ρ,rfl,u5',u6',left,_,_,rfl,x⟩
  exact⟨_,rfl,_,_,_,_,_,_,rfl,fd6.ext x,by lia⟩
theorem aur(ns:List Int):(at3 [.frz (ns.map aq)] []).W λd _=> d=.bl true:=by
 rw [a5v];unfold Blaw
 have w1:=λs=> (⟨az9 (s:=s) (xs:=ns)⟩:DW _ _)
 generalize zh=FT at w1⊢
 walk_at "go"
 refine (w1 _).mono λd1 s1 q=> ?_
 obtain⟨e,fd,_⟩:=q
 rw [e];clear e
 walk_at "go"
 rw [z9 (by decide) (by decide)]
 walk_at "go"
 show (vy (.nm 2) at4 _ _ _ _).W _
 refine R.W_mono (jx (Q:=λfl s'=> ∃ρ,fl=.nx ρ/\OutJ 0 10000 (some (.frz (ns.map aq))) [] ρ s') (OutJ 0 10000 (some (.frz (ns.map aq)))) ?_ ?_ _ _ _ ⟨0,_,_,_,_,_,rfl,fd,by rw [jz];show 0+300*8 <=_;lia⟩) ?_
 ·intro d r ρ s J
  obtain⟨ρ1,e,w⟩:=at2 (by decide) J
  refine⟨ρ1,e,R.W_mono w ?_⟩
  rintro _ s4 ⟨ρ2,rfl,J2⟩
  exact J2
 ·intro ρ s5 J
  exact⟨ρ,rfl,J⟩
 ·rintro _ s5 ⟨ρ,rfl,c5,_,_,_,_,_,rfl,_,_⟩
  walk_at "go"
  try rfl
def BN(x q:Str)(st:Stmt)(ps:List Str)(us:List ae):Prop:= ∀(kV doc pm:ae) (an:Option Addr) (cdv ct:ae),bindArgs (dq x q (zf st) (ve st) (je st) .none kV doc pm an cdv ct) ⟨us,[]⟩=pure (ps.zip us)
theorem bd1{x q:Str}{p0:Str}(h: ∀a0,BN x q st [p0] [a0]): ∀us,us.length=1 -> BN x q st [p0] us|[a0],_=> h a0
theorem bd2{x q:Str}{p0 p1:Str}(h: ∀a0 a1,BN x q st [p0,p1] [a0,a1]): ∀us,us.length=2 -> BN x q st [p0,p1] us|[a0,a1],_=> h a0 a1
theorem bd3{x q:Str}{p0 p1 p2:Str}(h: ∀a0 a1 a2,BN x q st [p0,p1,p2] [a0,a1,a2]): ∀us,us.length=3 -> BN x q st [p0,p1,p2] us|[a0,a1,a2],_=> h a0 a1 a2
theorem bd4{x q:Str}{p0 p1 p2 p3:Str}(h: ∀a0 a1 a2 a3,BN x q st [p0,p1,p2,p3] [a0,a1,a2,a3]): ∀us,us.length=4 -> BN x q st [p0,p1,p2,p3] us|[a0,a1,a2,a3],_=> h a0 a1 a2 a3
theorem bd5{x q:Str}{p0 p1 p2 p3 p4:Str}(h: ∀a0 a1 a2 a3 a4,BN x q st [p0,p1,p2,p3,p4] [a0,a1,a2,a3,a4]): ∀us,us.length=5 -> BN x q st [p0,p1,p2,p3,p4] us|[a0,a1,a2,a3,a4],_=> h a0 a1 a2 a3 a4
theorem a1o(X:K.In h)(G:h.Ns bW mg){x:Str}{f:Addr}{od an:Option Addr}{oc kV dc pm cd ct:ae}(a:eN K bW x=some (some (.ref f)))(l:K.lookup f=some ⟨oc,od,.func (dq x x (zf st) (ve st) (je st) .none kV dc pm an cd ct),sl⟩)(c:gp K cd x=true)(k:fB K (.ref f)=true)(b: ∀us,us.length=ps.length -> BN x x st ps us):Has K mg x st ps:=
 ⟨f,_,aji (st:=st) l c k,mf X G a,(aji (st:=st) l c k).binds λkV doc pm an cdv ct us hl=> b us hl kV doc pm an cdv ct⟩
theorem a0a{l:jV}{fa f:Addr}{od an:Option Addr}{oc kV dc pm cd ct:ae}(X:K.In h)(G:h.Ns bW mg)(hfa:mg "law"=some (.ref fa))(a:eN K bW "law"=some (some (.ref f)))(l0:K.lookup f=some ⟨oc,od,.func (dq "law" "law" (zf aai) (ve aai) (je aai) .none kV dc pm an cd ct),sl⟩)(c:gp K cd "law"=true)(k:fB K (.ref f)=true)(T:Txt0 K mg):
  ∃fd:f9,(∀(s:ag) (v:ae),kX s fd ⟨[v],[]⟩ [("_law_script",v)])/\ ∀base:Heap,K.In base -> base.Ns bW mg -> FnOk l.prog w K mg base CX0 10 fa fd ["_law_script"] (agh K):=by
 have e:=hfa.symm.trans (mf X G a)
 cases e
 exact⟨dq "law" "law" (zf aai) (ve aai) (je aai) .none kV dc pm an cd ct,λs v=>.of_eq rfl,λbase _ _=> a0w (a3d (aji (st:=aai) l0 c k) T) λns _=> aur ns⟩
theorem walk{l:jV}{q:aL}{loose:List Str}{XP:(Str -> Option ae) -> Heap -> Prop}{YP:aO -> Heap -> Prop}{d:DefRec}{K:Params -> am}(hn:l.most=some 63)(hdf:d.params.defaults=[])
  (hY: ∀(w:aO) (h:Heap),YP w h -> (K w.params).In h)
  (F: ∀(w:aO) (mg:Str -> Option ae) (fa:Addr) (h:Heap),(K w.params).In h -> h.Ns bW mg -> mg d.name=some (.ref fa) ->
   ∃fd:f9,(∀(s:ag) (u:ae),kX s fd ⟨[u],[]⟩ [("_law_script",u)])/\ ∀base:Heap,(K w.params).In base -> base.Ns bW mg -> FnOk l.prog w (K w.params) mg base CX0 10 fa fd ["_law_script"] (agh (K w.params))):
  PySem.W.WalkO q loose XP YP l.row.toRowW d [] (λf vs=> PySem.call f vs):=
 L2.axk (n:=63) (k:=10) (x:="_law_script") (CX:=λ_=> CX0) (sp:=λw=> agh (K w.params)) hn (by decide) hdf ⟨rfl,by decide,by decide,rfl⟩ hY F (λ_ _ a ns hl _ hS=> ⟨a,ns,rfl,hS,hl,λ_=> rfl⟩) λ_ _ _ _ _ z=> z
end Ln
open PySem PySem.W PyProof.Rows
local macro_rules | `(tactic| walk_at "hm") => do
 let X := cP `KX
 let G := cP `G
 `(tactic| refine Ln.a1o $X $G (by k_is) (by k_is) (by k_is) (by k_is) ?_)
namespace PySem.W.Fast
def tw9124626752463254193:=()
def tw9551762266452302930:=()
def tw2030413520030761748:=()
def tw14121394827937360212:=()
def tw7010549333064935756:=()
def tw4505248839648338967:=()
def tw13685141127088552930:=()
def tw1340751220951159624:=()
def tw6570250907990596099:=()
def tw459629581433040611:=()
def tw2746007553540413983:=()
def tw9320282426625869636:=()
def tw10581429086564523420:=()
def tw5925571941406740453:=()
def tw8410091586216088810:=()
def tw1452796652855922881:=()
def tw5236211005718744813:=()
def tw15847401134554506412:=()
def tw9490232846217904748:=()
def tw1875581861122320347:=()
def tw13962338326944278263:=()
def tw11756047373947509506:=()
def tw6301191037662526694:=()
def tw5588658214709544670:=()
def tw15090141902212583652:=()
def tw17471343131885117985:=()
def tw12171527971443458580:=()
def tw2421739879505576315:=()
def tw13491315537928909574:=()
def tw1563082211262628427:=()
def tw12107837011724024893:=()
def tw13157604578839885523:=()
def tw10767723080233899658:=()
def tw2704204405589970143:=()
def tw9493437573276516789:=()
def tw533904405444159012:=()
def tw18232651313797468476:=()
def tw4054769213925469805:=()
def tw3162388992706432764:=()
def tw10817281159755692166:=()
def tw2599701500002527589:=()
def tw14295990444514107066:=()
def tw7135129561434278128:=()
def tw17576822502767810376:=()
def tw5880860943174297004:=()
def tw8351804999976050231:=()
def tw17215996548309322677:=()
def tw4702403721683553673:=()
def tw15455845399886404515:=()
def tw1316425170965569002:=()
def tw15632006585799181472:=()
def tw2651457841426211174:=()
def tw3399333019643915131:=()
def tw9845825621246580342:=()
def tw1365463918456644577:=()
def tw12981063400820591776:=()
def tw12754180912205813884:=()
def tw17989124436794697257:=()
def tw8495227716837508436:=()
def tw1955653073333189406:=()
def tw4984908338946325985:=()
def tw10358181675921758179:=()
def tw14932278553215662706:=()
def tw664264270043426777:=()
def tw17098243638310613504:=()
end PySem.W.Fast
set_option maxRecDepth 100000 in
set_option maxHeartbeats 0 in
theorem PySem.Challenge.cw_mannerports_k61_wish_papers_let_by_holds : PySem.Challenge.rw_mannerports_k61_wish_papers_let_by.Holds := by
 w_on;o_law;k_head;(case hw=> w_witness2)
 k_fill
 refine Ln.walk (l:=dO) rfl rfl (λw h Y=> PySem.W.kIn_of Y) ?F
 case F=>
  intro w mg fa h KX G hmg
  refine Ln.a0a KX G hmg (by k_is) (by k_is) (by k_is) (by k_is) ?_
  constructor
  ·walk_at "hm";exact Ln.bd1 λ_ _ _ _ _ _ _=> rfl
  ·walk_at "hm";exact Ln.bd1 λ_ _ _ _ _ _ _=> rfl
  ·walk_at "hm";exact Ln.bd2 λ_ _ _ _ _ _ _ _=> rfl
  ·walk_at "hm";exact Ln.bd1 λ_ _ _ _ _ _ _=> rfl
  ·walk_at "hm";exact Ln.bd2 λ_ _ _ _ _ _ _ _=> rfl
  ·walk_at "hm";exact Ln.bd3 λ_ _ _ _ _ _ _ _ _=> rfl
  ·walk_at "hm";exact Ln.bd3 λ_ _ _ _ _ _ _ _ _=> rfl
  ·walk_at "hm";exact Ln.bd2 λ_ _ _ _ _ _ _ _=> rfl
  ·walk_at "hm";exact Ln.bd3 λ_ _ _ _ _ _ _ _ _=> rfl
  ·walk_at "hm";exact Ln.bd2 λ_ _ _ _ _ _ _ _=> rfl
  ·walk_at "hm";exact Ln.bd2 λ_ _ _ _ _ _ _ _=> rfl
  ·walk_at "hm";exact Ln.bd3 λ_ _ _ _ _ _ _ _ _=> rfl
  ·walk_at "hm";exact Ln.bd5 λ_ _ _ _ _ _ _ _ _ _ _=> rfl
  ·walk_at "hm";exact Ln.bd4 λ_ _ _ _ _ _ _ _ _ _=> rfl
  ·walk_at "hm";exact Ln.bd2 λ_ _ _ _ _ _ _ _=> rfl
  ·walk_at "hm";exact Ln.bd1 λ_ _ _ _ _ _ _=> rfl
  ·walk_at "hm";exact Ln.bd2 λ_ _ _ _ _ _ _ _=> rfl
  ·walk_at "hm";exact Ln.bd2 λ_ _ _ _ _ _ _ _=> rfl
  ·walk_at "hm";exact Ln.bd3 λ_ _ _ _ _ _ _ _ _=> rfl
  ·walk_at "hm";exact Ln.bd3 λ_ _ _ _ _ _ _ _ _=> rfl
  ·walk_at "hm";exact Ln.bd2 λ_ _ _ _ _ _ _ _=> rfl
  ·walk_at "hm";exact Ln.bd2 λ_ _ _ _ _ _ _ _=> rfl
  ·walk_at "hm";exact Ln.bd2 λ_ _ _ _ _ _ _ _=> rfl
  ·walk_at "hm";exact Ln.bd3 λ_ _ _ _ _ _ _ _ _=> rfl
  ·walk_at "hm";exact Ln.bd3 λ_ _ _ _ _ _ _ _ _=> rfl
  ·walk_at "hm";exact Ln.bd3 λ_ _ _ _ _ _ _ _ _=> rfl
  ·walk_at "hm";exact Ln.bd1 λ_ _ _ _ _ _ _=> rfl
  ·exact⟨_,mf KX G (by k_is)⟩
  ·exact bF KX G (by k_is)
  ·exact bF KX G (by k_is)
  ·exact bF KX G (by k_is)
  ·exact bF KX G (by k_is)
  ·exact bF KX G (by k_is)
  ·exact bF KX G (by k_is)
  ·exact bF KX G (by k_is)
  ·exact bF KX G (by k_is)
  ·exact bF KX G (by k_is)
  ·exact bF KX G (by k_is)
  ·exact bF KX G (by k_is)
  ·exact bF KX G (by k_is)
  ·exact bF KX G (by k_is)
  ·exact bF KX G (by k_is)
  ·exact bF KX G (by k_is)
