import PyProof.Rows.All
import Wide.All
import OpenK.AllK
import Wide.FinOn
import Lean
import PyProof.EqAt
import PyProof.EqKinds
import PyProof.TupleCall
import PyProof.NeKinds
import PyProof.Rows.SetFrom
import PyProof.WalksMore
import KE.KDictSum
import PyProof.AttrMissHeap
import PyProof.P3Eq
import PyProof.NeData
import PySem.SetTable
import PyProof.SetScanFacts
import PyProof.ConsumeWalk
import PyProof.ZipIter
import PyProof.Rows.TupAdd
import PyProof.Rows.IntBool
import PyProof.SliceStr2
import PyProof.StrBlockI
import KE.KTab
import KE.KIsAll
import OpenK.KCls
import OpenK.KMore
import PyProof.ExcInit
import PyProof.ExcBaseAll.ValueError
import PyProof.ExcAttrAll.ValueError
import PyProof.InstStore
import PyProof.InstStoreFacts
import PyProof.StationsW
import PyProof.PassesOwn
import PyProof.RulesAs
import KE.KTryMore
import PyProof.NsDelKeeps
import KE.KSortAsk
import KE.KSortTup
import PyProof.TupleOfSeq
import PyProof.FString5
import PyProof.StrWalks
import PyProof.CallStr
import PyProof.Conv_int_bool
import PyProof.StrCalls
import PyProof.DictWalks
import PyProof.Rows.TupDisplay
import PyProof.DictTruth
import PyProof.ListMulAny
import PyProof.FactsAll.tuple_2
import PyProof.ListRange
import KE.KxMul
import PyProof.FactsAll.dict_1
import PyProof.FactsAll.subtypes_4
import PyProof.FactsAll.subtypes_3
import PyProof.FactsAll.tuple_0
import PyProof.SumWalk
import PyProof.StrBlockG
import PyProof.StrCalls2
import KE.KIntText
import PyProof.CollectWalk
import PyProof.TupleOfGen
import PyProof.EnumMake
import PyProof.StrLawsReplace
import PyProof.Rows.ReprOcc
import PyProof.Rows.SortShell
import PySem.Challenge.RW_mannerports_k17_nets_put_together
import KE.KTabLook
set_option Elab.async false
set_option linter.all false
set_option bootstrap.genMatcherCode false
set_option genSizeOfSpec false
set_option maxRecDepth 100000
set_option maxHeartbeats 4000001
variable{xs:List lT}{A:lU}{E:c8 -> fM -> Prop}{s:fM}{a b:dR}{h h':PySem.Heap}{P:lA}{w:mf}{t' i:Nat}{ch:List dR}{e tg:iV}{M:PySem.Model}{u:c8}{Q:Unit -> fM -> Prop}{pos:PySem.Pos}{pins:List (dR×PySem.Obj)}{K:aj}
noncomputable section
open PySem renaming wpAny_bind -> ac,PyData -> ae,Value -> af,wpAny_pure -> ah,Shared -> ai,mainGlobals -> aP,Program -> aQ,compareOp -> aT,World -> aU,wpAny_field -> a7,bootBuiltins -> a9,Around -> bf,wpAny_holding -> bj,wpAny_callSpecial?_slot -> bn,wpAny_call_entry -> bo,assignEach -> br,scanBound -> bu,wpAny_newObj_type -> bC,strKind -> bL,intKind -> bM,wpAny_setField_rec -> bV,wpAny_setField -> b9,wpAny_mono -> cc,Builtin -> cf,wpAny_loadPart_at -> ck,wpAny_truthy_bool -> cC,SetTable -> cD,wpAny_rule -> cF,wpAny_attempt -> cY,wpAny_seqItems -> c7,Value -> c8,codeAny_builtin -> dg,wpAny_setState_of -> di,mem_of_lookup -> dt,wpAny_isSubtype_exc -> du,codeAny_mono -> dC,wpAny_specialOf -> dF,foldedSetIterable -> dM,fits_of_scanBound -> dO,wpAny_pyIter_list -> dP,not_mem_of_deeper -> dQ,Addr -> dR,wpAny_isInstance -> dY,Within -> dZ,FuncData -> d5,wpAny_setEntries_of -> ef,wpAny_ite_false -> eI,NameKind -> eK,excClassObj -> eM,wpAny_callSpecialIfBoundUnlessNone?_slot -> eX,Reads -> eY,sysModules -> eZ,checkBuiltinCall -> fg,codeAny_call_builtin -> fj,unbindBehindTheSuite -> fk,wpAny_standAt -> fq,behindInMarks -> fw,plainId_quiet -> fy,wpAny_onRaise -> fB,sliceBounds -> fE,wpAny_execs_nil -> fH,wpAny_passesOwn -> fI,Shared -> fM,swapsWith -> fO,wpAny_Call_Name_kw -> fP,IsPair -> fT,Scope -> fZ,wpAny_call -> f7,wpAny_storeSet_of -> gh,IsPart -> gk,keywordEach -> gl,slicePicked -> gr,attributeBase -> gB,ReadsAll -> gF,builtinLookup_eq_fast -> gJ,pickOrder -> gL,letOwnedTupleGo -> gQ,Result -> gR,wpAny_typeOf -> gU,call_meets -> gV,wpAny_ite_split -> gY,wpAny_updateSeq_pair -> g6,callSpecialIfBoundUnlessNone? -> hX,GenState -> ib,ElemsOf -> ie,isSubtype_type -> ii,wpAny_fieldsOf -> ij,firstArgMember -> ik,isSubtype_stop -> il,call_repr_slot -> io,wpAny_letGo -> ir,IsZip -> iu,Str -> iw,seqIndex? -> iz,wpAny_pyIter_tuple -> iC,setFlight -> iE,eqIsQuiet_byValue -> iL,Expr -> iV,wpAny_load -> iW,typeIs_int -> iX,wpAny_binaryOp_repeat_ref -> i9,wpAny_forIn_list -> jA,noFill_tuple_add -> jC,wpAny_comprehension_free -> jE,setAddHashed -> jF,wpAny_askSetting -> jG,DictEntry -> jP,noteFrame -> jU,codeAny_of_tree -> jW,typeLookup_type -> jX,getMethod -> kA,typeIs_none -> kC,wpAny_pyNext_list_item -> kD,wpAny_pyNext_list_end -> kK,BindsTo -> kM,hashByValue_scannable -> kO,wpAny_runValue -> kR,wpAny_loadPart -> kU,IsEnum -> lc,wpAny_loadName_local -> lp,Operator -> lq,Program -> lA,swapsWithSole -> lB,swappedStores -> lC,seq_tuple_add -> lD,signature?_of -> lG,wpAny_handled -> lH,wpAny_loadName_cell -> lJ,wpAny_Tuple_spliced -> lK,wpAt_of_wpAny -> lP,PyData -> lT,Around -> lU,Paired -> lV,lastMarks -> lW,concat_meets -> lY,seqIndex_neg -> lZ,drawOrder -> l6,IsEnumOut -> ma,CmpOp -> me,World -> mf,seqIndex_of -> mi,wpAny_of_eq -> mj,wpAny_throw -> ml,richCompare -> mn,Moved -> mq,wpAny_loadPart' -> mr,SetTable -> ms,PassesOwn -> mw,Walks -> my
open PySem.Heap renaming get?_push_of_some -> ag,lt_size -> ao,get?_push_size -> ar,size_push -> aZ,SameBut -> bz,get?_update_self -> bA,get?_update_other -> bB,ExtBut -> eL,get?_push_ne -> iU,update_setField_same -> i8,size_after_update -> kG,get?_update_ne -> lO
open PySem.W renaming Frag -> aj,mg_none_of -> a6,nsIn -> bd,kitOne -> bW,kia_one -> bZ,mg_of -> cb,findIn -> cn,fnOf -> cL,keepIn -> cR,clsIn -> eC,specialIn -> eN,codeIn -> eP,Looks -> fA,kitCls -> ip,typeIn -> iq,callWith_K -> iy,mroIn -> iH,subIn -> iK,methodObj -> iN,instObj -> jQ,takesIn -> jR,OpenLaw -> jS,findCls -> jZ,cellsFrom_some -> kE,lookIn -> kL,methodCall_KW -> kW,exmOne -> kY,kitAny -> kZ,looks_clsIn -> lN,looks_findIn -> l8
open List renaming length_map -> ak,replicate -> au,mem_cons -> aw,getElem?_eq_getElem -> ay,size_toArray -> az,getElem?_eq_some_iff -> aA,mem_cons_of_mem -> aB,mem_cons_self -> aC,map_cons -> aJ,length_cons -> aM,all_eq_true -> aO,getElem?_map -> aR,getElem?_set_ne -> aS,length_append -> aX,mem_singleton -> aY,length_take -> a8,getElem?_append_left -> bc,mem_map -> bg,getElem?_set_self -> bh,mem_append -> bq,mem_filter -> bw,mem_append_right -> bE,not_mem_nil -> bK,getD_eq_getElem?_getD -> bS,contains_cons -> bU,append_nil -> bY,length_filter_le -> b6,getElem?_append_right -> b8,replicate_succ -> ci,lookup_cons -> cv,map -> cw,mem_of_mem_take -> cx,contains_iff_mem -> cJ,cons_append -> cK,map_map -> cO,append_assoc -> cT,nil_append -> cV,filter_eq_self -> cW,all_cons -> cX,mem_of_mem_drop -> dh,getElem?_set -> dj,flatten_cons -> dm,take_of_length_le -> dv,drop_eq_nil_of_le -> dw,map_nil -> dz,pairwise_cons -> dE,nodup_cons -> dG,foldl_cons -> dH,sum_cons -> dJ,lookup -> dU,length_drop -> d6,getElem_mem -> d8,getElem?_replicate -> eh,getElem?_cons_succ -> ej,filter_cons_of_neg -> ek,filter_cons_of_pos -> eA,length_nil -> eF,mem_append_left -> ff,of_mem_zip -> fJ,drop_eq_getElem_cons -> fL,map_replicate -> fV,eq_of_mem_replicate -> fY,length_eq_zero_iff -> gc,take_sublist -> gg,findIdx?_eq_some_iff_getElem -> gm,sum_replicate_nat -> gu,any_cons -> gC,Perm -> gK,getElem?_eq_none -> gM,take_append_drop -> gO,range -> gP,mem_of_getElem? -> gS,map_append -> gZ,filterMap_cons -> hZ,getElem_of_mem -> h8,length_flatten -> h9,drop_zero -> im,length_eraseIdx_of_lt -> iJ,any_eq_false -> iO,take_add_one -> iS,ext_getElem? -> iT,pairwise_iff_getElem -> iY,findIdx?_eq_none_iff -> iZ,eraseIdx_cons_succ -> jL,forIn_cons -> jT,length_replicate -> kN,getElem?_toArray -> kS,perm_append_comm -> lj,set_append_left -> lu,pairwise_append -> ly,map_take -> lI,drop_succ_cons -> lR
open Bool renaming false_ne_true -> am,and_eq_true -> aH,eq_iff_iff -> aW,false_eq_true -> cr,and_false -> dX,false_and -> eO,or_true -> fS,and_self -> gD,true_and -> gE,not_true -> iF,or_eq_true -> jV,or_false -> lE
open Nat renaming le_refl -> aq,le_trans -> ax,lt_of_lt_of_le -> aI,ne_of_lt -> aN,le_of_not_lt -> cu,lt_irrefl -> cy,lt_succ_of_lt -> cU,zero_le -> c9,ne_of_gt -> dA,le_succ -> dW,lt_succ_self -> ee,le_of_eq -> eQ,le_of_lt -> fN,lt_of_le_of_lt -> fR,add_assoc -> gz,mul_lt_mul'' -> gH,mul_le_mul_right -> hW,not_lt -> i6,le_max_right -> jK,le_max_left -> kB,mul_le_mul_left -> lS,lt_trans -> l4,add_zero -> md
open PySem.Value renaming ref -> aD,none -> bF,type -> cG,int -> dq,builtin -> eB,bool -> eD,str -> eT,isInt -> fD,isStrOf -> gA,isInt_shape -> iM,notImplemented -> lw,float -> mh
open PySem.PyData renaming int -> aE,str -> aF,bulkAll -> aG,eqv -> aK,depth -> aV,depthAll -> bv,shown -> bH,showable -> bJ,canLayAll0 -> bT,shownAll -> b5,bool -> cA,bulk -> cB,eqvAll -> cP,showableAll -> eJ,leavesShort -> fW,tuple -> fX,canLay0 -> f9,shownKv_eq -> gi,list -> kH,dict -> kI,leavesShortAll -> ll
open Array renaming length_toList -> aL,getElem?_eq_some_iff -> bD,getElem?_eq_getElem -> bI,getElem?_toList -> cq,getElem?_eq_none -> gn,any_toList -> gG,getD -> gW,toList_push -> iR,all_toList -> jI,getElem_toList -> lr
open PySem.Str renaming ofString -> bG
open PyProof.Rows.F renaming plain_set_update_loop -> bN,entry_set_update_loop -> cN
open Lean renaming mkIdent -> bO,TSyntax -> hV
open Option.some renaming inj -> bP,injEq -> dN
open PySem.Heap.SameBut renaming update -> bQ,refl -> iQ
open PySem.NameKind renaming free -> bR,cell -> fx
open PySem.SetTable renaming grown -> bX,below -> cz,sizeAbove -> iA,probe -> lg
open PyProof.Rows renaming slot_tuple_getitem -> b7,callWith_type1 -> dB,AllBare -> f6,callWith_builtin1 -> gT,IntsAre -> ic,subscriptTail_builtinR -> kF,entry_tuple_getitem -> lL,subscriptTail -> mx
open Int renaming toNat_natCast -> cj
open PySem.Builtin.Tuple renaming tupleHashOf -> cE,tupleExact -> d7,tupleItemsOf -> fm
open PySem.Builtin.SmallTypes renaming nextOf -> cH,ownedTupleIsFree -> dI,ownedTupleHandOut -> fU
open Ne renaming symm -> cI
open Or renaming inl -> cM,inr -> eR
open PySem.Obj renaming mapFields -> cQ,data_mapFields -> eG,mapSeq -> f8,isFreed_of_fields -> gN,putSet -> gX
open PySem.Around renaming under_plainId -> cS,under -> jB
open PySem.F renaming excBase_ValueError -> cZ,called_set -> d9,slot_enumerate_next -> eS,slot_NoneType_hash -> eW,args_tuple_add_2 -> fQ,entry_tuple_add -> gb,slot_tuple_hash -> gf,slot_tuple_add -> gj,slot_zip_next -> g9,slot_int_rmul -> hJ,plain_extend_loop -> i7,slot_tuple_mul -> jJ,plain_list_iadd -> jM,attr_ValueError -> jN,args_enumerate_next_1 -> jO,entry_enumerate_next -> kJ,plain_set_new -> kQ
open Option renaming bind_some -> c0,getD_none -> jD,map_some -> jY,bind_eq_bind -> lM
open True renaming intro -> de
open False renaming elim -> df
open PySem.Challenge renaming rw_mannerports_k17_nets_put_together -> dL
open PySem.Builtin.Slice renaming slicePlaces -> dS,sliceAdjust -> fK,sliceApplied -> iI
open PySem.Builtin.Str renaming occurrences -> eg,strSliceIndices -> eV
open ForInStep renaming yield -> eE
open PySem.PassesOwn renaming never -> eH
open PySem.Builtin.List renaming listExtendWith -> eU,listLengthHint -> iD,listSameRef -> jH
open PySem.Value.ref renaming inj -> fz
open PySem.ReprEntriesK renaming of_two -> fF
open List.cons renaming injEq -> fG
open Sum renaming inl -> gI,inr -> ia
open PySem.ReadAtMost renaming cons -> hU
open PySem.Builtin.Frozenset renaming updateFrom -> ig
open PySem.Code renaming quiet_builtin -> iB,isFrame -> lX
open PySem.Calls renaming Name_function_global -> iG
open List.Pairwise renaming nil -> iP,sublist -> lh
open PySem.W.Looks renaming of_pure -> kX
open PySem.SeqAt renaming EqAt -> lm
open Prod.mk renaming injEq -> lF
open PySem.EntryCells renaming newEntry -> lQ
open PySem.pickOrder renaming go -> l7
open PySem.Clear renaming nil -> l9
open PySem.Shared renaming heap -> mo
namespace PF
open PySem PySem.Spec PySem.SeqAt --
mutual
noncomputable def plD:ae -> Bool
 |.none=> true
 |.int _=> true
 |.str _=> true
 |.tuple xs=> abv xs
 |_=> false
noncomputable def abv:List ae -> Bool
 |[]=> true
 |x::xs=> plD x&&abv xs
end
theorem acv:plD (.tuple xs)=abv xs:=by simp only [plD]
theorem aef{x:ae}:abv (x::xs)=(plD x&&abv xs):=by simp only [abv]
theorem agd: ∀xs:List ae,abv xs=xs.all plD
 |[]=> by simp only [abv,List.all_nil]
 |x::r=> by rw [aef,cX,agd r]
theorem evt{ys:List ae}:aK (.tuple xs) (.tuple ys)=cP xs ys:=by simp only [aK]
theorem evs{x y:ae}{ys:List ae}:cP (x::xs) (y::ys)=(aK x y&&cP xs ys):=by simp only [cP]
mutual
theorem ast: ∀a b:ae,plD a=true -> plD b=true -> (aK a b=true ↔ a=b)
 |.none,b,_,hb=> by cases b <;> simp [plD]at hb <;> simp [aK]
 |.int i,b,_,hb=> by cases b <;> simp [plD]at hb <;> simp [aK]
 |.str i,b,_,hb=> by cases b <;> simp [plD]at hb <;> simp [aK]
 |.tuple xs,.tuple ys,ha,hb=> by
  rw [evt,ap2 xs ys (by rw [←acv];exact ha) (by rw [←acv];exact hb)]
  simp
 |.tuple xs,.none,_,_=> by simp [aK]
 |.tuple xs,.int _,_,_=> by simp [aK]
 |.tuple xs,.str _,_,_=> by simp [aK]
 |.tuple xs,.bool _,_,hb=> by simp [plD]at hb
 |.tuple xs,.list _,_,hb=> by simp [plD]at hb
 |.tuple xs,.dict _,_,hb=> by simp [plD]at hb
 |.bool _,_,ha,_=> by simp [plD]at ha
 |.list _,_,ha,_=> by simp [plD]at ha
 |.dict _,_,ha,_=> by simp [plD]at ha
theorem ap2: ∀xs ys:List ae,abv xs=true -> abv ys=true -> (cP xs ys=true ↔ xs=ys)
 |[],[],_,_=> by simp [cP]
 |[],_::_,_,_=> by simp [cP]
 |_::_,[],_,_=> by simp [cP]
 |x::xs,y::ys,ha,hb=> by
  rw [aef,aH]at ha hb
  rw [evs,aH,ast x y ha.1 hb.1,ap2 xs ys ha.2 hb.2,fG]
end
mutual
noncomputable def aag(w:aU):ae -> Int
 |.none=> 0xFCA86420
 |.int i=> hashInt i
 |.str x=> hashStr w x
 |.tuple xs=> reduceHash (cE (zj w xs))
 |_=> 0
noncomputable def zj(w:aU):List ae -> List Int
 |[]=> []
 |x::xs=> aag w x::zj w xs
end
mutual
noncomputable def aaj:ae -> Nat
 |.tuple xs=> xg xs+1
 |_=> 1
noncomputable def xg:List ae -> Nat
 |[]=> 0
 |x::xs=> aaj x+xg xs
end
theorem ahy(w:aU): ∀xs:List ae,zj w xs=xs.map (aag w)
 |[]=> by simp only [zj,dz]
 |x::r=> by simp only [zj,aJ,ahy w r]
theorem acp: ∀xs ys:List ae,xg (xs++ys)=xg xs+xg ys
 |[],ys=> by simp [xg]
 |x::r,ys=> by simp only [cK,xg,acp r ys];lia
theorem aeu: ∀{xs:List ae} {x:ae},x∈xs -> x.depth <=bv xs
 |[],x,h=> by cases h
 |y::r,x,h=> by
  simp only [bv]
  (rcases aw.mp h with rfl|h)
  ·lia
  ·have:=aeu h;lia
section
variable{prog:aQ}{w:aU} --
theorem aty{Q:Int -> ai -> Prop}(h:Q 0xFCA86420 {s with toks:=s.toks+1}):wpAny (model prog w) A (pyHash .none) Q E s:=by
 unfold pyHash
 have hv:[bF].any Value.onHeap=false:=rfl
 refine ac ?_
 (rw [cRoomFor,if_neg (by rw [hv];exact am)];refine ah ?_)
 refine ac (dF (kC s) eW.lookup ?_)
 show wpAny _ _ (if (some (eB "NoneType.__hash__")==some bF)=true then _ else _) Q E s
 (rw [if_neg (by rw [beq_builtin_none];exact am)])
 refine ac (dF (kC s) eW.lookup ?_)
 show wpAny _ _ (hX .none "__hash__" _ >>=_) Q E s
 refine ac (eX (kC s) eW
  (bo eW (kC s) F.entry_NoneType_hash
   (show wpAny _ _ (do ret (←mkInt 0xFCA86420)) _ _ s from wpAny_ret_mkInt ?_) (F.args_NoneType_hash_1 _)))
 show wpAny _ _ (if (decide (-(2:Int)^63 <=0xFCA86420)&&decide ((0xFCA86420:Int) < 2^63))=true then _ else _) Q E _
 rw [if_pos (by decide)]
 exact ah h
mutual
theorem anx: ∀(d:ae) {A:bf} {E:af -> ai -> Prop} {s:ai} {v:af} {bs:List Addr} {Q:Int -> ai -> Prop},plD d=true -> eY s.heap v d bs -> A.units+d.depth < cLine -> Q (aag w d) {s with toks:=s.toks+aaj d} -> wpAny (model prog w) A (pyHash v) Q E s
 |.none,A,E,s,v,bs,Q,_,r,_,h=> by cases r;simp only [aag,aaj]at h;exact aty h
 |.int i,A,E,s,v,bs,Q,_,r,_,h=> by cases r;simp only [aag,aaj]at h;exact wpAny_pyHash_int h
 |.str x,A,E,s,v,bs,Q,_,r,_,h=> by cases r;simp only [aag,aaj]at h;exact wpAny_pyHash_str h
 | .tuple xs,A,E,s,v,bs,Q,hp,r,hu,h=> by
  have ih:=ak3 xs
  rw [acv,agd,aO]at hp
  (simp only [aV]at hu)
  cases r with
  | @tuple a o items n _ _ ho hc hd hi=>
  have hT:s.TypeIs (.ref a) "tuple":=⟨o,ho,hc⟩
  unfold pyHash pyHashByItsType
  refine ac (wpAny_cRoomFor_or (.inr (by lia)) ?_)
  (refine ac (dF hT gf.lookup ?_))
  show wpAny _ _ (if (some (eB "tuple.__hash__")==some bF)=true then _ else _) Q E s --
  (rw [if_neg (by rw [beq_builtin_none];exact am)])
  (refine ac (dF hT gf.lookup ?_))
  show wpAny _ _ (hX (.ref a) "__hash__" _ >>=_) Q E s --
  (refine ac (eX hT gf (bo gf hT F.entry_tuple_hash ?_ (F.args_tuple_hash_1 _))))
  show wpAny _ _ (fm (.ref a)>>=_) _ _ s --
  (refine ac (wpAny_tupleItemsOf ho hd ?_))
  refine ac ?_
  rw [←Array.forIn_toList]
  refine jA _
   (fun rest (b:Array Int) s'=> ∃done left cs,xs=done++left/\gF s.heap rest left cs/\b.toList=done.map (aag w)/\s'={s with toks:=s.toks+xg done})
   _ ?_ ?_ _ _ ⟨[],xs,_,rfl,hi,rfl,rfl⟩
  ·rintro x rest b s' ⟨done,left,cs,e,hl,hb,rfl⟩
   cases hl with
   | @cons _ _ k ks' _ _ h1 hl'=>
    have hm:k∈xs:=by rw [e];simp
    have hdk:=aeu hm
    have e1: ∀A:bf,A.in1.units <=A.units+1:=fun A=> by first|exact aq _|(unfold Around.in1;simp)
    have e1A:=e1 A
    refine ac (ih k hm (s:={s with toks:=s.toks+xg done}) (hp k hm) h1 (by lia) ?_)
    first
     |exact ah ⟨done++ [k],ks',_,by rw [e];simp,hl',by simp [hb],by simp [acp,xg,gz]⟩
     |exact ac (ah (ah ⟨done++ [k],ks',_,by rw [e];simp,hl',by simp [hb],by simp [acp,xg,gz]⟩))
  ·rintro b s' ⟨done,left,cs,e,hl,hb,rfl⟩
   cases hl
   rw [bY]at e
   subst e
   show wpAny _ _ (retInt (cE b.toList)) _ _ _ --
   rw [hb,←ahy]
   refine wpAny_ret_mkInt ?_
   show wpAny _ _ (if (decide (-(2:Int)^63 <=cE (zj w xs))&&decide (cE (zj w xs) < 2^63))=true then _ else _) Q E _
   simp only [aag,aaj]at h
   unfold reduceHash at h
   by_cases hr:(decide (-(2:Int)^63 <=cE (zj w xs))&&decide (cE (zj w xs) < 2^63))=true
   ·rw [if_pos hr]
    rw [if_pos hr]at h
    (exact ah (by simpa [gz] using h))
   ·rw [if_neg hr]
    rw [if_neg hr]at h
    (exact ac (cF (ah (by simpa [gz] using h))))
 |.bool _,_,_,_,_,_,_,hp,_,_,_=> by simp [plD]at hp
 |.list _,_,_,_,_,_,_,hp,_,_,_=> by simp [plD]at hp
 |.dict _,_,_,_,_,_,_,hp,_,_,_=> by simp [plD]at hp
theorem ak3: ∀(xs:List ae),∀d∈xs,∀{A:bf} {E:af -> ai -> Prop} {s:ai} {v:af} {bs:List Addr} {Q:Int -> ai -> Prop},plD d=true -> eY s.heap v d bs -> A.units+d.depth < cLine -> Q (aag w d) {s with toks:=s.toks+aaj d} -> wpAny (model prog w) A (pyHash v) Q E s
 |[],d,m=> by cases m
 | x::r,d,m=> by
  intro h1 h2 h3 h4
  rcases aw.mp m with e|m
  ·rw [e]at h1 h2 h3 h4
   exact anx x h1 h2 h3 h4
  ·exact ak3 r d m h1 h2 h3 h4
end
mutual
theorem amq: ∀(d:ae) {n:Nat} {A:bf} {E:af -> ai -> Prop} {s:ai} {v:af} {bs:List Addr} {Q:Bool -> ai -> Prop},plD d=true -> eY s.heap v d bs -> d.depth <=n -> Q true s -> wpAny (model prog w) A (eqIsQuiet n v) Q E s
 |.none,n,A,E,s,v,bs,Q,_,r,_,h=> by cases r;rw [iL n rfl];exact ah h
 |.int i,n,A,E,s,v,bs,Q,_,r,_,h=> by cases r;rw [iL n rfl];exact ah h
 |.str x,n,A,E,s,v,bs,Q,_,r,_,h=> by cases r;rw [iL n rfl];exact ah h
 | .tuple xs,n,A,E,s,v,bs,Q,hp,r,hu,h=> by
  have ih:=ajn xs
  rw [acv,agd,aO]at hp
  (simp only [aV]at hu)
  obtain⟨m,rfl⟩: ∃m,n=m+1:=⟨n - 1,by lia⟩
  cases r with
  | @tuple a o items n _ _ ho hc hd hi=>
  have hT:s.TypeIs (.ref a) "tuple":=⟨o,ho,hc⟩
  unfold eqIsQuiet
  (refine ac (dF hT F.slot_tuple_eq.lookup ?_))
  show wpAny _ _ (isInstance (.ref a) (.type "tuple")>>=_) _ _ s --
  (refine ac (dY hT isSubtype_tuple_tuple ?_))
  (simp only [iF,cr,if_false])
  (refine ac (c7 ho hd ?_))
  refine ac ?_
  show wpAny _ _ (forIn items _ _) _ _ s --
  rw [←Array.forIn_toList]
  refine jA _ (fun rest r s'=> r.1=none/\s'=s/\ ∃left cs,(∀x∈left,x∈xs)/\gF s.heap rest left cs) _ ?_ ?_ _ _ ⟨rfl,rfl,xs,_,fun _ m=> m,hi⟩
  ·rintro v rest r s' ⟨hr,rfl,left,cs,sub,hl⟩
   cases hl with
   | @cons _ _ k ks' _ _ h1 hl'=>
    have hm:=sub k aC
    have hdk:=aeu hm
    refine ac (ih k hm (hp k hm) h1 (by lia) ?_)
    (simp only [iF,cr,if_false])
    exact ah ⟨rfl,rfl,ks',_,fun x m=> sub x (aB _ m),hl'⟩
  ·rintro⟨r1,r2⟩ s' ⟨hr,rfl,_⟩
   simp only at hr
   subst hr
   exact ah h
 |.bool _,_,_,_,_,_,_,_,hp,_,_,_=> by simp [plD]at hp
 |.list _,_,_,_,_,_,_,_,hp,_,_,_=> by simp [plD]at hp
 |.dict _,_,_,_,_,_,_,_,hp,_,_,_=> by simp [plD]at hp
theorem ajn: ∀(xs:List ae),∀d∈xs,∀{n:Nat} {A:bf} {E:af -> ai -> Prop} {s:ai} {v:af} {bs:List Addr} {Q:Bool -> ai -> Prop},plD d=true -> eY s.heap v d bs -> d.depth <=n -> Q true s -> wpAny (model prog w) A (eqIsQuiet n v) Q E s
 |[],d,m=> by cases m
 | x::r,d,m=> by
  intro h1 h2 h3 h4
  rcases aw.mp m with e|m
  ·rw [e]at h1 h2 h3
   exact amq x h1 h2 h3 h4
  ·exact ajn r d m h1 h2 h3 h4
end
mutual
theorem ajx: ∀(d:ae) {h h':Heap} {v:af} {bs:List Addr} {a:Addr} {o:Obj} {es:Array jP} {ep:Nat},plD d=true -> eY h v d bs -> h.get? a=some o -> o.data=.dict es ep -> bz a h h' -> eY h' v d bs
 |.none,_,_,_,_,_,_,_,_,_,r,_,_,_=> by cases r;exact .none
 |.int i,_,_,_,_,_,_,_,_,_,r,_,_,_=> by cases r;exact .int _ _
 |.str x,_,_,_,_,_,_,_,_,_,r,_,_,_=> by cases r;exact .str _ _
 | .tuple xs,h,h',v,bs,a,o,es,ep,hp,r,ho,hd,hs=> by
  rw [acv]at hp
  cases r with
  | @tuple b ob items n _ _ h1 h2 h3 h4=>
   have ne:b≠a:=by
    rintro rfl
    rw [h1]at ho
    cases ho
    rw [hd]at h3;cases h3
   exact .tuple ((hs.2 b ne).trans h1) h2 h3 (ahp xs hp h4 ho hd hs)
 |.bool _,_,_,_,_,_,_,_,_,hp,_,_,_,_=> by simp [plD]at hp
 |.list _,_,_,_,_,_,_,_,_,hp,_,_,_,_=> by simp [plD]at hp
 |.dict _,_,_,_,_,_,_,_,_,hp,_,_,_,_=> by simp [plD]at hp
theorem ahp: ∀(xs:List ae) {h h':Heap} {vs:List af} {bs:List Addr} {a:Addr} {o:Obj} {es:Array jP} {ep:Nat},abv xs=true -> gF h vs xs bs -> h.get? a=some o -> o.data=.dict es ep -> bz a h h' -> gF h' vs xs bs
 |[],_,_,_,_,_,_,_,_,_,r,_,_,_=> by cases r;exact .nil
 |x::xs,_,_,_,_,_,_,_,_,hp,r,ho,hd,hs=> by
  rw [aef,aH]at hp
  cases r with
  |cons r1 r2=> exact .cons (ajx x hp.1 r1 ho hd hs) (ahp xs hp.2 r2 ho hd hs)
end
def ah7(d:ae):Bool:=plD d&&d.canLay0&&decide (d.depth <=8)
theorem zf{d:ae}:ah7 d=true ↔ plD d=true/\d.canLay0=true/\d.depth <=8:=by
 unfold ah7
 simp only [aH,decide_eq_true_eq,and_assoc]
noncomputable instance:DecidableEq ae:=fun a b=> Classical.propDecidable (a=b)
def awy(prog:aQ)(w:aU):HeapKind prog w ae where
 is h k a:=ah7 k=true/\ ∃bs,eY h (.ref a) k bs
 hash:=aag w
 draws:=aaj
 room A:=A.units+10 < cLine
 inj:=by
  rintro h a x y ⟨k1,b1,r1⟩ ⟨k2,b2,r2⟩
  exact Reads.unique x y _ _ _ (zf.mp k1).2.1 r1 r2
 keeps:=by
  rintro h h' k a d o es ep ⟨k1,b1,r1⟩ ho hd hs
  exact⟨k1,b1,ajx k (zf.mp k1).1 r1 ho hd hs⟩
 pyHash:=by
  rintro A E s k a Q hu ⟨k1,b1,r1⟩ h
  obtain⟨p,c,d⟩:=zf.mp k1
  exact anx k p r1 (by lia) h
 eqBool:=by
  rintro A E s x y a b Q hu ⟨k1,b1,r1⟩ ⟨k2,b2,r2⟩ h
  obtain⟨p,c,d⟩:=zf.mp k1
  obtain⟨p',c',d'⟩:=zf.mp k2
  refine eqAt_reads x y A s _ _ _ _ r1 r2 c c' (by lia) prog w E Q ?_
  have:aK x y=decide (x=y):=by
   (rw [aW,decide_eq_true_eq])
   exact ast x y p p'
  rw [this];exact h
 quiet:=by
  rintro A E s k a Q ⟨k1,b1,r1⟩ h
  obtain⟨p,c,d⟩:=zf.mp k1
  exact amq k p r1 (by lia) h
end
end PF
namespace L2
open PySem PySem.Spec PyProof.Rows
abbrev Key:=Sum Int Str
noncomputable def axw:Key -> af -> Bool
 |.inl k,v=> fD k v
 |.inr x,v=> gA x v
noncomputable def a8g(w:aU):Key -> Int
 |.inl k=> hashInt k
 |.inr x=> hashStr w x
theorem qd: ∀{k:Key} {v:af},axw k v=true -> (∃i t,k=gI i/\v=dq i t)\/(∃x t,k=ia x/\v=eT x t)
 |.inl i,v,h=> by
  obtain⟨t,e⟩:=iM (k:=i) (v:=v) h
  exact .inl ⟨i,t,rfl,e⟩
 |.inr x,v,h=> by
  obtain⟨t,e⟩:=Value.isStrOf_shape (x:=x) (v:=v) h
  exact .inr ⟨x,t,rfl,e⟩
theorem a24(a b:Int):decide ((gI a:Key)=gI b)=(a==b):=by
 by_cases e:a=b
 ·subst e;simp
 ·have h: ¬(gI a:Key)=gI b:=fun q=> e (gI.inj q)
  rw [decide_eq_false h]
  exact (beq_eq_false_iff_ne.mpr e).symm
theorem a23(a b:Str):decide ((ia a:Key)=ia b)=decide (a=b):=by
 by_cases e:a=b
 ·subst e;simp
 ·have h: ¬(ia a:Key)=ia b:=fun q=> e (ia.inj q)
  rw [decide_eq_false h,decide_eq_false e]
theorem a4i(a:Int)(b:Str):decide ((gI a:Key)=ia b)=false:=decide_eq_false (fun q=> nomatch q)
theorem a30(a:Str)(b:Int):decide ((ia a:Key)=gI b)=false:=decide_eq_false (fun q=> nomatch q)
def acx(prog:aQ)(w:aU):PySem.KeyKind prog w Key where
 is:=axw
 hash:=a8g w
 inj:=fun v a b ha hb=> by
  rcases qd ha with ⟨i,t,rfl,rfl⟩|⟨x,t,rfl,rfl⟩
  ·rcases qd hb with ⟨j,u,rfl,e⟩|⟨y,u,rfl,e⟩
   ·injection e with e1 _;rw [e1]
   ·exact nomatch e
  ·rcases qd hb with ⟨j,u,rfl,e⟩|⟨y,u,rfl,e⟩
   ·exact nomatch e
   ·injection e with e1 _;rw [e1]
 byValue:=fun k v h=> by
  rcases qd h with ⟨i,t,rfl,rfl⟩|⟨x,t,rfl,rfl⟩ <;> rfl
 pyHash:=fun hv h=> by
  rcases qd hv with ⟨i,t,rfl,rfl⟩|⟨x,t,rfl,rfl⟩
  ·exact wpAny_pyHash_int h
  ·exact wpAny_pyHash_str h
 eqBool:=fun hu hv h=> by
  rcases qd hu with ⟨i,t,rfl,rfl⟩|⟨x,t,rfl,rfl⟩
  ·rcases qd hv with ⟨j,u,rfl,rfl⟩|⟨y,u,rfl,rfl⟩
   ·rw [a24]at h;exact wpAny_eqBool_int h
   ·rw [a4i]at h;exact lm.int_str i t y u _ _ _ _ h
  ·rcases qd hv with ⟨j,u,rfl,rfl⟩|⟨y,u,rfl,rfl⟩
   ·rw [a30]at h;exact lm.str_int x t j u _ _ _ _ h
   ·rw [a23]at h;exact wpAny_eqBool_str h
 «strs»:=fun k x t v h=> by
  rcases qd h with ⟨i,u,rfl,e⟩|⟨y,u,rfl,e⟩
  ·exact nomatch e
  ·injection e with e1 _
   subst e1
   cases v <;> rfl
inductive V where
 |non|bl (b:Bool)|int (i:Int)|str (x:Str)|byt (b:Array UInt8)|flt (b:UInt64)|ref (a:Addr)|ty (n:String)
 deriving DecidableEq
def RelV:V -> af -> Prop
 |.non,u=> u=bF
 |.bl b,u=> u=eD b
 |.int i,u=> ∃t,u=dq i t
 |.str x,u=> ∃t,u=eT x t
 |.byt b,u=> ∃t,u=Value.bytes b t
 |.flt b,u=> ∃t,u=mh b t
 |.ref a,u=> u=aD a
 |.ty n,u=> u=cG n
abbrev jo:List V -> List af -> Prop:=lV RelV
theorem jo.length{xs:List V}{us:List af}(r:jo xs us):xs.length=us.length:=Paired.length r
theorem jo.get: ∀{xs:List V} {us:List af} {i:Nat} {x:V},jo xs us -> xs[i]?=some x -> ∃u,us[i]?=some u/\RelV x u
 |_,_,_,_,.nil,e=> by simp at e
 |_,_,0,_,.cons r _,e=> by simp at e;subst e;exact⟨_,rfl,r⟩
 |_,_,i+1,x,.cons _ t,e=> by
  obtain⟨u,h1,h2⟩:=jo.get (i:=i) (x:=x) t (by simpa using e)
  exact⟨u,by simpa using h1,h2⟩
theorem jo.set{x:V}{u:af}(r:RelV x u): ∀{xs:List V} {us:List af} (i:Nat),jo xs us -> jo (xs.set i x) (us.set i u)
 |_,_,_,.nil=>.nil
 |_,_,0,.cons _ t=>.cons r t
 |_,_,i+1,.cons q t=>.cons q (jo.set r i t)
theorem jo.append: ∀{xs ys:List V} {us ws:List af},jo xs us -> jo ys ws -> jo (xs++ys) (us++ws)
 |_,_,_,_,.nil,s=> s
 |_,_,_,_,.cons r t,s=>.cons r (jo.append t s)
theorem jo.take: ∀{xs:List V} {us:List af} (n:Nat),jo xs us -> jo (xs.take n) (us.take n)
 |_,_,0,_=>.nil
 |_,_,_+1,.nil=>.nil
 |_,_,n+1,.cons r t=>.cons r (jo.take n t)
theorem jo.drop: ∀{xs:List V} {us:List af} (n:Nat),jo xs us -> jo (xs.drop n) (us.drop n)
 |_,_,0,r=> r
 |_,_,_+1,.nil=>.nil
 |_,_,n+1,.cons _ t=> jo.drop n t
def ab4:Option V -> Option af -> Prop
 |some v,some u=> RelV v u
 |none,none=> True
 |_,_=> False
def KV{κ:Type}:List (κ×V) -> List (κ×af) -> Prop:=lV fun (p:κ×V) (q:κ×af)=> p.1=q.1/\RelV p.2 q.2
noncomputable def kV:Key -> V
 |.inl i=>.int i
 |.inr x=>.str x
inductive HO where
 /-- a list -/
 |lst (xs:List V)
 /-- a tuple (never changes) -/
 |tup (xs:List V)
 /-- a dict whose keys are ints and texts;one whose keys are tuples of ints and texts (the empty one is both) -/
 |dK (kvs:List (Key×V))|dT (kvs:List (List Key×V))
 /-- one whose keys are plain tuples -/
 |dD (kvs:List (ae×V))
 /-- a set of ints:its members,its size -/
 |set (S:Int -> Bool) (n:Nat)
 /-- an instance of the class at C,its dict at dx,its attributes -/
 |ins (C dx:Addr) (fs:List (Str×V))
 /-- the dict of the instance at x -/
 |own (x:Addr)
 /-- the dict of an exception -/
 |xd (fs:List (Str×V))
 /-- a bound method,f of x -/
 |met (f x:Addr)
 /-- a range object lo,lo+1,.. below hi -/
 |rng (lo hi:Int)
 /-- a thing that is known to the object (the script;a dict while a loop walks it):read,never written while it is so -/
 |frz (o:Obj) (u:HO)
 /-- a code object's table -/
 |tbl (ps:Array af)
 /-- an exception of the class at C,its attributes -/
 |exn (C:Addr) (fs:List (Str×V))
 /-- an exception that was raised:its class,its attributes -/
 |exx (C:Addr) (fs:List (Str×V))
 /-- any other thing,by what is true of its one object (a def of one's own:SetO a S n:=HO.ext fun h=>..) -/
 |ext (φ:Heap -> Prop)
abbrev Hp:=Addr -> Option HO
mutual
inductive KD (H:Hp):V -> ae -> Prop
 |non:KD H .non .none
 |int (i:Int):KD H (.int i) (.int i)
 |str (x:Str):KD H (.str x) (.str x)
 |tup {p:Addr} {xs:List V} {ds:List ae}:H p=some (.tup xs) -> KDs H xs ds -> KD H (.ref p) (.tuple ds)
inductive KDs (H:Hp):List V -> List ae -> Prop
 |nil:KDs H [] []
 |cons {x:V} {xs:List V} {d:ae} {ds:List ae}:KD H x d -> KDs H xs ds -> KDs H (x::xs) (d::ds)
end
mutual
theorem KD.mono{H H':Hp}(ht: ∀b xs,H b=some (.tup xs) -> H' b=some (.tup xs)): ∀{v:V} {d:ae},KD H v d -> KD H' v d
 |_,_,.non=>.non
 |_,_,.int i=>.int i
 |_,_,.str x=>.str x
 |_,_,.tup e r=>.tup (ht _ _ e) (KDs.mono ht r)
theorem KDs.mono{H H':Hp}(ht: ∀b xs,H b=some (.tup xs) -> H' b=some (.tup xs)): ∀{v:List V} {d:List ae},KDs H v d -> KDs H' v d
 |_,_,.nil=>.nil
 |_,_,.cons a r=>.cons (KD.mono ht a) (KDs.mono ht r)
end
noncomputable def upd(H:Hp)(a:Addr)(o:HO):Hp:=fun b=> if b=a then some o else H b
theorem yj{H:Hp}{o:HO}:upd H a o a=some o:=by unfold upd;rw [if_pos rfl]
theorem kg{H:Hp}{o:HO}(h:b≠a):upd H a o b=H b:=by unfold upd;rw [if_neg h]
theorem xr{H:Hp}{o:HO}(h:H a=some o)(h':H b=none):a≠b:=by
 intro e;subst e;rw [h]at h';cases h'
def aed(h:Heap)(a:Addr)(its:Array af):Prop:= ∃n,h.get? a=some {cls:=.type "tuple",data:=.seq its n}
theorem aed.tup{its:Array af}(x:aed h a its):IsTup h a its:=let ⟨n,e⟩:=x;⟨_,e,rfl,n,rfl⟩
theorem aed.new(h:Heap)(its:Array af):aed (h.push {cls:=.type "tuple",data:=.seq its}) h.objs.size its:=⟨_,ar _ rfl⟩
abbrev awm(C:Addr)(dx:Option Addr)(t:Addr):Obj:={cls:=.ref C,dict:=dx,data:=.fields #[.ref t,.none,.none,.none,.bool false,.none]}
abbrev yt(C:Addr)(dx:Option Addr)(t:Addr)(tb:af):Obj:={cls:=.ref C,dict:=dx,data:=.fields #[.ref t,tb,.none,.none,.bool false,.none]}
section
variable(P:aQ)(w:aU)
def j5(H:Hp)(h:Heap)(a:Addr):HO -> Prop
 |.lst xs=> xs.length <=sizeLine/\ ∃(its:List af) (n:Nat),jo xs its/\h.get? a=some {cls:=.type "list",data:=.seq its.toArray n}
 |.tup xs=> xs.length <=sizeLine/\ ∃its:List af,jo xs its/\aed h a its.toArray
 |.dK kvs=> kvs.length <=sizeLine/\(a==eZ)=false/\ ∃vs,KV kvs vs/\h.DictOf (acx P w) a vs
 | .dT kvs=> kvs.length <=sizeLine/\(a==eZ)=false/\ ∃xs:List (List Key×Addr×af),
   lV (fun (p:List Key×V) (q:List Key×Addr×af)=> p.1=q.1/\H q.2.1=some (.tup (p.1.map kV))/\RelV p.2 q.2.2) kvs xs/\
   ∃o es ep,h.get? a=some o/\o.ExactDict/\o.data=.dict es ep/\es.toList=xs.map (entryOfKey (tupleKind (acx P w)))/\(xs.map (·.1)).Nodup
 | .dD kvs=> kvs.length <=sizeLine/\(a==eZ)=false/\ ∃xs:List (ae×Addr×af),
   lV (fun (p:ae×V) (q:ae×Addr×af)=> p.1=q.1/\(PF.ah7 p.1=true/\KD H (.ref q.2.1) p.1)/\RelV p.2 q.2.2) kvs xs/\
   ∃o es ep,h.get? a=some o/\o.ExactDict/\o.data=.dict es ep/\es.toList=xs.map (entryOfKey (PF.awy P w))/\(xs.map (·.1)).Nodup
 |.set S n=> h.SetOf (intKind P w) a S n
 | .ins C dx fs=> H dx=some (.own a)/\fs.length <=1000/\dx≠a/\h.get? a=some (jQ C dx)/\
   ∃mA,h.Ns1 dx mA/\(∀f,ab4 (fs.lookup f) (mA f))/\dZ mA (fs.map (·.1))
 | .exn C fs=> fs.length <=1000/\ ∃(t:Addr) (dxo:Option Addr),h.get? a=some (awm C dxo t)/\((dxo=none/\fs=[])\/ ∃dx,dxo=some dx/\H dx=some (.own a)/\dx≠a/\
   ∃mA,h.Ns1 dx mA/\(∀f,ab4 (fs.lookup f) (mA f))/\dZ mA (fs.map (·.1)))
 | .exx C fs=> fs.length <=1000/\ ∃(t:Addr) (tb:af) (dxo:Option Addr),h.get? a=some (yt C dxo t tb)/\((dxo=none/\fs=[])\/ ∃dx,dxo=some dx/\H dx=some (.own a)/\dx≠a/\
   ∃mA,h.Ns1 dx mA/\(∀f,ab4 (fs.lookup f) (mA f))/\dZ mA (fs.map (·.1)))
 |.own _=> ∃o,h.get? a=some o
 |.xd fs=> ∃mA,h.Ns1 a mA/\ ∀f,ab4 (fs.lookup f) (mA f)
 |.rng lo hi=> ∃t u v,h.get? a=some {cls:=.type "range",data:=.fields #[.int lo t,.int hi u,.int 1 v]}
 |.frz o u=> h.get? a=some o/\j5 H h a u
 |.tbl ps=> h.get? a=some {cls:=.none,data:=.fields ps}
 |.met f x=> h.get? a=some (iN (.ref f) (.ref x))
 |.ext φ=> φ h/\(∃o,h.get? a=some o)/\ ∀h1 h2:Heap,φ h1 -> (∀o,h1.get? a=some o -> h2.get? a=some o) -> φ h2
def HOk(H:Hp)(h:Heap):Prop:= ∀a o,H a=some o -> j5 P w H h a o
end
section
variable{P:aQ}{w:aU}{H H':Hp}{h h':Heap}{a:Addr}{o:HO}
theorem j5.lt(x:j5 P w H h a o):a < h.objs.size:=by
 cases o with
 |lst xs=> obtain⟨_,_,_,_,e⟩:=x;exact ao e
 |tup xs=> obtain⟨_,_,_,p⟩:=x;exact p.tup.lt
 |dK kvs=> obtain⟨_,_,_,_,o,_,_,e,_⟩:=x;exact ao e
 |dT kvs=> obtain⟨_,_,_,_,o,_,_,e,_⟩:=x;exact ao e
 |dD kvs=> obtain⟨_,_,_,_,o,_,_,e,_⟩:=x;exact ao e
 |set S n=> obtain⟨o,_,_,_,e,_⟩:=x;exact ao e
 |ins C dx fs=> obtain⟨_,_,_,e,_⟩:=x;exact ao e
 |exn C fs=> obtain⟨_,_,_,e,_⟩:=x;exact ao e
 |exx C fs=> obtain⟨_,_,_,_,e,_⟩:=x;exact ao e
 |own y=> obtain⟨_,e⟩:=x;exact ao e
 |xd fs=> obtain⟨_,⟨_,_,_,e,_⟩,_⟩:=x;exact ao e
 |rng lo hi=> obtain⟨_,_,_,e⟩:=x;exact ao e
 |frz ob u=> obtain⟨e,_⟩:=x;exact ao e
 |tbl ps=> exact ao (show h.get? a=some _ from x)
 |met f y=> exact ao (show h.get? a=some _ from x)
 |ext φ=> obtain⟨_,⟨_,e⟩,_⟩:=x;exact ao e
theorem Paired.mapP{α β:Type}{F G:α -> β -> Prop}: ∀{l₁:List α} {l₂:List β},lV F l₁ l₂ -> (∀a b,F a b -> G a b) -> lV G l₁ l₂
 |_,_,.nil,_=>.nil
 |_,_,.cons r t,f=>.cons (f _ _ r) (Paired.mapP t f)
theorem j5.stay(x:j5 P w H h a o)(k: ∀b u,(b=a\/H b=some (.own a)) -> h.get? b=some u -> h'.get? b=some u)
  (ho: ∀b,H b=some (.own a) -> H' b=some (.own a)) (ht: ∀b xs,H b=some (.tup xs) -> H' b=some (.tup xs)):j5 P w H' h' a o:=by
 induction o with
 |lst xs=> obtain⟨z,its,n,r,e⟩:=x;exact⟨z,its,n,r,k _ _ (.inl rfl) e⟩
 |tup xs=> obtain⟨z,its,r,n,e⟩:=x;exact⟨z,its,r,n,k _ _ (.inl rfl) e⟩
 |dK kvs=> obtain⟨z,y,vs,r,ob,es,ep,e,c⟩:=x;exact⟨z,y,vs,r,ob,es,ep,k _ _ (.inl rfl) e,c⟩
 |dT kvs=>
  obtain⟨z,y,xs,r,ob,es,ep,e,c⟩:=x
  exact⟨z,y,xs,Paired.mapP r fun p q z=> ⟨z.1,ht _ _ z.2.1,z.2.2⟩,ob,es,ep,k _ _ (.inl rfl) e,c⟩
 |dD kvs=>
  obtain⟨z,y,xs,r,ob,es,ep,e,c⟩:=x
  exact⟨z,y,xs,Paired.mapP r fun p q z=> ⟨z.1,⟨z.2.1.1,z.2.1.2.mono ht⟩,z.2.2⟩,ob,es,ep,k _ _ (.inl rfl) e,c⟩
 |set S n=> obtain⟨ob,es,ep,t,e,c⟩:=x;exact⟨ob,es,ep,t,k _ _ (.inl rfl) e,c⟩
 |ins C dx fs=>
  obtain⟨d,z,ne,e,mA,⟨od,es,ep,e2,c⟩,r⟩:=x
  exact⟨ho _ d,z,ne,k _ _ (.inl rfl) e,mA,⟨od,es,ep,k _ _ (.inr d) e2,c⟩,r⟩
 |exn C fs=>
  obtain⟨z,t,dxo,e,q⟩:=x
  refine⟨z,t,dxo,k _ _ (.inl rfl) e,?_⟩
  rcases q with q|⟨dx,q,d,ne,mA,⟨od,es,ep,e2,c⟩,r⟩
  ·exact .inl q
  ·exact .inr ⟨dx,q,ho _ d,ne,mA,⟨od,es,ep,k _ _ (.inr d) e2,c⟩,r⟩
 |exx C fs=>
  obtain⟨z,t,tb,dxo,e,q⟩:=x
  refine⟨z,t,tb,dxo,k _ _ (.inl rfl) e,?_⟩
  rcases q with q|⟨dx,q,d,ne,mA,⟨od,es,ep,e2,c⟩,r⟩
  ·exact .inl q
  ·exact .inr ⟨dx,q,ho _ d,ne,mA,⟨od,es,ep,k _ _ (.inr d) e2,c⟩,r⟩
 |own y=> obtain⟨ob,e⟩:=x;exact⟨ob,k _ _ (.inl rfl) e⟩
 |xd fs=> obtain⟨mA,⟨od,es,ep,e,c⟩,r⟩:=x;exact⟨mA,⟨od,es,ep,k _ _ (.inl rfl) e,c⟩,r⟩
 |rng lo hi=> obtain⟨t,u,v,e⟩:=x;exact⟨t,u,v,k _ _ (.inl rfl) e⟩
 |frz ob u ih=> obtain⟨e,q⟩:=x;exact⟨k _ _ (.inl rfl) e,ih q⟩
 |tbl ps=>
  have e:h.get? a=some {cls:=.none,data:=.fields ps}:=x
  show h'.get? a=some {cls:=.none,data:=.fields ps}
  exact k a _ (.inl rfl) e
 |met f y=>
  have e:h.get? a=some (iN (.ref f) (.ref y)):=x
  show h'.get? a=some (iN (.ref f) (.ref y))
  exact k a _ (.inl rfl) e
 |ext φ=> obtain⟨p,⟨o,e⟩,st⟩:=x;exact⟨st _ _ p fun o q=> k _ _ (.inl rfl) q,⟨o,k _ _ (.inl rfl) e⟩,st⟩
theorem HOk.lt(x:HOk P w H h)(e:H a=some o):a < h.objs.size:=(x a o e).lt
theorem HOk.fresh(x:HOk P w H h)(e:h.objs.size <=a):H a=none:=by
 cases q:H a with
 |none=> rfl
 |some u=> exact absurd (aI (x.lt q) e) (cy _)
theorem HOk.kept(x:HOk P w H h)(k: ∀b u,h.get? b=some u -> h'.get? b=some u):HOk P w H h':=fun a o e=>
 (x a o e).stay (fun b u _ q=> k b u q) (fun _ q=> q) fun _ _ q=> q
theorem HOk.laid(x:HOk P w H h)(k: ∀b u,h.get? b=some u -> h'.get? b=some u)(hp:h.objs.size <=a)(new:j5 P w (upd H a o) h' a o):HOk P w (upd H a o) h':=fun b u e=> by
 have hn:=x.fresh hp
 by_cases hb:b=a
 ·subst hb;rw [yj]at e;cases e;exact new
 ·rw [kg hb]at e
  exact (x b u e).stay (fun c v _ q=> k c v q) (fun c q=> by rw [kg (xr q hn)];exact q) fun c xs q=> by rw [kg (xr q hn)];exact q
end
def Rd(H:Hp)(a:Addr)(u:HO):Prop:=H a=some u\/ ∃o,H a=some (.frz o u)
theorem Rd.ok{H:Hp}{u:HO}(r:Rd H a u)(x:HOk P w H h):j5 P w H h a u:=by
 rcases r with r|⟨o,r⟩
 ·exact x a u r
 ·obtain⟨_,q⟩:=x a _ r
  exact q
def Mut:Option HO -> Prop
 |some (.lst _)=> True
 |some (.dK _)=> True
 |some (.dT _)=> True
 |some (.dD _)=> True
 |some (.set _ _)=> True
 |some (.ins _ _ _)=> True
 |some (.ext _)=> True
 |some (.exx _ _)=> True
 |some (.exn _ _)=> True
 |_=> False
section
variable{P:aQ}{w:aU}{H:Hp}{h h':Heap}{x e:Addr}{o':HO}
theorem HOk.write(ok:HOk P w H h)(mu:Mut (H x))(he:e=x\/H e=some (.own x))(k: ∀b u,b≠e -> h.get? b=some u -> h'.get? b=some u)(heo: ∃u,h'.get? e=some u)
  (new:j5 P w (upd H x o') h' x o'):HOk P w (upd H x o') h':=fun b u q=> by
 have nown: ∀c y,H c=some (.own y) -> c≠x:=fun c y r z=> by subst z;rw [r]at mu;exact mu
 have ntup: ∀c xs,H c=some (.tup xs) -> c≠x:=fun c xs r z=> by subst z;rw [r]at mu;exact mu
 by_cases hb:b=x
 ·subst hb;rw [yj]at q;cases q;exact new
 ·rw [kg hb]at q
  by_cases hbe:b=e
  ·have q':H b=some (.own x):=by
    rcases he with z|z
    ·exact absurd (hbe.trans z) hb
    ·rw [hbe];exact z
   rw [q]at q';cases q'
   obtain⟨v,hv⟩:=heo
   exact⟨v,by rw [hbe];exact hv⟩
  ·refine (ok b u q).stay (fun c v hc r=> k c v ?_ r) (fun c r=> by rw [kg (nown c b r)];exact r) fun c xs r=> by rw [kg (ntup c xs r)];exact r
   rcases hc with rfl|hc
   ·exact hbe
   ·rintro rfl
    rcases he with z|z
    ·exact nown c b hc z
    ·rw [hc]at z;cases z;exact hb rfl
end
structure Un (fs ex:List Addr) (H H':Hp) (h h':Heap):Prop where
 keep: ∀b o,h.get? b=some o -> H b=none -> b∉fs -> b∉ex -> h'.get? b=some o
 slot: ∀b o,h.get? b=some o -> H b=none -> b∈fs -> b∉ex -> ∃sl,h'.get? b=some {o with slots:=sl}
 free: ∀b o,h.get? b=some o -> H b=none -> b∉ex -> H' b=none
 there: ∀b o,h.get? b=some o -> b∉ex -> ∃o',h'.get? b=some o'
 tups: ∀b xs,H b=some (.tup xs) -> H' b=some (.tup xs)
 frzs: ∀b o u,H b=some (.frz o u) -> H' b=some (.frz o u)
 tbls: ∀b ps,H b=some (.tbl ps) -> ∃more,H' b=some (.tbl (ps++more))
section
variable{fs fs' ex ex':List Addr}{H H1 H2:Hp}{h h1 h2 h':Heap}{a x e:Addr}{o:HO}
theorem Un.any(u:Un fs ex H H1 h h1){ob:Obj}(q:h.get? b=some ob)(n:H b=none)(hx:b∉ex): ∃sl,h1.get? b=some {ob with slots:=sl}:=by
 by_cases hb:b∈fs
 ·exact u.slot b ob q n hb hx
 ·exact⟨ob.slots,u.keep b ob q n hb hx⟩
theorem Un.kept(k: ∀b u,h.get? b=some u -> h'.get? b=some u):Un fs ex H H h h':=
 ⟨fun b ob q _ _ _=> k b ob q,fun b ob q _ _ _=> ⟨ob.slots,k b ob q⟩,fun _ _ _ n _=> n,fun b ob q _=> ⟨ob,k b ob q⟩,fun _ _ q=> q,fun _ _ _ q=> q,fun _ ps q=> ⟨#[],by rw [q];simp⟩⟩
theorem Un.refl:Un fs ex H H h h:=Un.kept fun _ _ q=> q
theorem Un.laid(k: ∀b u,h.get? b=some u -> h'.get? b=some u)(hp:h.objs.size <=a)(hn:H a=none):Un fs ex H (upd H a o) h h' where
 keep:=fun b u q _ _ _=> k b u q
 slot:=fun b u q _ _ _=> ⟨u.slots,k b u q⟩
 free:=fun b u q n _=> by rw [kg (aN (aI (ao q) hp))];exact n
 there:=fun b u q _=> ⟨u,k b u q⟩
 tups:=fun b xs q=> by rw [kg (xr q hn)];exact q
 frzs:=fun b u xs q=> by rw [kg (xr q hn)];exact q
 tbls:=fun b ps q=> ⟨#[],by rw [kg (xr q hn),q];simp⟩
theorem Un.write(mu:Mut (H x))(he:e=x\/H e=some (.own x))(k: ∀b u,b≠e -> h.get? b=some u -> h'.get? b=some u)(heo: ∃u,h'.get? e=some u):Un fs ex H (upd H x o) h h':=by
 have hx: ∀b,H b=none -> b≠x:=fun b n z=> by subst z;rw [n]at mu;exact mu
 have hb: ∀b,H b=none -> b≠e:=fun b n z=> by
  subst z
  rcases he with r|r
  ·exact hx b n r
  ·rw [n]at r;cases r
 have hm: ∀b u,H b=some u -> ¬Mut (some u) -> b≠x:=fun b u q nm z=> by subst z;rw [q]at mu;exact nm mu
 refine⟨fun b u q n _ _=> k b u (hb b n) q,fun b u q n _ _=> ⟨u.slots,k b u (hb b n) q⟩,fun b u q n _=> by rw [kg (hx b n)];exact n,fun b u q _=> ?_,
  fun b xs q=> by rw [kg (hm b _ q fun z=> z)];exact q,fun b u xs q=> by rw [kg (hm b _ q fun z=> z)];exact q,fun b ps q=> ⟨#[],by rw [kg (hm b _ q fun z=> z),q];simp⟩⟩
 by_cases hbe:b=e
 ·subst hbe;exact heo
 ·exact⟨u,k b u hbe q⟩
end
noncomputable def trk(h:Heap)(H:Hp):List Addr:=(gP h.objs.size).filter fun a=> (H a).isSome
def adw(h:Heap)(H:Hp):Heap:=PySem.W.hideAll h (trk h H)
theorem ar7(h:Heap)(H:Hp):(adw h H).objs.size=h.objs.size:=PySem.W.hideAll_size _ _
theorem aug{H:Hp}{o:Obj}(e:h.get? b=some o)(n:H b=none):(adw h H).get? b=some o:=
 PySem.W.hideAll_get _ e fun hm=> by
  have q:(H b).isSome=true:=(bw.mp hm).2
  rw [n]at q;simp at q
theorem a1f{H:Hp}{o:Obj}(e:(adw h H).get? b=some o):h.get? b=some o/\H b=none:=by
 have e':h.get? b=some o:=PySem.W.of_hideAll (trk h H) e
 refine⟨e',?_⟩
 cases q:H b with
 |none=> rfl
 |some x=>
  have hm:b∈trk h H:=bw.mpr ⟨List.mem_range.mpr (ao e'),by simp [q]⟩
  have z:(adw h H).get? b=none:=PySem.W.hideAll_none (trk h H) hm
  rw [z]at e;cases e
noncomputable def ayz(g h:Heap)(L:Addr):List (Addr×Obj):=(gP h.objs.size).filterMap fun a=> if a=L\/(g.get? a).isSome=true then none else (h.get? a).map fun o=> (a,o)
def rest(g h:Heap)(L d:Addr):List (Addr×Obj):=(ayz g h L).filter fun p=> decide (p.1≠d)
structure Mod (K:aj) (mg:Str -> Option af) (base:Heap):Prop where
 kin:K.In base
 glob:base.Ns aP mg
 blt: ∃mb,base.Ns builtinsNs mb/\ ∀x:Str,x≠"__name__" -> mb x=a9 x
 nolimit:base.NoLimit
structure Cx where
 prog:aQ
 w:aU
 K:aj
 mg:Str -> Option af
 base:Heap
 A:bf
 N:List Str
 s₀:ai
 H₀:Hp
 env:Env
 outer:List Env
 stack:List Env
 ex:List Addr
 fn:Str -> Bool
 calm:Bool
 pn:List (Addr×Obj)
 xe:af -> ai -> Prop
noncomputable def frs(l:List Env):List Addr:=l.filterMap (·.frame)
abbrev Cx.fs(X:Cx):List Addr:=frs X.outer
def Vis(sc:fZ)(x:Str):Prop:=sc.names.lookup x=some .local\/sc.names.lookup x=some .cell\/sc.names.lookup x=some .free
def Loc(sc:fZ)(x:Str):Prop:=sc.names.lookup x=some .local\/sc.names.lookup x=some .cell
def Look(env:Env)(h:Heap)(m:Str -> Option af)(x:Str)(u:af):Prop:=
 (env.kindOf x=some .local/\m x=some u)\/((env.kindOf x=some .cell\/env.kindOf x=some .free)/\ ∃c,env.cells.lookup x=some c/\h.IsCell c (some u))
structure Cx.Ok (X:Cx):Prop where
 mod:Mod X.K X.mg X.base
 kind:X.env.scope.kind=.function
 glob:X.env.globals=aP
 blt:X.env.builtins=builtinsNs
 above:X.s₀.heap.objs.size <=X.env.locals
 inj: ∀x y c,X.env.cells.lookup x=some c -> X.env.cells.lookup y=some c -> x=y
 has: ∀x,(X.env.kindOf x=some .cell\/X.env.kindOf x=some .free) -> ∃c,X.env.cells.lookup x=some c
 cab: ∀x c,X.fn x=true -> X.env.cells.lookup x=some c -> X.s₀.heap.objs.size <=c
 hd:X.calm=true -> X.A.handled=none
 frames:X.A.frames=some X.stack
 stk:X.stack=X.outer\/(X.stack=X.env::X.outer/\X.env.frame=some X.env.locals)
 exf: ∀b∈X.ex,b≠X.env.locals/\ ∀x c,X.env.cells.lookup x=some c -> c≠b
 bs: ∀b o,X.base.get? b=some o -> X.s₀.heap.get? b=some o/\X.H₀ b=none
 bsz:X.base.objs.size <=X.s₀.heap.objs.size
 noex: ∀b o,X.base.get? b=some o -> b∉X.ex
 exfs: ∀b∈X.ex,b∉X.fs
 funs:X.s₀.heap.FunFrames X.base X.outer
 frf: ∀b∈X.fs,X.H₀ b=none
structure Inv (X:Cx) (pins:List (Addr×Obj)) (σ:List (Option V)) (H:Hp) (s:ai):Prop where
 ok:X.Ok
 os:s.os=X.s₀.os
 bare:f6 s.gens
 base:Un X.fs X.ex X.H₀ H X.s₀.heap s.heap
 loc: ∃m,s.heap.Ns X.env.locals m/\ ∀(i:Nat) (x:Str) (v:V),X.N[i]?=some x -> σ[i]?=some (some v) -> Vis X.env.scope x -> ∃u,RelV v u/\Look X.env s.heap m x u
 cell: ∀x c,X.env.cells.lookup x=some c -> ∃v,s.heap.IsCell c v
 free:H X.env.locals=none
 freeC: ∀x c,X.env.cells.lookup x=some c -> H c=none
 pin: ∀p∈X.pn++pins,s.heap.get? p.1=some p.2/\H p.1=none/\p.1≠X.env.locals/\p.1∉X.fs/\ ∀v,p.2.data≠ .cell v
 hok:HOk X.prog X.w H s.heap
 len:σ.length=X.N.length
section
variable{X:Cx}{pins:List (Addr×Obj)}{σ:List (Option V)}{H H':Hp}{s:ai}{h':Heap}
theorem Cx.Ok.nofr(ok:X.Ok){o:Obj}(e:X.base.get? b=some o):b∉X.fs:=fun hb=> by
 have:=(ok.funs.mem hb).1
 rw [e]at this;cases this
theorem Inv.bs(I:Inv X pins σ H s): ∀b o,X.base.get? b=some o -> s.heap.get? b=some o/\H b=none:=fun b o e=>
 ⟨I.base.keep b o (I.ok.bs b o e).1 (I.ok.bs b o e).2 (I.ok.nofr e) (I.ok.noex b o e),I.base.free b o (I.ok.bs b o e).1 (I.ok.bs b o e).2 (I.ok.noex b o e)⟩
theorem Inv.bk(I:Inv X pins σ H s): ∀b o,X.base.get? b=some o -> s.heap.get? b=some o:=fun b o e=> (I.bs b o e).1
theorem Inv.mod(I:Inv X pins σ H s):Mod X.K X.mg X.base:=I.ok.mod
theorem Inv.kIn(I:Inv X pins σ H s):X.K.In s.heap:=I.ok.mod.kin.keeps I.bk
theorem Inv.lt(I:Inv X pins σ H s):X.env.locals < s.heap.objs.size:=let ⟨_,hn,_⟩:=I.loc;hn.lt
theorem Inv.sz(I:Inv X pins σ H s):X.s₀.heap.objs.size <=s.heap.objs.size:=ax I.ok.above (fN I.lt)
theorem Inv.nofs(I:Inv X pins σ H s)(h:s.heap.objs.size <=a):a∉X.fs:=fun hb=> by
 obtain⟨_,o,ho,_⟩:=I.ok.funs.mem hb
 exact absurd (aI (ao ho) (ax I.sz h)) (cy _)
theorem Inv.cne(I:Inv X pins σ H s): ∀x c,X.env.cells.lookup x=some c -> c≠X.env.locals:=fun x c e z=> by
 obtain⟨v,o,ho,hd⟩:=I.cell x c e
 obtain⟨m,⟨o',es,ep,ho',hd',_⟩,_⟩:=I.loc
 rw [z,ho']at ho;cases ho;rw [hd']at hd;cases hd
theorem Inv.funs(I:Inv X pins σ H s):s.heap.FunFrames X.base X.outer:=by
 have all: ∀(l:List Env),(∀b∈frs l,b∈X.fs) -> X.s₀.heap.FunFrames X.base l -> s.heap.FunFrames X.base l:=by
  intro l
  induction l with
  |nil=> intro _ _;trivial
  |cons env r ih=>
   intro hs hl
   obtain⟨hk,⟨L,o,hf,hn,ho,hd⟩,hr⟩:=hl
   have hL:L∈X.fs:=hs L (by unfold frs;rw [hZ,hf];exact aC)
   obtain⟨sl,e⟩:=I.base.slot L o ho (I.ok.frf L hL) hL fun z=> I.ok.exfs L z hL
   exact⟨hk,⟨L,_,hf,hn,e,hd⟩,ih (fun b hb=> hs b (by unfold frs;rw [hZ,hf];exact aB _ hb)) hr⟩
 exact all X.outer (fun _ hb=> hb) I.ok.funs
theorem Inv.stack(I:Inv X pins σ H s):s.heap.FunFrames X.base X.stack:=by
 rcases I.ok.stk with e|⟨e,hf⟩
 ·rw [e];exact I.funs
 ·rw [e]
  obtain⟨m,hn,_⟩:=I.loc
  refine .cons (by rw [I.ok.kind];decide) hf hn ?_ I.funs
  exact Heap.get?_none_of_le (ax I.ok.bsz I.ok.above)
theorem Inv.stkSub(I:Inv X pins σ H s): ∀b∈frs X.stack,b∈X.env.locals::X.fs:=fun b hb=> by
 rcases I.ok.stk with e|⟨e,hf⟩
 ·rw [e]at hb;exact aB _ hb
 ·rw [e]at hb
  unfold frs at hb
  rw [hZ,hf]at hb
  exact hb
theorem Inv.stkFree(I:Inv X pins σ H s): ∀b∈frs X.stack,H b=none:=fun b hb=> by
 rcases aw.mp (I.stkSub b hb) with e|hb
 ·rw [e];exact I.free
 ·obtain⟨_,o,ho,_⟩:=I.ok.funs.mem hb
  exact I.base.free b o ho (I.ok.frf b hb) fun z=> I.ok.exfs b z hb
theorem Inv.step{g':Array ib}{d':Drawn}(I:Inv X pins σ H s)(hch: ∀b∈ch,(b∈X.ex\/X.s₀.heap.objs.size <=b)/\b≠X.env.locals/\(∀x c,X.env.cells.lookup x=some c -> c≠b)/\ ∀p∈X.pn++pins,p.1≠b)(keep: ∀b o,b≠X.env.locals -> b∉X.fs -> b∉ch -> s.heap.get? b=some o -> H b=none -> h'.get? b=some o)(slot: ∀b o,b≠X.env.locals -> b∈X.fs -> b∉ch -> s.heap.get? b=some o -> H b=none -> ∃sl,h'.get? b=some {o with slots:=sl})(free: ∀b o,b∉ch -> s.heap.get? b=some o -> H b=none -> H' b=none)(there: ∀b o,b∉ch -> s.heap.get? b=some o -> ∃o',h'.get? b=some o')(tups: ∀b xs,H b=some (.tup xs) -> H' b=some (.tup xs))(frzs: ∀b o u,H b=some (.frz o u) -> H' b=some (.frz o u))(tbls: ∀b ps,H b=some (.tbl ps) -> ∃more,H' b=some (.tbl (ps++more)))(ns: ∀m,s.heap.Ns X.env.locals m -> h'.Ns X.env.locals m)(hok:HOk X.prog X.w H' h')(hg:f6 g'):
  Inv X pins σ H' {s with heap:=h',gens:=g',drawn:=d',toks:=t'}:=by
 have neL: ∀b o,X.s₀.heap.get? b=some o -> b≠X.env.locals:=fun b o e=> aN (aI (ao e) I.ok.above)
 have neC: ∀b o,X.s₀.heap.get? b=some o -> b∉X.ex -> b∉ch:=fun b o e hx hb=> by
  rcases (hch b hb).1 with z|z
  ·exact hx z
  ·exact absurd (aI (ao e) z) (cy _)
 have cellK: ∀x c,X.env.cells.lookup x=some c -> ∀v,s.heap.IsCell c v -> h'.IsCell c v:=fun x c e v ⟨o,ho,hd⟩=> by
  have nch:c∉ch:=fun z=> (hch c z).2.2.1 x c e rfl
  by_cases hc:c∈X.fs
  ·obtain⟨sl,q⟩:=slot c o (I.cne x c e) hc nch ho (I.freeC x c e)
   exact⟨_,q,hd⟩
  ·exact⟨o,keep c o (I.cne x c e) hc nch ho (I.freeC x c e),hd⟩
 refine⟨I.ok,I.os,hg,⟨fun b o e n hb hx=> ?_,fun b o e n hb hx=> ?_,fun b o e n hx=> ?_,fun b o e hx=> ?_,fun b xs e=> tups b xs (I.base.tups b xs e),fun b o xs e=> frzs b o xs (I.base.frzs b o xs e),fun b ps e=> ?_⟩,?_,fun x c e=> ?_,?_,fun x c e=> ?_,fun p hp=> ?_,hok,I.len⟩
 ·exact keep b o (neL b o e) hb (neC b o e hx) (I.base.keep b o e n hb hx) (I.base.free b o e n hx)
 ·obtain⟨sl,e1⟩:=I.base.slot b o e n hb hx
  obtain⟨sl',e2⟩:=slot b _ (neL b o e) hb (neC b o e hx) e1 (I.base.free b o e n hx)
  exact⟨sl',e2⟩
 ·obtain⟨o',e1⟩:=I.base.there b o e hx
  exact free b o' (neC b o e hx) e1 (I.base.free b o e n hx)
 ·obtain⟨o',e1⟩:=I.base.there b o e hx
  exact there b o' (neC b o e hx) e1
 ·obtain⟨m1,e1⟩:=I.base.tbls b ps e
  obtain⟨m2,e2⟩:=tbls b _ e1
  exact⟨m1++m2,by rw [e2,Array.append_assoc]⟩
 ·obtain⟨m,hn,hl⟩:=I.loc
  refine⟨m,ns m hn,fun i x v e1 e2 e3=> ?_⟩
  obtain⟨u,r,l⟩:=hl i x v e1 e2 e3
  refine⟨u,r,?_⟩
  rcases l with l|⟨k,c,e,z⟩
  ·exact .inl l
  ·exact .inr ⟨k,c,e,cellK x c e _ z⟩
 ·obtain⟨v,z⟩:=I.cell x c e
  exact⟨v,cellK x c e v z⟩
 ·obtain⟨m,⟨o,_,_,ho,_⟩,_⟩:=I.loc
  exact free _ o (fun z=> (hch _ z).2.1 rfl) ho I.free
 ·obtain⟨v,o,ho,hd⟩:=I.cell x c e
  exact free c o (fun z=> (hch c z).2.2.1 x c e rfl) ho (I.freeC x c e)
 ·obtain⟨e,n,ne,nf,d⟩:=I.pin p hp
  have nch:p.1∉ch:=fun z=> (hch p.1 z).2.2.2 p hp rfl
  exact⟨keep p.1 p.2 ne nf nch e n,free p.1 p.2 nch e n,ne,nf,d⟩
theorem Inv.un(I:Inv X pins σ H s)(u:Un X.fs [] H H' s.heap h')(hok:HOk X.prog X.w H' h'):Inv X pins σ H' {s with heap:=h',toks:=t'}:=by
 obtain⟨m,⟨o,es,ep,ho,r⟩,_⟩:=id I.loc
 obtain⟨sl,hL⟩:=u.any ho I.free (by simp)
 exact I.step (g':=s.gens) (d':=s.drawn) (ch:=[]) (fun _ z=> nomatch z) (fun b o _ hb _ e n=> u.keep b o e n hb (by simp)) (fun b o _ hb _ e n=> u.slot b o e n hb (by simp)) (fun b o _ e n=> u.free b o e n (by simp)) (fun b o _ e=> u.there b o e (by simp)) u.tups u.frzs u.tbls (fun m' hm=> by
  obtain⟨o',es',ep',ho',r'⟩:=hm
  rw [ho]at ho';cases ho'
  exact⟨_,es',ep',hL,r'⟩) hok I.bare
theorem Inv.call{g':Array ib}{d':Drawn}(I:Inv X pins σ H s)(u:Un (frs X.stack) ch H H' s.heap h')(hok:HOk X.prog X.w H' h')(hg:f6 g')(hch: ∀b∈ch,(b∈X.ex\/X.s₀.heap.objs.size <=b)/\b≠X.env.locals/\(∀x c,X.env.cells.lookup x=some c -> c≠b)/\ ∀p∈X.pn++pins,p.1≠b):
  Inv X pins σ H' {s with heap:=h',gens:=g',drawn:=d',toks:=t'}:=by
 obtain⟨m,⟨o,es,ep,ho,r⟩,_⟩:=id I.loc
 obtain⟨sl,hL⟩:=u.any ho I.free fun z=> (hch _ z).2.1 rfl
 exact I.step (ch:=ch) hch (fun b o hL hb hc e n=> u.keep b o e n (fun z=> (aw.mp (I.stkSub b z)).elim hL hb) hc) (fun b o _ _ hc e n=> u.any e n hc) (fun b o hc e n=> u.free b o e n hc) (fun b o hc e=> u.there b o e hc) u.tups u.frzs u.tbls (fun m' hm=> by
  obtain⟨o',es',ep',ho',r'⟩:=hm
  rw [ho]at ho';cases ho'
  exact⟨_,es',ep',hL,r'⟩) hok hg
theorem Inv.turned{it:Addr}(I:Inv X pins σ H s)(k: ∀b o,b≠it -> s.heap.get? b=some o -> h'.get? b=some o)(hn:H it=none)(hL:it≠X.env.locals)(h1:it∈X.ex\/X.s₀.heap.objs.size <=it)(h2: ∀x c,X.env.cells.lookup x=some c -> c≠it)(h3: ∀p∈X.pn++pins,p.1≠it):Inv X pins σ H {s with heap:=h',toks:=t'}:=by
 have nit: ∀b u,H b=some u -> b≠it:=fun b u e z=> by rw [z,hn]at e;cases e
 refine I.step (g':=s.gens) (d':=s.drawn) (ch:=[it]) (fun b hb=> ?_) (fun b o _ _ hc e _=> k b o (fun z=> hc (by simp [z])) e) (fun b o _ _ hc e _=> ⟨o.slots,k b o (fun z=> hc (by simp [z])) e⟩) (fun _ _ _ _ n=> n)
  (fun b o hc e=> ⟨o,k b o (fun z=> hc (by simp [z])) e⟩) (fun _ _ e=> e) (fun _ _ _ e=> e) (fun b ps e=> ⟨#[],by rw [e];simp⟩) (fun m hm=> ?_) (fun b u e=> ?_) I.bare
 ·have e:b=it:=by simpa using hb
  subst e
  exact⟨h1,hL,h2,h3⟩
 ·obtain⟨o,es,ep,ho,r⟩:=hm
  exact⟨o,es,ep,k _ o (cI hL) ho,r⟩
 ·refine (I.hok b u e).stay (fun c v hc q=> k c v ?_ q) (fun _ q=> q) fun _ _ q=> q
  rcases hc with z|z
  ·rw [z];exact nit b u e
  ·exact nit c _ z
theorem Inv.tok(I:Inv X pins σ H s)(t:Nat):Inv X pins σ H {s with toks:=t}:=I.un (h':=s.heap) (t':=t) Un.refl I.hok
theorem Inv.kept(I:Inv X pins σ H s)(k: ∀b u,s.heap.get? b=some u -> h'.get? b=some u):Inv X pins σ H {s with heap:=h',toks:=t'}:=I.un (Un.kept k) (I.hok.kept k)
theorem Inv.laid{o:HO}(I:Inv X pins σ H s)(k: ∀b u,s.heap.get? b=some u -> h'.get? b=some u)(hp:s.heap.objs.size <=a)(new:j5 X.prog X.w (upd H a o) h' a o):
  Inv X pins σ (upd H a o) {s with heap:=h',toks:=t'}:=I.un (Un.laid k hp (I.hok.fresh hp)) (I.hok.laid k hp new)
theorem Inv.write{x e:Addr}{o:HO}(I:Inv X pins σ H s)(mu:Mut (H x))(he:e=x\/H e=some (.own x))(k: ∀b u,b≠e -> s.heap.get? b=some u -> h'.get? b=some u)(heo: ∃u,h'.get? e=some u)(new:j5 X.prog X.w (upd H x o) h' x o):Inv X pins σ (upd H x o) {s with heap:=h',toks:=t'}:=I.un (Un.write mu he k heo) (I.hok.write mu he k heo new)
theorem Inv.pins_of{pins':List (Addr×Obj)}(I:Inv X pins σ H s)(h: ∀p∈pins',s.heap.get? p.1=some p.2/\H p.1=none/\p.1≠X.env.locals/\p.1∉X.fs/\ ∀v,p.2.data≠ .cell v):Inv X pins' σ H s:=
 ⟨I.ok,I.os,I.bare,I.base,I.loc,I.cell,I.free,I.freeC,fun p hp=> (bq.mp hp).elim (fun z=> I.pin p (ff _ z)) (h p),I.hok,I.len⟩
theorem agm{N:List Str}(hN:N.Nodup){j:Nat}{x:Str}(a:N[i]?=some x)(b:N[j]?=some x):i=j:=by
 obtain⟨h1,e1⟩:=aA.mp a
 obtain⟨h2,e2⟩:=aA.mp b
 exact (List.getElem_inj hN).mp (e1.trans e2.symm)
theorem akf{x:Str}{v:V}(I:Inv X pins σ H s)(hN:X.N.Nodup)(hi:X.N[i]?=some x)(hx:Loc X.env.scope x)(r:RelV v u)(h: ∀s',Inv X pins (σ.set i (some v)) H s' -> (∃a,bz a s.heap s'.heap/\(a=X.env.locals\/X.env.cells.lookup x=some a)) -> Q () s')(hf:X.fn x=true\/X.env.scope.names.lookup x=some .local:=by first|exact .inl rfl|exact .inr rfl|assumption):wpAny M A (storeName X.env x u) Q E s:=by
 obtain⟨m,hn,hl⟩:=id I.loc
 have hcls:(X.env.scope.kind==.class||(X.env.scope.kind==.module&&X.env.locals !=X.env.globals))=false:=by rw [I.ok.kind];rfl
 have hiσ:i < σ.length:=by rw [I.len];exact (aA.mp hi).1
 have cne:=I.cne
 have tracked: ∀{a:Addr} {h':Heap},(∃o,s.heap.get? a=some o/\H a=none) -> bz a s.heap h' -> HOk X.prog X.w H h':=fun {a h'} ha hs b ob e=> by
  obtain⟨_,_,hfree⟩:=ha
  refine (I.hok b ob e).stay (fun c w' hc q=> (hs.2 c ?_).trans q) (fun _ q=> q) fun _ _ q=> q
  rintro rfl
  rcases hc with rfl|hc
  ·rw [hfree]at e;cases e
  ·rw [hfree]at hc;cases hc
 rcases hx with hk|hk
 ·refine wpAny_storeName_local hk hn (fun h' hn' hs=> ?_) hcls
  obtain⟨oL,_,_,hoL,_⟩:=id hn
  refine h _ ⟨I.ok,I.os,I.bare,⟨fun b o e n hb hx=> ?_,fun b o e n hb hx=> ?_,I.base.free,fun b o e hx=> ?_,I.base.tups,I.base.frzs,I.base.tbls⟩,⟨_,hn',fun j y v' e1 e2 e3=> ?_⟩,fun y c e=> ?_,I.free,I.freeC,fun p hp=> ?_,tracked ⟨oL,hoL,I.free⟩ hs,by simpa using I.len⟩ ⟨_,hs,.inl rfl⟩
  ·exact (hs.2 b (aN (aI (ao e) I.ok.above))).trans (I.base.keep b o e n hb hx)
  ·obtain⟨sl,e1⟩:=I.base.slot b o e n hb hx
   exact⟨sl,(hs.2 b (aN (aI (ao e) I.ok.above))).trans e1⟩
  ·obtain⟨o',e1⟩:=I.base.there b o e hx
   exact⟨o',(hs.2 b (aN (aI (ao e) I.ok.above))).trans e1⟩
  ·by_cases hj:j=i
   ·subst hj
    rw [hi]at e1;cases e1
    rw [bh hiσ]at e2
    cases e2
    exact⟨u,r,.inl ⟨hk,by simp⟩⟩
   ·rw [aS (cI hj)]at e2
    obtain⟨u',r',q⟩:=hl j y v' e1 e2 e3
    refine⟨u',r',?_⟩
    rcases q with ⟨k,e⟩|⟨k,c,e,z⟩
    ·refine .inl ⟨k,?_⟩
     have:y≠x:=fun e=> hj (agm hN e1 (e▸hi))
     simp [this,e]
    ·exact .inr ⟨k,c,e,z.sameBut hs (cne y c e)⟩
  ·obtain⟨w',z⟩:=I.cell y c e
   exact⟨w',z.sameBut hs (cne y c e)⟩
  ·obtain⟨e,n,ne,nf,d⟩:=I.pin p hp
   exact⟨(hs.2 p.1 ne).trans e,n,ne,nf,d⟩
 ·have hfn:X.fn x=true:=by
   rcases hf with z|z
   ·exact z
   ·rw [z]at hk;cases hk
  obtain⟨c,hc⟩:=I.ok.has x (.inl hk)
  obtain⟨w',z⟩:=I.cell x c hc
  refine wpAny_storeName_cell I.ok.kind hk hc z (fun h' hc' hs=> ?_)
  obtain⟨oc,hoc,hocd⟩:=id z
  refine h {s with heap:=h'} ⟨I.ok,I.os,I.bare,⟨fun b o e n hb hx=> ?_,fun b o e n hb hx=> ?_,I.base.free,fun b o e hx=> ?_,I.base.tups,I.base.frzs,I.base.tbls⟩,⟨m,hn.sameBut hs (cI (cne x c hc)),fun j y v' e1 e2 e3=> ?_⟩,fun y c' e=> ?_,I.free,I.freeC,fun p hp=> ?_,tracked ⟨oc,hoc,I.freeC x c hc⟩ hs,by simpa using I.len⟩ ⟨c,hs,.inr hc⟩
  ·exact (hs.2 b (aN (aI (ao e) (I.ok.cab x c hfn hc)))).trans (I.base.keep b o e n hb hx)
  ·obtain⟨sl,e1⟩:=I.base.slot b o e n hb hx
   exact⟨sl,(hs.2 b (aN (aI (ao e) (I.ok.cab x c hfn hc)))).trans e1⟩
  ·obtain⟨o',e1⟩:=I.base.there b o e hx
   exact⟨o',(hs.2 b (aN (aI (ao e) (I.ok.cab x c hfn hc)))).trans e1⟩
  ·by_cases hj:j=i
   ·subst hj
    rw [hi]at e1;cases e1
    rw [bh hiσ]at e2
    cases e2
    exact⟨u,r,.inr ⟨.inl hk,c,hc,hc'⟩⟩
   ·rw [aS (cI hj)]at e2
    obtain⟨u',r',q⟩:=hl j y v' e1 e2 e3
    refine⟨u',r',?_⟩
    rcases q with q|⟨k,c',e,z'⟩
    ·exact .inl q
    ·refine .inr ⟨k,c',e,z'.sameBut hs ?_⟩
     rintro rfl
     exact hj (agm hN e1 (I.ok.inj _ _ _ e hc▸hi))
  ·by_cases hcc:c'=c
   ·subst hcc;exact⟨_,hc'⟩
   ·obtain⟨w2,z2⟩:=I.cell y c' e
    exact⟨w2,z2.sameBut hs hcc⟩
  ·obtain⟨e,n,ne,nf,d⟩:=I.pin p hp
   refine⟨(hs.2 p.1 ?_).trans e,n,ne,nf,d⟩
   intro q
   rw [q,hoc]at e
   have q':oc=p.2:=bP e
   exact d w' (by rw [←q'];exact hocd)
theorem abr{x:Str}{v:V}(I:Inv X pins σ H s)(hN:X.N.Nodup)(hi:X.N[i]?=some x)(hx:Loc X.env.scope x)(r:RelV v u)(h: ∀s',Inv X pins (σ.set i (some v)) H s' -> Q () s')(hf:X.fn x=true\/X.env.scope.names.lookup x=some .local:=by first|exact .inl rfl|exact .inr rfl|assumption):wpAny M A (storeName X.env x u) Q E s:=
 akf I hN hi hx r (fun s' I' _=> h s' I') hf
theorem Inv.call'{s':ai}(I:Inv X pins σ H s)(ho:s'.os=s.os)(u:Un (frs X.stack) ch H H' s.heap s'.heap)(hok:HOk X.prog X.w H' s'.heap)(hg:f6 s'.gens)(hch: ∀b∈ch,(b∈X.ex\/X.s₀.heap.objs.size <=b)/\b≠X.env.locals/\(∀x c,X.env.cells.lookup x=some c -> c≠b)/\ ∀p∈X.pn++pins,p.1≠b):Inv X pins σ H' s':=by
 obtain⟨h',g',d',t',o'⟩:=s'
 have e:o'=s.os:=ho
 subst e
 exact I.call (g':=g') (t':=t') (d':=d') u hok hg hch
end
abbrev XK:=af -> Option Addr -> Hp -> Prop
abbrev St:=List (Option V)
abbrev SK:=St -> XK
abbrev VK:=V -> Hp -> Prop
abbrev TE:=St -> Hp -> VK -> Prop
abbrev TT:=St -> Hp -> (Bool -> Hp -> Prop) -> Prop
abbrev TA:=St -> Hp -> (List V -> Hp -> Prop) -> Prop
structure Ends where
 nx:St -> Hp -> Prop
 rt:VK
 bk:St -> Hp -> Prop:=fun _ _=> False
 ct:St -> Hp -> Prop:=fun _ _=> False
abbrev TS:=Ends -> St -> Hp -> Prop
def EP(X:Cx)(pins:List (Addr×Obj))(σ:St)(Q:VK)(u:af)(s':ai):Prop:= ∃v H',Inv X pins σ H' s'/\RelV v u/\Q v H'
def TP(X:Cx)(pins:List (Addr×Obj))(σ:St)(Q:Bool -> Hp -> Prop)(b:Bool)(s':ai):Prop:= ∃H',Inv X pins σ H' s'/\Q b H'
def AP(X:Cx)(pins:List (Addr×Obj))(σ:St)(Q:List V -> Hp -> Prop)(us:List af)(s':ai):Prop:= ∃vs H',Inv X pins σ H' s'/\jo vs us/\Q vs H'
def SP(X:Cx)(pins:List (Addr×Obj))(D:Ends)(f:Flow)(s':ai):Prop:=
 match f with
 |.next=> ∃σ' H',Inv X pins σ' H' s'/\D.nx σ' H'
 |.brk=> ∃σ' H',Inv X pins σ' H' s'/\D.bk σ' H'
 |.cont=> ∃σ' H',Inv X pins σ' H' s'/\D.ct σ' H'
 |.ret u=> ∃v σ' H',Inv X pins σ' H' s'/\RelV v u/\D.rt v H'
structure PE (X:Cx) (e:Expr) (t:TE):Prop where
 run: ∀(pins:List (Addr×Obj)) (s:ai) (σ:St) (H:Hp) (Q:VK),Inv X pins σ H s -> t σ H Q -> wpAny (model X.prog X.w) X.A (eval e X.env) (EP X pins σ Q) X.xe s
instance {X:Cx} {e:Expr} {t:TE}:CoeFun (PE X e t) fun _=> ∀(pins:List (Addr×Obj)) (s:ai) (σ:St) (H:Hp) (Q:VK),Inv X pins σ H s -> t σ H Q -> wpAny (model X.prog X.w) X.A (eval e X.env) (EP X pins σ Q) X.xe s:=⟨PE.run⟩
structure PT (X:Cx) (e:Expr) (t:TT):Prop where
 run: ∀(pins:List (Addr×Obj)) (s:ai) (σ:St) (H:Hp) (Q:Bool -> Hp -> Prop),Inv X pins σ H s -> t σ H Q -> wpAny (model X.prog X.w) X.A (isTrue e X.env (eval e X.env)) (TP X pins σ Q) X.xe s
instance {X:Cx} {e:Expr} {t:TT}:CoeFun (PT X e t) fun _=> ∀(pins:List (Addr×Obj)) (s:ai) (σ:St) (H:Hp) (Q:Bool -> Hp -> Prop),Inv X pins σ H s -> t σ H Q -> wpAny (model X.prog X.w) X.A (isTrue e X.env (eval e X.env)) (TP X pins σ Q) X.xe s:=⟨PT.run⟩
structure PW (X:Cx) (e:Expr) (t:TT):Prop where
 run: ∀(whole:Sem af) (pins:List (Addr×Obj)) (s:ai) (σ:St) (H:Hp) (Q:Bool -> Hp -> Prop),Inv X pins σ H s -> t σ H Q -> wpAny (model X.prog X.w) X.A (isTrue e X.env whole) (TP X pins σ Q) X.xe s
instance {X:Cx} {e:Expr} {t:TT}:CoeFun (PW X e t) fun _=> ∀(whole:Sem af) (pins:List (Addr×Obj)) (s:ai) (σ:St) (H:Hp) (Q:Bool -> Hp -> Prop),Inv X pins σ H s -> t σ H Q -> wpAny (model X.prog X.w) X.A (isTrue e X.env whole) (TP X pins σ Q) X.xe s:=⟨PW.run⟩
theorem PW.pt{X:Cx}{t:TT}(h:PW X e t):PT X e t:=⟨h _⟩
structure PA (X:Cx) (es:List Expr) (t:TA):Prop where
 run: ∀(pos:Pos) (pins:List (Addr×Obj)) (s:ai) (σ:St) (H:Hp) (Q:List V -> Hp -> Prop),Inv X pins σ H s -> t σ H Q -> wpAny (model X.prog X.w) X.A (spliced (backTo pos (starEach es X.env))) (AP X pins σ Q) X.xe s
instance {X:Cx} {es:List Expr} {t:TA}:CoeFun (PA X es t) fun _=> ∀(pos:Pos) (pins:List (Addr×Obj)) (s:ai) (σ:St) (H:Hp) (Q:List V -> Hp -> Prop),Inv X pins σ H s -> t σ H Q -> wpAny (model X.prog X.w) X.A (spliced (backTo pos (starEach es X.env))) (AP X pins σ Q) X.xe s:=⟨PA.run⟩
structure PS (X:Cx) (st:Stmt) (t:TS):Prop where
 run: ∀(pins:List (Addr×Obj)) (s:ai) (σ:St) (H:Hp) (D:Ends),Inv X pins σ H s -> t D σ H -> wpAny (model X.prog X.w) X.A (exec st X.env) (SP X pins D) X.xe s
instance {X:Cx} {st:Stmt} {t:TS}:CoeFun (PS X st t) fun _=> ∀(pins:List (Addr×Obj)) (s:ai) (σ:St) (H:Hp) (D:Ends),Inv X pins σ H s -> t D σ H -> wpAny (model X.prog X.w) X.A (exec st X.env) (SP X pins D) X.xe s:=⟨PS.run⟩
structure PSs (X:Cx) (st:List Stmt) (t:TS):Prop where
 run: ∀(pins:List (Addr×Obj)) (s:ai) (σ:St) (H:Hp) (D:Ends),Inv X pins σ H s -> t D σ H -> wpAny (model X.prog X.w) X.A (execs st X.env) (SP X pins D) X.xe s
instance {X:Cx} {st:List Stmt} {t:TS}:CoeFun (PSs X st t) fun _=> ∀(pins:List (Addr×Obj)) (s:ai) (σ:St) (H:Hp) (D:Ends),Inv X pins σ H s -> t D σ H -> wpAny (model X.prog X.w) X.A (execs st X.env) (SP X pins D) X.xe s:=⟨PSs.run⟩
theorem thn{α:Type}{t:Sem α}{Q Q':α -> ai -> Prop}(h:wpAny M A t Q E s)(hQ: ∀a s,Q a s -> Q' a s):wpAny M A t Q' E s:=cc h hQ fun _ _ x=> x
section
variable{X:Cx}
noncomputable def auq(i:Nat):TE:=fun σ H Q=> ∃v,σ[i]?=some (some v)/\Q v H
noncomputable def tC(v:V):TE:=fun _ H Q=> Q v H
theorem atd{x:Str}(hN:X.N[i]?=some x)(hv:Vis X.env.scope x)(hd:(x==("__debug__":Str))=false:=by decide)(hcd:(x==("__classdict__":Str))=false:=by decide):PE X (.Name x pos) (auq i):=by
 (first|refine⟨?_⟩|skip);intro pins s σ H Q I h
 obtain⟨v,e,h⟩:=h
 obtain⟨m,hn,hl⟩:=I.loc
 obtain⟨u,r,l⟩:=hl i x v hN e hv
 have fin:EP X pins σ Q u s:=⟨v,H,I,r,h⟩
 rcases l with ⟨hk,hm⟩|⟨hk,c,hc,hcell⟩
 ·exact wpAny_Name (lp I.ok.kind hk hn hm fin) hd
 ·rcases hk with hk|hk
  ·exact wpAny_Name (lJ I.ok.kind hk hc hcell fin) hd
  ·exact wpAny_Name (wpAny_loadName_free I.ok.kind hk hc hcell fin hcd) hd
theorem asy{i j pos}:PE X (.Constant (.int i) j pos) (tC (.int i)):=.mk <|fun _ _ _ H _ I h=> wpAny_Constant_int ⟨.int i,H,I.tok _,⟨_,rfl⟩,h⟩
theorem axs{b j pos}:PE X (.Constant (.bool b) j pos) (tC (.bl b)):=.mk <|fun _ _ _ H _ I h=> Constant_bool ⟨.bl b,H,I,rfl,h⟩
theorem as9{j pos}:PE X (.Constant .none j pos) (tC .non):=.mk <|fun _ _ _ H _ I h=> Constant_none ⟨.non,H,I,rfl,h⟩
theorem atp{x j pos}:PE X (.Constant (.str x) j pos) (tC (.str x)):=.mk <|fun _ _ _ H _ I h=> Calls.Constant_str ⟨.str x,H,I.tok _,⟨_,rfl⟩,h⟩
def Gl(X:Cx)(x:Str):Prop:=X.env.kindOf x=some .globalImplicit
theorem ad6{σ:St}{H:Hp}{x:Str}{Q:af -> ai -> Prop}(I:Inv X pins σ H s)(hg:Gl X x)(hm:X.mg x=some u)(h:Q u s)(hd:(x==("__debug__":Str))=false:=by decide):wpAny (model X.prog X.w) X.A (eval (.Name x pos) X.env) Q E s:=
 iG I.ok.kind hg (Calls.loadGlobal_global (by rw [I.ok.glob];exact I.mod.glob.keeps I.bk) hm h) hd
theorem abq{σ:St}{H:Hp}{x:Str}{Q:af -> ai -> Prop}(I:Inv X pins σ H s)(hg:Gl X x)(hm:X.mg x=none)(hv:a9 x=some u)(h:Q u s)(hn:x≠"__name__":=by decide)(hd:(x==("__debug__":Str))=false:=by decide):wpAny (model X.prog X.w) X.A (eval (.Name x pos) X.env) Q E s:=by
 obtain⟨mb,h1,h2⟩:=I.mod.blt
 exact iG I.ok.kind hg (Calls.loadGlobal_builtin (by rw [I.ok.glob];exact I.mod.glob.keeps I.bk) hm (by rw [I.ok.blt];exact h1.keeps I.bk) ((h2 x hn).trans hv) h) hd
theorem ap9{x:Str}{v:V}(hg:Gl X x)(hm:X.mg x=some u)(r:RelV v u)(hd:(x==("__debug__":Str))=false:=by decide):PE X (.Name x pos) (tC v):=
 .mk <|fun _ _ _ H _ I h=> ad6 I hg hm ⟨v,H,I,r,h⟩ hd
theorem azq{x:Str}{v:V}(hg:Gl X x)(hm:X.mg x=none)(hv:a9 x=some u)(r:RelV v u)(hn:x≠"__name__":=by decide)(hd:(x==("__debug__":Str))=false:=by decide):PE X (.Name x pos) (tC v):=
 .mk <|fun _ _ _ H _ I h=> abq I hg hm hv ⟨v,H,I,r,h⟩ hn hd
variable{a b:Expr}{ta tb:TE}{pos:Pos}
variable{tA tB':TT}{rest:List Expr}
noncomputable def a1s(t u:TT):TT:=fun σ H Q=> t σ H fun c H1=> if c=true then u σ H1 Q else Q false H1
noncomputable def tOr(t u:TT):TT:=fun σ H Q=> t σ H fun c H1=> if c=true then Q true H1 else u σ H1 Q
noncomputable def a3h(t:TT):TT:=fun σ H Q=> t σ H fun c H1=> Q (!c) H1
theorem azg(ha:PT X a tA):PW X (.BoolOp .And [a] pos) tA:=by
 (first|refine⟨?_⟩|skip);intro wh pins s σ H Q I h
 refine isTrue_and (thn (ha pins s σ H Q I h) fun c s1 e=> ?_)
 cases c with
 |true=> exact isTrue_and_nil e
 |false=> exact e
theorem a3j(ha:PT X a tA):PW X (.BoolOp .Or [a] pos) tA:=by
 (first|refine⟨?_⟩|skip);intro wh pins s σ H Q I h
 refine isTrue_or (thn (ha pins s σ H Q I h) fun c s1 e=> ?_)
 cases c with
 |false=> exact isTrue_or_nil e
 |true=> exact e
theorem a5e(ha:PT X a tA)(hb:PW X (.BoolOp .And (b::rest) pos) tB'):PW X (.BoolOp .And (a::b::rest) pos) (a1s tA tB'):=by
 (first|refine⟨?_⟩|skip);intro wh pins s σ H Q I h
 refine isTrue_and (thn (ha pins s σ H _ I h) fun c s1 ⟨H1,I1,q1⟩=> ?_)
 cases c with
 |true=> exact hb wh pins s1 σ H1 Q I1 q1
 |false=> exact⟨H1,I1,q1⟩
theorem a5t(ha:PT X a tA)(hb:PW X (.BoolOp .Or (b::rest) pos) tB'):PW X (.BoolOp .Or (a::b::rest) pos) (tOr tA tB'):=by
 (first|refine⟨?_⟩|skip);intro wh pins s σ H Q I h
 refine isTrue_or (thn (ha pins s σ H _ I h) fun c s1 ⟨H1,I1,q1⟩=> ?_)
 cases c with
 |true=> exact⟨H1,I1,q1⟩
 |false=> exact hb wh pins s1 σ H1 Q I1 q1
theorem a1x(ha:PT X a tA):PT X (.UnaryOp .Not a pos) (a3h tA):=by
 (first|refine⟨?_⟩|skip);intro pins s σ H Q I h
 exact isTrue_not (ha pins s σ H (fun c H1=> Q (!c) H1) I h)
noncomputable def a6t(ta tb:TE):TE:=fun σ H Q=> ta σ H fun x H1=> ∃c,x=.bl c/\if c=true then tb σ H1 Q else Q (.bl false) H1
noncomputable def a8c(ta tb:TE):TE:=fun σ H Q=> ta σ H fun x H1=> ∃c,x=.bl c/\if c=true then Q (.bl true) H1 else tb σ H1 Q
noncomputable def a5s(ta:TE):TE:=fun σ H Q=> ta σ H fun x H1=> ∃c,x=.bl c/\Q (.bl (!c)) H1
theorem a1t{op}{t:TE}(h:PE X a t):PE X (.BoolOp op [a] pos) t:=.mk <|fun pins s σ H Q I hw=> BoolOp_one (h pins s σ H Q I hw)
theorem a2n(ha:PE X a ta)(hb:PE X (.BoolOp .And (b::rest) pos) tb):PE X (.BoolOp .And (a::b::rest) pos) (a6t ta tb):=by
 (first|refine⟨?_⟩|skip);intro pins s σ H Q I h
 refine BoolOp_and (thn (ha pins s σ H _ I h) fun v s1 ⟨x,H1,I1,r1,q1⟩=> ?_)
 obtain⟨c,rfl,q1⟩:=q1
 cases r1
 refine cC ?_
 cases c with
 |true=> exact hb pins s1 σ H1 Q I1 q1
 |false=> exact⟨.bl false,H1,I1,rfl,q1⟩
theorem a6w(ha:PE X a ta)(hb:PE X (.BoolOp .Or (b::rest) pos) tb):PE X (.BoolOp .Or (a::b::rest) pos) (a8c ta tb):=by
 (first|refine⟨?_⟩|skip);intro pins s σ H Q I h
 refine BoolOp_or (thn (ha pins s σ H _ I h) fun v s1 ⟨x,H1,I1,r1,q1⟩=> ?_)
 obtain⟨c,rfl,q1⟩:=q1
 cases r1
 refine cC ?_
 cases c with
 |false=> exact hb pins s1 σ H1 Q I1 q1
 |true=> exact⟨.bl true,H1,I1,rfl,q1⟩
theorem a46(ha:PE X a ta):PE X (.UnaryOp .Not a pos) (a5s ta):=by
 (first|refine⟨?_⟩|skip);intro pins s σ H Q I h
 refine UnaryOp_ (thn (ha pins s σ H _ I h) fun v s1 ⟨x,H1,I1,r1,q1⟩=> ?_)
 obtain⟨c,rfl,q1⟩:=q1
 cases r1
 exact not_of (cC ⟨.bl (!c),H1,I1,rfl,q1⟩)
noncomputable def tIf(t:TT)(ta tb:TE):TE:=fun σ H Q=> t σ H fun c H1=> if c=true then ta σ H1 Q else tb σ H1 Q
theorem au7{c:Expr}(hc:PT X c tA)(ha:PE X a ta)(hb:PE X b tb):PE X (.IfExp c a b pos) (tIf tA ta tb):=by
 (first|refine⟨?_⟩|skip);intro pins s σ H Q I h
 refine wpAny_IfExp (thn (hc pins s σ H _ I h) fun d s1 ⟨H1,I1,q1⟩=> ?_)
 cases d with
 |true=> exact ha pins s1 σ H1 Q I1 q1
 |false=> exact hb pins s1 σ H1 Q I1 q1
end
def SqL(K:aj)(H:Hp)(a:Addr)(xs:List V):Prop:=
 Rd H a (.lst xs)\/
  ∃(o:Obj) (its:Array af) (n:Nat),K.lookup a=some o/\o.cls=.type "list"/\o.dict=none/\o.data=.seq its n/\its.size <=sizeLine/\jo xs its.toList
def SqT(K:aj)(H:Hp)(a:Addr)(xs:List V):Prop:=
 Rd H a (.tup xs)\/
  ∃(o:Obj) (its:Array af) (n:Nat),K.lookup a=some o/\o.cls=.type "tuple"/\o.data=.seq its n/\its.size <=sizeLine/\jo xs its.toList
noncomputable def a8o:af -> Option V
 |.none=> some .non
 |.bool b=> some (.bl b)
 |.int i _=> some (.int i)
 |.str x _=> some (.str x)
 |.bytes b _=> some (.byt b)
 |.float b _=> some (.flt b)
 |.ref a=> some (.ref a)
 |.type n=> some (.ty n)
 |_=> none
theorem RelV.abs{x:V}(r:RelV x u):a8o u=some x:=by
 cases x with
 |non=> cases r;rfl
 |bl _=> cases r;rfl
 |int _=> obtain⟨t,rfl⟩:=r;rfl
 |str _=> obtain⟨t,rfl⟩:=r;rfl
 |byt _=> obtain⟨t,rfl⟩:=r;rfl
 |flt _=> obtain⟨t,rfl⟩:=r;rfl
 |ref _=> cases r;rfl
 |ty _=> cases r;rfl
theorem RelV.inj{x y:V}(r:RelV x u)(q:RelV y u):x=y:=bP (r.abs.symm.trans q.abs)
theorem jo.inj: ∀{xs ys:List V} {us:List af},jo xs us -> jo ys us -> xs=ys
 |_,_,_,.nil,.nil=> rfl
 |_,_,_,.cons r t,.cons r' t'=> by rw [r.inj r',jo.inj t t']
section
variable{X:Cx}{pins:List (Addr×Obj)}{σ:St}{H:Hp}{s:ai}{a:Addr}{xs ys:List V}
theorem SqL.of(h:H a=some (.lst xs)):SqL K H a xs:=.inl (.inl h)
theorem SqT.of(h:H a=some (.tup xs)):SqT K H a xs:=.inl (.inl h)
theorem Inv.list(I:Inv X pins σ H s)(h:SqL X.K H a xs): ∃its:List af,jo xs its/\PlainL s.heap a its.toArray/\xs.length <=sizeLine:=by
 rcases h with h|⟨o,its,n,hk,hc,hd,hs,hz,r⟩
 ·obtain⟨z,its,n,r,e⟩:=h.ok I.hok
  exact⟨its,r,⟨_,n,e,rfl,rfl,rfl⟩,z⟩
 ·refine⟨its.toList,r,⟨o,n,I.kIn a o hk,hc,hd,by simpa using hs⟩,?_⟩
  have e:=r.length
  simp only [aL]at e
  lia
theorem Inv.tuple(I:Inv X pins σ H s)(h:SqT X.K H a xs): ∃its:List af,jo xs its/\IsTup s.heap a its.toArray/\xs.length <=sizeLine:=by
 rcases h with h|⟨o,its,n,hk,hc,hs,hz,r⟩
 ·obtain⟨z,its,r,p⟩:=h.ok I.hok
  exact⟨its,r,p.tup,z⟩
 ·refine⟨its.toList,r,⟨o,I.kIn a o hk,hc,n,by simpa using hs⟩,?_⟩
  have e:=r.length
  simp only [aL]at e
  lia
theorem Inv.list_inj(I:Inv X pins σ H s)(h:SqL X.K H a xs)(h':SqL X.K H a ys):xs=ys:=by
 obtain⟨its,r,⟨o,n,e,_,_,d⟩,_⟩:=I.list h
 obtain⟨its',r',⟨o',n',e',_,_,d'⟩,_⟩:=I.list h'
 rw [e]at e';cases e'
 rw [d]at d'
 injection d' with d1 _
 have:its=its':=by simpa using congrArg Array.toList d1
 subst this
 exact r.inj r'
theorem Inv.tuple_inj(I:Inv X pins σ H s)(h:SqT X.K H a xs)(h':SqT X.K H a ys):xs=ys:=by
 obtain⟨its,r,⟨o,e,_,n,d⟩,_⟩:=I.tuple h
 obtain⟨its',r',⟨o',e',_,n',d'⟩,_⟩:=I.tuple h'
 rw [e]at e';cases e'
 rw [d]at d'
 injection d' with d1 _
 have:its=its':=by simpa using congrArg Array.toList d1
 subst this
 exact r.inj r'
end
section
variable{X:Cx}{st:Stmt}{rest:List Stmt}{t u:TS}{e:Expr}{te:TE}{pos:Pos}
noncomputable def a74:TS:=fun D σ H=> D.nx σ H
noncomputable def a2l(t u:TS):TS:=fun D σ H=> t {D with nx:=u D} σ H
theorem azi:PSs X [] a74:=.mk <|fun _ _ σ H _ I h=> fH ⟨σ,H,I,h⟩
theorem awb(h1:PS X st t)(h2:PSs X rest u):PSs X (st::rest) (a2l t u):=by
 (first|refine⟨?_⟩|skip);intro pins s σ H D I h
 refine wpAny_execs_cons (thn (h1 pins s σ H {D with nx:=u D} I h) fun f s1 q=> ?_)
 cases f with
 |next=>
  obtain⟨σ',H',I',q⟩:=q
  exact h2 pins s1 σ' H' D I' q
 |ret v=> exact q
 |brk=> exact q
 |cont=> exact q
theorem az8(h1:PS X st t):PSs X [st] t:=by
 (first|refine⟨?_⟩|skip);intro pins s σ H D I h
 refine wpAny_execs_cons (thn (h1 pins s σ H D I h) fun f s1 q=> ?_)
 cases f with
 |next=> exact fH q
 |ret v=> exact q
 |brk=> exact q
 |cont=> exact q
theorem Inv.quiet{σ:St}{H:Hp}(I:Inv X pins σ H s):interactive X.env=false:=by simp [interactive,I.ok.kind]
noncomputable def a6i(te:TE):TS:=fun D σ H=> te σ H fun _ H1=> D.nx σ H1
theorem azl(he:PE X e te)(hs:fO e none pos.line X.env=pure false:=by rfl):PS X (.Expr e pos) (a6i te):=by
 (first|refine⟨?_⟩|skip);intro pins s σ H D I h
 exact wpAny_Expr_any (thn (he pins s σ H _ I h) fun v s1 ⟨x,H1,I1,r1,q1⟩=> ⟨σ,H1,I1,q1⟩) I.quiet hs
noncomputable def a8b(te:TE):TS:=fun D σ H=> te σ H D.rt
theorem a4y(he:PE X e te):PS X (.Return (some e) pos) (a8b te):=by
 (first|refine⟨?_⟩|skip);intro pins s σ H D I h
 exact wpAny_Return_some (thn (he pins s σ H _ I h) fun v s1 ⟨x,H1,I1,r1,q1⟩=> ⟨x,σ,H1,I1,r1,q1⟩)
noncomputable def a8w(c:TT)(t u:TS):TS:=fun D σ H=> c σ H fun b H1=> if b=true then t D σ H1 else u D σ H1
theorem a5u{c:Expr}{a b:List Stmt}{tc:TT}(hc:PT X c tc)(ha:PSs X a t)(hb:PSs X b u):PS X (.If c a b pos) (a8w tc t u):=by
 (first|refine⟨?_⟩|skip);intro pins s σ H D I h
 refine wpAny_If (thn (hc pins s σ H _ I h) fun d s1 ⟨H1,I1,q1⟩=> ?_)
 cases d with
 |true=> exact ha pins s1 σ H1 D I1 q1
 |false=> exact hb pins s1 σ H1 D I1 q1
end
abbrev TG:=V -> St -> Hp -> (St -> Hp -> Prop) -> Prop
abbrev TGs:=List V -> St -> Hp -> (St -> Hp -> Prop) -> Prop
def PG(X:Cx)(target:Expr)(t:TG):Prop:=
 ∀(pins:List (Addr×Obj)) (s:ai) (σ:St) (H:Hp) (v:V) (u:af) (Q:St -> Hp -> Prop),Inv X pins σ H s -> RelV v u -> t v σ H Q ->
  wpAny (model X.prog X.w) X.A (assign target X.env u) (fun _ s'=> ∃σ' H',Inv X pins σ' H' s'/\Q σ' H') X.xe s
def PGs(X:Cx)(ts:List Expr)(t:TGs):Prop:=
 ∀(pins:List (Addr×Obj)) (s:ai) (σ:St) (H:Hp) (vs:List V) (us:List af) (Q:St -> Hp -> Prop),Inv X pins σ H s -> jo vs us -> t vs σ H Q ->
  wpAny (model X.prog X.w) X.A (assignInOrder ((br ts X.env).map (·.2)) us) (fun _ s'=> ∃σ' H',Inv X pins σ' H' s'/\Q σ' H') X.xe s
abbrev apz:=V -> V -> V -> Hp -> (Hp -> Prop) -> Prop
def aik(X:Cx)(t:apz):Prop:=
 ∀(pins:List (Addr×Obj)) (s:ai) (σ:St) (H:Hp) (o i v:V) (ov iv u:af) (Q:Hp -> Prop),Inv X pins σ H s -> RelV o ov -> RelV i iv -> RelV v u -> t o i v H Q ->
  wpAny (model X.prog X.w) X.A (setItem ov iv u) (fun _ s'=> ∃H',Inv X pins σ H' s'/\Q H') X.xe s
abbrev TIp:=V -> V -> Hp -> VK -> Prop
def PIp(X:Cx)(op:lq)(t:TIp):Prop:=
 ∀(pins:List (Addr×Obj)) (s:ai) (σ:St) (H:Hp) (x y:V) (v u:af) (Q:VK),Inv X pins σ H s -> RelV x v -> RelV y u -> t x y H Q ->
  wpAny (model X.prog X.w) X.A (inplaceOp op v u) (EP X pins σ Q) X.xe s
section
variable{X:Cx}{pos:Pos}
noncomputable def akq(i:Nat):TG:=fun v σ H Q=> Q (σ.set i (some v)) H
theorem a0j{x:Str}(hN:X.N.Nodup)(hi:X.N[i]?=some x)(hx:Loc X.env.scope x)(hf:X.fn x=true\/X.env.scope.names.lookup x=some .local:=by first|exact .inl rfl|exact .inr rfl|assumption):PG X (.Name x pos) (akq i):=by
 (first|refine⟨?_⟩|skip);intro pins s σ H v u Q I r h
 exact wpAny_assign_Name (abr I hN hi hx r (fun s' I'=> ⟨_,H,I',h⟩) hf)
noncomputable def aq4:TGs:=fun vs σ H Q=> vs=[]/\Q σ H
noncomputable def ae6(t:TG)(u:TGs):TGs:=fun vs σ H Q=> ∃v r,vs=v::r/\t v σ H fun σ' H'=> u r σ' H' Q
theorem aom:PGs X [] aq4:=by
 (first|refine⟨?_⟩|skip);intro pins s σ H vs us Q I r h
 obtain⟨e,h⟩:=h
 subst e
 cases r
 exact assignInOrder_nil ⟨σ,H,I,h⟩
theorem abl{es:List Expr}{t:TG}{u:TGs}(h1:PG X e t)(h2:PGs X es u)(hs:(br (e::es) X.env).map (·.2)=assign e X.env::(br es X.env).map (·.2):=by rfl):PGs X (e::es) (ae6 t u):=by
 (first|refine⟨?_⟩|skip);intro pins s σ H vs us Q I r h
 obtain⟨v,vr,e1,h⟩:=h
 subst e1
 cases r with
 |cons r rr=>
  rw [hs]
  refine assignInOrder_cons (thn (h1 pins s σ H _ _ _ I r h) fun _ s1 ⟨σ1,H1,I1,q1⟩=> ?_)
  exact h2 pins s1 σ1 H1 _ _ Q I1 rr q1
noncomputable def a80(K:aj)(n:Nat)(t:TGs):TG:=fun v σ H Q=> ∃a xs,v=.ref a/\SqT K H a xs/\xs.length=n/\t xs σ H Q
theorem a4c{es:List Expr}{k:Nat}{t:TGs}{n:Nat}(hc:X.calm=true)(h:PGs X es t)
  (hn:(br es X.env).length=n:=by rfl) (hst:(br es X.env).findIdx? (·.1)=none:=by rfl):PG X (.Tuple es k pos) (a80 X.K n t):=by
 (first|refine⟨?_⟩|skip);intro pins s σ H v u Q I r hw
 obtain⟨a,xs,e1,hq,hl,hw⟩:=hw
 subst e1
 cases r
 obtain⟨its,rv,ht,hz⟩:=I.tuple hq
 refine assign_Tuple_tuple (I.ok.hd hc) ht (by simp [hn,←hl,rv.length]) hst fun h' hx=> ?_
 have I1:Inv X pins σ H {s with heap:=h'}:=I.kept (t':=s.toks) fun b o e=> hx b o (aN (ao e)) e
 exact h pins _ σ H xs _ Q I1 (by simpa using rv) hw
noncomputable def ac0(to ti:TE)(t:apz):TG:=fun v σ H Q=> to σ H fun o H1=> ti σ H1 fun i H2=> t o i v H2 fun H3=> Q σ H3
theorem a2f{o i:Expr}{to ti:TE}{t:apz}(ho:PE X o to)(hi:PE X i ti)(hs:aik X t)
  (ha: ∀v,assign (.Subscript o i pos) X.env v=(do
   let ov←holding [v] (eval o X.env)
   let iv←holding [v,ov] (eval i X.env)
   standAt pos
   holding [v,ov,iv] (setItem ov iv v)
   release [v,ov,iv] []):=by intro _;rfl):PG X (.Subscript o i pos) (ac0 to ti t):=by
 (first|refine⟨?_⟩|skip);intro pins s σ H v u Q I r h
 rw [ha]
 refine ac (bj (thn (ho pins s σ H _ I h) fun ov s1 ⟨x,H1,I1,r1,q1⟩=> ?_))
 refine ac (bj (thn (hi pins s1 σ H1 _ I1 q1) fun iv s2 ⟨y,H2,I2,r2,q2⟩=> ?_))
 refine ac (fq (ac (bj (thn (hs pins s2 σ H2 x y v ov iv u _ I2 r1 r2 r q2) fun _ s3 ⟨H3,I3,q3⟩=> ?_))))
 exact wpAny_release ⟨σ,H3,I3,q3⟩
noncomputable def a2a(te:TE)(g:TG):TS:=fun D σ H=> te σ H fun x H1=> g x σ H1 D.nx
theorem ar9{te:TE}{g:TG}(he:PE X e te)(hg:PG X tg g)(hs:lB [tg] e pos.line X.env=pure false:=by rfl)(hw:lC [tg] e X.env=pure none:=by rfl)(h1:(br [tg] X.env).map (·.2)=[assign tg X.env]:=by rfl):PS X (.Assign [tg] e pos) (a2a te g):=by
 (first|refine⟨?_⟩|skip);intro pins s σ H D I h
 refine wpAny_Assign_stores (thn (he pins s σ H _ I h) fun v s1 ⟨x,H1,I1,r1,q1⟩=> ?_) hs hw
 rw [h1]
 exact thn (hg pins s1 σ H1 x v _ I1 r1 q1) fun _ s2 q=> q
theorem a58{x:Str}{te:TE}{pos':Pos}(hN:X.N.Nodup)(hi:X.N[i]?=some x)(hx:Loc X.env.scope x)(he:PE X e te)(hs:fO e (some (.Name x pos')) pos.line X.env=pure false:=by rfl)(hf:X.fn x=true\/X.env.scope.names.lookup x=some .local:=by first|exact .inl rfl|exact .inr rfl|assumption):
  PS X (.Assign [.Name x pos'] e pos) (a2a te (akq i)):=by
 (first|refine⟨?_⟩|skip);intro pins s σ H D I h
 refine wpAny_Assign_Name (thn (he pins s σ H _ I h) fun v s1 ⟨y,H1,I1,r1,q1⟩=> ?_) hs
 exact abr I1 hN hi hx r1 (fun s2 I2=> ⟨_,H1,I2,q1⟩) hf
noncomputable def a7m(i:Nat)(te:TE)(ti:TIp):TS:=fun D σ H=> ∃x,σ[i]?=some (some x)/\te σ H fun y H1=> ti x y H1 fun z H2=> D.nx (σ.set i (some z)) H2
theorem a22{x:Str}{te:TE}{op:lq}{ti:TIp}{pos':Pos}(hN:X.N.Nodup)(hi:X.N[i]?=some x)(hx:Loc X.env.scope x)(he:PE X e te)(ho:PIp X op ti)(hf:X.fn x=true\/X.env.scope.names.lookup x=some .local:=by first|exact .inl rfl|exact .inr rfl|assumption):
  PS X (.AugAssign (.Name x pos') op e pos) (a7m i te ti):=by
 (first|refine⟨?_⟩|skip);intro pins s σ H D I h
 obtain⟨v,e1,h⟩:=h
 obtain⟨m,hn,hl⟩:=I.loc
 have vis:Vis X.env.scope x:=by rcases hx with k|k;exact .inl k;exact .inr (.inl k)
 obtain⟨u,r,l⟩:=hl i x v hi e1 vis
 refine wpAny_AugAssign_Name ?_
 have go:wpAny (model X.prog X.w) X.A (eval e X.env) (fun w s₂=> wpAny (model X.prog X.w) X.A (inplaceOp op u w) (fun r s₃=> wpAny (model X.prog X.w) X.A (storeName X.env x r) (fun _=> SP X pins D .next) X.xe s₃) X.xe s₂) X.xe s:=by
  refine thn (he pins s σ H _ I h) fun w s1 ⟨y,H1,I1,r1,q1⟩=> ?_
  refine thn (ho pins s1 σ H1 v y u w _ I1 r r1 q1) fun z s2 ⟨zv,H2,I2,r2,q2⟩=> ?_
  exact abr I2 hN hi hx r2 (fun s3 I3=> ⟨_,H2,I3,q2⟩) hf
 rcases l with ⟨hk,hm⟩|⟨hk,c,hc,hcell⟩
 ·exact lp I.ok.kind hk hn hm go
 ·rcases hk with hk|hk
  ·exact lJ I.ok.kind hk hc hcell go
  ·rcases hx with k|k
   ·have:X.env.scope.names.lookup x=some .free:=hk
    rw [k]at this;cases this
   ·have:X.env.scope.names.lookup x=some .free:=hk
    rw [k]at this;cases this
noncomputable def ipI(f:Int -> Int -> Int):TIp:=fun x y H Q=> ∃i j,x=.int i/\y=.int j/\Q (.int (f i j)) H
theorem a2y:PIp X .Add (ipI fun i j=> i+j):=by
 (first|refine⟨?_⟩|skip);intro pins s σ H x y v u Q I r1 r2 h
 obtain⟨i,j,e1,e2,q⟩:=h
 subst e1;subst e2
 obtain⟨t,rfl⟩:=r1
 obtain⟨t',rfl⟩:=r2
 exact iadd_int ⟨.int _,H,I.tok _,⟨_,rfl⟩,q⟩
end
structure It where
 go:Nat -> Hp -> Prop
 yld:Nat -> Hp -> V -> Hp -> Prop
 stop:Nat -> Hp -> Prop
def ac3(X:Cx)(pins:List (Addr×Obj))(H:Hp)(b:Addr):Prop:=
 H b=none/\b≠X.env.locals/\b∉X.fs/\(b∈X.ex\/X.s₀.heap.objs.size <=b)/\(∀x c,X.env.cells.lookup x=some c -> c≠b)/\ ∀p∈X.pn++pins,p.1≠b
theorem Inv.fpOk{X:Cx}{σ:St}{H H':Hp}(I:Inv X pins σ H s)(hb:s.heap.objs.size <=b)(hn:H' b=none):ac3 X pins H' b:=by
 refine⟨hn,dA (aI I.lt hb),I.nofs hb,.inr (ax I.sz hb),fun x c e z=> ?_,fun p hp z=> ?_⟩
 ·obtain⟨v,q⟩:=I.cell x c e
  exact absurd (aI q.lt (by rw [z];exact hb)) (cy _)
 ·exact absurd (aI (ao (I.pin p hp).1) (by rw [z];exact hb)) (cy _)
structure Turn (P:aQ) (w:aU) (K:aj) (tg:Expr) (J:It) (fp:List Addr) (it:Addr) (tn:Nat -> Heap -> Prop):Prop where
 mem:it∈fp
 obj: ∀i h,tn i h -> ∀b∈fp,∃o,h.get? b=some o/\ ∀v,o.data≠ .cell v
 keep: ∀i h h',tn i h -> (∀b∈fp,∀o,h.get? b=some o -> h'.get? b=some o) -> tn i h'
 item: ∀(X:Cx),X.prog=P -> X.w=w -> X.K=K -> X.calm=true -> ∀(i:Nat) (pins:List (Addr×Obj)) (s:ai) (σ:St) (H:Hp) (E:af -> ai -> Prop),Inv X pins σ H s -> (∀b∈fp,ac3 X pins H b) -> tn i s.heap -> J.go i H ->
  wpAny (model P w) X.A (pyNext (.ref it)) (fun r s1=> ∃u,r=some u/\
   wpAny (model P w) X.A (gQ tg (.ref it) u) (fun _ s2=> ∃x H',Inv X pins σ H' s2/\RelV x u/\J.yld i H x H'/\tn (i+1) s2.heap/\ ∀b∈fp,H' b=none) E s1) E s
 done: ∀(X:Cx),X.prog=P -> X.w=w -> X.K=K -> X.calm=true -> ∀(i:Nat) (pins:List (Addr×Obj)) (s:ai) (σ:St) (H:Hp) (E:af -> ai -> Prop),Inv X pins σ H s -> (∀b∈fp,ac3 X pins H b) -> tn i s.heap -> J.stop i H ->
  wpAny (model P w) X.A (pyNext (.ref it)) (fun r s1=> r=none/\Inv X pins σ H s1) E s
 self: ∀(A:bf) (i:Nat) (s:ai) (Q:af -> ai -> Prop) (E:af -> ai -> Prop),tn i s.heap -> Q (.ref it) s -> wpAny (model P w) A (pyIter (.ref it)) Q E s
abbrev TI:=St -> Hp -> (It -> Hp -> Prop) -> Prop
def PIE(X:Cx)(pins:List (Addr×Obj))(σ:St)(tg:Expr)(R:It -> Hp -> Prop)(itv:af)(s2:ai):Prop:=
 ∃(it:Addr) (fp:List Addr) (tn:Nat -> Heap -> Prop) (J:It) (H':Hp),itv=.ref it/\Inv X pins σ H' s2/\Turn X.prog X.w X.K tg J fp it tn/\tn 0 s2.heap/\(∀b∈fp,ac3 X pins H' b)/\R J H'
def PI(X:Cx)(tg iter:Expr)(wi:TI):Prop:=
 ∀(pins:List (Addr×Obj)) (s:ai) (σ:St) (H:Hp) (R:It -> Hp -> Prop),Inv X pins σ H s -> wi σ H R ->
  wpAny (model X.prog X.w) X.A (eval iter X.env) (fun v s1=> wpAny (model X.prog X.w) X.A (pyIter v) (PIE X pins σ tg R) X.xe s1) X.xe s
theorem akt{it:Addr}{o:Obj}{n:String}{vs:Array af}(ho:s.heap.get? it=some o)(hc:o.cls=.type n)(hd:o.data=.fields vs)(hn:["enumerate","zip","dict_itemiterator","dict_reverseitemiterator","odict_iterator","itertools.zip_longest","itertools.pairwise"].contains n=false)(hQ:Q () s):wpAny M A (gQ tg (.ref it) u) Q E s:=by
 unfold gQ
 cases tg <;> first
  |exact ah hQ
  | (cases u <;> first
    |exact ah hQ
    | (refine ac (iW ho ?_)
       rw [hc,hd]
       show wpAny M A (if (["enumerate","zip","dict_itemiterator","dict_reverseitemiterator","odict_iterator","itertools.zip_longest","itertools.pairwise"].contains n&&vs[0]?==some (rawInt _))=true then _ else _) Q E s
       rw [if_neg (by intro h;rw [hn,eO]at h;cases h)]
       exact ah hQ))
noncomputable def Itl(K:aj)(a:Addr):It:=
 ⟨fun i H=> ∃xs x,SqL K H a xs/\xs[i]?=some x,fun i H x H'=> H'=H/\ ∀xs,SqL K H a xs -> xs[i]?=some x,fun i H=> ∃xs,SqL K H a xs/\xs.length <=i⟩
noncomputable def Itt(K:aj)(a:Addr):It:=
 ⟨fun i H=> ∃xs x,SqT K H a xs/\xs[i]?=some x,fun i H x H'=> H'=H/\ ∀xs,SqT K H a xs -> xs[i]?=some x,fun i H=> ∃xs,SqT K H a xs/\xs.length <=i⟩
noncomputable def Itr(lo:Int)(n:Nat):It:=⟨fun i _=> i < n,fun i H x H'=> H'=H/\x=.int (lo+i),fun i _=> n <=i⟩
theorem ark(a it:Addr):Turn P w K tg (Itl K a) [it] it (fun i h=> h.IsListIter it a i) where
 mem:=by simp
 obj:=fun i h st b hb=> by
  have e:b=it:=by simpa using hb
  subst e
  obtain⟨o,e,c,d⟩:=st
  exact⟨o,e,fun v z=> by rw [d]at z;cases z⟩
 keep:=fun i h h' st k=> st.at fun o e=> k it (by simp) o e
 item:=by
  intro X hP hw hK hc i pins s σ H E I hf st hg
  subst hP hw hK
  obtain⟨xs,x,hq,hx⟩:=hg
  obtain⟨its,rv,p,hz⟩:=I.list hq
  obtain⟨u,hu,ru⟩:=rv.get hx
  obtain⟨f0,f1,f2,f3,f4,f5⟩:=hf it (by simp)
  refine kD st p.isList (x:=u) (by simpa using hu) fun h' st' sb=> ?_
  have I1:Inv X pins σ H {s with heap:=h'}:=I.turned (t':=s.toks) (fun b o hb e=> (sb.2 b hb).trans e) f0 f1 f3 f4 f5
  obtain⟨o,e,c,d⟩:=id st'
  exact⟨u,rfl,akt (s:={s with heap:=h'}) e c d (by decide) ⟨x,H,I1,ru,⟨rfl,fun ys hy=> by rw [I.list_inj hy hq];exact hx⟩,st',fun b hb=> (hf b hb).1⟩⟩
 done:=by
  intro X hP hw hK hc i pins s σ H E I hf st hg
  subst hP hw hK
  obtain⟨xs,hq,hx⟩:=hg
  obtain⟨its,rv,p,hz⟩:=I.list hq
  obtain⟨f0,f1,f2,f3,f4,f5⟩:=hf it (by simp)
  have hl:=rv.length
  exact kK (I.ok.hd hc) st p.isList (by simp;lia) fun h' eb=> ⟨rfl,I.turned (t':=s.toks) (fun b o hb e=> eb b o hb e) f0 f1 f3 f4 f5⟩
 self:=fun _ _ _ _ _ st h=> wpAny_pyIter_listiter st h
theorem apm(a it:Addr):Turn P w K tg (Itt K a) [it] it (fun i h=> h.IsTupleIter it a i) where
 mem:=by simp
 obj:=fun i h st b hb=> by
  have e:b=it:=by simpa using hb
  subst e
  obtain⟨o,e,c,d⟩:=st
  exact⟨o,e,fun v z=> by rw [d]at z;cases z⟩
 keep:=fun i h h' st k=> st.at fun o e=> k it (by simp) o e
 item:=by
  intro X hP hw hK hc i pins s σ H E I hf st hg
  subst hP hw hK
  obtain⟨xs,x,hq,hx⟩:=hg
  obtain⟨its,rv,p,hz⟩:=I.tuple hq
  obtain⟨u,hu,ru⟩:=rv.get hx
  obtain⟨f0,f1,f2,f3,f4,f5⟩:=hf it (by simp)
  refine wpAny_pyNext_tuple_item st (show s.heap.IsTuple a its.toArray from p) (x:=u) (by simpa using hu) fun h' st' sb=> ?_
  have I1:Inv X pins σ H {s with heap:=h'}:=I.turned (t':=s.toks) (fun b o hb e=> (sb.2 b hb).trans e) f0 f1 f3 f4 f5
  obtain⟨o,e,c,d⟩:=id st'
  exact⟨u,rfl,akt (s:={s with heap:=h'}) e c d (by decide) ⟨x,H,I1,ru,⟨rfl,fun ys hy=> by rw [I.tuple_inj hy hq];exact hx⟩,st',fun b hb=> (hf b hb).1⟩⟩
 done:=by
  intro X hP hw hK hc i pins s σ H E I hf st hg
  subst hP hw hK
  obtain⟨xs,hq,hx⟩:=hg
  obtain⟨its,rv,p,hz⟩:=I.tuple hq
  obtain⟨f0,f1,f2,f3,f4,f5⟩:=hf it (by simp)
  have hl:=rv.length
  exact wpAny_pyNext_tuple_end (I.ok.hd hc) st (show s.heap.IsTuple a its.toArray from p) (by simp;lia) fun h' eb=> ⟨rfl,I.turned (t':=s.toks) (fun b o hb e=> eb b o hb e) f0 f1 f3 f4 f5⟩
 self:=fun _ _ _ _ _ st h=> wpAny_pyIter_tupleiter st h
theorem apg(it:Addr)(lo:Int)(n:Nat):Turn P w K tg (Itr lo n) [it] it (fun i h=> IsRangeIter h it (lo+(i:Nat)*1) ((n:Int) - (i:Nat)) 1) where
 mem:=by simp
 obj:=fun i h st b hb=> by
  have e:b=it:=by simpa using hb
  subst e
  exact⟨_,st,fun v z=> by
   have z':Data.fields _=Data.cell v:=z
   cases z'⟩
 keep:=fun i h h' st k=> k it (by simp) _ st
 item:=by
  intro X hP hw hK hc i pins s σ H E I hf st hg
  subst hP hw hK
  obtain⟨f0,f1,f2,f3,f4,f5⟩:=hf it (by simp)
  have W:=Walks.range (prog:=X.prog) (w:=X.w) (I.ok.hd hc) it lo 1 n
  refine W.item i s _ _ hg st fun v h' tk hv st' kk=> ?_
  obtain⟨t,rfl⟩:=hv
  have I1:Inv X pins σ H {s with heap:=h',toks:=tk}:=I.turned (fun b o hb e=> kk b o (by simpa using hb) e) f0 f1 f3 f4 f5
  refine⟨_,rfl,akt (s:={s with heap:=h',toks:=tk}) (n:="range_iterator") st' rfl rfl (by decide) ⟨.int (lo+i),H,I1,⟨t,?_⟩,⟨rfl,rfl⟩,st',fun b hb=> (hf b hb).1⟩⟩
  rw [Int.mul_one]
 done:=by
  intro X hP hw hK hc i pins s σ H E I hf st hg
  subst hP hw hK
  obtain⟨f0,f1,f2,f3,f4,f5⟩:=hf it (by simp)
  exact wpAny_pyNext_range_end (I.ok.hd hc) st (by have:n <=i:=hg;lia) fun h' eb=> ⟨rfl,I.turned (t':=s.toks) (fun b o hb e=> eb b o hb e) f0 f1 f3 f4 f5⟩
 self:=fun _ _ _ _ _ st h=> wpAny_pyIter_rangeiter st h
end L2
variable{pins pins':List (dR×PySem.Obj)}{σ:L2.St}{H H':L2.Hp}{s:fM}{E Q:c8 -> fM -> Prop}{t:ms}{u:c8}{v:L2.V}{tk:PySem.Tok}{a C f I:dR}{ta tb te:L2.TE}{pos:PySem.Pos}{fp:List dR}{h base:PySem.Heap}{b iter e c tg:iV}{o:L2.HO}{op:PySem.CmpOp}{i j k n ep:Nat}{xs ys:List L2.V}{its us:List c8}{dx:Option dR}{mA mg:iw -> Option c8}{K:aj}{prog P:lA}{w:mf}{env:PySem.Env}{A:lU}{fd:PySem.FuncData}{ps N:List iw}{qual name:iw}{scope:PySem.Scope}{osl:Array (Option c8)}{items:Array c8}{T:String}{st:PySem.Stmt}{X:L2.Cx}{es:List iV}{M:PySem.Model}
namespace L2
open PySem PySem.Spec PyProof.Rows
theorem aur{R:It -> Hp -> Prop}{lo hi:Int}{t u v:Tok}{tk:Nat}(I:Inv X pins σ H s)(h1: -(2^62) <=lo)(h2:lo < 2^62)(h3: -(2^62) <=hi)(h4:hi < 2^62)(q:R (Itr lo (hi - lo).toNat) H):wpAny (model X.prog X.w) X.A (pyIter (.ref s.heap.objs.size)) (PIE X pins σ tg R) E {s with heap:=s.heap.push {cls:=.type "range",data:=.fields #[.int lo t,.int hi u,.int 1 v]},toks:=tk}:=by
 refine wpAny_pyIter_range (IsRange.new ..) (small_one h1 h2 h3 h4) ?_
 have I1:Inv X pins σ H {s with heap:=s.heap.push {cls:=.type "range",data:=.fields #[.int lo t,.int hi u,.int 1 v]},toks:=tk}:=I.kept fun b o e=> ag _ e
 refine⟨(s.heap.push {cls:=.type "range",data:=.fields #[.int lo t,.int hi u,.int 1 v]}).objs.size,[(s.heap.push {cls:=.type "range",data:=.fields #[.int lo t,.int hi u,.int 1 v]}).objs.size],_,_,H,rfl,
  I1.kept (t':=tk) fun b o e=> ag _ e,apg _ lo (hi - lo).toNat,?_,fun b hb=> ?_,q⟩
 ·have e1:lo+((0:Nat):Int)*1=lo:=by simp
  have e2:(((hi - lo).toNat:Nat):Int) - ((0:Nat):Int)=Builtin.Range.rangeSize lo hi 1:=by rw [rangeSize_one];split <;> lia
  show IsRangeIter _ _ (lo+((0:Nat):Int)*1) ((((hi - lo).toNat:Nat):Int) - ((0:Nat):Int)) 1
  rw [e1,e2]
  exact ar _ rfl
 ·have e:b=(s.heap.push {cls:=.type "range",data:=.fields #[.int lo t,.int hi u,.int 1 v]}).objs.size:=by simpa using hb
  subst e
  exact I1.fpOk (aq _) (I1.hok.fresh (aq _))
def a7f(ta:TA):TI:=fun σ H R=> ta σ H fun vs H1=> ∃j:Int,vs=[.int j]/\ -(2^62) <=j/\j < 2^62/\R (Itr 0 j.toNat) H1
theorem atm{a:Expr}{ta:TA}{p:Pos}(hg:Gl X "range")(hm:X.mg "range"=none)(ha:PA X [a] ta)(hs:starEach [a] X.env=[(false,eval a X.env)]:=by rfl):PI X tg (.Call (.Name "range" p) [a] [] pos) (a7f ta):=by
 (first|refine⟨?_⟩|skip);intro pins s σ H R I h
 refine Call_ (abq I hg hm boot_range (dB (thn (ha pos pins s σ H _ I h) fun us s1 ⟨vs,H1,I1,r1,q1⟩=> ?_) hs rfl))
 obtain⟨j,e,q1,q2,q⟩:=q1
 subst e
 cases r1 with
 |cons r rr=>
  cases rr
  obtain⟨t,rfl⟩:=r
  exact call_range_1 (aur I1 (by lia) (by lia) q1 q2 (by simpa using q))
noncomputable def a82(wi:TI)(g:TG)(tb:TS):TS:=fun D σ H=> wi σ H fun J H1=> ∃W:Nat -> Nat -> St -> Hp -> Prop,(∃m,W 0 m σ H1)/\ ∀i m σ H,W i m σ H ->
 (J.stop i H/\D.nx σ H)\/(J.go i H/\ ∃N:St -> Hp -> Prop,(∀σ' H',N σ' H' -> ∃m',m' < m/\W (i+1) m' σ' H')/\ ∀x H',J.yld i H x H' -> g x σ H' fun σ2 H2=> tb {D with nx:=N,ct:=N,bk:=D.nx} σ2 H2)
noncomputable def aet(fp:List Addr)(h:Heap):List (Addr×Obj):=fp.filterMap fun b=> (h.get? b).map fun o=> (b,o)
theorem abb{b:Addr}{o:Obj}(hb:b∈fp)(e:h.get? b=some o):(b,o)∈aet fp h:=List.mem_filterMap.mpr ⟨b,hb,by rw [e];rfl⟩
theorem arr{p:Addr×Obj}(hp:p∈aet fp h):p.1∈fp/\h.get? p.1=some p.2:=by
 obtain⟨b,hb,e⟩:=List.mem_filterMap.mp hp
 cases q:h.get? b with
 |none=> rw [q]at e;cases e
 |some o=>
  rw [q]at e
  have e':(b,o)=p:=bP e
  subst e'
  exact⟨hb,q⟩
theorem Inv.pinned(I:Inv X pins σ H s)(hf: ∀b∈fp,ac3 X pins H b)(ho: ∀b∈fp,∃o,s.heap.get? b=some o/\ ∀v,o.data≠ .cell v):Inv X (pins++aet fp s.heap) σ H s:=
 I.pins_of fun p hp=> (bq.mp hp).elim (fun z=> I.pin p (bE _ z)) fun z=> by
  obtain⟨hb,e⟩:=arr z
  obtain⟨f0,f1,f2,_⟩:=hf p.1 hb
  obtain⟨o,e',d⟩:=ho p.1 hb
  rw [e]at e';cases e'
  exact⟨e,f0,f1,f2,d⟩
theorem Inv.unpinned{pl:List (Addr×Obj)}(I:Inv X (pins++pl) σ H s):Inv X pins σ H s:=I.pins_of fun p hp=> I.pin p (bE _ (ff _ hp))
theorem a49{body:List Stmt}{wi:TI}{g:TG}{tb:TS}(hp:mw (model X.prog X.w) X.A X.env X.xe)(hc:X.calm=true)(hi:PI X tg iter wi)(hg:PG X tg g)(hb:PSs X body tb)(hs: ∀x,dM iter X.env x=pure x:=by intro _;rfl):PS X (.For tg iter body [] pos) (a82 wi g tb):=by
 (first|refine⟨?_⟩|skip);intro pins s σ H D I h
 refine wpAny_For (thn (hi pins s σ H _ I h) fun v s1 h1=> thn h1 fun itv s2 h2=> ?_) hs
 obtain⟨it,fp,tn,J,H2,e,I2,T,st2,f2,W,⟨m0,w0⟩,turn⟩:=h2
 subst e
 -- what stays true of the iterator's objects through the loop
 have stat: ∀{H':Hp},(∀b∈fp,H' b=none) -> ∀b∈fp,ac3 X pins H' b:=fun hn b hb=> ⟨hn b hb,(f2 b hb).2⟩
 refine codeAny_forLoop_any (fun n s'=> ∃i σ' H',Inv X pins σ' H' s'/\tn i s'.heap/\(∀b∈fp,H' b=none)/\W i n σ' H') ?_ m0 ⟨0,σ,H2,I2,st2,fun b hb=> (f2 b hb).1,w0⟩
 rintro n s3 ⟨i,σ3,H3,I3,st3,fr3,w3⟩
 rcases turn i n σ3 H3 w3 with ⟨stop,qn⟩|⟨go,N,hN,step⟩
 ·refine fI hp (thn (T.done X rfl rfl rfl hc i pins s3 σ3 H3 X.xe I3 (stat fr3) st3 stop) fun r s4 ⟨hr,I4⟩=> ?_)
  subst hr
  exact fH ⟨σ3,H3,I4,qn⟩
 ·refine fI hp (thn (T.item X rfl rfl rfl hc i pins s3 σ3 H3 X.xe I3 (stat fr3) st3 go) fun r s4 ⟨u,hr,h4⟩=> ?_)
  subst hr
  refine fI hp (thn h4 fun _ s5 ⟨x,H5,I5,r5,y5,st5,fr5⟩=> ?_)
  have I5':=I5.pinned (stat fr5) (T.obj _ _ st5)
  refine fI hp (thn (hg _ s5 σ3 H5 x u _ I5' r5 (step x H5 y5)) fun _ s6 ⟨σ6,H6,I6,q6⟩=> ?_)
  refine fI hp (thn (hb _ s6 σ6 H6 _ I6 q6) fun f s7 q7=> ?_)
  have again: ∀{σ7:St} {H7:Hp},Inv X (pins++aet fp s5.heap) σ7 H7 s7 -> N σ7 H7 -> ∃m,m < n/\ ∃i σ' H',Inv X pins σ' H' s7/\tn i s7.heap/\(∀b∈fp,H' b=none)/\W i m σ' H':=fun {σ7 H7} I7 n7=> by
   obtain⟨m',hm,w7⟩:=hN σ7 H7 n7
   refine⟨m',hm,i+1,σ7,H7,I7.unpinned,T.keep _ _ _ st5 fun b hb o e=> (I7.pin (b,o) (bE _ (bE _ (abb hb e)))).1,fun b hb=> ?_,w7⟩
   obtain⟨o,e,d⟩:=T.obj _ _ st5 b hb
   exact (I7.pin (b,o) (bE _ (bE _ (abb hb e)))).2.1
  cases f with
  |next=> obtain⟨σ7,H7,I7,n7⟩:=q7;exact again I7 n7
  |cont=> obtain⟨σ7,H7,I7,n7⟩:=q7;exact again I7 n7
  |brk=> obtain⟨σ7,H7,I7,q7⟩:=q7;exact⟨σ7,H7,I7.unpinned,q7⟩
  |ret v=> obtain⟨x7,σ7,H7,I7,r7,q7⟩:=q7;exact⟨x7,σ7,H7,I7.unpinned,r7,q7⟩
abbrev R2:=V -> V -> Hp -> VK -> Prop
def OpR(X:Cx)(f:af -> af -> Sem af)(r:R2):Prop:=
 ∀(pins:List (Addr×Obj)) (s:ai) (σ:St) (H:Hp) (x y:V) (v u:af) (Q:VK),Inv X pins σ H s -> RelV x v -> RelV y u -> r x y H Q ->
  wpAny (model X.prog X.w) X.A (f v u) (EP X pins σ Q) X.xe s
def va(X:Cx)(f:af)(r:List V -> Hp -> VK -> Prop):Prop:=
 ∀(pins:List (Addr×Obj)) (s:ai) (σ:St) (H:Hp) (xs:List V) (us:List af) (Q:VK),Inv X pins σ H s -> jo xs us -> r xs H Q ->
  wpAny (model X.prog X.w) X.A (call f us) (EP X pins σ Q) X.xe s
def a7s(X:Cx)(r:V -> Hp -> (Bool -> Hp -> Prop) -> Prop):Prop:=
 ∀(pins:List (Addr×Obj)) (s:ai) (σ:St) (H:Hp) (x:V) (v:af) (Q:Bool -> Hp -> Prop),Inv X pins σ H s -> RelV x v -> r x H Q ->
  wpAny (model X.prog X.w) X.A (truthy v) (TP X pins σ Q) X.xe s
noncomputable def tOp(r:R2)(ta tb:TE):TE:=fun σ H Q=> ta σ H fun x H1=> tb σ H1 fun y H2=> r x y H2 Q
noncomputable def rI(C:Int -> Int -> Prop)(g:Int -> Int -> V):R2:=fun x y H Q=> ∃i j,x=.int i/\y=.int j/\C i j/\Q (g i j) H
noncomputable def rI0(g:Int -> Int -> V):R2:=fun x y H Q=> ∃i j,x=.int i/\y=.int j/\Q (g i j) H
section
variable{X:Cx}{a b c:Expr}{ta tb tc:TE}{pos:Pos}
theorem aua(ha:PE X a ta)(hb:PE X b tb){R:V -> V -> Hp -> Prop}(I:Inv X pins σ H s)(h:ta σ H fun x H1=> tb σ H1 fun y H2=> R x y H2){f:af -> af -> Sem af}(hf: ∀v u s2 x y H2,Inv X pins σ H2 s2 -> RelV x v -> RelV y u -> R x y H2 -> wpAny (model X.prog X.w) X.A (f v u) Q X.xe s2):
  wpAny (model X.prog X.w) X.A (eval a X.env) (fun v s₁=> wpAny (model X.prog X.w) X.A (eval b X.env) (fun u s₂=> wpAny (model X.prog X.w) X.A (f v u) Q X.xe s₂) X.xe s₁) X.xe s:=by
 refine thn (ha pins s σ H _ I h) fun v s1 ⟨x,H1,I1,r1,q1⟩=> ?_
 refine thn (hb pins s1 σ H1 _ I1 q1) fun u s2 ⟨y,H2,I2,r2,q2⟩=> ?_
 exact hf v u s2 x y H2 I2 r1 r2 q2
theorem a71{op:lq}{r:R2}(ho:OpR X (binaryOp op) r)(ha:PE X a ta)(hb:PE X b tb):PE X (.BinOp a op b pos) (tOp r ta tb):=by
 (first|refine⟨?_⟩|skip);intro pins s σ H Q I h
 exact wpAny_BinOp (aua ha hb I h fun v u s2 x y H2 I2 rx ry q=> ho pins s2 σ H2 x y v u Q I2 rx ry q)
theorem opI{f:af -> af -> Sem af}{C:Int -> Int -> Prop}{g:Int -> Int -> Int}
  (rule: ∀(i j:Int) (t u:Tok) (s:ai) (Q:af -> ai -> Prop) (E:af -> ai -> Prop),C i j -> Q (.int (g i j) s.toks) {s with toks:=s.toks+1} -> wpAny (model X.prog X.w) X.A (f (.int i t) (.int j u)) Q E s):
  OpR X f (rI C fun i j=>.int (g i j)):=by
 (first|refine⟨?_⟩|skip);intro pins s σ H x y v u Q I rx ry h
 obtain⟨i,j,rfl,rfl,hc,q⟩:=h
 obtain⟨t,rfl⟩:=rx
 obtain⟨t',rfl⟩:=ry
 exact rule i j t t' s _ _ hc ⟨.int (g i j),H,I.tok _,⟨_,rfl⟩,q⟩
theorem a35{f:af -> af -> Sem af}{g:Int -> Int -> Int}
  (rule: ∀(i j:Int) (t u:Tok) (s:ai) (Q:af -> ai -> Prop) (E:af -> ai -> Prop),Q (.int (g i j) s.toks) {s with toks:=s.toks+1} -> wpAny (model X.prog X.w) X.A (f (.int i t) (.int j u)) Q E s):
  OpR X f (rI0 fun i j=>.int (g i j)):=by
 (first|refine⟨?_⟩|skip);intro pins s σ H x y v u Q I rx ry h
 obtain⟨i,j,rfl,rfl,q⟩:=h
 obtain⟨t,rfl⟩:=rx
 obtain⟨t',rfl⟩:=ry
 exact rule i j t t' s _ _ ⟨.int (g i j),H,I.tok _,⟨_,rfl⟩,q⟩
theorem aqj{f:af -> af -> Sem af}{g:Int -> Int -> Bool}
  (rule: ∀(i j:Int) (t u:Tok) (s:ai) (Q:af -> ai -> Prop) (E:af -> ai -> Prop),Q (.bool (g i j)) s -> wpAny (model X.prog X.w) X.A (f (.int i t) (.int j u)) Q E s):
  OpR X f (rI0 fun i j=>.bl (g i j)):=by
 (first|refine⟨?_⟩|skip);intro pins s σ H x y v u Q I rx ry h
 obtain⟨i,j,rfl,rfl,q⟩:=h
 obtain⟨t,rfl⟩:=rx
 obtain⟨t',rfl⟩:=ry
 exact rule i j t t' s _ _ ⟨.bl (g i j),H,I,rfl,q⟩
def aqk(i j:Int):Prop:=0 < j/\j < 1073741824
def aq6(i j:Int):Prop:=0 <=j/\j <=1000000/\i.natAbs < 2^64
def ain(i j:Int):Prop:=(-(2^64) < i/\i < 2^64)\/(-(2^64) < j/\j < 2^64)
theorem ain.ok{i j:Int}(h:ain i j):IntMulOk i j:=by
 rcases h with ⟨h1,h2⟩|⟨h1,h2⟩
 ·exact .of_left (intBits_le_64 h1 h2)
 ·exact .of_right (intBits_le_64 h1 h2)
theorem at4:OpR X (binaryOp .Add) (rI0 fun i j=>.int (i+j)):=a35 fun _ _ _ _ _ _ _ q=> add_int q
theorem ams:OpR X (binaryOp .Sub) (rI0 fun i j=>.int (i - j)):=a35 fun _ _ _ _ _ _ _ q=> sub_int q
theorem a40:OpR X (binaryOp .Mult) (rI ain fun i j=>.int (i*j)):=opI fun _ _ _ _ _ _ _ hc q=> mul_int q hc.ok
theorem a05:OpR X (binaryOp .FloorDiv) (rI aqk fun i j=>.int (i/j)):=opI fun i j _ _ _ _ _ hc q=> by
 have h1:(0:Int) < j:=hc.1
 have h2:j < 1073741824:=hc.2
 exact floordiv_int (by lia) (by rw [Int.fdiv_eq_ediv_of_nonneg i (by lia)];exact q) (.inl (PyProof.noPylong_small (by lia)))
theorem a4n:OpR X (binaryOp .Mod) (rI (fun _ j=> 0 < j) fun i j=>.int (i % j)):=opI fun i j _ _ _ _ _ hc q=> by
 have h1:(0:Int) < j:=hc
 exact mod_int' (by lia) (by rw [Int.fmod_eq_emod_of_nonneg i (by lia)];exact q)
theorem a4b:OpR X (binaryOp .Pow) (rI aq6 fun i j=>.int (i^j.toNat)):=opI fun _ _ _ _ _ _ _ hc q=> pow_int_small hc.1 hc.2.1 hc.2.2 q
end
noncomputable def a50:V -> V -> Bool
 |.non,.non=> true|.non,.int _=> true|.int _,.non=> true|.non,.bl _=> true|.bl _,.non=> true|.non,.str _=> true|.str _,.non=> true
 |.int _,.int _=> true|.bl _,.bl _=> true|.str _,.str _=> true|.byt _,.byt _=> true
 |.int _,.str _=> true|.str _,.int _=> true|.bl _,.str _=> true|.str _,.bl _=> true
 |_,_=> false
def rEq:R2:=fun x y H Q=> a50 x y=true/\Q (.bl (decide (x=y))) H
def rNe:R2:=fun x y H Q=> a50 x y=true/\Q (.bl (!decide (x=y))) H
theorem ao6{i j:Int}:decide (V.int i=V.int j)=(i==j):=by
 rw [aW]
 simp
theorem ate{i j:Bool}:decide (V.bl i=V.bl j)=(i==j):=by
 rw [aW]
 simp
theorem ap7{i j:Str}:decide (V.str i=V.str j)=(i==j):=by
 rw [aW]
 simp
theorem aof{i j:Array UInt8}:decide (V.byt i=V.byt j)=(i.toList==j.toList):=by
 rw [aW]
 cases i
 cases j
 simp
section
variable{X:Cx}{a b c:Expr}{ta tb tc:TE}{pos:Pos}
theorem jz{Q:VK}{k k':Bool}(I:Inv X pins σ H s)(q:Q (.bl k) H)(e:k=k'):EP X pins σ Q (.bool k') s:=by
 subst e
 exact⟨.bl k,H,I,rfl,q⟩
theorem a6v:OpR X (aT .Eq) rEq:=by
 (first|refine⟨?_⟩|skip);intro pins s σ H x y v u Q I rx ry h
 obtain⟨hs,q⟩:=h
 cases x with
 |non=>
  cases rx
  cases y with
  |non=> cases ry;exact PySem.EqNone.eq_none_none (jz I q (by simp))
  |bl j=> cases ry;exact PySem.EqNone.eq_none_bool (jz I q (by simp))
  |int j=> obtain⟨t',rfl⟩:=ry;exact PySem.EqNone.eq_none_int (jz I q (by simp))
  |str j=> obtain⟨t',rfl⟩:=ry;exact PySem.EqNone.eq_none_str (jz I q (by simp))
  |_=> exact absurd (show false=true from hs) am
 |bl i=>
  cases rx
  cases y with
  |non=> cases ry;exact PySem.EqNone.eq_bool_none (jz I q (by simp))
  |bl j=> cases ry;exact eq_bool (jz I q ate)
  |str j=> obtain⟨t',rfl⟩:=ry;exact PySem.EqMixed.eq_bool_str (jz I q (by simp))
  |_=> exact absurd (show false=true from hs) am
 |int i=>
  obtain⟨t,rfl⟩:=rx
  cases y with
  |non=> cases ry;exact PySem.EqNone.eq_int_none (jz I q (by simp))
  |int j=> obtain⟨t',rfl⟩:=ry;exact eq_int (jz I q ao6)
  |str j=> obtain⟨t',rfl⟩:=ry;exact PySem.EqMixed.eq_int_str (jz I q (by simp))
  |_=> exact absurd (show false=true from hs) am
 |str i=>
  obtain⟨t,rfl⟩:=rx
  cases y with
  |non=> cases ry;exact PySem.EqNone.eq_str_none (jz I q (by simp))
  |bl j=> cases ry;exact PySem.EqMixed.eq_str_bool (jz I q (by simp))
  |int j=> obtain⟨t',rfl⟩:=ry;exact PySem.EqMixed.eq_str_int (jz I q (by simp))
  |str j=> obtain⟨t',rfl⟩:=ry;exact eq_str (jz I q ap7)
  |_=> exact absurd (show false=true from hs) am
 |byt i=>
  obtain⟨t,rfl⟩:=rx
  cases y with
  |byt j=> obtain⟨t',rfl⟩:=ry;exact PySem.W.eq_bytes (jz I q aof)
  |_=> exact absurd (show false=true from hs) am
 |_=> cases y <;> exact absurd (show false=true from hs) am
theorem a7a:OpR X (aT .NotEq) rNe:=by
 (first|refine⟨?_⟩|skip);intro pins s σ H x y v u Q I rx ry h
 obtain⟨hs,q⟩:=h
 cases x with
 |non=>
  cases rx
  cases y with
  |non=> cases ry;exact PySem.EqNone.ne_none_none (jz I q (by simp))
  |bl j=> cases ry;exact PySem.EqNone.ne_none_bool (jz I q (by simp))
  |int j=> obtain⟨t',rfl⟩:=ry;exact PySem.EqNone.ne_none_int (jz I q (by simp))
  |str j=> obtain⟨t',rfl⟩:=ry;exact PySem.EqNone.ne_none_str (jz I q (by simp))
  |_=> exact absurd (show false=true from hs) am
 |bl i=>
  cases rx
  cases y with
  |non=> cases ry;exact PySem.EqNone.ne_bool_none (jz I q (by simp))
  |bl j=> cases ry;exact ne_bool (jz I q (congrArg not ate))
  |str j=> obtain⟨t',rfl⟩:=ry;exact PySem.EqMixed.ne_bool_str (jz I q (by simp))
  |_=> exact absurd (show false=true from hs) am
 |int i=>
  obtain⟨t,rfl⟩:=rx
  cases y with
  |non=> cases ry;exact PySem.EqNone.ne_int_none (jz I q (by simp))
  |int j=> obtain⟨t',rfl⟩:=ry;exact ne_int (jz I q (congrArg not ao6))
  |str j=> obtain⟨t',rfl⟩:=ry;exact PySem.EqMixed.ne_int_str (jz I q (by simp))
  |_=> exact absurd (show false=true from hs) am
 |str i=>
  obtain⟨t,rfl⟩:=rx
  cases y with
  |non=> cases ry;exact PySem.EqNone.ne_str_none (jz I q (by simp))
  |bl j=> cases ry;exact PySem.EqMixed.ne_str_bool (jz I q (by simp))
  |int j=> obtain⟨t',rfl⟩:=ry;exact PySem.EqMixed.ne_str_int (jz I q (by simp))
  |str j=> obtain⟨t',rfl⟩:=ry;exact ne_str (jz I q (congrArg not ap7))
  |_=> exact absurd (show false=true from hs) am
 |byt i=>
  obtain⟨t,rfl⟩:=rx
  cases y with
  |byt j=> obtain⟨t',rfl⟩:=ry;exact PySem.W.ne_bytes (jz I q (congrArg not aof))
  |_=> exact absurd (show false=true from hs) am
 |_=> cases y <;> exact absurd (show false=true from hs) am
theorem a5z:OpR X (aT .Lt) (rI0 fun i j=>.bl (decide (i < j))):=aqj fun _ _ _ _ _ _ _ q=> lt_int q
theorem a5i:OpR X (aT .LtE) (rI0 fun i j=>.bl (decide (i <=j))):=aqj fun _ _ _ _ _ _ _ q=> le_int q
theorem a7e:OpR X (aT .Gt) (rI0 fun i j=>.bl (decide (j < i))):=aqj fun _ _ _ _ _ _ _ q=> gt_int q
theorem a6q:OpR X (aT .GtE) (rI0 fun i j=>.bl (decide (j <=i))):=aqj fun _ _ _ _ _ _ _ q=> ge_int q
theorem arl:OpR X (aT .Lt) (fun x y H Q=> ∃i j,x=.str i/\y=.str j/\Q (.bl (decide (i.cps.toList < j.cps.toList))) H):=by
 (first|refine⟨?_⟩|skip);intro pins s σ H x y v u Q I rx ry h
 obtain⟨i,j,rfl,rfl,q⟩:=h
 obtain⟨t,rfl⟩:=rx
 obtain⟨t',rfl⟩:=ry
 exact lt_str (jz I q rfl)
theorem ash:OpR X (aT .In) (fun x y H Q=> ∃i j,x=.str i/\y=.str j/\Q (.bl (!(eg j i 0 j.length 1).isEmpty)) H):=by
 (first|refine⟨?_⟩|skip);intro pins s σ H x y v u Q I rx ry h
 obtain⟨i,j,rfl,rfl,q⟩:=h
 obtain⟨t,rfl⟩:=rx
 obtain⟨t',rfl⟩:=ry
 exact in_str (jz I q rfl)
theorem a41:OpR X (aT .Is) (fun x y H Q=> y=.non/\Q (.bl (decide (x=.non))) H):=by
 (first|refine⟨?_⟩|skip);intro pins s σ H x y v u Q I rx ry h
 obtain⟨rfl,q⟩:=h
 cases ry
 refine is_none_gen (jz I q ?_)
 cases x <;> first
  |(cases rx;rfl)
  |(obtain⟨t,rfl⟩:=rx;rfl)
theorem a0g:OpR X (aT .IsNot) (fun x y H Q=> y=.non/\Q (.bl (!decide (x=.non))) H):=by
 (first|refine⟨?_⟩|skip);intro pins s σ H x y v u Q I rx ry h
 obtain⟨rfl,q⟩:=h
 cases ry
 refine isnot_none_gen (jz I q ?_)
 cases x <;> first
  |(cases rx;rfl)
  |(obtain⟨t,rfl⟩:=rx;rfl)
theorem als:OpR X (aT .NotIn) (fun x y H Q=> ∃i j,x=.str i/\y=.str j/\Q (.bl (!(!(eg j i 0 j.length 1).isEmpty))) H):=by
 (first|refine⟨?_⟩|skip);intro pins s σ H x y v u Q I rx ry h
 obtain⟨i,j,rfl,rfl,q⟩:=h
 obtain⟨t,rfl⟩:=rx
 obtain⟨t',rfl⟩:=ry
 exact notIn_str (jz I q rfl)
theorem ary(b:Expr)(h:op≠ .In:=by decide)(h2:op≠ .NotIn:=by decide):fw op b=false:=by
 have e1:(op==CmpOp.In)=false:=by cases op <;> first|rfl|exact absurd rfl h
 have e2:(op==CmpOp.NotIn)=false:=by cases op <;> first|rfl|exact absurd rfl h2
 cases b <;> simp [fw,e1,e2]
theorem a0i{r:R2}(ho:OpR X (aT op) r)(ha:PE X a ta)(hb:PE X b tb)(hm:fw op b=false):PE X (.Compare a [op] [b] pos) (tOp r ta tb):=by
 (first|refine⟨?_⟩|skip);intro pins s σ H Q I h
 exact wpAny_Compare1 (aua ha hb I h fun v u s2 x y H2 I2 rx ry q=> ho pins s2 σ H2 x y v u Q I2 rx ry q) hm
noncomputable def apc(t:TE):TT:=fun σ H Q=> t σ H fun x H'=> ∃k,x=.bl k/\Q k H'
theorem azf{r:R2}(ho:OpR X (aT op) r)(ha:PE X a ta)(hb:PE X b tb)(hm:fw op b=false):PT X (.Compare a [op] [b] pos) (apc (tOp r ta tb)):=by
 (first|refine⟨?_⟩|skip);intro pins s σ H Q I h
 refine wpAny_isTrue_Compare1 (thn (ha pins s σ H _ I h) fun v s1 ⟨x,H1,I1,r1,q1⟩=> thn (hb pins s1 σ H1 _ I1 q1) fun u s2 ⟨y,H2,I2,r2,q2⟩=>
  thn (ho pins s2 σ H2 x y v u _ I2 r1 r2 q2) fun c s3 ⟨z,H3,I3,r3,k,e,q3⟩=> ?_) hm
 subst e
 cases r3
 exact cC ⟨H3,I3,q3⟩
noncomputable def amu(r r':R2)(ta tb tc:TE):TE:=fun σ H Q=> ta σ H fun x H1=> tb σ H1 fun y H2=> r x y H2 fun z H3=> ∃k,z=.bl k/\
 (if k=true then tc σ H3 fun w' H4=> r' y w' H4 Q else Q (.bl false) H3)
theorem axm{op':me}{r r':R2}(ho:OpR X (aT op) r)(ho':OpR X (aT op') r')(ha:PE X a ta)(hb:PE X b tb)(hc:PE X c tc)(hm:lW [op,op'] [b,c]=false:=by with_unfolding_all rfl):PE X (.Compare a [op,op'] [b,c] pos) (amu r r' ta tb tc):=by
 (first|refine⟨?_⟩|skip);intro pins s σ H Q I h
 refine Compare_chain (thn (ha pins s σ H _ I h) fun v s1 ⟨x,H1,I1,r1,q1⟩=> chain_link (thn (hb pins s1 σ H1 _ I1 q1) fun u s2 ⟨y,H2,I2,r2,q2⟩=>
  thn (ho pins s2 σ H2 x y v u _ I2 r1 r2 q2) fun d s3 ⟨z,H3,I3,r3,k,e,q3⟩=> ?_)) hm
 subst e
 cases r3
 refine cC ?_
 cases k with
 |false=> exact ite_ff ⟨.bl false,H3,I3,rfl,q3⟩
 |true=> exact ite_tt (chain_last (thn (hc pins s3 σ H3 _ I3 q3) fun w' s4 ⟨z',H4,I4,r4,q4⟩=> ho' pins s4 σ H4 y z' u w' Q I4 r2 r4 q4))
theorem aul{op':me}{r r':R2}(ho:OpR X (aT op) r)(ho':OpR X (aT op') r')(ha:PE X a ta)(hb:PE X b tb)(hc:PE X c tc)(hm:lW [op,op'] [b,c]=false:=by with_unfolding_all rfl):PT X (.Compare a [op,op'] [b,c] pos) (apc (amu r r' ta tb tc)):=by
 (first|refine⟨?_⟩|skip);intro pins s σ H Q I h
 refine isTrue_chain (thn (ha pins s σ H _ I h) fun v s1 ⟨x,H1,I1,r1,q1⟩=> test_link (thn (hb pins s1 σ H1 _ I1 q1) fun u s2 ⟨y,H2,I2,r2,q2⟩=>
  thn (ho pins s2 σ H2 x y v u _ I2 r1 r2 q2) fun d s3 ⟨z,H3,I3,r3,k,e,q3⟩=> ?_)) hm
 subst e
 cases r3
 refine cC ?_
 cases k with
 |false=>
  obtain⟨k',e',q'⟩:=q3
  cases e'
  exact ite_ff ⟨H3,I3,q'⟩
 |true=>
  refine ite_tt (test_last (thn (hc pins s3 σ H3 _ I3 q3) fun w' s4 ⟨z',H4,I4,r4,q4⟩=> thn (ho' pins s4 σ H4 y z' u w' _ I4 r2 r4 q4) fun d' s5 ⟨z2,H5,I5,r5,k2,e2,q5⟩=> ?_))
  subst e2
  cases r5
  exact cC ⟨H5,I5,q5⟩
def a5a(K:aj)(x:V)(H:Hp)(k:Bool):Prop:=
 match x with
 |.non=> k=false
 |.bl b=> k=b
 |.int i=> k=(i !=0)
 |.str y=> y.length <=sizeLine/\k=((y.length:Int) !=0)
 |.byt y=> y.size <=sizeLine/\k=((y.size:Int) !=0)
 |.ref p=> (∃xs,SqL K H p xs/\k= !xs.isEmpty)\/(∃xs,SqT K H p xs/\k= !xs.isEmpty)\/ ∃kvs,H p=some (.dK kvs)/\k= !kvs.isEmpty
 |_=> False
theorem ar5{κ:Type}{kvs:List (κ×V)}{vs:List (κ×af)}(r:KV kvs vs):(!vs.isEmpty)= !kvs.isEmpty:=by
 cases r <;> rfl
theorem ai3(r:jo xs its):(!its.toArray.isEmpty)= !xs.isEmpty:=by
 cases r <;> simp
theorem abo:(sizeLine:Nat) < 2^63:=by rw [sizeLine_eq];decide
theorem a3g:a7s X (fun x H Q=> ∃k,a5a X.K x H k/\Q k H):=by
 (first|refine⟨?_⟩|skip);intro pins s σ H x v Q I rx h
 obtain⟨k,e,q⟩:=h
 have hl:=abo
 have hs:sizeLine=16777216:=sizeLine_eq
 cases x with
 |non=>
  cases rx
  have e':k=false:=e
  subst e'
  exact truthy_none ⟨H,I,q⟩
 |bl b=>
  cases rx
  have e':k=b:=e
  subst e'
  exact cC ⟨H,I,q⟩
 |int i=>
  obtain⟨t,rfl⟩:=rx
  have e':k=(i !=0):=e
  subst e'
  exact PySem.P.truthy_int ⟨H,I,q⟩
 |str y=>
  obtain⟨t,rfl⟩:=rx
  obtain⟨hy,e'⟩:y.length <=sizeLine/\k=((y.length:Int) !=0):=e
  subst e'
  exact PySem.P.truthy_str (by lia) ⟨H,I.tok _,q⟩
 |byt y=>
  obtain⟨t,rfl⟩:=rx
  obtain⟨hy,e'⟩:y.size <=sizeLine/\k=((y.size:Int) !=0):=e
  subst e'
  exact PySem.W.truthy_bytes (by lia) ⟨H,I.tok _,q⟩
 | ref p=>
  cases rx
  have e':(∃xs,SqL X.K H p xs/\k= !xs.isEmpty)\/(∃xs,SqT X.K H p xs/\k= !xs.isEmpty)\/ ∃kvs,H p=some (.dK kvs)/\k= !kvs.isEmpty:=e
  rcases e' with ⟨xs,hx,e'⟩|⟨xs,hx,e'⟩|⟨kvs,hx,e'⟩
  ·subst e'
   obtain⟨its,r,pl,hz⟩:=I.list hx
   have hlen:=r.length
   exact wpAny_truthy_list pl.isList (by simp only [az];lia) ⟨H,I.tok _,by rw [ai3 r];exact q⟩
  ·subst e'
   obtain⟨its,r,pl,hz⟩:=I.tuple hx
   have hlen:=r.length
   exact truthy_tuple pl (by simp only [az];lia) ⟨H,I.tok _,by rw [ai3 r];exact q⟩
  ·subst e'
   obtain⟨hz,hS,vs,r,m⟩:kvs.length <=sizeLine/\(p==eZ)=false/\ ∃vs,KV kvs vs/\s.heap.DictOf (acx X.prog X.w) p vs:=I.hok p _ hx
   have hlen:kvs.length=vs.length:=Paired.length r
   exact wpAny_truthy_dict hS m (by lia) ⟨H,I.tok _,by rw [ar5 r];exact q⟩
 |_=> exact (show False from e).elim
theorem awu(ha:PE X a ta)(he: ∀whole,isTrue a X.env whole=(do let v←whole;standAt a.pos;holding [v] (truthy v))):
  PT X a (fun σ H Q=> ta σ H fun x H'=> ∃k,a5a X.K x H' k/\Q k H'):=by
 (first|refine⟨?_⟩|skip);intro pins s σ H Q I h
 exact isTrue_plain (thn (ha pins s σ H _ I h) fun v s1 ⟨x,H1,I1,r1,q1⟩=> a3g pins s1 σ H1 x v Q I1 r1 q1) (he _)
theorem apl:OpR X (binaryOp .Add) (fun x y H Q=> ∃i j,x=.str i/\y=.str j/\i.length+j.length <=sizeLine/\Q (.str (i++j)) H):=by
 (first|refine⟨?_⟩|skip);intro pins s σ H x y v u Q I rx ry h
 obtain⟨i,j,rfl,rfl,hz,q⟩:=h
 obtain⟨t,rfl⟩:=rx
 obtain⟨t',rfl⟩:=ry
 exact add_str (fun t' tk=> ⟨.str (i++j),H,I.tok _,⟨_,rfl⟩,q⟩) hz
theorem vals1{x:V}(r:jo [x] us): ∃u,us=[u]/\RelV x u:=by
 cases r with
 |cons r1 r2=> cases r2;exact⟨_,rfl,r1⟩
theorem vals2{x y:V}(r:jo [x,y] us): ∃u w',us=[u,w']/\RelV x u/\RelV y w':=by
 cases r with
 |cons r1 r2=>
  cases r2 with
  |cons r3 r4=> cases r4;exact⟨_,_,rfl,r1,r3⟩
theorem arb(hc:X.calm=true):va X (.builtin "max") (fun xs H Q=> ∃i j,xs=[.int i,.int j]/\Q (.int (if j > i then j else i)) H):=by
 (first|refine⟨?_⟩|skip);intro pins s σ H xs us Q I r h
 obtain⟨i,j,rfl,q⟩:=h
 obtain⟨u,w',rfl,⟨t,rfl⟩,⟨t',rfl⟩⟩:=vals2 r
 refine max_two_ints (I.ok.hd hc) fun h' tk k=> ⟨_,H,I.kept k,?_,q⟩
 by_cases hj:j > i
 ·rw [if_pos hj,if_pos hj];exact⟨_,rfl⟩
 ·rw [if_neg hj,if_neg hj];exact⟨_,rfl⟩
theorem atu(hc:X.calm=true):va X (.builtin "min") (fun xs H Q=> ∃i j,xs=[.int i,.int j]/\Q (.int (if j < i then j else i)) H):=by
 (first|refine⟨?_⟩|skip);intro pins s σ H xs us Q I r h
 obtain⟨i,j,rfl,q⟩:=h
 obtain⟨u,w',rfl,⟨t,rfl⟩,⟨t',rfl⟩⟩:=vals2 r
 refine min_two_ints (I.ok.hd hc) fun h' tk k=> ⟨_,H,I.kept k,?_,q⟩
 by_cases hj:j < i
 ·rw [if_pos hj,if_pos hj];exact⟨_,rfl⟩
 ·rw [if_neg hj,if_neg hj];exact⟨_,rfl⟩
end
structure ObjM (h:Heap) (x dx C:Addr) (mA:Str -> Option af):Prop where
 obj:h.get? x=some (jQ C dx)
 ns:h.Ns1 dx mA
 ne:dx≠x
theorem aj7{dx:Addr}(n:h.Ns1 dx mA): ∃od,h.get? dx=some od/\ ∀name,kL name od=some (mA name):=by
 obtain⟨o,es,ep,ho,hd,hk,_,hm⟩:=n
 refine⟨o,ho,fun name=> ?_⟩
 have e:=hm name
 unfold nsFind findBy at e
 rw [←Array.find?_toList]at e
 unfold kL
 rw [hd]
 dsimp only
 split
 ·rename_i y q
  rw [q]at e
  exact congrArg some e
 ·rename_i q
  rw [q]at e
  have a:es.toList.any (·.refKey)=false:=by
   rw [iO]
   intro y hy
   obtain⟨z,t,hkey⟩:=hk y (Array.mem_toList_iff.mp hy)
   simp [DictEntry.refKey,hkey]
  have a': ¬es.toList.any (·.refKey)=true:=by rw [a];exact am
  rw [if_neg a']
  exact congrArg some e
theorem ObjM.look{x dx:Addr}(I:ObjM h x dx C mA): ∃od,PySem.W.InstAt h x (jQ C dx) C (some od)/\ ∀name,kL name od=some (mA name):=
 let ⟨od,ho,hl⟩:=aj7 I.ns
 ⟨od,⟨I.obj,rfl,rfl,ho⟩,hl⟩
noncomputable def vi(f:Str)(v:V):List (Str×V) -> List (Str×V)
 |[]=> [(f,v)]
 |(g,x)::r=> if g=f then (g,v)::r else (g,x)::vi f v r
theorem acq(f g:Str)(v:V): ∀fs:List (Str×V),(vi f v fs).lookup g=if g=f then some v else fs.lookup g
 | []=> by
  show dU g [(f,v)]=_
  by_cases h:g=f
  ·have hb:(g==f)=true:=beq_iff_eq.mpr h
   simp only [dU,hb,if_pos h]
  ·have hb:(g==f)=false:=beq_eq_false_iff_ne.mpr h
   simp only [dU,hb,if_neg h]
 | (k,x)::r=> by
  have ih:=acq f g v r
  rw [show vi f v ((k,x)::r)=(if k=f then (k,v)::r else (k,x)::vi f v r) from rfl]
  by_cases hk:k=f
  ·rw [if_pos hk]
   by_cases h:g=k
   ·have hb:(g==k)=true:=beq_iff_eq.mpr h
    simp only [dU,hb,if_pos (h.trans hk)]
   ·have hb:(g==k)=false:=beq_eq_false_iff_ne.mpr h
    simp only [dU,hb,if_neg (fun e:g=f=> h (e.trans hk.symm))]
  ·rw [if_neg hk]
   by_cases h:g=k
   ·have hb:(g==k)=true:=beq_iff_eq.mpr h
    simp only [dU,hb,if_neg (fun e:g=f=> hk (h.symm.trans e))]
   ·have hb:(g==k)=false:=beq_eq_false_iff_ne.mpr h
    simp only [dU,hb]
    exact ih
theorem ac8(f:Str)(v:V): ∀fs:List (Str×V),f∈(vi f v fs).map (·.1)/\ ∀g,g∈fs.map (·.1) -> g∈(vi f v fs).map (·.1)
 |[]=> ⟨by simp [vi],fun g h=> by simp at h⟩
 | (k,x)::r=> by
  obtain⟨i1,i2⟩:=ac8 f v r
  rw [show vi f v ((k,x)::r)=(if k=f then (k,v)::r else (k,x)::vi f v r) from rfl]
  by_cases hk:k=f
  ·rw [if_pos hk]
   subst hk
   exact⟨by simp,fun g h=> by simpa using h⟩
  ·rw [if_neg hk]
   refine⟨?_,fun g h=> ?_⟩
   ·rw [aJ]
    exact aB _ i1
   ·rw [aJ]at h⊢
    rcases aw.mp h with e|e
    ·exact aw.mpr (.inl e)
    ·exact aB _ (i2 g e)
theorem afz(f:Str)(v:V): ∀fs:List (Str×V),(vi f v fs).length <=fs.length+1
 |[]=> by simp [vi]
 |(k,x)::r=> by
  have ih:=afz f v r
  rw [show vi f v ((k,x)::r)=(if k=f then (k,v)::r else (k,x)::vi f v r) from rfl]
  by_cases hk:k=f
  ·rw [if_pos hk,aM,aM];lia
  ·rw [if_neg hk,aM,aM];lia
theorem ab4.some_of{o:Option af}(r:ab4 (some v) o): ∃u,o=some u/\RelV v u:=by
 cases o with
 |none=> exact (show False from r).elim
 |some u=> exact⟨u,rfl,r⟩
theorem asw(r:RelV v u):PySem.W.handedIn u=true:=by
 cases v with
 |non=> cases (show u=bF from r);rfl
 |bl b=> cases (show u=eD b from r);rfl
 |int i=> obtain⟨t,e⟩:=(show∃t,u=dq i t from r);cases e;rfl
 |str x=> obtain⟨t,e⟩:=(show∃t,u=eT x t from r);cases e;rfl
 |byt b=> obtain⟨t,e⟩:=(show∃t,u=Value.bytes b t from r);cases e;rfl
 |flt b=> obtain⟨t,e⟩:=(show∃t,u=mh b t from r);cases e;rfl
 |ref a=> cases (show u=aD a from r);rfl
 |ty n=> cases (show u=cG n from r);rfl
section
variable{P:aQ}{w:aU}{H H':Hp}{h h':Heap}{a C dx:Addr}{fs fs':List (Str×V)}
theorem a1e(hok:HOk P w H h)(e:H a=some (.ins C dx fs)): ∃mA,ObjM h a dx C mA/\(∀f,ab4 (fs.lookup f) (mA f))/\dZ mA (fs.map (·.1))/\fs.length <=1000/\H dx=some (.own a):=by
 obtain⟨d,z,ne,ob,mA,n,r,q⟩:=(show j5 P w H h a (.ins C dx fs) from hok a _ e)
 exact⟨mA,⟨ob,n,ne⟩,r,q,z,d⟩
end
structure Cls (K:aj) (C:Addr):Prop where
 pg:PySem.W.plainGet K C Str.empty=true
 hd:PySem.W.hasDictIn K C=true
 po:PySem.W.plainOver K C=true
 sa:cn K (.ref C) "__setattr__"=some (some (.builtin "object.__setattr__"))
theorem Cls.get(c:Cls K C)(f:Str):PySem.W.plainGet K C f=true:=c.pg
def yi(K:aj)(C:Addr)(f:Str):Prop:=cn K (.ref C) f=some none
section
variable{X:Cx}{pins:List (Addr×Obj)}{σ:St}{H:Hp}{s:ai}{a C dx:Addr}{fs:List (Str×V)}{f:Str}{v:V}{A:bf}{E:af -> ai -> Prop}
theorem azz{f:Str}(hb:gB e f env (eval e env)=eval e env)(h:wpAny (model prog w) A (eval e env) (fun o s₁=> wpAny (model prog w) A (getAttr o f true) Q E s₁) E s):wpAny (model prog w) A (eval (.Attribute e f pos) env) Q E s:=
 Attribute_any_ h (by rw [arm_eval_Attribute,hb])
end
section
variable{X:Cx}{pins:List (Addr×Obj)}{σ:St}{H:Hp}{s:ai}{A:bf}{E:af -> ai -> Prop}{Q:af -> ai -> Prop}{c:af}{b:Bool}
inductive TyOf (K:aj) (H:Hp):V -> af -> Prop where
 |non:TyOf K H .non (.type "NoneType")
 |bl (x:Bool):TyOf K H (.bl x) (.type "bool")
 |int (i:Int):TyOf K H (.int i) (.type "int")
 |str (x:Str):TyOf K H (.str x) (.type "str")
 |flt (x:UInt64):TyOf K H (.flt x) (.type "float")
 |lst {a:Addr} {xs:List V} (e:H a=some (.lst xs)):TyOf K H (.ref a) (.type "list")
 |frz {a:Addr} {o:Obj} {xs:List V} (e:H a=some (.frz o (.lst xs))):TyOf K H (.ref a) (.type "list")
 |tup {a:Addr} {xs:List V} (e:H a=some (.tup xs)):TyOf K H (.ref a) (.type "tuple")
 |dK {a:Addr} {kvs:List (Key×V)} (e:H a=some (.dK kvs)):TyOf K H (.ref a) (.type "dict")
 |dT {a:Addr} {kvs:List (List Key×V)} (e:H a=some (.dT kvs)):TyOf K H (.ref a) (.type "dict")
 | ins {a C dx:Addr} {fs:List (Str×V)} (e:H a=some (.ins C dx fs)) (cl:Cls K C) (ha:cn K (.ref C) "__class__"=some (some (.builtin "object.__class__")))
   (hn:eN K (.builtin "object.__class__") "__get__"=some (some (.builtin "getset_descriptor.__get__"))) (htk:jR K (.builtin "object.__class__")=some true)
   (hm:iH K C (.type "object")=some true):TyOf K H (.ref a) (.ref C)
theorem ajr{x:V}{t:af}(I:Inv X pins σ H s)(rx:RelV x u)(ty:TyOf X.K H x t)(e:bW X.K t c=some b)(h: ∀tk,Q (.bool b) {s with toks:=tk}):
  wpAny (model X.prog X.w) A (call (.builtin "isinstance") [u,c]) Q E s:=by
 cases ty with
 |non=> cases (show u=bF from rx);exact bZ PySem.W.kitx_none I.kIn de e (fun z=> nomatch z) h
 |bl y=> cases (show u=eD y from rx);exact bZ PySem.W.kitx_bool I.kIn de e (fun z=> nomatch z) h
 |int i=> obtain⟨t,q⟩:=(show∃t,u=dq i t from rx);cases q;exact bZ PySem.W.kitx_int I.kIn de e (fun z=> nomatch z) h
 |str y=> obtain⟨t,q⟩:=(show∃t,u=eT y t from rx);cases q;exact bZ PySem.W.kitx_str I.kIn de e (fun z=> nomatch z) h
 |flt y=> obtain⟨t,q⟩:=(show∃t,u=mh y t from rx);cases q;exact bZ PySem.W.kitx_float I.kIn de e (fun z=> nomatch z) h
 | @lst a xs ea=>
  cases (show u=aD a from rx)
  obtain⟨_,_,n,_,h1⟩:=(show j5 X.prog X.w H s.heap a (.lst xs) from I.hok a _ ea)
  exact bZ PySem.W.kitx_list I.kIn ⟨_,h1,rfl⟩ e (fun z=> nomatch z) h
 | @frz a ob xs ea=>
  cases (show u=aD a from rx)
  obtain⟨_,_,_,n,_,h1⟩:=(show j5 X.prog X.w H s.heap a (.frz ob (.lst xs)) from I.hok a _ ea)
  exact bZ PySem.W.kitx_list I.kIn ⟨_,h1,rfl⟩ e (fun z=> nomatch z) h
 | @tup a xs ea=>
  cases (show u=aD a from rx)
  obtain⟨_,_,_,p⟩:=(show j5 X.prog X.w H s.heap a (.tup xs) from I.hok a _ ea)
  obtain⟨o,h1,h2,_⟩:=p.tup
  exact bZ PySem.W.kitx_tuple I.kIn ⟨o,h1,h2⟩ e (fun z=> nomatch z) h
 | @dK a kvs ea=>
  cases (show u=aD a from rx)
  obtain⟨_,_,vs,_,p⟩:=(show j5 X.prog X.w H s.heap a (.dK kvs) from I.hok a _ ea)
  obtain⟨o,es,ep,h1,h2,_⟩:=p
  exact bZ PySem.W.kitx_dict I.kIn ⟨o,h1,h2.1⟩ e (fun z=> nomatch z) h
 | @dT a kvs ea=>
  cases (show u=aD a from rx)
  obtain⟨_,_,xs,_,o,es,ep,h1,h2,_⟩:=(show j5 X.prog X.w H s.heap a (.dT kvs) from I.hok a _ ea)
  exact bZ PySem.W.kitx_dict I.kIn ⟨o,h1,h2.1⟩ e (fun z=> nomatch z) h
 | @ins a C dx fs ea cl ha hn htk hm=>
  cases (show u=aD a from rx)
  obtain⟨mA,O,_⟩:=a1e I.hok ea
  obtain⟨od,J,_⟩:=O.look
  exact bZ (PySem.W.kitx_own (cl.get _) cl.hd ha hn htk hm) I.kIn J e (fun z=> nomatch z) h
end
structure Room (k:Nat) (A:bf):Prop where
 hd:A.handled=none
 dp:A.depth+3*k+5 < recursionLimit
 un:A.units+16*k+200 < cLine
 gd:A.guards=some []
theorem Room.mono(r:Room k A)(h:j <=k):Room j A:=⟨r.hd,by have:=r.dp;lia,by have:=r.un;lia,r.gd⟩
theorem Room.deeper(r:Room (k+1) A)(env:Env):Room k (A.deeper env):=
 ⟨r.hd,by have:=r.dp;show A.depth+1+3*k+5 < _;lia,by have:=r.un;show A.units+3+16*k+200 < _;lia,r.gd⟩
theorem aq3{kw:List (Str×af)}:(A.under (.builtin "type.__call__" ⟨.ref C::us,kw⟩)).depth=A.depth+1:=by
 first|rfl|simp [jB,Code.weight,Code.isCreation,Code.isGuard,Code.isCaller,Code.frames,lX,guardIds]
theorem ar4{kw:List (Str×af)}:(A.under (.builtin "type.__call__" ⟨.ref C::us,kw⟩)).units=A.units+1:=by
 first|rfl|simp [jB,Code.cUnits,Code.frames,lX]
theorem Room.make(r:Room (k+1) A)(C:Addr)(us:List af)(kw:List (Str×af)):Room k (A.under (.builtin "type.__call__" ⟨.ref C::us,kw⟩)):=
 ⟨r.hd,by have:=r.dp;rw [aq3];lia,by have:=r.un;rw [ar4];lia,by first|exact r.gd|(simpa [jB,Code.isGuard,guardIds] using r.gd)⟩
theorem Room.depth(r:Room k A):A.depth < recursionLimit:=by have:=r.dp;lia
noncomputable def a7o:TA:=fun _ H Q=> Q [] H
noncomputable def a67(ta:TE)(tr:TA):TA:=fun σ H Q=> ta σ H fun x H1=> tr σ H1 fun xs H2=> Q (x::xs) H2
section
variable{X:Cx}{e:Expr}{es:List Expr}{te:TE}{t:TA}{pos:Pos}
theorem acw:PA X [] a7o:=.mk <|fun _ _ _ _ H Q I h=> Calls.spliced_nil ⟨[],H,I,.nil,h⟩
theorem aa5(ha:PE X e te)(hr:PA X es t)(hs:starEach (e::es) X.env=(false,eval e X.env)::starEach es X.env:=by rfl):PA X (e::es) (a67 te t):=by
 (first|refine⟨?_⟩|skip);intro pos pins s σ H Q I h
 rw [hs]
 show wpAny _ _ (spliced ((false,eval e X.env)::backTo pos (starEach es X.env))) _ _ s
 refine Calls.spliced_cons (thn (ha pins s σ H _ I h) fun u s1 ⟨x,H1,I1,r1,q1⟩=> ?_)
 exact thn (hr pos pins s1 σ H1 _ I1 q1) fun us s2 ⟨xs,H2,I2,r2,q2⟩=> ⟨x::xs,H2,I2,.cons r1 r2,q2⟩
def a89(t:TA):TE:=fun σ H Q=> t σ H fun xs H1=> xs.length <=sizeLine/\ ∀p,H1 p=none -> Q (.ref p) (upd H1 p (.tup xs))
theorem a4o{x1}(h:PA X es t):PE X (.Tuple es x1 pos) (a89 t):=by
 (first|refine⟨?_⟩|skip);intro pins s σ H Q I hq
 refine lK (thn (h pos pins s σ H _ I hq) fun us s1 ⟨xs,H1,I1,r,z,q⟩=> ⟨by rw [←r.length];exact z,?_⟩)
 have hf:H1 s1.heap.objs.size=none:=I1.hok.fresh (aq _)
 refine⟨.ref s1.heap.objs.size,upd H1 s1.heap.objs.size (.tup xs),I1.laid (t':=s1.toks) (fun b u e=> ag _ e) (aq _) ?_,rfl,q _ hf⟩
 exact⟨z,us,r,⟨_,ar _ rfl⟩⟩
end
abbrev Sp:=List V -> Hp -> VK -> XK -> Prop
abbrev CXT:=List Env -> Hp -> ai -> XK -> af -> ai -> Prop
structure Env0 (P:aQ) (w:aU) (K:aj) (mg:Str -> Option af) (base:Heap) (A:bf) (outer:List Env) (s:ai) (H:Hp):Prop where
 frames:A.frames=some outer
 mod:Mod K mg base
 bs: ∀b o,base.get? b=some o -> s.heap.get? b=some o/\H b=none
 bsz:base.objs.size <=s.heap.objs.size
 funs:s.heap.FunFrames base outer
 frf: ∀b∈frs outer,H b=none
 hok:HOk P w H s.heap
 bare:f6 s.gens
def CE(outer:List Env)(P:aQ)(w:aU)(H:Hp)(s:ai)(Q:VK)(u:af)(s':ai):Prop:=
 ∃v H',s'.os=s.os/\f6 s'.gens/\Un (frs outer) [] H H' s.heap s'.heap/\HOk P w H' s'.heap/\RelV v u/\Q v H'
def CR(CX:CXT)(outer:List Env)(P:aQ)(w:aU)(H:Hp)(s:ai)(Q:VK)(E:XK)(r:gR)(s':ai):Prop:=
 match r with
 |.ok (.ret u)=> CE outer P w H s Q u s'
 |.ok _=> False
 |.error e=> CX outer H s E e s'
structure FnOk (P:aQ) (w:aU) (K:aj) (mg:Str -> Option af) (base:Heap) (CX:CXT) (k:Nat) (f:Addr) (fd:d5) (ps:List Str) (sp:Sp):Prop where
 len: ∀vs H Q E,sp vs H Q E -> vs.length=ps.length
 run: ∀(A:bf) (outer:List Env) (s:ai) (H:Hp) (args:Args) (us:List af) (vs:List V) (Q:VK) (E:XK),Room k A -> Env0 P w K mg base A outer s H -> kM s fd args (ps.zip us) -> jo vs us -> sp vs H Q E ->
  codeAny (model P w) A (.call (.ref f) args) (CR CX outer P w H s Q E) s
theorem Env0.make{outer:List Env}(e:Env0 P w K mg base A outer s H)(C:Addr)(us:List af)(kw:List (Str×af)):
  Env0 P w K mg base (A.under (.builtin "type.__call__" ⟨.ref C::us,kw⟩)) outer s H:=⟨by first|exact e.frames|(simpa [jB,Code.envs,lX,pushEnvs] using e.frames),e.mod,e.bs,e.bsz,e.funs,e.frf,e.hok,e.bare⟩
section
variable{X:Cx}{pins:List (Addr×Obj)}{σ:St}{H:Hp}{s s':ai}
theorem Inv.env0(I:Inv X pins σ H s):Env0 X.prog X.w X.K X.mg X.base X.A X.stack s H:=
 ⟨I.ok.frames,I.ok.mod,I.bs,ax I.ok.bsz I.sz,I.stack,I.stkFree,I.hok,I.bare⟩
theorem Inv.after{Q:VK}(I:Inv X pins σ H s)(h:CE X.stack X.prog X.w H s Q u s'):EP X pins σ Q u s':=by
 obtain⟨v,H',os,bare,un,hok,r,q⟩:=h
 obtain⟨hh,g,d,t,os'⟩:=s'
 obtain rfl:os'=s.os:=os
 exact⟨v,H',I.call (h':=hh) (g':=g) (d':=d) (t':=t) (ch:=[]) un hok bare (fun b z=> absurd z (by simp)),r,q⟩
end
noncomputable def ayf(sp:Sp)(dvs:List V)(E:SK)(t:TA):TE:=fun σ H Q=> t σ H fun vs H1=> sp (vs++dvs) H1 Q (E σ)
def Binds(K:aj)(fd:d5)(ps:List Str)(ds:List af):Prop:=
 ∀(s:ai) (us:List af),K.In s.heap -> (us++ds).length=ps.length -> kM s fd ⟨us,[]⟩ (ps.zip (us++ds))
theorem Binds.all(h: ∀us:List af,us.length=ps.length -> bindArgs fd ⟨us,[]⟩=pure (ps.zip us)):Binds K fd ps []:=fun s us _ hl=> by
 rw [bY]at hl⊢
 exact .of_eq (h us hl)
def aee(CX:CXT)(X:Cx)(E:SK):Prop:= ∀(pins:List (Addr×Obj)) (σ:St) (H:Hp) (s:ai) (e:af) (s':ai),Inv X pins σ H s -> CX X.stack H s (E σ) e s' -> X.xe e s'
section
variable{X:Cx}{CX:CXT}{k:Nat}{f C:Addr}{fd:d5}{ps:List Str}{sp:Sp}{dvs:List V}{ds:List af}{E:SK}{x m:Str}{p pos apos:Pos}{e o:Expr}{es:List Expr}{ta:TE}{t:TA}
theorem atz{Q:VK}{vs:List V}(F:FnOk X.prog X.w X.K X.mg X.base CX k f fd ps sp)(hr:Room k X.A)(hb:Binds X.K fd ps ds)(hd:jo dvs ds)(hx:aee CX X E)(I:Inv X pins σ H s)(r:jo vs us)(h:sp (vs++dvs) H Q (E σ)):wpAny (model X.prog X.w) X.A (call (.ref f) us) (EP X pins σ Q) X.xe s:=by
 have r2:jo (vs++dvs) (us++ds):=r.append hd
 have hl:(us++ds).length=ps.length:=by rw [←r2.length];exact F.len _ _ _ _ h
 refine f7 (dC (F.run X.A X.stack s H ⟨us,[]⟩ (us++ds) (vs++dvs) Q (E σ) hr I.env0 (hb s us I.kIn hl) r2 h) fun r s' hq=> ?_)
 cases r with
 |error e=> exact hx pins σ H s e s' I hq
 |ok fl=>
  cases fl with
  |ret u=> exact I.after hq
  |next=> exact df hq
  |brk=> exact df hq
  |cont=> exact df hq
theorem a1b(F:FnOk X.prog X.w X.K X.mg X.base CX k f fd ps sp)(hr:Room k X.A)(hg:Gl X x)(hm:X.mg x=some (.ref f))(hk:cR X.K (.ref f)=true)(hb:Binds X.K fd ps ds)(hd:jo dvs ds)(hx:aee CX X E)
  (ha:PA X (e::es) t) (hdb:(x==("__debug__":Str))=false:=by decide) (he:starEach (e::es) X.env=(false,eval e X.env)::starEach es X.env:=by rfl) (hpl:(backTo pos (starEach es X.env)).any (·.1)=false:=by rfl):
  PE X (.Call (.Name x p) (e::es) [] pos) (ayf sp dvs E t):=by
 (first|refine⟨?_⟩|skip);intro pins s σ H Q I h
 refine fP (ad6 I hg hm ?_ hdb)
 refine iy (h₀:=X.base) I.ok.mod.kin hk (thn (ha pos pins s σ H _ I h) fun us s1 ⟨vs,H1,I1,r,q⟩=> ⟨I1.kIn,?_⟩) he hpl
 exact atz F hr hb hd hx I1 r q
end
structure FnScope (N P:List Str) (sc:fZ):Prop where
 kind:sc.kind=.function
 co:sc.isCoroutine=false
 gen:sc.isGenerator=false
 nd:N.Nodup
 pre:N.take P.length=P
 par: ∀x∈P,sc.names.lookup x=some .local\/sc.names.lookup x=some .cell
 nofree: ∀y∈sc.names,y.2≠ .free
theorem akc{kindOf:Str -> Option eK}{x:Str}: ∀{binds:List (Str×af)} {m:Str -> Option af},(∀v,(x,v)∉binds) -> bindL kindOf binds m x=m x
 |[],_,_=> rfl
 | (n,v)::r,m,h=> by
  unfold bindL
  rw [akc fun w hw=> h w (aB _ hw)]
  split
  ·have:x≠n:=by rintro rfl;exact h v aC
   simp [this]
  ·rfl
theorem aj8{kindOf:Str -> Option eK}{x:Str}: ∀{binds:List (Str×af)} {m:Str -> Option af},(∀v,(x,v)∉binds) -> bindC kindOf binds m x=m x
 |[],_,_=> rfl
 | (n,v)::r,m,h=> by
  unfold bindC
  rw [aj8 fun w hw=> h w (aB _ hw)]
  split
  ·rfl
  ·have:x≠n:=by rintro rfl;exact h v aC
   simp [this]
theorem ajc{kindOf:Str -> Option eK}{x:Str}{v:af}: ∀{P:List Str} {vs:List af} {i:Nat} {m:Str -> Option af},P.Nodup -> P[i]?=some x -> vs[i]?=some v -> kindOf x=some .local ->
  bindL kindOf (P.zip vs) m x=some v
 |[],_,_,_,_,h,_,_=> by simp at h
 |_::_,[],_,_,_,_,h,_=> by simp at h
 |p::P,w::vs,0,m,nd,h1,h2,hk=> by
  simp at h1 h2;subst h1;subst h2
  show bindL kindOf ((p,w)::P.zip vs) m p=_
  unfold bindL
  rw [akc fun v hv=> (dG.mp nd).1 (fJ hv).1,if_pos hk]
  simp
 |p::P,w::vs,i+1,m,nd,h1,h2,hk=> by
  show bindL kindOf ((p,w)::P.zip vs) m x=_
  unfold bindL
  exact ajc (i:=i) (dG.mp nd).2 (by simpa using h1) (by simpa using h2) hk
theorem ajq{kindOf:Str -> Option eK}{x:Str}{v:af}: ∀{P:List Str} {vs:List af} {i:Nat} {m:Str -> Option af},P.Nodup -> P[i]?=some x -> vs[i]?=some v -> kindOf x≠some .local ->
  bindC kindOf (P.zip vs) m x=some v
 |[],_,_,_,_,h,_,_=> by simp at h
 |_::_,[],_,_,_,_,h,_=> by simp at h
 |p::P,w::vs,0,m,nd,h1,h2,hk=> by
  simp at h1 h2;subst h1;subst h2
  show bindC kindOf ((p,w)::P.zip vs) m p=_
  unfold bindC
  rw [aj8 fun v hv=> (dG.mp nd).1 (fJ hv).1,if_neg hk]
  simp
 |p::P,w::vs,i+1,m,nd,h1,h2,hk=> by
  show bindC kindOf ((p,w)::P.zip vs) m x=_
  unfold bindC
  exact ajq (i:=i) (dG.mp nd).2 (by simpa using h1) (by simpa using h2) hk
noncomputable def start(N:List Str)(vs:List V):St:=vs.map some++au (N.length - vs.length) none
noncomputable def y6(CX:CXT)(P:aQ)(w:aU)(K:aj)(mg:Str -> Option af)(base:Heap)(N:List Str)(qual:Str)(scope:fZ)(f:Addr)(cd:af)(A:bf)(outer:List Env)(s:ai)(H:Hp)(E:XK):Cx where
 prog:=P
 w:=w
 K:=K
 mg:=mg
 base:=base
 A:=A.deeper (envOfC qual scope s.heap.objs.size f cd)
 N:=N
 s₀:=s
 H₀:=H
 env:=envOfC qual scope s.heap.objs.size f cd
 outer:=outer
 stack:=envOfC qual scope s.heap.objs.size f cd::outer
 ex:=[]
 calm:=true
 fn:=fun _=> true
 pn:=[]
 xe:=fun e s'=> wpAny (model P w) (A.deeper (envOfC qual scope s.heap.objs.size f cd)) (leaving (envOfC qual scope s.heap.objs.size f cd) e) (fun _ s''=> CX outer H s E e s'') (fun e' s''=> CX outer H s E e' s'') s'
theorem ale{sc:fZ}{x:Str}(h:sc.names.lookup x=some .cell): ∃c,(cellsFrom n sc.names []).lookup x=some c:=by
 have q:=kE sc.names n [] (.inl h)
 exact Option.isSome_iff_exists.mp q
theorem arq{CX:CXT}{cd:af}{outer:List Env}{s1:ai}{E:XK}{vs:List V}(S:FnScope N ps scope)(hd:A.handled=none)(e0:Env0 P w K mg base A outer s H)(hl:vs.length=ps.length)(r:jo vs us)(x:InCallC s s.heap.objs.size (bindL (envOfC qual scope s.heap.objs.size f cd).kindOf (ps.zip us) fun _=> none) (cellsFrom (s.heap.objs.size+1) scope.names []) (bindC (envOfC qual scope s.heap.objs.size f cd).kindOf (ps.zip us) fun _=> none) s1):
  Inv (y6 CX P w K mg base N qual scope f cd A outer s H E) [] (start N vs) H s1:=by
 have hpl:ps.length <=N.length:=by have:=congrArg List.length S.pre;rw [a8]at this;lia
 obtain⟨h1,tk,rfl,hk⟩:=x.done
 have noA: ∀b:Addr,b∉(y6 CX P w K mg base N qual scope f cd A outer s H E).ex:=fun b z=> absurd (show b∈([]:List Addr) from z) (by simp)
 refine⟨⟨e0.mod,S.kind,rfl,rfl,aq _,fun y z c h1 h2=> ?_,fun y hy=> ?_,fun y c _ h=> ?_,fun _=> hd,Around.frames_deeper e0.frames,.inr ⟨rfl,rfl⟩,fun b z=> absurd z (noA b),e0.bs,e0.bsz,fun b _ _=> noA b,fun b z=> absurd z (noA b),e0.funs,e0.frf⟩,
  rfl,e0.bare,Un.kept hk,⟨_,x.toInCall.ns,fun i y v h1 h2 h3=> ?_⟩,fun y c h=> ⟨_,x.cell y c h⟩,e0.hok.fresh (aq _),fun y c h=> ?_,fun p hp=> absurd (show p∈([]:List (Addr×Obj)) from hp) (by simp),e0.hok.kept hk,?_⟩
 ·exact name_of_addr x.apart (dt h1) (dt h2)
 ·have hy:scope.names.lookup y=some .cell\/scope.names.lookup y=some .free:=hy
  rcases hy with hy|hy
  ·exact ale hy
  ·exact absurd rfl (S.nofree _ (dt hy))
 ·exact fN (x.above y c (dt h))
 ·have hi:i < vs.length:=by
   unfold start at h2
   by_cases hi:i < vs.length
   ·exact hi
   ·rw [b8 (by simpa using hi)]at h2
    rw [eh]at h2
    split at h2 <;> cases h2
  have ha:vs[i]?=some v:=by
   unfold start at h2
   rw [bc (by simpa using hi),aR]at h2
   cases e:vs[i]? with
   |none=> rw [e]at h2;cases h2
   |some a=> rw [e]at h2;cases h2;rfl
  obtain⟨u,hu,rv⟩:=r.get ha
  have hp:ps[i]?=some y:=by
   rw [←S.pre,List.getElem?_take_of_lt (by lia)];exact h1
  have ndP:ps.Nodup:=by rw [←S.pre];exact S.nd.sublist (gg _ _)
  refine⟨u,rv,?_⟩
  rcases S.par y (gS hp) with k|k
  ·exact .inl ⟨k,ajc ndP hp hu k⟩
  ·obtain⟨c,e⟩:=ale (n:=s.heap.objs.size+1) k
   refine .inr ⟨.inl k,c,e,?_⟩
   have q:=x.cell y c e
   rw [ajq ndP hp hu (by show scope.names.lookup y≠_;rw [k];decide)]at q
   exact q
 ·exact e0.hok.fresh (fN (x.above y c (dt h)))
 ·unfold start
  show _=N.length
  rw [aX,ak,kN]
  lia
theorem a73{CX:CXT}{params:Arguments}{body:List Stmt}{dV kV doc pm cdv ct oc:af}{an od:Option Addr}{sp:Sp}(lk:K.lookup f=some ⟨oc,od,.func (cL name qual params body scope dV kV doc pm an cdv ct),osl⟩)(hcd:eP K cdv qual=true)(S:FnScope N ps scope)(len: ∀vs H Q E,sp vs H Q E -> vs.length=ps.length)(hbody: ∀(A:bf) (outer:List Env) (s:ai) (H:Hp) (vs:List V) (Q:VK) (E:XK),Room k (A.deeper (envOfC qual scope s.heap.objs.size f cdv)) -> sp vs H Q E ->
   ∃t,PSs (y6 CX P w K mg base N qual scope f cdv A outer s H E) body t/\t {nx:=fun _ H'=> Q .non H',rt:=Q} (start N vs) H):
  FnOk P w K mg base CX (k+1) f (cL name qual params body scope dV kV doc pm an cdv ct) ps sp:=by
 refine⟨len,fun A outer s H args us vs Q E hr e0 hb r hsp=> ?_⟩
 have hl:=len _ _ _ _ hsp
 have KX:K.In s.heap:=e0.mod.kin.keeps fun b o e=> (e0.bs b o e).1
 have lim:s.heap.NoLimit:=e0.mod.nolimit.keeps fun b o e=> (e0.bs b o e).1
 have hkind: ∀y∈ps.zip us,scope.names.lookup y.1=some .local\/(scope.names.lookup y.1=some .cell/\((cellsFrom (s.heap.objs.size+1) scope.names []).lookup y.1).isSome=true):=fun⟨n,v⟩ hy=> by
  rcases S.par n (fJ hy).1 with q|q
  ·exact .inl q
  ·exact .inr ⟨q,kE _ _ _ (.inl q)⟩
 refine codeAny_call_function hr.depth (KX _ _ lk) rfl S.co S.gen rfl (PySem.W.codeRec_of KX hcd) (hb _ _ _ _ ?_)
 refine wpAny_newFunctionEnv_cells S.kind hkind fun env he s1 x=> ?_
 subst he
 refine⟨lim.keeps x.toInCall.keep,codeAny_func ?_⟩
 obtain⟨t,ht,hq⟩:=hbody A outer s H vs Q E (hr.deeper _) hsp
 have I:Inv (y6 CX P w K mg base N qual scope f cdv A outer s H E) [] (start N vs) H s1:=arq S hr.hd e0 hl r x
 refine cc (ht [] s1 (start N vs) H _ I hq) (fun fl s' hs=> ?_) fun e s' hs=> hs
 have fin: ∀{σ':St} {H':Hp} {v:V} {u:af},Inv (y6 CX P w K mg base N qual scope f cdv A outer s H E) [] σ' H' s' -> RelV v u -> Q v H' -> CE outer P w H s Q u s':=
  fun {σ' H' v u} J rv q=> ⟨v,H',J.os,J.bare,J.base,J.hok,rv,q⟩
 cases fl with
 |ret u=>
  obtain⟨v,σ',H',J,rv,q⟩:=hs
  exact fin J rv q
 |next=>
  obtain⟨σ',H',J,q⟩:=hs
  exact fin (v:=V.non) (u:=bF) J rfl q
 |brk=>
  obtain⟨_,_,_,q⟩:=hs
  exact df q
 |cont=>
  obtain⟨_,_,_,q⟩:=hs
  exact df q
section
variable{X:Cx}{x:Str}{p pos:Pos}{e:Expr}{es:List Expr}{t:TA}{id T:String}{r:List V -> Hp -> VK -> Prop}
noncomputable def tCB(r:List V -> Hp -> VK -> Prop)(t:TA):TE:=fun σ H Q=> t σ H fun vs H1=> r vs H1 Q
theorem ae5(hc:va X (.builtin id) r)(hg:Gl X x)(hm:X.mg x=none)(hv:a9 x=some (.builtin id))(ha:PA X (e::es) t)(hn:x≠"__name__":=by decide)(hdb:(x==("__debug__":Str))=false:=by decide)
  (he:starEach (e::es) X.env=(false,eval e X.env)::starEach es X.env:=by rfl) (hpl:(backTo pos (starEach es X.env)).any (·.1)=false:=by rfl):PE X (.Call (.Name x p) (e::es) [] pos) (tCB r t):=by
 (first|refine⟨?_⟩|skip);intro pins s σ H Q I h
 refine fP (abq I hg hm hv ?_ hn hdb)
 exact gT (thn (ha pos pins s σ H _ I h) fun us s1 ⟨vs,H1,I1,r1,q1⟩=> hc pins s1 σ H1 vs us Q I1 r1 q1) he hpl
theorem af3(hc:va X (.type T) r)(hg:Gl X x)(hm:X.mg x=none)(hv:a9 x=some (.type T))(ha:PA X (e::es) t)(hn:x≠"__name__":=by decide)(hdb:(x==("__debug__":Str))=false:=by decide)
  (he:starEach (e::es) X.env=(false,eval e X.env)::starEach es X.env:=by rfl) (hpl:(backTo pos (starEach es X.env)).any (·.1)=false:=by rfl):PE X (.Call (.Name x p) (e::es) [] pos) (tCB r t):=by
 (first|refine⟨?_⟩|skip);intro pins s σ H Q I h
 refine fP (abq I hg hm hv ?_ hn hdb)
 exact dB (thn (ha pos pins s σ H _ I h) fun us s1 ⟨vs,H1,I1,r1,q1⟩=> hc pins s1 σ H1 vs us Q I1 r1 q1) he hpl
end
end L2
namespace HT
open PySem PyProof.Rows
theorem cat_tup{t b:Addr}{vs ws:List af}(ht:IsTup s.heap t vs.toArray)(hb:IsTup s.heap b ws.toArray)(hv:vs≠ [])(h1:ws=[] -> Q (.ref t) s)(h2:ws≠ [] -> Q (.ref s.heap.objs.size) {s with heap:=s.heap.push {cls:=.type "tuple",data:=.seq (vs++ws).toArray}})(hsz:vs.length+ws.length <=sizeLine):wpAny (model prog w) A (binaryOp .Add (.ref t) (.ref b)) Q E s:=by
 obtain⟨⟨cls,dd,data,sl⟩,ho,hc,n,hd⟩:=id ht
 obtain⟨⟨cls2,dd2,data2,sl2⟩,ho2,hc2,n2,hd2⟩:=id hb
 simp only at hc hd hc2 hd2
 subst hc hd hc2 hd2
 have e:vs.toArray++ws.toArray=(vs++ws).toArray:=by simp
 by_cases hw:ws=[]
 ·exact lY ⟨_,ho,rfl⟩ ⟨_,ho2,rfl⟩ jC lD gj gb (fQ _ _)
   (tuple_addW1 t b vs.toArray ws.toArray n n2 dd dd2 sl sl2 (by simpa using hv) (by simp [hw])) ⟨ho,ho2,h1 hw⟩
 ·refine lY ⟨_,ho,rfl⟩ ⟨_,ho2,rfl⟩ jC lD gj gb (fQ _ _)
   (tuple_addW2 t b vs.toArray ws.toArray n n2 dd dd2 sl sl2 (by simpa using hv) (by simpa using hw) (by rw [az,az];exact hsz)) ⟨ho,ho2,?_⟩
  rw [e]
  exact h2 hw
noncomputable def sIx(n d:Nat):Option Int -> Nat
 |none=> d
 |some v=> if v < 0 then (v+(n:Int)).toNat else min v.toNat n
theorem sIx_none(n d:Nat):sIx n d none=d:=rfl
theorem sIx_nat(n d k:Nat):sIx n d (some (k:Int))=min k n:=by
 show (if (k:Int) < 0 then ((k:Int)+(n:Int)).toNat else min (k:Int).toNat n)=min k n
 rw [if_neg (by lia),cj]
theorem a2z(n d:Nat)(hd:d <=n)(o:Option Int):sIx n d o <=n:=by
 cases o with
 |none=> exact hd
 |some v=>
  show (if v < 0 then (v+(n:Int)).toNat else min v.toNat n) <=n
  by_cases hv:v < 0
  ·rw [if_pos hv];lia
  ·rw [if_neg hv];exact Nat.min_le_right _ _
theorem anw(v:Int)(n d:Nat):(if v < 0 then max (v+(n:Int)) 0 else min v (n:Int))=((sIx n d (some v):Nat):Int):=by
 show (if v < 0 then max (v+(n:Int)) 0 else min v (n:Int))=(((if v < 0 then (v+(n:Int)).toNat else min v.toNat n):Nat):Int)
 by_cases hv:v < 0
 ·simp only [if_pos hv];lia
 ·simp only [if_neg hv];lia
theorem aq8(lo hi:Option Int)(n:Nat):fK lo hi 1 (n:Int)=(((sIx n 0 lo:Nat):Int),((sIx n n hi:Nat):Int)):=by
 have h1: ¬((1:Int) < 0):=by lia
 unfold fK
 simp only [h1,if_false]
 refine Prod.ext ?_ ?_
 ·cases lo with
  |none=> rfl
  |some v=> exact anw v n 0
 ·cases hi with
  |none=> rfl
  |some v=> exact anw v n n
theorem aqw(i j:Nat):dS (i:Int) (j:Int) 1=j - i:=by
 unfold dS
 have h1:(1:Int)> 0:=by lia
 simp only [h1,if_true,Int.ediv_one]
 split <;> lia
theorem aht{v:af}{o:Option Int}{Q:Option Int -> ai -> Prop}(p:gk v o)(h:Q o s):wpAny (model prog w) A (Builtin.Slice.slicePartIndex v) Q E s:=by
 cases p with
 |none=> exact slicePart_none h
 |int i t=> exact slicePart_int h
theorem abi{sl:Addr}{vl vu:af}{lo hi:Option Int}{Q:Int×Int×Nat -> ai -> Prop}(hs:s.heap.IsSliceOf sl vl vu .none)(pl:gk vl lo)(pu:gk vu hi)(h:Q (((sIx n 0 lo:Nat):Int),1,sIx n n hi - sIx n 0 lo) s):wpAny (model prog w) A (iI (.ref sl) (pure (n:Int))) Q E s:=by
 obtain⟨os,hos,hcs,hds⟩:=id hs
 unfold iI Builtin.Slice.sliceFields
 refine ac (ac (a7 hos hds (x:=vl) rfl (ac (a7 hos hds (x:=vu) rfl (ac (a7 hos hds (x:=.none) rfl (ah ?_)))))))
 refine ac (slicePart_none ?_)
 show wpAny _ _ (if ((1:Int)==0)=true then _ else _) _ _ s
 rw [if_neg (by decide)]
 refine ac (aht pl (ac (aht pu (ac (ah ?_)))))
 show wpAny _ _ (match fK lo hi 1 (n:Int) with|(lo,hi)=> pure (lo,(1:Int),dS lo hi 1)) _ _ s
 rw [aq8 lo hi n]
 show wpAny _ _ (pure (((sIx n 0 lo:Nat):Int),(1:Int),dS ((sIx n 0 lo:Nat):Int) ((sIx n n hi:Nat):Int) 1)) _ _ s
 rw [aqw]
 exact ah h
theorem awz(xs:Array af)(i k:Nat):((gP k).filterMap fun (m:Nat)=> xs[((i:Int)+(m:Int)*1).toNat]?).toArray=((xs.toList.drop i).take k).toArray:=by
 have e:(fun (m:Nat)=> xs[((i:Int)+(m:Int)*1).toNat]?)=fun m=> xs[i+m]?:=by
  funext m
  have:((i:Int)+(m:Int)*1).toNat=i+m:=by lia
  rw [this]
 rw [e]
 have:=pick_run xs i k
 rw [List.filterMap_map]at this
 have e2:((fun x=> xs[x]?)∘fun x=> i+x)=fun m=> xs[i+m]?:=rfl
 rw [e2]at this
 rw [this]
theorem getItem_tuple_cut{t sl:Addr}{vl vu:af}{lo hi:Option Int}(ht:IsTup s.heap t items)(hs:s.heap.IsSliceOf sl vl vu .none)(pl:gk vl lo)(pu:gk vu hi)(hw: ¬(sIx items.size 0 lo=0/\sIx items.size items.size hi=items.size))(h:Q (.ref s.heap.objs.size) {s with heap:=s.heap.push {cls:=.type "tuple",data:=.seq ((items.toList.drop (sIx items.size 0 lo)).take (sIx items.size items.size hi - sIx items.size 0 lo)).toArray}})(hsz:items.size <=sizeLine):wpAny (model prog w) A (getItem (.ref t) (.ref sl)) Q E s:=by
 have htake:sizeOk (.seq ((items.toList.drop (sIx items.size 0 lo)).take (sIx items.size items.size hi - sIx items.size 0 lo)).toArray):=by
  show ((items.toList.drop (sIx items.size 0 lo)).take (sIx items.size items.size hi - sIx items.size 0 lo)).toArray.size <=sizeLine
  rw [az,a8,d6,aL]
  lia
 have hj:sIx items.size items.size hi <=items.size:=a2z _ _ (aq _) hi
 obtain⟨os,hos,hcs,hds⟩:=id hs
 have hTs:s.TypeIs (.ref sl) "slice":=⟨os,hos,hcs⟩
 unfold getItem
 try with_reducible refine bj ?_
 first|refine ac (ah ?_)|skip
 refine ac (wpAny_sequenceKey ht.typeIs (by decide) ?_)
 refine ac (bn (name:=bG "__getitem__") ht.typeIs b7
  (bo b7 ht.typeIs lL ?_ (args_tuple_getitem _ _)))
 show wpAny _ _ (fm (.ref t)>>=_) _ _ s
 refine ac (tupleItemsOf_ ht ?_)
 refine ac (gU hTs ?_)
 rw [if_pos (by decide)]
 refine ac (abi hs pl pu ?_)
 have hno: ¬((((sIx items.size 0 lo:Nat):Int)==0&&(1:Int)==1&&(sIx items.size items.size hi - sIx items.size 0 lo)==items.size)=true):=by
  intro q
  rw [aH,aH]at q
  have q1:((sIx items.size 0 lo:Nat):Int)=0:=eq_of_beq q.1.1
  have q2:sIx items.size items.size hi - sIx items.size 0 lo=items.size:=eq_of_beq q.2
  exact hw ⟨by lia,by lia⟩
 show wpAny _ _ (if (((sIx items.size 0 lo:Nat):Int)==0&&(1:Int)==1&&(sIx items.size items.size hi - sIx items.size 0 lo)==items.size)=true then _ else _) _ _ s
 rw [if_neg hno,awz]
 first
  |exact ac (m:=d7 _) (bC (ah ⟨_,rfl,ah h⟩) htake)
  |exact ac (m:=d7 _) (bC (ac (ah (ah ⟨_,rfl,ah h⟩))) htake)
  |exact ac (ac (m:=d7 _) (bC (ah (ah ⟨_,rfl,ah h⟩)) htake))
  |exact ac (ac (m:=d7 _) (bC (ah ⟨_,rfl,ah h⟩) htake))
end HT
namespace L2
open PySem PySem.Spec PyProof.Rows
abbrev TO:=St -> Hp -> (Option Int -> Hp -> Prop) -> Prop
def PO(X:Cx)(e:Option Expr)(t:TO):Prop:=
 ∀(pins:List (Addr×Obj)) (s:ai) (σ:St) (H:Hp) (Q:Option Int -> Hp -> Prop),Inv X pins σ H s -> t σ H Q ->
  wpAny (model X.prog X.w) X.A (evalPart e X.env) (fun u s'=> ∃o H',Inv X pins σ H' s'/\gk u o/\Q o H') X.xe s
noncomputable def a16:TO:=fun _ H Q=> Q none H
noncomputable def a6c(t:TE):TO:=fun σ H Q=> t σ H fun x H1=> ∃i,x=.int i/\Q (some i) H1
section
variable{X:Cx}{e:Expr}{te:TE}{lo hi:Option Expr}{tl th:TO}{pos p2:Pos}
theorem azr:PO X none a16:=by
 (first|refine⟨?_⟩|skip);intro pins s σ H Q I h
 rw [evalPart_none]
 exact ah ⟨none,H,I,.none,h⟩
theorem a1r(h:PE X e te):PO X (some e) (a6c te):=by
 (first|refine⟨?_⟩|skip);intro pins s σ H Q I hw
 rw [evalPart_some]
 refine thn (h pins s σ H _ I hw) fun u s1 ⟨x,H1,I1,r1,q1⟩=> ?_
 obtain⟨i,rfl,q⟩:=q1
 obtain⟨t,rfl⟩:=r1
 exact⟨some i,H1,I1,.int i t,q⟩
def SlR(X:Cx)(r:V -> Option Int -> Option Int -> Hp -> VK -> Prop):Prop:=
 ∀(pins:List (Addr×Obj)) (s:ai) (σ:St) (H:Hp) (x:V) (v vl vu:af) (lo hi:Option Int) (sl:Addr) (Q:VK),Inv X pins σ H s -> RelV x v -> s.heap.IsSliceOf sl vl vu .none -> gk vl lo -> gk vu hi -> r x lo hi H Q ->
  ∃T id,typeLookup (.type T) "__getitem__"=pure (some (.builtin id))/\s.TypeIs v T/\wpAny (model X.prog X.w) X.A (getItem v (.ref sl)) (EP X pins σ Q) X.xe s
theorem SlR.or{r r':V -> Option Int -> Option Int -> Hp -> VK -> Prop}(h:SlR X r)(h':SlR X r'):SlR X (fun x lo hi H Q=> r x lo hi H Q\/r' x lo hi H Q):=by
 (first|refine⟨?_⟩|skip);intro pins s σ H x v vl vu lo hi sl Q I rx hs pl pu q
 rcases q with q|q
 ·exact h pins s σ H x v vl vu lo hi sl Q I rx hs pl pu q
 ·exact h' pins s σ H x v vl vu lo hi sl Q I rx hs pl pu q
noncomputable def tSl(r:V -> Option Int -> Option Int -> Hp -> VK -> Prop)(te:TE)(tl th:TO):TE:=fun σ H Q=> te σ H fun x H1=> tl σ H1 fun l H2=> th σ H2 fun u H3=> r x l u H3 Q
theorem aw9{r:V -> Option Int -> Option Int -> Hp -> VK -> Prop}(hr:SlR X r)(he:PE X e te)(hl:PO X lo tl)(hu:PO X hi th):PE X (.Subscript e (.Slice lo hi none p2) pos) (tSl r te tl th):=by
 (first|refine⟨?_⟩|skip);intro pins s σ H Q I h
 refine Subscript_ (thn (he pins s σ H _ I h) fun v s1 ⟨x,H1,I1,r1,q1⟩=> ?_)
 refine wpAny_Slice (thn (hl pins s1 σ H1 _ I1 q1) fun vl s2 ⟨l,H2,I2,pl,q2⟩=> thn (hu pins s2 σ H2 _ I2 q2) fun vu s3 ⟨u,H3,I3,pu,q3⟩=> ?_)
 rw [evalPart_none]
 refine ah ?_
 have I4:Inv X pins σ H3 {s3 with heap:=s3.heap.push {cls:=.type "slice",data:=.fields #[vl,vu,.none]}}:=I3.kept (t':=s3.toks) fun b ob q=> ag _ q
 obtain⟨T,id,hT,ht,hg⟩:=hr pins {s3 with heap:=s3.heap.push {cls:=.type "slice",data:=.fields #[vl,vu,.none]}} σ H3 x v vl vu l u s3.heap.objs.size Q I4 r1 (Heap.IsSliceOf.new ..) pl pu q3
 show wpAny (model X.prog X.w) X.A (mx e (.Slice lo hi none p2) v (.ref s3.heap.objs.size)) (EP X pins σ Q) X.xe {s3 with heap:=s3.heap.push {cls:=.type "slice",data:=.fields #[vl,vu,.none]}}
 exact tail_any (ops:=[.ref s3.heap.objs.size,v]) ht hT hg (by with_unfolding_all rfl)
def y4(xs:List V)(lo hi:Option Int):List V:=(xs.drop (HT.sIx xs.length 0 lo)).take (HT.sIx xs.length xs.length hi - HT.sIx xs.length 0 lo)
theorem aga(xs:List V)(lo hi:Option Int):(y4 xs lo hi).length <=xs.length:=by
 unfold y4
 rw [a8,d6]
 lia
def a7y(K:aj):V -> Option Int -> Option Int -> Hp -> VK -> Prop:=fun x lo hi H Q=> ∃a xs,x=.ref a/\SqT K H a xs/\
 ¬(HT.sIx xs.length 0 lo=0/\HT.sIx xs.length xs.length hi=xs.length)/\ ∀p,H p=none -> Q (.ref p) (upd H p (.tup (y4 xs lo hi)))
theorem asm:SlR X (a7y X.K):=by
 (first|refine⟨?_⟩|skip);intro pins s σ H x v vl vu lo hi sl Q I rx hs pl pu h
 obtain⟨a,xs,rfl,hx,hw,q⟩:=h
 cases rx
 obtain⟨its,r,ht,hz⟩:=I.tuple hx
 have hlen:its.toArray.size=xs.length:=by rw [az];exact r.length.symm
 refine⟨"tuple",_,b7.lookup,ht.typeIs,?_⟩
 refine HT.getItem_tuple_cut ht hs pl pu (by rw [hlen];exact hw) ?_ (by rw [hlen];exact hz)
 rw [hlen]
 refine⟨.ref s.heap.objs.size,_,I.laid (t':=s.toks) (o:=.tup (y4 xs lo hi)) (fun b ob q=> ag _ q) (aq _) ?_,rfl,q _ (I.hok.fresh (aq _))⟩
 exact⟨ax (aga xs lo hi) hz,_,(r.drop (HT.sIx xs.length 0 lo)).take (HT.sIx xs.length xs.length hi - HT.sIx xs.length 0 lo),aed.new _ _⟩
def a72(K:aj):R2:=fun x y H Q=> ∃a b xs ys,x=.ref a/\y=.ref b/\SqT K H a xs/\SqT K H b ys/\xs≠ []/\xs.length+ys.length <=sizeLine/\
 (ys=[] -> Q (.ref a) H)/\(ys≠ [] -> ∀p,H p=none -> Q (.ref p) (upd H p (.tup (xs++ys))))
theorem jo.nil_iff(r:jo xs us):us=[] ↔ xs=[]:=by
 cases r with
 |nil=> simp
 |cons _ _=> simp
theorem a19:OpR X (binaryOp .Add) (a72 X.K):=by
 (first|refine⟨?_⟩|skip);intro pins s σ H x y v u Q I rx ry h
 obtain⟨a,b,xs,ys,rfl,rfl,ha,hb,hx,hz,q1,q2⟩:=h
 cases rx
 cases ry
 obtain⟨its,r1,p1,_⟩:=I.tuple ha
 obtain⟨its2,r2,p2,_⟩:=I.tuple hb
 refine HT.cat_tup p1 p2 (fun z=> hx (r1.nil_iff.mp z)) (fun z=> ⟨.ref a,H,I,rfl,q1 (r2.nil_iff.mp z)⟩) (fun z=> ?_) (by rw [←r1.length,←r2.length];exact hz)
 refine⟨.ref s.heap.objs.size,_,I.laid (t':=s.toks) (o:=.tup (xs++ys)) (fun b ob q=> ag _ q) (aq _) ?_,rfl,q2 (fun w=> z (r2.nil_iff.mpr w)) _ (I.hok.fresh (aq _))⟩
 exact⟨by rw [aX];exact hz,_,r1.append r2,aed.new _ _⟩
end
noncomputable def ixN(n:Nat)(i:Int):Option Nat:=if 0 <=i then (if i < n then some i.toNat else none) else if -(n:Int) <=i then some (i+n).toNat else none
def atI{α:Type}(xs:List α)(i:Int):Option α:=(ixN xs.length i).bind fun j=> xs[j]?
theorem anu{i:Int}(h:ixN n i=some j):iz i n=some j/\j < n/\ -(n:Int) <=i/\i < n:=by
 unfold ixN at h
 by_cases h0:0 <=i
 ·rw [if_pos h0]at h
  by_cases h1:i < n
  ·rw [if_pos h1]at h
   have e:i.toNat=j:=bP h
   exact⟨by rw [mi h0 h1,e],by lia,by lia,h1⟩
  ·rw [if_neg h1]at h;cases h
 ·rw [if_neg h0]at h
  by_cases h1: -(n:Int) <=i
  ·rw [if_pos h1]at h
   have e:(i+n).toNat=j:=bP h
   exact⟨by rw [lZ (by lia) h1,e],by lia,h1,by lia⟩
  ·rw [if_neg h1]at h;cases h
theorem aiv{α:Type}{xs:List α}{i:Int}{v:α}(h:atI xs i=some v): ∃j,iz i xs.length=some j/\xs[j]?=some v/\j < xs.length/\ -(xs.length:Int) <=i/\i < xs.length:=by
 unfold atI at h
 cases e:ixN xs.length i with
 |none=> rw [e]at h;cases h
 |some j=>
  rw [e]at h
  obtain⟨h1,h2,h3,h4⟩:=anu e
  exact⟨j,h1,h,h2,h3,h4⟩
theorem aid{α:Type}{xs:List α}{v:α}(h:xs[j]?=some v):atI xs (j:Int)=some v:=by
 have hj:j < xs.length:=(aA.mp h).1
 have e:ixN xs.length (j:Int)=some j:=by
  unfold ixN
  rw [if_pos (by lia),if_pos (by lia)];simp
 unfold atI;rw [e];exact h
def aon(b:Expr):Prop:= ∀o i,subscripted b false o i=operate [o,i] (getItem o i)
def IxR(X:Cx)(r:R2):Prop:=
 ∀(value slice:Expr) (pins:List (Addr×Obj)) (s:ai) (σ:St) (H:Hp) (x y:V) (v u:af) (Q:VK),Inv X pins σ H s -> RelV x v -> RelV y u -> r x y H Q ->
  subscripted slice false v u=operate [v,u] (getItem v u) -> wpAny (model X.prog X.w) X.A (mx value slice v u) (EP X pins σ Q) X.xe s
def MtR(X:Cx)(id:String)(r:V -> List V -> Hp -> VK -> Prop):Prop:=
 ∀(pins:List (Addr×Obj)) (s:ai) (σ:St) (H:Hp) (x:V) (xs:List V) (v:af) (us:List af) (Q:VK),Inv X pins σ H s -> RelV x v -> jo xs us -> r x xs H Q ->
  wpAny (model X.prog X.w) X.A (call (.builtin id) (v::us)) (EP X pins σ Q) X.xe s
section
variable{X:Cx}{a b:Expr}{ta tb:TE}{pos:Pos}
theorem IxR.or{r r':R2}(h:IxR X r)(h':IxR X r'):IxR X (fun x y H Q=> r x y H Q\/r' x y H Q):=by
 intro value slice pins s σ H x y v u Q I rx ry q hs
 rcases q with q|q
 ·exact h value slice pins s σ H x y v u Q I rx ry q hs
 ·exact h' value slice pins s σ H x y v u Q I rx ry q hs
theorem a68{r:R2}(hr:IxR X r)(ha:PE X a ta)(hb:PE X b tb)(hs:aon b):PE X (.Subscript a b pos) (tOp r ta tb):=by
 (first|refine⟨?_⟩|skip);intro pins s σ H Q I h
 exact Subscript_ (aua ha hb I h fun v u s2 x y H2 I2 rx ry q=> hr a b pins s2 σ H2 x y v u Q I2 rx ry q (hs _ _))
def a2m(K:aj):R2:=fun x y H Q=> ∃p xs i v,x=.ref p/\y=.int i/\SqL K H p xs/\atI xs i=some v/\Q v H
def a29(K:aj):R2:=fun x y H Q=> ∃p xs i v,x=.ref p/\y=.int i/\SqT K H p xs/\atI xs i=some v/\Q v H
def a2q:R2:=fun x y H Q=> ∃z i c,x=.str z/\y=.int i/\z.length <=sizeLine/\atI z.cps.toList i=some c/\Q (.str ⟨#[c]⟩) H
theorem a1a:IxR X (a2m X.K):=by
 intro value slice pins s σ H x y v u Q I rx ry h hs
 obtain⟨p,xs,i,z,rfl,rfl,hq,he,q⟩:=h
 cases rx
 obtain⟨t,rfl⟩:=ry
 obtain⟨its,r,pl,hz⟩:=I.list hq
 obtain⟨j,h1,h2,h3,h4,h5⟩:=aiv he
 obtain⟨w,ew,rw'⟩:=r.get h2
 have hl:=r.length
 have hn:=abo
 have fin:EP X pins σ Q w s:=⟨z,H,I,rw',q⟩
 by_cases h0:0 <=i
 ·have hj:i.toNat=j:=by
   rw [mi h0 h5]at h1
   exact bP h1
  exact item_listR pl.isList h0 (by lia) (by rw [hj];simpa using ew) fin hs
 ·have hj:(i+(its.toArray.size:Int)).toNat=j:=by
   rw [lZ (by lia) h4]at h1
   rw [az,←hl]
   exact bP h1
  exact kF (x:=w) pl.isList.typeIs slot_list_getitem.lookup
   (wpAny_getItem_list_neg (Q:=fun r s'=> r=w/\EP X pins σ Q r s') pl.isList (by lia) (by rw [az] <;> lia) (by lia) (by rw [hj];simpa using ew) ⟨rfl,fin⟩) hs
theorem a3a:IxR X (a29 X.K):=by
 intro value slice pins s σ H x y v u Q I rx ry h hs
 obtain⟨p,xs,i,z,rfl,rfl,hq,he,q⟩:=h
 cases rx
 obtain⟨t,rfl⟩:=ry
 obtain⟨its,r,pl,hz⟩:=I.tuple hq
 obtain⟨j,h1,h2,h3,h4,h5⟩:=aiv he
 obtain⟨w,ew,rw'⟩:=r.get h2
 have hl:=r.length
 have hn:=abo
 have fin:EP X pins σ Q w s:=⟨z,H,I,rw',q⟩
 exact kF (x:=w) pl.typeIs slot_tuple_getitem.lookup
  (getItem_tuple (j:=j) (Q:=fun r s'=> r=w/\EP X pins σ Q r s') pl (by lia) (by lia) (by rw [az,←hl];exact h1) (by simpa using ew) ⟨rfl,fin⟩) hs
theorem a38:IxR X a2q:=by
 intro value slice pins s σ H x y v u Q I rx ry h hs
 obtain⟨z,i,c,rfl,rfl,hz,he,q⟩:=h
 obtain⟨t,rfl⟩:=rx
 obtain⟨t',rfl⟩:=ry
 obtain⟨j,h1,h2,h3,h4,h5⟩:=aiv he
 have hl:z.cps.toList.length=z.length:=by simp [Str.length]
 rw [hl]at h1 h4 h5
 have hn:=abo
 exact tail_any (typeIs_str s z t) slot_str_getitem.lookup (getItem_str (c:=c) (by
  have e1:decide (i < -(2^63:Int))=false:=decide_eq_false (by lia)
  have e2:decide (i≥2^63)=false:=decide_eq_false (by lia)
  rw [e1,e2,lE]) (by rw [h1];simpa using h2) ⟨.str ⟨#[c]⟩,H,I.tok _,⟨_,rfl⟩,q⟩) hs
def rIx(K:aj):R2:=fun x y H Q=> a2m K x y H Q\/a29 K x y H Q\/a2q x y H Q
theorem a1z:IxR X (rIx X.K):=a1a.or (a3a.or a38)
theorem apj(its:List af)(n j:Nat)(u:af):f8 (·.setIfInBounds j u) {cls:=.type "list",data:=.seq its.toArray n}={cls:=.type "list",data:=.seq (its.set j u).toArray n}:=by
 simp [f8]
theorem Inv.lst{p:Addr}(I:Inv X pins σ H s)(h:H p=some (.lst xs)):
  ∃(its:List af) (n:Nat),jo xs its/\s.heap.get? p=some {cls:=.type "list",data:=.seq its.toArray n}/\xs.length <=sizeLine:=by
 obtain⟨z,its,n,r,e⟩:=I.hok p _ h
 exact⟨its,n,r,e,z⟩
theorem Inv.lstUpd{p:Addr}{its':List af}{n':Nat}{f:Obj -> Obj}(I:Inv X pins σ H s)(h:H p=some (.lst xs))(ho:s.heap.get? p=some {cls:=.type "list",data:=.seq its.toArray n})(hf:f {cls:=.type "list",data:=.seq its.toArray n}={cls:=.type "list",data:=.seq its'.toArray n'})(r:jo ys its')(hz:ys.length <=sizeLine)(t:Nat):
  Inv X pins σ (upd H p (.lst ys)) {s with heap:=s.heap.update p f,toks:=t}:=by
 have e:(s.heap.update p f).get? p=some {cls:=.type "list",data:=.seq its'.toArray n'}:=by
  rw [bA f ho (by rw [hf] <;> rfl),hf]
 refine I.write (x:=p) (e:=p) (by rw [h];trivial) (.inl rfl) (fun b u hb q=> (bB _ _ (cI hb)).trans q) ⟨_,e⟩ ?_
 exact⟨hz,its',n',r,e⟩
def a6j:V -> V -> V -> Hp -> (Hp -> Prop) -> Prop:=fun o i v H Q=> ∃p xs k j,o=.ref p/\i=.int k/\H p=some (.lst xs)/\ixN xs.length k=some j/\Q (upd H p (.lst (xs.set j v)))
theorem awp:aik X a6j:=by
 (first|refine⟨?_⟩|skip);intro pins s σ H o i v ov iv u Q I ro ri rv h
 obtain⟨p,xs,k,j,rfl,rfl,hp,hj,q⟩:=h
 cases ro
 obtain⟨t,rfl⟩:=ri
 obtain⟨its,n,r,ho,hz⟩:=I.lst hp
 obtain⟨h1,h2,h3,h4⟩:=anu hj
 have hl:=r.length
 have hn:=abo
 have I':Inv X pins σ (upd H p (.lst (xs.set j v))) {s with heap:=s.heap.update p (f8 (·.setIfInBounds j u))}:=
  I.lstUpd hp ho (apj its n j u) (r.set rv j) (by rw [List.length_set];exact hz) s.toks
 by_cases h0:0 <=k
 ·have hk:k.toNat=j:=by
   rw [mi h0 h4]at h1
   exact bP h1
  exact PySem.W.ki_setAt ho h0 (by lia) (by rw [az,←hl];exact h4) (by rw [hk];exact⟨_,I',q⟩)
 ·have hk:(k+(its.toArray.size:Int)).toNat=j:=by
   rw [lZ (by lia) h3]at h1
   rw [az,←hl]
   exact bP h1
  exact PySem.W.ki_setBack ho (by lia) (by rw [az,←hl];exact h3) (by lia) (by rw [hk];exact⟨_,I',q⟩)
theorem am1(lo hi:Option Int)(n:Nat):(fE lo hi none n).1=((HT.sIx n 0 lo:Nat):Int)/\(fE lo hi none n).2.1=((HT.sIx n n hi:Nat):Int)/\(fE lo hi none n).2.2=1:=by
 refine⟨?_,?_,rfl⟩
 ·cases lo with
  |none=> simp [fE,HT.sIx]
  |some i=>
   simp only [fE,HT.sIx,jD,show (1:Int)> 0 by decide,if_true]
   by_cases h:i < 0
   ·simp only [h,if_true] <;> lia
   ·simp only [h,if_false] <;> lia
 ·cases hi with
  |none=> simp [fE,HT.sIx]
  |some i=>
   simp only [fE,HT.sIx,jD,show (1:Int)> 0 by decide,if_true]
   by_cases h:i < 0
   ·simp only [h,if_true] <;> lia
   ·simp only [h,if_false] <;> lia
theorem akl(its:List af)(lo hi:Option Int):slicePick its.toArray lo hi none=((its.drop (HT.sIx its.length 0 lo)).take (HT.sIx its.length its.length hi - HT.sIx its.length 0 lo)).toArray:=by
 obtain⟨h1,h2,h3⟩:=am1 lo hi its.toArray.size
 unfold slicePick
 rw [h1,h2,h3]
 simp only [sliceRange_one,pick_run,az] <;> rfl
def a7v(K:aj):V -> Option Int -> Option Int -> Hp -> VK -> Prop:=fun x lo hi H Q=> ∃a xs,x=.ref a/\SqL K H a xs/\ ∀p,H p=none -> Q (.ref p) (upd H p (.lst (y4 xs lo hi)))
theorem azj:SlR X (a7v X.K):=by
 (first|refine⟨?_⟩|skip);intro pins s σ H x v vl vu lo hi sl Q I rx hs pl pu h
 obtain⟨a,xs,rfl,hx,q⟩:=h
 cases rx
 obtain⟨its,r,ht,hz⟩:=I.list hx
 have hlen:=r.length
 refine⟨"list",_,slot_list_getitem.lookup,ht.isList.typeIs,?_⟩
 refine wpAny_getItem_list_slice ht.isList hs pl pu .none (by simp) ?_ (by rw [az] <;> lia)
 rw [akl,←hlen]
 refine⟨.ref s.heap.objs.size,_,I.laid (t':=s.toks) (o:=.lst (y4 xs lo hi)) (fun b ob q=> ag _ q) (aq _) ?_,rfl,q _ (I.hok.fresh (aq _))⟩
 exact⟨ax (aga xs lo hi) hz,_,0,(r.drop (HT.sIx xs.length 0 lo)).take (HT.sIx xs.length xs.length hi - HT.sIx xs.length 0 lo),ar _ rfl⟩
theorem alw:va X (.builtin "len") (fun xs H Q=> ∃p ys,xs=[.ref p]/\(SqL X.K H p ys\/SqT X.K H p ys)/\Q (.int ys.length) H):=by
 (first|refine⟨?_⟩|skip);intro pins s σ H xs us Q I r h
 obtain⟨p,ys,rfl,hq,q⟩:=h
 obtain⟨u,rfl,rx⟩:=vals1 r
 cases rx
 have hn:=abo
 rcases hq with hq|hq
 ·obtain⟨its,r',pl,hz⟩:=I.list hq
  have hlen:=r'.length
  exact Calls.call_len_list pl.isList (by simp only [az] <;> lia) ⟨.int ys.length,H,I.tok _,⟨s.toks+1,by rw [az,hlen]⟩,q⟩
 ·obtain⟨its,r',pl,hz⟩:=I.tuple hq
  have hlen:=r'.length
  exact len_tuple pl (by simp only [az] <;> lia) ⟨.int ys.length,H,I.tok _,⟨s.toks+1,by rw [az,hlen]⟩,q⟩
theorem alf:va X (.builtin "len") (fun xs H Q=> ∃z,xs=[.str z]/\z.length <=sizeLine/\Q (.int z.length) H):=by
 (first|refine⟨?_⟩|skip);intro pins s σ H xs us Q I r h
 obtain⟨z,rfl,hz,q⟩:=h
 obtain⟨u,rfl,t,rfl⟩:=vals1 r
 have hn:=abo
 exact len_str (by lia) ⟨.int z.length,H,I.tok _,⟨_,rfl⟩,q⟩
theorem ala:va X (.type "list") (fun xs H Q=> ∃p ys,xs=[.ref p]/\(SqL X.K H p ys\/SqT X.K H p ys)/\ ∀l,H l=none -> Q (.ref l) (upd H l (.lst ys))):=by
 (first|refine⟨?_⟩|skip);intro pins s σ H xs us Q I r h
 obtain⟨p,ys,rfl,hq,q⟩:=h
 obtain⟨u,rfl,rx⟩:=vals1 r
 cases rx
 have fin: ∀(its:List af),jo ys its -> ys.length <=sizeLine -> ∀(h':Heap) (c':Nat),(∀b o',s.heap.get? b=some o' -> h'.get? b=some o') ->
   h'.get? s.heap.objs.size=some {cls:=.type "list",dict:=none,data:=.seq its.toArray c',slots:= #[]} -> EP X pins σ Q (.ref s.heap.objs.size) {s with heap:=h'}:=fun its r' hz h' c' kp e=>
  ⟨.ref s.heap.objs.size,_,I.laid (t':=s.toks) kp (aq _) (show j5 X.prog X.w _ h' _ (.lst ys) from ⟨hz,its,c',r',e⟩),rfl,q _ (I.hok.fresh (aq _))⟩
 rcases hq with hq|hq
 ·obtain⟨its,r',pl,hz⟩:=I.list hq
  have hlen:=r'.length
  obtain⟨o,ho,hc,n,hd⟩:=pl.isList
  exact call_list_seq p (.inl rfl) ho hc hd (fun h' c' kp e=> fin its r' hz h' c' kp e) (by simp only [az] <;> lia)
 ·obtain⟨its,r',pl,hz⟩:=I.tuple hq
  have hlen:=r'.length
  obtain⟨o,ho,hc,n,hd⟩:=pl
  exact call_list_seq p (.inr rfl) ho hc hd (fun h' c' kp e=> fin its r' hz h' c' kp e) (by simp only [az] <;> lia)
theorem akn:va X (.type "tuple") (fun xs H Q=> ∃p ys,xs=[.ref p]/\((SqL X.K H p ys/\ ∀l,H l=none -> Q (.ref l) (upd H l (.tup ys)))\/(SqT X.K H p ys/\Q (.ref p) H))):=by
 (first|refine⟨?_⟩|skip);intro pins s σ H xs us Q I r h
 obtain⟨p,ys,rfl,h⟩:=h
 obtain⟨u,rfl,rx⟩:=vals1 r
 cases rx
 rcases h with ⟨hq,q⟩|⟨hq,q⟩
 ·obtain⟨its,r',pl,hz⟩:=I.list hq
  have hlen:=r'.length
  refine call_tuple_list pl.isList (fun h' kp=> ?_) (by simp only [az] <;> lia)
  have I1:Inv X pins σ H {s with heap:=h'}:=I.kept (t':=s.toks) kp
  have I2:Inv X pins σ (upd H h'.objs.size (.tup ys)) {s with heap:=h'.push {cls:=.type "tuple",data:=.seq its.toArray}}:=
   I1.laid (t':=s.toks) (fun b o e=> ag _ e) (aq _) (show j5 X.prog X.w _ _ _ (.tup ys) from ⟨hz,its,r',aed.new _ _⟩)
  exact⟨.ref h'.objs.size,_,I2,rfl,q _ (I1.hok.fresh (aq _))⟩
 ·obtain⟨its,r',pl,hz⟩:=I.tuple hq
  exact call_tuple_same pl ⟨.ref p,H,I,rfl,q⟩
def tyV(K:aj)(T:String)(x:V)(H:Hp):Prop:=match x with
 |.str _=> T="str"
 |.int _=> T="int"
 | .ref p=> (T="list"/\ ∃xs,SqL K H p xs)\/(T="tuple"/\ ∃o,K.lookup p=some o/\o.cls=.type "tuple"/\o.dict=none)\/
   (T="dict"/\((∃kvs,H p=some (.dK kvs))\/ ∃kvs,H p=some (.dT kvs)))\/(T="set"/\ ∃S n,H p=some (.set S n))
 |_=> False
theorem a4v{x:V}{v:af}(I:Inv X pins σ H s)(r:RelV x v)(ty:tyV X.K T x H):
  s.TypeIs v T/\ ∀a,v=.ref a -> ∃ob,s.heap.get? a=some ob/\ob.dict=none:=by
 cases x with
 |str z=>
  obtain⟨t,rfl⟩:=r
  cases (show T="str" from ty)
  exact⟨typeIs_str s z t,fun _ e=> nomatch e⟩
 |int i=>
  obtain⟨t,rfl⟩:=r
  cases (show T="int" from ty)
  exact⟨iX s i t,fun _ e=> nomatch e⟩
 | ref p=>
  cases r
  rcases ty with ⟨rfl,xs,hq⟩|⟨rfl,o,hk,hc,hd⟩|⟨rfl,hk⟩|⟨rfl,S,n,hk⟩
  ·obtain⟨its,_,pl,_⟩:=I.list hq
   refine⟨pl.isList.typeIs,fun a e=> ?_⟩
   cases e
   obtain⟨o,n,e,c,hd,_⟩:=pl
   exact⟨o,e,hd⟩
  ·refine⟨⟨o,I.kIn p o hk,hc⟩,fun a e=> ?_⟩
   cases e
   exact⟨o,I.kIn _ o hk,hd⟩
  ·have z: ∃o,s.heap.get? p=some o/\o.ExactDict:=by
    rcases hk with ⟨kvs,hk⟩|⟨kvs,hk⟩
    ·obtain⟨_,_,_,_,o,_,_,e,ex,_⟩:=I.hok p _ hk
     exact⟨o,e,ex⟩
    ·obtain⟨_,_,_,_,o,_,_,e,ex,_⟩:=I.hok p _ hk
     exact⟨o,e,ex⟩
   obtain⟨o,e,ex⟩:=z
   refine⟨⟨o,e,ex.1⟩,fun a e2=> ?_⟩
   cases e2
   exact⟨o,e,ex.2.1⟩
  ·obtain⟨o,_,_,_,e,ex,_⟩:=I.hok p _ hk
   refine⟨⟨o,e,ex.1⟩,fun a e2=> ?_⟩
   cases e2
   exact⟨o,e,ex.2.1⟩
 |_=> exact df ty
noncomputable def tBM(K:aj)(T:String)(r:V -> List V -> Hp -> VK -> Prop)(to:TE)(t:TA):TE:=fun σ H Q=> to σ H fun x H1=> tyV K T x H1/\t σ H1 fun xs H2=> r x xs H2 Q
variable{o e:Expr}{es:List Expr}{to:TE}{t:TA}{name:Str}{apos cpos:Pos}{T id:String}{r:V -> List V -> Hp -> VK -> Prop}
theorem a60(pa:PlainAttrs T)(slot:Slot T name id)(hty:typeOf (.builtin id)=pure (.type "method_descriptor"))(hm:MtR X id r)(ho:PE X o to)(ha:PA X (e::es) t)
  (hbase:gB o name X.env (eval o X.env)=eval o X.env:=by rfl)
  (hfew:((backTo cpos (starEach (e::es) X.env)).all (fun x=> !x.1)&&(backToKw cpos (gl [] X.env)).all (fun x=> x.1.isSome)
   &&decide ((e::es).length+([]:List Keyword).length+(if ([]:List Keyword).isEmpty then 0 else 1) < 30))=true:=by rfl)
  (hline:(apos.endLine==cpos.line)=true:=by rfl) (hs:starEach (e::es) X.env=(false,eval e X.env)::starEach es X.env:=by rfl) (hplain:(backTo cpos (starEach es X.env)).any (·.1)=false:=by rfl):
  PE X (.Call (.Attribute o name apos) (e::es) [] cpos) (tBM X.K T r to t):=by
 (first|refine⟨?_⟩|skip);intro pins s σ H Q I h
 refine wpAny_Call_method_late hbase hfew hline rfl (thn (ho pins s σ H _ I h) fun v s1 ⟨x,H1,I1,r1,ty,q1⟩=> ?_)
 obtain⟨h1,h2⟩:=a4v I1 r1 ty
 refine⟨T,id,pa,slot,hty,h1,h2,?_⟩
 have hA:=ha cpos pins s1 σ H1 _ I1 q1
 rw [hs]at hA⊢
 refine Calls.callWith_builtin (by show (false||(backTo cpos (starEach es X.env)).any (·.1))=false;rw [hplain] <;> rfl) (Calls.evalArgs_plain ?_)
 exact thn hA fun us s2 ⟨vs,H2,I2,r2,q2⟩=> hm pins s2 σ H2 x vs v us Q I2 r1 r2 q2
end
def MtM(X:Cx)(id:String)(r:V -> List V -> Hp -> VK -> Prop):Prop:=
 ∀(pins:List (Addr×Obj)) (s:ai) (σ:St) (H:Hp) (x:V) (xs:List V) (v:af) (us:List af) (Q:VK),Inv X pins σ H s -> RelV x v -> jo xs us -> r x xs H Q ->
  wpAny (model X.prog X.w) X.A (call (.builtin id) (v::us)) (EP X pins σ Q) X.xe s
theorem jo.one: ∀{x:V} {us:List af},jo [x] us -> ∃u,us=[u]/\RelV x u
 |_,_,.cons r .nil=> ⟨_,rfl,r⟩
theorem jo.eraseIdx: ∀{xs:List V} {us:List af} (i:Nat),jo xs us -> jo (xs.eraseIdx i) (us.eraseIdx i)
 |_,_,_,.nil=>.nil
 |_,_,0,.cons _ t=> t
 |_,_,i+1,.cons r t=>.cons r (jo.eraseIdx i t)
theorem ak6{α:Type}: ∀(l:List α) (i:Nat),(l.eraseIdx i).length <=l.length
 |[],_=> aq _
 |_::_,0=> dW _
 |_::r,i+1=> Nat.succ_le_succ (ak6 r i)
section
variable{X:Cx}{pins:List (Addr×Obj)}{σ:St}{H:Hp}{s:ai}{l b:Addr}{xs ys zs:List V}
theorem Inv.lset{its':List af}{f:Array af -> Array af}{t':Nat}(I:Inv X pins σ H s)(hH:H l=some (.lst xs))(e:s.heap.get? l=some {cls:=.type "list",data:=.seq its.toArray n})(hf:f its.toArray=its'.toArray)(hv:jo ys its')(hz:ys.length <=sizeLine):
  Inv X pins σ (upd H l (.lst ys)) {s with heap:=s.heap.update l (f8 f),toks:=t'}:=by
 have q:=PySem.IsL.update e f
 rw [hf]at q
 refine I.write (x:=l) (e:=l) (by rw [hH];exact trivial) (.inl rfl) (fun b' u hb hu=> (bB s.heap (f8 f) (cI hb)).trans hu) ⟨_,q⟩ ?_
 exact⟨hz,its',_,hv,q⟩
theorem Inv.lnew{t':Nat}(I:Inv X pins σ H s)(hv:jo ys its)(hz:ys.length <=sizeLine):
  Inv X pins σ (upd H s.heap.objs.size (.lst ys)) {s with heap:=s.heap.push {cls:=.type "list",data:=.seq its.toArray},toks:=t'}:=
 I.laid (fun _ _ q=> ag _ q) (aq _) ⟨hz,its,0,hv,ar _ rfl⟩
theorem Inv.fresh(I:Inv X pins σ H s):H s.heap.objs.size=none:=I.hok.fresh (aq _)
theorem Inv.lstM(I:Inv X pins σ H s)(hH:H l=some (.lst xs)):xs.length <=sizeLine/\ ∃(its:List af) (n:Nat),jo xs its/\xs.length=its.length/\s.heap.get? l=some {cls:=.type "list",data:=.seq its.toArray n}:=by
 obtain⟨z,its,n,r,e⟩:=I.hok l _ hH
 exact⟨z,its,n,r,r.length,e⟩
end
def ayv:V -> List V -> Hp -> VK -> Prop:=fun x vs H Q=> ∃l xs y,x=.ref l/\vs=[y]/\H l=some (.lst xs)/\xs.length < sizeLine/\Q .non (upd H l (.lst (xs++ [y])))
theorem aki:MtM X "list.append" ayv:=by
 (first|refine⟨?_⟩|skip);intro pins s σ H x vs v us Q I rx rv h
 obtain⟨l,xs,y,rfl,rfl,hH,hz,q⟩:=h
 cases rx
 obtain⟨u,rfl,ru⟩:=rv.one
 obtain⟨z,its,n,r,hl,e⟩:=I.lstM hH
 refine gV F.slot_list_append ⟨_,e,rfl⟩ F.entry_list_append (F.args_list_append_2 _ _) (PySem.list_append l its.toArray n u (by rw [az];lia)) ⟨e,?_⟩
 refine⟨.non,_,I.lset (its':=its++ [u]) hH e (by simp) (r.append (.cons ru .nil)) ?_,rfl,q⟩
 rw [aX,List.length_singleton]
 lia
def a3o:V -> List V -> Hp -> VK -> Prop:=fun x vs H Q=> ∃l xs i k y,x=.ref l/\vs=[.int i]/\H l=some (.lst xs)/\ -(2^63) <=i/\i < 2^63/\iz i xs.length=some k/\xs[k]?=some y/\Q y (upd H l (.lst (xs.eraseIdx k)))
theorem avh:MtM X "list.pop" a3o:=by
 (first|refine⟨?_⟩|skip);intro pins s σ H x vs v us Q I rx rv h
 obtain⟨l,xs,i,k,y,rfl,rfl,hH,h1,h2,hk,hy,q⟩:=h
 cases rx
 obtain⟨u,rfl,ru⟩:=rv.one
 obtain⟨t,rfl⟩:=ru
 obtain⟨z,its,n,r,hl,e⟩:=I.lstM hH
 obtain⟨w,hw,rw'⟩:=r.get hy
 refine gV F.slot_list_pop ⟨_,e,rfl⟩ F.entry_list_pop (F.args_list_pop_2 _ _)
  (MeetsSeq.list_pop_at l its.toArray n i t k w (fitsIndex_both h1 h2) (by rw [az,←hl];exact hk) (by rw [←cq];exact hw) (by rw [az];lia)) ⟨e,?_⟩
 refine⟨y,_,I.lset (its':=its.eraseIdx k) hH e ?_ (r.eraseIdx k) ?_,rw',q⟩
 ·show its.toArray.eraseIdxIfInBounds k=(its.eraseIdx k).toArray
  rw [List.eraseIdxIfInBounds_toArray]
 ·have:=ak6 xs k
  lia
def a7k:R2:=fun x y H Q=> ∃l b xs zs,x=.ref l/\y=.ref b/\H l=some (.lst xs)/\H b=some (.lst zs)/\xs.length+zs.length <=sizeLine/\ ∀p,H p=none -> Q (.ref p) (upd H p (.lst (xs++zs)))
theorem a27:OpR X (binaryOp .Add) a7k:=by
 (first|refine⟨?_⟩|skip);intro pins s σ H x y v u Q I rx ry h
 obtain⟨l,b,xs,zs,rfl,rfl,hH,hB,hz,q⟩:=h
 cases rx
 cases ry
 obtain⟨z,its,n,r,hl,e⟩:=I.lstM hH
 obtain⟨z2,its2,n2,r2,hl2,e2⟩:=I.lstM hB
 refine PySem.P.add_list e e2 ?_ (by rw [az,az];lia)
 have ea:its.toArray++its2.toArray=(its++its2).toArray:=by simp
 rw [ea]
 exact⟨.ref _,_,I.lnew (t':=s.toks) (r.append r2) (by rw [aX];lia),rfl,q _ I.fresh⟩
section
variable{κ:Type}[DecidableEq κ]
end
theorem a5y{u:HO}(ok:HOk P w H h)(e:Rd H a u):j5 P w H h a u:=e.ok ok
theorem a6e{kvs:List (Key×V)}(ok:HOk P w H h)(e:Rd H a (.dK kvs)):kvs.length <=sizeLine/\(a==eZ)=false/\ ∃vs,KV kvs vs/\h.DictOf (acx P w) a vs:=
 show j5 P w H h a (.dK kvs) from a5y ok e
theorem axx{kvs:List (Key×V)}(ok:HOk P w H h)(e:H a=some (.dK kvs)):kvs.length <=sizeLine/\(a==eZ)=false/\ ∃vs,KV kvs vs/\h.DictOf (acx P w) a vs:=a6e ok (.inl e)
end L2
namespace Att
open PySem PySem.W PySem.Calls PyProof.Rows
theorem ahs{P:Params}: ∀(ns:List Int) (vs:List af),WellAll P h vs (ns.map WData.int) -> ic vs ns:=by
 intro ns
 induction ns with
 |nil=>
  intro vs w
  rw [dz]at w
  cases w
  exact .nil
 | cons n ns ih=>
  intro vs w
  rw [aJ]at w
  cases w with
  |cons a b=>
   cases a
   exact .cons _ _ (ih _ b)
theorem asq{l:OpenLaw}(hn:l.most=some n){P:Params}{args:List WData}{vals:List af}(hpre:l.row.toRowW.claim.pre args=true)(hwl:WellAll P h vals args):
  ∃a vs ns,vals=[aD a]/\args=[WData.list (ns.map WData.int)]/\h.get? a=some {cls:=.type "list",data:=.seq vs.toArray}/\ic vs ns/\ns.length <=n:=by
 have hsh:WShape.hasAll [] args [.list .int]=true:=(pre_splitW hpre).1
 have hc:l.pre.holds [] {args:=args}=true:=(pre_splitW hpre).2
 obtain⟨d,r,rfl,h1,h2⟩:=hasAllW_cons hsh
 obtain rfl:=hasAllW_nil h2
 obtain⟨xs,rfl,h3⟩:=hasW_list h1
 obtain⟨ns,rfl⟩:=items_int h3
 have hlen:ns.length <=n:=by
  unfold OpenLaw.pre at hc
  have h4:(WTm.not (.lt (.lit (.int (n:Int))) (.len (.arg 0)))).holds [] {args:=[.list (ns.map .int)]}=true:=by
   have h4:=(holds_andW hc).1
   rw [hn]at h4
   exact h4
  have h5:=condW_of h4 (w_not (w_lt w_lit (w_len_list (w_arg rfl))))
  rw [ak]at h5
  refine cu fun q=> ?_
  have q':(n:Int) < ((ns.length:Nat):Int):=by lia
  first
   |(rw [decide_eq_true q']at h5;exact absurd h5 (by decide))
   |(simp at h5;lia)
 cases hwl with
 |cons w1 w2=>
  cases w2
  cases w1 with
  |list ho hall=> exact⟨_,_,ns,rfl,rfl,ho,ahs ns _ hall,hlen⟩
theorem at6(l:OpenLaw)(args:List WData):l.row.toRowW.claim.post args (.bool true) args=true:=
 postW_of (r:=l.row.toRowW) (X:=(true==true))
  (show WShape.has [] (.bool true) .bool=true by first|rfl|decide|simp [WShape.has,WShape.arms,WShape.armsAll])
  (show (WTm.eq .res (.lit (.bool true))).value [] {args:=args,res:=some (.bool true),after:=args}=some (.bool (true==true)) from w_eq_bool (w_res rfl) w_lit) rfl
theorem attach_call{l:OpenLaw}{q:aQ}{loose:List Str}{XP:(Str -> Option af) -> Heap -> Prop}{YP:aU -> Heap -> Prop}{d:DefRec}(hn:l.most=some n)(hdf:d.params.defaults=[])(call: ∀(w:aU) (s₀ s₁:ai) (mg mb:Str -> Option af) (fa:Addr) (o:Obj) (pm cd doc:af) (a:Addr) (vs:List af) (ns:List Int),
   Ground q loose [] XP w s₀ mg mb s₁.heap -> YP w s₁.heap ->
   s₁.heap.get? fa=some o -> o.data=.func (docDef d.name d.params d.body d.scope pm cd doc) -> s₁.heap.CodeRec cd d.name -> mg d.name=some (.ref fa) ->
   s₁.heap.get? a=some {cls:=.type "list",data:=.seq vs.toArray} -> ic vs ns -> ns.length <=n -> s₁.gens= #[] ->
   codeAny (model l.prog w) callerA (.call (.ref fa) ⟨[.ref a],[]⟩) (fun r s'=> r=.ok (.ret (.bool true))/\OldK s₁.heap s'.heap/\s'.os=s₁.os/\f6 s'.gens) s₁):
  WalkO q loose XP YP l.row.toRowW d [] (fun f vs=> PySem.call f vs):=by
 intro w s₀ s₁ mg mb G Y fa o pm cd doc dV kV ho hd hcd hD hmg hg args vals as hpre hlay hrd hwl hlo
 obtain rfl:dV=.none:=Dflts.none hD hdf
 obtain rfl:kV=.none:=Dflts.noKw hD
 obtain⟨a,vs,ns,rfl,rfl,hobj,hints,hlen⟩:=asq hn hpre hwl
 refine enter_call (dC (call w s₀ s₁ mg mb fa o pm cd doc a vs ns G Y ho (fd_plain hd) hcd hmg hobj hints hlen hg) fun r s' hq=> ?_)
 obtain⟨rfl,h2,h3,h4⟩:=hq
 exact⟨.inl ⟨.bool true,.bool true,[],rfl,fun _=> rfl,.bool true,at6 l _,fun _=> ⟨iP,fun _ hm=> (nomatch hm)⟩⟩,h2,h3,h4⟩
end Att
namespace L2
open PySem PySem.Spec PyProof.Rows
theorem ajb: ∀{vs:List af} {ns:List Int},ic vs ns -> jo (ns.map V.int) vs
 |_,_,.nil=>.nil
 |_,_,.cons n t h=>.cons ⟨t,rfl⟩ (ajb h)
def axn(H:Hp):Prop:= ∀b,H b=none\/ ∃o xs,H b=some (.frz o (.lst xs))
theorem awd{mb:Str -> Option af}{CX:CXT}{fa:Addr}{x:Str}{sp:Sp}{s₁:ai}{vs:List af}{ns:List Int}(KX:K.In s₁.heap)(hns:s₁.heap.Ns aP mg)(hb:s₁.heap.Ns builtinsNs mb)(hbb: ∀x:Str,x≠"__name__" -> mb x=a9 x)(hlim:s₁.heap.NoLimit)(hg:s₁.gens= #[])(ha:s₁.heap.get? a=some {cls:=.type "list",data:=.seq vs.toArray})(hi:ic vs ns)(hl:ns.length <=sizeLine)(hr:Room k callerA)(F: ∀base:Heap,K.In base -> base.Ns aP mg -> FnOk P w K mg base CX k fa fd [x] sp)(hbind: ∀(s:ai) (u:af),kM s fd ⟨[u],[]⟩ [(x,u)])(hsp: ∀H:Hp,axn H -> SqL K H a (ns.map V.int) -> sp [.ref a] H (fun v _=> v=.bl true) fun _ _ _=> False)(hCX: ∀H e s',CX [] H s₁ (fun _ _ _=> False) e s' -> False):
  codeAny (model P w) callerA (.call (.ref fa) ⟨[.ref a],[]⟩) (fun r s'=> r=.ok (.ret (.bool true))/\OldK s₁.heap s'.heap/\s'.os=s₁.os/\f6 s'.gens) s₁:=by
 have rv:=ajb hi
 have lenV:=hi.length
 -- from an abstract heap in which nothing but the script may be tracked
 have core: ∀H:Hp,axn H -> SqL K H a (ns.map V.int) -> HOk P w H s₁.heap -> (∀b,H b≠none -> b=a) -> (H a≠none -> K.lookup a=none) ->
   codeAny (model P w) callerA (.call (.ref fa) ⟨[.ref a],[]⟩) (fun r s'=> r=.ok (.ret (.bool true))/\OldK s₁.heap s'.heap/\s'.os=s₁.os/\f6 s'.gens) s₁:=by
  intro H hO hS hok hA hK
  have base_of: ∀{b:Addr} {o:Obj},s₁.heap.get? b=some o -> H b=none -> (adw s₁.heap H).get? b=some o:=fun e n=> aug e n
  have noA: ∀{b:Addr} {o:Obj} {es:Array jP} {ep:Nat},s₁.heap.get? b=some o -> o.data=.dict es ep -> H b=none:=fun {b o es ep} e d=> by
   cases q:H b with
   |none=> rfl
   |some u=>
    have e':b=a:=hA b (by rw [q];simp)
    subst e'
    rw [ha]at e;cases e
    have d':Data.seq vs.toArray _=Data.dict es ep:=d
    cases d'
  have nsK: ∀{b:Addr} {m:Str -> Option af},s₁.heap.Ns b m -> (adw s₁.heap H).Ns b m:=fun {b m} ⟨o,es,ep,e,d,r⟩=> ⟨o,es,ep,base_of e (noA e d),d,r⟩
  have hKb:K.In (adw s₁.heap H):=fun b o e=> base_of (KX b o e) (by
   cases q:H b with
   |none=> rfl
   |some u=>
    have e':b=a:=hA b (by rw [q];simp)
    subst e'
    rw [hK (by rw [q];simp)]at e;cases e)
  have hM:Mod K mg (adw s₁.heap H):=⟨hKb,nsK hns,⟨mb,nsK hb,hbb⟩,let ⟨mc,h1,h2⟩:=hlim;⟨mc,nsK h1,h2⟩⟩
  have e0:Env0 P w K mg (adw s₁.heap H) callerA [] s₁ H:=⟨rfl,hM,fun b o e=> a1f e,eQ (ar7 _ _),trivial,fun b hb=> absurd (show b∈([]:List Addr) from hb) (by simp),hok,.of_eq hg⟩
  refine dC ((F _ hKb (nsK hns)).run callerA [] s₁ H ⟨[.ref a],[]⟩ [.ref a] [.ref a] _ _ hr e0 (hbind s₁ (.ref a)) (.cons rfl .nil) (hsp H hO hS)) fun r s' h=> ?_
  cases r with
  |error e=> exact (hCX H e s' h).elim
  | ok fl=>
   cases fl with
   |next=> exact df h
   |brk=> exact df h
   |cont=> exact df h
   | ret u=>
    obtain⟨v,H',os,bare,un,hok',r',q⟩:=h
    have q':v=.bl true:=q
    subst q'
    obtain rfl:u=eD true:=r'
    refine⟨rfl,OldK.of_keep fun b o e=> ?_,os,bare⟩
    cases q:H b with
    |none=> exact un.keep b o e q (by intro z;exact absurd (show b∈([]:List Addr) from z) (by simp)) (by simp)
    | some u=>
     rcases hO b with z|⟨ob,xs,z⟩
     ·rw [q]at z;cases z
     ·have z2:=un.frzs b ob _ z
      obtain⟨e1,_⟩:=hok b _ z
      obtain⟨e2,_⟩:=hok' b _ z2
      rw [e]at e1;cases e1
      exact e2
 cases hk:K.lookup a with
 |some o=>
  -- the script is one of the module's own objects
  have e:=KX a o hk
  rw [ha]at e
  cases e
  refine core (fun _=> none) (fun _=>.inl rfl) (.inr ⟨_,vs.toArray,_,hk,rfl,rfl,rfl,by rw [az,lenV];exact hl,by simpa using rv⟩) (fun b u z=> by have z':(none:Option HO)=some u:=z;cases z') (fun b z=> absurd rfl z) fun z=> absurd rfl z
 | none=>
  refine core (fun b=> if b=a then some (.frz {cls:=.type "list",data:=.seq vs.toArray} (.lst (ns.map V.int))) else none) (fun b=> ?_) (.inl (.inr ⟨{cls:=.type "list",data:=.seq vs.toArray},if_pos rfl⟩)) (fun b u z=> ?_) (fun b z=> ?_) fun _=> hk
  ·by_cases hb:b=a
   ·exact .inr ⟨_,_,if_pos hb⟩
   ·exact .inl (if_neg hb)
  ·by_cases hb:b=a
   ·have z':=(if_pos hb).symm.trans z
    cases z'
    subst hb
    exact⟨ha,by rw [ak];exact hl,vs,_,rv,ha⟩
   ·have z':=(if_neg hb).symm.trans z
    cases z'
  ·by_cases hb:b=a
   ·exact hb
   ·exact absurd (if_neg hb) z
theorem a13{l:jS}{q:aQ}{loose:List Str}{XP:(Str -> Option af) -> Heap -> Prop}{YP:aU -> Heap -> Prop}{d:DefRec}{K:Params -> aj}{CX:aU -> CXT}{sp:aU -> Sp}{x:Str}(hn:l.most=some n)(hn2:n <=sizeLine)(hdf:d.params.defaults=[])(hr:Room k callerA)(hY: ∀(w:aU) (h:Heap),YP w h -> (K w.params).In h)(F: ∀(w:aU) (mg:Str -> Option af) (fa:Addr) (h:Heap),(K w.params).In h -> h.Ns aP mg -> mg d.name=some (.ref fa) ->
   ∃fd:d5,(∀(s:ai) (u:af),kM s fd ⟨[u],[]⟩ [(x,u)])/\
    ∀base:Heap,(K w.params).In base -> base.Ns aP mg -> FnOk l.prog w (K w.params) mg base (CX w) k fa fd [x] (sp w)) (hsp: ∀(w:aU) (H:Hp) (a:Addr) (ns:List Int),ns.length <=n -> axn H -> SqL (K w.params) H a (ns.map V.int) -> sp w [.ref a] H (fun v _=> v=.bl true) fun _ _ _=> False) (hCX: ∀(w:aU) (H:Hp) (s:ai) (e:af) (s':ai),CX w [] H s (fun _ _ _=> False) e s' -> False):
  PySem.W.WalkO q loose XP YP l.row.toRowW d [] (fun f vs=> PySem.call f vs):=by
 refine Att.attach_call hn hdf fun w s₀ s₁ mg mb fa o pm cd doc a vs ns G Y ho hd hcd hmg hobj hints hlen hg=> ?_
 have KX:=hY w _ Y
 obtain⟨fd,hb,hF⟩:=F w mg fa _ KX G.T.g hmg
 exact awd KX G.T.g G.T.b G.T.builtins G.T.nolimit hg hobj hints (ax hlen hn2) hr hF hb (fun H hO hS=> hsp w H a ns hlen hO hS) fun H e s'=> hCX w H s₁ e s'
noncomputable def xw(s:Stmt):Arguments:=match s with
 |.FunctionDef _ a _ _ _ _ _ _ _ _=> a
 |_=> {posonlyargs:=[],args:=[],vararg:=none,kwonlyargs:=[],kw_defaults:=[],kwarg:=none,defaults:=[]}
noncomputable def vg(s:Stmt):List Stmt:=match s with
 |.FunctionDef _ _ b _ _ _ _ _ _ _=> b
 |_=> []
noncomputable def je(s:Stmt):fZ:=match s with
 |.FunctionDef _ _ _ _ _ _ sc _ _ _=> sc
 |_=> {kind:=.function,names:=[],isGenerator:=false,isCoroutine:=false}
abbrev CX0:CXT:=fun _ _ _ _ _ _=> False
structure Fun (K:aj) (x qual:Str) (st:Stmt) (f:Addr) (fd:d5):Prop where
 ex: ∃(oc:af) (od:Option Addr) (kV doc pm:af) (an:Option Addr) (cdv ct:af) (osl:Array (Option af)),
  fd=cL x qual (xw st) (vg st) (je st) .none kV doc pm an cdv ct/\K.lookup f=some ⟨oc,od,.func fd,osl⟩/\eP K cdv qual=true
 kp:cR K (.ref f)=true
theorem Fun.binds{x:Str}(F:Fun K x qual st f fd)(h: ∀(kV doc pm:af) (an:Option Addr) (cdv ct:af) (us:List af),us.length=ps.length -> bindArgs (cL x qual (xw st) (vg st) (je st) .none kV doc pm an cdv ct) ⟨us,[]⟩=pure (ps.zip us)):Binds K fd ps []:=by
 obtain⟨oc,od,kV,doc,pm,an,cdv,ct,osl,rfl,lk,hcd⟩:=F.ex
 exact .all (h kV doc pm an cdv ct)
theorem aex{x:Str}{oc:af}{od an:Option Addr}{kV doc pm cdv ct:af}(l:K.lookup f=some ⟨oc,od,.func (cL x qual (xw st) (vg st) (je st) .none kV doc pm an cdv ct),osl⟩)(c:eP K cdv qual=true)(k:cR K (.ref f)=true):Fun K x qual st f (cL x qual (xw st) (vg st) (je st) .none kV doc pm an cdv ct):=⟨⟨oc,od,kV,doc,pm,an,cdv,ct,osl,rfl,l,c⟩,k⟩
theorem ajy(h:n <=1000):n < sizeLine:=fR h (by decide)
theorem pv(i:Nat){x:Str}(hN:X.N[i]?=some x:=by rfl)(hv:Vis X.env.scope x:=by first|exact cM rfl|exact eR (cM rfl)|exact eR (eR rfl))(hd:(x==("__debug__":Str))=false:=by decide)(hcd:(x==("__classdict__":Str))=false:=by decide):PE X (.Name x pos) (auq i):=atd hN hv hd hcd
def ky(H H':Hp):Prop:= ∀b o,H b=some o -> H' b=some o
theorem ky.seq(e:ky H H')(h:SqL K H a xs):SqL K H' a xs:=by
 rcases h with (h|⟨o,h⟩)|h
 ·exact .inl (.inl (e _ _ h))
 ·exact .inl (.inr ⟨o,e _ _ h⟩)
 ·exact .inr h
noncomputable def xq(env:Env):List (Str×eK) -> List (Str×Addr) -> List (Str×Addr)
 |[],cs=> cs
 |(n,k)::r,cs=> xq env r (if k==.free then (match env.cells.lookup n with|some c=> (n,c)::cs|none=> cs) else cs)
theorem aly{env:Env}: ∀{l:List (Str×eK)} {cs:List (Str×Addr)},(∀n c,(n,c)∈cs -> env.cells.lookup n=some c) -> ∀n c,(n,c)∈xq env l cs -> env.cells.lookup n=some c
 |[],cs,h,n,c,m=> h n c m
 | (n',k)::r,cs,h,n,c,m=> by
  unfold xq at m
  refine aly (l:=r) (fun a b q=> ?_) n c m
  split at q
  ·split at q
   ·rename_i c' hc
    rcases aw.mp q with z|z
    ·cases z;exact hc
    ·exact h a b z
   ·exact h a b q
  ·exact h a b q
theorem ajw{env:Env}: ∀{l:List (Str×eK)} {cs:List (Str×Addr)} {p},p∈cs -> p∈xq env l cs
 |[],_,_,h=> h
 | (n,k)::r,cs,p,h=> by
  unfold xq
  refine ajw (l:=r) ?_
  split
  ·split
   ·exact aB _ h
   ·exact h
  ·exact h
theorem alo{env:Env}: ∀{l:List (Str×eK)} {cs:List (Str×Addr)} {n:Str} {c:Addr},(n,bR)∈l -> env.cells.lookup n=some c -> (n,c)∈xq env l cs
 |[],_,_,_,h,_=> by cases h
 | (n',k)::r,cs,n,c,h,e=> by
  unfold xq
  rcases aw.mp h with z|z
  ·cases z
   refine ajw ?_
   simp [e]
  ·exact alo z e
theorem ae9(h: ∀n,(n,bR)∈scope.names -> ∃c,env.cells.lookup n=some c):closureFor scope env=pure (xq env scope.names []):=by
 have all: ∀(l:List (Str×eK)) (cs:List (Str×Addr)),(∀n,(n,bR)∈l -> ∃c,env.cells.lookup n=some c) ->
   (forIn l cs (fun (x:Str×eK) (r:List (Str×Addr))=> (match x with|(name,kind)=> if (kind==bR)=true then (do let a←cellOf env name;pure (eE ((name,a)::r))) else pure (eE r):Sem (ForInStep (List (Str×Addr))))))=(pure (xq env l cs):Sem (List (Str×Addr))):=by
  intro l
  induction l with
  |nil=> intro cs _;rfl
  | cons p r ih=>
   intro cs hl
   obtain⟨n,k⟩:=p
   have hr: ∀n,(n,bR)∈r -> ∃c,env.cells.lookup n=some c:=fun n m=> hl n (aB _ m)
   rw [jT]
   unfold xq
   by_cases hk:k=.free
   ·subst hk
    obtain⟨c,hc⟩:=hl n aC
    have e:cellOf env n=pure c:=by unfold cellOf;rw [hc]
    simp only [beq_self_eq_true,if_true,e,hc]
    exact ih _ hr
   ·have hb:(k==bR)=false:=by simpa using hk
    simp only [hb,cr,if_false];exact ih _ hr
 unfold closureFor
 exact (congrArg (fun (z:Sem (List (Str×Addr)))=> z >>=fun r=> pure r) (all scope.names [] h)).trans rfl
def qo(X:Cx)(own caps:List Str)(scope:fZ)(C:Addr)(fp:List Addr)(s:ai)(H:Hp):Cx where
 prog:=X.prog
 w:=X.w
 K:=X.K
 mg:=X.mg
 base:=X.base
 A:=X.A
 N:=own++caps
 s₀:=s
 H₀:=H
 env:=compEnvC scope (xq X.env scope.names []) C X.env
 outer:=X.stack
 stack:=X.stack
 ex:=fp
 fn:=fun _=> false
 calm:=X.calm
 pn:=[]
 xe:=fun _ _=> False
def ar2(X:Cx)(scope:fZ)(y:Str)(j:Nat):Prop:=X.N[j]?=some y/\Vis X.env.scope y/\(X.env.kindOf y==some .local)=false/\((relabel scope X.env).names.lookup y==some .cell||(relabel scope X.env).names.lookup y==some .free)=true
def yu(X:Cx)(scope:fZ):List Str -> List Nat -> Prop
 |[],[]=> True
 |y::ys,j::js=> ar2 X scope y j/\yu X scope ys js
 |_,_=> False
noncomputable def za(σ:St)(js:List Nat):St:=js.map fun j=> (σ[j]?).join
theorem yu.at{X:Cx}{scope:fZ}{σ:St}: ∀{ys:List Str} {js:List Nat} {i:Nat} {y:Str} {v:V},yu X scope ys js -> ys[i]?=some y -> (za σ js)[i]?=some (some v) -> ∃j,ar2 X scope y j/\σ[j]?=some (some v)
 |[],[],i,y,v,_,h,_=> by simp at h
 | a::ys,j::js,0,y,v,c,h,e=> by
  simp at h;subst h
  refine⟨j,c.1,?_⟩
  simp [za]at e
  cases q:σ[j]? with
  |none=>
   rw [q]at e
   cases e
  |some o=>
   rw [q]at e
   simp at e
   rw [e]
 |a::ys,j::js,i+1,y,v,c,h,e=> yu.at (i:=i) c.2 (by simpa using h) (by simpa [za] using e)
 |[],_::_,_,_,_,c,_,_=> c.elim
 |_::_,[],_,_,_,c,_,_=> c.elim
theorem yu.len{X:Cx}{scope:fZ}{σ:St}: ∀{ys:List Str} {js:List Nat},yu X scope ys js -> (za σ js).length=ys.length
 |[],[],_=> rfl
 |a::ys,j::js,c=> by simp only [za,aJ,aM];exact congrArg (· +1) (yu.len (σ:=σ) c.2)
 |[],_::_,c=> c.elim
 |_::_,[],c=> c.elim
theorem abp{env:Env}: ∀{names:List (Str×eK)} {x:Str},(∀p∈names,p.2≠ .cell) ->
  ((names.map fun (n,k)=> if (k==bR&&env.scope.kind==.function&&env.kindOf n==some .cell) then (n,fx) else (n,k)).lookup x=some .cell\/
    (names.map fun (n,k)=> if (k==bR&&env.scope.kind==.function&&env.kindOf n==some .cell) then (n,fx) else (n,k)).lookup x=some .free) -> (x,bR)∈names
 |[],_,_,h=> by simp at h
 | (n,k)::r,x,hc,h=> by
  have hr: ∀p∈r,p.2≠ .cell:=fun p hp=> hc p (aB _ hp)
  have hk:k≠ .cell:=hc (n,k) aC
  have step: ∀(b:Bool),(dU x ((if b=true then (n,fx) else (n,k))::r.map fun (n,k)=> if (k==bR&&env.scope.kind==.function&&env.kindOf n==some .cell) then (n,fx) else (n,k))=some .cell\/
     dU x ((if b=true then (n,fx) else (n,k))::r.map fun (n,k)=> if (k==bR&&env.scope.kind==.function&&env.kindOf n==some .cell) then (n,fx) else (n,k))=some .free) -> (b=true -> k=.free) -> (x,bR)∈(n,k)::r:=by
   intro b q hb
   cases hx:x==n with
   | true=>
    have e:x=n:=by simpa using hx
    subst e
    cases b with
    |true=> rw [hb rfl];exact aC
    |false=>
     simp [cv]at q
     rcases q with q|q
     ·exact absurd q hk
     ·rw [q];exact aC
   |false=>
    refine aB _ (abp (env:=env) hr ?_)
    cases b <;> simpa [cv,hx] using q
  exact step _ h fun q=> by simp at q;exact q.1.1
def aim(X:Cx)(ifs:List Expr)(t:TT):Prop:=
 ∀(pins:List (Addr×Obj)) (s:ai) (σ:St) (H:Hp) (Q:Bool -> Hp -> Prop),Inv X pins σ H s -> t σ H Q ->
  wpAny (model X.prog X.w) X.A (forIn ifs true fun c r=> if r=true then do let ok←isTrue c X.env (eval c X.env);pure (eE ok) else pure (eE r)) (TP X pins σ Q) X.xe s
noncomputable def a7j:TT:=fun _ H Q=> Q true H
theorem auk:aim X [] a7j:=fun _ _ _ H _ I h=> wpAny_tests_nil ⟨H,I,h⟩
theorem awg{t:TT}(h:PT X c t):aim X [c] t:=fun pins s σ H Q I q=> wpAny_tests_one (h pins s σ H Q I q)
abbrev Wn(P:aQ)(w:aU)(A:bf){α:Type}(m:Sem α)(Q:α -> ai -> Prop)(s:ai):Prop:=wpAny (model P w) A m Q (fun _ _=> False) s
abbrev a21(env:Env)(l:List Expr):Sem Bool:=forIn l true fun c r=> if r=true then do let b←isTrue c env (eval c env);pure (eE b) else pure (eE r)
def a3y (P:aQ) (w:aU) (A:bf) (it acc:af) (tg elt:Expr) (l:List Expr) (env:Env) (fin:ai -> Prop) (again:ai -> Prop) (s:ai):Prop:=
 Wn P w A (pyNext it) (fun r a=> match r with
  |none=> fin a
  | some v=> Wn P w A (gQ tg it v) (fun _ b=> Wn P w A (assign tg env v) (fun _ c=> Wn P w A (a21 env l) (fun ok d=>
    if ok=true then Wn P w A (eval elt env) (fun x e=> Wn P w A (call (.builtin "list.append") [acc,x]) (fun _ g=> again g) e) d else again d) c) b) a) s
theorem a0s{R:gR -> ai -> Prop}{elt:Expr}{l:List Expr}{sc:fZ}{it acc:af}(J:Nat -> ai -> Prop)(turn: ∀n s,J n s -> a3y P w A it acc tg elt l env (R (.ok .next)) (fun z=> ∃m,m < n/\J m z) s)(n:Nat)(h:J n s):codeAny (model P w) A (.compLoop (.ListComp elt [⟨tg,iter,l,0⟩] sc pos) 0 it acc env) R s:=by
 refine codeAny_loop rfl J (fun k z hz=> ?_) n h
 have one:=turn k z hz
 show wpAny _ A (Sem.onRaise (compTurn (.ListComp elt [⟨tg,iter,l,0⟩] sc pos) 0 it acc env) fun x=> do jU x env;theTreesLotGoes x) _ _ z
 refine wpAny_noted ?_
 rw [compTurn_list]
 refine ac (fq (ac (cc one (fun r a ha=> ?_) fun _ _ f=> f.elim)))
 cases r with
 |none=> exact ah ha
 | some v=>
  refine ac (cc ha (fun _ b hb=> ac (cc hb (fun _ c hc=> ac (cc hc (fun ok d hd=> ?_) fun _ _ f=> f.elim)) fun _ _ f=> f.elim)) fun _ _ f=> f.elim)
  cases ok with
  |false=>
   have q: ∃m,m < k/\J m d:=hd
   exact ah ⟨rfl,q⟩
  |true=>
   have q:Wn P w A (eval elt env) (fun x e=> Wn P w A (call (.builtin "list.append") [acc,x]) (fun _ g=> ∃m,m < k/\J m g) e) d:=hd
   exact ac (ac (cc q (fun x e he=> ac (cc he (fun _ g hg=> ah (ah ⟨rfl,hg⟩)) fun _ _ f=> f.elim)) fun _ _ f=> f.elim))
def av7(g:TG)(tt:TT)(te:TE)(k:Nat)(cap:St)(J:It)(H1:Hp)(Q:VK):Prop:=
 ∀ D,H1 D=none -> ∃W:Nat -> Nat -> List V -> Hp -> Prop,(∃m,W 0 m [] (upd H1 D (.lst [])))/\ ∀i m ys H,H D=some (.lst ys) -> W i m ys H ->
  (J.stop i H/\Q (.ref D) H)\/(J.go i H/\ ∀x H',J.yld i H x H' -> ∀vs:St,vs.length=k -> g x (vs++cap) H' fun σ2 H2=> (∃vs':St,vs'.length=k/\σ2=vs'++cap)/\tt σ2 H2 fun b H3=>
   if b=true then te σ2 H3 fun v H4=> H4 D=some (.lst ys)/\ys.length < sizeLine/\ ∃m',m' < m/\W (i+1) m' (ys++ [v]) (upd H4 D (.lst (ys++ [v]))) else H3 D=some (.lst ys)/\ ∃m',m' < m/\W (i+1) m' ys H3)
def tLc(js:List Nat)(k:Nat)(wi:TI)(g:TG)(tt:TT)(te:TE):TE:=fun σ H Q=> wi σ H fun J H1=> av7 g tt te k (za σ js) J H1 Q
section
variable{X:Cx}{own caps:List Str}{js:List Nat}{scope:fZ}{tg iter elt:Expr}{ifs:List Expr}{wi:TI}{g:TG}{tt:TT}{te:TE}{pos:Pos}
theorem art{H2:Hp}{s2:ai}{it:Addr}{tn:Nat -> Heap -> Prop}{J:It}{Q:VK}{post:af -> Addr -> gR -> ai -> Prop}(hcalm:X.calm=true)(hkind:scope.kind=.function)(hcell:(scope.names.any fun p=> p.2==.cell)=false)(hk:(scope.names.all fun p=> !(p.2==.free)||(X.env.kindOf p.1==some .cell||X.env.kindOf p.1==some .free))=true)(hcap:yu X scope caps js)(hg: ∀C fp s H,PG (qo X own caps scope C fp s H) tg g)(hi: ∀C fp s H,aim (qo X own caps scope C fp s H) ifs tt)(he: ∀C fp s H,PE (qo X own caps scope C fp s H) elt te)(I2:Inv X pins σ H2 s2)(T:Turn X.prog X.w X.K tg J fp it tn)(st2:tn 0 s2.heap)(f2: ∀b∈fp,ac3 X pins H2 b)(hw:av7 g tt te own.length (za σ js) J H2 Q)(hpost: ∀D C s' m H',s'.heap.Ns C m -> s2.heap.objs.size <=C -> ac3 X pins H' C -> Inv X pins σ H' s' -> Q (.ref D) H' -> post (.ref D) C (.ok .next) s'):
  wpAny (model X.prog X.w) X.A (newList []) (fun acc s₃=> wpAny (model X.prog X.w) X.A (newFunctionEnv scope X.env.globals (xq X.env scope.names []) [] X.env.qual none .none (some X.env)) (fun cenv s₄=>
   codeAny (model X.prog X.w) X.A (.compStart (.ListComp elt [⟨tg,iter,ifs,0⟩] scope pos) 0 (.ref it) acc {cenv with scope:=relabel scope X.env}) (post acc cenv.locals) s₄) E s₃) E s2:=by
 have hcell': ∀y∈scope.names,y.2≠ .cell:=fun y hy e=> by
  have:=(iO.mp hcell) y hy
  simp [e]at this
 have hfr: ∀n,(n,bR)∈scope.names -> X.env.kindOf n=some .cell\/X.env.kindOf n=some .free:=fun n hn=> by
  have:=(aO.mp hk) _ hn
  simpa using this
 refine bC (wpAny_newFunctionEnv hcell' (by intro y hy;simp at hy) (fun h₁ hns₁ hsb₁=> ?_) hkind)
 dsimp only at hns₁ hsb₁⊢
 generalize hHp:s2.heap.push {cls:=.type "list",dict:=none,data:=.seq ([]:List af).toArray}=G2 at hns₁ hsb₁⊢
 have hC:G2.objs.size=s2.heap.objs.size+1:=by rw [←hHp,aZ]
 obtain⟨D,hDe⟩: ∃D:Nat,s2.heap.objs.size=D:=⟨_,rfl⟩
 obtain⟨C,hCe⟩: ∃C:Nat,G2.objs.size=C:=⟨_,rfl⟩
 rw [hCe]at hns₁ hsb₁
 rw [hDe,hCe]at hC
 show codeAny _ _ (.compStart _ 0 (.ref it) (.ref s2.heap.objs.size) (compEnvC scope (xq X.env scope.names []) G2.objs.size X.env)) (post (.ref s2.heap.objs.size) G2.objs.size) _
 rw [hDe,hCe]
 have hDC:D≠C:=by lia
 have hDCl:D < C:=by lia
 have old: ∀b o,s2.heap.get? b=some o -> h₁.get? b=some o:=fun b o e=> by
  have hlt:b < D:=hDe▸ao e
  exact hsb₁.extBut b o (aN (l4 hlt hDCl)) (ag _ (hHp▸ag _ e))
 have hD2:H2 D=none:=I2.hok.fresh (eQ hDe)
 have hC2:H2 C=none:=I2.hok.fresh (by rw [hDe];lia)
 have accD:h₁.get? D=some {cls:=.type "list",data:=.seq ([]:List af).toArray}:=hsb₁.extBut _ _ hDC (ag _ (hHp▸hDe▸ar _ rfl))
 obtain⟨W,⟨m0,w0⟩,turn⟩:=hw D hD2
 -- the block's own state
 have fpn: ∀b∈fp,H2 b=none:=fun b hb=> (f2 b hb).1
 have fplt: ∀b∈fp,b < D:=fun b hb=> by obtain⟨o,e,_⟩:=T.obj _ _ st2 b hb;exact hDe▸ao e
 have clsub: ∀n c,(n,c)∈xq X.env scope.names [] -> X.env.cells.lookup n=some c:=aly (by intro _ _ z;cases z)
 have cllook: ∀n c,(xq X.env scope.names []).lookup n=some c -> X.env.cells.lookup n=some c:=fun n c e=> clsub n c (dt e)
 have clhas: ∀n,(n,bR)∈scope.names -> ∃c,(xq X.env scope.names []).lookup n=some c/\X.env.cells.lookup n=some c:=fun n hn=> by
  obtain⟨c,e⟩:=I2.ok.has n (hfr n hn)
  have m:=alo (cs:=[]) hn e
  cases q:(xq X.env scope.names []).lookup n with
  |none=>
   have:=List.lookup_eq_none_iff.mp q _ m
   simp at this
  |some c'=> exact⟨c',rfl,cllook n c' q⟩
 have clt: ∀x c,(xq X.env scope.names []).lookup x=some c -> c < D:=fun x c e=> by
  obtain⟨v,z⟩:=I2.cell x c (cllook x c e)
  exact hDe▸z.lt
 have ok':(qo X own caps scope C fp s2 H2).Ok:=by
  refine⟨I2.ok.mod,hkind,I2.ok.glob,I2.ok.blt,?_,fun x y c e1 e2=> I2.ok.inj x y c (cllook x c e1) (cllook y c e2),fun x hx=> ?_,fun x c z=> (by cases z),I2.ok.hd,I2.ok.frames,.inl rfl,fun b hb=> ⟨?_,fun x c e=> ?_⟩,I2.bs,ax I2.ok.bsz I2.sz,fun b o e hb=> ?_,fun b hb hs=> ?_,I2.stack,I2.stkFree⟩
  ·show s2.heap.objs.size <=C
   rw [hDe];lia
  ·have hx':(relabel scope X.env).names.lookup x=some .cell\/(relabel scope X.env).names.lookup x=some .free:=hx
   obtain⟨c,e,_⟩:=clhas x (abp hcell' hx')
   exact⟨c,e⟩
  ·exact aN (l4 (fplt b hb) hDCl)
  ·exact (f2 b hb).2.2.2.2.1 x c (cllook x c e)
  ·rcases (f2 b hb).2.2.2.1 with z|z
   ·exact I2.ok.noex b o e z
   ·exact absurd (aI (ao (I2.ok.bs b o e).1) z) (cy _)
  ·rcases aw.mp (I2.stkSub b hs) with z|z
   ·exact (f2 b hb).2.1 z
   ·exact (f2 b hb).2.2.1 z
 have I4:Inv (qo X own caps scope C fp s2 H2) [] (au own.length none++za σ js) (upd H2 D (.lst [])) {s2 with heap:=h₁,toks:=s2.toks+([]:List (Str×af)).length}:=by
  refine⟨ok',rfl,I2.bare,Un.laid old (eQ hDe) hD2,⟨_,hns₁,fun i x v e1 e2 e3=> ?_⟩,fun x c e=> ?_,?_,fun x c e=> ?_,fun p hp=> absurd (show p∈([]:List (Addr×Obj)) from hp) (by simp),?_,?_⟩
  ·have e1:(own++caps)[i]?=some x:=e1
   by_cases hio:i < own.length
   ·rw [bc (by simpa using hio),eh]at e2
    split at e2 <;> cases e2
   ·have hle:own.length <=i:=cu hio
    rw [b8 hle]at e1
    rw [b8 (by simpa using hle)]at e2
    obtain⟨j,c,e⟩:=yu.at (σ:=σ) hcap e1 (by simpa using e2)
    obtain⟨c1,c2,c3,c4⟩:=c
    obtain⟨m,hn,hl⟩:=I2.loc
    obtain⟨u,r,lk⟩:=hl j x v c1 e c2
    refine⟨u,r,.inr ⟨?_,?_⟩⟩
    ·have c4':(relabel scope X.env).names.lookup x=some .cell\/(relabel scope X.env).names.lookup x=some .free:=by simpa using c4
     exact c4'
    ·have c4':(relabel scope X.env).names.lookup x=some .cell\/(relabel scope X.env).names.lookup x=some .free:=by simpa using c4
     obtain⟨c',q1,q2⟩:=clhas x (abp hcell' c4')
     rcases lk with ⟨k1,_⟩|⟨_,c'',k2,k3⟩
     ·rw [k1]at c3;simp at c3
     ·rw [q2]at k2;cases k2
      obtain⟨oc,hoc,hod⟩:=k3
      exact⟨c',q1,oc,old _ _ hoc,hod⟩
  ·obtain⟨v,oc,hoc,hod⟩:=I2.cell x c (cllook x c e)
   exact⟨v,oc,old _ _ hoc,hod⟩
  ·show upd H2 D (.lst []) C=none
   rw [kg (cI hDC)];exact hC2
  ·rw [kg (aN (clt x c e))];exact I2.freeC x c (cllook x c e)
  ·exact I2.hok.laid old (eQ hDe) ⟨c9 _,[],0,.nil,accD⟩
  ·show (au own.length none++za σ js).length=(own++caps).length
   rw [aX,aX,kN,hcap.len]
 have stat: ∀{H':Hp},(∀b∈fp,H' b=none) -> ∀b∈fp,ac3 (qo X own caps scope C fp s2 H2) [] H' b:=fun hn b hb=>
  ⟨hn b hb,(ok'.exf b hb).1,ok'.exfs b hb,.inl hb,(ok'.exf b hb).2,fun p hp=> absurd (show p∈([]:List (Addr×Obj)) from hp) (by simp)⟩
 have loop: ∀s₃:ai,s₃={s2 with heap:=h₁,toks:=s2.toks+([]:List (Str×af)).length} ->
   codeAny (model X.prog X.w) X.A (.compLoop (.ListComp elt [⟨tg,iter,ifs,0⟩] scope pos) 0 (.ref it) (.ref D) (compEnvC scope (xq X.env scope.names []) C X.env)) (post (.ref D) C) s₃:=by
  rintro s₃ rfl
  refine a0s (fun n s'=> ∃i vs ys H',vs.length=own.length/\Inv (qo X own caps scope C fp s2 H2) [] (vs++za σ js) H' s'/\tn i s'.heap/\(∀b∈fp,H' b=none)/\H' D=some (.lst ys)/\W i n ys H') ?_ m0
   ⟨0,au own.length none,[],upd H2 D (.lst []),by simp,I4,T.keep _ _ _ st2 fun b _ o e=> old b o e,fun b hb=> by rw [kg (aN (fplt b hb))];exact fpn b hb,yj,w0⟩
  rintro n s3 ⟨i,vs,ys,H3,hvs,I3,st3,fr3,hD3,w3⟩
  rcases turn i n ys H3 hD3 w3 with ⟨stop,qn⟩|⟨go,step⟩
  ·refine thn (T.done (qo X own caps scope C fp s2 H2) rfl rfl rfl hcalm i [] s3 _ H3 (fun _ _=> False) I3 (stat fr3) st3 stop) fun r s5 ⟨hr,I5⟩=> ?_
   subst hr
   obtain⟨m5,hn5,_⟩:=id I5.loc
   refine hpost D C s5 m5 H3 hn5 (by rw [hDe];lia) (I2.fpOk (by rw [hDe];lia) I5.free) ?_ qn
   exact I2.call' (ch:=fp) I5.os I5.base I5.hok I5.bare fun b hb=> ⟨(f2 b hb).2.2.2.1,(f2 b hb).2.1,(f2 b hb).2.2.2.2⟩
  ·refine thn (T.item (qo X own caps scope C fp s2 H2) rfl rfl rfl hcalm i [] s3 _ H3 (fun _ _=> False) I3 (stat fr3) st3 go) fun r s4 ⟨u,hr,h4⟩=> ?_
   subst hr
   refine thn h4 fun _ s5 ⟨x,H5,I5,r5,y5,st5,fr5⟩=> ?_
   have I5':=I5.pinned (stat fr5) (T.obj _ _ st5);refine thn (hg C fp s2 H2 _ s5 _ H5 x u _ I5' r5 (step x H5 y5 vs hvs)) fun _ s6 ⟨σ6,H6,I6,⟨vs6,hvs6,e6⟩,q6⟩=> ?_
   subst e6
   refine thn (hi C fp s2 H2 _ s6 _ H6 _ I6 q6) fun b s7 ⟨H7,I7,q7⟩=> ?_
   have again: ∀{H8:Hp} {s8:ai} {ys':List V},Inv (qo X own caps scope C fp s2 H2) ([]++aet fp s5.heap) (vs6++za σ js) H8 s8 -> H8 D=some (.lst ys') -> (∃m',m' < n/\W (i+1) m' ys' H8) ->
     ∃m,m < n/\ ∃i vs ys H',vs.length=own.length/\Inv (qo X own caps scope C fp s2 H2) [] (vs++za σ js) H' s8/\tn i s8.heap/\(∀b∈fp,H' b=none)/\H' D=some (.lst ys)/\W i m ys H':=fun {H8 s8 ys'} I8 hD8 w8=> by
    obtain⟨m',hm,w8⟩:=w8
    refine⟨m',hm,i+1,vs6,ys',H8,hvs6,I8.unpinned,T.keep _ _ _ st5 fun b hb o e=> (I8.pin (b,o) (bE _ (bE _ (abb hb e)))).1,fun b hb=> ?_,hD8,w8⟩
    obtain⟨o,e,d⟩:=T.obj _ _ st5 b hb
    exact (I8.pin (b,o) (bE _ (bE _ (abb hb e)))).2.1
   cases b with
   |false=> exact again I7 q7.1 q7.2
   |true=>
    refine thn (he C fp s2 H2 _ s7 _ H7 _ I7 q7) fun y s8 ⟨v,H8,I8,r8,hD8,hz8,q8⟩=> ?_
    refine thn (aki (X:=qo X own caps scope C fp s2 H2) _ s8 _ H8 (.ref D) [v] (.ref D) [y] (fun z H9=> H9=upd H8 D (.lst (ys++ [v]))) I8 rfl (.cons r8 .nil) ⟨D,ys,v,rfl,rfl,hD8,hz8,rfl⟩) fun _ s9 ⟨z,H9,I9,_,e9⟩=> ?_
    subst e9
    exact again I9 yj q8
 refine codeAny_compStart_list (loop _ rfl) (T.self _ 0 _ _ _ (T.keep _ _ _ st2 fun b _ o e=> old b o e) (loop _ rfl))
theorem a75(hcalm:X.calm=true)(hkind:scope.kind=.function)(hnames:(scope.names.all fun p=> !(p.2==.local)||(scope.names.lookup p.1==some .local))=true)(hcell:(scope.names.any fun p=> p.2==.cell)=false)
  (hk:(scope.names.all fun p=> !(p.2==.free)||(X.env.kindOf p.1==some .cell||X.env.kindOf p.1==some .free))=true)
  (hcap:yu X scope caps js) (hi:PI X tg iter wi) (hg: ∀C fp s H,PG (qo X own caps scope C fp s H) tg g) (ht: ∀C fp s H,aim (qo X own caps scope C fp s H) ifs tt) (he: ∀C fp s H,PE (qo X own caps scope C fp s H) elt te)
  (hs: ∀x,dM iter X.env x=pure x:=by intro _;rfl):PE X (.ListComp elt [⟨tg,iter,ifs,0⟩] scope pos) (tLc js own.length wi g tt te):=by
 refine⟨?_⟩
 intro pins s σ H Q I h
 have hfr: ∀n,(n,bR)∈scope.names -> X.env.kindOf n=some .cell\/X.env.kindOf n=some .free:=fun n hn=> by
  have:=(aO.mp hk) _ hn
  simpa using this
 have hn': ∀x∈scope.names,x.2=.local -> scope.names.lookup x.1=some .local:=fun x hx e=> by
  have:=(aO.mp hnames) _ hx
  simpa [e] using this
 rw [eval_ListComp]
 refine jE (use:=none) rfl hs (ae9 fun n hn=> I.ok.has n (hfr n hn)) hkind hn' (thn (hi pins s σ H _ I h) fun v s1 h1=> thn h1 fun itv s2 h2=> ?_)
 obtain⟨it,fp,tn,J,H2,e,I2,T,st2,f2,hw⟩:=h2
 subst e
 refine art (iter:=iter) (pos:=pos) (post:=fun acc C=> compPost (model X.prog X.w) X.A X.xe none (EP X pins σ Q) acc C) hcalm hkind hcell hk hcap hg ht he I2 T st2 f2 hw ?_
 intro D C s' m H' hn _ f hI hq
 exact⟨m,hn,fun h' hs'=> ⟨.ref D,H',hI.turned (t':=s'.toks) (fun b o hb e=> (hs'.2 b hb).trans e) f.1 f.2.1 f.2.2.2.1 f.2.2.2.2.1 f.2.2.2.2.2,rfl,hq⟩⟩
theorem auv{y:Str}{py:Pos}{spos:Pos}(hsw:fO (.ListComp elt [⟨tg,iter,ifs,0⟩] scope pos) (some (.Name y py)) spos.line X.env=pure true)(hN:X.N.Nodup)(hy:X.N[i]?=some y)(hyl:X.env.scope.names.lookup y=some .local)(hcalm:X.calm=true)(hkind:scope.kind=.function)(hnames:(scope.names.all fun p=> !(p.2==.local)||(scope.names.lookup p.1==some .local))=true)(hcell:(scope.names.any fun p=> p.2==.cell)=false)(hk:(scope.names.all fun p=> !(p.2==.free)||(X.env.kindOf p.1==some .cell||X.env.kindOf p.1==some .free))=true)(hcap:yu X scope caps js)(hi:PI X tg iter wi)(hg: ∀C fp s H,PG (qo X own caps scope C fp s H) tg g)(ht: ∀C fp s H,aim (qo X own caps scope C fp s H) ifs tt)(he: ∀C fp s H,PE (qo X own caps scope C fp s H) elt te)(hs: ∀x,dM iter X.env x=pure x:=by intro _;rfl):PS X (.Assign [.Name y py] (.ListComp elt [⟨tg,iter,ifs,0⟩] scope pos) spos) (fun D σ H=> tLc js own.length wi g tt te σ H fun v H'=> D.nx (σ.set i (some v)) H'):=by
 refine⟨?_⟩
 intro pins s σ H D I h
 have hfr: ∀n,(n,bR)∈scope.names -> X.env.kindOf n=some .cell\/X.env.kindOf n=some .free:=fun n hn=> by
  have:=(aO.mp hk) _ hn
  simpa using this
 have hn': ∀x∈scope.names,x.2=.local -> scope.names.lookup x.1=some .local:=fun x hx e=> by
  have:=(aO.mp hnames) _ hx
  simpa [e] using this
 rw [exec_Assign_Name_used _ _ _ _ hsw];refine ac (fq (ac ?_))
 show wpAny _ _ (do let _←comprehension (.ListComp elt [⟨tg,iter,ifs,0⟩] scope pos) scope X.env _ (newList []) false (eval iter X.env) (some (assign (.Name y py) X.env))) _ _ s
 refine ac (cc (jE (use:=some (assign (.Name y py) X.env)) (Q:=fun _ s'=> SP X pins D .next s') rfl hs (ae9 fun n hn=> I.ok.has n (hfr n hn)) hkind hn'
  (thn (hi pins s σ H _ I h) fun v s1 h1=> thn h1 fun itv s2 h2=> ?_)) (fun _ s' hq=> ah (ah hq)) fun _ _ e=> e)
 obtain⟨it,fp,tn,J,H2,e,I2,T,st2,f2,hw⟩:=h2
 subst e
 refine art (iter:=iter) (pos:=pos) (post:=fun acc C=> compPost (model X.prog X.w) X.A X.xe (some (assign (.Name y py) X.env)) (fun _ s'=> SP X pins D .next s') acc C) hcalm hkind hcell hk hcap hg ht he I2 T st2 f2 hw ?_
 intro Da C s' m H' hn hCs f I' hq
 show wpAny _ _ (assign (.Name y py) X.env (.ref Da)) _ _ _
 refine wpAny_assign_Name (akf (v:=.ref Da) (u:=.ref Da) I' hN hy (.inl hyl) rfl (fun s6 I6 hs6=> ?_) (.inr hyl))
 obtain⟨a,hsb,ha⟩:=hs6
 have haC:a≠C:=by
  rcases ha with z|z
  ·rw [z];exact cI f.2.1
  ·exact f.2.2.2.2.1 y a z
 exact⟨m,hn.sameBut hsb (cI haC),fun h' hs'=> ⟨σ.set i (some (.ref Da)),H',I6.turned (t':=s6.toks) (fun b o hb e=> (hs'.2 b hb).trans e) f.1 f.2.1 f.2.2.2.1 f.2.2.2.2.1 f.2.2.2.2.2,hq⟩⟩
end
def Has(K:aj)(mg:Str -> Option af)(x:Str)(st:Stmt)(ps:List Str):Prop:=
 ∃(f:Addr) (fd:d5),Fun K x x st f fd/\mg x=some (.ref f)/\Binds K fd ps []
theorem akx:a9 "len"=some (.builtin "len"):=by decide+kernel
theorem a5v:a9 "min"=some (.builtin "min"):=by decide+kernel
theorem a5g:a9 "max"=some (.builtin "max"):=by decide+kernel
theorem a4p:a9 "repr"=some (.builtin "repr"):=by decide+kernel
theorem ax8:a9 "sorted"=some (.builtin "sorted"):=by decide+kernel
theorem xa:a9 "isinstance"=some (.builtin "isinstance"):=by decide+kernel
theorem a5m:a9 "all"=some (.builtin "all"):=by decide+kernel
theorem a70:a9 "sum"=some (.builtin "sum"):=by decide+kernel
theorem asx:a9 "list"=some (.type "list"):=by decide+kernel
theorem afn:a9 "tuple"=some (.type "tuple"):=by decide+kernel
theorem ay1:a9 "set"=some (.type "set"):=by decide+kernel
theorem a7c:a9 "str"=some (.type "str"):=by decide+kernel
theorem axz:a9 "int"=some (.type "int"):=by decide+kernel
theorem a4h:a9 "bool"=some (.type "bool"):=by decide+kernel
noncomputable def tyD:ae -> String
 |.none=> "NoneType"
 |.bool _=> "bool"
 |.int _=> "int"
 |.str _=> "str"
 |.list _=> "list"
 |.tuple _=> "tuple"
 |.dict _=> "dict"
noncomputable def kx(d:ae)(n:String):Bool:=match d with
 |.none=> n=="NoneType"
 |.bool _=> n=="bool"||n=="int"
 |.int _=> n=="int"
 |.str _=> n=="str"
 |.list _=> n=="list"
 |.tuple _=> n=="tuple"
 |.dict _=> n=="dict"
theorem as7(K:aj)(d:ae)(n:String)(hn:n="str"\/n="int"\/n="bool"\/n="tuple"\/n="list"):bW K (.type (tyD d)) (.type n)=some (kx d n):=by
 rcases hn with rfl|rfl|rfl|rfl|rfl <;> cases d <;> rfl
noncomputable def am3:Const -> Option V
 |.str x=> some (.str x)
 |.int i=> some (.int i)
 |.bool b=> some (.bl b)
 |.none=> some .non
 |_=> none
def adq:List Expr -> Option (List V)
 |[]=> some []
 | .Constant c _ _::r=> match am3 c with
  |some v=> match adq r with
   |some vs=> some (v::vs)
   |none=> none
  |none=> none
 |_=> none
theorem ax2{c:Const}:starEach (.Constant c j pos::es) env=(false,eval (.Constant c j pos) env)::starEach es env:=by rfl
noncomputable def tVs(vs:List V):TA:=fun _ H Q=> Q vs H
theorem az5{c:Const}(h:am3 c=some v):PE X (.Constant c j pos) (tC v):=by
 cases c <;> simp [am3]at h <;> subst h
 all_goals first
  |exact atp
  |exact asy
  |exact axs
  |exact as9
theorem ajo: ∀{es:List Expr} {vs:List V},adq es=some vs -> PA X es (tVs vs)
 |[],vs,h=> by
  cases h
  exact acw
 | e ::es,vs,h=> by
  cases e with
  | Constant c j pos=>
   simp only [adq]at h
   cases h1:am3 c with
   |none=>
    rw [h1]at h
    cases h
   | some v=>
    rw [h1]at h
    cases h2:adq es with
    |none=> rw [h2]at h;cases h
    |some ws=>
     rw [h2]at h
     cases h
     have p:=aa5 (az5 (X:=X) (pos:=pos) (j:=j) h1) (ajo h2) ax2
     exact p
  |_=> simp [adq]at h
structure New (H:Hp) (p:Addr) (o:HO) (H':Hp):Prop where
 no:H p=none
 eq:H'=upd H p o
theorem New.at{p:Addr}(n:New H p o H'):H' p=some o:=by rw [n.eq,yj]
theorem New.keep{p b:Addr}{u:HO}(n:New H p o H')(e:H b=some u):H' b=some u:=by rw [n.eq,kg (xr e n.no)];exact e
structure Chg (H:Hp) (p:Addr) (o:HO) (H':Hp):Prop where
 eq:H'=upd H p o
theorem Chg.at{p:Addr}(n:Chg H p o H'):H' p=some o:=by rw [n.eq,yj]
theorem Chg.keep{p b:Addr}{u:HO}(n:Chg H p o H')(h:b≠p)(e:H b=some u):H' b=some u:=by rw [n.eq,kg h];exact e
theorem PE.weak{t t':TE}(h:PE X e t)(k: ∀σ H Q,t' σ H Q -> t σ H Q):PE X e t':=.mk <|fun pins s σ H Q I q=> h pins s σ H Q I (k σ H Q q)
theorem OpR.weak{f:af -> af -> Sem af}{r r':R2}(h:OpR X f r)(k: ∀x y H Q,r' x y H Q -> r x y H Q):OpR X f r':=fun pins s σ H x y v u Q I rx ry q=> h pins s σ H x y v u Q I rx ry (k x y H Q q)
theorem va.weak{f:af}{r r':List V -> Hp -> VK -> Prop}(h:va X f r)(k: ∀xs H Q,r' xs H Q -> r xs H Q):va X f r':=fun pins s σ H xs us Q I rv q=> h pins s σ H xs us Q I rv (k xs H Q q)
theorem MtM.weak{id:String}{r r':V -> List V -> Hp -> VK -> Prop}(h:MtM X id r)(k: ∀x xs H Q,r' x xs H Q -> r x xs H Q):MtM X id r':=fun pins s σ H x xs v us Q I rx rv q=> h pins s σ H x xs v us Q I rx rv (k x xs H Q q)
theorem SlR.weak{r r':V -> Option Int -> Option Int -> Hp -> VK -> Prop}(h:SlR X r)(k: ∀x lo hi H Q,r' x lo hi H Q -> r x lo hi H Q):SlR X r':=by
 intro pins s σ H x v vl vu lo hi sl Q I rx hs pl pu q
 exact h pins s σ H x v vl vu lo hi sl Q I rx hs pl pu (k x lo hi H Q q)
theorem aik.weak{t t':apz}(h:aik X t)(k: ∀o i v H Q,t' o i v H Q -> t o i v H Q):aik X t':=fun pins s σ H o i v ov iv u Q I ro ri rv q=> h pins s σ H o i v ov iv u Q I ro ri rv (k o i v H Q q)
noncomputable def a5l(t:TA):TE:=fun σ H Q=> t σ H fun xs H1=> xs.length <=sizeLine/\ ∀p H',New H1 p (.tup xs) H' -> Q (.ref p) H'
noncomputable def a6f(t:TA):TE:=fun σ H Q=> t σ H fun xs H1=> xs.length <=sizeLine/\ ∀p H',New H1 p (.lst xs) H' -> Q (.ref p) H'
theorem a1c{t:TA}{x1 pos}(h:PA X es t):PE X (.Tuple es x1 pos) (a5l t):=by
 refine⟨?_⟩
 intro pins s σ H Q I hq
 refine lK (thn (h pos pins s σ H _ I hq) fun us s1 ⟨xs,H1,I1,r,z,q⟩=> ⟨by rw [←r.length];exact z,?_⟩)
 have hf:H1 s1.heap.objs.size=none:=I1.hok.fresh (aq _)
 refine⟨.ref s1.heap.objs.size,upd H1 s1.heap.objs.size (.tup xs),I1.laid (t':=s1.toks) (fun b u e=> ag _ e) (aq _) ?_,rfl,q _ _ ⟨hf,rfl⟩⟩
 exact⟨z,us,r,⟨_,ar _ rfl⟩⟩
theorem azt{t:TA}{pos}(h:PA X es t):PE X (.List es pos) (a6f t):=by
 refine⟨?_⟩
 intro pins s σ H Q I hq
 refine wpAny_List_spliced (thn (h pos pins s σ H _ I hq) fun us s1 ⟨xs,H1,I1,r,z,q⟩=> ⟨by rw [←r.length];exact z,?_⟩)
 have hf:H1 s1.heap.objs.size=none:=I1.hok.fresh (aq _)
 refine⟨.ref s1.heap.objs.size,upd H1 s1.heap.objs.size (.lst xs),I1.laid (t':=s1.toks) (fun b u e=> ag _ e) (aq _) ?_,rfl,q _ _ ⟨hf,rfl⟩⟩
 exact⟨z,us,0,r,ar _ rfl⟩
def a79(K:aj):V -> Option Int -> Option Int -> Hp -> VK -> Prop:=fun x lo hi H Q=> ∃a xs,x=.ref a/\SqL K H a xs/\ ∀p H',New H p (.lst (y4 xs lo hi)) H' -> Q (.ref p) H'
theorem aub:SlR X (a79 X.K):=azj.weak fun x lo hi H Q ⟨a,xs,e,h,q⟩=> ⟨a,xs,e,h,fun p hp=> q p _ ⟨hp,rfl⟩⟩
def a6n(K:aj):V -> Option Int -> Option Int -> Hp -> VK -> Prop:=fun x lo hi H Q=> ∃a xs,x=.ref a/\SqT K H a xs/\ ¬(HT.sIx xs.length 0 lo=0/\HT.sIx xs.length xs.length hi=xs.length)/\ ∀p H',New H p (.tup (y4 xs lo hi)) H' -> Q (.ref p) H'
theorem ays:SlR X (a6n X.K):=asm.weak fun x lo hi H Q ⟨a,xs,e,h,n,q⟩=> ⟨a,xs,e,h,n,fun p hp=> q p _ ⟨hp,rfl⟩⟩
noncomputable def a5x:R2:=fun x y H Q=> ∃l b xs zs,x=.ref l/\y=.ref b/\H l=some (.lst xs)/\H b=some (.lst zs)/\xs.length+zs.length <=sizeLine/\ ∀p H',New H p (.lst (xs++zs)) H' -> Q (.ref p) H'
theorem a07:OpR X (binaryOp .Add) a5x:=a27.weak fun x y H Q ⟨l,b,xs,zs,e1,e2,h1,h2,n,q⟩=> ⟨l,b,xs,zs,e1,e2,h1,h2,n,fun p hp=> q p _ ⟨hp,rfl⟩⟩
theorem aqm:va X (.type "list") (fun xs H Q=> ∃p ys,xs=[.ref p]/\(SqL X.K H p ys\/SqT X.K H p ys)/\ ∀l H',New H l (.lst ys) H' -> Q (.ref l) H'):=
 ala.weak fun xs H Q ⟨p,ys,e,h,q⟩=> ⟨p,ys,e,h,fun l hl=> q l _ ⟨hl,rfl⟩⟩
theorem acm:va X (.type "tuple") (fun xs H Q=> ∃p ys,xs=[.ref p]/\((SqL X.K H p ys/\ ∀l H',New H l (.tup ys) H' -> Q (.ref l) H')\/(SqT X.K H p ys/\Q (.ref p) H))):=
 akn.weak fun xs H Q ⟨p,ys,e,h⟩=> ⟨p,ys,e,h.imp (fun⟨a,q⟩=> ⟨a,fun l hl=> q l _ ⟨hl,rfl⟩⟩) id⟩
def auc:V -> List V -> Hp -> VK -> Prop:=fun x vs H Q=> ∃l xs y,x=.ref l/\vs=[y]/\H l=some (.lst xs)/\xs.length < sizeLine/\ ∀H',Chg H l (.lst (xs++ [y])) H' -> Q .non H'
theorem aq9:MtM X "list.append" auc:=aki.weak fun x vs H Q ⟨l,xs,y,e1,e2,h,n,q⟩=> ⟨l,xs,y,e1,e2,h,n,q _ ⟨rfl⟩⟩
def azu:V -> List V -> Hp -> VK -> Prop:=fun x vs H Q=> ∃l xs i k y,x=.ref l/\vs=[.int i]/\H l=some (.lst xs)/\ -(2^63) <=i/\i < 2^63/\iz i xs.length=some k/\xs[k]?=some y/\ ∀H',Chg H l (.lst (xs.eraseIdx k)) H' -> Q y H'
theorem ats:MtM X "list.pop" azu:=avh.weak fun x vs H Q ⟨l,xs,i,k,y,e1,e2,h,n1,n2,n3,n4,q⟩=> ⟨l,xs,i,k,y,e1,e2,h,n1,n2,n3,n4,q _ ⟨rfl⟩⟩
def a4r:V -> V -> V -> Hp -> (Hp -> Prop) -> Prop:=fun o i v H Q=> ∃p xs k j,o=.ref p/\i=.int k/\H p=some (.lst xs)/\ixN xs.length k=some j/\ ∀H',Chg H p (.lst (xs.set j v)) H' -> Q H'
theorem as0:aik X a4r:=awp.weak fun o i v H Q ⟨p,xs,k,j,e1,e2,h,n,q⟩=> ⟨p,xs,k,j,e1,e2,h,n,q _ ⟨rfl⟩⟩
end L2
namespace ST
open PySem PySem.SetTable
noncomputable def adv(t:cD):Nat -> Probe -> Probe
 |0,p=> p
 |n+1,p=> adv t n (t.advance p)
theorem a15(t:cD)(a b:Nat)(p:Probe):adv t (a+b) p=adv t b (adv t a p):=by
 induction a generalizing p with
 |zero=> rw [Nat.zero_add];rfl
 |succ a ih=> rw [show a+1+b=(a+b)+1 by lia];exact ih _
theorem awj(t:cD)(n:Nat)(p:Probe):adv t (n+1) p=t.advance (adv t n p):=by rw [a15];rfl
theorem adv_dummy(t:cD): ∀(n:Nat) (p:Probe),(adv t n p).dummy=p.dummy
 |0,_=> rfl
 |n+1,p=> by
  rw [awj,←adv_dummy t n p]
  unfold advance
  split <;> rfl
abbrev Ris(l:List Nat):Prop:=l.Pairwise (· < ·)
theorem ris_get{l:List Nat}(h:Ris l){a b:Nat}(ha:a < b)(hb:b < l.length):l[a]'(by lia) < l[b]:=(iY.mp h) a b (by lia) hb ha
theorem agw(xs:Array Nat)(j:Nat)(h:Ris xs.toList): ∀(fuel lo hi:Nat),lo <=hi -> hi <=xs.size -> hi - lo <=fuel -> (∀i,i < lo -> xs.getD i j < j) -> (∀i,hi <=i -> i < xs.size -> j <=xs.getD i j) ->
  below.go xs j fuel lo hi <=xs.size/\(∀i,i < below.go xs j fuel lo hi -> xs.getD i j < j)/\(∀i,below.go xs j fuel lo hi <=i -> i < xs.size -> j <=xs.getD i j)
 |0,lo,hi,h1,h2,h3,h4,h5=> by
  unfold below.go
  exact⟨by lia,h4,fun i a b=> h5 i (by lia) b⟩
 | fuel+1,lo,hi,h1,h2,h3,h4,h5=> by
  unfold below.go
  split
  ·rename_i hlt
   have mono: ∀a b,a <=b -> b < xs.size -> xs.getD a j <=xs.getD b j:=by
    intro a b hab hb
    rcases Nat.lt_or_eq_of_le hab with z|z
    ·have:=ris_get h z (by rw [aL];exact hb)
     simp only [gW,show a < xs.size by lia,hb,dif_pos]
     simpa using fN this
    ·subst z;exact aq _
   dsimp only
   split
   ·rename_i c
    refine agw xs j h fuel _ _ (by lia) h2 (by lia) (fun i hi'=> ?_) h5
    exact fR (mono i ((lo+hi)/2) (by lia) (by lia)) c
   ·rename_i c
    refine agw xs j h fuel _ _ (by lia) (by lia) (by lia) h4 (fun i a b=> ?_)
    exact ax (by lia) (mono ((lo+hi)/2) i a b)
  ·exact⟨by lia,h4,fun i a b=> h5 i (by lia) b⟩
theorem below_spec(xs:Array Nat)(j:Nat)(h:Ris xs.toList):below xs j <=xs.size/\(∀i,i < below xs j -> xs.getD i j < j)/\(∀i,below xs j <=i -> i < xs.size -> j <=xs.getD i j):=
 agw xs j h xs.size 0 xs.size (c9 _) (aq _) (by lia) (fun i hi=> by lia) (fun i a b=> by lia)
theorem below_ix{xs:Array Nat}(h:Ris xs.toList)(e:xs[i]?=some j):below xs j=i:=by
 obtain⟨b1,b2,b3⟩:=below_spec xs j h
 have hi:i < xs.size:=(bD.mp e).1
 have ei:xs.getD i j=j:=by simp only [gW,hi,dif_pos];exact (bD.mp e).2
 have h1: ¬i < below xs j:=fun z=> by have:=b2 i z;lia
 have h2: ¬below xs j < i:=fun z=> by
  have hb:below xs j < xs.size:=by lia
  have:=b3 _ (aq _) hb
  have q:=ris_get h z (by rw [aL];exact hi)
  have e2:xs.getD (below xs j) j=xs[below xs j]:=by simp only [gW,hb,dif_pos];rfl
  have e3:xs[i]=j:=(bD.mp e).2
  simp only [lr]at q
  lia
 lia
theorem has_nil(j:Nat):has #[] j=false:=by unfold has;simp
end ST
namespace L2
open PySem PySem.Spec PyProof.Rows
def aic(w:aU)(k:Nat)(t:cD):Prop:=t.led= !(w.params.followText "set-order")/\(k≠0 -> t.plain=false\/ST.Ris t.place.toList)
def xo(P:aQ)(w:aU)(h:Heap)(a:Addr)(S:Str -> Bool)(n:Nat):Prop:=
 ∃o es ep t,h.get? a=some o/\o.ExactSet/\o.data=.set es ep t/\(ie (bL P w) es.toList/\(∀k,S k=true ↔ ∃e∈es.toList,(bL P w).is k e.2=true)
  /\es.size < bu/\t.fits es.size=true/\es.size=n)/\aic w es.size t
theorem xo.congr{S S':Str -> Bool}{n':Nat}(z:xo P w h a S n)(hS: ∀k,S' k=S k)(hn:n'=n):xo P w h a S' n':=by
 subst hn
 obtain⟨o,es,ep,t,e,ex,d,⟨q1,q2,q3⟩,q4⟩:=z
 exact⟨o,es,ep,t,e,ex,d,⟨q1,fun k=> by rw [hS k];exact q2 k,q3⟩,q4⟩
theorem aol(t:cD)(es:Array (Int×af))(h:Int)(x:af):(layNew t es h x).2.1.led=t.led:=by
 have si: ∀(u:cD) (m:Nat),(u.orStandIn m).led=u.led:=fun u m=> by
  unfold SetTable.orStandIn
  by_cases c:u.fits m=true
  ·rw [if_pos c]
  ·rw [if_neg c];rfl
 unfold layNew
 cases t.freeSlot h with
 |none=> rfl
 |some q=>
  obtain⟨sl,wd⟩:=q
  exact (si _ _).trans rfl
theorem amj{t':cD}{hs:Array Int}{wd:Nat}{od:Array Nat}(e:t.relaid hs wd=some (t',od)):t'.led=t.led/\t'.plain=t.plain:=by
 unfold SetTable.relaid SetTable.laid at e
 cases c:SetTable.layClean (iA wd - 1) hs with
 |none=> rw [c]at e;cases e
 |some ow=>
  rw [c]at e
  simp only [lM,c0,Option.pure_def,dN,lF]at e
  obtain⟨rfl,_⟩:=e
  exact⟨rfl,rfl⟩
theorem akg(t:cD)(es:Array (Int×af))(wd:Nat):(relayAll t es wd).2.1.led=t.led/\(t.plain=false -> (relayAll t es wd).2.1.plain=false):=by
 unfold relayAll
 cases c:t.relaid (es.map (·.1)) wd with
 |none=> exact⟨rfl,fun _=> rfl⟩
 |some q=>
  obtain⟨t',od⟩:=q
  obtain⟨k1,k2⟩:=amj c
  dsimp only
  split
  ·exact⟨k1,fun z=> k2.trans z⟩
  ·exact⟨rfl,fun _=> rfl⟩
theorem arw{o:Obj}{es:Array (Int×af)}(ho:h.get? a=some o)(hex:o.ExactSet)(hd:o.data=.set es ep t){es':Array (Int×af)}{t':cD}{S':Str -> Bool}(q:ie (bL prog w) es'.toList/\(∀k,S' k=true ↔ ∃e∈es'.toList,(bL prog w).is k e.2=true)/\es'.size < bu/\t'.fits es'.size=true)(tx:aic w es'.size t'):
  (h.update a (gX es' t')).get? a=some {o with data:=.set es' (ep+1) t'}/\xo prog w (h.update a (gX es' t')) a S' es'.size:=by
 obtain⟨g,_⟩:=SetOf_store (knd:=bL prog w) ho hex hd q.1 q.2.1 q.2.2.1 q.2.2.2
 exact⟨g,_,es',ep+1,t',g,hex,rfl,⟨q.1,q.2.1,q.2.2.1,q.2.2.2,rfl⟩,tx⟩
theorem ayk{g:Bool -> Sem Unit}(hg: ∀(b:Bool) (s1:ai) (Q':Unit -> ai -> Prop),Q' () s1 -> wpAny (model prog w) A (g b) Q' E s1){o:Obj}{es:Array (Int×af)}(ho:s.heap.get? a=some o)(hex:o.ExactSet)(hd:o.data=.set es ep t){es1:Array (Int×af)}{t2:cD}{S':Str -> Bool}(q:ie (bL prog w) es1.toList/\(∀k,S' k=true ↔ ∃e∈es1.toList,(bL prog w).is k e.2=true)/\es1.size < bu/\t2.fits es1.size=true)(tx:t2.led= !(w.params.followText "set-order")/\t2.plain=false){wasDummy:Bool}{R:Option Bool -> ai -> Prop}(h: ∀h',bz a s.heap h' -> xo prog w h' a S' es1.size -> R (some true) {s with heap:=h'}):
  wpAny (model prog w) A (do
   storeSet a es1 t2
   if (!wasDummy&&t2.tooFull)=true then do g (relayAll t2 es1 (bX es1.size)).2.2;storeSet a (relayAll t2 es1 (bX es1.size)).1 (relayAll t2 es1 (bX es1.size)).2.1;pure (some true) else pure (some true)) R E s:=by
 obtain⟨q1,q2,q3,q4⟩:=q
 refine ac (gh ho hd ?_ (dO q3))
 obtain⟨g1,x1⟩:=arw (w:=w) (prog:=prog) ho hex hd ⟨q1,q2,q3,q4⟩ ⟨tx.1,fun _=>.inl tx.2⟩
 have b1:=bQ s.heap a (gX es1 t2)
 split
 ·have p:=relayAll_perm t2 es1 (bX es1.size)
  have f:=relayAll_fits t2 es1 (bX es1.size)
  have tt:=akg t2 es1 (bX es1.size)
  revert p f tt
  generalize relayAll t2 es1 (bX es1.size)=Rl
  obtain⟨es2,t3,gv⟩:=Rl
  intro p f tt
  dsimp only at p f tt⊢
  have z:es2.size=es1.size:=by
   have:=p.length_eq
   rwa [aL,aL]at this
  have b2:es2.size < bu:=z▸q3
  refine ac (hg _ _ _ (ac (gh g1 rfl ?_ (dO b2))))
  obtain⟨_,x2⟩:=arw (w:=w) (prog:=prog) (S':=S') g1 hex rfl ⟨q1.perm p,fun k=> (q2 k).trans ⟨fun⟨e,m,y⟩=> ⟨e,p.mem_iff.mpr m,y⟩,fun⟨e,m,y⟩=> ⟨e,p.mem_iff.mp m,y⟩⟩,b2,f⟩ ⟨tt.1.trans tx.1,fun _=>.inl (tt.2 tx.2)⟩
  exact ah (h _ (b1.trans (bQ _ a _)) (z▸x2))
 ·exact ah (h _ b1 x1)
theorem a8e{S:Str -> Bool}{k:Str}{Q:Bool -> ai -> Prop}(hS:xo prog w s.heap a S n)(hroom:n+1 < bu)(h: ∀h',bz a s.heap h' -> xo prog w h' a (fun y=> S y||decide (y=k)) (if S k then n else n+1) -> Q (!S k) {s with heap:=h'}):
  wpAny (model prog w) A (jF a (.str k tk) ((bL prog w).hash k)) Q E s:=by
 have hkey:(bL prog w).is k (.str k tk)=true:=by show gA k (.str k tk)=true;simp [gA]
 obtain⟨o,es,ep,t,ho,hex,hd,⟨hel,hmem,hb,hf,hn⟩,tx⟩:=hS
 have hgw: ∀(b:Bool) {s1:ai} {Q':Unit -> ai -> Prop},Q' () s1 -> wpAny (model prog w) A (match b with|true=> rule "set.scan.the-table-gave-way"|false=> pure ()) Q' E s1:=by
  intro b s1 Q' z
  cases b
  ·exact ah z
  ·exact cF z
 unfold jF setAddHashedIn;refine bj (ac (di ho hd hf ?_))
 dsimp only
 rw [byScan_of (knd:=bL prog w) rfl hb hel,if_pos rfl]
 unfold setAddByScan
 refine ac (ac (cF (ac (wpAny_setScan_of hkey ho hd hf hel ?_))))
 cases hr:List.findIdx? (fun e=> (bL prog w).is k e.2) es.toList with
 | some j=>
  obtain⟨hj,hpj,_⟩:=gm.mp hr;have sk:S k=true:=(hmem k).mpr ⟨es.toList[j],d8 hj,hpj⟩
  dsimp only
  refine ah (ah ?_);have z:=h s.heap (iQ a s.heap) ⟨o,es,ep,t,ho,hex,hd,⟨hel,fun y=> by
   rw [jV,decide_eq_true_eq,←hmem y]
   exact⟨fun c=> c.elim id (fun e=> e▸sk),.inl⟩,hb,hf,by rw [sk];exact hn⟩,tx⟩
  rw [sk]at z
  exact z
 | none=>
  dsimp only
  have sk:S k=false:=by
   cases c:S k with
   |false=> rfl
   |true=>
    obtain⟨e,m,y⟩:=(hmem k).mp c
    exact Bool.noConfusion (y.symm.trans (iZ.mp hr e m))
  have p:=layNew_perm t es ((bL prog w).hash k) (.str k tk)
  have f:=layNew_fits t es ((bL prog w).hash k) (.str k tk)
  have ld:=aol t es ((bL prog w).hash k) (.str k tk)
  revert p f ld
  generalize layNew t es ((bL prog w).hash k) (.str k tk)=L
  obtain⟨es1,t1,wd,gv⟩:=L
  intro p f ld
  dsimp only at p f ld⊢
  rw [iR]at p
  have z1:es1.size=n+1:=by
   have:=p.length_eq
   rw [aL,aX,aL,hn]at this
   exact this
  have b1:es1.size < bu:=z1▸hroom
  have q:ie (bL prog w) es1.toList/\(∀y,(fun y=> S y||decide (y=k)) y=true ↔ ∃e∈es1.toList,(bL prog w).is y e.2=true)/\es1.size < bu:=
   ⟨(hel.push hkey rfl).perm p,fun y=> mem_push_iff hkey hmem p y,b1⟩
  have fin: ∀h',bz a s.heap h' -> xo prog w h' a (fun y=> S y||decide (y=k)) es1.size -> Q true {s with heap:=h'}:=fun h' u v=> by
   have:=h h' u
   rw [sk,if_neg am,←z1]at this
   exact this v
  refine ac (hgw _ ?_)
  split
  ·refine ac ?_
   rw [kO 8 rfl]
   refine ah (ayk (fun b s1 Q' z=> ?_) ho hex hd ⟨q.1,q.2.1,q.2.2,?_⟩ ⟨?_,?_⟩ fun h' u v=> ?_)
   ·cases b
    ·exact ah z
    ·exact cF z
   ·exact SetTable.fits_plain_off f
   ·exact ld.trans tx.1
   ·rfl
   ·dsimp only;exact ah (fin h' u v)
  ·rename_i hpl
   refine ac (ah ?_);simp only [↓reduceIte]
   refine ayk (fun b s1 Q' z=> ?_) ho hex hd ⟨q.1,q.2.1,q.2.2,f⟩ ⟨ld.trans tx.1,?_⟩ fun h' u v=> ?_
   ·cases b
    ·exact ah z
    ·exact cF z
   ·simpa using hpl
   ·dsimp only;exact ah (fin h' u v)
theorem a8s(a:af){Q1:af -> ai -> Prop}(h:Q1 (.ref s.heap.objs.size) {s with heap:=s.heap.push {cls:=.type "set",dict:=none,data:=.set #[] 0 (.fresh 0 0 (!(w.params.followText "set-order")))}}):
  codeAny (model prog w) A (.call (.builtin "set.__new__") ⟨[.type "set",a],[]⟩) (wants Q1 E) s:=by
 refine jW (show wpAny _ A.in1 (do fg "set.__new__" ⟨[.type "set",a],[]⟩;again (.builtin "set.__new__" ⟨[.type "set",a],[]⟩)) _ _ s from ?_)
 refine ac (mj (PySem.F.newCall_set_1 a) (ah ⟨fy kQ _,dg PySem.F.entry_set_new ?_⟩))
 rw [cS kQ _];unfold cf.«set.__new__» Builtin.Frozenset.newClass
 have sb:=PySem.sub_set_self
 obtain⟨hp,g,d,tk,os⟩:=s;dsimp only
 wp_walk
 refine jG (ah ?_);dsimp only;simp only [newObj]
 exact ac (wpAny_alloc (ah (ah h)))
noncomputable def kt{α:Type}[DecidableEq α](l:List α)(x:α):List α:=if x∈l then l else l++ [x]
def jn{α:Type}[DecidableEq α](xs:List α):List α:=xs.foldl kt []
theorem aci{α:Type}[DecidableEq α](xs:List α)(x:α):jn (xs++ [x])=kt (jn xs) x:=by unfold jn;rw [List.foldl_append];rfl
theorem y8{α:Type}[DecidableEq α]{l:List α}{x y:α}:y∈kt l x ↔ y∈l\/y=x:=by
 unfold kt
 split
 ·constructor
  ·exact cM
  ·rintro (h|rfl)
   ·exact h
   ·assumption
 ·simp
theorem ahw{α:Type}[DecidableEq α]{l:List α}{x:α}(h:l.Nodup):(kt l x).Nodup:=by
 unfold kt
 split
 ·exact h
 ·rename_i hx
  rw [List.nodup_append]
  refine⟨h,by simp,fun a ha b hb=> ?_⟩
  rw [aY.mp hb]
  rintro rfl
  exact hx ha
theorem zq{α:Type}[DecidableEq α](xs:List α):(jn xs).Nodup/\(∀y,y∈jn xs ↔ y∈xs)/\(jn xs).length <=xs.length:=by
 have all: ∀(ys acc:List α),acc.Nodup -> (ys.foldl kt acc).Nodup/\(∀y,y∈ys.foldl kt acc ↔ y∈acc\/y∈ys)/\(ys.foldl kt acc).length <=acc.length+ys.length:=by
  intro ys
  induction ys with
  |nil=> intro acc h;exact⟨h,by simp,aq _⟩
  | cons z r ih=>
   intro acc h
   obtain⟨h1,h2,h3⟩:=ih (kt acc z) (ahw h)
   refine⟨h1,fun y=> ?_,?_⟩
   ·rw [dH,h2,y8,aw]
    constructor
    ·rintro ((a|a)|a)
     ·exact .inl a
     ·exact .inr (.inl a)
     ·exact .inr (.inr a)
    ·rintro (a|a|a)
     ·exact .inl (.inl a)
     ·exact .inl (.inr a)
     ·exact .inr a
   ·rw [dH,aM]
    have:(kt acc z).length <=acc.length+1:=by unfold kt;split <;> simp
    lia
 have h:=all xs [] List.nodup_nil
 refine⟨h.1,fun y=> ?_,?_⟩
 ·show y∈xs.foldl kt [] ↔ _
  simpa using h.2.1 y
 ·show (xs.foldl kt []).length <=_
  simpa using h.2.2
theorem ahf{α:Type}[DecidableEq α]: ∀{xs:List α},xs.Nodup -> jn xs=xs:=by
 intro xs h
 have all: ∀(ys acc:List α),(acc++ys).Nodup -> ys.foldl kt acc=acc++ys:=by
  intro ys
  induction ys with
  |nil=> intro acc _;simp
  | cons z r ih=>
   intro acc hn
   have hz:z∉acc:=fun m=> by
    rw [List.nodup_append]at hn
    exact hn.2.2 z m z aC rfl
   rw [dH,show kt acc z=acc++ [z] from by unfold kt;rw [if_neg hz],ih _ (by rw [cT];exact hn),cT]
   rfl
 have:=all xs [] (by simpa using h)
 simpa [jn] using this
theorem av8{α:Type}[DecidableEq α]{xs:List α}(h:(jn xs).length=xs.length):xs.Nodup:=by
 have all: ∀(ys acc:List α),(ys.foldl kt acc).length=acc.length+ys.length -> acc.Nodup -> (acc++ys).Nodup:=by
  intro ys
  induction ys with
  |nil=> intro acc _ h;simpa using h
  | cons z r ih=>
   intro acc hl hn
   have le: ∀(zs a:List α),(zs.foldl kt a).length <=a.length+zs.length:=by
    intro zs
    induction zs with
    |nil=> intro a;exact aq _
    |cons y t ih2=>
     intro a
     rw [dH,aM];have h1:=ih2 (kt a y)
     have h2:(kt a y).length <=a.length+1:=by unfold kt;split <;> simp
     lia
   rw [dH,aM]at hl
   have hz:z∉acc:=fun m=> by
    have h1:=le r (kt acc z)
    rw [show kt acc z=acc from by unfold kt;rw [if_pos m]]at h1 hl
    lia
   have e:kt acc z=acc++ [z]:=by unfold kt;rw [if_neg hz]
   rw [e]at hl
   have:=ih (acc++ [z]) (by rw [hl,aX];simp;lia) (by rw [←e];exact ahw hn)
   rw [cT]at this;exact this
 have:=all xs [] (by simpa [jn] using h) List.nodup_nil
 simpa using this
section
variable{prog:aQ}{w:aU}{A:bf}{R:gR -> ai -> Prop}{I:Addr}{wr fp:List Addr}{G:Array ib -> Array ib -> Prop}{n:Nat}{P:Nat -> af -> Prop}{St:Nat -> ai -> Prop}
theorem avr(W:WalksS prog w A.in1 I fp wr G n P St)(p:Addr)(hp:p∉fp)(xs:List Str)(hn:xs.length=n)(hval: ∀i v,P i v -> ∃x t,xs[i]?=some x/\v=.str x t)(hb:n+1 < bu):
  ∀(j i:Nat) (s:ai),i+j=n -> St i s -> xo prog w s.heap p (fun y=> decide (y∈jn (xs.take i))) (jn (xs.take i)).length ->
   (∀s',mq (p::wr) G s s' -> xo prog w s'.heap p (fun y=> decide (y∈jn xs)) (jn xs).length -> R (.ok (.ret .none)) s') ->
   codeAny (model prog w) A (.builtin "set.update.loop" ⟨[.ref p,.ref I],[]⟩) R s:=by
 have hpw:p∉wr:=fun z=> hp (W.sub _ z)
 have up: ∀b∈wr,b∈p::wr:=fun b z=> aB _ z
 have stays: ∀{s s':ai} {S:Str -> Bool} {m:Nat},mq wr G s s' -> xo prog w s.heap p S m -> xo prog w s'.heap p S m:=fun mv z=> by
  obtain⟨o,es,ep,t,ho,q⟩:=z
  exact⟨o,es,ep,t,mv.heap p _ hpw ho,q⟩
 intro j
 induction j with
 |zero=>
  intro i s hij hst hS hR
  have ei:i=n:=by lia
  subst ei
  refine dg cN ?_
  rw [cS bN _]
  refine (show wpAny _ A.in1 (pyNext (.ref I)>>=_) _ _ s from ac (W.done s _ _ hst fun s' mv=> ?_))
  refine ah (hR s' (mv.mono up) ?_)
  have:=stays mv hS
  rw [dv (eQ hn)]at this
  exact this
 | succ j ih=>
  intro i s hij hst hS hR
  refine dg cN ?_
  rw [cS bN _]
  refine (show wpAny _ A.in1 (pyNext (.ref I)>>=_) _ _ s from ac (W.item i s _ _ (by lia) hst fun v s' hP hst' mv=> ?_))
  obtain⟨x,t,hx,rfl⟩:=hval i v hP
  show wpAny _ A.in1 (holding [eT x t] (setAdd p (.str x t))>>=_) _ _ s'
  refine ac (bj ?_);unfold setAdd
  refine bj (ac ((strKind prog w).pyHash (k:=x) (by show gA x (.str x t)=true;simp [gA]) ?_))
  have few:(jn (xs.take i)).length <=i:=ax (zq _).2.2 (by rw [a8];lia)
  refine a8e (s:={s' with toks:=s'.toks+1}) (show xo prog w s'.heap p _ _ from stays mv hS) (by lia) fun h' sb hS2=> ?_
  have et:xs.take (i+1)=xs.take i++ [x]:=by rw [iS,hx];rfl
  have hS3:xo prog w h' p (fun y=> decide (y∈jn (xs.take (i+1)))) (jn (xs.take (i+1))).length:=by
   refine xo.congr hS2 (fun y=> ?_) ?_
   ·rw [et,aci]
    by_cases h1:y∈jn (xs.take i)
    ·simp [h1,y8]
    ·by_cases h2:y=x
     ·simp [h1,h2,y8]
     ·simp [h1,h2,y8]
   ·rw [et,aci]
    by_cases h1:x∈jn (xs.take i)
    ·rw [show kt (jn (xs.take i)) x=jn (xs.take i) from by unfold kt;rw [if_pos h1]];simp [h1]
    ·rw [show kt (jn (xs.take i)) x=jn (xs.take i)++ [x] from by unfold kt;rw [if_neg h1]];simp [h1]
  refine ah ⟨fy bN _,ih (i+1) _ (by lia) (W.frame _ s' _ _ hst' (dW _) fun b hbm o e=> ?_) hS3 fun s'' mv2 hS''=> ?_⟩
  ·rw [sb.2 b (fun z:b=p=> hp (by rw [←z];exact hbm))];exact e
  ·refine hR s'' (Moved.trans W.gtrans ((mv.mono up).then_heap (dW _) fun b o hbm e=> ?_) mv2) hS''
   rw [sb.2 b (fun z:b=p=> hbm (by rw [z];exact aC))];exact e
end
set_option maxHeartbeats 8000000 in
theorem ajd{oc:Obj}(hh:A.handled=none)(hT:T="list"\/T="tuple")(ho:s.heap.get? a=some oc)(hc:oc.cls=.type T){its:Array af}(hd:oc.data=.seq its k){SF:Heap -> Prop}(run: ∀(A':bf) (I:Addr) (fp wr:List Addr) (P:Nat -> af -> Prop) (St:Nat -> ai -> Prop) (s0:ai) (R:gR -> ai -> Prop),WalksS prog w A'.in1 I fp wr (fun x y=> y=x) its.size P St -> (∀i v,P i v -> its[i]?=some v) -> s.heap.objs.size∉fp -> St 0 s0 ->
   (∃led:Bool,led= !(w.params.followText "set-order")/\s0.heap.get? s.heap.objs.size=some {cls:=.type "set",dict:=none,data:=.set #[] 0 (.fresh 0 0 led)}) -> (∀s',mq (s.heap.objs.size::wr) (fun x y=> y=x) s0 s' -> SF s'.heap -> R (.ok (.ret .none)) s') -> codeAny (model prog w) A' (.builtin "set.update.loop" ⟨[.ref s.heap.objs.size,.ref I],[]⟩) R s0) (h: ∀(h':Heap) (tk:Nat),SF h' -> (∀b o,b < s.heap.objs.size -> s.heap.get? b=some o -> h'.get? b=some o) -> Q (.ref s.heap.objs.size) {s with heap:=h',toks:=tk}):
  wpAny (model prog w) A (call (.type "set") [.ref a]) Q E s:=by
 obtain⟨cm,mrest,m0⟩:=d9.mro
 have m1:=d9.made
 have m2:=d9.sub
 refine f7 (jW (show wpAny _ _ (callAny (.type "set") _) _ _ _ from ah ⟨iB _ (by decide+kernel),dg F.entry_type_call ?_⟩))
 rw [Around.under_plain (weight_type_call_type "set" [.ref a] []) rfl]
 have m3:=d9.notType
 have m4:=d9.canCreate
 have m5:=PySem.F.typeCall_set_1 (.ref a)
 repeat any_goals (first|assumption|wp_step)
 refine dC (a8s (.ref a) (E:=E) (Q1:=fun ob s1=> ∃led:Bool,led= !(w.params.followText "set-order")/\ob=.ref s.heap.objs.size/\s1={s with heap:=s.heap.push {cls:=.type "set",dict:=none,data:=.set #[] 0 (.fresh 0 0 led)}}) ⟨_,rfl,rfl,rfl⟩) fun r s1 hr=> ?_
 cases r with
 |error e=> exact hr
 | ok fl=>
  cases fl with
  | ret ob=>
   obtain⟨led,hled,rfl,rfl⟩:=hr
   have g0:(s.heap.push {cls:=.type "set",dict:=none,data:=.set #[] 0 (.fresh 0 0 led)}).get? s.heap.objs.size=some {cls:=.type "set",dict:=none,data:=.set #[] 0 (.fresh 0 0 led)}:=ar _ rfl
   have g1:Shared.TypeIs {s with heap:=s.heap.push {cls:=.type "set",dict:=none,data:=.set #[] 0 (.fresh 0 0 led)}} (.ref s.heap.objs.size) "set":=⟨_,g0,rfl⟩
   have m6:=d9.init.lookup
   have m7:=d9.init.bind (.ref s.heap.objs.size)
   repeat any_goals (first|assumption|wp_step)
   refine dC (fj (R:=wants (fun r s2=> r=.none/\ ∃h' tk,s2={s with heap:=h',toks:=tk}/\SF h'/\
     (∀b o,b < s.heap.objs.size -> s.heap.get? b=some o -> h'.get? b=some o)) E) d9.init.plain F.entry_set_init (check_set_init_1 g1 ?_)) fun r2 s2 hr2=> ?_
   ·have halt:a < s.heap.objs.size:=ao ho
    obtain⟨o1,o2,o3,o4⟩:=oc
    simp only at hc hd
    subst hc hd
    have g2:(s.heap.push {cls:=.type "set",dict:=none,data:=.set #[] 0 (.fresh 0 0 led)}).get? a=some {cls:=.type T,dict:=o2,data:=.seq its k,slots:=o4}:=ag _ ho
    have h3:A.in1.in1.in1.handled=none:=by simp [hh]
    have neI:a≠(s.heap.push {cls:=.type "set",dict:=none,data:=.set #[] 0 (.fresh 0 0 led)}).objs.size:=by
     rw [aZ]
     exact aN (cU halt)
    have nf:s.heap.objs.size∉ [(s.heap.push {cls:=.type "set",dict:=none,data:=.set #[] 0 (.fresh 0 0 led)}).objs.size,a]:=by
     rw [aZ]
     simp only [aw,bK,or_false,not_or]
     exact⟨aN (ee _),dA halt⟩
    have fin: ∀(o:Obj) (s':ai),mq [s.heap.objs.size,(s.heap.push {cls:=.type "set",dict:=none,data:=.set #[] 0 (.fresh 0 0 led)}).objs.size] (fun x y=> y=x) {s with heap:=(s.heap.push {cls:=.type "set",dict:=none,data:=.set #[] 0 (.fresh 0 0 led)}).push o} s' ->
      SF s'.heap ->
      ∃h' tk,s'={s with heap:=h',toks:=tk}/\SF h'/\(∀b o,b < s.heap.objs.size -> s.heap.get? b=some o -> h'.get? b=some o):=by
     intro o s' mv hS'
     obtain⟨h',ge,dr,tk',oz⟩:=s'
     have e1:ge=s.gens:=mv.gens
     have e2:dr=s.drawn:=mv.drawn
     have e3:oz=s.os:=mv.os
     subst e1 e2 e3
     refine⟨h',tk',rfl,hS',fun b o' hb' e=> mv.heap b o' ?_ (ag _ (ag _ e))⟩
     rw [aZ]
     simp only [aw,bK,or_false,not_or]
     exact⟨aN hb',aN (cU hb')⟩
    rcases hT with rfl|rfl
    ·have n1:=PySem.F.sub_list_set
     have n2:=PySem.F.sub_list_frozenset
     have n3:(cG "list"==cG "dict")=false:=by decide
     have l1:(s.heap.push {cls:=.type "set",dict:=none,data:=.set #[] 0 (.fresh 0 0 led)}).IsList a its:=⟨_,g2,rfl,k,rfl⟩
     unfold cf.«set.__init__» noKeywords ig;generalize hPI:pyIter=PI
     wp_walk
     subst hPI
     refine dP l1 (ac (kR ?_))
     refine run _ _ _ _ _ _ _ _ ((Walks.list h3 _ a neI its).toS) (fun i v hv=> hv) nf ⟨⟨_,ar _ rfl,rfl,rfl⟩,l1.push _⟩ ⟨led,hled,ag _ g0⟩ ?_
     intro s' mv hS'
     obtain⟨h',tk,rfl,z1,z2⟩:=fin _ s' mv hS'
     exact ah (show wpAny _ _ (ret bF) _ _ _ from ah ⟨rfl,h',tk,rfl,z1,z2⟩)
    ·have n1:=PySem.F.sub_tuple_set
     have n2:=PySem.F.sub_tuple_frozenset
     have n3:(cG "tuple"==cG "dict")=false:=by decide
     have l1:(s.heap.push {cls:=.type "set",dict:=none,data:=.set #[] 0 (.fresh 0 0 led)}).IsTuple a its:=⟨_,g2,rfl,k,rfl⟩
     unfold cf.«set.__init__» noKeywords ig;generalize hPI:pyIter=PI
     wp_walk
     subst hPI
     refine iC l1 (ac (kR ?_))
     refine run _ _ _ _ _ _ _ _ ((Walks.tuple h3 _ a neI its).toS) (fun i v hv=> hv) nf ⟨⟨_,ar _ rfl,rfl,rfl⟩,?_⟩ ⟨led,hled,ag _ g0⟩ ?_
     ·exact⟨_,ag _ g2,rfl,k,rfl⟩
     intro s' mv hS'
     obtain⟨h',tk,rfl,z1,z2⟩:=fin _ s' mv hS'
     exact ah (show wpAny _ _ (ret bF) _ _ _ from ah ⟨rfl,h',tk,rfl,z1,z2⟩)
   ·cases r2 with
    |error e=> exact hr2
    | ok f2=>
     cases f2 with
     |ret u=>
      obtain⟨rfl,h',tk,rfl,z1,z2⟩:=hr2
      repeat any_goals (first|assumption|wp_step)
      exact h h' tk z1 z2
     |next=> exact hr2.elim
     |brk=> exact hr2.elim
     |cont=> exact hr2.elim
  |next=> exact hr.elim
  |brk=> exact hr.elim
  |cont=> exact hr.elim
theorem am4{oc:Obj}(hh:A.handled=none)(hT:T="list"\/T="tuple")(ho:s.heap.get? a=some oc)(hc:oc.cls=.type T){its:Array af}(hd:oc.data=.seq its k)(xs:List Str)(hx:jo (xs.map V.str) its.toList)(hb:its.size+1 < bu)(h: ∀(h':Heap) (tk:Nat),xo prog w h' s.heap.objs.size (fun y=> decide (y∈jn xs)) (jn xs).length -> (∀b o,b < s.heap.objs.size -> s.heap.get? b=some o -> h'.get? b=some o) -> Q (.ref s.heap.objs.size) {s with heap:=h',toks:=tk}):
  wpAny (model prog w) A (call (.type "set") [.ref a]) Q E s:=by
 have hlen:xs.length=its.size:=by
  have:=hx.length
  rw [ak]at this
  simpa using this
 refine ajd hh hT ho hc hd (fun A' I fp wr P St s0 R W hP nf st g0 k=> ?_) h
 obtain⟨led,hled,g0⟩:=g0
 refine avr W s.heap.objs.size nf xs hlen (fun i v hv=> ?_) hb its.size 0 s0 (by lia) st ⟨_,#[],0,_,g0,⟨rfl,rfl,rfl⟩,rfl,⟨fun e he=> by simp at he,fun k=> by simp [jn],by decide,rfl,rfl⟩,hled,fun z=> absurd rfl z⟩ k
 have hv:=hP i v hv
 have hi:i < its.size:=(bD.mp hv).1
 have hxi:(xs.map V.str)[i]?=some (.str xs[i]):=by rw [aR,ay (by lia)];rfl
 obtain⟨u,hu,ru⟩:=hx.get hxi
 rw [cq,hv]at hu
 cases hu
 obtain⟨t,e⟩:=(show∃t,v=eT xs[i] t from ru)
 exact⟨xs[i],t,ay (by lia),e⟩
def am9(P:aQ)(w:aU)(p:Addr)(xs:List Str):HO:=.ext fun h=> xo P w h p (fun y=> decide (y∈jn xs)) (jn xs).length
theorem a0p{p:Addr}{xs:List Str}(hS:xo P w h p (fun y=> decide (y∈jn xs)) (jn xs).length):j5 P w H h p (am9 P w p xs):=by
 refine⟨hS,?_,fun h1 h2 z k=> ?_⟩
 ·obtain⟨o,_,_,_,e,_⟩:=hS
  exact⟨o,e⟩
 ·obtain⟨o,es,ep,t,e,q⟩:=z
  exact⟨o,es,ep,t,k o e,q⟩
theorem aso(hc:X.calm=true):va X (.type "set") (fun vs H Q=> ∃a xs,vs=[.ref a]/\(SqL X.K H a (xs.map V.str)\/SqT X.K H a (xs.map V.str))/\xs.length < 4000/\ ∀p H',New H p (am9 X.prog X.w p xs) H' -> Q (.ref p) H'):=by
 intro pins s σ H vs us Q I r h
 obtain⟨a,xs,rfl,hS,hl,q⟩:=h
 obtain⟨u,rfl,ru⟩:=vals1 r
 cases ru
 have hh:=I.ok.hd hc
 have fin: ∀(h':Heap) (tk:Nat),xo X.prog X.w h' s.heap.objs.size (fun y=> decide (y∈jn xs)) (jn xs).length -> (∀b o,b < s.heap.objs.size -> s.heap.get? b=some o -> h'.get? b=some o) ->
   EP X pins σ Q (.ref s.heap.objs.size) {s with heap:=h',toks:=tk}:=fun h' tk z k=>
  ⟨.ref s.heap.objs.size,upd H s.heap.objs.size (am9 X.prog X.w s.heap.objs.size xs),I.laid (fun b u e=> k b u (ao e) e) (aq _) (a0p z),rfl,q _ _ ⟨I.fresh,rfl⟩⟩
 rcases hS with hS|hS
 ·obtain⟨its,rv,⟨o,n,e,c,dd,d⟩,z⟩:=I.list hS
  have hsz:its.toArray.size+1 < bu:=by
   have:=rv.length
   rw [ak]at this
   rw [az]
   unfold bu
   lia
  exact am4 hh (.inl rfl) e c d xs (by simpa using rv) hsz fin
 ·obtain⟨its,rv,⟨o,e,c,n,d⟩,z⟩:=I.tuple hS
  have hsz:its.toArray.size+1 < bu:=by
   have:=rv.length
   rw [ak]at this
   rw [az]
   unfold bu
   lia
  exact am4 hh (.inr rfl) e c d xs (by simpa using rv) hsz fin
theorem atx:va X (.builtin "len") (fun vs H Q=> ∃a xs,vs=[.ref a]/\H a=some (am9 X.prog X.w a xs)/\Q (.int (jn xs).length) H):=by
 intro pins s σ H vs us Q I r h
 obtain⟨a,xs,rfl,hS,q⟩:=h
 obtain⟨u,rfl,ru⟩:=vals1 r
 cases ru
 obtain⟨hh,_,_⟩:=(show j5 X.prog X.w H s.heap a (am9 X.prog X.w a xs) from I.hok a _ hS)
 obtain⟨o,es,ep,t,e,ex,d,⟨_,_,hb,hf,hn⟩,_⟩:=hh
 refine call_len_set e ex d hf (by unfold bu at hb;lia) ⟨.int es.size,H,I.tok _,⟨_,rfl⟩,?_⟩
 rw [hn]
 exact q
theorem xy:Slot "set_iterator" "__next__" "set_iterator.__next__":=.of (owner:="set_iterator") (n:="__next__") (by rw [jX,gJ];kernel_rfl) (by decide+kernel) (by decide+kernel) (by decide+kernel) (by first|exact .inl (by decide+kernel)|exact .inr (by decide+kernel)) (by rw [ii];kernel_rfl)
theorem ae3:entryFor table "set_iterator.__next__"=some cf.«set_iterator.__next__»:=entryFor_of_tree (by kernel_rfl)
theorem amd:Manifest.owners.lookup (String.ofList ['r','o','t','a','r','e','t','i','_','t','e','s'].reverse)=some Manifest.sig_set_iterator:=by kernel_rfl
theorem afh(a:af):argsOk "set_iterator.__next__" ⟨[a],[]⟩:=by
 unfold argsOk;rw [lG (id:="set_iterator.__next__") (n:=['_','_','t','x','e','n','_','_']) (o:=['r','o','t','a','r','e','t','i','_','t','e','s']) (by kernel_rfl) amd];kernel_rfl
theorem apa:Slot "set" "__iter__" "set.__iter__":=.of (owner:="set") (n:="__iter__") (by rw [jX,gJ];kernel_rfl) (by decide+kernel) (by decide+kernel) (by decide+kernel) (by first|exact .inl (by decide+kernel)|exact .inr (by decide+kernel)) (by rw [ii];kernel_rfl)
theorem ax1:entryFor table "set.__iter__"=some cf.«frozenset.__iter__»:=entryFor_alias (id':="frozenset.__iter__") (by kernel_rfl) rfl (by decide+kernel) (by kernel_rfl)
theorem aza(a:af):argsOk "set.__iter__" ⟨[a],[]⟩:=by
 unfold argsOk;rw [lG (id:="set.__iter__") (n:=['_','_','r','e','t','i','_','_']) (o:=['t','e','s']) (by kernel_rfl) PySem.F.owner_set];kernel_rfl
noncomputable def sIt(fst:af)(i:Nat)(a:Addr)(n ep:Nat):Obj:={cls:=.type "set_iterator",dict:=none,data:=.fields #[fst,rawInt i,.ref a,rawInt n,rawInt ep],slots:= #[]}
section
variable{prog:aQ}{w:aU}{A:bf}{E:af -> ai -> Prop}{s:ai}{I a:Addr}{i n ep:Nat}{o:Obj}{es:Array (Int×af)}{t:cD}{Q:Option af -> ai -> Prop}
theorem aud{sl nx:Nat}{x:af}(hI:s.heap.get? I=some (sIt (rawInt sl) i a n ep))(ho:s.heap.get? a=some o)(hd:o.data=.set es ep t)(hf:t.fits es.size=true)(hn:es.size=n)
  (hx: ∀(E':af -> ai -> Prop) (Q':Option (af×Nat) -> ai -> Prop),Q' (some (x,nx)) s -> wpAny (model prog w) A.in1 (setNext a sl i ep) Q' E' s)
  (hQ: ∀h',h'.get? I=some (sIt (rawInt nx) (i+1) a n ep) -> bz I s.heap h' -> Q (some x) {s with heap:=h'}):wpAny (model prog w) A (pyNext (.ref I)) Q E s:=by
 unfold pyNext
 refine ac (cY (bn (name:=bG "__next__") ⟨_,hI,rfl⟩ xy (bo xy ⟨_,hI,rfl⟩ ae3 ?_ (afh _))))
 unfold cf.«set_iterator.__next__»
 refine ac (ah ?_);refine ac (ij hI rfl ?_)
 dsimp only [rawInt]
 refine ac (ef ho hd hf ?_)
 rw [if_neg (by rw [hn];simp)]
 refine ac (hx _ _ ?_)
 refine ac (b9 hI rfl (by simp) ?_)
 have g1:=bA (cQ (·.setIfInBounds 0 (rawInt nx))) hI rfl
 refine ac (b9 g1 rfl (by simp [cQ,sIt]) ?_)
 have g2:=bA (cQ (·.setIfInBounds 1 (rawInt ((i:Int)+1)))) g1 rfl
 refine ah ⟨_,rfl,ah (hQ _ ?_ ((bQ ..).trans (bQ ..)))⟩
 exact g2
theorem avm{sl:Nat}(hh:A.handled=none)(hI:s.heap.get? I=some (sIt (rawInt sl) i a n ep))(ho:s.heap.get? a=some o)(hd:o.data=.set es ep t)(hf:t.fits es.size=true)(hn:es.size=n)
  (hx: ∀(E':af -> ai -> Prop) (Q':Option (af×Nat) -> ai -> Prop),Q' none s -> wpAny (model prog w) A.in1 (setNext a sl i ep) Q' E' s)
  (hQ: ∀h',eL I s.heap h' -> Q none {s with heap:=h'}):wpAny (model prog w) A (pyNext (.ref I)) Q E s:=by
 unfold pyNext
 refine ac (cY (bn (name:=bG "__next__") ⟨_,hI,rfl⟩ xy (bo xy ⟨_,hI,rfl⟩ ae3 ?_ (afh _))))
 unfold cf.«set_iterator.__next__»
 refine ac (ah ?_);refine ac (ij hI rfl ?_)
 dsimp only [rawInt]
 refine ac (ef ho hd hf ?_)
 rw [if_neg (by rw [hn];simp)]
 refine ac (hx _ _ ?_)
 refine ac (b9 hI rfl (by simp) ?_)
 refine ac ?_
 simp only [newExc,newTuple]
 refine ac (bC ?_ (by size_fits));refine ac (m:=ik _ _) (mj (a:=bF) (by first|rfl|(simp only [ik];rfl)) ?_)
 refine bC ?_ (by size_fits);simp only [raiseNew]
 refine ac (lH ?_);rw [show A.in1.handled=none from hh]
 refine ac (ah (ml ?_));refine ac (dY (T:="StopIteration") (b:=true) ⟨_,ar _ rfl,rfl⟩ il ?_);exact ah (hQ _ (((bQ ..).extBut.push _).push _))
theorem au3{T:Addr}{oT:Obj}{ps:Array af}{kT p:Nat}{x:af}{hv:Int}{tp:Tok}(hI:s.heap.get? I=some (sIt (.ref T) i a n ep))(ho:s.heap.get? a=some o)(hd:o.data=.set es ep t)(hf:t.fits es.size=true)(hn:es.size=n)
  (hT:s.heap.get? T=some oT) (hTd:oT.data=.seq ps kT) (hp:ps[i]?=some (.int p tp)) (hx:es[p]?=some (hv,x))
  (hQ: ∀h',h'.get? I=some (sIt (.ref T) (i+1) a n ep) -> bz I s.heap h' -> Q (some x) {s with heap:=h'}):wpAny (model prog w) A (pyNext (.ref I)) Q E s:=by
 unfold pyNext
 refine ac (cY (bn (name:=bG "__next__") ⟨_,hI,rfl⟩ xy (bo xy ⟨_,hI,rfl⟩ ae3 ?_ (afh _))))
 unfold cf.«set_iterator.__next__»
 refine ac (ah ?_);refine ac (ij hI rfl ?_)
 dsimp only [rawInt]
 refine ac (ef ho hd hf ?_)
 rw [if_neg (by rw [hn];simp)]
 refine ac ?_
 unfold seqItems?
 refine ac (iW hT ?_)
 rw [hTd]
 refine ah ?_
 dsimp only
 rw [show (Int.toNat (i:Int))=i from cj i,hp]
 dsimp only
 refine ac ?_
 unfold setNextDrawn
 refine ac (di ho hd hf ?_);dsimp only
 rw [if_neg (by simp)]
 rw [show (Int.toNat (p:Int))=p from cj p,hx]
 refine ah ?_
 refine ac (b9 hI rfl (by simp) ?_)
 have g1:=bA (cQ (·.setIfInBounds 1 (rawInt ((i:Int)+1)))) hI rfl
 refine ah ⟨_,rfl,ah (hQ _ ?_ (bQ ..))⟩
 exact g1
theorem awt{T:Addr}{oT:Obj}{ps:Array af}{kT:Nat}(hh:A.handled=none)(hI:s.heap.get? I=some (sIt (.ref T) i a n ep))(ho:s.heap.get? a=some o)(hd:o.data=.set es ep t)(hf:t.fits es.size=true)(hn:es.size=n)
  (hT:s.heap.get? T=some oT) (hTd:oT.data=.seq ps kT) (hp:ps[i]?=none)
  (hQ: ∀h',eL I s.heap h' -> Q none {s with heap:=h'}):wpAny (model prog w) A (pyNext (.ref I)) Q E s:=by
 unfold pyNext
 refine ac (cY (bn (name:=bG "__next__") ⟨_,hI,rfl⟩ xy (bo xy ⟨_,hI,rfl⟩ ae3 ?_ (afh _))))
 unfold cf.«set_iterator.__next__»
 refine ac (ah ?_);refine ac (ij hI rfl ?_)
 dsimp only [rawInt]
 refine ac (ef ho hd hf ?_)
 rw [if_neg (by rw [hn];simp)]
 refine ac ?_
 unfold seqItems?
 refine ac (iW hT ?_)
 rw [hTd]
 refine ah ?_
 dsimp only
 rw [show (Int.toNat (i:Int))=i from cj i,hp]
 dsimp only
 refine ac (b9 hI rfl (by simp) ?_)
 have g1:=bA (cQ (·.setIfInBounds 0 (rawInt 0))) hI rfl
 refine ac (b9 g1 rfl (by simp [cQ,sIt]) ?_)
 refine ac ?_
 simp only [newExc,newTuple]
 refine ac (bC ?_ (by size_fits));refine ac (m:=ik _ _) (mj (a:=bF) (by first|rfl|(simp only [ik];rfl)) ?_)
 refine bC ?_ (by size_fits);simp only [raiseNew]
 refine ac (lH ?_);rw [show A.in1.handled=none from hh]
 refine ac (ah (ml ?_));refine ac (dY (T:="StopIteration") (b:=true) ⟨_,ar _ rfl,rfl⟩ il ?_)
 exact ah (hQ _ ((((bQ ..).trans (bQ ..)).extBut.push _).push _))
end
theorem ao0:Slot "set_iterator" "__iter__" "set_iterator.__iter__":=.of (owner:="set_iterator") (n:="__iter__") (by rw [jX,gJ];kernel_rfl) (by decide+kernel) (by decide+kernel) (by decide+kernel) (by first|exact .inl (by decide+kernel)|exact .inr (by decide+kernel)) (by rw [ii];kernel_rfl)
theorem axk:entryFor table "set_iterator.__iter__"=some cf.«dict_keyiterator.__iter__»:=entryFor_alias (id':="dict_keyiterator.__iter__") (by kernel_rfl) rfl (by decide+kernel) (by kernel_rfl)
theorem azk(a:af):argsOk "set_iterator.__iter__" ⟨[a],[]⟩:=by
 unfold argsOk;rw [lG (id:="set_iterator.__iter__") (n:=['_','_','r','e','t','i','_','_']) (o:=['r','o','t','a','r','e','t','i','_','t','e','s']) (by kernel_rfl) amd];kernel_rfl
section
variable{prog:aQ}{w:aU}{A:bf}{E:af -> ai -> Prop}{s:ai}{I a:Addr}{i n ep:Nat}{o:Obj}{es:Array (Int×af)}{t:cD}
theorem anz{fst:af}(hI:s.heap.get? I=some (sIt fst i a n ep))(h:Q (.ref I) s):wpAny (model prog w) A (pyIter (.ref I)) Q E s:=by
 refine wpAny_pyIter_slot ⟨_,hI,rfl⟩ ao0 (bo ao0 ⟨_,hI,rfl⟩ axk ?_ (azk _))
 show wpAny _ _ (ret (.ref I)) _ _ s
 exact ah ⟨_,rfl,"set_iterator",_,⟨_,hI,rfl⟩,xy.lookup,h⟩
theorem ayl(hh:A.handled=none)(hne:a≠I)(hd:o.data=.set es ep t)(hf:t.fits es.size=true)(ord:List af)(hn:es.size=ord.length)(sl:Nat -> Nat)
  (step: ∀(i:Nat) (x:af) (s:ai) (E':af -> ai -> Prop) (Q':Option (af×Nat) -> ai -> Prop),s.heap.get? a=some o -> ord[i]?=some x -> Q' (some (x,sl (i+1))) s -> wpAny (model prog w) A.in1 (setNext a (sl i) i ep) Q' E' s)
  (stop: ∀(s:ai) (E':af -> ai -> Prop) (Q':Option (af×Nat) -> ai -> Prop),s.heap.get? a=some o -> Q' none s -> wpAny (model prog w) A.in1 (setNext a (sl ord.length) ord.length ep) Q' E' s):
  my prog w A I [I,a] [I] ord.length (fun i v=> ord[i]?=some v) (fun i h=> h.get? I=some (sIt (rawInt (sl i)) i a ord.length ep)/\h.get? a=some o) where
 sub:=fun b hb=> (aY.mp hb)▸aC
 frame:=fun _ _ _ st k=> ⟨k I (by simp) _ st.1,k a (by simp) _ st.2⟩
 item:=fun i s R E hi st hQ=> by
  refine aud st.1 st.2 hd hf hn (fun E' Q' z=> step i ord[i] s E' Q' st.2 (ay hi) z) fun h' g sb=> ?_
  exact hQ _ h' s.toks (ay hi) ⟨g,(sb.2 a hne).trans st.2⟩ fun b u hb e=> (sb.2 b (fun z=> hb (by simp [z]))).trans e
 done:=fun s Q E st hQ=> avm hh st.1 st.2 hd hf hn (fun E' Q' z=> stop s E' Q' st.2 z) fun h' x=> hQ h' s.toks fun b u hb e=> x b u (fun z=> hb (by simp [z])) e
 self:=fun _ _ _ _ st hQ=> anz st.1 hQ
theorem a5r{T:Addr}{oT:Obj}{ps:Array af}{kT:Nat}(hh:A.handled=none)(hne:a≠I)(hT:T≠I)(hd:o.data=.set es ep t)(hf:t.fits es.size=true)(ord:List af)(hn:es.size=ord.length)(hTd:oT.data=.seq ps kT)
  (hps:ps.size=ord.length) (step: ∀(i:Nat) (x:af),ord[i]?=some x -> ∃(p:Nat) (tp:Tok) (hv:Int),ps[i]?=some (.int p tp)/\es[p]?=some (hv,x)):
  my prog w A I [I,a,T] [I] ord.length (fun i v=> ord[i]?=some v) (fun i h=> h.get? I=some (sIt (.ref T) i a ord.length ep)/\h.get? a=some o/\h.get? T=some oT) where
 sub:=fun b hb=> (aY.mp hb)▸aC
 frame:=fun _ _ _ st k=> ⟨k I (by simp) _ st.1,k a (by simp) _ st.2.1,k T (by simp) _ st.2.2⟩
 item:=fun i s R E hi st hQ=> by
  obtain⟨p,tp,hv,e1,e2⟩:=step i ord[i] (ay hi)
  refine au3 st.1 st.2.1 hd hf hn st.2.2 hTd e1 e2 fun h' g sb=> ?_
  exact hQ _ h' s.toks (ay hi) ⟨g,(sb.2 a hne).trans st.2.1,(sb.2 T hT).trans st.2.2⟩ fun b u hb e=> (sb.2 b (fun z=> hb (by simp [z]))).trans e
 done:=fun s Q E st hQ=> awt hh st.1 st.2.1 hd hf hn st.2.2 hTd (by rw [←hps];simp) fun h' x=> hQ h' s.toks fun b u hb e=> x b u (fun z=> hb (by simp [z])) e
 self:=fun _ _ _ _ st hQ=> anz st.1 hQ
theorem atc{src:Source}{Q:Nat -> ai -> Prop}(hk:k≠0)(h: ∀j d',j < k -> Q j {s with drawn:=d'}):wpAny (model prog w) A (choose src k) Q E s:=
 fun Γ p _=> by
  unfold choose
  rw [Sem.wp_choose]
  exact⟨hk,h _ _ (Nat.mod_lt _ (Nat.pos_of_ne_zero hk))⟩
theorem zl{α:Type}: ∀{xs:List α} {j:Nat} {x:α},xs[j]?=some x -> (x::xs.eraseIdx j).Perm xs
 |[],_,_,e=> by simp at e
 |y::r,0,x,e=> by simp at e;subst e;exact .refl _
 |y::r,j+1,x,e=> by
  rw [ej]at e
  rw [jL]
  exact (gK.swap _ _ _).trans ((zl e).cons _)
theorem al3{α:Type}: ∀(k:Nat) (xs:List α) (s:ai) (Q:List α -> ai -> Prop),xs.length <=k -> (∀ys d',ys.Perm xs -> Q ys {s with drawn:=d'}) -> wpAny (model prog w) A (l6 k xs) Q E s
 |0,[],s,Q,_,h=> by unfold l6;exact ah (h [] s.drawn (.refl _))
 |_+1,[],s,Q,_,h=> by unfold l6;exact ah (h [] s.drawn (.refl _))
 |0,_::_,_,_,z,_=> absurd z (by simp)
 |k+1,y::r,s,Q,z,h=> by
  unfold l6
  refine ac (atc (by simp) fun j d' hj=> ?_)
  rw [ay hj]
  dsimp only
  have l:((y::r).eraseIdx j).length <=k:=by rw [iJ hj];simpa using z
  refine ac (al3 k _ _ _ l fun ys d'' p=> ah (h _ d'' ?_))
  exact (p.cons _).trans (zl (ay hj))
theorem arn{α:Type}(nx:Nat -> Nat)(xs:Array α):(gL nx xs).toList.Perm xs.toList:=by
 have all: ∀(f k:Nat) (left:List α) (out:Array α),left.length <=f -> (l7 nx f k left out).toList.Perm (out.toList++left):=by
  intro f
  induction f with
  |zero=>
   intro k left out z
   have:left=[]:=gc.mp (Nat.le_zero.mp z)
   subst this
   unfold l7
   simp
  | succ f ih=>
   intro k left out z
   unfold l7
   cases left with
   |nil=> simp
   |cons y r=>
    have hj:nx k % (y::r).length < (y::r).length:=Nat.mod_lt _ (by simp)
    rw [ay hj]
    dsimp only
    refine (ih _ _ _ (by rw [iJ hj];simpa using z)).trans ?_
    rw [iR,cT]
    exact gK.append_left _ (zl (ay hj))
 unfold gL
 have:=all xs.size 0 xs.toList #[] (by simp)
 simpa using this
end
section
variable{prog:aQ}{w:aU}{A:bf}{E:af -> ai -> Prop}{s:ai}{I a:Addr}{i n ep:Nat}{o:Obj}{es:Array (Int×af)}{t:cD}
theorem ac6{Q:Bool -> ai -> Prop}(h:Q (w.params.followText "set-order") s):wpAny (model prog w) A setsByText Q E s:=by
 unfold setsByText;exact ac (jG (ah h))
theorem ak9{sl:Nat}{Q:Option (af×Nat) -> ai -> Prop}(hb:w.params.followText "set-order"=true)(ho:s.heap.get? a=some o)(hd:o.data=.set es ep t)(hf:t.fits es.size=true)
  (h:Q (((gL (w.params.setOrder a ep) es).toList.map (·.2))[i]?.map fun x=> (x,sl)) s):wpAny (model prog w) A (setNext a sl i ep) Q E s:=by
 unfold setNext
 refine ac (di ho hd hf ?_);refine ac (ac6 ?_)
 rw [hb,if_pos rfl]
 dsimp only
 rw [if_neg (by simp)]
 refine ac ?_
 unfold setWalk
 refine ac (di ho hd hf ?_);refine ac (ac6 ?_)
 rw [hb,if_pos rfl]
 refine ac (jG (ah (ah ?_)))
 have e:((gL (w.params.setOrder a ep) es).toList.map (·.2))[i]?.map (fun x=> (x,sl))=((gL (w.params.setOrder a ep) es)[i]?).map fun e=> (e.2,sl):=by
  rw [aR,cq]
  cases (gL (w.params.setOrder a ep) es)[i]? <;> rfl
 rw [e]at h
 exact h
theorem ah6{sl:Nat}{Q:Option (af×Nat) -> ai -> Prop}(hb:w.params.followText "set-order"=false)(hl:t.led=true)(hz:(!t.plain&&decide (es.size > 1))=false)(ho:s.heap.get? a=some o)(hd:o.data=.set es ep t)(hf:t.fits es.size=true)
  (h:Q (match es[cz t.place sl]?,t.place[cz t.place sl]? with|some (_,x),some j=> some (x,j+1)|_,_=> none) s):wpAny (model prog w) A (setNext a sl i ep) Q E s:=by
 unfold setNext
 refine ac (di ho hd hf ?_);refine ac (ac6 ?_)
 rw [hb,if_neg am];dsimp only
 refine gY (fun c=> ?_) (fun _=> ?_)
 ·have c':(!t.plain&&decide (es.size > 1))=true:=c
  rw [hz]at c'
  cases c'
 refine ac ?_
 show wpAny _ _ (if (!t.led&& !es.isEmpty)=true then unsupported "set:maker-not-led" else pure ()) _ _ _
 rw [hl,if_neg (by simp)];exact ah (ah h)
theorem ahg{p:Array Nat}(h:ST.Ris p.toList)(hi:i <=p.size):cz p (if i=0 then 0 else p.getD (i - 1) 0+1)=i:=by
 obtain⟨b1,b2,b3⟩:=ST.below_spec p (if i=0 then 0 else p.getD (i - 1) 0+1) h
 generalize hb:cz p (if i=0 then 0 else p.getD (i - 1) 0+1)=b at b1 b2 b3
 have gd: ∀(k d:Nat) (hk:k < p.size),p.getD k d=p[k]:=fun k d hk=> by simp [gW,hk]
 have lt: ∀(x y:Nat) (hx:x < y) (hy:y < p.size),p[x] < p[y]:=fun x y hx hy=> by
  have:=ST.ris_get h hx (by rw [aL];exact hy)
  simpa using this
 rcases Nat.lt_trichotomy b i with z|z|z
 ·have hi0:i≠0:=by lia
  rw [if_neg hi0]at b3
  have:=b3 (i - 1) (by lia) (by lia)
  rw [gd (i - 1) _ (by lia),gd (i - 1) _ (by lia)]at this
  lia
 ·exact z
 ·have:=b2 i z
  rw [gd i _ (by lia)]at this
  by_cases hi0:i=0
  ·rw [if_pos hi0]at this;lia
  ·rw [if_neg hi0,gd (i - 1) _ (by lia)]at this
   have:=lt (i - 1) i (by lia) (by lia)
   lia
structure Beg (prog:aQ) (w:aU) (A:bf) (s:ai) (a:Addr) (es:Array (Int×af)) (I:Addr) (h1:Heap) (ord:List af) (fp:List Addr) (St:Nat -> Heap -> Prop):Prop where
 perm:ord.Perm (es.toList.map (·.2))
 keep: ∀b u,s.heap.get? b=some u -> h1.get? b=some u
 new:s.heap.objs.size <=I
 away: ∀b∈fp,b=a\/s.heap.objs.size <=b
 lt: ∀b∈fp,b < h1.objs.size
 walk:my prog w A I fp [I] ord.length (fun i v=> ord[i]?=some v) St
 st:St 0 h1
theorem aqp(es:Array (Int×af)):(gP es.size).map (fun p=> (es[p]?.map (·.2)).getD .none)=es.toList.map (·.2):=by
 refine iT fun j=> ?_
 rw [aR,aR,cq (xs:=es)]
 by_cases c:j < es.size
 ·rw [List.getElem?_range c,bI c];simp [c]
 ·rw [gM (by simpa using c),gn (by lia)];rfl
theorem a0a(hh:A.handled=none)(ho:s.heap.get? a=some o)(hex:o.ExactSet)(hd:o.data=.set es ep t)(hf:t.fits es.size=true)(hz:es.size < bu)(tx:aic w es.size t)(hQ: ∀I h1 d' ord fp St,Beg prog w A s a es I h1 ord fp St -> Q (.ref I) {s with heap:=h1,drawn:=d'}):wpAny (model prog w) A (pyIter (.ref a)) Q E s:=by
 have hT:s.TypeIs (.ref a) "set":=⟨o,ho,hex.1⟩;have hal:a < s.heap.objs.size:=ao ho
 refine wpAny_pyIter_slot hT apa (bo apa hT ax1 ?_ (aza _))
 unfold cf.«frozenset.__iter__» Builtin.Frozenset.slot0 slotArgs
 simp only [List.isEmpty_nil,iF,cr,↓reduceIte,bind_assoc,eF,bne_self_eq_false];unfold Builtin.Frozenset.addrOf Builtin.Frozenset.sizeOf
 refine ac (ah ?_);try dsimp only
 refine ac (ah ?_);refine ac (ac (ef ho hd hf (ah ?_)))
 refine ac ?_
 unfold setDrawn
 refine ac (di ho hd hf ?_);refine ac (ac6 (ah ?_))
 have fin: ∀(fst:af) (h0:Heap) (d':Drawn) (ord:List af) (fp:List Addr) (St:Nat -> Heap -> Prop),(∀b u,s.heap.get? b=some u -> h0.get? b=some u) -> ord.Perm (es.toList.map (·.2)) ->
   (∀b∈fp,b=a\/s.heap.objs.size <=b) -> (∀b∈fp,b < h0.objs.size+1) -> s.heap.objs.size <=h0.objs.size ->
   my prog w A h0.objs.size fp [h0.objs.size] ord.length (fun i v=> ord[i]?=some v) St -> St 0 (h0.push (sIt fst 0 a es.size ep)) ->
   wpAny (model prog w) A.in1 (do
    let e←setEpoch a
    let v←newFields "set_iterator" [fst,rawInt 0,aD a,rawInt es.size,rawInt e]
    ret v) (fun f s'=> ∃v,f=Fin.done (Flow.ret v)/\ ∃T' r,s'.TypeIs v T'/\typeLookup (cG T') (bG "__next__")=pure (some r)/\Q v s') E {s with heap:=h0,drawn:=d'}:=by
  intro fst h0 d' ord fp St k p f1 f2 l W z
  refine ac (wpAny_setEpoch_of (k _ _ ho) hd hf ?_)
  unfold newFields
  refine ac (bC ?_);refine ah ⟨_,rfl,"set_iterator",_,⟨_,ar _ rfl,rfl⟩,xy.lookup,hQ _ _ d' ord fp St ⟨p,fun b u e=> ag _ (k b u e),l,f1,fun b hb=> by rw [aZ];exact f2 b hb,W,z⟩⟩
 have len: ∀{ord:List af},ord.Perm (es.toList.map (·.2)) -> es.size=ord.length:=fun p=> by
  rw [p.length_eq,ak,aL]
 have two1: ∀b∈ [s.heap.objs.size,a],b=a\/s.heap.objs.size <=b:=fun b m=> by
  rcases aw.mp m with e|m
  ·exact .inr (eQ e.symm)
  ·exact .inl (aY.mp m)
 have two2: ∀b∈ [s.heap.objs.size,a],b < s.heap.objs.size+1:=fun b m=> by
  rcases aw.mp m with e|m
  ·exact e▸ee _
  ·rw [aY.mp m];exact cU hal
 cases hb:w.params.followText "set-order" with
 | true=>
  rw [if_neg (by simp)]
  have p:=((arn (w.params.setOrder a ep) es).map (·.2))
  refine ac (ah (fin _ _ _ ((gL (w.params.setOrder a ep) es).toList.map (·.2)) [s.heap.objs.size,a] _ (fun _ _ e=> e) p two1 two2 (aq _) (ayl hh (aN hal) hd hf _ (len p) (fun _=> 0) ?_ ?_) ⟨?_,ag _ ho⟩))
  ·intro i x s E' Q' e1 e2 z
   refine ak9 hb e1 hd hf ?_
   rw [e2];exact z
  ·intro s E' Q' e1 z
   refine ak9 hb e1 hd hf ?_
   rw [gM (aq _)];exact z
  ·rw [←len p];exact ar _ rfl
 | false=>
  by_cases hz2:(!t.plain&&decide (es.size > 1))=true
  ·rw [aH,Bool.not_eq_true',decide_eq_true_eq]at hz2
   obtain⟨hp,hz1⟩:=hz2
   rw [if_pos (by show (!false&&(!t.plain&&decide (es.size > 1)))=true;rw [hp,decide_eq_true hz1];rfl)]
   refine ac (al3 _ _ _ _ (by simp) fun ys d' p=> ?_)
   have l:ys.length=es.size:=by rw [p.length_eq,List.length_range]
   have big:es.size <=sizeLine:=dO hz
   unfold newTuple
   refine ac (bC ?_ (by show (ys.map fun (i:Nat)=> rawInt i).toArray.size <=sizeLine;simpa [l] using big))
   have q:(ys.map fun p=> (es[p]?.map (·.2)).getD .none).Perm (es.toList.map (·.2)):=by rw [←aqp es];exact p.map _
   refine fin (.ref s.heap.objs.size) _ d' (ys.map fun p=> (es[p]?.map (·.2)).getD .none) [(s.heap.push _).objs.size,a,s.heap.objs.size] _ (fun _ _ e=> ag _ e) q ?_ ?_ (by rw [aZ];exact dW _)
    (a5r (oT:={cls:=.type "tuple",data:=.seq (ys.map fun (i:Nat)=> rawInt i).toArray}) (ps:=(ys.map fun (i:Nat)=> rawInt i).toArray) hh (by rw [aZ];exact aN (cU hal)) (by rw [aZ];exact aN (ee _)) hd hf _ (len q) rfl (by simp) ?_) ⟨?_,?_,?_⟩
   ·intro b m
    rw [aZ]at m
    simp only [aw,bK,or_false]at m
    rcases m with rfl|rfl|rfl
    ·exact .inr (dW _)
    ·exact .inl rfl
    ·exact .inr (aq _)
   ·intro b m
    rw [aZ]at m⊢
    simp only [aw,bK,or_false]at m
    rcases m with rfl|rfl|rfl
    ·exact ee _
    ·exact cU (cU hal)
    ·exact Nat.le_succ_of_le (ee _)
   ·intro i x e
    rw [aR]at e
    cases c:ys[i]? with
    |none=> rw [c]at e;cases e
    | some j=>
     rw [c]at e
     have hj:j < es.size:=by
      have:=p.mem_iff.mp (gS c)
      simpa using this
     have hx:x=es[j].2:=by
      simp only [jY,dN]at e
      rw [←e,bI hj];rfl
     exact⟨j,0,es[j].1,by simp [c,rawInt],by rw [bI hj,hx]⟩
   ·rw [←len q];exact ar _ rfl
   ·exact ag _ (ag _ ho)
   ·exact ag _ (by exact ar _ rfl)
  ·have hz2:(!t.plain&&decide (es.size > 1))=false:=by simpa using hz2
   rw [if_neg (by
    show¬((!false&&(!t.plain&&decide (es.size > 1)))=true)
    rw [hz2];simp)]
   have hl:t.led=true:=by rw [tx.1,hb];rfl
   have hpl:t.place.size=es.size:=by
    simp only [SetTable.fits,aH,beq_iff_eq]at hf
    exact hf.1
   have hr:ST.Ris t.place.toList:=by
    by_cases h1:es.size > 1
    ·rcases tx.2 (by lia) with z|z
     ·rw [z,decide_eq_true h1]at hz2;cases hz2
     ·exact z
    ·refine iY.mpr fun i j hi hj hij=> ?_
     rw [aL]at hj
     lia
   refine ac (ah (fin _ _ _ (es.toList.map (·.2)) [s.heap.objs.size,a] _ (fun _ _ e=> e) (.refl _) two1 two2 (aq _) (ayl hh (aN hal) hd hf _ (len (.refl _)) (fun i=> if i=0 then 0 else t.place.getD (i - 1) 0+1) ?_ ?_) ⟨?_,ag _ ho⟩))
   ·intro i x s E' Q' e1 e2 z
    have hi:i < es.size:=by
     rw [aR]at e2
     cases c:es.toList[i]? with
     |none=> rw [c]at e2;cases e2
     |some _=> simpa using (aA.mp c).1
    refine ah6 hb hl hz2 e1 hd hf ?_
    rw [ahg hr (by lia)]
    have g1:es[i]?=some (es[i].1,x):=by
     rw [bI hi]
     rw [aR,cq,bI hi]at e2
     simp only [jY,dN]at e2
     rw [←e2]
    have g2:t.place[i]?=some (t.place.getD i 0):=by
     have:i < t.place.size:=by lia
     rw [bI this]
     simp [gW,this]
    rw [g1,g2]
    exact z
   ·intro s E' Q' e1 z
    refine ah6 hb hl hz2 e1 hd hf ?_
    rw [show (es.toList.map (·.2)).length=t.place.size by simp [hpl],ahg hr (aq _)]
    rw [gn (by lia)]
    exact z
   ·rw [←len (.refl _)];exact ar _ rfl
end
theorem Inv.drew(I:Inv X pins σ H s)(d':Drawn):Inv X pins σ H {s with drawn:=d'}:=
 ⟨I.ok,I.os,I.bare,I.base,I.loc,I.cell,I.free,I.freeC,I.pin,I.hok,I.len⟩
section
variable{prog:aQ}{w:aU}{A:bf}{E:af -> ai -> Prop}{s:ai}{a:Addr}{ep:Nat}{o:Obj}{es:Array (Int×af)}{t:cD}
theorem awx{Q:Bool -> ai -> Prop}(hT:s.TypeIs (.ref a) "set")(h:Q false s):wpAny (model prog w) A (iD (.ref a)) Q E s:=by
 unfold iD;refine ac (dF hT PySem.F.slot_set_len.lookup ?_)
 generalize hid:("set.__len__":String)=id0
 wp_delta
 rw [show splitId id0=some ("set","__len__") from by subst hid;decide+kernel]
 subst hid
 refine ac (dY (T:="set") (b:=true) hT (by rw [ii];kernel_rfl) ?_)
 refine gY (fun z=> absurd z (by decide)) (fun _=> ?_)
 refine gY (fun _=> ?_) (fun z=> absurd (by decide+kernel) z)
 exact ac (gU hT (ah h))
theorem az4{R:gR -> ai -> Prop}(hh:A.handled=none)(ho:s.heap.get? a=some o)(hex:o.ExactSet)(hd:o.data=.set es ep t)(hf:t.fits es.size=true)(hz:es.size < bu)(tx:aic w es.size t)
  (S:Addr) (hSa:S≠a) (res:af) (hS:s.heap.get? S=some {cls:=.type "list",data:=.seq #[] 0})
  (hR: ∀h' d' tk (acc:Array af) c,acc.toList.Perm (es.toList.map (·.2)) -> (∀b u,b≠S -> s.heap.get? b=some u -> h'.get? b=some u) -> h'.get? S=some {cls:=.type "list",dict:=none,data:=.seq acc c,slots:= #[]} -> R (.ok (.ret res)) {s with heap:=h',drawn:=d',toks:=tk}):
  wpAny (model prog w) A.in1 (eU (.ref S) (.ref a) res) (fun fin s'=> match fin with|.done f=> R (.ok f) s'|.again c'=> c'.quiet=true/\codeAny (model prog w) A c' R s') (fun e s'=> R (.error e) s') s:=by
 have hT:s.TypeIs (.ref a) "set":=⟨o,ho,hex.1⟩;have hSl:S < s.heap.objs.size:=ao hS
 unfold eU;refine ac (gU (T:="set") hT ?_)
 have n1:jH (.ref S) (.ref a)=false:=by simp [jH,hSa]
 have n2:(cG "set"==cG "list")=false:=by decide
 have n3:(cG "set"==cG "tuple")=false:=by decide
 simp only [n1,n2,n3,lE,cr,if_false]
 refine ac (a0a hh ho hex hd hf hz tx fun I h1 d' ord fp St B=> ?_)
 have hSf:S∉fp:=fun m=> by
  rcases B.away S m with e|e
  ·exact hSa e
  ·exact absurd hSl (i6.mpr e)
 have hSI:S≠I:=fun e=> absurd hSl (i6.mpr (e▸B.new))
 have hlen:ord.length <=sizeLine:=by
  rw [B.perm.length_eq,ak,aL];exact dO hz
 have key: ∀(h:Heap) (c1 tk:Nat),St 0 h -> (∀b u,b≠S -> s.heap.get? b=some u -> h.get? b=some u) -> h.get? S=some {cls:=.type "list",data:=.seq #[] c1} ->
   codeAny (model prog w) A (.builtin "list.extend.loop" ⟨[.ref S,.ref I,res],[]⟩) R {s with heap:=h,drawn:=d',toks:=tk}:=by
  intro h c1 tk st k g
  refine codeAny_extend_loopS B.walk.toS hlen S hSf res ord.length 0 _ #[] c1 rfl (c9 _) st g (ItemsOf.nil _) fun s' acc c mv g' it=> ?_
  rw [Moved.eq_with mv]
  have ea:acc.toList=ord:=by
   refine iT fun j=> ?_
   rw [cq]
   cases c:acc[j]? with
   |some v=> exact (it.2 j v c).symm
   |none=>
    have:acc.size <=j:=Array.getElem?_eq_none_iff.mp c
    rw [it.1]at this
    exact (gM this).symm
  refine hR s'.heap d' s'.toks acc c (ea▸B.perm) (fun b u hb e=> mv.heap b u (fun m=> ?_) (k b u hb e)) g'
  rcases aw.mp m with e'|m
  ·exact hb e'
  ·exact absurd (ao e) (by rw [aY.mp m];exact i6.mpr B.new)
 have g1:=B.keep _ _ hS
 refine ac (bj (awx (a:=a) ⟨o,B.keep _ _ ho,hex.1⟩ ?_))
 refine gY (fun _=> ?_) (fun _=> ah ⟨fy i7 _,key _ 0 _ B.st (fun b u _ e=> B.keep b u e) g1⟩)
 refine ac (cF (ac ?_))
 show wpAny _ _ (updateSeq S (·.push .none)>>=fun _=> updateSeq S (·.pop)) _ _ _;refine ac (wpAny_updateSeq g1 rfl ?_)
 have g2:=bA (f8 (·.push bF)) g1 rfl
 refine wpAny_updateSeq (hz:=by seq_fits) g2 rfl ?_
 have g3:=bA (f8 (·.pop)) g2 rfl
 refine ah ⟨fy i7 _,key _ _ _ ?_ (fun b u hb e=> ?_) g3⟩
 ·refine B.walk.frame 0 _ _ B.st fun b hb u e=> ?_
  have hbS:S≠b:=fun z=> hSf (z▸hb)
  exact (bB _ _ hbS).trans ((bB _ _ hbS).trans e)
 ·exact (bB _ _ (cI hb)).trans ((bB _ _ (cI hb)).trans (B.keep _ _ e))
theorem aww{R:List af -> ai -> Prop}(hh:A.handled=none)(ho:s.heap.get? a=some o)(hex:o.ExactSet)(hd:o.data=.set es ep t)(hf:t.fits es.size=true)(hz:es.size < bu)(tx:aic w es.size t)
  (h: ∀h' d' tk (ord:List af),ord.Perm (es.toList.map (·.2)) -> (∀b u,s.heap.get? b=some u -> h'.get? b=some u) -> R ord {s with heap:=h',drawn:=d',toks:=tk}):wpAny (model prog w) A (collect (.ref a)) R E s:=by
 unfold collect
 refine ac (kR (dg entry_proto_collect' ?_));rw [cS PySem.F.plain_proto_collect _]
 refine (show wpAny _ A.in1 (newList []>>=fun l=> again (.builtin "list.__iadd__" ⟨[l,.ref a],[]⟩)) _ _ s from ac (bC (ah ⟨fy jM _,dg entry_list_iadd' ?_⟩)))
 rw [cS jM _];have g1:(s.heap.push {cls:=.type "list",data:=.seq ([]:List af).toArray}).get? s.heap.objs.size=some {cls:=.type "list",data:=.seq #[]}:=ar _ rfl
 show wpAny _ A.in1 (eU (.ref s.heap.objs.size) (.ref a) (.ref s.heap.objs.size)) _ _ _
 have key:=az4 (prog:=prog) (A:=A) (s:={s with heap:=s.heap.push {cls:=.type "list",data:=.seq ([]:List af).toArray}})
  (R:=fun (q:gR) (s':ai)=> ∃(h':Heap) (d':Drawn) (tk:Nat) (acc:Array af) (c:Nat),q=.ok (.ret (.ref s.heap.objs.size))/\s'={s with heap:=h',drawn:=d',toks:=tk}/\
   (∀b u,s.heap.get? b=some u -> h'.get? b=some u)/\h'.get? s.heap.objs.size=some {cls:=.type "list",dict:=none,data:=.seq acc c,slots:= #[]}/\acc.toList.Perm (es.toList.map (·.2)))
  hh (ag _ ho) hex hd hf hz tx s.heap.objs.size (dA (ao ho)) (.ref s.heap.objs.size) g1
  (fun h' d' tk acc c p k g=> ⟨h',d',tk,acc,c,rfl,rfl,fun b u e=> k b u (aN (ao e)) (ag _ e),g,p⟩)
 refine cc key (fun fn s' x=> ?_) fun e s' x=> ?_
 ·cases fn with
  |done f=>
   obtain⟨h',d',tk,acc,c,e,rfl,k,g,p⟩:=x
   cases e
   exact (show wpAny _ A (load s.heap.objs.size >>=_) _ _ _ from ac (iW g (ah (h h' d' tk _ p k))))
  |again c1=>
   refine⟨x.1,dC x.2 fun q s2 y=> ?_⟩
   obtain⟨h',d',tk,acc,c,rfl,rfl,k,g,p⟩:=y
   exact (show wpAny _ A (load s.heap.objs.size >>=_) _ _ _ from ac (iW g (ah (h h' d' tk _ p k))))
 ·obtain⟨_,_,_,_,_,e',_⟩:=x;cases e'
end
theorem aox{α:Type}[DecidableEq α]: ∀{l m:List α},l.Nodup -> (∀x∈l,x∈m) -> m.length <=l.length -> l.Perm m
 |[],m,_,_,z=> by
  have:m=[]:=gc.mp (Nat.le_zero.mp z)
  rw [this]
 | x::r,m,nd,sub,z=> by
  have hx:=sub x aC
  rw [dG]at nd
  have p:=List.perm_cons_erase hx
  refine ((aox nd.2 (fun y hy=> ?_) ?_).cons x).trans p.symm
  ·have:y≠x:=fun e=> nd.1 (e▸hy)
   exact (List.mem_erase_of_ne this).mpr (sub y (aB _ hy))
  ·rw [List.length_erase_of_mem hx]
   simp only [aM]at z
   lia
def Nx(n:Nat)(Pv:Addr -> Nat -> List V -> Hp -> Prop)(D:Addr)(i:Nat)(ys:List V)(H:Hp):Prop:= ∃m',m' < n - i/\m'=n - (i+1)/\i+1 <=n/\ys.length <=i+1/\Pv D (i+1) ys H
theorem nx{Pv:Addr -> Nat -> List V -> Hp -> Prop}{D:Addr}(hi:i < n)(hl:ys.length <=i+1)(p:Pv D (i+1) ys H):Nx n Pv D i ys H:=⟨n - (i+1),by lia,rfl,hi,hl,p⟩
def apf(K:aj)(mg:Str -> Option af)(x:Str)(vs:List V):Prop:= ∃a,mg x=some (.ref a)/\ ∀H,SqT K H a vs
theorem at3(hc:X.calm=true):va X (.builtin "all") (fun vs H Q=> ∃(a:Addr) (bs:List Bool),vs=[.ref a]/\SqL X.K H a (bs.map V.bl)/\Q (.bl (bs.all id)) H):=by
 intro pins s σ H vs us Q I r h
 obtain⟨a,bs,rfl,hS,q⟩:=h
 obtain⟨u,rfl,ru⟩:=vals1 r
 cases ru
 have hh:X.A.in1.handled=none:=I.ok.hd hc
 obtain⟨its,rv,⟨o,n,e,c,dd,d⟩,z⟩:=I.list hS
 have l1:s.heap.IsList a its.toArray:=⟨o,e,c,n,d⟩
 have hl:=rv.length
 rw [ak]at hl
 refine call_all_walk (dP l1 ⟨s.heap.objs.size,_,_,_,_,_,fun i=> bs.getD i true,rfl,Walks.list hh _ a (aN (ao e)) its.toArray,⟨⟨_,ar _ rfl,rfl,rfl⟩,l1.push _⟩,?_,fun h' tk k=> ?_⟩)
 ·intro i v s Q E hv hq
  have hi:i < bs.length:=by
   have:=(bD.mp hv).1
   rw [az]at this
   lia
  have e1:(bs.map V.bl)[i]?=some (.bl bs[i]):=by rw [aR,ay hi];rfl
  obtain⟨u,hu,ru⟩:=rv.get e1
  rw [kS,hu]at hv
  obtain rfl:u=v:=bP hv
  obtain rfl:u=eD bs[i]:=ru
  have e3:bs.getD i true=bs[i]:=by rw [bS,ay hi];rfl
  refine cC ?_
  rw [←e3];exact hq
 ·have ks: ∀b u,s.heap.get? b=some u -> h'.get? b=some u:=fun b u hb=> k b u (fun m=> absurd (ao hb) (by rw [aY.mp m];exact cy _)) (ag _ hb)
  have e2:(gP its.toArray.size).all (fun i=> bs.getD i true)=bs.all id:=by
   rw [az,←hl]
   rw [aW]
   simp only [aO,List.mem_range,id_eq]
   constructor
   ·intro h b hb
    (obtain⟨i,hi,rfl⟩:=h8 hb)
    have:=h i hi
    rw [bS,ay hi]at this
    exact this
   ·intro h i hi
    (rw [bS,ay hi])
    exact h _ (d8 hi)
  rw [e2]
  exact⟨.bl (bs.all id),H,I.un (Un.kept ks) (I.hok.kept ks),rfl,q⟩
theorem Inv.turnedL{h':Heap}{t':Nat}{ch:List Addr}(I:Inv X pins σ H s)(k: ∀b o,b∉ch -> s.heap.get? b=some o -> h'.get? b=some o)(hf: ∀b∈ch,ac3 X pins H b):Inv X pins σ H {s with heap:=h',toks:=t'}:=by
 have no: ∀b u,H b=some u -> b∉ch:=fun b u e m=> by rw [(hf b m).1]at e;cases e
 refine I.step (g':=s.gens) (d':=s.drawn) (ch:=ch) (fun b m=> ⟨(hf b m).2.2.2.1,(hf b m).2.1,(hf b m).2.2.2.2.1,(hf b m).2.2.2.2.2⟩) (fun b o _ _ hc e _=> k b o hc e) (fun b o _ _ hc e _=> ⟨o.slots,k b o hc e⟩) (fun _ _ _ _ n=> n)
  (fun b o hc e=> ⟨o,k b o hc e⟩) (fun _ _ e=> e) (fun _ _ _ e=> e) (fun b ps e=> ⟨#[],by rw [e];simp⟩) (fun m hm=> ?_) (fun b u e=> ?_) I.bare
 ·obtain⟨o,es,ep,ho,r⟩:=hm
  exact⟨o,es,ep,k _ o (fun z=> (hf _ z).2.1 rfl) ho,r⟩
 ·refine (I.hok b u e).stay (fun c v hc q=> k c v ?_ q) (fun _ q=> q) fun _ _ q=> q
  rcases hc with z|z
  ·rw [z];exact no b u e
  ·exact no c _ z
theorem a69:a9 "zip"=some (.type "zip"):=by decide+kernel
section
open HT
variable{prog:aQ}{w:aU}{A:bf}{E:af -> ai -> Prop}{s:ai}
theorem asz{t sl:Addr}{vl vu:af}{lo hi:Option Int}(ht:IsTup s.heap t items)(hs:s.heap.IsSliceOf sl vl vu .none)(pl:gk vl lo)(pu:gk vu hi)(hw:sIx items.size 0 lo=0/\sIx items.size items.size hi=items.size)(h:Q (.ref t) s):wpAny (model prog w) A (getItem (.ref t) (.ref sl)) Q E s:=by
 obtain⟨os,hos,hcs,hds⟩:=id hs
 have hTs:s.TypeIs (.ref sl) "slice":=⟨os,hos,hcs⟩
 unfold getItem
 try with_reducible refine bj ?_
 first|refine ac (ah ?_)|skip
 refine ac (wpAny_sequenceKey ht.typeIs (by decide) (ac (bn (name:=bG "__getitem__") ht.typeIs b7
  (bo b7 ht.typeIs lL ?_ (args_tuple_getitem _ _)))))
 show wpAny _ _ (fm (.ref t)>>=_) _ _ s
 refine ac (tupleItemsOf_ ht (ac (gU hTs ?_)))
 rw [if_pos (by decide)]
 refine ac (abi hs pl pu ?_)
 have yes:(((sIx items.size 0 lo:Nat):Int)==0&&(1:Int)==1&&(sIx items.size items.size hi - sIx items.size 0 lo)==items.size)=true:=by
  rw [hw.1,hw.2];simp
 show wpAny _ _ (if (((sIx items.size 0 lo:Nat):Int)==0&&(1:Int)==1&&(sIx items.size items.size hi - sIx items.size 0 lo)==items.size)=true then _ else _) _ _ s
 rw [if_pos yes]
 unfold Builtin.Tuple.tupleIsExact
 refine ac (ac (gU ht.typeIs (ah ?_)))
 rw [if_pos (by decide)]
 exact ac (cF (ah ⟨_,rfl,ah h⟩))
end
def a6x(K:aj):V -> Option Int -> Option Int -> Hp -> VK -> Prop:=fun x lo hi H Q=> ∃a xs,x=.ref a/\SqT K H a xs/\(y4 xs lo hi=xs -> Q (.ref a) H)/\ ∀p H',New H p (.tup (y4 xs lo hi)) H' -> Q (.ref p) H'
theorem a18:SlR X (a6x X.K):=by
 intro pins s σ H x v vl vu lo hi sl Q I rx hs pl pu h
 obtain⟨a,xs,rfl,hx,q1,q2⟩:=h
 by_cases c:HT.sIx xs.length 0 lo=0/\HT.sIx xs.length xs.length hi=xs.length
 ·cases rx
  obtain⟨its,r,ht,hz⟩:=I.tuple hx
  have hlen:its.toArray.size=xs.length:=by rw [az];exact r.length.symm
  refine⟨"tuple",_,b7.lookup,ht.typeIs,?_⟩
  refine asz ht hs pl pu (by rw [hlen];exact c) ⟨.ref a,H,I,rfl,q1 ?_⟩
  unfold y4
  rw [c.1,c.2];simp
 ·exact ays pins s σ H (.ref a) v vl vu lo hi sl Q I rx hs pl pu ⟨a,xs,rfl,hx,c,q2⟩
noncomputable def a2w(K:aj):R2:=fun x y H Q=> ∃a b xs ys,x=.ref a/\y=.ref b/\SqT K H a xs/\SqT K H b ys/\xs.length+ys.length <=sizeLine/\(xs=[] -> Q (.ref b) H)/\(xs≠ [] -> ys=[] -> Q (.ref a) H)/\(xs≠ [] -> ys≠ [] -> ∀p H',New H p (.tup (xs++ys)) H' -> Q (.ref p) H')
theorem axe:OpR X (binaryOp .Add) (a2w X.K):=by
 intro pins s σ H x y v u Q I rx ry h
 obtain⟨a,b,xs,ys,rfl,rfl,ha,hb,hz,q0,q1,q2⟩:=h
 by_cases c:xs=[]
 ·cases rx
  cases ry
  obtain⟨its,r1,p1,_⟩:=I.tuple ha
  obtain⟨its2,r2,p2,_⟩:=I.tuple hb
  have e0:its=[]:=r1.nil_iff.mpr c
  subst e0
  obtain⟨⟨cls,dd,data,sl⟩,ho,hc,n,hd⟩:=id p1
  obtain⟨⟨cls2,dd2,data2,sl2⟩,ho2,hc2,n2,hd2⟩:=id p2
  simp only at hc hd hc2 hd2
  subst hc hd hc2 hd2
  exact lY ⟨_,ho,rfl⟩ ⟨_,ho2,rfl⟩ jC lD gj gb (fQ _ _) (tuple_addW0 a b _ _ n n2 dd dd2 sl sl2 (by simp)) ⟨ho,ho2,⟨.ref b,H,I,rfl,q0 c⟩⟩
 ·exact a19 pins s σ H (.ref a) (.ref b) v u Q I rx ry ⟨a,b,xs,ys,rfl,rfl,ha,hb,c,hz,q1 c,fun d p hp=> q2 c d p _ ⟨hp,rfl⟩⟩
noncomputable def b01(b:Bool):Int:=if b=true then 1 else 0
def axf:V -> Option Int
 |.int i=> some i
 |.bl b=> some (b01 b)
 |_=> none
theorem azd:OpR X (binaryOp .Add) (fun x y H Q=> ∃i j,axf x=some i/\y=.int j/\Q (.int (i+j)) H):=by
 intro pins s σ H x y v u Q I rx ry h
 obtain⟨i,j,hx,rfl,q⟩:=h
 cases x with
 |int k=> cases hx;exact at4 pins s σ H _ _ v u Q I rx ry ⟨_,j,rfl,rfl,q⟩
 |bl b=>
  cases hx
  cases rx
  obtain⟨t',rfl⟩:=ry
  exact PySem.IntBool.add_bool_int ⟨.int (b01 b+j),H,I.tok _,⟨_,rfl⟩,q⟩
 |_=> cases hx
theorem a0u:OpR X (binaryOp .Sub) (fun x y H Q=> ∃i j,axf x=some i/\y=.int j/\Q (.int (i - j)) H):=by
 intro pins s σ H x y v u Q I rx ry h
 obtain⟨i,j,hx,rfl,q⟩:=h
 cases x with
 |int k=> cases hx;exact ams pins s σ H _ _ v u Q I rx ry ⟨_,j,rfl,rfl,q⟩
 |bl b=>
  cases hx
  cases rx
  obtain⟨t',rfl⟩:=ry
  exact PySem.IntBool.sub_bool_int ⟨.int (b01 b - j),H,I.tok _,⟨_,rfl⟩,q⟩
 |_=> cases hx
theorem az9:OpR X (binaryOp .Sub) (fun x y H Q=> ∃i j,x=.int i/\axf y=some j/\Q (.int (i - j)) H):=by
 intro pins s σ H x y v u Q I rx ry h
 obtain⟨i,j,rfl,hy,q⟩:=h
 cases y with
 |int k=> cases hy;exact ams pins s σ H _ _ v u Q I rx ry ⟨i,_,rfl,rfl,q⟩
 |bl b=>
  cases hy
  cases ry
  obtain⟨t',rfl⟩:=rx
  exact PySem.IntBool.sub_int_bool ⟨.int (i - b01 b),H,I.tok _,⟨_,rfl⟩,q⟩
 |_=> cases hy
theorem part_of{v:af}{o:Option Int}(p:gk v o): ∃q:Option (Int×Tok),v=partValue q/\q.map (·.1)=o:=by
 cases p with
 |none=> exact⟨none,rfl,rfl⟩
 |int i t=> exact⟨some (i,t),rfl,rfl⟩
end L2
namespace L2
open PySem PySem.Spec PyProof.Rows PyProof.Rows.KTD
structure TabF (K:aj) (d:Addr) (D:List (Str×Str)):Prop where
 tab: ∀h:Heap,K.In h -> TabOf (fun y v=> bd K aP y=some (some v)) h d D
 refs: ∀k y,datumAt k D=some y -> ∃f:Addr,bd K aP y=some (some (.ref f))
def a85(X:Cx)(f:Addr)(σ:St)(vs:List V)(H:Hp)(Q:VK):Prop:= ∀(pins:List (Addr×Obj)) (s:ai) (us:List af),Inv X pins σ H s -> jo vs us -> wpAny (model X.prog X.w) X.A (call (.ref f) us) (EP X pins σ Q) X.xe s
end L2
namespace PF
open PySem PySem.Spec
open L2
inductive D where
 |da (d:ae)|con (ds:List ae)|frz (ds:List ae)|set (ds:List ae)
 |ref (n:Nat)|fn (x:Str)|tabF (T:List (Str×Str))|ty (n:String)
abbrev D.non:D:=.da .none
abbrev D.bl(b:Bool):D:=.da (.bool b)
abbrev D.int(i:Int):D:=.da (.int i)
abbrev D.str(x:Str):D:=.da (.str x)
abbrev D.tup(ds:List ae):D:=.da (.tuple ds)
abbrev D.lst(ds:List ae):D:=.da (.list ds)
inductive O where
 |lst (ds:List D)|dct (kvs:List (ae×D))|set (ds:List D)|ins (C:Str) (fs:List (Str×D))|exc (C:Str) (fs:List (Str×D))|xcx (C:Str) (fs:List (Str×D))|gone
abbrev S:=List O
abbrev En:=List (Option D)
inductive R (α:Type) where
 |ok (a:α) (s:S)
 |bad
 /-- the exception at n was raised,where the names stood as ρ tells -/
 |ex (n:Nat) (ρ:En) (s:S)
noncomputable def R.bind{α β:Type}(r:R α)(f:α -> S -> R β):R β:=match r with
 |.ok a s=> f a s
 |.bad=>.bad
 |.ex n ρ s=>.ex n ρ s
noncomputable def R.calm{α:Type}(r:R α):R α:=match r with
 |.ok a s=>.ok a s
 |.bad=>.bad
 |.ex _ _ _=>.bad
noncomputable def R.at{α:Type}(r:R α)(ρ:En):R α:=match r with
 |.ok a s=>.ok a s
 |.bad=>.bad
 |.ex n _ s=>.ex n ρ s
theorem R.calm_ok{α:Type}(a:α)(s:S):(R.ok a s).calm=.ok a s:=rfl
theorem R.at_ok{α:Type}(a:α)(s:S)(ρ:En):(R.ok a s).at ρ=.ok a s:=rfl
theorem R.bind_ok{α β:Type}(a:α)(s:S)(f:α -> S -> R β):(R.ok a s).bind f=f a s:=rfl
def R.W{α:Type}(r:R α)(Q:α -> S -> Prop):Prop:=match r with
 |.ok a s=> Q a s
 |.bad=> False
 |.ex _ _ _=> False
theorem R.W_calm{α:Type}(r:R α)(Q:α -> S -> Prop):r.calm.W Q=r.W Q:=by cases r <;> rfl
theorem R.W_at{α:Type}(r:R α)(ρ:En)(Q:α -> S -> Prop):(r.at ρ).W Q=r.W Q:=by cases r <;> rfl
theorem R.W_ok{α:Type}(a:α)(s:S)(Q:α -> S -> Prop):(R.ok a s).W Q=Q a s:=rfl
theorem R.W_bind{α β:Type}(r:R α)(f:α -> S -> R β)(Q:β -> S -> Prop):(r.bind f).W Q=r.W fun a s=> (f a s).W Q:=by cases r <;> rfl
theorem R.W_mono{α:Type}{r:R α}{Q Q':α -> S -> Prop}(h:r.W Q)(k: ∀a s,Q a s -> Q' a s):r.W Q':=by
 cases r with
 |ok a s=> exact k a s h
 |bad=> exact h
 |ex n ρ s=> exact h
structure As where
 ix:List (Option Addr)
 hd:List Addr
def As.has(as:As)(p:Addr):Prop:=some p∈as.ix\/p∈as.hd
abbrev As.add(as:As)(p:Addr):As:={as with ix:=as.ix++ [some p]}
abbrev As.cut(as:As)(n:Nat):As:={as with ix:=as.ix.set n none}
abbrev As.hide(as:As)(p:Addr):As:={as with hd:=p::as.hd}
abbrev As.show(as:As)(p:Addr):As:={as with hd:=as.hd.filter fun q=> decide (q≠p)}
structure Step0 (as:As) (H:Hp) (as':As) (H':Hp):Prop where
 len:as.ix.length <=as'.ix.length
 old: ∀n:Nat,n < as.ix.length -> as'.ix[n]?=as.ix[n]?\/as'.ix[n]?=some none
 back: ∀p,as'.has p -> as.has p\/H p=none
 keep: ∀b o,¬as.has b -> H b=some o -> H' b=some o
 dom: ∀b,H b≠none -> H' b≠none
structure Step (as:As) (H:Hp) (as':As) (H':Hp):Prop extends Step0 as H as' H' where
 hk: ∀p∈as.hd,p∈as'.hd
 hh: ∀p∈as.hd,∀o,H p=some o -> H' p=some o
theorem Step.refl(as:As)(H:Hp):Step as H as H where
 len:=aq _
 old _ _:=.inl rfl
 back _ h:=.inl h
 keep _ _ _ e:=e
 dom _ e:=e
 hk _ h:=h
 hh _ _ _ e:=e
theorem qf{as:As}{p:Addr}:some p∈as.ix ↔ ∃n:Nat,as.ix[n]?=some (some p):=by
 rw [List.mem_iff_getElem?]
theorem Step0.out{as as':As}(st:Step0 as H as' H'){b:Addr}(n: ¬as.has b)(e:H b=some o): ¬as'.has b:=fun m=> by
 rcases st.back b m with q|q
 ·exact n q
 ·rw [e]at q;cases q
theorem Step0.trans{as as1 as2:As}{H1 H2:Hp}(a:Step0 as H as1 H1)(b:Step0 as1 H1 as2 H2):Step0 as H as2 H2 where
 len:=ax a.len b.len
 old n hn:=by
  rcases b.old n (aI hn a.len) with q|q
  ·rw [q];exact a.old n hn
  ·exact .inr q
 back p h:=by
  rcases b.back p h with q|q
  ·exact a.back p q
  ·right
   cases z:H p with
   |none=> rfl
   |some o=> exact absurd q (a.dom p (by rw [z];simp))
 keep b' o n e:=b.keep b' o (a.out n e) (a.keep b' o n e)
 dom b' e:=b.dom b' (a.dom b' e)
theorem Step.trans{as as1 as2:As}{H1 H2:Hp}(a:Step as H as1 H1)(b:Step as1 H1 as2 H2):Step as H as2 H2:=⟨a.toStep0.trans b.toStep0,fun p h=> b.hk p (a.hk p h),fun p h o e=> b.hh p (a.hk p h) o (a.hh p h o e)⟩
mutual
inductive TD (as:As) (H:Hp):V -> ae -> Prop
 |non:TD as H .non .none
 |bl (b:Bool):TD as H (.bl b) (.bool b)
 |int (i:Int):TD as H (.int i) (.int i)
 |str (x:Str):TD as H (.str x) (.str x)
 |tup {p:Addr} {xs:List V} {ds:List ae}: ¬as.has p -> H p=some (.tup xs) -> TDs as H xs ds -> TD as H (.ref p) (.tuple ds)
 |lst {p:Addr} {xs:List V} {ds:List ae}: ¬as.has p -> H p=some (.lst xs) -> TDs as H xs ds -> TD as H (.ref p) (.list ds)
 |dct {p:Addr}: ¬as.has p -> H p=some (.dK []) -> TD as H (.ref p) (.dict [])
 |dc1 {p:Addr} {i:Int} {v:V} {d:ae}: ¬as.has p -> H p=some (.dK [(.inl i,v)]) -> TD as H v d -> TD as H (.ref p) (.dict [(.int i,d)])
inductive TDs (as:As) (H:Hp):List V -> List ae -> Prop
 |nil:TDs as H [] []
 |cons {x:V} {xs:List V} {d:ae} {ds:List ae}:TD as H x d -> TDs as H xs ds -> TDs as H (x::xs) (d::ds)
end
inductive RD (K:aj) (as:As) (H:Hp):V -> D -> Prop
 |da {v:V} {d:ae}:TD as H v d -> RD K as H v (.da d)
 |ty (n:String):RD K as H (.ty n) (.ty n)
 |fn {f:Addr} {x:Str}:bd K aP x=some (some (.ref f)) -> RD K as H (.ref f) (.fn x)
 |tabF {d:Addr} {T:List (Str×Str)}:TabF K d T -> RD K as H (.ref d) (.tabF T)
 |con {p:Addr} {xs:List V} {ds:List ae}:(∀H',SqT K H' p xs) -> TDs as H xs ds -> RD K as H (.ref p) (.con ds)
 |frz {p:Addr} {xs:List V} {ds:List ae}:(∀as' H',Step0 as H as' H' -> SqL K H' p xs) -> TDs as H xs ds -> RD K as H (.ref p) (.frz ds)
 |ref {p:Addr} {n:Nat}:n < as.ix.length -> (∀q,as.ix[n]?=some (some q) -> q=p) -> RD K as H (.ref p) (.ref n)
inductive RDs (K:aj) (as:As) (H:Hp):List V -> List D -> Prop
 |nil:RDs K as H [] []
 |cons {x:V} {xs:List V} {d:D} {ds:List D}:RD K as H x d -> RDs K as H xs ds -> RDs K as H (x::xs) (d::ds)
noncomputable def kP:Key -> ae
 |.inl i=>.int i
 |.inr x=>.str x
def isT:ae -> Bool
 |.tuple xs=> ah7 (.tuple xs)
 |_=> false
inductive DRs (K:aj) (as:As) (H:Hp):List (ae×V) -> List (ae×D) -> Prop
 |nil:DRs K as H [] []
 |cons {k:ae} {v:V} {d:D} {l:List (ae×V)} {kvs:List (ae×D)}:RD K as H v d -> DRs K as H l kvs -> DRs K as H ((k,v)::l) ((k,d)::kvs)
inductive FRs (K:aj) (as:As) (H:Hp):List (Str×V) -> List (Str×D) -> Prop
 |nil:FRs K as H [] []
 |cons {f:Str} {v:V} {d:D} {l:List (Str×V)} {fs:List (Str×D)}:RD K as H v d -> FRs K as H l fs -> FRs K as H ((f,v)::l) ((f,d)::fs)
def pvK(l:List (Key×V)):List (ae×V):=l.map fun e=> (kP e.1,e.2)
def RO(K:aj)(as:As)(H:Hp)(p:Addr):O -> Prop
 |.lst ds=> ∃xs,H p=some (.lst xs)/\RDs K as H xs ds
 |.dct kvs=> (∃l:List (Key×V),H p=some (.dK l)/\DRs K as H (pvK l) kvs)\/ ∃l:List (ae×V),(l≠ []/\(l.all fun e=> isT e.1)=true)/\H p=some (.dD l)/\DRs K as H l kvs
 |.ins C fs=> ∃(Ca dx:Addr) (gs:List (Str×V)),bd K aP C=some (some (.ref Ca))/\H p=some (.ins Ca dx gs)/\FRs K as H gs fs
 |.exc C fs=> ∃(Ca:Addr) (gs:List (Str×V)),bd K aP C=some (some (.ref Ca))/\H p=some (.exn Ca gs)/\FRs K as H gs fs
 |.xcx C fs=> ∃(Ca:Addr) (gs:List (Str×V)),bd K aP C=some (some (.ref Ca))/\H p=some (.exx Ca gs)/\FRs K as H gs fs
 |_=> False
structure Rel (K:aj) (as:As) (H:Hp) (s:S):Prop where
 len:as.ix.length=s.length
 nd: ∀(i j:Nat) (p:Addr),as.ix[i]?=some (some p) -> as.ix[j]?=some (some p) -> i=j
 ob: ∀(n:Nat) (p:Addr) (o:O),as.ix[n]?=some (some p) -> s[n]?=some o -> RO K as H p o
 li: ∀(n:Nat) (o:O),s[n]?=some o -> o≠ .gone -> ∃p,as.ix[n]?=some (some p)
 hs: ∀p∈as.hd,∃xs,H p=some (.lst xs)
 hx: ∀p∈as.hd,some p∉as.ix
mutual
theorem TD.mono0{as as':As}{H H':Hp}(st:Step0 as H as' H'): ∀{v:V} {d:ae},TD as H v d -> TD as' H' v d
 |_,_,.non=>.non
 |_,_,.bl b=>.bl b
 |_,_,.int i=>.int i
 |_,_,.str x=>.str x
 |_,_,.tup n e r=>.tup (st.out n e) (st.keep _ _ n e) (TDs.mono0 st r)
 |_,_,.lst n e r=>.lst (st.out n e) (st.keep _ _ n e) (TDs.mono0 st r)
 |_,_,.dct n e=>.dct (st.out n e) (st.keep _ _ n e)
 |_,_,.dc1 n e t=>.dc1 (st.out n e) (st.keep _ _ n e) (TD.mono0 st t)
theorem TDs.mono0{as as':As}{H H':Hp}(st:Step0 as H as' H'): ∀{vs:List V} {ds:List ae},TDs as H vs ds -> TDs as' H' vs ds
 |_,_,.nil=>.nil
 |_,_,.cons a r=>.cons (TD.mono0 st a) (TDs.mono0 st r)
end
theorem RD.mono0{as as':As}(st:Step0 as H as' H'){d:D}(h:RD K as H v d):RD K as' H' v d:=by
 cases h with
 |da t=> exact .da (t.mono0 st)
 |ty n=> exact .ty n
 |fn a=> exact .fn a
 |tabF a=> exact .tabF a
 |con h r=> exact .con h (r.mono0 st)
 |frz h r=> exact .frz (fun as' H' s2=> h as' H' (st.trans s2)) (r.mono0 st)
 |ref l h=>
  refine .ref (aI l st.len) fun q e=> ?_
  rcases st.old _ l with z|z
  ·rw [z]at e;exact h q e
  ·rw [z]at e;cases e
theorem RDs.mono0{K:aj}{as as':As}{H H':Hp}(st:Step0 as H as' H'): ∀{vs:List V} {ds:List D},RDs K as H vs ds -> RDs K as' H' vs ds
 |_,_,.nil=>.nil
 |_,_,.cons a r=>.cons (RD.mono0 st a) (RDs.mono0 st r)
theorem FRs.mono0{K:aj}{as as':As}{H H':Hp}(st:Step0 as H as' H'): ∀{l:List (Str×V)} {fs:List (Str×D)},FRs K as H l fs -> FRs K as' H' l fs
 |_,_,.nil=>.nil
 |_,_,.cons a r=>.cons (a.mono0 st) (FRs.mono0 st r)
theorem DRs.mono0{K:aj}{as as':As}{H H':Hp}(st:Step0 as H as' H'): ∀{l:List (ae×V)} {kvs:List (ae×D)},DRs K as H l kvs -> DRs K as' H' l kvs
 |_,_,.nil=>.nil
 |_,_,.cons a r=>.cons (RD.mono0 st a) (DRs.mono0 st r)
theorem TD.mono{as as':As}(st:Step as H as' H'){d:ae}(h:TD as H v d):TD as' H' v d:=h.mono0 st.toStep0
theorem TDs.mono{as as':As}(st:Step as H as' H'){v:List V}{d:List ae}(h:TDs as H v d):TDs as' H' v d:=h.mono0 st.toStep0
theorem RD.mono{as as':As}(st:Step as H as' H'){d:D}(h:RD K as H v d):RD K as' H' v d:=h.mono0 st.toStep0
theorem RDs.mono{as as':As}(st:Step as H as' H'){v:List V}{d:List D}(h:RDs K as H v d):RDs K as' H' v d:=h.mono0 st.toStep0
section
variable{K:aj}{as:As}{H:Hp}
theorem RDs.length: ∀{vs:List V} {ds:List D},RDs K as H vs ds -> vs.length=ds.length
 |_,_,.nil=> rfl
 |_,_,.cons _ r=> congrArg (· +1) (RDs.length r)
theorem RDs.append: ∀{vs ws:List V} {ds es:List D},RDs K as H vs ds -> RDs K as H ws es -> RDs K as H (vs++ws) (ds++es)
 |_,_,_,_,.nil,s=> s
 |_,_,_,_,.cons a r,s=>.cons a (RDs.append r s)
theorem RDs.get: ∀{vs:List V} {ds:List D} {i:Nat} {d:D},RDs K as H vs ds -> ds[i]?=some d -> ∃v,vs[i]?=some v/\RD K as H v d
 |_,_,_,_,.nil,e=> by simp at e
 |_,_,0,_,.cons a _,e=> by simp at e;subst e;exact⟨_,rfl,a⟩
 |_,_,i+1,d,.cons _ r,e=> by
  obtain⟨v,h1,h2⟩:=RDs.get (i:=i) (d:=d) r (by simpa using e)
  exact⟨v,by simpa using h1,h2⟩
theorem RDs.set: ∀{vs:List V} {ds:List D} (i:Nat) {v:V} {d:D},RD K as H v d -> RDs K as H vs ds -> RDs K as H (vs.set i v) (ds.set i d)
 |_,_,_,_,_,_,.nil=>.nil
 |_,_,0,_,_,r,.cons _ t=>.cons r t
 |_,_,i+1,_,_,r,.cons q t=>.cons q (RDs.set i r t)
theorem RDs.take: ∀{vs:List V} {ds:List D} (n:Nat),RDs K as H vs ds -> RDs K as H (vs.take n) (ds.take n)
 |_,_,0,_=>.nil
 |_,_,_+1,.nil=>.nil
 |_,_,n+1,.cons r t=>.cons r (RDs.take n t)
theorem RDs.drop: ∀{vs:List V} {ds:List D} (n:Nat),RDs K as H vs ds -> RDs K as H (vs.drop n) (ds.drop n)
 |_,_,0,r=> r
 |_,_,_+1,.nil=>.nil
 |_,_,n+1,.cons _ t=> RDs.drop n t
theorem RDs.eraseIdx: ∀{vs:List V} {ds:List D} (n:Nat),RDs K as H vs ds -> RDs K as H (vs.eraseIdx n) (ds.eraseIdx n)
 |_,_,_,.nil=>.nil
 |_,_,0,.cons _ t=> t
 |_,_,n+1,.cons r t=>.cons r (RDs.eraseIdx n t)
end
section
variable{as:As}{H:Hp}
theorem TDs.length: ∀{vs:List V} {ds:List ae},TDs as H vs ds -> vs.length=ds.length
 |_,_,.nil=> rfl
 |_,_,.cons _ r=> congrArg (· +1) (TDs.length r)
theorem TDs.append: ∀{vs ws:List V} {ds es:List ae},TDs as H vs ds -> TDs as H ws es -> TDs as H (vs++ws) (ds++es)
 |_,_,_,_,.nil,s=> s
 |_,_,_,_,.cons a r,s=>.cons a (TDs.append r s)
theorem TDs.get: ∀{vs:List V} {ds:List ae} {i:Nat} {d:ae},TDs as H vs ds -> ds[i]?=some d -> ∃v,vs[i]?=some v/\TD as H v d
 |_,_,_,_,.nil,e=> by simp at e
 |_,_,0,_,.cons a _,e=> by simp at e;subst e;exact⟨_,rfl,a⟩
 |_,_,i+1,d,.cons _ r,e=> by
  obtain⟨v,h1,h2⟩:=TDs.get (i:=i) (d:=d) r (by simpa using e)
  exact⟨v,by simpa using h1,h2⟩
theorem TDs.take: ∀{vs:List V} {ds:List ae} (n:Nat),TDs as H vs ds -> TDs as H (vs.take n) (ds.take n)
 |_,_,0,_=>.nil
 |_,_,_+1,.nil=>.nil
 |_,_,n+1,.cons r t=>.cons r (TDs.take n t)
theorem TDs.drop: ∀{vs:List V} {ds:List ae} (n:Nat),TDs as H vs ds -> TDs as H (vs.drop n) (ds.drop n)
 |_,_,0,r=> r
 |_,_,_+1,.nil=>.nil
 |_,_,n+1,.cons _ t=> TDs.drop n t
end
theorem TDs.rd{K:aj}{as:As}{H:Hp}: ∀{vs:List V} {ds:List ae},TDs as H vs ds -> RDs K as H vs (ds.map D.da)
 |_,_,.nil=>.nil
 |_,_,.cons a r=>.cons (.da a) (TDs.rd r)
noncomputable def kj:List D -> Option (List ae)
 |[]=> some []
 |.da d::r=> match kj r with
  |some ds=> some (d::ds)
  |none=> none
 |_=> none
theorem qj: ∀ds:List ae,kj (ds.map D.da)=some ds
 |[]=> rfl
 |d::r=> by rw [aJ,kj,qj r]
theorem zc: ∀{ds:List D} {xs:List ae},kj ds=some xs -> ds=xs.map D.da
 |[],xs,h=> by cases h;rfl
 |.da d::r,xs,h=> by
  rw [kj]at h
  cases q:kj r with
  |none=> rw [q]at h;cases h
  |some ys=> rw [q]at h;cases h;rw [zc q];rfl
 |.con _::_,_,h=> by cases h
 |.frz _::_,_,h=> by cases h
 |.set _::_,_,h=> by cases h
 |.ref _::_,_,h=> by cases h
 |.fn _::_,_,h=> by cases h
 |.tabF _::_,_,h=> by cases h
 |.ty _::_,_,h=> by cases h
theorem RDs.td{K:aj}{as:As}{H:Hp}: ∀{vs:List V} {ds:List ae},RDs K as H vs (ds.map D.da) -> TDs as H vs ds
 |_,[],h=> by cases h;exact .nil
 |_,d::r,h=> by
  cases h with
  |cons a b=> cases a with|da a=> exact .cons a (RDs.td b)
theorem ai6{p b:Addr}(n:New H p o H')(e:H b≠none):H' b≠none:=by
 cases q:H b with
 |none=> exact absurd q e
 |some u=> rw [n.keep q];simp
theorem j4{as:As}{p:Addr}(n:New H p o H'):Step as H as H' where
 len:=aq _
 old _ _:=.inl rfl
 back _ h:=.inl h
 keep _ _ _ e:=n.keep e
 dom _ e:=ai6 n e
 hk _ h:=h
 hh _ _ _ e:=n.keep e
theorem v0{α:Type}{l:List α}{x y:α}(e:(l++ [x])[i]?=some y):(i < l.length/\l[i]?=some y)\/(i=l.length/\y=x):=by
 by_cases h:i < l.length
 ·rw [bc h]at e;exact .inl ⟨h,e⟩
 ·have h2:i - l.length=0\/1 <=i - l.length:=by lia
  rw [b8 (cu h)]at e
  rcases h2 with z|z
  ·rw [z]at e
   simp at e
   exact .inr ⟨by lia,e.symm⟩
  ·rw [List.getElem?_eq_none_iff.mpr (by simpa using z)]at e
   cases e
theorem ann{as:As}{p q:Addr}(h:(as.add p).has q):as.has q\/q=p:=by
 rcases h with h|h
 ·rcases bq.mp h with z|z
  ·exact .inl (.inl z)
  ·exact .inr (by simpa using z)
 ·exact .inl (.inr h)
theorem acl{as:As}{p:Addr}(n:New H p o H'):Step as H (as.add p) H' where
 len:=by simp
 old i h:=.inl (bc h)
 back q h:=by
  rcases ann h with z|z
  ·exact .inl z
  ·subst z;exact .inr n.no
 keep _ _ _ e:=n.keep e
 dom _ e:=ai6 n e
 hk _ h:=h
 hh _ _ _ e:=n.keep e
theorem aat{as:As}{p:Addr}(m:as.has p)(c:Chg H p o H'):Step0 as H as H' where
 len:=aq _
 old _ _:=.inl rfl
 back _ h:=.inl h
 keep b u n e:=c.keep (fun z=> n (z▸m)) e
 dom b e:=by
  by_cases z:b=p
  ·subst z;rw [c.at];simp
  ·cases q:H b with
   |none=> exact absurd q e
   |some u=> rw [c.keep z q];simp
theorem agi{as:As}{p:Addr}(m:some p∈as.ix)(nh:p∉as.hd)(c:Chg H p o H'):Step as H as H':=⟨aat (.inl m) c,fun _ h=> h,fun q h u e=> c.keep (fun z=> nh (z▸h)) e⟩
theorem ax5{as as2:As}{H1 H2:Hp}{p:Addr}(st:Step as H as2 H1)(no:H p=none)(nh:p∉as.hd)(m:p∈as2.hd)(c:Chg H1 p o H2):Step as H as2 H2:=
 ⟨⟨st.len,st.old,st.back,fun b u n e=> c.keep (xr e no) (st.keep b u n e),fun b e=> (aat (.inr m) c).dom b (st.dom b e)⟩,st.hk,fun q h u e=> c.keep (fun z=> nh (z▸h)) (st.hh q h u e)⟩
theorem ahm{as:As}{q:Addr}(e:(as.cut n).ix[i]?=some (some q)):as.ix[i]?=some (some q):=by
 by_cases z:n=i
 ·subst z
  rw [dj]at e
  simp at e
 ·rw [aS z]at e;exact e
theorem agn{as:As}(n:Nat):Step as H (as.cut n) H where
 len:=by simp
 old i h:=by
  by_cases z:n=i
  ·subst z;right;simp [h]
  ·left;rw [aS z]
 back p h:=by
  rcases h with h|h
  ·obtain⟨i,hi⟩:=qf.mp h
   exact .inl (.inl (qf.mpr ⟨i,ahm hi⟩))
  ·exact .inl (.inr h)
 keep _ _ _ e:=e
 dom _ e:=e
 hk _ h:=h
 hh _ _ _ e:=e
theorem ajk{as:As}{p:Addr}(n:New H p o H'):Step as H (as.hide p) H' where
 len:=aq _
 old _ _:=.inl rfl
 back q h:=by
  rcases h with h|h
  ·exact .inl (.inl h)
  ·rcases aw.mp h with z|z
   ·subst z;exact .inr n.no
   ·exact .inl (.inr z)
 keep _ _ _ e:=n.keep e
 dom _ e:=ai6 n e
 hk _ h:=aB _ h
 hh _ _ _ e:=n.keep e
theorem an0{as:As}{p q:Addr}(h:(as.show p).has q):as.has q:=by
 rcases h with h|h
 ·exact .inl h
 ·exact .inr (bw.mp h).1
theorem af5{as:As}{p:Addr}:Step0 as H (as.show p) H where
 len:=aq _
 old _ _:=.inl rfl
 back q h:=.inl (an0 h)
 keep _ _ _ e:=e
 dom _ e:=e
theorem aej{as:As}{p:Addr}(m:p∈as.hd):Step0 as H ((as.show p).add p) H where
 len:=by simp
 old i h:=.inl (bc h)
 back q h:=by
  rcases ann h with z|z
  ·exact .inl (an0 z)
  ·subst z;exact .inl (.inr m)
 keep _ _ _ e:=e
 dom _ e:=e
theorem avx{as as2:As}{H2:Hp}{p:Addr}(st:Step as H as2 H2)(nh:p∉as.hd)(st2:Step0 as2 H2 (as2.show p) H2):Step as H (as2.show p) H2:=
 ⟨st.toStep0.trans st2,fun q h=> bw.mpr ⟨st.hk q h,by
  have:q≠p:=fun z=> nh (z▸h)
  simp [this]⟩,st.hh⟩
theorem ati{as as2:As}{H2:Hp}{p:Addr}(st:Step as H as2 H2)(nh:p∉as.hd)(m:p∈as2.hd):Step as H ((as2.show p).add p) H2:=
 ⟨st.toStep0.trans (aej m),fun q h=> bw.mpr ⟨st.hk q h,by
  have:q≠p:=fun z=> nh (z▸h)
  simp [this]⟩,st.hh⟩
section
variable{K:aj}{as as':As}{H H':Hp}{s:S}{p:Addr}
theorem RO.mono0(st:Step0 as H as' H'){o:O}(e:H' p=H p)(h:RO K as H p o):RO K as' H' p o:=by
 cases o with
 |lst ds=>
  obtain⟨xs,e1,r⟩:=h
  exact⟨xs,e.trans e1,r.mono0 st⟩
 |dct kvs=>
  rcases h with ⟨l,e1,r⟩|⟨l,e0,e1,r⟩
  ·exact .inl ⟨l,e.trans e1,r.mono0 st⟩
  ·exact .inr ⟨l,e0,e.trans e1,r.mono0 st⟩
 |ins C fs=>
  obtain⟨Ca,dx,gs,e0,e1,r⟩:=h
  exact⟨Ca,dx,gs,e0,e.trans e1,r.mono0 st⟩
 |exc C fs=>
  obtain⟨Ca,gs,e0,e1,r⟩:=h
  exact⟨Ca,gs,e0,e.trans e1,r.mono0 st⟩
 |xcx C fs=>
  obtain⟨Ca,gs,e0,e1,r⟩:=h
  exact⟨Ca,gs,e0,e.trans e1,r.mono0 st⟩
 |_=> exact h.elim
theorem RO.some{o:O}(h:RO K as H p o):H p≠none:=by
 cases o with
 |lst ds=>
  obtain⟨xs,e1,r⟩:=h
  rw [e1];simp
 |dct kvs=>
  rcases h with ⟨l,e1,r⟩|⟨l,e0,e1,r⟩ <;> (rw [e1];simp)
 |ins C fs=>
  obtain⟨Ca,dx,gs,e0,e1,r⟩:=h
  rw [e1];simp
 |exc C fs=>
  obtain⟨Ca,gs,e0,e1,r⟩:=h
  rw [e1];simp
 |xcx C fs=>
  obtain⟨Ca,gs,e0,e1,r⟩:=h
  rw [e1];simp
 |_=> exact h.elim
theorem Rel.at(r:Rel K as H s)(e:as.ix[n]?=some (some p)):H p≠none:=by
 have hl:n < s.length:=by
  rw [←r.len]
  exact (aA.mp e).1
 exact (r.ob n p _ e (ay hl)).some
theorem Rel.has(r:Rel K as H s)(h:as.has p):H p≠none:=by
 rcases h with h|h
 ·obtain⟨i,hi⟩:=qf.mp h
  exact r.at hi
 ·obtain⟨xs,e⟩:=r.hs p h
  rw [e];simp
theorem adg{q:Addr}(k: ∀o,H q=some o -> H' q=some o)(h:H q≠none):H' q=H q:=by
 cases z:H q with
 |none=> exact absurd z h
 |some x=> rw [k x z]
theorem Rel.new(r:Rel K as H s)(n:New H p o H'):Rel K as H' s where
 len:=r.len
 nd:=r.nd
 ob i q u e1 e2:=(r.ob i q u e1 e2).mono0 (j4 n).toStep0 (adg (fun _=> n.keep) (r.at e1))
 li:=r.li
 hs q h:=let ⟨xs,e⟩:=r.hs q h;⟨xs,n.keep e⟩
 hx:=r.hx
theorem Rel.laid{u:O}(r:Rel K as H s)(n:New H p o H')(h:RO K (as.add p) H' p u):Rel K (as.add p) H' (s++ [u]) where
 len:=by simp [r.len]
 nd i j q e1 e2:=by
  rcases v0 e1 with ⟨l1,z1⟩|⟨l1,z1⟩ <;> rcases v0 e2 with ⟨l2,z2⟩|⟨l2,z2⟩
  ·exact r.nd i j q z1 z2
  ·cases z2;exact absurd n.no (r.at z1)
  ·cases z1;exact absurd n.no (r.at z2)
  ·rw [l1,l2]
 ob i q x e1 e2:=by
  rcases v0 e1 with ⟨l1,z1⟩|⟨l1,z1⟩ <;> rcases v0 e2 with ⟨l2,z2⟩|⟨l2,z2⟩
  ·exact (r.ob i q x z1 z2).mono0 (acl n).toStep0 (adg (fun _=> n.keep) (r.at z1))
  ·rw [l2,←r.len]at l1;exact absurd l1 (cy _)
  ·rw [l1,r.len]at l2;exact absurd l2 (cy _)
  ·cases z1;subst z2;exact h
 li i x e g:=by
  rcases v0 e with ⟨l1,z1⟩|⟨l1,z1⟩
  ·obtain⟨q,hq⟩:=r.li i x z1 g
   exact⟨q,by rw [bc (by rw [r.len];exact l1)];exact hq⟩
  ·exact⟨p,by rw [l1,←r.len];simp⟩
 hs q h:=let ⟨xs,e⟩:=r.hs q h;⟨xs,n.keep e⟩
 hx q h m:=by
  rcases bq.mp m with z|z
  ·exact r.hx q h z
  ·have:q=p:=by simpa using z
   subst this
   obtain⟨xs,e⟩:=r.hs q h
   rw [n.no]at e;cases e
theorem Rel.chg{u:O}(r:Rel K as H s)(e:as.ix[n]?=some (some p))(c:Chg H p o H')(h:RO K as H' p u):Rel K as H' (s.set n u) where
 len:=by simp [r.len]
 nd:=r.nd
 ob i q x e1 e2:=by
  by_cases z:n=i
  ·subst z
   rw [e]at e1;cases e1
   have hl:n < s.length:=by rw [←r.len];exact (aA.mp e).1
   rw [bh hl]at e2
   cases e2;exact h
  ·rw [aS z]at e2
   have ne:q≠p:=fun w=> z (r.nd n i p e (w▸e1))
   exact (r.ob i q x e1 e2).mono0 (aat (.inl (qf.mpr ⟨n,e⟩)) c) (adg (fun _=> c.keep ne) (r.at e1))
 li i x e2 g:=by
  by_cases z:n=i
  ·subst z;exact⟨p,e⟩
  ·rw [aS z]at e2
   exact r.li i x e2 g
 hs q h:=let ⟨xs,e'⟩:=r.hs q h;⟨xs,c.keep (fun z=> r.hx q h (qf.mpr ⟨n,z▸e⟩)) e'⟩
 hx:=r.hx
theorem Rel.chgH(r:Rel K as H s)(m:p∈as.hd)(c:Chg H p (.lst ys) H'):Rel K as H' s where
 len:=r.len
 nd:=r.nd
 ob i q x e1 e2:=by
  have ne:q≠p:=fun w=> r.hx p m (qf.mpr ⟨i,w▸e1⟩)
  exact (r.ob i q x e1 e2).mono0 (aat (.inr m) c) (adg (fun _=> c.keep ne) (r.at e1))
 li:=r.li
 hs q h:=by
  by_cases z:q=p
  ·subst z;exact⟨ys,c.at⟩
  ·obtain⟨xs,e⟩:=r.hs q h
   exact⟨xs,c.keep z e⟩
 hx:=r.hx
theorem Rel.hide(r:Rel K as H s)(n:New H p (.lst ys) H'):Rel K (as.hide p) H' s where
 len:=r.len
 nd:=r.nd
 ob i q u e1 e2:=(r.ob i q u e1 e2).mono0 (ajk n).toStep0 (adg (fun _=> n.keep) (r.at e1))
 li:=r.li
 hs q h:=by
  rcases aw.mp h with z|z
  ·subst z;exact⟨ys,n.at⟩
  ·obtain⟨xs,e⟩:=r.hs q z
   exact⟨xs,n.keep e⟩
 hx q h m:=by
  rcases aw.mp h with z|z
  ·subst z
   obtain⟨i,hi⟩:=qf.mp m
   exact r.at hi n.no
  ·exact r.hx q z m
theorem Rel.show(r:Rel K as H s):Rel K (as.show p) H s where
 len:=r.len
 nd:=r.nd
 ob i q u e1 e2:=(r.ob i q u e1 e2).mono0 af5 rfl
 li:=r.li
 hs q h:=r.hs q (bw.mp h).1
 hx q h:=r.hx q (bw.mp h).1
theorem Rel.take{u:O}(r:Rel K as H s)(m:p∈as.hd)(h:RO K ((as.show p).add p) H p u):Rel K ((as.show p).add p) H (s++ [u]) where
 len:=by simp [r.len]
 nd i j q e1 e2:=by
  rcases v0 e1 with ⟨l1,z1⟩|⟨l1,z1⟩ <;> rcases v0 e2 with ⟨l2,z2⟩|⟨l2,z2⟩
  ·exact r.nd i j q z1 z2
  ·cases z2;exact absurd (qf.mpr ⟨i,z1⟩) (r.hx p m)
  ·cases z1;exact absurd (qf.mpr ⟨j,z2⟩) (r.hx p m)
  ·rw [l1,l2]
 ob i q x e1 e2:=by
  rcases v0 e1 with ⟨l1,z1⟩|⟨l1,z1⟩ <;> rcases v0 e2 with ⟨l2,z2⟩|⟨l2,z2⟩
  ·exact (r.ob i q x z1 z2).mono0 (aej m) rfl
  ·rw [l2,←r.len]at l1;exact absurd l1 (cy _)
  ·rw [l1]at l2
   have:as.ix.length < s.length:=l2
   rw [r.len]at this;exact absurd this (cy _)
  ·cases z1;subst z2;exact h
 li i x e g:=by
  rcases v0 e with ⟨l1,z1⟩|⟨l1,z1⟩
  ·obtain⟨q,hq⟩:=r.li i x z1 g
   exact⟨q,by rw [bc (by rw [r.len];exact l1)];exact hq⟩
  ·exact⟨p,by rw [l1,←r.len];simp⟩
 hs q h:=r.hs q (bw.mp h).1
 hx q h m2:=by
  obtain⟨h1,h2⟩:=bw.mp h
  rcases bq.mp m2 with z|z
  ·exact r.hx q h1 z
  ·have:q=p:=by simpa using z
   exact absurd this (of_decide_eq_true h2)
theorem Rel.frz(r:Rel K as H s):Rel K (as.cut n) H (s.set n .gone) where
 len:=by simp [r.len]
 nd i j q e1 e2:=by
  exact r.nd i j q (ahm e1) (ahm e2)
 ob i q x e1 e2:=by
  by_cases z:n=i
  ·subst z
   rw [dj]at e1
   simp at e1
  ·rw [aS z]at e1 e2
   exact (r.ob i q x e1 e2).mono0 (agn n).toStep0 rfl
 li i x e2 g:=by
  by_cases z:n=i
  ·subst z
   rw [dj]at e2
   simp at e2
   exact absurd e2.2.symm g
  ·rw [aS z]at e2⊢
   exact r.li i x e2 g
 hs:=r.hs
 hx q h m:=by
  obtain⟨i,hi⟩:=qf.mp m
  by_cases z:n=i
  ·subst z
   rw [dj]at hi
   simp at hi
  ·rw [aS z]at hi
   exact r.hx q h (qf.mpr ⟨i,hi⟩)
end
end PF
namespace EX
open PySem PySem.W PySem.Spec PySem.Calls PyProof.Rows Builtin Builtin.ObjectAttr
abbrev bmV:List af:=[.type "ValueError",.type "Exception",.type "BaseException",.type "object"]
inductive Above:List af -> Prop
 |base:Above bmV
 |own (a:Addr) {l:List af}:Above l -> Above (.ref a::l)
theorem Above.has{b:Bool}(hb:bmV.contains (.type T)=b){l:List af}(x:Above l):l.contains (.type T)=b:=by
 induction x with
 |base=> exact hb
 |own a _ ih=> rw [bU,ih];rfl
theorem Above.refuse(self:af){l:List af}(x:Above l):refuseLoop self "__setattr__" l=pure ():=by
 induction x with
 |base=> exact PySem.F.store_ValueError.passes self
 |own a _ ih=> rw [refuseLoop_ref,ih]
structure ClsE (K:Frag) (C:Addr):Prop where
 at_: ∃nm q N bs bm sn sub ab col dd k0 k1 k2 k3 k5,K.lookup C=some (eM nm q C N bs bm true sn sub ab col dd k0 k1 k2 k3 k5 "ValueError.__new__")/\Above bm
 ga:findIn K (.ref C) "__getattribute__"=some (some (.builtin "BaseException.__getattribute__"))
 gt:findIn K (.ref C) "__getattr__"=some none
 sa:findIn K (.ref C) "__setattr__"=some (some (.builtin "object.__setattr__"))
section
variable{K:Frag}{C:Addr}
theorem ClsE.cd(c:ClsE K C): ∃cd,clsIn K C=some cd/\cd.hasDict=true/\ ∃bm,cd.mro=.ref C::bm/\Above bm:=by
 obtain⟨nm,q,N,bs,bm,sn,sub,ab,col,dd,k0,k1,k2,k3,k5,e,a⟩:=c.at_
 exact⟨_,by unfold clsIn;rw [e],rfl,bm,rfl,a⟩
theorem ClsE.dict(c:ClsE K C):hasDictIn K C=true:=by
 obtain⟨cd,e,h,_⟩:=c.cd
 unfold hasDictIn;rw [e];exact h
theorem ClsE.sub(c:ClsE K C){b:Bool}(hb:bmV.contains (.type T)=b):mroIn K C (.type T)=some b:=by
 obtain⟨cd,e,h,bm,em,a⟩:=c.cd
 unfold mroIn
 rw [e,c0,em,if_neg (by simp),bU,a.has hb];rfl
end
section
variable{prog:aQ}{w:aU}{A:bf}{E:af -> ai -> Prop}{s:ai}{K:Frag}{x C:Addr}{ox:Obj}{od:Option Obj}{name:Str}
theorem asp{fill expr:Bool}(X:K.In s.heap)(I:InstAt s.heap x ox C od)(c:ClsE K C)(h:wpAny (model prog w) A.in1 (cf.«object.__getattribute__» ⟨[.ref x,.str name tk],[]⟩) (fun fin s'=> match fin with|.done (.ret v)=> wpAny (model prog w) A (handedOut v) Q E s'|_=> False) (fun _ _=> False) s):
  wpAny (model prog w) A (getAttrBy (.ref x) (.str name tk) fill expr) Q E s:=by
 (have L0:=I.type (M:=model prog w))
 have L1:=l8 (M:=model prog w) X c.ga
 unfold getAttrBy
 refine bj (ac (L0 _ _ _ _ (fun _ _ e=> e) (ac (L1 _ _ _ _ (fun _ _ e=> e) ?_))))
 dsimp only
 rw [show (onTheHeap (aD C)&&eB "BaseException.__getattribute__"==eB "object.__getattribute__")=false from by rw [show (eB "BaseException.__getattribute__"==eB "object.__getattribute__")=false from by decide+kernel,dX],if_neg (by decide)]
 unfold getAttrByItsOwn
 refine ac ((looks_hook (M:=model prog w) (r:=none) X (by rw [if_pos (show onTheHeap (aD C)=true from rfl)];exact c.gt)) _ _ _ _ (fun _ _ e=> e) (ac (cY (bj ?_))))
 unfold callGetattribute
 rw [show (expr&&onTheHeap (eB "BaseException.__getattribute__"))=false from dX _,if_neg (by decide)]
 unfold boundAndCalled
 rw [jN.ga.bind]
 refine ac (ah ?_)
 show wpAny _ _ (call (.builtin "BaseException.__getattribute__") [.ref x,.str name tk]) _ _ _
 refine f7 (fj jN.ga.plain PySem.F.entry_bexc_ga ?_)
 refine @check_slot (model prog w) _ _ s "BaseException.__getattribute__" "BaseException" "__getattribute__" (.ref x) [.str name tk] [] _ (by decide+kernel) (by decide+kernel) (L0.andThen (looks_mroIn X (c.sub (by decide+kernel)))) (PySem.F.args_bexc_ga (.ref x) (.str name tk)) ?_
 refine cc h (fun fin s' z=> ?_) fun _ _ z=> z.elim
 (rcases fin with (_|_|_|_)|_ <;> first|exact z|exact z.elim)
theorem ata{v:af}{Q:Fin -> ai -> Prop}(X:K.In s.heap)(I:InstAt s.heap x ox C od)(hf:findObj K C od name=some (.value v))(h:Q (.done (.ret v)) s):
  wpAny (model prog w) A (cf.«object.__getattribute__» ⟨[.ref x,.str name tk],[]⟩) Q E s:=by
 (have L0:=I.type (M:=model prog w))
 (have L1:=looks_find (M:=model prog w) X I hf)
 exact ac (ah (ac (ah (ac (L0.here (ac (L1.here (ah h))))))))
theorem awa{g a:af}{P:af -> ai -> Prop}(X:K.In s.heap)(I:InstAt s.heap x ox C od)(hf:findObj K C od name=some (.bind g a))(h:wpAny (model prog w) A (call g [a,.ref x,.ref C]) P E s):
  wpAny (model prog w) A (cf.«object.__getattribute__» ⟨[.ref x,.str name tk],[]⟩) (fun fin s'=> match fin with|.done (.ret v)=> P v s'|_=> False) E s:=by
 (have L0:=I.type (M:=model prog w))
 (have L1:=looks_find (M:=model prog w) X I hf)
 refine ac (ah (ac (ah (ac (L0.here (ac (L1.here ?_)))))))
 show wpAny _ _ (holding [a] (call g [a,.ref x,.ref C])>>=ret) _ _ _ --
 (exact ac (bj (cc h (fun v s' z=> ah z) fun _ _ z=> z)))
theorem az2{v:af}{expr:Bool}(X:K.In s.heap)(I:InstAt s.heap x ox C od)(c:ClsE K C)(hf:findObj K C od name=some (.value v))(hh:handedIn v=true)(h:Q v {s with toks:=s.toks+1}):
  wpAny (model prog w) A (getAttr (.ref x) name expr) Q E s:=by
 unfold getAttr
 refine ac (wpAny_mkText (asp (s:={s with toks:=s.toks+1}) X I c (ata (s:={s with toks:=s.toks+1}) X I hf ?_)))
 exact handed_on hh h
theorem arx{Q:Option af -> ai -> Prop}(X:K.In s.heap)(I:InstAt s.heap x ox C od)(c:ClsE K C)(ha:findIn K (.ref C) "__class__"=some (some (.builtin "object.__class__")))
  (hn:specialIn K (.builtin "object.__class__") "__get__"=some (some (.builtin "getset_descriptor.__get__"))) (htk:takesIn K (.builtin "object.__class__")=some true) (h:Q (some (.ref C)) {s with toks:=s.toks+1}):
  wpAny (model prog w) A (getAttr? (.ref x) "__class__") Q E s:=by
 have hf:findObj K C od "__class__"=some (.bind (.builtin "getset_descriptor.__get__") (.builtin "object.__class__")):=by
  obtain⟨cd,hc,_⟩:=c.cd
  unfold findObj
  rw [hc,ha,c0,c0]
  dsimp only
  rw [hn,c0]
  dsimp only
  rw [htk];rfl
 unfold getAttr? getAttrBy?
 refine ac (wpAny_mkText (ac (cY (asp (s:={s with toks:=s.toks+1}) X I c (awa (s:={s with toks:=s.toks+1}) X I hf
  (f7 (class_get (s:={s with toks:=s.toks+1}) (ox:=ox) (od:=od) X I (c.sub (by decide+kernel)) (handed_on rfl ?_))))))))
 exact ah h
theorem kitx_exc(c:ClsE K C)(ha:findIn K (.ref C) "__class__"=some (some (.builtin "object.__class__")))
  (hn:specialIn K (.builtin "object.__class__") "__get__"=some (some (.builtin "getset_descriptor.__get__"))) (htk:takesIn K (.builtin "object.__class__")=some true):
  KitX K (.ref x) (.ref C) (fun h=> InstAt h x ox C od) where
 ty:=fun _ _ _ I=> I.type
 it:=fun _ _ X _=> by
  obtain⟨nm,q,N,bs,bm,sn,sub,ab,col,dd,k0,k1,k2,k3,k5,e,a⟩:=c.at_
  intro A' Q' E' s' k z
  unfold isType loadHead
  exact ac (kU (k _ _ (X _ _ e)) (ah z))
 ne:=fun h tp dd' its n sl X htp=> by
  obtain⟨nm,q,N,bs,bm,sn,sub,ab,col,dd,k0,k1,k2,k3,k5,e,a⟩:=c.at_
  refine Bool.eq_false_iff.mpr fun z=> ?_
  have e':C=tp:=fz (beq_iff_eq.mp z)
  subst e'
  have z:=congrArg Obj.cls (bP ((X _ _ e).symm.trans htp))
  exact absurd (cG.inj z) (by decide)
 ca:=fun X I k=> arx X I c ha hn htk k
theorem ap8{v:af}{R:gR -> ai -> Prop}(X:K.In s.heap)(I:InstAt s.heap x ox C od)(c:ClsE K C)(hn:findIn K (.ref C) name=some none)(h:wpAny (model prog w) A.in1 (storeInOwnDict (.ref x) (.ref C) (.str name tk) name v false)
   (fun fin s'=> match fin with|.done f=> R (.ok f) s'|.again c'=> c'.quiet=true/\codeAny (model prog w) A c' R s') (fun e s'=> R (.error e) s') s):
  codeAny (model prog w) A (.call (.builtin "object.__setattr__") ⟨[.ref x,.str name tk,v],[]⟩) R s:=by --
 (have SF:=PySem.F.store_object)
 obtain⟨cd,hc,hd,bm,em,ab⟩:=c.cd
 have sub:Looks (model prog w) s.heap (isInstance (.ref x) (.type "object")) true:=I.type.andThen (looks_mroIn X (c.sub (by decide+kernel)))
 (refine fj SF.slot.plain SF.entry (@check_slot (model prog w) _ _ s "object.__setattr__" "object" "__setattr__" (.ref x) [.str name tk,v] [] _ SF.kind SF.split sub (SF.args (.ref x) (.str name tk) v) ?_))
 (have hm:Looks (model prog w) s.heap (mroOf (.ref C)) cd.mro:=(looks_clsIn X hc).andThen .now)
 rw [osa_eq,refuse_eq]
 (refine ac (ac (I.type.here (ac (hm.here ?_)))))
 rw [em,refuseLoop_ref,ab.refuse]
 exact ah (ac (I.type.here (ac ((l8 X hn).here (ac (ah h))))))
variable{dx t:Addr}{mA:Str -> Option af}{ns:List Str}{v:af}{Q:Unit -> ai -> Prop}
abbrev exO(C:Addr)(dx:Option Addr)(t:Addr):Obj:={cls:=.ref C,dict:=dx,data:=.fields #[.ref t,.none,.none,.none,.bool false,.none]}
theorem aw2(hx:s.heap.get? x=some (exO C none t)):InstAt s.heap x (exO C none t) C none:=⟨hx,rfl,rfl,de⟩
theorem set_some(X:K.In s.heap)(c:ClsE K C)(hn:findIn K (.ref C) name=some none)(hx:s.heap.get? x=some (exO C (some dx) t))(N:s.heap.Ns1 dx mA)(ne:dx≠x)
  (hw:dZ mA ns) (hsz:ns.length <=sizeLine)
  (h: ∀h',h'.Ns1 dx (fun y=> if y=name then some v else mA y) -> bz dx s.heap h' -> Q () {s with heap:=h',toks:=s.toks+2}):
  wpAny (model prog w) A (setAttr (.ref x) name v) Q E s:=by
 obtain⟨o,es,ep,e1,e2⟩:=id N
 have I:InstAt s.heap x (exO C (some dx) t) C (some o):=⟨hx,rfl,rfl,e1⟩
 obtain⟨cd,hc,hd,_⟩:=c.cd
 refine PySem.W.set_plain X I c.sa (ap8 (s:={s with toks:=s.toks+1}) X I c hn ?_)
 refine ac (ah (ac (ac (kU hx (ac (fA.here (s:={s with toks:=s.toks+1}) (lN X hc) ?_))))))
 rw [hd]
 refine ah (a:=some dx) (ac (ah (ac ?_)))
 refine wpAny_nsSet1 (s:={s with toks:=s.toks+1}) N fun h' hn2 hs2=> ?_
 obtain⟨oD,esD,epD,hoD,hdD,hcD⟩:=hn2.count (dZ.cons name v hw)
 refine ac (wpAny_lookBehind hoD (by rw [hdD];exact pastItsLine_dict (ax hcD (by rw [aM];lia))) ?_)
 exact ah (h _ hn2 hs2)
theorem set_none(X:K.In s.heap)(c:ClsE K C)(hn:findIn K (.ref C) name=some none)(hx:s.heap.get? x=some (exO C none t))
  (h: ∀h',h'.get? x=some (exO C (some s.heap.objs.size) t) -> h'.Ns1 s.heap.objs.size (fun y=> if y=name then some v else none) -> (∀b o,b≠x -> s.heap.get? b=some o -> h'.get? b=some o) ->
   Q () {s with heap:=h',toks:=s.toks+2}):
  wpAny (model prog w) A (setAttr (.ref x) name v) Q E s:=by
 have I:=aw2 hx
 obtain⟨cd,hc,hd,_⟩:=c.cd
 refine PySem.W.set_plain X I c.sa (ap8 (s:={s with toks:=s.toks+1}) X I c hn ?_)
 refine ac (ah (ac (ac (kU hx (ac (fA.here (s:={s with toks:=s.toks+1}) (lN X hc) ?_))))))
 rw [hd]
 have hx1:(s.heap.push {cls:=.type "dict",data:=.dict #[]}).get? x=some (exO C none t):=ag _ hx
 have hxs:x≠s.heap.objs.size:=aN (ao hx)
 refine ac (wpAny_alloc' (ac (wpAny_update' hx1 ?_)))
 refine ah (ac (ah (ac ?_)))
 have hgd:((s.heap.push {cls:=.type "dict",data:=.dict #[]}).update x fun o=> {cls:=o.cls,dict:=some s.heap.objs.size,data:=o.data,slots:=o.slots}).get? s.heap.objs.size
   =some {cls:=.type "dict",data:=.dict #[]}:=(lO _ _ _ _ hxs.symm).trans (Heap.get?_push_at rfl rfl)
 have hnd:((s.heap.push {cls:=.type "dict",data:=.dict #[]}).update x fun o=> {cls:=o.cls,dict:=some s.heap.objs.size,data:=o.data,slots:=o.slots}).Ns s.heap.objs.size (fun _=> none):=
  ⟨_,#[],_,hgd,rfl,fun e he=> absurd he (by simp),fun _=> rfl⟩ --
 refine wpAny_nsSet1 (Heap.Ns1.of_empty hnd) fun h' hn' hs=> ?_
 (obtain⟨oD,esD,epD,hoD,hdD,hcD⟩:=hn'.count (Within.cons name v Within.nil))
 (refine ac (wpAny_lookBehind hoD (by rw [hdD];exact pastItsLine_dict (ax hcD (by rw [aM,eF,sizeLine_eq];lia))) ?_))
 refine ah (h _ ?_ hn' fun b o hb e=> ?_)
 ·exact (hs.2 x hxs).trans (bA _ hx1 rfl)
 ·exact (hs.2 b (aN (ao e))).trans ((lO _ _ _ _ hb).trans (ag _ e))
end
section
variable{prog:aQ}{w:aU}{A:bf}{E:af -> ai -> Prop}{h:Heap}{g:Array ib}{d:Drawn}{t:Nat}{os:OsState}
variable{nm q:Str}{C N:Addr}{bs bm:List af}{hdct:Bool}{sn:List Str}{sub:List af}{ab:Bool}{col:Option Bool}{dd:Option Addr}{k0 k1 k2 k3 k5:Option af}
theorem ank(a:Above bm){e:Addr}{oe:Obj}{rest:List af}{Q:Unit -> ai -> Prop}(hC:h.get? C=some (eM nm q C N bs bm hdct sn sub ab col dd k0 k1 k2 k3 k5 "ValueError.__new__"))(he:h.get? e=some oe)(hcls:oe.cls=.ref C)(hq:Q () ⟨h,g,d,t,os⟩):
  wpAny M A (fg "ValueError.__init__" ⟨.ref e::rest,[]⟩) Q E ⟨h,g,d,t,os⟩:=by
 have F:=cZ
 have hcB:(aD C::bm).contains (.type "ValueError")=true:=by rw [bU,a.has (T:="ValueError") (b:=true) (by decide+kernel),fS]
 have hshort:=F.noStar
 (simp only [fg,F.initKind,F.initSplit,F.initRow])
 repeat (first|(with_reducible refine ck he ?_;rw [hcls])|with_reducible refine ck hC ?_|(with_reducible refine du hC ?_;rw [hcB])|wp_step) --
 refine fB ?_
 rw [show∀(a b:String) (n:Nat),Bind.check ⟨.positional,"*","ValueError",.self,[⟨"args",.varPos,false⟩]⟩ a b n (cw (fun x=> x.fst) ({pos:=aD e::rest}:Args).kw)=pure () from
  fun a b n=> check_star_args _ _ _ _ _ _] --
 exact ah hq
theorem init_exc(a:Above bm){e t0:Addr}{rest:List af}(hC:h.get? C=some (eM nm q C N bs bm hdct sn sub ab col dd k0 k1 k2 k3 k5 "ValueError.__new__"))(he:h.get? e=some (exO C dx t0))(hq: ∀h',h'.get? e=some (exO C dx h.objs.size) -> (∀b o,b≠e -> h.get? b=some o -> h'.get? b=some o) -> Q .none ⟨h',g,d,t,os⟩)(hrest:rest.length <=sizeLine):
  wpAny (model prog w) A (call (.builtin "ValueError.__init__") (.ref e::rest)) Q E ⟨h,g,d,t,os⟩:=by
 have F:=cZ
 refine f7 (fj F.init.plain F.initEntry (ank a hC he rfl ?_))
 (unfold cf.«BaseException.__init__»)
 dsimp only
 rw [if_neg (by simp)]
 (unfold newTuple Builtin.BaseException.bexcPut)
 have he1:=ag (h:=h) {cls:=.type "tuple",data:=.seq rest.toArray} he
 refine ac (bC (ac (ac (a7 (vs:= #[.ref t0,.none,.none,.none,.bool false,.none]) (x:=.ref t0) he1 rfl rfl (ac (b9 (vs:= #[.ref t0,.none,.none,.none,.bool false,.none]) he1 rfl (by simp) ?_))))) (by show rest.toArray.size <=sizeLine;rw [az];exact hrest))
 refine ir (ah (hq _ ?_ fun b o hb e'=> ?_))
 ·rw [bA _ he1 rfl]
  rfl
 ·rw [bB _ _ (cI hb)]
  exact ag _ e'
theorem apd(a:Above bm){rest:List af}{Q:Unit -> ai -> Prop}(hC:h.get? C=some (eM nm q C N bs bm hdct sn sub ab col dd k0 k1 k2 k3 k5 "ValueError.__new__"))(hq:Q () ⟨h,g,d,t,os⟩):wpAny M A (fg "ValueError.__new__" ⟨.ref C::rest,[]⟩) Q E ⟨h,g,d,t,os⟩:=by
 have F:=cZ
 have hcont:(aD C::bm).contains (.type "ValueError")=true:=by rw [bU,a.has (T:="ValueError") (b:=true) (by decide+kernel),fS]
 have hstar:=F.noStar
 (simp only [fg,F.newKind,F.newSplit,F.newRow])
 repeat (first|refine ck hC ?_|(refine du hC ?_;rw [hcont])|refine wpAny_staticBase_exc hC ?_|refine wpAny_madeBy_exc hC ?_|simp only [bne_self_eq_false,cr,if_false]|wp_step) --
 exact hq
theorem new_exc(a:Above bm){rest:List af}{R:gR -> ai -> Prop}(hC:h.get? C=some (eM nm q C N bs bm hdct sn sub ab col dd k0 k1 k2 k3 k5 "ValueError.__new__"))
  (hq:R (.ok (.ret (.ref (h.objs.size+1)))) ⟨(h.push {cls:=.type "tuple",data:=.seq rest.toArray}).push (exO C none h.objs.size),g,d,t,os⟩) (hrest:rest.length <=sizeLine):
  codeAny (model prog w) A (.builtin "ValueError.__new__" ⟨.ref C::rest,[]⟩) R ⟨h,g,d,t,os⟩:=by
 have F:=cZ
 have hends:=F.ends
 have hcB:(aD C::bm).contains (.type "ValueError")=true:=by rw [bU,a.has (T:="ValueError") (b:=true) (by decide+kernel),fS]
 have hcA:(aD C::bm).contains (.type "AttributeError")=false:=by rw [bU,a.has (T:="AttributeError") F.noAttr];rfl
 have hcN:(aD C::bm).contains (.type "NameError")=false:=by rw [bU,a.has (T:="NameError") F.noName];rfl
 (refine codeAny_builtinAt F.entry ?_)
 (unfold cf.«BaseException.__new__»)
 refine PySem.wpAt_bind ?_
 show PySem.wpAt _ _ _ (stack >>=_) _ _ _
 refine PySem.wpAt_bind (PySem.wpAt_stack fun p below=> lP ?_)
 wp_walk
 refine lP ?_
 rw [F.owner]
 repeat (first|with_reducible refine wpAny_madeHere_exc F.canon hC ?_|with_reducible refine ck hC ?_|(with_reducible refine du hC ?_;first|rw [hcB]|rw [hcA]|rw [hcN])|wp_step) --
 show R _ _
 rw [aZ]
 exact hq
theorem make_exc{K:Frag}{rest:List af}(X:K.In h)(c:ClsE K C)(hi:findIn K (.ref C) "__init__"=some (some (.ref f)))(hf:typeIn K (.ref f)=some (.type "function"))(hq:codeAny (model prog w) (A.under (.builtin "type.__call__" ⟨.ref C::rest,[]⟩)) (.call (.ref f) ⟨.ref (h.objs.size+1)::rest,[]⟩) (fun r s'=> match r with
    |.ok (.ret v)=> v=.none/\Q (.ref (h.objs.size+1)) s'
    |.ok _=> False
    |.error e=> E e s') ⟨(h.push {cls:=.type "tuple",data:=.seq rest.toArray}).push (exO C none h.objs.size),g,d,t,os⟩) (hrest:rest.length <=sizeLine):
  wpAny (model prog w) A (call (.ref C) rest) Q E ⟨h,g,d,t,os⟩:=by --
 have F:=cZ
 obtain⟨nm,q,N,bs,bm,sn,sub,ab,col,dd,k0,k1,k2,k3,k5,e,a⟩:=c.at_
 have hC:=X _ _ e
 have f1:=tc_lookup
 have f2:=tc_bind (.ref C)
 (have hT:(⟨h,g,d,t,os⟩:ai).TypeIs (.ref C) "type":=⟨_,hC,rfl⟩)
 (refine f7 (jW ?_))
 show wpAny _ _ (callAny (.ref C) _) _ _ _ --
 repeat (any_goals (first|assumption|with_reducible refine ck hC ?_|wp_step)) --
 refine⟨rfl,?_⟩
 refine codeAny_call_builtin_at (iB _ (by decide+kernel)) entry_typeCall (wpAny_check_type_call_sub hC ?_)
 repeat (first|with_reducible refine ck hC ?_|with_reducible refine wpAny_madeBy_exc hC ?_|wp_step) --
 refine codeAny_call_builtin_code (iB _ F.quiet) (apd a hC ?_)
 refine new_exc a hC ?_ hrest
 show wpAny _ _ _ _ _ _
 have k: ∀b o,h.get? b=some o -> ((h.push {cls:=.type "tuple",data:=.seq rest.toArray}).push (exO C none h.objs.size)).get? b=some o:=fun b o e=> ag _ (ag _ e)
 have hC₁:=k _ _ hC
 have hget:((h.push {cls:=.type "tuple",data:=.seq rest.toArray}).push (exO C none h.objs.size)).get? (h.objs.size+1)=some {cls:=.ref C,data:=.fields #[.ref h.objs.size,.none,.none,.none,.bool false,.none]}:=by heap_get
 (have hcC:(aD C::bm).contains (.ref C)=true:=by simp)
 unfold isInstance
 repeat (first|with_reducible refine ck hget ?_|(with_reducible refine du hC₁ ?_;rw [hcC])|wp_step) --
 (refine du hC₁ ?_;rw [hcC])
 repeat (first|with_reducible refine ck hget ?_|wp_step)
 show wpAny _ _ (typeLookup (.ref C) _) _ _ _ --
 have L1:=(l8 (M:=model prog w) X hi).keeps k
 have L2:=(bind_fn (M:=model prog w) X (.ref (h.objs.size+1)) hf).keeps k
 refine L1.at ?_
 refine bj (ac (L2.at (ac (f7 (dC hq fun r s' z=> ?_)))))
 (rcases r with e|(v|_|_|_) <;> first|exact z|exact z.elim|skip)
 obtain⟨rfl,hQ⟩:=z
 wp_walk
 exact hQ
end
end EX
namespace L2
open PySem PySem.Spec PyProof.Rows EX
structure ClsX (K:aj) (C:Addr):Prop extends ClsE K C where
 ca:cn K (.ref C) "__class__"=some (some (.builtin "object.__class__"))
 cg:eN K (.builtin "object.__class__") "__get__"=some (some (.builtin "getset_descriptor.__get__"))
 ct:jR K (.builtin "object.__class__")=some true
section
variable{X:Cx}{pins:List (Addr×Obj)}{σ:St}{H:Hp}{s:ai}{a C:Addr}{fs:List (Str×V)}{f:Str}{v:V}{A:bf}{E:af -> ai -> Prop}
theorem afe(hok:HOk X.prog X.w H s.heap)(e:H a=some (.exn C fs)):fs.length <=1000/\ ∃(t:Addr) (dxo:Option Addr),s.heap.get? a=some (awm C dxo t)/\((dxo=none/\fs=[])\/ ∃dx,dxo=some dx/\H dx=some (.own a)/\dx≠a/\
   ∃mA,s.heap.Ns1 dx mA/\(∀f,ab4 (fs.lookup f) (mA f))/\dZ mA (fs.map (·.1))):=
 (show j5 X.prog X.w H s.heap a (.exn C fs) from hok a _ e)
theorem ane{y:V}{Q:Unit -> ai -> Prop}(I:Inv X pins σ H s)(e:H a=some (.exn C fs))(c:ClsX X.K C)(n:yi X.K C f)(hl:fs.length < 1000)(ry:RelV y u)(h: ∀s' H1,(H1=H\/ ∃dx,H dx=none/\H1=upd H dx (.own a)) -> Inv X pins σ (upd H1 a (.exn C (vi f y fs))) s' -> Q () s'):wpAny (model X.prog X.w) A (setAttr (.ref a) f u) Q E s:=by
 have hlen:(vi f y fs).length <=1000:=by have:=afz f y fs;lia
 obtain⟨_,t,dxo,hx,⟨q,q2⟩|⟨dx,q,ho,ne,mA,N,r,wi⟩⟩:=afe I.hok e
 ·subst q
  have hz:s.heap.objs.size≠a:=cI (aN (ao hx))
  refine EX.set_none I.kIn c.toClsE n hx fun h' hx' N' k=> ?_
  obtain⟨od,es,ep,hod,hc⟩:=id N'
  have hf:od.isFreed=false:=(Heap.get?_some_iff.mp hod).2
  have e1:(s.heap.push od).get? s.heap.objs.size=some od:=ar s.heap hf
  have I1:=I.laid (a:=s.heap.objs.size) (o:=.own a) (h':=s.heap.push od) (t':=s.toks) (fun b u q=> ag _ q) (aq _) ⟨_,e1⟩
  have ea:upd H s.heap.objs.size (.own a) a=some (.exn C fs):=by rw [kg (cI hz)];exact e
  refine h _ _ (.inr ⟨_,I.hok.fresh (aq _),rfl⟩) (I1.write (x:=a) (e:=a) (h':=h') (t':=s.toks+2) (by rw [ea];exact de) (.inl rfl) (fun b v hb z=> ?_) ⟨_,hx'⟩ ?_)
  ·by_cases hbs:b=s.heap.objs.size
   ·subst hbs
    have z:(s.heap.push od).get? s.heap.objs.size=some v:=z
    rw [e1]at z;cases z;exact hod
   ·refine k b v hb ?_
    have z:(s.heap.push od).get? b=some v:=z
    rwa [iU s.heap b od hbs]at z
  ·refine⟨hlen,t,some s.heap.objs.size,hx',.inr ⟨_,rfl,by rw [kg hz,yj],hz,_,N',fun g=> ?_,fun g hg=> ?_⟩⟩
   ·show ab4 ((vi f y fs).lookup g) (if g=f then some u else none)
    rw [acq]
    by_cases q:g=f
    ·rw [if_pos q,if_pos q];exact ry
    ·rw [if_neg q,if_neg q,q2];exact de
   ·by_cases q:g=f
    ·rw [q];exact (ac8 f y fs).1
    ·exact absurd (by show (if g=f then some u else none)=none;rw [if_neg q]) hg
 ·subst q
  have hz:(fs.map (·.1)).length <=sizeLine:=by rw [ak,sizeLine_eq];lia
  refine EX.set_some I.kIn c.toClsE n hx N ne wi hz fun h' N' sb=> ?_
  have hd: ∃o,h'.get? dx=some o:=let ⟨o,_,_,e',_⟩:=N';⟨o,e'⟩
  refine h _ _ (.inl rfl) (I.write (x:=a) (e:=dx) (t':=s.toks+2) (by rw [e];exact de) (.inr ho) (fun b q hb z=> (sb.2 b hb).trans z) hd ?_)
  refine⟨hlen,t,some dx,(sb.2 a (cI ne)).trans hx,.inr ⟨dx,rfl,by rw [kg ne];exact ho,ne,_,N',fun g=> ?_,fun g hg=> ?_⟩⟩
  ·show ab4 ((vi f y fs).lookup g) (if g=f then some u else mA g)
   rw [acq]
   by_cases q:g=f
   ·rw [if_pos q,if_pos q];exact ry
   ·rw [if_neg q,if_neg q];exact r g
  ·by_cases q:g=f
   ·rw [q];exact (ac8 f y fs).1
   ·refine (ac8 f y fs).2 g (wi g fun z=> hg ?_)
    show (if g=f then some u else mA g)=none
    rw [if_neg q];exact z
theorem aus(I:Inv X pins σ H s)(e:H a=some (.exn C fs))(cl:ClsX X.K C)(hu:us.length <=sizeLine)(h: ∀s',Inv X pins σ H s' -> Q .none s'):
  wpAny (model X.prog X.w) A (call (.builtin "ValueError.__init__") (.ref a::us)) Q E s:=by
 obtain⟨z,t,dxo,hx,w⟩:=afe I.hok e
 obtain⟨nm,q,N,bs,bm,sn,sub,ab,col,dd,k0,k1,k2,k3,k5,hK,av⟩:=cl.at_
 (obtain⟨hp,g,d,tk,os⟩:=s)
 refine EX.init_exc (t:=tk) av (I.kIn _ _ hK) hx (fun h' hx' k=> h _ ?_) hu
 have hH:upd H a (.exn C fs)=H:=by
  funext b;unfold upd;split
  ·rename_i y;subst y;exact e.symm
  ·rfl
 have:=I.write (x:=a) (e:=a) (h':=h') (t':=tk) (o:=.exn C fs) (by rw [e];exact de) (.inl rfl) (fun b v hb y=> k b v hb y) ⟨_,hx'⟩ ?_
 ·rw [hH]at this;exact this
 ·rw [hH]
  refine⟨z,hp.objs.size,dxo,hx',?_⟩
  rcases w with w|⟨dx,w1,ho,ne,mA,⟨od,es,ep,e2,c⟩,r⟩
  ·exact .inl w
  ·exact .inr ⟨dx,w1,ho,ne,mA,⟨od,es,ep,k _ _ ne e2,c⟩,r⟩
end
section
variable{X:Cx}{o e value:Expr}{es:List Expr}{f:Str}{pos pos' apos p:Pos}{ta tv:TE}{t:TA}
def a61(K:aj)(ta tv:TE)(f:Str):TS:=fun D σ H=> tv σ H fun y H1=> ta σ H1 fun x H2=> ∃a C fs,x=.ref a/\H2 a=some (.exn C fs)/\ClsX K C/\yi K C f/\fs.length < 1000/\
 ∀H3,(H3=H2\/ ∃dx,H2 dx=none/\H3=upd H2 dx (.own a)) -> D.nx σ (upd H3 a (.exn C (vi f y fs)))
theorem a0k(ha:PE X o ta)(hv:PE X value tv)(hs:fO value (some (.Attribute o f pos')) pos.line X.env=pure false):PS X (.Assign [.Attribute o f pos'] value pos) (a61 X.K ta tv f):=by
 refine⟨?_⟩;intro pins s σ H D I h
 refine plainObj_wpAny_Assign_Attribute (thn (hv pins s σ H _ I h) fun u s1 ⟨y,H1,I1,ry,q⟩=> thn (ha pins s1 σ H1 _ I1 q) fun ov s2 ⟨x,H2,I2,rx,a,C,fs,ex,ea,c,n,l,q2⟩=> ?_) hs
 subst ex
 obtain rfl:ov=aD a:=rx
 exact ane I2 ea c n l ry fun s3 H3 w I3=> ⟨σ,_,I3,q2 H3 w⟩
structure ClsM (K:aj) (C:Addr) (m:Str) (f:Addr):Prop where
 rd:PySem.W.readsIn K C (.type "type")=true
 fc:jZ K (.ref C) (.type "type") m=some (.val (.ref f))
 sg:eN K (.ref C) "__getattribute__"=some (some (.builtin "type.__getattribute__"))
 kp:cR K (.ref f)=true
noncomputable def a3f(X:Cx)(f:Addr)(t:TA):TE:=fun σ H Q=> t σ H fun vs H1=> a85 X f σ vs H1 Q
theorem ax7{x m:Str}{g:Addr}{pl:Sem Bool}(c:ClsM X.K C m g)(hg:Gl X x)(hm:X.mg x=some (.ref C))(ha:PA X (e::es) t)(hdb:(x==("__debug__":Str))=false:=by decide)(hst:starEach (e::es) X.env=(false,eval e X.env)::starEach es X.env:=by rfl)(hpl:(backTo pos (starEach es X.env)).any (·.1)=false:=by rfl)(ht:eval (.Call (.Attribute (.Name x p) m apos) (e::es) [] pos) X.env=(do
   let ov←eval (.Name x p) X.env
   standAt apos.atName
   let (f,first)←holding [ov] (kA ov m pl)
   callWith pos f first (backTo pos (starEach (e::es) X.env)) (backToKw pos (gl [] X.env))):=by rfl):
  PE X (.Call (.Attribute (.Name x p) m apos) (e::es) [] pos) (a3f X g t):=by
 refine⟨?_⟩;intro pins s σ H Q I h
 refine kW (pl:=pl) (ad6 I hg hm ?_ hdb) ht
 refine PySem.W.method_cls I.kIn c.sg (PySem.W.cls_value I.kIn c.rd c.fc rfl ?_)
 have I1:=I.tok (s.toks+1)
 refine iy (first:=[]) (h₀:=X.base) I.ok.mod.kin c.kp (thn (ha pos pins _ σ H _ I1 h) fun us s2 ⟨vs,H2,I2,r,q2⟩=> ⟨I2.kIn,?_⟩) hst hpl
 exact q2 pins s2 us I2 r
def a5b(K:aj)(t:TA):TE:=fun σ H Q=> t σ H fun vs H1=> ∃a C fs ws,vs=.ref a::ws/\H1 a=some (.exn C fs)/\ClsX K C/\ws.length <=sizeLine/\Q .non H1
theorem fcV(K:aj):jZ K (.type "ValueError") (.type "type") "__init__"=some (.val (.builtin "ValueError.__init__")):=by kernel_rfl
theorem avi{pl:Sem Bool}(hg:Gl X "ValueError")(hm:X.mg "ValueError"=none)(ha:PA X (e::es) t)
  (hst:starEach (e::es) X.env=(false,eval e X.env)::starEach es X.env:=by rfl) (hpl:(backTo pos (starEach es X.env)).any (·.1)=false:=by rfl)
  (ht:eval (.Call (.Attribute (.Name "ValueError" p) "__init__" apos) (e::es) [] pos) X.env=(do
   let ov←eval (.Name "ValueError" p) X.env
   standAt apos.atName
   let (f,first)←holding [ov] (kA ov "__init__" pl)
   callWith pos f first (backTo pos (starEach (e::es) X.env)) (backToKw pos (gl [] X.env))):=by rfl):
  PE X (.Call (.Attribute (.Name "ValueError" p) "__init__" apos) (e::es) [] pos) (a5b X.K t):=by
 refine⟨?_⟩;intro pins s σ H Q I h
 refine kW (pl:=pl) (abq I hg hm (u:=.type "ValueError") PyProof.Rows.Boot.«ValueError» ?_ (by decide) (by decide)) ht
 have L0:fA (model X.prog X.w) s.heap (typeOf (.type "ValueError")) (.type "type"):=kX (by kernel_rfl)
 have hga:cn X.K (.type "type") "__getattribute__"=some (some (.builtin "type.__getattribute__")):=PySem.W.type_tga
 unfold kA specialOf
 refine ac (ac (L0.here ((PySem.W.looks_findIn I.kIn hga).here ?_)))
 dsimp only
 rw [if_pos PySem.W.canon_tga]
 have LO:fA (model X.prog X.w) s.heap (opaqueClassAbove (.type "ValueError")) none:=kX (by kernel_rfl)
 refine ac (PySem.W.cls_open I.kIn LO L0 hga (PySem.W.looks_hook I.kIn (r:=none) (by rfl)) (by rfl) (fcV X.K) (ah ?_))
 show wpAny _ _ (handedOut (.builtin "ValueError.__init__")) _ _ _
 rw [PySem.W.handedOut_of (by kernel_rfl)]
 (refine ah (ah ?_))
 have I1:=I.tok (s.toks+1)
 refine gT (thn (ha pos pins _ σ H _ I1 h) fun us s2 ⟨vs,H2,I2,r,a,C,fs,ws,ev,ea,c,hl,q2⟩=> ?_) hst hpl
 subst ev
 cases r with
 | @cons _ u _ us' r1 r2=>
  obtain rfl:u=aD a:=r1
  exact aus I2 ea c (by rw [←r2.length];exact hl) fun s3 I3=> ⟨.non,H2,I3,rfl,q2⟩
end
section
variable{X:Cx}{CX:CXT}{k:Nat}{f C:Addr}{fd:d5}{ps:List Str}{sp:Sp}{E:SK}{x:Str}{p pos:Pos}{e:Expr}{es:List Expr}{t:TA}
structure MkX (K:aj) (C f:Addr):Prop where
 cl:ClsX K C
 init:cn K (.ref C) "__init__"=some (some (.ref f))
 fn:PySem.W.isFn K (.ref f)=true
 kp:cR K (.ref C)=true
theorem asr{Q:VK}{vs:List V}(M:MkX X.K C f)(F:FnOk X.prog X.w X.K X.mg X.base CX k f fd ps sp)(hr:Room (k+1) X.A)(hb:Binds X.K fd ps [])(hx:aee CX X E)(I:Inv X pins σ H s)(r:jo vs us)(hz:us.length <=sizeLine)(h: ∀x,H x=none -> sp (.ref x::vs) (upd H x (.exn C [])) (fun v H2=> v=.non/\Q (.ref x) H2) (E σ)):
  wpAny (model X.prog X.w) X.A (call (.ref C) us) (EP X pins σ Q) X.xe s:=by
 have hq:=h (s.heap.objs.size+1) (I.hok.fresh (dW _))
 have e1:((s.heap.push {cls:=.type "tuple",data:=.seq us.toArray}).push (exO C none s.heap.objs.size)).get? (s.heap.objs.size+1)=some (exO C none s.heap.objs.size):=by
  have:=ar (s.heap.push {cls:=.type "tuple",data:=.seq us.toArray}) (o:=exO C none s.heap.objs.size) rfl
  rwa [aZ]at this
 have I2:Inv X pins σ (upd H (s.heap.objs.size+1) (.exn C [])) {s with heap:=(s.heap.push {cls:=.type "tuple",data:=.seq us.toArray}).push (exO C none s.heap.objs.size)}:=
  I.laid (a:=s.heap.objs.size+1) (o:=.exn C []) (t':=s.toks) (fun b u q=> ag _ (ag _ q)) (dW _) ⟨c9 _,_,none,e1,.inl ⟨rfl,rfl⟩⟩
 have r2:jo (V.ref (s.heap.objs.size+1)::vs) (aD (s.heap.objs.size+1)::us):=.cons rfl r
 have hl:(aD (s.heap.objs.size+1)::us++ []).length=ps.length:=by
  have e:=r2.length
  rw [F.len _ _ _ _ hq]at e
  rw [bY];exact e.symm
 have hB:=hb _ (aD (s.heap.objs.size+1)::us) I2.kIn hl
 rw [bY]at hB
 (obtain⟨hp,g,d,tk,os⟩:=s)
 refine EX.make_exc I.kIn M.cl.toClsE M.init (beq_iff_eq.mp M.fn) (dC (F.run _ X.stack _ _ ⟨aD (hp.objs.size+1)::us,[]⟩ (aD (hp.objs.size+1)::us) _ _ (E σ) (hr.make C us [])
  (I2.env0.make C us []) hB r2 hq) fun r s' hq'=> ?_) hz
 cases r with
 |error e=> exact hx pins σ _ _ e s' I2 hq'
 | ok fl=>
  cases fl with
  |ret u=>
   obtain⟨v,H',I3,rv,ev,q3⟩:=I2.after hq'
   subst ev
   exact⟨rv,⟨V.ref (hp.objs.size+1),H',I3,rfl,q3⟩⟩
  |next=> exact df hq'
  |brk=> exact df hq'
  |cont=> exact df hq'
def a3l(C:Addr)(sp:Sp)(E:SK)(t:TA):TE:=fun σ H Q=> t σ H fun vs H1=> vs.length <=sizeLine/\ ∀x,H1 x=none -> sp (.ref x::vs) (upd H1 x (.exn C [])) (fun v H2=> v=.non/\Q (.ref x) H2) (E σ)
theorem awh(M:MkX X.K C f)(F:FnOk X.prog X.w X.K X.mg X.base CX k f fd ps sp)(hr:Room (k+1) X.A)(hg:Gl X x)(hm:X.mg x=some (.ref C))(hb:Binds X.K fd ps [])(hx:aee CX X E)
  (ha:PA X (e::es) t) (hdb:(x==("__debug__":Str))=false:=by decide) (he:starEach (e::es) X.env=(false,eval e X.env)::starEach es X.env:=by rfl) (hpl:(backTo pos (starEach es X.env)).any (·.1)=false:=by rfl):
  PE X (.Call (.Name x p) (e::es) [] pos) (a3l C sp E t):=by
 refine⟨?_⟩;intro pins s σ H Q I h
 refine fP (ad6 I hg hm ?_ hdb)
 refine iy (h₀:=X.base) I.ok.mod.kin M.kp (thn (ha pos pins s σ H _ I h) fun us s1 ⟨vs,H1,I1,r,hz,q⟩=> ⟨I1.kIn,?_⟩) he hpl
 exact asr M F hr hb hx I1 r (show us.length <=sizeLine from r.length▸hz) q
end
end L2
namespace L2
open PySem PySem.Spec
structure Noted (l:List Env) (p C:Addr) (dx:Option Addr) (t:Addr) (h h':Heap):Prop where
 sz:h'.objs.size=h.objs.size+1
 keep: ∀b o,h.get? b=some o -> b≠p -> b∉frs l -> h'.get? b=some o
 slot: ∀b o,h.get? b=some o -> b≠p -> ∃sl,h'.get? b=some {o with slots:=sl}
 exc:h'.get? p=some (yt C dx t (.ref h.objs.size))
 ent: ∃oT ts,h'.get? h.objs.size=some oT/\oT.data=.fields ts/\ts[3]?=some .none
theorem anq{outer:List Env}{L p t:Addr}{tb head:af}{hadNext:Bool}{Q:Unit -> ai -> Prop}(hfr:A.frames=some (env::outer))(hl:s.heap.FunFrames base (env::outer))(hf:env.frame=some L)(he:s.heap.get? p=some (yt C dx t tb))(h: ∀h',Noted (env::outer) p C dx t s.heap h' -> Q () {s with heap:=h'}):
  wpAny M A (do let a←frameOf env;let pl←entryPlaceOf L hadNext;let b←lQ head a .none (rawInt L) .none pl;setField (.ref p) 1 b) (fun _ s'=> wpAny M A (iE (.ref p) none) Q E s') E s:=by
 have hene:p∉(env::outer).filterMap (·.frame):=fun hm=> by
  (obtain⟨_,o,ho,hnf⟩:=hl.mem hm)
  rw [he]at ho;injection ho with ho;subst ho;exact hnf _ rfl
 (refine ac (wpAny_frameOf_fun hfr hl hf fun h₁ hs₁=> ?_))
 (refine ac (wpAny_entryPlaceOf fun pl hpl=> ?_))
 (unfold lQ newFields)
 (refine ac (bC ?_ (hpl.sizeOk5 _ _ _ _ _)))
 have he₁:h₁.get? p=some (yt C dx t tb):=(hs₁.2.1 p hene).trans he
 (have he₂:=ag (h:=h₁) {cls:=.type "traceback",dict:=none,data:=.fields ([head,.ref L,.none,rawInt L,.none]++(if pl.isEmpty then au 6 bF else pl)).toArray} he₁)
 refine b9 he₂ rfl (show 1 < 6 by decide) ?_
 have hTe:h₁.objs.size≠p:=dA (ao he₁)
 have he₃:=bA (cQ (·.setIfInBounds 1 (aD h₁.objs.size))) he₂ (gN (eG rfl _))
 have hT₃:=(bB (h₁.push {cls:=.type "traceback",dict:=none,data:=.fields ([head,.ref L,.none,rawInt L,.none]++(if pl.isEmpty then au 6 bF else pl)).toArray}) --
  (cQ (·.setIfInBounds 1 (aD h₁.objs.size))) (cI hTe)).trans (ar h₁ rfl) --
 unfold iE
 refine ac (a7 he₃ rfl (x:=.ref h₁.objs.size) rfl ?_)
 (rw [if_pos (show (aD h₁.objs.size !=bF)=true from by simp)])
 (refine b9 hT₃ rfl (by simp only [az,aX,aM,eF] <;> lia) (h _ ?_))
 have keep: ∀b o,b≠p -> h₁.get? b=some o ->
   (((h₁.push {cls:=.type "traceback",dict:=none,data:=.fields ([head,.ref L,.none,rawInt L,.none]++(if pl.isEmpty then au 6 bF else pl)).toArray}).update p (cQ (·.setIfInBounds 1 (aD h₁.objs.size)))).update h₁.objs.size
    (cQ (·.setIfInBounds 3 ((none:Option Addr).elim bF fun f=> rawInt f)))).get? b=some o:=fun b o hbe hb=> by --
  (have hbT:h₁.objs.size≠b:=dA (ao hb))
  (rw [bB _ _ hbT,bB _ _ (cI hbe)])
  (exact ag _ hb)
 refine⟨?_,fun b o hb hbp hbf=> keep b o hbp ((hs₁.2.1 b hbf).trans hb),fun b o hb hbp=> ?_,?_,?_⟩
 ·rw [kG,kG,←hs₁.1]
  simp [Heap.push]
 ·obtain⟨sl,hs⟩:=hs₁.2.2 b o hb
  exact⟨sl,keep b _ hbp hs⟩
 ·rw [bB _ _ hTe,he₃,←hs₁.1];rfl
 ·rw [←hs₁.1]
  exact⟨_,_,bA _ hT₃ (gN (eG rfl _)),eG rfl _,by first|(simp;done)|(rcases hpl with rfl|⟨_,_,_,_,_,_,_,rfl⟩ <;> simp)⟩
def alx(h:Heap)(p:Addr)(tb:af):Prop:=tb=.none\/ ∃T oT ts,tb=.ref T/\T≠p/\h.get? T=some oT/\oT.data=.fields ts/\ts[3]?=some .none
theorem ard{outer:List Env}{L p t:Addr}{tb:af}{Q:Unit -> ai -> Prop}(hfr:A.frames=some (env::outer))(hl:s.heap.FunFrames base (env::outer))(hf:env.frame=some L)(he:s.heap.get? p=some (yt C dx t tb))(ht:alx s.heap p tb)(h: ∀h',Noted (env::outer) p C dx t s.heap h' -> Q () {s with heap:=h'}):wpAny M A (jU (.ref p) env) (fun _ s'=> wpAny M A (iE (.ref p) none) Q E s') E s:=by
 unfold jU
 simp only [hf]
 rcases ht with rfl|⟨T,oT,ts,rfl,hTp,hT,hd,h3⟩
 ·refine ac (a7 he rfl (x:=.none) rfl ?_)
  rw [if_neg (by decide)]
  exact anq hfr hl hf he h
 ·refine ac (a7 he rfl (x:=.ref T) rfl ?_)
  (rw [if_pos (show (aD T !=bF)=true from by simp)])
  refine ac (a7 hT hd h3 ?_)
  (rw [if_neg (show¬((bF==rawInt L)=true) from by simp [rawInt])])
  refine ac (b9 hT hd (bD.mp h3).1 ?_)
  rw [i8 _ _ _ _ _ _ hT hd h3]
  exact anq hfr hl hf he h
theorem a0v{outer:List Env}{L p t:Addr}{tb:af}{Q:Unit -> ai -> Prop}(hfr:A.frames=some (env::outer))(hl:s.heap.FunFrames base (env::outer))(hf:env.frame=some L)(he:s.heap.get? p=some (yt C dx t tb))(ht:alx s.heap p tb)(h: ∀h',Noted (env::outer) p C dx t s.heap h' -> Q () {s with heap:=h'}):wpAny M A (leaving env (.ref p)) Q E s:=by
 unfold leaving
 exact ac (ard hfr hl hf he ht h)
end L2
namespace L2
open PySem PySem.Spec PyProof.Rows EX
section
variable{P:aQ}{w:aU}{H H':Hp}{h h':Heap}{l:List Env}{p C t:Addr}{dx:Option Addr}{fs:List (Str×V)}
theorem Noted.un(n:Noted l p C dx t h h')(hp:H p=some (.exx C fs)):Un (frs l) [] H H h h' where
 keep b o e hn hf _:=n.keep b o e (fun z=> by rw [z,hp]at hn;cases hn) hf
 slot b o e hn _ _:=n.slot b o e fun z=> by rw [z,hp]at hn;cases hn
 free b o _ hn _:=hn
 there b o e _:=by
  by_cases z:b=p
  ·rw [z];exact⟨_,n.exc⟩
  ·obtain⟨sl,q⟩:=n.slot b o e z;exact⟨_,q⟩
 tups _ _ q:=q
 frzs _ _ _ q:=q
 tbls _ ps q:=⟨#[],by rw [Array.append_empty];exact q⟩
theorem Noted.hok(n:Noted l p C dx t h h')(ok:HOk P w H h)(hp:H p=some (.exx C fs))(he: ∃tb,h.get? p=some (yt C dx t tb))(hf: ∀b∈frs l,H b=none):HOk P w H h':=fun a o q=> by
 by_cases z:a=p
 ·subst z
  rw [hp]at q;cases q
  obtain⟨b0,t',tb',dxo,e,r⟩:=(show j5 P w H h a (.exx C fs) from ok a _ hp)
  obtain⟨tb,he⟩:=he
  rw [he]at e
  have e:=bP e
  have ed:dx=dxo:=congrArg Obj.dict e
  subst ed
  refine⟨b0,t,_,dx,n.exc,?_⟩
  rcases r with r|⟨d,r,d1,ne,mA,⟨od,es,ep,e2,c⟩,r'⟩
  ·exact .inl r
  ·refine .inr ⟨d,r,d1,ne,mA,⟨od,es,ep,n.keep d od e2 ne (fun m=> ?_),c⟩,r'⟩
   rw [hf d m]at d1;cases d1
 ·refine (ok a o q).stay (fun b u hb e=> n.keep b u e ?_ ?_) (fun _ r=> r) fun _ _ r=> r
  ·rcases hb with rfl|hb
   ·exact z
   ·intro y;rw [y,hp]at hb;cases hb
  ·intro m
   rcases hb with rfl|hb
   ·rw [hf b m]at q;cases q
   ·rw [hf b m]at hb;cases hb
end
def CX1(P:aQ)(w:aU):CXT:=fun outer H s E e s'=> ∃(p:Addr) (H':Hp) (C:Addr) (fs:List (Str×V)) (t:Addr) (dx:Option Addr) (tb:af),e=.ref p/\s'.os=s.os/\f6 s'.gens/\
 Un (frs outer) [] H H' s.heap s'.heap/\HOk P w H' s'.heap/\H' p=some (.exx C fs)/\s'.heap.get? p=some (yt C dx t tb)/\alx s'.heap p tb/\E (.ref p) none H'
abbrev XE:=St -> Addr -> Hp -> Prop
noncomputable def XE.sk(E:XE):SK:=fun σ v _ H=> ∃p,v=.ref p/\E σ p H
structure XOk (X:Cx) (E:XE):Prop where
 pass:aee (CX1 X.prog X.w) X E.sk
 own:mw (model X.prog X.w) X.A X.env X.xe
theorem XOk.never(h:mw (model X.prog X.w) X.A X.env X.xe):XOk X fun _ _ _=> False:=⟨fun _ _ _ _ _ _ _ ⟨_,_,_,_,_,_,_,_,_,_,_,_,_,_,_,_,_,f⟩=> f.elim,h⟩
theorem a6l{cd:af}{outer:List Env}{E:XK}:
  XOk (y6 (CX1 P w) P w K mg base N qual scope f cd A outer s H E) fun _ p H=> E (.ref p) none H:=by
 refine⟨fun pins σ H1 s1 e s' I hc=> ?_,PassesOwn.leaving⟩
 obtain⟨p,H2,C,fs,t,dx,tb,rfl,os,bare,un,hok,hp,he,ht,p',ep,hE⟩:=hc
 cases ep
 have J:=I.call' (H':=H2) os un hok bare fun b z=> absurd z (by simp)
 refine a0v (M:=model P w) J.ok.frames J.stack rfl he ht fun h' n=> ?_
 have fr: ∀b∈frs (y6 (CX1 P w) P w K mg base N qual scope f cd A outer s H E).stack,H2 b=none:=J.stkFree
 have B:Un (frs outer) [] H H2 s.heap s'.heap:=J.base
 have hL:s.heap.objs.size <=(y6 (CX1 P w) P w K mg base N qual scope f cd A outer s H E).env.locals:=J.ok.above
 have inF: ∀b,b∈frs (y6 (CX1 P w) P w K mg base N qual scope f cd A outer s H E).stack -> b=(y6 (CX1 P w) P w K mg base N qual scope f cd A outer s H E).env.locals\/b∈frs outer:=fun b z=> aw.mp (J.stkSub b z)
 refine⟨p,H2,C,fs,t,dx,.ref s'.heap.objs.size,rfl,J.os,J.bare,⟨fun b o e hn hf hx=> ?_,fun b o e hn hf hx=> ?_,B.free,fun b o e hx=> ?_,B.tups,B.frzs,B.tbls⟩,n.hok hok hp ⟨tb,he⟩ fr,hp,n.exc,.inr ?_,hE⟩
 ·refine n.keep b o (B.keep b o e hn hf hx) (fun z=> ?_) fun z=> ?_
  ·have:=B.free b o e hn hx;rw [z,hp]at this;cases this
  ·rcases inF b z with z|z
   ·exact absurd (ao e) (by rw [z];exact i6.mpr hL)
   ·exact hf z
 ·obtain⟨sl,q⟩:=B.slot b o e hn hf hx
  obtain⟨sl2,q2⟩:=n.slot b _ q fun z=> by have:=B.free b o e hn hx;rw [z,hp]at this;cases this
  exact⟨sl2,q2⟩
 ·obtain⟨o',q⟩:=B.there b o e hx
  by_cases z:b=p
  ·rw [z];exact⟨_,n.exc⟩
  ·obtain⟨sl,q2⟩:=n.slot b o' q z;exact⟨_,q2⟩
 ·obtain⟨oT,ts,e1,e2,e3⟩:=n.ent
  exact⟨_,oT,ts,rfl,dA (ao he),e1,e2,e3⟩
section
variable{X:Cx}{pins:List (Addr×Obj)}{σ:St}{H:Hp}{s:ai}{p C:Addr}{fs:List (Str×V)}{E:XE}
theorem XOk.raise(x:XOk X E)(I:Inv X pins σ H s)(e:H p=some (.exn C fs))(h:E σ p (upd H p (.exx C fs))):X.xe (.ref p) s:=by
 obtain⟨b0,t,dxo,he,r⟩:=afe I.hok e
 refine x.pass pins σ H s (.ref p) s I ⟨p,upd H p (.exx C fs),C,fs,t,dxo,.none,rfl,rfl,I.bare,Un.write (e:=p) (by rw [e];trivial) (.inl rfl) (fun b u _ q=> q) ⟨_,he⟩,?_,yj,he,.inl rfl,p,rfl,h⟩
 refine I.hok.write (e:=p) (by rw [e];trivial) (.inl rfl) (fun b u _ q=> q) ⟨_,he⟩ ⟨b0,t,.none,dxo,he,?_⟩
 rcases r with r|⟨d,r,d1,ne,r'⟩
 ·exact .inl r
 ·exact .inr ⟨d,r,by rw [kg ne];exact d1,ne,r'⟩
end
theorem a0h{x:Sem af}{Q:Flow -> ai -> Prop}(hh:A.handled=none)(h:wpAny M A x (fun v s₁=> ∃e t dx C,v=.ref e/\(∃nm q N bs bm hdct sn sub ab col dd k0 k1 k2 k3 k5 newId,s₁.heap.get? C=some (eM nm q C N bs bm hdct sn sub ab col dd k0 k1 k2 k3 k5 newId)/\bm.contains (.type "BaseException")=true)/\
   s₁.heap.get? e=some (awm C dx t)/\E (.ref e) s₁) E s):wpAny M A (raiseStmt env (some x) none) Q E s:=by
 unfold raiseStmt
 (refine ac (cc h (fun v s₁ h₁=> ?_) fun _ _ x=> x))
 obtain⟨e,t,dx,C,rfl,⟨nm,q,N,bs,bm,hdct,sn,sub,ab,col,dd,k0,k1,k2,k3,k5,newId,hC,hbase⟩,he,hE⟩:=h₁
 (have hcB:(aD C::bm).contains (.type "BaseException")=true:=by rw [bU,hbase,fS])
 (obtain⟨hp,g,d,tk,os⟩:=s₁)
 repeat (first|with_reducible refine ck he ?_|with_reducible refine ck hC ?_|(with_reducible refine du hC ?_;rw [hcB])|wp_step) --
 (exact wpAny_raiseNew_none hh hE)
section
variable{X:Cx}{E:XE}{a:Expr}{ta:TE}{pos:Pos}
def a3v(K:aj)(E:XE)(ta:TE):TS:=fun D σ H=> ta σ H fun v H1=> ∃p C fs,v=.ref p/\H1 p=some (.exn C fs)/\ClsX K C/\E σ p (upd H1 p (.exx C fs))
theorem av3(x:XOk X E)(hc:X.calm=true)(ha:PE X a ta):PS X (.Raise (some a) none pos) (a3v X.K E ta):=by
 refine⟨?_⟩;intro pins s σ H D I hw
 show wpAny _ _ (do standAt pos;raiseStmt X.env (some (do let v←eval a X.env;standAt pos;pure v)) none) _ _ s
 refine ac (fq (a0h (I.ok.hd hc) (ac (cc (ha pins s σ H _ I hw) (fun v s1 h1=> ac (fq (ah ?_))) fun _ _ x=> x))))
 obtain⟨v',H1,I1,rv,p,C,fs,rfl,e,cl,hE⟩:=h1
 obtain rfl:v=aD p:=rv
 obtain⟨b0,t,dxo,he,_⟩:=afe I1.hok e
 obtain⟨nm,q,N,bs,bm,sn,sub,ab,col,dd,k0,k1,k2,k3,k5,lk,av⟩:=cl.toClsE.at_
 exact⟨p,t,dxo,C,rfl,⟨nm,q,N,bs,bm,true,sn,sub,ab,col,dd,k0,k1,k2,k3,k5,_,I1.kIn _ _ lk,av.has (T:="BaseException") (b:=true) (by decide+kernel)⟩,he,x.raise I1 e hE⟩
end
theorem afr{x:Str}{Q:Unit -> ai -> Prop}(I:Inv X pins σ H s)(hN:X.N.Nodup)(hi:X.N[i]?=some x)(hk:X.env.scope.names.lookup x=some .local)(h: ∀s',Inv X pins (σ.set i none) H s' -> Q () s'):wpAny M A (do bindName X.env x .none;fk X.env x pos) Q E s:=by
 have hcls:(X.env.scope.kind==.class||(X.env.scope.kind==.module&&X.env.locals !=X.env.globals))=false:=by rw [I.ok.kind];rfl
 refine ac (wpAny_bindName (abr (v:=.non) I hN hi (.inl hk) rfl (fun s1 I1=> ?_) (.inr hk)))
 unfold fk
 refine fB ?_
 unfold unbindName
 (refine ac (wpAny_point (ac ?_)))
 unfold deleteName
 have hl:X.env.kindOf x=some .local:=hk
 simp only [hl,hcls]
 rw [if_neg (by decide)]
 have I1:=I1.tok (s1.toks+1)
 obtain⟨m,hn,hlook⟩:=id I1.loc
 have hiσ:i < σ.length:=by rw [I.len];exact (aA.mp hi).1
 have hm:(m x).isSome=true:=by
  obtain⟨u,r,q⟩:=hlook i x .non hi (bh hiσ) (.inl hk)
  rcases q with ⟨_,e⟩|⟨k,c,e,z⟩
  ·rw [e];rfl
  ·rcases k with k|k <;> (rw [hl]at k;cases k)
 refine ac (wpAny_nsDel_keeps hn fun h' v hn' hs=> ?_)
 rw [hm]
 (simp only [if_true,iF,cr,if_false])
 obtain⟨oL,_,_,hoL,_⟩:=id hn
 have cne:=I1.cne
 have J:Inv X pins (σ.set i none) H {s1 with heap:=h',toks:=s1.toks+1}:=by
  refine⟨I1.ok,I1.os,I1.bare,⟨fun b o e n hb hx=> ?_,fun b o e n hb hx=> ?_,I1.base.free,fun b o e hx=> ?_,I1.base.tups,I1.base.frzs,I1.base.tbls⟩,⟨_,hn',fun j y v' e1 e2 e3=> ?_⟩,fun y c e=> ?_,I1.free,I1.freeC,fun p hp=> ?_,fun b ob e=> ?_,by simpa using I.len⟩
  ·exact (hs.2 b (aN (aI (ao e) I1.ok.above))).trans (I1.base.keep b o e n hb hx)
  ·obtain⟨sl,e1⟩:=I1.base.slot b o e n hb hx
   exact⟨sl,(hs.2 b (aN (aI (ao e) I1.ok.above))).trans e1⟩
  ·obtain⟨o',e1⟩:=I1.base.there b o e hx
   exact⟨o',(hs.2 b (aN (aI (ao e) I1.ok.above))).trans e1⟩
  ·by_cases hj:j=i
   ·subst hj
    rw [bh hiσ]at e2
    cases e2
   ·rw [aS (cI hj)]at e2
    obtain⟨u',r',q⟩:=hlook j y v' e1 (by rw [aS (cI hj)];exact e2) e3
    refine⟨u',r',?_⟩
    rcases q with ⟨k,e⟩|⟨k,c,e,z⟩
    ·refine .inl ⟨k,?_⟩
     have:y≠x:=fun e=> hj (agm hN e1 (e▸hi))
     simp [this,e]
    ·exact .inr ⟨k,c,e,z.sameBut hs (cne y c e)⟩
  ·obtain⟨w',z⟩:=I1.cell y c e
   exact⟨w',z.sameBut hs (cne y c e)⟩
  ·obtain⟨e,n,ne,nf,d⟩:=I1.pin p hp
   exact⟨(hs.2 p.1 ne).trans e,n,ne,nf,d⟩
  ·refine (I1.hok b ob e).stay (fun c w' hc q=> (hs.2 c ?_).trans q) (fun _ q=> q) fun _ _ q=> q
   rintro rfl
   have fr:=I1.free
   rcases hc with rfl|hc
   ·rw [fr]at e;cases e
   ·rw [fr]at hc;cases hc
 exact ah (wpAny_point (h _ (J.tok _)))
abbrev Cx.hand(X:Cx)(e:af):Cx:={X with A:=X.A.mark (some e),calm:=false,xe:=fun _ _=> False}
abbrev Cx.tries(X:Cx)(pn:List (Addr×Obj))(E:af -> ai -> Prop):Cx:={X with pn:=pn,xe:=E}
theorem Inv.hand(I:Inv X pins σ H s)(e:af):Inv (X.hand e) pins σ H s:=
 ⟨⟨I.ok.mod,I.ok.kind,I.ok.glob,I.ok.blt,I.ok.above,I.ok.inj,I.ok.has,I.ok.cab,fun h=> (by cases h),I.ok.frames,I.ok.stk,I.ok.exf,I.ok.bs,I.ok.bsz,I.ok.noex,I.ok.exfs,I.ok.funs,I.ok.frf⟩,I.os,I.bare,I.base,I.loc,I.cell,I.free,I.freeC,I.pin,I.hok,I.len⟩
theorem Inv.unhand{e:af}(ok:X.Ok)(I:Inv (X.hand e) pins σ H s):Inv X pins σ H s:=⟨ok,I.os,I.bare,I.base,I.loc,I.cell,I.free,I.freeC,I.pin,I.hok,I.len⟩
theorem Inv.tries(I:Inv X pins σ H s)(E:af -> ai -> Prop):Inv (X.tries (X.pn++pins) E) [] σ H s:=
 ⟨⟨I.ok.mod,I.ok.kind,I.ok.glob,I.ok.blt,I.ok.above,I.ok.inj,I.ok.has,I.ok.cab,I.ok.hd,I.ok.frames,I.ok.stk,I.ok.exf,I.ok.bs,I.ok.bsz,I.ok.noex,I.ok.exfs,I.ok.funs,I.ok.frf⟩,I.os,I.bare,I.base,I.loc,I.cell,I.free,I.freeC,fun p hp=> I.pin p (by rwa [bY]at hp),I.hok,I.len⟩
theorem Inv.untries(ok:X.Ok)(I:Inv (X.tries (X.pn++pins) E) pins' σ H s):Inv X pins σ H s:=
 ⟨ok,I.os,I.bare,I.base,I.loc,I.cell,I.free,I.freeC,fun p hp=> I.pin p (ff _ hp),I.hok,I.len⟩
theorem SP.untries{D:Ends}{f:Flow}{s':ai}(ok:X.Ok)(h:SP (X.tries (X.pn++pins) E) pins' D f s'):SP X pins D f s':=by
 cases f with
 |next=> obtain⟨σ',H',I,q⟩:=h;exact⟨σ',H',I.untries ok,q⟩
 |brk=> obtain⟨σ',H',I,q⟩:=h;exact⟨σ',H',I.untries ok,q⟩
 |cont=> obtain⟨σ',H',I,q⟩:=h;exact⟨σ',H',I.untries ok,q⟩
 |ret u=> obtain⟨v,σ',H',I,r,q⟩:=h;exact⟨v,σ',H',I.untries ok,r,q⟩
theorem aru{p t:Addr}{tb:af}{Q:Unit -> ai -> Prop}(he:s.heap.get? p=some (yt C dx t tb))(ht:alx s.heap p tb)(h:Q () s):wpAny M A (iE (.ref p) none) Q E s:=by
 unfold iE
 rcases ht with rfl|⟨T,oT,ts,rfl,hTp,hT,hd,h3⟩
 ·refine ac (a7 he rfl (x:=.none) rfl ?_)
  rw [if_neg (by decide)]
  exact ah h
 ·refine ac (a7 he rfl (x:=.ref T) rfl ?_)
  (rw [if_pos (show (aD T !=bF)=true from by simp)])
  refine b9 hT hd (bD.mp h3).1 ?_
  show Q () {s with heap:=s.heap.update T (cQ (·.setIfInBounds 3 .none))}
  rw [i8 _ _ _ _ _ _ hT hd h3]
  exact h
theorem Fun.okX{x:Str}{sp:Sp}(F:Fun K x qual st f fd)(S:FnScope N ps (je st))(len: ∀vs H Q E,sp vs H Q E -> vs.length=ps.length)(hbody: ∀(cdv:af) (A:bf) (outer:List Env) (s:ai) (H:Hp) (vs:List V) (Q:VK) (E:XK),Room k (A.deeper (envOfC qual (je st) s.heap.objs.size f cdv)) -> sp vs H Q E ->
   ∃t,PSs (y6 (CX1 P w) P w K mg base N qual (je st) f cdv A outer s H E) (vg st) t/\t {nx:=fun _ H'=> Q .non H',rt:=Q} (start N vs) H):FnOk P w K mg base (CX1 P w) (k+1) f fd ps sp:=by
 obtain⟨oc,od,kV,doc,pm,an,cdv,ct,osl,rfl,lk,hcd⟩:=F.ex
 exact a73 lk hcd S len fun A outer s H vs Q E hr h=> hbody cdv A outer s H vs Q E hr h
def awq(P:aQ)(w:aU)(K:aj)(mg:Str -> Option af)(base:Heap)(x:Str)(k:Nat)(sp:Sp):Prop:=
 ∃(f:Addr) (fd:d5) (ps:List Str),FnOk P w K mg base (CX1 P w) k f fd ps sp/\mg x=some (.ref f)/\cR K (.ref f)=true/\Binds K fd ps []
theorem Has.calX{x:Str}{sp:Sp}(h:Has K mg x st ps)(S:FnScope N ps (je st))(len: ∀vs H Q E,sp vs H Q E -> vs.length=ps.length)(hbody: ∀(f:Addr) (cdv:af) (A:bf) (outer:List Env) (s:ai) (H:Hp) (vs:List V) (Q:VK) (E:XK),Room k (A.deeper (envOfC x (je st) s.heap.objs.size f cdv)) -> sp vs H Q E ->
   ∃t,PSs (y6 (CX1 P w) P w K mg base N x (je st) f cdv A outer s H E) (vg st) t/\t {nx:=fun _ H'=> Q .non H',rt:=Q} (start N vs) H):awq P w K mg base x (k+1) sp:=by
 obtain⟨f,fd,F,m,b⟩:=h
 exact⟨f,fd,ps,F.okX S len (hbody f),m,F.kp,b⟩
section
variable{X:Cx}{x:Str}{k:Nat}{sp:Sp}{p pos:Pos}{e:Expr}{es:List Expr}{t:TA}{E:XE}
theorem a6a(c:awq X.prog X.w X.K X.mg X.base x k sp)(hx:XOk X E)(hr:Room k X.A)(ha:PA X (e::es) t)(hg:Gl X x:=by rfl)(hdb:(x==("__debug__":Str))=false:=by decide)
  (he:starEach (e::es) X.env=(false,eval e X.env)::starEach es X.env:=by rfl) (hpl:(backTo pos (starEach es X.env)).any (·.1)=false:=by rfl):PE X (.Call (.Name x p) (e::es) [] pos) (ayf sp [] E.sk t):=by
 obtain⟨f,fd,ps,F,m,kk,b⟩:=c
 exact a1b F hr hg m kk b .nil hx.pass ha hdb he hpl
end
end L2
namespace PF
open PySem PySem.Spec
open L2
structure Envs (K:aj) (as:As) (H:Hp) (ρ:En) (σ:St):Prop where
 len:ρ.length=σ.length
 get: ∀(i:Nat) (d:D),ρ[i]?=some (some d) -> ∃v,σ[i]?=some (some v)/\RD K as H v d
theorem Envs.mono{as as':As}{ρ:En}(e:Envs K as H ρ σ)(st:Step as H as' H'):Envs K as' H' ρ σ:=⟨e.len,fun i d h=> let ⟨v,a,b⟩:=e.get i d h;⟨v,a,b.mono st⟩⟩
theorem Envs.set{as:As}{ρ:En}(e:Envs K as H ρ σ)(i:Nat){d:D}(r:RD K as H v d):Envs K as H (ρ.set i (some d)) (σ.set i (some v)):=by
 refine⟨by simp [e.len],fun j x h=> ?_⟩
 by_cases z:i=j
 ·subst z
  rw [dj]at h⊢
  by_cases hl:i < ρ.length
  ·simp [hl]at h
   subst h
   exact⟨v,by simp [←e.len,hl],r⟩
  ·simp [hl]at h
 ·rw [aS z]at h⊢
  exact e.get j x h
class XW where
 xk:XE
instance (priority:=low) XW.dft:XW:=⟨fun _ _ _=> False⟩
abbrev XW.of(E:XK):XW:=⟨fun _ p H=> E (.ref p) none H⟩
variable[XW]
def Dn{α β:Type}(K:aj)(rel:As -> Hp -> β -> α -> Prop)(as:As)(H:Hp)(r:R α)(Q:β -> Hp -> Prop):Prop:=match r with
 |.ok a s=> ∀b as' H',Step as H as' H' -> Rel K as' H' s -> rel as' H' b a -> Q b H'
 |.bad=> False
 |.ex n ρ s=> ∀as' H' p σ,Step as H as' H' -> Rel K as' H' s -> Envs K as' H' ρ σ -> as'.ix[n]?=some (some p) -> XW.xk σ p H'
theorem Dn.step{α β:Type}{rel:As -> Hp -> β -> α -> Prop}{as as1:As}{H1:Hp}{r:R α}{Q:β -> Hp -> Prop}(h:Dn K rel as H r Q)(st:Step as H as1 H1):Dn K rel as1 H1 r Q:=by
 cases r with
 |ok a s=> exact fun b as' H' s2 rl rb=> h b as' H' (st.trans s2) rl rb
 |bad=> exact h
 |ex n ρ s=> exact fun as' H' p σ s2 rl en e=> h as' H' p σ (st.trans s2) rl en e
theorem Dn.bind{α β γ δ:Type}{r1:As -> Hp -> β -> α -> Prop}{r2:As -> Hp -> δ -> γ -> Prop}{as:As}{r:R α}{f:α -> S -> R γ}{Q:δ -> Hp -> Prop}{Q':β -> Hp -> Prop}(h:Dn K r2 as H (r.bind f) Q)(k: ∀a s as1 H1 b,Step as H as1 H1 -> Rel K as1 H1 s -> r1 as1 H1 b a -> Dn K r2 as1 H1 (f a s) Q -> Q' b H1):Dn K r1 as H r Q':=by
 cases r with
 |ok a s=> exact fun b as' H' st rl rb=> k a s as' H' b st rl rb (Dn.step (r:=f a s) h st)
 |bad=> exact h
 |ex n ρ s=> exact h
theorem Dn.now{α β:Type}{rel:As -> Hp -> β -> α -> Prop}{as:As}{a:α}{s:S}{Q:β -> Hp -> Prop}{b:β}(h:Dn K rel as H (.ok a s) Q)(rl:Rel K as H s)(rb:rel as H b a):Q b H:=h b as H (Step.refl _ _) rl rb
theorem Dn.at{α β:Type}{rel:As -> Hp -> β -> α -> Prop}{as:As}{r:R α}{ρ:En}{Q:β -> Hp -> Prop}(h:Dn K rel as H (r.at ρ) Q)(en:Envs K as H ρ σ): @Dn (XW.of (XE.sk XW.xk σ)) α β K rel as H r Q:=by
 cases r with
 |ok a s=> exact h
 |bad=> exact h
 |ex n ρ' s=> exact fun as' H' p σ' st rl _ e=> ⟨p,rfl,h as' H' p σ st rl (en.mono st) e⟩
theorem Dn.calm{α β:Type}{rel:As -> Hp -> β -> α -> Prop}{as:As}{r:R α}{Q:β -> Hp -> Prop}(h:Dn K rel as H r.calm Q): @Dn XW.dft α β K rel as H r Q:=by
 cases r with
 |ok a s=> exact h
 |bad=> exact h
 |ex n ρ' s=> exact h.elim
abbrev rD(K:aj):As -> Hp -> V -> D -> Prop:=fun as H v d=> RD K as H v d
abbrev rB:As -> Hp -> Bool -> Bool -> Prop:=fun _ _ b a=> b=a
abbrev rL(K:aj):As -> Hp -> List V -> List D -> Prop:=fun as H v d=> RDs K as H v d
inductive Fl where
 |nx (ρ:En)|rt (d:D)|bk (ρ:En)|ct (ρ:En)
inductive FV where
 |nx (σ:St)|rt (v:V)|bk (σ:St)|ct (σ:St)
inductive rF (K:aj) (as:As) (H:Hp):FV -> Fl -> Prop
 |nx {σ:St} {ρ:En}:Envs K as H ρ σ -> rF K as H (.nx σ) (.nx ρ)
 |rt {v:V} {d:D}:RD K as H v d -> rF K as H (.rt v) (.rt d)
 |bk {σ:St} {ρ:En}:Envs K as H ρ σ -> rF K as H (.bk σ) (.bk ρ)
 |ct {σ:St} {ρ:En}:Envs K as H ρ σ -> rF K as H (.ct σ) (.ct ρ)
def yc(D:Ends)(f:FV)(H:Hp):Prop:=match f with
 |.nx σ=> D.nx σ H
 |.rt v=> D.rt v H
 |.bk σ=> D.bk σ H
 |.ct σ=> D.ct σ H
abbrev FE:=En -> S -> R D
abbrev FT:=En -> S -> R Bool
abbrev FA:=En -> S -> R (List D)
abbrev FS:=En -> S -> R Fl
def aaa(K:aj)(t:TE)(f:FE):Prop:= ∀as σ H ρ s Q,Rel K as H s -> Envs K as H ρ σ -> Dn K (rD K) as H (f ρ s) Q -> t σ H Q
def ac2(K:aj)(t:TT)(f:FT):Prop:= ∀as σ H ρ s Q,Rel K as H s -> Envs K as H ρ σ -> Dn K rB as H (f ρ s) Q -> t σ H Q
def a2b(K:aj)(t:TA)(f:FA):Prop:= ∀as σ H ρ s Q,Rel K as H s -> Envs K as H ρ σ -> Dn K (rL K) as H (f ρ s) Q -> t σ H Q
def agk(K:aj)(t:TS)(f:FS):Prop:= ∀as σ H ρ s D,Rel K as H s -> Envs K as H ρ σ -> Dn K (rF K) as H (f ρ s) (yc D) -> t D σ H
structure RE (X:Cx) (e:Expr) (f:FE):Prop where
 ex: ∃t,PE X e t/\aaa X.K t f
structure RT (X:Cx) (e:Expr) (f:FT):Prop where
 ex: ∃t,PT X e t/\ac2 X.K t f
structure RW (X:Cx) (e:Expr) (f:FT):Prop where
 ex: ∃t,PW X e t/\ac2 X.K t f
structure RA (X:Cx) (es:List Expr) (f:FA):Prop where
 ex: ∃t,PA X es t/\a2b X.K t f
structure RS (X:Cx) (st:Stmt) (f:FS):Prop where
 ex: ∃t,PS X st t/\agk X.K t f
structure RSs (X:Cx) (st:List Stmt) (f:FS):Prop where
 ex: ∃t,PSs X st t/\agk X.K t f
section
variable{X:Cx}{a b:Expr}{fa fb:FE}{pos:Pos}
noncomputable def jb(i:Nat):FE:=fun ρ s=> match ρ[i]? with
 |some (some d)=>.ok d s
 |_=>.bad
noncomputable def fC(d:D):FE:=fun _ s=>.ok d s
theorem a0e(i:Nat):aaa K (auq i) (jb i):=by
 intro as σ H ρ s Q rl en h
 unfold jb at h
 cases q:ρ[i]? with
 |none=> rw [q]at h;exact h.elim
 | some o=>
  cases o with
  |none=> rw [q]at h;exact h.elim
  |some d=>
   rw [q]at h
   obtain⟨v,e,r⟩:=en.get i d q
   exact⟨v,e,Dn.now h rl r⟩
theorem jp(i:Nat){x:Str}(hN:X.N[i]?=some x:=by rfl)(hv:Vis X.env.scope x:=by first|exact cM rfl|exact eR (cM rfl)|exact eR (eR rfl))(hd:(x==("__debug__":Str))=false:=by decide)(hcd:(x==("__classdict__":Str))=false:=by decide):RE X (.Name x pos) (jb i):=⟨_,atd hN hv hd hcd,a0e i⟩
theorem aff{d:D}(r: ∀as H,RD K as H v d):aaa K (tC v) (fC d):=fun as σ H ρ s Q rl en h=> Dn.now (K:=K) (rel:=rD K) h rl (r as H)
theorem ahb{i j pos}:RE X (.Constant (.int i) j pos) (fC (.int i)):=⟨_,asy,aff fun _ _=>.da (.int i)⟩
theorem zk{x j pos}:RE X (.Constant (.str x) j pos) (fC (.str x)):=⟨_,atp,aff fun _ _=>.da (.str x)⟩
theorem a7b{b j pos}:RE X (.Constant (.bool b) j pos) (fC (.bl b)):=⟨_,axs,aff fun _ _=>.da (.bl b)⟩
theorem bba{j pos}:RE X (.Constant .none j pos) (fC .non):=⟨_,as9,aff fun _ _=>.da .non⟩
theorem afc{x:Str}{d:D}(r: ∀as H,RD X.K as H v d)(hm:X.mg x=some u)(rv:RelV v u)(hg:Gl X x:=by rfl)(hd:(x==("__debug__":Str))=false:=by decide):RE X (.Name x pos) (fC d):=⟨_,ap9 hg hm rv hd,aff r⟩
theorem aa1{x:Str}{n:String}(hm:X.mg x=none)(hv:a9 x=some (.type n))(hg:Gl X x:=by rfl)(hn:x≠"__name__":=by decide)(hd:(x==("__debug__":Str))=false:=by decide):RE X (.Name x pos) (fC (.ty n)):=
 ⟨_,azq (v:=.ty n) hg hm hv rfl hn hd,aff fun _ _=>.ty n⟩
def fOp(g:D -> D -> S -> R D)(fa fb:FE):FE:=fun ρ s=> (fa ρ s).bind fun x s1=> (fb ρ s1).bind fun y s2=> g x y s2
def alj(K:aj)(r:R2)(g:D -> D -> S -> R D):Prop:= ∀as H s x y dx dy Q,Rel K as H s -> RD K as H x dx -> RD K as H y dy -> Dn K (rD K) as H (g dx dy s) Q -> r x y H Q
theorem ai1{r:R2}{g:D -> D -> S -> R D}(hr:alj K r g)(ha:aaa K ta fa)(hb:aaa K tb fb):aaa K (tOp r ta tb) (fOp g fa fb):=by
 intro as σ H ρ s Q rl en h
 refine ha as σ H ρ s _ rl en (Dn.bind h fun d1 s1 as1 H1 x st1 rl1 r1 h1=> ?_)
 refine hb as1 σ H1 ρ s1 _ rl1 (en.mono st1) (Dn.bind h1 fun d2 s2 as2 H2 y st2 rl2 r2 h2=> ?_)
 exact hr as2 H2 s2 x y d1 d2 Q rl2 (r1.mono st2) r2 h2
structure Op2 (X:Cx) (f:af -> af -> Sem af) (g:D -> D -> S -> R D):Prop where
 ex: ∃r,OpR X f r/\alj X.K r g
theorem a5w{op:lq}{g:D -> D -> S -> R D}(o:Op2 X (binaryOp op) g)(ha:RE X a fa)(hb:RE X b fb):RE X (.BinOp a op b pos) (fOp g fa fb):=by
 obtain⟨r,ho,hr⟩:=o.ex
 obtain⟨ta,pa,ra⟩:=ha.ex
 obtain⟨tb,pb,rb⟩:=hb.ex
 exact⟨_,a71 ho pa pb,ai1 hr ra rb⟩
theorem bbf{g:D -> D -> S -> R D}(o:Op2 X (aT op) g)(ha:RE X a fa)(hb:RE X b fb)(hm:fw op b=false:=by first|exact ary _|with_unfolding_all rfl):RE X (.Compare a [op] [b] pos) (fOp g fa fb):=by
 obtain⟨r,ho,hr⟩:=o.ex
 obtain⟨ta,pa,ra⟩:=ha.ex
 obtain⟨tb,pb,rb⟩:=hb.ex
 exact⟨_,a0i ho pa pb hm,ai1 hr ra rb⟩
def jg(f:FE):FT:=fun ρ s=> (f ρ s).bind fun d s1=> match d with
 |.bl k=>.ok k s1
 |_=>.bad
theorem aml{t:TE}{f:FE}(h:aaa K t f):ac2 K (apc t) (jg f):=by
 intro as σ H ρ s Q rl en q
 refine h as σ H ρ s _ rl en (Dn.bind q fun d1 s1 as1 H1 x st1 rl1 r1 h1=> ?_)
 cases r1 with
 |da t=>
  cases t with
  |bl k=> exact⟨k,rfl,Dn.now h1 rl1 rfl⟩
  |_=> exact h1.elim
 |_=> exact h1.elim
theorem ahq{g:D -> D -> S -> R D}(o:Op2 X (aT op) g)(ha:RE X a fa)(hb:RE X b fb)(hm:fw op b=false:=by first|exact ary _|with_unfolding_all rfl):RT X (.Compare a [op] [b] pos) (jg (fOp g fa fb)):=by
 obtain⟨r,ho,hr⟩:=o.ex
 obtain⟨ta,pa,ra⟩:=ha.ex
 obtain⟨tb,pb,rb⟩:=hb.ex
 exact⟨_,azf ho pa pb hm,aml (ai1 hr ra rb)⟩
def vo(g g':D -> D -> S -> R D)(fa fb fc:FE):FE:=fun ρ s=> (fa ρ s).bind fun x s1=> (fb ρ s1).bind fun y s2=> (g x y s2).bind fun z s3=> match z with
 |.bl true=> (fc ρ s3).bind fun w s4=> g' y w s4
 |.bl false=>.ok (.bl false) s3
 |_=>.bad
theorem ajg{r r':R2}{g g':D -> D -> S -> R D}{tc:TE}{fc:FE}(hr:alj K r g)(hr':alj K r' g')(ha:aaa K ta fa)(hb:aaa K tb fb)(hc:aaa K tc fc):aaa K (amu r r' ta tb tc) (vo g g' fa fb fc):=by
 intro as σ H ρ s Q rl en h
 refine ha as σ H ρ s _ rl en (Dn.bind h fun d1 s1 as1 H1 x st1 rl1 r1 h1=> ?_)
 refine hb as1 σ H1 ρ s1 _ rl1 (en.mono st1) (Dn.bind h1 fun d2 s2 as2 H2 y st2 rl2 r2 h2=> ?_)
 refine hr as2 H2 s2 x y d1 d2 _ rl2 (r1.mono st2) r2 (Dn.bind h2 fun d3 s3 as3 H3 z st3 rl3 r3 h3=> ?_)
 cases r3 with
 | da t=>
  cases t with
  | bl k=>
   cases k with
   |false=> exact⟨false,rfl,Dn.now h3 rl3 (.da (.bl false))⟩
   |true=>
    refine⟨true,rfl,?_⟩
    rw [if_pos rfl]
    refine hc as3 σ H3 ρ s3 _ rl3 (((en.mono st1).mono st2).mono st3) (Dn.bind h3 fun d4 s4 as4 H4 w st4 rl4 r4 h4=> ?_)
    exact hr' as4 H4 s4 y w d2 d4 Q rl4 ((r2.mono st3).mono st4) r4 h4
  |_=> exact h3.elim
 |_=> exact h3.elim
theorem a88{op':me}{g g':D -> D -> S -> R D}{fc:FE}(o:Op2 X (aT op) g)(o':Op2 X (aT op') g')(ha:RE X a fa)(hb:RE X b fb)(hc:RE X c fc)(hm:lW [op,op'] [b,c]=false:=by with_unfolding_all rfl):RE X (.Compare a [op,op'] [b,c] pos) (vo g g' fa fb fc):=by
 obtain⟨r,ho,hr⟩:=o.ex
 obtain⟨r',ho',hr'⟩:=o'.ex
 obtain⟨ta,pa,ra⟩:=ha.ex
 obtain⟨tb,pb,rb⟩:=hb.ex
 obtain⟨tc,pc,rc⟩:=hc.ex
 exact⟨_,axm ho ho' pa pb pc hm,ajg hr hr' ra rb rc⟩
theorem a8u{op':me}{g g':D -> D -> S -> R D}{fc:FE}(o:Op2 X (aT op) g)(o':Op2 X (aT op') g')(ha:RE X a fa)(hb:RE X b fb)(hc:RE X c fc)(hm:lW [op,op'] [b,c]=false:=by with_unfolding_all rfl):RT X (.Compare a [op,op'] [b,c] pos) (jg (vo g g' fa fb fc)):=by
 obtain⟨r,ho,hr⟩:=o.ex
 obtain⟨r',ho',hr'⟩:=o'.ex
 obtain⟨ta,pa,ra⟩:=ha.ex
 obtain⟨tb,pb,rb⟩:=hb.ex
 obtain⟨tc,pc,rc⟩:=hc.ex
 exact⟨_,aul ho ho' pa pb pc hm,aml (ajg hr hr' ra rb rc)⟩
def yf(f g:FT):FT:=fun ρ s=> (f ρ s).bind fun c s1=> if c=true then g ρ s1 else .ok false s1
def kz(f g:FT):FT:=fun ρ s=> (f ρ s).bind fun c s1=> if c=true then .ok true s1 else g ρ s1
def ju(f:FT):FT:=fun ρ s=> (f ρ s).bind fun c s1=>.ok (!c) s1
theorem ayo{t u:TT}{f g:FT}(h1:ac2 K t f)(h2:ac2 K u g):ac2 K (a1s t u) (yf f g):=by
 intro as σ H ρ s Q rl en h
 refine h1 as σ H ρ s _ rl en (Dn.bind h fun c s1 as1 H1 b st1 rl1 r1 q1=> ?_)
 have e1:b=c:=r1
 subst e1
 cases b with
 |true=> rw [if_pos rfl]at q1⊢;exact h2 as1 σ H1 ρ s1 Q rl1 (en.mono st1) q1
 |false=> rw [if_neg am]at q1⊢;exact Dn.now q1 rl1 rfl
theorem a3w{t u:TT}{f g:FT}(h1:ac2 K t f)(h2:ac2 K u g):ac2 K (tOr t u) (kz f g):=by
 intro as σ H ρ s Q rl en h
 refine h1 as σ H ρ s _ rl en (Dn.bind h fun c s1 as1 H1 b st1 rl1 r1 q1=> ?_)
 have e1:b=c:=r1
 subst e1
 cases b with
 |false=> rw [if_neg am]at q1⊢;exact h2 as1 σ H1 ρ s1 Q rl1 (en.mono st1) q1
 |true=> rw [if_pos rfl]at q1⊢;exact Dn.now q1 rl1 rfl
theorem a0t{t:TT}{f:FT}(h1:ac2 K t f):ac2 K (a3h t) (ju f):=by
 intro as σ H ρ s Q rl en h
 refine h1 as σ H ρ s _ rl en (Dn.bind h fun c s1 as1 H1 b st1 rl1 r1 q1=> ?_)
 have e1:b=c:=r1
 subst e1
 exact Dn.now q1 rl1 rfl
theorem RW.rt{f:FT}(h:RW X e f):RT X e f:=let ⟨t,p,r⟩:=h.ex;⟨t,p.pt,r⟩
theorem ayq{f:FT}(h:RT X a f):RW X (.BoolOp .And [a] pos) f:=let ⟨t,p,r⟩:=h.ex;⟨t,azg p,r⟩
theorem a3k{f:FT}(h:RT X a f):RW X (.BoolOp .Or [a] pos) f:=let ⟨t,p,r⟩:=h.ex;⟨t,a3j p,r⟩
theorem a4g{f g:FT}{rest:List Expr}(h:RT X a f)(k:RW X (.BoolOp .And (b::rest) pos) g):RW X (.BoolOp .And (a::b::rest) pos) (yf f g):=let ⟨t,p,r⟩:=h.ex;let ⟨t',p',r'⟩:=k.ex;⟨_,a5e p p',ayo r r'⟩
theorem axo{f g:FT}{rest:List Expr}(h:RT X a f)(k:RW X (.BoolOp .Or (b::rest) pos) g):RW X (.BoolOp .Or (a::b::rest) pos) (kz f g):=let ⟨t,p,r⟩:=h.ex;let ⟨t',p',r'⟩:=k.ex;⟨_,a5t p p',a3w r r'⟩
theorem ad4{f:FT}(h:RT X a f):RT X (.UnaryOp .Not a pos) (ju f):=let ⟨t,p,r⟩:=h.ex;⟨_,a1x p,a0t r⟩
def xj(fa fb:FE):FE:=fun ρ s=> (fa ρ s).bind fun d s1=> match d with
 |.bl true=> fb ρ s1
 |.bl false=>.ok (.bl false) s1
 |_=>.bad
def fOr(fa fb:FE):FE:=fun ρ s=> (fa ρ s).bind fun d s1=> match d with
 |.bl false=> fb ρ s1
 |.bl true=>.ok (.bl true) s1
 |_=>.bad
def ax9(fa:FE):FE:=fun ρ s=> (fa ρ s).bind fun d s1=> match d with
 |.bl k=>.ok (.bl (!k)) s1
 |_=>.bad
theorem bap{op}(h:RE X a fa):RE X (.BoolOp op [a] pos) fa:=let ⟨t,p,r⟩:=h.ex;⟨_,a1t p,r⟩
theorem a9z{rest:List Expr}(h:RE X a fa)(k:RE X (.BoolOp .And (b::rest) pos) fb):RE X (.BoolOp .And (a::b::rest) pos) (xj fa fb):=by
 obtain⟨ta,pa,ra⟩:=h.ex
 obtain⟨tb,pb,rb⟩:=k.ex
 refine⟨_,a2n pa pb,fun as σ H ρ s Q rl en h=> ?_⟩
 refine ra as σ H ρ s _ rl en (Dn.bind h fun d1 s1 as1 H1 x st1 rl1 r1 h1=> ?_)
 cases r1 with
 | da t=>
  cases t with
  |bl k=>
   refine⟨k,rfl,?_⟩
   cases k with
   |false=> rw [if_neg am];exact Dn.now h1 rl1 (.da (.bl false))
   |true=> rw [if_pos rfl];exact rb as1 σ H1 ρ s1 Q rl1 (en.mono st1) h1
  |_=> exact h1.elim
 |_=> exact h1.elim
theorem bbl{rest:List Expr}(h:RE X a fa)(k:RE X (.BoolOp .Or (b::rest) pos) fb):RE X (.BoolOp .Or (a::b::rest) pos) (fOr fa fb):=by
 obtain⟨ta,pa,ra⟩:=h.ex
 obtain⟨tb,pb,rb⟩:=k.ex
 refine⟨_,a6w pa pb,fun as σ H ρ s Q rl en h=> ?_⟩
 refine ra as σ H ρ s _ rl en (Dn.bind h fun d1 s1 as1 H1 x st1 rl1 r1 h1=> ?_)
 cases r1 with
 | da t=>
  cases t with
  |bl k=>
   refine⟨k,rfl,?_⟩
   cases k with
   |true=> rw [if_pos rfl];exact Dn.now h1 rl1 (.da (.bl true))
   |false=> rw [if_neg am];exact rb as1 σ H1 ρ s1 Q rl1 (en.mono st1) h1
  |_=> exact h1.elim
 |_=> exact h1.elim
theorem a9x(h:RE X a fa):RE X (.UnaryOp .Not a pos) (ax9 fa):=by
 obtain⟨ta,pa,ra⟩:=h.ex
 refine⟨_,a46 pa,fun as σ H ρ s Q rl en h=> ?_⟩
 refine ra as σ H ρ s _ rl en (Dn.bind h fun d1 s1 as1 H1 x st1 rl1 r1 h1=> ?_)
 cases r1 with
 |da t=>
  cases t with
  |bl k=> exact⟨k,rfl,Dn.now h1 rl1 (.da (.bl (!k)))⟩
  |_=> exact h1.elim
 |_=> exact h1.elim
def fIf(c:FT)(fa fb:FE):FE:=fun ρ s=> (c ρ s).bind fun k s1=> if k=true then fa ρ s1 else fb ρ s1
theorem ayc{fc:FT}(hc:RT X c fc)(ha:RE X a fa)(hb:RE X b fb):RE X (.IfExp c a b pos) (fIf fc fa fb):=by
 obtain⟨tc,pc,rc⟩:=hc.ex
 obtain⟨ta,pa,ra⟩:=ha.ex
 obtain⟨tb,pb,rb⟩:=hb.ex
 refine⟨_,au7 pc pa pb,fun as σ H ρ s Q rl en h=> ?_⟩
 refine rc as σ H ρ s _ rl en (Dn.bind h fun d1 s1 as1 H1 x st1 rl1 r1 h1=> ?_)
 have e1:x=d1:=r1
 subst e1
 cases x with
 |true=> rw [if_pos rfl]at h1⊢;exact ra as1 σ H1 ρ s1 Q rl1 (en.mono st1) h1
 |false=> rw [if_neg am]at h1⊢;exact rb as1 σ H1 ρ s1 Q rl1 (en.mono st1) h1
noncomputable def jc:FA:=fun _ s=>.ok [] s
def ja(f:FE)(g:FA):FA:=fun ρ s=> (f ρ s).bind fun x s1=> (g ρ s1).bind fun xs s2=>.ok (x::xs) s2
noncomputable def fVs(ds:List D):FA:=fun _ s=>.ok ds s
theorem j9:RA X [] jc:=⟨_,acw,fun as σ H ρ s Q rl en h=> Dn.now h rl .nil⟩
theorem jk{f:FE}{g:FA}(h:RE X e f)(k:RA X es g)(hs:starEach (e::es) X.env=(false,eval e X.env)::starEach es X.env:=by rfl):RA X (e::es) (ja f g):=by
 obtain⟨t,p,r⟩:=h.ex
 obtain⟨t',p',r'⟩:=k.ex
 refine⟨_,aa5 p p' hs,fun as σ H ρ s Q rl en h=> ?_⟩
 refine r as σ H ρ s _ rl en (Dn.bind h fun d1 s1 as1 H1 x st1 rl1 r1 h1=> ?_)
 refine r' as1 σ H1 ρ s1 _ rl1 (en.mono st1) (Dn.bind h1 fun d2 s2 as2 H2 xs st2 rl2 r2 h2=> ?_)
 exact Dn.now h2 rl2 (.cons (r1.mono st2) r2)
noncomputable def aqd:Const -> Option ae
 |.str x=> some (.str x)
 |.int i=> some (.int i)
 |.bool b=> some (.bool b)
 |.none=> some .none
 |_=> none
def afp:List Expr -> Option (List ae)
 |[]=> some []
 | .Constant c _ _::r=> match aqd c with
  |some v=> match afp r with
   |some vs=> some (v::vs)
   |none=> none
  |none=> none
 |_=> none
noncomputable def pV:ae -> V
 |.none=>.non
 |.bool b=>.bl b
 |.int i=>.int i
 |.str x=>.str x
 |_=>.non
theorem a1u{c:Const}{d:ae}(h:aqd c=some d):am3 c=some (pV d)/\ ∀as H,TD as H (pV d) d:=by
 cases c <;> simp [aqd]at h <;> subst h
 all_goals first
  |exact⟨rfl,fun _ _=>.str _⟩
  |exact⟨rfl,fun _ _=>.int _⟩
  |exact⟨rfl,fun _ _=>.bl _⟩
  |exact⟨rfl,fun _ _=>.non⟩
theorem aoh: ∀{es:List Expr} {ds:List ae},afp es=some ds -> adq es=some (ds.map pV)/\ ∀as H,TDs as H (ds.map pV) ds
 |[],ds,h=> by cases h;exact⟨rfl,fun _ _=>.nil⟩
 | e ::es,ds,h=> by
  cases e with
  | Constant c j pos=>
   simp only [afp]at h
   cases h1:aqd c with
   |none=> (rw [h1]at h;cases h)
   | some v=>
    rw [h1]at h
    cases h2:afp es with
    |none=> rw [h2]at h;cases h
    |some ws=>
     rw [h2]at h
     cases h
     obtain⟨a1,a2⟩:=a1u h1
     obtain⟨b1,b2⟩:=aoh h2
     exact⟨by simp only [adq,a1,b1,aJ],fun as H=>.cons (a2 as H) (b2 as H)⟩
  |_=> simp [afp]at h
theorem asu{ds:List ae}(h:afp es=some ds):RA X es (fVs (ds.map D.da)):=by
 obtain⟨a,b⟩:=aoh h
 exact⟨_,ajo a,fun as σ H ρ s Q rl en h=> Dn.now h rl (b as H).rd⟩
def qw(m:Bool)(ds:List D)(s:S):R D:=if m=true then .ok (.ref s.length) (s++ [.lst ds]) else match kj ds with
 |some xs=>.ok (.lst xs) s
 |none=>.bad
def agq(ds:List D)(s:S):R D:=match kj ds with
 |some xs=>.ok (.tup xs) s
 |none=>.bad
theorem aa9{as:As}{s:S}{m:Bool}{ds:List D}{Q:VK}{p:Addr}(h:Dn K (rD K) as H (qw m ds s) Q)(rl:Rel K as H s)(r:RDs K as H xs ds)(n:New H p (.lst xs) H'):Q (.ref p) H':=by
 unfold qw at h
 cases m with
 |true=>
  rw [if_pos rfl]at h
  refine h (.ref p) (as.add p) H' (acl n) (rl.laid n ⟨xs,n.at,r.mono (acl n)⟩) (.ref (by simp [rl.len]) fun q e=> ?_)
  rw [←rl.len]at e
  simp at e
  exact e.symm
 | false=>
  rw [if_neg am]at h
  cases q:kj ds with
  |none=> rw [q]at h;exact h.elim
  |some ys=>
   rw [q]at h
   have e:=zc q
   subst e
   exact h (.ref p) as H' (j4 n) (rl.new n) (.da (.lst (fun z=> rl.has z n.no) n.at (r.td.mono (j4 n))))
theorem aoa{as:As}{s:S}{ds:List D}{Q:VK}{p:Addr}(h:Dn K (rD K) as H (agq ds s) Q)(rl:Rel K as H s)(r:RDs K as H xs ds)(n:New H p (.tup xs) H'):Q (.ref p) H':=by
 unfold agq at h
 cases q:kj ds with
 |none=> rw [q]at h;exact h.elim
 |some ys=>
  rw [q]at h
  have e:=zc q
  subst e
  exact h (.ref p) as H' (j4 n) (rl.new n) (.da (.tup (fun z=> rl.has z n.no) n.at (r.td.mono (j4 n))))
def ku(m:Bool)(f:FA):FE:=fun ρ s=> (f ρ s).bind fun ds s1=> if ds.length <=sizeLine then qw m ds s1 else .bad
def jh(f:FA):FE:=fun ρ s=> (f ρ s).bind fun ds s1=> if ds.length <=sizeLine then agq ds s1 else .bad
theorem bbb{f:FA}(m:Bool)(h:RA X es f):RE X (.List es pos) (ku m f):=by
 obtain⟨t,p,r⟩:=h.ex
 refine⟨_,azt p,fun as σ H ρ s Q rl en h=> ?_⟩
 refine r as σ H ρ s _ rl en (Dn.bind h fun ds s1 as1 H1 xs st1 rl1 r1 h1=> ?_)
 split at h1
 ·rename_i hz
  exact⟨by rw [r1.length];exact hz,fun p H' n=> aa9 h1 rl1 r1 n⟩
 ·exact h1.elim
theorem an3{f:FA}{x1:Nat}(h:RA X es f):RE X (.Tuple es x1 pos) (jh f):=by
 obtain⟨t,p,r⟩:=h.ex
 refine⟨_,a1c p,fun as σ H ρ s Q rl en h=> ?_⟩
 refine r as σ H ρ s _ rl en (Dn.bind h fun ds s1 as1 H1 xs st1 rl1 r1 h1=> ?_)
 split at h1
 ·rename_i hz
  exact⟨by rw [r1.length];exact hz,fun p H' n=> aoa h1 rl1 r1 n⟩
 ·exact h1.elim
end
end PF
namespace L2
open PySem PySem.Spec PyProof.Rows
theorem akb{it t:Addr}{items:Array af}(hne:t≠it): ∀(n i:Nat) (s:ai) (Q:List af -> ai -> Prop),s.heap.IsListIter it t i -> s.heap.IsList t items -> i+n <=items.size ->
  (∀h',h'.IsListIter it t (i+n) -> bz it s.heap h' -> Q ((items.toList.drop i).take n) {s with heap:=h'}) -> wpAny (model prog w) A (draw (.ref it) n) Q E s
 |0,i,s,Q,hit,_,_,hQ=> by --
  show wpAny _ _ (pure []) Q E s --
  (exact ah (by simpa using hQ s.heap hit (iQ ..)))
 | n+1,i,s,Q,hit,ht,hle,hQ=> by --
  (have hlt:i < items.size:=by lia)
  show wpAny _ _ (pyNext (.ref it)>>=_) Q E s --
  refine ac (kD hit ht (x:=items[i]) (by simp [hlt]) fun h₁ hit₁ hs₁=> ?_)
  have ht₁:h₁.IsList t items:=by
   obtain⟨o,ho,c⟩:=ht
   exact⟨o,hs₁.extBut t o hne ho,c⟩
  refine ac (bj (akb hne n (i+1) _ _ hit₁ ht₁ (by lia) fun h₂ hit₂ hs₂=> ah ?_))
  (have hd:items.toList.drop i=items[i]::items.toList.drop (i+1):=by simp [fL,hlt])
  (have:=hQ h₂ (by rw [show i+(n+1)=i+1+n by lia];exact hit₂) (hs₁.trans hs₂))
  (rw [hd,List.take_succ_cons]at this)
  exact this
theorem age{t:Addr}{Q:List af -> ai -> Prop}(hh:A.handled=none)(ht:s.heap.IsList t items)(hQ: ∀h',eL s.heap.objs.size s.heap h' -> Q items.toList {s with heap:=h'}):wpAny (model prog w) A (unpackItems (.ref t) items.size none) Q E s:=by
 (have hlt:t≠s.heap.objs.size:=by obtain⟨o,ho,_⟩:=ht;exact aN (ao ho))
 have up: ∀h':Heap,eL s.heap.objs.size s.heap h' -> h'.IsList t items:=fun h' x=> by
  obtain⟨o,ho,c⟩:=ht
  exact⟨o,x t o hlt ho,c⟩
 unfold unpackItems
 refine ac ?_
 unfold notIterableAtAll
 refine ac (dF ht.typeIs slot_list_iter.lookup ?_)
 refine ah ?_
 (simp only [cr,if_false])
 refine ac (bj (dP ht ?_))
 refine ac (bj (akb hlt items.size 0 _ _ ⟨_,ar _ rfl,rfl,rfl⟩ (up _ fun b o hb e=> ag _ e) (by lia) fun h₁ hit₁ hs₁=> ?_))
 have hall:List.take items.size (List.drop 0 items.toList)=items.toList:=by --
  (rw [im];exact dv (by simp))
 rw [hall]
 rw [if_neg (by simp)]
 have x₁:eL s.heap.objs.size s.heap h₁:=fun b o hb e=> hs₁.extBut b o hb (ag _ e)
 refine ac (bj (kK hh (by simpa using hit₁) (up _ x₁) (by simp) fun h₂ he₂=> ?_))
 (simp only [Option.isSome_none,cr,if_false])
 refine ah (hQ h₂ fun b o hb e=> he₂ b o hb (x₁ b o hb e))
theorem afu{elts:List Expr}{x1}{t:Addr}{Q:Unit -> ai -> Prop}(hh:A.handled=none)(ht:s.heap.IsList t items)(hn:(br elts env).length=items.size)(hstar:(br elts env).findIdx? (·.1)=none) --
  (h: ∀h',eL s.heap.objs.size s.heap h' -> wpAny (model prog w) A (assignInOrder ((br elts env).map (·.2)) items.toList) Q E {s with heap:=h'}):
  wpAny (model prog w) A (assign (.Tuple elts x1 pos) env (.ref t)) Q E s:=by --
 rw [assign_Tuple]
 refine ac (fq ?_)
 unfold unpack
 rw [hn,hstar]
 exact ac (bj (age hh ht h))
noncomputable def akw(K:aj)(n:Nat)(t:TGs):TG:=fun v σ H Q=> ∃a xs,v=.ref a/\(SqT K H a xs\/SqL K H a xs)/\xs.length=n/\t xs σ H Q
theorem ap1{t:TGs}(hc:X.calm=true)(h:PGs X es t)(hn:(br es X.env).length=n:=by rfl)(hst:(br es X.env).findIdx? (·.1)=none:=by rfl):PG X (.Tuple es k pos) (akw X.K n t):=by
 intro pins s σ H v u Q I r hw
 obtain⟨a,xs,e1,hq,hl,hw⟩:=hw
 rcases hq with hq|hq
 ·exact a4c hc h hn hst pins s σ H v u Q I r ⟨a,xs,e1,hq,hl,hw⟩
 ·subst e1
  cases r
  obtain⟨its,rv,⟨o,m,ho,hcl,_,hd⟩,hz⟩:=I.list hq
  refine afu (I.ok.hd hc) ⟨o,ho,hcl,m,hd⟩ (by simp [hn,←hl,rv.length]) hst fun h' hx=> ?_
  have I1:Inv X pins σ H {s with heap:=h'}:=I.kept (t':=s.toks) fun b o e=> hx b o (aN (ao e)) e
  exact h pins _ σ H xs _ Q I1 (by simpa using rv) hw
end L2
namespace PF
open PySem PySem.Spec
open L2
variable[XW]
noncomputable def tOf(K:aj)(f:FE):TE:=fun σ H Q=> ∃as ρ s,Rel K as H s/\Envs K as H ρ σ/\Dn K (rD K) as H (f ρ s) Q
noncomputable def al7(K:aj)(f:FT):TT:=fun σ H Q=> ∃as ρ s,Rel K as H s/\Envs K as H ρ σ/\Dn K rB as H (f ρ s) Q
noncomputable def aw3(K:aj)(f:FS):TS:=fun D σ H=> ∃as ρ s,Rel K as H s/\Envs K as H ρ σ/\Dn K (rF K) as H (f ρ s) (yc D)
theorem RE.pe{X:Cx}{e:Expr}{f:FE}(h:RE X e f):PE X e (tOf X.K f):=by
 obtain⟨t,p,r⟩:=h.ex
 exact p.weak fun σ H Q ⟨as,ρ,s,a,b,c⟩=> r as σ H ρ s Q a b c
theorem RT.pt{f:FT}(h:RT X e f):PT X e (al7 X.K f):=by
 obtain⟨t,p,r⟩:=h.ex
 exact⟨fun pins s σ H Q I ⟨as,ρ,s',a,b,c⟩=> p pins s σ H Q I (r as σ H ρ s' Q a b c)⟩
inductive Tg where
 |nm (i:Nat)|t2 (a b:Tg)|t3 (a b c:Tg)|tn (is:List Nat)
def gNs:List Nat -> TGs
 |[]=> aq4
 |i::r=> ae6 (akq i) (gNs r)
def gOf(K:aj):Tg -> TG
 |.nm i=> akq i
 |.t2 a b=> akw K 2 (ae6 (gOf K a) (ae6 (gOf K b) aq4))
 |.t3 a b c=> akw K 3 (ae6 (gOf K a) (ae6 (gOf K b) (ae6 (gOf K c) aq4)))
 |.tn is=> akw K is.length (gNs is)
noncomputable def ar0:D -> Option (List D)
 |.tup ds=> some (ds.map D.da)
 |.lst ds=> some (ds.map D.da)
 |.con ds=> some (ds.map D.da)
 |_=> none
noncomputable def avd:List Nat -> List D -> En -> Option En
 |[],[],ρ=> some ρ
 |i::r,d::ds,ρ=> avd r ds (ρ.set i (some d))
 |_,_,_=> none
def vj:Tg -> D -> En -> Option En
 |.nm i,d,ρ=> some (ρ.set i (some d))
 | .t2 a b,d,ρ=> match ar0 d with
  |some [x,y]=> match vj a x ρ with
   |some ρ1=> vj b y ρ1
   |none=> none
  |_=> none
 | .t3 a b c,d,ρ=> match ar0 d with
  | some [x,y,z]=> match vj a x ρ with
   |some ρ1=> match vj b y ρ1 with
    |some ρ2=> vj c z ρ2
    |none=> none
   |none=> none
  |_=> none
 |.tn is,d,ρ=> match ar0 d with
  |some xs=> avd is xs ρ
  |none=> none
noncomputable def ab5(k:Nat):Tg -> Bool
 |.nm i=> decide (i < k)
 |.t2 a b=> ab5 k a&&ab5 k b
 |.t3 a b c=> ab5 k a&&ab5 k b&&ab5 k c
 |.tn is=> is.all fun i=> decide (i < k)
def Fra(k:Nat)(σ σ':St):Prop:= ∀vs cap:St,vs.length=k -> σ=vs++cap -> ∃vs':St,vs'.length=k/\σ'=vs'++cap
theorem Fra.refl(k:Nat)(σ:St):Fra k σ σ:=fun vs cap h e=> ⟨vs,h,e⟩
theorem Fra.trans{a b c:St}(h1:Fra k a b)(h2:Fra k b c):Fra k a c:=fun vs cap h e=> by
 obtain⟨v1,l1,e1⟩:=h1 vs cap h e
 exact h2 v1 cap l1 e1
theorem aj1{as:As}{d:D}{ds:List D}(r:RD K as H v d)(h:ar0 d=some ds): ∃p xs,v=.ref p/\(SqT K H p xs\/SqL K H p xs)/\RDs K as H xs ds:=by
 cases r with
 |da t=>
  cases t with
  |tup n e r=> cases h;exact⟨_,_,rfl,.inl (SqT.of e),r.rd⟩
  |lst n e r=> cases h;exact⟨_,_,rfl,.inr (SqL.of e),r.rd⟩
  |_=> cases h
 |con q r=> cases h;exact⟨_,_,rfl,.inl (q H),r.rd⟩
 |_=> cases h
theorem ara{K:aj}{as:As}{H:Hp}{ρ':En}{Q:St -> Hp -> Prop}: ∀(is:List Nat) {xs:List V} {ds:List D} {σ:St} {ρ:En},Envs K as H ρ σ -> RDs K as H xs ds -> avd is ds ρ=some ρ' ->
  (∀σ',Envs K as H ρ' σ' -> (∀k,(is.all fun i=> decide (i < k))=true -> Fra k σ σ') -> Q σ' H) -> xs.length=is.length/\gNs is xs σ H Q
 |[],_,_,σ,ρ,en,rs,e,h=> by
  cases rs with
  |nil=> cases e;exact⟨rfl,rfl,h σ en fun k _=> Fra.refl k σ⟩
  |cons _ _=> cases e
 | i::r,_,_,σ,ρ,en,rs,e,h=> by
  cases rs with
  |nil=> cases e
  | @cons v _ d _ r1 rs=>
   obtain⟨hl,hg⟩:=ara r (en.set i r1) rs e (Q:=Q) fun σ' en' f=> h σ' en' fun k hk=> by
    rw [cX,aH]at hk
    refine Fra.trans (fun vs cap hl z=> ?_) (f k hk.2)
    have hi:i < k:=of_decide_eq_true hk.1
    subst z
    exact⟨vs.set i (some v),by simpa using hl,by rw [lu _ _ (by lia)]⟩
   exact⟨by rw [aM,aM,hl],_,_,rfl,hg⟩
theorem aap{K:aj}: ∀(tg:Tg) {as:As} {σ:St} {H:Hp} {ρ ρ':En} {v:V} {d:D} {Q:St -> Hp -> Prop},Envs K as H ρ σ -> RD K as H v d -> vj tg d ρ=some ρ' ->
  (∀σ',Envs K as H ρ' σ' -> (∀k,ab5 k tg=true -> Fra k σ σ') -> Q σ' H) -> gOf K tg v σ H Q
 |.nm i,as,σ,H,ρ,ρ',v,d,Q,en,r,e,h=> by
  cases e
  refine h (σ.set i (some v)) (en.set i r) fun k hk vs cap hl z=> ?_
  have hi:i < k:=of_decide_eq_true hk
  subst z
  exact⟨vs.set i (some v),by simpa using hl,by rw [lu _ _ (by lia)]⟩
 | .t2 a b,as,σ,H,ρ,ρ',v,d,Q,en,r,e,h=> by
  unfold vj at e
  split at e
  ·rename_i x y q
   obtain⟨p,xs,rfl,sq,rs⟩:=aj1 r q
   cases rs with
   |cons r1 rs=>
   cases rs with
   |cons r2 rs=>
   cases rs
   split at e
   ·rename_i ρ1 q1
    refine⟨p,_,rfl,sq,rfl,_,_,rfl,aap a en r1 q1 fun σ1 en1 f1=> ⟨_,_,rfl,aap b en1 r2 e fun σ2 en2 f2=> ⟨rfl,h σ2 en2 fun k hk=> ?_⟩⟩⟩
    simp only [ab5,aH]at hk
    exact (f1 k hk.1).trans (f2 k hk.2)
   ·cases e
  ·cases e
 | .t3 a b c,as,σ,H,ρ,ρ',v,d,Q,en,r,e,h=> by
  unfold vj at e
  split at e
  ·rename_i x y z q
   obtain⟨p,xs,rfl,sq,rs⟩:=aj1 r q
   cases rs with
   |cons r1 rs=>
   cases rs with
   |cons r2 rs=>
   cases rs with
   |cons r3 rs=>
   cases rs
   split at e
   ·rename_i ρ1 q1
    split at e
    ·rename_i ρ2 q2
     refine⟨p,_,rfl,sq,rfl,_,_,rfl,aap a en r1 q1 fun σ1 en1 f1=> ⟨_,_,rfl,aap b en1 r2 q2 fun σ2 en2 f2=> ⟨_,_,rfl,aap c en2 r3 e fun σ3 en3 f3=> ⟨rfl,h σ3 en3 fun k hk=> ?_⟩⟩⟩⟩
     simp only [ab5,aH]at hk
     exact ((f1 k hk.1.1).trans (f2 k hk.1.2)).trans (f3 k hk.2)
    ·cases e
   ·cases e
  ·cases e
 | .tn is,as,σ,H,ρ,ρ',v,d,Q,en,r,e,h=> by
  unfold vj at e
  split at e
  ·rename_i ys q
   obtain⟨p,xs,rfl,sq,rs⟩:=aj1 r q
   obtain⟨hl,hg⟩:=ara is en rs e (Q:=Q) h
   exact⟨p,xs,rfl,sq,hl,hg⟩
  ·cases e
abbrev Wk:=List D×Option (Nat×List D)
abbrev FI:=En -> S -> R Wk
def v7(p:Wk)(s:S):Prop:=match p.2 with
 |none=> True
 |some q=> s[q.1]?=some (.lst q.2)
open Classical in
noncomputable def chk{α:Type}(p:Wk)(s:S)(k:R α):R α:=if v7 p s then k else .bad
theorem aa0{α:Type}{ds:List D}{s:S}{k:R α}:chk (ds,none) s k=k:=if_pos trivial
theorem aa8{α:Type}{p:Wk}{s:S}{k:R α}(h:v7 p s):chk p s k=k:=if_pos h
theorem Dn.chk{α β:Type}{rel:As -> Hp -> β -> α -> Prop}{as:As}{p:Wk}{s:S}{r:R α}{Q:β -> Hp -> Prop}(h:Dn K rel as H (chk p s r) Q):v7 p s/\Dn K rel as H r Q:=by
 by_cases c:v7 p s
 ·rw [aa8 c]at h;exact⟨c,h⟩
 ·have e:PF.chk p s r=.bad:=if_neg c
  rw [e]at h;exact h.elim
def aem(K:aj)(as:As)(H:Hp)(J:It)(p:Wk):Prop:= ∀as2 H2 s2,Step0 as H as2 H2 -> Rel K as2 H2 s2 -> v7 p s2 -> ∀i:Nat,
 (p.1.length <=i -> J.stop i H2)/\ ∀d,p.1[i]?=some d -> J.go i H2/\ ∀x H3,J.yld i H2 x H3 -> Step as2 H2 as2 H3/\Rel K as2 H3 s2/\RD K as2 H3 x d
def a28(K:aj)(wi:TI)(f:FI):Prop:= ∀as σ H ρ s Q,Rel K as H s -> Envs K as H ρ σ -> Dn K (aem K) as H (f ρ s) Q -> wi σ H Q
structure RI (X:Cx) (tg iter:Expr) (f:FI):Prop where
 ex: ∃t,PI X tg iter t/\a28 X.K t f
structure RG (X:Cx) (tg:Expr) (g:Tg):Prop where
 pg:PG X tg (gOf X.K g)
section
variable{X:Cx}{a b:Expr}{fa fb:FE}{pos:Pos}
theorem ad9{x:Str}(hN:X.N.Nodup)(hi:X.N[i]?=some x)(hx:Loc X.env.scope x)(hf:X.fn x=true\/X.env.scope.names.lookup x=some .local:=by first|exact .inl rfl|exact .inr rfl|assumption):RG X (.Name x pos) (.nm i):=⟨a0j hN hi hx hf⟩
theorem ayd{e1 e2:Expr}{g1 g2:Tg}(hc:X.calm=true)(h1:RG X e1 g1)(h2:RG X e2 g2)(hn:(br [e1,e2] X.env).length=2:=by rfl)(hst:(br [e1,e2] X.env).findIdx? (·.1)=none:=by rfl)(s1:(br [e1,e2] X.env).map (·.2)=assign e1 X.env::(br [e2] X.env).map (·.2):=by rfl)(s2:(br [e2] X.env).map (·.2)=assign e2 X.env::(br [] X.env).map (·.2):=by rfl):RG X (.Tuple [e1,e2] k pos) (.t2 g1 g2):=
 ⟨ap1 hc (abl h1.pg (abl h2.pg aom s2) s1) hn hst⟩
theorem ay2{e1 e2 e3:Expr}{g1 g2 g3:Tg}(hc:X.calm=true)(h1:RG X e1 g1)(h2:RG X e2 g2)(h3:RG X e3 g3)(hn:(br [e1,e2,e3] X.env).length=3:=by rfl)(hst:(br [e1,e2,e3] X.env).findIdx? (·.1)=none:=by rfl)(s1:(br [e1,e2,e3] X.env).map (·.2)=assign e1 X.env::(br [e2,e3] X.env).map (·.2):=by rfl)(s2:(br [e2,e3] X.env).map (·.2)=assign e2 X.env::(br [e3] X.env).map (·.2):=by rfl)(s3:(br [e3] X.env).map (·.2)=assign e3 X.env::(br [] X.env).map (·.2):=by rfl):RG X (.Tuple [e1,e2,e3] k pos) (.t3 g1 g2 g3):=
 ⟨ap1 hc (abl h1.pg (abl h2.pg (abl h3.pg aom s3) s2) s1) hn hst⟩
def ji(f:FE):FS:=fun ρ s=> (f ρ s).bind fun d s1=>.ok (.rt d) s1
def vf(f:FE):FS:=fun ρ s=> (f ρ s).bind fun _ s1=>.ok (.nx ρ) s1
noncomputable def jl:FS:=fun ρ s=>.ok (.nx ρ) s
def jq(i:Nat)(f:FE):FS:=fun ρ s=> (f ρ s).bind fun d s1=>.ok (.nx (ρ.set i (some d))) s1
def aph(g:Tg)(f:FE):FS:=fun ρ s=> (f ρ s).bind fun d s1=> match vj g d ρ with
 |some ρ1=>.ok (.nx ρ1) s1
 |none=>.bad
def jm(c:FT)(f g:FS):FS:=fun ρ s=> (c ρ s).bind fun k s1=> if k=true then f ρ s1 else g ρ s1
def jf(f g:FS):FS:=fun ρ s=> (f ρ s).bind fun fl s1=> match fl with
 |.nx ρ1=> g ρ1 s1
 |fl=>.ok fl s1
theorem amc(h:RE X a fa):RS X (.Return (some a) pos) (ji fa):=by
 obtain⟨t,p,r⟩:=h.ex
 refine⟨_,a4y p,fun as σ H ρ s D rl en h=> ?_⟩
 exact r as σ H ρ s _ rl en (Dn.bind h fun d s1 as1 H1 v st1 rl1 r1 h1=> Dn.now (b:=FV.rt v) h1 rl1 (.rt r1))
theorem ad2(h:RE X a fa)(hs:fO a none pos.line X.env=pure false:=by rfl):RS X (.Expr a pos) (vf fa):=by
 obtain⟨t,p,r⟩:=h.ex
 refine⟨_,azl p hs,fun as σ H ρ s D rl en h=> ?_⟩
 exact r as σ H ρ s _ rl en (Dn.bind h fun d s1 as1 H1 v st1 rl1 r1 h1=> Dn.now (b:=FV.nx σ) h1 rl1 (.nx (en.mono st1)))
theorem abu{x:Str}{pos':Pos}(hN:X.N.Nodup)(hi:X.N[i]?=some x)(hx:Loc X.env.scope x)(h:RE X a fa)(hs:fO a (some (.Name x pos')) pos.line X.env=pure false:=by rfl)(hf:X.fn x=true\/X.env.scope.names.lookup x=some .local:=by first|exact .inl rfl|exact .inr rfl|assumption):RS X (.Assign [.Name x pos'] a pos) (jq i fa):=by
 obtain⟨t,p,r⟩:=h.ex
 refine⟨_,a58 hN hi hx p hs hf,fun as σ H ρ s D rl en h=> ?_⟩
 exact r as σ H ρ s _ rl en (Dn.bind h fun d s1 as1 H1 v st1 rl1 r1 h1=> Dn.now (b:=FV.nx (σ.set i (some v))) h1 rl1 (.nx ((en.mono st1).set i r1)))
theorem a45{g:Tg}(h:RE X a fa)(hg:RG X tg g)(hs:lB [tg] a pos.line X.env=pure false:=by rfl)(hw:lC [tg] a X.env=pure none:=by rfl)(h1:(br [tg] X.env).map (·.2)=[assign tg X.env]:=by rfl):RS X (.Assign [tg] a pos) (aph g fa):=by
 obtain⟨t,p,r⟩:=h.ex
 refine⟨_,ar9 p hg.pg hs hw h1,fun as σ H ρ s D rl en h=> ?_⟩
 refine r as σ H ρ s _ rl en (Dn.bind h fun d s1 as1 H1 v st1 rl1 r1 h1=> ?_)
 split at h1
 ·rename_i ρ1 q
  exact aap g (en.mono st1) r1 q fun σ' en' _=> Dn.now (b:=FV.nx σ') h1 rl1 (.nx en')
 ·exact h1.elim
theorem aca{st su:List Stmt}{fc:FT}{f g:FS}(hc:RT X c fc)(h1:RSs X st f)(h2:RSs X su g):RS X (.If c st su pos) (jm fc f g):=by
 obtain⟨tc,pc,rc⟩:=hc.ex
 obtain⟨t,p,r⟩:=h1.ex
 obtain⟨t',p',r'⟩:=h2.ex
 refine⟨_,a5u pc p p',fun as σ H ρ s D rl en h=> ?_⟩
 refine rc as σ H ρ s _ rl en (Dn.bind h fun k s1 as1 H1 x st1 rl1 r1 h1=> ?_)
 have e1:x=k:=r1
 subst e1
 cases x with
 |true=> rw [if_pos rfl]at h1⊢;exact r as1 σ H1 ρ s1 D rl1 (en.mono st1) h1
 |false=> rw [if_neg am]at h1⊢;exact r' as1 σ H1 ρ s1 D rl1 (en.mono st1) h1
theorem abe:RSs X [] jl:=⟨_,azi,fun as σ H ρ s D rl en h=> Dn.now (b:=FV.nx σ) h rl (.nx en)⟩
theorem kh{f:FS}(h:RS X st f):RSs X [st] f:=let ⟨t,p,r⟩:=h.ex;⟨_,az8 p,r⟩
theorem azc{t u:TS}{f g:FS}(h1:agk K t f)(h2:agk K u g):agk K (a2l t u) (jf f g):=by
 intro as σ H ρ s D rl en h
 refine h1 as σ H ρ s _ rl en (Dn.bind h fun fl s1 as1 H1 fv st1 rl1 r1 h1=> ?_)
 cases r1 with
 |nx e=> exact h2 as1 _ H1 _ s1 D rl1 e h1
 |rt e=> exact (show yc D (.rt _) H1 from Dn.now (K:=K) (rel:=rF K) (Q:=yc D) (b:=FV.rt _) h1 rl1 (rF.rt e))
 |bk e=> exact (show yc D (.bk _) H1 from Dn.now (K:=K) (rel:=rF K) (Q:=yc D) (b:=FV.bk _) h1 rl1 (rF.bk e))
 |ct e=> exact (show yc D (.ct _) H1 from Dn.now (K:=K) (rel:=rF K) (Q:=yc D) (b:=FV.ct _) h1 rl1 (rF.ct e))
theorem vh{rest:List Stmt}{f g:FS}(h:RS X st f)(k:RSs X rest g):RSs X (st::rest) (jf f g):=by
 obtain⟨t,p,r⟩:=h.ex
 obtain⟨t',p',r'⟩:=k.ex
 exact⟨_,awb p p',azc r r'⟩
def qp(g:Tg)(fb:FS)(p:Wk):List D -> En -> S -> R Fl
 |[],ρ,s=>.ok (.nx ρ) s
 | d::r,ρ,s=> match vj g d ρ with
  |none=>.bad
  |some ρ1=> (fb ρ1 s).bind fun fl s2=> match fl with
   |.nx ρ2=> chk p s2 (qp g fb p r ρ2 s2)
   |.ct ρ2=> chk p s2 (qp g fb p r ρ2 s2)
   |.bk ρ2=>.ok (.nx ρ2) s2
   |.rt d=>.ok (.rt d) s2
def y7(fi:FI)(g:Tg)(fb:FS):FS:=fun ρ s=> (fi ρ s).bind fun p s1=> chk p s1 (qp g fb p p.1 ρ s1)
theorem atl{body:List Stmt}{fi:FI}{g:Tg}{fb:FS}(hc:X.calm=true)(hi:RI X tg iter fi)(hg:RG X tg g)(hb:RSs X body fb)(hx:XOk X XW.xk:=by assumption)(hs: ∀x,dM iter X.env x=pure x:=by intro _;rfl):RS X (.For tg iter body [] pos) (y7 fi g fb):=by
 obtain⟨wi,pi,ri⟩:=hi.ex
 obtain⟨tb,pb,rb⟩:=hb.ex
 refine⟨_,a49 hx.own hc pi hg.pg pb hs,fun as σ H ρ s D rl en h=> ?_⟩
 refine ri as σ H ρ s _ rl en (Dn.bind h fun p s1 as1 H1 J st1 rl1 r1 h1=> ?_)
 obtain⟨so,h1⟩:=Dn.chk h1
 refine⟨fun i m σ' H'=> ∃as2 ρ2 s2,m=p.1.length - i/\i <=p.1.length/\Step as1 H1 as2 H'/\Rel X.K as2 H' s2/\Envs X.K as2 H' ρ2 σ'/\v7 p s2/\Dn X.K (rF X.K) as2 H' (qp g fb p (p.1.drop i) ρ2 s2) (yc D),
  ⟨_,as1,ρ,s1,rfl,c9 _,Step.refl _ _,rl1,en.mono st1,so,h1⟩,?_⟩
 rintro i m σ' H' ⟨as2,ρ2,s2,hm,hi,st2,rl2,en2,so2,h2⟩
 have tn:=r1 as2 H' s2 st2.toStep0 rl2 so2 i
 by_cases hl:i < p.1.length
 ·obtain⟨d,hd⟩: ∃d,p.1[i]?=some d:=⟨_,ay hl⟩
  have hdr:p.1.drop i=d::p.1.drop (i+1):=by
   rw [fL hl]
   rw [ay hl]at hd
   cases hd;rfl
  rw [hdr]at h2
  obtain⟨go,yl⟩:=tn.2 d hd
  unfold qp at h2
  split at h2
  ·exact h2.elim
  ·rename_i ρ3 q3
   refine .inr ⟨go,fun σ4 H4=> ∃as4 ρ4 s4,Step as1 H1 as4 H4/\Rel X.K as4 H4 s4/\Envs X.K as4 H4 ρ4 σ4/\v7 p s4/\Dn X.K (rF X.K) as4 H4 (qp g fb p (p.1.drop (i+1)) ρ4 s4) (yc D),?_,fun x H3 hy=> ?_⟩
   ·rintro σ4 H4 ⟨as4,ρ4,s4,a1,a2,a3,a4,a5⟩
    exact⟨p.1.length - (i+1),by lia,as4,ρ4,s4,rfl,hl,a1,a2,a3,a4,a5⟩
   ·obtain⟨st3,rl3,rx⟩:=yl x H3 hy
    refine aap g (en2.mono st3) rx q3 fun σ3 en3 _=> ?_
    refine rb as2 σ3 H3 ρ3 s2 _ rl3 en3 (Dn.bind (Dn.step h2 st3) fun fl s5 as5 H5 fv st5 rl5 r5 h5=> ?_)
    cases r5 with
    |nx e=>
     obtain⟨so5,h5⟩:=Dn.chk h5
     exact⟨as5,_,s5,(st2.trans st3).trans st5,rl5,e,so5,h5⟩
    |ct e=>
     obtain⟨so5,h5⟩:=Dn.chk h5
     exact⟨as5,_,s5,(st2.trans st3).trans st5,rl5,e,so5,h5⟩
    |rt e=> exact (show yc D (.rt _) H5 from Dn.now (K:=X.K) (rel:=rF X.K) (Q:=yc D) (b:=FV.rt _) h5 rl5 (rF.rt e))
    |bk e=> exact (show yc D (.nx _) H5 from Dn.now (K:=X.K) (rel:=rF X.K) (Q:=yc D) (b:=FV.nx _) h5 rl5 (rF.nx e))
 ·refine .inl ⟨tn.1 (cu hl),?_⟩
  rw [dw (cu hl)]at h2
  exact Dn.now (b:=FV.nx σ') h2 rl2 (.nx en2)
end
end PF
variable{l Ca:dR}{K:aj}{as:PF.As}{H:L2.Hp}{xs ds ys ps hs:List lT}{w:mf}{s s1:PF.S}{n k c B:Nat}{v:L2.V}{i m j:Int}{vs:List L2.V}{d a:lT}{e tg:iV}{f:PF.FA}{ρ ρ1:PF.En}{σ:L2.St}{g:PF.Tg}{ft:PF.FT}{fe fa fo:PF.FE}{y q C:iw}{N cs ss fl ns:List iw}{fb:PF.FS}{t:ms}{st b0:PySem.Stmt}{A:lU}{b:Bool}{pos tp:PySem.Pos}{es:List iV}{r:List PF.D}{x0 x1 x2 x3 x4:Option PF.D}{js:List Nat}{a0 a1:PF.D}{fd:PySem.FuncData}{P prog:lA}{h base:PySem.Heap}{Q E:c8 -> fM -> Prop}{X:L2.Cx}{pins:List (dR×PySem.Obj)}{items:Array c8}{suite:List PySem.Stmt}{scope:PySem.Scope}{od:Option dR}{mg:iw -> Option c8}
namespace PF
open PySem PySem.Spec
open L2
variable[XW]
noncomputable def ai2(d:D)(s:S):R Wk:=match d with
 |.lst ds=>.ok (ds.map D.da,none) s
 |.tup ds=>.ok (ds.map D.da,none) s
 |.con ds=>.ok (ds.map D.da,none) s
 |.frz ds=>.ok (ds.map D.da,none) s
 |.ref n=> match s[n]? with
  |some (.lst ds)=>.ok (ds,some (n,ds)) s
  |_=>.bad
 |_=>.bad
def fIt(f:FE):FI:=fun ρ s=> (f ρ s).bind ai2
section
variable{X:Cx}{tg a b:Expr}{fa fb:FE}{pos:Pos}
def a8p(K:aj)(tl:TE):TI:=fun σ H R=> tl σ H fun x H1=> ∃a,x=.ref a/\(((∃xs,SqL K H1 a xs)/\R (Itl K a) H1)\/((∃xs,SqT K H1 a xs)/\R (Itt K a) H1))
theorem a3c{l:Expr}{tl:TE}(hl:PE X l tl):PI X tg l (a8p X.K tl):=by
 intro pins s σ H R I h
 refine thn (hl pins s σ H _ I h) fun v s1 ⟨x,H1,I1,r1,q1⟩=> ?_
 obtain⟨a,e,q1⟩:=q1
 subst e
 cases r1
 have fp: ∀b∈ [s1.heap.objs.size],ac3 X pins H1 b:=fun b hb=> by
  have e:b=s1.heap.objs.size:=by simpa using hb
  subst e
  exact I1.fpOk (aq _) (I1.hok.fresh (aq _))
 rcases q1 with ⟨⟨xs,hq⟩,q⟩|⟨⟨xs,hq⟩,q⟩
 ·obtain⟨its,rv,p,hz⟩:=I1.list hq
  refine dP p.isList ?_
  exact⟨s1.heap.objs.size,[s1.heap.objs.size],_,_,H1,rfl,I1.kept (t':=s1.toks) fun b o e=> ag _ e,ark a _,⟨_,ar _ rfl,rfl,rfl⟩,fp,q⟩
 ·obtain⟨its,rv,p,hz⟩:=I1.tuple hq
  refine iC (show s1.heap.IsTuple a its.toArray from p) ?_
  exact⟨s1.heap.objs.size,[s1.heap.objs.size],_,_,H1,rfl,I1.kept (t':=s1.toks) fun b o e=> ag _ e,apm a _,⟨_,ar _ rfl,rfl,rfl⟩,fp,q⟩
theorem ami{p:Addr}{xs:List V}{w:Wk}(h: ∀as2 H2 s2,Step0 as H as2 H2 -> Rel K as2 H2 s2 -> v7 w s2 -> ∃ys,SqL K H2 p ys/\RDs K as2 H2 ys w.1):aem K as H (Itl K p) w:=by
 intro as2 H2 s2 st rl so i
 obtain⟨ys,sq,rs⟩:=h as2 H2 s2 st rl so
 refine⟨fun hl=> ⟨ys,sq,by rw [rs.length];exact hl⟩,fun d hd=> ?_⟩
 obtain⟨v,hv,r⟩:=rs.get hd
 refine⟨⟨ys,v,sq,hv⟩,fun x H3 hy=> ?_⟩
 obtain⟨rfl,hx⟩:=hy
 have:=hx ys sq
 rw [hv]at this
 cases this
 exact⟨Step.refl _ _,rl,r⟩
theorem asf{p:Addr}{xs:List V}{w:Wk}(h: ∀as2 H2 s2,Step0 as H as2 H2 -> Rel K as2 H2 s2 -> v7 w s2 -> ∃ys,SqT K H2 p ys/\RDs K as2 H2 ys w.1):aem K as H (Itt K p) w:=by
 intro as2 H2 s2 st rl so i
 obtain⟨ys,sq,rs⟩:=h as2 H2 s2 st rl so
 refine⟨fun hl=> ⟨ys,sq,by rw [rs.length];exact hl⟩,fun d hd=> ?_⟩
 obtain⟨v,hv,r⟩:=rs.get hd
 refine⟨⟨ys,v,sq,hv⟩,fun x H3 hy=> ?_⟩
 obtain⟨rfl,hx⟩:=hy
 have:=hx ys sq
 rw [hv]at this
 cases this
 exact⟨Step.refl _ _,rl,r⟩
theorem yg{p:Addr}{ds:List D}(rl:Rel K as H s)(hr: ∀q,as.ix[n]?=some (some q) -> q=p)(e:s[n]?=some (.lst ds)):as.ix[n]?=some (some p)/\ ∃xs,H p=some (.lst xs)/\RDs K as H xs ds:=by
 obtain⟨q,hq⟩:=rl.li n _ e (by intro z;cases z)
 cases hr q hq
 exact⟨hq,rl.ob n p _ hq e⟩
theorem bah(h:RE X a fa):RI X tg a (fIt fa):=by
 obtain⟨t,p,r⟩:=h.ex
 refine⟨_,a3c p,fun as σ H ρ s Q rl en h=> ?_⟩
 refine r as σ H ρ s _ rl en (Dn.bind h fun d s1 as1 H1 v st1 rl1 r1 h1=> ?_)
 cases r1 with
 |da t=>
  cases t with
  |tup n e rs=> exact⟨_,rfl,.inr ⟨⟨_,SqT.of e⟩,Dn.now (Q:=Q) h1 rl1 (asf (xs:=[]) fun as2 H2 s2 st rl so=> ⟨_,SqT.of (st.keep _ _ n e),(rs.mono0 st).rd⟩)⟩⟩
  |lst n e rs=> exact⟨_,rfl,.inl ⟨⟨_,SqL.of e⟩,Dn.now (Q:=Q) h1 rl1 (ami (xs:=[]) fun as2 H2 s2 st rl so=> ⟨_,SqL.of (st.keep _ _ n e),(rs.mono0 st).rd⟩)⟩⟩
  |_=> exact h1.elim
 |con q rs=> exact⟨_,rfl,.inr ⟨⟨_,q H1⟩,Dn.now (Q:=Q) h1 rl1 (asf (xs:=[]) fun as2 H2 s2 st rl so=> ⟨_,q H2,(rs.mono0 st).rd⟩)⟩⟩
 |frz q rs=> exact⟨_,rfl,.inl ⟨⟨_,q as1 H1 (Step.refl _ _).toStep0⟩,Dn.now (Q:=Q) h1 rl1 (ami (xs:=[]) fun as2 H2 s2 st rl so=> ⟨_,q as2 H2 st,(rs.mono0 st).rd⟩)⟩⟩
 | @ref pp n l hr=>
  have h1:Dn X.K (aem X.K) as1 H1 (match s1[n]? with|some (O.lst ds)=> R.ok (ds,some (n,ds)) s1|_=> R.bad) Q:=h1
  split at h1
  ·rename_i ds e
   obtain⟨ha,xs,hx,rs⟩:=yg rl1 hr e
   refine⟨_,rfl,.inl ⟨⟨_,SqL.of hx⟩,Dn.now (Q:=Q) h1 rl1 (ami (xs:=[]) fun as2 H2 s2 st rl so=> ?_)⟩⟩
   have so':s2[_]?=some (O.lst ds):=so
   obtain⟨q,hq⟩:=rl.li _ _ so' (by intro z;cases z)
   have e2:=hq
   rcases st.old _ l with z|z
   ·rw [z]at e2
    cases hr q e2
    obtain⟨ys,hy,rs2⟩:=rl.ob _ _ _ hq so'
    exact⟨ys,SqL.of hy,rs2⟩
   ·rw [z]at e2;cases e2
  ·exact h1.elim
 |_=> exact h1.elim
noncomputable def zu(lo:Int):Nat -> List D
 |0=> []
 |n+1=>.int lo::zu (lo+1) n
theorem qz: ∀(n:Nat) (lo:Int),(zu lo n).length=n
 |0,_=> rfl
 |n+1,lo=> congrArg (· +1) (qz n (lo+1))
theorem aog: ∀(n:Nat) (lo:Int) (i:Nat),i < n -> (zu lo n)[i]?=some (.int (lo+i))
 |n+1,lo,0,_=> by simp [zu]
 |n+1,lo,i+1,h=> by
  rw [zu,ej,aog n (lo+1) i (by lia)]
  have:lo+1+(i:Int)=lo+((i+1:Nat):Int):=by lia
  rw [this]
theorem a3r(lo:Int)(n:Nat):aem K as H (Itr lo n) (zu lo n,none):=by
 intro as2 H2 s2 st rl so i
 refine⟨fun hl=> by rw [qz]at hl;exact hl,fun d hd=> ?_⟩
 have hl:i < n:=by
  have:=(aA.mp hd).1
  rw [qz]at this;exact this
 rw [aog n lo i hl]at hd
 cases hd
 refine⟨hl,fun x H3 hy=> ?_⟩
 obtain⟨rfl,rfl⟩:=hy
 exact⟨Step.refl _ _,rl,.da (.int _)⟩
def am7(ds:List D)(s:S):R Wk:=match ds with
 |[.int j]=> if -(2^62) <=j/\j < 2^62 then .ok (zu 0 j.toNat,none) s else .bad
 |_=>.bad
def ab1(f:FA):FI:=fun ρ s=> (f ρ s).bind am7
theorem RD.int_inv(h:RD K as H v (.int i)):v=.int i:=by
 cases h with|da t=> cases t;rfl
theorem RD.str_inv{x:Str}(h:RD K as H v (.str x)):v=.str x:=by
 cases h with|da t=> cases t;rfl
theorem RD.bl_inv{x:Bool}(h:RD K as H v (.bl x)):v=.bl x:=by
 cases h with|da t=> cases t;rfl
theorem RDs.one{d:D}(h:RDs K as H vs [d]): ∃v,vs=[v]/\RD K as H v d:=by
 cases h with|cons a b=> cases b;exact⟨_,rfl,a⟩
theorem RDs.two{d e:D}(h:RDs K as H vs [d,e]): ∃v w,vs=[v,w]/\RD K as H v d/\RD K as H w e:=by
 cases h with|cons a b=> cases b with|cons b c=> cases c;exact⟨_,_,rfl,a,b⟩
theorem a31{p:Pos}(hm:X.mg "range"=none)(h:RA X [a] f)(hg:Gl X "range":=by rfl)(hs:starEach [a] X.env=[(false,eval a X.env)]:=by rfl):RI X tg (.Call (.Name "range" p) [a] [] pos) (ab1 f):=by
 obtain⟨t,p,r⟩:=h.ex
 refine⟨_,atm hg hm p hs,fun as σ H ρ s Q rl en h=> ?_⟩
 refine r as σ H ρ s _ rl en (Dn.bind h fun ds s1 as1 H1 vs st1 rl1 r1 h1=> ?_)
 unfold am7 at h1
 split at h1
 ·rename_i j
  obtain⟨v,rfl,rv⟩:=r1.one
  cases rv.int_inv
  split at h1
  ·rename_i hb
   exact⟨j,rfl,hb.1,hb.2,Dn.now (Q:=Q) h1 rl1 (a3r 0 _)⟩
  ·exact h1.elim
 ·exact h1.elim
def kr(g:Tg)(ft:FT)(fe:FE)(ρ0:En)(p:Wk):List D -> S -> R (List D)
 |[],s=>.ok [] s
 |d::r,s=> match vj g d ρ0 with
  |none=>.bad
  |some ρ1=> (ft ρ1 s).calm.bind fun b s2=> if b=true then (fe ρ1 s2).calm.bind fun x s3=> chk p s3 ((kr g ft fe ρ0 p r s3).bind fun xs s4=>.ok (x::xs) s4) else chk p s2 (kr g ft fe ρ0 p r s2)
theorem R.calm_ex{α:Type}(r:R α)(n:Nat)(ρ:En)(s:S):r.calm≠ .ex n ρ s:=by cases r <;> (intro h;cases h)
theorem aiu{α β:Type}{r:R α}{f:α -> S -> R β}(h1: ∀n ρ s,r≠ .ex n ρ s)(h2: ∀a s n ρ s',f a s≠ .ex n ρ s')(n:Nat)(ρ:En)(s:S):r.bind f≠ .ex n ρ s:=by
 cases r with
 |ok a s'=> exact h2 a s' n ρ s
 |bad=> intro h;cases h
 |ex n' ρ' s'=> exact absurd rfl (h1 n' ρ' s')
theorem arh{α:Type}{p:Wk}{k:R α}(h: ∀n ρ s',k≠ .ex n ρ s')(n:Nat)(ρ:En)(s':S):chk p s k≠ .ex n ρ s':=by
 by_cases c:v7 p s
 ·rw [aa8 c];exact h n ρ s'
 ·have e:chk p s k=.bad:=if_neg c
  rw [e];intro z;cases z
theorem agg{g:Tg}{ft:FT}{fe:FE}{ρ0:En}{p:Wk}: ∀(ds:List D) (s:S) (n:Nat) (ρ:En) (s':S),kr g ft fe ρ0 p ds s≠ .ex n ρ s'
 |[],s,n,ρ,s'=> by intro h;cases h
 | d::r,s,n,ρ,s'=> by
  rw [kr]
  split
  ·intro h;cases h
  ·refine aiu (R.calm_ex _) (fun b s2=> ?_) n ρ s'
   intro n ρ s'
   split
   ·exact aiu (R.calm_ex _) (fun x s3=> arh (aiu (fun n ρ s'=> agg r s3 n ρ s') fun xs s4 n ρ s' h=> by cases h)) n ρ s'
   ·exact arh (fun n ρ s'=> agg r s2 n ρ s') n ρ s'
noncomputable def aj6(ρ:En)(js:List Nat):En:=js.map fun j=> (ρ[j]?).join
def fLc(m:Bool)(js:List Nat)(k:Nat)(fi:FI)(g:Tg)(ft:FT)(fe:FE):FE:=fun ρ s=> (fi ρ s).bind fun p s1=> if p.1.length <=sizeLine then chk p s1 ((kr g ft fe (au k none++aj6 ρ js) p p.1 s1).bind fun ds s2=> qw m ds s2) else .bad
noncomputable def aac:FT:=fun _ s=>.ok true s
structure RIfs (X:Cx) (ifs:List Expr) (f:FT):Prop where
 run:aim X ifs (al7 X.K f)
theorem a83:RIfs X [] aac:=⟨fun pins s σ H Q I ⟨as,ρ,s',rl,en,h⟩=> auk pins s σ H Q I (show Q true H from Dn.now h rl rfl)⟩
theorem a8t{f:FT}(h:RT X a f):RIfs X [a] f:=⟨awg h.pt⟩
theorem Envs.caps(e:Envs K as H ρ σ)(js:List Nat):Envs K as H (aj6 ρ js) (za σ js):=by
 refine⟨by simp [aj6,za],fun i d h=> ?_⟩
 unfold aj6 at h
 unfold za
 rw [aR]at h⊢
 cases q:js[i]? with
 |none=> rw [q]at h;cases h
 | some j=>
  rw [q]at h
  have h:(ρ[j]?).join=some d:=by simpa using h
  cases z:ρ[j]? with
  |none=> rw [z]at h;cases h
  | some o=>
   rw [z]at h
   cases o with
   |none=> cases h
   |some x=>
    cases h
    obtain⟨v,e1,r⟩:=e.get j d z
    exact⟨v,by simp [e1],r⟩
theorem Envs.own{vs:St}(e:Envs K as H ρ σ)(hl:vs.length=k):Envs K as H (au k none++ρ) (vs++σ):=by
 refine⟨by simp [hl,e.len],fun i d h=> ?_⟩
 by_cases z:i < k
 ·rw [bc (by simpa using z),eh]at h
  simp [z]at h
 ·rw [b8 (by simpa using cu z)]at h
  rw [b8 (by rw [hl];exact cu z)]
  rw [hl]
  exact e.get _ d (by simpa using h)
theorem lcB {J:It} {p:Wk} {ρ0:En} {cap:St} {m:Bool} {Q:VK} (hg:ab5 k g=true) (hz:p.1.length <=sizeLine) (rl:Rel K as H s) (ri:aem K as H J p) (so:v7 p s) (en: ∀vs:St,vs.length=k -> Envs K as H ρ0 (vs++cap)) (h:Dn K (rD K) as H ((kr g ft fe ρ0 p p.1 s).bind fun ds s2=> qw m ds s2) Q):av7 (gOf K g) (@al7 XW.dft K ft) (@tOf XW.dft K fe) k cap J H Q:=by
 intro D hD
 have n0:New H D (.lst []) (upd H D (.lst [])):=⟨hD,rfl⟩
 have nh:D∉as.hd:=fun z=> by obtain⟨_,e⟩:=rl.hs D z;rw [hD]at e;cases e
 have s0:=ajk (as:=as) n0
 refine⟨fun i mm ys H'=> ∃as2 s2 ds,mm=p.1.length - i/\i <=p.1.length/\ys.length <=i/\Step as H as2 H'/\D∈as2.hd/\Rel K as2 H' s2/\v7 p s2/\RDs K as2 H' ys ds/\
   Dn K (rD K) as H ((kr g ft fe ρ0 p (p.1.drop i) s2).bind fun xs s3=> qw m (ds++xs) s3) Q,
  ⟨_,as.hide D,s,[],rfl,c9 _,aq _,s0,aC,rl.hide n0,so,.nil,h⟩,?_⟩
 rintro i mm ys H' hDi ⟨as2,s2,ds,hm,hi,hys,st2,mD2,rl2,so2,rs,h2⟩
 have tn:=ri as2 H' s2 st2.toStep0 rl2 so2 i
 by_cases hl:i < p.1.length
 ·obtain⟨d,hd⟩: ∃d,p.1[i]?=some d:=⟨_,ay hl⟩
  have hdr:p.1.drop i=d::p.1.drop (i+1):=by
   rw [fL hl]
   rw [ay hl]at hd
   cases hd;rfl
  rw [hdr]at h2
  obtain⟨go,yl⟩:=tn.2 d hd
  unfold kr at h2
  split at h2
  ·exact h2.elim
  ·rename_i ρ3 q3
   refine .inr ⟨go,fun x H3 hy vs hv=> ?_⟩
   obtain⟨st3,rl3,rx⟩:=yl x H3 hy
   refine aap g ((en vs hv).mono (st2.trans st3)) rx q3 fun σ3 en3 fr=> ?_
   refine⟨fr k hg vs cap hv rfl,as2,ρ3,s2,rl3,en3,?_⟩
   have eD3:H3 D=some (.lst ys):=st3.hh D mD2 _ hDi
   cases qt:ft ρ3 s2 with
   |bad=> rw [qt]at h2;exact h2.elim
   |ex _ _ _=> rw [qt]at h2;exact h2.elim
   | ok b s4=>
    rw [qt,R.calm_ok]at h2
    intro b' as4 H4 st4 rl4 eb
    have eb':b'=b:=eb
    subst eb'
    have mD4:D∈as4.hd:=st4.hk D mD2
    have eD4:H4 D=some (.lst ys):=st4.hh D mD2 _ eD3
    have st24:=(st2.trans st3).trans st4
    rw [R.bind_ok]at h2
    cases b' with
    | false=>
     rw [if_neg am]at h2⊢
     by_cases c:v7 p s4
     ·rw [aa8 c]at h2
      exact⟨eD4,_,by lia,as4,s4,ds,rfl,hl,by lia,st24,mD4,rl4,c,(rs.mono st3).mono st4,h2⟩
     ·have e:chk p s4 (kr g ft fe ρ0 p (p.1.drop (i+1)) s4)=.bad:=if_neg c
      rw [e]at h2;exact h2.elim
    | true=>
     rw [if_pos rfl]at h2⊢
     refine⟨as4,ρ3,s4,rl4,en3.mono st4,?_⟩
     cases qe:fe ρ3 s4 with
     |bad=> rw [qe]at h2;exact h2.elim
     |ex _ _ _=> rw [qe]at h2;exact h2.elim
     | ok x5 s5=>
      rw [qe,R.calm_ok]at h2
      intro v5 as5 H5 st5 rl5 r5
      rw [R.bind_ok]at h2
      have mD5:D∈as5.hd:=st5.hk D mD4
      have eD5:H5 D=some (.lst ys):=st5.hh D mD4 _ eD4
      have st25:=st24.trans st5
      by_cases c:v7 p s5
      ·rw [aa8 c]at h2
       have cg:Chg H5 D (.lst (ys++ [v5])) (upd H5 D (.lst (ys++ [v5]))):=⟨rfl⟩
       have s05:=aat (.inr mD5) cg
       refine⟨eD5,by lia,_,by lia,as5,s5,ds++ [x5],rfl,hl,by simp;lia,ax5 st25 hD nh mD5 cg,mD5,rl5.chgH mD5 cg,c,((((rs.mono st3).mono st4).mono st5).append (.cons r5 .nil)).mono0 s05,?_⟩
       cases qc:kr g ft fe ρ0 p (p.1.drop (i+1)) s5 with
       |bad=> rw [qc]at h2;exact h2.elim
       |ex _ _ _=> exact absurd qc (agg _ _ _ _ _)
       |ok xs s6=>
        rw [qc]at h2
        show Dn K (rD K) as H (qw m ((ds++ [x5])++xs) s6) Q
        rw [cT]
        exact h2
      ·have e:chk p s5 ((kr g ft fe ρ0 p (p.1.drop (i+1)) s5).bind fun xs s4=>.ok (x5::xs) s4)=.bad:=if_neg c
       rw [e]at h2;exact h2.elim
 ·refine .inl ⟨tn.1 (cu hl),?_⟩
  rw [dw (cu hl)]at h2
  replace h2:Dn K (rD K) as H (qw m (ds++ []) s2) Q:=h2
  rw [bY]at h2
  unfold qw at h2
  cases m with
  |true=>
   rw [if_pos rfl]at h2
   refine h2 (.ref D) _ H' (ati st2 nh mD2) (rl2.take mD2 ⟨ys,hDi,rs.mono0 (aej mD2)⟩) (.ref (by simp [rl2.len]) fun q e=> ?_)
   rw [←rl2.len]at e
   simp at e
   exact e.symm
  | false=>
   rw [if_neg am]at h2
   cases q:kj ds with
   |none=> rw [q]at h2;exact h2.elim
   |some zs=>
    rw [q]at h2
    have e:=zc q
    subst e
    have h2:Dn K (rD K) as H (R.ok (.lst zs) s2) Q:=h2
    refine h2 (.ref D) _ H' (avx st2 nh af5) rl2.show (.da (.lst (fun z=> ?_) hDi (rs.td.mono0 af5)))
    rcases z with z|z
    ·exact rl2.hx D mD2 z
    ·exact absurd rfl (of_decide_eq_true (bw.mp z).2)
end
end PF
namespace PF
open PySem PySem.Spec
open L2
open PyProof.Rows (envOfC)
section XWs
variable[XW]
section
variable{X:Cx}{own caps:List Str}{js:List Nat}{scope:fZ}{tg iter elt a:Expr}{ifs:List Expr}{fi:FI}{g:Tg}{ft:FT}{fe fa:FE}{pos:Pos}
theorem asj{wi:TI}{m:Bool}(ri:a28 K wi fi)(hl:ab5 k g=true):aaa K (tLc js k wi (gOf K g) (@al7 XW.dft K ft) (@tOf XW.dft K fe)) (fLc m js k fi g ft fe):=by
 intro as σ H ρ s Q rl en h
 refine ri as σ H ρ s _ rl en (Dn.bind h fun p s1 as1 H1 J st1 rl1 r1 h1=> ?_)
 split at h1
 ·rename_i hz
  obtain⟨so,h1⟩:=Dn.chk h1
  exact lcB hl hz rl1 r1 so (fun vs hv=> ((en.mono st1).caps js).own hv) h1
 ·exact h1.elim
theorem ay8(m:Bool)(hcalm:X.calm=true)(hkind:scope.kind=.function)(hnames:(scope.names.all fun p=> !(p.2==.local)||(scope.names.lookup p.1==some .local))=true)(hcell:(scope.names.any fun p=> p.2==.cell)=false)
  (hk:(scope.names.all fun p=> !(p.2==.free)||(X.env.kindOf p.1==some .cell||X.env.kindOf p.1==some .free))=true)
  (hcap:yu X scope caps js) (hl:ab5 own.length g=true) (hi:RI X tg iter fi) (hg: ∀C fp s H,RG (qo X own caps scope C fp s H) tg g) (ht: ∀(I:XW) C fp s H,XOk (qo X own caps scope C fp s H) I.xk -> @RIfs I (qo X own caps scope C fp s H) ifs ft) (he: ∀(I:XW) C fp s H,XOk (qo X own caps scope C fp s H) I.xk -> @RE I (qo X own caps scope C fp s H) elt fe)
  (hs: ∀x,dM iter X.env x=pure x:=by intro _;rfl):RE X (.ListComp elt [⟨tg,iter,ifs,0⟩] scope pos) (fLc m js own.length fi g ft fe):=by
 obtain⟨wi,pi,ri⟩:=hi.ex
 exact⟨_,a75 hcalm hkind hnames hcell hk hcap pi (fun C fp s H=> (hg C fp s H).pg) (fun C fp s H=> @RIfs.run XW.dft _ _ _ (ht XW.dft C fp s H (XOk.never eH))) (fun C fp s H=> @RE.pe XW.dft _ _ _ (he XW.dft C fp s H (XOk.never eH))) hs,asj ri hl⟩
theorem aw4(m:Bool){i:Nat}{py:Pos}{spos:Pos}(hsw:fO (.ListComp elt [⟨tg,iter,ifs,0⟩] scope pos) (some (.Name y py)) spos.line X.env=pure true)(hN:X.N.Nodup)(hy:X.N[i]?=some y)(hyl:X.env.scope.names.lookup y=some .local)(hcalm:X.calm=true)(hkind:scope.kind=.function)(hnames:(scope.names.all fun p=> !(p.2==.local)||(scope.names.lookup p.1==some .local))=true)(hcell:(scope.names.any fun p=> p.2==.cell)=false)(hk:(scope.names.all fun p=> !(p.2==.free)||(X.env.kindOf p.1==some .cell||X.env.kindOf p.1==some .free))=true)(hcap:yu X scope caps js)(hl:ab5 own.length g=true)(hi:RI X tg iter fi)(hg: ∀C fp s H,RG (qo X own caps scope C fp s H) tg g)(ht: ∀(I:XW) C fp s H,XOk (qo X own caps scope C fp s H) I.xk -> @RIfs I (qo X own caps scope C fp s H) ifs ft)(he: ∀(I:XW) C fp s H,XOk (qo X own caps scope C fp s H) I.xk -> @RE I (qo X own caps scope C fp s H) elt fe)(hs: ∀x,dM iter X.env x=pure x:=by intro _;rfl):RS X (.Assign [.Name y py] (.ListComp elt [⟨tg,iter,ifs,0⟩] scope pos) spos) (jq i (fLc m js own.length fi g ft fe)):=by
 obtain⟨wi,pi,ri⟩:=hi.ex
 refine⟨_,auv (own:=own) (te:= @tOf XW.dft X.K fe) (tt:= @al7 XW.dft X.K ft) (g:=gOf X.K g) hsw hN hy hyl hcalm hkind hnames hcell hk hcap pi (fun C fp s H=> (hg C fp s H).pg) (fun C fp s H=> @RIfs.run XW.dft _ _ _ (ht XW.dft C fp s H (XOk.never eH))) (fun C fp s H=> @RE.pe XW.dft _ _ _ (he XW.dft C fp s H (XOk.never eH))) hs,fun as σ H ρ s D rl en h=> ?_⟩
 exact asj (m:=m) ri hl as σ H ρ s _ rl en (Dn.bind h fun d s1 as1 H1 v st1 rl1 r1 h1=> Dn.now (b:=FV.nx (σ.set i (some v))) h1 rl1 (.nx ((en.mono st1).set i r1)))
def av2(d:D)(s:S):R D:=match d with
 | .ref n=> match s[n]? with
  |some (.lst ds)=> match kj ds with
   |some xs=>.ok (.lst xs) (s.set n .gone)
   |none=>.bad
  |_=>.bad
 |d=>.ok d s
def avt(f:FE):FE:=fun ρ s=> (f ρ s).bind av2
theorem a4t{d:D}{Q:VK}(rl:Rel K as H s)(r:RD K as H v d)(h:Dn K (rD K) as H (av2 d s) Q):Q v H:=by
 cases r with
 | @ref p n l hr=>
  have h1:Dn K (rD K) as H (match s[n]? with|some (O.lst ds)=> (match kj ds with|some xs=> R.ok (D.lst xs) (s.set n .gone)|none=>.bad)|_=> R.bad) Q:=h
  split at h1
  ·rename_i ds e
   split at h1
   ·rename_i xs q
    obtain⟨ha,vs,hv,rs⟩:=yg rl hr e
    have e2:=zc q
    subst e2
    refine h1 (.ref p) (as.cut n) H (agn n) rl.frz (.da (.lst ?_ hv (rs.td.mono (agn n))))
    rintro (z|z)
    ·obtain⟨i,hi⟩:=qf.mp z
     have hi':=ahm hi
     have:n=i:=rl.nd n i p ha hi'
     subst this
     rw [dj]at hi
     simp at hi
    ·exact rl.hx p z (qf.mpr ⟨n,ha⟩)
   ·exact h1.elim
  ·exact h1.elim
 |da t=> exact Dn.now (Q:=Q) h rl (.da t)
 |ty n=> exact Dn.now (Q:=Q) h rl (.ty n)
 |fn a=> exact Dn.now (Q:=Q) h rl (.fn a)
 |tabF a=> exact Dn.now (Q:=Q) h rl (.tabF a)
 |con q r=> exact Dn.now (Q:=Q) h rl (.con q r)
 |frz q r=> exact Dn.now (Q:=Q) h rl (.frz q r)
theorem bb0(h:RE X a fa):RE X a (avt fa):=by
 obtain⟨t,p,r⟩:=h.ex
 refine⟨_,p,fun as σ H ρ s Q rl en h=> ?_⟩
 exact r as σ H ρ s _ rl en (Dn.bind h fun d s1 as1 H1 v st1 rl1 r1 h1=> a4t rl1 r1 h1)
end
abbrev FF:=List D -> S -> R D
noncomputable def spF(K:aj)(n:Nat)(F:FF):Sp:=fun vs H Q E=> vs.length=n/\ ∃as ds s,Rel K as H s/\RDs K as H vs ds/\ @Dn (XW.of E) D V K (rD K) as H (F ds s) Q
structure CalF (P:aQ) (w:aU) (K:aj) (mg:Str -> Option af) (base:Heap) (x:Str) (k n:Nat) (F:FF):Prop where
 cal:awq P w K mg base x k (spF K n F)
def jd(n:Nat)(F:FF)(f:FA):FE:=fun ρ s=> (f ρ s).bind fun ds s1=> if ds.length=n then (F ds s1).at ρ else .bad
section
variable{X:Cx}{x:Str}{k n:Nat}{F:FF}{p pos:Pos}{e:Expr}{es:List Expr}{f:FA}
theorem ab0(c:CalF X.prog X.w X.K X.mg X.base x k n F)(hr:Room k X.A)(ha:RA X (e::es) f)(hx:XOk X XW.xk:=by assumption)(hg:Gl X x:=by rfl)(hdb:(x==("__debug__":Str))=false:=by decide)
  (he:starEach (e::es) X.env=(false,eval e X.env)::starEach es X.env:=by rfl) (hpl:(backTo pos (starEach es X.env)).any (·.1)=false:=by rfl):RE X (.Call (.Name x p) (e::es) [] pos) (jd n F f):=by
 obtain⟨t,p,r⟩:=ha.ex
 refine⟨_,a6a c.cal hx hr p hg hdb he hpl,fun as σ H ρ s Q rl en h=> ?_⟩
 refine r as σ H ρ s _ rl en (Dn.bind h fun ds s1 as1 H1 vs st1 rl1 r1 h1=> ?_)
 split at h1
 ·rename_i hn
  refine⟨by rw [bY,r1.length];exact hn,as1,ds,s1,rl1,?_,h1.at (en.mono st1)⟩
  rw [bY];exact r1
 ·exact h1.elim
end
end XWs
def jx(m:Nat)(fb:FS):FF:=fun ds s=> (fb (ds.map some++au (m - ds.length) none) s).bind fun fl s1=> match fl with
 |.rt d=>.ok d s1
 |.nx _=>.ok .non s1
 |_=>.bad
theorem aqz{ds:List D}(r:RDs K as H vs ds):Envs K as H (ds.map some++au (N.length - ds.length) none) (L2.start N vs):=by
 unfold L2.start
 refine⟨by simp [r.length],fun i d h=> ?_⟩
 by_cases z:i < ds.length
 ·rw [bc (by simpa using z),aR]at h
  cases q:ds[i]? with
  |none=> rw [q]at h;cases h
  |some x=>
   rw [q]at h
   cases h
   obtain⟨v,hv,rv⟩:=r.get q
   exact⟨v,by rw [bc (by rw [ak,r.length];exact z),aR,hv];rfl,rv⟩
 ·rw [b8 (by simpa using cu z),eh]at h
  split at h
  ·cases h
  ·cases h
theorem axd[I:XW]{t:TS}{Q:VK}(r:agk K t fb)(rl:Rel K as H s)(en:Envs K as H ρ σ)(h:Dn K (rD K) as H ((fb ρ s).bind fun fl s1=> match fl with|.rt d=>.ok d s1|.nx _=>.ok .non s1|_=>.bad) Q):t {nx:=fun _ H'=> Q .non H',rt:=Q} σ H:=by
 refine r as _ H _ s _ rl en (Dn.bind h fun fl s1 as1 H1 fv st1 rl1 r1 h1=> ?_)
 cases r1 with
 |nx e=> exact Dn.now (Q:=Q) h1 rl1 (.da .non)
 |rt e=> exact Dn.now (Q:=Q) h1 rl1 e
 |bk e=> exact h1.elim
 |ct e=> exact h1.elim
abbrev BodyOk(P:aQ)(w:aU)(K:aj)(mg:Str -> Option af)(base:Heap)(N:List Str)(q:Str)(st:Stmt)(k:Nat)(fb:FS):Prop:=
 ∀(f:Addr) (cdv:af) (A:bf) (outer:List Env) (s:ai) (H:Hp) (E:XK) (I:XW),XOk (y6 (CX1 P w) P w K mg base N q (je st) f cdv A outer s H E) I.xk -> Room k (A.deeper (envOfC q (je st) s.heap.objs.size f cdv)) ->
  @RSs I (y6 (CX1 P w) P w K mg base N q (je st) f cdv A outer s H E) (vg st) fb
section
variable{P:aQ}{w:aU}{K:aj}{mg:Str -> Option af}{base:Heap}{x:Str}{st:Stmt}{N ps:List Str}{k:Nat}
theorem aij{m:Nat}(hm:N.length=m)(hbody:BodyOk P w K mg base N q st k fb)(f:Addr)(cdv:af)(A:bf)(outer:List Env)(s:ai)(H:Hp)(vs:List V)(Q:VK)(E:XK)(hr:Room k (A.deeper (envOfC q (je st) s.heap.objs.size f cdv)))(h:spF K n (jx m fb) vs H Q E):
  ∃t,PSs (y6 (CX1 P w) P w K mg base N q (je st) f cdv A outer s H E) (vg st) t/\t {nx:=fun _ H'=> Q .non H',rt:=Q} (L2.start N vs) H:=by
 obtain⟨hv,as,ds,s',rl,rs,h⟩:=h
 obtain⟨t,p,r⟩:= @RSs.ex (XW.of E) _ _ _ (hbody f cdv A outer s H E (XW.of E) a6l hr)
 have en:Envs K as H (ds.map some++au (m - ds.length) none) (L2.start N vs):=by rw [←hm];exact aqz rs
 exact⟨t,p,axd (I:=XW.of E) r rl en h⟩
theorem ads(h:Has K mg x st ps)(S:FnScope N ps (je st)){m:Nat}(hm:N.length=m)(hn:ps.length=n)(hbody:BodyOk P w K mg base N x st k fb):CalF P w K mg base x (k+1) n (jx m fb):=
 ⟨h.calX S (fun vs H Q E h=> by rw [hn];exact h.1) fun f cdv A outer s H vs Q E hr h=> aij hm hbody f cdv A outer s H vs Q E hr h⟩
end
noncomputable def ahd(K:aj):Sp:=fun vs H Q _=> ∃(a:Addr) (ns:List Int),vs=[.ref a]/\SqL K H a (ns.map V.int)/\ns.length <=63/\ ∀H',Q (.bl true) H'
theorem TDs.ints{as:As}{H:Hp}: ∀ns:List Int,TDs as H (ns.map V.int) (ns.map aE)
 |[]=>.nil
 |n::r=>.cons (.int n) (TDs.ints r)
end PF
namespace PF
open PySem PySem.Spec
open L2
variable[XW]
section
variable{X:Cx}{pins:List (Addr×Obj)}{σ:St}{H:Hp}{s:ai}{as:As}
theorem aeo{a:Addr}(I:Inv X pins σ H s)(e:H a=some (.dK [])):(a==eZ)=false/\ ∃(o:Obj) (es:Array jP) (ep:Nat),s.heap.get? a=some o/\o.cls=.type "dict"/\o.data=.dict es ep/\es.toList=[]:=by
 obtain⟨_,hd,vs,rel,dd⟩:=axx I.hok e
 cases rel
 obtain⟨o,es,ep,h1,h2,h3,h4,h5⟩:=dd
 refine⟨hd,o,es,ep,h1,h2.1,h3,?_⟩
 cases h6:es.toList with
 |nil=> rfl
 |cons x r=> rw [h6]at h5;obtain⟨h5,_⟩:=h5;cases h5
theorem aio{a:Addr}(I:Inv X pins σ H s)(e:H a=some (.dK [(.inl i,v)])):(a==eZ)=false/\ ∃(o:Obj) (es:Array jP) (ep:Nat) (hs:Int) (t:Tok) (u:af),RelV v u/\s.heap.get? a=some o/\o.cls=.type "dict"/\o.data=.dict es ep/\es.toList=[⟨hs,.int i t,u⟩]:=by
 obtain⟨_,hd,vs,rel,dd⟩:=axx I.hok e
 cases rel with
 | @cons _ b _ _ r1 r2=>
  cases r2
  obtain⟨k,u⟩:=b
  obtain⟨r0,r1⟩:=r1
  obtain rfl:gI i=k:=r0
  obtain⟨o,es,ep,h1,h2,h3,h4,h5,_⟩:=dd
  refine⟨hd,o,es,ep,?_⟩
  cases h6:es.toList with
  |nil=> rw [h6]at h5;cases h5
  | cons x r=>
   rw [h6]at h5
   cases h5 with
   | cons k1 k2 k3=>
    cases k3
    obtain⟨hs,key,val⟩:=x
    rcases qd (k:=.inl i) (v:=key) k1 with ⟨j,t,e1,e2⟩|⟨y,t,e1,_⟩
    ·cases e1
     obtain rfl:key=dq i t:=e2
     obtain rfl:val=u:=k2
     exact⟨hs,t,val,r1,h1,h2.1,h3,rfl⟩
    ·cases e1
mutual
theorem TD.reads(I:Inv X pins σ H s): ∀{v:V} {d:ae} {u:af},TD as H v d -> RelV v u -> ∃bs,eY s.heap u d bs
 |_,_,u,.non,r=> by cases (show u=bF from r);exact⟨_,.none⟩
 |_,_,u,.bl b,r=> by cases (show u=eD b from r);exact⟨_,.bool b⟩
 |_,_,u,.int i,r=> by obtain⟨t,e⟩:=(show∃t,u=dq i t from r);subst e;exact⟨_,.int i t⟩
 |_,_,u,.str x,r=> by obtain⟨t,e⟩:=(show∃t,u=eT x t from r);subst e;exact⟨_,.str x t⟩
 |_,_,u,.tup (p:=a) (xs:=xs) n e q,r=> by
  cases (show u=aD a from r)
  obtain⟨z,its,rv,p⟩:=(show j5 X.prog X.w H s.heap a (.tup xs) from I.hok a _ e)
  obtain⟨o,h1,h2,k,h3⟩:=p.tup
  obtain⟨bs,ra⟩:=TDs.reads I q rv
  exact⟨_,.tuple h1 h2 h3 ra⟩
 |_,_,u,.lst (p:=a) (xs:=xs) n e q,r=> by
  cases (show u=aD a from r)
  obtain⟨z,its,k,rv,h1⟩:=(show j5 X.prog X.w H s.heap a (.lst xs) from I.hok a _ e)
  obtain⟨bs,ra⟩:=TDs.reads I q rv
  exact⟨_,.list h1 rfl rfl ra⟩
 |_,_,u,.dct (p:=a) n e,r=> by
  cases (show u=aD a from r)
  obtain⟨_,o,es,ep,h1,h2,h3,h4⟩:=aeo I e
  exact⟨_,.dict (kvs:=[]) h1 h2 h3 (by rw [h4];exact .nil) (by rw [h4];exact .nil)⟩
 |_,_,u,.dc1 (p:=a) (i:=i) (d:=d) n e q,r=> by
  cases (show u=aD a from r)
  obtain⟨_,o,es,ep,hs,t,y,ry,h1,h2,h3,h4⟩:=aio I e
  obtain⟨bs,ra⟩:=TD.reads I q ry
  exact⟨_,.dict (kvs:=[(.int i,d)]) h1 h2 h3 (by rw [h4];exact .cons (.int i t) .nil) (by rw [h4];exact .cons ra .nil)⟩
theorem TDs.reads(I:Inv X pins σ H s): ∀{vs:List V} {ds:List ae} {us:List af},TDs as H vs ds -> jo vs us -> ∃bs,gF s.heap us ds bs
 |_,_,_,.nil,r=> by cases r;exact⟨_,.nil⟩
 | _,_,_,.cons a b,r=> by
  cases r with
  |cons r1 r2=>
   obtain⟨as,h1⟩:=TD.reads I a r1
   obtain⟨bs,h2⟩:=TDs.reads I b r2
   exact⟨_,.cons h1 h2⟩
end
def toP(s:S):D -> Option ae
 |.da d=> some d
 |.con ds=> some (.tuple ds)
 |.frz ds=> some (.list ds)
 |.ref n=> match s[n]? with
  |some (.lst ds)=> (kj ds).map kH
  |_=> none
 |_=> none
noncomputable def toL(s:S):D -> Option (List D)
 |.lst ds=> some (ds.map D.da)
 |.ref n=> match s[n]? with
  |some (.lst ds)=> some ds
  |_=> none
 |_=> none
theorem aas{st:S}{d:D}{ds:List D}(rl:Rel K as H st)(r:RD K as H v d)(h:toL st d=some ds): ∃p xs,v=.ref p/\H p=some (.lst xs)/\RDs K as H xs ds:=by
 cases r with
 |da t=>
  cases t with
  |lst n e q=> cases h;exact⟨_,_,rfl,e,q.rd⟩
  |_=> cases h
 | @ref p n l hr=>
  have h:(match st[n]? with|some (O.lst ds)=> some ds|_=> none)=some ds:=h
  split at h
  ·rename_i ys e
   cases h
   obtain⟨_,xs,hx,rs⟩:=yg rl hr e
   exact⟨p,xs,rfl,hx,rs⟩
  ·cases h
 |_=> cases h
theorem RD.reads{st:S}{d:D}{pd:ae}{u:af}(I:Inv X pins σ H s)(rl:Rel X.K as H st)(r:RD X.K as H v d)(h:toP st d=some pd)(ru:RelV v u): ∃bs,eY s.heap u pd bs:=by
 cases r with
 |da t=> cases h;exact t.reads I ru
 |con q rs=>
  cases h
  obtain⟨its,rv,⟨o,h1,h2,k,h3⟩,z⟩:=I.tuple (q H)
  obtain⟨bs,ra⟩:=rs.reads I rv
  cases ru
  exact⟨_,.tuple h1 h2 h3 ra⟩
 |frz q rs=>
  cases h
  obtain⟨its,rv,⟨o,k,h1,h2,h3,h4⟩,z⟩:=I.list (q as H (Step.refl _ _).toStep0)
  obtain⟨bs,ra⟩:=rs.reads I rv
  cases ru
  exact⟨_,.list h1 h2 h4 ra⟩
 | @ref p n l hr=>
  have h:(match st[n]? with|some (O.lst ds)=> (kj ds).map kH|_=> none)=some pd:=h
  split at h
  ·rename_i ds e
   cases q:kj ds with
   |none=> rw [q]at h;cases h
   |some xs=>
    rw [q]at h
    cases h
    have e2:=zc q
    subst e2
    obtain⟨_,vs,hv,rs⟩:=yg rl hr e
    obtain⟨z,its,k,rv,h1⟩:=(show j5 X.prog X.w H s.heap p (.lst vs) from I.hok p _ hv)
    obtain⟨bs,ra⟩:=rs.td.reads I rv
    cases ru
    exact⟨_,.list h1 rfl rfl ra⟩
  ·cases h
 |_=> cases h
end
noncomputable def okD(d:ae):Bool:=d.canLay0&&decide (d.depth <=64)
theorem vd{f:af -> af -> Sem af}{g:D -> D -> S -> R D}(h: ∀(pins:List (Addr×Obj)) (sh:ai) (σ:St) (H:Hp) (as:As) (s:S) (x y:V) (dx dy:D) (v u:af) (Q:VK),Inv X pins σ H sh -> Rel X.K as H s -> RD X.K as H x dx -> RD X.K as H y dy -> RelV x v -> RelV y u ->
  Dn X.K (rD X.K) as H (g dx dy s) Q -> wpAny (model X.prog X.w) X.A (f v u) (EP X pins σ Q) X.xe sh):Op2 X f g:=
 ⟨fun x y H Q=> ∃as s dx dy,Rel X.K as H s/\RD X.K as H x dx/\RD X.K as H y dy/\Dn X.K (rD X.K) as H (g dx dy s) Q,
  fun pins sh σ H x y v u Q I rx ry ⟨as,s,dx,dy,rl,r1,r2,q⟩=> h pins sh σ H as s x y dx dy v u Q I rl r1 r2 rx ry q,
  fun as H s x y dx dy Q rl r1 r2 q=> ⟨as,s,dx,dy,rl,r1,r2,q⟩⟩
def apx(dx dy:D)(s:S):R D:=match toP s dx,toP s dy with
 |some a,some b=> if okD a=true/\okD b=true then .ok (.bl (aK a b)) s else .bad
 |_,_=>.bad
def apv(dx dy:D)(s:S):R D:=match toP s dx,toP s dy with
 |some a,some b=> if okD a=true/\okD b=true then .ok (.bl (!PyData.eqv a b)) s else .bad
 |_,_=>.bad
def gEq(dx dy:D)(s:S):R D:=match dx,dy with
 |.str x,.str y=>.ok (.bl (decide (x=y))) s
 |dx,dy=> apx dx dy s
def gNe(dx dy:D)(s:S):R D:=match dx,dy with
 |.str x,.str y=>.ok (.bl (!decide (x=y))) s
 |dx,dy=> apv dx dy s
theorem zg(h:okD d=true):d.canLay0=true/\d.depth <=64:=by
 unfold okD at h
 rw [aH]at h
 exact⟨h.1,of_decide_eq_true h.2⟩
theorem a6k(hu:X.A.units+64 < cLine):Op2 X (aT .Eq) apx:=vd fun pins sh σ H as s x y dx dy v u Q I rl r1 r2 rx ry h=> by
 unfold apx at h
 split at h
 ·rename_i a b ea eb
  split at h
  ·rename_i hok
   obtain⟨bs1,q1⟩:=r1.reads I rl ea rx
   obtain⟨bs2,q2⟩:=r2.reads I rl eb ry
   obtain⟨c1,d1⟩:=zg hok.1
   obtain⟨c2,d2⟩:=zg hok.2
   exact SeqAt.compareEq_reads q1 q2 c1 c2 (by lia) ⟨.bl _,H,I,rfl,Dn.now (Q:=Q) h rl (.da (.bl _))⟩
  ·exact h.elim
 ·exact h.elim
theorem a76(hu:X.A.units+64 < cLine):Op2 X (aT .NotEq) apv:=vd fun pins sh σ H as s x y dx dy v u Q I rl r1 r2 rx ry h=> by
 unfold apv at h
 split at h
 ·rename_i a b ea eb
  split at h
  ·rename_i hok
   obtain⟨bs1,q1⟩:=r1.reads I rl ea rx
   obtain⟨bs2,q2⟩:=r2.reads I rl eb ry
   obtain⟨c1,d1⟩:=zg hok.1
   obtain⟨c2,d2⟩:=zg hok.2
   exact SeqAt.compareNe_reads q1 q2 c1 c2 (by lia) ⟨.bl _,H,I,rfl,Dn.now (Q:=Q) h rl (.da (.bl _))⟩
  ·exact h.elim
 ·exact h.elim
theorem aoo(x y:Str):decide (V.str x=V.str y)=decide (x=y):=by
 rw [aW,decide_eq_true_eq,decide_eq_true_eq,V.str.injEq]
theorem adk{x:Str}(h:RD K as H v (.str x)):v=.str x:=by
 cases h with|da t=> cases t;rfl
theorem axi(hu:X.A.units+64 < cLine):Op2 X (aT .Eq) gEq:=vd fun pins sh σ H as s x y dx dy v u Q I rl r1 r2 rx ry h=> by
 unfold gEq at h
 split at h
 ·cases adk r1;cases adk r2
  exact a6v pins sh σ H _ _ v u Q I rx ry ⟨rfl,by rw [aoo];exact Dn.now (Q:=Q) h rl (.da (.bl _))⟩
 ·obtain⟨r,ho,hr⟩:=(a6k (X:=X) hu).ex
  exact ho pins sh σ H x y v u Q I rx ry (hr as H s x y _ _ Q rl r1 r2 h)
theorem a2k(hu:X.A.units+64 < cLine):Op2 X (aT .NotEq) gNe:=vd fun pins sh σ H as s x y dx dy v u Q I rl r1 r2 rx ry h=> by
 unfold gNe at h
 split at h
 ·cases adk r1;cases adk r2
  exact a7a pins sh σ H _ _ v u Q I rx ry ⟨rfl,by rw [aoo];exact Dn.now (Q:=Q) h rl (.da (.bl _))⟩
 ·obtain⟨r,ho,hr⟩:=(a76 (X:=X) hu).ex
  exact ho pins sh σ H x y v u Q I rx ry (hr as H s x y _ _ Q rl r1 r2 h)
noncomputable def ato:ae -> Option (List ae)
 |.list ds=> some ds
 |.tuple ds=> some ds
 |_=> none
noncomputable def nb(n b:Bool):Bool:=match n with
 |true=> !b
 |false=> b
def auj(neg:Bool)(dx dy:D)(s:S):R D:=match toP s dx,(toP s dy).bind ato with
 |some a,some ds=> if okD a=true/\ds.all okD=true then .ok (.bl (nb neg (ds.any fun d=> aK d a))) s else .bad
 |_,_=>.bad
def apq(neg:Bool)(dx dy:D)(s:S):R D:=match dx,dy with
 |.str a,.str b=>.ok (.bl (nb neg (!(eg b a 0 b.length 1).isEmpty))) s
 |dx,dy=> auj neg dx dy s
open Classical in
theorem ayh{sh:ai}{v:af}{bs:List Addr}(ra:eY sh.heap v a bs)(ha:okD a=true)(hu:A.units+64 < cLine){us:List af}{cs:List Addr}(h:gF sh.heap us ds cs)(hd:ds.all okD=true):
  ∃e:af -> Bool,(∀y∈us,lm A sh y v (e y))/\us.any e=ds.any fun d=> aK d a:=by
 refine⟨fun y=> decide (∃d cs,eY sh.heap y d cs/\aK d a=true),?_⟩
 have one: ∀{y:af} {d:ae} {cs:List Addr},eY sh.heap y d cs -> decide (∃d cs,eY sh.heap y d cs/\aK d a=true)=aK d a:=fun {y d cs} r=> by
  (rw [aW,decide_eq_true_eq])
  constructor
  ·rintro⟨d',cs',r',e⟩
   obtain⟨q,_⟩:=PyProof.Rows.reads_det (fun _ _ e _=> e) r r'
   subst q;exact e
  ·exact fun e=> ⟨d,cs,r,e⟩
 induction us generalizing ds cs with
 |nil=>
  cases h
  exact⟨fun _ z=> (by cases z),rfl⟩
 | cons u us ih=>
  cases h with
  | cons r rs=>
   rw [cX,aH]at hd
   obtain⟨i1,i2⟩:=ih rs hd.2
   obtain⟨l1,m1⟩:=zg hd.1
   obtain⟨l2,m2⟩:=zg ha
   refine⟨fun y hy=> ?_,?_⟩
   ·rcases aw.mp hy with z|z
    ·subst z
     show lm A sh y v (decide (∃d cs,eY sh.heap y d cs/\aK d a=true))
     rw [one r]
     exact SeqAt.eqAt_reads _ _ A sh _ _ _ _ r ra l1 l2 (by lia)
    ·exact i1 y z
   ·rw [gC,gC,i2,one r]
theorem att(A:bf):A.in1.units <=A.units+1:=by
 show (A.in1).units <=A.units+1
 first|exact aq _|(unfold Around.in1;simp)|simp [Around.in1]
theorem a42(neg:Bool){op:me}(hop:(neg=false/\op=.In)\/(neg=true/\op=.NotIn))(hu:X.A.units+65 < cLine):Op2 X (aT op) (auj neg):=vd fun pins sh σ H as s x y dx dy v u Q I rl r1 r2 rx ry h=> by
 unfold auj at h
 split at h
 ·rename_i a ds ea ed
  split at h
  ·rename_i hok
   obtain⟨bs1,q1⟩:=r1.reads I rl ea rx
   cases e2:toP s dy with
   |none=> rw [e2]at ed;cases ed
   | some pd=>
    rw [e2]at ed
    have ed:ato pd=some ds:=ed
    obtain⟨bs2,q2⟩:=r2.reads I rl e2 ry
    have hin:=att X.A
    cases q2 with
    | list k1 k2 k3 k4=>
     cases ed
     obtain⟨e,he,ha⟩:=ayh (A:=X.A.in1) q1 hok.1 (by lia) k4 hok.2
     rcases hop with ⟨rfl,rfl⟩|⟨rfl,rfl⟩
     ·refine SeqAt.in_listAt e ⟨_,k1,k2,_,k3⟩ (fun y hy=> he y (by simpa using hy)) ⟨.bl _,H,I,rfl,?_⟩
      rw [←gG,ha]
      exact Dn.now (Q:=Q) h rl (.da (.bl _))
     ·refine SeqAt.notIn_listAt e ⟨_,k1,k2,_,k3⟩ (fun y hy=> he y (by simpa using hy)) ⟨.bl _,H,I,rfl,?_⟩
      rw [←gG,ha]
      exact Dn.now (Q:=Q) h rl (.da (.bl _))
    | tuple k1 k2 k3 k4=>
     cases ed
     obtain⟨e,he,ha⟩:=ayh (A:=X.A.in1) q1 hok.1 (by lia) k4 hok.2
     rcases hop with ⟨rfl,rfl⟩|⟨rfl,rfl⟩
     ·refine SeqAt.in_tupleAt e ⟨_,k1,k2,_,k3⟩ (fun y hy=> he y (by simpa using hy)) ⟨.bl _,H,I,rfl,?_⟩
      rw [←gG,ha]
      exact Dn.now (Q:=Q) h rl (.da (.bl _))
     ·refine SeqAt.notIn_tupleAt e ⟨_,k1,k2,_,k3⟩ (fun y hy=> he y (by simpa using hy)) ⟨.bl _,H,I,rfl,?_⟩
      rw [←gG,ha]
      exact Dn.now (Q:=Q) h rl (.da (.bl _))
    |_=> cases ed
  ·exact h.elim
 ·exact h.elim
theorem ay6(neg:Bool){op:me}(hop:(neg=false/\op=.In)\/(neg=true/\op=.NotIn))(hu:X.A.units+65 < cLine):Op2 X (aT op) (apq neg):=vd fun pins sh σ H as s x y dx dy v u Q I rl r1 r2 rx ry h=> by
 unfold apq at h
 split at h
 ·rename_i a b
  cases r2.str_inv
  cases r1.str_inv
  rcases hop with ⟨rfl,rfl⟩|⟨rfl,rfl⟩
  ·exact ash pins sh σ H _ _ v u Q I rx ry ⟨a,b,rfl,rfl,Dn.now (Q:=Q) h rl (.da (.bl _))⟩
  ·exact als pins sh σ H _ _ v u Q I rx ry ⟨a,b,rfl,rfl,Dn.now (Q:=Q) h rl (.da (.bl _))⟩
 ·obtain⟨r,ho,hr⟩:=(a42 (X:=X) neg hop hu).ex
  exact ho pins sh σ H x y v u Q I rx ry (hr as H s x y _ _ Q rl r1 r2 h)
abbrev gIn:=apq false
abbrev qu:=apq true
theorem a8a(hu:X.A.units+65 < cLine):Op2 X (aT .In) gIn:=ay6 false (.inl ⟨rfl,rfl⟩) hu
theorem a0x(hu:X.A.units+65 < cLine):Op2 X (aT .NotIn) qu:=ay6 true (.inr ⟨rfl,rfl⟩) hu
def jv(m:Bool)(dx dy:D)(s:S):R D:=match dx,dy with
 |.int i,.int j=>.ok (.int (i+j)) s
 |.bl b,.int j=>.ok (.int (b01 b+j)) s
 |.str a,.str b=> if a.length+b.length <=sizeLine then .ok (.str (a++b)) s else .bad
 |.tup xs,.tup ys=> if xs.length+ys.length <=sizeLine then .ok (.tup (xs++ys)) s else .bad
 |dx,dy=> match toL s dx,toL s dy with
  |some xs,some ys=> if xs.length+ys.length <=sizeLine then qw m (xs++ys) s else .bad
  |_,_=>.bad
theorem RD.tup_inv(h:RD K as H v (.tup ds)): ∃p xs,v=.ref p/\ ¬as.has p/\H p=some (.tup xs)/\TDs as H xs ds:=by
 cases h with|da t=> cases t with|tup n e r=> exact⟨_,_,rfl,n,e,r⟩
theorem RD.lst_inv(h:RD K as H v (.lst ds)): ∃p xs,v=.ref p/\ ¬as.has p/\H p=some (.lst xs)/\TDs as H xs ds:=by
 cases h with|da t=> cases t with|lst n e r=> exact⟨_,_,rfl,n,e,r⟩
theorem ay5(m:Bool):Op2 X (binaryOp .Add) (jv m):=vd fun pins sh σ H as s x y dx dy v u Q I rl r1 r2 rx ry h=> by
 unfold jv at h
 split at h
 ·rename_i i j
  cases r1.int_inv;cases r2.int_inv
  exact at4 pins sh σ H _ _ v u Q I rx ry ⟨i,j,rfl,rfl,Dn.now (Q:=Q) h rl (.da (.int _))⟩
 ·rename_i b j
  cases r1.bl_inv;cases r2.int_inv
  exact azd pins sh σ H _ _ v u Q I rx ry ⟨b01 b,j,rfl,rfl,Dn.now (Q:=Q) h rl (.da (.int _))⟩
 ·rename_i a b
  split at h
  ·rename_i hz
   cases r1.str_inv;cases r2.str_inv
   exact apl pins sh σ H _ _ v u Q I rx ry ⟨a,b,rfl,rfl,hz,Dn.now (Q:=Q) h rl (.da (.str _))⟩
  ·exact h.elim
 ·rename_i xs ys
  split at h
  ·rename_i hz
   obtain⟨p,vs,rfl,n1,e1,t1⟩:=r1.tup_inv
   obtain⟨q,ws,rfl,n2,e2,t2⟩:=r2.tup_inv
   refine axe pins sh σ H _ _ v u Q I rx ry ⟨p,q,vs,ws,rfl,rfl,SqT.of e1,SqT.of e2,by rw [t1.length,t2.length];exact hz,fun e=> ?_,fun _ e=> ?_,fun _ _ r H' n=> ?_⟩
   ·subst e
    cases t1
    exact Dn.now (Q:=Q) h rl (.da (.tup n2 e2 t2))
   ·subst e
    cases t2
    rw [bY]at h
    exact Dn.now (Q:=Q) h rl (.da (.tup n1 e1 t1))
   ·exact h (.ref r) as H' (j4 n) (rl.new n) (.da (.tup (fun z=> rl.has z n.no) n.at ((t1.append t2).mono (j4 n))))
  ·exact h.elim
 ·split at h
  ·rename_i xs ys e1 e2
   split at h
   ·rename_i hz
    obtain⟨p,vs,rfl,h1,t1⟩:=aas rl r1 e1
    obtain⟨q,ws,rfl,h2,t2⟩:=aas rl r2 e2
    exact a07 pins sh σ H _ _ v u Q I rx ry ⟨p,q,vs,ws,rfl,rfl,h1,h2,by rw [t1.length,t2.length];exact hz,fun r H' n=> aa9 h rl (t1.append t2) n⟩
   ·exact h.elim
  ·exact h.elim
def ac0(dx dy:D)(s:S):R D:=match dx,dy with
 |.int i,.int j=>.ok (.int (i - j)) s
 |.bl b,.int j=>.ok (.int (b01 b - j)) s
 |.int i,.bl b=>.ok (.int (i - b01 b)) s
 |_,_=>.bad
theorem a6s:Op2 X (binaryOp .Sub) ac0:=vd fun pins sh σ H as s x y dx dy v u Q I rl r1 r2 rx ry h=> by
 unfold ac0 at h
 split at h
 ·rename_i i j
  cases r1.int_inv;cases r2.int_inv
  exact ams pins sh σ H _ _ v u Q I rx ry ⟨i,j,rfl,rfl,Dn.now (Q:=Q) h rl (.da (.int _))⟩
 ·rename_i b j
  cases r1.bl_inv;cases r2.int_inv
  exact a0u pins sh σ H _ _ v u Q I rx ry ⟨b01 b,j,rfl,rfl,Dn.now (Q:=Q) h rl (.da (.int _))⟩
 ·rename_i i b
  cases r1.int_inv;cases r2.bl_inv
  exact az9 pins sh σ H _ _ v u Q I rx ry ⟨i,b01 b,rfl,rfl,Dn.now (Q:=Q) h rl (.da (.int _))⟩
 ·exact h.elim
instance (i j:Int):Decidable (ain i j):=by unfold ain;infer_instance
instance (i j:Int):Decidable (aqk i j):=by unfold aqk;infer_instance
instance (i j:Int):Decidable (aq6 i j):=by unfold aq6;infer_instance
noncomputable def gI2(C:Int -> Int -> Prop)[∀i j,Decidable (C i j)](f:Int -> Int -> Int)(dx dy:D)(s:S):R D:=match dx,dy with
 |.int i,.int j=> if C i j then .ok (.int (f i j)) s else .bad
 |_,_=>.bad
theorem aku{op:lq}{C:Int -> Int -> Prop}[∀i j,Decidable (C i j)]{f:Int -> Int -> Int}(o:OpR X (binaryOp op) (rI C fun i j=>.int (f i j))):Op2 X (binaryOp op) (gI2 C f):=vd fun pins sh σ H as s x y dx dy v u Q I rl r1 r2 rx ry h=> by
 unfold gI2 at h
 split at h
 ·rename_i i j
  split at h
  ·rename_i hc
   cases r1.int_inv;cases r2.int_inv
   exact o pins sh σ H _ _ v u Q I rx ry ⟨i,j,rfl,rfl,hc,Dn.now (Q:=Q) h rl (.da (.int _))⟩
  ·exact h.elim
 ·exact h.elim
def zz:D -> D -> S -> R D:=gI2 ain fun i j=> i*j
def af7:D -> D -> S -> R D:=gI2 aqk fun i j=> i/j
def zx:D -> D -> S -> R D:=gI2 (fun _ j=> 0 < j) fun i j=> i % j
def aqt:D -> D -> S -> R D:=gI2 aq6 fun i j=> i^j.toNat
theorem axt:Op2 X (binaryOp .Mult) zz:=aku a40
theorem a6p:Op2 X (binaryOp .FloorDiv) af7:=aku a05
theorem a5h:Op2 X (binaryOp .Mod) zx:=aku a4n
theorem a6r:Op2 X (binaryOp .Pow) aqt:=aku a4b
noncomputable def gC2(f:Int -> Int -> Bool)(dx dy:D)(s:S):R D:=match dx,dy with
 |.int i,.int j=>.ok (.bl (f i j)) s
 |_,_=>.bad
theorem aqy{op:me}{f:Int -> Int -> Bool}(o:OpR X (aT op) (rI0 fun i j=>.bl (f i j))):Op2 X (aT op) (gC2 f):=vd fun pins sh σ H as s x y dx dy v u Q I rl r1 r2 rx ry h=> by
 unfold gC2 at h
 split at h
 ·rename_i i j
  cases r1.int_inv;cases r2.int_inv
  exact o pins sh σ H _ _ v u Q I rx ry ⟨i,j,rfl,rfl,Dn.now (Q:=Q) h rl (.da (.bl _))⟩
 ·exact h.elim
def gLe:D -> D -> S -> R D:=gC2 fun i j=> decide (i <=j)
def gGt:D -> D -> S -> R D:=gC2 fun i j=> decide (j < i)
def gGe:D -> D -> S -> R D:=gC2 fun i j=> decide (j <=i)
noncomputable def gLt(dx dy:D)(s:S):R D:=match dx,dy with
 |.int i,.int j=>.ok (.bl (decide (i < j))) s
 |.str a,.str b=>.ok (.bl (decide (a.cps.toList < b.cps.toList))) s
 |_,_=>.bad
theorem a8v:Op2 X (aT .LtE) gLe:=aqy a5i
theorem a8q:Op2 X (aT .Gt) gGt:=aqy a7e
theorem a2i:Op2 X (aT .GtE) gGe:=aqy a6q
theorem a7l:Op2 X (aT .Lt) gLt:=vd fun pins sh σ H as s x y dx dy v u Q I rl r1 r2 rx ry h=> by
 unfold gLt at h
 split at h
 ·rename_i i j
  cases r1.int_inv;cases r2.int_inv
  exact a5z pins sh σ H _ _ v u Q I rx ry ⟨i,j,rfl,rfl,Dn.now (Q:=Q) h rl (.da (.bl _))⟩
 ·rename_i a b
  cases r1.str_inv;cases r2.str_inv
  exact arl pins sh σ H _ _ v u Q I rx ry ⟨a,b,rfl,rfl,Dn.now (Q:=Q) h rl (.da (.bl _))⟩
 ·exact h.elim
noncomputable def isN:D -> Bool
 |.non=> true
 |_=> false
theorem ayn{d:D}(r:RD K as H v d):decide (v=.non)=isN d:=by
 cases r with
 |da t=> cases t <;> rfl
 |_=> rfl
def gIs(dx dy:D)(s:S):R D:=match dy with
 |.non=>.ok (.bl (isN dx)) s
 |_=>.bad
def abm(dx dy:D)(s:S):R D:=match dy with
 |.non=>.ok (.bl (!isN dx)) s
 |_=>.bad
theorem RD.non_inv(h:RD K as H v .non):v=.non:=by
 cases h with|da t=> cases t;rfl
theorem a87:Op2 X (aT .Is) gIs:=vd fun pins sh σ H as s x y dx dy v u Q I rl r1 r2 rx ry h=> by
 unfold gIs at h
 split at h
 ·cases r2.non_inv
  refine a41 pins sh σ H _ _ v u Q I rx ry ⟨rfl,?_⟩
  rw [ayn r1]
  exact Dn.now (Q:=Q) h rl (.da (.bl _))
 ·exact h.elim
theorem a0r:Op2 X (aT .IsNot) abm:=vd fun pins sh σ H as s x y dx dy v u Q I rl r1 r2 rx ry h=> by
 unfold abm at h
 split at h
 ·cases r2.non_inv
  refine a0g pins sh σ H _ _ v u Q I rx ry ⟨rfl,?_⟩
  rw [ayn r1]
  exact Dn.now (Q:=Q) h rl (.da (.bl _))
 ·exact h.elim
end PF
namespace PF
open PySem PySem.Spec
open L2
variable[XW]
noncomputable def adp(s:S):D -> Option (List D)
 |.lst ds=> some (ds.map D.da)
 |.tup ds=> some (ds.map D.da)
 |.con ds=> some (ds.map D.da)
 |.frz ds=> some (ds.map D.da)
 |.ref n=> match s[n]? with
  |some (.lst ds)=> some ds
  |_=> none
 |_=> none
theorem acs{d:D}{ds:List D}(rl:Rel K as H s)(r:RD K as H v d)(h:adp s d=some ds): ∃p xs,v=.ref p/\(SqL K H p xs\/SqT K H p xs)/\RDs K as H xs ds:=by
 cases r with
 |da t=>
  cases t with
  |lst n e q=> cases h;exact⟨_,_,rfl,.inl (SqL.of e),q.rd⟩
  |tup n e q=> cases h;exact⟨_,_,rfl,.inr (SqT.of e),q.rd⟩
  |_=> cases h
 |con q r=> cases h;exact⟨_,_,rfl,.inr (q H),r.rd⟩
 |frz q r=> cases h;exact⟨_,_,rfl,.inl (q as H (Step.refl _ _).toStep0),r.rd⟩
 | @ref p n l hr=>
  have h:(match s[n]? with|some (O.lst ds)=> some ds|_=> none)=some ds:=h
  split at h
  ·rename_i ys e
   cases h
   obtain⟨_,xs,hx,rs⟩:=yg rl hr e
   exact⟨p,xs,rfl,.inl (SqL.of hx),rs⟩
  ·cases h
 |_=> cases h
theorem RDs.atI{xs:List V}{ds:List D}{d:D}(r:RDs K as H xs ds)(h:atI ds i=some d): ∃v,atI xs i=some v/\RD K as H v d:=by
 unfold L2.atI at h⊢
 rw [r.length]
 cases q:ixN ds.length i with
 |none=> rw [q]at h;cases h
 |some j=>
  rw [q]at h
  obtain⟨v,hv,rv⟩:=r.get (show ds[j]?=some d from h)
  exact⟨v,hv,rv⟩
def gIx(dx dy:D)(s:S):R D:=match dx,dy with
 | .str z,.int i=> if z.length <=sizeLine then match atI z.cps.toList i with
   |some c=>.ok (.str ⟨#[c]⟩) s
   |none=>.bad
  else .bad
 | dx,.int i=> match adp s dx with
  |some ds=> match atI ds i with
   |some d=>.ok d s
   |none=>.bad
  |none=>.bad
 |_,_=>.bad
theorem a56:alj K (rIx K) gIx:=by
 intro as H s x y dx dy Q rl r1 r2 h
 unfold gIx at h
 split at h
 ·rename_i z i
  cases r1.str_inv;cases r2.int_inv
  split at h
  ·rename_i hz
   split at h
   ·rename_i c e
    exact .inr (.inr ⟨z,i,c,rfl,rfl,hz,e,Dn.now (Q:=Q) h rl (.da (.str _))⟩)
   ·exact h.elim
  ·exact h.elim
 ·rename_i i _
  cases r2.int_inv
  split at h
  ·rename_i ds e
   split at h
   ·rename_i d e2
    obtain⟨p,xs,rfl,sq,rs⟩:=acs rl r1 e
    obtain⟨v,hv,rv⟩:=rs.atI e2
    rcases sq with sq|sq
    ·exact .inl ⟨p,xs,i,v,rfl,rfl,sq,hv,Dn.now (Q:=Q) h rl rv⟩
    ·exact .inr (.inl ⟨p,xs,i,v,rfl,rfl,sq,hv,Dn.now (Q:=Q) h rl rv⟩)
   ·exact h.elim
  ·exact h.elim
 ·exact h.elim
theorem a5j{a b:Expr}{fb:FE}(ha:RE X a fa)(hb:RE X b fb)(hs:aon b:=by exact fun _ _=> rfl):RE X (.Subscript a b pos) (fOp gIx fa fb):=by
 obtain⟨ta,pa,ra⟩:=ha.ex
 obtain⟨tb,pb,rb⟩:=hb.ex
 exact⟨_,a68 a1z pa pb hs,ai1 a56 ra rb⟩
def qx{α:Type}(xs:List α)(lo hi:Option Int):List α:=(xs.drop (HT.sIx xs.length 0 lo)).take (HT.sIx xs.length xs.length hi - HT.sIx xs.length 0 lo)
theorem RDs.cut{xs:List V}{ds:List D}(r:RDs K as H xs ds)(lo hi:Option Int):RDs K as H (y4 xs lo hi) (qx ds lo hi):=by
 unfold y4 qx
 rw [r.length]
 exact (r.drop _).take _
theorem TDs.cut{xs:List V}(r:TDs as H xs ds)(lo hi:Option Int):TDs as H (y4 xs lo hi) (qx ds lo hi):=by
 unfold y4 qx
 rw [r.length]
 exact (r.drop _).take _
noncomputable def aw0(z:Str)(lo hi:Option Int):Str:=if ((eV lo hi 1 z.length).length==z.length)=true then z else ⟨((eV lo hi 1 z.length).filterMap (z.cps[·]?)).toArray⟩
def a8r:V -> Option Int -> Option Int -> Hp -> VK -> Prop:=fun x lo hi H Q=> ∃z,x=.str z/\z.length <=sizeLine/\Q (.str (aw0 z lo hi)) H
theorem az0:SlR X a8r:=by
 intro pins s σ H x v vl vu lo hi sl Q I rx hs pl pu h
 obtain⟨z,rfl,hz,q⟩:=h
 obtain⟨t,rfl⟩:=rx
 obtain⟨l,rfl,el⟩:=part_of pl
 obtain⟨u,rfl,eu⟩:=part_of pu
 refine⟨"str",_,PySem.F.slot_str_getitem.lookup,rfl,?_⟩
 have hs':s.heap.IsSlice sl l u none:=by
  obtain⟨o,ho,hc,hd⟩:=hs
  exact⟨o,ho,hc,hd⟩
 refine wpAny_getItem_str_slice hs' rfl ?_
 have ep:gr z l u none=eV lo hi 1 z.length:=by
  unfold gr
  rw [el,eu];rfl
 have hlen:(gr z l u none).length <=z.length:=sliceIndices_le _ _ _
 have hfl:((gr z l u none).filterMap (z.cps[·]?)).length <=z.length:=ax (List.length_filterMap_le _ _) hlen
 unfold aw0 at q
 rw [←ep]at q
 unfold sliceMade
 split
 ·rename_i c
  rw [if_pos (by simpa using c)]at q
  exact⟨.str z,H,I,⟨t,rfl⟩,q⟩
 ·rename_i c
  rw [if_neg (by simpa using c)]at q
  have len:(⟨((gr z l u none).filterMap (z.cps[·]?)).toArray⟩:Str).length <=z.length:=by
   show (((gr z l u none).filterMap (z.cps[·]?)).toArray).size <=z.length
   rw [az];exact hfl
  exact⟨ax len hz,.str _,H,I.tok _,⟨_,rfl⟩,q⟩
def gSl(m:Bool)(d:D)(lo hi:Option Int)(s:S):R D:=match d with
 |.str z=> if z.length <=sizeLine then .ok (.str (aw0 z lo hi)) s else .bad
 |.tup ds=>.ok (.tup (qx ds lo hi)) s
 |.frz ds=> qw m (qx (ds.map D.da) lo hi) s
 |d=> match toL s d with
  |some ds=> qw m (qx ds lo hi) s
  |none=>.bad
abbrev FO:=En -> S -> R (Option Int)
noncomputable def fNo:FO:=fun _ s=>.ok none s
def kd(f:FE):FO:=fun ρ s=> (f ρ s).bind fun d s1=> match d with
 |.int i=>.ok (some i) s1
 |_=>.bad
def a8h(K:aj)(t:TO)(f:FO):Prop:= ∀as σ H ρ s Q,Rel K as H s -> Envs K as H ρ σ -> Dn K (fun _ _ (b a:Option Int)=> b=a) as H (f ρ s) Q -> t σ H Q
structure ROp (X:Cx) (e:Option Expr) (f:FO):Prop where
 ex: ∃t,PO X e t/\a8h X.K t f
theorem a9e:ROp X none fNo:=⟨_,azr,fun as σ H ρ s Q rl en h=> Dn.now (Q:=Q) h rl rfl⟩
theorem a93{a:Expr}(h:RE X a fa):ROp X (some a) (kd fa):=by
 obtain⟨t,p,r⟩:=h.ex
 refine⟨_,a1r p,fun as σ H ρ s Q rl en h=> ?_⟩
 refine r as σ H ρ s _ rl en (Dn.bind h fun d s1 as1 H1 v st1 rl1 r1 h1=> ?_)
 split at h1
 ·cases r1.int_inv
  exact⟨_,rfl,Dn.now (Q:=Q) h1 rl1 rfl⟩
 ·exact h1.elim
def fSl(m:Bool)(f:FE)(lo hi:FO):FE:=fun ρ s=> (f ρ s).bind fun d s1=> (lo ρ s1).bind fun l s2=> (hi ρ s2).bind fun u s3=> gSl m d l u s3
theorem a8n(m:Bool){a:Expr}{lo hi:Option Expr}{fl fu:FO}{p2:Pos}(ha:RE X a fa)(hl:ROp X lo fl)(hu:ROp X hi fu):RE X (.Subscript a (.Slice lo hi none p2) pos) (fSl m fa fl fu):=by
 obtain⟨ta,pa,ra⟩:=ha.ex
 obtain⟨tl,pl,rl'⟩:=hl.ex
 obtain⟨tu,pu,ru⟩:=hu.ex
 refine⟨_,aw9 (az0.or (a18.or aub)) pa pl pu,fun as σ H ρ s Q rl en h=> ?_⟩
 refine ra as σ H ρ s _ rl en (Dn.bind h fun d s1 as1 H1 v st1 rl1 r1 h1=> ?_)
 refine rl' as1 σ H1 ρ s1 _ rl1 (en.mono st1) (Dn.bind h1 fun l s2 as2 H2 l' st2 rl2 e2 h2=> ?_)
 have e2:l'=l:=e2
 subst e2
 refine ru as2 σ H2 ρ s2 _ rl2 ((en.mono st1).mono st2) (Dn.bind h2 fun u s3 as3 H3 u' st3 rl3 e3 h3=> ?_)
 have e3:u'=u:=e3
 subst e3
 have r1:=(r1.mono st2).mono st3
 unfold gSl at h3
 split at h3
 ·cases r1.str_inv
  split at h3
  ·rename_i hz
   exact .inl ⟨_,rfl,hz,Dn.now (Q:=Q) h3 rl3 (.da (.str _))⟩
  ·exact h3.elim
 ·obtain⟨p,xs,rfl,n,e,t⟩:=r1.tup_inv
  refine .inr (.inl ⟨p,xs,rfl,SqT.of e,fun c=> ?_,fun q H' nw=> ?_⟩)
  ·have t2:=t.cut l' u'
   rw [c]at t2
   exact Dn.now (Q:=Q) h3 rl3 (.da (.tup n e t2))
  ·exact h3 (.ref q) as3 H' (j4 nw) (rl3.new nw) (.da (.tup (fun z=> rl3.has z nw.no) nw.at ((t.cut l' u').mono (j4 nw))))
 ·cases r1 with
  |frz q t=> exact .inr (.inr ⟨_,_,rfl,q as3 H3 (Step.refl _ _).toStep0,fun r H' nw=> aa9 h3 rl3 (t.rd.cut l' u') nw⟩)
 ·split at h3
  ·rename_i ds e
   obtain⟨p,xs,rfl,hx,rs⟩:=aas rl3 r1 e
   exact .inr (.inr ⟨p,xs,rfl,SqL.of hx,fun r H' nw=> aa9 h3 rl3 (rs.cut l' u') nw⟩)
  ·exact h3.elim
def aql(d:D)(s:S):R Bool:=match d with
 |.non=>.ok false s
 |.bl b=>.ok b s
 |.int i=>.ok (i !=0) s
 |.str z=> if z.length <=sizeLine then .ok ((z.length:Int) !=0) s else .bad
 |d=> match adp s d with
  |some ds=>.ok (!ds.isEmpty) s
  |none=>.bad
def j2(f:FE):FT:=fun ρ s=> (f ρ s).bind aql
theorem RDs.empty{xs:List V}{ds:List D}(r:RDs K as H xs ds):xs.isEmpty=ds.isEmpty:=by cases r <;> rfl
theorem zm{a:Expr}(h:RE X a fa)(he: ∀whole,isTrue a X.env whole=(do let v←whole;standAt a.pos;holding [v] (truthy v)):=by exact fun _=> rfl):RT X a (j2 fa):=by
 obtain⟨t,p,r⟩:=h.ex
 refine⟨_,awu p he,fun as σ H ρ s Q rl en h=> ?_⟩
 refine r as σ H ρ s _ rl en (Dn.bind h fun d s1 as1 H1 v st1 rl1 r1 h1=> ?_)
 unfold aql at h1
 split at h1
 ·cases r1.non_inv;exact⟨false,rfl,Dn.now (Q:=Q) h1 rl1 rfl⟩
 ·cases r1.bl_inv;exact⟨_,rfl,Dn.now (Q:=Q) h1 rl1 rfl⟩
 ·cases r1.int_inv;exact⟨_,rfl,Dn.now (Q:=Q) h1 rl1 rfl⟩
 ·cases r1.str_inv
  split at h1
  ·rename_i hz
   exact⟨_,⟨hz,rfl⟩,Dn.now (Q:=Q) h1 rl1 rfl⟩
  ·exact h1.elim
 ·split at h1
  ·rename_i ds e
   obtain⟨p,xs,rfl,sq,rs⟩:=acs rl1 r1 e
   refine⟨!xs.isEmpty,?_,?_⟩
   ·rcases sq with sq|sq
    ·exact .inl ⟨xs,sq,rfl⟩
    ·exact .inr (.inl ⟨xs,sq,rfl⟩)
   ·rw [rs.empty];exact Dn.now (Q:=Q) h1 rl1 rfl
  ·exact h1.elim
structure CB (X:Cx) (f:af) (g:FF):Prop where
 ex: ∃r,va X f r/\ ∀as H s xs ds Q,Rel X.K as H s -> RDs X.K as H xs ds -> Dn X.K (rD X.K) as H (g ds s) Q -> r xs H Q
theorem zr{f:af}{g:FF}(h: ∀(pins:List (Addr×Obj)) (sh:ai) (σ:St) (H:Hp) (as:As) (s:S) (xs:List V) (ds:List D) (us:List af) (Q:VK),Inv X pins σ H sh -> Rel X.K as H s -> RDs X.K as H xs ds -> jo xs us ->
  Dn X.K (rD X.K) as H (g ds s) Q -> wpAny (model X.prog X.w) X.A (call f us) (EP X pins σ Q) X.xe sh):CB X f g:=
 ⟨fun xs H Q=> ∃as s ds,Rel X.K as H s/\RDs X.K as H xs ds/\Dn X.K (rD X.K) as H (g ds s) Q,fun pins sh σ H xs us Q I r ⟨as,s,ds,rl,rs,q⟩=> h pins sh σ H as s xs ds us Q I rl rs r q,fun as H s xs ds Q rl rs q=> ⟨as,s,ds,rl,rs,q⟩⟩
def fCB(g:FF)(f:FA):FE:=fun ρ s=> (f ρ s).bind g
section
variable{x:Str}{id:String}{g:FF}{f:FA}{e:Expr}{es:List Expr}{p pos:Pos}
theorem atf{r:List V -> Hp -> VK -> Prop}{t:TA}(hr: ∀as H s xs ds Q,Rel K as H s -> RDs K as H xs ds -> Dn K (rD K) as H (g ds s) Q -> r xs H Q)(h:a2b K t f):aaa K (tCB r t) (fCB g f):=by
 intro as σ H ρ s Q rl en q
 exact h as σ H ρ s _ rl en (Dn.bind q fun ds s1 as1 H1 vs st1 rl1 r1 h1=> hr as1 H1 s1 vs ds Q rl1 r1 h1)
theorem ym(c:CB X (.builtin id) g)(hm:X.mg x=none)(hv:a9 x=some (.builtin id))(ha:RA X (e::es) f)(hg:Gl X x:=by rfl)(hn:x≠"__name__":=by decide)(hdb:(x==("__debug__":Str))=false:=by decide)
  (hs:starEach (e::es) X.env=(false,eval e X.env)::starEach es X.env:=by rfl) (hpl:(backTo pos (starEach es X.env)).any (·.1)=false:=by rfl):RE X (.Call (.Name x p) (e::es) [] pos) (fCB g f):=by
 obtain⟨r,hc,hr⟩:=c.ex
 obtain⟨t,pa,ra⟩:=ha.ex
 exact⟨_,ae5 hc hg hm hv pa hn hdb hs hpl,atf hr ra⟩
theorem akr(c:CB X (.type id) g)(hm:X.mg x=none)(hv:a9 x=some (.type id))(ha:RA X (e::es) f)(hg:Gl X x:=by rfl)(hn:x≠"__name__":=by decide)(hdb:(x==("__debug__":Str))=false:=by decide)
  (hs:starEach (e::es) X.env=(false,eval e X.env)::starEach es X.env:=by rfl) (hpl:(backTo pos (starEach es X.env)).any (·.1)=false:=by rfl):RE X (.Call (.Name x p) (e::es) [] pos) (fCB g f):=by
 obtain⟨r,hc,hr⟩:=c.ex
 obtain⟨t,pa,ra⟩:=ha.ex
 exact⟨_,af3 hc hg hm hv pa hn hdb hs hpl,atf hr ra⟩
end
def jr(ds:List D)(s:S):R D:=match ds with
 |[.str z]=> if z.length <=sizeLine then .ok (.int z.length) s else .bad
 |[d]=> match adp s d with
  |some xs=>.ok (.int xs.length) s
  |none=>.bad
 |_=>.bad
theorem aq5:CB X (.builtin "len") jr:=zr fun pins sh σ H as s xs ds us Q I rl rs ru h=> by
 unfold jr at h
 split at h
 ·obtain⟨v,rfl,rv⟩:=rs.one
  cases rv.str_inv
  split at h
  ·rename_i hz
   exact alf pins sh σ H _ us Q I ru ⟨_,rfl,hz,Dn.now (Q:=Q) h rl (.da (.int _))⟩
  ·exact h.elim
 ·obtain⟨v,rfl,rv⟩:=rs.one
  split at h
  ·rename_i ys e
   obtain⟨p,zs,rfl,sq,rz⟩:=acs rl rv e
   refine alw pins sh σ H _ us Q I ru ⟨p,zs,rfl,sq,?_⟩
   rw [rz.length]
   exact Dn.now (Q:=Q) h rl (.da (.int _))
  ·exact h.elim
 ·exact h.elim
noncomputable def agz(ds:List D)(s:S):R D:=match ds with
 |[.int i,.int j]=>.ok (.int (if j < i then j else i)) s
 |_=>.bad
noncomputable def af8(ds:List D)(s:S):R D:=match ds with
 |[.int i,.int j]=>.ok (.int (if j > i then j else i)) s
 |_=>.bad
theorem a78(hc:X.calm=true):CB X (.builtin "min") agz:=zr fun pins sh σ H as s xs ds us Q I rl rs ru h=> by
 unfold agz at h
 split at h
 ·obtain⟨v,w,rfl,rv,rw⟩:=rs.two
  cases rv.int_inv;cases rw.int_inv
  exact atu hc pins sh σ H _ us Q I ru ⟨_,_,rfl,Dn.now (Q:=Q) h rl (.da (.int _))⟩
 ·exact h.elim
theorem a5k(hc:X.calm=true):CB X (.builtin "max") af8:=zr fun pins sh σ H as s xs ds us Q I rl rs ru h=> by
 unfold af8 at h
 split at h
 ·obtain⟨v,w,rfl,rv,rw⟩:=rs.two
  cases rv.int_inv;cases rw.int_inv
  exact arb hc pins sh σ H _ us Q I ru ⟨_,_,rfl,Dn.now (Q:=Q) h rl (.da (.int _))⟩
 ·exact h.elim
def v9(m:Bool)(ds:List D)(s:S):R D:=match ds with
 |[d]=> match adp s d with
  |some xs=> qw m xs s
  |none=>.bad
 |_=>.bad
theorem at9(m:Bool):CB X (.type "list") (v9 m):=zr fun pins sh σ H as s xs ds us Q I rl rs ru h=> by
 unfold v9 at h
 split at h
 ·obtain⟨v,rfl,rv⟩:=rs.one
  split at h
  ·rename_i ys e
   obtain⟨p,zs,rfl,sq,rz⟩:=acs rl rv e
   exact aqm pins sh σ H _ us Q I ru ⟨p,zs,rfl,sq,fun r H' nw=> aa9 h rl rz nw⟩
  ·exact h.elim
 ·exact h.elim
def j6(ds:List D)(s:S):R D:=match ds with
 |[.tup xs]=>.ok (.tup xs) s
 |[.frz xs]=>.ok (.tup xs) s
 |[d]=> match toL s d with
  |some xs=> agq xs s
  |none=>.bad
 |_=>.bad
theorem a14:CB X (.type "tuple") j6:=zr fun pins sh σ H as s xs ds us Q I rl rs ru h=> by
 unfold j6 at h
 split at h
 ·obtain⟨v,rfl,rv⟩:=rs.one
  obtain⟨p,zs,rfl,n,e,t⟩:=rv.tup_inv
  exact acm pins sh σ H _ us Q I ru ⟨p,zs,rfl,.inr ⟨SqT.of e,Dn.now (Q:=Q) h rl (.da (.tup n e t))⟩⟩
 ·obtain⟨v,rfl,rv⟩:=rs.one
  cases rv with
  |frz q t=> exact acm pins sh σ H _ us Q I ru ⟨_,_,rfl,.inl ⟨q as H (Step.refl _ _).toStep0,fun r H' nw=> h (.ref r) as H' (j4 nw) (rl.new nw) (.da (.tup (fun z=> rl.has z nw.no) nw.at (t.mono (j4 nw))))⟩⟩
 ·obtain⟨v,rfl,rv⟩:=rs.one
  split at h
  ·rename_i ys e
   obtain⟨p,zs,rfl,hx,rz⟩:=aas rl rv e
   exact acm pins sh σ H _ us Q I ru ⟨p,zs,rfl,.inl ⟨SqL.of hx,fun r H' nw=> aoa h rl rz nw⟩⟩
  ·exact h.elim
 ·exact h.elim
def k9 (ds:List D) (s:S):R D:=match ds with
 | [d,.ty n]=> if n="str"\/n="int"\/n="bool"\/n="tuple"\/n="list" then match d with
   |.da d=>.ok (.bl (kx d n)) s
   |.ref k=> match s[k]? with
    |some (.lst _)=>.ok (.bl (n=="list")) s
    |_=>.bad
   |_=>.bad
  else .bad
 |_=>.bad
theorem TD.ty(t:TD as H v d):TyOf K H v (.type (tyD d)):=by
 cases t with
 |non=> exact .non
 |bl b=> exact .bl b
 |int i=> exact .int i
 |str x=> exact .str x
 |tup n e w=> exact .tup e
 |lst n e w=> exact .lst e
 |dct n e=> exact .dK e
 |dc1 n e q=> exact .dK e
theorem apu:CB X (.builtin "isinstance") k9:=zr fun pins sh σ H as s xs ds us Q I rl rs ru h=> by
 unfold k9 at h
 split at h
 ·rename_i d n
  obtain⟨v,w,rfl,rv,rw⟩:=rs.two
  obtain⟨u,u2,rfl,ru1,ru2⟩:=vals2 ru
  cases rw
  cases (show u2=cG n from ru2)
  split at h
  ·rename_i hn
   split at h
   ·rename_i d
    cases rv with
    |da t=> exact ajr I ru1 t.ty (as7 X.K d n hn) fun tk=> ⟨.bl _,H,I.tok _,rfl,Dn.now (Q:=Q) h rl (.da (.bl _))⟩
   ·rename_i k
    split at h
    ·rename_i ys e
     cases rv with
     |ref l hr=>
      obtain⟨_,zs,hz,_⟩:=yg rl hr e
      exact ajr I ru1 (.lst hz) (as7 X.K (.list []) n hn) fun tk=> ⟨.bl _,H,I.tok _,rfl,Dn.now (Q:=Q) h rl (.da (.bl _))⟩
    ·exact h.elim
   ·exact h.elim
  ·exact h.elim
 ·exact h.elim
end PF
namespace PF
open PySem PySem.Spec
open L2
variable[XW]
abbrev GM:=D -> List D -> S -> R D
def fMt(g:GM)(fo:FE)(fa:FA):FE:=fun ρ s=> (fo ρ s).bind fun d s1=> if (toL s1 d).isSome=true then (fa ρ s1).bind fun ds s2=> g d ds s2 else .bad
structure MB (X:Cx) (id:String) (g:GM):Prop where
 ex: ∃r,MtR X id r/\ ∀as H s x xs d ds Q,Rel X.K as H s -> RD X.K as H x d -> RDs X.K as H xs ds -> Dn X.K (rD X.K) as H (g d ds s) Q -> r x xs H Q
theorem a0y{d:D}(rl:Rel K as H s)(r:RD K as H v d)(h:(toL s d).isSome=true):tyV K "list" v H:=by
 cases e:toL s d with
 |none=> rw [e]at h;cases h
 |some ds=>
  obtain⟨p,xs,rfl,hx,_⟩:=aas rl r e
  exact .inl ⟨rfl,xs,SqL.of hx⟩
theorem aym{o:Expr}{fa:FA}{name:Str}{id:String}{g:GM}{apos cpos:Pos}(slot:Slot "list" name id)(hty:typeOf (.builtin id)=pure (.type "method_descriptor"))(hm:MB X id g)(ho:RE X o fo)(ha:RA X (e::es) fa)(hbase:gB o name X.env (eval o X.env)=eval o X.env:=by rfl)(hfew:((backTo cpos (starEach (e::es) X.env)).all (fun x=> !x.1)&&(backToKw cpos (gl [] X.env)).all (fun x=> x.1.isSome)
   &&decide ((e::es).length+([]:List Keyword).length+(if ([]:List Keyword).isEmpty then 0 else 1) < 30))=true:=by rfl) (hline:(apos.endLine==cpos.line)=true:=by rfl) (hs:starEach (e::es) X.env=(false,eval e X.env)::starEach es X.env:=by rfl) (hplain:(backTo cpos (starEach es X.env)).any (·.1)=false:=by rfl):
  RE X (.Call (.Attribute o name apos) (e::es) [] cpos) (fMt g fo fa):=by
 obtain⟨r,hr,hg⟩:=hm.ex
 obtain⟨to,po,ro⟩:=ho.ex
 obtain⟨ta,pa,ra⟩:=ha.ex
 refine⟨_,a60 PySem.F.plainAttrs_list slot hty hr po pa hbase hfew hline hs hplain,fun as σ H ρ s Q rl en h=> ?_⟩
 refine ro as σ H ρ s _ rl en (Dn.bind h fun d s1 as1 H1 v st1 rl1 r1 h1=> ?_)
 split at h1
 ·rename_i hl
  refine⟨a0y rl1 r1 hl,ra as1 σ H1 ρ s1 _ rl1 (en.mono st1) (Dn.bind h1 fun ds s2 as2 H2 vs st2 rl2 r2 h2=> ?_)⟩
  exact hg as2 H2 s2 v vs d ds Q rl2 (r1.mono st2) r2 h2
 ·exact h1.elim
theorem an1{p:Addr}{o:HO}{H':Hp}{d:D}{ys:List V}{es:List D}{Q:VK}(rl:Rel K as H s)(ha:as.ix[n]?=some (some p))(c:Chg H p (.lst ys) H')(rs:RDs K as H ys es)(rv:RD K as H v d)(h:Dn K (rD K) as H (.ok d (s.set n (.lst es))) Q):Q v H':=by
 have st:=agi (qf.mpr ⟨n,ha⟩) (fun z=> rl.hx p z (qf.mpr ⟨n,ha⟩)) c
 exact h v as H' st (rl.chg ha c ⟨ys,c.at,rs.mono st⟩) (rv.mono st)
noncomputable def onL(d:D)(s:S)(k:Nat -> List D -> R D):R D:=match d with
 |.ref n=> match s[n]? with
  |some (.lst ds)=> k n ds
  |_=>.bad
 |_=>.bad
theorem amn{d:D}{k:Nat -> List D -> R D}{Q:VK}(rl:Rel K as H s)(r:RD K as H v d)(h:Dn K (rD K) as H (onL d s k) Q): ∃p n xs ds,v=.ref p/\as.ix[n]?=some (some p)/\H p=some (.lst xs)/\RDs K as H xs ds/\Dn K (rD K) as H (k n ds) Q:=by
 cases r with
 | @ref p n l hr=>
  have h:Dn K (rD K) as H (match s[n]? with|some (O.lst ds)=> k n ds|_=>.bad) Q:=h
  split at h
  ·rename_i ds e
   obtain⟨ha,xs,hx,rs⟩:=yg rl hr e
   exact⟨p,n,xs,ds,rfl,ha,hx,rs,h⟩
  ·exact h.elim
 |_=> exact h.elim
def qk:GM:=fun d ds s=> match ds with
 |[x]=> onL d s fun n xs=> if xs.length < sizeLine then .ok .non (s.set n (.lst (xs++ [x]))) else .bad
 |_=>.bad
theorem ax4:MB X "list.append" qk:=⟨_,aq9,fun as H s x xs d ds Q rl r rs h=> by
 unfold qk at h
 split at h
 ·obtain⟨v,rfl,rv⟩:=rs.one
  obtain⟨p,n,ys,es,rfl,ha,hy,re,h⟩:=amn rl r h
  split at h
  ·rename_i hz
   exact⟨p,ys,v,rfl,rfl,hy,by rw [re.length];exact hz,fun H' c=> an1 (o:=.lst []) rl ha c (re.append (.cons rv .nil)) (.da .non) h⟩
  ·exact h.elim
 ·exact h.elim⟩
def aan:GM:=fun d ds s=> match ds with
 | [.int i]=> onL d s fun n xs=> if -(2^63) <=i/\i < 2^63 then match iz i xs.length with
   |some k=> match xs[k]? with
    |some y=>.ok y (s.set n (.lst (xs.eraseIdx k)))
    |none=>.bad
   |none=>.bad
  else .bad
 |_=>.bad
theorem az7:MB X "list.pop" aan:=⟨_,ats,fun as H s x xs d ds Q rl r rs h=> by
 unfold aan at h
 split at h
 ·obtain⟨v,rfl,rv⟩:=rs.one
  cases rv.int_inv
  obtain⟨p,n,ys,es,rfl,ha,hy,re,h⟩:=amn rl r h
  split at h
  ·rename_i hz
   split at h
   ·rename_i k e
    split at h
    ·rename_i y ey
     obtain⟨w,hw,rw⟩:=re.get ey
     exact⟨p,ys,_,k,w,rfl,rfl,hy,hz.1,hz.2,by rw [re.length];exact e,hw,fun H' c=> an1 (o:=.lst []) rl ha c (re.eraseIdx k) rw h⟩
    ·exact h.elim
   ·exact h.elim
  ·exact h.elim
 ·exact h.elim⟩
def ab3(o i v:D)(s:S):R D:=match i with
 |.int k=> onL o s fun n xs=> match ixN xs.length k with
  |some j=>.ok .non (s.set n (.lst (xs.set j v)))
  |none=>.bad
 |_=>.bad
def ad5(fv fo fi:FE):FS:=fun ρ s=> (fv ρ s).bind fun v s1=> (fo ρ s1).bind fun o s2=> (fi ρ s2).bind fun i s3=> (ab3 o i v s3).bind fun _ s4=>.ok (.nx ρ) s4
theorem bao{o i:Expr}{fi fv:FE}{pos':Pos}(he:RE X e fv)(ho:RE X o fo)(hi:RE X i fi)(ha: ∀v,assign (.Subscript o i pos') X.env v=(do
   let ov←holding [v] (eval o X.env)
   let iv←holding [v,ov] (eval i X.env)
   standAt pos'
   holding [v,ov,iv] (setItem ov iv v)
   release [v,ov,iv] []):=by intro _;rfl) (hs:lB [.Subscript o i pos'] e pos.line X.env=pure false:=by rfl) (hw:lC [.Subscript o i pos'] e X.env=pure none:=by rfl) (h1:(br [.Subscript o i pos'] X.env).map (·.2)=[assign (.Subscript o i pos') X.env]:=by rfl):RS X (.Assign [.Subscript o i pos'] e pos) (ad5 fv fo fi):=by
 obtain⟨te,pe,re⟩:=he.ex
 obtain⟨to,po,ro⟩:=ho.ex
 obtain⟨ti,pi,ri⟩:=hi.ex
 refine⟨_,ar9 pe (a2f po pi as0 ha) hs hw h1,fun as σ H ρ s D rl en h=> ?_⟩
 refine re as σ H ρ s _ rl en (Dn.bind h fun v s1 as1 H1 vv st1 rl1 r1 h1=> ?_)
 refine ro as1 σ H1 ρ s1 _ rl1 (en.mono st1) (Dn.bind h1 fun o s2 as2 H2 ov st2 rl2 r2 h2=> ?_)
 refine ri as2 σ H2 ρ s2 _ rl2 ((en.mono st1).mono st2) (Dn.bind h2 fun i s3 as3 H3 iv st3 rl3 r3 h3=> ?_)
 have en3:=((en.mono st1).mono st2).mono st3
 have h3:Dn X.K (rD X.K) as3 H3 (ab3 o i v s3) (fun _ H'=> D.nx σ H'):=Dn.bind h3 fun d s4 as4 H4 vv st4 rl4 r4 h4=> Dn.now (b:=FV.nx σ) h4 rl4 (.nx (en3.mono st4))
 unfold ab3 at h3
 split at h3
 ·cases r3.int_inv
  obtain⟨p,n,xs,ds,rfl,ha,hx,rs,h3⟩:=amn rl3 (r2.mono st3) h3
  split at h3
  ·rename_i j e
   refine⟨p,xs,_,j,rfl,rfl,hx,by rw [rs.length];exact e,fun H' c=> ?_⟩
   exact an1 (v:=.non) (o:=.lst []) rl3 ha c (rs.set j ((r1.mono st2).mono st3)) (.da .non) h3
  ·exact h3.elim
 ·exact h3.elim
noncomputable def ack:List D -> Option (List Str)
 |[]=> some []
 |.str x::r=> match ack r with
  |some xs=> some (x::xs)
  |none=> none
 |_=> none
theorem aor: ∀{xs:List V} {ds:List D} {ss:List Str},RDs K as H xs ds -> ack ds=some ss -> xs=ss.map V.str/\ds=ss.map D.str
 |_,[],ss,r,h=> by cases r;cases h;exact⟨rfl,rfl⟩
 | _,d::ds,ss,r,h=> by
  cases r with
  | cons r rs=>
   unfold ack at h
   split at h
   ·rename_i e;cases e
   ·rename_i x rr e
    cases e
    split at h
    ·rename_i ys e2
     cases h
     obtain⟨h1,h2⟩:=aor rs e2
     cases r.str_inv
     rw [h1,h2];exact⟨rfl,rfl⟩
    ·cases h
   ·cases h
theorem aj9: ∀ss:List Str,ack (ss.map D.str)=some ss
 |[]=> rfl
 |s::r=> by rw [aJ,ack,aj9 r]
noncomputable def adn:List D -> Option (List Bool)
 |[]=> some []
 |.bl x::r=> match adn r with
  |some xs=> some (x::xs)
  |none=> none
 |_=> none
theorem arm: ∀{xs:List V} {ds:List D} {bs:List Bool},RDs K as H xs ds -> adn ds=some bs -> xs=bs.map V.bl
 |_,[],ss,r,h=> by cases r;cases h;rfl
 | _,d::ds,ss,r,h=> by
  cases r with
  | cons r rs=>
   unfold adn at h
   split at h
   ·rename_i e;cases e
   ·rename_i x rr e
    cases e
    split at h
    ·rename_i ys e2
     cases h
     have h1:=arm rs e2
     cases r.bl_inv
     rw [h1];rfl
    ·cases h
   ·cases h
def ae1(ds:List D)(s:S):R D:=match ds with
 |[d]=> match (toL s d).bind adn with
  |some bs=>.ok (.bl (bs.all id)) s
  |none=>.bad
 |_=>.bad
theorem a63(hc:X.calm=true):CB X (.builtin "all") ae1:=zr fun pins sh σ H as s xs ds us Q I rl rs ru h=> by
 unfold ae1 at h
 split at h
 ·obtain⟨v,rfl,rv⟩:=rs.one
  split at h
  ·rename_i bs e
   cases e2:toL s _ with
   |none=> rw [e2]at e;cases e
   |some ys=>
    rw [e2]at e
    obtain⟨p,zs,rfl,hx,rz⟩:=aas rl rv e2
    have ez:=arm rz (show adn ys=some bs from e)
    subst ez
    exact at3 hc pins sh σ H _ us Q I ru ⟨p,bs,rfl,SqL.of hx,Dn.now (Q:=Q) h rl (.da (.bl _))⟩
  ·exact h.elim
 ·exact h.elim
end PF
namespace PF
open PySem PySem.Spec
open L2
variable[XW]
theorem u64(hr:Room k A):A.units+64 < cLine:=by have:=hr.un;lia
theorem u65(hr:Room k A):A.units+65 < cLine:=by have:=hr.un;lia
theorem amk{as:As}{H:Hp}: ∀ss:List Str,TDs as H (ss.map V.str) (ss.map aF)
 |[]=>.nil
 |s::r=>.cons (.str s) (amk r)
theorem ap3{x:Str}(ss:List Str)(c:apf X.K X.mg x vs)(e:vs=ss.map V.str:=by rfl)(hg:Gl X x:=by rfl)(hd:(x==("__debug__":Str))=false:=by decide):RE X (.Name x pos) (fC (.con (ss.map aF))):=by
 obtain⟨a,hm,hs⟩:=c
 subst e
 exact afc (v:=.ref a) (fun as H=>.con hs (amk ss)) hm rfl hg hd
section
variable{P:aQ}{w:aU}{K:aj}{mg:Str -> Option af}{base:Heap}{x:Str}{st:Stmt}{N ps:List Str}{k n:Nat}
noncomputable def agt:FF:=fun _ _=>.bad
theorem abc(h:Has K mg x st ps)(S:FnScope N ps (je st))(hn:ps.length=n):CalF P w K mg base x (k+1) n agt:=by
 refine⟨h.calX S (fun vs H Q E h=> by rw [hn];exact h.1) fun f cdv A outer s H vs Q E hr h=> ?_⟩
 obtain⟨hv,as,ds,s',rl,rs,h⟩:=h
 exact h.elim
end
end PF
namespace PF
open PySem PySem.Spec
open L2
def R.Wk{α β:Type}(f:α -> S -> R β)(Q:β -> S -> Prop)(a:α)(s:S):Prop:=(f a s).W Q
theorem R.W_bindk{α β:Type}(r:R α)(f:α -> S -> R β)(Q:β -> S -> Prop):(r.bind f).W Q=r.W (R.Wk f Q):=R.W_bind r f Q
@[simp] theorem R.Wk_app{α β:Type}(f:α -> S -> R β)(Q:β -> S -> Prop)(a:α)(s:S):R.Wk f Q a s=(f a s).W Q:=(rfl)
section
variable{s:S}{m:Bool}{n:Nat}{i j:Int}{x y:Str}{b:Bool}{xs ys:List ae}{ds es:List D}{d e:D}{ρ:En}{Q:D -> S -> Prop}
theorem qi:sizeLine=16777216:=sizeLine_eq
@[simp] theorem a8f:jv m (.int i) (.int j) s=.ok (.int (i+j)) s:=(rfl)
theorem abw(h:xs.length+ys.length <=16777216):jv m (.tup xs) (.tup ys) s=.ok (.tup (xs++ys)) s:=if_pos (by rw [qi];exact h)
theorem aa4(h:xs.length+ys.length <=16777216):jv false (.lst xs) (.lst ys) s=.ok (.lst (xs++ys)) s:=by
 show (if (xs.map D.da).length+(ys.map D.da).length <=sizeLine then qw false (xs.map D.da++ys.map D.da) s else .bad)=_
 rw [if_pos (by rw [qi,ak,ak];exact h),←gZ]
 show (match kj _ with|some xs=> R.ok (D.lst xs) s|none=>.bad)=_
 rw [qj]
@[simp] theorem a81:PF.ac0 (.int i) (.int j) s=.ok (.int (i - j)) s:=(rfl)
theorem abt(h:(-(2^64) < i/\i < 2^64)\/(-(2^64) < j/\j < 2^64)):zz (.int i) (.int j) s=.ok (.int (i*j)) s:=if_pos h
theorem y9(h:0 < j)(h2:j < 1073741824):af7 (.int i) (.int j) s=.ok (.int (i/j)) s:=if_pos ⟨h,h2⟩
theorem xi(h:0 < j):zx (.int i) (.int j) s=.ok (.int (i % j)) s:=if_pos h
theorem awe(h:0 <=j)(h1:j <=1000000)(h2:i.natAbs < 2^64):aqt (.int i) (.int j) s=.ok (.int (i^j.toNat)) s:=if_pos ⟨h,h1,h2⟩
@[simp] theorem a9i:gLt (.int i) (.int j) s=.ok (.bl (decide (i < j))) s:=(rfl)
@[simp] theorem a9j:gLe (.int i) (.int j) s=.ok (.bl (decide (i <=j))) s:=(rfl)
@[simp] theorem a9s:gGt (.int i) (.int j) s=.ok (.bl (decide (j < i))) s:=(rfl)
@[simp] theorem a91:gGe (.int i) (.int j) s=.ok (.bl (decide (j <=i))) s:=(rfl)
@[simp] theorem a99:gIs d .non s=.ok (.bl (isN d)) s:=(rfl)
@[simp] theorem a5q:abm d .non s=.ok (.bl (!isN d)) s:=(rfl)
theorem amt(x y:Str):aK (.str x) (.str y)=decide (x=y):=by
 show (x==y)=_
 (rw [aW,beq_iff_eq,decide_eq_true_eq])
theorem afa{p q:ae}(h1:okD p=true)(h2:okD q=true):gEq (.da p) (.da q) s=.ok (.bl (aK p q)) s:=by
 have e:apx (.da p) (.da q) s=.ok (.bl (aK p q)) s:=if_pos ⟨h1,h2⟩
 cases p <;> cases q <;> first|exact e|(rw [amt];rfl)
theorem ayb:gNe (.str x) (.str y) s=.ok (.bl (!decide (x=y))) s:=(rfl)
theorem af4{p q:ae}(h1:okD p=true)(h2:okD q=true):gNe (.da p) (.da q) s=.ok (.bl (!PyData.eqv p q)) s:=by
 have e:apv (.da p) (.da q) s=.ok (.bl (!PyData.eqv p q)) s:=if_pos ⟨h1,h2⟩
 cases p <;> cases q <;> first|exact e|(rw [amt];rfl)
theorem ant(h:s[n]?=some (.lst ds))(h2:ds[k]?=some d):gIx (.ref n) (.int (k:Int)) s=.ok d s:=by
 show (match (match s[n]? with|some (O.lst ds)=> some ds|_=> none) with|some ds=> (match atI ds (k:Int) with|some d=> R.ok d s|none=>.bad)|none=>.bad)=_
 rw [h]
 show (match atI ds (k:Int) with|some d=> R.ok d s|none=>.bad)=_
 rw [aid h2]
theorem vm{p:ae}(h2:xs[k]?=some p):gIx (.tup xs) (.int (k:Int)) s=.ok (.da p) s:=by
 show (match atI (xs.map D.da) (k:Int) with|some d=> R.ok d s|none=>.bad)=_
 rw [aid (v:=D.da p) (by rw [aR,h2];rfl)]
theorem ai8{p:ae}(h2:xs[k]?=some p):gIx (.lst xs) (.int (k:Int)) s=.ok (.da p) s:=by
 show (match atI (xs.map D.da) (k:Int) with|some d=> R.ok d s|none=>.bad)=_
 rw [aid (v:=D.da p) (by rw [aR,h2];rfl)]
theorem aux(h:s[n]?=some (.lst ds))(h2:k < ds.length):ab3 (.ref n) (.int (k:Int)) d s=.ok .non (s.set n (.lst (ds.set k d))):=by
 show (match s[n]? with|some (O.lst xs)=> (match ixN xs.length (k:Int) with|some j=> R.ok D.non (s.set n (.lst (xs.set j d)))|none=>.bad)|_=>.bad)=_
 rw [h]
 have:ixN ds.length (k:Int)=some k:=by
  unfold ixN
  rw [if_pos (by lia),if_pos (by lia)]
  rfl
 show (match ixN ds.length (k:Int) with|some j=> R.ok D.non (s.set n (.lst (ds.set j d)))|none=>.bad)=_
 rw [this]
def a4l(g:D -> D -> S -> R D)(fb:FE)(ρ:En)(x:D)(s:S):R D:=(fb ρ s).bind fun y s2=> g x y s2
noncomputable def aw6(g:D -> D -> S -> R D)(x y:D)(s:S):R D:=g x y s
@[simp] theorem bc8{g:D -> D -> S -> R D}{fb:FE}:fOp g fa fb ρ s=(fa ρ s).bind (a4l g fb ρ):=(rfl)
@[simp] theorem bbv{g:D -> D -> S -> R D}{fb:FE}:a4l g fb ρ d s=(fb ρ s).bind (aw6 g d):=(rfl)
@[simp] theorem bc3{g:D -> D -> S -> R D}:aw6 g d e s=g d e s:=(rfl)
@[simp] theorem e_c:fC d ρ s=.ok d s:=(rfl)
@[simp] theorem baf{r:En}:jb 0 (some d::r) s=.ok d s:=(rfl)
@[simp] theorem ba6{r:En}:jb 1 (x0::some d::r) s=.ok d s:=(rfl)
@[simp] theorem a9y{r:En}:jb 2 (x0::x1::some d::r) s=.ok d s:=(rfl)
@[simp] theorem bam{r:En}:jb 3 (x0::x1::x2::some d::r) s=.ok d s:=(rfl)
@[simp] theorem ba1{r:En}:jb 4 (x0::x1::x2::x3::some d::r) s=.ok d s:=(rfl)
@[simp] theorem bav{r:En}:jb 5 (x0::x1::x2::x3::x4::some d::r) s=.ok d s:=(rfl)
@[simp] theorem ba2{r:En}{x5:Option D}:jb 6 (x0::x1::x2::x3::x4::x5::some d::r) s=.ok d s:=(rfl)
@[simp] theorem bab{r:En}{x5 x6:Option D}:jb 7 (x0::x1::x2::x3::x4::x5::x6::some d::r) s=.ok d s:=(rfl)
@[simp] theorem bac{r:En}{x5 x6 x7:Option D}:jb 8 (x0::x1::x2::x3::x4::x5::x6::x7::some d::r) s=.ok d s:=(rfl)
@[simp] theorem ba8{r:En}{x5 x6 x7 x8:Option D}:jb 9 (x0::x1::x2::x3::x4::x5::x6::x7::x8::some d::r) s=.ok d s:=(rfl)
@[simp] theorem a9k{r:En}{x5 x6 x7 x8 x9:Option D}:jb 10 (x0::x1::x2::x3::x4::x5::x6::x7::x8::x9::some d::r) s=.ok d s:=(rfl)
@[simp] theorem a9b{r:En}{x5 x6 x7 x8 x9 x10:Option D}:jb 11 (x0::x1::x2::x3::x4::x5::x6::x7::x8::x9::x10::some d::r) s=.ok d s:=(rfl)
noncomputable def aqc(g:FS)(fl:Fl)(s:S):R Fl:=match fl with
 |.nx ρ1=> g ρ1 s
 |fl=>.ok fl s
@[simp] theorem ayj{f g:FS}:jf f g ρ s=(f ρ s).bind (aqc g):=(rfl)
@[simp] theorem bb2{g:FS}:aqc g (.nx ρ) s=g ρ s:=(rfl)
@[simp] theorem bbe{g:FS}:aqc g (.rt d) s=.ok (.rt d) s:=(rfl)
noncomputable def avv(d:D)(s:S):R Fl:=.ok (.rt d) s
@[simp] theorem bby{f:FE}:ji f ρ s=(f ρ s).bind avv:=(rfl)
@[simp] theorem bag:avv d s=.ok (.rt d) s:=(rfl)
@[simp] theorem ba0:jl ρ s=.ok (.nx ρ) s:=(rfl)
noncomputable def ape(ρ:En)(_:D)(s:S):R Fl:=.ok (.nx ρ) s
@[simp] theorem bas{f:FE}:vf f ρ s=(f ρ s).bind (ape ρ):=(rfl)
@[simp] theorem a90:ape ρ d s=.ok (.nx ρ) s:=(rfl)
noncomputable def abn(i:Nat)(ρ:En)(d:D)(s:S):R Fl:=.ok (.nx (ρ.set i (some d))) s
@[simp] theorem axv{i:Nat}{f:FE}:jq i f ρ s=(f ρ s).bind (abn i ρ):=(rfl)
@[simp] theorem baa{i:Nat}:abn i ρ d s=.ok (.nx (ρ.set i (some d))) s:=(rfl)
noncomputable def aui(f g:FS)(ρ:En)(k:Bool)(s:S):R Fl:=if k=true then f ρ s else g ρ s
@[simp] theorem bbw{c:FT}{f g:FS}:jm c f g ρ s=(c ρ s).bind (aui f g ρ):=(rfl)
@[simp] theorem ayi{f g:FS}:aui f g ρ true s=f ρ s:=(rfl)
@[simp] theorem bbz{f g:FS}:aui f g ρ false s=g ρ s:=(rfl)
noncomputable def kIf(f g:FE)(ρ:En)(k:Bool)(s:S):R D:=if k=true then f ρ s else g ρ s
@[simp] theorem bce{c:FT}{f g:FE}:fIf c f g ρ s=(c ρ s).bind (kIf f g ρ):=(rfl)
@[simp] theorem bb6{f g:FE}:kIf f g ρ true s=f ρ s:=(rfl)
@[simp] theorem bb5{f g:FE}:kIf f g ρ false s=g ρ s:=(rfl)
noncomputable def aye(d:D)(s:S):R Bool:=match d with
 |.bl k=>.ok k s
 |_=>.bad
@[simp] theorem bai{f:FE}:jg f ρ s=(f ρ s).bind aye:=(rfl)
@[simp] theorem aov:aye (.bl b) s=.ok b s:=(rfl)
noncomputable def aqe(g:FT)(ρ:En)(c:Bool)(s:S):R Bool:=if c=true then g ρ s else .ok false s
noncomputable def au4(g:FT)(ρ:En)(c:Bool)(s:S):R Bool:=if c=true then .ok true s else g ρ s
noncomputable def ay3(c:Bool)(s:S):R Bool:=.ok (!c) s
@[simp] theorem bar{f g:FT}:yf f g ρ s=(f ρ s).bind (aqe g ρ):=(rfl)
@[simp] theorem bbh{f g:FT}:kz f g ρ s=(f ρ s).bind (au4 g ρ):=(rfl)
@[simp] theorem a9w{f:FT}:ju f ρ s=(f ρ s).bind ay3:=(rfl)
@[simp] theorem a9q{g:FT}:aqe g ρ true s=g ρ s:=(rfl)
@[simp] theorem a9a{g:FT}:aqe g ρ false s=.ok false s:=(rfl)
@[simp] theorem ba4{g:FT}:au4 g ρ true s=.ok true s:=(rfl)
@[simp] theorem bat{g:FT}:au4 g ρ false s=g ρ s:=(rfl)
@[simp] theorem a9n:ay3 b s=.ok (!b) s:=(rfl)
noncomputable def av1(g:FE)(ρ:En)(d:D)(s:S):R D:=match d with
 |.bl true=> g ρ s
 |.bl false=>.ok (.bl false) s
 |_=>.bad
noncomputable def kOr(g:FE)(ρ:En)(d:D)(s:S):R D:=match d with
 |.bl false=> g ρ s
 |.bl true=>.ok (.bl true) s
 |_=>.bad
@[simp] theorem bc4{f g:FE}:xj f g ρ s=(f ρ s).bind (av1 g ρ):=(rfl)
@[simp] theorem bcp{f g:FE}:fOr f g ρ s=(f ρ s).bind (kOr g ρ):=(rfl)
@[simp] theorem ba3{g:FE}:av1 g ρ (.bl true) s=g ρ s:=(rfl)
@[simp] theorem ban{g:FE}:av1 g ρ (.bl false) s=.ok (.bl false) s:=(rfl)
@[simp] theorem bbg{g:FE}:kOr g ρ (.bl true) s=.ok (.bl true) s:=(rfl)
@[simp] theorem bc2{g:FE}:kOr g ρ (.bl false) s=g ρ s:=(rfl)
def aok(g g':D -> D -> S -> R D)(fb fc:FE)(ρ:En)(x:D)(s:S):R D:=(fb ρ s).bind fun y s2=> (g x y s2).bind fun z s3=> match z with
 |.bl true=> (fc ρ s3).bind fun w s4=> g' y w s4
 |.bl false=>.ok (.bl false) s3
 |_=>.bad
def aoq(g g':D -> D -> S -> R D)(fc:FE)(ρ:En)(x y:D)(s:S):R D:=(g x y s).bind fun z s3=> match z with
 |.bl true=> (fc ρ s3).bind fun w s4=> g' y w s4
 |.bl false=>.ok (.bl false) s3
 |_=>.bad
def ail(g':D -> D -> S -> R D)(fc:FE)(ρ:En)(y z:D)(s:S):R D:=match z with
 |.bl true=> (fc ρ s).bind fun w s4=> g' y w s4
 |.bl false=>.ok (.bl false) s
 |_=>.bad
@[simp] theorem a9c{g g':D -> D -> S -> R D}{fb fc:FE}:vo g g' fa fb fc ρ s=(fa ρ s).bind (aok g g' fb fc ρ):=(rfl)
@[simp] theorem a8k{g g':D -> D -> S -> R D}{fb fc:FE}:aok g g' fb fc ρ d s=(fb ρ s).bind (aoq g g' fc ρ d):=(rfl)
@[simp] theorem a84{g g':D -> D -> S -> R D}{fc:FE}:aoq g g' fc ρ d e s=(g d e s).bind (ail g' fc ρ e):=(rfl)
@[simp] theorem a7z{g':D -> D -> S -> R D}{fc:FE}:ail g' fc ρ e (.bl true) s=(fc ρ s).bind (aw6 g' e):=(rfl)
@[simp] theorem a8x{g':D -> D -> S -> R D}{fc:FE}:ail g' fc ρ e (.bl false) s=.ok (.bl false) s:=(rfl)
def atk(g:FA)(ρ:En)(x:D)(s:S):R (List D):=(g ρ s).bind fun xs s2=>.ok (x::xs) s2
noncomputable def amh(x:D)(xs:List D)(s:S):R (List D):=.ok (x::xs) s
@[simp] theorem bbu:jc ρ s=.ok [] s:=(rfl)
@[simp] theorem bch:fVs ds ρ s=.ok ds s:=(rfl)
@[simp] theorem ba5{f:FE}{g:FA}:ja f g ρ s=(f ρ s).bind (atk g ρ):=(rfl)
@[simp] theorem a9o{g:FA}:atk g ρ d s=(g ρ s).bind (amh d):=(rfl)
@[simp] theorem aj2:amh d ds s=.ok (d::ds) s:=(rfl)
def ae4(ds:List D)(s:S):R D:=if ds.length <=sizeLine then agq ds s else .bad
def ab2(m:Bool)(ds:List D)(s:S):R D:=if ds.length <=sizeLine then qw m ds s else .bad
@[simp] theorem bbt:jh f ρ s=(f ρ s).bind ae4:=(rfl)
@[simp] theorem bbj:ku m f ρ s=(f ρ s).bind (ab2 m):=(rfl)
theorem azp(h:kj ds=some xs)(hl:ds.length <=16777216):ae4 ds s=.ok (.tup xs) s:=by
 unfold ae4 agq
 rw [if_pos (by rw [qi];exact hl),h]
theorem a0q(h:kj ds=some xs)(hl:ds.length <=16777216):ab2 false ds s=.ok (.lst xs) s:=by
 unfold ab2 qw
 rw [if_pos (by rw [qi];exact hl),if_neg am,h]
@[simp] theorem bcg:ae4 [] s=.ok (.tup []) s:=(rfl)
@[simp] theorem bcj:ab2 false [] s=.ok (.lst []) s:=(rfl)
@[simp] theorem bbm:ab2 true [] s=.ok (.ref s.length) (s++ [.lst []]):=(rfl)
@[simp] theorem bck:ae4 [.da a] s=.ok (.tup [a]) s:=(rfl)
@[simp] theorem bcd{b:ae}:ae4 [.da a,.da b] s=.ok (.tup [a,b]) s:=(rfl)
@[simp] theorem bcc{b c:ae}:ae4 [.da a,.da b,.da c] s=.ok (.tup [a,b,c]) s:=(rfl)
@[simp] theorem bcn{b c d:ae}:ae4 [.da a,.da b,.da c,.da d] s=.ok (.tup [a,b,c,d]) s:=(rfl)
@[simp] theorem bcb:ab2 false [.da a] s=.ok (.lst [a]) s:=(rfl)
@[simp] theorem bcq{b:ae}:ab2 false [.da a,.da b] s=.ok (.lst [a,b]) s:=(rfl)
@[simp] theorem bco{b c:ae}:ab2 false [.da a,.da b,.da c] s=.ok (.lst [a,b,c]) s:=(rfl)
@[simp] theorem bcl{b c d:ae}:ab2 false [.da a,.da b,.da c,.da d] s=.ok (.lst [a,b,c,d]) s:=(rfl)
def a57(m:Bool)(lo hi:FO)(ρ:En)(d:D)(s:S):R D:=(lo ρ s).bind fun l s2=> (hi ρ s2).bind fun u s3=> gSl m d l u s3
def a37(m:Bool)(hi:FO)(ρ:En)(d:D)(l:Option Int)(s:S):R D:=(hi ρ s).bind fun u s3=> gSl m d l u s3
def a2d(m:Bool)(d:D)(l u:Option Int)(s:S):R D:=gSl m d l u s
@[simp] theorem bcm{f:FE}{lo hi:FO}:fSl m f lo hi ρ s=(f ρ s).bind (a57 m lo hi ρ):=(rfl)
@[simp] theorem bbk{lo hi:FO}:a57 m lo hi ρ d s=(lo ρ s).bind (a37 m hi ρ d):=(rfl)
@[simp] theorem bbr{hi:FO}{l:Option Int}:a37 m hi ρ d l s=(hi ρ s).bind (a2d m d l):=(rfl)
@[simp] theorem bbq{l u:Option Int}:a2d m d l u s=gSl m d l u s:=(rfl)
@[simp] theorem bcf:fNo ρ s=.ok none s:=(rfl)
noncomputable def axp(d:D)(s:S):R (Option Int):=match d with
 |.int i=>.ok (some i) s
 |_=>.bad
@[simp] theorem bb9{f:FE}:kd f ρ s=(f ρ s).bind axp:=(rfl)
@[simp] theorem a9h:axp (.int i) s=.ok (some i) s:=(rfl)
@[simp] theorem bbi{f:FE}:j2 f ρ s=(f ρ s).bind aql:=(rfl)
@[simp] theorem bb3:aql (.bl b) s=.ok b s:=(rfl)
@[simp] theorem bc9{g:FF}:fCB g f ρ s=(f ρ s).bind g:=(rfl)
def ah8(n:Nat)(F:FF)(ρ:En)(ds:List D)(s:S):R D:=if ds.length=n then (F ds s).at ρ else .bad
@[simp] theorem baw{F:FF}:jd n F f ρ s=(f ρ s).bind (ah8 n F ρ):=(rfl)
@[simp] theorem a9l{F:FF}:ah8 1 F ρ [d] s=(F [d] s).at ρ:=(rfl)
@[simp] theorem a9p{F:FF}:ah8 2 F ρ [d,e] s=(F [d,e] s).at ρ:=(rfl)
@[simp] theorem a9r{F:FF}{d3:D}:ah8 3 F ρ [d,e,d3] s=(F [d,e,d3] s).at ρ:=(rfl)
@[simp] theorem a9m{F:FF}{d3 d4:D}:ah8 4 F ρ [d,e,d3,d4] s=(F [d,e,d3,d4] s).at ρ:=(rfl)
@[simp] theorem a1l:jr [.tup xs] s=.ok (.int xs.length) s:=by show R.ok (D.int (xs.map D.da).length) s=_;rw [ak]
@[simp] theorem a97:jr [.lst xs] s=.ok (.int xs.length) s:=by show R.ok (D.int (xs.map D.da).length) s=_;rw [ak]
theorem len_str(h:x.length <=16777216):jr [.str x] s=.ok (.int x.length) s:=if_pos (by rw [qi];exact h)
theorem ao8(h:s[n]?=some (.lst ds)):jr [.ref n] s=.ok (.int ds.length) s:=by
 show (match (match s[n]? with|some (O.lst ds)=> some ds|_=> none) with|some xs=> R.ok (D.int xs.length) s|none=>.bad)=_
 rw [h]
@[simp] theorem a95:agz [.int i,.int j] s=.ok (.int (if j < i then j else i)) s:=(rfl)
@[simp] theorem a7n:v9 false [.tup xs] s=.ok (.lst xs) s:=by
 show (match kj (xs.map D.da) with|some xs=> R.ok (D.lst xs) s|none=>.bad)=_
 rw [qj]
@[simp] theorem a7t:v9 false [.lst xs] s=.ok (.lst xs) s:=by
 show (match kj (xs.map D.da) with|some xs=> R.ok (D.lst xs) s|none=>.bad)=_
 rw [qj]
@[simp] theorem a7h:v9 true [.lst xs] s=.ok (.ref s.length) (s++ [.lst (xs.map D.da)]):=(rfl)
@[simp] theorem a7i:j6 [.lst xs] s=.ok (.tup xs) s:=by
 show (match kj (xs.map D.da) with|some xs=> R.ok (D.tup xs) s|none=>.bad)=_
 rw [qj]
@[simp] theorem a92{p:ae}:k9 [.da p,.ty "tuple"] s=.ok (.bl (kx p "tuple")) s:=(rfl)
@[simp] theorem a96{p:ae}:k9 [.da p,.ty "int"] s=.ok (.bl (kx p "int")) s:=(rfl)
@[simp] theorem a8y{p:ae}:k9 [.da p,.ty "str"] s=.ok (.bl (kx p "str")) s:=(rfl)
@[simp] theorem asm{lo hi:Option Int}:gSl m (.tup xs) lo hi s=.ok (.tup (qx xs lo hi)) s:=(rfl)
theorem z3{α β:Type}(f:α -> β)(l:List α)(lo hi:Option Int):qx (l.map f) lo hi=(qx l lo hi).map f:=by
 unfold qx
 rw [ak,lI,List.map_drop]
@[simp] theorem baj{lo hi:Option Int}:gSl false (.lst xs) lo hi s=.ok (.lst (qx xs lo hi)) s:=by
 show (match kj (qx (xs.map D.da) lo hi) with|some xs=> R.ok (D.lst xs) s|none=>.bad)=_
 rw [z3,qj]
@[simp] theorem ba7{lo hi:Option Int}:gSl false (.frz xs) lo hi s=.ok (.lst (qx xs lo hi)) s:=by
 show (match kj (qx (xs.map D.da) lo hi) with|some xs=> R.ok (D.lst xs) s|none=>.bad)=_
 rw [z3,qj]
noncomputable def jt(fl:Fl)(s:S):R D:=match fl with
 |.rt d=>.ok d s
 |.nx _=>.ok .non s
 |_=>.bad
@[simp] theorem a9t:jt (.rt d) s=.ok d s:=(rfl)
@[simp] theorem a9u:jt (.nx ρ) s=.ok .non s:=(rfl)
def aoj(fo fi:FE)(ρ:En)(v:D)(s:S):R Fl:=(fo ρ s).bind fun o s2=> (fi ρ s2).bind fun i s3=> (ab3 o i v s3).bind fun _ s4=>.ok (.nx ρ) s4
def ao9(fi:FE)(ρ:En)(v o:D)(s:S):R Fl:=(fi ρ s).bind fun i s3=> (ab3 o i v s3).bind fun _ s4=>.ok (.nx ρ) s4
def ao4(ρ:En)(v o i:D)(s:S):R Fl:=(ab3 o i v s).bind fun _ s4=>.ok (.nx ρ) s4
@[simp] theorem a9d{fv fi:FE}:ad5 fv fo fi ρ s=(fv ρ s).bind (aoj fo fi ρ):=(rfl)
@[simp] theorem a8i{fi:FE}:aoj fo fi ρ d s=(fo ρ s).bind (ao9 fi ρ d):=(rfl)
@[simp] theorem a86{fi:FE}:ao9 fi ρ d e s=(fi ρ s).bind (ao4 ρ d e):=(rfl)
@[simp] theorem a8j{o:D}:ao4 ρ d e o s=(ab3 e o d s).bind (ape ρ):=(rfl)
def avb(g:GM)(fa:FA)(ρ:En)(d:D)(s:S):R D:=if (toL s d).isSome=true then (fa ρ s).bind fun ds s2=> g d ds s2 else .bad
noncomputable def a44(g:GM)(d:D)(ds:List D)(s:S):R D:=g d ds s
@[simp] theorem bcr{g:GM}{fa:FA}:fMt g fo fa ρ s=(fo ρ s).bind (avb g fa ρ):=(rfl)
theorem adu{g:GM}{fa:FA}(h:s[n]?=some (.lst ds)):avb g fa ρ (.ref n) s=(fa ρ s).bind (a44 g (.ref n)):=by
 unfold avb
 rw [if_pos]
 ·rfl
 ·show ((match s[n]? with|some (O.lst ds)=> some ds|_=> none):Option (List D)).isSome=true
  rw [h];rfl
@[simp] theorem bc0{g:GM}:a44 g d ds s=g d ds s:=(rfl)
theorem aav(h:s[n]?=some (.lst ds))(hl:ds.length < 16777216):qk (.ref n) [d] s=.ok .non (s.set n (.lst (ds++ [d]))):=by
 show (match s[n]? with|some (O.lst xs)=> (if xs.length < sizeLine then R.ok D.non (s.set n (.lst (xs++ [d]))) else .bad)|_=>.bad)=_
 rw [h]
 show (if ds.length < sizeLine then _ else _)=_
 rw [if_pos (by rw [qi];exact hl)]
theorem av5(h:s[n]?=some (.lst ds))(hk:ds[k]?=some d)(hl:ds.length <=16777216):aan (.ref n) [.int (k:Int)] s=.ok d (s.set n (.lst (ds.eraseIdx k))):=by
 have hlt:k < ds.length:=(aA.mp hk).1
 have e1:iz (k:Int) ds.length=some k:=by
  rw [PySem.StrLaws.seqIndex_nonneg (by lia) (by lia),cj]
 have b1: -(2^63) <=(k:Int)/\(k:Int) < 2^63:=by lia
 unfold aan onL
 simp only [h,e1,hk,b1,and_self,if_true]
def a33(d:D)(s:S):R D:=av2 d s
@[simp] theorem bc7{f:FE}:avt f ρ s=(f ρ s).bind a33:=(rfl)
theorem aze(h:s[n]?=some (.lst ds))(h2:kj ds=some xs):a33 (.ref n) s=.ok (.lst xs) (s.set n .gone):=by
 show (match s[n]? with|some (O.lst ds)=> (match kj ds with|some xs=> R.ok (D.lst xs) (s.set n .gone)|none=>.bad)|_=>.bad)=_
 rw [h]
 show (match kj ds with|some xs=> R.ok (D.lst xs) (s.set n .gone)|none=>.bad)=_
 rw [h2]
def avw(g:Tg)(ρ:En)(d:D)(s:S):R Fl:=match vj g d ρ with
 |some ρ1=>.ok (.nx ρ1) s
 |none=>.bad
@[simp] theorem bbo{f:FE}:aph g f ρ s=(f ρ s).bind (avw g ρ):=(rfl)
def kFor(g:Tg)(fb:FS)(ρ:En)(p:Wk)(s:S):R Fl:=chk p s (qp g fb p p.1 ρ s)
@[simp] theorem bbn{fi:FI}:y7 fi g fb ρ s=(fi ρ s).bind (kFor g fb ρ):=(rfl)
@[simp] theorem bal:kFor g fb ρ (ds,none) s=qp g fb (ds,none) ds ρ s:=aa0
@[simp] theorem bca{f:FE}:fIt f ρ s=(f ρ s).bind ai2:=(rfl)
@[simp] theorem bau:ai2 (.lst xs) s=.ok (xs.map D.da,none) s:=(rfl)
@[simp] theorem ba9:ai2 (.tup xs) s=.ok (xs.map D.da,none) s:=(rfl)
@[simp] theorem bc1:ab1 f ρ s=(f ρ s).bind am7:=(rfl)
theorem ad8(h: -(2^62) <=j)(h2:j < 2^62):am7 [.int j] s=.ok (zu 0 j.toNat,none) s:=if_pos ⟨h,h2⟩
def adz(g:Tg)(fb:FS)(p:Wk)(r:List D)(fl:Fl)(s:S):R Fl:=match fl with
 |.nx ρ2=> chk p s (qp g fb p r ρ2 s)
 |.ct ρ2=> chk p s (qp g fb p r ρ2 s)
 |.bk ρ2=>.ok (.nx ρ2) s
 |.rt d=>.ok (.rt d) s
theorem aaq{p:Wk}(h:vj g d ρ=some ρ1):qp g fb p (d::r) ρ s=(fb ρ1 s).bind (adz g fb p r):=by
 rw [qp,h];rfl
@[simp] theorem ao7:adz g fb (ds,none) r (.nx ρ) s=qp g fb (ds,none) r ρ s:=aa0
@[simp] theorem azb:adz g fb (ds,none) r (.ct ρ) s=qp g fb (ds,none) r ρ s:=aa0
@[simp] theorem ao1{p:Wk}:adz g fb p r (.bk ρ) s=.ok (.nx ρ) s:=(rfl)
@[simp] theorem aoe{p:Wk}:adz g fb p r (.rt d) s=.ok (.rt d) s:=(rfl)
def kLc(m:Bool)(js:List Nat)(k:Nat)(g:Tg)(ft:FT)(fe:FE)(ρ:En)(p:Wk)(s:S):R D:=if p.1.length <=sizeLine then chk p s ((kr g ft fe (au k none++aj6 ρ js) p p.1 s).bind fun ds s2=> qw m ds s2) else .bad
@[simp] theorem bci{fi:FI}:fLc m js k fi g ft fe ρ s=(fi ρ s).bind (kLc m js k g ft fe ρ):=(rfl)
def apt(m:Bool)(ds:List D)(s:S):R D:=qw m ds s
theorem vp{ρ0:En}(h:ds.length <=16777216)(e:au k none++aj6 ρ js=ρ0):kLc m js k g ft fe ρ (ds,none) s=(kr g ft fe ρ0 (ds,none) ds s).bind (apt m):=by
 subst e
 unfold kLc
 rw [if_pos (by rw [qi];exact h),aa0];rfl
@[simp] theorem bax:apt false (xs.map D.da) s=.ok (.lst xs) s:=by
 show (match kj _ with|some xs=> R.ok (D.lst xs) s|none=>.bad)=_
 rw [qj]
@[simp] theorem bbd:apt true ds s=.ok (.ref s.length) (s++ [.lst ds]):=(rfl)
@[simp] theorem awf{p:Wk}:kr g ft fe ρ p [] s=.ok [] s:=(rfl)
def amz(g:Tg)(ft:FT)(fe:FE)(ρ0:En)(p:Wk)(r:List D)(ρ1:En)(b:Bool)(s2:S):R (List D):=if b=true then (fe ρ1 s2).calm.bind fun x s3=> chk p s3 ((kr g ft fe ρ0 p r s3).bind fun xs s4=>.ok (x::xs) s4) else chk p s2 (kr g ft fe ρ0 p r s2)
def at1(g:Tg)(ft:FT)(fe:FE)(ρ0:En)(p:Wk)(r:List D)(x:D)(s3:S):R (List D):=chk p s3 ((kr g ft fe ρ0 p r s3).bind fun xs s4=>.ok (x::xs) s4)
theorem af1{p:Wk}(h:vj g d ρ=some ρ1):kr g ft fe ρ p (d::r) s=(ft ρ1 s).calm.bind (amz g ft fe ρ p r ρ1):=by
 rw [kr,h];rfl
@[simp] theorem ali{p:Wk}:amz g ft fe ρ p r ρ1 true s=(fe ρ1 s).calm.bind (at1 g ft fe ρ p r):=(rfl)
@[simp] theorem an2:amz g ft fe ρ (ds,none) r ρ1 false s=kr g ft fe ρ (ds,none) r s:=aa0
@[simp] theorem am2:at1 g ft fe ρ (ds,none) r d s=(kr g ft fe ρ (ds,none) r s).bind (amh d):=aa0
@[simp] theorem bbx:aac ρ s=.ok true s:=(rfl)
theorem bbp:ab2 true [a0,a1] s=.ok (.ref s.length) (s++ [.lst [a0,a1]]):=(rfl)
theorem bbs{a2 a3:D}:ab2 true [a0,a1,a2,a3] s=.ok (.ref s.length) (s++ [.lst [a0,a1,a2,a3]]):=(rfl)
theorem a8z(h:xs.length <=16777216):ab2 false (xs.map D.da) s=.ok (.lst xs) s:=a0q (qj xs) (by rw [ak];exact h)
theorem a9g(h:xs.length <=16777216):ae4 (xs.map D.da) s=.ok (.tup xs) s:=azp (qj xs) (by rw [ak];exact h)
theorem it0{a0:ae}{r:List ae}:gIx (.tup (a0::r)) (.int 0) s=.ok (.da a0) s:=vm (k:=0) rfl
theorem it1{a0 a1:ae}{r:List ae}:gIx (.tup (a0::a1::r)) (.int 1) s=.ok (.da a1) s:=vm (k:=1) rfl
theorem it2{a0 a1 a2:ae}{r:List ae}:gIx (.tup (a0::a1::a2::r)) (.int 2) s=.ok (.da a2) s:=vm (k:=2) rfl
theorem it3{a0 a1 a2 a3:ae}{r:List ae}:gIx (.tup (a0::a1::a2::a3::r)) (.int 3) s=.ok (.da a3) s:=vm (k:=3) rfl
theorem axu{r:En}{y:Option D}:vj (.nm 0) d (y::r)=some (some d::r):=(rfl)
theorem bb8{r:En}{y:Option D}:abn 1 (x0::y::r) d s=.ok (.nx (x0::some d::r)) s:=(rfl)
theorem baq{r:En}{y:Option D}:abn 2 (x0::x1::y::r) d s=.ok (.nx (x0::x1::some d::r)) s:=(rfl)
theorem bb7{r:En}{y:Option D}:abn 3 (x0::x1::x2::y::r) d s=.ok (.nx (x0::x1::x2::some d::r)) s:=(rfl)
theorem baz{r:En}{y:Option D}:abn 4 (x0::x1::x2::x3::y::r) d s=.ok (.nx (x0::x1::x2::x3::some d::r)) s:=(rfl)
theorem bak{r:En}{y:Option D}:abn 5 (x0::x1::x2::x3::x4::y::r) d s=.ok (.nx (x0::x1::x2::x3::x4::some d::r)) s:=(rfl)
theorem a9v{r:En}{x5 x6 y:Option D}:abn 7 (x0::x1::x2::x3::x4::x5::x6::y::r) d s=.ok (.nx (x0::x1::x2::x3::x4::x5::x6::some d::r)) s:=(rfl)
theorem bb4{r:En}{x5 x6 x7 y:Option D}:abn 8 (x0::x1::x2::x3::x4::x5::x6::x7::y::r) d s=.ok (.nx (x0::x1::x2::x3::x4::x5::x6::x7::some d::r)) s:=(rfl)
theorem a9f{r:En}{x5 x6 x7 x8 x9 x10 y:Option D}:abn 11 (x0::x1::x2::x3::x4::x5::x6::x7::x8::x9::x10::y::r) d s=.ok (.nx (x0::x1::x2::x3::x4::x5::x6::x7::x8::x9::x10::some d::r)) s:=(rfl)
end
@[simp] theorem R.bind_ok'{α β:Type}(a:α)(s:S)(f:α -> S -> R β):(R.ok a s).bind f=f a s:=(rfl)
@[simp] theorem R.W_ok'{α:Type}(a:α)(s:S)(Q:α -> S -> Prop):(R.ok a s).W Q=Q a s:=(rfl)
def flW(J:En -> S -> Prop)(Q:Fl -> S -> Prop)(fl:Fl)(s:S):Prop:=match fl with
 |.nx ρ=> J ρ s
 |.ct ρ=> J ρ s
 |.bk ρ=> Q (.nx ρ) s
 |.rt d=> Q (.rt d) s
theorem aa6{g:Tg}{fb:FS}{all:List D}{Q:Fl -> S -> Prop}(J:List D -> En -> S -> Prop)
  (step: ∀d r ρ s,J (d::r) ρ s -> ∃ρ1,vj g d ρ=some ρ1/\(fb ρ1 s).W (flW (J r) Q)) (fin: ∀ρ s,J [] ρ s -> Q (.nx ρ) s):
  ∀(ds:List D) (ρ:En) (s:S),J ds ρ s -> (qp g fb (all,none) ds ρ s).W Q
 |[],ρ,s,h=> fin ρ s h
 |d::r,ρ,s,h=> by
  obtain⟨ρ1,e,w⟩:=step d r ρ s h
  rw [aaq e,R.W_bind]
  refine R.W_mono w fun fl s1 q=> ?_
  cases fl with
  |nx ρ2=> rw [ao7];exact aa6 J step fin r ρ2 s1 q
  |ct ρ2=> rw [azb];exact aa6 J step fin r ρ2 s1 q
  |bk ρ2=> rw [ao1];exact q
  |rt d=> rw [aoe];exact q
theorem adj{g:Tg}{ft:FT}{fe:FE}{ρ0:En}{all:List D}{Q:List D -> S -> Prop}(J:List D -> List D -> S -> Prop)
  (step: ∀d r acc s,J (d::r) acc s -> ∃ρ1,vj g d ρ0=some ρ1/\(ft ρ1 s).W fun b s2=> if b=true then (fe ρ1 s2).W fun x s3=> J r (acc++ [x]) s3 else J r acc s2) (fin: ∀acc s,J [] acc s -> Q acc s):
  ∀(ds acc:List D) (s:S),J ds acc s -> (kr g ft fe ρ0 (all,none) ds s).W fun xs s'=> Q (acc++xs) s'
 |[],acc,s,h=> by
  rw [awf,R.W_ok,bY]
  exact fin acc s h
 | d::r,acc,s,h=> by
  obtain⟨ρ1,e,w⟩:=step d r acc s h
  rw [af1 e,R.W_bind,R.W_calm]
  refine R.W_mono w fun b s1 q=> ?_
  cases b with
  |false=>
   rw [an2]
   rw [if_neg am]at q
   exact adj J step fin r acc s1 q
  |true=>
   rw [ali,R.W_bind,R.W_calm]
   rw [if_pos rfl]at q
   refine R.W_mono q fun x s2 q2=> ?_
   rw [am2,R.W_bind]
   refine R.W_mono (adj J step fin r (acc++ [x]) s2 q2) fun xs s3 q3=> ?_
   rw [aj2,R.W_ok]
   rw [cT]at q3
   exact q3
structure Ext (s s':S):Prop where
 ex: ∃g,s'=s++g
theorem Ext.refl(s:S):Ext s s:=⟨[],by simp⟩
theorem Ext.trans{a b c:S}(h1:Ext a b)(h2:Ext b c):Ext a c:=by
 obtain⟨g,rfl⟩:=h1.ex
 obtain⟨k,rfl⟩:=h2.ex
 exact⟨g++k,by rw [cT]⟩
theorem Ext.add(s g:S):Ext s (s++g):=⟨g,rfl⟩
theorem Ext.len{s':S}(h:Ext s s'):s.length <=s'.length:=by obtain⟨g,rfl⟩:=h.ex;simp
theorem Ext.get{s':S}(h:Ext s s'){o:O}(e:s[k]?=some o):s'[k]?=some o:=by
 obtain⟨g,rfl⟩:=h.ex
 rw [bc (aA.mp e).1];exact e
theorem Ext.getE{s':S}(h:Ext s s')(e:k < s.length):s'[k]?=s[k]?:=by
 obtain⟨g,rfl⟩:=h.ex
 rw [bc e]
structure ky (n:Nat) (s s':S):Prop where
 len:s.length <=s'.length
 get: ∀k,k≠n -> k < s.length -> s'[k]?=s[k]?
theorem ky.refl(n:Nat)(s:S):ky n s s:=⟨aq _,fun _ _ _=> rfl⟩
theorem ky.trans{a b c:S}(h1:ky n a b)(h2:ky n b c):ky n a c:=⟨ax h1.len h2.len,fun k hk hl=> (h2.get k hk (aI hl h1.len)).trans (h1.get k hk hl)⟩
theorem Ext.same{s':S}(h:Ext s s')(n:Nat):ky n s s':=⟨h.len,fun _ _ hl=> h.getE hl⟩
theorem ac5{o:O}:ky n s (s.set n o):=⟨by simp,fun k hk hl=> aS (cI hk)⟩
theorem ky.own{s':S}{o:O}(h:ky n s s')(hk:s.length <=k):ky n s (s'.set k o):=⟨by simpa using h.len,fun j hj hl=> by rw [aS (by lia)];exact h.get j hj hl⟩
theorem aws{α:Type}{s:List α}{o:α}(e:s[n]?=some o):s.set n o=s:=by
 apply iT
 intro i
 by_cases z:n=i
 ·subst z
  have hl:=(aA.mp e).1
  rw [bh hl,e]
 ·rw [aS z]
end PF
namespace PF
open PySem PySem.Spec
open L2
open PyProof.Rows (envOfC)
section
variable{P:aQ}{w:aU}{K:aj}{mg:Str -> Option af}{base:Heap}{x:Str}{st:Stmt}{N ps:List Str}{k:Nat}
theorem fnF{f:Addr}(F:Fun K x x st f fd)(S:FnScope N ps (je st)){m:Nat}(hm:N.length=m)(hn:ps.length=n)(hbody:BodyOk P w K mg base N x st k fb):FnOk P w K mg base (CX1 P w) (k+1) f fd ps (spF K n (jx m fb)):=
 F.okX S (fun vs H Q E h=> by rw [hn];exact h.1) fun cdv A outer s H vs Q E hr h=> aij hm hbody f cdv A outer s H vs Q E hr h
theorem a47{f:Addr}{F:FF}(h:FnOk P w K mg base (CX1 P w) k f fd ps (spF K 1 F))(ht: ∀ns:List Int,ns.length <=63 -> (F [.frz (ns.map aE)] []).W fun d _=> d=.bl true):FnOk P w K mg base CX0 k f fd ps (ahd K):=by
 have sp: ∀vs H Q E,ahd K vs H Q E -> spF K 1 F vs H Q fun _ _ _=> False:=fun vs H Q E q=> by
  obtain⟨a,ns,rfl,hS,hl,hq⟩:=q
  have R0:Rel K ⟨[],[]⟩ H []:=⟨rfl,fun i j p e=> by simp at e,fun n p o e=> by simp at e,fun n o e=> by simp at e,fun p hp=> by simp at hp,fun p hp=> by simp at hp⟩
  refine⟨rfl,⟨[],[]⟩,[.frz (ns.map aE)],[],R0,.cons (.frz (fun as' H' st=> ?_) (TDs.ints ns)) .nil,?_⟩
  ·exact L2.ky.seq (fun b o hb=> st.keep b o (by simp [As.has]) hb) hS
  ·have t:=ht ns hl
   cases hr:F [.frz (ns.map aE)] []with
   |ok d s=>
    rw [hr]at t
    intro b as' H' st rl rb
    have:d=.bl true:=t
    subst this
    cases rb with
    |da z=> cases z;exact hq _
   |bad=> rw [hr]at t;exact t
   |ex n ρ s=> rw [hr]at t;exact t.elim
 refine⟨fun vs H Q E q=> h.len vs H Q _ (sp vs H Q E q),fun A outer s H args us vs Q E hr he hb hv hs=> dC (h.run A outer s H args us vs Q _ hr he hb hv (sp vs H Q E hs)) fun r s' hq=> ?_⟩
 cases r with
 |error e=> obtain⟨_,_,_,_,_,_,_,_,_,_,_,_,_,_,_,f⟩:=hq;exact f.elim
 |ok fl=> cases fl <;> exact hq
end
end PF
namespace PF
open PySem PySem.Spec
variable[XW]
open L2
variable[XW]
theorem abg{x:Str}(c: ∃t,X.mg x=some (.int i t))(hg:Gl X x:=by rfl)(hd:(x==("__debug__":Str))=false:=by decide):RE X (.Name x pos) (fC (.da (.int i))):=by
 obtain⟨t,hm⟩:=c
 exact afc (v:=.int i) (fun as H=>.da (.int i)) hm ⟨_,rfl⟩ hg hd
theorem ayp{x z:Str}(c: ∃t,X.mg x=some (.str z t))(hg:Gl X x:=by rfl)(hd:(x==("__debug__":Str))=false:=by decide):RE X (.Name x pos) (fC (.da (.str z))):=by
 obtain⟨t,hm⟩:=c
 exact afc (v:=.str z) (fun as H=>.da (.str z)) hm ⟨_,rfl⟩ hg hd
end PF
namespace PF
open PySem PySem.Spec
open L2
open PyProof.Rows (is_bool isnot_bool)
variable[XW]
end PF
namespace PF
open PySem PySem.Spec
open PySem.SeqAt
open AutoSeq1 (wpAny_loadPart') --
open MeetsSeq MeetsSeq2 MeetsSeq3 SeqRoads2 --
def amo(A:bf)(s:ai)(x y:af)(b:Bool):Prop:= ∀(prog:aQ) (w:aU) (E:af -> ai -> Prop) (Q:af -> ai -> Prop),Q (.bool b) s -> wpAny (model prog w) A (mn .Lt x y) Q E s
inductive LexAt (A:bf) (s:ai) (fin:Bool):List (af×af) -> Bool -> Prop
 |nil:LexAt A s fin [] fin
 |same {x y:af} {r:List (af×af)} {b:Bool}:EqAt A s x y true -> LexAt A s fin r b -> LexAt A s fin ((x,y)::r) b
 |diff {x y:af} {r:List (af×af)} {b:Bool}:EqAt A s x y false -> amo A s x y b -> LexAt A s fin ((x,y)::r) b
theorem a2r(l b:Addr)(us ws:Array af)(n n2:Nat)(dd dd2:Option Addr)(sl sl2:Array (Option af))(r:Bool):
  Meets (cf.«tuple.__lt__» ⟨[.ref l,.ref b],[]⟩)
   (fun A R s=> s.heap.get? l=some {cls:=.type "tuple",dict:=dd,data:=.seq us n,slots:=sl}/\s.heap.get? b=some {cls:=.type "tuple",dict:=dd2,data:=.seq ws n2,slots:=sl2}/\
    LexAt A.in1 s (decide (us.size < ws.size)) (us.toList.zip ws.toList) r/\R (.ok (.ret (.bool r))) s):=
 .of_wp fun prog w A R s h=> by
  (obtain⟨hp,g,d,tk,os⟩:=s)
  obtain⟨hl,hb,lx,hR⟩:=h
  have sub:=AutoSeq1.sub_tuple_tuple
  wp_walk using mr hl,mr hb,jA _ (fun rest b s'=> b.1=none/\s'=⟨hp,g,d,tk,os⟩/\LexAt A.in1 ⟨hp,g,d,tk,os⟩ (decide (us.size < ws.size)) rest r) _
  case turn=>
   rintro⟨y,x⟩ rest b s' ⟨hb',rfl,lx⟩
   cases lx with
   |same e t=>
    refine ac (e prog w _ _ ?_)
    wp_walk
    exact⟨rfl,rfl,t⟩
   |diff e t=>
    refine ac (e prog w _ _ ?_)
    have t': ∀(E:af -> ai -> Prop) (Q:af -> ai -> Prop),Q (.bool r) ⟨hp,g,d,tk,os⟩ -> wpAny (model prog w) A.in1 (mn .Lt y x) Q E ⟨hp,g,d,tk,os⟩:=fun E Q=> t prog w E Q
    generalize mn .Lt y x=m at t'⊢
    wp_walk
    refine t' _ _ ?_
    wp_walk
    exact⟨_,rfl,hR⟩
  case fin=>
   rintro⟨b1,b2⟩ s' ⟨hb',rfl,lx⟩
   simp only at hb'
   subst hb'
   cases lx
   wp_walk
   exact⟨_,rfl,by simpa [Builtin.Tuple.tupleCompareSizes] using hR⟩
  case h=> exact⟨rfl,rfl,lx⟩
section
variable{A:bf}{s:ai} --
theorem amo.tuples{b:Addr}{us ws:Array af}{r:Bool}(hl:s.heap.IsTuple l us)(hb:s.heap.IsTuple b ws)(hu:A.units < cLine)(lx:LexAt A.in1 s (decide (us.size < ws.size)) (us.toList.zip ws.toList) r):amo A s (.ref l) (.ref b) r:=fun prog w E Q h=> by
 obtain⟨⟨c1,d1,e1,s1⟩,o1,k1,n1,q1⟩:=id hl
 obtain⟨⟨c2,d2,e2,s2⟩,o2,k2,n2,q2⟩:=id hb
 simp only at k1 q1 k2 q2
 subst k1 q1 k2 q2
 exact richCompare_meets_room (op:=.Lt) ⟨_,o1,rfl⟩ ⟨_,o2,rfl⟩ F.slot_tuple_lt F.entry_tuple_lt (F.args_tuple_lt_2 _ _) (a2r l b us ws n1 n2 d1 d2 s1 s2 r) ⟨o1,o2,lx,show eD r≠lw/\Q (.bool r) s from ⟨nofun,h⟩⟩ hu
end
mutual
noncomputable def ltP:ae -> ae -> Option Bool
 |.int i,.int j=> some (decide (i < j))
 |.str a,.str b=> some (decide (a.cps.toList < b.cps.toList))
 |.tuple xs,.tuple ys=> z9 xs ys
 |_,_=> none
noncomputable def z9:List ae -> List ae -> Option Bool
 |[],[]=> some false
 |[],_::_=> some true
 |_::_,[]=> some false
 |x::xs,y::ys=> if aK x y=true then z9 xs ys else ltP x y
end
theorem ald:z9 [] []=some false:=by simp only [z9]
theorem ako{y:ae}:z9 [] (y::ys)=some true:=by simp only [z9]
theorem akk{y:ae}:z9 (y::ys) []=some false:=by simp only [z9]
theorem asv{x y:ae}:z9 (x::xs) (y::ys)=if aK x y=true then z9 xs ys else ltP x y:=by simp only [z9]
theorem aib:ltP (.int i) (.int j)=some (decide (i < j)):=by simp only [ltP]
theorem a1h{a b:Str}:ltP (.str a) (.str b)=some (decide (a.cps.toList < b.cps.toList)):=by simp only [ltP]
theorem a1d:ltP (.tuple xs) (.tuple ys)=z9 xs ys:=by simp only [ltP]
end PF
namespace PF
open PySem PySem.Spec
open PySem.SeqAt
mutual
theorem ahc: ∀(da db:ae) (A:bf) (s:ai) (a b:af) (as bs:List Addr) (r:Bool),eY s.heap a da as -> eY s.heap b db bs -> da.canLay0=true -> db.canLay0=true -> A.units+min da.depth db.depth < cLine -> ltP da db=some r -> amo A s a b r
 | .int i,db,A,s,_,_,_,_,r,ra,rb,_,_,_,h=> by
  cases db with
  |int j=>
   rw [aib]at h
   cases h
   cases ra;cases rb
   exact fun prog w E Q q=> PyProof.Rows.lt_int q
  |none=> simp [ltP]at h
  |bool _=> simp [ltP]at h
  |str _=> simp [ltP]at h
  |list _=> simp [ltP]at h
  |tuple _=> simp [ltP]at h
  |dict _=> simp [ltP]at h
 | .str x,db,A,s,_,_,_,_,r,ra,rb,_,_,_,h=> by
  cases db with
  |str j=>
   rw [a1h]at h
   cases h
   cases ra;cases rb
   exact fun prog w E Q q=> PyProof.Rows.lt_str q
  |none=> simp [ltP]at h
  |bool _=> simp [ltP]at h
  |int _=> simp [ltP]at h
  |list _=> simp [ltP]at h
  |tuple _=> simp [ltP]at h
  |dict _=> simp [ltP]at h
 | .tuple xs,db,A,s,_,_,_,_,r,ra,rb,ha,hb,hu,h=> by
  cases db with
  | tuple ys=>
   rw [a1d]at h
   cases ra with
   | tuple h1 h2 h3 h4=>
    cases rb with
    |tuple k1 k2 k3 k4=>
     refine amo.tuples ⟨_,h1,h2,_,h3⟩ ⟨_,k1,k2,_,k3⟩ (room_here hu) ?_
     have t:=ag0 xs ys A.in1 s _ _ _ _ r h4 k4 ha hb (room_in hu) h
     simpa using t
  |none=> simp [ltP]at h
  |bool _=> simp [ltP]at h
  |int _=> simp [ltP]at h
  |list _=> simp [ltP]at h
  |str _=> simp [ltP]at h
  |dict _=> simp [ltP]at h
 |.none,_,_,_,_,_,_,_,_,_,_,_,_,_,h=> by simp [ltP]at h
 |.bool _,_,_,_,_,_,_,_,_,_,_,_,_,_,h=> by simp [ltP]at h
 |.list _,_,_,_,_,_,_,_,_,_,_,_,_,_,h=> by simp [ltP]at h
 |.dict _,_,_,_,_,_,_,_,_,_,_,ha,_,_,_=> nomatch ha
theorem ag0: ∀(xs ys:List ae) (A:bf) (s:ai) (vs ws:List af) (as bs:List Addr) (r:Bool),gF s.heap vs xs as -> gF s.heap ws ys bs -> bT xs=true -> bT ys=true -> A.units+min (bv xs) (bv ys) < cLine -> z9 xs ys=some r -> LexAt A s (decide (vs.length < ws.length)) (vs.zip ws) r
 |[],[],A,s,_,_,_,_,r,ra,rb,_,_,_,h=> by
  cases ra;cases rb
  rw [ald]at h
  cases h
  exact .nil
 |[],_::_,A,s,_,_,_,_,r,ra,rb,_,_,_,h=> by
  cases ra;cases rb
  rw [ako]at h
  cases h
  simpa using LexAt.nil (A:=A) (s:=s) (fin:=true)
 |_::_,[],A,s,_,_,_,_,r,ra,rb,_,_,_,h=> by
  cases ra;cases rb
  rw [akk]at h
  cases h
  simpa using LexAt.nil (A:=A) (s:=s) (fin:=false)
 | x ::xs,y::ys,A,s,_,_,_,_,r,ra,rb,ha,hb,hu,h=> by
  have ha':x.canLay0=true/\bT xs=true:=by simpa [bT] using ha
  have hb':y.canLay0=true/\bT ys=true:=by simpa [bT] using hb
  rw [asv]at h
  cases ra with
  | cons r1 rs=>
   cases rb with
   | cons r2 rs2=>
    have e:=eqAt_reads x y A s _ _ _ _ r1 r2 ha'.1 hb'.1 (room_head hu)
    rw [List.zip_cons_cons,aM,aM]
    by_cases q:aK x y=true
    ·rw [if_pos q]at h
     rw [q]at e
     have t:=ag0 xs ys A s _ _ _ _ r rs rs2 ha'.2 hb'.2 (room_tail hu) h
     refine .same e ?_
     simpa using t
    ·rw [if_neg q]at h
     rw [Bool.not_eq_true]at q
     rw [q]at e
     exact .diff e (ahc x y A s _ _ _ _ r r1 r2 ha'.1 hb'.1 (room_head hu) h)
end
end PF
namespace PF
open PySem PySem.Spec
def ltb(a b:ae):Bool:=match ltP a b with
 |some true=> true
 |_=> false
end PF
namespace KS
open PySem PySem.W PyProof.Rows
noncomputable def run{α:Type}(lt:Nat -> Nat -> Bool):KasT α -> α
 |.ret a=> a
 |.ask i j k=> run lt (k (lt i j))
section
variable{lt:Nat -> Nat -> Bool}
theorem gd(p:Array Nat)(k:Nat):p.getD k 0=(p[k]?).getD 0:=Array.getD_eq_getD_getElem? ..
end
end KS
namespace PF
open PySem PySem.Spec
open L2
variable[XW]
def aqn(dx dy:D)(s:S):R D:=match toP s dx,toP s dy with
 |some a,some b=> match ltP a b with
  |some r=> if okD a=true/\okD b=true then .ok (.bl r) s else .bad
  |none=>.bad
 |_,_=>.bad
theorem a6u(hu:X.A.units+64 < cLine):Op2 X (aT .Lt) aqn:=vd fun pins sh σ H as s x y dx dy v u Q I rl r1 r2 rx ry h=> by
 unfold aqn at h
 split at h
 ·rename_i a b ea eb
  split at h
  ·rename_i r hr
   split at h
   ·rename_i hok
    obtain⟨bs1,q1⟩:=r1.reads I rl ea rx
    obtain⟨bs2,q2⟩:=r2.reads I rl eb ry
    obtain⟨c1,d1⟩:=zg hok.1
    obtain⟨c2,d2⟩:=zg hok.2
    exact ahc a b _ _ _ _ _ _ r q1 q2 c1 c2 (by lia) hr _ _ _ _ ⟨.bl _,H,I,rfl,Dn.now (Q:=Q) h rl (.da (.bl _))⟩
   ·exact h.elim
  ·exact h.elim
 ·exact h.elim
end PF
namespace PF
open PySem PySem.Spec
open PySem.SeqAt
variable[XW]
end PF
namespace PF
open PySem PySem.Spec
open L2
variable[XW]
def act(ds:List D)(s:S):R D:=match ds with
 |[d]=> match (adp s d).bind ack with
  |some ss=> if ss.length < 4000 then .ok (.int (jn ss).length) s else .bad
  |none=>.bad
 |_=>.bad
theorem asb{p1 p2 pos2:Pos}(hc:X.calm=true)(hm1:X.mg "len"=none)(hm2:X.mg "set"=none)(ha:RA X [e] f)(hg1:Gl X "len":=by rfl)(hg2:Gl X "set":=by rfl)(hs:starEach [e] X.env=(false,eval e X.env)::starEach [] X.env:=by rfl)(hs2:starEach [.Call (.Name "set" p2) [e] [] pos2] X.env=(false,eval (.Call (.Name "set" p2) [e] [] pos2) X.env)::starEach [] X.env:=by rfl)(hpl:(backTo pos (starEach [] X.env)).any (·.1)=false:=by rfl)(hpl2:(backTo pos2 (starEach [] X.env)).any (·.1)=false:=by rfl):
  RE X (.Call (.Name "len" p1) [.Call (.Name "set" p2) [e] [] pos2] [] pos) (fCB act f):=by
 obtain⟨t,pa,ra⟩:=ha.ex
 have pset:=af3 (X:=X) (aso hc) hg2 hm2 ay1 pa (pos:=pos2) (p:=p2) (by decide) (by decide) hs hpl2
 have plen:=ae5 (X:=X) atx hg1 hm1 akx (aa5 pset acw hs2) (pos:=pos) (p:=p1) (by decide) (by decide) hs2 hpl
 refine⟨_,plen,fun as σ H ρ s Q rl en h=> ?_⟩
 refine ra as σ H ρ s _ rl en (Dn.bind h fun ds s1 as1 H1 vs st1 rl1 r1 h1=> ?_)
 unfold act at h1
 split at h1
 ·obtain⟨v,rfl,rv⟩:=r1.one
  split at h1
  ·rename_i ss e
   split at h1
   ·rename_i hz
    cases e2:adp s1 _ with
    |none=> rw [e2]at e;cases e
    |some xs=>
     rw [e2]at e
     obtain⟨p,zs,rfl,sq,rz⟩:=acs rl1 rv e2
     obtain⟨ez,ex⟩:=aor rz (show ack xs=some ss from e)
     subst ez
     refine⟨p,ss,rfl,sq,hz,fun q H2 n2=> ⟨q,ss,rfl,n2.at,?_⟩⟩
     exact Dn.now (Q:=Q) (Dn.step h1 (j4 n2)) (rl1.new n2) (.da (.int _))
   ·exact h1.elim
  ·exact h1.elim
 ·exact h1.elim
end PF
namespace PF
open PySem PySem.Spec
open L2
variable[XW]
noncomputable def Its(x:Str):It:=⟨fun i _=> i < x.length,fun i H v H'=> H'=H/\ ∃c,x.cps.toList[i]?=some c/\v=.str ⟨#[c]⟩,fun i _=> x.length <=i⟩
theorem apy(x:Str)(t:Tok)(it:Addr):Turn P w K tg (Its x) [it] it (fun i h=> h.IsStrIter it "str_ascii_iterator" x t i) where
 mem:=by simp
 obj:=fun i h st b hb=> by
  cases aY.mp hb
  obtain⟨o,e,c,d⟩:=st
  exact⟨o,e,fun v z=> by rw [d]at z;cases z⟩
 keep:=fun i h h' st k=> by
  obtain⟨o,e,c,d⟩:=st
  exact⟨o,k it (by simp) o e,c,d⟩
 item:=by
  intro X hP hw hK hc i pins s σ H E I hf st hg
  subst hP hw hK
  have hl:i < x.cps.size:=hg
  have hx:x.cps[i]?=some x.cps[i]:=bI hl
  obtain⟨f0,f1,f2,f3,f4,f5⟩:=hf it (by simp)
  refine wpAny_pyNext_ascii_item st hx fun h' st' sb=> ?_
  have I1:Inv X pins σ H {s with heap:=h',toks:=s.toks+1}:=I.turned (t':=s.toks+1) (fun b o hb e=> (sb.2 b hb).trans e) f0 f1 f3 f4 f5
  obtain⟨o,e,c,d⟩:=id st'
  exact⟨_,rfl,akt (s:={s with heap:=h',toks:=s.toks+1}) e c d (by decide) ⟨.str ⟨#[x.cps[i]]⟩,H,I1,⟨_,rfl⟩,⟨rfl,x.cps[i],by rw [←hx,cq],rfl⟩,st',fun b hb=> (hf b hb).1⟩⟩
 done:=by
  intro X hP hw hK hc i pins s σ H E I hf st hg
  subst hP hw hK
  have hl:x.cps.size <=i:=hg
  obtain⟨f0,f1,f2,f3,f4,f5⟩:=hf it (by simp)
  exact wpAny_pyNext_ascii_end (I.ok.hd hc) st (gn hl) fun h' eb=> ⟨rfl,I.turned (t':=s.toks) (fun b o hb e=> eb b o hb e) f0 f1 f3 f4 f5⟩
 self:=fun _ _ _ _ _ st h=> wpAny_pyIter_striter_ascii st h
section
variable{X:Cx}{tg a:Expr}{fa:FE}
def a7p(tl:TE):TI:=fun σ H R=> tl σ H fun v H1=> ∃x,v=.str x/\x.cps.all (· < 128)=true/\R (Its x) H1
theorem a4z{l:Expr}{tl:TE}(hl:PE X l tl):PI X tg l (a7p tl):=by
 intro pins s σ H R I h
 refine thn (hl pins s σ H _ I h) fun v s1 ⟨z,H1,I1,r1,q1⟩=> ?_
 obtain⟨x,rfl,hx,q⟩:=q1
 obtain⟨t,rfl⟩:=r1
 refine wpAny_pyIter_ascii hx ?_
 exact⟨s1.heap.objs.size,[s1.heap.objs.size],_,_,H1,rfl,I1.kept (t':=s1.toks) fun b o e=> ag _ e,apy x t _,⟨_,ar _ rfl,rfl,rfl⟩,fun b hb=> by
  cases aY.mp hb
  exact I1.fpOk (aq _) (I1.hok.fresh (aq _)),q⟩
noncomputable def aar(x:Str):List D:=x.cps.toList.map fun c=>.str ⟨#[c]⟩
theorem a3i(x:Str):aem K as H (Its x) (aar x,none):=by
 intro as2 H2 s2 st rl so i
 have ln:(aar x).length=x.length:=by unfold aar;rw [ak,aL];rfl
 refine⟨fun hl=> by rw [ln]at hl;exact hl,fun d hd=> ?_⟩
 have hl:i < x.length:=by
  have:=(aA.mp hd).1
  rw [ln]at this;exact this
 unfold aar at hd
 rw [aR]at hd
 cases e:x.cps.toList[i]? with
 |none=> rw [e]at hd;cases hd
 |some c=>
  rw [e]at hd
  cases hd
  refine⟨hl,fun v H3 hy=> ?_⟩
  obtain⟨rfl,c',ec,rfl⟩:=hy
  rw [e]at ec
  cases ec
  exact⟨Step.refl _ _,rl,.da (.str _)⟩
def ahv(d:D)(s:S):R Wk:=match d with
 |.da (.str x)=> if x.cps.all (· < 128)=true then .ok (aar x,none) s else .bad
 |_=>.bad
def aqb(f:FE):FI:=fun ρ s=> (f ρ s).bind ahv
theorem bae(h:RE X a fa):RI X tg a (aqb fa):=by
 obtain⟨t,p,r⟩:=h.ex
 refine⟨_,a4z p,fun as σ H ρ s Q rl en h=> ?_⟩
 refine r as σ H ρ s _ rl en (Dn.bind h fun d s1 as1 H1 v st1 rl1 r1 h1=> ?_)
 unfold ahv at h1
 split at h1
 ·rename_i x
  cases r1.str_inv
  split at h1
  ·rename_i hx
   exact⟨x,rfl,hx,Dn.now (Q:=Q) h1 rl1 (a3i x)⟩
  ·exact h1.elim
 ·exact h1.elim
end
end PF
namespace PF
open PySem PySem.Spec
open L2
variable[XW]
noncomputable def alz(x y:Str):Bool:= !(eg x y 0 x.length 1).isEmpty
def aq7(dx dy:D)(s:S):R D:=match dx,dy with
 |.da (.str y),.da (.str x)=>.ok (.bl (alz x y)) s
 |_,_=>.bad
theorem a5p:Op2 X (aT .In) aq7:=vd fun pins sh σ H as s x y dx dy v u Q I rl r1 r2 rx ry h=> by
 unfold aq7 at h
 split at h
 ·cases r1.str_inv;cases r2.str_inv
  obtain⟨t,rfl⟩:=rx
  obtain⟨t',rfl⟩:=ry
  exact PyProof.Rows.in_str (jz I (Dn.now (Q:=Q) h rl (.da (.bl _))) rfl)
 ·exact h.elim
theorem ang: ∀c:Nat,c < 128 -> alz (bG "abcdefghijklmnopqrstuvwxyz") ⟨#[c]⟩=(decide (97 <=c)&&decide (c <=122)):=by decide+kernel
end PF
namespace PF
open PySem PySem.Spec
open L2
section
variable{s:S}{a b:ae}{r c d:Bool}{x y:Str}{ρ:En}
theorem az6(h:ltP a b=some r)(h1:okD a=true)(h2:okD b=true):aqn (.da a) (.da b) s=.ok (.bl r) s:=by
 show (match ltP a b with|some r=> if okD a=true/\okD b=true then R.ok (D.bl r) s else .bad|none=>.bad)=_
 rw [h]
 exact if_pos ⟨h1,h2⟩
theorem a4j:aq7 (.str y) (.str x) s=.ok (.bl (alz x y)) s:=(rfl)
theorem ah3(h:ss.length < 4000):act [.tup (ss.map aF)] s=.ok (.int (jn ss).length) s:=by
 show (match ack ((ss.map aF).map D.da) with|some ss=> if ss.length < 4000 then R.ok (D.int (jn ss).length) s else .bad|none=>.bad)=_
 rw [show (ss.map aF).map D.da=ss.map D.str by rw [cO];rfl,aj9]
 exact if_pos h
theorem aod(h:x.cps.all (· < 128)=true):ahv (.str x) s=.ok (aar x,none) s:=if_pos h
theorem ay7{f:FE}:aqb f ρ s=(f ρ s).bind ahv:=(rfl)
end
theorem aln{x:Str}(h:x.cps.all (· < 128)=true): ∀c∈x.cps.toList,alz (bG "abcdefghijklmnopqrstuvwxyz") ⟨#[c]⟩=(decide (97 <=c)&&decide (c <=122)):=by
 intro c hc
 refine ang c ?_
 rw [←jI,aO]at h
 exact of_decide_eq_true (h c hc)
variable[XW]
noncomputable def agl(ds:List D)(s:S):R D:=match ds with
 |[.da (.bool b)]=>.ok (.int (if b then 1 else 0)) s
 |_=>.bad
theorem a6d:CB X (.type "int") agl:=zr fun pins sh σ H as s xs ds us Q I rl rs ru h=> by
 unfold agl at h
 split at h
 ·obtain⟨v,rfl,rv⟩:=rs.one
  cases rv.bl_inv
  obtain⟨u,rfl,r9⟩:=vals1 ru
  cases r9
  exact PySem.call_int_bool (show EP X pins σ Q _ _ from ⟨.int _,H,I.tok _,⟨_,rfl⟩,Dn.now (Q:=Q) h rl (.da (.int _))⟩)
 ·exact h.elim
end PF
namespace PF
open PySem PySem.Spec
open L2
variable[XW]
end PF
namespace PF
open PySem PySem.Spec PySem.W PyProof.Rows
variable[XW]
open PySem.SeqAt
variable[XW]
end PF
namespace PF
open PySem PySem.Spec
open L2
variable[XW]
end PF
namespace L2
open PySem PySem.Spec PyProof.Rows
section
variable{P:aQ}{w:aU}{H:Hp}{h:Heap}{a:Addr}
end
end L2
namespace PF
open PySem PySem.Spec
open L2
variable[XW]
end PF
namespace PF
open PySem PySem.Spec
open L2
open PyProof.Rows (subscriptTail subscriptTail_builtinR)
variable[XW]
end PF
namespace PF
open PySem PySem.Spec
open L2
variable[XW]
end PF
namespace PF
open PySem PySem.Spec
open L2
variable[XW]
end PF
namespace PF
open PySem PySem.Spec
open L2
variable[XW]
end PF
namespace L2
open PySem PySem.Spec PyProof.Rows
abbrev TBd:=Addr -> St -> Hp -> (St -> Hp -> Prop) -> Prop
end L2
namespace PF
open PySem PySem.Spec
open L2
variable[XW]
end PF
namespace L2
open PySem PySem.Spec PyProof.Rows
def kn(b:Bool)(h:Heap)(l:Addr)(xs:Array af):Prop:=if b=true then h.IsList l xs else h.IsTuple l xs
def vx(b:Bool)(h:Heap)(i l:Addr)(k:Nat):Prop:=if b=true then h.IsListIter i l k else h.IsTupleIter i l k
theorem kn.to{h':Heap}{xs:Array af}(x:kn b h l xs)(k: ∀o,h.get? l=some o -> h'.get? l=some o):kn b h' l xs:=by
 cases b with
 |true=> obtain⟨o,e,r⟩:=x;exact⟨o,k o e,r⟩
 |false=> obtain⟨o,e,r⟩:=x;exact⟨o,k o e,r⟩
theorem vx.to{h':Heap}{i:Addr}(x:vx b h i l n)(k: ∀o,h.get? i=some o -> h'.get? i=some o):vx b h' i l n:=by
 cases b with
 |true=> obtain⟨o,e,r⟩:=x;exact⟨o,k o e,r⟩
 |false=> obtain⟨o,e,r⟩:=x;exact⟨o,k o e,r⟩
theorem vx.obj{i:Addr}(x:vx b h i l n): ∃o,h.get? i=some o/\ ∃vs,o.data=.fields vs:=by
 cases b with
 |true=> obtain⟨o,e,_,r⟩:=x;exact⟨o,e,_,r⟩
 |false=> obtain⟨o,e,_,r⟩:=x;exact⟨o,e,_,r⟩
theorem kn.lt{xs:Array af}(x:kn b h l xs):l < h.objs.size:=by
 cases b with
 |true=> obtain⟨o,e,r⟩:=x;exact ao e
 |false=> obtain⟨o,e,r⟩:=x;exact ao e
section
variable{P:aQ}{w:aU}{A:bf}{E:af -> ai -> Prop}{s:ai}
open PySem.F in
theorem aae{i:Addr}{xs:Array af}{x:af}(hi:vx b s.heap i l k)(hl:kn b s.heap l xs)(hx:xs[k]?=some x)(hQ: ∀h',vx b h' i l (k+1) -> bz i s.heap h' -> Q x {s with heap:=h'}):wpAny (model P w) A (cH (.ref i)) Q E s:=by
 cases b with
 |true=> exact wpAny_nextOf_list_item hi hl hx hQ
 |false=>
  have hi:s.heap.IsTupleIter i l k:=hi
  have hl:s.heap.IsTuple l xs:=hl
  obtain⟨o,ho,hc,hd⟩:=id hi
  (obtain⟨ol,hol,_,nl,hdl⟩:=hl)
  refine ac (bn (name:=bG "__next__") hi.typeIs slot_tuple_iterator_next (bo slot_tuple_iterator_next hi.typeIs entry_tuple_iterator_next ?_ (args_tuple_iterator_next_1 _)))
  wp_walk using a7 ho hd (x:=.ref l) rfl,a7 ho hd (x:=.int k 0) rfl,c7 hol hdl
  (simp only [cj,hx])
  refine ac (b9 ho hd (by simp) (ah ⟨_,rfl,ah (hQ _ ?_ (.update ..))⟩))
  exact⟨_,bA _ ho (gN (eG hd _)),by rw [Obj.cls_mapFields];exact hc,by rw [eG hd];simp [rawInt]⟩
open PySem.F in
theorem ady{i:Addr}{xs:Array af}(hh:A.handled=none)(hi:vx b s.heap i l k)(hl:kn b s.heap l xs)(hx:xs[k]?=none)(hE: ∀h' e,eL i s.heap h' -> (∃o,h'.get? e=some o/\o.cls=.type "StopIteration") -> E (.ref e) {s with heap:=h'}):wpAny (model P w) A (cH (.ref i)) Q E s:=by
 cases b with
 |true=> exact wpAny_nextOf_list_end hh hi hl hx hE
 |false=>
  have hi:s.heap.IsTupleIter i l k:=hi
  have hl:s.heap.IsTuple l xs:=hl
  obtain⟨o,ho,hc,hd⟩:=id hi
  (obtain⟨ol,hol,_,nl,hdl⟩:=hl)
  refine ac (bn (name:=bG "__next__") hi.typeIs slot_tuple_iterator_next (bo slot_tuple_iterator_next hi.typeIs entry_tuple_iterator_next ?_ (args_tuple_iterator_next_1 _)))
  (have hh1:A.in1.handled=none:=hh)
  wp_walk using a7 ho hd (x:=.ref l) rfl,a7 ho hd (x:=.int k 0) rfl,c7 hol hdl
  (simp only [cj,hx])
  (refine ac (cF (ac (b9 ho hd (by simp) ?_))))
  wp_walk
  simp only [raiseNew]
  (refine ac (lH ?_))
  rw [hh1]
  refine ac (ah (ml (hE _ _ (((bQ ..).extBut.push _).push _) ?_)))
  exact⟨_,ar _ rfl,rfl⟩
end
section
variable{P:aQ}{w:aU}{A:bf}{E:af -> ai -> Prop}{s:ai}
structure ZAt (b1 b2:Bool) (l1 l2 z TI TO i1 i2:Addr) (f0:af) (k1 k2:Nat) (h:Heap):Prop where
 ap:ZipApart z TI TO i1 i2 l1 l2
 oz:iu h z TI TO f0
 oi:fT h TI (.ref i1) (.ref i2)
 oo: ∃a b,fT h TO a b
 c1:vx b1 h i1 l1 k1
 c2:vx b2 h i2 l2 k2
theorem a4d{b1 b2:Bool}{z TI TO i1 i2 l1 l2:Addr}{k1 k2:Nat}{xs ys:Array af}{x y:af}(Z:ZAt b1 b2 l1 l2 z TI TO i1 i2 .none k1 k2 s.heap)(hl1:kn b1 s.heap l1 xs)(hl2:kn b2 s.heap l2 ys)(hx:xs[k1]?=some x)(hy:ys[k2]?=some y)(hQ: ∀h',ZAt b1 b2 l1 l2 z TI TO i1 i2 (rawInt s.heap.objs.size) (k1+1) (k2+1) h' -> fT h' s.heap.objs.size x y ->
   (∀c o,c≠z -> c≠TO -> c≠i1 -> c≠i2 -> s.heap.get? c=some o -> h'.get? c=some o) -> Q (.ref s.heap.objs.size) {s with heap:=h'}):
  wpAny (model P w) A (cf.«zip.__next__» ⟨[.ref z],[]⟩) (fun fin s'=> ∃v,fin=.done (.ret v)/\Q v s') E s:=by
 obtain⟨ap,oz,oi,⟨a,b,oo⟩,c1,c2⟩:=Z
 (show wpAny _ _ (field (.ref z) 2 >>=_) _ _ _);refine ac (a7 oz rfl (x:=.bool false) rfl ?_)
 (show wpAny _ _ (field (.ref z) 3 >>=_) _ _ _);refine ac (a7 oz rfl (x:=.ref TI) rfl (ac (c7 oi rfl ?_)))
 (show wpAny _ _ (dI (.ref z)>>=_) _ _ _);refine ac (ac (a7 oz rfl (x:=.none) rfl (ah ?_)))
 simp only [if_true]
 refine ac (cF (ac (a7 oz rfl (x:=.ref TO) rfl (ac (bV oz (by simp) fun g1 z1 e1=> ac ?_)))))
 have z1:iu g1 z TI TO .ellipsis:=z1
 (simp only [List.zipIdx_cons,List.zipIdx_nil,jT,List.forIn_nil])
 (refine ac (ac (fB ?_)))
 (show wpAny _ _ (cH (.ref i1)>>=_) _ _ _);refine ac (aae (c1.to fun o=> e1.extBut _ _ ap.i1z) (hl1.to fun o=> e1.extBut _ _ ap.l1z) hx fun g2 c1' e2=> ah ?_)
 have o2:fT g2 TO a b:=e2.extBut _ _ ap.TOi1 (e1.extBut _ _ ap.TOz oo)
 refine ac (c7 o2 rfl (ac (g6 o2 fun g3 o3 e3=> ac (ir (ah (ac (ac (fB ?_))))))))
 have o3:fT g3 TO x b:=o3
 have k3: ∀c o,c≠z -> c≠i1 -> c≠TO -> s.heap.get? c=some o -> g3.get? c=some o:=fun c o a1 a2 a3 e=> e3.extBut _ _ a3 (e2.extBut _ _ a2 (e1.extBut _ _ a1 e))
 (show wpAny _ _ (cH (.ref i2)>>=_) _ _ _);refine ac (aae (c2.to fun o=> k3 _ o ap.i2z ap.i12.symm ap.TOi2.symm) (hl2.to fun o=> k3 _ o ap.l2z ap.l2i1 ap.l2TO) hy fun g4 c2' e4=> ah ?_)
 have o4:fT g4 TO x b:=e4.extBut _ _ ap.TOi2 o3
 refine ac (c7 o4 rfl (ac (g6 o4 fun g5 o5 e5=> ac (ir (ah (ah ?_))))))
 have o5:fT g5 TO x y:=o5
 refine ac (c7 o5 rfl (ac (wpAny_newTuple ?_)))
 have sz:g5.objs.size=s.heap.objs.size:=by rw [e5.1,e4.1,e3.1,e2.1,e1.1]
 have z5:iu g5 z TI TO .ellipsis:=e5.extBut _ _ ap.TOz.symm (e4.extBut _ _ ap.i2z.symm (e3.extBut _ _ ap.TOz.symm (e2.extBut _ _ ap.i1z.symm z1)))
 have k5: ∀c o,c≠z -> c≠TO -> c≠i1 -> c≠i2 -> s.heap.get? c=some o -> g5.get? c=some o:=fun c o a1 a2 a3 a4 e=> e5.extBut _ _ a2 (e4.extBut _ _ a4 (k3 c o a1 a3 a2 e))
 have c15:vx b1 g5 i1 l1 (k1+1):=c1'.to fun o e=> e5.extBut _ _ ap.TOi1.symm (e4.extBut _ _ ap.i12 (e3.extBut _ _ ap.TOi1.symm e))
 have c25:vx b2 g5 i2 l2 (k2+1):=c2'.to fun o e=> e5.extBut _ _ ap.TOi2.symm e
 (show wpAny _ _ (fU (.ref z) (.ref g5.objs.size)>>=_) _ _ _);refine ac ?_
 have z6:iu (g5.push {cls:=.type "tuple",data:=.seq #[x,y]}) z TI TO .ellipsis:=ag _ z5
 refine ac (bV z6 (by simp) fun g7 z7 e7=> ?_)
 have z7:iu g7 z TI TO (rawInt g5.objs.size):=z7
 refine bV z7 (by simp) fun g8 z8 e8=> ?_
 have z8:iu g8 z TI TO (rawInt g5.objs.size):=z8
 have up: ∀c o,c≠z -> g5.get? c=some o -> g8.get? c=some o:=fun c o a1 e=> e8.extBut _ _ a1 (e7.extBut _ _ a1 (ag _ e))
 have nz:g5.objs.size≠z:=dA (ao z5)
 have t8:fT g8 g5.objs.size x y:=e8.extBut _ _ nz (e7.extBut _ _ nz (ar _ rfl))
 rw [sz]at z8 t8
 (refine ah ⟨_,rfl,?_⟩)
 show Q (.ref g5.objs.size) _
 rw [sz]
 exact hQ g8 ⟨ap,z8,up _ _ ap.TIz (k5 _ _ ap.TIz ap.TITO ap.TIi1 ap.TIi2 oi),⟨_,_,up _ _ ap.TOz o5⟩,c15.to fun o=> up _ o ap.i1z,c25.to fun o=> up _ o ap.i2z⟩ t8 fun c o a1 a2 a3 a4 e=> up c o a1 (k5 c o a1 a2 a3 a4 e)
theorem a1q{b1 b2:Bool}{z TI TO i1 i2 l1 l2:Addr}{k1 k2:Nat}{xs ys:Array af}{Q:Fin -> ai -> Prop}(hh:A.handled=none)(Z:ZAt b1 b2 l1 l2 z TI TO i1 i2 .none k1 k2 s.heap)
  (hl1:kn b1 s.heap l1 xs) (hl2:kn b2 s.heap l2 ys) (hend:xs[k1]?=none\/ys[k2]?=none)
  (hE: ∀h' e,(∀c o,c≠z -> c≠TO -> c≠i1 -> c≠i2 -> s.heap.get? c=some o -> h'.get? c=some o) -> (∃o,h'.get? e=some o/\o.cls=.type "StopIteration") -> E (.ref e) {s with heap:=h'}):
  wpAny (model P w) A (cf.«zip.__next__» ⟨[.ref z],[]⟩) Q E s:=by
 obtain⟨ap,oz,oi,⟨a,b,oo⟩,c1,c2⟩:=Z
 (show wpAny _ _ (field (.ref z) 2 >>=_) _ _ _);refine ac (a7 oz rfl (x:=.bool false) rfl ?_)
 (show wpAny _ _ (field (.ref z) 3 >>=_) _ _ _);refine ac (a7 oz rfl (x:=.ref TI) rfl (ac (c7 oi rfl ?_)))
 (show wpAny _ _ (dI (.ref z)>>=_) _ _ _);refine ac (ac (a7 oz rfl (x:=.none) rfl (ah ?_)))
 simp only [if_true]
 refine ac (cF (ac (a7 oz rfl (x:=.ref TO) rfl (ac (bV oz (by simp) fun g1 z1 e1=> ac ?_)))))
 have z1:iu g1 z TI TO .ellipsis:=z1
 have stop: ∀(g:Heap) (o:Obj) (e:Addr),iu g z TI TO .ellipsis -> g.get? e=some o -> o.cls=.type "StopIteration" -> e≠z:=fun g o e hz ho hc q=> by
  subst q;rw [hz]at ho;cases ho;simp at hc
 (simp only [List.zipIdx_cons,List.zipIdx_nil,jT,List.forIn_nil])
 (refine ac (ac (fB ?_)))
 (show wpAny _ _ (cH (.ref i1)>>=_) _ _ _);cases hx:xs[k1]? with
 |none=>
  refine ac (ady hh (c1.to fun o=> e1.extBut _ _ ap.i1z) (hl1.to fun o=> e1.extBut _ _ ap.l1z) hx fun g2 e e2 ⟨oe,he,ce⟩=> ?_)
  have z2:iu g2 z TI TO .ellipsis:=e2 _ _ ap.i1z.symm z1
  exact bV z2 (by simp) fun g3 _ e3=> hE g3 e (fun c o a1 _ a3 _ q=> e3.extBut _ _ a1 (e2 _ _ a3 (e1.extBut _ _ a1 q))) ⟨oe,e3.extBut _ _ (stop _ _ _ z2 he ce) he,ce⟩
 |some x=>
  have hy:ys[k2]?=none:=hend.elim (fun h=> by rw [hx]at h;cases h) id
  refine ac (aae (c1.to fun o=> e1.extBut _ _ ap.i1z) (hl1.to fun o=> e1.extBut _ _ ap.l1z) hx fun g2 c1' e2=> ah ?_)
  have o2:fT g2 TO a b:=e2.extBut _ _ ap.TOi1 (e1.extBut _ _ ap.TOz oo)
  refine ac (c7 o2 rfl (ac (g6 o2 fun g3 o3 e3=> ac (ir (ah (ac (ac (fB ?_))))))))
  have k3: ∀c o,c≠z -> c≠i1 -> c≠TO -> s.heap.get? c=some o -> g3.get? c=some o:=fun c o a1 a2 a3 e=> e3.extBut _ _ a3 (e2.extBut _ _ a2 (e1.extBut _ _ a1 e))
  (show wpAny _ _ (cH (.ref i2)>>=_) _ _ _);refine ac (ady hh (c2.to fun o=> k3 _ o ap.i2z ap.i12.symm ap.TOi2.symm) (hl2.to fun o=> k3 _ o ap.l2z ap.l2i1 ap.l2TO) hy fun g4 e e4 ⟨oe,he,ce⟩=> ?_)
  have z4:iu g4 z TI TO .ellipsis:=e4 _ _ ap.i2z.symm (e3.extBut _ _ ap.TOz.symm (e2.extBut _ _ ap.i1z.symm z1))
  exact bV z4 (by simp) fun g5 _ e5=> hE g5 e (fun c o a1 a2 a3 a4 q=> e5.extBut _ _ a1 (e4 _ _ a4 (k3 c o a1 a3 a2 q))) ⟨oe,e5.extBut _ _ (stop _ _ _ z4 he ce) he,ce⟩
theorem a01{b1 b2:Bool}{z TI TO i1 i2 l1 l2:Addr}{k1 k2:Nat}{xs ys:Array af}{x y:af}{Q:Option af -> ai -> Prop}(Z:ZAt b1 b2 l1 l2 z TI TO i1 i2 .none k1 k2 s.heap)
  (hl1:kn b1 s.heap l1 xs) (hl2:kn b2 s.heap l2 ys) (hx:xs[k1]?=some x) (hy:ys[k2]?=some y)
  (hQ: ∀h',ZAt b1 b2 l1 l2 z TI TO i1 i2 (rawInt s.heap.objs.size) (k1+1) (k2+1) h' -> fT h' s.heap.objs.size x y ->
   (∀c o,c≠z -> c≠TO -> c≠i1 -> c≠i2 -> s.heap.get? c=some o -> h'.get? c=some o) -> Q (some (.ref s.heap.objs.size)) {s with heap:=h'}):
  wpAny (model P w) A (pyNext (.ref z)) Q E s:=
 have hT:s.TypeIs (.ref z) "zip":=⟨_,Z.oz,rfl⟩
 ac (cY (bn (name:=bG "__next__") hT g9 (bo g9 hT F.entry_zip_next (a4d Z hl1 hl2 hx hy fun h' a1 a2 a3=> ah (hQ h' a1 a2 a3)) (F.args_zip_next_1 _))))
theorem axc{b1 b2:Bool}{z TI TO i1 i2 l1 l2:Addr}{k1 k2:Nat}{xs ys:Array af}{Q:Option af -> ai -> Prop}(hh:A.handled=none)(Z:ZAt b1 b2 l1 l2 z TI TO i1 i2 .none k1 k2 s.heap)
  (hl1:kn b1 s.heap l1 xs) (hl2:kn b2 s.heap l2 ys) (hend:xs[k1]?=none\/ys[k2]?=none)
  (hQ: ∀h',(∀c o,c≠z -> c≠TO -> c≠i1 -> c≠i2 -> s.heap.get? c=some o -> h'.get? c=some o) -> Q none {s with heap:=h'}):wpAny (model P w) A (pyNext (.ref z)) Q E s:=
 have hT:s.TypeIs (.ref z) "zip":=⟨_,Z.oz,rfl⟩
 ac (cY (bn (name:=bG "__next__") hT g9 (bo g9 hT F.entry_zip_next (a1q hh Z hl1 hl2 hend fun h' e hk ⟨o,ho,hc⟩=>
  ac (dY (T:="StopIteration") (b:=true) ⟨o,ho,hc⟩ il (ah (hQ _ hk)))) (F.args_zip_next_1 _))))
end
def SqB(K:aj)(b:Bool)(H:Hp)(l:Addr)(xs:List V):Prop:=if b=true then SqL K H l xs else SqT K H l xs
theorem Inv.seqB{s:ai}{xs:List V}(I:Inv X pins σ H s)(q:SqB X.K b H l xs): ∃its,jo xs its/\kn b s.heap l its.toArray:=by
 cases b with
 |true=> obtain⟨its,rv,p,_⟩:=I.list q;exact⟨its,rv,p.isList⟩
 |false=> obtain⟨its,rv,p,_⟩:=I.tuple q;exact⟨its,rv,p⟩
noncomputable def a4x(K:aj)(b1 b2:Bool)(l1 l2:Addr):It:=
 ⟨fun i H=> ∃xs ys x y,SqB K b1 H l1 xs/\SqB K b2 H l2 ys/\xs[i]?=some x/\ys[i]?=some y,
   fun i H v H'=> ∃T,v=.ref T/\ ∀xs ys,SqB K b1 H l1 xs -> SqB K b2 H l2 ys -> ∃x y,xs[i]?=some x/\ys[i]?=some y/\New H T (.tup [x,y]) H',
   fun i H=> ∃xs ys,SqB K b1 H l1 xs/\SqB K b2 H l2 ys/\(xs.length <=i\/ys.length <=i)⟩
theorem Inv.seqB_inj{s:ai}{xs ys:List V}(I:Inv X pins σ H s)(p:SqB X.K b H l xs)(q:SqB X.K b H l ys):xs=ys:=by
 cases b with
 |true=> exact I.list_inj p q
 |false=> exact I.tuple_inj p q
theorem asn{x1:Nat}{b1 b2:Bool}(l1 l2 z TI TO i1 i2:Addr):Turn P w K (.Tuple es x1 pos) (a4x K b1 b2 l1 l2) [z,TI,TO,i1,i2] z (fun i h=> ZAt b1 b2 l1 l2 z TI TO i1 i2 .none i i h) where
 mem:=by simp
 obj:=fun i h ⟨_,hz,hTI,⟨a,c,hTO⟩,q1,q2⟩ b hb=> by
  obtain⟨o1,e1,v1,d1⟩:=q1.obj
  obtain⟨o2,e2,v2,d2⟩:=q2.obj
  (simp only [aw,bK,or_false]at hb)
  rcases hb with rfl|rfl|rfl|rfl|rfl
  ·exact⟨_,hz,fun v y=> by cases y⟩
  ·exact⟨_,hTI,fun v y=> by cases y⟩
  ·exact⟨_,hTO,fun v y=> by cases y⟩
  ·exact⟨_,e1,fun v y=> by rw [d1]at y;cases y⟩
  ·exact⟨_,e2,fun v y=> by rw [d2]at y;cases y⟩
 keep:=fun i h h' ⟨D,hz,hTI,⟨a,c,hTO⟩,q1,q2⟩ k=>
  ⟨D,k z (by simp) _ hz,k TI (by simp) _ hTI,⟨a,c,k TO (by simp) _ hTO⟩,q1.to fun o e=> k i1 (by simp) o e,q2.to fun o e=> k i2 (by simp) o e⟩
 item:=by
  intro X hP hw hK hc i pins s σ H E I hf st hg
  subst hP hw hK
  obtain⟨xs,ys,x,y,q1,q2,hx,hy⟩:=hg
  obtain⟨its1,rv1,p1⟩:=I.seqB q1
  obtain⟨its2,rv2,p2⟩:=I.seqB q2
  obtain⟨u1,hu1,ru1⟩:=rv1.get hx
  obtain⟨u2,hu2,ru2⟩:=rv2.get hy
  refine a01 st p1 p2 (x:=u1) (y:=u2) (by simpa using hu1) (by simpa using hu2) fun h' Z a5 k=> ?_
  refine⟨_,rfl,wpAny_letOwnedTupleGo_zip (s:={s with heap:=h'}) Z.oz fun h2' hz' sb=> ?_⟩
  have lt: ∀b∈ [z,TI,TO,i1,i2],b < s.heap.objs.size:=fun b hb=> by
   obtain⟨_,hz,hTI,⟨_,_,hTO⟩,q1,q2⟩:=st
   obtain⟨o1,e1,_⟩:=q1.obj
   obtain⟨o2,e2,_⟩:=q2.obj
   (simp only [aw,bK,or_false]at hb)
   rcases hb with rfl|rfl|rfl|rfl|rfl
   ·exact ao hz
   ·exact ao hTI
   ·exact ao hTO
   ·exact ao e1
   ·exact ao e2
  have I1:Inv X pins σ (upd H s.heap.objs.size (.tup [x,y])) {s with heap:=s.heap.push {cls:=.type "tuple",data:=.seq #[u1,u2]},toks:=s.toks}:=
   I.laid (fun b u e=> ag _ e) (aq _) ⟨by show 2 <=sizeLine;decide,[u1,u2],.cons ru1 (.cons ru2 .nil),⟨_,ar _ rfl⟩⟩
  have nT: ∀b∈ [z,TI,TO,i1,i2],upd H s.heap.objs.size (.tup [x,y]) b=none:=fun b hb=> by
   rw [kg (aN (lt b hb))];exact (hf b hb).1
  have D:=Z.ap
  have I2:=I1.turnedL (h':=h2') (t':=s.toks) (ch:=[z,TI,TO,i1,i2]) (fun b o hb e=> by
   have hbz:b≠z:=fun y=> hb (by simp [y])
   rw [sb.2 b hbz]
   by_cases hT:b=s.heap.objs.size
   ·subst hT
    rw [ar _ rfl]at e
    cases e
    exact a5
   ·rw [iU _ _ _ hT]at e
    exact k b o hbz (fun y=> hb (by simp [y])) (fun y=> hb (by simp [y])) (fun y=> hb (by simp [y])) e) fun b hb=> ⟨nT b hb,(hf b hb).2⟩
  obtain⟨_,_,oi,⟨_,_,oo⟩,c1,c2⟩:=Z
  refine⟨.ref s.heap.objs.size,_,I2,rfl,⟨_,rfl,fun xs' ys' q1' q2'=> ?_⟩,⟨D,hz',sb.extBut _ _ D.TIz oi,⟨_,_,sb.extBut _ _ D.TOz oo⟩,c1.to fun o=> sb.extBut _ _ D.i1z,c2.to fun o=> sb.extBut _ _ D.i2z⟩,nT⟩
  rw [I.seqB_inj q1' q1,I.seqB_inj q2' q2]
  exact⟨x,y,hx,hy,I.fresh,rfl⟩
 done:=by
  intro X hP hw hK hc i pins s σ H E I hf st hg
  subst hP hw hK
  obtain⟨xs,ys,q1,q2,hx⟩:=hg
  obtain⟨its1,rv1,p1⟩:=I.seqB q1
  obtain⟨its2,rv2,p2⟩:=I.seqB q2
  have l1':=rv1.length
  have l2':=rv2.length
  refine axc (I.ok.hd hc) st p1 p2 ?_ fun h' k=> ⟨rfl,I.turnedL (t':=s.toks) (ch:=[z,TI,TO,i1,i2]) (fun b o hb e=> k b o (fun y=> hb (by simp [y])) (fun y=> hb (by simp [y])) (fun y=> hb (by simp [y])) (fun y=> hb (by simp [y])) e) hf⟩
  rcases hx with hx|hx
  ·exact .inl (by simp;lia)
  ·exact .inr (by simp;lia)
 self:=fun _ _ _ _ _ st h=> wpAny_pyIter_zip st.oz h
noncomputable def ado(b:Bool):String:=if b=true then "list_iterator" else "tuple_iterator"
section
variable{P:aQ}{w:aU}{A:bf}{E:af -> ai -> Prop}{s:ai}
theorem ah2{xs:Array af}(h:kn b s.heap l xs)(hQ:Q (.ref s.heap.objs.size) {s with heap:=s.heap.push {cls:=.type (ado b),data:=.fields #[.ref l,.int 0 0]}}):wpAny (model P w) A (pyIter (.ref l)) Q E s:=by
 cases b with
 |true=> exact dP h hQ
 |false=> exact iC h hQ
theorem avq{i:Addr}(e:h.get? i=some {cls:=.type (ado b),data:=.fields #[.ref l,.int 0 0]}):vx b h i l 0:=by
 cases b with
 |true=> exact⟨_,e,rfl,rfl⟩
 |false=> exact⟨_,e,rfl,rfl⟩
def zH(h:Heap)(b1 b2:Bool)(l1 l2:Addr):Heap:=
 ((((h.push {cls:=.type (ado b1),data:=.fields #[.ref l1,.int 0 0]}).push {cls:=.type (ado b2),data:=.fields #[.ref l2,.int 0 0]}).push {cls:=.type "tuple",data:=.seq #[.ref h.objs.size,.ref (h.objs.size+1)]}).push {cls:=.type "tuple",data:=.seq #[.none,.none]}).push
  {cls:=.type "zip",data:=.fields #[.none,.bool false,.bool false,.ref (h.objs.size+2),.ref (h.objs.size+3)]}
theorem ar3(b1 b2:Bool)(l1 l2:Addr)(xs ys:Array af):
  Meets (cf.«zip.__new__» ⟨[.type "zip",.ref l1,.ref l2],[]⟩) (fun _ R s=> kn b1 s.heap l1 xs/\kn b2 s.heap l2 ys/\R (.ok (.ret (.ref (s.heap.objs.size+4)))) {s with heap:=zH s.heap b1 b2 l1 l2}):=
 .of_wp fun prog w A R s h=> by
  obtain⟨hp,g,d,tk,os⟩:=s;obtain⟨h1,h2,h⟩:=h
  have hsub:=sub_zip
  have L1:kn b1 (mo ⟨hp,g,d,tk,os⟩) l1 xs:=h1
  have L2:kn b2 (mo ⟨hp.push {cls:=.type (ado b1),data:=.fields #[.ref l1,.int 0 0]},g,d,tk,os⟩) l2 ys:=h2.to fun o=> ag _
  wp_walk using ah2 L1,ah2 L2
  refine⟨_,rfl,?_⟩
  simp only [aZ]
  exact h
theorem atg{b1 b2:Bool}{l1 l2:Addr}{xs ys:Array af}(h1:kn b1 s.heap l1 xs)(h2:kn b2 s.heap l2 ys)(h: ∀h',ZAt b1 b2 l1 l2 (s.heap.objs.size+4) (s.heap.objs.size+2) (s.heap.objs.size+3) s.heap.objs.size (s.heap.objs.size+1) .none 0 0 h' -> (∀c o,s.heap.get? c=some o -> h'.get? c=some o) -> Q (.ref (s.heap.objs.size+4)) {s with heap:=h'}):
  wpAny (model P w) A (call (.type "zip") [.ref l1,.ref l2]) Q E s:=by
 refine callType_new F.called_zip (by decide) (F.typeCall_zip_2 _ _) (F.newCall_zip_2 _ _) (fun obj=> F.args_object_init_3 obj _ _) F.entry_zip_new (ar3 b1 b2 l1 l2 xs ys) ⟨h1,h2,?_⟩
 have q1:=h1.lt
 have q2:=h2.lt
 have up: ∀(g:Heap) (o:Obj) (n:Nat),n=g.objs.size -> o.isFreed=false -> (g.push o).get? n=some o:=fun g o n e hf=> by subst e;exact ar _ hf
 have sz: ∀(g:Heap) (o:Obj) (n:Nat),g.objs.size=n -> (g.push o).objs.size=n+1:=fun g o n e=> by rw [aZ,e]
 have g5:iu (zH s.heap b1 b2 l1 l2) (s.heap.objs.size+4) (s.heap.objs.size+2) (s.heap.objs.size+3) .none:=up _ _ _ (by simp only [aZ]) rfl
 have g4:fT (zH s.heap b1 b2 l1 l2) (s.heap.objs.size+3) .none .none:=ag _ (up _ _ _ (by simp only [aZ]) rfl)
 have g3:fT (zH s.heap b1 b2 l1 l2) (s.heap.objs.size+2) (.ref s.heap.objs.size) (.ref (s.heap.objs.size+1)):=ag _ (ag _ (up _ _ _ (by simp only [aZ]) rfl))
 have g2:(zH s.heap b1 b2 l1 l2).get? (s.heap.objs.size+1)=some {cls:=.type (ado b2),data:=.fields #[.ref l2,.int 0 0]}:=ag _ (ag _ (ag _ (up _ _ _ (by simp only [aZ]) rfl)))
 have g1:(zH s.heap b1 b2 l1 l2).get? s.heap.objs.size=some {cls:=.type (ado b1),data:=.fields #[.ref l1,.int 0 0]}:=ag _ (ag _ (ag _ (ag _ (up _ _ _ rfl rfl))))
 refine⟨⟨_,g5,rfl⟩,h _ ⟨?_,g5,g3,⟨_,_,g4⟩,avq g1,avq g2⟩ fun c o x=> ag _ (ag _ (ag _ (ag _ (ag _ x))))⟩
 constructor <;> (unfold Addr at*;lia)
end
def a7d(K:aj)(ta:TA):TI:=fun σ H R=> ta σ H fun vs H1=> ∃l1 l2 xs ys b1 b2,vs=[.ref l1,.ref l2]/\SqB K b1 H1 l1 xs/\SqB K b2 H1 l2 ys/\R (a4x K b1 b2 l1 l2) H1
theorem azh{x1:Nat}{a b:Expr}{ta:TA}{p:Pos}(hg:Gl X "zip")(hm:X.mg "zip"=none)(ha:PA X [a,b] ta)(hs:starEach [a,b] X.env=[(false,eval a X.env),(false,eval b X.env)]:=by rfl)(hs2:starEach [b] X.env=[(false,eval b X.env)]:=by rfl):
  PI X (.Tuple es x1 tp) (.Call (.Name "zip" p) [a,b] [] pos) (a7d X.K ta):=by
 intro pins s σ H R I h
 refine Call_ (abq I hg hm a69 (dB (thn (ha pos pins s σ H _ I h) fun us s1 ⟨vs,H1,I1,r1,q1⟩=> ?_) (by rw [hs,hs2]) (by rw [hs2];rfl)))
 obtain⟨l1,l2,xs,ys,b1,b2,e,q1,q2,q⟩:=q1
 subst e
 cases r1 with
 | cons r rr=>
  cases rr with
  | cons r' rr=>
   cases rr
   cases r
   cases r'
   obtain⟨its1,rv1,p1⟩:=I1.seqB q1
   obtain⟨its2,rv2,p2⟩:=I1.seqB q2
   refine atg p1 p2 fun h' Z k=> wpAny_pyIter_zip (s:={s1 with heap:=h'}) Z.oz ?_
   refine⟨s1.heap.objs.size+4,_,_,_,H1,rfl,I1.kept (t':=s1.toks) k,asn l1 l2 _ _ _ _ _,Z,fun b hb=> ?_,q⟩
   have hb':s1.heap.objs.size <=b:=by
    (simp only [aw,bK,or_false]at hb)
    rcases hb with rfl|rfl|rfl|rfl|rfl <;> (unfold Addr at*;lia)
   exact I1.fpOk hb' (I1.hok.fresh hb')
end L2
namespace PF
open PySem PySem.Spec
open L2
variable[XW]
noncomputable def sqD:D -> Option (Bool×List ae)
 |.lst xs=> some (true,xs)
 |.tup xs=> some (false,xs)
 |_=> none
def akv(ds:List D)(s:S):R Wk:=match ds with
 |[a,b]=> match sqD a,sqD b with
  |some (_,xs),some (_,ys)=>.ok ((xs.zip ys).map fun p=> D.tup [p.1,p.2],none) s
  |_,_=>.bad
 |_=>.bad
def aq0(f:FA):FI:=fun ρ s=> (f ρ s).bind akv
theorem ais{d:D}(r:RD K as H v d)(e:sqD d=some (b,xs)): ∃l vs,v=.ref l/\(∀as2 H2,Step0 as H as2 H2 -> SqB K b H2 l vs)/\TDs as H vs xs:=by
 cases d with
 | da d=>
  cases d with
  |list zs=>
   cases e
   obtain⟨l,vs,rfl,n,q,t⟩:=r.lst_inv
   exact⟨l,vs,rfl,fun as2 H2 st=> SqL.of (st.keep _ _ n q),t⟩
  | tuple zs=>
   cases e
   cases r with
   |da t=> cases t with
    |tup n q t=> exact⟨_,_,rfl,fun as2 H2 st=> SqT.of (st.keep _ _ n q),t⟩
  |_=> cases e
 |_=> cases e
theorem azm{x1:Nat}{a b:Expr}{p:Pos}(hm:X.mg "zip"=none)(h:RA X [a,b] f)(hg:Gl X "zip":=by rfl)(hs:starEach [a,b] X.env=[(false,eval a X.env),(false,eval b X.env)]:=by rfl)(hs2:starEach [b] X.env=[(false,eval b X.env)]:=by rfl):
  RI X (.Tuple es x1 tp) (.Call (.Name "zip" p) [a,b] [] pos) (aq0 f):=by
 obtain⟨t,pa,ra⟩:=h.ex
 refine⟨_,azh hg hm pa hs hs2,fun as σ H ρ s Q rl en h=> ?_⟩
 refine ra as σ H ρ s _ rl en (Dn.bind h fun ds s1 as1 H1 vs st1 rl1 r1 h1=> ?_)
 unfold akv at h1
 split at h1
 ·split at h1
  ·rename_i da db _ xd bx _ yd ea eb
   obtain⟨v,w,rfl,rv,rw⟩:=r1.two
   obtain⟨l1,xs,rfl,k1,t1⟩:=ais rv ea
   obtain⟨l2,ys,rfl,k2,t2⟩:=ais rw eb
   refine⟨l1,l2,xs,ys,_,_,rfl,k1 as1 H1 (Step.refl _ _).toStep0,k2 as1 H1 (Step.refl _ _).toStep0,Dn.now (Q:=Q) h1 rl1 ?_⟩
   intro as2 H2 s2 st2 rl2 _ i
   have sq1:=k1 as2 H2 st2
   have sq2:=k2 as2 H2 st2
   have u1:=t1.mono0 st2
   have u2:=t2.mono0 st2
   refine⟨fun hl=> ⟨xs,ys,sq1,sq2,?_⟩,fun d hd=> ?_⟩
   ·simp only [ak,List.length_zip]at hl
    rw [u1.length,u2.length]
    lia
   ·rw [aR]at hd
    cases q:(List.zip _ _)[i]? with
    |none=> rw [q]at hd;cases hd
    |some pr=>
     rw [q]at hd
     cases hd
     rw [List.getElem?_zip_eq_some]at q
     obtain⟨x,hx,rx⟩:=u1.get q.1
     obtain⟨y,hy,ry⟩:=u2.get q.2
     refine⟨⟨xs,ys,x,y,sq1,sq2,hx,hy⟩,fun vv H3 hv=> ?_⟩
     obtain⟨T,rfl,hT⟩:=hv
     obtain⟨x',y',hx',hy',nw⟩:=hT xs ys sq1 sq2
     rw [hx]at hx';cases hx'
     rw [hy]at hy';cases hy'
     exact⟨j4 nw,rl2.new nw,.da (.tup (fun z=> rl2.has z nw.no) nw.at (.cons (rx.mono (j4 nw)) (.cons (ry.mono (j4 nw)) .nil)))⟩
  ·exact h1.elim
 ·exact h1.elim
end PF
namespace PF
open PySem PySem.Spec PyProof.Rows PyProof.Rows.KTD
open L2
variable[XW]
end PF
namespace PF
open PySem PySem.Spec
open L2
variable[XW]
end PF
namespace L2
open PySem PySem.Spec PyProof.Rows
theorem apw:fillsNumberSlot (.type "tuple") "mul"=pure false:=PySem.fillsNumberSlot_seq (id:="tuple.__mul__") (r:=some (.builtin "tuple.__rmul__")) jJ.lookup (by decide+kernel) F.slot_tuple_rmul.lookup (by decide+kernel)
theorem ase:seqRepeat? (.type "tuple")=pure (some (.builtin "tuple.__mul__")):=by
 unfold seqRepeat?
 rw [PySem.seqSlot_of (T:="tuple") (name:="__mul__") (id:="tuple.__mul__") jJ.lookup (by decide+kernel),PySem.seqSlot_of (T:="tuple") (name:="__rmul__") (id:="tuple.__rmul__") F.slot_tuple_rmul.lookup (by decide+kernel)];rfl
theorem alt(items:Array af): ∀(k:Nat) (acc:Array af),((au k items).foldl (· ++ ·) acc).size=acc.size+k*items.size
 |0,acc=> by simp
 |k+1,acc=> by
  rw [ci,dH,alt items k,Array.size_append,Nat.succ_mul];lia
theorem amr(items:List af): ∀(k:Nat) (acc:Array af),((au k items.toArray).foldl (· ++ ·) acc).toList=acc.toList++(au k items).flatten
 |0,acc=> by simp
 |k+1,acc=> by
  rw [ci,dH,amr items k,ci,dm];simp
theorem ayx(l:Addr)(items:Array af)(n:Nat)(x:Int)(u:Tok)(h0: -1000 < x)(h1:x < 1000)(h2:items.size < 1000)(he:items.isEmpty=false):
  Meets (cf.«tuple.__mul__» ⟨[.ref l,.int x u],[]⟩) (fun _ R s=> s.heap.get? l=some {cls:=.type "tuple",data:=.seq items n}/\
   if x=1 then R (.ok (.ret (.ref l))) s else R (.ok (.ret (.ref s.heap.objs.size))) {s with heap:=s.heap.push {cls:=.type "tuple",data:=.seq ((au x.toNat items).foldl (· ++ ·) #[])}}):=
 .of_wp fun prog w A R s h=> by
  (obtain⟨hp,g,d,tk,os⟩:=s;obtain⟨hl,h⟩:=h)
  wp_walk
  (refine eI (by simp;lia) ?_)
  wp_walk
  by_cases e1:x=1
  ·rw [if_pos e1]at h
   refine wpAny_ite_true (by simp [e1]) ?_
   wp_walk
   exact⟨_,rfl,h⟩
  ·rw [if_neg e1]at h
   refine eI (by simp [he,e1]) ?_
   by_cases e2:x <=0
   ·refine wpAny_ite_true (by simp [e2]) ?_
    have e3:x.toNat=0:=by lia
    rw [e3]at h
    wp_walk
    exact⟨_,rfl,h⟩
   ·refine eI (by simp [he];lia) ?_
    obtain⟨k,rfl⟩: ∃k:Nat,x=(k:Int):=⟨x.toNat,by lia⟩
    have b0:items.size*k < 1000000:=gH (c:=1000) (d:=1000) h2 (by lia)
    have b1:(items.size:Int)*(k:Int) < 1000000:=by
     have hb:=Int.ofNat_lt.mpr b0
     rw [Int.natCast_mul]at hb
     exact hb
    generalize hp0:(items.size:Int)*(k:Int)=pr at b1⊢
    (refine eI (by simp;lia) ?_)
    refine eI (by unfold Builtin.Tuple.tupleTooMany;rw [sizeLine_eq];simp;lia) ?_
    rw [cj]at h⊢
    wp_walk
    have hz:((au k items).foldl (· ++ ·) #[]).size <=sizeLine:=by
     rw [alt,sizeLine_eq,Nat.mul_comm];simp;lia
    refine eI (decide_eq_false (i6.mpr hz)) ?_
    wp_walk
    exact⟨_,rfl,h⟩
theorem av4(a:Int)(t:Tok)(l:Addr)(items:Array af)(n:Nat):
  Meets (cf.«int.__rmul__» ⟨[.int a t,.ref l],[]⟩) (fun _ R s=> s.heap.get? l=some {cls:=.type "tuple",data:=.seq items n}/\R (.ok (.ret lw)) s):=
 .of_wp fun prog w A R s h=> by
  (obtain⟨hp,g,d,tk,os⟩:=s;obtain⟨hl,h⟩:=h)
  wp_walk
  exact⟨_,rfl,h⟩
section
variable{P:aQ}{w:aU}{A:bf}{E:af -> ai -> Prop}{s:ai}
theorem a0w{x:Int}{u:Tok}(ho:s.heap.get? l=some {cls:=.type "tuple",data:=.seq items n})(h0: -1000 < x)(h1:x < 1000)(h2:items.size < 1000)(he:items.isEmpty=false)(h:if x=1 then Q (.ref l) s else Q (.ref s.heap.objs.size) {s with heap:=s.heap.push {cls:=.type "tuple",data:=.seq ((au x.toNat items).foldl (· ++ ·) #[])}}):wpAny (model P w) A (binaryOp .Mult (.ref l) (.int x u)) Q E s:=by
 refine i9 (T:="tuple") (U:="int") (by decide) ⟨_,ho,rfl⟩ (fun s'=> iX s' x u) apw F.fills_int_mul hJ ase F.slot_int_index.lookup
  (gV hJ (iX s x u) F.entry_int_rmul (F.args_int_rmul_2 _ _) (av4 x u l items n) ⟨ho,rfl,⟨_,ho,rfl⟩,gV jJ ⟨_,ho,rfl⟩ F.entry_tuple_mul (F.args_tuple_mul_2 _ _) (ayx l items n x u h0 h1 h2 he) ⟨ho,?_⟩⟩)
 by_cases e:x=1
 ·rw [if_pos e]at h⊢;exact h
 ·rw [if_neg e]at h⊢;exact h
end
end L2
namespace PF
open PySem PySem.Spec
open L2
variable[XW]
def aqv(dx dy:D)(s:S):R D:=match dx,dy with
 |.tup xs,.int i=> if -1000 < i/\i < 1000/\xs.length < 1000/\xs≠ [] then .ok (.tup (au i.toNat xs).flatten) s else .bad
 |dx,dy=> zz dx dy s
theorem TDs.app: ∀{vs ws:List V} {ds es:List ae},TDs as H vs ds -> TDs as H ws es -> TDs as H (vs++ws) (ds++es)
 |_,_,_,_,.nil,s=> s
 |_,_,_,_,.cons a r,s=>.cons a (TDs.app r s)
theorem TDs.rep{vs:List V}{ds:List ae}(t:TDs as H vs ds): ∀k:Nat,TDs as H (au k vs).flatten (au k ds).flatten
 |0=>.nil
 |k+1=> by
  rw [ci,ci,dm,dm]
  exact t.app (TDs.rep t k)
theorem agj{vs:List V}{us:List af}(r:jo vs us): ∀k:Nat,jo (au k vs).flatten (au k us).flatten
 |0=>.nil
 |k+1=> by
  rw [ci,ci,dm,dm]
  exact r.append (agj r k)
theorem a25:Op2 X (binaryOp .Mult) aqv:=vd fun pins sh σ H as s x y dx dy v u Q I rl r1 r2 rx ry h=> by
 unfold aqv at h
 split at h
 ·rename_i xs i
  split at h
  ·rename_i hb
   obtain⟨b1,b2,b3,b4⟩:=hb
   obtain⟨p,vs,rfl,n,e,t⟩:=r1.tup_inv
   cases r2.int_inv
   cases rx
   obtain⟨tk,rfl⟩:=ry
   obtain⟨z,its,rv,c,eo⟩:=(show j5 X.prog X.w H sh.heap p (.tup vs) from I.hok p _ e)
   have hl1:=t.length
   have hl2:=rv.length
   have hne:its.toArray.isEmpty=false:=by
    cases its with
    |nil=> simp at hl2;rw [hl2]at hl1;simp at hl1;exact absurd hl1.symm (by simpa using b4)
    |cons a r=> rfl
   refine a0w eo b1 b2 (by rw [az];lia) hne ?_
   by_cases e1:i=1
   ·rw [if_pos e1]
    subst e1
    have:(au (1:Int).toNat xs).flatten=xs:=by simp
    rw [this]at h
    exact⟨.ref p,H,I,rfl,Dn.now (Q:=Q) h rl (.da (.tup n e t))⟩
   ·rw [if_neg e1]
    have hz:(au i.toNat vs).flatten.length <=sizeLine:=by
     rw [h9,fV,gu,sizeLine_eq]
     have:=gH (a:=i.toNat) (c:=1000) (b:=vs.length) (d:=1000) (by lia) (by lia)
     lia
    have I2:Inv X pins σ (upd H sh.heap.objs.size (.tup (au i.toNat vs).flatten)) {sh with heap:=sh.heap.push {cls:=.type "tuple",data:=.seq ((au i.toNat its.toArray).foldl (· ++ ·) #[])},toks:=sh.toks}:=
     I.laid (fun b o e=> ag _ e) (aq _) ⟨hz,(au i.toNat its).flatten,agj rv _,0,by
      have:=amr its i.toNat #[]
      rw [show ((au i.toNat its).flatten).toArray=(au i.toNat its.toArray).foldl (· ++ ·) #[] from by
       apply Array.toList_inj.mp;rw [this];simp]
      exact ar _ rfl⟩
    have nw:New H sh.heap.objs.size (.tup (au i.toNat vs).flatten) (upd H sh.heap.objs.size (.tup (au i.toNat vs).flatten)):=⟨I.hok.fresh (aq _),rfl⟩
    exact⟨.ref _,_,I2,rfl,h (.ref _) as _ (j4 nw) (rl.new nw) (.da (.tup (fun z=> rl.has z nw.no) nw.at ((t.rep _).mono (j4 nw))))⟩
  ·exact h.elim
 ·obtain⟨r,o,f⟩:=(axt (X:=X)).ex
  exact o pins sh σ H x y v u Q I rx ry (f as H s x y dx dy Q rl r1 r2 h)
end PF
namespace PF
open PySem PySem.Spec
open L2
variable[XW]
end PF
namespace L2
open PySem PySem.Spec PyProof.Rows
section
variable{P:aQ}{w:aU}{A:bf}{E:af -> ai -> Prop}{s:ai}
theorem a02{x:Int}{u:Tok}(ho:s.heap.get? l=some {cls:=.type "list",data:=.seq items n})(h0: -1000 < x)(h1:x < 1000)(h2:items.size < 1000)(h:Q (.ref s.heap.objs.size) {s with heap:=s.heap.push {cls:=.type "list",data:=.seq (au x.toNat items.toList).flatten.toArray}}):wpAny (model P w) A (binaryOp .Mult (.ref l) (.int x u)) Q E s:=by
 have b0:items.size*x.toNat < 1000000:=gH (c:=1000) (d:=1000) h2 (by lia)
 refine i9 (T:="list") (U:="int") (by decide) ⟨_,ho,rfl⟩ (fun s'=> iX s' x u) noFill_list_mul F.fills_int_mul hJ repeat_list F.slot_int_index.lookup --
  (gV hJ (iX s x u) F.entry_int_rmul (F.args_int_rmul_2 _ _) (lm_int_rmul_list_any x u l items n none #[])
   ⟨ho,rfl,⟨_,ho,rfl⟩,gV F.slot_list_mul ⟨_,ho,rfl⟩ F.entry_list_mul (F.args_list_mul_2 _ _) --
    (lm_list_mul_any l items n none #[] x u (by simp [Builtin.List.listFitsIndex];lia) (by lia) (by simp [Builtin.List.listTooLong,sizeLine];lia)) ⟨ho,?_⟩⟩)
 have e:=listMul_foldl_if items x.toNat
 show Q _ _
 rw [e]
 exact h
end
end L2
namespace PF
open PySem PySem.Spec
open L2
variable[XW]
def aad(m:Bool)(dx dy:D)(s:S):R D:=match toL s dx,dy with
 |some xs,.int i=> if -1000 < i/\i < 1000/\xs.length < 1000 then qw m (au i.toNat xs).flatten s else .bad
 |_,_=> aqv dx dy s
theorem RDs.rep{K:aj}{as:As}{H:Hp}{vs:List V}{ds:List D}(t:RDs K as H vs ds): ∀k:Nat,RDs K as H (au k vs).flatten (au k ds).flatten
 |0=>.nil
 |k+1=> by
  rw [ci,ci,dm,dm]
  exact t.append (RDs.rep t k)
theorem a3q(m:Bool):Op2 X (binaryOp .Mult) (aad m):=vd fun pins sh σ H as s x y dx dy v u Q I rl r1 r2 rx ry h=> by
 unfold aad at h
 split at h
 ·rename_i xs i hx
  split at h
  ·rename_i hb
   obtain⟨b1,b2,b3⟩:=hb
   obtain⟨p,vs,rfl,e,t⟩:=aas rl r1 hx
   cases r2.int_inv
   cases rx
   obtain⟨tk,rfl⟩:=ry
   obtain⟨z,its,c,rv,eo⟩:=(show j5 X.prog X.w H sh.heap p (.lst vs) from I.hok p _ e)
   have hl1:=t.length
   have hl2:=rv.length
   refine a02 eo b1 b2 (by rw [az];lia) ?_
   have hz:(au i.toNat vs).flatten.length <=sizeLine:=by
    rw [h9,fV,gu,sizeLine_eq]
    have:=gH (a:=i.toNat) (c:=1000) (b:=vs.length) (d:=1000) (by lia) (by lia)
    lia
   have I2:Inv X pins σ (upd H sh.heap.objs.size (.lst (au i.toNat vs).flatten)) {sh with heap:=sh.heap.push {cls:=.type "list",data:=.seq (au i.toNat its.toArray.toList).flatten.toArray},toks:=sh.toks}:=
    I.laid (fun b o e=> ag _ e) (aq _) ⟨hz,(au i.toNat its).flatten,0,agj rv _,ar _ rfl⟩
   have nw:New H sh.heap.objs.size (.lst (au i.toNat vs).flatten) (upd H sh.heap.objs.size (.lst (au i.toNat vs).flatten)):=⟨I.hok.fresh (aq _),rfl⟩
   exact⟨.ref _,_,I2,rfl,aa9 h rl (t.rep _) nw⟩
  ·exact h.elim
 ·obtain⟨r,o,f⟩:=(a25 (X:=X)).ex
  exact o pins sh σ H x y v u Q I rx ry (f as H s x y _ _ Q rl r1 r2 h)
end PF
namespace PF
open PySem PySem.Spec
open L2
variable[XW]
end PF
namespace PF
open PySem PySem.Spec L2
theorem u70(hr:Room k A):A.units+70 < cLine:=by have:=hr.un;lia
section
variable{s:S}{m:Bool}{n:Nat}{x y:Str}{b:Bool}{xs ys:List ae}{ds es:List D}{d e v o:D}{ρ:En}{kvs:List (ae×D)}{k:ae}
theorem bb1:aq0 f ρ s=(f ρ s).bind akv:=(rfl)
theorem a98:akv [.tup xs,.tup ys] s=.ok ((xs.zip ys).map fun p=> D.tup [p.1,p.2],none) s:=(rfl)
theorem asl(h:s[n]?=some (.lst (xs.map D.da))):j6 [.ref n] s=.ok (.tup xs) s:=by
 show (match (match s[n]? with|some (O.lst ds)=> some ds|_=> none) with|some xs=> agq xs s|none=>.bad)=_
 rw [h]
 show (match kj (xs.map D.da) with|some xs=> R.ok (D.tup xs) s|none=>.bad)=_
 rw [qj]
theorem a2s(h:s[n]?=some (.lst ds)):ai2 (.ref n) s=.ok (ds,some (n,ds)) s:=by
 show (match s[n]? with|some (O.lst ds)=> R.ok (ds,some (n,ds)) s|_=>.bad)=_
 rw [h]
end
theorem afs{g:Tg}{ft:FT}{fe:FE}{ρ0:En}{all:List D}{s:S}{α:Type}(c:α -> D)(p:α -> Bool)(f:α -> ae): ∀(l:List α),(∀a∈l,∃ρ1,vj g (c a) ρ0=some ρ1/\ft ρ1 s=.ok (p a) s/\(p a=true -> fe ρ1 s=.ok (.da (f a)) s)) ->
  kr g ft fe ρ0 (all,none) (l.map c) s=.ok (((l.filter p).map f).map D.da) s
 |[],_=> rfl
 | a::r,h=> by
  obtain⟨ρ1,e,e1,e2⟩:=h a aC
  have ih:=afs (all:=all) c p f r fun b hb=> h b (aB _ hb)
  rw [aJ,af1 e,e1,R.calm_ok,R.bind_ok]
  cases hp:p a with
  |false=>
   rw [an2,ih,ek (by simp [hp])]
  |true=>
   rw [ali,e2 hp,R.calm_ok,R.bind_ok,am2,ih,R.bind_ok,aj2,eA hp]
   rfl
end PF
namespace PF
open PySem PySem.Spec
open L2
open PyProof.Rows (envOfC)
section XWs
variable[XW]
noncomputable def putN(f:Str)(d:D):List (Str×D) -> List (Str×D)
 |[]=> [(f,d)]
 |(g,x)::r=> if g=f then (g,d)::r else (g,x)::putN f d r
theorem FRs.put{f:Str}{v:V}{d:D}(r:RD K as H v d): ∀{l:List (Str×V)} {fs:List (Str×D)},FRs K as H l fs -> FRs K as H (vi f v l) (putN f d fs)
 |_,_,.nil=>.cons r .nil
 |_,_,.cons a t=> by
  unfold vi putN
  split
  ·exact .cons r t
  ·exact .cons a (FRs.put r t)
theorem FRs.look{f:Str}: ∀{l:List (Str×V)} {fs:List (Str×D)},FRs K as H l fs -> (∀d,fs.lookup f=some d -> ∃v,l.lookup f=some v/\RD K as H v d)/\(fs.lookup f=none -> l.lookup f=none)
 |_,_,.nil=> ⟨fun d e=> (by cases e),fun _=> rfl⟩
 | _,_,.cons (f:=g) (v:=v) (d:=x) a t=> by
  have ih:=FRs.look (f:=f) t
  by_cases z:(f==g)=true
  ·refine⟨fun d e=> ⟨v,?_,?_⟩,fun e=> ?_⟩
   ·rw [cv,z]
   ·rw [cv,z]at e;cases e;exact a
   ·rw [cv,z]at e;cases e
  ·rw [Bool.not_eq_true]at z
   refine⟨fun d e=> ?_,fun e=> ?_⟩
   ·rw [cv,z]at e
    obtain⟨v',h1,h2⟩:=ih.1 d e
    exact⟨v',by rw [cv,z];exact h1,h2⟩
   ·rw [cv,z]at e
    rw [cv,z];exact ih.2 e
theorem FRs.len: ∀{l:List (Str×V)} {fs:List (Str×D)},FRs K as H l fs -> l.length=fs.length
 |_,_,.nil=> rfl
 |_,_,.cons _ t=> congrArg (· +1) (FRs.len t)
abbrev a7r:=List (Str×List Str)
end XWs
noncomputable def aqf(st:Stmt)(j:Nat):Stmt:=match st with
 |.ClassDef (body:=b) ..=> b.getD j (.Pass ⟨0,0,0,0⟩)
 |_=>.Pass ⟨0,0,0,0⟩
section
variable{P:aQ}{w:aU}{K:aj}{mg:Str -> Option af}{base:Heap}{x q C:Str}{st:Stmt}{N ps:List Str}{k:Nat}
theorem fnQ{f:Addr}(F:Fun K x q st f fd)(S:FnScope N ps (je st)){m:Nat}(hm:N.length=m)(hn:ps.length=n)(hbody:BodyOk P w K mg base N q st k fb):FnOk P w K mg base (CX1 P w) (k+1) f fd ps (spF K n (jx m fb)):=
 F.okX S (fun vs H Q E h=> by rw [hn];exact h.1) fun cdv A outer s H vs Q E hr h=> aij hm hbody f cdv A outer s H vs Q E hr h
end
end PF
namespace PF
open PySem PySem.Spec
open L2
variable[XW]
section
variable{X:Cx}{pins:List (Addr×Obj)}{σ:St}{H:Hp}{s:ai}{as:As}
theorem amx(i:Int)(d:ae):d.shown.length <=(kI [(.int i,d)]).shown.length:=by
 obtain⟨p,hp,hl⟩:=PyData.shownKv_val_le [(.int i,d)] d.shown (by simp [b5])
 rw [show (kI [(.int i,d)]).shown=dictText (PyData.shownKv [(.int i,d)]) by simp only [bH]]
 exact ax hl (dictText_mem_le hp)
mutual
theorem TD.repr(I:Inv X pins σ H s): ∀{v:V} {d:ae} {u:af},TD as H v d -> RelV v u -> d.showable=true -> d.shown.length <=sizeLine -> ∃bs,ReadAtMost s.heap d.depth bs/\ReprK X.prog X.w bs s.heap d.depth u d.shown
 |_,_,u,.non,r,_,_=> by
  cases (show u=bF from r)
  exact⟨[],(fun _ h=> nomatch h),by simp only [bH];exact .of_is ReprIs.none _ _ _⟩
 |_,_,u,.bl b,r,_,_=> by
  cases (show u=eD b from r)
  exact⟨[],(fun _ h=> nomatch h),by simp only [bH];exact .of_is (ReprIs.bool b) _ _ _⟩
 |_,_,u,.int i,r,hs,_=> by
  obtain⟨t,e⟩:=(show∃t,u=dq i t from r)
  subst e
  exact⟨[],(fun _ h=> nomatch h),by simp only [bH];exact .of_is (ReprIs.int t (by simpa [bJ] using hs)) _ _ _⟩
 |_,_,u,.str x,r,_,hz=> by
  obtain⟨t,e⟩:=(show∃t,u=eT x t from r)
  subst e
  exact⟨[],(fun _ h=> nomatch h),by simp only [bH];exact .of_is (ReprIs.str x t (by simpa only [bH] using hz)) _ _ _⟩
 |_,_,u,.tup (p:=a) (xs:=xs) (ds:=ds) n e q,r,hs,hz=> by
  obtain⟨cs,rd⟩:=TD.reads I (.tup n e q) r
  cases (show u=aD a from r)
  obtain⟨z,its,rv,p⟩:=(show j5 X.prog X.w H s.heap a (.tup xs) from I.hok a _ e)
  obtain⟨o,h1,h2,k,h3⟩:=p.tup
  have hz2:(tupleText (b5 ds)).length <=sizeLine:=by simpa only [bH] using hz
  obtain⟨bs,hb,hk⟩:=TDs.repr I q rv (by simpa [bJ] using hs) (fun t ht=> ax (tupleText_mem_le ht) hz2)
  have hna:a∉bs:=dQ rd (by simp only [aV];lia) hb
  refine⟨a::bs,hU rd (by simp only [aV];lia) hb,?_⟩
  (simp only [aV,bH])
  exact ReprK.tuple h1 h2 h3 hna (by simpa using hk)
 | _,_,u,.lst (p:=a) (xs:=xs) (ds:=ds) n e q,r,hs,hz=> by
  obtain⟨cs,rd⟩:=TD.reads I (.lst n e q) r
  cases (show u=aD a from r)
  obtain⟨z,its,k,rv,h1⟩:=(show j5 X.prog X.w H s.heap a (.lst xs) from I.hok a _ e)
  have hz2:(listText (b5 ds)).length <=sizeLine:=by simpa only [bH] using hz
  obtain⟨bs,hb,hk⟩:=TDs.repr I q rv (by simpa [bJ] using hs) (fun t ht=> ax (listText_mem_le ht) hz2)
  have hna:a∉bs:=dQ rd (by simp only [aV];lia) hb
  refine⟨a::bs,hU rd (by simp only [aV];lia) hb,?_⟩
  (simp only [aV,bH])
  cases its with
  |nil=>
   cases rv
   cases q
   (simp only [b5,listText_nil])
   exact ReprK.listEmpty h1 rfl rfl
  |cons x l=> exact ReprK.list h1 rfl rfl hna (by simpa using hk.length_eq) (fun i y ey=> hk.item i y (by simpa using ey))
 |_,_,u,.dct (p:=a) n e,r,hs,hz=> by
  obtain⟨cs,rd⟩:=TD.reads I (.dct n e) r
  cases (show u=aD a from r)
  obtain⟨hsys,o,es,ep,h1,h2,h3,h4⟩:=aeo I e
  refine⟨[a],hU (n:=0) rd (c9 _) (fun _ h=> nomatch h),?_⟩
  (simp only [aV,bH,gi])
  refine ReprK.dict (as:=[]) h1 h2 h3 hsys (by simp) (fF es.toList _ _ ?_ ?_)
  ·rw [h4];exact .nil
  ·rw [h4];exact .nil
 |_,_,u,.dc1 (p:=a) (i:=i) (d:=d) n e q,r,hs,hz=> by
  obtain⟨cs,rd⟩:=TD.reads I (.dc1 n e q) r
  cases (show u=aD a from r)
  obtain⟨hsys,o,es,ep,hh,t,y,ry,h1,h2,h3,h4⟩:=aio I e
  have hs2:bJ (.int i)=true/\d.showable=true:=by simpa [bJ,PyData.showableKv] using hs
  have hd1:(kI [(.int i,d)]).depth=d.depth+1:=by simp [aV,PyData.depthKv]
  have hz2:d.shown.length <=sizeLine:=ax (amx i d) hz
  obtain⟨bs,hb,hk⟩:=TD.repr I q ry hs2.2 hz2
  have hna:a∉bs:=dQ rd (by rw [hd1];lia) hb
  refine⟨a::bs,hU rd (by rw [hd1];lia) hb,?_⟩
  rw [hd1]
  simp only [bH,gi]
  refine ReprK.dict h1 h2 h3 hsys hna (fF es.toList _ _ ?_ ?_)
  ·rw [h4];exact .cons (.of_is (ReprIs.int t (by simpa [bJ] using hs2.1)) _ _ _) .nil
  ·rw [h4];exact .cons hk .nil
theorem TDs.repr(I:Inv X pins σ H s): ∀{vs:List V} {ds:List ae} {us:List af},TDs as H vs ds -> jo vs us -> eJ ds=true -> (∀t∈b5 ds,t.length <=sizeLine) -> ∃bs,ReadAtMost s.heap (bv ds) bs/\ReprAllK X.prog X.w bs s.heap (bv ds) us (b5 ds)
 |_,_,_,.nil,r,_,_=> by
  cases r
  exact⟨[],(fun _ h=> nomatch h),by simp only [b5];exact .nil⟩
 | _,_,_,.cons (d:=d) (ds:=ds) a b,r,hs,hz=> by
  cases r with
  |cons r1 r2=>
   have hs2:d.showable=true/\eJ ds=true:=by simpa [eJ] using hs
   obtain⟨b1,hb1,k1⟩:=TD.repr I a r1 hs2.1 (hz _ (by simp only [b5];exact aC ..))
   obtain⟨b2,hb2,k2⟩:=TDs.repr I b r2 hs2.2 (fun t ht=> hz t (by simp only [b5];exact aB _ ht))
   refine⟨b1++b2,(hb1.mono (by simp only [bv];exact kB _ _)).append (hb2.mono (by simp only [bv];exact jK _ _)),?_⟩
   simp only [bv,b5]
   (exact .cons ((k1.more fun b hb=> ff _ hb).level_le (kB _ _)) (k2.more_le (fun b hb=> bE _ hb) (jK _ _)))
end
noncomputable def okE(d:ae):Bool:=d.showable&&decide (d.depth <=64)&&decide (d.shown.length <=sizeLine)
def yh(ds:List D)(s:S):R D:=match ds with
 |[.da a]=> if okE a=true then .ok (.str a.shown) s else .bad
 |_=>.bad
theorem a17(hr:Room k X.A):CB X (.builtin "repr") yh:=zr fun pins sh σ H as s xs ds us Q I rl rs ru h=> by
 unfold yh at h
 split at h
 ·rename_i a
  obtain⟨v,rfl,rv⟩:=rs.one
  obtain⟨u,rfl,ru1⟩:=vals1 ru
  split at h
  ·rename_i ok
   unfold okE at ok
   (simp only [aH,decide_eq_true_eq]at ok)
   obtain⟨⟨ok2,ok3⟩,ok4⟩:=ok
   have hun:=hr.un
   have fin:Q (.str a.shown) H:=Dn.now (Q:=Q) h rl (.da (.str _))
   cases rv with
   | da t=>
    obtain⟨cs,rd⟩:=TD.reads I t ru1
    cases t with
    |non=> cases (show u=bF from ru1);exact PySem.P.repr_of_none ⟨.str "None",H,I.tok _,⟨_,rfl⟩,fin⟩
    |bl b=> cases (show u=eD b from ru1);exact PySem.P.repr_of_bool ⟨.str (if b then "True" else "False"),H,I.tok _,⟨_,rfl⟩,fin⟩
    |int i=> obtain⟨t,e⟩:=(show∃t,u=dq i t from ru1);subst e;exact PySem.P.repr_of_int (by simpa [bJ] using ok2) ⟨.str (toString i),H,I.tok _,⟨_,rfl⟩,fin⟩
    |str x=> obtain⟨t,e⟩:=(show∃t,u=eT x t from ru1);subst e;exact PySem.P.repr_of_str ⟨.str (reprText x),H,I.tok _,⟨_,rfl⟩,fin⟩ (by simpa [bH] using ok4)
    | @tup p xs ds n e q=>
     cases (show u=aD p from ru1)
     obtain⟨z,its,rw,pp⟩:=(show j5 X.prog X.w H sh.heap p (.tup xs) from I.hok p _ e)
     obtain⟨o,h1,h2,k,h3⟩:=pp.tup
     have hz2:(tupleText (b5 ds)).length <=sizeLine:=by simpa only [bH] using ok4
     obtain⟨bs,hb,hk⟩:=TDs.repr I q rw (by simpa [bJ] using ok2) (fun t ht=> ax (tupleText_mem_le ht) hz2)
     have hna:p∉bs:=dQ rd (by simp only [aV];lia) hb
     simp only [aV]at ok3
     simp only [bH]at fin
     refine io (by lia) ⟨o,h1,h2⟩ F.slot_tuple_repr (call_tuple_reprK h1 h2 h3 hna (by simpa using hk) hr.gd (fun b _=> l9 b) (by show X.A.units+1+_ < cLine;lia) (fun _ _ e=> e) (fun h' u tk hk=> ⟨_,_,rfl,.str _,H,I.kept hk,⟨u,rfl⟩,fin⟩) hz2)
    | @lst p xs ds n e q=>
     cases (show u=aD p from ru1)
     obtain⟨z,its,k,rw,h1⟩:=(show j5 X.prog X.w H sh.heap p (.lst xs) from I.hok p _ e)
     have hz2:(listText (b5 ds)).length <=sizeLine:=by simpa only [bH] using ok4
     obtain⟨bs,hb,hk⟩:=TDs.repr I q rw (by simpa [bJ] using ok2) (fun t ht=> ax (listText_mem_le ht) hz2)
     have hna:p∉bs:=dQ rd (by simp only [aV];lia) hb
     simp only [aV]at ok3
     simp only [bH]at fin
     refine io (by lia) ⟨_,h1,rfl⟩ F.slot_list_repr.toG ?_
     cases its with
     |nil=>
      cases rw
      cases q
      simp only [b5,listText_nil]at fin
      exact call_list_repr_empty ⟨_,h1,rfl⟩ h1 rfl ⟨_,_,rfl,.str _,H,I.tok _,⟨_,rfl⟩,fin⟩
     |cons x l=> exact call_list_reprK h1 rfl rfl hna (by simpa using hk.length_eq) (fun i y ey=> hk.item i y (by simpa using ey)) hr.gd (fun b _=> l9 b) (by show X.A.units+1+_ < cLine;lia) (fun _ _ e=> e) (fun h' u tk hk=> ⟨_,_,rfl,.str _,H,I.kept hk,⟨u,rfl⟩,fin⟩) hz2
    | @dct p n e=>
     cases (show u=aD p from ru1)
     obtain⟨hsys,o,es,ep,h1,h2,h3,h4⟩:=aeo I e
     simp only [bH,gi]at fin
     refine io (by lia) ⟨o,h1,h2⟩ F.slot_dict_repr (call_dict_reprK (as:=[]) (d:=0) h1 h2 h3 hsys (by simp) (fF es.toList [] [] (by rw [h4];exact .nil) (by rw [h4];exact .nil)) hr.gd (fun b _=> l9 b) (by show X.A.units+1+_ < cLine;lia) (fun _ _ e=> e) (fun h' u tk hk=> ⟨_,_,rfl,.str _,H,I.kept hk,⟨u,rfl⟩,fin⟩) (by decide+kernel))
    | @dc1 p i v d n e q=>
     cases (show u=aD p from ru1)
     obtain⟨hsys,o,es,ep,hh,t,y,ry,h1,h2,h3,h4⟩:=aio I e
     have hs2:bJ (.int i)=true/\d.showable=true:=by simpa [bJ,PyData.showableKv] using ok2
     have hd1:(kI [(.int i,d)]).depth=d.depth+1:=by simp [aV,PyData.depthKv]
     obtain⟨bs,hb,hk⟩:=TD.repr I q ry hs2.2 (ax (amx i d) ok4)
     have hna:p∉bs:=dQ rd (by rw [hd1];lia) hb
     rw [hd1]at ok3
     simp only [bH,gi]at fin ok4
     refine io (by lia) ⟨o,h1,h2⟩ F.slot_dict_repr (call_dict_reprK (d:=d.depth) h1 h2 h3 hsys hna (fF es.toList _ _ (by rw [h4];exact .cons (.of_is (ReprIs.int t (by simpa [bJ] using hs2.1)) _ _ _) .nil) (by rw [h4];exact .cons hk .nil)) hr.gd (fun b _=> l9 b) (by show X.A.units+1+_ < cLine;lia) (fun _ _ e=> e) (fun h' u tk hk=> ⟨_,_,rfl,.str _,H,I.kept hk,⟨u,rfl⟩,fin⟩) ok4)
  ·exact h.elim
 ·exact h.elim
end
end PF
namespace PF
open PySem PySem.Spec
open L2
variable[XW]
theorem u66(hr:Room k X.A):X.A.units+66 < cLine:=by have:=u70 hr;lia
end PF
namespace PF
open PySem PySem.Spec
open L2
open PyProof.Rows (envOfC)
section XWs
variable[XW]
def onX{α:Type}(d:D)(s:S)(k:Nat -> Str -> List (Str×D) -> R α):R α:=match d with
 |.ref n=> match s[n]? with
  |some (.exc C fs)=> k n C fs
  |_=>.bad
 |_=>.bad
theorem al5{α β:Type}{rel:As -> Hp -> β -> α -> Prop}{d:D}{k:Nat -> Str -> List (Str×D) -> R α}{Q:β -> Hp -> Prop}(rl:Rel K as H s)(r:RD K as H v d)(h:Dn K rel as H (onX d s k) Q):
  ∃p n C fs,v=.ref p/\d=.ref n/\as.ix[n]?=some (some p)/\s[n]?=some (.exc C fs)/\RO K as H p (.exc C fs)/\Dn K rel as H (k n C fs) Q:=by
 cases r with
 | @ref p n l hr=>
  have h:Dn K rel as H (match s[n]? with|some (O.exc C fs)=> k n C fs|_=>.bad) Q:=h
  split at h
  ·rename_i C fs e
   obtain⟨q,hq⟩:=rl.li n _ e (by intro z;cases z)
   cases hr q hq
   exact⟨p,n,C,fs,rfl,rfl,hq,e,rl.ob n p _ hq e,h⟩
  ·exact h.elim
 |_=> exact h.elim
structure XT (K:aj) (mg:Str -> Option af) (b:Str) (cs fl:List Str):Prop where
 ok: ∀C∈b::cs,∃Ca:Addr,bd K aP C=some (some (.ref Ca))/\mg C=some (.ref Ca)/\ClsX K Ca/\(∀f∈fl,yi K Ca f)/\bW K (.ref Ca) (.type "ValueError")=some true/\
  ∀D∈b::cs,∀Da:Addr,bd K aP D=some (some (.ref Da)) -> bW K (.ref Ca) (.ref Da)=some (D==C||D==b)
section
variable{b:Str}{cs fl:List Str}{mg:Str -> Option af}
theorem XT.at(x:XT K mg b cs fl)(h:(b::cs).contains C=true)(e:bd K aP C=some (some (.ref Ca))):ClsX K Ca/\(∀f,fl.contains f=true -> yi K Ca f)/\bW K (.ref Ca) (.type "ValueError")=some true/\
  ∀D,(b::cs).contains D=true -> ∀Da:Addr,bd K aP D=some (some (.ref Da)) -> bW K (.ref Ca) (.ref Da)=some (D==C||D==b):=by
 obtain⟨Ca',h1,_,h3,h4,h5,h6⟩:=x.ok C (cJ.mp h)
 rw [e]at h1;cases h1
 exact⟨h3,fun f hf=> h4 f (cJ.mp hf),h5,fun D hD=> h6 D (cJ.mp hD)⟩
theorem a34(x:XT X.K X.mg b cs fl)(h:(b::cs).contains C=true)(hg:Gl X C:=by rfl)(hd:(C==("__debug__":Str))=false:=by decide):RE X (.Name C pos) (fC (.fn C)):=by
 obtain⟨Ca,h1,h2,_⟩:=x.ok C (cJ.mp h)
 exact afc (v:=.ref Ca) (fun as H=>.fn h1) h2 rfl hg hd
def afl(b:Str)(cs fl:List Str)(f:Str)(fo fv:FE):FS:=fun ρ s=> (fv ρ s).bind fun x s1=> (fo ρ s1).bind fun d s2=> onX d s2 fun n C fs=> if ((b::cs).contains C=true/\fl.contains f=true)/\fs.length < 1000 then .ok (.nx ρ) (s2.set n (.exc C (putN f x fs))) else .bad
theorem anm{p:Addr}{f:Str}{gs:List (Str×V)}{fs:List (Str×D)}{x:D}(rl:Rel K as H s)(ha:as.ix[n]?=some (some p))(e0:bd K aP C=some (some (.ref Ca)))(fr:FRs K as H gs fs)(rv:RD K as H v x):
  Step as H as (upd H p (.exn Ca (vi f v gs)))/\Rel K as (upd H p (.exn Ca (vi f v gs))) (s.set n (.exc C (putN f x fs))):=by
 have c:Chg H p (.exn Ca (vi f v gs)) (upd H p (.exn Ca (vi f v gs))):=⟨rfl⟩
 have st:=agi (qf.mpr ⟨n,ha⟩) (fun z=> rl.hx p z (qf.mpr ⟨n,ha⟩)) c
 exact⟨st,rl.chg ha c ⟨Ca,_,e0,c.at,(fr.put rv).mono0 st.toStep0⟩⟩
theorem aip{f:Str}{o value:Expr}{fv:FE}{pos':Pos}(x:XT X.K X.mg b cs fl)(ho:RE X o fo)(hv:RE X value fv)(hs:fO value (some (.Attribute o f pos')) pos.line X.env=pure false:=by rfl):RS X (.Assign [.Attribute o f pos'] value pos) (afl b cs fl f fo fv):=by
 obtain⟨to,po,ro⟩:=ho.ex
 obtain⟨tv,pv,rv⟩:=hv.ex
 refine⟨_,a0k po pv hs,fun as σ H ρ s D rl en h=> ?_⟩
 refine rv as σ H ρ s _ rl en (Dn.bind h fun y s1 as1 H1 yv st1 rl1 r1 h1=> ?_)
 refine ro as1 σ H1 ρ s1 _ rl1 (en.mono st1) (Dn.bind h1 fun d s2 as2 H2 z st2 rl2 r2 h2=> ?_)
 obtain⟨p,n,C,fs,rfl,rfl,ha,hs,⟨Ca,gs,e0,e1,fr⟩,h3⟩:=al5 rl2 r2 h2
 split at h3
 ·rename_i hf
  obtain⟨c1,c2,_⟩:=x.at hf.1.1 e0
  refine⟨p,Ca,gs,rfl,e1,c1,c2 f hf.1.2,by rw [fr.len];exact hf.2,fun H3 w=> ?_⟩
  rcases w with rfl|⟨dx,hdx,rfl⟩
  ·obtain⟨st,rl3⟩:=anm (f:=f) rl2 ha e0 fr (r1.mono st2)
   exact h3 (FV.nx σ) as2 _ st rl3 (.nx (((en.mono st1).mono st2).mono st))
  ·have n1:New H2 dx (.own p) (upd H2 dx (.own p)):=⟨hdx,rfl⟩
   have st0:Step as2 H2 as2 (upd H2 dx (.own p)):=j4 n1
   have rl0:=rl2.new n1
   obtain⟨st,rl3⟩:=anm (f:=f) rl0 ha e0 (fr.mono0 st0.toStep0) ((r1.mono st2).mono st0)
   exact h3 (FV.nx σ) as2 _ (st0.trans st) rl3 (.nx ((((en.mono st1).mono st2).mono st0).mono st))
 ·exact h3.elim
end
structure InitX (P:aQ) (w:aU) (K:aj) (mg:Str -> Option af) (base:Heap) (C:Str) (k n:Nat) (F:FF):Prop where
 ex: ∃(Ca f:Addr) (fd:d5) (ps:List Str),bd K aP C=some (some (.ref Ca))/\mg C=some (.ref Ca)/\MkX K Ca f/\ClsM K Ca "__init__" f/\FnOk P w K mg base (CX1 P w) k f fd ps (spF K n F)/\Binds K fd ps []
def qg(C:Str)(n:Nat)(F:FF)(fa:FA):FE:=fun ρ s=> (fa ρ s).bind fun ds s1=> if ds.length+1=n/\n < 1000 then ((F (.ref s1.length::ds) (s1++ [.exc C []])).at ρ).bind fun d s2=> match d with
  |.da .none=>.ok (.ref s1.length) s2
  |_=>.bad
 else .bad
theorem aa3{x:Str}{F:FF}{fa:FA}{p:Pos}(c:InitX X.prog X.w X.K X.mg X.base x k n F)(hr:Room (k+1) X.A)(ha:RA X (e::es) fa)(hx:XOk X XW.xk:=by assumption)(hg:Gl X x:=by rfl)(hdb:(x==("__debug__":Str))=false:=by decide)(he:starEach (e::es) X.env=(false,eval e X.env)::starEach es X.env:=by rfl)(hpl:(backTo pos (starEach es X.env)).any (·.1)=false:=by rfl):RE X (.Call (.Name x p) (e::es) [] pos) (qg x n F fa):=by
 obtain⟨Ca,f,fd,ps,e0,hm,M,_,Fo,bi⟩:=c.ex
 obtain⟨ta,pa,ra⟩:=ha.ex
 refine⟨_,awh M Fo hr hg hm bi hx.pass pa hdb he hpl,?_⟩
 intro as σ H ρ s Q rl en h
 refine ra as σ H ρ s _ rl en (Dn.bind h fun ds s1 as1 H1 vs st1 rl1 r1 h1=> ?_)
 split at h1
 ·rename_i hn
  refine⟨by rw [r1.length,sizeLine_eq];lia,fun a na=> ?_⟩
  have n2:New H1 a (.exn Ca []) (upd H1 a (.exn Ca [])):=⟨na,rfl⟩
  have st:Step as1 H1 (as1.add a) (upd H1 a (.exn Ca [])):=acl n2
  have rl3:=rl1.laid (u:=.exc x []) n2 ⟨Ca,[],e0,n2.at,.nil⟩
  have rx:RD X.K (as1.add a) (upd H1 a (.exn Ca [])) (.ref a) (.ref s1.length):=.ref (by simp [rl1.len]) fun q e=> by
   rw [←rl1.len]at e
   simp at e
   exact e.symm
  refine⟨by rw [aM,r1.length];exact hn.1,as1.add a,.ref s1.length::ds,_,rl3,.cons rx (r1.mono st),?_⟩
  refine Dn.at (ρ:=ρ) (Dn.bind (Dn.step h1 st) fun d s2 as2 H2 v st2' rl2' r2 h2=> ?_) ((en.mono st1).mono st)
  split at h2
  ·cases r2 with
   |da t=> cases t;exact⟨rfl,Dn.now (Q:=Q) h2 rl2' (rx.mono st2')⟩
  ·exact h2.elim
 ·exact h1.elim
theorem alu{x:Str}{F:FF}{fa:FA}{p apos:Pos}{pl:Sem Bool}(c:InitX X.prog X.w X.K X.mg X.base x k n F)(hr:Room k X.A)(ha:RA X (e::es) fa)(hx:XOk X XW.xk:=by assumption)(hg:Gl X x:=by rfl)(hdb:(x==("__debug__":Str))=false:=by decide)(he:starEach (e::es) X.env=(false,eval e X.env)::starEach es X.env:=by rfl)(hpl:(backTo pos (starEach es X.env)).any (·.1)=false:=by rfl)(ht:eval (.Call (.Attribute (.Name x p) "__init__" apos) (e::es) [] pos) X.env=(do
   let ov←eval (.Name x p) X.env
   standAt apos.atName
   let (f,first)←holding [ov] (kA ov "__init__" pl)
   callWith pos f first (backTo pos (starEach (e::es) X.env)) (backToKw pos (gl [] X.env))):=by rfl):RE X (.Call (.Attribute (.Name x p) "__init__" apos) (e::es) [] pos) (jd n F fa):=by
 obtain⟨Ca,f,fd,ps,e0,hm,_,C,Fo,bi⟩:=c.ex
 obtain⟨ta,pa,ra⟩:=ha.ex
 refine⟨_,ax7 C hg hm pa hdb he hpl ht,?_⟩
 intro as σ H ρ s Q rl en h
 refine ra as σ H ρ s _ rl en (Dn.bind h fun ds s1 as1 H1 vs st1 rl1 r1 h1=> ?_)
 split at h1
 ·rename_i hn
  intro pins sh us I ru
  refine atz Fo hr bi .nil hx.pass I ru ⟨by rw [bY,r1.length];exact hn,as1,ds,s1,rl1,?_,h1.at (en.mono st1)⟩
  rw [bY];exact r1
 ·exact h1.elim
def aen(b:Str)(cs:List Str)(ds:List D)(s:S):R D:=match ds with
 |[d,_]=> onX d s fun _ C _=> if (b::cs).contains C=true then .ok .non s else .bad
 |_=>.bad
theorem au5{b:Str}{fa:FA}{p apos:Pos}{pl:Sem Bool}(x:XT X.K X.mg b cs fl)(hm:X.mg "ValueError"=none)(ha:RA X (e::es) fa)(hg:Gl X "ValueError":=by rfl)(he:starEach (e::es) X.env=(false,eval e X.env)::starEach es X.env:=by rfl)(hpl:(backTo pos (starEach es X.env)).any (·.1)=false:=by rfl)(ht:eval (.Call (.Attribute (.Name "ValueError" p) "__init__" apos) (e::es) [] pos) X.env=(do
   let ov←eval (.Name "ValueError" p) X.env
   standAt apos.atName
   let (f,first)←holding [ov] (kA ov "__init__" pl)
   callWith pos f first (backTo pos (starEach (e::es) X.env)) (backToKw pos (gl [] X.env))):=by rfl):RE X (.Call (.Attribute (.Name "ValueError" p) "__init__" apos) (e::es) [] pos) (fCB (aen b cs) fa):=by
 obtain⟨ta,pa,ra⟩:=ha.ex
 refine⟨_,avi hg hm pa he hpl ht,?_⟩
 intro as σ H ρ s Q rl en h
 refine ra as σ H ρ s _ rl en (Dn.bind h fun ds s1 as1 H1 vs st1 rl1 r1 h1=> ?_)
 unfold aen at h1
 split at h1
 ·obtain⟨v,w,rfl,rv,rw⟩:=r1.two
  obtain⟨p,n,C,fs,rfl,rfl,ha,hs,⟨Ca,gs,e0,e1,fr⟩,h2⟩:=al5 rl1 rv h1
  split at h2
  ·rename_i hc
   exact⟨p,Ca,gs,[w],rfl,e1,(x.at hc e0).1,by rw [sizeLine_eq];simp,Dn.now (Q:=Q) h2 rl1 (.da .non)⟩
  ·exact h2.elim
 ·exact h1.elim
end XWs
structure HasX (K:aj) (mg:Str -> Option af) (C q:Str) (st:Stmt) (ps:List Str):Prop where
 ex: ∃(Ca f:Addr) (fd:d5),bd K aP C=some (some (.ref Ca))/\mg C=some (.ref Ca)/\MkX K Ca f/\ClsM K Ca "__init__" f/\Fun K "__init__" q st f fd/\Binds K fd ps []
section
variable{P:aQ}{w:aU}{K:aj}{mg:Str -> Option af}{base:Heap}{q C:Str}{st:Stmt}{N ps:List Str}{k:Nat}
theorem am8(h:HasX K mg C q st ps)(S:FnScope N ps (je st)){m:Nat}(hm:N.length=m)(hn:ps.length=n)(hbody:BodyOk P w K mg base N q st k fb):InitX P w K mg base C (k+1) n (jx m fb):=by
 obtain⟨Ca,f,fd,e0,e1,M,c,F,b⟩:=h.ex
 exact⟨Ca,f,fd,ps,e0,e1,M,c,fnQ F S hm hn hbody,b⟩
end
end PF
namespace L2
open PySem PySem.Spec PyProof.Rows EX
section
variable{X:Cx}{pins:List (Addr×Obj)}{σ:St}{H:Hp}{s:ai}{a C:Addr}{fs:List (Str×V)}{f:Str}{v:V}{A:bf}{E:af -> ai -> Prop}
theorem ai4(hok:HOk X.prog X.w H s.heap)(e:H a=some (.exx C fs)):fs.length <=1000/\ ∃(t:Addr) (tb:af) (dxo:Option Addr),s.heap.get? a=some (yt C dxo t tb)/\((dxo=none/\fs=[])\/ ∃dx,dxo=some dx/\H dx=some (.own a)/\dx≠a/\
   ∃mA,s.heap.Ns1 dx mA/\(∀f,ab4 (fs.lookup f) (mA f))/\dZ mA (fs.map (·.1))):=
 (show j5 X.prog X.w H s.heap a (.exx C fs) from hok a _ e)
theorem ani(I:Inv X pins σ H s)(e:H a=some (.exx C fs))(c:ClsX X.K C)(n:yi X.K C f)(l:fs.lookup f=some v)(h: ∀u s',Inv X pins σ H s' -> RelV v u -> Q u s'):wpAny (model X.prog X.w) A (getAttr (.ref a) f b) Q E s:=by
 obtain⟨_,t,tb,dxo,hx,⟨_,q⟩|⟨dx,q,ho,ne,mA,N,r,wi⟩⟩:=ai4 I.hok e
 ·rw [q]at l;cases l
 ·subst q
  obtain⟨u,hu,ru⟩:=ab4.some_of (v:=v) (o:=mA f) (by rw [←l];exact r f)
  obtain⟨od,hod,hl⟩:=aj7 N
  exact az2 I.kIn (ox:=yt C (some dx) t tb) (od:=some od) ⟨hx,rfl,rfl,hod⟩ c.toClsE (PySem.W.findObj_own c.toClsE.dict n rfl (by rw [hl,hu])) (asw ru) (h u _ (I.tok _) ru)
theorem ass{c:af}(I:Inv X pins σ H s)(e:H a=some (.exx C fs))(cl:ClsX X.K C)(k:bW X.K (.ref C) c=some b)(h: ∀tk,Q (.bool b) {s with toks:=tk}):
  wpAny (model X.prog X.w) A (call (.builtin "isinstance") [.ref a,c]) Q E s:=by
 obtain⟨_,t,tb,dxo,hx,⟨q,_⟩|⟨dx,q,ho,ne,mA,N,r,wi⟩⟩:=ai4 I.hok e
 ·subst q
  exact bZ (EX.kitx_exc (ox:=yt C none t tb) (od:=none) cl.toClsE cl.ca cl.cg cl.ct) I.kIn ⟨hx,rfl,rfl,de⟩ k (fun z=> nomatch z) h
 ·subst q
  obtain⟨od,es,ep,hod,hc⟩:=id N
  exact bZ (EX.kitx_exc (ox:=yt C (some dx) t tb) (od:=some od) cl.toClsE cl.ca cl.cg cl.ct) I.kIn ⟨hx,rfl,rfl,hod⟩ k (fun z=> nomatch z) h
end
section
variable{X:Cx}{e:Expr}{f:Str}{pos:Pos}{ta:TE}
def a5o(K:aj)(ta:TE)(f:Str):TE:=fun σ H Q=> ta σ H fun x H1=> ∃a C fs v,x=.ref a/\H1 a=some (.exx C fs)/\ClsX K C/\yi K C f/\fs.lookup f=some v/\Q v H1
theorem a06(he:PE X e ta)(hb:gB e f X.env (eval e X.env)=eval e X.env):PE X (.Attribute e f pos) (a5o X.K ta f):=by
 refine⟨?_⟩;intro pins s σ H Q I h
 refine azz hb (thn (he pins s σ H _ I h) fun u s1 ⟨x,H1,I1,rx,a,C,fs,v,ex,ea,c,n,l,q⟩=> ?_)
 subst ex
 obtain rfl:u=aD a:=rx
 exact ani I1 ea c n l fun u' s2 I2 ru=> ⟨v,H1,I2,ru,q⟩
end
noncomputable def awo(j:Nat)(D:Ends):Ends:={nx:=fun σ H=> D.nx (σ.set j none) H,rt:=D.rt,bk:=fun σ H=> D.bk (σ.set j none) H,ct:=fun σ H=> D.ct (σ.set j none) H}
def hE(K:aj)(Ca:Addr)(j:Option Nat)(th:TS)(D:Ends):XE:=fun σ p H=> ∃C fs,H p=some (.exx C fs)/\ClsX K C/\kY K (.ref C) (.ref Ca)=some true/\match j with
 |none=> th D σ H
 |some j=> th (awo j D) (σ.set j (some (.ref p))) H
def awi(K:aj)(Ca:Addr)(j:Option Nat)(tb:XE -> TS)(th:TS):TS:=fun D σ H=> tb (hE K Ca j th D) D σ H
section
variable{X:Cx}{pins:List (Addr×Obj)}{σ:St}{H:Hp}{s:ai}
theorem SP.unhand{e:af}{D:Ends}{f:Flow}{s':ai}(ok:X.Ok)(h:SP (X.hand e) pins D f s'):SP X pins D f s':=by
 cases f with
 |next=> obtain⟨σ',H',I,q⟩:=h;exact⟨σ',H',I.unhand ok,q⟩
 |brk=> obtain⟨σ',H',I,q⟩:=h;exact⟨σ',H',I.unhand ok,q⟩
 |cont=> obtain⟨σ',H',I,q⟩:=h;exact⟨σ',H',I.unhand ok,q⟩
 |ret u=> obtain⟨v,σ',H',I,r,q⟩:=h;exact⟨v,σ',H',I.unhand ok,r,q⟩
theorem al0{c:Str}{cp hp:Pos}{nm:Option Str}{j:Option Nat}{th:TS}{D:Ends}(ok:X.Ok)(hst:X.stack=X.env::X.outer/\X.env.frame=some X.env.locals)(hg:Gl X c)(hm:X.mg c=some (.ref Ca))(hdb:(c==("__debug__":Str))=false)(run: ∀(p:Addr) (σ:St) (H:Hp) (s:ai),Inv X pins σ H s -> (∃C t dx tb,s.heap.get? p=some (yt C dx t tb)/\alx s.heap p tb) -> (match j with|none=> th D σ H|some j=> th (awo j D) (σ.set j (some (.ref p))) H) -> codeAny (model X.prog X.w) (X.A.mark (some (.ref p))) (.handlers (.ref p) [.ExceptHandler none nm (b0::suite) hp] X.env) (fun r s₂=> match r with
     |.ok f=> (match nm with
      |none=> SP X pins D f s₂
      |some n=> wpAny (model X.prog X.w) X.A (do bindName X.env n .none;fk X.env n hp) (fun _ s₃=> SP X pins D f s₃) X.xe s₂)
     |.error x=> cameBackBy (model X.prog X.w) X.A X.env X.xe x s₂) s):
  XOk (X.tries (X.pn++pins) fun e s1=> wpAny (model X.prog X.w) X.A (jU e X.env) (fun _ s2=> wpAny (model X.prog X.w) X.A (iE e none) (fun _ s3=> wpAny (model X.prog X.w) X.A (handleBy e X.env [.ExceptHandler (some (.Name c cp)) nm (b0::suite) hp]) (SP X pins D) X.xe s3) X.xe s2) X.xe s1) (hE X.K Ca j th D):=by
 refine⟨fun pins1 σ1 H1 s1 e s' I1 hc=> ?_,PassesOwn.looking⟩
 obtain⟨p,H2,C,fs,t,dx,tb',rfl,os,bare,un,hok,hp,he,ht,p',ep,C',fs',hp',cl,hx,hr⟩:=hc
 cases ep
 rw [hp]at hp';cases hp'
 have J:Inv X pins σ1 H2 s':=(I1.call' (H':=H2) os un hok bare fun b z=> absurd z (by simp)).untries ok
 have fr:X.A.frames=some (X.env::X.outer):=by rw [←hst.1];exact J.ok.frames
 have fu:s'.heap.FunFrames X.base (X.env::X.outer):=by rw [←hst.1];exact J.stack
 show wpAny _ X.A (jU (.ref p) X.env) _ _ s'
 refine ard fr fu hst.2 he ht fun h' n=> ?_
 have n':Noted X.stack p C dx t s'.heap h':=by rw [hst.1];exact n
 have J2:Inv X pins σ1 H2 {s' with heap:=h'}:=J.call' (s':={s' with heap:=h'}) rfl (n'.un hp) (n'.hok J.hok hp ⟨tb',he⟩ J.stkFree) J.bare fun b z=> absurd z (by simp)
 obtain⟨oT,ts,e1,e2,e3⟩:=n.ent
 refine wpAny_handleBy_cons (codeAny_handlers_test ?_) (by intro q;cases q)
 refine ad6 (X:=X.hand (.ref p)) (J2.hand (.ref p)) hg hm ?_ hdb
 have LT:fA (model X.prog X.w) h' (typeOf (.ref p)) (.ref C):=(fA.ld n.exc).andThen .now
 refine (PySem.W.exm_one J2.kIn LT hx).here ?_
 exact run p σ1 H2 _ J2 ⟨C,t,dx,_,n.exc,.inr ⟨_,oT,ts,rfl,dA (ao he),e1,e2,e3⟩⟩ hr
end
section
variable{X:Cx}{body suite:List Stmt}{b0:Stmt}{c:Str}{cp hp pos:Pos}{Ca:Addr}{tb:XE -> TS}{th:TS}
theorem a2v(hst:X.stack=X.env::X.outer/\X.env.frame=some X.env.locals)(hg:Gl X c)(hm:X.mg c=some (.ref Ca))(hb: ∀E pn xe,XOk (X.tries pn xe) E -> PSs (X.tries pn xe) body (tb E))(hh: ∀e,PSs (X.hand e) (b0::suite) th)
  (hdb:(c==("__debug__":Str))=false:=by decide):PS X (.Try body [.ExceptHandler (some (.Name c cp)) none (b0::suite) hp] [] [] pos) (awi X.K Ca none tb th):=by
 refine⟨?_⟩;intro pins s σ H D I hw
 refine wpAny_Try_except ?_
 refine cc (hb _ _ _ (al0 (cp:=cp) (hp:=hp) (nm:=none) (b0:=b0) (suite:=suite) (j:=none) (th:=th) (D:=D) I.ok hst hg hm hdb fun p σ1 H1 s1 J ⟨C,t,dx,tb',he,ht⟩ hr=> ?_) [] s σ H D (I.tries _) hw) (fun f s1 h1=> ?_) (fun e s1 h1=> h1)
 ·refine codeAny_handlers_suite (aru he ht ?_)
  exact cc (hh (.ref p) pins s1 σ1 H1 D (J.hand _) hr) (fun f s2 h2=> SP.unhand I.ok h2) fun _ _ z=> z.elim
 ·have h1':SP X pins D f s1:=SP.untries I.ok h1
  cases f with
  |next=> exact fH h1'
  |brk=> exact h1'
  |cont=> exact h1'
  |ret u=> exact h1'
theorem auf{j:Nat}{n:Str}(hst:X.stack=X.env::X.outer/\X.env.frame=some X.env.locals)(hN:X.N.Nodup)(hj:X.N[j]?=some n)(hk:X.env.scope.names.lookup n=some .local)(hg:Gl X c)(hm:X.mg c=some (.ref Ca))(hb: ∀E pn xe,XOk (X.tries pn xe) E -> PSs (X.tries pn xe) body (tb E))(hh: ∀e,PSs (X.hand e) (b0::suite) th)
  (hdb:(c==("__debug__":Str))=false:=by decide):PS X (.Try body [.ExceptHandler (some (.Name c cp)) (some n) (b0::suite) hp] [] [] pos) (awi X.K Ca (some j) tb th):=by
 refine⟨?_⟩;intro pins s σ H D I hw
 refine wpAny_Try_except ?_
 refine cc (hb _ _ _ (al0 (cp:=cp) (hp:=hp) (nm:=some n) (b0:=b0) (suite:=suite) (j:=some j) (th:=th) (D:=D) I.ok hst hg hm hdb fun p σ1 H1 s1 J ⟨C,t,dx,tb',he,ht⟩ hr=> ?_) [] s σ H D (I.tries _) hw) (fun f s1 h1=> ?_) (fun e s1 h1=> h1)
 ·refine codeAny_handlers_suite_as (aru he ht ?_)
  refine abr (X:=X) J hN hj (.inl hk) (v:=.ref p) rfl (fun s2 J2=> ?_) (.inr hk)
  refine cc (hh (.ref p) pins s2 _ H1 (awo j D) (J2.hand _) hr) (fun f s3 h3=> ?_) fun _ _ z=> z.elim
  have h3:=SP.unhand I.ok h3
  show wpAny _ X.A (do bindName X.env n .none;fk X.env n hp) (fun _ s₃=> SP X pins D f s₃) X.xe s3
  cases f with
  |next=> obtain⟨σ',H',K,q⟩:=h3;exact afr K hN hj hk fun s4 K4=> ⟨_,H',K4,q⟩
  |brk=> obtain⟨σ',H',K,q⟩:=h3;exact afr K hN hj hk fun s4 K4=> ⟨_,H',K4,q⟩
  |cont=> obtain⟨σ',H',K,q⟩:=h3;exact afr K hN hj hk fun s4 K4=> ⟨_,H',K4,q⟩
  |ret u=> obtain⟨v,σ',H',K,r,q⟩:=h3;exact afr K hN hj hk fun s4 K4=> ⟨v,_,H',K4,r,q⟩
 ·have h1':SP X pins D f s1:=SP.untries I.ok h1
  cases f with
  |next=> exact fH h1'
  |brk=> exact h1'
  |cont=> exact h1'
  |ret u=> exact h1'
end
variable{X:Cx}{e:Expr}{es:List Expr}{p pos tp:Pos}{k:ExprContext}{te:TE}
theorem auw:va X (.builtin "isinstance") (fun vs H Q=> ∃(a q C:Addr) (fs:List (Str×V)) (Cs:List Addr) (b:Bool),vs=[.ref a,.ref q]/\H a=some (.exx C fs)/\ClsX X.K C/\H q=some (.tup (Cs.map V.ref))/\kZ X.K (.ref C) (Cs.map aD)=some b/\Q (.bl b) H):=by
 intro pins s σ H vs us Q I r h
 obtain⟨a,q,C,fs,Cs,b,rfl,ea,cl,eq,hk,hq⟩:=h
 obtain⟨u,u2,rfl,ru1,ru2⟩:=vals2 r
 cases (show u=aD a from ru1)
 cases (show u2=aD q from ru2)
 obtain⟨_,its,rv,n,ht⟩:=(show j5 X.prog X.w H s.heap q (.tup (Cs.map V.ref)) from I.hok q _ eq)
 have hits:its=Cs.map aD:=by
  have: ∀(Cs:List Addr) (its:List af),jo (Cs.map V.ref) its -> its=Cs.map aD:=fun Cs=> by
   induction Cs with
   |nil=> intro its h;cases h;rfl
   |cons c r ih=>
    intro its h
    cases h with
    |cons a t=> rw [ih _ t];cases (show _=aD c from a);rfl
  exact this Cs its rv
 subst hits
 obtain⟨_,t,tb,dxo,hx,⟨z,_⟩|⟨dx,z,ho,ne,mA,N,r',wi⟩⟩:=ai4 I.hok ea
 ·subst z
  exact PySem.W.kia_tup (EX.kitx_exc (ox:=yt C none t tb) (od:=none) cl.toClsE cl.ca cl.cg cl.ct) I.kIn ⟨hx,rfl,rfl,de⟩ ht hk (fun z=> nomatch z) fun tk=> ⟨.bl b,H,I.tok _,rfl,hq⟩
 ·subst z
  obtain⟨od,es',ep,hod,hc⟩:=id N
  exact PySem.W.kia_tup (EX.kitx_exc (ox:=yt C (some dx) t tb) (od:=some od) cl.toClsE cl.ca cl.cg cl.ct) I.kIn ⟨hx,rfl,rfl,hod⟩ ht hk (fun z=> nomatch z) fun tk=> ⟨.bl b,H,I.tok _,rfl,hq⟩
end L2
namespace PF
open PySem PySem.Spec
open L2 EX
variable[XW]
def onY{α:Type}(d:D)(s:S)(k:Nat -> Str -> List (Str×D) -> R α):R α:=match d with
 |.ref n=> match s[n]? with
  |some (.xcx C fs)=> k n C fs
  |_=>.bad
 |_=>.bad
theorem ah5{α β:Type}{rel:As -> Hp -> β -> α -> Prop}{d:D}{k:Nat -> Str -> List (Str×D) -> R α}{Q:β -> Hp -> Prop}(rl:Rel K as H s)(r:RD K as H v d)(h:Dn K rel as H (onY d s k) Q):
  ∃p n C fs,v=.ref p/\d=.ref n/\as.ix[n]?=some (some p)/\s[n]?=some (.xcx C fs)/\RO K as H p (.xcx C fs)/\Dn K rel as H (k n C fs) Q:=by
 cases r with
 | @ref p n l hr=>
  have h:Dn K rel as H (match s[n]? with|some (O.xcx C fs)=> k n C fs|_=>.bad) Q:=h
  split at h
  ·rename_i C fs e
   obtain⟨q,hq⟩:=rl.li n _ e (by intro z;cases z)
   cases hr q hq
   exact⟨p,n,C,fs,rfl,rfl,hq,e,rl.ob n p _ hq e,h⟩
  ·exact h.elim
 |_=> exact h.elim
section
variable{b:Str}{cs fl:List Str}{mg:Str -> Option af}
def aek(b:Str)(cs:List Str)(ds:List D)(s:S):R D:=match ds with
 |[d,.fn y]=> onY d s fun _ C _=> if (b::cs).contains C=true/\(b::cs).contains y=true then .ok (.bl (y==C||y==b)) s else .bad
 |[d,.ty t]=> onY d s fun _ C _=> if (b::cs).contains C=true/\t="ValueError" then .ok (.bl true) s else .bad
 |_=>.bad
theorem ay0(x:XT X.K X.mg b cs fl):CB X (.builtin "isinstance") (aek b cs):=zr fun pins sh σ H as s xs ds us Q I rl rs ru h=> by
 unfold aek at h
 split at h
 ·obtain⟨v,w,rfl,rv,rw⟩:=rs.two
  obtain⟨u,u2,rfl,ru1,ru2⟩:=vals2 ru
  obtain⟨p,n,C,fs,rfl,rfl,ha,hs,⟨Ca,gs,e0,e1,fr⟩,h2⟩:=ah5 rl rv h
  split at h2
  ·rename_i hc
   cases rw with
   | @fn f y hf=>
    cases (show u=aD p from ru1)
    cases (show u2=aD f from ru2)
    obtain⟨c1,_,_,c4⟩:=x.at hc.1 e0
    exact ass I e1 c1 (c4 _ hc.2 f hf) fun tk=> ⟨.bl _,H,I.tok _,rfl,Dn.now (Q:=Q) h2 rl (.da (.bl _))⟩
  ·exact h2.elim
 ·obtain⟨v,w,rfl,rv,rw⟩:=rs.two
  obtain⟨u,u2,rfl,ru1,ru2⟩:=vals2 ru
  obtain⟨p,n,C,fs,rfl,rfl,ha,hs,⟨Ca,gs,e0,e1,fr⟩,h2⟩:=ah5 rl rv h
  split at h2
  ·rename_i hc
   obtain⟨hc,rfl⟩:=hc
   cases rw
   cases (show u=aD p from ru1)
   cases (show u2=cG "ValueError" from ru2)
   obtain⟨c1,_,c3,_⟩:=x.at hc e0
   exact ass I e1 c1 c3 fun tk=> ⟨.bl _,H,I.tok _,rfl,Dn.now (Q:=Q) h2 rl (.da (.bl _))⟩
  ·exact h2.elim
 ·exact h.elim
inductive NsAt (K:aj):List Str -> List Addr -> Prop
 |nil:NsAt K [] []
 |cons {n:Str} {C:Addr} {ns:List Str} {Cs:List Addr}:bd K aP n=some (some (.ref C)) -> NsAt K ns Cs -> NsAt K (n::ns) (C::Cs)
theorem NsAt.len{Cs:List Addr}(h:NsAt K ns Cs):ns.length=Cs.length:=by
 induction h with
 |nil=> rfl
 |cons _ _ ih=> simp [ih]
structure CNs (X:Cx) (es:List Expr) (ns:List Str):Prop where
 ex: ∃Cs:List Addr,PA X es (fun _ H Q=> Q (Cs.map V.ref) H)/\NsAt X.K ns Cs
theorem a08:CNs X [] []:=⟨[],acw,.nil⟩
theorem abz(x:XT X.K X.mg b cs fl)(h:(b::cs).contains C=true)(t:CNs X es ns)(hg:Gl X C:=by rfl)(hd:(C==("__debug__":Str))=false:=by decide)(he:starEach (.Name C pos::es) X.env=(false,eval (.Name C pos) X.env)::starEach es X.env:=by rfl):CNs X (.Name C pos::es) (C::ns):=by
 obtain⟨Ca,h1,h2,_⟩:=x.ok C (cJ.mp h)
 obtain⟨Cs,p,f⟩:=t.ex
 exact⟨Ca::Cs,aa5 (ap9 (v:=.ref Ca) hg h2 rfl hd) p,.cons h1 f⟩
def aw7(b:Str)(cs ns:List Str)(d:D)(s:S):R D:=onY d s fun _ C _=> if (b::cs).contains C=true/\(ns.all fun y=> (b::cs).contains y)=true then .ok (.bl (ns.any fun y=> y==C||y==b)) s else .bad
def ar1(b:Str)(cs ns:List Str)(fe:FE):FE:=fun ρ s=> (fe ρ s).bind (aw7 b cs ns)
theorem ajv{C:Str}{Ca:Addr}(k: ∀D,(b::cs).contains D=true -> ∀Da:Addr,bd K aP D=some (some (.ref Da)) -> bW K (.ref Ca) (.ref Da)=some (D==C||D==b)):
  ∀{ns:List Str} {Cs:List Addr},NsAt K ns Cs -> (ns.all fun y=> (b::cs).contains y)=true -> kZ K (.ref Ca) (Cs.map aD)=some (ns.any fun y=> y==C||y==b)
 |_,_,.nil,_=> rfl
 |n::ns,c::Cs,.cons h t,ha=> by
  (rw [cX,aH]at ha)
  have ih:=ajv k t ha.2
  have e:=k n ha.1 c h
  rw [aJ,kZ,e,gC]
  cases (n==C||n==b) <;> simp [ih]
theorem a59{p:Pos}{k}(x:XT X.K X.mg b cs fl)(hm:X.mg "isinstance"=none)(he:RE X e fe)(hc:CNs X es ns)(hg:Gl X "isinstance":=by rfl)(hs:starEach [e,.Tuple es k tp] X.env=(false,eval e X.env)::starEach [.Tuple es k tp] X.env:=by rfl)(hs2:starEach [.Tuple es k tp] X.env=(false,eval (.Tuple es k tp) X.env)::starEach [] X.env:=by rfl)(hpl:(backTo pos (starEach [.Tuple es k tp] X.env)).any (·.1)=false:=by rfl)(hz:ns.length <=1000:=by decide):RE X (.Call (.Name "isinstance" p) [e,.Tuple es k tp] [] pos) (ar1 b cs ns fe):=by
 obtain⟨t,pe,r⟩:=he.ex
 obtain⟨Cs,pc,fc⟩:=hc.ex
 refine⟨_,ae5 auw hg hm xa (aa5 pe (aa5 (a4o pc) acw hs2) hs) (by decide) (by decide) hs hpl,fun as σ H ρ s Q rl en h=> ?_⟩
 refine r as σ H ρ s _ rl en (Dn.bind h fun d s1 as1 H1 v st1 rl1 r1 h1=> ?_)
 obtain⟨p,n,C,fs,rfl,rfl,ha,hs,⟨Ca,gs,e0,e1,fr⟩,h2⟩:=ah5 rl1 r1 h1
 split at h2
 ·rename_i hcc
  obtain⟨c1,_,_,c4⟩:=x.at hcc.1 e0
  refine⟨by rw [ak,←fc.len];exact fN (ajy hz),fun q nq=> ?_⟩
  have nw:New H1 q (.tup (Cs.map V.ref)) (upd H1 q (.tup (Cs.map V.ref))):=⟨nq,rfl⟩
  refine⟨p,q,Ca,gs,Cs,_,rfl,?_,c1,nw.at,ajv c4 fc hcc.2,?_⟩
  ·rw [kg];exact e1
   intro z;rw [z,nq]at e1;cases e1
  ·exact Dn.now (Q:=Q) (Dn.step h2 (j4 nw)) (rl1.new nw) (.da (.bl _))
 ·exact h2.elim
def aqu(b:Str)(cs fl:List Str)(f:Str)(d:D)(s:S):R D:=onY d s fun _ C fs=> if (b::cs).contains C=true/\fl.contains f=true then match fs.lookup f with
  |some x=>.ok x s
  |none=>.bad
 else .bad
def aks(b:Str)(cs fl:List Str)(f:Str)(fo:FE):FE:=fun ρ s=> (fo ρ s).bind (aqu b cs fl f)
theorem az1{f:Str}{o:Expr}(x:XT X.K X.mg b cs fl)(ho:RE X o fo)(hb:gB o f X.env (eval o X.env)=eval o X.env:=by rfl):RE X (.Attribute o f pos) (aks b cs fl f fo):=by
 obtain⟨to,po,ro⟩:=ho.ex
 refine⟨_,a06 po hb,fun as σ H ρ s Q rl en h=> ?_⟩
 refine ro as σ H ρ s _ rl en (Dn.bind h fun d s1 as1 H1 v st1 rl1 r1 h1=> ?_)
 obtain⟨p,n,C,fs,rfl,rfl,ha,hs,⟨Ca,gs,e0,e1,fr⟩,h2⟩:=ah5 rl1 r1 h1
 split at h2
 ·rename_i hc
  obtain⟨c1,c2,_⟩:=x.at hc.1 e0
  split at h2
  ·rename_i y hy
   obtain⟨w,hw,rw⟩:=(fr.look (f:=f)).1 y hy
   exact⟨p,Ca,gs,w,rfl,e1,c1,c2 f hc.2,hw,Dn.now (Q:=Q) h2 rl1 rw⟩
  ·exact h2.elim
 ·exact h2.elim
def af9(b:Str)(cs:List Str)(ρ:En)(d:D)(s:S):R Fl:=onX d s fun n C fs=> if (b::cs).contains C=true then .ex n ρ (s.set n (.xcx C fs)) else .bad
def vy(b:Str)(cs:List Str)(fa:FE):FS:=fun ρ s=> (fa ρ s).bind (af9 b cs ρ)
theorem aa7{a:Expr}(x:XT X.K X.mg b cs fl)(hc:X.calm=true)(h:RE X a fa)(hx:XOk X XW.xk:=by assumption):RS X (.Raise (some a) none pos) (vy b cs fa):=by
 obtain⟨t,p,r⟩:=h.ex
 refine⟨_,av3 hx hc p,fun as σ H ρ s D rl en h=> ?_⟩
 refine r as σ H ρ s _ rl en (Dn.bind h fun d s1 as1 H1 v st1 rl1 r1 h1=> ?_)
 obtain⟨p,n,C,fs,rfl,rfl,ha,hs,⟨Ca,gs,e0,e1,fr⟩,h2⟩:=al5 rl1 r1 h1
 split at h2
 ·rename_i hcc
  obtain⟨c1,_⟩:=x.at hcc e0
  have cg:Chg H1 p (.exx Ca gs) (upd H1 p (.exx Ca gs)):=⟨rfl⟩
  have st:=agi (qf.mpr ⟨n,ha⟩) (fun z=> rl1.hx p z (qf.mpr ⟨n,ha⟩)) cg
  have rl2:Rel X.K as1 (upd H1 p (.exx Ca gs)) (s1.set n (.xcx C fs)):=rl1.chg ha cg ⟨Ca,gs,e0,cg.at,fr.mono0 st.toStep0⟩
  exact⟨p,Ca,gs,rfl,e1,c1,h2 as1 _ p σ st rl2 ((en.mono st1).mono st) ha⟩
 ·exact h2.elim
end
end PF
namespace PF
open PySem PySem.Spec
open L2 EX
section
variable{K:aj}{mg:Str -> Option af}{b:Str}{cs fl:List Str}
theorem avk{C:Addr}(c:ClsE K C):ip K (.ref C) (.ref C)=some true:=by
 obtain⟨nm,q,N,bs,bm,sn,sub,ab,col,dd,k0,k1,k2,k3,k5,e,a⟩:=c.at_
 have h1:((eC K C).isSome&&iq K (.ref C)==some (.type "type"))=true:=by simp [eC,iq,e]
 unfold ip
 dsimp only
 rw [if_pos h1]
 simp [iK,iH,eC,e]
theorem XT.exm(x:XT K mg b cs fl){c:Str}(hC:(b::cs).contains C=true)(hc:(b::cs).contains c=true){Da:Addr}(e:bd K aP C=some (some (.ref Ca)))(e2:bd K aP c=some (some (.ref Da))):
  kY K (.ref Ca) (.ref Da)=some (c==C||c==b):=by
 obtain⟨c1,_,_,k⟩:=x.at hC e
 obtain⟨c2,_⟩:=x.at hc e2
 have h:=k c hc Da e2
 have hs:iK K (.ref Da) (.type "BaseException")=some true:=c2.toClsE.sub (T:="BaseException") (b:=true) (by decide+kernel)
 unfold kY
 rw [if_pos (by rw [hs];rfl)]
 by_cases z:Ca=Da
 ·subst z
  have:(c==C||c==b)=true:=by
   unfold bW at h
   rw [if_pos (by simp)]at h
   exact (bP h).symm
  rw [this]
  exact avk c1.toClsE
 ·unfold bW at h
  rwa [if_neg (by simpa using z)]at h
theorem Envs.unset(e:Envs K as H ρ σ)(i:Nat):Envs K as H (ρ.set i none) (σ.set i none):=by
 refine⟨by simp [e.len],fun j x h=> ?_⟩
 by_cases z:i=j
 ·subst z
  rw [dj]at h
  split at h
  ·split at h <;> simp at h
  ·rename_i q;exact absurd rfl q
 ·rw [aS z]at h⊢
  exact e.get j x h
theorem RSs.pss[XW]{X:Cx}{st:List Stmt}{f:FS}(h:RSs X st f):PSs X st (aw3 X.K f):=by
 obtain⟨t,p,r⟩:=h.ex
 exact⟨fun pins s σ H D I ⟨as,ρ,s',a,b,c⟩=> p pins s σ H D I (r as σ H ρ s' D a b c)⟩
end
noncomputable def unF(j:Nat)(fl:Fl):Fl:=match fl with
 |.nx ρ=>.nx (ρ.set j none)
 |.rt d=>.rt d
 |.bk ρ=>.bk (ρ.set j none)
 |.ct ρ=>.ct (ρ.set j none)
def kUn(j:Nat)(fl:Fl)(s:S):R Fl:=.ok (unF j fl) s
def aey(b:Str)(cs:List Str)(c:Str)(j:Option Nat)(fh:FS)(n:Nat)(ρ:En)(s:S):R Fl:=match s[n]? with
 | some (.xcx C _)=> if (b::cs).contains C=true/\(c==C||c==b)=true then (match j with
   |none=> (fh ρ s).calm
   |some j=> (fh (ρ.set j (some (.ref n))) s).calm.bind (kUn j)) else .bad
 |_=>.bad
def abj(b:Str)(cs:List Str)(c:Str)(j:Option Nat)(fb fh:FS):FS:=fun ρ s=> match fb ρ s with
 |.ok fl s1=>.ok fl s1
 |.bad=>.bad
 |.ex n ρ1 s1=> aey b cs c j fh n ρ1 s1
section
variable[XW]{X:Cx}{b c:Str}{cs fl:List Str}{body suite:List Stmt}{b0:Stmt}{fb fh:FS}{cp hp pos:Pos}
theorem aot{j:Option Nat}(x:XT X.K X.mg b cs fl)(hc:(b::cs).contains c=true)(h1:bd X.K aP c=some (some (.ref Ca))):
  agk X.K (awi X.K Ca j (fun E=> @aw3 ⟨E⟩ X.K fb) (@aw3 XW.dft X.K fh)) (abj b cs c j fb fh):=by
 intro as σ H ρ s D rl en h
 refine⟨as,ρ,s,rl,en,?_⟩
 unfold abj at h
 cases q:fb ρ s with
 |ok fl s1=> rw [q]at h;exact h
 |bad=> rw [q]at h;exact h.elim
 | ex n ρ1 s1=>
  rw [q]at h
  intro as' H' p σ' st rl' en' ix
  have h:=Dn.step (r:=aey b cs c j fh n ρ1 s1) h st
  unfold aey at h
  split at h
  ·rename_i C fs e
   obtain⟨Ca',gs,e0,e1,fr⟩:=rl'.ob n p _ ix e
   split at h
   ·rename_i hcc
    refine⟨Ca',gs,e1,(x.at hcc.1 e0).1,by rw [x.exm hcc.1 hc e0 h1,hcc.2],?_⟩
    cases j with
    |none=> exact⟨as',ρ1,s1,rl',en',Dn.calm h⟩
    |some j=>
     have rd:RD X.K as' H' (.ref p) (.ref n):=.ref (aA.mp ix).1 fun r e'=> by rw [ix]at e';cases e';rfl
     refine⟨as',ρ1.set j (some (.ref n)),s1,rl',en'.set j rd,Dn.calm (Dn.bind h fun fl s2 as2 H2 fv st2 rl2 r2 h2=> ?_)⟩
     cases r2 with
     |nx e=> exact Dn.now (K:=X.K) (rel:=rF X.K) (Q:=yc D) (b:=FV.nx _) h2 rl2 (rF.nx (e.unset j))
     |rt e=> exact Dn.now (K:=X.K) (rel:=rF X.K) (Q:=yc D) (b:=FV.rt _) h2 rl2 (rF.rt e)
     |bk e=> exact Dn.now (K:=X.K) (rel:=rF X.K) (Q:=yc D) (b:=FV.bk _) h2 rl2 (rF.bk (e.unset j))
     |ct e=> exact Dn.now (K:=X.K) (rel:=rF X.K) (Q:=yc D) (b:=FV.ct _) h2 rl2 (rF.ct (e.unset j))
   ·exact h.elim
  ·exact h.elim
theorem a3z(x:XT X.K X.mg b cs fl)(hst:X.stack=X.env::X.outer/\X.env.frame=some X.env.locals)(hc:(b::cs).contains c=true)(hb: ∀(I:XW) pn xe,XOk (X.tries pn xe) I.xk -> @RSs I (X.tries pn xe) body fb)
  (hh: ∀(I:XW) e,XOk (X.hand e) I.xk -> @RSs I (X.hand e) (b0::suite) fh) (hg:Gl X c:=by rfl) (hdb:(c==("__debug__":Str))=false:=by decide):RS X (.Try body [.ExceptHandler (some (.Name c cp)) none (b0::suite) hp] [] [] pos) (abj b cs c none fb fh):=by
 obtain⟨Ca,h1,h2,_⟩:=x.ok c (cJ.mp hc)
 exact⟨_,a2v hst hg h2 (fun E pn xe hx=> @RSs.pss ⟨E⟩ _ _ _ (hb ⟨E⟩ pn xe hx)) (fun e=> @RSs.pss XW.dft _ _ _ (hh XW.dft e (XOk.never eH))) hdb,aot x hc h1⟩
theorem awv(j:Nat){n:Str}(x:XT X.K X.mg b cs fl)(hst:X.stack=X.env::X.outer/\X.env.frame=some X.env.locals)(hN:X.N.Nodup)(hj:X.N[j]?=some n)(hk:X.env.scope.names.lookup n=some .local)(hc:(b::cs).contains c=true)(hb: ∀(I:XW) pn xe,XOk (X.tries pn xe) I.xk -> @RSs I (X.tries pn xe) body fb)
  (hh: ∀(I:XW) e,XOk (X.hand e) I.xk -> @RSs I (X.hand e) (b0::suite) fh) (hg:Gl X c:=by rfl) (hdb:(c==("__debug__":Str))=false:=by decide):RS X (.Try body [.ExceptHandler (some (.Name c cp)) (some n) (b0::suite) hp] [] [] pos) (abj b cs c (some j) fb fh):=by
 obtain⟨Ca,h1,h2,_⟩:=x.ok c (cJ.mp hc)
 exact⟨_,auf hst hN hj hk hg h2 (fun E pn xe hx=> @RSs.pss ⟨E⟩ _ _ _ (hb ⟨E⟩ pn xe hx)) (fun e=> @RSs.pss XW.dft _ _ _ (hh XW.dft e (XOk.never eH))) hdb,aot x hc h1⟩
end
section
variable{b c:Str}{cs fl ns:List Str}{ρ ρ1:En}{s s1:S}{n:Nat}{C f:Str}{fs:List (Str×D)}{x d:D}{fa fe:FE}{fb fh:FS}
theorem a94:vy b cs fa ρ s=(fa ρ s).bind (af9 b cs ρ):=(rfl)
theorem ake(h:s[n]?=some (.exc C fs))(hc:(b::cs).contains C=true):af9 b cs ρ (.ref n) s=.ex n ρ (s.set n (.xcx C fs)):=by
 show (match s[n]? with|some (O.exc C fs)=> (if (b::cs).contains C=true then (R.ex n ρ (s.set n (.xcx C fs)):R Fl) else .bad)|_=>.bad)=_
 rw [h];exact if_pos hc
theorem bc6:ar1 b cs ns fe ρ s=(fe ρ s).bind (aw7 b cs ns):=(rfl)
theorem a04(h:s[n]?=some (.xcx C fs))(hc:(b::cs).contains C=true)(ha:(ns.all fun y=> (b::cs).contains y)=true):aw7 b cs ns (.ref n) s=.ok (.bl (ns.any fun y=> y==C||y==b)) s:=by
 show (match s[n]? with|some (O.xcx C fs)=> (if (b::cs).contains C=true/\(ns.all fun y=> (b::cs).contains y)=true then R.ok (D.bl (ns.any fun y=> y==C||y==b)) s else .bad)|_=>.bad)=_
 rw [h];exact if_pos ⟨hc,ha⟩
theorem a1o(h:s[n]?=some (.xcx C fs))(hc:(b::cs).contains C=true)(ha:(b::cs).contains y=true):aek b cs [.ref n,.fn y] s=.ok (.bl (y==C||y==b)) s:=by
 show (match s[n]? with|some (O.xcx C fs)=> (if (b::cs).contains C=true/\(b::cs).contains y=true then R.ok (D.bl (y==C||y==b)) s else .bad)|_=>.bad)=_
 rw [h];exact if_pos ⟨hc,ha⟩
theorem ax0(h:s[n]?=some (.xcx C fs))(hc:(b::cs).contains C=true):aek b cs [.ref n,.ty "ValueError"] s=.ok (.bl true) s:=by
 show (match s[n]? with|some (O.xcx C fs)=> (if (b::cs).contains C=true/\("ValueError":String)="ValueError" then R.ok (D.bl true) s else .bad)|_=>.bad)=_
 rw [h];exact if_pos ⟨hc,rfl⟩
theorem bay:aks b cs fl f fa ρ s=(fa ρ s).bind (aqu b cs fl f):=(rfl)
theorem awn(h:s[n]?=some (.xcx C fs))(hc:(b::cs).contains C=true)(hf:fl.contains f=true)(h3:fs.lookup f=some x):aqu b cs fl f (.ref n) s=.ok x s:=by
 show (match s[n]? with|some (O.xcx C fs)=> (if (b::cs).contains C=true/\fl.contains f=true then (match fs.lookup f with|some x=> R.ok x s|none=>.bad) else .bad)|_=>.bad)=_
 rw [h]
 show (if (b::cs).contains C=true/\fl.contains f=true then (match fs.lookup f with|some x=> R.ok x s|none=>.bad) else .bad)=_
 rw [if_pos ⟨hc,hf⟩,h3]
theorem at7{j:Option Nat}{fl:Fl}(h:fb ρ s=.ok fl s1):abj b cs c j fb fh ρ s=.ok fl s1:=by unfold abj;rw [h]
theorem arf{j:Option Nat}(h:fb ρ s=.ex n ρ1 s1):abj b cs c j fb fh ρ s=aey b cs c j fh n ρ1 s1:=by unfold abj;rw [h]
theorem axh(h:s[n]?=some (.xcx C fs))(hc:(b::cs).contains C=true)(hm:(c==C||c==b)=true):aey b cs c none fh n ρ s=(fh ρ s).calm:=by
 unfold aey;rw [h];exact if_pos ⟨hc,hm⟩
theorem a2h{j:Nat}(h:s[n]?=some (.xcx C fs))(hc:(b::cs).contains C=true)(hm:(c==C||c==b)=true):aey b cs c (some j) fh n ρ s=(fh (ρ.set j (some (.ref n))) s).calm.bind (kUn j):=by
 unfold aey;rw [h];exact if_pos ⟨hc,hm⟩
end
end PF
namespace L2
open PySem PySem.Spec PyProof.Rows
theorem acn(is:List Int): ∀k,preSum (fun i=> is.getD i 0) k=(is.take k).sum
 |0=> by simp [preSum]
 |k+1=> by
  rw [preSum,acn is k,iS]
  cases h:is[k]? with
  |none=> simp [bS,h]
  |some x=> simp [bS,h]
theorem ahl: ∀(l:List Int),(∀i∈l,0 <=i/\i <=1000000) -> 0 <=l.sum/\l.sum <=1000000*l.length
 |[],_=> by simp
 |x::r,h=> by
  have a:=h x aC
  have b:=ahl r fun i hi=> h i (aB _ hi)
  (simp only [dJ,aM])
  lia
theorem ars(hc:X.calm=true):va X (.builtin "sum") (fun vs H Q=> ∃(a:Addr) (is:List Int),vs=[.ref a]/\SqL X.K H a (is.map V.int)/\is.length <=100000/\(∀i∈is,0 <=i/\i <=1000000)/\Q (.int is.sum) H):=by
 intro pins s σ H vs us Q I r h
 obtain⟨a,is,rfl,hS,hz,hb,q⟩:=h
 obtain⟨u,rfl,ru⟩:=vals1 r
 cases ru
 have hh:X.A.in1.handled=none:=I.ok.hd hc
 obtain⟨its,rv,⟨o,n,e,c,dd,d⟩,z⟩:=I.list hS
 have l1:s.heap.IsList a its.toArray:=⟨o,e,c,n,d⟩
 have hl:=rv.length
 rw [ak]at hl
 have tb: ∀k,0 <=(is.take k).sum/\(is.take k).sum <=1000000*100000:=fun k=> by
  have:=ahl (is.take k) fun i hi=> hb i (List.take_subset _ _ hi)
  have l:=List.length_take_le k is
  have l2:=List.length_take_le' k is
  lia
 refine call_sum_walk (dP l1 ⟨s.heap.objs.size,_,_,_,_,_,fun i=> is.getD i 0,rfl,Walks.list hh _ a (aN (ao e)) its.toArray,⟨⟨_,ar _ rfl,rfl,rfl⟩,l1.push _⟩,?_,?_,?_,fun h' tk t' k=> ?_⟩)
 ·intro b m
  rw [aZ]
  simp only [aw,bK,or_false]at m
  rcases m with rfl|rfl
  ·exact ee _
  ·exact cU (ao e)
 ·intro i v hv
  have hi:i < is.length:=by
   have:=(bD.mp hv).1
   rw [az]at this
   lia
  have e1:(is.map V.int)[i]?=some (.int is[i]):=by rw [aR,ay hi];rfl
  obtain⟨u,hu,ru⟩:=rv.get e1
  rw [kS,hu]at hv
  obtain rfl:u=v:=bP hv
  obtain⟨t,rfl⟩:=ru
  exact⟨t,by show dq is[i] t=dq (is.getD i 0) t;rw [bS,ay hi];rfl⟩
 ·intro j hj
  rw [az,←hl]at hj
  have b1:=hb is[j] (d8 hj)
  have e3:is.getD j 0=is[j]:=by rw [bS,ay hj];rfl
  refine⟨⟨?_,?_⟩,?_⟩
  ·show -2^63 <=is.getD j 0;rw [e3];lia
  ·show is.getD j 0 < 2^63;rw [e3];lia
  ·rw [acn]
   have:=tb (j+1)
   exact⟨by lia,by lia⟩
 ·have ks: ∀b u,s.heap.get? b=some u -> h'.get? b=some u:=fun b u hb=> k b u (fun m=> absurd (ao hb) (by rw [aY.mp m];exact cy _)) (ag _ hb)
  rw [acn,az,←hl,dv (aq _)]
  exact⟨.int is.sum,H,I.un (Un.kept ks) (I.hok.kept ks),⟨_,rfl⟩,q⟩
end L2
namespace PF
open PySem PySem.Spec
open L2
variable[XW]
end PF
namespace PF
open PySem PySem.Spec
open L2
variable[XW]
end PF
namespace PF
open PySem PySem.Spec
open L2
variable[XW]
end PF
namespace PF
open PySem PySem.Spec
open L2
variable[XW]
end PF
namespace L2
open PySem PySem.Spec PyProof.Rows
section
variable{P:aQ}{w:aU}{A:bf}{E:af -> ai -> Prop}{s:ai}
structure NAt (b:Bool) (l e i:Addr) (n:Int) (k:Nat) (h:Heap):Prop where
 ne:e≠i
 oe: ∃old,lc h e i n old
 c:vx b h i l k
theorem a32{e i:Addr}{n:Int}{xs:Array af}{x:af}(N:NAt b l e i n k s.heap)(hl:kn b s.heap l xs)(hx:xs[k]?=some x)(hQ: ∀h' t,ma h' e i (n+1) x s.heap.objs.size -> vx b h' i l (k+1) -> h'.get? s.heap.objs.size=some {cls:=.type "tuple",data:=.seq #[.int n s.toks,x]} ->
   (∀c o,c≠e -> c≠i -> s.heap.get? c=some o -> h'.get? c=some o) -> Q (.ref s.heap.objs.size) {s with heap:=h',toks:=t}):
  wpAny (model P w) A (cf.«enumerate.__next__» ⟨[.ref e],[]⟩) (fun fin s'=> ∃v,fin=.done (.ret v)/\Q v s') E s:=by
 (obtain⟨hp,g,d,tk,os⟩:=s)
 obtain⟨ne,⟨old,he⟩,hc⟩:=N
 (show wpAny _ _ (field (.ref e) 2 >>=_) _ _ _);refine ac (a7 he rfl (x:=.ref i) rfl (ac (aae hc hl hx fun h1 c1 e1=> ?_)))
 have e1:bz i hp h1:=e1
 have he1:lc h1 e i n old:=(e1.2 e ne).trans he
 (show wpAny _ _ (field (.ref e) 3 >>=_) _ _ _);refine ac (a7 he1 rfl (x:=rawInt n) rfl ?_)
 (show wpAny _ _ (field (.ref e) 4 >>=_) _ _ _);refine ac (a7 he1 rfl (x:=.none) rfl ?_)
 (show wpAny _ _ (mkInt n >>=_) _ _ _);refine ac (wpAny_mkInt ?_)
 (show wpAny _ _ (setField (.ref e) 3 (rawInt (n+1))>>=_) _ _ _);refine ac (bV he1 (by simp) fun h2 he2 e2=> ?_)
 have e2:bz e h1 h2:=e2
 have he2:lc h2 e i (n+1) old:=he2
 (show wpAny _ _ (setField (.ref e) 4 .none >>=_) _ _ _);refine ac (bV he2 (by simp) fun h3 he3 e3=> ?_)
 have e3:bz e h2 h3:=e3
 have he3:lc h3 e i (n+1) old:=he3
 (show wpAny _ _ (newTuple [.int n tk,x]>>=_) _ _ _);refine ac (wpAny_newTuple ?_)
 have he4:lc (h3.push {cls:=.type "tuple",data:=.seq #[.int n tk,x]}) e i (n+1) old:=ag _ he3
 have sz:h3.objs.size=hp.objs.size:=by rw [e3.1,e2.1,e1.1]
 have lt:e < hp.objs.size:=ao he
 have ht4:(h3.push {cls:=.type "tuple",data:=.seq #[.int n tk,x]}).get? hp.objs.size=some {cls:=.type "tuple",data:=.seq #[.int n tk,x]}:=by rw [←sz];exact ar _ rfl
 have k4: ∀c o,c≠e -> c≠i -> hp.get? c=some o -> (h3.push {cls:=.type "tuple",data:=.seq #[.int n tk,x]}).get? c=some o:=fun c o a1 a2 q=> ag _ (e3.extBut _ _ a1 (e2.extBut _ _ a1 (e1.extBut _ _ a2 q)))
 have c4:vx b (h3.push {cls:=.type "tuple",data:=.seq #[.int n tk,x]}) i l (k+1):=c1.to fun o q=> ag _ (e3.extBut _ _ ne.symm (e2.extBut _ _ ne.symm q))
 generalize (h3.push {cls:=.type "tuple",data:=.seq #[.int n tk,x]})=h4 at he4 ht4 k4 c4⊢
 (show wpAny _ _ (dI (.ref e)>>=_) _ _ ⟨h4,g,d,tk+1,os⟩);rw [sz]
 refine ac (ac (a7 he4 rfl (x:=.none) rfl (ah ?_)))
 simp only [if_true]
 refine ac (cF (ac (a7 he4 rfl (x:=old) rfl (ac (bV he4 (by simp) fun h5 he5 e5=> ?_)))))
 have e5:bz e h4 h5:=e5
 have he5:lc h5 e i (n+1) x:=he5
 (show wpAny _ _ (fU (.ref e) (.ref hp.objs.size)>>=_) _ _ ⟨h5,g,d,tk+1,os⟩);refine ac (ac (bV he5 (by simp) fun h6 he6 e6=> ?_))
 have e6:bz e h5 h6:=e6
 have he6:ma h6 e i (n+1) x hp.objs.size:=he6
 refine bV he6 (by simp) fun h7 he7 e7=> ?_
 have e7:bz e h6 h7:=e7
 have he7:ma h7 e i (n+1) x hp.objs.size:=he7
 have up: ∀c o,c≠e -> h4.get? c=some o -> h7.get? c=some o:=fun c o a1 q=> e7.extBut _ _ a1 (e6.extBut _ _ a1 (e5.extBut _ _ a1 q))
 exact ac (ir (ah ⟨_,rfl,hQ h7 _ he7 (c4.to fun o=> up _ o ne.symm) (up _ _ (dA lt) ht4) fun c o a1 a2 q=> up c o a1 (k4 c o a1 a2 q)⟩))
theorem avu{e i:Addr}{n:Int}{xs:Array af}{x:af}{Q:Option af -> ai -> Prop}(N:NAt b l e i n k s.heap)(hl:kn b s.heap l xs)(hx:xs[k]?=some x)(hQ: ∀h' t,ma h' e i (n+1) x s.heap.objs.size -> vx b h' i l (k+1) -> h'.get? s.heap.objs.size=some {cls:=.type "tuple",data:=.seq #[.int n s.toks,x]} ->
   (∀c o,c≠e -> c≠i -> s.heap.get? c=some o -> h'.get? c=some o) -> Q (some (.ref s.heap.objs.size)) {s with heap:=h',toks:=t}):wpAny (model P w) A (pyNext (.ref e)) Q E s:=
 have hT:s.TypeIs (.ref e) "enumerate":=let ⟨_,h⟩:=N.oe;⟨_,h,rfl⟩
 ac (cY (bn (name:=bG "__next__") hT eS (bo eS hT kJ (a32 N hl hx fun h' t a1 a2 a3 a4=> ah (hQ h' t a1 a2 a3 a4)) (jO _))))
theorem a0c{e i:Addr}{n:Int}{xs:Array af}{Q:Option af -> ai -> Prop}(hh:A.handled=none)(N:NAt b l e i n k s.heap)(hl:kn b s.heap l xs)(hx:xs[k]?=none)(hQ: ∀h',eL i s.heap h' -> Q none {s with heap:=h'}):wpAny (model P w) A (pyNext (.ref e)) Q E s:=by
 obtain⟨ne,⟨old,he⟩,hc⟩:=N
 (have hT:s.TypeIs (.ref e) "enumerate":=⟨_,he,rfl⟩)
 refine ac (cY (bn (name:=bG "__next__") hT eS (bo eS hT kJ ?_ (jO _))))
 (show wpAny _ _ (field (.ref e) 2 >>=_) _ _ _);refine ac (a7 he rfl (x:=.ref i) rfl ?_)
 exact ac (ady hh hc hl hx fun h' x e1 ⟨o,ho,hcl⟩=> ac (dY (T:="StopIteration") (b:=true) ⟨o,ho,hcl⟩ il (ah (hQ _ e1))))
end
noncomputable def Itn(K:aj)(b:Bool)(l:Addr)(n:Int):It:=
 ⟨fun i H=> ∃xs x,SqB K b H l xs/\xs[i]?=some x,
   fun i H v H'=> ∃T,v=.ref T/\ ∀xs,SqB K b H l xs -> ∃x,xs[i]?=some x/\New H T (.tup [.int (n+i),x]) H',
   fun i H=> ∃xs,SqB K b H l xs/\xs.length <=i⟩
theorem aue{x1:Nat}{n:Int}(l e i:Addr):Turn P w K (.Tuple es x1 pos) (Itn K b l n) [e,i] e (fun k h=> NAt b l e i (n+k) k h) where
 mem:=by simp
 obj:=fun k h ⟨_,⟨old,he⟩,q⟩ c hb=> by
  obtain⟨o1,e1,v1,d1⟩:=q.obj
  (simp only [aw,bK,or_false]at hb)
  rcases hb with rfl|rfl
  ·exact⟨_,he,fun v y=> by cases y⟩
  ·exact⟨_,e1,fun v y=> by rw [d1]at y;cases y⟩
 keep:=fun k h h' ⟨ne,⟨old,he⟩,q⟩ kp=> ⟨ne,⟨old,kp e (by simp) _ he⟩,q.to fun o z=> kp i (by simp) o z⟩
 item:=by
  intro X hP hw hK hc k pins s σ H E I hf st hg
  subst hP hw hK
  obtain⟨xs,x,q1,hx⟩:=hg
  obtain⟨its1,rv1,p1⟩:=I.seqB q1
  obtain⟨u1,hu1,ru1⟩:=rv1.get hx
  have lt: ∀c∈ [e,i],c < s.heap.objs.size:=fun c hb=> by
   obtain⟨_,⟨old,he⟩,q⟩:=st
   obtain⟨o1,e1,_⟩:=q.obj
   (simp only [aw,bK,or_false]at hb)
   rcases hb with rfl|rfl
   ·exact ao he
   ·exact ao e1
  refine avu st p1 (x:=u1) (by simpa using hu1) fun h' t a1 a2 a3 kp=> ?_
  refine⟨_,rfl,wpAny_letOwnedTupleGo_enum (s:={s with heap:=h',toks:=t}) a1 fun h2 he2 sb=> ?_⟩
  have I1:Inv X pins σ (upd H s.heap.objs.size (.tup [.int (n+k),x])) {s with heap:=s.heap.push {cls:=.type "tuple",data:=.seq #[.int (n+k) s.toks,u1]},toks:=t}:=
   I.laid (t':=t) (fun c u q=> ag _ q) (aq _) ⟨by show 2 <=sizeLine;decide,[.int (n+k) s.toks,u1],.cons ⟨_,rfl⟩ (.cons ru1 .nil),⟨_,ar _ rfl⟩⟩
  have nT: ∀c∈ [e,i],upd H s.heap.objs.size (.tup [.int (n+k),x]) c=none:=fun c hb=> by
   rw [kg (aN (lt c hb))];exact (hf c hb).1
  have I2:=I1.turnedL (h':=h2) (t':=t) (ch:=[e,i]) (fun c o hb q=> by
   have hbe:c≠e:=fun y=> hb (by simp [y])
   rw [sb.2 c hbe]
   by_cases hT:c=s.heap.objs.size
   ·subst hT
    rw [ar _ rfl]at q
    cases q
    exact a3
   ·rw [iU _ _ _ hT]at q
    exact kp c o hbe (fun y=> hb (by simp [y])) q) fun c hb=> ⟨nT c hb,(hf c hb).2⟩
  refine⟨.ref s.heap.objs.size,_,I2,rfl,⟨_,rfl,fun xs' q1'=> ?_⟩,⟨st.ne,⟨u1,?_⟩,a2.to fun o=> sb.extBut _ _ st.ne.symm⟩,nT⟩
  ·rw [I.seqB_inj q1' q1]
   exact⟨x,hx,I.fresh,rfl⟩
  ·have:n+((k+1:Nat):Int)=n+k+1:=by lia
   rw [this];exact he2
 done:=by
  intro X hP hw hK hc k pins s σ H E I hf st hg
  subst hP hw hK
  obtain⟨xs,q1,hx⟩:=hg
  obtain⟨its1,rv1,p1⟩:=I.seqB q1
  have l1':=rv1.length
  exact a0c (I.ok.hd hc) st p1 (by simp;lia) fun h' kp=> ⟨rfl,I.turnedL (t':=s.toks) (ch:=[e,i]) (fun c o hb q=> kp c o (fun y=> hb (by simp [y])) q) hf⟩
 self:=fun _ _ _ _ _ st h=> let ⟨_,he⟩:=st.oe;wpAny_pyIter_enum he h
section
variable{P:aQ}{w:aU}{A:bf}{E:af -> ai -> Prop}{s:ai}
def nH(h:Heap)(b:Bool)(l:Addr)(n:Int):Heap:=(h.push {cls:=.type (ado b),data:=.fields #[.ref l,.int 0 0]}).push {cls:=.type "enumerate",data:=.fields #[.none,.bool false,.ref h.objs.size,rawInt n,.none,.none]}
theorem atv(b:Bool)(l:Addr)(xs:Array af):
  Meets (cf.«enumerate.__new__» ⟨[.type "enumerate",.ref l],[]⟩) (fun _ R s=> kn b s.heap l xs/\R (.ok (.ret (.ref (s.heap.objs.size+1)))) {s with heap:=nH s.heap b l 0}):=
 .of_wp fun prog w A R s h=> by
  obtain⟨hp,g,d,tk,os⟩:=s;obtain⟨h1,h⟩:=h
  have hsub:=sub_enumerate
  have L1:kn b (mo ⟨hp,g,d,tk,os⟩) l xs:=h1
  wp_walk
  (refine wpAny_stack_any fun st=> ah ?_)
  split
  ·rename_i c _ _ _ _ _
   (cases (c==cG "enumerate"))
   ·wp_walk using ah2 L1
    refine⟨_,rfl,?_⟩
    simp only [aZ];exact h
   ·wp_walk using ah2 L1
    refine⟨_,rfl,?_⟩
    simp only [aZ];exact h
  ·wp_walk using ah2 L1
   refine⟨_,rfl,?_⟩
   simp only [aZ];exact h
theorem av0{n:Int}:NAt b l (h.objs.size+1) h.objs.size n 0 (nH h b l n):=by
 have g2:lc (nH h b l n) (h.objs.size+1) h.objs.size n .none:=by
  have:=ar (h.push {cls:=.type (ado b),data:=.fields #[.ref l,.int 0 0]}) (o:={cls:=.type "enumerate",data:=.fields #[.none,.bool false,.ref h.objs.size,rawInt n,.none,.none]}) rfl
  rw [aZ]at this;exact this
 exact⟨by unfold Addr at*;lia,⟨_,g2⟩,avq (ag _ (ar _ rfl))⟩
theorem avn{xs:Array af}(h1:kn b s.heap l xs)(h: ∀h',NAt b l (s.heap.objs.size+1) s.heap.objs.size 0 0 h' -> (∀c o,s.heap.get? c=some o -> h'.get? c=some o) -> Q (.ref (s.heap.objs.size+1)) {s with heap:=h'}):
  wpAny (model P w) A (call (.type "enumerate") [.ref l]) Q E s:=by
 refine callType_new F.called_enumerate (by decide) (F.typeCall_enumerate_1 _) (F.newCall_enumerate_1 _) (fun obj=> F.args_object_init_2 obj _) F.entry_enumerate_new (atv b l xs) ⟨h1,?_⟩
 have z:=av0 (b:=b) (l:=l) (n:=0) (h:=s.heap)
 refine⟨?_,h _ z fun c o x=> ag _ (ag _ x)⟩
 obtain⟨_,⟨o,q⟩,_⟩:=z
 exact⟨_,q,rfl⟩
end
theorem an9:a9 "enumerate"=some (.type "enumerate"):=by decide+kernel
def a8m(K:aj)(ta:TA):TI:=fun σ H R=> ta σ H fun vs H1=> ∃l xs b,vs=[.ref l]/\SqB K b H1 l xs/\R (Itn K b l 0) H1
theorem a2u{x1:Nat}{a:Expr}{ta:TA}{p:Pos}(hg:Gl X "enumerate")(hm:X.mg "enumerate"=none)(ha:PA X [a] ta)(hs:starEach [a] X.env=[(false,eval a X.env)]:=by rfl):
  PI X (.Tuple es x1 tp) (.Call (.Name "enumerate" p) [a] [] pos) (a8m X.K ta):=by
 intro pins s σ H R I h
 refine Call_ (abq I hg hm an9 (dB (thn (ha pos pins s σ H _ I h) fun us s1 ⟨vs,H1,I1,r1,q1⟩=> ?_) hs rfl))
 obtain⟨l,xs,b,e,q1,q⟩:=q1
 subst e
 obtain⟨u,rfl,r⟩:=vals1 r1
 cases r
 obtain⟨its1,rv1,p1⟩:=I1.seqB q1
 refine avn p1 fun h' Z k=> ?_
 obtain⟨old,he⟩:=Z.oe
 refine wpAny_pyIter_enum (s:={s1 with heap:=h'}) he ?_
 refine⟨s1.heap.objs.size+1,_,_,_,H1,rfl,I1.kept (t':=s1.toks) k,aue (n:=0) l _ _,Z,fun b hb=> ?_,q⟩
 have hb':s1.heap.objs.size <=b:=by
  (simp only [aw,bK,or_false]at hb)
  rcases hb with rfl|rfl <;> (unfold Addr at*;lia)
 exact I1.fpOk hb' (I1.hok.fresh hb')
end L2
namespace PF
open PySem PySem.Spec
open L2
variable[XW]
noncomputable def enD:Int -> List ae -> List D
 |_,[]=> []
 |n,x::r=>.tup [.int n,x]::enD (n+1) r
theorem ai9: ∀(xs:List ae) (n:Int) (i:Nat),(enD n xs)[i]?=xs[i]?.map fun x=> D.tup [.int (n+i),x]
 |[],n,i=> by simp [enD]
 |x::r,n,0=> by simp [enD]
 |x::r,n,i+1=> by
  have e:n+1+(i:Int)=n+((i+1:Nat):Int):=by lia
  rw [enD,ej,ej,ai9 r (n+1) i,e]
theorem aiy: ∀(xs:List ae) (n:Int),(enD n xs).length=xs.length
 |[],_=> rfl
 |x::r,n=> by rw [enD,aM,aM,aiy r]
def an4(n:Int)(ds:List D)(s:S):R Wk:=match ds with
 | [.ref a]=> match s[a]? with
  |some (.lst es)=> match kj es with
   |some xs=>.ok (enD n xs,some (a,es)) s
   |none=>.bad
  |_=>.bad
 |[a]=> match sqD a with
  |some (_,xs)=>.ok (enD n xs,none) s
  |_=>.bad
 |_=>.bad
def axa(n:Int)(f:FA):FI:=fun ρ s=> (f ρ s).bind (an4 n)
theorem a3p{n:Int}{ds:List D}{Q:It -> Hp -> Prop}(rl:Rel K as H s)(r:RDs K as H vs ds)(h:Dn K (aem K) as H (an4 n ds s) Q): ∃l xs b,vs=[.ref l]/\SqB K b H l xs/\Q (Itn K b l n) H:=by
 unfold an4 at h
 split at h
 ·rename_i n0
  obtain⟨v,rfl,rv⟩:=r.one
  split at h
  ·rename_i es e
   split at h
   ·rename_i xd px
    cases rv with
    | @ref pp _ l hr=>
     obtain⟨ha,xs,hx,rs⟩:=yg rl hr e
     refine⟨pp,xs,true,rfl,SqL.of hx,Dn.now (Q:=Q) h rl ?_⟩
     intro as2 H2 s2 st2 rl2 so i
     have so':s2[n0]?=some (O.lst es):=so
     obtain⟨q,hq⟩:=rl2.li _ _ so' (by intro z;cases z)
     have e2:=hq
     have em:=zc px
     subst em
     rcases st2.old _ l with z|z
     ·rw [z]at e2
      cases hr q e2
      obtain⟨ys,hy,rs2⟩:=rl2.ob _ _ _ hq so'
      have sq1:SqB K true H2 pp ys:=SqL.of hy
      refine⟨fun hl=> ⟨ys,sq1,by rw [rs2.length,ak];rw [aiy]at hl;exact hl⟩,fun d hd=> ?_⟩
      rw [ai9]at hd
      cases qq:xd[i]? with
      |none=> rw [qq]at hd;cases hd
      |some pr=>
       rw [qq]at hd
       cases hd
       obtain⟨x,hx,rx⟩:=rs2.get (d:=D.da pr) (by rw [aR,qq];rfl)
       refine⟨⟨ys,x,sq1,hx⟩,fun vv H3 hv=> ?_⟩
       obtain⟨T,rfl,hT⟩:=hv
       obtain⟨x',hx',nw⟩:=hT ys sq1
       rw [hx]at hx';cases hx'
       cases rx with
       |da rt=> exact⟨j4 nw,rl2.new nw,.da (.tup (fun z=> rl2.has z nw.no) nw.at (.cons (.int _) (.cons (rt.mono (j4 nw)) .nil)))⟩
     ·rw [z]at e2;cases e2
   ·exact h.elim
  ·exact h.elim
 ·split at h
  ·rename_i d _ b xd ea
   obtain⟨v,rfl,rv⟩:=r.one
   obtain⟨l,xs,rfl,k1,t1⟩:=ais rv ea
   refine⟨l,xs,_,rfl,k1 as H (Step.refl _ _).toStep0,Dn.now (Q:=Q) h rl ?_⟩
   intro as2 H2 s2 st2 rl2 _ i
   have sq1:=k1 as2 H2 st2
   have u1:=t1.mono0 st2
   refine⟨fun hl=> ⟨xs,sq1,by rw [u1.length];rw [aiy]at hl;exact hl⟩,fun d hd=> ?_⟩
   rw [ai9]at hd
   cases q:xd[i]? with
   |none=> rw [q]at hd;cases hd
   |some pr=>
    rw [q]at hd
    cases hd
    obtain⟨x,hx,rx⟩:=u1.get q
    refine⟨⟨xs,x,sq1,hx⟩,fun vv H3 hv=> ?_⟩
    obtain⟨T,rfl,hT⟩:=hv
    obtain⟨x',hx',nw⟩:=hT xs sq1
    rw [hx]at hx';cases hx'
    exact⟨j4 nw,rl2.new nw,.da (.tup (fun z=> rl2.has z nw.no) nw.at (.cons (.int _) (.cons (rx.mono (j4 nw)) .nil)))⟩
  ·exact h.elim
 ·exact h.elim
theorem a5c{x1:Nat}{a:Expr}{p:Pos}(hm:X.mg "enumerate"=none)(h:RA X [a] f)(hg:Gl X "enumerate":=by rfl)(hs:starEach [a] X.env=[(false,eval a X.env)]:=by rfl):
  RI X (.Tuple es x1 tp) (.Call (.Name "enumerate" p) [a] [] pos) (axa 0 f):=by
 obtain⟨t,pa,ra⟩:=h.ex
 refine⟨_,a2u hg hm pa hs,fun as σ H ρ s Q rl en h=> ?_⟩
 exact ra as σ H ρ s _ rl en (Dn.bind h fun ds s1 as1 H1 vs st1 rl1 r1 h1=> a3p rl1 r1 h1)
end PF
namespace PF
open PySem PySem.Spec
open PySem.SeqAt
variable[XW]
end PF
namespace PF
open PySem PySem.Spec
open L2
variable[XW]
end PF
namespace PF
open PySem L2
theorem bc5{k:Int}:axa k f ρ s=(f ρ s).bind (an4 k):=(rfl)
end PF
namespace PF
open PySem PySem.Spec
open L2
noncomputable def ae7:List D -> Option (List Int)
 |[]=> some []
 |.da (.int i)::r=> match ae7 r with
  |some xs=> if 0 <=i/\i <=1000000 then some (i::xs) else none
  |none=> none
 |_=> none
def aqh(ds:List D)(s:S):R D:=match ds with
 | [d]=> match toL s d with
  |some xs=> match ae7 xs with
   |some is=> if is.length <=100000 then .ok (.int is.sum) s else .bad
   |none=>.bad
  |none=>.bad
 |_=>.bad
theorem al6{K:aj}{as:As}{H:Hp}: ∀{xs:List V} {ds:List D} {is:List Int},RDs K as H xs ds -> ae7 ds=some is -> xs=is.map V.int/\ ∀i∈is,0 <=i/\i <=1000000
 |_,_,is,.nil,h=> by cases h;exact⟨rfl,fun i hi=> by cases hi⟩
 | x ::xs,d::ds,is,.cons r rs,h=> by
  unfold ae7 at h
  split at h
  ·cases‹_::_=_›
  ·rename_i i r' e
   cases e
   split at h
   ·rename_i ys q
    split at h
    ·rename_i hb
     cases h
     obtain⟨e,hh⟩:=al6 rs q
     cases r.int_inv
     refine⟨by rw [e];rfl,fun j hj=> ?_⟩
     rcases aw.mp hj with rfl|hj
     ·exact hb
     ·exact hh j hj
    ·cases h
   ·cases h
  ·cases h
section
variable[XW]{X:Cx}{pos:Pos}
theorem a6h(hc:X.calm=true):CB X (.builtin "sum") aqh:=zr fun pins sh σ H as s xs ds us Q I rl rs ru h=> by
 unfold aqh at h
 split at h
 ·obtain⟨v,rfl,rv⟩:=rs.one
  split at h
  ·rename_i ys e
   split at h
   ·rename_i is q
    split at h
    ·rename_i hz
     obtain⟨p,zs,rfl,hx,rz⟩:=aas rl rv e
     obtain⟨ez,hb⟩:=al6 rz q
     subst ez
     exact ars hc pins sh σ H _ us Q I ru ⟨p,is,rfl,SqL.of hx,hz,hb,Dn.now (Q:=Q) h rl (.da (.int _))⟩
    ·exact h.elim
   ·exact h.elim
  ·exact h.elim
 ·exact h.elim
noncomputable def aq2(i:Nat)(x:Int)(ρ:En)(d:D)(s:S):R Fl:=match d with
 |.int j=>.ok (.nx (ρ.set i (some (.int (x+j))))) s
 |_=>.bad
def agp(i:Nat)(fv:FE):FS:=fun ρ s=> match ρ[i]? with
 |some (some (.int x))=> (fv ρ s).bind (aq2 i x ρ)
 |_=>.bad
theorem a2o{i:Nat}{x:Str}{fv:FE}{pos':Pos}(hN:X.N.Nodup)(hi:X.N[i]?=some x)(hx:Loc X.env.scope x)(he:RE X e fv)(hf:X.fn x=true\/X.env.scope.names.lookup x=some .local:=by first|exact .inl rfl|exact .inr rfl|assumption):RS X (.AugAssign (.Name x pos') .Add e pos) (agp i fv):=by
 obtain⟨t,p,r⟩:=he.ex
 refine⟨_,a22 hN hi hx p a2y hf,fun as σ H ρ s D rl en h=> ?_⟩
 unfold agp at h
 split at h
 ·rename_i j q
  obtain⟨v,hv,rv⟩:=en.get i _ q
  cases rv.int_inv
  refine⟨.int j,hv,r as σ H ρ s _ rl en (Dn.bind h fun d s1 as1 H1 w st1 rl1 r1 h1=> ?_)⟩
  unfold aq2 at h1
  split at h1
  ·cases r1.int_inv
   exact⟨j,_,rfl,rfl,Dn.now (b:=FV.nx (σ.set i (some (.int _)))) h1 rl1 (.nx ((en.mono st1).set i (.da (.int _))))⟩
  ·exact h1.elim
 ·exact h.elim
end
theorem a3d{i:Nat}{x:Int}{fv:FE}(h:ρ[i]?=some (some (.int x))):agp i fv ρ s=(fv ρ s).bind (aq2 i x ρ):=by unfold agp;rw [h]
theorem bbc{i:Nat}{x:Int}:aq2 i x ρ (.int j) s=.ok (.nx (ρ.set i (some (.int (x+j))))) s:=(rfl)
end PF
namespace ST
open PySem PySem.SetTable
section
variable{α:Type}
noncomputable def liveL(m:Nat)(o:Array (Option Nat)):List (Nat×Nat):=(gP (m+1)).filterMap fun j=> (o.getD j none).map (j,·)
theorem live_ris(m:Nat)(o:Array (Option Nat)):Ris ((liveL m o).map (·.1)):=by
 unfold liveL Ris
 rw [List.pairwise_map,List.pairwise_filterMap]
 refine List.Pairwise.imp ?_ (List.pairwise_lt_range (n:=m+1))
 intro a b hab x hx y hy
 cases qa:o.getD a none with
 |none=> rw [qa]at hx;cases hx
 | some ka=>
  cases qb:o.getD b none with
  |none=> rw [qb]at hy;cases hy
  |some kb=>
   rw [qa]at hx;rw [qb]at hy
   simp only [jY,dN]at hx hy
   subst hx;subst hy
   exact hab
end
end ST
namespace L2
open PySem PySem.Spec PyProof.Rows
def adr(w:aU)(t:cD):Prop:=t.led= !(w.params.followText "set-order")/\(t.plain=false\/(ST.Ris t.place.toList/\t.dummies= #[]))
theorem adr.x(h:adr w t)(k:Nat):aic w k t:=⟨h.1,fun _=> h.2.elim .inl fun z=>.inr z.1⟩
theorem ahn{t:cD}(nd:t.dummies= #[]){ha:Nat -> Int}{h:Int}{j:Nat}{d:Option Nat}: ∀(fuel:Nat) (p:SetTable.Probe),p.dummy=none -> lg.go t ha h fuel p=some (.empty j d) -> d=none/\t.slot j=.empty
 |0,_,_,e=> by cases e
 | fuel+1,p,hp,e=> by
  unfold lg.go at e
  split at e
  ·rename_i hs
   cases e
   exact⟨hp,hs⟩
  ·rename_i hs
   unfold SetTable.slot at hs
   dsimp only at hs
   rw [nd,ST.has_nil]at hs
   split at hs
   ·cases hs
   ·cases hs
  ·split at e
   ·cases e
   ·refine ahn nd fuel (t.advance p) ?_ e
    exact (ST.adv_dummy t 1 p).trans hp
theorem az3{j:Nat}(h:ST.Ris t.place.toList)(hs:t.slot j=.empty):ST.Ris (SetTable.insertAt t.place (cz t.place j) j).toList:=by
 rw [SetTable.toList_insertAt]
 obtain⟨b1,b2,b3⟩:=ST.below_spec t.place j h
 have gd: ∀(k d:Nat) (hk:k < t.place.size),t.place.getD k d=t.place[k]:=fun k d hk=> by simp [gW,hk]
 have ne: ∀k,(hk:k < t.place.size) -> t.place[k]≠j:=fun k hk z=> by
  have:=ST.below_ix h (i:=k) (j:=j) (by rw [bI hk,z])
  unfold SetTable.slot at hs
  dsimp only at hs
  rw [this,bI hk,z,if_pos (by simp)]at hs
  cases hs
 have sub1:=lh (gg (cz t.place j) t.place.toList) h
 have sub2:=lh (List.drop_sublist (cz t.place j) t.place.toList) h
 have lo: ∀a∈t.place.toList.take (cz t.place j),a < j:=fun a ha=> by
  obtain⟨i,hi,rfl⟩:=h8 ha
  rw [a8,aL]at hi
  have:=b2 i (by lia)
  rw [gd i _ (by lia)]at this
  simpa using this
 have hi: ∀a∈t.place.toList.drop (cz t.place j),j < a:=fun a ha=> by
  obtain⟨i,hi,rfl⟩:=h8 ha
  rw [d6,aL]at hi
  have h3:=b3 (cz t.place j+i) (by lia) (by lia)
  rw [gd _ _ (by lia)]at h3
  have h4:=ne (cz t.place j+i) (by lia)
  simp only [List.getElem_drop,lr]
  lia
 refine ly.mpr ⟨sub1,dE.mpr ⟨hi,sub2⟩,fun a ha b hb=> ?_⟩
 (rcases aw.mp hb with rfl|hb)
 ·exact lo a ha
 ·exact l4 (lo a ha) (hi b hb)
theorem a3u(T:adr w t)(es:Array (Int×af))(h:Int)(x:af):adr w (layNew t es h x).2.1:=by
 refine⟨(aol t es h x).trans T.1,?_⟩
 unfold layNew
 cases e:t.freeSlot h with
 |none=> exact .inl rfl
 | some q=>
  obtain⟨sl,wd⟩:=q
  dsimp only
  unfold SetTable.orStandIn
  split
  ·rcases T.2 with z|⟨z1,z2⟩
   ·exact .inl z
   ·refine .inr ?_
    unfold SetTable.freeSlot at e
    split at e
    ·rename_i j d hp
     unfold lg at hp
     obtain⟨rfl,hs⟩:=ahn z2 _ _ rfl hp
     simp only [jD,dN,lF]at e
     obtain⟨rfl,_⟩:=e
     refine⟨az3 z1 hs,?_⟩
     show (if SetTable.has t.dummies j then _ else t.dummies)= #[]
     rw [z2,ST.has_nil];rfl
    ·cases e
  ·exact .inl rfl
theorem av6(T:adr w t)(es:Array (Int×af))(wd:Nat):adr w (relayAll t es wd).2.1:=by
 obtain⟨k1,k2⟩:=akg t es wd
 refine⟨k1.trans T.1,?_⟩
 rcases T.2 with z|_
 ·exact .inl (k2 z)
 unfold relayAll
 cases c:t.relaid (es.map (·.1)) wd with
 |none=> exact .inl rfl
 | some q=>
  obtain⟨t',od⟩:=q
  dsimp only
  split
  ·refine .inr ?_
   unfold SetTable.relaid SetTable.laid at c
   cases c2:SetTable.layClean (iA wd - 1) (es.map (·.1)) with
   |none=> rw [c2]at c;cases c
   |some ow=>
    rw [c2]at c
    simp only [lM,c0,Option.pure_def,dN,lF]at c
    obtain⟨rfl,_⟩:=c
    exact⟨by simpa [ST.liveL] using ST.live_ris (iA wd - 1) ow,rfl⟩
  ·exact .inl rfl
def xl(P:aQ)(w:aU)(h:Heap)(a:Addr)(S:Int -> Bool)(n:Nat):Prop:=
 ∃o es ep t,h.get? a=some o/\o.ExactSet/\o.data=.set es ep t/\(ie (bM P w) es.toList/\(∀k,S k=true ↔ ∃e∈es.toList,(bM P w).is k e.2=true)
  /\es.size < bu/\t.fits es.size=true/\es.size=n)/\adr w t
theorem xl.congr{a:Addr}{S S':Int -> Bool}{n':Nat}(z:xl P w h a S n)(hS: ∀k,S' k=S k)(hn:n'=n):xl P w h a S' n':=by
 subst hn
 obtain⟨o,es,ep,t,e,ex,d,⟨q1,q2,q3⟩,q4⟩:=z
 exact⟨o,es,ep,t,e,ex,d,⟨q1,fun k=> by rw [hS k];exact q2 k,q3⟩,q4⟩
section
variable{prog:aQ}{w:aU}{A:bf}{E:af -> ai -> Prop}{s:ai}
theorem arv{a:Addr}{o:Obj}{es:Array (Int×af)}{ep:Nat}(ho:h.get? a=some o)(hex:o.ExactSet)(hd:o.data=.set es ep t){es':Array (Int×af)}{t':cD}{S':Int -> Bool}(q:ie (bM prog w) es'.toList/\(∀k,S' k=true ↔ ∃e∈es'.toList,(bM prog w).is k e.2=true)/\es'.size < bu/\t'.fits es'.size=true)(tx:adr w t'):
  (h.update a (gX es' t')).get? a=some {o with data:=.set es' (ep+1) t'}/\xl prog w (h.update a (gX es' t')) a S' es'.size:=by
 obtain⟨g,_⟩:=SetOf_store (knd:=bM prog w) ho hex hd q.1 q.2.1 q.2.2.1 q.2.2.2
 exact⟨g,_,es',ep+1,t',g,hex,rfl,⟨q.1,q.2.1,q.2.2.1,q.2.2.2,rfl⟩,tx⟩
theorem ay4{g:Bool -> Sem Unit}(hg: ∀(b:Bool) (s1:ai) (Q':Unit -> ai -> Prop),Q' () s1 -> wpAny (model prog w) A (g b) Q' E s1){a:Addr}{o:Obj}{es:Array (Int×af)}{ep:Nat}(ho:s.heap.get? a=some o)(hex:o.ExactSet)(hd:o.data=.set es ep t){es1:Array (Int×af)}{t2:cD}{S':Int -> Bool}(q:ie (bM prog w) es1.toList/\(∀k,S' k=true ↔ ∃e∈es1.toList,(bM prog w).is k e.2=true)/\es1.size < bu/\t2.fits es1.size=true)(tx:adr w t2){wasDummy:Bool}{R:Option Bool -> ai -> Prop}(h: ∀h',bz a s.heap h' -> xl prog w h' a S' es1.size -> R (some true) {s with heap:=h'}):
  wpAny (model prog w) A (do
   storeSet a es1 t2
   if (!wasDummy&&t2.tooFull)=true then do g (relayAll t2 es1 (bX es1.size)).2.2;storeSet a (relayAll t2 es1 (bX es1.size)).1 (relayAll t2 es1 (bX es1.size)).2.1;pure (some true) else pure (some true)) R E s:=by
 obtain⟨q1,q2,q3,q4⟩:=q
 refine ac (gh ho hd ?_ (dO q3))
 obtain⟨g1,x1⟩:=arv (w:=w) (prog:=prog) ho hex hd ⟨q1,q2,q3,q4⟩ tx
 have b1:=bQ s.heap a (gX es1 t2)
 split
 ·have p:=relayAll_perm t2 es1 (bX es1.size)
  have f:=relayAll_fits t2 es1 (bX es1.size)
  have tt:=av6 tx es1 (bX es1.size)
  revert p f tt
  generalize relayAll t2 es1 (bX es1.size)=Rl
  obtain⟨es2,t3,gv⟩:=Rl
  intro p f tt
  dsimp only at p f tt⊢
  have z:es2.size=es1.size:=by
   have:=p.length_eq
   rwa [aL,aL]at this
  have b2:es2.size < bu:=z▸q3
  refine ac (hg _ _ _ (ac (gh g1 rfl ?_ (dO b2))))
  obtain⟨_,x2⟩:=arv (w:=w) (prog:=prog) (S':=S') g1 hex rfl ⟨q1.perm p,fun k=> (q2 k).trans ⟨fun⟨e,m,y⟩=> ⟨e,p.mem_iff.mpr m,y⟩,fun⟨e,m,y⟩=> ⟨e,p.mem_iff.mp m,y⟩⟩,b2,f⟩ tt
  exact ah (h _ (b1.trans (bQ _ a _)) (z▸x2))
 ·exact ah (h _ b1 x1)
theorem a7x{a:Addr}{S:Int -> Bool}{k:Int}{tk:Tok}{Q:Bool -> ai -> Prop}(hS:xl prog w s.heap a S n)(hroom:n+1 < bu)(h: ∀h',bz a s.heap h' -> xl prog w h' a (fun y=> S y||decide (y=k)) (if S k then n else n+1) -> Q (!S k) {s with heap:=h'}):
  wpAny (model prog w) A (jF a (.int k tk) ((bM prog w).hash k)) Q E s:=by
 have hkey:(bM prog w).is k (.int k tk)=true:=by show fD k (.int k tk)=true;simp [fD]
 obtain⟨o,es,ep,t,ho,hex,hd,⟨hel,hmem,hb,hf,hn⟩,tx⟩:=hS
 have hgw: ∀(b:Bool) {s1:ai} {Q':Unit -> ai -> Prop},Q' () s1 -> wpAny (model prog w) A (match b with|true=> rule "set.scan.the-table-gave-way"|false=> pure ()) Q' E s1:=by
  intro b s1 Q' z
  cases b
  ·exact ah z
  ·exact cF z
 unfold jF setAddHashedIn;refine bj (ac (di ho hd hf ?_))
 dsimp only
 rw [byScan_of (knd:=bM prog w) rfl hb hel,if_pos rfl]
 unfold setAddByScan
 refine ac (ac (cF (ac (wpAny_setScan_of hkey ho hd hf hel ?_))))
 cases hr:List.findIdx? (fun e=> (bM prog w).is k e.2) es.toList with
 | some j=>
  obtain⟨hj,hpj,_⟩:=gm.mp hr;have sk:S k=true:=(hmem k).mpr ⟨es.toList[j],d8 hj,hpj⟩
  dsimp only
  refine ah (ah ?_);have z:=h s.heap (iQ a s.heap) ⟨o,es,ep,t,ho,hex,hd,⟨hel,fun y=> by
   rw [jV,decide_eq_true_eq,←hmem y]
   exact⟨fun c=> c.elim id (fun e=> e▸sk),.inl⟩,hb,hf,by rw [sk];exact hn⟩,tx⟩
  rw [sk]at z
  exact z
 | none=>
  dsimp only
  have sk:S k=false:=by
   cases c:S k with
   |false=> rfl
   |true=>
    obtain⟨e,m,y⟩:=(hmem k).mp c
    exact Bool.noConfusion (y.symm.trans (iZ.mp hr e m))
  have p:=layNew_perm t es ((bM prog w).hash k) (.int k tk)
  have f:=layNew_fits t es ((bM prog w).hash k) (.int k tk)
  have ld:=a3u tx es ((bM prog w).hash k) (.int k tk)
  revert p f ld
  generalize layNew t es ((bM prog w).hash k) (.int k tk)=L
  obtain⟨es1,t1,wd,gv⟩:=L
  intro p f ld
  dsimp only at p f ld⊢
  rw [iR]at p
  have z1:es1.size=n+1:=by
   have:=p.length_eq
   rw [aL,aX,aL,hn]at this
   exact this
  have b1:es1.size < bu:=z1▸hroom
  have q:ie (bM prog w) es1.toList/\(∀y,(fun y=> S y||decide (y=k)) y=true ↔ ∃e∈es1.toList,(bM prog w).is y e.2=true)/\es1.size < bu:=
   ⟨(hel.push hkey rfl).perm p,fun y=> mem_push_iff hkey hmem p y,b1⟩
  have fin: ∀h',bz a s.heap h' -> xl prog w h' a (fun y=> S y||decide (y=k)) es1.size -> Q true {s with heap:=h'}:=fun h' u v=> by
   have:=h h' u
   rw [sk,if_neg am,←z1]at this
   exact this v
  refine ac (hgw _ ?_)
  split
  ·refine ac ?_
   rw [kO 8 rfl]
   refine ah (ay4 (t2:=t1) (fun b s1 Q' z=> ?_) ho hex hd ⟨q.1,q.2.1,q.2.2,f⟩ ld fun h' u v=> ?_)
   ·cases b
    ·exact ah z
    ·exact cF z
   ·dsimp only;exact ah (fin h' u v)
  ·rename_i hpl
   refine ac (ah ?_);simp only [↓reduceIte]
   refine ay4 (fun b s1 Q' z=> ?_) ho hex hd ⟨q.1,q.2.1,q.2.2,f⟩ ld fun h' u v=> ?_
   ·cases b
    ·exact ah z
    ·exact cF z
   ·dsimp only;exact ah (fin h' u v)
end
section
variable{prog:aQ}{w:aU}{A:bf}{R:gR -> ai -> Prop}{I:Addr}{wr fp:List Addr}{G:Array ib -> Array ib -> Prop}{n:Nat}{P:Nat -> af -> Prop}{St:Nat -> ai -> Prop}
theorem at0(W:WalksS prog w A.in1 I fp wr G n P St)(p:Addr)(hp:p∉fp)(xs:List Int)(hn:xs.length=n)(hval: ∀i v,P i v -> ∃x t,xs[i]?=some x/\v=.int x t)(hb:n+1 < bu):
  ∀(j i:Nat) (s:ai),i+j=n -> St i s -> xl prog w s.heap p (fun y=> decide (y∈jn (xs.take i))) (jn (xs.take i)).length ->
   (∀s',mq (p::wr) G s s' -> xl prog w s'.heap p (fun y=> decide (y∈jn xs)) (jn xs).length -> R (.ok (.ret .none)) s') ->
   codeAny (model prog w) A (.builtin "set.update.loop" ⟨[.ref p,.ref I],[]⟩) R s:=by
 have hpw:p∉wr:=fun z=> hp (W.sub _ z)
 have up: ∀b∈wr,b∈p::wr:=fun b z=> aB _ z
 have stays: ∀{s s':ai} {S:Int -> Bool} {m:Nat},mq wr G s s' -> xl prog w s.heap p S m -> xl prog w s'.heap p S m:=fun mv z=> by
  obtain⟨o,es,ep,t,ho,q⟩:=z
  exact⟨o,es,ep,t,mv.heap p _ hpw ho,q⟩
 intro j
 induction j with
 |zero=>
  intro i s hij hst hS hR
  have ei:i=n:=by lia
  subst ei
  refine dg cN ?_
  rw [cS bN _]
  refine (show wpAny _ A.in1 (pyNext (.ref I)>>=_) _ _ s from ac (W.done s _ _ hst fun s' mv=> ?_))
  refine ah (hR s' (mv.mono up) ?_)
  have:=stays mv hS
  rw [dv (eQ hn)]at this
  exact this
 | succ j ih=>
  intro i s hij hst hS hR
  refine dg cN ?_
  rw [cS bN _]
  refine (show wpAny _ A.in1 (pyNext (.ref I)>>=_) _ _ s from ac (W.item i s _ _ (by lia) hst fun v s' hP hst' mv=> ?_))
  obtain⟨x,t,hx,rfl⟩:=hval i v hP
  show wpAny _ A.in1 (holding [dq x t] (setAdd p (.int x t))>>=_) _ _ s'
  refine ac (bj ?_);unfold setAdd
  refine bj (ac ((intKind prog w).pyHash (k:=x) (by show fD x (.int x t)=true;simp [fD]) ?_))
  have few:(jn (xs.take i)).length <=i:=ax (zq _).2.2 (by rw [a8];lia)
  refine a7x (s:={s' with toks:=s'.toks+1}) (show xl prog w s'.heap p _ _ from stays mv hS) (by lia) fun h' sb hS2=> ?_
  have et:xs.take (i+1)=xs.take i++ [x]:=by rw [iS,hx];rfl
  have hS3:xl prog w h' p (fun y=> decide (y∈jn (xs.take (i+1)))) (jn (xs.take (i+1))).length:=by
   refine xl.congr hS2 (fun y=> ?_) ?_
   ·rw [et,aci]
    by_cases h1:y∈jn (xs.take i)
    ·simp [h1,y8]
    ·by_cases h2:y=x
     ·simp [h1,h2,y8]
     ·simp [h1,h2,y8]
   ·rw [et,aci]
    by_cases h1:x∈jn (xs.take i)
    ·rw [show kt (jn (xs.take i)) x=jn (xs.take i) from by unfold kt;rw [if_pos h1]];simp [h1]
    ·rw [show kt (jn (xs.take i)) x=jn (xs.take i)++ [x] from by unfold kt;rw [if_neg h1]];simp [h1]
  refine ah ⟨fy bN _,ih (i+1) _ (by lia) (W.frame _ s' _ _ hst' (dW _) fun b hbm o e=> ?_) hS3 fun s'' mv2 hS''=> ?_⟩
  ·rw [sb.2 b (fun z:b=p=> hp (by rw [←z];exact hbm))];exact e
  ·refine hR s'' (Moved.trans W.gtrans ((mv.mono up).then_heap (dW _) fun b o hbm e=> ?_) mv2) hS''
   rw [sb.2 b (fun z:b=p=> hbm (by rw [z];exact aC))];exact e
end
section
variable{prog:aQ}{w:aU}{A:bf}{s:ai}{E:af -> ai -> Prop}
theorem aja{a:Addr}{T:String}{oc:Obj}(hh:A.handled=none)(hT:T="list"\/T="tuple")(ho:s.heap.get? a=some oc)(hc:oc.cls=.type T){its:Array af}(hd:oc.data=.seq its k)(xs:List Int)(hx:jo (xs.map V.int) its.toList)(hb:its.size+1 < bu)(h: ∀(h':Heap) (tk:Nat),xl prog w h' s.heap.objs.size (fun y=> decide (y∈jn xs)) (jn xs).length -> (∀b o,b < s.heap.objs.size -> s.heap.get? b=some o -> h'.get? b=some o) -> Q (.ref s.heap.objs.size) {s with heap:=h',toks:=tk}):
  wpAny (model prog w) A (call (.type "set") [.ref a]) Q E s:=by
 have hlen:xs.length=its.size:=by
  have:=hx.length
  rw [ak]at this
  simpa using this
 refine ajd hh hT ho hc hd (fun A' I fp wr P St s0 R W hP nf st g0 k=> ?_) h
 obtain⟨led,hled,g0⟩:=g0
 refine at0 W s.heap.objs.size nf xs hlen (fun i v hv=> ?_) hb its.size 0 s0 (by lia) st ⟨_,#[],0,_,g0,⟨rfl,rfl,rfl⟩,rfl,⟨fun e he=> by simp at he,fun k=> by simp [jn],by decide,rfl,rfl⟩,hled,.inr ⟨iP,rfl⟩⟩ k
 have hv:=hP i v hv
 have hi:i < its.size:=(bD.mp hv).1
 have hxi:(xs.map V.int)[i]?=some (.int xs[i]):=by rw [aR,ay (by lia)];rfl
 obtain⟨u,hu,ru⟩:=hx.get hxi
 rw [cq,hv]at hu
 cases hu
 obtain⟨t,e⟩:=(show∃t,v=dq xs[i] t from ru)
 exact⟨xs[i],t,ay (by lia),e⟩
end
def ah4(P:aQ)(w:aU)(p:Addr)(xs:List Int):HO:=.ext fun h=> xl P w h p (fun y=> decide (y∈jn xs)) (jn xs).length
theorem aum{p:Addr}{xs:List Int}(hS:xl P w h p (fun y=> decide (y∈jn xs)) (jn xs).length):j5 P w H h p (ah4 P w p xs):=by
 refine⟨hS,?_,fun h1 h2 z k=> ?_⟩
 ·obtain⟨o,_,_,_,e,_⟩:=hS
  exact⟨o,e⟩
 ·obtain⟨o,es,ep,t,e,q⟩:=z
  exact⟨o,es,ep,t,k o e,q⟩
theorem atw(hc:X.calm=true):va X (.type "set") (fun vs H Q=> ∃a xs,vs=[.ref a]/\(SqL X.K H a (xs.map V.int)\/SqT X.K H a (xs.map V.int))/\xs.length < 4000/\ ∀p H',New H p (ah4 X.prog X.w p xs) H' -> Q (.ref p) H'):=by
 intro pins s σ H vs us Q I r h
 obtain⟨a,xs,rfl,hS,hl,q⟩:=h
 obtain⟨u,rfl,ru⟩:=vals1 r
 cases ru
 have hh:=I.ok.hd hc
 have fin: ∀(h':Heap) (tk:Nat),xl X.prog X.w h' s.heap.objs.size (fun y=> decide (y∈jn xs)) (jn xs).length -> (∀b o,b < s.heap.objs.size -> s.heap.get? b=some o -> h'.get? b=some o) ->
   EP X pins σ Q (.ref s.heap.objs.size) {s with heap:=h',toks:=tk}:=fun h' tk z k=>
  ⟨.ref s.heap.objs.size,upd H s.heap.objs.size (ah4 X.prog X.w s.heap.objs.size xs),I.laid (fun b u e=> k b u (ao e) e) (aq _) (aum z),rfl,q _ _ ⟨I.fresh,rfl⟩⟩
 rcases hS with hS|hS
 ·obtain⟨its,rv,⟨o,n,e,c,dd,d⟩,z⟩:=I.list hS
  have hsz:its.toArray.size+1 < bu:=by
   have:=rv.length
   rw [ak]at this
   rw [az]
   unfold bu
   lia
  exact aja hh (.inl rfl) e c d xs (by simpa using rv) hsz fin
 ·obtain⟨its,rv,⟨o,e,c,n,d⟩,z⟩:=I.tuple hS
  have hsz:its.toArray.size+1 < bu:=by
   have:=rv.length
   rw [ak]at this
   rw [az]
   unfold bu
   lia
  exact aja hh (.inr rfl) e c d xs (by simpa using rv) hsz fin
section
variable{prog:aQ}{w:aU}{A:bf}{E:af -> ai -> Prop}{s:ai}
theorem auz{r:Addr}{ks:List Int}(h64:ks.length < 64)(coll: ∀(R:List af -> ai -> Prop),(∀h' d' tk (vs:List af) (xs:List Int),ic vs xs -> xs.Perm ks -> (∀b u,s.heap.get? b=some u -> h'.get? b=some u) -> R vs {s with heap:=h',drawn:=d',toks:=tk}) -> wpAny (model prog w) A.in1 (collect (.ref r)) R E s)(h: ∀(h1 h':Heap) (d':Drawn) (tk e:Nat) (out:Array af) (xs:List Int),ic out.toList xs -> xs.Perm ks -> xs.Pairwise (· <= ·) -> (∀b u,s.heap.get? b=some u -> h1.get? b=some u) -> h'.get? h1.objs.size=some (seqObj "list" out e) -> (∀b u,h1.get? b=some u -> h'.get? b=some u) ->
   Q (.ref h1.objs.size) {s with heap:=h',drawn:=d',toks:=tk}):wpAny (model prog w) A (call (.builtin "sorted") [.ref r]) Q E s:=by
 refine Calls.call_function_entry kind_sorted plain_sorted entry_sorted (args_sorted1 _) ?_;unfold cf.«sorted»
 refine ac (m:=checkCount "sorted" 1 1 _) (ah (ac (coll _ fun h' d' tk vs xs st pm k=> ?_)))
 have lv:vs.length < 64:=by
  have:vs.length=xs.length:=by rw [←st.nums,ak]
  rw [this,pm.length_eq];exact h64
 refine ac (wpAny_newList ?_ (by rw [sizeLine_eq];lia));have g:(h'.push {cls:=.type "list",data:=.seq vs.toArray}).get? h'.objs.size=some (seqObj "list" vs.toArray 0):=ar _ rfl
 refine ac (bj (bo slot_list_sort ⟨_,g,rfl⟩ entry_list_sort (list_sort_tree g st lv fun out ys y1 y2 y3=> ⟨_,rfl,?_⟩) (args_list_sort _)))
 obtain⟨e,ge⟩:=sortedHeap_at (out:=out) g
 refine ah ⟨_,rfl,h h' _ d' tk e _ ys y1 (y2.trans pm) y3 k ge fun b u eb=> ?_⟩
 have lb:=ao eb
 rw [sortedHeap_old (aN lb) (by rw [aZ];exact cU lb)]
 exact ag _ eb
end
theorem ama: ∀{vs:List af} {xs:List Int},ic vs xs -> jo (xs.map V.int) vs
 |_,_,.nil=>.nil
 |_,_,.cons n t h=>.cons ⟨t,rfl⟩ (ama h)
end L2
namespace PF
open PySem PySem.Spec
open L2
noncomputable def zn(ks:List Int):List Int:=ks.mergeSort fun a b=> decide (a <=b)
theorem ak4(ks:List Int):(zn ks).Perm ks:=List.mergeSort_perm _ _
theorem ak0(ks:List Int):(zn ks).Pairwise (· <= ·):=
 (List.pairwise_mergeSort (le:=fun a b:Int=> decide (a <=b)) (fun a b c h k=> decide_eq_true (Int.le_trans (of_decide_eq_true h) (of_decide_eq_true k))) (fun a b=> by
  rcases Int.le_total a b with h|h
  ·rw [decide_eq_true h];rfl
  ·rw [decide_eq_true h,fS]) ks).imp fun h=> of_decide_eq_true h
theorem ak7: ∀{l m:List Int},l.Perm m -> l.Pairwise (· <= ·) -> m.Pairwise (· <= ·) -> l=m
 |[],m,p,_,_=> (List.nil_perm.mp p).symm
 |a::l,[],p,_,_=> by have:=p.length_eq;simp at this
 | a::l,b::m,p,h,k=> by
  have ha:=dE.mp h
  have hb:=dE.mp k
  have e:a=b:=by
   have h1:a∈b::m:=p.mem_iff.mp aC
   have h2:b∈a::l:=p.mem_iff.mpr aC
   rcases aw.mp h1 with z|z
   ·exact z
   ·rcases aw.mp h2 with y|y
    ·exact y.symm
    ·exact Int.le_antisymm (ha.1 b y) (hb.1 a z)
  subst e
  rw [ak7 (gK.cons_inv p) ha.2 hb.2]
theorem aoz{ks js:List Int}(p:js.Perm ks)(h:js.Pairwise (· <= ·)):js=zn ks:=ak7 (p.trans (ak4 ks).symm) h (ak0 ks)
open PyProof.Rows in
theorem alp(hc:X.calm=true)(hu:X.A.units+70 < cLine):va X (.builtin "sorted") (fun vs H Q=> ∃a xs,vs=[.ref a]/\H a=some (ah4 X.prog X.w a xs)/\(jn xs).length < 64/\ ∀p H',New H p (.lst ((zn (jn xs)).map V.int)) H' -> Q (.ref p) H'):=by
 intro pins s σ H vs us Q I r h
 obtain⟨a,xs,rfl,e,hl,q⟩:=h
 obtain⟨u,rfl,ru⟩:=vals1 r
 cases ru
 have hh:=I.ok.hd hc
 obtain⟨hx,_,_⟩:=(show j5 X.prog X.w H s.heap a (ah4 X.prog X.w a xs) from I.hok a _ e)
 obtain⟨o,es,ep,t,eo,ex,d,⟨hel,hmem,hb,hf,hn⟩,tx⟩:=hx
 refine auz hl (fun R k=> aww (by exact hh) eo ex d hf hb (tx.x _) fun h' d' tk ord p kp=> ?_) ?_
 ·have al: ∀v∈ord,∃i t,v=dq i t:=fun v hv=> by
   obtain⟨en,m,rfl⟩:=bg.mp (p.mem_iff.mp hv)
   obtain⟨⟨y,hy,_⟩,_⟩:=hel en m
   obtain⟨t,z⟩:=iM (show fD y en.2=true from hy)
   exact⟨y,t,z⟩
  refine k h' d' tk ord (ord.map numOf) (intsAre_map ord al) ?_ kp
  refine (aox (zq xs).1 (fun y hy=> ?_) ?_).symm
  ·obtain⟨en,m,hy'⟩:=(hmem y).mp (by simpa using hy)
   obtain⟨t,z⟩:=iM (show fD y en.2=true from hy')
   exact bg.mpr ⟨en.2,p.mem_iff.mpr (bg.mpr ⟨en,m,rfl⟩),by rw [z];rfl⟩
  ·rw [ak,p.length_eq,ak,aL,hn]
   exact aq _
 ·intro h1 h' d' tk e out ys st pm so k1 g k2
  have I1:Inv X pins σ H {s with heap:=h1,toks:=s.toks}:=I.un (Un.kept k1) (I.hok.kept k1)
  have lx:ys.length < 64:=by rw [pm.length_eq];exact hl
  have ey:=aoz pm so
  subst ey
  have I2:Inv X pins σ (upd H h1.objs.size (.lst ((zn (jn xs)).map V.int))) {s with heap:=h',toks:=tk}:=I1.laid (t':=tk) k2 (aq _) ⟨by rw [ak,sizeLine_eq];lia,out.toList,e,ama st,by simpa [seqObj] using g⟩
  exact⟨.ref h1.objs.size,_,I2.drew d',rfl,q _ _ ⟨I1.hok.fresh (aq _),rfl⟩⟩
noncomputable def acb:List D -> Option (List Int)
 |[]=> some []
 |.da (.int i)::r=> match acb r with
  |some xs=> some (i::xs)
  |none=> none
 |_=> none
theorem al2{K:aj}{as:As}{H:Hp}: ∀{xs:List V} {ds:List D} {is:List Int},RDs K as H xs ds -> acb ds=some is -> xs=is.map V.int
 |_,_,is,.nil,h=> by cases h;rfl
 | x::xs,d::ds,is,.cons r rs,h=> by
  unfold acb at h
  split at h
  ·cases‹_::_=_›
  ·rename_i i r' e
   cases e
   split at h
   ·rename_i ys q
    cases h
    rw [al2 rs q]
    cases r.int_inv
    rfl
   ·cases h
  ·cases h
theorem ak1{K:aj}{as:As}{H:Hp}: ∀is:List Int,RDs K as H (is.map V.int) (is.map D.int)
 |[]=>.nil
 |i::r=>.cons (.da (.int i)) (ak1 r)
def ac9(m:Bool)(ds:List D)(s:S):R D:=match ds with
 |[d]=> match (adp s d).bind acb with
  |some is=> if is.length < 4000/\(jn is).length < 64 then qw m ((zn (jn is)).map D.int) s else .bad
  |none=>.bad
 |_=>.bad
section
variable[XW]{X:Cx}
theorem an8(m:Bool){p1 p2 pos2:Pos}(hc:X.calm=true)(hu:X.A.units+70 < cLine)(hm1:X.mg "sorted"=none)(hm2:X.mg "set"=none)(ha:RA X [e] f)(hg1:Gl X "sorted":=by rfl)(hg2:Gl X "set":=by rfl)(hs:starEach [e] X.env=(false,eval e X.env)::starEach [] X.env:=by rfl)(hs2:starEach [.Call (.Name "set" p2) [e] [] pos2] X.env=(false,eval (.Call (.Name "set" p2) [e] [] pos2) X.env)::starEach [] X.env:=by rfl)(hpl:(backTo pos (starEach [] X.env)).any (·.1)=false:=by rfl)(hpl2:(backTo pos2 (starEach [] X.env)).any (·.1)=false:=by rfl):
  RE X (.Call (.Name "sorted" p1) [.Call (.Name "set" p2) [e] [] pos2] [] pos) (fCB (ac9 m) f):=by
 obtain⟨t,pa,ra⟩:=ha.ex
 have pset:=af3 (X:=X) (atw hc) hg2 hm2 ay1 pa (pos:=pos2) (p:=p2) (by decide) (by decide) hs hpl2
 have psort:=ae5 (X:=X) (alp hc hu) hg1 hm1 ax8 (aa5 pset acw hs2) (pos:=pos) (p:=p1) (by decide) (by decide) hs2 hpl
 refine⟨_,psort,fun as σ H ρ s Q rl en h=> ?_⟩
 refine ra as σ H ρ s _ rl en (Dn.bind h fun ds s1 as1 H1 vs st1 rl1 r1 h1=> ?_)
 unfold ac9 at h1
 split at h1
 ·obtain⟨v,rfl,rv⟩:=r1.one
  split at h1
  ·rename_i is e
   split at h1
   ·rename_i hz
    cases e2:adp s1 _ with
    |none=> rw [e2]at e;cases e
    |some xs=>
     rw [e2]at e
     obtain⟨p,zs,rfl,sq,rz⟩:=acs rl1 rv e2
     have ez:=al2 rz (show acb xs=some is from e)
     subst ez
     refine⟨p,is,rfl,sq,hz.1,fun q H2 n2=> ⟨q,is,rfl,n2.at,hz.2,fun r H3 n3=> ?_⟩⟩
     exact aa9 (Dn.step h1 (j4 n2)) (rl1.new n2) (ak1 _) n3
   ·exact h1.elim
  ·exact h1.elim
 ·exact h1.elim
end
variable[XW]
end PF
namespace Ln
open PySem L2 PF
def top(i:Nat):Stmt:=PySem.Challenge.pw_mannerports_k17_nets_put_together.main.body.getD i (.Pass ⟨0,0,0,0⟩)
abbrev acf:Stmt:=top 9
abbrev aeq:Stmt:=top 10
noncomputable abbrev ah9:Stmt:=top 12
noncomputable abbrev ahx:Stmt:=top 13
noncomputable abbrev ag4:Stmt:=top 14
noncomputable abbrev akh:Stmt:=top 18
abbrev aai:Stmt:=top 19
noncomputable abbrev ag7:Stmt:=top 28
noncomputable abbrev ajj:Stmt:=top 29
noncomputable abbrev alh:Stmt:=top 30
abbrev ag2:Stmt:=top 31
noncomputable abbrev aho:Stmt:=top 32
noncomputable abbrev ajh:Stmt:=top 33
noncomputable abbrev ajp:Stmt:=top 34
noncomputable abbrev ajs:Stmt:=top 35
noncomputable abbrev acu:Stmt:=top 36
abbrev aaw:Stmt:=top 37
abbrev aea:Stmt:=top 38
abbrev agc:Stmt:=top 39
abbrev aeb:Stmt:=top 40
abbrev adc:Stmt:=top 41
abbrev amf:Stmt:=top 43
abbrev af2:Stmt:=top 44
abbrev alm:Stmt:=top 45
abbrev ael:Stmt:=top 46
abbrev afx:Stmt:=top 48
abbrev ag3:Stmt:=top 49
abbrev ach:Stmt:=top 50
abbrev aez:Stmt:=top 51
abbrev afy:Stmt:=top 52
abbrev ag9:Stmt:=top 53
abbrev acd:Stmt:=top 54
abbrev acz:Stmt:=top 55
abbrev abk:Stmt:=top 56
abbrev acg:Stmt:=top 57
abbrev acj:Stmt:=top 58
abbrev af6:Stmt:=top 59
abbrev aeh:Stmt:=top 60
abbrev ag8:Stmt:=top 61
abbrev ahj:Stmt:=top 62
abbrev ag5:Stmt:=top 63
abbrev aaf:Stmt:=top 64
abbrev xb:Str:="MannerError"
abbrev xcs:List Str:=["NoNet","NoText","NoMoment","TooMany","NoJoin","NoAlike"]
abbrev xfl:List Str:=["word","path"]
abbrev ad7:Stmt:=aqf (top 1) 0
abbrev amm:Stmt:=aqf (top 2) 0
abbrev aju:Stmt:=aqf (top 6) 0
structure Txt0 (K:aj) (mg:Str -> Option af):Prop where
 x:XT K mg xb xcs xfl
 hx_MannerError:HasX K mg "MannerError" "MannerError.__init__" ad7 ["self","text"]
 hx_NoNet:HasX K mg "NoNet" "NoNet.__init__" amm ["self","word","path"]
 hx_NoJoin:HasX K mg "NoJoin" "NoJoin.__init__" aju ["self","word"]
 h_ports_of_both:Has K mg "ports_of_both" acf ["one","other"]
 h_ports_left:Has K mg "ports_left" aeq ["own","hidden"]
 h_is_whole:Has K mg "is_whole" ah9 ["thing"]
 h_is_below:Has K mg "is_below" ahx ["many","thing"]
 h_is_rising:Has K mg "is_rising" ag4 ["things"]
 h_is_port:Has K mg "is_port" akh ["thing"]
 h_are_unlike_ports:Has K mg "are_unlike_ports" aai ["thing"]
 h_is_things:Has K mg "is_things" ag7 ["thing"]
 h_is_seen:Has K mg "is_seen" ajj ["thing"]
 h_is_net:Has K mg "is_net" alh ["thing"]
 h_right_net:Has K mg "right_net" ag2 ["thing"]
 h_is_thing:Has K mg "is_thing" aho ["things","thing"]
 h_is_held:Has K mg "is_held" ajh ["things","thing"]
 h_is_told:Has K mg "is_told" ajp ["things","thing"]
 h_is_knot:Has K mg "is_knot" ajs ["single","several"]
 h_is_flat_part:Has K mg "is_flat_part" acu ["things","thing"]
 h_has_within_shape:Has K mg "has_within_shape" aaw ["thing"]
 h_fits_within:Has K mg "fits_within" aea ["things","part"]
 h_check_net:Has K mg "check_net" agc ["thing","path"]
 h_check_part:Has K mg "check_part" aeb ["things","part","path"]
 h_parts_in_all:Has K mg "parts_in_all" adc ["net"]
 h_beside:Has K mg "beside" amf ["one","other"]
 h_hidden_net:Has K mg "hidden_net" af2 ["net","ports"]
 h_called:Has K mg "called" alm ["net","names"]
 h_net_around:Has K mg "net_around" ael ["things","seen","parts"]
 h__law_feed:Has K mg "_law_feed" afx ["_law_script"]
 h__law_draw:Has K mg "_law_draw" ag3 ["_law_feed_here","_law_many"]
 h__law_shuffled:Has K mg "_law_shuffled" ach ["_law_feed_here","_law_some"]
 h__law_ports:Has K mg "_law_ports" aez ["_law_feed_here","_law_many"]
 h__law_part:Has K mg "_law_part" afy ["_law_feed_here","_law_things","_law_ports_here"]
 h__law_nest:Has K mg "_law_nest" ag9 ["_law_feed_here","_law_deep","_law_things","_law_seen"]
 h__law_is_whole:Has K mg "_law_is_whole" acd ["_law_thing"]
 h__law_is_port:Has K mg "_law_is_port" acz ["_law_thing"]
 h__law_are_ports:Has K mg "_law_are_ports" abk ["_law_thing"]
 h__law_are_told:Has K mg "_law_are_told" acg ["_law_things","_law_thing"]
 h__law_is_plain:Has K mg "_law_is_plain" acj ["_law_things","_law_part_here"]
 h__law_fault:Has K mg "_law_fault" af6 ["_law_thing","_law_path","_law_deep"]
 h__law_count:Has K mg "_law_count" aeh ["_law_net"]
 h__law_told:Has K mg "_law_told" ag8 ["_law_way","_law_one","_law_thing"]
 h__law_due:Has K mg "_law_due" ahj ["_law_way","_law_one","_law_thing"]
 h__law_wide:Has K mg "_law_wide" ag5 ["_law_feed_here","_law_things"]
 h_law:Has K mg "law" aaf ["_law_script"]
 c_SMALL_LETTERS: ∃t,mg "SMALL_LETTERS"=some (.str "abcdefghijklmnopqrstuvwxyz" t)
 c_MOST_LETTERS: ∃t,mg "MOST_LETTERS"=some (.int 8 t)
 c_MOST_THINGS: ∃t,mg "MOST_THINGS"=some (.int 3 t)
 c_MOST_SEEN: ∃t,mg "MOST_SEEN"=some (.int 6 t)
 c_MOST_ENDS: ∃t,mg "MOST_ENDS"=some (.int 12 t)
 c_MOST_DEEP: ∃t,mg "MOST_DEEP"=some (.int 4 t)
 c_MOST_PARTS: ∃t,mg "MOST_PARTS"=some (.int 120 t)
 c_TWO_PORTS_ALONE:apf K mg "TWO_PORTS_ALONE" [.str "both",.str "loose",.str "drain",.str "either"]
 c_HOLDING:apf K mg "HOLDING" [.str "place",.str "last"]
 n_len:mg "len"=none
 n_min:mg "min"=none
 n_max:mg "max"=none
 n_repr:mg "repr"=none
 n_sorted:mg "sorted"=none
 n_list:mg "list"=none
 n_tuple:mg "tuple"=none
 n_set:mg "set"=none
 n_range:mg "range"=none
 n_isinstance:mg "isinstance"=none
 n_str:mg "str"=none
 n_int:mg "int"=none
 n_bool:mg "bool"=none
 n_all:mg "all"=none
 n_zip:mg "zip"=none
 n_sum:mg "sum"=none
 n_enumerate:mg "enumerate"=none
 n_ValueError:mg "ValueError"=none
local macro_rules | `(tactic| walk_at $s:str) => do
 let n := s.getString
 unless n.startsWith "ok" do Lean.Macro.throwUnsupported
 let x := (n.drop 2).toString
 let i (p : String) := bO (p ++ x).toName
 let sc := bO `sc
 let hr := bO `hr
 `(tactic| (have $sc:ident := $(i "sc"); exact ads $(i "T.h_") $sc rfl rfl fun f cdv A outer s H E I hx $hr => by unfold $(i "B"):ident; walk_at "dr"))
local macro_rules | `(tactic| walk_at "cl") => do
 let T := bO `T
 let ns := "ada avz a7g okports_of_both okports_left okis_whole okis_below okis_rising okis_port okare_unlike_ports okis_things okis_seen okis_thing okis_held okis_told okis_knot okis_flat_part okhas_within_shape okfits_within okright_net okis_net oknet_around okbeside okhidden_net okcalled ok_law_feed ok_law_draw ok_law_shuffled ok_law_ports ok_law_part ok_law_is_whole ok_law_is_port ok_law_are_ports ok_law_are_told ok_law_is_plain ok_law_told ok_law_due ok_law_wide"
 let a : hV `tactic ← `(tactic| first | assumption | exact $(bO `an6) $T _ | exact $(bO `akz) $T _ | exact $(bO `adb) $T _ | exact $(bO `ok_law_nest) $T _ | exact $(bO `ok_law_fault) $T _ | exact $(bO `ok_law_count) $T _)
 let r ← (ns.splitOn " ").foldrM (init := a) fun n (acc : hV `tactic) => `(tactic| first | exact $(bO n.toName) $T | $acc:tactic)
 return r
theorem aut:yu X scope [] []:=trivial
theorem at8{ys:List Str}{j:Nat}(h:ar2 X scope y j)(k:yu X scope ys js):yu X scope (y::ys) (j::js):=⟨h,k⟩
local macro_rules | `(tactic| walk_at "dr") => do
 let T := bO `T
 let hr := bO `hr
 let sc := bO `sc
 let ns := "jp:_ ahb: a5j:?? an3:? a5w:??? zk: bbb:_? bbf:??? a8n:_??? bap:? a9z:?? a7b: bba: a88:????? a9x:? bbl:?? ayc:??? bb0:?|jk:?? j9:|kh:? vh:?? abe:|amc:? aca:??? ad2:? bao:??? a45:??|ahq:??? ad4:? zm:? a8u:?????|axo:?? a3k:? a4g:?? ayq:?|bah:? bae:?|ad9:????|a93:? a9e:|a8t:? a83:"
 let q ← `(?_)
 let u ← `(_)
 let gs ← (ns.splitOn "|").mapM fun l => do
  let e ← `(tactic| fail)
  (l.splitOn " ").foldrM (init := e) fun x (acc : hV `tactic) => do
   let p := x.splitOn ":"
   let f := bO p.head!.toName
   let as := (p.getLast!.toList.map fun c => if c == '?' then q else u).toArray
   if as.isEmpty then `(tactic| first | exact $f | $acc:tactic) else `(tactic| first | refine $f $as* | $acc:tactic)
 let g (i : Nat) : hV `tactic := gs.getD i ⟨.missing⟩
 `(tactic|
  ((repeat' first
 | (show RE _ _ _; first
  | $(g 0):tactic
  | refine ab0 (by walk_at "cl") (($hr).mono (by first | decide | lia)) ?_
  | refine ym aq5 ($T).n_len akx ?_
  | refine ym apu ($T).n_isinstance xa ?_
  | refine akr a14 ($T).n_tuple afn ?_
  | exact aa1 ($T).n_tuple afn
  | refine aa3 (by walk_at "cl") (($hr).mono (by first | decide | lia)) ?_
  | refine akr (at9 _) ($T).n_list asx ?_
  | refine aym PySem.F.slot_list_append PySem.F.type_list_append ax4 ?_ ?_
  | refine ym (a63 rfl) ($T).n_all a5m ?_
  | refine ym (a17 $hr) ($T).n_repr a4p ?_
  | exact aa1 ($T).n_str a7c
  | exact aa1 ($T).n_int axz
  | exact aa1 ($T).n_bool a4h
  | refine asb rfl ($T).n_len ($T).n_set ?_
  | exact abg ($T).c_MOST_SEEN
  | refine ym (a78 rfl) ($T).n_min a5v ?_
  | refine ym (a5k rfl) ($T).n_max a5g ?_
  | refine akr a6d ($T).n_int axz ?_
  | exact abg ($T).c_MOST_LETTERS
  | exact ayp ($T).c_SMALL_LETTERS
  | exact abg ($T).c_MOST_THINGS
  | exact abg ($T).c_MOST_ENDS
  | exact ap3 ["place", "last"] ($T).c_HOLDING
  | exact ap3 ["both", "loose", "drain", "either"] ($T).c_TWO_PORTS_ALONE
  | exact abg ($T).c_MOST_PARTS
  | refine akr (at9 true) ($T).n_list asx ?_
  | refine aym PySem.F.slot_list_pop PySem.F.type_list_pop az7 ?_ ?_
  | refine an8 false rfl (u70 $hr) ($T).n_sorted ($T).n_set ?_
  | refine ym (a6h rfl) ($T).n_sum a70 ?_
  | refine' ay8 _ (own := [_]) (caps := _) _ _ _ _ _ _ _ _ _ _ _
  | refine' ay8 _ (own := [_, _]) (caps := _) _ _ _ _ _ _ _ _ _ _ _)
 | (show RA _ _ _; first
  | $(g 1):tactic
  | exact asu rfl)
 | (show RSs _ _ _; first
  | $(g 2):tactic)
 | (show RS _ _ _; first
  | refine' aw4 _ (own := [_]) (caps := _) _ _ _ _ _ _ _ _ _ _ _ _ _ _ _
  | $(g 3):tactic
  | refine abu ?_ rfl (by first | exact cM rfl | exact eR rfl) ?_
  | refine atl rfl ?_ ?_ ?_
  | refine aa7 ($T).x rfl ?_
  | refine a2o ?_ rfl (by first | exact cM rfl | exact eR rfl) ?_)
 | (show RT _ _ _; first
  | $(g 4):tactic
  | refine RW.rt ?_)
 | (show RW _ _ _; first
  | $(g 5):tactic)
 | (show RI _ _ _ _; first
  | $(g 6):tactic
  | refine a31 ($T).n_range ?_
  | refine azm ($T).n_zip ?_)
 | (show RG _ _ _; first
  | $(g 7):tactic
  | refine ayd rfl ?_ ?_
  | refine ay2 rfl ?_ ?_ ?_)
 | (show ROp _ _ _; first
  | $(g 8):tactic)
 | (show RIfs _ _ _; first
  | $(g 9):tactic)
 | (show Op2 _ _ _; with_reducible first | refine axi ?_ | refine a8a ?_ | refine a6u ?_ | exact a3q false | refine a2k ?_ | refine a0x ?_ | exact ay5 _ | exact a6p | exact a2i | exact a8q | exact a5p | exact a87 | exact a0r | exact a8v | exact a7l | exact a5h | exact axt | exact a6r | exact a6s)
 | (show _ < cLine; first | exact u64 $hr | exact u65 $hr | exact u66 $hr | exact u70 $hr)
 | exact cM ⟨rfl, rfl⟩
 | exact aut
 | refine' at8 ⟨rfl, by first | exact eR (cM rfl) | exact cM rfl | exact eR (eR rfl), rfl, rfl⟩ _
 | (show _ = _; exact rfl)
 | (show Loc _ _; first | exact cM rfl | exact eR rfl)
 | (show _ \/ _; first | exact cM rfl | exact eR rfl)
 | (intro _ _ _ _ _ _; show RE _ _ _)
 | (intro _ _ _ _; show RG _ _ _)
 | (intro _ _ _ _ _ _; show RIfs _ _ _)
 | (intro _ _ _ _; show RI _ _ _ _)); all_goals first | exact ($sc).nd | exact (show (_ ++ _ : List Str).Nodup by decide +kernel)))
variable{P:aQ}{w:aU}{K:aj}{mg:Str -> Option af}{base:Heap}
def akp:FS:=
  (vf (fCB (aen xb xcs) (ja (jb 0) (ja (jb 1) jc))))
def vt:FF:=jx 2 akp
theorem aj0:FnScope ["self","text"] ["self","text"] (je ad7):=⟨rfl,rfl,rfl,by decide+kernel,rfl,by decide+kernel,by decide+kernel⟩
theorem ada(T:Txt0 K mg):InitX P w K mg base "MannerError" 1 2 vt:=by
 exact am8 (k:=0) T.hx_MannerError aj0 rfl rfl (fun f cdv A outer s H E I hx hr=>
   (kh (ad2 (au5 T.x T.n_ValueError (jk (jp 0) (jk (jp 1) j9))))))
def ai7:FS:=
  (jf (vf (jd 2 vt (ja (jb 0) (ja (fC (.da (.str "this is no net"))) jc))))
  (jf (afl xb xcs xfl "word" (jb 0) (jb 1))
  (afl xb xcs xfl "path" (jb 0) (jb 2))))
def vq:FF:=jx 3 ai7
theorem azy{a2:D}:vq [a0,a1,a2] s=(ai7 [some a0,some a1,some a2] s).bind jt:=rfl
theorem avl:FnScope ["self","word","path"] ["self","word","path"] (je amm):=⟨rfl,rfl,rfl,by decide+kernel,rfl,by decide+kernel,by decide+kernel⟩
theorem avz(T:Txt0 K mg):InitX P w K mg base "NoNet" 3 3 vq:=by
 have ciMannerError:=ada (P:=P) (w:=w) (base:=base) T
 exact am8 (k:=2) T.hx_NoNet avl rfl rfl (fun f cdv A outer s H E I hx hr=>
   (vh (ad2 (alu ciMannerError (hr.mono (by decide)) (jk (jp 0) (jk zk j9))))
   (vh (aip T.x (jp 0) (jp 1))
   (kh (aip T.x (jp 0) (jp 2))))))
def agy:FS:=
  (jf (vf (jd 2 vt (ja (jb 0) (ja (fC (.da (.str "this can't be joined"))) jc))))
  (afl xb xcs xfl "word" (jb 0) (jb 1)))
def v3:FF:=jx 2 agy
theorem awk:v3 [a0,a1] s=(agy [some a0,some a1] s).bind jt:=rfl
theorem asd:FnScope ["self","word"] ["self","word"] (je aju):=⟨rfl,rfl,rfl,by decide+kernel,rfl,by decide+kernel,by decide+kernel⟩
theorem a7g(T:Txt0 K mg):InitX P w K mg base "NoJoin" 3 2 v3:=by
 have ciMannerError:=ada (P:=P) (w:=w) (base:=base) T
 exact am8 (k:=2) T.hx_NoJoin asd rfl rfl (fun f cdv A outer s H E I hx hr=>
   (vh (ad2 (alu ciMannerError (hr.mono (by decide)) (jk (jp 0) (jk zk j9))))
   (kh (aip T.x (jp 0) (jp 1)))))
def Bports_of_both:FS:=
  (ji (fOp (jv false) (jb 0) (fCB j6 (ja (fLc false [0] 1 (fIt (jb 1)) (.nm 0) (jg (fOp qu (jb 0) (jb 1))) (jb 0)) jc))))
def yp:FF:=jx 2 Bports_of_both
theorem ai5:yp [a0,a1] s=(Bports_of_both [some a0,some a1] s).bind jt:=rfl
theorem scports_of_both:FnScope ["one","other"] ["one","other"] (je acf):=⟨rfl,rfl,rfl,by decide+kernel,rfl,by decide+kernel,by decide+kernel⟩
theorem okports_of_both(T:Txt0 K mg):CalF P w K mg base "ports_of_both" 1 2 yp:=by walk_at "okports_of_both"
def Bports_left:FS:=
  (jf (jm (ju (j2 (fCB ae1 (ja (fLc false [0] 1 (fIt (jb 1)) (.nm 0) aac (fOp gIn (jb 0) (jb 1))) jc)))) (vy xb xcs (qg "NoJoin" 2 v3 (ja (fC (.da (.str "ports"))) jc))) jl)
  (ji (fCB j6 (ja (fLc false [1] 1 (fIt (jb 0)) (.nm 0) (jg (fOp qu (jb 0) (jb 1))) (jb 0)) jc))))
def yb:FF:=jx 2 Bports_left
theorem anl:yb [a0,a1] s=(Bports_left [some a0,some a1] s).bind jt:=rfl
theorem scports_left:FnScope ["own","hidden"] ["own","hidden"] (je aeq):=⟨rfl,rfl,rfl,by decide+kernel,rfl,by decide+kernel,by decide+kernel⟩
theorem okports_left(T:Txt0 K mg):CalF P w K mg base "ports_left" 5 2 yb:=by walk_at "okports_left"
def Bis_whole:FS:=
  (ji (xj (fCB k9 (ja (jb 0) (ja (fC (.ty "int")) jc))) (ax9 (fCB k9 (ja (jb 0) (ja (fC (.ty "bool")) jc))))))
def aak:FF:=jx 1 Bis_whole
theorem as8:aak [a0] s=(Bis_whole [some a0] s).bind jt:=rfl
theorem scis_whole:FnScope ["thing"] ["thing"] (je ah9):=⟨rfl,rfl,rfl,by decide+kernel,rfl,by decide+kernel,by decide+kernel⟩
theorem okis_whole(T:Txt0 K mg):CalF P w K mg base "is_whole" 1 1 aak:=by walk_at "okis_whole"
def Bis_below:FS:=
  (ji (xj (jd 1 aak (ja (jb 1) jc)) (vo gLe gLt (fC (.da (.int 0))) (jb 1) (jb 0))))
def ac7:FF:=jx 2 Bis_below
theorem arz:ac7 [a0,a1] s=(Bis_below [some a0,some a1] s).bind jt:=rfl
theorem scis_below:FnScope ["many","thing"] ["many","thing"] (je ahx):=⟨rfl,rfl,rfl,by decide+kernel,rfl,by decide+kernel,by decide+kernel⟩
theorem okis_below(T:Txt0 K mg):CalF P w K mg base "is_below" 2 2 ac7:=by walk_at "okis_below"
def Bis_rising:FS:=
  (ji (fCB ae1 (ja (fLc false [] 2 (aq0 (ja (jb 0) (ja (fSl false (jb 0) (kd (fC (.da (.int 1)))) fNo) jc))) (.t2 (.nm 0) (.nm 1)) aac (fOp aqn (jb 0) (jb 1))) jc)))
def ab7:FF:=jx 1 Bis_rising
theorem apo:ab7 [a0] s=(Bis_rising [some a0] s).bind jt:=rfl
theorem scis_rising:FnScope ["things"] ["things"] (je ag4):=⟨rfl,rfl,rfl,by decide+kernel,rfl,by decide+kernel,by decide+kernel⟩
theorem okis_rising(T:Txt0 K mg):CalF P w K mg base "is_rising" 1 1 ab7:=by walk_at "okis_rising"
def Bis_port:FS:=
  (jf (jm (kz (ju (j2 (fCB k9 (ja (jb 0) (ja (fC (.ty "str")) jc))))) (ju (jg (vo gLe gLe (fC (.da (.int 1))) (fCB jr (ja (jb 0) jc)) (fC (.da (.int 8))))))) (ji (fC (.da (.bool false)))) jl)
  (ji (fCB ae1 (ja (fLc false [] 1 (aqb (jb 0)) (.nm 0) aac (fOp aq7 (jb 0) (fC (.da (.str "abcdefghijklmnopqrstuvwxyz"))))) jc))))
def ae2:FF:=jx 1 Bis_port
theorem au8:ae2 [a0] s=(Bis_port [some a0] s).bind jt:=rfl
theorem scis_port:FnScope ["thing"] ["thing"] (je akh):=⟨rfl,rfl,rfl,by decide+kernel,rfl,by decide+kernel,by decide+kernel⟩
theorem okis_port(T:Txt0 K mg):CalF P w K mg base "is_port" 1 1 ae2:=by walk_at "okis_port"
def Bare_unlike_ports:FS:=
  (jf (jm (kz (ju (j2 (fCB k9 (ja (jb 0) (ja (fC (.ty "tuple")) jc))))) (ju (j2 (fCB ae1 (ja (fLc false [] 1 (fIt (jb 0)) (.nm 0) aac (jd 1 ae2 (ja (jb 0) jc))) jc))))) (ji (fC (.da (.bool false)))) jl)
  (ji (fOp gEq (fCB act (ja (jb 0) jc)) (fCB jr (ja (jb 0) jc)))))
def j7:FF:=jx 1 Bare_unlike_ports
theorem afv:j7 [a0] s=(Bare_unlike_ports [some a0] s).bind jt:=rfl
theorem scare_unlike_ports:FnScope ["thing"] ["thing"] (je aai):=⟨rfl,rfl,rfl,by decide+kernel,rfl,by decide+kernel,by decide+kernel⟩
theorem okare_unlike_ports(T:Txt0 K mg):CalF P w K mg base "are_unlike_ports" 2 1 j7:=by walk_at "okare_unlike_ports"
def Bis_things:FS:=
  (ji (xj (jd 1 aak (ja (jb 0) jc)) (vo gLe gLe (fC (.da (.int 1))) (jb 0) (fC (.da (.int 3))))))
def aba:FF:=jx 1 Bis_things
theorem apb:aba [a0] s=(Bis_things [some a0] s).bind jt:=rfl
theorem scis_things:FnScope ["thing"] ["thing"] (je ag7):=⟨rfl,rfl,rfl,by decide+kernel,rfl,by decide+kernel,by decide+kernel⟩
theorem okis_things(T:Txt0 K mg):CalF P w K mg base "is_things" 2 1 aba:=by walk_at "okis_things"
def Bis_seen:FS:=
  (ji (xj (jd 1 j7 (ja (jb 0) jc)) (fOp gLe (fCB jr (ja (jb 0) jc)) (fC (.da (.int 6))))))
def adx:FF:=jx 1 Bis_seen
theorem axb:adx [a0] s=(Bis_seen [some a0] s).bind jt:=rfl
theorem scis_seen:FnScope ["thing"] ["thing"] (je ajj):=⟨rfl,rfl,rfl,by decide+kernel,rfl,by decide+kernel,by decide+kernel⟩
theorem okis_seen(T:Txt0 K mg):CalF P w K mg base "is_seen" 3 1 adx:=by walk_at "okis_seen"
def Bis_thing:FS:=
  (ji (jd 2 ac7 (ja (jb 0) (ja (jb 1) jc))))
def aam:FF:=jx 2 Bis_thing
theorem ath:aam [a0,a1] s=(Bis_thing [some a0,some a1] s).bind jt:=rfl
theorem scis_thing:FnScope ["things","thing"] ["things","thing"] (je aho):=⟨rfl,rfl,rfl,by decide+kernel,rfl,by decide+kernel,by decide+kernel⟩
theorem okis_thing(T:Txt0 K mg):CalF P w K mg base "is_thing" 3 2 aam:=by walk_at "okis_thing"
def Bis_held:FS:=
  (ji (fOr (fOp gIs (jb 1) (fC (.da (.none)))) (jd 2 aam (ja (jb 0) (ja (jb 1) jc)))))
def ae8:FF:=jx 2 Bis_held
theorem avc:ae8 [a0,a1] s=(Bis_held [some a0,some a1] s).bind jt:=rfl
theorem scis_held:FnScope ["things","thing"] ["things","thing"] (je ajh):=⟨rfl,rfl,rfl,by decide+kernel,rfl,by decide+kernel,by decide+kernel⟩
theorem okis_held(T:Txt0 K mg):CalF P w K mg base "is_held" 4 2 ae8:=by walk_at "okis_held"
def Bis_told:FS:=
  (jf (jm (kz (ju (j2 (fCB k9 (ja (jb 1) (ja (fC (.ty "tuple")) jc))))) (ju (j2 (fCB ae1 (ja (fLc false [0] 1 (fIt (jb 1)) (.nm 0) aac (jd 2 aam (ja (jb 1) (ja (jb 0) jc)))) jc))))) (ji (fC (.da (.bool false)))) jl)
  (ji (jd 1 ab7 (ja (jb 1) jc))))
def adh:FF:=jx 2 Bis_told
theorem avg:adh [a0,a1] s=(Bis_told [some a0,some a1] s).bind jt:=rfl
theorem scis_told:FnScope ["things","thing"] ["things","thing"] (je ajp):=⟨rfl,rfl,rfl,by decide+kernel,rfl,by decide+kernel,by decide+kernel⟩
theorem okis_told(T:Txt0 K mg):CalF P w K mg base "is_told" 4 2 adh:=by walk_at "okis_told"
def Bis_knot:FS:=
  (jf (jm (kz (ju (j2 (fCB k9 (ja (jb 1) (ja (fC (.ty "tuple")) jc))))) (ju (jg (vo gLe gLe (fC (.da (.int 1))) (fCB jr (ja (jb 1) jc)) (fC (.da (.int 12))))))) (ji (fC (.da (.bool false)))) jl)
  (ji (jd 1 j7 (ja (fOp (jv false) (jh (ja (jb 0) jc)) (jb 1)) jc))))
def ac1:FF:=jx 2 Bis_knot
theorem axg:ac1 [a0,a1] s=(Bis_knot [some a0,some a1] s).bind jt:=rfl
theorem scis_knot:FnScope ["single","several"] ["single","several"] (je ajs):=⟨rfl,rfl,rfl,by decide+kernel,rfl,by decide+kernel,by decide+kernel⟩
theorem okis_knot(T:Txt0 K mg):CalF P w K mg base "is_knot" 3 2 ac1:=by walk_at "okis_knot"
def Bis_flat_part:FS:=
  (jf (jm (kz (ju (j2 (fCB k9 (ja (jb 1) (ja (fC (.ty "tuple")) jc))))) (ju (jg (vo gLe gLe (fC (.da (.int 3))) (fCB jr (ja (jb 1) jc)) (fC (.da (.int 4))))))) (ji (fC (.da (.bool false)))) jl)
  (jf (jq 2 (fOp gIx (jb 1) (fC (.da (.int 0)))))
  (jf (jm (jg (fOp gEq (fCB jr (ja (jb 1) jc)) (fC (.da (.int 4))))) (jf (jm (ju (j2 (jd 1 j7 (ja (fSl false (jb 1) (kd (fC (.da (.int 1)))) (kd (fC (.da (.int 3))))) jc)))) (ji (fC (.da (.bool false)))) jl)
  (jf (jm (jg (fOp gIn (jb 2) (fC (.con (cw aF ["place","last"]))))) (ji (jd 2 ae8 (ja (jb 0) (ja (fOp gIx (jb 1) (fC (.da (.int 3)))) jc)))) jl)
  (ji (xj (fOp gEq (jb 2) (fC (.da (.str "only")))) (jd 2 adh (ja (jb 0) (ja (fOp gIx (jb 1) (fC (.da (.int 3)))) jc))))))) jl)
  (jf (jm (jg (fOp gEq (jb 2) (fC (.da (.str "copy"))))) (ji (jd 2 ac1 (ja (fOp gIx (jb 1) (fC (.da (.int 1)))) (ja (fOp gIx (jb 1) (fC (.da (.int 2)))) jc)))) jl)
  (jf (jm (jg (fOp gEq (jb 2) (fC (.da (.str "merge"))))) (ji (jd 2 ac1 (ja (fOp gIx (jb 1) (fC (.da (.int 2)))) (ja (fOp gIx (jb 1) (fC (.da (.int 1)))) jc)))) jl)
  (ji (xj (fOp gIn (jb 2) (fC (.con (cw aF ["both","loose","drain","either"])))) (jd 1 j7 (ja (fSl false (jb 1) (kd (fC (.da (.int 1)))) fNo) jc)))))))))
def vw:FF:=jx 3 Bis_flat_part
theorem aay:vw [a0,a1] s=(Bis_flat_part [some a0,some a1,none] s).bind jt:=rfl
theorem scis_flat_part:FnScope ["things","thing","word"] ["things","thing"] (je acu):=⟨rfl,rfl,rfl,by decide+kernel,rfl,by decide+kernel,by decide+kernel⟩
theorem okis_flat_part(T:Txt0 K mg):CalF P w K mg base "is_flat_part" 5 2 vw:=by walk_at "okis_flat_part"
def Bhas_within_shape:FS:=
  (jf (jm (kz (ju (j2 (fCB k9 (ja (jb 0) (ja (fC (.ty "tuple")) jc))))) (jg (fOp gNe (fCB jr (ja (jb 0) jc)) (fC (.da (.int 3)))))) (ji (fC (.da (.bool false)))) jl)
  (ji (xj (fOp gEq (fOp gIx (jb 0) (fC (.da (.int 0)))) (fC (.da (.str "net")))) (jd 1 j7 (ja (fOp gIx (jb 0) (fC (.da (.int 2)))) jc)))))
def v8:FF:=jx 1 Bhas_within_shape
theorem afw:v8 [a0] s=(Bhas_within_shape [some a0] s).bind jt:=rfl
theorem schas_within_shape:FnScope ["thing"] ["thing"] (je aaw):=⟨rfl,rfl,rfl,by decide+kernel,rfl,by decide+kernel,by decide+kernel⟩
theorem okhas_within_shape(T:Txt0 K mg):CalF P w K mg base "has_within_shape" 3 1 v8:=by walk_at "okhas_within_shape"
def Bfits_within:FS:=
  (jf (aph (.t3 (.nm 2) (.nm 3) (.nm 4)) (fOp gIx (jb 1) (fC (.da (.int 1)))))
  (ji (xj (fOp gEq (jb 2) (jb 0)) (fOp gEq (fCB jr (ja (jb 3) jc)) (fCB jr (ja (fOp gIx (jb 1) (fC (.da (.int 2)))) jc))))))
def zi:FF:=jx 5 Bfits_within
theorem amv:zi [a0,a1] s=(Bfits_within [some a0,some a1,none,none,none] s).bind jt:=rfl
theorem scfits_within:FnScope ["things","part","inner_things","seen","parts"] ["things","part"] (je aea):=⟨rfl,rfl,rfl,by decide+kernel,rfl,by decide+kernel,by decide+kernel⟩
theorem okfits_within(T:Txt0 K mg):CalF P w K mg base "fits_within" 1 2 zi:=by walk_at "okfits_within"
def yn(kc ke:FF):FS:=
  (jf (jm (kz (ju (j2 (fCB k9 (ja (jb 0) (ja (fC (.ty "tuple")) jc))))) (kz (jg (fOp gNe (fCB jr (ja (jb 0) jc)) (fC (.da (.int 3))))) (jg (fOp gGe (fCB jr (ja (jb 1) jc)) (fC (.da (.int 4))))))) (vy xb xcs (qg "NoNet" 3 vq (ja (fC (.da (.str "net"))) (ja (jb 1) jc)))) jl)
  (jf (aph (.t3 (.nm 2) (.nm 3) (.nm 4)) (jb 0))
  (jf (jm (ju (j2 (jd 1 aba (ja (jb 2) jc)))) (vy xb xcs (qg "NoNet" 3 vq (ja (fC (.da (.str "things"))) (ja (jb 1) jc)))) jl)
  (jf (jm (ju (j2 (jd 1 adx (ja (jb 3) jc)))) (vy xb xcs (qg "NoNet" 3 vq (ja (fC (.da (.str "seen"))) (ja (jb 1) jc)))) jl)
  (jf (jm (ju (j2 (fCB k9 (ja (jb 4) (ja (fC (.ty "tuple")) jc))))) (vy xb xcs (qg "NoNet" 3 vq (ja (fC (.da (.str "parts"))) (ja (jb 1) jc)))) jl)
  (y7 (axa 0 (ja (jb 4) jc)) (.t2 (.nm 5) (.nm 6)) (vf (jd 3 ke (ja (jb 2) (ja (jb 6) (ja (fOp (jv false) (jb 1) (jh (ja (jb 5) jc))) jc)))))))))))
def yw(kc ke:FF):FS:=
  (jf (jm (j2 (jd 1 v8 (ja (jb 1) jc))) (jf (vf (jd 2 kc (ja (fOp gIx (jb 1) (fC (.da (.int 1)))) (ja (jb 2) jc))))
  (jq 3 (jd 2 zi (ja (jb 0) (ja (jb 1) jc))))) (jq 3 (jd 2 vw (ja (jb 0) (ja (jb 1) jc)))))
  (jm (ju (j2 (jb 3))) (vy xb xcs (qg "NoNet" 3 vq (ja (fC (.da (.str "part"))) (ja (jb 2) jc)))) jl))
def yq:Nat -> FF×FF
 |0=> (agt,agt)
 |n+1=> (jx 7 (yn (yq n).1 (yq n).2),jx 4 (yw (yq n).1 (yq n).2))
def kc(n:Nat):FF:=(yq n).1
def ke(n:Nat):FF:=(yq n).2
theorem aqs:kc (n+1) [a0,a1] s=(yn (kc n) (ke n) [some a0,some a1,none,none,none,none,none] s).bind jt:=rfl
theorem v4:FnScope ["thing","path","things","seen","parts","number","part"] ["thing","path"] (je agc):=⟨rfl,rfl,rfl,by decide+kernel,rfl,by decide+kernel,by decide+kernel⟩
theorem anb{a2:D}:ke (n+1) [a0,a1,a2] s=(yw (kc n) (ke n) [some a0,some a1,some a2,none] s).bind jt:=rfl
theorem zp:FnScope ["things","part","path","right"] ["things","part","path"] (je aeb):=⟨rfl,rfl,rfl,by decide+kernel,rfl,by decide+kernel,by decide+kernel⟩
theorem aco(T:Txt0 K mg): ∀n:Nat,CalF P w K mg base "check_net" (6+n) 2 (kc n)/\CalF P w K mg base "check_part" (6+n) 3 (ke n)
 |0=> ⟨(abc (k:=5) T.h_check_net v4 rfl),(abc (k:=5) T.h_check_part zp rfl)⟩
 | n+1=> by
  have ciNoNet:=avz (P:=P) (w:=w) (base:=base) T
  have cis_things:=okis_things (P:=P) (w:=w) (base:=base) T
  have cis_seen:=okis_seen (P:=P) (w:=w) (base:=base) T
  have cis_flat_part:=okis_flat_part (P:=P) (w:=w) (base:=base) T
  have chas_within_shape:=okhas_within_shape (P:=P) (w:=w) (base:=base) T
  have cfits_within:=okfits_within (P:=P) (w:=w) (base:=base) T
  obtain⟨ihcheck_net,ihcheck_part⟩:=aco T n
  exact⟨ads (k:=6+n) T.h_check_net v4 rfl rfl (fun f cdv A outer s H E I hx hr=>
   (vh (aca (RW.rt (axo (ad4 (zm (ym apu T.n_isinstance xa (jk (jp 0) (jk (aa1 T.n_tuple afn) j9))))) (axo (ahq (a2k (u64 hr)) (ym aq5 T.n_len akx (jk (jp 0) j9)) ahb) (a3k (ahq a2i (ym aq5 T.n_len akx (jk (jp 1) j9)) (abg T.c_MOST_DEEP)))))) (kh (aa7 T.x rfl (aa3 ciNoNet (hr.mono (by first|decide|lia)) (jk zk (jk (jp 1) j9))))) abe)
   (vh (a45 (jp 0) (ay2 rfl (ad9 (i:=2) v4.nd rfl (cM rfl)) (ad9 (i:=3) v4.nd rfl (cM rfl)) (ad9 (i:=4) v4.nd rfl (cM rfl))))
   (vh (aca (ad4 (zm (ab0 cis_things (hr.mono (by lia)) (jk (jp 2) j9)))) (kh (aa7 T.x rfl (aa3 ciNoNet (hr.mono (by first|decide|lia)) (jk zk (jk (jp 1) j9))))) abe)
   (vh (aca (ad4 (zm (ab0 cis_seen (hr.mono (by lia)) (jk (jp 3) j9)))) (kh (aa7 T.x rfl (aa3 ciNoNet (hr.mono (by first|decide|lia)) (jk zk (jk (jp 1) j9))))) abe)
   (vh (aca (ad4 (zm (ym apu T.n_isinstance xa (jk (jp 4) (jk (aa1 T.n_tuple afn) j9))))) (kh (aa7 T.x rfl (aa3 ciNoNet (hr.mono (by first|decide|lia)) (jk zk (jk (jp 1) j9))))) abe)
   (kh (atl rfl (a5c T.n_enumerate (jk (jp 4) j9)) (ayd rfl (ad9 (i:=5) v4.nd rfl (cM rfl)) (ad9 (i:=6) v4.nd rfl (cM rfl))) (kh (ad2 (ab0 ihcheck_part (hr.mono (by lia)) (jk (jp 2) (jk (jp 6) (jk (a5w (ay5 false) (jp 1) (an3 (jk (jp 5) j9))) j9)))))))))))))),ads (k:=6+n) T.h_check_part zp rfl rfl (fun f cdv A outer s H E I hx hr=>
   (vh (aca (zm (ab0 chas_within_shape (hr.mono (by lia)) (jk (jp 1) j9))) (vh (ad2 (ab0 ihcheck_net (hr.mono (by lia)) (jk (a5j (jp 1) ahb) (jk (jp 2) j9))))
   (kh (abu (i:=3) zp.nd rfl (cM rfl) (ab0 cfits_within (hr.mono (by lia)) (jk (jp 0) (jk (jp 1) j9)))))) (kh (abu (i:=3) zp.nd rfl (cM rfl) (ab0 cis_flat_part (hr.mono (by lia)) (jk (jp 0) (jk (jp 1) j9))))))
   (kh (aca (ad4 (zm (jp 3))) (kh (aa7 T.x rfl (aa3 ciNoNet (hr.mono (by first|decide|lia)) (jk zk (jk (jp 2) j9))))) abe))))⟩
theorem an6(T:Txt0 K mg)(n:Nat):CalF P w K mg base "check_net" (6+n) 2 (kc n):=(aco T n).1
theorem akz(T:Txt0 K mg)(n:Nat):CalF P w K mg base "check_part" (6+n) 3 (ke n):=(aco T n).2
def yz(ki:FF):FS:=
  (jf (jq 1 (fCB jr (ja (fOp gIx (jb 0) (fC (.da (.int 2)))) jc)))
  (jf (y7 (fIt (fOp gIx (jb 0) (fC (.da (.int 2))))) (.nm 2) (jm (jg (fOp gEq (fOp gIx (jb 2) (fC (.da (.int 0)))) (fC (.da (.str "net"))))) (agp 1 (jd 1 ki (ja (fOp gIx (jb 2) (fC (.da (.int 1)))) jc))) jl))
  (ji (jb 1))))
def ki:Nat -> FF
 |0=> agt
 |n+1=> jx 3 (yz (ki n))
theorem akj:ki (n+1) [a0] s=(yz (ki n) [some a0,none,none] s).bind jt:=rfl
theorem adf:FnScope ["net","many","part"] ["net"] (je adc):=⟨rfl,rfl,rfl,by decide+kernel,rfl,by decide+kernel,by decide+kernel⟩
theorem adb(T:Txt0 K mg): ∀n:Nat,CalF P w K mg base "parts_in_all" (1+n) 1 (ki n)
 |0=> (abc (k:=0) T.h_parts_in_all adf rfl)
 | n+1=> by
  have ih:=adb T n
  have sc:=adf
  exact ads (k:=1+n) T.h_parts_in_all sc rfl rfl fun f cdv A outer s H E I hx hr=> by
   unfold yz
   walk_at "dr"
def Bright_net:FS:=
  (jf (vf (jd 2 (kc 10) (ja (jb 0) (ja (jh jc) jc))))
  (jf (jm (jg (fOp gGt (jd 1 (ki 8) (ja (jb 0) jc)) (fC (.da (.int 120))))) (vy xb xcs (qg "NoNet" 3 vq (ja (fC (.da (.str "many"))) (ja (jh jc) jc)))) jl)
  (ji (fC (.da (.bool true))))))
def vc:FF:=jx 1 Bright_net
theorem aqg:vc [a0] s=(Bright_net [some a0] s).bind jt:=rfl
theorem scright_net:FnScope ["thing"] ["thing"] (je ag2):=⟨rfl,rfl,rfl,by decide+kernel,rfl,by decide+kernel,by decide+kernel⟩
theorem okright_net(T:Txt0 K mg):CalF P w K mg base "right_net" 17 1 vc:=by walk_at "okright_net"
def Bis_net:FS:=
  (abj xb xcs "NoNet" none (ji (jd 1 vc (ja (jb 0) jc))) (ji (fC (.da (.bool false)))))
def abh:FF:=jx 1 Bis_net
theorem anp:abh [a0] s=(Bis_net [some a0] s).bind jt:=rfl
theorem scis_net:FnScope ["thing"] ["thing"] (je alh):=⟨rfl,rfl,rfl,by decide+kernel,rfl,by decide+kernel,by decide+kernel⟩
theorem okis_net(T:Txt0 K mg):CalF P w K mg base "is_net" 18 1 abh:=by
 have cright_net:=okright_net (P:=P) (w:=w) (base:=base) T
 exact ads (k:=17) T.h_is_net scis_net rfl rfl (fun f cdv A outer s H E I hx hr=>
   (kh (a3z T.x ⟨rfl,rfl⟩ rfl (fun I _ _ hx=> (kh (amc (ab0 cright_net (hr.mono (by decide)) (jk (jp 0) j9))))) (fun I _ hx=> (kh (amc a7b))))))
def Bnet_around:FS:=
  (jf (jq 3 (jh (ja (jb 0) (ja (jb 1) (ja (jb 2) jc)))))
  (jf (jm (ju (j2 (jd 1 abh (ja (jb 3) jc)))) (vy xb xcs (qg "NoJoin" 2 v3 (ja (fC (.da (.str "many"))) jc))) jl)
  (ji (jb 3))))
def xz:FF:=jx 4 Bnet_around
theorem anc{a2:D}:xz [a0,a1,a2] s=(Bnet_around [some a0,some a1,some a2,none] s).bind jt:=rfl
theorem scnet_around:FnScope ["things","seen","parts","net"] ["things","seen","parts"] (je ael):=⟨rfl,rfl,rfl,by decide+kernel,rfl,by decide+kernel,by decide+kernel⟩
theorem oknet_around(T:Txt0 K mg):CalF P w K mg base "net_around" 19 3 xz:=by walk_at "oknet_around"
def Bbeside:FS:=
  (jf (jm (jg (fOp gNe (fOp gIx (jb 0) (fC (.da (.int 0)))) (fOp gIx (jb 1) (fC (.da (.int 0)))))) (vy xb xcs (qg "NoJoin" 2 v3 (ja (fC (.da (.str "things"))) jc))) jl)
  (jf (jq 2 (jd 2 yp (ja (fOp gIx (jb 0) (fC (.da (.int 1)))) (ja (fOp gIx (jb 1) (fC (.da (.int 1)))) jc))))
  (jf (jm (jg (fOp gGt (fCB jr (ja (jb 2) jc)) (fC (.da (.int 6))))) (vy xb xcs (qg "NoJoin" 2 v3 (ja (fC (.da (.str "seen"))) jc))) jl)
  (ji (jd 3 xz (ja (fOp gIx (jb 0) (fC (.da (.int 0)))) (ja (jb 2) (ja (jh (ja (jh (ja (fC (.da (.str "net"))) (ja (jb 0) (ja (fOp gIx (jb 0) (fC (.da (.int 1)))) jc)))) (ja (jh (ja (fC (.da (.str "net"))) (ja (jb 1) (ja (fOp gIx (jb 1) (fC (.da (.int 1)))) jc)))) jc))) jc))))))))
def abf:FF:=jx 3 Bbeside
theorem a0o:abf [a0,a1] s=(Bbeside [some a0,some a1,none] s).bind jt:=rfl
theorem scbeside:FnScope ["one","other","seen"] ["one","other"] (je amf):=⟨rfl,rfl,rfl,by decide+kernel,rfl,by decide+kernel,by decide+kernel⟩
theorem okbeside(T:Txt0 K mg):CalF P w K mg base "beside" 20 2 abf:=by walk_at "okbeside"
def Bhidden_net:FS:=
  (ji (jd 3 xz (ja (fOp gIx (jb 0) (fC (.da (.int 0)))) (ja (jd 2 yb (ja (fOp gIx (jb 0) (fC (.da (.int 1)))) (ja (jb 1) jc))) (ja (jh (ja (jh (ja (fC (.da (.str "net"))) (ja (jb 0) (ja (fOp gIx (jb 0) (fC (.da (.int 1)))) jc)))) jc)) jc)))))
def xv:FF:=jx 2 Bhidden_net
theorem anj:xv [a0,a1] s=(Bhidden_net [some a0,some a1] s).bind jt:=rfl
theorem schidden_net:FnScope ["net","ports"] ["net","ports"] (je af2):=⟨rfl,rfl,rfl,by decide+kernel,rfl,by decide+kernel,by decide+kernel⟩
theorem okhidden_net(T:Txt0 K mg):CalF P w K mg base "hidden_net" 20 2 xv:=by walk_at "okhidden_net"
def Bcalled:FS:=
  (jf (jm (kz (ju (j2 (jd 1 j7 (ja (jb 1) jc)))) (jg (fOp gNe (fCB jr (ja (jb 1) jc)) (fCB jr (ja (fOp gIx (jb 0) (fC (.da (.int 1)))) jc))))) (vy xb xcs (qg "NoJoin" 2 v3 (ja (fC (.da (.str "names"))) jc))) jl)
  (ji (jd 3 xz (ja (fOp gIx (jb 0) (fC (.da (.int 0)))) (ja (jb 1) (ja (jh (ja (jh (ja (fC (.da (.str "net"))) (ja (jb 0) (ja (jb 1) jc)))) jc)) jc))))))
def abd:FF:=jx 2 Bcalled
theorem a0m:abd [a0,a1] s=(Bcalled [some a0,some a1] s).bind jt:=rfl
theorem sccalled:FnScope ["net","names"] ["net","names"] (je alm):=⟨rfl,rfl,rfl,by decide+kernel,rfl,by decide+kernel,by decide+kernel⟩
theorem okcalled(T:Txt0 K mg):CalF P w K mg base "called" 20 2 abd:=by walk_at "okcalled"
def B_law_feed:FS:=
  (ji (ku true (ja (fCB (v9 false) (ja (fSl false (jb 0) fNo (kd (fC (.da (.int 63))))) jc)) (ja (fC (.da (.int 0))) (ja (fC (.da (.int 0))) (ja (fC (.da (.int 0))) jc))))))
def zo:FF:=jx 1 B_law_feed
theorem aqq:zo [a0] s=(B_law_feed [some a0] s).bind jt:=rfl
theorem sc_law_feed:FnScope ["_law_script"] ["_law_script"] (je afx):=⟨rfl,rfl,rfl,by decide+kernel,rfl,by decide+kernel,by decide+kernel⟩
theorem ok_law_feed(T:Txt0 K mg):CalF P w K mg base "_law_feed" 1 1 zo:=by walk_at "ok_law_feed"
def B_law_draw:FS:=
  (jf (ad5 (fOp (jv false) (fOp gIx (jb 0) (fC (.da (.int 3)))) (fC (.da (.int 1)))) (jb 0) (fC (.da (.int 3))))
  (jf (jm (jg (fOp gGt (fOp gIx (jb 0) (fC (.da (.int 2)))) (fC (.da (.int 0))))) (jf (jq 2 (fOp zx (fOp gIx (jb 0) (fC (.da (.int 2)))) (jb 1)))
  (jf (ad5 (fOp af7 (fOp gIx (jb 0) (fC (.da (.int 2)))) (jb 1)) (jb 0) (fC (.da (.int 2))))
  (ji (jb 2)))) jl)
  (jf (jq 3 (fC (.da (.int 5))))
  (jf (jm (jg (fOp gNe (fOp gIx (jb 0) (fC (.da (.int 0)))) (ku false jc))) (jq 3 (fOp gIx (fOp gIx (jb 0) (fC (.da (.int 0)))) (fOp zx (fOp gIx (jb 0) (fC (.da (.int 1)))) (fCB jr (ja (fOp gIx (jb 0) (fC (.da (.int 0)))) jc))))) jl)
  (jf (ad5 (fOp (jv false) (fOp gIx (jb 0) (fC (.da (.int 1)))) (fC (.da (.int 1)))) (jb 0) (fC (.da (.int 1))))
  (jf (jm (yf (jg (fOp gGe (jb 3) (fOp aqt (fC (.da (.int 10))) (fC (.da (.int 18)))))) (jg (fOp gLe (fOp gIx (jb 0) (fC (.da (.int 1)))) (fCB jr (ja (fOp gIx (jb 0) (fC (.da (.int 0)))) jc))))) (jf (ad5 (fOp af7 (jb 3) (jb 1)) (jb 0) (fC (.da (.int 2))))
  (ji (fOp zx (jb 3) (jb 1)))) jl)
  (jf (jq 4 (fOp zx (fOp zz (fOp (jv false) (fOp zx (jb 3) (fC (.da (.int 998244353)))) (fOp zz (fC (.da (.int 5003))) (fOp gIx (jb 0) (fC (.da (.int 3)))))) (fC (.da (.int 69621)))) (fC (.da (.int 2147483629)))))
  (jf (jq 4 (fOp zx (fOp zz (fOp (jv false) (fOp af7 (jb 4) (fC (.da (.int 13)))) (fOp zz (fOp zz (fC (.da (.int 7919))) (fOp gIx (jb 0) (fC (.da (.int 3))))) (fOp gIx (jb 0) (fC (.da (.int 3)))))) (fC (.da (.int 48271)))) (fC (.da (.int 2147483587)))))
  (ji (fOp zx (fOp af7 (jb 4) (fC (.da (.int 64)))) (jb 1)))))))))))
def jj:FF:=jx 5 B_law_draw
theorem aqo:jj [a0,a1] s=(B_law_draw [some a0,some a1,none,none,none] s).bind jt:=rfl
theorem sc_law_draw:FnScope ["_law_feed_here","_law_many","_law_found","_law_cell","_law_mixed"] ["_law_feed_here","_law_many"] (je ag3):=⟨rfl,rfl,rfl,by decide+kernel,rfl,by decide+kernel,by decide+kernel⟩
theorem ok_law_draw(T:Txt0 K mg):CalF P w K mg base "_law_draw" 1 2 jj:=by walk_at "ok_law_draw"
def B_law_shuffled:FS:=
  (jf (jq 2 (fCB (v9 true) (ja (jb 1) jc)))
  (jf (jq 3 (ku true jc))
  (jf (y7 (ab1 (ja (fCB jr (ja (jb 2) jc)) jc)) (.nm 4) (vf (fMt qk (jb 3) (ja (fMt aan (jb 2) (ja (jd 2 jj (ja (jb 0) (ja (fCB jr (ja (jb 2) jc)) jc))) jc)) jc))))
  (ji (avt (jb 3))))))
def kl:FF:=jx 5 B_law_shuffled
theorem ait:kl [a0,a1] s=(B_law_shuffled [some a0,some a1,none,none,none] s).bind jt:=rfl
theorem sc_law_shuffled:FnScope ["_law_feed_here","_law_some","_law_left","_law_found","_law_k"] ["_law_feed_here","_law_some"] (je ach):=⟨rfl,rfl,rfl,by decide+kernel,rfl,by decide+kernel,by decide+kernel⟩
theorem ok_law_shuffled(T:Txt0 K mg):CalF P w K mg base "_law_shuffled" 2 2 kl:=by walk_at "ok_law_shuffled"
def B_law_ports:FS:=
  (jf (jq 2 (ku true (ja (ku false (fVs (cw D.da [.str "a",.str "b",.str "c",.str "d",.str "e",.str "f",.str "g",.str "h"]))) (ja (ku false (fVs (cw D.da [.str "net",.str "end",.str "within",.str "place",.str "last",.str "to",.str "a",.str "table"]))) jc))))
  (jf (vf (fMt qk (jb 2) (ja (ku false (fVs (cw D.da [.str "a",.str "ab",.str "abc",.str "abcd",.str "b",.str "ba",.str "abcdefgh",.str "abcdefgi"]))) jc)))
  (jf (vf (fMt qk (jb 2) (ja (ku false (fVs (cw D.da [.str "zzzzzzzz",.str "z",.str "zz",.str "y",.str "only",.str "onlya",.str "copy",.str "aa"]))) jc)))
  (jf (jq 3 (fOp gIx (jb 2) (jd 2 jj (ja (jb 0) (ja (fC (.da (.int 4))) jc)))))
  (jf (jq 4 (jd 2 jj (ja (jb 0) (ja (fC (.da (.int 8))) jc))))
  (ji (fSl false (fOp (jv false) (fSl false (jb 3) (kd (jb 4)) fNo) (fSl false (jb 3) fNo (kd (jb 4)))) fNo (kd (jb 1)))))))))
def v6:FF:=jx 5 B_law_ports
theorem anh:v6 [a0,a1] s=(B_law_ports [some a0,some a1,none,none,none] s).bind jt:=rfl
theorem sc_law_ports:FnScope ["_law_feed_here","_law_many","_law_pools","_law_pool","_law_turn"] ["_law_feed_here","_law_many"] (je aez):=⟨rfl,rfl,rfl,by decide+kernel,rfl,by decide+kernel,by decide+kernel⟩
theorem ok_law_ports(T:Txt0 K mg):CalF P w K mg base "_law_ports" 2 2 v6:=by walk_at "ok_law_ports"
def B_law_part:FS:=
  (jf (jq 3 (jd 2 kl (ja (jb 0) (ja (jb 2) jc))))
  (jf (jq 4 (fOp gIx (ku false (fVs (cw D.da [.str "both",.str "loose",.str "place",.str "last",.str "drain",.str "either",.str "only",.str "copy",.str "merge",.str "place"]))) (jd 2 jj (ja (jb 0) (ja (fC (.da (.int 10))) jc)))))
  (jf (jm (jg (fOp gIn (jb 4) (jh (fVs (cw D.da [.str "copy",.str "merge"]))))) (jf (jq 5 (fCB j6 (ja (fSl false (jb 3) (kd (fC (.da (.int 1)))) (kd (fOp (jv false) (fC (.da (.int 2))) (jd 2 jj (ja (jb 0) (ja (fCB agz (ja (fC (.da (.int 4))) (ja (fOp ac0 (fCB jr (ja (jb 3) jc)) (fC (.da (.int 1)))) jc))) jc)))))) jc)))
  (ji (fIf (jg (fOp gEq (jb 4) (fC (.da (.str "copy"))))) (jh (ja (jb 4) (ja (fOp gIx (jb 3) (fC (.da (.int 0)))) (ja (jb 5) jc)))) (jh (ja (jb 4) (ja (jb 5) (ja (fOp gIx (jb 3) (fC (.da (.int 0)))) jc))))))) jl)
  (jf (jm (jg (fOp gIn (jb 4) (jh (fVs (cw D.da [.str "place",.str "last"]))))) (ji (jh (ja (jb 4) (ja (fOp gIx (jb 3) (fC (.da (.int 0)))) (ja (fOp gIx (jb 3) (fC (.da (.int 1)))) (ja (fOp gIx (ku false (ja (fC (.da (.none))) (ja (fC (.da (.none))) (ja (fC (.da (.int 0))) (ja (fOp ac0 (jb 1) (fC (.da (.int 1)))) jc))))) (jd 2 jj (ja (jb 0) (ja (fC (.da (.int 4))) jc)))) jc)))))) jl)
  (jf (jm (jg (fOp gEq (jb 4) (fC (.da (.str "only"))))) (ji (jh (ja (jb 4) (ja (fOp gIx (jb 3) (fC (.da (.int 0)))) (ja (fOp gIx (jb 3) (fC (.da (.int 1)))) (ja (fCB j6 (ja (fLc false [0] 1 (ab1 (ja (jb 1) jc)) (.nm 0) (jg (fOp gGt (jd 2 jj (ja (jb 1) (ja (fC (.da (.int 3))) jc))) (fC (.da (.int 0))))) (jb 0)) jc)) jc)))))) jl)
  (ji (jh (ja (jb 4) (ja (fOp gIx (jb 3) (fC (.da (.int 0)))) (ja (fOp gIx (jb 3) (fC (.da (.int 1)))) jc))))))))))
def zw:FF:=jx 6 B_law_part
theorem aps{a2:D}:zw [a0,a1,a2] s=(B_law_part [some a0,some a1,some a2,none,none,none] s).bind jt:=rfl
theorem sc_law_part:FnScope ["_law_feed_here","_law_things","_law_ports_here","_law_some","_law_word","_law_many"] ["_law_feed_here","_law_things","_law_ports_here"] (je afy):=⟨rfl,rfl,rfl,by decide+kernel,rfl,by decide+kernel,by decide+kernel⟩
theorem ok_law_part(T:Txt0 K mg):CalF P w K mg base "_law_part" 3 3 zw:=by walk_at "ok_law_part"
def B_law_nest(qh:FF):FS:=
  (jf (jq 4 (jd 2 v6 (ja (jb 0) (ja (fOp (jv false) (fCB af8 (ja (fC (.da (.int 2))) (ja (jb 3) jc))) (jd 2 jj (ja (jb 0) (ja (fC (.da (.int 3))) jc)))) jc))))
  (jf (jq 5 (ku true jc))
  (jf (y7 (ab1 (ja (jd 2 jj (ja (jb 0) (ja (fC (.da (.int 4))) jc))) jc)) (.nm 6) (jm (yf (jg (fOp gGt (jb 1) (fC (.da (.int 1))))) (jg (fOp gEq (jd 2 jj (ja (jb 0) (ja (fC (.da (.int 2))) jc))) (fC (.da (.int 0)))))) (jf (jq 7 (fSl false (jd 2 kl (ja (jb 0) (ja (jb 4) jc))) fNo (kd (jd 2 jj (ja (jb 0) (ja (fOp (jv false) (fCB agz (ja (fC (.da (.int 3))) (ja (fCB jr (ja (jb 4) jc)) jc))) (fC (.da (.int 1)))) jc))))))
  (vf (fMt qk (jb 5) (ja (jh (ja (fC (.da (.str "net"))) (ja (jd 4 qh (ja (jb 0) (ja (fOp ac0 (jb 1) (fC (.da (.int 1)))) (ja (jb 2) (ja (fCB jr (ja (jb 7) jc)) jc))))) (ja (fCB j6 (ja (jb 7) jc)) jc)))) jc)))) (vf (fMt qk (jb 5) (ja (jd 3 zw (ja (jb 0) (ja (jb 2) (ja (jb 4) jc)))) jc)))))
  (ji (jh (ja (jb 2) (ja (fCB j6 (ja (fSl false (jd 2 kl (ja (jb 0) (ja (jb 4) jc))) fNo (kd (jb 3))) jc)) (ja (fCB j6 (ja (jb 5) jc)) jc))))))))
def qh:Nat -> FF
 |0=> agt
 |n+1=> jx 8 (B_law_nest (qh n))
theorem sc_law_nest:FnScope ["_law_feed_here","_law_deep","_law_things","_law_seen","_law_ports_here","_law_parts","_law_k","_law_told_here"] ["_law_feed_here","_law_deep","_law_things","_law_seen"] (je ag9):=⟨rfl,rfl,rfl,by decide+kernel,rfl,by decide+kernel,by decide+kernel⟩
theorem ok_law_nest(T:Txt0 K mg): ∀n:Nat,CalF P w K mg base "_law_nest" (4+n) 4 (qh n)
 |0=> (abc (k:=3) T.h__law_nest sc_law_nest rfl)
 | n+1=> by
  have ih:=ok_law_nest T n
  have sc:=sc_law_nest
  exact ads (k:=4+n) T.h__law_nest sc rfl rfl fun f cdv A outer s H E I hx hr=> by
   unfold B_law_nest
   walk_at "dr"
def B_law_is_whole:FS:=
  (ji (xj (fCB k9 (ja (jb 0) (ja (fC (.ty "int")) jc))) (ax9 (fCB k9 (ja (jb 0) (ja (fC (.ty "bool")) jc))))))
def vn:FF:=jx 1 B_law_is_whole
theorem aia:vn [a0] s=(B_law_is_whole [some a0] s).bind jt:=rfl
theorem sc_law_is_whole:FnScope ["_law_thing"] ["_law_thing"] (je acd):=⟨rfl,rfl,rfl,by decide+kernel,rfl,by decide+kernel,by decide+kernel⟩
theorem ok_law_is_whole(T:Txt0 K mg):CalF P w K mg base "_law_is_whole" 1 1 vn:=by walk_at "ok_law_is_whole"
def B_law_is_port:FS:=
  (jf (jq 1 (fC (.da (.str "abcdefghijklmnopqrstuvwxyz"))))
  (ji (xj (fCB k9 (ja (jb 0) (ja (fC (.ty "str")) jc))) (xj (vo gLt gLt (fC (.da (.int 0))) (fCB jr (ja (jb 0) jc)) (fC (.da (.int 9)))) (fOp gEq (fLc false [1] 1 (aqb (jb 0)) (.nm 0) (jg (fOp qu (jb 0) (jb 1))) (jb 0)) (ku false jc))))))
def yy:FF:=jx 2 B_law_is_port
theorem akm:yy [a0] s=(B_law_is_port [some a0,none] s).bind jt:=rfl
theorem sc_law_is_port:FnScope ["_law_thing","_law_letters"] ["_law_thing"] (je acz):=⟨rfl,rfl,rfl,by decide+kernel,rfl,by decide+kernel,by decide+kernel⟩
theorem ok_law_is_port(T:Txt0 K mg):CalF P w K mg base "_law_is_port" 1 1 yy:=by walk_at "ok_law_is_port"
def B_law_are_ports:FS:=
  (jf (jm (kz (ju (j2 (fCB k9 (ja (jb 0) (ja (fC (.ty "tuple")) jc))))) (jg (fOp gNe (fLc false [] 1 (fIt (jb 0)) (.nm 0) (ju (j2 (jd 1 yy (ja (jb 0) jc)))) (jb 0)) (ku false jc)))) (ji (fC (.da (.bool false)))) jl)
  (ji (fOp gEq (fCB act (ja (jb 0) jc)) (fCB jr (ja (jb 0) jc)))))
def j3:FF:=jx 1 B_law_are_ports
theorem ahz:j3 [a0] s=(B_law_are_ports [some a0] s).bind jt:=rfl
theorem sc_law_are_ports:FnScope ["_law_thing"] ["_law_thing"] (je abk):=⟨rfl,rfl,rfl,by decide+kernel,rfl,by decide+kernel,by decide+kernel⟩
theorem ok_law_are_ports(T:Txt0 K mg):CalF P w K mg base "_law_are_ports" 2 1 j3:=by walk_at "ok_law_are_ports"
def B_law_are_told:FS:=
  (jf (jm (kz (ju (j2 (fCB k9 (ja (jb 1) (ja (fC (.ty "tuple")) jc))))) (jg (fOp gNe (fLc false [] 1 (fIt (jb 1)) (.nm 0) (ju (j2 (jd 1 vn (ja (jb 0) jc)))) (jb 0)) (ku false jc)))) (ji (fC (.da (.bool false)))) jl)
  (ji (xj (fOp gEq (fCB (v9 false) (ja (jb 1) jc)) (fCB (ac9 false) (ja (jb 1) jc))) (fOp gEq (fLc false [0] 1 (fIt (jb 1)) (.nm 0) (ju (jg (vo gLe gLt (fC (.da (.int 0))) (jb 0) (jb 1)))) (jb 0)) (ku false jc)))))
def xc:FF:=jx 2 B_law_are_told
theorem aj3:xc [a0,a1] s=(B_law_are_told [some a0,some a1] s).bind jt:=rfl
theorem sc_law_are_told:FnScope ["_law_things","_law_thing"] ["_law_things","_law_thing"] (je acg):=⟨rfl,rfl,rfl,by decide+kernel,rfl,by decide+kernel,by decide+kernel⟩
theorem ok_law_are_told(T:Txt0 K mg):CalF P w K mg base "_law_are_told" 2 2 xc:=by walk_at "ok_law_are_told"
def B_law_is_plain:FS:=
  (jf (jm (kz (ju (j2 (fCB k9 (ja (jb 1) (ja (fC (.ty "tuple")) jc))))) (kz (jg (fOp qu (fCB jr (ja (jb 1) jc)) (jh (fVs (cw D.da [.int 3,.int 4]))))) (ju (j2 (fCB k9 (ja (fOp gIx (jb 1) (fC (.da (.int 0)))) (ja (fC (.ty "str")) jc))))))) (ji (fC (.da (.bool false)))) jl)
  (jf (jq 2 (fCB agl (ja (fOp gEq (fOp gIx (jb 1) (fC (.da (.int 0)))) (fC (.da (.str "merge")))) jc)))
  (jf (jm (jg (fOp gIn (fOp gIx (jb 1) (fC (.da (.int 0)))) (jh (fVs (cw D.da [.str "copy",.str "merge"]))))) (jf (jq 3 (fOp gIx (jb 1) (fOp ac0 (fC (.da (.int 2))) (jb 2))))
  (jf (jm (kz (ju (j2 (fCB k9 (ja (jb 3) (ja (fC (.ty "tuple")) jc))))) (ju (jg (vo gLe gLe (fC (.da (.int 1))) (fCB jr (ja (jb 3) jc)) (fC (.da (.int 12))))))) (ji (fC (.da (.bool false)))) jl)
  (ji (xj (fOp gEq (fCB jr (ja (jb 1) jc)) (fC (.da (.int 3)))) (jd 1 j3 (ja (fOp (jv false) (jb 3) (jh (ja (fOp gIx (jb 1) (fOp (jv false) (fC (.da (.int 1))) (jb 2))) jc))) jc)))))) jl)
  (jf (jm (ju (j2 (jd 1 j3 (ja (fSl false (jb 1) (kd (fC (.da (.int 1)))) (kd (fC (.da (.int 3))))) jc)))) (ji (fC (.da (.bool false)))) jl)
  (jf (jm (jg (fOp gIn (fOp gIx (jb 1) (fC (.da (.int 0)))) (jh (fVs (cw D.da [.str "both",.str "loose",.str "drain",.str "either"]))))) (ji (fOp gEq (fCB jr (ja (jb 1) jc)) (fC (.da (.int 3))))) jl)
  (jf (jm (jg (fOp gIn (fOp gIx (jb 1) (fC (.da (.int 0)))) (jh (fVs (cw D.da [.str "place",.str "last"]))))) (ji (xj (fOp gEq (fCB jr (ja (jb 1) jc)) (fC (.da (.int 4)))) (fOr (fOp gIs (fOp gIx (jb 1) (fC (.da (.int 3)))) (fC (.da (.none)))) (jd 2 xc (ja (jb 0) (ja (jh (ja (fOp gIx (jb 1) (fC (.da (.int 3)))) jc)) jc)))))) jl)
  (ji (xj (fOp gEq (fOp gIx (jb 1) (fC (.da (.int 0)))) (fC (.da (.str "only")))) (xj (fOp gEq (fCB jr (ja (jb 1) jc)) (fC (.da (.int 4)))) (jd 2 xc (ja (jb 0) (ja (fOp gIx (jb 1) (fC (.da (.int 3)))) jc))))))))))))
def qy:FF:=jx 4 B_law_is_plain
theorem aab:qy [a0,a1] s=(B_law_is_plain [some a0,some a1,none,none] s).bind jt:=rfl
theorem sc_law_is_plain:FnScope ["_law_things","_law_part_here","_law_turned","_law_many"] ["_law_things","_law_part_here"] (je acj):=⟨rfl,rfl,rfl,by decide+kernel,rfl,by decide+kernel,by decide+kernel⟩
theorem ok_law_is_plain(T:Txt0 K mg):CalF P w K mg base "_law_is_plain" 3 2 qy:=by walk_at "ok_law_is_plain"
def B_law_fault(k6:FF):FS:=
  (jf (jm (kz (ju (j2 (fCB k9 (ja (jb 0) (ja (fC (.ty "tuple")) jc))))) (kz (jg (fOp gNe (fCB jr (ja (jb 0) jc)) (fC (.da (.int 3))))) (jg (fOp gGt (jb 2) (fC (.da (.int 4))))))) (ji (jh (ja (fC (.da (.str "net"))) (ja (jb 1) jc)))) jl)
  (jf (jm (kz (ju (j2 (jd 1 vn (ja (fOp gIx (jb 0) (fC (.da (.int 0)))) jc)))) (ju (jg (vo gLe gLe (fC (.da (.int 1))) (fOp gIx (jb 0) (fC (.da (.int 0)))) (fC (.da (.int 3))))))) (ji (jh (ja (fC (.da (.str "things"))) (ja (jb 1) jc)))) jl)
  (jf (jm (kz (ju (j2 (jd 1 j3 (ja (fOp gIx (jb 0) (fC (.da (.int 1)))) jc)))) (jg (fOp gGt (fCB jr (ja (fOp gIx (jb 0) (fC (.da (.int 1)))) jc)) (fC (.da (.int 6)))))) (ji (jh (ja (fC (.da (.str "seen"))) (ja (jb 1) jc)))) jl)
  (jf (jm (ju (j2 (fCB k9 (ja (fOp gIx (jb 0) (fC (.da (.int 2)))) (ja (fC (.ty "tuple")) jc))))) (ji (jh (ja (fC (.da (.str "parts"))) (ja (jb 1) jc)))) jl)
  (jf (y7 (ab1 (ja (fCB jr (ja (fOp gIx (jb 0) (fC (.da (.int 2)))) jc)) jc)) (.nm 3) (jf (jq 4 (fOp gIx (fOp gIx (jb 0) (fC (.da (.int 2)))) (jb 3)))
  (jm (yf (j2 (fCB k9 (ja (jb 4) (ja (fC (.ty "tuple")) jc)))) (yf (jg (fOp gEq (fCB jr (ja (jb 4) jc)) (fC (.da (.int 3))))) (yf (jg (fOp gEq (fOp gIx (jb 4) (fC (.da (.int 0)))) (fC (.da (.str "net"))))) (j2 (jd 1 j3 (ja (fOp gIx (jb 4) (fC (.da (.int 2)))) jc)))))) (jf (jq 5 (jd 3 k6 (ja (fOp gIx (jb 4) (fC (.da (.int 1)))) (ja (fOp (jv false) (jb 1) (jh (ja (jb 3) jc))) (ja (fOp (jv false) (jb 2) (fC (.da (.int 1)))) jc)))))
  (jf (jm (jg (fOp abm (jb 5) (fC (.da (.none))))) (ji (jb 5)) jl)
  (jm (jg (fOp gNe (jh (ja (fOp gIx (fOp gIx (jb 4) (fC (.da (.int 1)))) (fC (.da (.int 0)))) (ja (fCB jr (ja (fOp gIx (fOp gIx (jb 4) (fC (.da (.int 1)))) (fC (.da (.int 1)))) jc)) jc))) (jh (ja (fOp gIx (jb 0) (fC (.da (.int 0)))) (ja (fCB jr (ja (fOp gIx (jb 4) (fC (.da (.int 2)))) jc)) jc))))) (ji (jh (ja (fC (.da (.str "part"))) (ja (fOp (jv false) (jb 1) (jh (ja (jb 3) jc))) jc)))) jl))) (jm (ju (j2 (jd 2 qy (ja (fOp gIx (jb 0) (fC (.da (.int 0)))) (ja (jb 4) jc))))) (ji (jh (ja (fC (.da (.str "part"))) (ja (fOp (jv false) (jb 1) (jh (ja (jb 3) jc))) jc)))) jl))))
  (ji (fC (.da (.none)))))))))
def k6:Nat -> FF
 |0=> agt
 |n+1=> jx 6 (B_law_fault (k6 n))
theorem agb{a2:D}:k6 (n+1) [a0,a1,a2] s=(B_law_fault (k6 n) [some a0,some a1,some a2,none,none,none] s).bind jt:=rfl
theorem sc_law_fault:FnScope ["_law_thing","_law_path","_law_deep","_law_k","_law_part_here","_law_found"] ["_law_thing","_law_path","_law_deep"] (je af6):=⟨rfl,rfl,rfl,by decide+kernel,rfl,by decide+kernel,by decide+kernel⟩
theorem ok_law_fault(T:Txt0 K mg): ∀n:Nat,CalF P w K mg base "_law_fault" (4+n) 3 (k6 n)
 |0=> (abc (k:=3) T.h__law_fault sc_law_fault rfl)
 | n+1=> by
  have ih:=ok_law_fault T n
  have sc:=sc_law_fault
  exact ads (k:=4+n) T.h__law_fault sc rfl rfl fun f cdv A outer s H E I hx hr=> by
   unfold B_law_fault
   walk_at "dr"
def B_law_count(vb:FF):FS:=
  (ji (fOp (jv false) (fCB jr (ja (fOp gIx (jb 0) (fC (.da (.int 2)))) jc)) (fCB aqh (ja (fLc false [] 1 (fIt (fOp gIx (jb 0) (fC (.da (.int 2))))) (.nm 0) (jg (fOp gEq (fOp gIx (jb 0) (fC (.da (.int 0)))) (fC (.da (.str "net"))))) (jd 1 vb (ja (fOp gIx (jb 0) (fC (.da (.int 1)))) jc))) jc))))
def vb:Nat -> FF
 |0=> agt
 |n+1=> jx 1 (B_law_count (vb n))
theorem ana:vb (n+1) [a0] s=(B_law_count (vb n) [some a0] s).bind jt:=rfl
theorem sc_law_count:FnScope ["_law_net"] ["_law_net"] (je aeh):=⟨rfl,rfl,rfl,by decide+kernel,rfl,by decide+kernel,by decide+kernel⟩
theorem ok_law_count(T:Txt0 K mg): ∀n:Nat,CalF P w K mg base "_law_count" (1+n) 1 (vb n)
 |0=> (abc (k:=0) T.h__law_count sc_law_count rfl)
 | n+1=> by
  have ih:=ok_law_count T n
  have sc:=sc_law_count
  exact ads (k:=1+n) T.h__law_count sc rfl rfl fun f cdv A outer s H E I hx hr=> by
   unfold B_law_count
   walk_at "dr"
def B_law_told:FS:=
  (jf (jq 3 (jh (ja (fC (.da (.str "other"))) jc)))
  (jf (abj xb xcs "MannerError" (some 4) (jm (jg (fOp gEq (jb 0) (fC (.da (.int 0))))) (jq 3 (jd 2 abf (ja (jb 1) (ja (jb 2) jc)))) (jq 3 (fIf (jg (fOp gEq (jb 0) (fC (.da (.int 1))))) (jd 2 xv (ja (jb 1) (ja (jb 2) jc))) (jd 2 abd (ja (jb 1) (ja (jb 2) jc)))))) (jm (yf (j2 (fCB (aek xb xcs) (ja (jb 4) (ja (fC (.fn "NoJoin")) jc)))) (ju (j2 (ar1 xb xcs ["NoAlike","NoMoment","NoNet","NoText","TooMany"] (jb 4))))) (jq 3 (fIf (j2 (fCB (aek xb xcs) (ja (jb 4) (ja (fC (.ty "ValueError")) jc)))) (aks xb xcs xfl "word" (jb 4)) (jh (ja (fC (.da (.str "other"))) jc)))) jl))
  (ji (jb 3))))
def vk:FF:=jx 5 B_law_told
theorem aqx{a2:D}:vk [a0,a1,a2] s=(B_law_told [some a0,some a1,some a2,none,none] s).bind jt:=rfl
theorem sc_law_told:FnScope ["_law_way","_law_one","_law_thing","_law_found","e"] ["_law_way","_law_one","_law_thing"] (je ag8):=⟨rfl,rfl,rfl,by decide+kernel,rfl,by decide+kernel,by decide+kernel⟩
theorem ok_law_told(T:Txt0 K mg):CalF P w K mg base "_law_told" 21 3 vk:=by
 have cbeside:=okbeside (P:=P) (w:=w) (base:=base) T
 have chidden_net:=okhidden_net (P:=P) (w:=w) (base:=base) T
 have ccalled:=okcalled (P:=P) (w:=w) (base:=base) T
 exact ads (k:=20) T.h__law_told sc_law_told rfl rfl (fun f cdv A outer s H E I hx hr=>
   (vh (abu (i:=3) sc_law_told.nd rfl (cM rfl) (an3 (jk zk j9)))
   (vh (awv 4 T.x ⟨rfl,rfl⟩ sc_law_told.nd rfl rfl rfl (fun I _ _ hx=> (kh (aca (ahq (axi (u64 hr)) (jp 0) ahb) (kh (abu (i:=3) sc_law_told.nd rfl (cM rfl) (ab0 cbeside (hr.mono (by decide)) (jk (jp 1) (jk (jp 2) j9))))) (kh (abu (i:=3) sc_law_told.nd rfl (cM rfl) (ayc (ahq (axi (u64 hr)) (jp 0) ahb) (ab0 chidden_net (hr.mono (by decide)) (jk (jp 1) (jk (jp 2) j9))) (ab0 ccalled (hr.mono (by decide)) (jk (jp 1) (jk (jp 2) j9))))))))) (fun I _ hx=> (kh (aca (RW.rt (a4g (zm (ym (ay0 T.x) T.n_isinstance xa (jk (jp 4) (jk (a34 T.x rfl) j9)))) (ayq (ad4 (zm (a59 T.x T.n_isinstance (jp 4) (abz T.x rfl (abz T.x rfl (abz T.x rfl (abz T.x rfl (abz T.x rfl a08))))))))))) (kh (abu (i:=3) sc_law_told.nd rfl (cM rfl) (ayc (zm (ym (ay0 T.x) T.n_isinstance xa (jk (jp 4) (jk (aa1 T.n_ValueError PyProof.Rows.Boot.«ValueError») j9)))) (az1 T.x (jp 4)) (an3 (jk zk j9))))) abe))))
   (kh (amc (jp 3))))))
def B_law_due:FS:=
  (jf (jm (jg (fOp gEq (jb 0) (fC (.da (.int 0))))) (jf (jm (jg (fOp gNe (fOp gIx (jb 1) (fC (.da (.int 0)))) (fOp gIx (jb 2) (fC (.da (.int 0)))))) (ji (fC (.da (.str "things")))) jl)
  (jf (jq 3 (fOp (jv false) (fCB (v9 false) (ja (fOp gIx (jb 1) (fC (.da (.int 1)))) jc)) (fLc false [1] 1 (fIt (fOp gIx (jb 2) (fC (.da (.int 1))))) (.nm 0) (jg (fOp qu (jb 0) (fOp gIx (jb 1) (fC (.da (.int 1)))))) (jb 0))))
  (jf (jm (jg (fOp gGt (fCB jr (ja (jb 3) jc)) (fC (.da (.int 6))))) (ji (fC (.da (.str "seen")))) jl)
  (jq 4 (jh (ja (fOp gIx (jb 1) (fC (.da (.int 0)))) (ja (fCB j6 (ja (jb 3) jc)) (ja (jh (ja (jh (ja (fC (.da (.str "net"))) (ja (jb 1) (ja (fOp gIx (jb 1) (fC (.da (.int 1)))) jc)))) (ja (jh (ja (fC (.da (.str "net"))) (ja (jb 2) (ja (fOp gIx (jb 2) (fC (.da (.int 1)))) jc)))) jc))) jc)))))))) (jm (jg (fOp gEq (jb 0) (fC (.da (.int 1))))) (jf (jm (jg (fOp gNe (fLc false [1] 1 (fIt (jb 2)) (.nm 0) (jg (fOp qu (jb 0) (fOp gIx (jb 1) (fC (.da (.int 1)))))) (jb 0)) (ku false jc))) (ji (fC (.da (.str "ports")))) jl)
  (jq 4 (jh (ja (fOp gIx (jb 1) (fC (.da (.int 0)))) (ja (fCB j6 (ja (fLc false [2] 1 (fIt (fOp gIx (jb 1) (fC (.da (.int 1))))) (.nm 0) (jg (fOp qu (jb 0) (jb 1))) (jb 0)) jc)) (ja (jh (ja (jh (ja (fC (.da (.str "net"))) (ja (jb 1) (ja (fOp gIx (jb 1) (fC (.da (.int 1)))) jc)))) jc)) jc)))))) (jf (jm (kz (ju (j2 (jd 1 j3 (ja (jb 2) jc)))) (jg (fOp gNe (fCB jr (ja (jb 2) jc)) (fCB jr (ja (fOp gIx (jb 1) (fC (.da (.int 1)))) jc))))) (ji (fC (.da (.str "names")))) jl)
  (jq 4 (jh (ja (fOp gIx (jb 1) (fC (.da (.int 0)))) (ja (jb 2) (ja (jh (ja (jh (ja (fC (.da (.str "net"))) (ja (jb 1) (ja (jb 2) jc)))) jc)) jc))))))))
  (ji (fIf (kz (jg (fOp abm (jd 3 (k6 8) (ja (jb 4) (ja (jh jc) (ja (fC (.da (.int 1))) jc)))) (fC (.da (.none))))) (jg (fOp gGt (jd 1 (vb 8) (ja (jb 4) jc)) (fC (.da (.int 120)))))) (fC (.da (.str "many"))) (jb 4))))
def xh:FF:=jx 5 B_law_due
theorem aer{a2:D}:xh [a0,a1,a2] s=(B_law_due [some a0,some a1,some a2,none,none] s).bind jt:=rfl
theorem sc_law_due:FnScope ["_law_way","_law_one","_law_thing","_law_seen","_law_due_here"] ["_law_way","_law_one","_law_thing"] (je ahj):=⟨rfl,rfl,rfl,by decide+kernel,rfl,by decide+kernel,by decide+kernel⟩
theorem ok_law_due(T:Txt0 K mg):CalF P w K mg base "_law_due" 13 3 xh:=by walk_at "ok_law_due"
def B_law_wide:FS:=
  (jf (jq 2 (fSl false (ku false (fVs (cw D.da [.str "s",.str "t",.str "u",.str "a",.str "b",.str "c"]))) (kd (jd 2 jj (ja (jb 0) (ja (fC (.da (.int 4))) jc)))) fNo))
  (ji (jh (ja (jb 1) (ja (fCB j6 (ja (jb 2) jc)) (ja (fOp (aad false) (jh (ja (jh (fVs (cw D.da [.str "drain",.str "a",.str "b"]))) jc)) (fOp (jv false) (fC (.da (.int 56))) (jd 2 jj (ja (jb 0) (ja (fC (.da (.int 5))) jc))))) jc))))))
def xm:FF:=jx 3 B_law_wide
theorem api:xm [a0,a1] s=(B_law_wide [some a0,some a1,none] s).bind jt:=rfl
theorem sc_law_wide:FnScope ["_law_feed_here","_law_things","_law_ports_here"] ["_law_feed_here","_law_things"] (je ag5):=⟨rfl,rfl,rfl,by decide+kernel,rfl,by decide+kernel,by decide+kernel⟩
theorem ok_law_wide(T:Txt0 K mg):CalF P w K mg base "_law_wide" 2 2 xm:=by walk_at "ok_law_wide"
def Blaw:FS:=
  (jf (jq 1 (jd 1 zo (ja (jb 0) jc)))
  (jf (jq 2 (fOp (jv false) (fC (.da (.int 1))) (jd 2 jj (ja (jb 1) (ja (fC (.da (.int 3))) jc)))))
  (jf (jq 3 (fLc false [1,2] 1 (ab1 (ja (fC (.da (.int 3))) jc)) (.nm 0) aac (jd 4 (qh 8) (ja (jb 1) (ja (fOp (jv false) (fC (.da (.int 1))) (jd 2 jj (ja (jb 1) (ja (fC (.da (.int 4))) jc)))) (ja (jb 2) (ja (jd 2 jj (ja (jb 1) (ja (fC (.da (.int 4))) jc))) jc)))))))
  (jf (jq 3 (fOp (jv false) (jb 3) (ku false (ja (jd 4 (qh 8) (ja (jb 1) (ja (fC (.da (.int 1))) (ja (fOp (jv false) (fC (.da (.int 1))) (jd 2 jj (ja (jb 1) (ja (fC (.da (.int 3))) jc)))) (ja (fC (.da (.int 2))) jc))))) (ja (jd 2 xm (ja (jb 1) (ja (jb 2) jc))) (ja (jd 2 xm (ja (jb 1) (ja (jb 2) jc))) jc))))))
  (jf (y7 (fIt (jb 3)) (.nm 4) (jf (jq 5 (fLc true [] 1 (fIt (jb 3)) (.nm 0) aac (jh (ja (fC (.da (.int 0))) (ja (jb 0) jc)))))
  (jf (y7 (ab1 (ja (fC (.da (.int 3))) jc)) (.nm 6) (jf (jq 7 (jd 2 kl (ja (jb 1) (ja (fOp (jv false) (fCB (v9 false) (ja (fOp gIx (jb 4) (fC (.da (.int 1)))) jc)) (fSl false (fCB (v9 false) (ja (fOp gIx (jb 4) (fC (.da (.int 1)))) jc)) fNo (kd (fC (.da (.int 1)))))) jc))))
  (vf (fMt qk (jb 5) (ja (jh (ja (fC (.da (.int 1))) (ja (fCB j6 (ja (fOp (jv false) (fSl false (jb 7) fNo (kd (jd 2 jj (ja (jb 1) (ja (fOp (jv false) (fCB jr (ja (jb 7) jc)) (fC (.da (.int 1)))) jc))))) (fOp (aad false) (ku false (ja (fC (.da (.str "zz"))) jc)) (fCB agl (ja (fOp gEq (jd 2 jj (ja (jb 1) (ja (fC (.da (.int 4))) jc))) (fC (.da (.int 0)))) jc)))) jc)) jc))) jc)))))
  (jf (jq 8 (fSl false (jd 2 v6 (ja (jb 1) (ja (fCB af8 (ja (fC (.da (.int 2))) (ja (fCB jr (ja (fOp gIx (jb 4) (fC (.da (.int 1)))) jc)) jc))) jc))) fNo (kd (fCB jr (ja (fOp gIx (jb 4) (fC (.da (.int 1)))) jc)))))
  (jf (jq 5 (fOp (jv true) (jb 5) (ku true (ja (jh (ja (fC (.da (.int 2))) (ja (fCB j6 (ja (jb 8) jc)) jc))) (ja (jh (ja (fC (.da (.int 2))) (ja (fOp (jv false) (fCB j6 (ja (jb 8) jc)) (jh (ja (fC (.da (.str "yy"))) jc))) jc))) (ja (jh (ja (fC (.da (.int 2))) (ja (fCB j6 (ja (fSl false (jb 8) (kd (fC (.da (.int 1)))) fNo) jc)) jc))) (ja (jh (ja (fC (.da (.int 2))) (ja (fCB (v9 false) (ja (jb 8) jc)) jc))) jc)))))))
  (jf (jq 5 (fOp (jv true) (jb 5) (ku true (ja (jh (ja (fC (.da (.int 2))) (ja (fCB j6 (ja (fOp (aad false) (fSl false (jb 8) fNo (kd (fC (.da (.int 1))))) (fCB jr (ja (jb 8) jc))) jc)) jc))) (ja (jh (fVs (cw D.da [.int 2,.none]))) (ja (jh (fVs (cw D.da [.int 2,.str "ab"]))) (ja (jh (ja (fC (.da (.int 2))) (ja (fCB j6 (ja (fOp (jv false) (ku false (ja (fC (.da (.str "A"))) jc)) (fSl false (jb 8) (kd (fC (.da (.int 1)))) fNo)) jc)) jc))) jc)))))))
  (y7 (fIt (jb 5)) (.t2 (.nm 9) (.nm 10)) (jf (jq 11 (fCB yh (ja (ku false (ja (jb 4) (ja (jb 10) jc))) jc)))
  (jm (kz (jg (fOp gNe (fCB yh (ja (jd 3 vk (ja (jb 9) (ja (jb 4) (ja (jb 10) jc)))) jc)) (fCB yh (ja (jd 3 xh (ja (jb 9) (ja (jb 4) (ja (jb 10) jc)))) jc)))) (jg (fOp gNe (fCB yh (ja (ku false (ja (jb 4) (ja (jb 10) jc))) jc)) (jb 11)))) (ji (fC (.da (.bool false)))) jl)))))))))
  (ji (fC (.da (.bool true)))))))))
def axl:FF:=jx 12 Blaw
theorem a8l:axl [a0] s=(Blaw [some a0,none,none,none,none,none,none,none,none,none,none,none] s).bind jt:=rfl
theorem sclaw:FnScope ["_law_script","_law_feed_here","_law_things","_law_nets","_law_one","_law_rows","_law_k","_law_some","_law_names","_law_way","_law_thing","_law_kept"] ["_law_script"] (je aaf):=⟨rfl,rfl,rfl,by decide+kernel,rfl,by decide+kernel,by decide+kernel⟩
theorem a77{f:Addr}(F:Fun K "law" "law" aaf f fd)(T:Txt0 K mg):FnOk P w K mg base (CX1 P w) 22 f fd ["_law_script"] (spF K 1 axl):=by
 have sc:=sclaw
 exact fnF (k:=21) F sc rfl rfl fun f cdv A outer s H E I hx hr=> by
  unfold Blaw
  walk_at "dr"
end Ln
namespace PF
open PySem PySem.Spec PyProof.Rows
open L2
variable[XW]
end PF
namespace PF
open PySem L2
variable{ρ:En}{s:S}{ct:a7r}{f m C:Str}{n k:Nat}{fs:List (Str×D)}{x d:D}
end PF
local macro_rules | `(tactic| walk_at "ev") => do
  let ns := "PF.R.calm_ok PF.R.at_ok PF.R.W_calm PF.R.W_at PF.a94 PF.bc6 PF.bay PF.bbc PF.bc5 PF.bb1 PF.a98 PF.a8f PF.a81 PF.a9i PF.a9j PF.a9s PF.a91 PF.a99 PF.a5q PF.bc8 PF.bbv PF.bc3 PF.e_c PF.baf PF.ba6 PF.a9y PF.bam PF.ba1 PF.bav PF.ba2 PF.bab PF.bac PF.ba8 PF.a9k PF.a9b PF.ayj PF.bb2 PF.bbe PF.bby PF.bag PF.ba0 PF.bas PF.a90 PF.axv PF.bbw PF.ayi PF.bbz PF.bce PF.bb6 PF.bb5 PF.bai PF.aov PF.bar PF.bbh PF.a9w PF.a9q PF.a9a PF.ba4 PF.bat PF.a9n PF.bc4 PF.bcp PF.ba3 PF.ban PF.bbg PF.bc2 PF.a9c PF.a8k PF.a84 PF.a7z PF.a8x PF.bbu PF.bch PF.ba5 PF.a9o PF.aj2 PF.bbt PF.bbj PF.bcg PF.bcj PF.bbm PF.bck PF.bcd PF.bcc PF.bcn PF.bcb PF.bcq PF.bco PF.bcl PF.bcm PF.bbk PF.bbr PF.bbq PF.bcf PF.bb9 PF.a9h PF.bbi PF.bb3 PF.bc9 PF.baw PF.a9l PF.a9p PF.a9r PF.a9m PF.a1l PF.a97 PF.a95 PF.a7n PF.a7t PF.a7h PF.a7i PF.a92 PF.a96 PF.a8y PF.asm PF.baj PF.ba7 PF.a9t PF.a9u PF.a9d PF.a8i PF.a86 PF.a8j PF.bcr PF.bc0 PF.bc7 PF.bbo PF.bbn PF.bal PF.bca PF.bau PF.ba9 PF.bc1 PF.ao7 PF.azb PF.ao1 PF.aoe PF.bci PF.bax PF.bbd PF.awf PF.ali PF.an2 PF.am2 PF.bbx PF.R.bind_ok' PF.R.W_ok' PF.R.Wk_app PF.bb8 PF.baq PF.bb7 PF.baz PF.bak PF.a9v PF.bb4 PF.a9f PF.axu Bool.not_true Bool.not_false decide_true decide_false Bool.and_true Bool.and_false Bool.true_and Bool.false_and List.length_append List.length_cons List.length_nil List.append_assoc List.cons_append List.nil_append Nat.zero_add Nat.reduceAdd PF.bbp PF.bbs PF.a8z PF.a9g Nat.reduceLeDiff PF.it0 PF.it1 PF.it2 PF.it3 if_true if_false Bool.false_eq_true".splitOn " "
  let ids : Array (hV `term) := ns.toArray.map fun n => bO n.toName
  `(tactic| try simp only [$[$ids:term],*])
local macro_rules | `(tactic| walk_at "go") => `(tactic| (walk_at "ev"; (try simp only [PF.R.W_bindk, PF.R.W_at, PF.R.W_calm])))
namespace Ln
open PySem L2 PF
section
variable{s:S}{n:Nat}{a b c d v:D}
theorem ix4(k:Nat){ds:List D}{x:D}(hl:n < s.length)(h:ds[k]?=some x):gIx (.ref n) (.int (k:Int)) (s.set n (.lst ds))=.ok x (s.set n (.lst ds)):=ant (bh hl) h
theorem st4(k:Nat){ds:List D}(hl:n < s.length)(h:k < ds.length):ab3 (.ref n) (.int (k:Int)) v (s.set n (.lst ds))=.ok .non (s.set n (.lst (ds.set k v))):=by
 rw [aux (bh hl) h,List.set_set]
theorem ix0(hl:n < s.length):gIx (.ref n) (.int 0) (s.set n (.lst [a,b,c,d]))=.ok a (s.set n (.lst [a,b,c,d])):=ix4 0 hl rfl
theorem ix1(hl:n < s.length):gIx (.ref n) (.int 1) (s.set n (.lst [a,b,c,d]))=.ok b (s.set n (.lst [a,b,c,d])):=ix4 1 hl rfl
theorem ix2(hl:n < s.length):gIx (.ref n) (.int 2) (s.set n (.lst [a,b,c,d]))=.ok c (s.set n (.lst [a,b,c,d])):=ix4 2 hl rfl
theorem ix3(hl:n < s.length):gIx (.ref n) (.int 3) (s.set n (.lst [a,b,c,d]))=.ok d (s.set n (.lst [a,b,c,d])):=ix4 3 hl rfl
theorem st1(hl:n < s.length):ab3 (.ref n) (.int 1) v (s.set n (.lst [a,b,c,d]))=.ok .non (s.set n (.lst [a,v,c,d])):=st4 1 hl (by simp)
theorem st2(hl:n < s.length):ab3 (.ref n) (.int 2) v (s.set n (.lst [a,b,c,d]))=.ok .non (s.set n (.lst [a,b,v,d])):=st4 2 hl (by simp)
theorem st3(hl:n < s.length):ab3 (.ref n) (.int 3) v (s.set n (.lst [a,b,c,d]))=.ok .non (s.set n (.lst [a,b,c,v])):=st4 3 hl (by simp)
end
structure Fd (s:S) (n c:Nat):Prop where
 ex: ∃(xs:List Int) (i j k:Int),s[n]?=some (.lst [.lst (xs.map aE),.int i,.int j,.int k])/\xs.length <=63/\0 <=i/\0 <=k/\k <=c
theorem Fd.lt(h:Fd s n c):n < s.length:=by
 obtain⟨xs,i,j,k,e,_⟩:=h.ex
 exact (aA.mp e).1
theorem afb{xs:List Int}{k:Int}(hl:n < s.length)(hx:xs.length <=63)(hi:0 <=i)(hk:0 <=k)(hc:k <=c):Fd (s.set n (.lst [.lst (xs.map aE),.int i,.int j,.int k])) n c:=⟨xs,i,j,k,bh hl,hx,hi,hk,hc⟩
theorem aiw(xs:List ae):aK (.list xs) (.list [])=xs.isEmpty:=by cases xs <;> rfl
theorem alv: ∀xs:List Int,bT (xs.map aE)=true
 |[]=> rfl
 |x::r=> by simp only [aJ,bT,f9,alv r,gD]
theorem ahr: ∀xs:List Int,bv (xs.map aE) <=1
 |[]=> by (simp [bv])
 |x::r=> by simp only [aJ,bv,aV];have:=ahr r;lia
theorem ags(xs:List Int):okD (.list (xs.map aE))=true:=by
 unfold okD
 rw [aH]
 refine⟨by simp only [f9];exact alv xs,decide_eq_true ?_⟩
 simp only [aV]
 have:=ahr xs
 lia
theorem kv(h:Fd s n c)(hm:0 < m)(hm2:m < 1073741824)(hc:c < 2^40):(jj [.ref n,.int m] s).W fun d s'=> ∃i,d=.int i/\0 <=i/\i < m/\Fd s' n (c+1)/\ky n s s':=by
 obtain⟨xs,i,j,k,e,hx,hi,hk,hkc⟩:=h.ex
 have hl:n < s.length:=(aA.mp e).1
 have e0:jj [.ref n,.int m] s=jj [.ref n,.int m] (s.set n (.lst [.lst (xs.map aE),.int i,.int j,.int k])):=by rw [aws e]
 rw [e0,aqo];unfold B_law_draw
 have fin: ∀x:Int,0 <=x % m/\x % m < m:=fun x=> ⟨Int.emod_nonneg _ (by lia),Int.emod_lt_of_pos _ hm⟩
 have p18: ∀s:S,aqt (.int 10) (.int 18) s=.ok (.int 1000000000000000000) s:=fun s=> awe (by decide) (by decide) (by decide)
 by_cases hj:0 < j
 ·simp [ix0 hl,ix1 hl,ix2 hl,ix3 hl,st1 hl,st2 hl,st3 hl,hj,xi hm,y9 hm hm2]
  exact⟨(fin _).1,(fin _).2,afb hl hx hi (by lia) (by lia),ac5⟩
 ·have q1: ∀(x:Int) (s:S),zx (.int x) (.int 998244353) s=.ok (.int (x % 998244353)) s:=fun x s=> xi (by decide)
  have q2: ∀(x:Int) (s:S),zz (.int 5003) (.int x) s=.ok (.int (5003*x)) s:=fun x s=> abt (.inl (by decide))
  have q3: ∀(x:Int) (s:S),zz (.int x) (.int 69621) s=.ok (.int (x*69621)) s:=fun x s=> abt (.inr (by decide))
  have q4: ∀(x:Int) (s:S),zx (.int x) (.int 2147483629) s=.ok (.int (x % 2147483629)) s:=fun x s=> xi (by decide)
  have q5: ∀(x:Int) (s:S),af7 (.int x) (.int 13) s=.ok (.int (x/13)) s:=fun x s=> y9 (by decide) (by decide)
  have q6: ∀(x:Int) (s:S),zz (.int 7919) (.int x) s=.ok (.int (7919*x)) s:=fun x s=> abt (.inl (by decide))
  have q7: ∀(x:Int) (s:S),zz (.int x) (.int (k+1)) s=.ok (.int (x*(k+1))) s:=fun x s=> abt (.inr (by lia))
  have q8: ∀(x:Int) (s:S),zz (.int x) (.int 48271) s=.ok (.int (x*48271)) s:=fun x s=> abt (.inr (by decide))
  have q9: ∀(x:Int) (s:S),zx (.int x) (.int 2147483587) s=.ok (.int (x % 2147483587)) s:=fun x s=> xi (by decide)
  have q10: ∀(x:Int) (s:S),af7 (.int x) (.int 64) s=.ok (.int (x/64)) s:=fun x s=> y9 (by decide) (by decide)
  have qe: ∀(s:S),gNe (.lst (xs.map aE)) (.lst []) s=.ok (.bl (!xs.isEmpty)) s:=fun s=> by
   rw [af4 (ags xs) rfl,aiw]
   cases xs <;> rfl
  cases hxs:xs with
  |nil=>
   subst hxs
   have qe0: ∀s:S,gNe (.lst []) (.lst []) s=.ok (.bl false) s:=fun s=> af4 rfl rfl
   simp [qe0,ix0 hl,ix1 hl,ix2 hl,ix3 hl,st1 hl,st2 hl,st3 hl,hj,xi hm,y9 hm hm2,p18,q1,q2,q3,q4,q5,q6,q7,q8,q9,q10,qe]
   exact⟨(fin _).1,(fin _).2,afb (xs:=[]) hl (by simp) (by lia) (by lia) (by lia),ac5⟩
  | cons y ys=>
   have hne:xs≠ []:=by rw [hxs];simp
   have hlen:0 < (xs.length:Int):=by rw [hxs];simp
   rw [←hxs]
   have qe':xs.isEmpty=false:=by rw [hxs];rfl
   have ixx: ∀s:S,gIx (.lst (xs.map aE)) (.int (i % (xs.length:Int))) s=.ok (.int (xs.getD (i % (xs.length:Int)).toNat 0)) s:=fun s=> by
    have h0:=Int.emod_nonneg i (show (xs.length:Int)≠0 by lia)
    have h1:=Int.emod_lt_of_pos i hlen
    obtain⟨q,hq⟩: ∃q:Nat,i % (xs.length:Int)=q:=⟨(i % (xs.length:Int)).toNat,by lia⟩
    rw [hq]
    have hlt:q < xs.length:=by lia
    rw [ai8 (p:=.int (xs.getD q 0)) (by rw [aR,ay hlt,bS,ay hlt];rfl)]
    rfl
   generalize hcell:xs.getD (i % (xs.length:Int)).toNat 0=cell at ixx
   have qm: ∀s:S,zx (.int i) (.int (xs.length:Int)) s=.ok (.int (i % (xs.length:Int))) s:=fun s=> xi hlen
   by_cases hb:1000000000000000000 <=cell
   ·by_cases hb2:i+1 <=(xs.length:Int)
    ·simp [ix0 hl,ix1 hl,ix2 hl,ix3 hl,st1 hl,st2 hl,st3 hl,hj,xi hm,y9 hm hm2,p18,q1,q2,q3,q4,q5,q6,q7,q8,q9,q10,qe,qe',ixx,qm,hb,hb2]
     exact⟨(fin _).1,(fin _).2,afb hl hx (by lia) (by lia) (by lia),ac5⟩
    ·simp [ix0 hl,ix1 hl,ix2 hl,ix3 hl,st1 hl,st2 hl,st3 hl,hj,xi hm,y9 hm hm2,p18,q1,q2,q3,q4,q5,q6,q7,q8,q9,q10,qe,qe',ixx,qm,hb,hb2]
     exact⟨(fin _).1,(fin _).2,afb hl hx (by lia) (by lia) (by lia),ac5⟩
   ·simp [ix0 hl,ix1 hl,ix2 hl,ix3 hl,st1 hl,st2 hl,st3 hl,hj,xi hm,y9 hm hm2,p18,q1,q2,q3,q4,q5,q6,q7,q8,q9,q10,qe,qe',ixx,qm,hb]
    exact⟨(fin _).1,(fin _).2,afb hl hx (by lia) (by lia) (by lia),ac5⟩
theorem Fd.le{c':Nat}(h:Fd s n c)(hc:c <=c'):Fd s n c':=by
 obtain⟨xs,i,j,k,e,hx,hi,hk,hkc⟩:=h.ex
 exact⟨xs,i,j,k,e,hx,hi,hk,by lia⟩
theorem Fd.ext{s':S}(h:Fd s n c)(x:Ext s s'):Fd s' n c:=by
 obtain⟨xs,i,j,k,e,r⟩:=h.ex
 exact⟨xs,i,j,k,x.get e,r⟩
theorem Fd.set{o:O}(h:Fd s n c)(hk:k≠n):Fd (s.set k o) n c:=by
 obtain⟨xs,i,j,q,e,r⟩:=h.ex
 exact⟨xs,i,j,q,by rw [aS hk];exact e,r⟩
theorem arp{α β:Type}(f:α -> β)(l:List α)(k:Nat):(l.map f).eraseIdx k=(l.eraseIdx k).map f:=by
 induction l generalizing k with -- own
 |nil=> rfl
 |cons x r ih=>
  cases k with
  |zero=> rfl
  |succ k=> simp [ih]
theorem zl{α:Type}{l:List α}{x:α}(h:l[k]?=some x):(x::l.eraseIdx k).Perm l:=by
 induction l generalizing k with -- own
 |nil=> simp at h
 | cons y r ih=>
  cases k with
  |zero=> simp at h;subst h;exact gK.refl _
  |succ k=>
   have:=ih (k:=k) (by simpa using h)
   rw [jL]
   exact (gK.swap y x _).trans (this.cons y)
structure ShufJ (s:S) (n c:Nat) (xs:List ae) (r:List D) (ρ:En) (s':S):Prop where
 ex: ∃(ls fs:List ae) (u:Option D) (c':Nat),ρ=[some (.ref n),some (.lst xs),some (.ref s.length),some (.ref (s.length+1)),u]/\s'[s.length]?=some (.lst (ls.map D.da))/\s'[s.length+1]?=some (.lst (fs.map D.da))/\
  (fs++ls).Perm xs/\ls.length=r.length/\Fd s' n c'/\c'+r.length <=c+xs.length/\ky n s s'
theorem a26:jr [.ref s.length] (s++ [O.lst (xs.map D.da),O.lst []])=.ok (.int xs.length) (s++ [O.lst (xs.map D.da),O.lst []]):=by
 rw [ao8 (ds:=xs.map D.da) (by simp),ak]
theorem a2j(hx:xs.length <=1000)(s:S):am7 [.int xs.length] s=.ok (zu 0 xs.length,none) s:=by rw [ad8 (by lia) (by lia)];rfl
theorem a4w(h:Fd s n c):ShufJ s n c xs (zu 0 xs.length) [some (.ref n),some (.lst xs),some (.ref s.length),some (.ref (s.length+1)),none] (s++ [O.lst (xs.map D.da),O.lst []]):=
 ⟨xs,[],none,c,rfl,by simp,by simp,by simp,by rw [qz],h.ext (Ext.add _ _),by rw [qz];lia,(Ext.add _ _).same n⟩
def axr:FS:=vf (fMt qk (jb 3) (ja (fMt aan (jb 2) (ja (jd 2 jj (ja (jb 0) (ja (fCB jr (ja (jb 2) jc)) jc))) jc)) jc))
theorem a0d{ls fs:List ae}{d:D}{Q:Fl -> S -> Prop}(hl:s1[s.length]?=some (.lst (ls.map D.da)))(hf:s1[s.length+1]?=some (.lst (fs.map D.da)))(k:(jj [.ref n,.int ls.length] s1).W fun i s2=> (aan (.ref s.length) [i] s2).W fun y s3=> (qk (.ref (s.length+1)) [y] s3).W fun _ s4=> Q (.nx [some (.ref n),some (.lst xs),some (.ref s.length),some (.ref (s.length+1)),some d]) s4):
  (axr [some (.ref n),some (.lst xs),some (.ref s.length),some (.ref (s.length+1)),some d] s1).W Q:=by
 have e3:jr [.ref s.length] s1=.ok (.int ls.length) s1:=by rw [ao8 hl,ak]
 unfold axr
 walk_at "ev"
 rw [adu hf]
 walk_at "ev"
 rw [adu hl]
 walk_at "ev"
 rw [e3]
 walk_at "ev"
 simp only [R.W_bindk,R.W_at]
 refine R.W_mono k fun i s2 q=> ?_
 walk_at "ev"
 exact q
theorem a0n{c':Nat}{ls fs:List ae}{d:D}(hx:xs.length <=1000)(hc:c+xs.length < 2^40)(hn:n < s.length)(hl:s1[s.length]?=some (.lst (ls.map D.da)))(hf:s1[s.length+1]?=some (.lst (fs.map D.da)))(pm:(fs++ls).Perm xs)(ln:ls.length=r.length+1)(fd:Fd s1 n c')(hcc:c'+(r.length+1) <=c+xs.length)(sm:ky n s s1):
  (jj [.ref n,.int ls.length] s1).W fun i s2=> (aan (.ref s.length) [i] s2).W fun y s3=> (qk (.ref (s.length+1)) [y] s3).W fun _ s4=> ShufJ s n c xs r [some (.ref n),some (.lst xs),some (.ref s.length),some (.ref (s.length+1)),some d] s4:=by
 have hpl:=pm.length_eq
 rw [aX]at hpl
 refine R.W_mono (kv fd (by lia) (by lia) (by lia)) ?_
 rintro _ s2 ⟨i,rfl,h0,h1,fd2,sm2⟩
 obtain⟨q,rfl⟩: ∃q:Nat,i=(q:Int):=⟨i.toNat,by lia⟩
 have hq:q < ls.length:=by lia
 have l1:s.length < s1.length:=(aA.mp hl).1
 have l2:s.length+1 < s1.length:=(aA.mp hf).1
 have hl2:s2[s.length]?=some (.lst (ls.map D.da)):=by rw [sm2.get _ (by lia) l1];exact hl
 have hf2:s2[s.length+1]?=some (.lst (fs.map D.da)):=by rw [sm2.get _ (by lia) l2];exact hf
 have hq2:(ls.map D.da)[q]?=some (D.da ls[q]):=by rw [aR,ay hq];rfl
 rw [av5 hl2 hq2 (by rw [ak];lia),R.W_ok]
 have hf3:(s2.set s.length (.lst ((ls.map D.da).eraseIdx q)))[s.length+1]?=some (.lst (fs.map D.da)):=by rw [aS (by lia)];exact hf2
 rw [aav (d:=D.da ls[q]) hf3 (by rw [ak];lia),R.W_ok]
 refine⟨ls.eraseIdx q,fs++ [ls[q]],_,c'+1,rfl,?_,?_,?_,?_,?_,by lia,?_⟩
 ·rw [aS (by lia),bh (aI l1 sm2.len),arp]
 ·rw [bh (by simp;exact aI l2 sm2.len)]
  simp
 ·refine gK.trans ?_ pm
  rw [cT]
  exact (zl (ay hq)).append_left fs
 ·rw [List.length_eraseIdx,if_pos hq];lia
 ·exact (fd2.set (by lia)).set (by lia)
 ·exact ((sm.trans sm2).own (by lia)).own (by lia)
theorem afi(h:Fd s n c)(hx:xs.length <=1000)(hc:c+xs.length < 2^40):(kl [.ref n,.lst xs] s).W fun d s'=> ∃ys,d=.lst ys/\ys.Perm xs/\Fd s' n (c+xs.length)/\ky n s s':=by
 rw [ait];unfold B_law_shuffled
 have hn:=h.lt
 walk_at "ev"
 rw [a26]
 walk_at "ev"
 rw [a2j hx]
 walk_at "ev"
 simp only [R.W_bindk,R.W_at]
 refine aa6 (ShufJ s n c xs) ?_ ?_ _ _ _ (a4w h)
 ·rintro d r ρ s1 ⟨ls,fs,u,c',rfl,hl,hf,pm,ln,fd,hcc,sm⟩
  exact⟨_,rfl,a0d hl hf (a0n hx hc hn hl hf pm ln fd hcc sm)⟩
 ·rintro ρ s1 ⟨ls,fs,u,c',rfl,hl,hf,pm,ln,fd,hcc,sm⟩
  have:ls=[]:=gc.mp ln
  subst this
  walk_at "ev"
  rw [aze hf (qj fs)]
  walk_at "ev"
  exact⟨fs,rfl,by rw [bY]at pm;exact pm,(fd.set (by lia)).le hcc,sm.own (by lia)⟩
noncomputable def prB(x:Str):Bool:=(decide (1 <=x.length)&&decide (x.length <=8))&&x.cps.toList.all fun c=> decide (97 <=c)&&decide (c <=122)
noncomputable def ahu:List (List Str):=[["a","b","c","d","e","f","g","h"],["net","end","within","place","last","to","a","table"],["a","ab","abc","abcd","b","ba","abcdefgh","abcdefgi"],["zzzzzzzz","z","zz","y","only","onlya","copy","aa"]]
theorem av9: ∀p∈ahu,p.length=8/\p.Nodup/\ ∀x∈p,prB x=true:=by decide+kernel
theorem al1{α:Type}(l:List α)(t:Nat)(h:t <=l.length):qx l (some (t:Int)) none=l.drop t:=by
 unfold qx
 rw [HT.sIx_nat,HT.sIx_none,Nat.min_eq_left h,dv (by simp)]
theorem zt{α:Type}(l:List α)(t:Nat):qx l none (some (t:Int))=l.take t:=by
 unfold qx
 rw [HT.sIx_nat,HT.sIx_none,im,Nat.sub_zero,List.take_eq_take_iff]
 lia
theorem a5f{α β:Type}{f:α -> β}{l:List α}{x:α}(h:l[k]?=some x):(l.map f)[k]?=some (f x):=by rw [aR,h];rfl
theorem amg(h:Fd s n c)(hk:k <=8)(hc:c+2 < 2^40):(v6 [.ref n,.int (k:Int)] s).W fun d s'=> ∃ps:List Str,d=.lst (ps.map aF)/\ps.length=k/\ps.Nodup/\(∀x∈ps,prB x=true)/\Fd s' n (c+2)/\ky n s s':=by
 rw [anh];unfold B_law_ports
 have hn:=h.lt
 walk_at "ev"
 have g0: ∀(x y:D),(s++ [O.lst [x,y]])[s.length]?=some (O.lst [x,y]):=fun x y=> by simp
 rw [adu (g0 _ _)]
 walk_at "ev"
 rw [aav (g0 _ _) (by simp)]
 walk_at "ev"
 have g1: ∀(x y z:D),((s++ [O.lst [x,y]]).set s.length (O.lst ([x,y]++ [z])))=s++ [O.lst [x,y,z]]:=fun x y z=> by simp
 have g2: ∀(x y z:D),(s++ [O.lst [x,y,z]])[s.length]?=some (O.lst [x,y,z]):=fun x y z=> by simp
 have g3: ∀(x y z w:D),((s++ [O.lst [x,y,z]]).set s.length (O.lst ([x,y,z]++ [w])))=s++ [O.lst [x,y,z,w]]:=fun x y z w=> by simp
 simp only [cK,cV]at g1 g3
 rw [g1,adu (g2 _ _ _)]
 walk_at "ev"
 rw [aav (g2 _ _ _) (by simp)]
 walk_at "ev"
 rw [g3]
 have e4: ∀x:List D,x=ahu.map (fun p=> D.lst (p.map aF)) -> ∀i:Nat,i < 4 -> ∃p∈ahu,x[i]?=some (D.lst (p.map aF)):=by
  rintro _ rfl i hi
  have hl:i < ahu.length:=hi
  exact⟨ahu[i],d8 hl,by rw [aR,ay hl];rfl⟩
 generalize hp:([_,_,_,_]:List D)=P0
 have e5:=e4 P0 (by rw [←hp];rfl)
 have hP:(s++ [O.lst P0])[s.length]?=some (O.lst P0):=by simp
 clear hp g0 g1 g2 g3 e4
 walk_at "go"
 refine R.W_mono (kv (h.ext (Ext.add s _)) (by decide) (by decide) (by lia)) ?_
 rintro _ s1 ⟨i,rfl,h0,h1,fd1,sm1⟩
 obtain⟨q,rfl⟩: ∃q:Nat,i=(q:Int):=⟨i.toNat,by lia⟩
 obtain⟨p,pm,hp⟩:=e5 q (by lia)
 obtain⟨pl,pn,pk⟩:=av9 p pm
 have hP1:s1[s.length]?=some (O.lst P0):=by rw [sm1.get _ (by lia) (by simp)];exact hP
 walk_at "go"
 rw [ant hP1 hp]
 walk_at "go"
 refine R.W_mono (kv fd1 (by decide) (by decide) (by lia)) ?_
 rintro _ s2 ⟨j,rfl,j0,j1,fd2,sm2⟩
 obtain⟨t,rfl⟩: ∃t:Nat,j=(t:Int):=⟨j.toNat,by lia⟩
 walk_at "go"
 rw [aa4 (by simp [qx];lia)]
 walk_at "go"
 rw [al1 _ _ (by rw [ak];lia),zt,zt,←List.map_drop,←lI,←gZ,←lI]
 refine⟨_,rfl,?_,?_,fun x hx=> ?_,fd2,((Ext.add s _).same n).trans (sm1.trans sm2)⟩
 ·simp;lia
 ·refine List.Nodup.sublist (gg _ _) ?_
  have:(p.drop t++p.take t).Perm p:=by
   refine lj.trans ?_
   rw [gO]
  exact this.nodup_iff.mpr pn
 ·have:=cx hx
  rcases bq.mp this with z|z
  ·exact pk x (dh z)
  ·exact pk x (cx z)
theorem a0z{x:Str}(h1:okD (.str x)=true)(h2:okD (.str y)=true):gEq (.str x) (.str y) s=.ok (.bl (decide (x=y))) s:=by
 rw [afa h1 h2]
 have:aK (.str x) (.str y)=decide (x=y):=by
  show (x==y)=_
  (rw [aW,beq_iff_eq,decide_eq_true_eq])
 rw [this]
theorem ko{x:Str}(h:okD (.str x)=true/\okD (.str y)=true/\decide (x=y)=b)(s:S):gEq (.str x) (.str y) s=.ok (.bl b) s:=by rw [a0z h.1 h.2.1,h.2.2]
theorem agu{w:Str}: ∀ss:List Str,((ss.map aF).any fun d=> aK d (.str w))=decide (w∈ss)
 |[]=> by simp
 | x::r=> by
  rw [aJ,gC,agu r]
  have:aK (.str x) (.str w)=decide (x=w):=by
   show (x==w)=_
   (rw [aW,beq_iff_eq,decide_eq_true_eq])
  rw [this,aW,jV,decide_eq_true_eq,decide_eq_true_eq,decide_eq_true_eq,aw]
  exact⟨fun h=> h.imp Eq.symm id,fun h=> h.imp Eq.symm id⟩
theorem all_strs(h: ∀x∈ss,okD (.str x)=true):(ss.map aF).all okD=true:=by
 rw [aO]
 intro d hd
 obtain⟨x,hx,rfl⟩:=bg.mp hd
 exact h x hx
theorem awr{w:Str}(h1:okD (.str w)=true)(h2: ∀x∈ss,okD (.str x)=true):gIn (.str w) (.tup (ss.map aF)) s=.ok (.bl (decide (w∈ss))) s:=by
 show (if okD (.str w)=true/\(ss.map aF).all okD=true then R.ok (D.bl (nb false ((ss.map aF).any fun d=> aK d (.str w)))) s else .bad)=_
 rw [if_pos ⟨h1,all_strs h2⟩,agu];rfl
theorem kq{w:Str}(ss:List Str){l:List ae}(e:l=ss.map aF)(h:okD (.str w)=true/\(∀x∈ss,okD (.str x)=true)/\decide (w∈ss)=b)(s:S):gIn (.str w) (.tup l) s=.ok (.bl b) s:=by
 subst e
 rw [awr h.1 h.2.1,h.2.2]
inductive PartD (m:Int) (ps:List Str):ae -> List Str -> Prop
 |two {w a b:Str}:w∈(["both","loose","drain","either"]:List Str) -> a∈ps -> b∈ps -> a≠b -> PartD m ps (.tuple [.str w,.str a,.str b]) [a,b]
 |held {w a b:Str} {x:ae}:w∈(["place","last"]:List Str) -> a∈ps -> b∈ps -> a≠b -> (x=.none\/ ∃i,x=.int i/\0 <=i/\i < m) -> PartD m ps (.tuple [.str w,.str a,.str b,x]) [a,b]
 |only {a b:Str} {ts:List Int}:a∈ps -> b∈ps -> a≠b -> (∀t∈ts,0 <=t/\t < m) -> ts.length <=m -> ts.Pairwise (· < ·) -> PartD m ps (.tuple [.str "only",.str a,.str b,.tuple (ts.map .int)]) [a,b]
 |copy {a:Str} {bs:List Str}:a∈ps -> (∀b∈bs,b∈ps) -> 1 <=bs.length/\bs.length <=4 -> (a::bs).Nodup -> PartD m ps (.tuple [.str "copy",.str a,.tuple (bs.map .str)]) (a::bs)
 |merge {a:Str} {bs:List Str}:a∈ps -> (∀b∈bs,b∈ps) -> 1 <=bs.length/\bs.length <=4 -> (a::bs).Nodup -> PartD m ps (.tuple [.str "merge",.tuple (bs.map .str),.str a]) (bs++ [a])
noncomputable def afo:List Str:=["both","loose","place","last","drain","either","only","copy","merge","place"]
structure WordIs (w:Str) (b1 b2 b3 b4:Bool):Prop where
 i1: ∀s,gIn (.str w) (.tup [.str "copy",.str "merge"]) s=.ok (.bl b1) s
 i2: ∀s,gEq (.str w) (.str "copy") s=.ok (.bl b2) s
 i3: ∀s,gIn (.str w) (.tup [.str "place",.str "last"]) s=.ok (.bl b3) s
 i4: ∀s,gEq (.str w) (.str "only") s=.ok (.bl b4) s
 i5:(b1=true/\b2=true/\w="copy")\/(b1=true/\b2=false/\w="merge")\/(b1=false/\b3=true/\w∈(["place","last"]:List Str))\/(b1=false/\b3=false/\b4=true/\w="only")\/(b1=false/\b3=false/\b4=false/\w∈(["both","loose","drain","either"]:List Str))
theorem a1k(w:Str)(h:w∈afo): ∃b1 b2 b3 b4,WordIs w b1 b2 b3 b4:=by
 have h:w="both"\/w="loose"\/w="place"\/w="last"\/w="drain"\/w="either"\/w="only"\/w="copy"\/w="merge"\/w="place":=by simpa [afo] using h
 rcases h with rfl|rfl|rfl|rfl|rfl|rfl|rfl|rfl|rfl|rfl
 ·exact⟨false,false,false,false,kq ["copy","merge"] rfl (by decide+kernel),ko (by decide+kernel),kq ["place","last"] rfl (by decide+kernel),ko (by decide+kernel),by decide⟩
 ·exact⟨false,false,false,false,kq ["copy","merge"] rfl (by decide+kernel),ko (by decide+kernel),kq ["place","last"] rfl (by decide+kernel),ko (by decide+kernel),by decide⟩
 ·exact⟨false,false,true,false,kq ["copy","merge"] rfl (by decide+kernel),ko (by decide+kernel),kq ["place","last"] rfl (by decide+kernel),ko (by decide+kernel),by decide⟩
 ·exact⟨false,false,true,false,kq ["copy","merge"] rfl (by decide+kernel),ko (by decide+kernel),kq ["place","last"] rfl (by decide+kernel),ko (by decide+kernel),by decide⟩
 ·exact⟨false,false,false,false,kq ["copy","merge"] rfl (by decide+kernel),ko (by decide+kernel),kq ["place","last"] rfl (by decide+kernel),ko (by decide+kernel),by decide⟩
 ·exact⟨false,false,false,false,kq ["copy","merge"] rfl (by decide+kernel),ko (by decide+kernel),kq ["place","last"] rfl (by decide+kernel),ko (by decide+kernel),by decide⟩
 ·exact⟨false,false,false,true,kq ["copy","merge"] rfl (by decide+kernel),ko (by decide+kernel),kq ["place","last"] rfl (by decide+kernel),ko (by decide+kernel),by decide⟩
 ·exact⟨true,true,false,false,kq ["copy","merge"] rfl (by decide+kernel),ko (by decide+kernel),kq ["place","last"] rfl (by decide+kernel),ko (by decide+kernel),by decide⟩
 ·exact⟨true,false,false,false,kq ["copy","merge"] rfl (by decide+kernel),ko (by decide+kernel),kq ["place","last"] rfl (by decide+kernel),ko (by decide+kernel),by decide⟩
 ·exact⟨false,false,true,false,kq ["copy","merge"] rfl (by decide+kernel),ko (by decide+kernel),kq ["place","last"] rfl (by decide+kernel),ko (by decide+kernel),by decide⟩
theorem a52{α:Type}{f:α -> ae}{l:List α}{x:α}(h:l[k]?=some x):gIx (.lst (l.map f)) (.int (k:Int)) s=.ok (.da (f x)) s:=ai8 (a5f h)
theorem ad1{l:List ae}{x:ae}(k:Nat)(hi:i=(k:Int))(h:l[k]?=some x):gIx (.lst l) (.int i) s=.ok (.da x) s:=by subst hi;exact ai8 h
theorem ao2{α:Type}(l:List α)(a b:Nat):qx l (some (a:Int)) (some (b:Int))=(l.drop a).take (min b l.length - min a l.length):=by
 unfold qx
 rw [HT.sIx_nat,HT.sIx_nat]
 by_cases h:a <=l.length
 ·rw [Nat.min_eq_left h]
 ·rw [dw (by lia),dw (by lia)]
theorem agr{α β:Type}{f:α -> β}{l:List α}: ∀{ys:List β},ys.Perm (l.map f) -> ∃qs:List α,qs.Perm l/\qs.map f=ys:=by
 intro ys h
 generalize hz:l.map f=zs at h
 induction h generalizing l with
 |nil=>
  cases l with
  |nil=> exact⟨[],.refl _,rfl⟩
  |cons a b=> cases hz
 | cons x h ih=>
  cases l with
  |nil=> cases hz
  |cons a b=>
   cases hz
   obtain⟨qs,p,e⟩:=ih rfl
   exact⟨a::qs,p.cons a,by rw [aJ,e]⟩
 | swap x y r=>
  match l,hz with
  |a::b::c,hz=>
   cases hz
   exact⟨b::a::c,.swap _ _ _,rfl⟩
 |trans h1 h2 ih1 ih2=>
  obtain⟨q2,p2,e2⟩:=ih2 hz
  obtain⟨q1,p1,e1⟩:=ih1 e2
  exact⟨q1,p1.trans p2,e1⟩
structure OnlyJ (s0:S) (n c:Nat) (m:Int) (r acc:List D) (s:S):Prop where
 ex: ∃ts:List Int,acc=ts.map D.int/\(∀t∈ts,0 <=t/\t < m)/\ts.length+r.length <=m/\(∃lo k,r=zu lo k/\0 <=lo/\lo+k <=m/\(∀t∈ts,t < lo)/\ts.Pairwise (· < ·))/\ ∃c',Fd s n c'/\c'+r.length <=c+m.toNat/\ky n s0 s
theorem a1j{ps:List Str}(h:Fd s n c)(hm:1 <=m)(hm3:m <=3)(hp:2 <=ps.length)(hp8:ps.length <=8)(nd:ps.Nodup)(hc:c+ps.length+10 < 2^40):
  (zw [.ref n,.int m,.lst (ps.map aF)] s).W fun d s'=> ∃p qs,d=.da p/\PartD m ps p qs/\Fd s' n (c+ps.length+5)/\ky n s s':=by
 rw [aps];unfold B_law_part
 walk_at "go"
 refine R.W_mono (afi h (by rw [ak];lia) (by rw [ak];lia)) ?_
 rintro _ s1 ⟨ys,rfl,pm,fd1,sm1⟩
 obtain⟨qs,pmq,rfl⟩: ∃qs:List Str,qs.Perm ps/\qs.map aF=ys:=by
  exact agr pm
 have ql:=pmq.length_eq
 rw [ak]at fd1
 walk_at "go"
 refine R.W_mono (kv fd1 (by decide) (by decide) (by lia)) ?_
 rintro _ s2 ⟨i,rfl,h0,h1,fd2,sm2⟩
 obtain⟨k,rfl⟩: ∃k:Nat,i=(k:Int):=⟨i.toNat,by lia⟩
 have hk:k < afo.length:=by show k < 10;lia
 obtain⟨b1,b2,b3,b4,W⟩:=a1k afo[k] (d8 hk)
 generalize hw:afo[k]=w at W
 walk_at "go"
 rw [show gIx (.lst [.str "both",.str "loose",.str "place",.str "last",.str "drain",.str "either",.str "only",.str "copy",.str "merge",.str "place"]) (.int (k:Int)) s2=.ok (.str w) s2 from a52 (f:=aF) (l:=afo) (x:=w) (by rw [ay hk,hw])]
 walk_at "ev"
 rw [W.i1]
 obtain⟨q0,q1,qr,rfl⟩: ∃q0 q1 qr,qs=q0::q1::qr:=by
  match qs,ql with
  |[],e=> simp at e;lia
  |[_],e=> simp at e;lia
  |a::b::c,_=> exact⟨a,b,c,rfl⟩
 have nq:(q0::q1::qr).Nodup:=pmq.nodup_iff.mpr nd
 have m0:q0∈ps:=pmq.mem_iff.mp (by simp)
 have n01:q0≠q1:=by simp at nq;exact nq.1.1
 have m1:q1∈ps:=pmq.mem_iff.mp (by simp)
 have x0: ∀s:S,gIx (.lst ((q0::q1::qr).map aF)) (.int 0) s=.ok (.str q0) s:=fun s=> ad1 0 rfl rfl
 have x1: ∀s:S,gIx (.lst ((q0::q1::qr).map aF)) (.int 1) s=.ok (.str q1) s:=fun s=> ad1 1 rfl rfl
 have many:b1=true -> ∀Q:D -> S -> Prop,(∀(bs:List Str) (s3:S),1 <=bs.length/\bs.length <=4 -> (∀b∈bs,b∈ps) -> (q0::bs).Nodup -> Fd s3 n (c+ps.length+2) -> ky n s s3 -> Q (.tup (bs.map aF)) s3) ->
   (fCB j6 (ja (fSl false (jb 3) (kd (fC (D.da (aE 1)))) (kd (fOp (jv false) (fC (D.da (aE 2))) (jd 2 jj (ja (jb 0) (ja (fCB agz (ja (fC (D.da (aE 4))) (ja (fOp PF.ac0 (fCB jr (ja (jb 3) jc)) (fC (D.da (aE 1)))) jc))) jc)))))) jc)
    [some (.ref n),some (.int m),some (.lst (ps.map aF)),some (.lst ((q0::q1::qr).map aF)),some (.str w),none] s2).W Q:=fun _ Q hQ=> by
  walk_at "go"
  refine R.W_mono (kv fd2 (by rw [ak,ql];split <;> lia) (by rw [ak,ql];split <;> lia) (by lia)) ?_
  rintro _ s3 ⟨j,rfl,j0,j1,fd3,sm3⟩
  obtain⟨t,rfl⟩: ∃t:Nat,j=(t:Int):=⟨j.toNat,by lia⟩
  walk_at "go"
  have e2:(2:Int)+(t:Int)=((2+t:Nat):Int):=by lia
  have e1:(1:Int)=((1:Nat):Int):=rfl
  rw [e2,e1,z3,ao2]
  have tb:t < 4:=by
   rw [ak,ql]at j1
   split at j1 <;> lia
  refine hQ _ s3 ?_ ?_ ?_ fd3 (sm1.trans (sm2.trans sm3))
  ·rw [a8];simp;lia
  ·intro b hb
   exact pmq.mem_iff.mp (dh (cx hb))
  ·have:(q0::((q0::q1::qr).drop 1).take (min (2+t) (q0::q1::qr).length - min 1 (q0::q1::qr).length)).Sublist (q0::q1::qr):=(gg _ _).cons₂ q0
   exact this.nodup nq
 clear hw hk
 rcases W.i5 with ⟨rfl,rfl,rfl⟩|⟨rfl,rfl,rfl⟩|⟨rfl,rfl,hw⟩|⟨rfl,rfl,rfl,rfl⟩|⟨rfl,rfl,rfl,hw⟩
 ·simp only [R.W_ok',R.Wk_app,aov,ayi,ayj,axv,R.W_bindk]
  refine many rfl _ fun bs s3 hl hb hnd fd3 sm3=> ?_
  walk_at "go"
  rw [W.i2]
  walk_at "go"
  rw [x0]
  walk_at "go"
  exact⟨_,_,rfl,.copy m0 hb hl hnd,fd3.le (by lia),sm3⟩
 ·simp only [R.W_ok',R.Wk_app,aov,ayi,ayj,axv,R.W_bindk]
  refine many rfl _ fun bs s3 hl hb hnd fd3 sm3=> ?_
  walk_at "go"
  rw [W.i2]
  walk_at "go"
  rw [x0]
  walk_at "go"
  exact⟨_,_,rfl,.merge m0 hb hl hnd,fd3.le (by lia),sm3⟩
 ·walk_at "go"
  rw [W.i3]
  walk_at "go"
  rw [x0]
  walk_at "go"
  rw [x1]
  walk_at "go"
  refine R.W_mono (kv fd2 (by decide) (by decide) (by lia)) ?_
  rintro _ s3 ⟨j,rfl,j0,j1,fd3,sm3⟩
  obtain⟨x,hx,hx2⟩: ∃x:ae,(x=.none\/ ∃i,x=.int i/\0 <=i/\i < m)/\ ∀s:S,gIx (.lst [.none,.none,.int 0,.int (m - 1)]) (.int j) s=.ok (.da x) s:=by
   have:j=0\/j=1\/j=2\/j=3:=by lia
   rcases this with rfl|rfl|rfl|rfl
   ·exact⟨_,.inl rfl,fun s=> ad1 0 rfl rfl⟩
   ·exact⟨_,.inl rfl,fun s=> ad1 1 rfl rfl⟩
   ·exact⟨_,.inr ⟨0,rfl,by lia,by lia⟩,fun s=> ad1 2 rfl rfl⟩
   ·exact⟨_,.inr ⟨m - 1,rfl,by lia,by lia⟩,fun s=> ad1 3 rfl rfl⟩
  walk_at "go"
  rw [hx2]
  walk_at "go"
  exact⟨_,_,rfl,.held hw m0 m1 n01 hx,fd3.le (by lia),sm1.trans (sm2.trans sm3)⟩
 ·walk_at "go"
  rw [W.i3]
  walk_at "go"
  rw [W.i4]
  walk_at "go"
  rw [x0]
  walk_at "go"
  rw [x1]
  walk_at "go"
  rw [ad8 (by lia) (by lia)]
  walk_at "go"
  rw [vp (ρ0:=[none,some (D.ref n)]) (by rw [qz];lia) rfl]
  simp only [R.W_bindk,R.W_at]
  refine R.W_mono (adj (acc:=[]) (Q:=fun xs s'=> ∃ts:List Int,xs=ts.map D.int/\(∀t∈ts,0 <=t/\t < m)/\ts.length <=m/\ts.Pairwise (· < ·)/\Fd s' n (c+ps.length+1+m.toNat)/\ky n s s') (OnlyJ s n (c+ps.length+1) m) ?_ ?_ _ _ ?_) ?_
  ·rintro d r acc s3 ⟨ts,rfl,ht,hl,⟨lo,k,hr,l0,lk,hlt,pw⟩,c',fd3,hcc,sm3⟩
   cases k with
   |zero=> cases hr
   | succ k=>
    cases hr
    rw [aM]at hl hcc
    refine⟨_,axu,?_⟩
    walk_at "go"
    refine R.W_mono (kv fd3 (by decide) (by decide) (by lia)) ?_
    rintro _ s4 ⟨j,rfl,j0,j1,fd4,sm4⟩
    walk_at "go"
    split
    ·refine⟨ts++ [lo],by simp,fun t h=> ?_,by simp;lia,⟨lo+1,k,rfl,by lia,by lia,fun t h=> ?_,?_⟩,c'+1,fd4,by lia,sm3.trans sm4⟩
     ·rcases bq.mp h with z|z
      ·exact ht t z
      ·have:t=lo:=by simpa using z
       subst this;exact⟨l0,by lia⟩
     ·rcases bq.mp h with z|z
      ·have:=hlt t z;lia
      ·have:t=lo:=by simpa using z
       lia
     ·rw [ly]
      exact⟨pw,List.pairwise_singleton _ _,fun a ha b hb=> by rw [aY.mp hb];exact hlt a ha⟩
    ·exact⟨ts,rfl,ht,by lia,⟨lo+1,k,rfl,by lia,by lia,fun t h=> by have:=hlt t h;lia,pw⟩,c'+1,fd4,by lia,sm3.trans sm4⟩
  ·rintro acc s3 ⟨ts,rfl,ht,hl,⟨lo,k,hr,l0,lk,hlt,pw⟩,c',fd3,hcc,sm3⟩
   simp only [eF]at hl hcc
   exact⟨ts,rfl,ht,by lia,pw,fd3.le (by lia),sm3⟩
  ·exact⟨[],rfl,fun t h=> (by cases h),by rw [qz];simp;lia,⟨0,m.toNat,rfl,by lia,by lia,(fun t h=> by cases h),iP⟩,c+ps.length+1,fd2,by rw [qz];lia,sm1.trans sm2⟩
  ·rintro xs s3 ⟨ts,e,ht,hl,pw,fd3,sm3⟩
   rw [cV]at e
   subst e
   rw [show ts.map D.int=(ts.map aE).map D.da by rw [cO];rfl]
   walk_at "go"
   exact⟨_,_,rfl,.only m0 m1 n01 ht hl pw,fd3.le (by lia),sm3⟩
 ·walk_at "go"
  rw [W.i3]
  walk_at "go"
  rw [W.i4]
  walk_at "go"
  rw [x0]
  walk_at "go"
  rw [x1]
  walk_at "go"
  exact⟨_,_,rfl,.two hw m0 m1 n01,fd2.le (by lia),sm1.trans sm2⟩
theorem k7:gEq (.int i) (.int j) s=.ok (.bl (decide (i=j))) s:=by
 rw [afa rfl rfl]
 have:aK (.int i) (.int j)=decide (i=j):=by
  show (i==j)=_
  (rw [aW,beq_iff_eq,decide_eq_true_eq])
 rw [this]
theorem yx:gEq (.int i) (.da (.int j)) s=.ok (.bl (decide (i=j))) s:=k7
end Ln
namespace PF
open PySem L2
theorem ve{s:S}{ft:FT}{fe:FE}{rest:En}{all:List D}(pr:ae -> Bool)(f:ae -> D): ∀(xs:List ae),(∀x∈xs,ft (some (.da x)::rest) s=.ok (pr x) s) -> (∀x∈xs,pr x=true -> fe (some (.da x)::rest) s=.ok (f x) s) ->
  kr (.nm 0) ft fe (none::rest) (all,none) (xs.map D.da) s=.ok ((xs.filter pr).map f) s
 |[],_,_=> rfl
 |x::r,h1,h2=> by
  have ih:=ve (all:=all) pr f r (fun y hy=> h1 y (aB _ hy)) (fun y hy=> h2 y (aB _ hy))
  rw [aJ,af1 axu,h1 x aC,R.calm_ok,R.bind_ok']
  cases q:pr x with
  |false=> rw [an2,ih,ek (by rw [q];exact am)]
  |true=> rw [ali,h2 x aC q,R.calm_ok,R.bind_ok',am2,ih,R.bind_ok',aj2,eA q,aJ]
theorem aoi: ∀bs:List Bool,adn (bs.map D.bl)=some bs
 |[]=> rfl
 |b::r=> by rw [aJ,adn,aoi r]
theorem aiq{bs:List Bool}:ae1 [.lst (bs.map cA)] s=.ok (.bl (bs.all id)) s:=by
 show (match (some ((bs.map cA).map D.da)).bind adn with|some bs=> R.ok (D.bl (bs.all id)) s|none=>.bad)=_
 rw [show (bs.map cA).map D.da=bs.map D.bl by rw [cO];rfl]
 show (match adn (bs.map D.bl) with|some bs=> R.ok (D.bl (bs.all id)) s|none=>.bad)=_
 rw [aoi]
theorem all_map{f:ae -> Bool}:ae1 [.lst (xs.map fun x=>.bool (f x))] s=.ok (.bl (xs.all f)) s:=by
 have:xs.map (fun x=> cA (f x))=(xs.map f).map cA:=by rw [cO];rfl
 rw [this,aiq,List.all_map];rfl
theorem ade(i j:Int):aK (.int i) (.int j)=decide (i=j):=by
 show (i==j)=_
 (rw [aW,beq_iff_eq,decide_eq_true_eq])
theorem xf:gNe (.int i) (.int j) s=.ok (.bl (!decide (i=j))) s:=by rw [af4 rfl rfl,ade]
end PF
namespace Ln
open PySem L2 PF
theorem aax{α:Type}(l:List α)(t:Nat):qx l (some (t:Int)) none=l.drop t:=by
 by_cases h:t <=l.length
 ·exact al1 l t h
 ·unfold qx
  rw [HT.sIx_nat,HT.sIx_none,Nat.min_eq_right (by lia),List.drop_length,dw (by lia)]
  simp
theorem yr{g:S}{o:O}:(s++o::g)[s.length]?=some o:=by simp
theorem ad3{g:S}{o o':O}:(s++o::g).set s.length o'=s++o'::g:=by simp
noncomputable def vz:ae -> Bool
 |.int _=> true
 |_=> false
noncomputable def qv(m:Int):ae -> Bool
 |.int i=> decide (0 <=i)&&decide (i < m)
 |_=> false
theorem ap5:aak [.da d] s=.ok (.bl (vz d)) s:=by
 rw [as8];unfold Bis_whole
 walk_at "ev"
 cases d <;> simp only [kx] <;> rfl
theorem ayw:ac7 [.int m,.da d] s=.ok (.bl (qv m d)) s:=by
 rw [arz];unfold Bis_below
 walk_at "ev"
 rw [ap5]
 cases d with
 | int i=>
  simp only [vz]
  walk_at "ev"
  by_cases h0:0 <=i
  ·simp only [h0,decide_true,qv]
   walk_at "ev"
  ·simp only [h0,decide_false,qv]
   walk_at "ev"
 |_=> rfl
theorem aow:aam [.int m,.da d] s=.ok (.bl (qv m d)) s:=by
 rw [ath];unfold Bis_thing
 walk_at "ev"
 rw [ayw];rfl
noncomputable def ai0(c:Nat):Bool:=decide (97 <=c)&&decide (c <=122)
def afd(x:Str):Bool:=(decide (1 <=x.length)&&decide (x.length <=8))&&x.cps.toList.all ai0
def k8:ae -> Bool
 |.str x=> afd x
 |_=> false
noncomputable def asc(x:Str):Bool:=x.cps.toList.all fun c=> decide (9 <=c)&&decide (c < 127)
theorem afq{x:Str}(h:asc x=true):x.cps.all (· < 128)=true:=by
 unfold asc at h
 simp only [aO,aH,decide_eq_true_eq]at h
 (rw [←jI,aO])
 intro c hc
 have:=h c hc
 (exact decide_eq_true (by lia))
theorem ajl(x:Str):aar x=x.cps.toList.map fun c=> D.str ⟨#[c]⟩:=by first|rfl|(unfold aar;rfl)
theorem a2p(h: ∀x,d=.str x -> asc x=true/\x.length <=100000):ae2 [.da d] s=.ok (.bl (k8 d)) s:=by
 rw [au8];unfold Bis_port
 walk_at "ev"
 cases d with
 | str x=>
  obtain⟨ha,hl⟩:=h x rfl
  rw [show kx (.str x) "str"=true from rfl]
  walk_at "ev"
  rw [len_str (by lia)]
  walk_at "ev"
  show _=R.ok (D.bl (afd x)) s
  unfold afd
  by_cases h1:1 <=x.length
  ·rw [decide_eq_true (show (1:Int) <=(x.length:Int) by lia),decide_eq_true h1]
   walk_at "ev"
   by_cases h2:x.length <=8
   ·rw [decide_eq_true (show (x.length:Int) <=8 by lia),decide_eq_true h2]
    walk_at "ev"
    rw [ay7]
    walk_at "ev"
    rw [aod (afq ha)]
    walk_at "ev"
    rw [ajl,vp (ρ0:=[none]) (by rw [ak,aL];show x.length <=_;lia) rfl]
    rw [afs (fun c:Nat=> D.str ⟨#[c]⟩) (fun _=> true) (fun c=> cA (ai0 c)) x.cps.toList (fun c hc=> ⟨[some (.str ⟨#[c]⟩)],rfl,rfl,fun _=> by
     walk_at "ev"
     rw [a4j,aln (afq ha) c hc];rfl⟩)]
    (rw [cW.mpr (fun _ _=> rfl)])
    walk_at "ev"
    rw [show x.cps.toList.map (fun c=> cA (ai0 c))=(x.cps.toList.map ai0).map cA by rw [cO];rfl,aiq,List.all_map]
    rfl
   ·rw [decide_eq_false (show¬(x.length:Int) <=8 by lia),decide_eq_false h2]
    walk_at "ev"
  ·rw [decide_eq_false (show¬(1:Int) <=(x.length:Int) by lia),decide_eq_false h1]
   walk_at "ev"
 |_=> rfl
noncomputable def ahe(ds:List ae):List Str:=ds.filterMap fun d=> match d with
 |.str x=> some x
 |_=> none
theorem zd(xs:List Str):ahe (xs.map aF)=xs:=by
 induction xs with
 |nil=> rfl
 |cons x r ih=>
  show x::ahe (r.map aF)=_
  rw [ih]
theorem aao: ∀{ds:List ae},ds.all k8=true -> ∃ss:List Str,ds=ss.map .str/\ ∀x∈ss,afd x=true
 |[],_=> ⟨[],rfl,fun _ h=> by cases h⟩
 |d::r,h=> by
  (rw [cX,aH]at h)
  obtain⟨ss,rfl,hs⟩:=aao h.2
  cases d with
  | str x=> exact⟨x::ss,rfl,fun y hy=> by
    rcases aw.mp hy with z|z
    ·subst z;exact h.1
    ·exact hs y z⟩
  |_=> exact absurd h.1 am
def zb(ds:List ae):Bool:=decide ((jn (ahe ds)).length=ds.length)
def jw:ae -> Bool
 |.tuple ds=> ds.all k8&&zb ds
 |_=> false
def adi:ae -> Bool
 |.tuple ds=> (ds.all k8&&zb ds)&&decide (ds.length <=6)
 |_=> false
structure It (d:ae):Prop where
 s: ∀x,d=.str x -> asc x=true/\x.length <=100000
 l:d.canLay0=true
 d:d.depth <=60
theorem It.ok(h:It d):okD d=true:=by
 unfold okD
 rw [h.l,gE]
 exact decide_eq_true (ax h.d (by decide))
theorem ap6: ∀{ds:List ae},(∀x∈ds,It x) -> bT ds=true
 |[],_=> rfl
 |x::r,h=> by simp only [bT,(h x aC).l,ap6 fun y hy=> h y (aB _ hy),gD]
theorem aec{x:ae}: ∀{ds:List ae},x∈ds -> x.depth <=bv ds
 |d::r,h=> by
  simp only [bv]
  rcases aw.mp h with e|e
  ·subst e;exact kB _ _
  ·exact ax (aec e) (jK _ _)
theorem zh{n:Nat}: ∀{ds:List ae},(∀x∈ds,x.depth <=n) -> bv ds <=n
 |[],_=> c9 _
 |d::r,h=> by
  simp only [bv]
  exact Nat.max_le.mpr ⟨h d aC,zh fun y hy=> h y (aB _ hy)⟩
theorem acy(h: ∀x∈ds,It x):okD (.list ds)=true:=by
 unfold okD
 rw [aH]
 refine⟨by simp only [f9];exact ap6 h,decide_eq_true ?_⟩
 simp only [aV]
 have:=zh fun x hx=> (h x hx).d
 lia
theorem adt(hl:ds.length <=1000)(hx: ∀x∈ds,It x):j7 [.tup ds] s=.ok (.bl (jw (.tuple ds))) s:=by
 rw [afv];unfold Bare_unlike_ports
 walk_at "ev"
 rw [show kx (.tuple ds) "tuple"=true from rfl]
 walk_at "ev"
 rw [vp (ρ0:=[none]) (by rw [ak];lia) rfl]
 rw [ve (fun _=> true) (fun x=> D.bl (k8 x)) ds (fun x _=> rfl) (fun x hm _=> by
  walk_at "ev"
  rw [a2p (hx x hm).s];rfl),cW.mpr (fun _ _=> rfl)]
 rw [show ds.map (fun x=> D.bl (k8 x))=(ds.map fun x=> cA (k8 x)).map D.da by rw [cO];rfl]
 walk_at "ev"
 rw [all_map]
 show _=R.ok (D.bl (ds.all k8&&zb ds)) s
 cases hp:ds.all k8 with
 |false=> walk_at "ev"
 |true=>
  walk_at "ev"
  obtain⟨ss,rfl,hs⟩:=aao hp
  rw [ak]at hl
  rw [ah3 (by lia)]
  walk_at "ev"
  rw [k7]
  walk_at "ev"
  unfold zb
  rw [zd]
  have e:(((jn ss).length:Int)=((ss.map aF).length:Int))=((jn ss).length=(ss.map aF).length):=propext (by lia)
  congr 3
structure Gv (d:ae):Prop where
 i:It d
 t: ∀ds,d=.tuple ds -> ds.length <=1000/\ ∀x∈ds,It x
theorem aeg(h:Gv d):j7 [.da d] s=.ok (.bl (jw d)) s:=by
 cases d with
 |tuple ds=> exact adt (h.t ds rfl).1 (h.t ds rfl).2
 |_=> rfl
theorem a3b(h:Gv d):adx [.da d] s=.ok (.bl (adi d)) s:=by
 rw [axb];unfold Bis_seen
 walk_at "ev"
 rw [aeg h]
 cases d with
 | tuple ds=>
  show _=R.ok (D.bl ((ds.all k8&&zb ds)&&decide (ds.length <=6))) s
  rw [show jw (.tuple ds)=(ds.all k8&&zb ds) from rfl]
  cases ds.all k8&&zb ds with
  |false=> walk_at "ev"
  |true=>
   walk_at "ev"
   have e:((ds.length:Int) <=6)=(ds.length <=6):=propext (by lia)
   congr 3
 |_=> rfl
noncomputable def yk:ae -> Bool
 |.int i=> decide (1 <=i)&&decide (i <=3)
 |_=> false
theorem avy:aba [.da d] s=.ok (.bl (yk d)) s:=by
 rw [apb];unfold Bis_things
 walk_at "ev"
 rw [ap5]
 cases d with
 | int i=>
  simp only [vz]
  walk_at "ev"
  by_cases h0:1 <=i
  ·simp only [h0,decide_true,yk]
   walk_at "ev"
  ·simp only [h0,decide_false,yk]
   walk_at "ev"
 |_=> rfl
def afm(m:Int)(d:ae):Bool:=isN (.da d)||qv m d
theorem a1v:ae8 [.int m,.da d] s=.ok (.bl (afm m d)) s:=by
 rw [avc];unfold Bis_held
 walk_at "ev"
 unfold afm
 cases isN (.da d) with
 |true=> walk_at "ev";rfl
 |false=>
  walk_at "ev"
  rw [aow];rfl
def y0:List ae -> Bool
 |x::y::r=> ltb x y&&y0 (y::r)
 |_=> true
theorem au9{b:ae}(h:(ltP a b).isSome=true):ltP a b=some (ltb a b):=by
 unfold ltb
 match ltP a b,h with
 |some true,_=> rfl
 |some false,_=> rfl
theorem alc: ∀xs:List ae,((xs.zip (xs.drop 1)).map fun p=> ltb p.1 p.2).all id=y0 xs
 |[]=> rfl
 |[_]=> rfl
 |x::y::r=> by
  have ih:=alc (y::r)
  simp only [lR,im,List.zip_cons_cons,aJ,cX,id]at ih⊢
  rw [ih];rfl
theorem azs{p:ae×ae}(h:p∈xs.zip (xs.drop 1)):p.1∈xs/\p.2∈xs:=⟨(fJ h).1,dh (fJ h).2⟩
structure CmpR (xs:List ae):Prop where
 lt: ∀a∈xs,∀b∈xs,(ltP a b).isSome=true
 ok: ∀a∈xs,okD a=true
theorem axj(h:CmpR xs)(hl:xs.length <=1000):ab7 [.tup xs] s=.ok (.bl (y0 xs)) s:=by
 rw [apo];unfold Bis_rising
 walk_at "ev"
 rw [show qx xs (some 1) none=xs.drop 1 from aax xs 1]
 rw [vp (ρ0:=[none,none]) (by rw [ak,List.length_zip];lia) rfl]
 rw [afs (fun p:ae×ae=> D.tup [p.1,p.2]) (fun _=> true) (fun p=> cA (ltb p.1 p.2)) (xs.zip (xs.drop 1)) (fun p hp=> ⟨[some (.da p.1),some (.da p.2)],rfl,rfl,fun _=> by
  obtain⟨m1,m2⟩:=azs hp
  walk_at "ev"
  rw [az6 (au9 (h.lt _ m1 _ m2)) (h.ok _ m1) (h.ok _ m2)]⟩),cW.mpr (fun _ _=> rfl)]
 walk_at "ev"
 rw [show (xs.zip (xs.drop 1)).map (fun p=> cA (ltb p.1 p.2))=((xs.zip (xs.drop 1)).map fun p=> ltb p.1 p.2).map cA by rw [cO];rfl,aiq,alc]
 rfl
theorem aes: ∀{ds:List ae},ds.all vz=true -> ∃is:List Int,ds=is.map .int
 |[],_=> ⟨[],rfl⟩
 |d::r,h=> by
  (rw [cX,aH]at h)
  obtain⟨is,rfl⟩:=aes h.2
  cases d with
  |int i=> exact⟨i::is,rfl⟩
  |_=> exact absurd h.1 am
theorem ag6(h:qv m d=true):vz d=true:=by
 cases d with
 |int i=> rfl
 |_=> exact absurd h am
theorem aw1(is:List Int):CmpR (is.map aE):=⟨fun a ha b hb=> by
  obtain⟨i,_,rfl⟩:=bg.mp ha
  obtain⟨j,_,rfl⟩:=bg.mp hb
  rw [aib];rfl,fun a ha=> by
  obtain⟨i,_,rfl⟩:=bg.mp ha
  rfl⟩
def afk(m:Int):ae -> Bool
 |.tuple ds=> ds.all (qv m)&&y0 ds
 |_=> false
theorem a2x(h:Gv d):adh [.int m,.da d] s=.ok (.bl (afk m d)) s:=by
 rw [avg];unfold Bis_told
 walk_at "ev"
 cases d with
 | tuple ds=>
  obtain⟨hl,hx⟩:=h.t ds rfl
  rw [show kx (.tuple ds) "tuple"=true from rfl]
  walk_at "ev"
  rw [vp (ρ0:=[none,some (.int m)]) (by simp;lia) rfl]
  rw [ve (fun _=> true) (fun x=> D.bl (qv m x)) ds (fun x _=> rfl) (fun x hx _=> by
   walk_at "ev"
   rw [aow];rfl)]
  rw [cW.mpr (fun _ _=> rfl),show ds.map (fun x=> D.bl (qv m x))=(ds.map fun x=> cA (qv m x)).map D.da by rw [cO];rfl]
  walk_at "ev"
  rw [all_map]
  show _=R.ok (D.bl (ds.all (qv m)&&y0 ds)) s
  cases hp:ds.all (qv m) with
  |false=> walk_at "ev"
  | true=>
   walk_at "ev"
   obtain⟨is,rfl⟩:=aes (ds:=ds) (by
    rw [aO]at hp⊢
    exact fun x hx=> ag6 (hp x hx))
   have:=axj (s:=s) (aw1 is) hl
   rw [this];rfl
 |_=> rfl
def ab8(a:ae):ae -> Bool
 |.tuple ds=> (decide (1 <=ds.length)&&decide (ds.length <=12))&&jw (.tuple (a::ds))
 |_=> false
theorem arj(ha:It a)(h:Gv d):ac1 [.da a,.da d] s=.ok (.bl (ab8 a d)) s:=by
 rw [axg];unfold Bis_knot
 walk_at "ev"
 cases d with
 | tuple ds=>
  obtain⟨hl,hx⟩:=h.t ds rfl
  rw [show kx (.tuple ds) "tuple"=true from rfl]
  walk_at "ev"
  show _=R.ok (D.bl ((decide (1 <=ds.length)&&decide (ds.length <=12))&&jw (.tuple (a::ds)))) s
  by_cases h1:1 <=ds.length
  ·rw [decide_eq_true (show (1:Int) <=(ds.length:Int) by lia),decide_eq_true h1]
   walk_at "ev"
   by_cases h2:ds.length <=12
   ·rw [decide_eq_true (show (ds.length:Int) <=(12:Int) by lia),decide_eq_true h2]
    walk_at "ev"
    rw [abw (by simp;lia)]
    walk_at "ev"
    rw [adt (by simp;lia) (fun x hx'=> by
     rcases aw.mp hx' with z|z
     ·subst z;exact ha
     ·exact hx x z)]
    rfl
   ·rw [decide_eq_false (show¬(ds.length:Int) <=(12:Int) by lia),decide_eq_false h2]
    walk_at "ev"
  ·rw [decide_eq_false (show¬(1:Int) <=(ds.length:Int) by lia),decide_eq_false h1]
   walk_at "ev"
 |_=> rfl
inductive Lf (n:Nat):ae -> Prop
 |none:Lf n .none
 |bool (b:Bool):Lf n (.bool b)
 |int {i:Int}:i.natAbs <=1000+n -> Lf n (.int i)
 |str {x:Str}:asc x=true -> x.length <=40*4^n -> Lf n (.str x)
 |tup {ds:List ae}:ds.length <=140+n -> (ds.filter vz).length <=30+n -> (∀x∈ds,Lf n x) -> Lf n (.tuple ds)
 |lst {ds:List ae}:ds.length <=140+n -> (∀x∈ds,Lf n x) -> Lf n (.list ds)
theorem Lf.mono{m:Nat}(h:Lf n d)(hm:n <=m):Lf m d:=by
 induction h with
 |none=> exact .none
 |bool b=> exact .bool b
 |int h=> exact .int (by lia)
 |str h l=> exact .str h (ax l (lS _ (Nat.pow_le_pow_right (by decide) hm)))
 |tup hl hw _ ih=> exact .tup (by lia) (by lia) ih
 |lst hl _ ih=> exact .lst (by lia) ih
theorem aif: ∀{ds:List ae},(∀x∈ds,x.canLay0=true) -> bT ds=true
 |[],_=> rfl
 |x::r,h=> by simp only [bT,h x aC,aif fun y hy=> h y (aB _ hy),gD]
theorem Lf.lay(h:Lf n d):d.canLay0=true:=by
 induction h with
 |none=> rfl
 |bool b=> rfl
 |int _=> rfl
 | @str x h _=>
  show PyData.strOk x=true
  unfold asc at h
  unfold PyData.strOk
  simp only [aO,aH,decide_eq_true_eq]at h
  (rw [←jI,aO])
  intro c hc
  have:=h c hc
  (exact decide_eq_true (by lia))
 |tup _ _ _ ih=> simp only [f9];exact aif ih
 |lst _ _ ih=> simp only [f9];exact aif ih
structure Gd (d:ae):Prop where
 lf:Lf 3 d
 dp:d.depth <=60
 bk:d.bulk <=340000
theorem agv{x:ae}: ∀{ds:List ae},x∈ds -> x.bulk+1 <=aG ds
 |d::r,h=> by
  simp only [aG]
  rcases aw.mp h with e|e
  ·subst e;lia
  ·have:=agv e;lia
theorem Gd.it(h:Gd d):It d:=⟨fun x e=> by
 subst e
 cases h.lf with
 |str a b=> exact⟨a,ax b (by decide)⟩,h.lf.lay,h.dp⟩
theorem Gd.kid{x:ae}(h:Gd (.tuple ds))(hx:x∈ds):Gd x:=by
 refine⟨?_,?_,?_⟩
 ·cases h.lf with
  |tup _ _ a=> exact a x hx
 ·have:=h.dp
  simp only [aV]at this
  have:=aec hx
  lia
 ·have:=h.bk
  simp only [cB]at this
  have:=agv hx
  lia
theorem Gd.len(h:Gd (.tuple ds)):ds.length <=143/\(ds.filter vz).length <=33:=by
 cases h.lf with
 |tup a b _=> exact⟨a,b⟩
theorem Gd.gv(h:Gd d):Gv d:=⟨h.it,fun ds e=> by
 subst e
 exact⟨ax h.len.1 (by decide),fun x hx=> (h.kid hx).it⟩⟩
noncomputable def isS(z:Str):ae -> Bool
 |.str x=> decide (x=z)
 |_=> false
noncomputable def isIn(ss:List Str):ae -> Bool
 |.str x=> decide (x∈ss)
 |_=> false
theorem a6o(w:ae)(z:Str):aK w (.str z)=isS z w:=by
 cases w with
 |str x=>
  show (x==z)=decide (x=z)
  (rw [aW,beq_iff_eq,decide_eq_true_eq])
 |_=> rfl
theorem aaz{w:ae}(z:Str)(h:It w)(hz:okD (.str z)=true:=by decide+kernel):gEq (.da w) (.da (.str z)) s=.ok (.bl (isS z w)) s:=by rw [afa h.ok hz,a6o]
theorem atb(w:ae)(ss:List Str):((ss.map aF).any fun d=> aK d w)=isIn ss w:=by
 cases w with
 |str x=> exact agu ss
 |_=>
  rw [show∀b:Bool,(b=isIn ss _)=(b=false) from fun b=> rfl,iO]
  intro d hd
  obtain⟨x,_,rfl⟩:=bg.mp hd
  exact am
theorem ay9{w:ae}(ss:List Str)(h:It w)(hs: ∀x∈ss,okD (.str x)=true:=by decide+kernel):gIn (.da w) (.con (ss.map aF)) s=.ok (.bl (isIn ss w)) s:=by
 have key: ∀w,okD w=true -> (if okD w=true/\(ss.map aF).all okD=true then R.ok (D.bl (nb false ((ss.map aF).any fun d=> aK d w))) s else .bad)=.ok (.bl (isIn ss w)) s:=fun w hw=> by
  rw [if_pos ⟨hw,all_strs hs⟩,atb];rfl
 have:=h.ok
 cases w <;> exact key _ this
theorem aqr{w:ae}(ss:List Str){l:List ae}(e:l=ss.map aF)(h:It w)(hs: ∀x∈ss,okD (.str x)=true:=by decide+kernel):gIn (.da w) (.tup l) s=.ok (.bl (isIn ss w)) s:=by
 subst e
 have key: ∀w,okD w=true -> (if okD w=true/\(ss.map aF).all okD=true then R.ok (D.bl (nb false ((ss.map aF).any fun d=> aK d w))) s else .bad)=.ok (.bl (isIn ss w)) s:=fun w hw=> by
  rw [if_pos ⟨hw,all_strs hs⟩,atb];rfl
 have:=h.ok
 cases w <;> exact key _ this
def yo(m:Int):ae -> Bool
 |.tuple [w,a,b]=> if isS "copy" w=true then ab8 a b else if isS "merge" w=true then ab8 b a else isIn ["both","loose","drain","either"] w&&jw (.tuple [a,b])
 |.tuple [w,a,b,x]=> jw (.tuple [a,b])&&(if isIn ["place","last"] w=true then afm m x else isS "only" w&&afk m x)
 |_=> false
theorem afj{b c:ae}{r:List ae}:qx (a::b::c::r) (some 1) (some 3)=[b,c]:=by
 rw [show (1:Int)=((1:Nat):Int) from rfl,show (3:Int)=((3:Nat):Int) from rfl,ao2];simp
theorem a8d{r:List ae}:qx (a::r) (some 1) none=r:=aax _ 1
section
variable{m:Int}{w a b x:ae}{s:S}
theorem a1n(h:Gd (.tuple [w,a,b])):vw [.int m,.tup [w,a,b]] s=.ok (.bl (yo m (.tuple [w,a,b]))) s:=by
 have hw:=(h.kid (x:=w) (by simp))
 have ha:=(h.kid (x:=a) (by simp))
 have hb:=(h.kid (x:=b) (by simp))
 rw [aay];unfold Bis_flat_part
 walk_at "ev"
 rw [show kx (.tuple [w,a,b]) "tuple"=true from rfl]
 walk_at "ev"
 rw [decide_eq_true (show (3:Int) <=((3:Nat):Int) by decide)]
 walk_at "ev"
 rw [decide_eq_true (show ((3:Nat):Int) <=(4:Int) by decide)]
 walk_at "ev"
 rw [yx,decide_eq_false (by decide)]
 walk_at "ev"
 rw [aaz "copy" hw.it]
 show _=R.ok (D.bl (if isS "copy" w=true then ab8 a b else if isS "merge" w=true then ab8 b a else isIn ["both","loose","drain","either"] w&&jw (.tuple [a,b]))) s
 cases isS "copy" w with
 |true=>
  walk_at "ev"
  rw [arj ha.it hb.gv];rfl
 | false=>
  walk_at "ev"
  rw [aaz "merge" hw.it]
  cases isS "merge" w with
  |true=>
   walk_at "ev"
   rw [arj hb.it ha.gv];rfl
  | false=>
   walk_at "ev"
   rw [ay9 ["both","loose","drain","either"] hw.it]
   cases isIn ["both","loose","drain","either"] w with
   |false=> walk_at "ev"
   |true=>
    walk_at "ev"
    rw [a8d,adt (by simp) (fun y hy=> (h.kid (aB _ hy)).it)];rfl
theorem azx(h:Gd (.tuple [w,a,b,x])):vw [.int m,.tup [w,a,b,x]] s=.ok (.bl (yo m (.tuple [w,a,b,x]))) s:=by
 have hw:=(h.kid (x:=w) (by simp))
 have hx:=(h.kid (x:=x) (by simp))
 rw [aay];unfold Bis_flat_part
 walk_at "ev"
 rw [show kx (.tuple [w,a,b,x]) "tuple"=true from rfl]
 walk_at "ev"
 rw [decide_eq_true (show (3:Int) <=((4:Nat):Int) by decide)]
 walk_at "ev"
 rw [decide_eq_true (show ((4:Nat):Int) <=(4:Int) by decide)]
 walk_at "ev"
 rw [yx,decide_eq_true (by decide)]
 walk_at "ev"
 rw [afj,adt (by simp) (fun y hy=> (h.kid (by rcases aw.mp hy with z|z <;> simp_all)).it)]
 show _=R.ok (D.bl (jw (.tuple [a,b])&&(if isIn ["place","last"] w=true then afm m x else isS "only" w&&afk m x))) s
 cases jw (.tuple [a,b]) with
 |false=> walk_at "ev"
 | true=>
  walk_at "ev"
  rw [ay9 ["place","last"] hw.it]
  cases isIn ["place","last"] w with
  |true=>
   walk_at "ev"
   rw [a1v];rfl
  | false=>
   walk_at "ev"
   rw [aaz "only" hw.it]
   cases isS "only" w with
   |false=> walk_at "ev"
   |true=>
    walk_at "ev"
    rw [a2x hx.gv];rfl
theorem a2g(h:Gd d):vw [.int m,.da d] s=.ok (.bl (yo m d)) s:=by
 cases d with
 | tuple ds=>
  by_cases h3:ds.length=3
  ·obtain⟨w,a,b,rfl⟩: ∃w a b,ds=[w,a,b]:=by
    match ds,h3 with
    |[w,a,b],_=> exact⟨w,a,b,rfl⟩
   exact a1n h
  ·by_cases h4:ds.length=4
   ·obtain⟨w,a,b,x,rfl⟩: ∃w a b x,ds=[w,a,b,x]:=by
     match ds,h4 with
     |[w,a,b,x],_=> exact⟨w,a,b,x,rfl⟩
    exact azx h
   ·have e:yo m (.tuple ds)=false:=by
     match ds,h3,h4 with
     |[],_,_=> rfl
     |[_],_,_=> rfl
     |[_,_],_,_=> rfl
     |_::_::_::_::_::_,_,_=> rfl
    rw [e,aay];unfold Bis_flat_part
    walk_at "ev"
    rw [show kx (.tuple ds) "tuple"=true from rfl]
    walk_at "ev"
    by_cases h1:3 <=ds.length
    ·rw [decide_eq_true (show (3:Int) <=(ds.length:Int) by lia)]
     walk_at "ev"
     rw [decide_eq_false (show¬(ds.length:Int) <=(4:Int) by lia)]
     walk_at "ev"
    ·rw [decide_eq_false (show¬(3:Int) <=(ds.length:Int) by lia)]
     walk_at "ev"
 |_=> rfl
end
abbrev Fa:=Str×List Nat
noncomputable def pd(p:List Nat):ae:=.tuple (p.map fun i:Nat=> aE (i:Int))
structure Ex {α:Type} (r:R α) (s:S) (f:Fa):Prop where
 ex: ∃(n:Nat) (ρ:En) (s':S),r=.ex n ρ s'/\s'[n]?=some (.xcx "NoNet" [("word",.str f.1),("path",.da (pd f.2))])/\Ext s s'
theorem Ex.bind{α β:Type}{r:R α}{f:Fa}{g:α -> S -> R β}(h:Ex r s f):Ex (r.bind g) s f:=by
 obtain⟨n,ρ,s',rfl,a,b⟩:=h.ex
 exact⟨n,ρ,s',rfl,a,b⟩
theorem Ex.at{α:Type}{r:R α}{f:Fa}(h:Ex r s f):Ex (r.at ρ) s f:=by
 obtain⟨n,ρ',s',rfl,a,b⟩:=h.ex
 exact⟨n,ρ,s',rfl,a,b⟩
abbrev isC(C:Str):Prop:=(xb::xcs).contains C=true
theorem a7q{fs:List (Str×D)}{t:D}(h:s[n]?=some (.exc C fs))(hc:isC C):vt [.ref n,t] s=.ok .non s:=by
 have e:aen xb xcs [.ref n,t] s=.ok .non s:=by
  show (match s[n]? with|some (O.exc C fs)=> (if (xb::xcs).contains C=true then R.ok D.non s else .bad)|_=>.bad)=_
  rw [h]
  exact if_pos hc
 show ((R.bind (aen xb xcs [.ref n,t] s) fun _ s1=> R.ok (Fl.nx [some (.ref n),some t]) s1).bind _)=_
 rw [e]
 rfl
theorem aix{f:Str}{fs:List (Str×D)}{x:D}{fv:FE}(hv:fv ρ s=.ok x s)(ho:fo ρ s=.ok (.ref n) s)(h:s[n]?=some (.exc C fs))(hc:isC C)(hf:xfl.contains f=true)(hl:fs.length < 1000):
  afl xb xcs xfl f fo fv ρ s=.ok (.nx ρ) (s.set n (.exc C (putN f x fs))):=by
 unfold afl
 rw [hv,R.bind_ok,ho,R.bind_ok]
 show (match s[n]? with|some (O.exc C fs)=> (if ((xb::xcs).contains C=true/\xfl.contains f=true)/\fs.length < 1000 then R.ok (Fl.nx ρ) (s.set n (.exc C (putN f x fs))) else .bad)|_=>.bad)=_
 rw [h]
 exact if_pos ⟨⟨hc,hf⟩,hl⟩
theorem amp{a b:FS}{ρ':En}(h:a ρ s=.ok (.nx ρ') s1):jf a b ρ s=b ρ' s1:=by
 unfold jf;rw [h];rfl
theorem atj{fs:List (Str×D)}{t:D}{r:En}(h:s[n]?=some (.exc C fs))(hc:isC C):vf (jd 2 vt (ja (jb 0) (ja (fC t) jc))) (some (.ref n)::r) s=.ok (.nx (some (.ref n)::r)) s:=by
 show (R.bind ((vt [.ref n,t] s).at _) fun _ s1=> R.ok (Fl.nx (some (.ref n)::r)) s1)=_
 rw [a7q h hc];rfl
theorem ayt{d e:D}:vq [.ref s.length,d,e] (s++ [.exc "NoNet" []])=.ok .non (s++ [.exc "NoNet" [("word",d),("path",e)]]):=by
 have hp:putN "path" e (putN "word" d [])=[(("word":Str),d),(("path":Str),e)]:=by
  show (if ("word":Str)="path" then [(("word":Str),e)] else (("word":Str),d)::putN "path" e [])=_
  rw [if_neg (by decide+kernel)];rfl
 rw [azy];unfold ai7
 rw [amp (atj yr (by decide+kernel)),amp (aix (n:=s.length) (x:=d) rfl rfl yr (by decide+kernel) (by decide+kernel) (by simp)),ad3,aix (n:=s.length) (x:=e) rfl rfl yr (by decide+kernel) (by decide+kernel) (by simp [putN]),ad3,hp];rfl
theorem ze{w:Str}{p:List Nat}{fp:FE}(h:fp ρ s=.ok (.da (pd p)) s):Ex ((qg "NoNet" 3 vq (ja (fC (.da (.str w))) (ja fp jc)) ρ s).bind (af9 xb xcs ρ)) s (w,p):=by
 have e1:ja (fC (.da (.str w))) (ja fp jc) ρ s=.ok [.da (.str w),.da (pd p)] s:=by
  show ((fp ρ s).bind fun x s1=> (R.ok [x] s1:R (List D))).bind (fun xs s2=> R.ok (D.da (.str w)::xs) s2)=_
  rw [h];rfl
 have e2:qg "NoNet" 3 vq (ja (fC (.da (.str w))) (ja fp jc)) ρ s=.ok (.ref s.length) (s++ [.exc "NoNet" [("word",.da (.str w)),("path",.da (pd p))]]):=by
  unfold qg
  rw [e1,R.bind_ok,if_pos ⟨rfl,by decide⟩,ayt];rfl
 rw [e2,R.bind_ok,ake yr (by decide+kernel),ad3]
 exact⟨_,_,_,rfl,yr,Ext.add _ _⟩
def j8:ae -> Bool
 |.tuple [w,_,q]=> isS "net" w&&jw q
 |_=> false
noncomputable def ye:ae -> ae
 |.tuple [_,x,_]=> x
 |_=>.none
noncomputable def apr(m:Int):ae -> Bool
 |.tuple [_,.tuple [.int j,.tuple sn,_],.tuple q]=> decide (j=m)&&decide (sn.length=q.length)
 |_=> false
noncomputable def intD:ae -> Int
 |.int i=> i
 |_=> 0
def xn(F:ae -> List Nat -> Option Fa)(m:Int)(d:ae)(p:List Nat):Option Fa:=
 if j8 d=true then (match F (ye d) p with
  |some f=> some f
  |none=> if apr m d=true then none else some ("part",p))
 else if yo m d=true then none else some ("part",p)
def xu(F:ae -> List Nat -> Option Fa)(m:Int)(p:List Nat):List ae -> Nat -> Option Fa
 |[],_=> none
 |d::r,i=> match xn F m d (p++ [i]) with
  |some f=> some f
  |none=> xu F m p r (i+1)
def air(F:ae -> List Nat -> Option Fa)(d:ae)(p:List Nat):Option Fa:=match d with
 | .tuple [t,sn,ps]=> if yk t=true then (if adi sn=true then (match ps with
   |.tuple ds=> xu F (intD t) p ds 0
   |_=> some ("parts",p)) else some ("seen",p)) else some ("things",p)
 |_=> some ("net",p)
def jy:Nat -> ae -> List Nat -> Option Fa
 |0=> fun _ p=> some ("net",p)
 |k+1=> air (jy k)
def Out(r:R D)(s:S):Option Fa -> Prop
 |none=> r=.ok .non s
 |some f=> Ex r s f
theorem ahi(h:yk d=true): ∃i:Int,d=.int i/\1 <=i/\i <=3:=by
 cases d with
 |int i=>
  simp only [yk,aH,decide_eq_true_eq]at h
  exact⟨i,rfl,h⟩
 |_=> exact absurd h am
theorem ax3(h:adi d=true): ∃ds,d=.tuple ds:=by
 cases d with
 |tuple ds=> exact⟨ds,rfl⟩
 |_=> exact absurd h am
theorem ab9(h:jw d=true): ∃ds,d=.tuple ds:=by
 cases d with
 |tuple ds=> exact⟨ds,rfl⟩
 |_=> exact absurd h am
theorem xt(h:j8 d=true): ∃w x q,d=.tuple [w,x,.tuple q]:=by
 unfold j8 at h
 split at h
 ·rename_i w x q
  rw [aH]at h
  obtain⟨q,rfl⟩:=ab9 h.2
  exact⟨w,x,q,rfl⟩
 ·exact absurd h am
theorem ae0{p:List Nat}(h:jy k d p=none): ∃(j:Int) (sn ps:List ae),d=.tuple [.int j,.tuple sn,.tuple ps]/\1 <=j/\j <=3:=by
 cases k with
 |zero=> cases h
 | succ k=>
  simp only [jy,air]at h
  split at h
  ·rename_i t sn ps
   split at h
   ·rename_i ht
    obtain⟨j,rfl,a,b⟩:=ahi ht
    split at h
    ·rename_i hs
     obtain⟨ds,rfl⟩:=ax3 hs
     split at h
     ·exact⟨j,ds,_,rfl,a,b⟩
     ·cases h
    ·cases h
   ·cases h
  ·cases h
theorem ava(h:Gd d):v8 [.da d] s=.ok (.bl (j8 d)) s:=by
 rw [afw];unfold Bhas_within_shape
 walk_at "ev"
 cases d with
 | tuple ds=>
  rw [show kx (.tuple ds) "tuple"=true from rfl]
  walk_at "ev"
  rw [xf]
  by_cases h3:ds.length=3
  ·obtain⟨w,x,q,rfl⟩: ∃w a b,ds=[w,a,b]:=by
    match ds,h3 with
    |[w,a,b],_=> exact⟨w,a,b,rfl⟩
   rw [decide_eq_true (show (([w,x,q].length:Nat):Int)=3 from rfl)]
   walk_at "ev"
   rw [aaz "net" (h.kid (x:=w) (by simp)).it]
   show _=R.ok (D.bl (isS "net" w&&jw q)) s
   cases isS "net" w with
   |false=> walk_at "ev"
   |true=>
    walk_at "ev"
    rw [aeg (h.kid (x:=q) (by simp)).gv];rfl
  ·rw [decide_eq_false (show¬(ds.length:Int)=3 by lia)]
   have e:j8 (.tuple ds)=false:=by
    match ds,h3 with
    |[],_=> rfl
    |[_],_=> rfl
    |[_,_],_=> rfl
    |_::_::_::_::_,_=> rfl
   rw [e]
   walk_at "ev"
 |_=> rfl
theorem a1w{w ps:ae}{sn q:List ae}:zi [.int m,.tup [w,.tuple [.int j,.tuple sn,ps],.tuple q]] s=.ok (.bl (apr m (.tuple [w,.tuple [.int j,.tuple sn,ps],.tuple q]))) s:=by
 rw [amv];unfold Bfits_within
 walk_at "ev"
 rw [show∀ρ s,avw (.t3 (.nm 2) (.nm 3) (.nm 4)) [some (.int m),some ρ,none,none,none] (.da (.tuple [.int j,.tuple sn,ps])) s=.ok (.nx [some (.int m),some ρ,some (.int j),some (.da (.tuple sn)),some (.da ps)]) s from fun _ _=> rfl]
 walk_at "ev"
 rw [k7]
 show _=R.ok (D.bl (decide (j=m)&&decide (sn.length=q.length))) s
 cases decide (j=m) with
 |false=> walk_at "ev"
 |true=>
  walk_at "ev"
  rw [k7]
  walk_at "ev"
  have e:((sn.length:Int)=(q.length:Int))=(sn.length=q.length):=propext (by lia)
  congr 3
structure NetOk (k:Nat) (F:FF):Prop where
 ok: ∀(d:ae) (p:List Nat) (s:S),Gd d -> k+p.length=4 -> Out (F [.da d,.da (pd p)] s) s (jy k d p)
structure PartOk (k:Nat) (F:FF):Prop where
 ok: ∀(m:Int) (d:ae) (p:List Nat) (s:S),Gd d -> k+p.length=4 -> Out (F [.int m,.da d,.da (pd p)] s) s (xn (jy k) m d p)
theorem alb{p:List Nat}:Out (((jm (ju (j2 (jb 3))) (vy xb xcs (qg "NoNet" 3 vq (ja (fC (.da (.str "part"))) (ja (jb 2) jc)))) jl) [some (.int m),some (.da d),some (.da (pd p)),some (.bl b)] s).bind jt) s (if b=true then none else some ("part",p)):=by
 cases b with
 |true=>
  show _=_
  walk_at "ev"
 |false=>
  show Ex _ _ _
  walk_at "ev"
  exact Ex.bind (ze rfl)
theorem aw5{F G:FF}(hF:NetOk k F):PartOk k (fun as s=> (yw F G (as.map some++ [none]) s).bind jt):=by
 refine⟨fun m d p s gd hk=> ?_⟩
 simp only [aJ,dz,cK,cV]
 unfold yw
 unfold xn
 walk_at "ev"
 rw [ava gd]
 cases hw:j8 d with
 |false=>
  walk_at "ev"
  rw [a2g gd]
  rw [R.at_ok,R.bind_ok']
  exact alb (b:=yo m d)
 | true=>
  obtain⟨w,x,q,rfl⟩:=xt hw
  rw [show ye (.tuple [w,x,.tuple q])=x from rfl]
  have h:=hF.ok x p s (gd.kid (by simp)) hk
  cases hf:jy k x p with
  |some f=>
   rw [hf]at h
   walk_at "ev"
   show Ex _ _ _
   repeat (first|exact h|apply Ex.bind|apply Ex.at)
  |none=>
   rw [hf]at h
   have h:F [.da x,.da (pd p)] s=.ok .non s:=h
   obtain⟨j,sn,ps,rfl,_⟩:=ae0 hf
   walk_at "ev"
   rw [h]
   walk_at "ev"
   rw [a1w]
   rw [R.at_ok,R.bind_ok']
   exact alb (b:=apr m _)
theorem aiz{p:List Nat}{i:Nat}(h:p.length <=1000):jv false (.da (pd p)) (.tup [.int (i:Int)]) s=.ok (.da (pd (p++ [i]))) s:=by
 unfold pd
 rw [show (D.da (.tuple (p.map fun i:Nat=> aE (i:Int))))=D.tup (p.map fun i:Nat=> aE (i:Int)) from rfl,abw (by simp;lia),gZ]
 rfl
theorem au0{p:List Nat}:jr [.da (pd p)] s=.ok (.int p.length) s:=by
 unfold pd
 rw [show (D.da (.tuple (p.map fun i:Nat=> aE (i:Int))))=D.tup (p.map fun i:Nat=> aE (i:Int)) from rfl,a1l,ak]
theorem azn{k:Int}:an4 k [.tup xs] s=.ok (enD k xs,none) s:=(rfl)
def aqa(r:R Fl)(s:S):Option Fa -> Prop
 |none=> ∃ρ,r=.ok (.nx ρ) s
 |some f=> Ex r s f
theorem aqa.body{r:R Fl}{o:Option Fa}(h:aqa r s o):Out (r.bind jt) s o:=by
 cases o with
 |none=>
  obtain⟨ρ,rfl⟩:=h
  rfl
 |some f=> exact Ex.bind h
def cnB(G:FF):FS:=vf (jd 3 G (ja (jb 2) (ja (jb 6) (ja (fOp (jv false) (jb 1) (jh (ja (jb 5) jc))) jc))))
theorem al8{k:Nat}{G:FF}{m:Int}{p:List Nat}{a sn ps:D}{all:List D}{s:S}(hG:PartOk k G)(hk:k+1+p.length=4): ∀(ds:List ae) (i:Nat) (u v:Option D),(∀x∈ds,Gd x) ->
  aqa (qp (.t2 (.nm 5) (.nm 6)) (cnB G) (all,none) (enD (i:Int) ds) [some a,some (.da (pd p)),some (.int m),some sn,some ps,u,v] s) s (xu (jy k) m p ds i)
 |[],i,u,v,_=> ⟨_,rfl⟩
 | d::r,i,u,v,hd=> by
  rw [show enD (i:Int) (d::r)=.tup [.int i,d]::enD ((i:Int)+1) r from rfl,show ((i:Int)+1)=((i+1:Nat):Int) by lia]
  rw [aaq (ρ1:=[some a,some (.da (pd p)),some (.int m),some sn,some ps,some (.int i),some (.da d)]) rfl]
  have h:=hG.ok m d (p++ [i]) s (hd d aC) (by rw [aX];simp;lia)
  have ih:=fun u v=> al8 hG hk (m:=m) (a:=a) (sn:=sn) (ps:=ps) (all:=all) (s:=s) r (i+1) u v fun x hx=> hd x (aB _ hx)
  show aqa _ _ (match xn (jy k) m d (p++ [i]) with|some f=> some f|none=> xu (jy k) m p r (i+1))
  unfold cnB
  walk_at "ev"
  rw [aiz (by lia)]
  walk_at "ev"
  cases hf:xn (jy k) m d (p++ [i]) with
  |some f=>
   rw [hf]at h
   show Ex _ _ _
   repeat (first|exact h|apply Ex.bind|apply Ex.at)
  |none=>
   rw [hf]at h
   rw [show G [.int m,.da d,.da (pd (p++ [i]))] s=.ok .non s from h]
   walk_at "ev"
   exact ih _ _
theorem a3s{A B u v w x y:Option D}{b m e:ae}:avw (.t3 (.nm 2) (.nm 3) (.nm 4)) [A,B,u,v,w,x,y] (.tup [b,m,e]) s=.ok (.nx [A,B,some (.da b),some (.da m),some (.da e),x,y]) s:=rfl
theorem aft(h:ds.length=3): ∃a b c,ds=[a,b,c]:=by
 match ds,h with
 |[a,b,c],_=> exact⟨a,b,c,rfl⟩
theorem ajm{F:ae -> List Nat -> Option Fa}{p:List Nat}(h:ds.length≠3):air F (.tuple ds) p=some (("net":Str),p):=by
 match ds,h with
 |[],_=> rfl
 |[_],_=> rfl
 |[_,_],_=> rfl
 |[_,_,_],h=> exact absurd rfl h
 |_::_::_::_::_,_=> rfl
abbrev cnR(F G:FF):FF:=fun as s=> (yn F G (as.map some++ [none,none,none,none,none]) s).bind jt
theorem ans{F G:FF}{p:List Nat}(h: ∀a b c,d≠ .tuple [a,b,c]):Ex (cnR F G [.da d,.da (pd p)] s) s ("net",p):=by
 unfold cnR
 simp only [aJ,dz,cK,cV]
 unfold yn
 walk_at "ev"
 cases hd:kx d "tuple" with
 |false=>
  walk_at "ev"
  exact Ex.bind (Ex.bind (ze rfl))
 | true=>
  cases d with
  | tuple ds=>
   walk_at "ev"
   rw [xf,decide_eq_false (show¬(ds.length:Int)=3 from fun z=> by
    obtain⟨a,b,c,rfl⟩:=aft (ds:=ds) (by lia)
    exact h a b c rfl)]
   walk_at "ev"
   exact Ex.bind (Ex.bind (ze rfl))
  |_=> cases hd
theorem aun{F G:FF}:NetOk 0 (cnR F G):=by
 refine⟨fun d p s gd hk=> ?_⟩
 show Ex _ _ ("net",p)
 by_cases h: ∃a b c,d=.tuple [a,b,c]
 ·obtain⟨a,b,c,rfl⟩:=h
  unfold cnR
  simp only [aJ,dz,cK,cV]
  unfold yn
  walk_at "ev"
  rw [show kx (.tuple [a,b,c]) "tuple"=true from rfl]
  walk_at "ev"
  rw [xf,decide_eq_true (show ((3:Nat):Int)=3 from rfl)]
  walk_at "ev"
  rw [au0]
  walk_at "ev"
  rw [decide_eq_true (show (4:Int) <=(p.length:Int) by lia)]
  walk_at "ev"
  exact Ex.bind (Ex.bind (ze rfl))
 ·exact ans fun a b c e=> h ⟨a,b,c,e⟩
theorem a1m{F G:FF}(hG:PartOk k G):NetOk (k+1) (cnR F G):=by
 refine⟨fun d p s gd hk=> ?_⟩
 by_cases h: ∃a b c,d=.tuple [a,b,c]
 ·obtain⟨t,sn,ps,rfl⟩:=h
  have g1:=gd.kid (x:=sn) (by simp)
  have g2:=gd.kid (x:=ps) (by simp)
  show Out _ _ (if yk t=true then (if adi sn=true then (match (generalizing:=false) ps with
   |.tuple ds=> xu (jy k) (intD t) p ds 0
   |_=> some ("parts",p)) else some ("seen",p)) else some ("things",p))
  unfold cnR
  simp only [aJ,dz,cK,cV]
  unfold yn
  walk_at "ev"
  rw [show kx (.tuple [t,sn,ps]) "tuple"=true from rfl]
  walk_at "ev"
  rw [xf,decide_eq_true (show ((3:Nat):Int)=3 from rfl)]
  walk_at "ev"
  rw [au0]
  walk_at "ev"
  rw [decide_eq_false (show¬(4:Int) <=(p.length:Int) by lia)]
  walk_at "ev"
  rw [a3s]
  walk_at "ev"
  rw [avy]
  cases ht:yk t with
  |false=>
   walk_at "ev"
   exact Ex.bind (Ex.bind (ze rfl))
  | true=>
   obtain⟨j,rfl,_,_⟩:=ahi ht
   walk_at "ev"
   rw [a3b g1.gv]
   cases hs:adi sn with
   |false=>
    walk_at "ev"
    exact Ex.bind (Ex.bind (ze rfl))
   | true=>
    walk_at "ev"
    cases ps with
    |tuple ds=>
     rw [show kx (.tuple ds) "tuple"=true from rfl]
     walk_at "ev"
     rw [azn]
     walk_at "ev"
     exact (al8 hG (by lia) ds 0 _ _ fun x hx=> g2.kid hx).body
    |_=> exact Ex.bind (Ex.bind (ze rfl))
 ·have e:jy (k+1) d p=some (("net":Str),p):=by
   show air (jy k) d p=_
   cases d with
   |tuple ds=> exact ajm fun z=> h (by obtain⟨a,b,c,rfl⟩:=aft z;exact⟨a,b,c,rfl⟩)
   |_=> rfl
  rw [e]
  exact ans fun a b c e=> h ⟨a,b,c,e⟩
theorem NetOk.of{F F':FF}(h:NetOk k F')(e: ∀a b s,F [a,b] s=F' [a,b] s):NetOk k F:=⟨fun d p s g hk=> by rw [e];exact h.ok d p s g hk⟩
theorem PartOk.of{F F':FF}(h:PartOk k F')(e: ∀a b c s,F [a,b,c] s=F' [a,b,c] s):PartOk k F:=⟨fun m d p s g hk=> by rw [e];exact h.ok m d p s g hk⟩
theorem a4q{f:Nat}(a b:D)(s:S):kc (f+1) [a,b] s=cnR (kc f) (ke f) [a,b] s:=aqs
theorem a7w{f:Nat}(a b c:D)(s:S):ke (f+1) [a,b,c] s=(fun as s=> (yw (kc f) (ke f) (as.map some++ [none]) s).bind jt:FF) [a,b,c] s:=anb
theorem ajt: ∀k f:Nat,2*k+1 <=f -> NetOk k (kc f)
 |0,f+1,_=> (aun (F:=kc f) (G:=ke f)).of a4q
 |k+1,f+2,h=> (a1m (F:=kc (f+1)) (G:=ke (f+1)) ((aw5 (G:=ke f) (ajt k f (by lia))).of a7w)).of a4q
theorem ayu(h:Gd d):Out (kc 10 [.da d,.tup []] s) s (jy 4 d []):=(ajt 4 10 (by decide)).ok d [] s h rfl
def au6(F:ae -> Nat):ae -> Nat
 |.tuple [_,_,.tuple ps]=> ps.length+(ps.map fun d=> if j8 d=true then F (ye d) else 0).sum
 |_=> 0
def km:Nat -> ae -> Nat
 |0=> fun _=> 0
 |k+1=> au6 (km k)
theorem ar8(h:yo m d=true): ∃w r,d=.tuple (w::r)/\isS "net" w=false:=by
 have key: ∀w:ae,isS "net" w=true -> isS "copy" w=false/\isS "merge" w=false/\isIn ["both","loose","drain","either"] w=false/\isIn ["place","last"] w=false/\isS "only" w=false:=by
  intro w hw
  cases w with
  |str x=>
   simp only [isS,decide_eq_true_eq]at hw
   subst hw
   decide+kernel
  |_=> exact absurd hw am
 unfold yo at h
 split at h
 ·rename_i w a b
  refine⟨w,[a,b],rfl,?_⟩
  cases q:isS "net" w with
  |false=> rfl
  |true=>
   obtain⟨a1,a2,a3,a4,a5⟩:=key w q
   simp [a1,a2,a3]at h
 ·rename_i w a b x
  refine⟨w,[a,b,x],rfl,?_⟩
  cases q:isS "net" w with
  |false=> rfl
  |true=>
   obtain⟨a1,a2,a3,a4,a5⟩:=key w q
   simp [a4,a5]at h
 ·exact absurd h am
theorem ak2{F:ae -> List Nat -> Option Fa}{p:List Nat}(h:xn F m d p=none): ∃w r,d=.tuple (w::r)/\isS "net" w=j8 d:=by
 unfold xn at h
 cases hw:j8 d with
 |true=>
  obtain⟨w,x,q,rfl⟩:=xt hw
  have:(isS "net" w&&jw (.tuple q))=true:=hw
  rw [aH]at this
  exact⟨w,_,rfl,this.1⟩
 | false=>
  rw [hw,if_neg am]at h
  split at h
  ·rename_i hf
   obtain⟨w,r,rfl,e⟩:=ar8 hf
   exact⟨w,r,rfl,e⟩
  ·cases h
theorem ame{F:ae -> List Nat -> Option Fa}{p:List Nat}(h:xn F m d p=none)(hw:j8 d=true):F (ye d) p=none:=by
 unfold xn at h
 rw [if_pos hw]at h
 split at h
 ·cases h
 ·assumption
theorem ahk{F:ae -> List Nat -> Option Fa}{m:Int}{p:List Nat}: ∀{ds:List ae} {i:Nat},xu F m p ds i=none -> ∀x∈ds,∃q,xn F m x q=none
 |[],_,_,x,hx=> by cases hx
 | d::r,i,h,x,hx=> by
  simp only [xu]at h
  split at h
  ·cases h
  ·rename_i e
   rcases aw.mp hx with z|z
   ·subst z;exact⟨_,e⟩
   ·exact ahk h x z
theorem ag1{p:List Nat}(h:jy (k+1) d p=none): ∃(j:Int) (sn ps:List ae),d=.tuple [.int j,.tuple sn,.tuple ps]/\ ∀x∈ps,∃q,xn (jy k) j x q=none:=by
 obtain⟨j,sn,ps,rfl,_⟩:=ae0 h
 refine⟨j,sn,ps,rfl,?_⟩
 simp only [jy,air]at h
 split at h
 ·split at h
  ·exact ahk h
  ·cases h
 ·cases h
def ctB(F:FF):FS:=jm (jg (fOp gEq (fOp gIx (jb 2) (fC (.da (.int 0)))) (fC (.da (.str "net"))))) (agp 1 (jd 1 F (ja (fOp gIx (jb 2) (fC (.da (.int 1)))) jc))) jl
theorem alr{F:FF}{C:ae -> Nat}{d:D}{all:List D}{s:S}: ∀(ds:List ae) (n:Nat) (u:Option D),(∀x∈ds,Gd x/\(∃w r,x=.tuple (w::r)/\isS "net" w=j8 x)/\(j8 x=true -> F [.da (ye x)] s=.ok (.int (C (ye x))) s)) ->
  ∃u',qp (.nm 2) (ctB F) (all,none) (ds.map D.da) [some d,some (.int n),u] s=.ok (.nx [some d,some (.int ((n+(ds.map fun x=> if j8 x=true then C (ye x) else 0).sum:Nat):Int)),u']) s
 |[],n,u,_=> ⟨u,rfl⟩
 | x::r,n,u,h=> by
  obtain⟨g,⟨w,q,rfl,hw⟩,hF⟩:=h x aC
  have ih:=fun n u=> alr (F:=F) (C:=C) (d:=d) (all:=all) (s:=s) r n u fun y hy=> h y (aB _ hy)
  rw [aJ,aaq (ρ1:=[some d,some (.int n),some (.da (.tuple (w::q)))]) rfl]
  have gw:=g.kid (x:=w) aC
  (rw [aJ,dJ])
  unfold ctB
  walk_at "ev"
  rw [aaz "net" gw.it,hw]
  cases hb:j8 (.tuple (w::q)) with
  |false=>
   walk_at "ev"
   obtain⟨u',e⟩:=ih n (some (.da (.tuple (w::q))))
   exact⟨u',e⟩
  |true=>
   obtain⟨w',y,z,e0⟩:=xt hb
   cases e0
   have hF:=hF hb
   rw [show ye (.tuple [w,y,.tuple z])=y from rfl]at hF⊢
   walk_at "ev"
   rw [a3d (x:=(n:Int)) rfl]
   walk_at "ev"
   rw [hF]
   walk_at "ev"
   obtain⟨u',e⟩:=ih (n+C y) (some (.da (.tuple [w,y,.tuple z])))
   refine⟨u',?_⟩
   rw [show ((n:Int)+(C y:Int))=((n+C y:Nat):Int) by lia]
   rw [gz]at e
   exact e
theorem v_count: ∀(k f:Nat) (d:ae) (p:List Nat) (s:S),k <=f -> Gd d -> jy k d p=none -> ki f [.da d] s=.ok (.int (km k d)) s
 |0,_,d,p,_,_,_,h=> by cases h
 | k+1,f+1,d,p,s,hf,gd,h=> by
  obtain⟨j,sn,ps,rfl,hp⟩:=ag1 h
  rw [akj];unfold yz
  walk_at "ev"
  have gp:=gd.kid (x:=.tuple ps) (by simp)
  obtain⟨u',e⟩:=alr (F:=ki f) (C:=km k) (d:=.tup [.int j,.tuple sn,.tuple ps]) (all:=ps.map D.da) (s:=s) ps ps.length none fun x hx=> by
   obtain⟨q,e⟩:=hp x hx
   have gx:=gp.kid hx
   refine⟨gx,ak2 e,fun hw=> ?_⟩
   obtain⟨w,y,z,rfl⟩:=xt hw
   exact v_count k f y q s (by lia) (gx.kid (by simp)) (ame e hw)
  rw [show (jm (jg (fOp gEq (fOp gIx (jb 2) (fC (.da (.int 0)))) (fC (.da (.str "net"))))) (agp 1 (jd 1 (ki f) (ja (fOp gIx (jb 2) (fC (.da (.int 1)))) jc))) jl)=ctB (ki f) from rfl,e]
  walk_at "ev"
  rfl
def am5(d:ae):Bool:=(jy 4 d []).isNone&&decide (km 4 d <=120)
def auu(r:R D)(s:S)(d:ae):Prop:=match jy 4 d []with
 |some f=> Ex r s f
 |none=> if km 4 d <=120 then r=.ok (.bl true) s else Ex r s ("many",[])
theorem azw(h:Gd d):auu (vc [.da d] s) s d:=by
 have hc:=ayu (s:=s) h
 rw [aqg];unfold Bright_net
 unfold auu
 walk_at "ev"
 cases hf:jy 4 d []with
 |some f=>
  rw [hf]at hc
  show Ex _ _ _
  repeat (first|exact hc|apply Ex.bind|apply Ex.at)
 | none=>
  rw [hf]at hc
  rw [show kc 10 [.da d,.tup []] s=.ok .non s from hc]
  walk_at "ev"
  rw [v_count 4 8 d [] s (by decide) h hf]
  walk_at "ev"
  show if km 4 d <=120 then _ else _
  by_cases h1:km 4 d <=120
  ·rw [if_pos h1,decide_eq_false (show¬(120:Int) < (km 4 d:Int) by lia)]
   walk_at "ev"
  ·rw [if_neg h1,decide_eq_true (show (120:Int) < (km 4 d:Int) by lia)]
   walk_at "ev"
   exact Ex.bind (Ex.bind (ze rfl))
theorem a1y(h:vc [.da d] s=.ok (.bl true) s):abh [.da d] s=.ok (.bl true) s:=by
 rw [anp];unfold Bis_net
 have e:ji (jd 1 vc (ja (jb 0) jc)) [some (.da d)] s=.ok (.rt (.bl true)) s:=by
  walk_at "ev"
  rw [h]
  walk_at "ev"
 rw [at7 e];rfl
theorem ari{f:Fa}(h:Ex (vc [.da d] s) s f): ∃s',abh [.da d] s=.ok (.bl false) s'/\Ext s s':=by
 rw [anp];unfold Bis_net
 have e:Ex (ji (jd 1 vc (ja (jb 0) jc)) [some (.da d)] s) s f:=by
  walk_at "ev"
  repeat (first|exact h|apply Ex.bind|apply Ex.at)
 obtain⟨n,ρ,s',e,a,b⟩:=e.ex
 refine⟨s',?_,b⟩
 rw [arf e,axh a (by decide+kernel) (by decide+kernel)]
 rfl
theorem a5n(h:Gd d): ∃s',abh [.da d] s=.ok (.bl (am5 d)) s'/\Ext s s':=by
 have hr:=azw (s:=s) h
 unfold auu at hr
 unfold am5
 cases hf:jy 4 d []with
 |some f=>
  rw [hf]at hr
  exact ari hr
 | none=>
  rw [hf]at hr
  have hr:if km 4 d <=120 then vc [.da d] s=.ok (.bl true) s else Ex (vc [.da d] s) s ("many",[]):=hr
  by_cases h1:km 4 d <=120
  ·rw [if_pos h1]at hr
   rw [decide_eq_true h1]
   exact⟨s,a1y hr,Ext.refl _⟩
  ·rw [if_neg h1]at hr
   rw [decide_eq_false h1]
   exact ari hr
theorem ap0(h:okD (.list xs)=true):gEq (.lst xs) (.lst []) s=.ok (.bl xs.isEmpty) s:=by rw [afa h rfl,aiw]
theorem aih(h:okD (.list xs)=true):gNe (.lst xs) (.lst []) s=.ok (.bl (!xs.isEmpty)) s:=by rw [af4 h rfl,aiw]
theorem aby{α:Type}(p:α -> Bool)(xs:List α):(xs.filter fun x=> !p x).isEmpty=xs.all p:=by
 induction xs with
 |nil=> rfl
 |cons x r ih=>
  cases h:p x with
  |true=> rw [ek (by simp [h]),ih,cX,h,gE]
  |false=> rw [eA (by simp [h]),cX,h];rfl
theorem anf{α β:Type}(f:α -> β)(l:List α):(l.map f).isEmpty=l.isEmpty:=by cases l <;> rfl
theorem a4m(h: ∀x,d=.str x -> asc x=true/\x.length <=100000):yy [.da d] s=.ok (.bl (k8 d)) s:=by
 rw [akm];unfold B_law_is_port
 walk_at "ev"
 cases d with
 | str x=>
  obtain⟨ha,hl⟩:=h x rfl
  rw [show kx (.str x) "str"=true from rfl]
  walk_at "ev"
  rw [len_str (by lia)]
  walk_at "ev"
  show _=R.ok (D.bl (afd x)) s
  unfold afd
  by_cases h1:1 <=x.length
  ·rw [decide_eq_true (show (0:Int) < (x.length:Int) by lia),decide_eq_true h1]
   walk_at "ev"
   by_cases h2:x.length <=8
   ·rw [decide_eq_true (show (x.length:Int) < 9 by lia),decide_eq_true h2]
    walk_at "ev"
    rw [ay7]
    walk_at "ev"
    rw [aod (afq ha)]
    walk_at "ev"
    rw [ajl,vp (ρ0:=[none,some (.str "abcdefghijklmnopqrstuvwxyz")]) (by rw [ak,aL];show x.length <=_;lia) rfl]
    rw [afs (fun c:Nat=> D.str ⟨#[c]⟩) (fun c=> !ai0 c) (fun c=> aF ⟨#[c]⟩) x.cps.toList (fun c hc=> ⟨[some (.str ⟨#[c]⟩),some (.str "abcdefghijklmnopqrstuvwxyz")],rfl,by
     walk_at "ev"
     rw [show∀s:S,qu (.str ⟨#[c]⟩) (.str (bG "abcdefghijklmnopqrstuvwxyz")) s=.ok (.bl (!alz (bG "abcdefghijklmnopqrstuvwxyz") ⟨#[c]⟩)) s from fun s=> rfl,aln (afq ha) c hc];rfl,fun _=> by
     walk_at "ev"⟩)]
    walk_at "ev"
    rw [ap0 (acy (by
     intro y hy
     obtain⟨c,hc,rfl⟩:=bg.mp hy
     have hc':=(bw.mp hc).1
     unfold asc at ha
     rw [aO]at ha
     have l:=Lf.str (n:=0) (x:=⟨#[c]⟩) (by
      show ([c].all fun c=> decide (9 <=c)&&decide (c < 127))=true
      rw [cX,ha c hc'];rfl) (by show 1 <=_;decide)
     exact Gd.it ⟨l.mono (by decide),by simp [aV],by simp only [cB];show 1 <=340000;decide⟩)),anf,aby]
    rfl
   ·rw [decide_eq_false (show¬(x.length:Int) < 9 by lia),decide_eq_false h2]
    walk_at "ev"
  ·rw [decide_eq_false (show¬(0:Int) < (x.length:Int) by lia),decide_eq_false h1]
   walk_at "ev"
 |_=> rfl
theorem anr:vn [.da d] s=.ok (.bl (vz d)) s:=by
 rw [aia];unfold B_law_is_whole
 walk_at "ev"
 cases d <;> simp only [kx] <;> rfl
theorem zy(hl:ds.length <=1000)(hx: ∀x∈ds,It x):j3 [.tup ds] s=.ok (.bl (jw (.tuple ds))) s:=by
 rw [ahz];unfold B_law_are_ports
 walk_at "ev"
 rw [show kx (.tuple ds) "tuple"=true from rfl]
 walk_at "ev"
 rw [vp (ρ0:=[none]) (by rw [ak];lia) rfl]
 rw [ve (fun x=> !k8 x) (fun x=> D.da x) ds (fun x hm=> by
  walk_at "ev"
  rw [a4m (hx x hm).s];rfl) (fun x hm _=> by
  walk_at "ev")]
 walk_at "ev"
 rw [aih (acy fun x hm=> hx x (bw.mp hm).1),aby]
 show _=R.ok (D.bl (ds.all k8&&zb ds)) s
 cases hp:ds.all k8 with
 |false=> walk_at "ev"
 |true=>
  walk_at "ev"
  obtain⟨ss,rfl,hs⟩:=aao hp
  rw [ak]at hl
  rw [ah3 (by lia)]
  walk_at "ev"
  rw [k7]
  walk_at "ev"
  unfold zb
  rw [zd]
  have e:(((jn ss).length:Int)=((ss.map aF).length:Int))=((jn ss).length=(ss.map aF).length):=propext (by lia)
  congr 3
theorem ah0(h:Gv d):j3 [.da d] s=.ok (.bl (jw d)) s:=by
 cases d with
 |tuple ds=> exact zy (h.t ds rfl).1 (h.t ds rfl).2
 |_=> rfl
theorem aob: ∀is:List Int,y0 (is.map aE)=decide (is.Pairwise (· < ·))
 |[]=> by simp [y0]
 |[_]=> by simp [y0]
 | i::j::r=> by
  have ih:=aob (j::r)
  show (ltb (.int i) (.int j)&&y0 ((j::r).map aE))=_
  have e:ltb (.int i) (.int j)=decide (i < j):=by
   unfold ltb
   rw [aib]
   by_cases z:i < j
   ·rw [decide_eq_true z]
   ·rw [decide_eq_false z]
  rw [ih,e,aW,aH,decide_eq_true_eq,decide_eq_true_eq,decide_eq_true_eq]
  constructor
  ·rintro⟨h1,h2⟩
   refine dE.mpr ⟨fun x hx=> ?_,h2⟩
   rcases aw.mp hx with z|z
   ·subst z;exact h1
   ·have:=(dE.mp h2).1 x z;lia
  ·intro h
   have:=dE.mp h
   exact⟨this.1 j aC,this.2⟩
theorem akd: ∀is:List Int,acb ((is.map aE).map D.da)=some is
 |[]=> rfl
 |i::r=> by
  show (match acb ((r.map aE).map D.da) with|some xs=> some (i::xs)|none=> none)=_
  rw [akd r]
theorem aji: ∀a b:List Int,cP (a.map aE) (b.map aE)=decide (a=b)
 |[],[]=> rfl
 |[],_::_=> rfl
 |_::_,[]=> rfl
 |i::a,j::b=> by
  show (aK (.int i) (.int j)&&cP (a.map aE) (b.map aE))=_
  rw [aji a b,ade,aW,aH,decide_eq_true_eq,decide_eq_true_eq,decide_eq_true_eq,fG]
theorem aro{a b:List Int}:gEq (.lst (a.map aE)) (.lst (b.map aE)) s=.ok (.bl (decide (a=b))) s:=by
 rw [afa (ags a) (ags b)]
 rw [show aK (.list (a.map aE)) (.list (b.map aE))=cP (a.map aE) (b.map aE) from rfl,aji]
theorem at5{is:List Int}(h:is.length < 64):ac9 false [.tup (is.map aE)] s=.ok (.lst ((zn (jn is)).map aE)) s:=by
 have hu:=(zq is).2.2
 show (match acb ((is.map aE).map D.da) with|some is=> if is.length < 4000/\(jn is).length < 64 then qw false ((zn (jn is)).map D.int) s else .bad|none=>.bad)=_
 rw [akd]
 show (if is.length < 4000/\(jn is).length < 64 then qw false ((zn (jn is)).map D.int) s else .bad)=_
 rw [if_pos ⟨by lia,by lia⟩]
 rw [show (zn (jn is)).map D.int=((zn (jn is)).map aE).map D.da by rw [cO];rfl]
 unfold qw
 rw [if_neg am,qj]
theorem ave{is:List Int}:(is=zn (jn is)) ↔ is.Pairwise (· < ·):=by
 constructor
 ·intro e
  rw [e]
  have h1:=ak0 (jn is)
  have h2:(zn (jn is)).Nodup:=(ak4 _).nodup_iff.mpr (zq is).1
  exact (h1.and h2).imp fun {a b} h=> by have:=h.1;have:=h.2;lia
 ·intro h
  have nd:is.Nodup:=h.imp fun {a b} h=> by lia
  rw [ahf nd]
  exact aoz (gK.refl _) (h.imp fun {a b} h=> by lia)
theorem arc(hl:ds.length <=1000)(hx: ∀x∈ds,It x)(hw:(ds.filter vz).length < 64):xc [.int m,.tup ds] s=.ok (.bl (afk m (.tuple ds))) s:=by
 rw [aj3];unfold B_law_are_told
 walk_at "ev"
 rw [show kx (.tuple ds) "tuple"=true from rfl]
 walk_at "ev"
 rw [vp (ρ0:=[none]) (by rw [ak];lia) rfl]
 rw [ve (fun x=> !vz x) (fun x=> D.da x) ds (fun x hm=> by
  walk_at "ev"
  rw [anr];rfl) (fun x hm _=> by
  walk_at "ev")]
 walk_at "ev"
 rw [aih (acy fun x hm=> hx x (bw.mp hm).1),aby]
 show _=R.ok (D.bl (ds.all (qv m)&&y0 ds)) s
 cases hp:ds.all vz with
 | false=>
  have e:ds.all (qv m)=false:=by
   cases q:ds.all (qv m) with
   |false=> rfl
   |true=>
    rw [←hp,aO.mpr]
    intro x hx
    exact ag6 (aO.mp q x hx)
  rw [e]
  walk_at "ev"
 | true=>
  obtain⟨is,rfl⟩:=aes hp
  rw [cW.mpr (fun x hx=> aO.mp hp x hx),ak]at hw
  walk_at "ev"
  rw [at5 hw]
  walk_at "ev"
  rw [aro,aob,show decide (is=zn (jn is))=decide (is.Pairwise (· < ·)) from by
   rw [aW,decide_eq_true_eq,decide_eq_true_eq];exact ave]
  cases decide (is.Pairwise (· < ·)) with
  |false=>
   rw [dX]
   walk_at "ev"
  | true=>
   rw [Bool.and_true]
   walk_at "ev"
   rw [vp (ρ0:=[none,some (.int m)]) (by rw [ak];lia) rfl]
   rw [ve (fun x=> !qv m x) (fun x=> D.da x) (is.map aE) (fun x hm=> by
    obtain⟨i,_,rfl⟩:=bg.mp hm
    walk_at "ev"
    show _=R.ok (!(decide (0 <=i)&&decide (i < m))) s
    cases decide (0 <=i) with
    |false=> walk_at "ev"
    |true=> walk_at "ev") (fun x hm _=> by
    walk_at "ev")]
   walk_at "ev"
   rw [ap0 (acy fun x hm=> hx x (bw.mp hm).1),aby]
   rfl
theorem asi:agl [.bl b] s=.ok (.int (if b=true then 1 else 0)) s:=rfl
def wc(w:ae):List Bool:=[isS "copy" w,isS "merge" w,isIn ["copy","merge"] w,isIn ["both","loose","drain","either"] w,isIn ["place","last"] w,isS "only" w]
theorem amy(w:ae):wc w=[true,false,true,false,false,false]\/wc w=[false,true,true,false,false,false]\/wc w=[false,false,false,true,false,false]\/wc w=[false,false,false,false,true,false]\/wc w=[false,false,false,false,false,true]\/wc w=[false,false,false,false,false,false]:=by
 cases w with
 | str x=>
  by_cases h1:x="copy"
  ·subst h1;left;decide+kernel
  by_cases h2:x="merge"
  ·subst h2;right;left;decide+kernel
  by_cases h3:x∈(["both","loose","drain","either"]:List Str)
  ·right;right;left
   have: ∀x∈(["both","loose","drain","either"]:List Str),wc (.str x)=[false,false,false,true,false,false]:=by decide+kernel
   exact this x h3
  by_cases h4:x∈(["place","last"]:List Str)
  ·right;right;right;left
   have: ∀x∈(["place","last"]:List Str),wc (.str x)=[false,false,false,false,true,false]:=by decide+kernel
   exact this x h4
  by_cases h5:x="only"
  ·subst h5;right;right;right;right;left;decide+kernel
  right;right;right;right;right
  have h6: ¬x∈(["copy","merge"]:List Str):=by
   intro z
   rcases aw.mp z with z|z
   ·exact h1 z
   ·exact h2 (aY.mp z)
  show [decide (x="copy"),decide (x="merge"),decide (x∈(["copy","merge"]:List Str)),decide (x∈(["both","loose","drain","either"]:List Str)),decide (x∈(["place","last"]:List Str)),decide (x="only")]=_
  rw [decide_eq_false h1,decide_eq_false h2,decide_eq_false h3,decide_eq_false h4,decide_eq_false h5,decide_eq_false h6]
 |_=> right;right;right;right;right;rfl
theorem aha{w:ae}{a c d e f:Bool}(h:wc w=[a,b,c,d,e,f]):isS "copy" w=a/\isS "merge" w=b/\isIn ["copy","merge"] w=c/\isIn ["both","loose","drain","either"] w=d/\isIn ["place","last"] w=e/\isS "only" w=f:=by
 unfold wc at h
 simp only [fG,and_true]at h
 exact h
theorem apn{es:List ae}(h:ds.Perm es):(ahe ds).Perm (ahe es):=h.filterMap _
theorem aop:((jn ss).length=ss.length) ↔ ss.Nodup:=⟨av8,fun h=> by rw [ahf h]⟩
theorem an7{es:List ae}(h:ds.Perm es):jw (.tuple ds)=jw (.tuple es):=by
 show (ds.all k8&&zb ds)=(es.all k8&&zb es)
 have e:ds.all k8=es.all k8:=by
  (rw [aW,aO,aO])
  exact⟨fun q x hx=> q x (h.mem_iff.mpr hx),fun q x hx=> q x (h.mem_iff.mp hx)⟩
 rw [e]
 cases hp:es.all k8 with
 |false=> rfl
 |true=>
  obtain⟨ss,rfl,_⟩:=aao (e.trans hp)
  obtain⟨ts,rfl,_⟩:=aao hp
  have hh:=apn h
  rw [zd,zd]at hh
  unfold zb
  rw [zd,zd,ak,ak]
  congr 1
  rw [aW,decide_eq_true_eq,decide_eq_true_eq,aop,aop]
  exact hh.nodup_iff
theorem ano:qu (.int (n:Int)) (.tup [.int 3,.int 4]) s=.ok (.bl (!(decide (n=3)||decide (n=4)))) s:=by
 show (if okD (.int n)=true/\ [aE 3,aE 4].all okD=true then R.ok (D.bl (nb true ([aE 3,aE 4].any fun d=> aK d (.int n)))) s else .bad)=_
 rw [if_pos ⟨rfl,rfl⟩]
 simp only [gC,List.any_nil,ade,lE]
 have e3:decide ((3:Int)=(n:Int))=decide (n=3):=by rw [aW,decide_eq_true_eq,decide_eq_true_eq];lia
 have e4:decide ((4:Int)=(n:Int))=decide (n=4):=by rw [aW,decide_eq_true_eq,decide_eq_true_eq];lia
 rw [e3,e4];rfl
def kn3(i:FE):FS:=(jf (jm (kz (ju (j2 (fCB k9 (ja (jb 3) (ja (fC (.ty "tuple")) jc))))) (ju (jg (vo gLe gLe (fC (.da (.int 1))) (fCB jr (ja (jb 3) jc)) (fC (.da (.int 12))))))) (ji (fC (.da (.bool false)))) jl)
  (ji (xj (fOp gEq (fCB jr (ja (jb 1) jc)) (fC (.da (.int 3)))) (jd 1 j3 (ja (fOp (jv false) (jb 3) (jh (ja (fOp gIx (jb 1) i) jc))) jc)))))
theorem aky{m t:D}{i:FE}(ha:It a)(h:Gv d)(hi: ∀ρ1:En,ρ1=[some m,some (.tup ps),some t,some (.da d)] -> (fOp gIx (jb 1) i) ρ1 s=.ok (.da a) s):
  kn3 i [some m,some (.tup ps),some t,some (.da d)] s=.ok (.rt (.bl (decide (ps.length=3)&&ab8 a d))) s:=by
 have hi:=hi _ rfl
 unfold kn3
 generalize fOp gIx (jb 1) i=fi at hi⊢
 walk_at "ev"
 cases d with
 | tuple ds=>
  obtain⟨hl,hx⟩:=h.t ds rfl
  rw [show kx (.tuple ds) "tuple"=true from rfl]
  walk_at "ev"
  show _=R.ok (Fl.rt (D.bl (decide (ps.length=3)&&((decide (1 <=ds.length)&&decide (ds.length <=12))&&jw (.tuple (a::ds)))))) s
  have e3:decide ((ps.length:Int)=3)=decide (ps.length=3):=by rw [aW,decide_eq_true_eq,decide_eq_true_eq];lia
  by_cases h1:1 <=ds.length
  ·rw [decide_eq_true (show (1:Int) <=(ds.length:Int) by lia),decide_eq_true h1]
   walk_at "ev"
   by_cases h2:ds.length <=12
   ·rw [decide_eq_true (show (ds.length:Int) <=(12:Int) by lia),decide_eq_true h2]
    walk_at "ev"
    rw [yx,e3]
    cases decide (ps.length=3) with
    |false=> walk_at "ev"
    | true=>
     walk_at "ev"
     rw [hi]
     walk_at "ev"
     rw [abw (by simp;lia)]
     walk_at "ev"
     rw [zy (by simp;lia) (fun x hx'=> by
      rcases bq.mp hx' with z|z
      ·exact hx x z
      ·rw [aY.mp z];exact ha),an7 (lj (l₁:=ds) (l₂:=[a]))]
     rfl
   ·rw [decide_eq_false (show¬(ds.length:Int) <=(12:Int) by lia),decide_eq_false h2]
    simp only [dX,eO]
    walk_at "ev"
  ·rw [decide_eq_false (show¬(1:Int) <=(ds.length:Int) by lia),decide_eq_false h1]
   simp only [dX,eO]
   walk_at "ev"
 |_=>
  rw [show∀e:ae,ab8 a _=false from fun e=> rfl,dX]
  ·walk_at "ev";rfl
  ·exact .none
theorem axq{w:ae}(h:kx w "str"=false):wc w=[false,false,false,false,false,false]:=by
 cases w with
 |str x=> cases h
 |_=> rfl
theorem atq{x:ae}:afk m (.tuple [x])=qv m x:=by
 show ([x].all (qv m)&&y0 [x])=_
 simp [y0]
theorem as6(h:n=3\/n=4):qu (.int (n:Int)) (.tup [.int 3,.int 4]) s=.ok (.bl false) s:=by
 rw [ano]
 rcases h with rfl|rfl <;> rfl
theorem a43(h:n≠3)(h2:n≠4):qu (.int (n:Int)) (.tup [.int 3,.int 4]) s=.ok (.bl true) s:=by
 rw [ano,decide_eq_false h,decide_eq_false h2];rfl
theorem a2t{w:ae}(h:It w):gIn (.da w) (.tup [.str "copy",.str "merge"]) s=.ok (.bl (isIn ["copy","merge"] w)) s:=aqr ["copy","merge"] rfl h
theorem ahh{w:ae}(h:It w):gIn (.da w) (.tup [.str "both",.str "loose",.str "drain",.str "either"]) s=.ok (.bl (isIn ["both","loose","drain","either"] w)) s:=aqr ["both","loose","drain","either"] rfl h
theorem ah1{w:ae}(h:It w):gIn (.da w) (.tup [.str "place",.str "last"]) s=.ok (.bl (isIn ["place","last"] w)) s:=aqr ["place","last"] rfl h
section
variable{m:Int}{w a b x:ae}{s:S}
theorem auh(h:Gd (.tuple [w,a,b])):qy [.int m,.tup [w,a,b]] s=.ok (.bl (yo m (.tuple [w,a,b]))) s:=by
 have hw:=(h.kid (x:=w) (by simp))
 have ha:=(h.kid (x:=a) (by simp))
 have hb:=(h.kid (x:=b) (by simp))
 rw [aab];unfold B_law_is_plain
 rw [←kn3.eq_1 (fOp (jv false) (fC (.da (.int 1))) (jb 2))]
 walk_at "ev"
 rw [show kx (.tuple [w,a,b]) "tuple"=true from rfl]
 walk_at "ev"
 rw [as6 (cM rfl)]
 show _=R.ok (D.bl (if isS "copy" w=true then ab8 a b else if isS "merge" w=true then ab8 b a else isIn ["both","loose","drain","either"] w&&jw (.tuple [a,b]))) s
 walk_at "ev"
 cases hs:kx w "str" with
 |false=>
  obtain⟨c1,c2,c3,c4,c5,c6⟩:=aha (axq hs)
  rw [c1,c2,c4]
  walk_at "ev"
 | true=>
  walk_at "ev"
  rw [aaz "merge" hw.it]
  walk_at "ev"
  rw [asi]
  walk_at "ev"
  rw [a2t hw.it]
  rcases amy w with q|q|q|q|q|q <;> obtain⟨c1,c2,c3,c4,c5,c6⟩:=aha q
  ·rw [c3,c2,c1]
   walk_at "ev"
   rw [show∀s:S,gIx (.tup [w,a,b]) (.int (2 - 0)) s=.ok (.da b) s from fun s=> vm (k:=2) rfl]
   walk_at "ev"
   rw [aky (s:=s) (m:=.int m) (ps:=[w,a,b]) (t:=.int 0) ha.it hb.gv (i:=fOp (jv false) (fC (.da (.int 1))) (jb 2)) fun ρ e=> by
    subst e
    walk_at "ev"
    exact vm (k:=1) rfl]
   rw [show decide ([w,a,b].length=3)=true from rfl,gE]
   walk_at "ev"
  ·rw [c3,c2,c1]
   walk_at "ev"
   rw [show∀s:S,gIx (.tup [w,a,b]) (.int (2 - 1)) s=.ok (.da a) s from fun s=> vm (k:=1) rfl]
   walk_at "ev"
   rw [aky (s:=s) (m:=.int m) (ps:=[w,a,b]) (t:=.int 1) hb.it ha.gv (i:=fOp (jv false) (fC (.da (.int 1))) (jb 2)) fun ρ e=> by
    subst e
    walk_at "ev"
    exact vm (k:=2) rfl]
   rw [show decide ([w,a,b].length=3)=true from rfl,gE]
   walk_at "ev"
  all_goals
   rw [c3,c2,c1,c4]
   walk_at "ev"
   rw [afj,zy (by simp) (fun y hy=> (h.kid (aB _ hy)).it)]
   cases jw (.tuple [a,b]) with
   |false=>
    walk_at "ev"
    try rfl
   |true=>
    walk_at "ev"
    rw [ahh hw.it,c4]
    walk_at "ev"
    first
    |(rw [yx,decide_eq_true (by decide)];walk_at "ev";done)
    |(rw [ah1 hw.it,c5];walk_at "ev";first|(rw [yx,decide_eq_false (by decide)];walk_at "ev";done)|(rw [aaz "only" hw.it,c6];walk_at "ev";try (rw [yx,decide_eq_false (by decide)];walk_at "ev")))
theorem aw8(h:Gd (.tuple [w,a,b,x])):qy [.int m,.tup [w,a,b,x]] s=.ok (.bl (yo m (.tuple [w,a,b,x]))) s:=by
 have hw:=(h.kid (x:=w) (by simp))
 have ha:=(h.kid (x:=a) (by simp))
 have hb:=(h.kid (x:=b) (by simp))
 have hx:=(h.kid (x:=x) (by simp))
 rw [aab];unfold B_law_is_plain
 rw [←kn3.eq_1 (fOp (jv false) (fC (.da (.int 1))) (jb 2))]
 walk_at "ev"
 rw [show kx (.tuple [w,a,b,x]) "tuple"=true from rfl]
 walk_at "ev"
 rw [as6 (eR rfl)]
 show _=R.ok (D.bl (jw (.tuple [a,b])&&(if isIn ["place","last"] w=true then afm m x else isS "only" w&&afk m x))) s
 walk_at "ev"
 cases hs:kx w "str" with
 |false=>
  obtain⟨c1,c2,c3,c4,c5,c6⟩:=aha (axq hs)
  rw [c5,c6]
  simp only [eO,dX,if_neg am]
  walk_at "ev"
 | true=>
  walk_at "ev"
  rw [aaz "merge" hw.it]
  walk_at "ev"
  rw [asi]
  walk_at "ev"
  rw [a2t hw.it]
  rcases amy w with q|q|q|q|q|q <;> obtain⟨c1,c2,c3,c4,c5,c6⟩:=aha q
  ·rw [c3,c2,c5,c6]
   walk_at "ev"
   rw [show∀s:S,gIx (.tup [w,a,b,x]) (.int (2 - 0)) s=.ok (.da b) s from fun s=> vm (k:=2) rfl]
   walk_at "ev"
   rw [aky (s:=s) (m:=.int m) (ps:=[w,a,b,x]) (t:=.int 0) ha.it hb.gv (i:=fOp (jv false) (fC (.da (.int 1))) (jb 2)) fun ρ e=> by
    subst e
    walk_at "ev"
    exact vm (k:=1) rfl]
   rw [show decide ([w,a,b,x].length=3)=false from rfl,eO]
   walk_at "ev"
  ·rw [c3,c2,c5,c6]
   walk_at "ev"
   rw [show∀s:S,gIx (.tup [w,a,b,x]) (.int (2 - 1)) s=.ok (.da a) s from fun s=> vm (k:=1) rfl]
   walk_at "ev"
   rw [aky (s:=s) (m:=.int m) (ps:=[w,a,b,x]) (t:=.int 1) hb.it ha.gv (i:=fOp (jv false) (fC (.da (.int 1))) (jb 2)) fun ρ e=> by
    subst e
    walk_at "ev"
    exact vm (k:=2) rfl]
   rw [show decide ([w,a,b,x].length=3)=false from rfl,eO]
   walk_at "ev"
  ·rw [c3,c2,c5,c6]
   walk_at "ev"
   rw [afj,zy (by simp) (fun y hy=> (h.kid (by rcases aw.mp hy with z|z <;> simp_all)).it)]
   cases jw (.tuple [a,b]) with
   |false=> walk_at "ev"
   |true=>
    walk_at "ev"
    rw [ahh hw.it,c4]
    walk_at "ev"
    rw [yx,decide_eq_false (by decide)]
    walk_at "ev"
  ·rw [c3,c2,c5,c6]
   walk_at "ev"
   rw [afj,zy (by simp) (fun y hy=> (h.kid (by rcases aw.mp hy with z|z <;> simp_all)).it)]
   cases jw (.tuple [a,b]) with
   |false=> walk_at "ev"
   | true=>
    walk_at "ev"
    rw [ahh hw.it,c4]
    walk_at "ev"
    rw [ah1 hw.it,c5]
    walk_at "ev"
    rw [yx,decide_eq_true (by decide)]
    walk_at "ev"
    unfold afm
    cases isN (.da x) with
    |true=> walk_at "ev";rfl
    |false=>
     walk_at "ev"
     rw [arc (by simp) (fun y hy=> by rw [aY.mp hy];exact hx.it) (fR (b6 _ _) (by simp)),atq]
     rfl
  ·rw [c3,c2,c5,c6]
   walk_at "ev"
   rw [afj,zy (by simp) (fun y hy=> (h.kid (by rcases aw.mp hy with z|z <;> simp_all)).it)]
   cases jw (.tuple [a,b]) with
   |false=> walk_at "ev"
   |true=>
    walk_at "ev"
    rw [ahh hw.it,c4]
    walk_at "ev"
    rw [ah1 hw.it,c5]
    walk_at "ev"
    rw [aaz "only" hw.it,c6]
    walk_at "ev"
    rw [yx,decide_eq_true (by decide)]
    walk_at "ev"
    cases x with
    |tuple ds=> rw [arc (ax hx.len.1 (by decide)) (fun y hy=> (hx.kid hy).it) (fR hx.len.2 (by decide))];rfl
    |_=> rfl
  ·rw [c3,c2,c5,c6]
   walk_at "ev"
   rw [afj,zy (by simp) (fun y hy=> (h.kid (by rcases aw.mp hy with z|z <;> simp_all)).it)]
   cases jw (.tuple [a,b]) with
   |false=> walk_at "ev"
   |true=>
    walk_at "ev"
    rw [ahh hw.it,c4]
    walk_at "ev"
    rw [ah1 hw.it,c5]
    walk_at "ev"
    rw [aaz "only" hw.it,c6]
    walk_at "ev"
theorem a10(h:Gd d):qy [.int m,.da d] s=.ok (.bl (yo m d)) s:=by
 cases d with
 | tuple ds=>
  by_cases h3:ds.length=3
  ·obtain⟨w,a,b,rfl⟩:=aft h3
   exact auh h
  ·by_cases h4:ds.length=4
   ·obtain⟨w,a,b,x,rfl⟩: ∃w a b x,ds=[w,a,b,x]:=by
     match ds,h4 with
     |[w,a,b,x],_=> exact⟨w,a,b,x,rfl⟩
    exact aw8 h
   ·have e:yo m (.tuple ds)=false:=by
     match ds,h3,h4 with
     |[],_,_=> rfl
     |[_],_,_=> rfl
     |[_,_],_,_=> rfl
     |_::_::_::_::_::_,_,_=> rfl
    rw [e,aab];unfold B_law_is_plain
    walk_at "ev"
    rw [show kx (.tuple ds) "tuple"=true from rfl]
    walk_at "ev"
    rw [a43 h3 h4]
    walk_at "ev"
 |_=> rfl
end
def faD:Option Fa -> D
 |none=>.da .none
 |some f=>.tup [.str f.1,pd f.2]
structure LfOk (k:Nat) (F:FF):Prop where
 ok: ∀(d:ae) (p:List Nat) (s:S),Gd d -> k+p.length=4 -> F [.da d,.da (pd p),.int ((p.length:Int)+1)] s=.ok (faD (jy k d p)) s
def a5d(r:R Fl)(s:S)(h:En):Option Fa -> Prop
 |none=> ∃v w,r=.ok (.nx (h++ [v,w])) s
 |some f=> r=.ok (.rt (faD (some f))) s
def al4(r:R Fl)(s:S):Option Fa -> Prop
 |none=> ∃ρ,r=.ok (.nx ρ) s
 |some f=> r=.ok (.rt (faD (some f))) s
def lfC:FT:=(yf (j2 (fCB k9 (ja (jb 4) (ja (fC (.ty "tuple")) jc)))) (yf (jg (fOp gEq (fCB jr (ja (jb 4) jc)) (fC (.da (.int 3))))) (yf (jg (fOp gEq (fOp gIx (jb 4) (fC (.da (.int 0)))) (fC (.da (.str "net"))))) (j2 (jd 1 j3 (ja (fOp gIx (jb 4) (fC (.da (.int 2)))) jc))))))
theorem a48{a b c e g:Option D}(h:Gd d):lfC [a,b,c,e,some (.da d),g] s=.ok (j8 d) s:=by
 unfold lfC
 walk_at "ev"
 cases d with
 | tuple ds=>
  rw [show kx (.tuple ds) "tuple"=true from rfl]
  walk_at "ev"
  rw [yx]
  by_cases h3:ds.length=3
  ·obtain⟨w,x,q,rfl⟩:=aft h3
   rw [decide_eq_true (show (([w,x,q].length:Nat):Int)=3 from rfl)]
   walk_at "ev"
   rw [aaz "net" (h.kid (x:=w) (by simp)).it]
   show _=R.ok (isS "net" w&&jw q) s
   cases isS "net" w with
   |false=> walk_at "ev"
   |true=>
    walk_at "ev"
    rw [ah0 (h.kid (x:=q) (by simp)).gv]
    walk_at "ev"
  ·rw [decide_eq_false (show¬(ds.length:Int)=3 by lia)]
   have e:j8 (.tuple ds)=false:=by
    match ds,h3 with
    |[],_=> rfl
    |[_],_=> rfl
    |[_,_],_=> rfl
    |_::_::_::_::_,_=> rfl
   rw [e]
   walk_at "ev"
 |_=> rfl
def lfP:FE:=(jh (ja (fC (.da (.str "part"))) (ja (fOp (jv false) (jb 1) (jh (ja (jb 3) jc))) jc)))
theorem atr{a c e g:Option D}{p:List Nat}{i:Nat}(h:p.length <=1000):lfP [a,some (.da (pd p)),c,some (.int i),e,g] s=.ok (faD (some ("part",p++ [i]))) s:=by
 unfold lfP
 walk_at "ev"
 rw [aiz h]
 rfl
def lfB(F:FF):FS:=(jf (jq 4 (fOp gIx (fOp gIx (jb 0) (fC (.da (.int 2)))) (jb 3)))
  (jm lfC (jf (jq 5 (jd 3 F (ja (fOp gIx (jb 4) (fC (.da (.int 1)))) (ja (fOp (jv false) (jb 1) (jh (ja (jb 3) jc))) (ja (fOp (jv false) (jb 2) (fC (.da (.int 1)))) jc)))))
  (jf (jm (jg (fOp abm (jb 5) (fC (.da (.none))))) (ji (jb 5)) jl)
  (jm (jg (fOp gNe (jh (ja (fOp gIx (fOp gIx (jb 4) (fC (.da (.int 1)))) (fC (.da (.int 0)))) (ja (fCB jr (ja (fOp gIx (fOp gIx (jb 4) (fC (.da (.int 1)))) (fC (.da (.int 1)))) jc)) jc))) (jh (ja (fOp gIx (jb 0) (fC (.da (.int 0)))) (ja (fCB jr (ja (fOp gIx (jb 4) (fC (.da (.int 2)))) jc)) jc))))) (ji lfP) jl))) (jm (ju (j2 (jd 2 qy (ja (fOp gIx (jb 0) (fC (.da (.int 0)))) (ja (jb 4) jc))))) (ji lfP) jl)))
theorem a1g{a b:Nat}:gNe (.tup [.int i,.int (a:Int)]) (.tup [.int j,.int (b:Int)]) s=.ok (.bl (!(decide (i=j)&&decide (a=b)))) s:=by
 rw [show (D.tup [.int i,.int (a:Int)])=.da (.tuple [.int i,.int (a:Int)]) from rfl,show (D.tup [.int j,.int (b:Int)])=.da (.tuple [.int j,.int (b:Int)]) from rfl,af4 rfl rfl]
 rw [show aK (.tuple [.int i,.int (a:Int)]) (.tuple [.int j,.int (b:Int)])=(aK (.int i) (.int j)&&(aK (.int a) (.int b)&&true)) from rfl,ade,ade,Bool.and_true]
 have e:decide ((a:Int)=(b:Int))=decide (a=b):=by rw [aW,decide_eq_true_eq,decide_eq_true_eq];lia
 rw [e]
theorem a3e{F:FF}{sn:ae}{p:List Nat}{i:Nat}{u v:Option D}(hF:LfOk k F)(hk:k+1+p.length=4)(hd:ps[i]?=some d)(gd:Gd d):
  a5d (lfB F [some (.tup [.int j,sn,.tuple ps]),some (.da (pd p)),some (.int ((p.length:Int)+1)),some (.int i),u,v] s) s [some (.tup [.int j,sn,.tuple ps]),some (.da (pd p)),some (.int ((p.length:Int)+1)),some (.int i)] (xn (jy k) j d (p++ [i])):=by
 have e0: ∀s:S,gIx (.tup ps) (.int i) s=.ok (.da d) s:=fun s=> vm hd
 have hp:p.length <=1000:=by lia
 unfold lfB
 walk_at "ev"
 rw [e0]
 walk_at "ev"
 rw [a48 gd]
 unfold xn
 cases hw:j8 d with
 | false=>
  walk_at "ev"
  rw [a10 gd]
  cases yo j d with
  |true=>
   walk_at "ev"
   exact⟨_,_,rfl⟩
  |false=>
   walk_at "ev"
   rw [atr hp]
   show _=_
   walk_at "ev"
 | true=>
  obtain⟨w,x,q,rfl⟩:=xt hw
  rw [show ye (.tuple [w,x,.tuple q])=x from rfl]
  have h:=hF.ok x (p++ [i]) s (gd.kid (by simp)) (by simp;lia)
  rw [aX,show (([i].length:Nat))=1 from rfl,show (((p.length+1:Nat):Int)+1)=((p.length:Int)+1+1) by lia]at h
  walk_at "ev"
  rw [aiz hp]
  walk_at "ev"
  rw [h]
  walk_at "ev"
  cases hf:jy k x (p++ [i]) with
  |some f=>
   show _=_
   rw [show (!isN (faD (some f)))=true from rfl]
   walk_at "ev"
  | none=>
   obtain⟨t,sm,qs,rfl,_⟩:=ae0 hf
   rw [show (!isN (faD none))=false from rfl]
   walk_at "ev"
   rw [a1g]
   show a5d _ _ _ (if (decide (t=j)&&decide (sm.length=q.length))=true then none else some ("part",p++ [i]))
   cases decide (t=j)&&decide (sm.length=q.length) with
   |true=>
    walk_at "ev"
    exact⟨_,_,rfl⟩
   |false=>
    walk_at "ev"
    rw [atr hp]
    show _=_
    walk_at "ev"
theorem aou{k:Nat}{F:FF}{j:Int}{sn:ae}{ps:List ae}{p:List Nat}{all:List D}{s:S}(hF:LfOk k F)(hk:k+1+p.length=4)(gp: ∀x∈ps,Gd x): ∀(ds:List ae) (i:Nat) (u v w:Option D),ps.drop i=ds ->
  al4 (qp (.nm 3) (lfB F) (all,none) (zu (i:Int) ds.length) [some (.tup [.int j,sn,.tuple ps]),some (.da (pd p)),some (.int ((p.length:Int)+1)),u,v,w] s) s (xu (jy k) j p ds i)
 |[],i,u,v,w,_=> ⟨_,rfl⟩
 | d::r,i,u,v,w,e=> by
  have hi:ps[i]?=some d:=by
   have:(ps.drop i)[0]?=some d:=by rw [e];rfl
   rwa [List.getElem?_drop,md]at this
  have er:ps.drop (i+1)=r:=by
   have:=congrArg (List.drop 1) e
   rwa [List.drop_drop,lR,im]at this
  have gd:=gp d (gS hi)
  have h:=a3e (F:=F) (j:=j) (sn:=sn) (u:=v) (v:=w) (s:=s) hF hk hi gd
  have ih:=fun u v w=> aou (j:=j) (sn:=sn) (all:=all) (s:=s) hF hk gp r (i+1) u v w er
  rw [show zu (i:Int) (d::r).length=.int i::zu ((i+1:Nat):Int) r.length from rfl,aaq (ρ1:=[some (.tup [.int j,sn,.tuple ps]),some (.da (pd p)),some (.int ((p.length:Int)+1)),some (.int i),v,w]) rfl]
  show al4 _ _ (match xn (jy k) j d (p++ [i]) with|some f=> some f|none=> xu (jy k) j p r (i+1))
  cases hf:xn (jy k) j d (p++ [i]) with
  |some f=>
   rw [hf]at h
   rw [show lfB F _ s=.ok (.rt (faD (some f))) s from h]
   rfl
  |none=>
   rw [hf]at h
   obtain⟨v',w',h⟩:=h
   rw [h,R.bind_ok',ao7]
   exact ih _ _ _
theorem al4.fin{r:R Fl}{o:Option Fa}(h:al4 r s o):((r.bind (aqc (ji (fC (.da .none))))).bind jt)=.ok (faD o) s:=by
 cases o with
 |none=>
  obtain⟨ρ,rfl⟩:=h
  rfl
 |some f=>
  rw [show r=.ok (.rt (faD (some f))) s from h]
  rfl
abbrev lfR(F:FF):FF:=fun as s=> (B_law_fault F (as.map some++ [none,none,none]) s).bind jt
theorem a51{F:FF}:B_law_fault F=(jf (jm (kz (ju (j2 (fCB k9 (ja (jb 0) (ja (fC (.ty "tuple")) jc))))) (kz (jg (fOp gNe (fCB jr (ja (jb 0) jc)) (fC (.da (.int 3))))) (jg (fOp gGt (jb 2) (fC (.da (.int 4))))))) (ji (jh (ja (fC (.da (.str "net"))) (ja (jb 1) jc)))) jl)
  (jf (jm (kz (ju (j2 (jd 1 vn (ja (fOp gIx (jb 0) (fC (.da (.int 0)))) jc)))) (ju (jg (vo gLe gLe (fC (.da (.int 1))) (fOp gIx (jb 0) (fC (.da (.int 0)))) (fC (.da (.int 3))))))) (ji (jh (ja (fC (.da (.str "things"))) (ja (jb 1) jc)))) jl)
  (jf (jm (kz (ju (j2 (jd 1 j3 (ja (fOp gIx (jb 0) (fC (.da (.int 1)))) jc)))) (jg (fOp gGt (fCB jr (ja (fOp gIx (jb 0) (fC (.da (.int 1)))) jc)) (fC (.da (.int 6)))))) (ji (jh (ja (fC (.da (.str "seen"))) (ja (jb 1) jc)))) jl)
  (jf (jm (ju (j2 (fCB k9 (ja (fOp gIx (jb 0) (fC (.da (.int 2)))) (ja (fC (.ty "tuple")) jc))))) (ji (jh (ja (fC (.da (.str "parts"))) (ja (jb 1) jc)))) jl)
  (jf (y7 (ab1 (ja (fCB jr (ja (fOp gIx (jb 0) (fC (.da (.int 2)))) jc)) jc)) (.nm 3) (lfB F)) (ji (fC (.da (.none))))))))):=rfl
theorem a1p{F:FF}:LfOk 0 (lfR F):=by
 refine⟨fun d p s gd hk=> ?_⟩
 show _=R.ok (faD (some ("net",p))) s
 unfold lfR
 simp only [aJ,dz,cK,cV]
 rw [a51]
 walk_at "ev"
 cases hd:kx d "tuple" with
 |false=>
  walk_at "ev"
  rfl
 | true=>
  cases d with
  | tuple ds=>
   walk_at "ev"
   rw [xf]
   cases decide ((ds.length:Int)=3) with
   |false=>
    walk_at "ev"
    rfl
   |true=>
    walk_at "ev"
    rw [decide_eq_true (show (4:Int) < (p.length:Int)+1 by lia)]
    walk_at "ev"
    rfl
  |_=> cases hd
theorem azo {F:FF} (hF:LfOk k F):LfOk (k+1) (lfR F):=by
 refine⟨fun d p s gd hk=> ?_⟩
 unfold lfR
 simp only [aJ,dz,cK,cV]
 rw [a51]
 by_cases h: ∃a b c,d=.tuple [a,b,c]
 ·obtain ⟨t,sn,ps,rfl⟩:=h
  have g1:=gd.kid (x:=sn) (by simp)
  have g2:=gd.kid (x:=ps) (by simp)
  show _=R.ok (faD (if yk t=true then (if adi sn=true then (match (generalizing:=false) ps with
   |.tuple ds=> xu (jy k) (intD t) p ds 0
   |_=> some ("parts",p)) else some ("seen",p)) else some ("things",p))) s
  walk_at "ev"
  rw [show kx (.tuple [t,sn,ps]) "tuple"=true from rfl]
  walk_at "ev"
  rw [xf,decide_eq_true (show ((3:Nat):Int)=3 from rfl)]
  walk_at "ev"
  rw [decide_eq_false (show¬(4:Int) < (p.length:Int)+1 by lia)]
  walk_at "ev"
  rw [anr]
  cases t with
  | int j=>
   show _=R.ok (faD (if (decide (1 <=j)&&decide (j <=3))=true then (if adi sn=true then (match (generalizing:=false) ps with
    |.tuple ds=> xu (jy k) j p ds 0
    |_=> some ("parts",p)) else some ("seen",p)) else some ("things",p))) s
   simp only [vz]
   walk_at "ev"
   by_cases h1:1 <=j
   ·rw [decide_eq_true h1]
    walk_at "ev"
    by_cases h3:j <=3
    ·rw [decide_eq_true h3]
     walk_at "ev"
     rw [ah0 g1.gv]
     cases sn with
     | tuple es=>
      show _=R.ok (faD (if ((es.all k8&&zb es)&&decide (es.length <=6))=true then (match (generalizing:=false) ps with
       |.tuple ds=> xu (jy k) j p ds 0
       |_=> some ("parts",p)) else some ("seen",p))) s
      rw [show jw (.tuple es)=(es.all k8&&zb es) from rfl]
      cases es.all k8&&zb es with
      |false=>
       walk_at "ev"
       rfl
      | true=>
       walk_at "ev"
       by_cases h6:es.length <=6
       ·rw [decide_eq_true h6,decide_eq_false (show¬(6:Int) < (es.length:Int) by lia)]
        walk_at "ev"
        cases ps with
        |tuple ds=>
         rw [show kx (.tuple ds) "tuple"=true from rfl]
         walk_at "ev"
         rw [ad8 (by lia) (by have:=g2.len.1;lia)]
         walk_at "ev"
         exact al4.fin (aou hF (by lia) (fun x hx=> g2.kid hx) ds 0 _ _ _ rfl)
        |_=> rfl
       ·rw [decide_eq_false h6,decide_eq_true (show (6:Int) < (es.length:Int) by lia)]
        walk_at "ev"
        rfl
     |_=> rfl
    ·rw [decide_eq_false h3]
     walk_at "ev"
     rfl
   ·rw [decide_eq_false h1]
    walk_at "ev"
    rfl
  |_=> rfl
 ·have e:jy (k+1) d p=some (("net":Str),p):=by
   show air (jy k) d p=_
   cases d with
   |tuple ds=> exact ajm fun z=> h (by obtain⟨a,b,c,rfl⟩:=aft z;exact⟨a,b,c,rfl⟩)
   |_=> rfl
  rw [e]
  walk_at "ev"
  cases hd:kx d "tuple" with
  |false=>
   walk_at "ev"
   rfl
  | true=>
   cases d with
   | tuple ds=>
    walk_at "ev"
    rw [xf,decide_eq_false (show¬(ds.length:Int)=3 from fun z=> by
     obtain⟨a,b,c,rfl⟩:=aft (ds:=ds) (by lia)
     exact h ⟨a,b,c,rfl⟩)]
    walk_at "ev"
    rfl
   |_=> cases hd
theorem LfOk.of{F F':FF}(h:LfOk k F')(e: ∀a b c s,F [a,b,c] s=F' [a,b,c] s):LfOk k F:=⟨fun d p s g hk=> by rw [e];exact h.ok d p s g hk⟩
theorem asg: ∀k f:Nat,k < f -> LfOk k (k6 f)
 |0,f+1,_=> (a1p (F:=k6 f)).of fun a b c s=> agb
 |k+1,f+1,h=> (azo (asg k f (by lia))).of fun a b c s=> agb
theorem a0b(h:Gd d):k6 8 [.da d,.tup [],.int 1] s=.ok (faD (jy 4 d [])) s:=(asg 4 8 (by decide)).ok d [] s h rfl
theorem aka: ∀ns:List Nat,(∀n∈ns,n <=1000000) -> ae7 ((ns.map fun n:Nat=> aE (n:Int)).map D.da)=some (ns.map fun n:Nat=> (n:Int))
 |[],_=> rfl
 |n::r,h=> by
  show (match ae7 ((r.map fun n:Nat=> aE (n:Int)).map D.da) with|some xs=> if 0 <=(n:Int)/\(n:Int) <=1000000 then some ((n:Int)::xs) else none|none=> none)=_
  rw [aka r fun x hx=> h x (aB _ hx)]
  have:=h n aC
  exact if_pos ⟨by lia,by lia⟩
theorem anv: ∀ns:List Nat,(ns.map fun n:Nat=> (n:Int)).sum=(ns.sum:Nat)
 |[]=> rfl
 |n::r=> by rw [aJ,dJ,dJ,anv r];lia
theorem avo{ns:List Nat}(h: ∀n∈ns,n <=1000000)(hl:ns.length <=100000):aqh [.lst (ns.map fun n:Nat=> aE (n:Int))] s=.ok (.int (ns.sum:Nat)) s:=by
 show (match ae7 ((ns.map fun n:Nat=> aE (n:Int)).map D.da) with|some is=> if is.length <=100000 then R.ok (D.int is.sum) s else .bad|none=>.bad)=_
 rw [aka ns h]
 show (if (ns.map fun n:Nat=> (n:Int)).length <=100000 then R.ok (D.int (ns.map fun n:Nat=> (n:Int)).sum) s else .bad)=_
 rw [if_pos (by rw [ak];exact hl),anv]
theorem sum_filter{p:ae -> Bool}{g:ae -> Nat}: ∀ps:List ae,((ps.filter p).map g).sum=(ps.map fun x=> if p x=true then g x else 0).sum
 |[]=> rfl
 |x::r=> by
  cases h:p x with
  |true=> rw [eA h,aJ,aJ,dJ,dJ,sum_filter r,h];rfl
  |false=> rw [ek (by rw [h];exact am),aJ,dJ,sum_filter r,h];simp
theorem amb(x:ae)(h:j8 x=true):(ye x).bulk <=x.bulk:=by
 obtain⟨w,y,q,rfl⟩:=xt h
 show y.bulk <=_
 simp only [cB,aG]
 lia
theorem al9: ∀(k:Nat) (d:ae),km k d <=d.bulk
 |0,_=> c9 _
 | k + 1,d=> by
  show au6 (km k) d <=_
  unfold au6
  split
  ·rename_i a b ps
   have: ∀ps:List ae,ps.length+(ps.map fun d=> if j8 d=true then km k (ye d) else 0).sum <=aG ps:=by
    intro ps
    induction ps with
    |nil=> simp [aG]
    | cons x r ih=>
     simp only [aM,aJ,dJ,aG]
     have:(if j8 x=true then km k (ye x) else 0) <=x.bulk:=by
      split
      ·rename_i h
       exact ax (al9 k _) (amb x h)
      ·exact c9 _
     lia
   have:=this ps
   simp only [cB,aG]
   lia
  ·exact c9 _
theorem ap4: ∀(k f:Nat) (d:ae) (p:List Nat) (s:S),k <=f -> Gd d -> jy k d p=none -> vb f [.da d] s=.ok (.int (km k d)) s
 |0,_,d,p,_,_,_,h=> by cases h
 | k+1,f+1,d,p,s,hf,gd,h=> by
  obtain⟨j,sn,ps,rfl,hp⟩:=ag1 h
  have gp:=gd.kid (x:=.tuple ps) (by simp)
  have hl:=gp.len.1
  rw [ana];unfold B_law_count
  walk_at "ev"
  rw [vp (ρ0:=[none]) (by rw [ak];lia) rfl]
  rw [ve j8 (fun x=> D.int (km k (ye x))) ps (fun x hx=> by
   obtain⟨q,e⟩:=hp x hx
   obtain⟨w,r,rfl,hw⟩:=ak2 e
   walk_at "ev"
   rw [aaz "net" ((gp.kid hx).kid (x:=w) aC).it,hw]
   walk_at "ev") (fun x hx hw=> by
   obtain⟨q,e⟩:=hp x hx
   obtain⟨w,y,z,rfl⟩:=xt hw
   walk_at "ev"
   rw [ap4 k f y q s (by lia) ((gp.kid hx).kid (by simp)) (ame e hw)]
   rfl)]
  walk_at "ev"
  rw [show (ps.filter j8).map (fun x=> D.int (km k (ye x)))=(((ps.filter j8).map fun x=> km k (ye x)).map fun n:Nat=> aE (n:Int)).map D.da by simp only [cO];rfl]
  walk_at "ev"
  rw [avo (fun n hn=> by
   obtain⟨x,hx,rfl⟩:=bg.mp hn
   have hx:=bw.mp hx
   have:=al9 k (ye x)
   have:=amb x hx.2
   have:=(gp.kid hx.1).bk
   lia) (by
   rw [ak]
   exact ax (b6 _ _) (by lia))]
  walk_at "ev"
  rw [sum_filter]
  show R.ok (D.int ((ps.length:Int)+((ps.map fun x=> if j8 x=true then km k (ye x) else 0).sum:Nat))) s=R.ok (D.int ((ps.length+(ps.map fun d=> if j8 d=true then km k (ye d) else 0).sum:Nat):Int)) s
  rw [Int.natCast_add]
structure Core (d:ae):Prop where
 ls:d.leavesShort 45=true
 sh:d.showable=true
theorem aya(h: ∀x∈ds,Core x):ll 45 ds=true/\eJ ds=true:=by
 induction ds with
 |nil=> exact⟨rfl,rfl⟩
 |cons x r ih=>
  obtain⟨a,b⟩:=ih fun y hy=> h y (aB _ hy)
  obtain⟨p,q⟩:=h x aC
  exact⟨by simp only [ll,p,a,gD],by simp only [eJ,q,b,gD]⟩
theorem asa(h:i.natAbs < 10^31):(toString i).length <=32:=int_text_length_le10 (k:=31) (by decide) h
theorem Lf.core(h:Lf n d)(hn:n <=5):Core d:=by
 induction h with
 |none=> exact⟨rfl,rfl⟩
 |bool b=> exact⟨by cases b <;> rfl,rfl⟩
 | @int i h=>
  have h31:i.natAbs < 10^31:=by
   have e:(10:Nat)^31=10000000000000000000000000000000:=by decide
   lia
  constructor
  ·simp only [fW,decide_eq_true_eq]
   have:=asa h31
   show (bG (toString i)).length <=45
   rw [ofString_length]
   lia
  ·simp only [bJ,decide_eq_true_eq]
   by_cases z:i.natAbs=0
   ·rw [z];decide
   ·have h2:i.natAbs < 2^104:=by
     have e:(2:Nat)^104=20282409603651670423947251286016:=by decide
     lia
    have:=(Nat.log2_lt z).mpr h2
    lia
 | @str x h l=>
  unfold asc at h
  simp only [aO,aH,decide_eq_true_eq]at h
  refine⟨?_,rfl⟩
  simp only [fW,aO,decide_eq_true_eq]
  intro c hc
  have:=(h c hc).2
  have e16:(16:Nat)^8=4294967296:=by decide
  lia
 |tup hl _ _ ih=>
  obtain⟨a,b⟩:=aya ih
  exact⟨by simpa only [fW] using a,by simpa only [bJ] using b⟩
 |lst hl _ ih=>
  obtain⟨a,b⟩:=aya ih
  exact⟨by simpa only [fW] using a,by simpa only [bJ] using b⟩
theorem Gd.okE(h:Gd d):okE d=true:=by
 unfold PF.okE
 (simp only [aH,decide_eq_true_eq])
 refine⟨⟨(h.lf.core (by decide)).sh,ax h.dp (by decide)⟩,?_⟩
 have:=PyData.shown_le_bulk 45 (by decide) d (h.lf.core (by decide)).ls
 have:=h.bk
 rw [qi]
 lia
theorem afg(h:Gd d):yh [.da d] s=.ok (.str d.shown) s:=by
 show (if PF.okE d=true then R.ok (D.str d.shown) s else .bad)=_
 rw [if_pos h.okE]
structure Sm (D B:Nat) (d:ae):Prop where
 lf:Lf 0 d
 dp:d.depth <=D
 bk:d.bulk <=B
theorem Sm.mono{D D' B':Nat}(h:Sm D B d)(h1:D <=D')(h2:B <=B'):Sm D' B' d:=⟨h.lf,ax h.dp h1,ax h.bk h2⟩
theorem agh{B:Nat}: ∀{ds:List ae},(∀x∈ds,x.bulk <=B) -> aG ds <=ds.length*(B+1)
 |[],_=> by simp [aG]
 |x::r,h=> by
  have:=agh (ds:=r) fun y hy=> h y (aB _ hy)
  have:=h x aC
  simp only [aG,aM,Nat.add_mul,Nat.one_mul]at*
  lia
theorem aau{D:Nat}(h: ∀x∈ds,Sm D B x)(hl:ds.length <=k)(hk:k <=30):Sm (D+1) (k*(B+1)) (.tuple ds):=by
 refine⟨.tup (by lia) (ax (b6 _ _) (by lia)) fun x hx=> (h x hx).lf,?_,?_⟩
 ·simp only [aV]
  have:=zh fun x hx=> (h x hx).dp
  lia
 ·simp only [cB]
  exact ax (agh fun x hx=> (h x hx).bk) (hW _ hl)
theorem ac4{x:Str}(h:asc x=true)(hl:x.length <=9):Sm 0 9 (.str x):=⟨.str h (by lia),by simp [aV],hl⟩
theorem aev(h:i.natAbs <=1000):Sm 0 9 (.int i):=⟨.int (by lia),by simp [aV],by simp [cB]⟩
theorem xx{x:Str}(h:prB x=true):Sm 0 9 (.str x):=by
 unfold prB at h
 simp only [aH,decide_eq_true_eq,aO]at h
 refine ac4 ?_ (by lia)
 unfold asc
 rw [aO]
 intro c hc
 have:=h.2 c hc
 (simp only [aH,decide_eq_true_eq])
 lia
theorem aa2{x:Str}(h:x∈(["both","loose","place","last","drain","either","only","copy","merge","net"]:List Str)):Sm 0 9 (.str x):=by
 have: ∀x∈(["both","loose","place","last","drain","either","only","copy","merge","net"]:List Str),asc x=true/\x.length <=9:=by decide+kernel
 exact ac4 (this x h).1 (this x h).2
theorem adl{qs:List Str}(h: ∀x∈qs,prB x=true)(hl:qs.length <=k)(hk:k <=30):Sm 1 (k*10) (.tuple (qs.map aF)):=aau (D:=0) (B:=9) (fun x hx=> by
 (obtain⟨y,hy,rfl⟩:=bg.mp hx)
 exact xx (h y hy)) (by rw [ak];exact hl) hk
theorem aii{P:ae -> Prop}{b c:ae}(ha:P a)(hb:P b)(hc:P c): ∀x∈ [a,b,c],P x:=by
 intro x hx
 (simp only [aw,bK,or_false]at hx)
 rcases hx with rfl|rfl|rfl <;> assumption
theorem aqi{P:ae -> Prop}{b c:ae}(ha:P a)(hb:P b)(hc:P c)(hd:P d): ∀x∈ [a,b,c,d],P x:=by
 intro x hx
 (simp only [aw,bK,or_false]at hx)
 rcases hx with rfl|rfl|rfl|rfl <;> assumption
theorem z0{D A C:Nat}{b c:ae}(ha:Sm D A a)(hb:Sm D B b)(hc:Sm D C c):Sm (D+1) (A+B+C+3) (.tuple [a,b,c]):=by
 refine⟨.tup (by simp) (ax (b6 _ _) (by simp)) (aii ha.lf hb.lf hc.lf),?_,?_⟩
 ·simp only [aV]
  have:=zh (aii (P:=fun x=> x.depth <=D) ha.dp hb.dp hc.dp)
  lia
 ·simp only [cB,aG]
  have:=ha.bk
  have:=hb.bk
  have:=hc.bk
  lia
theorem a11{ps qs:List Str}(h:PartD m ps d qs)(hm:m <=3)(hp: ∀x∈ps,prB x=true):Sm 2 170 d:=by
 have up: ∀{d:ae},Sm 0 9 d -> Sm 1 40 d:=fun h=> h.mono (by decide) (by decide)
 cases h with
 |two hw ha hb _=> exact (aau (k:=4) (aii (up (aa2 (by simp at hw⊢;rcases hw with rfl|rfl|rfl|rfl <;> simp))) (up (xx (hp _ ha))) (up (xx (hp _ hb)))) (by simp) (by decide)).mono (by decide) (by decide)
 |held hw ha hb _ hx=>
  refine (aau (k:=4) (aqi (up (aa2 (by simp at hw⊢;rcases hw with rfl|rfl <;> simp))) (up (xx (hp _ ha))) (up (xx (hp _ hb))) (up ?_)) (by simp) (by decide)).mono (by decide) (by decide)
  rcases hx with rfl|⟨i,rfl,i0,i1⟩
  ·exact⟨.none,by simp [aV],by simp [cB]⟩
  ·exact aev (by lia)
 | @only a b ts ha hb _ ht hl _=>
  refine (aau (k:=4) (aqi (up (aa2 (by simp))) (up (xx (hp _ ha))) (up (xx (hp _ hb))) ?_) (by simp) (by decide)).mono (by decide) (by decide)
  exact aau (D:=0) (B:=9) (k:=4) (fun x hx=> by
   (obtain⟨y,hy,rfl⟩:=bg.mp hx)
   have:=ht y hy
   exact aev (by lia)) (by rw [ak];lia) (by decide)
 | @copy a bs ha hb hl _=>
  exact (aau (k:=4) (aii (up (aa2 (by simp))) (up (xx (hp _ ha))) (adl (k:=4) (fun x hx=> hp x (hb x hx)) hl.2 (by decide))) (by simp) (by decide)).mono (by decide) (by decide)
 | @merge a bs ha hb hl _=>
  exact (aau (k:=4) (aii (up (aa2 (by simp))) (adl (k:=4) (fun x hx=> hp x (hb x hx)) hl.2 (by decide)) (up (xx (hp _ ha)))) (by simp) (by decide)).mono (by decide) (by decide)
noncomputable def dr:Nat -> Nat
 |0=> 0
 |k+1=> 20+3*(20+dr k)
noncomputable def bb:Nat -> Nat
 |0=> 0
 |k+1=> 3*(bb k+260)+260
structure DW {α:Type} (r:R α) (Q:α -> S -> Prop):Prop where
 w:r.W Q
theorem DW.mono{α:Type}{r:R α}{Q Q':α -> S -> Prop}(h:DW r Q)(k: ∀a s,Q a s -> Q' a s):r.W Q':=R.W_mono h.w k
structure Shp (e:ae):Prop where
 ex: ∃(m:Int) (sn ps:List ae),e=.tuple [.int m,.tuple sn,.tuple ps]/\sn.length <=6/\0 <=m/\m <=3
structure NsQ (s0:S) (n c k:Nat) (d:D) (s:S):Prop where
 ex: ∃e:ae,d=.da e/\Sm (3*k+2) (bb k) e/\Shp e/\Fd s n (c+dr k)/\ky n s0 s
def am6(k:Nat)(F:FF):Prop:= ∀(s:S) (n c:Nat) (m:Int) (t:Nat),Fd s n c -> 1 <=m -> m <=3 -> t <=3 -> c+dr k+400 < 2^40 -> DW (F [.ref n,.int (k:Int),.int m,.int (t:Int)] s) (NsQ s n c k)
structure NsJ (s0:S) (n a c k:Nat) (m:Int) (t:Nat) (ps:List Str) (r:List D) (ρ:En) (s:S):Prop where
 ex: ∃(P:List ae) (c':Nat) (u6 u7:Option D),ρ=[some (.ref n),some (.int ((k+1:Nat):Int)),some (.int m),some (.int (t:Int)),some (.lst (ps.map aF)),some (.ref a),u6,u7]/\s[a]?=some (.lst (P.map D.da))/\P.length+r.length <=3/\(∀x∈P,Sm (3*k+3) (bb k+250) x)/\Fd s n c'/\c'+r.length*(20+dr k) <=c+3*(20+dr k)/\ky n s0 s/\s0.length <=a
def nsA(F:FF):FS:=(jf (jq 7 (fSl false (jd 2 kl (ja (jb 0) (ja (jb 4) jc))) fNo (kd (jd 2 jj (ja (jb 0) (ja (fOp (jv false) (fCB agz (ja (fC (.da (.int 3))) (ja (fCB jr (ja (jb 4) jc)) jc))) (fC (.da (.int 1)))) jc))))))
  (vf (fMt qk (jb 5) (ja (jh (ja (fC (.da (.str "net"))) (ja (jd 4 F (ja (jb 0) (ja (fOp ac0 (jb 1) (fC (.da (.int 1)))) (ja (jb 2) (ja (fCB jr (ja (jb 7) jc)) jc))))) (ja (fCB j6 (ja (jb 7) jc)) jc)))) jc))))
def nsB:FS:=(vf (fMt qk (jb 5) (ja (jd 3 zw (ja (jb 0) (ja (jb 2) (ja (jb 4) jc)))) jc)))
def nsL(F:FF):FS:=jm (yf (jg (fOp gGt (jb 1) (fC (.da (.int 1))))) (jg (fOp gEq (jd 2 jj (ja (jb 0) (ja (fC (.da (.int 2))) jc))) (fC (.da (.int 0)))))) (nsA F) nsB
theorem au1{s0 s2:S}{a c2:Nat}{t:Nat}{ps:List Str}{P:List ae}{u6 u7:Option D}{p:ae}(ha:s1[a]?=some (.lst (P.map D.da)))(hl:P.length+(r.length+1) <=3)(hP: ∀x∈P,Sm (3*k+3) (bb k+250) x)(hpt:Sm (3*k+3) (bb k+250) p)(fd:Fd s2 n c2)(h2:c2+r.length*(20+dr k) <=c+3*(20+dr k))(sm:ky n s0 s1)(sm2:ky n s1 s2)(hs0:s0.length <=a)(hn:n < s0.length):
  (qk (.ref a) [.da p] s2).W fun _ s'=> NsJ s0 n a c k m t ps r [some (.ref n),some (.int ((k+1:Nat):Int)),some (.int m),some (.int (t:Int)),some (.lst (ps.map aF)),some (.ref a),u6,u7] s':=by
 have la:a < s1.length:=(aA.mp ha).1
 have ha2:s2[a]?=some (.lst (P.map D.da)):=by rw [sm2.get _ (by lia) la];exact ha
 rw [aav ha2 (by rw [ak];lia),R.W_ok]
 refine⟨P++ [p],c2,_,_,rfl,?_,by simp;lia,?_,fd.set (by lia),h2,(sm.trans sm2).own (by lia),hs0⟩
 ·rw [bh (aI la sm2.len)];simp
 ·intro x hx
  rcases bq.mp hx with z|z
  ·exact hP x z
  ·rw [aY.mp z];exact hpt
theorem aos{s0 s2:S}{a c2:Nat}{t:Nat}{ps:List Str}{P:List ae}{u6 u7:Option D}{Q:Fl -> S -> Prop}(hm:1 <=m)(hm3:m <=3)(hp:2 <=ps.length)(hp5:ps.length <=5)(nd:ps.Nodup)(pr: ∀x∈ps,prB x=true)(hc:c+3*(20+dr k)+390 < 2^40)(ha:s1[a]?=some (.lst (P.map D.da)))(hl:P.length+(r.length+1) <=3)(hP: ∀x∈P,Sm (3*k+3) (bb k+250) x)(fd:Fd s2 n c2)(h2:c2+19+dr k+r.length*(20+dr k) <=c+3*(20+dr k))(sm:ky n s0 s1)(sm2:ky n s1 s2)(hs0:s0.length <=a)(hn:n < s0.length):
  (nsB [some (.ref n),some (.int ((k+1:Nat):Int)),some (.int m),some (.int (t:Int)),some (.lst (ps.map aF)),some (.ref a),u6,u7] s2).W (flW (NsJ s0 n a c k m t ps r) Q):=by
 have la:a < s1.length:=(aA.mp ha).1
 have ha2:s2[a]?=some (.lst (P.map D.da)):=by rw [sm2.get _ (by lia) la];exact ha
 unfold nsB
 walk_at "go"
 rw [adu ha2]
 walk_at "go"
 refine R.W_mono (a1j fd hm hm3 hp (by lia) nd (by lia)) ?_
 rintro _ s3 ⟨d,qs,rfl,hd,fd3,sm3⟩
 walk_at "go"
 refine R.W_mono (au1 (m:=m) (c:=c) (t:=t) (ps:=ps) (u6:=u6) (u7:=u7) ha hl hP ((a11 hd hm3 pr).mono (by lia) (by lia)) fd3 (by lia) sm (sm2.trans sm3) hs0 hn) fun _ s4 q=> ?_
 walk_at "go"
 exact q
theorem ak5{ps qs:List Str}(h:qs.Perm ps)(t:Nat)(pr: ∀x∈ps,prB x=true): ∀x∈qs.take t,prB x=true:=fun x hx=> pr x (h.mem_iff.mp (cx hx))
theorem a3x{F:FF}{s0 s2:S}{a c2:Nat}{t:Nat}{ps:List Str}{P:List ae}{u6 u7:Option D}{Q:Fl -> S -> Prop}(hF:am6 k F)(hk:1 <=k)(hm:1 <=m)(hm3:m <=3)(hp:2 <=ps.length)(hp5:ps.length <=5)(nd:ps.Nodup)(pr: ∀x∈ps,prB x=true)(hc:c+3*(20+dr k)+390 < 2^40)(ha:s1[a]?=some (.lst (P.map D.da)))(hl:P.length+(r.length+1) <=3)(hP: ∀x∈P,Sm (3*k+3) (bb k+250) x)(fd:Fd s2 n c2)(h2:c2+19+dr k+r.length*(20+dr k) <=c+3*(20+dr k))(sm:ky n s0 s1)(sm2:ky n s1 s2)(hs0:s0.length <=a)(hn:n < s0.length):
  (nsA F [some (.ref n),some (.int ((k+1:Nat):Int)),some (.int m),some (.int (t:Int)),some (.lst (ps.map aF)),some (.ref a),u6,u7] s2).W (flW (NsJ s0 n a c k m t ps r) Q):=by
 have la:a < s1.length:=(aA.mp ha).1
 unfold nsA
 walk_at "go"
 refine R.W_mono (afi fd (by rw [ak];lia) (by rw [ak];lia)) ?_
 rintro _ s3 ⟨ys,rfl,pm,fd3,sm3⟩
 obtain⟨qs,pmq,rfl⟩:=agr pm
 have ql:=pmq.length_eq
 rw [ak]at fd3
 walk_at "go"
 refine R.W_mono (kv fd3 (by split <;> lia) (by split <;> lia) (by lia)) ?_
 rintro _ s4 ⟨i,rfl,h0,h1,fd4,sm4⟩
 obtain⟨w,rfl⟩: ∃w:Nat,i=(w:Int):=⟨i.toNat,by lia⟩
 have w3:w <=3:=by split at h1 <;> lia
 walk_at "go"
 have ha4:s4[a]?=some (.lst (P.map D.da)):=by rw [((sm2.trans sm3).trans sm4).get _ (by lia) la];exact ha
 rw [adu ha4]
 walk_at "go"
 rw [show (((k+1:Nat):Int) - 1)=((k:Nat):Int) by lia,z3,zt,ak]
 have tl:(qs.take w).length <=3:=by rw [a8];lia
 refine (hF s4 n (c2+ps.length+1) m (qs.take w).length fd4 hm hm3 tl (by lia)).mono ?_
 rintro _ s5 ⟨N,rfl,hN,_,fd5,sm5⟩
 walk_at "go"
 refine R.W_mono (au1 (m:=m) (p:=.tuple [.str "net",N,.tuple ((qs.take w).map aF)]) (c:=c) (t:=t) (ps:=ps) (u6:=u6) (u7:=some (D.lst ((qs.take w).map aF))) ha hl hP ?_ fd5 (by lia) sm (sm2.trans (sm3.trans (sm4.trans sm5))) hs0 hn) fun _ s6 q=> ?_
 ·exact (z0 (D:=3*k+2) (A:=9) (B:=bb k) (C:=30) ((aa2 (by simp)).mono (by lia) (by lia)) hN ((adl (k:=3) (ak5 pmq w pr) tl (by decide)).mono (by lia) (by lia))).mono (by lia) (by lia)
 walk_at "go"
 exact q
theorem a00{F:FF}{s0:S}{a:Nat}{t:Nat}{ps:List Str}{d:D}{Q:Fl -> S -> Prop}(hF:1 <=k -> am6 k F)(hm:1 <=m)(hm3:m <=3)(hn:n < s0.length)(hp:2 <=ps.length)(hp5:ps.length <=5)(nd:ps.Nodup)(pr: ∀x∈ps,prB x=true)(hc:c+3*(20+dr k)+390 < 2^40)(h:NsJ s0 n a c k m t ps (d::r) ρ s1):
  ∃ρ1,vj (.nm 6) d ρ=some ρ1/\(nsL F ρ1 s1).W (flW (NsJ s0 n a c k m t ps r) Q):=by
 obtain⟨P,c',u6,u7,rfl,ha,hl,hP,fd,h2,sm,hs0⟩:=h
 simp only [aM,Nat.add_mul,Nat.one_mul]at hl h2
 refine⟨[some (.ref n),some (.int ((k+1:Nat):Int)),some (.int m),some (.int (t:Int)),some (.lst (ps.map aF)),some (.ref a),some d,u7],rfl,?_⟩
 unfold nsL
 walk_at "go"
 by_cases hk:k=0
 ·subst hk
  walk_at "go"
  exact aos hm hm3 hp hp5 nd pr hc ha hl hP fd (by lia) sm (ky.refl _ _) hs0 hn
 ·have h1:(1:Int) < ((k+1:Nat):Int):=by lia
  rw [decide_eq_true h1]
  walk_at "go"
  refine R.W_mono (kv fd (by decide) (by decide) (by lia)) ?_
  rintro _ s2 ⟨i,rfl,h0,h3,fd2,sm2⟩
  walk_at "go"
  rw [k7]
  by_cases hi:i=0
  ·rw [decide_eq_true hi]
   walk_at "go"
   exact a3x (hF (by lia)) (by lia) hm hm3 hp hp5 nd pr hc ha hl hP fd2 (by lia) sm sm2 hs0 hn
  ·rw [decide_eq_false hi]
   walk_at "go"
   exact aos hm hm3 hp hp5 nd pr hc ha hl hP fd2 (by lia) sm sm2 hs0 hn
theorem a55{F:FF}:B_law_nest F=(jf (jq 4 (jd 2 v6 (ja (jb 0) (ja (fOp (jv false) (fCB af8 (ja (fC (.da (.int 2))) (ja (jb 3) jc))) (jd 2 jj (ja (jb 0) (ja (fC (.da (.int 3))) jc)))) jc))))
  (jf (jq 5 (ku true jc))
  (jf (y7 (ab1 (ja (jd 2 jj (ja (jb 0) (ja (fC (.da (.int 4))) jc))) jc)) (.nm 6) (nsL F))
  (ji (jh (ja (jb 2) (ja (fCB j6 (ja (fSl false (jd 2 kl (ja (jb 0) (ja (jb 4) jc))) fNo (kd (jb 3))) jc)) (ja (fCB j6 (ja (jb 5) jc)) jc)))))))):=rfl
theorem a0l:af8 [.int i,.int j] s=.ok (.int (if j > i then j else i)) s:=(rfl)
theorem max_two{t:Nat}:af8 [.da (.int 2),.int (t:Int)] s=.ok (.int ((max 2 t:Nat):Int)) s:=by
 rw [show (D.da (.int 2))=.int 2 from rfl,a0l]
 congr 2
 split <;> lia
theorem alq{F:FF}(hF:1 <=k -> am6 k F):am6 (k+1) (fun as s=> (B_law_nest F (as.map some++ [none,none,none,none]) s).bind jt):=by
 intro s n c m t fd hm hm3 ht hc
 have hn:=fd.lt
 simp only [dr]at hc
 refine⟨?_⟩
 rw [a55]
 simp only [aJ,dz]
 walk_at "go"
 rw [max_two]
 walk_at "go"
 refine R.W_mono (kv fd (by decide) (by decide) (by lia)) ?_
 rintro _ s1 ⟨i,rfl,h0,h1,fd1,sm1⟩
 obtain⟨w,rfl⟩: ∃w:Nat,i=(w:Int):=⟨i.toNat,by lia⟩
 walk_at "go"
 rw [show (((max 2 t:Nat):Int)+(w:Int))=((max 2 t+w:Nat):Int) by lia]
 refine R.W_mono (amg fd1 (by lia) (by lia)) ?_
 rintro _ s2 ⟨ps,rfl,pl,nd,pr,fd2,sm2⟩
 walk_at "go"
 have x0:=Ext.add s2 [O.lst []]
 refine R.W_mono (kv (fd2.ext x0) (by decide) (by decide) (by lia)) ?_
 rintro _ s3 ⟨i,rfl,g0,g1,fd3,sm3⟩
 obtain⟨q,rfl⟩: ∃q:Nat,i=(q:Int):=⟨i.toNat,by lia⟩
 walk_at "go"
 rw [ad8 (by lia) (by lia)]
 walk_at "go"
 have hn2:n < s2.length:=fd2.lt
 have hl3:s2.length < s3.length:=aI (by simp) sm3.len
 refine aa6 (NsJ s2 n s2.length (c+4) k m t ps) (fun d r ρ s' h=> a00 hF hm hm3 hn2 (by lia) (by lia) nd pr (by lia) h) ?_ _ _ _ ⟨[],c+4,_,_,rfl,?_,?_,(fun _ h=> by cases h),fd3,?_,x0.same n|>.trans sm3,aq _⟩
 ·rintro ρ s4 ⟨P,c',u6,u7,rfl,ha,hl,hP,fd4,h4,sm4,_⟩
  walk_at "go"
  refine R.W_mono (afi fd4 (by rw [ak];lia) (by rw [ak];lia)) ?_
  rintro _ s5 ⟨ys,rfl,pm,fd5,sm5⟩
  obtain⟨qs,pmq,rfl⟩:=agr pm
  rw [ak]at fd5
  walk_at "go"
  rw [asl (xs:=P) (by rw [sm5.get _ (by lia) (aA.mp ha).1];exact ha)]
  walk_at "go"
  rw [z3,zt]
  have tl:(qs.take t).length <=3:=by rw [a8];lia
  simp only [eF,Nat.zero_mul,md]at h4 hl
  refine⟨.tuple [.int m,.tuple ((qs.take t).map aF),.tuple P],rfl,?_,⟨_,_,_,rfl,by rw [ak];lia,by lia,hm3⟩,?_,((sm1.trans sm2).trans sm4).trans sm5⟩
  ·exact (z0 (D:=3*k+4) (A:=9) (B:=30) (C:=3*(bb k+251)) ((aev (by lia)).mono (by lia) (by lia)) ((adl (k:=3) (ak5 pmq t pr) tl (by decide)).mono (by lia) (by lia)) ((aau (D:=3*k+3) (B:=bb k+250) (k:=3) hP hl (by decide)).mono (by lia) (by lia))).mono (by lia) (by show _ <=3*(bb k+260)+260;lia)
  ·refine fd5.le ?_
   show _ <=c+(20+3*(20+dr k))
   lia
 ·rw [sm3.get _ (by lia) (by simp)];simp
 ·simp [qz];lia
 ·rw [qz]
  have:(q:Int).toNat <=3:=by lia
  have:=hW (20+dr k) this
  lia
theorem aj5: ∀k f:Nat,k < f -> am6 (k+1) (qh f)
 |0,f+1,_=> alq (k:=0) (F:=qh f) (fun h=> absurd h (by decide))
 |k+1,f+1,h=> alq (F:=qh f) (fun _=> aj5 k f (by lia))
theorem adm(xs ys:List ae):aG (xs++ys)=aG xs+aG ys:=by
 induction xs with
 |nil=> simp [aG]
 |cons x r ih=> simp only [cK,aG,ih];lia
def wN(ds:List ae):Nat:=(ds.filter vz).length
theorem aew(xs:List ae):wN xs <=xs.length:=b6 _ _
structure SL (D B:Nat) (ds:List ae):Prop where
 al: ∀x∈ds,Lf 0 x/\x.depth <=D
 bk:aG ds <=B
theorem SL.nil{D:Nat}:SL D 0 []:=⟨fun x hx=> (by cases hx),by simp [aG]⟩
theorem SL.one{D:Nat}{x:ae}(h:Sm D B x):SL D (B+1) [x]:=⟨fun y hy=> by rw [aY.mp hy];exact⟨h.lf,h.dp⟩,by simp only [aG];have:=h.bk;lia⟩
theorem SL.app{D A:Nat}(h:SL D A xs)(k:SL D B ys):SL D (A+B) (xs++ys):=⟨fun x hx=> (bq.mp hx).elim (h.al x) (k.al x),by rw [adm];have:=h.bk;have:=k.bk;lia⟩
theorem SL.cons{D A:Nat}{x:ae}(h:Sm D A x)(k:SL D B ys):SL D (A+1+B) (x::ys):=(SL.one h).app k
theorem SL.mono{D D' B':Nat}(h:SL D B xs)(hD:D <=D')(hB:B <=B'):SL D' B' xs:=⟨fun x hx=> ⟨(h.al x hx).1,ax (h.al x hx).2 hD⟩,ax h.bk hB⟩
theorem SL.of{D:Nat}(h: ∀x∈xs,Sm D B x)(hl:xs.length <=k):SL D (k*(B+1)) xs:=⟨fun x hx=> ⟨(h x hx).lf,(h x hx).dp⟩,ax (agh fun x hx=> (h x hx).bk) (hW _ hl)⟩
theorem SL.tup{D:Nat}(h:SL D B xs)(hl:xs.length <=140)(hw:wN xs <=30):Sm (D+1) B (.tuple xs):=by
 refine⟨.tup (by lia) hw fun x hx=> (h.al x hx).1,?_,by simp only [cB];exact h.bk⟩
 simp only [aV]
 have:=zh fun x hx=> (h.al x hx).2
 lia
theorem azv(h: ∀x∈ds,vz x=false):wN ds=0:=by
 unfold wN
 rw [List.filter_eq_nil_iff.mpr fun x hx=> by rw [h x hx];exact am]
 rfl
theorem a4e{x:ae}(hk:k < 1000)(s:S):aad false (.tup [x]) (.int (k:Int)) s=.ok (.tup (au k x)) s:=by
 show (if -1000 < (k:Int)/\(k:Int) < 1000/\ [x].length < 1000/\ [x]≠ [] then R.ok (D.tup (au (k:Int).toNat [x]).flatten) s else .bad)=_
 rw [if_pos ⟨by lia,by lia,by simp,by simp⟩,cj,List.flatten_replicate_singleton]
theorem aoc: ∀x∈(["both","drain","either","net","a","b","c","ab"]:List Str),asc x=true/\x.cps.size <=6:=by decide+kernel
theorem amw{x:Str}(h:x∈(["both","drain","either","net","a","b","c","ab"]:List Str)):Sm 0 9 (.str x):=ac4 (aoc x h).1 (by have:=(aoc x h).2;exact ax this (by decide))
theorem a6m{w a b:Str}(hw:w∈(["both","drain","either","net","a","b","c","ab"]:List Str))(ha:a∈(["both","drain","either","net","a","b","c","ab"]:List Str))(hb:b∈(["both","drain","either","net","a","b","c","ab"]:List Str)):Sm 1 30 (.tuple [.str w,.str a,.str b]):=z0 (amw hw) (amw ha) (amw hb)
theorem aep{g:Tg}{fb:FS}{p:Wk}{Q:Fl -> S -> Prop}(J:List D -> En -> S -> Prop)(src: ∀r ρ s,J r ρ s -> v7 p s)
  (step: ∀d r ρ s,J (d::r) ρ s -> ∃ρ1,vj g d ρ=some ρ1/\(fb ρ1 s).W (flW (J r) Q)) (fin: ∀ρ s,J [] ρ s -> Q (.nx ρ) s):
  ∀(ds:List D) (ρ:En) (s:S),J ds ρ s -> (qp g fb p ds ρ s).W Q
 |[],ρ,s,h=> fin ρ s h
 | d::r,ρ,s,h=> by
  obtain⟨ρ1,e,w⟩:=step d r ρ s h
  rw [aaq e,R.W_bind]
  refine R.W_mono w fun fl s1 q=> ?_
  cases fl with
  |nx ρ2=>
   have q:J r ρ2 s1:=q
   rw [show adz g fb p r (.nx ρ2) s1=qp g fb p r ρ2 s1 from aa8 (src _ _ _ q)];exact aep J src step fin r ρ2 s1 q
  |ct ρ2=>
   have q:J r ρ2 s1:=q
   rw [show adz g fb p r (.ct ρ2) s1=qp g fb p r ρ2 s1 from aa8 (src _ _ _ q)];exact aep J src step fin r ρ2 s1 q
  |bk ρ2=> rw [ao1];exact q
  |rt d=> rw [aoe];exact q
theorem a03(ns:List Int):(zo [.frz (ns.map aE)] []).W fun d s'=> d=.ref 0/\Fd s' 0 0:=by
 rw [aqq];unfold B_law_feed
 walk_at "go"
 refine⟨trivial,ns.take 63,0,0,0,?_,by simp;lia,by decide,by decide,by decide⟩
 rw [z3,show (63:Int)=((63:Nat):Int) from rfl,zt]
 rfl
theorem Sm.gd{D:Nat}(h:Sm D B d)(h1:D <=60)(h2:B <=340000):Gd d:=⟨h.lf.mono (by decide),ax h.dp h1,ax h.bk h2⟩
structure ExJ {α:Type} (r:R α) (s:S) (w:Str):Prop where
 ex: ∃(n:Nat) (ρ:En) (s':S),r=.ex n ρ s'/\s'[n]?=some (.xcx "NoJoin" [("word",.str w)])/\Ext s s'
theorem ExJ.bind{α β:Type}{r:R α}{w:Str}{g:α -> S -> R β}(h:ExJ r s w):ExJ (r.bind g) s w:=by
 obtain⟨n,ρ,s',rfl,a,b⟩:=h.ex
 exact⟨n,ρ,s',rfl,a,b⟩
theorem ExJ.at{α:Type}{r:R α}{w:Str}(h:ExJ r s w):ExJ (r.at ρ) s w:=by
 obtain⟨n,ρ',s',rfl,a,b⟩:=h.ex
 exact⟨n,ρ,s',rfl,a,b⟩
theorem ExJ.ext{α:Type}{r:R α}{s0:S}{w:Str}(h:ExJ r s w)(x:Ext s0 s):ExJ r s0 w:=by
 obtain⟨n,ρ',s',rfl,a,b⟩:=h.ex
 exact⟨n,ρ',s',rfl,a,x.trans b⟩
theorem auo{d:D}:v3 [.ref s.length,d] (s++ [.exc "NoJoin" []])=.ok .non (s++ [.exc "NoJoin" [("word",d)]]):=by
 rw [awk];unfold agy
 rw [amp (atj yr (by decide+kernel)),aix (n:=s.length) (x:=d) rfl rfl yr (by decide+kernel) (by decide+kernel) (by simp),ad3]
 rfl
theorem acr{w:Str}:ExJ ((qg "NoJoin" 2 v3 (ja (fC (.da (.str w))) jc) ρ s).bind (af9 xb xcs ρ)) s w:=by
 have e2:qg "NoJoin" 2 v3 (ja (fC (.da (.str w))) jc) ρ s=.ok (.ref s.length) (s++ [.exc "NoJoin" [("word",.da (.str w))]]):=by
  unfold qg
  rw [show ja (fC (.da (.str w))) jc ρ s=.ok [.da (.str w)] s from rfl,R.bind_ok,if_pos ⟨rfl,by decide⟩,auo];rfl
 rw [e2,R.bind_ok,ake yr (by decide+kernel),ad3]
 exact⟨_,_,_,rfl,yr,Ext.add _ _⟩
inductive Res
 |net (d:ae)|no (w:Str)
noncomputable def Res.p:Res -> ae
 |.net d=> d
 |.no w=>.str w
def abx(r:R D)(s:S):Res -> Prop
 |.net d=> ∃s',r=.ok (.da d) s'/\Ext s s'
 |.no w=> ExJ r s w
theorem abx.ret{r:R D}{o:Res}(h:abx r s o):abx (((r.at ρ).bind avv).bind jt) s o:=by
 cases o with
 |net d=>
  obtain⟨s',rfl,x⟩:=h
  exact⟨s',rfl,x⟩
 |no w=> exact ExJ.bind (ExJ.bind (ExJ.at h))
noncomputable def nin(l:List ae)(x:ae):Bool:= !(l.any fun d=> aK d x)
theorem ao3{l:List ae}(h: ∀x∈l,It x):l.all okD=true:=aO.mpr fun x hx=> (h x hx).ok
theorem aje{x:ae}{l:List ae}(hx:It x)(hl: ∀x∈l,It x):qu (.da x) (.tup l) s=.ok (.bl (nin l x)) s:=by
 have key: ∀w,okD w=true -> (if okD w=true/\l.all okD=true then R.ok (D.bl (nb true (l.any fun d=> aK d w))) s else .bad)=.ok (.bl (nin l w)) s:=fun w hw=> by
  rw [if_pos ⟨hw,ao3 hl⟩];rfl
 have:=hx.ok
 cases x <;> exact key _ this
theorem a54{x:ae}{l:List ae}(hx:It x)(hl: ∀x∈l,It x):gIn (.da x) (.tup l) s=.ok (.bl (!nin l x)) s:=by
 have key: ∀w,okD w=true -> (if okD w=true/\l.all okD=true then R.ok (D.bl (nb false (l.any fun d=> aK d w))) s else .bad)=.ok (.bl (!nin l w)) s:=fun w hw=> by
  rw [if_pos ⟨hw,ao3 hl⟩];unfold nin;rw [Bool.not_not];rfl
 have:=hx.ok
 cases x <;> exact key _ this
theorem ago{l:List ae}{all:List D}(hl: ∀x∈l,It x)(hx: ∀x∈xs,It x):kr (.nm 0) (jg (fOp qu (jb 0) (jb 1))) (jb 0) [none,some (.tup l)] (all,none) (xs.map D.da) s=.ok ((xs.filter (nin l)).map D.da) s:=
 ve (rest:=[some (.tup l)]) (nin l) (fun x=> D.da x) xs (fun x hm=> by
  walk_at "ev"
  rw [aje (hx x hm) hl]
  walk_at "ev") (fun x hm _=> by
  walk_at "ev")
structure Tps (l:List ae):Prop where
 it: ∀x∈l,It x
 l:l.length <=200
theorem a4a{sn sm:List ae}(h1:Tps sn)(h2:Tps sm):yp [.tup sn,.tup sm] s=.ok (.tup (sn++sm.filter (nin sn))) s:=by
 rw [ai5];unfold Bports_of_both
 walk_at "ev"
 rw [vp (ρ0:=[none,some (.tup sn)]) (by rw [ak];have:=h2.l;lia) rfl,ago h1.it h2.it]
 walk_at "ev"
 rw [abw (by have:=b6 (nin sn) sm;have:=h1.l;have:=h2.l;lia)]
 walk_at "ev"
def ab6(sn hs:List ae):Option (List ae):=if hs.all (fun x=> !nin sn x)=true then some (sn.filter (nin hs)) else none
def a64(r:R D)(s:S):Option (List ae) -> Prop
 |some l=> r=.ok (.tup l) s
 |none=> ExJ r s "ports"
theorem a39{sn:List ae}(h1:Tps sn)(h2:Tps hs):a64 (yb [.tup sn,.tup hs] s) s (ab6 sn hs):=by
 rw [anl];unfold Bports_left ab6
 walk_at "ev"
 rw [vp (ρ0:=[none,some (.tup sn)]) (by rw [ak];have:=h2.l;lia) rfl]
 rw [show kr (.nm 0) aac (fOp gIn (jb 0) (jb 1)) [none,some (.tup sn)] (hs.map D.da,none) (hs.map D.da) s=.ok ((hs.filter fun _=> true).map fun x=> D.bl (!nin sn x)) s from
  ve (rest:=[some (.tup sn)]) (fun _=> true) (fun x=> D.bl (!nin sn x)) hs (fun x hm=> rfl) (fun x hm _=> by
   walk_at "ev"
   rw [a54 (h2.it x hm) h1.it])]
 rw [cW.mpr fun _ _=> rfl,show (hs.map fun x=> D.bl (!nin sn x))=(hs.map fun x=> cA (!nin sn x)).map D.da by rw [cO];rfl]
 walk_at "ev"
 rw [all_map]
 cases hs.all (fun x=> !nin sn x) with
 |false=>
  walk_at "ev"
  exact ExJ.bind (ExJ.bind acr)
 |true=>
  walk_at "ev"
  rw [vp (ρ0:=[none,some (.tup hs)]) (by rw [ak];have:=h1.l;lia) rfl,ago h2.it h1.it]
  walk_at "ev"
  rfl
def ya(d:ae):Res:=if am5 d=true then .net d else .no "many"
theorem agx{sn ps:ae}(h:Gd (.tuple [.int m,sn,ps])):abx (xz [.int m,.da sn,.da ps] s) s (ya (.tuple [.int m,sn,ps])):=by
 obtain⟨s',e,x⟩:=a5n (s:=s) h
 rw [anc];unfold Bnet_around ya
 walk_at "ev"
 rw [e]
 cases am5 (.tuple [.int m,sn,ps]) with
 |true=>
  walk_at "ev"
  exact⟨s',rfl,x⟩
 |false=>
  walk_at "ev"
  exact (ExJ.bind (ExJ.bind acr)).ext x
abbrev nw:ae:=.str "net"
def an5(m j:Int)(sn sm ps qs:List ae):Res:=
 if m=j then (if sn.length+(sm.filter (nin sn)).length <=6 then ya (.tuple [.int m,.tuple (sn++sm.filter (nin sn)),.tuple [.tuple [nw,.tuple [.int m,.tuple sn,.tuple ps],.tuple sn],.tuple [nw,.tuple [.int j,.tuple sm,.tuple qs],.tuple sm]]]) else .no "seen") else .no "things"
def am0(m:Int)(sn ps hs:List ae):Res:=match ab6 sn hs with
 |some l=> ya (.tuple [.int m,.tuple l,.tuple [.tuple [nw,.tuple [.int m,.tuple sn,.tuple ps],.tuple sn]]])
 |none=>.no "ports"
def apk(m:Int)(sn ps:List ae)(d:ae):Res:=match d with
 |.tuple ns=> if (jw (.tuple ns)&&decide (ns.length=sn.length))=true then ya (.tuple [.int m,.tuple ns,.tuple [.tuple [nw,.tuple [.int m,.tuple sn,.tuple ps],.tuple ns]]]) else .no "names"
 |_=>.no "names"
theorem aj4{sn:List ae}(h:jw d=false):apk m sn ps d=.no "names":=by
 cases d with
 |tuple ns=> show (if (jw (.tuple ns)&&_)=true then _ else _)=_;rw [h];rfl
 |_=> rfl
theorem agf{sn ns:List ae}(h:jw (.tuple ns)=true):apk m sn ps (.tuple ns)=if decide (ns.length=sn.length)=true then ya (.tuple [.int m,.tuple ns,.tuple [.tuple [nw,.tuple [.int m,.tuple sn,.tuple ps],.tuple ns]]]) else .no "names":=by
 show (if (jw (.tuple ns)&&_)=true then _ else _)=_;rw [h,gE]
theorem ax6{sn sm qs:List ae}(h1:Tps sn)(h2:Tps sm)(hg:Gd (.tuple [.int m,.tuple (sn++sm.filter (nin sn)),.tuple [.tuple [nw,.tuple [.int m,.tuple sn,.tuple ps],.tuple sn],.tuple [nw,.tuple [.int j,.tuple sm,.tuple qs],.tuple sm]]])):
  abx (abf [.da (.tuple [.int m,.tuple sn,.tuple ps]),.da (.tuple [.int j,.tuple sm,.tuple qs])] s) s (an5 m j sn sm ps qs):=by
 rw [a0o];unfold Bbeside an5
 walk_at "ev"
 rw [xf]
 by_cases hm:m=j
 ·subst hm
  rw [decide_eq_true rfl,if_pos rfl]
  walk_at "ev"
  rw [a4a h1 h2]
  walk_at "ev"
  by_cases hl:sn.length+(sm.filter (nin sn)).length <=6
  ·rw [if_pos hl,decide_eq_false (show¬(6:Int) < ((sn.length+(sm.filter (nin sn)).length:Nat):Int) by lia)]
   walk_at "ev"
   exact (agx hg).ret
  ·rw [if_neg hl,decide_eq_true (show (6:Int) < ((sn.length+(sm.filter (nin sn)).length:Nat):Int) by lia)]
   walk_at "ev"
   exact ExJ.bind (ExJ.bind acr)
 ·rw [decide_eq_false hm,if_neg hm]
  walk_at "ev"
  exact ExJ.bind (ExJ.bind acr)
theorem awc{sn:List ae}(h1:Tps sn)(h2:Tps hs)(hg: ∀l,ab6 sn hs=some l -> Gd (.tuple [.int m,.tuple l,.tuple [.tuple [nw,.tuple [.int m,.tuple sn,.tuple ps],.tuple sn]]])):
  abx (xv [.da (.tuple [.int m,.tuple sn,.tuple ps]),.tup hs] s) s (am0 m sn ps hs):=by
 rw [anj];unfold Bhidden_net am0
 have hl:=a39 (s:=s) h1 h2
 walk_at "ev"
 cases e:ab6 sn hs with
 |some l=>
  rw [e]at hl
  rw [show yb [.tup sn,.tup hs] s=.ok (.tup l) s from hl]
  walk_at "ev"
  exact (agx (hg l e)).ret
 |none=>
  rw [e]at hl
  have hl:ExJ (yb [.tup sn,.tup hs] s) s "ports":=hl
  show ExJ _ _ _
  repeat (first|exact hl|apply ExJ.bind|apply ExJ.at)
theorem avp{sn:List ae}(h1:Gv d)(hg: ∀ns,d=.tuple ns -> Gd (.tuple [.int m,.tuple ns,.tuple [.tuple [nw,.tuple [.int m,.tuple sn,.tuple ps],.tuple ns]]])):
  abx (abd [.da (.tuple [.int m,.tuple sn,.tuple ps]),.da d] s) s (apk m sn ps d):=by
 rw [a0m];unfold Bcalled
 walk_at "ev"
 rw [aeg h1]
 cases hu:jw d with
 |false=>
  rw [aj4 hu]
  walk_at "ev"
  exact ExJ.bind (ExJ.bind acr)
 | true=>
  obtain⟨ns,rfl⟩:=ab9 hu
  walk_at "ev"
  rw [xf]
  rw [agf hu]
  by_cases hl:ns.length=sn.length
  ·rw [decide_eq_true hl,decide_eq_true (show (ns.length:Int)=(sn.length:Int) by lia)]
   walk_at "ev"
   exact (agx (hg ns rfl)).ret
  ·rw [decide_eq_false hl,decide_eq_false (show¬(ns.length:Int)=(sn.length:Int) by lia)]
   walk_at "ev"
   exact ExJ.bind (ExJ.bind acr)
def duT:FS:=(ji (fIf (kz (jg (fOp abm (jd 3 (k6 8) (ja (jb 4) (ja (jh jc) (ja (fC (.da (.int 1))) jc)))) (fC (.da (.none))))) (jg (fOp gGt (jd 1 (vb 8) (ja (jb 4) jc)) (fC (.da (.int 120)))))) (fC (.da (.str "many"))) (jb 4)))
theorem a2c(o:Option Fa):isN (faD o)=o.isNone:=by cases o <;> rfl
theorem alg{a b c e:Option D}(h:Gd d):(duT [a,b,c,e,some (.da d)] s).bind jt=.ok (.da (ya d).p) s:=by
 unfold duT ya am5
 walk_at "ev"
 rw [a0b h]
 walk_at "ev"
 rw [a2c]
 cases hf:jy 4 d []with
 |some f=>
  rw [show (some f).isNone=false from rfl]
  walk_at "ev"
  rfl
 | none=>
  rw [show (none:Option Fa).isNone=true from rfl]
  walk_at "ev"
  rw [ap4 4 8 d [] s (by decide) h hf]
  walk_at "ev"
  by_cases h1:km 4 d <=120
  ·rw [decide_eq_true h1,decide_eq_false (show¬(120:Int) < (km 4 d:Int) by lia)]
   walk_at "ev"
   rfl
  ·rw [decide_eq_false h1,decide_eq_true (show (120:Int) < (km 4 d:Int) by lia)]
   walk_at "ev"
   rfl
def du0:FS:=(jf (jm (jg (fOp gNe (fOp gIx (jb 1) (fC (.da (.int 0)))) (fOp gIx (jb 2) (fC (.da (.int 0)))))) (ji (fC (.da (.str "things")))) jl)
  (jf (jq 3 (fOp (jv false) (fCB (v9 false) (ja (fOp gIx (jb 1) (fC (.da (.int 1)))) jc)) (fLc false [1] 1 (fIt (fOp gIx (jb 2) (fC (.da (.int 1))))) (.nm 0) (jg (fOp qu (jb 0) (fOp gIx (jb 1) (fC (.da (.int 1)))))) (jb 0))))
  (jf (jm (jg (fOp gGt (fCB jr (ja (jb 3) jc)) (fC (.da (.int 6))))) (ji (fC (.da (.str "seen")))) jl)
  (jq 4 (jh (ja (fOp gIx (jb 1) (fC (.da (.int 0)))) (ja (fCB j6 (ja (jb 3) jc)) (ja (jh (ja (jh (ja (fC (.da (.str "net"))) (ja (jb 1) (ja (fOp gIx (jb 1) (fC (.da (.int 1)))) jc)))) (ja (jh (ja (fC (.da (.str "net"))) (ja (jb 2) (ja (fOp gIx (jb 2) (fC (.da (.int 1)))) jc)))) jc))) jc))))))))
def du1:FS:=(jf (jm (jg (fOp gNe (fLc false [1] 1 (fIt (jb 2)) (.nm 0) (jg (fOp qu (jb 0) (fOp gIx (jb 1) (fC (.da (.int 1)))))) (jb 0)) (ku false jc))) (ji (fC (.da (.str "ports")))) jl)
  (jq 4 (jh (ja (fOp gIx (jb 1) (fC (.da (.int 0)))) (ja (fCB j6 (ja (fLc false [2] 1 (fIt (fOp gIx (jb 1) (fC (.da (.int 1))))) (.nm 0) (jg (fOp qu (jb 0) (jb 1))) (jb 0)) jc)) (ja (jh (ja (jh (ja (fC (.da (.str "net"))) (ja (jb 1) (ja (fOp gIx (jb 1) (fC (.da (.int 1)))) jc)))) jc)) jc))))))
def du2:FS:=(jf (jm (kz (ju (j2 (jd 1 j3 (ja (jb 2) jc)))) (jg (fOp gNe (fCB jr (ja (jb 2) jc)) (fCB jr (ja (fOp gIx (jb 1) (fC (.da (.int 1)))) jc))))) (ji (fC (.da (.str "names")))) jl)
  (jq 4 (jh (ja (fOp gIx (jb 1) (fC (.da (.int 0)))) (ja (jb 2) (ja (jh (ja (jh (ja (fC (.da (.str "net"))) (ja (jb 1) (ja (jb 2) jc)))) jc)) jc))))))
theorem avs:B_law_due=(jf (jm (jg (fOp gEq (jb 0) (fC (.da (.int 0))))) du0 (jm (jg (fOp gEq (jb 0) (fC (.da (.int 1))))) du1 du2)) duT):=rfl
theorem ajf{ps:ae}{l:List ae}{all:List D}(hl: ∀x∈l,It x)(hx: ∀x∈xs,It x):kr (.nm 0) (jg (fOp qu (jb 0) (fOp gIx (jb 1) (fC (.da (.int 1)))))) (jb 0) [none,some (.da (.tuple [.int m,.tuple l,ps]))] (all,none) (xs.map D.da) s=.ok ((xs.filter (nin l)).map D.da) s:=
 ve (rest:=[some (.da (.tuple [.int m,.tuple l,ps]))]) (nin l) (fun x=> D.da x) xs (fun x hm=> by
  walk_at "ev"
  rw [aje (hx x hm) hl]
  walk_at "ev") (fun x hm _=> by
  walk_at "ev")
theorem auy{sn sm qs:List ae}(h1:Tps sn)(h2:Tps sm)(hg:Gd (.tuple [.int m,.tuple (sn++sm.filter (nin sn)),.tuple [.tuple [nw,.tuple [.int m,.tuple sn,.tuple ps],.tuple sn],.tuple [nw,.tuple [.int j,.tuple sm,.tuple qs],.tuple sm]]])):
  xh [.int 0,.da (.tuple [.int m,.tuple sn,.tuple ps]),.da (.tuple [.int j,.tuple sm,.tuple qs])] s=.ok (.da (an5 m j sn sm ps qs).p) s:=by
 rw [aer,avs];unfold an5
 walk_at "ev"
 rw [k7,decide_eq_true rfl]
 walk_at "ev"
 unfold du0
 walk_at "ev"
 rw [xf]
 by_cases hm:m=j
 ·subst hm
  rw [decide_eq_true rfl,if_pos rfl]
  walk_at "ev"
  rw [vp (ρ0:=[none,some (.da (.tuple [.int m,.tuple sn,.tuple ps]))]) (by rw [ak];have:=h2.l;lia) rfl,ajf h1.it h2.it]
  walk_at "ev"
  rw [aa4 (by have:=b6 (nin sn) sm;have:=h1.l;have:=h2.l;lia)]
  walk_at "ev"
  by_cases hl:sn.length+(sm.filter (nin sn)).length <=6
  ·rw [if_pos hl,decide_eq_false (show¬(6:Int) < ((sn.length+(sm.filter (nin sn)).length:Nat):Int) by lia)]
   walk_at "ev"
   exact alg hg
  ·rw [if_neg hl,decide_eq_true (show (6:Int) < ((sn.length+(sm.filter (nin sn)).length:Nat):Int) by lia)]
   walk_at "ev"
   rfl
 ·rw [decide_eq_false hm,if_neg hm]
  walk_at "ev"
  rfl
theorem awl{sn:List ae}(h1:Tps sn)(h2:Tps hs)(hg: ∀l,ab6 sn hs=some l -> Gd (.tuple [.int m,.tuple l,.tuple [.tuple [nw,.tuple [.int m,.tuple sn,.tuple ps],.tuple sn]]])):
  xh [.int 1,.da (.tuple [.int m,.tuple sn,.tuple ps]),.tup hs] s=.ok (.da (am0 m sn ps hs).p) s:=by
 rw [aer,avs];unfold am0
 walk_at "ev"
 rw [k7,decide_eq_false (by decide)]
 walk_at "ev"
 rw [k7,decide_eq_true rfl]
 walk_at "ev"
 unfold du1
 walk_at "ev"
 rw [vp (ρ0:=[none,some (.da (.tuple [.int m,.tuple sn,.tuple ps]))]) (by rw [ak];have:=h2.l;lia) rfl,ajf h1.it h2.it]
 walk_at "ev"
 rw [aih (acy fun x hm=> h2.it x (bw.mp hm).1),show (hs.filter (nin sn))=hs.filter (fun x=> !(!nin sn x)) by simp only [Bool.not_not],aby]
 unfold ab6 at hg⊢
 cases hq:hs.all (fun x=> !nin sn x) with
 |false=>
  walk_at "ev"
  rfl
 |true=>
  rw [hq]at hg
  walk_at "ev"
  rw [vp (ρ0:=[none,some (.tup hs)]) (by rw [ak];have:=h1.l;lia) rfl,ago h2.it h1.it]
  walk_at "ev"
  exact alg (hg _ rfl)
theorem avf{sn:List ae}(h1:Gv d)(hg: ∀ns,d=.tuple ns -> Gd (.tuple [.int m,.tuple ns,.tuple [.tuple [nw,.tuple [.int m,.tuple sn,.tuple ps],.tuple ns]]])):
  xh [.int 2,.da (.tuple [.int m,.tuple sn,.tuple ps]),.da d] s=.ok (.da (apk m sn ps d).p) s:=by
 rw [aer,avs]
 walk_at "ev"
 rw [k7,decide_eq_false (by decide)]
 walk_at "ev"
 rw [k7,decide_eq_false (by decide)]
 walk_at "ev"
 unfold du2
 walk_at "ev"
 rw [ah0 h1]
 cases hu:jw d with
 |false=>
  rw [aj4 hu]
  walk_at "ev"
  rfl
 | true=>
  obtain⟨ns,rfl⟩:=ab9 hu
  walk_at "ev"
  rw [xf]
  rw [agf hu]
  by_cases hl:ns.length=sn.length
  ·rw [decide_eq_true hl,decide_eq_true (show (ns.length:Int)=(sn.length:Int) by lia)]
   walk_at "ev"
   exact alg (hg ns rfl)
  ·rw [decide_eq_false hl,decide_eq_false (show¬(ns.length:Int)=(sn.length:Int) by lia)]
   walk_at "ev"
   rfl
def tdB:FS:=(jm (jg (fOp gEq (jb 0) (fC (.da (.int 0))))) (jq 3 (jd 2 abf (ja (jb 1) (ja (jb 2) jc)))) (jq 3 (fIf (jg (fOp gEq (jb 0) (fC (.da (.int 1))))) (jd 2 xv (ja (jb 1) (ja (jb 2) jc))) (jd 2 abd (ja (jb 1) (ja (jb 2) jc))))))
def tdH:FS:=(jm (yf (j2 (fCB (aek xb xcs) (ja (jb 4) (ja (fC (.fn "NoJoin")) jc)))) (ju (j2 (ar1 xb xcs ["NoAlike","NoMoment","NoNet","NoText","TooMany"] (jb 4))))) (jq 3 (fIf (j2 (fCB (aek xb xcs) (ja (jb 4) (ja (fC (.ty "ValueError")) jc)))) (aks xb xcs xfl "word" (jb 4)) (jh (ja (fC (.da (.str "other"))) jc)))) jl)
theorem a7u:B_law_told=(jf (jq 3 (jh (ja (fC (.da (.str "other"))) jc))) (jf (abj xb xcs "MannerError" (some 4) tdB tdH) (ji (jb 3)))):=rfl
theorem a3n{a b c x:Option D}{w:Str}(h:s[n]?=some (.xcx "NoJoin" [("word",.str w)])):tdH [a,b,c,x,some (.ref n)] s=.ok (.nx [a,b,c,some (.str w),some (.ref n)]) s:=by
 unfold tdH
 walk_at "ev"
 rw [a1o (y:="NoJoin") h (by decide+kernel) (by decide+kernel),show (("NoJoin":Str)=="NoJoin"||("NoJoin":Str)==xb)=true by decide+kernel]
 walk_at "ev"
 rw [a04 h (by decide+kernel) (by decide+kernel),show ((["NoAlike","NoMoment","NoNet","NoText","TooMany"]:List Str).any fun y=> y=="NoJoin"||y==xb)=false by decide+kernel]
 walk_at "ev"
 rw [ax0 h (by decide+kernel)]
 walk_at "ev"
 rw [awn h (x:=.str w) (by decide+kernel) (by decide+kernel) (by rw [cv,show (("word":Str)=="word")=true by decide+kernel])]
 walk_at "ev"
theorem aig{w:Int}{x y:D}{o:Res}(h: ∀d0:D,∃rr:R D,abx rr s o/\tdB [some (.int w),some x,some y,some d0,none] s=(rr.at [some (.int w),some x,some y,some d0,none]).bind (abn 3 [some (.int w),some x,some y,some d0,none])): ∃s',vk [.int w,x,y] s=.ok (.da o.p) s'/\Ext s s':=by
 rw [aqx,a7u]
 walk_at "ev"
 generalize (D.tup [aF "other"])=d0
 obtain⟨rr,hr,e⟩:=h d0
 cases o with
 |net d=>
  obtain⟨s',rfl,x1⟩:=hr
  refine⟨s',?_,x1⟩
  rw [at7 (e.trans rfl)]
  rfl
 |no v=>
  obtain⟨n,ρ',s',rfl,g,x1⟩:=hr.ex
  refine⟨s',?_,x1⟩
  rw [arf (e.trans rfl),a2h g (by decide+kernel) (by decide+kernel)]
  rw [show (List.set [some (D.int w),some x,some y,some d0,none] 4 (some (D.ref n)))=[some (.int w),some x,some y,some d0,some (.ref n)] from rfl,a3n g]
  rfl
theorem a3t{x y:D}{o:Res}(h:abx (abf [x,y] s) s o): ∃s',vk [.int 0,x,y] s=.ok (.da o.p) s'/\Ext s s':=aig fun d0=> ⟨_,h,by
 unfold tdB
 walk_at "ev"
 rw [k7,decide_eq_true rfl]
 walk_at "ev"⟩
theorem a53{x y:D}{o:Res}(h:abx (xv [x,y] s) s o): ∃s',vk [.int 1,x,y] s=.ok (.da o.p) s'/\Ext s s':=aig fun d0=> ⟨_,h,by
 unfold tdB
 walk_at "ev"
 rw [k7,decide_eq_false (by decide)]
 walk_at "ev"
 rw [k7,decide_eq_true rfl]
 walk_at "ev"⟩
theorem a2e{x y:D}{o:Res}(h:abx (abd [x,y] s) s o): ∃s',vk [.int 2,x,y] s=.ok (.da o.p) s'/\Ext s s':=aig fun d0=> ⟨_,h,by
 unfold tdB
 walk_at "ev"
 rw [k7,decide_eq_false (by decide)]
 walk_at "ev"
 rw [k7,decide_eq_false (by decide)]
 walk_at "ev"⟩
theorem Sm.kid{D:Nat}{x:ae}(h:Sm (D+1) B (.tuple ds))(hx:x∈ds):Sm D B x:=by
 refine⟨?_,?_,?_⟩
 ·cases h.lf with
  |tup _ _ a=> exact a x hx
 ·have:=h.dp
  simp only [aV]at this
  have:=aec hx
  lia
 ·have:=h.bk
  simp only [cB]at this
  have:=agv hx
  lia
theorem Sm.sl{D:Nat}(h:Sm (D+1) B (.tuple ds)):SL D B ds:=⟨fun x hx=> ⟨(h.kid hx).lf,(h.kid hx).dp⟩,by have:=h.bk;simpa only [cB] using this⟩
theorem ak8(p:ae -> Bool): ∀ds:List ae,aG (ds.filter p) <=aG ds
 |[]=> aq _
 |x::r=> by
  have:=ak8 p r
  rw [List.filter_cons]
  split
  ·simp only [aG];lia
  ·simp only [aG];lia
theorem SL.filt{D:Nat}(h:SL D B ds)(p:ae -> Bool):SL D B (ds.filter p):=⟨fun x hx=> h.al x (bw.mp hx).1,ax (ak8 p ds) h.bk⟩
theorem Gd.tps(h:Gd (.tuple ds)):Tps ds:=⟨fun x hx=> (h.kid hx).it,ax h.len.1 (by decide)⟩
structure NtX (m:Int) (sn ps:List ae):Prop where
 sm:Sm 16 42000 (.tuple [.int m,.tuple sn,.tuple ps])
 l:sn.length <=6
 m0:0 <=m
 m3:m <=3
theorem NtX.sn{sn:List ae}(h:NtX m sn ps):Sm 15 42000 (.tuple sn):=h.sm.kid (by simp)
theorem NtX.tps{sn:List ae}(h:NtX m sn ps):Tps sn:=(h.sn.gd (by decide) (by decide)).tps
theorem NtX.part{sn ns:List ae}(h:NtX m sn ps)(hn:Sm 16 42000 (.tuple ns)):Sm 17 84012 (.tuple [nw,.tuple [.int m,.tuple sn,.tuple ps],.tuple ns]):=z0 (D:=16) (A:=9) ((aa2 (x:="net") (by simp)).mono (by decide) (aq _)) h.sm hn
theorem aq1{l qs:List ae}(m0:0 <=m)(m3:m <=3)(hl:SL 17 84000 l)(hn:l.length <=30)(hq:SL 17 168030 qs)(hn2:qs.length <=30):Gd (.tuple [.int m,.tuple l,.tuple qs]):=
 (z0 (D:=18) (A:=9) ((aev (i:=m) (by lia)).mono (by decide) (aq _)) (hl.tup (by lia) (ax (aew _) hn)) (hq.tup (by lia) (ax (aew _) hn2))).gd (by decide) (by decide)
theorem ad0{w:Str}(h:w∈(["many","things","seen","ports","names"]:List Str)):Gd (.str w):=by
 have lit: ∀x∈(["many","things","seen","ports","names"]:List Str),asc x=true/\x.cps.size <=6:=by decide+kernel
 exact (ac4 (lit w h).1 (ax (lit w h).2 (by decide))).gd (by decide) (by decide)
theorem aei(h:Gd d):Gd (ya d).p:=by
 unfold ya
 split
 ·exact h
 ·exact ad0 (by simp)
structure RwQ (w:Int) (x y:D) (s:S):Prop where
 ex: ∃(r:ae) (s':S),Gd r/\vk [.int w,x,y] s=.ok (.da r) s'/\Ext s s'/\ ∀s:S,xh [.int w,x,y] s=.ok (.da r) s
theorem a66{sn sm qs:List ae}(h1:NtX m sn ps)(h2:NtX j sm qs):RwQ 0 (.da (.tuple [.int m,.tuple sn,.tuple ps])) (.da (.tuple [.int j,.tuple sm,.tuple qs])) s:=by
 have g:Gd (.tuple [.int m,.tuple (sn++sm.filter (nin sn)),.tuple [.tuple [nw,.tuple [.int m,.tuple sn,.tuple ps],.tuple sn],.tuple [nw,.tuple [.int j,.tuple sm,.tuple qs],.tuple sm]]]):=by
  refine aq1 h1.m0 h1.m3 (((h1.sn.sl).app (h2.sn.sl.filt (nin sn))).mono (by decide) (by decide)) ?_ ((SL.cons (h1.part (h1.sn.mono (by decide) (aq _))) (SL.one (h2.part (h2.sn.mono (by decide) (aq _))))).mono (by decide) (by decide)) (by simp)
  have:=b6 (nin sn) sm
  have:=h1.l
  have:=h2.l
  rw [aX]
  lia
 obtain⟨s',e,x⟩:=a3t (ax6 (s:=s) h1.tps h2.tps g)
 refine⟨_,s',?_,e,x,fun s=> auy h1.tps h2.tps g⟩
 unfold an5
 split
 ·split
  ·exact aei g
  ·exact ad0 (by simp)
 ·exact ad0 (by simp)
theorem a6y{sn:List ae}(h1:NtX m sn ps)(h2:Tps hs):RwQ 1 (.da (.tuple [.int m,.tuple sn,.tuple ps])) (.tup hs) s:=by
 have g: ∀l,ab6 sn hs=some l -> Gd (.tuple [.int m,.tuple l,.tuple [.tuple [nw,.tuple [.int m,.tuple sn,.tuple ps],.tuple sn]]]):=fun l e=> by
  unfold ab6 at e
  split at e
  ·cases e
   exact aq1 h1.m0 h1.m3 ((h1.sn.sl.filt (nin hs)).mono (by decide) (by decide)) (ax (b6 _ _) (ax h1.l (by decide))) ((SL.one (h1.part (h1.sn.mono (by decide) (aq _)))).mono (by decide) (by decide)) (by simp)
  ·cases e
 obtain⟨s',e,x⟩:=a53 (awc (s:=s) h1.tps h2 g)
 refine⟨_,s',?_,e,x,fun s=> awl h1.tps h2 g⟩
 unfold am0
 split
 ·rename_i l e
  exact aei (g l e)
 ·exact ad0 (by simp)
theorem a6g{sn:List ae}(h1:NtX m sn ps)(h2:Sm 2 500 d)(hl: ∀ns,d=.tuple ns -> ns.length <=30):RwQ 2 (.da (.tuple [.int m,.tuple sn,.tuple ps])) (.da d) s:=by
 have gd:=h2.gd (by decide) (by decide)
 have g: ∀ns,d=.tuple ns -> Gd (.tuple [.int m,.tuple ns,.tuple [.tuple [nw,.tuple [.int m,.tuple sn,.tuple ps],.tuple ns]]]):=fun ns e=> by
  subst e
  exact aq1 h1.m0 h1.m3 ((h2.sl (D:=1)).mono (by decide) (by decide)) (hl ns rfl) ((SL.one (h1.part (h2.mono (by decide) (by decide)))).mono (by decide) (by decide)) (by simp)
 obtain⟨s',e,x⟩:=a2e (avp (s:=s) gd.gv g)
 refine⟨_,s',?_,e,x,fun s=> avf gd.gv g⟩
 cases hu:jw d with
 |false=> rw [aj4 hu];exact ad0 (by simp)
 |true=>
  obtain⟨ns,rfl⟩:=ab9 hu
  rw [agf hu]
  split
  ·exact aei (g ns rfl)
  ·exact ad0 (by simp)
structure RowX (m:Int) (sn ps:List ae) (x:ae):Prop where
 ex: ∃(w:Int) (y:ae),x=.tuple [.int w,y]/\Gd y/\y.bulk <=90000/\y.depth <=20/\ ∀s:S,RwQ w (.da (.tuple [.int m,.tuple sn,.tuple ps])) (.da y) s
theorem a36{sn sm qs:List ae}(h1:NtX m sn ps)(h2:NtX j sm qs):RowX m sn ps (.tuple [.int 0,.tuple [.int j,.tuple sm,.tuple qs]]):=⟨_,_,rfl,h2.sm.gd (by decide) (by decide),ax h2.sm.bk (by decide),ax h2.sm.dp (by decide),fun _=> a66 h1 h2⟩
theorem a4k{sn:List ae}(h1:NtX m sn ps)(h2:Sm 16 90000 (.tuple hs)):RowX m sn ps (.tuple [.int 1,.tuple hs]):=⟨_,_,rfl,h2.gd (by decide) (by decide),h2.bk,ax h2.dp (by decide),fun _=> a6y h1 (h2.gd (by decide) (by decide)).tps⟩
theorem aal{sn:List ae}(h1:NtX m sn ps)(h2:Sm 2 500 d)(hl: ∀ns,d=.tuple ns -> ns.length <=30):RowX m sn ps (.tuple [.int 2,d]):=⟨_,_,rfl,h2.gd (by decide) (by decide),ax h2.bk (by decide),ax h2.dp (by decide),fun _=> a6g h1 h2 hl⟩
theorem a12{x y:ae}(hx:Sm 16 42000 x)(hy:Gd y)(hb:y.bulk <=90000)(hd:y.depth <=20):Gd (.list [x,y]):=by
 refine⟨.lst (by simp) fun z hz=> ?_,?_,?_⟩
 ·simp only [aw,bK,or_false]at hz
  rcases hz with rfl|rfl
  ·exact hx.lf.mono (by decide)
  ·exact hy.lf
 ·simp only [aV,bv]
  have:=hx.dp
  have:=hy.dp
  lia
 ·simp only [cB,aG]
  have:=hx.bk
  lia
theorem ajz{a b:Nat}(h:s[a]?=some (.lst (xs.map D.da)))(h2:s[b]?=some (.lst (ys.map D.da)))(hl:xs.length+ys.length <=1000):jv true (.ref a) (.ref b) s=.ok (.ref s.length) (s++ [.lst ((xs++ys).map D.da)]):=by
 show (match (match s[a]? with|some (O.lst ds)=> some ds|_=> none),(match s[b]? with|some (O.lst ds)=> some ds|_=> none) with|some xs,some ys=> (if xs.length+ys.length <=sizeLine then qw true (xs++ys) s else .bad)|_,_=>.bad)=_
 rw [h,h2]
 show (if (xs.map D.da).length+(ys.map D.da).length <=sizeLine then qw true (xs.map D.da++ys.map D.da) s else .bad)=_
 rw [if_pos (by rw [ak,ak,qi];lia),gZ]
 rfl
theorem ar6{a:Nat}{L:List ae}{x:ae}(h:s[a]?=some (.lst (L.map D.da))):(s.set a (.lst (L.map D.da++ [D.da x])))[a]?=some (.lst ((L++ [x]).map D.da)):=by
 rw [bh (aA.mp h).1];simp
theorem aoy(h:Fd s n c)(m0:0 <=m)(m3:m <=3)(hc:c+10 < 2^40):(xm [.ref n,.int m] s).W fun d s'=> ∃sn ps,d=.da (.tuple [.int m,.tuple sn,.tuple ps])/\NtX m sn ps/\Fd s' n (c+2)/\ky n s s':=by
 rw [api];unfold B_law_wide
 walk_at "go"
 refine R.W_mono (kv h (by decide) (by decide) (by lia)) ?_
 rintro _ s1 ⟨i,rfl,i0,i1,fd1,sm1⟩
 obtain⟨t,rfl⟩: ∃q:Nat,i=(q:Int):=⟨i.toNat,by lia⟩
 walk_at "go"
 rw [aax]
 refine R.W_mono (kv fd1 (by decide) (by decide) (by lia)) ?_
 rintro _ s2 ⟨i,rfl,j0,j1,fd2,sm2⟩
 obtain⟨k,rfl⟩: ∃q:Nat,i=(q:Int):=⟨i.toNat,by lia⟩
 walk_at "go"
 rw [show ((56:Int)+(k:Int))=((56+k:Nat):Int) by lia,a4e (by lia)]
 walk_at "go"
 have lit: ∀x∈(["s","t","u","a","b","c"]:List Str),asc x=true/\x.length <=9:=by decide+kernel
 have p1: ∀x∈([.str "s",.str "t",.str "u",.str "a",.str "b",.str "c"]:List ae).drop t,Sm 0 9 x:=fun x hx=> by
  obtain⟨y,hy,rfl⟩:=bg.mp (show x∈(["s","t","u","a","b","c"]:List Str).map aF from dh hx)
  exact ac4 (lit y hy).1 (lit y hy).2
 have l1:(([.str "s",.str "t",.str "u",.str "a",.str "b",.str "c"]:List ae).drop t).length <=6:=by rw [d6];simp
 have p2:=(SL.of p1 l1).tup (by lia) (ax (aew _) (by lia))
 have dn: ∀x∈au (56+k) (fX [.str "drain",.str "a",.str "b"]),Sm 1 30 x:=fun x hx=> by rw [fY hx];exact a6m (by simp) (by simp) (by simp)
 have p3:=(SL.of dn (k:=70) (by simp;lia)).tup (by simp;lia) (by rw [azv fun x hx=> by rw [fY hx];rfl];decide)
 have p4:=z0 (D:=2) ((aev (i:=m) (by lia)).mono (by decide) (aq _)) (p2.mono (by decide) (aq _)) p3
 exact⟨_,_,rfl,⟨p4.mono (by decide) (by decide),l1,m0,m3⟩,fd2,sm1.trans sm2⟩
def rwB:FS:=(jf (jq 11 (fCB yh (ja (ku false (ja (jb 4) (ja (jb 10) jc))) jc)))
  (jm (kz (jg (fOp gNe (fCB yh (ja (jd 3 vk (ja (jb 9) (ja (jb 4) (ja (jb 10) jc)))) jc)) (fCB yh (ja (jd 3 xh (ja (jb 9) (ja (jb 4) (ja (jb 10) jc)))) jc)))) (jg (fOp gNe (fCB yh (ja (ku false (ja (jb 4) (ja (jb 10) jc))) jc)) (jb 11)))) (ji (fC (.da (.bool false)))) jl))
structure RwJ (s0:S) (c:Nat) (m:Int) (sn ps:List ae) (A0 A2 A3 A5 A6 A7 A8:Option D) (r:List D) (ρ:En) (s:S):Prop where
 ex: ∃(ds:List ae) (u v w:Option D),r=ds.map D.da/\(∀x∈ds,RowX m sn ps x)/\ρ=[A0,some (.ref 0),A2,A3,some (.da (.tuple [.int m,.tuple sn,.tuple ps])),A5,A6,A7,A8,u,v,w]/\Fd s 0 c/\Ext s0 s
theorem a09{s0:S}{sn:List ae}{A0 A2 A3 A5 A6 A7 A8:Option D}{d:D}{Q:Fl -> S -> Prop}(hN:NtX m sn ps)(J:RwJ s0 c m sn ps A0 A2 A3 A5 A6 A7 A8 (d::r) ρ s): ∃ρ1,vj (.t2 (.nm 9) (.nm 10)) d ρ=some ρ1/\(rwB ρ1 s).W (flW (RwJ s0 c m sn ps A0 A2 A3 A5 A6 A7 A8 r) Q):=by
 obtain⟨ds,u,v,w,er,hd,rfl,fd,x0⟩:=J
 cases ds with
 |nil=> cases er
 |cons x ds=>
  rw [aJ,fG]at er
  obtain⟨rfl,rfl⟩:=er
  obtain⟨i,y,rfl,gy,by',dy,hq⟩:=(hd x aC).ex
  obtain⟨q,s',gq,e1,x1,e2⟩:=(hq s).ex
  have gp:=a12 hN.sm gy by' dy
  refine⟨[A0,some (.ref 0),A2,A3,some (.da (.tuple [.int m,.tuple sn,.tuple ps])),A5,A6,A7,A8,some (.int i),some (.da y),w],rfl,?_⟩
  unfold rwB
  walk_at "go"
  rw [show (D.lst [.tuple [.int m,.tuple sn,.tuple ps],y])=.da (.list [.tuple [.int m,.tuple sn,.tuple ps],y]) from rfl,afg gp]
  walk_at "go"
  rw [e1]
  walk_at "go"
  rw [afg gq]
  walk_at "go"
  rw [e2]
  walk_at "go"
  rw [afg gq]
  walk_at "go"
  rw [ayb,show (!decide (q.shown=q.shown))=false by simp]
  walk_at "go"
  rw [show (D.lst [.tuple [.int m,.tuple sn,.tuple ps],y])=.da (.list [.tuple [.int m,.tuple sn,.tuple ps],y]) from rfl,afg gp]
  walk_at "go"
  rw [ayb,show (!decide ((kH [.tuple [.int m,.tuple sn,.tuple ps],y]).shown=(kH [.tuple [.int m,.tuple sn,.tuple ps],y]).shown))=false by simp]
  walk_at "go"
  exact⟨ds,_,_,_,rfl,fun z hz=> hd z (aB _ hz),rfl,fd.ext x1,x0.trans x1⟩
theorem atn(h:xs.Perm ys):aG xs=aG ys:=by
 induction h with
 |nil=> rfl
 |cons x _ ih=> simp only [aG,ih]
 |swap x y l=> simp only [aG];lia
 |trans _ _ a b=> exact a.trans b
def hdB:FS:=(jf (jq 7 (jd 2 kl (ja (jb 1) (ja (fOp (jv false) (fCB (v9 false) (ja (fOp gIx (jb 4) (fC (.da (.int 1)))) jc)) (fSl false (fCB (v9 false) (ja (fOp gIx (jb 4) (fC (.da (.int 1)))) jc)) fNo (kd (fC (.da (.int 1)))))) jc))))
  (vf (fMt qk (jb 5) (ja (jh (ja (fC (.da (.int 1))) (ja (fCB j6 (ja (fOp (jv false) (fSl false (jb 7) fNo (kd (jd 2 jj (ja (jb 1) (ja (fOp (jv false) (fCB jr (ja (jb 7) jc)) (fC (.da (.int 1)))) jc))))) (fOp (aad false) (ku false (ja (fC (.da (.str "zz"))) jc)) (fCB agl (ja (fOp gEq (jd 2 jj (ja (jb 1) (ja (fC (.da (.int 4))) jc))) (fC (.da (.int 0)))) jc)))) jc)) jc))) jc))))
structure HdJ (c a:Nat) (m:Int) (sn ps:List ae) (A0 A2 A3 A8 A9 A10 A11:Option D) (r:List D) (ρ:En) (s:S):Prop where
 ex: ∃(L:List ae) (c':Nat) (u v:Option D),s[a]?=some (.lst (L.map D.da))/\L.length+r.length <=20/\(∀x∈L,RowX m sn ps x)/\ρ=[A0,some (.ref 0),A2,A3,some (.da (.tuple [.int m,.tuple sn,.tuple ps])),some (.ref a),u,v,A8,A9,A10,A11]/\Fd s 0 c'/\c'+10*r.length <=c+30/\0 < a
theorem a62(b:Bool): ∃(j:Int) (z:List ae),(z=[]\/z=[.str "zz"])/\(∀s:S,agl [.bl b] s=.ok (.int j) s)/\ ∀s:S,aad false (.lst [.str "zz"]) (.int j) s=.ok (.lst z) s:=by
 cases b
 ·exact⟨0,[],.inl rfl,fun _=> rfl,fun _=> rfl⟩
 ·exact⟨1,[.str "zz"],.inr rfl,fun _=> rfl,fun _=> rfl⟩
theorem a0f{a:Nat}{sn:List ae}{A0 A2 A3 A8 A9 A10 A11:Option D}{d:D}{Q:Fl -> S -> Prop}(hN:NtX m sn ps)(hc:c+1000 < 2^40)(J:HdJ c a m sn ps A0 A2 A3 A8 A9 A10 A11 (d::r) ρ s): ∃ρ1,vj (.nm 6) d ρ=some ρ1/\(hdB ρ1 s).W (flW (HdJ c a m sn ps A0 A2 A3 A8 A9 A10 A11 r) Q):=by
 obtain⟨L,c',u,v,ha,hl,hL,rfl,fd,hcc,a0⟩:=J
 simp only [aM]at hl hcc
 refine⟨[A0,some (.ref 0),A2,A3,some (.da (.tuple [.int m,.tuple sn,.tuple ps])),some (.ref a),some d,v,A8,A9,A10,A11],rfl,?_⟩
 have hs6:=hN.l
 unfold hdB
 walk_at "go"
 rw [show (some (1:Int))=some ((1:Nat):Int) from rfl,zt,aa4 (by rw [a8];lia)]
 walk_at "go"
 refine R.W_mono (afi fd (by rw [aX,a8];lia) (by rw [aX,a8];lia)) ?_
 rintro _ s1 ⟨ys,rfl,pm,fd1,sm1⟩
 have hy:=pm.length_eq
 rw [aX,a8]at hy fd1
 have la:=(aA.mp ha).1
 have ha1:s1[a]?=some (.lst (L.map D.da)):=by rw [sm1.get _ (by lia) la];exact ha
 walk_at "go"
 rw [adu ha1]
 walk_at "go"
 refine R.W_mono (kv fd1 (by lia) (by lia) (by lia)) ?_
 rintro _ s2 ⟨i,rfl,i0,i1,fd2,sm2⟩
 obtain⟨t,rfl⟩: ∃q:Nat,i=(q:Int):=⟨i.toNat,by lia⟩
 walk_at "go"
 refine R.W_mono (kv fd2 (by decide) (by decide) (by lia)) ?_
 rintro _ s3 ⟨i,rfl,j0,j1,fd3,sm3⟩
 walk_at "go"
 rw [k7]
 obtain⟨j,z,hz,z1,z2⟩:=a62 (decide (i=0))
 walk_at "go"
 rw [z1]
 walk_at "go"
 rw [z2]
 walk_at "go"
 have lz:z.length <=1:=by rcases hz with rfl|rfl <;> simp
 rw [zt,aa4 (by rw [a8];lia)]
 walk_at "go"
 have ha3:s3[a]?=some (.lst (L.map D.da)):=by rw [(sm2.trans sm3).get _ (by lia) (aA.mp ha1).1];exact ha1
 rw [aav ha3 (by rw [ak];lia)]
 walk_at "go"
 have zs:SL 14 10 z:=by
  have q:asc "zz"=true/\(bG "zz").length <=9:=by decide+kernel
  rcases hz with rfl|rfl
  ·exact SL.nil.mono (aq _) (by decide)
  ·exact SL.one ((ac4 q.1 q.2).mono (by decide) (aq _))
 have ysl: ∀x∈ys.take t,Lf 0 x/\x.depth <=14:=fun x hx=> by
  have:=pm.mem_iff.mp (cx hx)
  rcases bq.mp this with q|q
  ·exact hN.sn.sl.al x q
  ·exact hN.sn.sl.al x (cx q)
 refine⟨L++ [.tuple [.int 1,.tuple (ys.take t++z)]],c'+(sn.length+min 1 sn.length)+1+1,_,_,ar6 ha3,by simp;lia,fun x hx=> ?_,rfl,fd3.set (by lia),by lia,a0⟩
 rcases bq.mp hx with q|q
 ·exact hL x q
 ·rw [aY.mp q]
  refine a4k hN ?_
  have bp:=atn pm
  have bt:aG (ys.take t) <=aG ys:=by
   have:aG (ys.take t++ys.drop t)=aG ys:=by rw [gO]
   rw [adm]at this
   lia
  have b1:aG (sn.take 1) <=aG sn:=by
   have:aG (sn.take 1++sn.drop 1)=aG sn:=by rw [gO]
   rw [adm]at this
   lia
  have b2:=hN.sn.sl.bk
  rw [adm]at bp
  have sl:SL 14 84000 (ys.take t):=⟨ysl,by lia⟩
  exact ((sl.app zs).tup (by rw [aX,a8];lia) (ax (aew _) (by rw [aX,a8];lia))).mono (by decide) (by decide)
theorem ayy(hk:k < 1000)(hx:xs.length < 1000):aad false (.lst xs) (.int (k:Int)) s=.ok (.lst (au k xs).flatten) s:=by
 show (if -1000 < (k:Int)/\(k:Int) < 1000/\(xs.map D.da).length < 1000 then qw false (au (k:Int).toNat (xs.map D.da)).flatten s else .bad)=_
 rw [if_pos ⟨by lia,by lia,by rw [ak];exact hx⟩,cj,show (au k (xs.map D.da)).flatten=((au k xs).flatten).map D.da by rw [List.map_flatten,fV]]
 unfold qw
 rw [if_neg am,qj]
theorem SL.lst{D:Nat}(h:SL D B xs)(hl:xs.length <=140):Sm (D+1) B (.list xs):=by
 refine⟨.lst (by lia) fun x hx=> (h.al x hx).1,?_,by simp only [cB];exact h.bk⟩
 simp only [aV]
 have:=zh fun x hx=> (h.al x hx).2
 lia
theorem af0(h: ∀x∈xs,Sm 0 9 x)(hl:xs.length <=k)(hk:k <=20):Sm 1 (k*10) (.tuple xs):=(SL.of h hl).tup (by lia) (ax (aew _) (by lia))
def pnS:FS:=(jf (jq 8 (fSl false (jd 2 v6 (ja (jb 1) (ja (fCB af8 (ja (fC (.da (.int 2))) (ja (fCB jr (ja (fOp gIx (jb 4) (fC (.da (.int 1)))) jc)) jc))) jc))) fNo (kd (fCB jr (ja (fOp gIx (jb 4) (fC (.da (.int 1)))) jc)))))
  (jf (jq 5 (fOp (jv true) (jb 5) (ku true (ja (jh (ja (fC (.da (.int 2))) (ja (fCB j6 (ja (jb 8) jc)) jc))) (ja (jh (ja (fC (.da (.int 2))) (ja (fOp (jv false) (fCB j6 (ja (jb 8) jc)) (jh (ja (fC (.da (.str "yy"))) jc))) jc))) (ja (jh (ja (fC (.da (.int 2))) (ja (fCB j6 (ja (fSl false (jb 8) (kd (fC (.da (.int 1)))) fNo) jc)) jc))) (ja (jh (ja (fC (.da (.int 2))) (ja (fCB (v9 false) (ja (jb 8) jc)) jc))) jc)))))))
  (jf (jq 5 (fOp (jv true) (jb 5) (ku true (ja (jh (ja (fC (.da (.int 2))) (ja (fCB j6 (ja (fOp (aad false) (fSl false (jb 8) fNo (kd (fC (.da (.int 1))))) (fCB jr (ja (jb 8) jc))) jc)) jc))) (ja (jh (fVs (cw D.da [.int 2,.none]))) (ja (jh (fVs (cw D.da [.int 2,.str "ab"]))) (ja (jh (ja (fC (.da (.int 2))) (ja (fCB j6 (ja (fOp (jv false) (ku false (ja (fC (.da (.str "A"))) jc)) (fSl false (jb 8) (kd (fC (.da (.int 1)))) fNo)) jc)) jc))) jc)))))))
  (y7 (fIt (jb 5)) (.t2 (.nm 9) (.nm 10)) rwB))))
theorem ao5: ∀x∈(["yy","ab","A"]:List Str),asc x=true/\x.length <=9:=by decide+kernel
theorem alk{x:Str}(h:x∈(["yy","ab","A"]:List Str)):Sm 0 9 (.str x):=ac4 (ao5 x h).1 (ao5 x h).2
noncomputable def aah(ns:List ae):List ae:=[.tuple [.int 2,.tuple ns],.tuple [.int 2,.tuple (ns++ [.str "yy"])],.tuple [.int 2,.tuple (ns.drop 1)],.tuple [.int 2,.list ns]]
noncomputable def ace(ns:List ae):List ae:=[.tuple [.int 2,.tuple (au ns.length (ns.take 1)).flatten],.tuple [.int 2,.none],.tuple [.int 2,.str "ab"],.tuple [.int 2,.tuple (.str "A"::ns.drop 1)]]
theorem a4s{sn ns:List ae}(hN:NtX m sn ps)(hn: ∀x∈ns,Sm 0 9 x)(hl:ns.length <=6): ∀x∈aah ns,RowX m sn ps x:=by
 have tl: ∀{xs:List ae},xs.length <=30 -> ∀ns,fX xs=.tuple ns -> ns.length <=30:=fun h ns e=> by cases e;exact h
 refine aqi ?_ ?_ ?_ ?_
 ·exact aal hN ((af0 (k:=8) hn (by lia) (by decide)).mono (by decide) (by decide)) (tl (by lia))
 ·refine aal hN ((af0 (k:=8) (fun x hx=> ?_) (by simp;lia) (by decide)).mono (by decide) (by decide)) (tl (by simp;lia))
  rcases bq.mp hx with q|q
  ·exact hn x q
  ·rw [aY.mp q];exact alk (by simp)
 ·exact aal hN ((af0 (k:=8) (fun x hx=> hn x (dh hx)) (by rw [d6];lia) (by decide)).mono (by decide) (by decide)) (tl (by rw [d6];lia))
 ·exact aal hN (((SL.of (k:=6) hn hl).lst (by lia)).mono (by decide) (by decide)) (fun ns e=> by cases e)
theorem a4u{sn ns:List ae}(hN:NtX m sn ps)(hn: ∀x∈ns,Sm 0 9 x)(hl:ns.length <=6): ∀x∈ace ns,RowX m sn ps x:=by
 have tl: ∀{xs:List ae},xs.length <=30 -> ∀ns,fX xs=.tuple ns -> ns.length <=30:=fun h ns e=> by cases e;exact h
 have fl:(au ns.length (ns.take 1)).flatten.length <=6:=by
  rw [h9,fV,gu,a8]
  have:=lS ns.length (Nat.min_le_left 1 ns.length)
  lia
 refine aqi ?_ ?_ ?_ ?_
 ·refine aal hN ((af0 (k:=8) (fun x hx=> ?_) (by lia) (by decide)).mono (by decide) (by decide)) (tl (by lia))
  (obtain⟨l,hl,hx⟩:=List.mem_flatten.mp hx)
  (rw [fY hl]at hx)
  exact hn x (cx hx)
 ·exact aal hN ⟨.none,by simp [aV],by simp [cB]⟩ (fun ns e=> by cases e)
 ·exact aal hN ((alk (by simp)).mono (by decide) (by decide)) (fun ns e=> by cases e)
 ·refine aal hN ((af0 (k:=8) (fun x hx=> ?_) (by simp;lia) (by decide)).mono (by decide) (by decide)) (tl (by simp;lia))
  rcases aw.mp hx with q|q
  ·rw [q];exact alk (by simp)
  ·exact hn x (dh q)
theorem a6z{A0 A2 A3 A6 A7 A8 A9 A10 A11:Option D}{sn:List ae}{a:Nat}{L:List ae}{Q:Fl -> S -> Prop}{R':List D -> En -> S -> Prop}(hN:NtX m sn ps)(hc:c+100 < 2^40)(ha:s[a]?=some (.lst (L.map D.da)))(hl:L.length <=20)(hL: ∀y∈L,RowX m sn ps y)(fd:Fd s 0 c)(a0:0 < a)(fin: ∀(s':S) (u5 u8 u9 u10 u11:Option D),Fd s' 0 (c+2) -> R' r [A0,some (.ref 0),A2,A3,some (.da (.tuple [.int m,.tuple sn,.tuple ps])),u5,A6,A7,u8,u9,u10,u11] s'):
  (pnS [A0,some (.ref 0),A2,A3,some (.da (.tuple [.int m,.tuple sn,.tuple ps])),some (.ref a),A6,A7,A8,A9,A10,A11] s).W (flW (R' r) Q):=by
 have h6:=hN.l
 unfold pnS
 walk_at "go"
 rw [max_two]
 walk_at "go"
 refine R.W_mono (amg fd (by lia) (by lia)) ?_
 rintro _ s1 ⟨qs,rfl,pl,nd,pr,fd1,sm1⟩
 walk_at "go"
 rw [zt]
 have hn: ∀x∈(qs.map aF).take sn.length,Sm 0 9 x:=fun x hx=> by
  obtain⟨y,hy,rfl⟩:=bg.mp (cx hx)
  exact xx (pr y hy)
 have hnl:((qs.map aF).take sn.length).length <=6:=by rw [a8];lia
 generalize (qs.map aF).take sn.length=ns at hn hnl⊢
 have la:=(aA.mp ha).1
 have ha1:s1[a]?=some (.lst (L.map D.da)):=by rw [sm1.get _ (by lia) la];exact ha
 have la1:=(aA.mp ha1).1
 walk_at "go"
 rw [abw (by simp;lia)]
 walk_at "go"
 rw [show (some (1:Int))=some ((1:Nat):Int) from rfl,aax]
 walk_at "go"
 have r1:=a4s hN hn hnl
 have r2:=a4u hN hn hnl
 have x1:=Ext.add s1 [O.lst ((aah ns).map D.da)]
 rw [show (O.lst [D.tup [.int 2,.tuple ns],D.tup [.int 2,.tuple (ns++ [.str "yy"])],D.tup [.int 2,.tuple (ns.drop 1)],D.tup [.int 2,.list ns]])=O.lst ((aah ns).map D.da) from rfl]
 rw [ajz (b:=s1.length) (xs:=L) (ys:=aah ns) (x1.get ha1) (by simp) (by simp [aah];lia)]
 have q2: ∀y∈L++aah ns,RowX m sn ps y:=fun y hy=> (bq.mp hy).elim (hL y) (r1 y)
 have l2:(L++aah ns).length <=24:=by simp [aah];lia
 generalize L++aah ns=L2 at q2 l2⊢
 generalize hs2:s1++ [O.lst ((aah ns).map D.da)]=s2 at x1⊢
 have ha2:(s2++ [O.lst (L2.map D.da)])[s2.length]?=some (.lst (L2.map D.da)):=by simp
 have x2:=Ext.add s2 [O.lst (L2.map D.da)]
 have p2:0 < s2.length:=aI a0 (by rw [←hs2];simp;lia)
 generalize hs3:s2++ [O.lst (L2.map D.da)]=s3 at ha2 x2⊢
 walk_at "go"
 rw [show (some (1:Int))=some ((1:Nat):Int) from rfl,zt]
 rw [ayy (by lia) (by rw [a8];lia)]
 walk_at "go"
 rw [show (some (1:Int))=some ((1:Nat):Int) from rfl,aax,aa4 (by simp;lia)]
 walk_at "go"
 have x3:=Ext.add s3 [O.lst ((ace ns).map D.da)]
 rw [show (O.lst [D.tup [.int 2,.tuple (au ns.length (ns.take 1)).flatten],D.tup [.int 2,.none],D.tup [.int 2,.str "ab"],D.tup [.int 2,.tuple (.str "A"::ns.drop 1)]])=O.lst ((ace ns).map D.da) from rfl]
 rw [ajz (b:=s3.length) (xs:=L2) (ys:=ace ns) (x3.get ha2) (by simp) (by simp [ace];lia)]
 have q3: ∀y∈L2++ace ns,RowX m sn ps y:=fun y hy=> (bq.mp hy).elim (q2 y) (r2 y)
 generalize L2++ace ns=L3 at q3⊢
 generalize hs4:s3++ [O.lst ((ace ns).map D.da)]=s4 at x3⊢
 have ha4:(s4++ [O.lst (L3.map D.da)])[s4.length]?=some (.lst (L3.map D.da)):=by simp
 have x4:=Ext.add s4 [O.lst (L3.map D.da)]
 generalize s4++ [O.lst (L3.map D.da)]=s5 at ha4 x4⊢
 walk_at "go"
 rw [a2s ha4]
 walk_at "go"
 rw [show∀(g:Tg) (fb:FS) (ρ:En) (p:Wk) (s:S),kFor g fb ρ p s=chk p s (qp g fb p p.1 ρ s) from fun _ _ _ _ _=> rfl,aa8 (show v7 (L3.map D.da,some (s4.length,L3.map D.da)) s5 from ha4)]
 have fd5:Fd s5 0 (c+2):=(((fd1.ext x1).ext x2).ext x3).ext x4
 refine aep (RwJ s5 (c+2) m sn ps A0 A2 A3 (some (.ref s4.length)) A6 A7 (some (.lst ns))) (fun r ρ s' J=> ?_) (fun d r ρ s' J=> a09 hN J) (fun ρ s' J=> ?_) _ _ _ ⟨L3,_,_,_,rfl,q3,rfl,fd5,Ext.refl _⟩
 ·obtain⟨ds,u,v,w,_,_,_,_,x⟩:=J
  show s'[s4.length]?=some (.lst (L3.map D.da))
  exact x.get ha4
 ·obtain⟨ds,u,v,w,_,_,rfl,fd6,x⟩:=J
  exact fin s' _ _ _ _ _ fd6
structure NtP (x:ae):Prop where
 ex: ∃(m:Int) (sn ps:List ae),x=.tuple [.int m,.tuple sn,.tuple ps]/\NtX m sn ps
def pnB:FS:=(jf (jq 5 (fLc true [] 1 (fIt (jb 3)) (.nm 0) aac (jh (ja (fC (.da (.int 0))) (ja (jb 0) jc)))))
  (jf (y7 (ab1 (ja (fC (.da (.int 3))) jc)) (.nm 6) hdB) pnS))
structure PnJ (A0 A2:Option D) (Ls:List ae) (r:List D) (ρ:En) (s:S):Prop where
 ex: ∃(ds:List ae) (c:Nat) (u4 u5 u6 u7 u8 u9 u10 u11:Option D),r=ds.map D.da/\(∀x∈ds,NtP x)/\ρ=[A0,some (.ref 0),A2,some (.lst Ls),u4,u5,u6,u7,u8,u9,u10,u11]/\Fd s 0 c/\c+100*r.length <=40000
theorem ayr{A0 A2:Option D}{Ls:List ae}{d:D}{Q:Fl -> S -> Prop}(hLs: ∀x∈Ls,NtP x)(lLs:Ls.length <=6)(J:PnJ A0 A2 Ls (d::r) ρ s): ∃ρ1,vj (.nm 4) d ρ=some ρ1/\(pnB ρ1 s).W (flW (PnJ A0 A2 Ls r) Q):=by
 obtain⟨ds,c,u4,u5,u6,u7,u8,u9,u10,u11,er,hd,rfl,fd,hc⟩:=J
 cases ds with
 |nil=> cases er
 | cons x ds=>
  rw [aJ,fG]at er
  obtain⟨rfl,rfl⟩:=er
  simp only [aM,ak]at hc
  obtain⟨m,sn,ps,rfl,hN⟩:=(hd x aC).ex
  have h0:0 < s.length:=fd.lt
  refine⟨[A0,some (.ref 0),A2,some (.lst Ls),some (.da (.tuple [.int m,.tuple sn,.tuple ps])),u5,u6,u7,u8,u9,u10,u11],rfl,?_⟩
  unfold pnB
  walk_at "go"
  rw [vp (ρ0:=[none]) (by rw [ak];lia) rfl]
  rw [show kr (.nm 0) aac (jh (ja (fC (.da (.int 0))) (ja (jb 0) jc))) [none] (Ls.map D.da,none) (Ls.map D.da) s=.ok ((Ls.filter fun _=> true).map fun x=> D.tup [.int 0,x]) s from
   ve (rest:=[]) (fun _=> true) (fun x=> D.tup [.int 0,x]) Ls (fun x hm=> rfl) (fun x hm _=> by
    walk_at "ev")]
  rw [cW.mpr fun _ _=> rfl,show (Ls.map fun x=> D.tup [.int 0,x])=(Ls.map fun x=> fX [.int 0,x]).map D.da by rw [cO];rfl]
  walk_at "go"
  rw [ad8 (by decide) (by decide),show ((3:Int)).toNat=3 from rfl]
  walk_at "go"
  have x1:=Ext.add s [O.lst ((Ls.map fun x=> fX [.int 0,x]).map D.da)]
  refine aa6 (HdJ c s.length m sn ps A0 A2 (some (.lst Ls)) u8 u9 u10 u11) (fun d r ρ s J=> a0f hN (by lia) J) ?_ _ _ _ ⟨Ls.map fun x=> fX [.int 0,x],c,_,_,by simp,by rw [qz,ak];lia,fun y hy=> ?_,rfl,fd.ext x1,by rw [qz];lia,h0⟩
  ·rintro ρ s1 ⟨L,c',u,v,ha,hl,hL,rfl,fd1,hcc,_⟩
   simp only [eF,md,Nat.mul_zero]at hl hcc
   walk_at "go"
   refine a6z (R':=PnJ A0 A2 Ls) hN (by lia) ha hl hL fd1 h0 fun s' u5 u8 u9 u10 u11 fd'=> ?_
   exact⟨ds,c'+2,_,_,_,_,_,_,_,_,rfl,fun y hy=> hd y (aB _ hy),rfl,fd',by rw [ak];lia⟩
  ·obtain⟨z,hz,rfl⟩:=bg.mp hy
   obtain⟨j,sm,qs,rfl,h2⟩:=(hLs z hz).ex
   exact a36 hN h2
theorem axy: ∀k:Nat,k <=4 -> dr k <=3200/\bb k <=41600:=by decide
theorem ayg{e:ae}(hk:k <=4)(h:Sm (3*k+2) (bb k) e)(sh:Shp e):NtP e:=by
 obtain⟨m,sn,ps,rfl,l,a,b⟩:=sh.ex
 have:=(axy k hk).2
 exact⟨m,sn,ps,rfl,h.mono (by lia) (by lia),l,a,b⟩
structure NeJ (r acc:List D) (s':S):Prop where
 ex: ∃(L:List ae) (c':Nat),acc=L.map D.da/\(∀x∈L,NtP x)/\L.length+r.length=3/\Fd s' 0 c'/\c'+4000*r.length <=12001
theorem a65:Blaw=(jf (jq 1 (jd 1 zo (ja (jb 0) jc)))
  (jf (jq 2 (fOp (jv false) (fC (.da (.int 1))) (jd 2 jj (ja (jb 1) (ja (fC (.da (.int 3))) jc)))))
  (jf (jq 3 (fLc false [1,2] 1 (ab1 (ja (fC (.da (.int 3))) jc)) (.nm 0) aac (jd 4 (qh 8) (ja (jb 1) (ja (fOp (jv false) (fC (.da (.int 1))) (jd 2 jj (ja (jb 1) (ja (fC (.da (.int 4))) jc)))) (ja (jb 2) (ja (jd 2 jj (ja (jb 1) (ja (fC (.da (.int 4))) jc))) jc)))))))
  (jf (jq 3 (fOp (jv false) (jb 3) (ku false (ja (jd 4 (qh 8) (ja (jb 1) (ja (fC (.da (.int 1))) (ja (fOp (jv false) (fC (.da (.int 1))) (jd 2 jj (ja (jb 1) (ja (fC (.da (.int 3))) jc)))) (ja (fC (.da (.int 2))) jc))))) (ja (jd 2 xm (ja (jb 1) (ja (jb 2) jc))) (ja (jd 2 xm (ja (jb 1) (ja (jb 2) jc))) jc))))))
  (jf (y7 (fIt (jb 3)) (.nm 4) pnB)
  (ji (fC (.da (.bool true))))))))):=rfl
theorem aup(ns:List Int):(axl [.frz (ns.map aE)] []).W fun d _=> d=.bl true:=by
 rw [a8l,a65]
 walk_at "go"
 refine R.W_mono (a03 ns) fun d s1 q=> ?_
 obtain⟨rfl,fd⟩:=q
 walk_at "go"
 generalize (some (D.frz (ns.map aE)))=A0
 refine R.W_mono (kv fd (by decide) (by decide) (by decide)) ?_
 rintro _ s2 ⟨i,rfl,i0,i1,fd2,sm2⟩
 walk_at "go"
 rw [ad8 (by decide) (by decide),show ((3:Int)).toNat=3 from rfl]
 walk_at "go"
 rw [vp (ρ0:=[none,some (.ref 0),some (.int (1+i))]) (by rw [qz];lia) rfl,R.W_bindk]
 refine R.W_mono (adj (Q:=fun xs s'=> ∃L:List ae,xs=L.map D.da/\(∀x∈L,NtP x)/\L.length=3/\Fd s' 0 12001) NeJ ?_ ?_ _ [] s2 ⟨[],1,rfl,(fun _ h=> by cases h),by rw [qz];rfl,fd2,by rw [qz];decide⟩) ?_
 ·rintro d' r acc s' ⟨L,c',rfl,hL,hlen,fd',hcc⟩
  simp only [aM]at hlen hcc
  refine⟨[some d',some (.ref 0),some (.int (1+i))],rfl,?_⟩
  walk_at "go"
  refine R.W_mono (kv fd' (by decide) (by decide) (by lia)) ?_
  rintro _ s3 ⟨j,rfl,j0,j1,fd3,sm3⟩
  obtain⟨k,rfl⟩: ∃q:Nat,j=(q:Int):=⟨j.toNat,by lia⟩
  walk_at "go"
  refine R.W_mono (kv fd3 (by decide) (by decide) (by lia)) ?_
  rintro _ s5 ⟨j,rfl,t0,t1,fd5,sm5⟩
  obtain⟨t,rfl⟩: ∃q:Nat,j=(q:Int):=⟨j.toNat,by lia⟩
  walk_at "go"
  have dk:=axy (k+1) (by lia)
  rw [show ((1:Int)+(k:Int))=((k+1:Nat):Int) by lia]
  refine (aj5 k 8 (by lia) s5 0 (c'+1+1) (1+i) t fd5 (by lia) (by lia) (by lia) (by lia)).mono ?_
  rintro _ s6 ⟨N,rfl,hN,hsh,fd6,sm6⟩
  refine⟨L++ [N],c'+1+1+dr (k+1),by simp,?_,by simp;lia,fd6,by lia⟩
  intro z hz
  rcases bq.mp hz with q|q
  ·exact hL z q
  ·rw [aY.mp q];exact ayg (by lia) hN hsh
 ·rintro acc s' ⟨L,c',rfl,hL,hlen,fd',hcc⟩
  exact⟨L,rfl,hL,by simpa using hlen,fd'.le (by simp at hcc;lia)⟩
 ·rintro xs s3 ⟨L,e,hL,hlen,fd3⟩
  rw [cV]at e
  subst e
  walk_at "go"
  refine R.W_mono (kv fd3 (by decide) (by decide) (by decide)) ?_
  rintro _ s4 ⟨j,rfl,j0,j1,fd4,sm4⟩
  walk_at "go"
  refine (aj5 0 8 (by decide) s4 0 (12001+1) (1+j) 2 fd4 (by lia) (by lia) (by decide) (by decide)).mono ?_
  rintro _ s5 ⟨N,rfl,hN,hsh,fd5,sm5⟩
  walk_at "go"
  refine R.W_mono (aoy fd5 (by lia) (by lia) (by decide)) ?_
  rintro _ s6 ⟨sa,pa,rfl,ha,fd6,sm6⟩
  walk_at "go"
  refine R.W_mono (aoy fd6 (by lia) (by lia) (by decide)) ?_
  rintro _ s7 ⟨sb,pb,rfl,hb,fd7,sm7⟩
  walk_at "go"
  rw [aa4 (by simp;lia)]
  walk_at "go"
  have hA: ∀x∈L++ [N,.tuple [.int (1+i),.tuple sa,.tuple pa],.tuple [.int (1+i),.tuple sb,.tuple pb]],NtP x:=by
   intro z hz
   rcases bq.mp hz with q|q
   ·exact hL z q
   ·exact aii (P:=NtP) (ayg (k:=1) (by decide) hN hsh) ⟨_,_,_,rfl,ha⟩ ⟨_,_,_,rfl,hb⟩ z q
  refine aa6 (PnJ A0 (some (.int (1+i))) (L++ [N,.tuple [.int (1+i),.tuple sa,.tuple pa],.tuple [.int (1+i),.tuple sb,.tuple pb]])) (fun d r ρ s J=> ayr hA (by simp;lia) J) ?_ _ _ _ ⟨_,_,_,_,_,_,_,_,_,_,rfl,hA,rfl,fd7,?_⟩
  ·rintro ρ s8 ⟨ds,c,u4,u5,u6,u7,u8,u9,u10,u11,_,_,rfl,_,_⟩
   walk_at "go"
  ·rw [ak,aX,hlen]
   show 12001+1+dr (0+1)+2+2+100*(3+3) <=40000
   decide
end Ln
namespace PF
open PySem PySem.Spec
open L2 EX
structure XC (K:aj) (C:Str) (Ca f:Addr) (bm:List af) (fl:List Str):Prop where
 at_:bd K aP C=some (some (.ref Ca))
 lk: ∃nm q N bs sn sub ab col dd k0 k1 k2 k3 k5,K.lookup Ca=some (eM nm q Ca N bs bm true sn sub ab col dd k0 k1 k2 k3 k5 "ValueError.__new__")
 cl:ClsX K Ca
 mkx:MkX K Ca f
 cm:ClsM K Ca "__init__" f
 na: ∀g∈fl,yi K Ca g
inductive XCs (K:aj) (bm:List af) (fl:List Str):List (Str×Addr) -> Prop
 |nil:XCs K bm fl []
 |cons {C:Str} {Ca f:Addr} {l:List (Str×Addr)}:XC K C Ca f bm fl -> XCs K bm fl l -> XCs K bm fl ((C,Ca)::l)
section
variable{K:aj}{mg:Str -> Option af}{b:Str}{M:Addr}{L:List (Str×Addr)}{fl:List Str}{bm:List af}
theorem XCs.mem(x:XCs K bm fl L): ∀{p:Str×Addr},p∈L -> ∃f,XC K p.1 p.2 f bm fl:=by
 induction x with
 |nil=> intro p hp;cases hp
 |cons a _ ih=>
  intro p hp
  rcases aw.mp hp with rfl|hp
  ·exact⟨_,a⟩
  ·exact ih hp
theorem XC.kit{D:Str}{f Da g:Addr}{bm':List af}(x:XC K C Ca f bm fl)(y:XC K D Da g bm' fl):bW K (.ref Ca) (.ref Da)=some ((Da==Ca)||bm.contains (.ref Da)):=by
 obtain⟨nm,q,N,bs,sn,sub,ab,col,dd,k0,k1,k2,k3,k5,e⟩:=x.lk
 obtain⟨nm',q',N',bs',sn',sub',ab',col',dd',l0,l1,l2,l3,l5,e'⟩:=y.lk
 unfold bW
 by_cases z:Ca=Da
 ·subst z
  rw [if_pos (by simp)]
  simp
 ·rw [if_neg (by simpa using z)]
  have h1:((eC K Da).isSome&&iq K (.ref Da)==some (.type "type"))=true:=by
   simp [eC,iq,e']
  have z':(Da==Ca)=false:=beq_eq_false_iff_ne.mpr (cI z)
  unfold ip
  dsimp only
  rw [if_pos h1]
  simp only [iK,iH,eC,e,c0]
  rw [if_neg (by simp),z',bU]
  have:(aD Da==aD Ca)=false:=beq_eq_false_iff_ne.mpr fun q=> z (fz q).symm
  rw [this]
theorem XC.kitV{f:Addr}(x:XC K C Ca f bm fl)(av:Above bm):bW K (.ref Ca) (.type "ValueError")=some true:=by
 obtain⟨nm,q,N,bs,sn,sub,ab,col,dd,k0,k1,k2,k3,k5,e⟩:=x.lk
 unfold bW
 rw [if_neg (by simp)]
 have hk:PySem.W.kitMeta "ValueError"=true:=by decide+kernel
 simp only [ip,hk,if_true,iK,iH,eC,e,c0]
 rw [if_neg (by simp),bU,av.has (T:="ValueError") (b:=true) (by decide+kernel),fS]
theorem at2: ∀{L:List (Str×Addr)},(L.map (·.2)).Nodup -> ∀p∈L,∀q∈L,p.2=q.2 -> p=q
 |[],_,p,hp,_,_,_=> by cases hp
 |a::r,nd,p,hp,q,hq,e=> by
  rw [aJ,dG]at nd
  rcases aw.mp hp with h1|h1 <;> rcases aw.mp hq with h2|h2
  ·rw [h1,h2]
  ·subst h1;exact absurd (bg.mpr ⟨q,h2,e.symm⟩) nd.1
  ·subst h2;exact absurd (bg.mpr ⟨p,h1,e⟩) nd.1
  ·exact at2 nd.2 p h1 q h2 e
theorem a6b{fb:Addr}(G: ∀(C:Str) (Ca:Addr),bd K aP C=some (some (.ref Ca)) -> mg C=some (.ref Ca))(x0:XC K b M fb bmV fl)(x:XCs K (.ref M::bmV) fl L)(nd:(M::L.map (·.2)).Nodup):XT K mg b (L.map (·.1)) fl:=by
 have hv: ∀Da:Addr,bmV.contains (.ref Da)=false:=fun Da=> by simp
 obtain⟨nM,nd⟩:=dG.mp nd
 have inj:=at2 nd
 refine⟨fun C hC=> ?_⟩
 rcases aw.mp hC with rfl|hC
 ·refine⟨M,x0.at_,G _ _ x0.at_,x0.cl,x0.na,x0.kitV .base,fun D hD Da hDa=> ?_⟩
  rcases aw.mp hD with rfl|hD
  ·have e:=x0.at_.symm.trans hDa;cases e
   rw [x0.kit x0,hv];simp
  ·obtain⟨q,hq,rfl⟩:=bg.mp hD
   obtain⟨g,y⟩:=x.mem hq
   have e:=y.at_.symm.trans hDa;cases e
   have ne:q.2≠M:=fun z=> nM (z▸bg.mpr ⟨q,hq,rfl⟩)
   have ne2:q.1≠C:=fun z=> by
    have:=y.at_
    rw [z,x0.at_]at this
    injection this with this;injection this with this
    exact ne (fz this).symm
   rw [x0.kit y,hv,beq_eq_false_iff_ne.mpr ne,beq_eq_false_iff_ne.mpr ne2]
 ·obtain⟨p,hp,rfl⟩:=bg.mp hC
  obtain⟨f,xp⟩:=x.mem hp
  have neM:p.2≠M:=fun z=> nM (z▸bg.mpr ⟨p,hp,rfl⟩)
  refine⟨p.2,xp.at_,G _ _ xp.at_,xp.cl,xp.na,xp.kitV (.own M .base),fun D hD Da hDa=> ?_⟩
  rcases aw.mp hD with rfl|hD
  ·have e:=x0.at_.symm.trans hDa;cases e
   rw [xp.kit x0];simp
  ·obtain⟨q,hq,rfl⟩:=bg.mp hD
   obtain⟨g,y⟩:=x.mem hq
   have e:=y.at_.symm.trans hDa;cases e
   have ne:q.2≠M:=fun z=> nM (z▸bg.mpr ⟨q,hq,rfl⟩)
   have ne2:q.1≠b:=fun z=> by
    have:=y.at_
    rw [z,x0.at_]at this
    injection this with this;injection this with this
    exact ne (fz this).symm
   rw [xp.kit y,bU,hv]
   by_cases z:q.2=p.2
   ·have:=inj q hq p hp z
    subst this
    simp
   ·have z2:q.1≠p.1:=fun w=> by
     have:=y.at_
     rw [w,xp.at_]at this
     injection this with this;injection this with this
     exact z (fz this).symm
    have e3:(aD q.2==aD M)=false:=beq_eq_false_iff_ne.mpr fun w=> ne (fz w)
    rw [e3,beq_eq_false_iff_ne.mpr z,beq_eq_false_iff_ne.mpr z2,beq_eq_false_iff_ne.mpr ne2];rfl
theorem aie{ps:List Str}{f:Addr}{an:Option Addr}{sl:Array (Option af)}{oc kV dc pm cd ct:af}(G: ∀(C:Str) (Ca:Addr),bd K aP C=some (some (.ref Ca)) -> mg C=some (.ref Ca))(x:XC K C Ca f bm fl)(l:K.lookup f=some ⟨oc,od,.func (cL "__init__" q (xw st) (vg st) (je st) .none kV dc pm an cd ct),sl⟩)(c:eP K cd q=true)(b: ∀(kV doc pm:af) (an:Option Addr) (cdv ct:af) (us:List af),us.length=ps.length -> bindArgs (cL "__init__" q (xw st) (vg st) (je st) .none kV doc pm an cdv ct) ⟨us,[]⟩=pure (ps.zip us)):HasX K mg C q st ps:=
 ⟨Ca,f,_,x.at_,G _ _ x.at_,x.mkx,x.cm,aex (st:=st) l c x.cm.kp,(aex (st:=st) l c x.cm.kp).binds b⟩
end
end PF
namespace Ln
open PySem L2 PF
def BN(x q:Str)(st:Stmt)(ps:List Str)(us:List af):Prop:= ∀(kV doc pm:af) (an:Option Addr) (cdv ct:af),bindArgs (cL x q (xw st) (vg st) (je st) .none kV doc pm an cdv ct) ⟨us,[]⟩=pure (ps.zip us)
theorem bd1{x:Str}{p0:Str}(h: ∀a0,BN x q st [p0] [a0]): ∀us,us.length=1 -> BN x q st [p0] us|[a0],_=> h a0
theorem bd2{x:Str}{p0 p1:Str}(h: ∀a0 a1,BN x q st [p0,p1] [a0,a1]): ∀us,us.length=2 -> BN x q st [p0,p1] us|[a0,a1],_=> h a0 a1
theorem bd3{x:Str}{p0 p1 p2:Str}(h: ∀a0 a1 a2,BN x q st [p0,p1,p2] [a0,a1,a2]): ∀us,us.length=3 -> BN x q st [p0,p1,p2] us|[a0,a1,a2],_=> h a0 a1 a2
theorem bd4{x:Str}{p0 p1 p2 p3:Str}(h: ∀a0 a1 a2 a3,BN x q st [p0,p1,p2,p3] [a0,a1,a2,a3]): ∀us,us.length=4 -> BN x q st [p0,p1,p2,p3] us|[a0,a1,a2,a3],_=> h a0 a1 a2 a3
theorem a4f(X:K.In h)(G:h.Ns aP mg){x:Str}{ps:List Str}{f:Addr}{an:Option Addr}{sl:Array (Option af)}{oc kV dc pm cd ct:af}(a:bd K aP x=some (some (.ref f)))(l:K.lookup f=some ⟨oc,od,.func (cL x x (xw st) (vg st) (je st) .none kV dc pm an cd ct),sl⟩)(c:eP K cd x=true)(k:cR K (.ref f)=true)(b: ∀us,us.length=ps.length -> BN x x st ps us):Has K mg x st ps:=
 ⟨f,_,aex (st:=st) l c k,cb X G a,(aex (st:=st) l c k).binds fun kV doc pm an cdv ct us hl=> b us hl kV doc pm an cdv ct⟩
theorem au2(X:K.In h)(G:h.Ns aP mg){x:Str}{g:Addr}{its:Array af}{sl:Array (Option af)}(a:bd K aP x=some (some (.ref g)))(l:K.lookup g=some ⟨.type "tuple",od,.seq its n,sl⟩)(hz:its.size <=1000)(hv:jo vs its.toList):apf K mg x vs:=
 ⟨g,cb X G a,fun H=>.inr ⟨_,its,n,l,rfl,rfl,fN (ajy hz),hv⟩⟩
theorem a20{f N:Addr}{bm bs sub:List af}{nm:Str}{sn:List Str}{ab:Bool}{col:Option Bool}{dd:Option Addr}{k0 k1 k2 k3 k5:Option af}(a:bd K aP C=some (some (.ref Ca)))(l:K.lookup Ca=some (eM nm q Ca N bs bm true sn sub ab col dd k0 k1 k2 k3 k5 "ValueError.__new__"))(av:EX.Above bm)(ga:cn K (.ref Ca) "__getattribute__"=some (some (.builtin "BaseException.__getattribute__")))(gt:cn K (.ref Ca) "__getattr__"=some none)(sa:cn K (.ref Ca) "__setattr__"=some (some (.builtin "object.__setattr__")))(ca:cn K (.ref Ca) "__class__"=some (some (.builtin "object.__class__")))(cg:eN K (.builtin "object.__class__") "__get__"=some (some (.builtin "getset_descriptor.__get__")))(ct:jR K (.builtin "object.__class__")=some true)(i:cn K (.ref Ca) "__init__"=some (some (.ref f)))(n:PySem.W.isFn K (.ref f)=true)(k:cR K (.ref Ca)=true)(r:PySem.W.readsIn K Ca (.type "type")=true)(m:jZ K (.ref Ca) (.type "type") "__init__"=some (.val (.ref f)))(sg:eN K (.ref Ca) "__getattribute__"=some (some (.builtin "type.__getattribute__")))(kf:cR K (.ref f)=true)(na: ∀g∈fl,yi K Ca g):XC K C Ca f bm fl:=
 have cl:ClsX K Ca:=⟨⟨⟨nm,q,N,bs,bm,sn,sub,ab,col,dd,k0,k1,k2,k3,k5,l,av⟩,ga,gt,sa⟩,ca,cg,ct⟩
 ⟨a,⟨nm,q,N,bs,sn,sub,ab,col,dd,k0,k1,k2,k3,k5,l⟩,cl,⟨cl,i,n,k⟩,⟨r,m,sg,kf⟩,na⟩
theorem a1i: ∀f∈([]:List Str),yi K Ca f:=fun f h=> by cases h
theorem avj{g:Str}(h:cn K (.ref Ca) g=some none)(t: ∀f∈fl,yi K Ca f): ∀f∈g::fl,yi K Ca f:=fun f hf=> by
 rcases aw.mp hf with rfl|hf
 ·exact h
 ·exact t f hf
theorem a3m{l:jS}{fa f:Addr}{an:Option Addr}{sl:Array (Option af)}{oc kV dc pm cd ct:af}(X:K.In h)(G:h.Ns aP mg)(hfa:mg "law"=some (.ref fa))(a:bd K aP "law"=some (some (.ref f)))(l0:K.lookup f=some ⟨oc,od,.func (cL "law" "law" (xw aaf) (vg aaf) (je aaf) .none kV dc pm an cd ct),sl⟩)(c:eP K cd "law"=true)(k:cR K (.ref f)=true)(T:Txt0 K mg):
  ∃fd:d5,(∀(s:ai) (v:af),kM s fd ⟨[v],[]⟩ [("_law_script",v)])/\ ∀base:Heap,K.In base -> base.Ns aP mg -> FnOk l.prog w K mg base CX0 22 fa fd ["_law_script"] (ahd K):=by
 have e:=hfa.symm.trans (cb X G a)
 cases e
 exact⟨cL "law" "law" (xw aaf) (vg aaf) (je aaf) .none kV dc pm an cd ct,fun s v=>.of_eq rfl,fun base _ _=> a47 (a77 (aex (st:=aaf) l0 c k) T) fun ns _=> aup ns⟩
theorem walk{l:jS}{q:aQ}{loose:List Str}{XP:(Str -> Option af) -> Heap -> Prop}{YP:aU -> Heap -> Prop}{d:DefRec}{K:Params -> aj}(hn:l.most=some 63)(hdf:d.params.defaults=[])
  (hY: ∀(w:aU) (h:Heap),YP w h -> (K w.params).In h)
  (F: ∀(w:aU) (mg:Str -> Option af) (fa:Addr) (h:Heap),(K w.params).In h -> h.Ns aP mg -> mg d.name=some (.ref fa) ->
   ∃fd:d5,(∀(s:ai) (u:af),kM s fd ⟨[u],[]⟩ [("_law_script",u)])/\ ∀base:Heap,(K w.params).In base -> base.Ns aP mg -> FnOk l.prog w (K w.params) mg base CX0 22 fa fd ["_law_script"] (ahd (K w.params))):
  PySem.W.WalkO q loose XP YP l.row.toRowW d [] (fun f vs=> PySem.call f vs):=
 L2.a13 (n:=63) (k:=22) (x:="_law_script") (CX:=fun _=> CX0) (sp:=fun w=> ahd (K w.params)) hn (by decide) hdf ⟨rfl,by decide,by decide,rfl⟩ hY F (fun _ _ a ns hl _ hS=> ⟨a,ns,rfl,hS,hl,fun _=> rfl⟩) fun _ _ _ _ _ z=> z
end Ln
open PySem PySem.W PyProof.Rows
local macro_rules | `(tactic| walk_at "hm") => do
 let X := bO `KX
 let G := bO `G
 `(tactic| refine Ln.a4f $X $G (by k_is) (by k_is) (by k_is) (by k_is) ?_)
local macro_rules | `(tactic| walk_at "xc") => `(tactic| exact Ln.a20 (by k_is) (by k_is) (by first | exact .base | exact .own _ .base) (by k_is) (by k_is) (by k_is) (by k_is) (by k_is) (by k_is) (by k_is) (by k_is) (by k_is) (by k_is) (by k_is) (by k_is) (by k_is) (by repeat first | exact Ln.a1i | refine Ln.avj (by k_is) ?_))
namespace PySem.W.Fast
def tw2480741040231085568:=()
def tw4381019954645493153:=()
def tw2298422135318131544:=()
def tw12851890694228247964:=()
def tw14800577307081041899:=()
def tw7510902205197515876:=()
def tw10597170336404862627:=()
def tw7275853381869791223:=()
def tw11618940083261297559:=()
def tw2787824730318024922:=()
def tw15048545373923402499:=()
def tw16790855166862460601:=()
def tw827880340767934083:=()
def tw17499468688236781300:=()
def tw2320530182832505091:=()
def tw15940154476359749376:=()
def tw9960558094530085137:=()
def tw5815965214293665281:=()
def tw3659053570176241553:=()
def tw13380188074070717462:=()
def tw4550223162677112021:=()
def tw5620425530418908836:=()
def tw1292119810729396446:=()
def tw17202014605223715440:=()
def tw14714752325755301745:=()
def tw13621155057078920469:=()
def tw10069742616314693860:=()
def tw8455005484148164408:=()
def tw12870104268246204615:=()
def tw7346829896525157645:=()
def tw3438958689414428355:=()
def tw345536218820825092:=()
def tw3253879457154732870:=()
def tw6005394920177679912:=()
def tw5448353777501786616:=()
def tw9992733265379801337:=()
def tw4196005111322757141:=()
def tw14024230262401205669:=()
def tw18122276414771367685:=()
def tw7128115401326336093:=()
def tw13516157487703075385:=()
def tw12698011637902368063:=()
def tw7094334676269364440:=()
def tw12292351455142696076:=()
def tw15294987084395946087:=()
def tw6860975695309798425:=()
def tw17843511641864044574:=()
def tw14168313730947640787:=()
def tw10182558058182563142:=()
def tw12242280763634719821:=()
def tw10940811815831711479:=()
def tw10560897392190571751:=()
def tw14190676375152530672:=()
def tw11756264697859625022:=()
def tw12314354869075965285:=()
def tw11759635428370443969:=()
def tw17510942772766275687:=()
def tw8630440131573075585:=()
def tw15677504403079960465:=()
def tw10971888441347017591:=()
def tw16509190624517410577:=()
def tw14425925038664499980:=()
def tw1181571289193665022:=()
def tw8438083353636382867:=()
def tw9670387408669180792:=()
def tw5013971121991601276:=()
def tw17182340445386774007:=()
def tw12509051290748341058:=()
def tw1157357729169447201:=()
def tw7079030636753984062:=()
def tw17104220940272251915:=()
def tw1910354122879856865:=()
def tw8937340875791942819:=()
def tw18349849585558232424:=()
def tw17834011875353470466:=()
def tw8969578036725068201:=()
def tw3393108057395524995:=()
def tw8862145826500227934:=()
def tw3866658231750077230:=()
def tw12706026717595268202:=()
def tw7577756445358397896:=()
def tw13858364060052694888:=()
def tw1019015603603803627:=()
def tw9344854694568116345:=()
def tw3644334064714266545:=()
def tw6691089927627628528:=()
def tw7469106805221555404:=()
def tw715643280640676608:=()
def tw16389487972073734993:=()
def tw4770442248376531939:=()
def tw442034241207918627:=()
def tw16114603669392105539:=()
def tw5333116877516360114:=()
def tw3721523285816132445:=()
def tw2199466207818442155:=()
def tw17704495334936677404:=()
def tw6623103831191970628:=()
def tw7473320381000232074:=()
def tw17155379514354817217:=()
def tw9696773690222240156:=()
def tw9177673003001332841:=()
def tw1598459835669575306:=()
def tw3409286863597455057:=()
def tw3733183451428696746:=()
def tw13156947294842028381:=()
def tw10942899464081667147:=()
def tw11713862701179374306:=()
def tw1233765396295761021:=()
def tw3147215925737023963:=()
def tw16887095189435291142:=()
def tw6823845789391860873:=()
def tw1504543132576952460:=()
def tw15196347166878227209:=()
def tw6525783524166042099:=()
def tw17944363186725791090:=()
def tw2692515762647400326:=()
def tw9135784338039653700:=()
def tw11871171454475720069:=()
def tw13199983610404576237:=()
def tw2696880093622670744:=()
def tw13459379392623531362:=()
def tw2493728235206402350:=()
def tw12952277810413381129:=()
end PySem.W.Fast
set_option maxRecDepth 100000 in
set_option maxHeartbeats 0 in
theorem PySem.Challenge.cw_mannerports_k17_nets_put_together_holds : PySem.Challenge.rw_mannerports_k17_nets_put_together.Holds := by
 w_on;o_law;k_head;(case hw=> w_witness2)
 k_fill
 refine Ln.walk (l:=dL) rfl rfl (fun w h Y=> PySem.W.kIn_of Y) ?F
 case F=>
  intro w mg fa h KX G hmg
  refine Ln.a3m KX G hmg (by k_is) (by k_is) (by k_is) (by k_is) ?_
  constructor
  ·exact PF.a6b (L:=[("NoNet",_),("NoText",_),("NoMoment",_),("TooMany",_),("NoJoin",_),("NoAlike",_)]) (fun C Ca e=> cb KX G e) (by walk_at "xc") (.cons (by walk_at "xc") (.cons (by walk_at "xc") (.cons (by walk_at "xc") (.cons (by walk_at "xc") (.cons (by walk_at "xc") (.cons (by walk_at "xc") .nil)))))) (by decide)
  ·refine PF.aie (fun C Ca e=> cb KX G e) (by walk_at "xc") (by k_is) (by k_is) ?_;exact fun kV doc pm an cdv ct us hl=> Ln.bd2 (fun _ _ _ _ _ _ _ _=> rfl) us hl kV doc pm an cdv ct
  ·refine PF.aie (fun C Ca e=> cb KX G e) (by walk_at "xc") (by k_is) (by k_is) ?_;exact fun kV doc pm an cdv ct us hl=> Ln.bd3 (fun _ _ _ _ _ _ _ _ _=> rfl) us hl kV doc pm an cdv ct
  ·refine PF.aie (fun C Ca e=> cb KX G e) (by walk_at "xc") (by k_is) (by k_is) ?_;exact fun kV doc pm an cdv ct us hl=> Ln.bd2 (fun _ _ _ _ _ _ _ _=> rfl) us hl kV doc pm an cdv ct
  ·walk_at "hm";exact Ln.bd2 fun _ _ _ _ _ _ _ _=> rfl
  ·walk_at "hm";exact Ln.bd2 fun _ _ _ _ _ _ _ _=> rfl
  ·walk_at "hm";exact Ln.bd1 fun _ _ _ _ _ _ _=> rfl
  ·walk_at "hm";exact Ln.bd2 fun _ _ _ _ _ _ _ _=> rfl
  ·walk_at "hm";exact Ln.bd1 fun _ _ _ _ _ _ _=> rfl
  ·walk_at "hm";exact Ln.bd1 fun _ _ _ _ _ _ _=> rfl
  ·walk_at "hm";exact Ln.bd1 fun _ _ _ _ _ _ _=> rfl
  ·walk_at "hm";exact Ln.bd1 fun _ _ _ _ _ _ _=> rfl
  ·walk_at "hm";exact Ln.bd1 fun _ _ _ _ _ _ _=> rfl
  ·walk_at "hm";exact Ln.bd1 fun _ _ _ _ _ _ _=> rfl
  ·walk_at "hm";exact Ln.bd1 fun _ _ _ _ _ _ _=> rfl
  ·walk_at "hm";exact Ln.bd2 fun _ _ _ _ _ _ _ _=> rfl
  ·walk_at "hm";exact Ln.bd2 fun _ _ _ _ _ _ _ _=> rfl
  ·walk_at "hm";exact Ln.bd2 fun _ _ _ _ _ _ _ _=> rfl
  ·walk_at "hm";exact Ln.bd2 fun _ _ _ _ _ _ _ _=> rfl
  ·walk_at "hm";exact Ln.bd2 fun _ _ _ _ _ _ _ _=> rfl
  ·walk_at "hm";exact Ln.bd1 fun _ _ _ _ _ _ _=> rfl
  ·walk_at "hm";exact Ln.bd2 fun _ _ _ _ _ _ _ _=> rfl
  ·walk_at "hm";exact Ln.bd2 fun _ _ _ _ _ _ _ _=> rfl
  ·walk_at "hm";exact Ln.bd3 fun _ _ _ _ _ _ _ _ _=> rfl
  ·walk_at "hm";exact Ln.bd1 fun _ _ _ _ _ _ _=> rfl
  ·walk_at "hm";exact Ln.bd2 fun _ _ _ _ _ _ _ _=> rfl
  ·walk_at "hm";exact Ln.bd2 fun _ _ _ _ _ _ _ _=> rfl
  ·walk_at "hm";exact Ln.bd2 fun _ _ _ _ _ _ _ _=> rfl
  ·walk_at "hm";exact Ln.bd3 fun _ _ _ _ _ _ _ _ _=> rfl
  ·walk_at "hm";exact Ln.bd1 fun _ _ _ _ _ _ _=> rfl
  ·walk_at "hm";exact Ln.bd2 fun _ _ _ _ _ _ _ _=> rfl
  ·walk_at "hm";exact Ln.bd2 fun _ _ _ _ _ _ _ _=> rfl
  ·walk_at "hm";exact Ln.bd2 fun _ _ _ _ _ _ _ _=> rfl
  ·walk_at "hm";exact Ln.bd3 fun _ _ _ _ _ _ _ _ _=> rfl
  ·walk_at "hm";exact Ln.bd4 fun _ _ _ _ _ _ _ _ _ _=> rfl
  ·walk_at "hm";exact Ln.bd1 fun _ _ _ _ _ _ _=> rfl
  ·walk_at "hm";exact Ln.bd1 fun _ _ _ _ _ _ _=> rfl
  ·walk_at "hm";exact Ln.bd1 fun _ _ _ _ _ _ _=> rfl
  ·walk_at "hm";exact Ln.bd2 fun _ _ _ _ _ _ _ _=> rfl
  ·walk_at "hm";exact Ln.bd2 fun _ _ _ _ _ _ _ _=> rfl
  ·walk_at "hm";exact Ln.bd3 fun _ _ _ _ _ _ _ _ _=> rfl
  ·walk_at "hm";exact Ln.bd1 fun _ _ _ _ _ _ _=> rfl
  ·walk_at "hm";exact Ln.bd3 fun _ _ _ _ _ _ _ _ _=> rfl
  ·walk_at "hm";exact Ln.bd3 fun _ _ _ _ _ _ _ _ _=> rfl
  ·walk_at "hm";exact Ln.bd2 fun _ _ _ _ _ _ _ _=> rfl
  ·walk_at "hm";exact Ln.bd1 fun _ _ _ _ _ _ _=> rfl
  ·exact⟨_,cb KX G (by k_is)⟩
  ·exact⟨_,cb KX G (by k_is)⟩
  ·exact⟨_,cb KX G (by k_is)⟩
  ·exact⟨_,cb KX G (by k_is)⟩
  ·exact⟨_,cb KX G (by k_is)⟩
  ·exact⟨_,cb KX G (by k_is)⟩
  ·exact⟨_,cb KX G (by k_is)⟩
  ·exact Ln.au2 KX G (by k_is) (by k_is) (by decide) (.cons ⟨_,rfl⟩ (.cons ⟨_,rfl⟩ (.cons ⟨_,rfl⟩ (.cons ⟨_,rfl⟩ (.nil)))))
  ·exact Ln.au2 KX G (by k_is) (by k_is) (by decide) (.cons ⟨_,rfl⟩ (.cons ⟨_,rfl⟩ (.nil)))
  ·exact a6 KX G (by k_is)
  ·exact a6 KX G (by k_is)
  ·exact a6 KX G (by k_is)
  ·exact a6 KX G (by k_is)
  ·exact a6 KX G (by k_is)
  ·exact a6 KX G (by k_is)
  ·exact a6 KX G (by k_is)
  ·exact a6 KX G (by k_is)
  ·exact a6 KX G (by k_is)
  ·exact a6 KX G (by k_is)
  ·exact a6 KX G (by k_is)
  ·exact a6 KX G (by k_is)
  ·exact a6 KX G (by k_is)
  ·exact a6 KX G (by k_is)
  ·exact a6 KX G (by k_is)
  ·exact a6 KX G (by k_is)
  ·exact a6 KX G (by k_is)
  ·exact a6 KX G (by k_is)
