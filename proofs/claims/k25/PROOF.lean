import PyProof.Rows.All
import Wide.All
import OpenK.AllK
import Wide.FinOn
import Lean
import PyProof.EqAt
import PyProof.EqKinds
import PyProof.TupleCall
import PyProof.NeKinds
import PyProof.Rows.SetFrom
import PyProof.WalksMore
import KE.KDictSum
import PyProof.AttrMissHeap
import PyProof.P3Eq
import PyProof.NeData
import PyProof.ConsumeWalk
import PyProof.ZipIter
import PyProof.Rows.TupAdd
import PyProof.Rows.IntBool
import PyProof.SliceStr2
import PyProof.StrBlockI
import KE.KTab
import KE.KSortAsk
import KE.KSortTup
import PyProof.TupleOfSeq
import PyProof.FString5
import PyProof.StrWalks
import PyProof.CallStr
import PyProof.Conv_int_bool
import PyProof.StrCalls
import PyProof.DictWalks
import PyProof.Rows.TupDisplay
import PyProof.DictTruth
import PyProof.ListMulAny
import PyProof.FactsAll.tuple_2
import PyProof.ListRange
import KE.KxMul
import PyProof.FactsAll.dict_1
import PyProof.FactsAll.subtypes_4
import PyProof.FactsAll.subtypes_3
import PyProof.FactsAll.tuple_0
import PySem.SetTable
import PyProof.SetScanFacts
import PyProof.SetKind
import PyProof.FactsAll.str_1
import PyProof.FactsAll.list_3
import PySem.Challenge.RW_mannerports_k25_what_is_a_machine
import PyProof.Rows.StrCase
import PyProof.Rows.StrFit
import PyProof.Rows.ReprOcc
import KE.KTabLook
set_option Elab.async false
set_option linter.all false
set_option bootstrap.genMatcherCode false
set_option genSizeOfSpec false
set_option maxRecDepth 100000
set_option maxHeartbeats 4000001
variable{xs:List lC}{x:gE}{a b:eX}{A:lD}{E:dC -> eR -> Prop}{s:eR}{h h':PySem.Heap}{P:kW}{w:lR}{t' i:Nat}{ch:List eX}{e tg:iK}{M:PySem.Model}{u:dC}{Q:Unit -> eR -> Prop}{pos:PySem.Pos}{pins:List (eX×lE)}{K:aw}
noncomputable section
open PySem renaming PyData -> aa,wpAny_bind -> ae,Value -> af,wpAny_pure -> aj,Shared -> ak,compareOp -> aY,Around -> bm,SetTable -> bt,World -> bw,Program -> bz,wpAny_holding -> bB,wpAny_mono -> bE,bootBuiltins -> bM,foldedSetIterable -> bU,strKind -> bV,assignEach -> b6,mainGlobals -> b7,wpAny_field -> b9,ReadsAll -> cc,wpAny_truthy_bool -> ck,Reads -> cq,wpAny_callSpecial?_slot -> cD,wpAny_call_entry -> cE,wpAny_seqItems -> cI,sizeLine_eq -> cR,wpAny_newObj_type -> cT,mem_of_lookup -> cZ,scanBound -> c5,wpAny_rule -> c9,wpAny_standAt -> du,wpAny_forIn_list -> dz,Value -> dC,codeAny_mono -> dG,wpAny_setField_rec -> dI,wpAny_specialOf -> dL,Scope -> dM,letOwnedTupleGo -> dN,codeAny_builtin -> dO,wpAny_setState_of -> dT,wpAny_pyIter_list -> dU,ofAClassStatement -> dY,Builtin -> d9,wpAny_loadPart' -> eK,NameKind -> eN,Shared -> eR,wpAny_typeOf -> eT,Addr -> eX,wpAny_callSpecialIfBoundUnlessNone?_slot -> eZ,call_meets -> fh,behindInMarks -> fq,attributeBase -> fx,sliceBounds -> fA,wpAny_passesOwn -> fD,swapsWith -> fJ,FuncData -> fK,wpAny_comprehension_free -> fO,wpAny_pyIter_tuple -> fP,IsPair -> fU,sysModules -> fZ,typeIs_str -> f7,wpAny_storeSet_of -> gh,not_mem_of_deeper -> gk,IsPart -> gm,slicePicked -> gp,richCompare -> gt,Str -> gE,DictEntry -> gI,codeAny_of_tree -> gO,wpAny_updateSeq_pair -> gR,callSpecialIfBoundUnlessNone? -> gZ,Keyword -> hV,wpAny_runValue -> hZ,typeIs_none -> ia,IsZip -> ic,wpAny_Call_Name_kw -> ie,wpAny_onRaise -> iw,eqIsQuiet_byValue -> iA,wpAny_assign_Name -> iC,wpAny_sequenceKey -> iD,searchCouldBeSeen -> iI,Expr -> iK,GenState -> iQ,noFill_tuple_add -> iU,setAddHashed -> iV,wpAny_execs_nil -> i9,theTreesLotGoes -> jC,wpAny_pyNext_list_item -> jI,keywordEach -> jM,wpAny_Call_method_late -> jN,codeAny_compStart_list -> jO,wpAny_of_eq -> jP,richCompare_meets_room -> jS,wpAny_pyNext_list_end -> jU,Result -> jV,BindsTo -> jW,exec_Assign_Name_used -> jX,weight_type_call_type -> jZ,call_repr_slot -> kD,wpAny_newFunctionEnv -> kJ,codeAny_call_builtin -> kK,noKeywords -> kM,Program -> kW,swapsWithSole -> kX,swappedStores -> kY,seq_tuple_add -> kZ,evalPart_none -> lg,plainId_quiet -> lm,PyData -> lC,Around -> lD,Obj -> lE,lastMarks -> lF,concat_meets -> lG,seqIndex_neg -> lH,codeAny_loop -> lI,noteFrame -> lJ,Moved -> lP,World -> lR,seqIndex_of -> lT,wpAny_noted -> lV,wpAny_letGo -> lX,hashByValue -> lY
open PySem.PyData renaming str -> ag,depthAll -> ar,depth -> aA,bulkAll -> aB,eqv -> aE,int -> aI,tuple -> aK,canLayAll0 -> aS,bool -> aV,bulk -> bc,shown -> cj,shownAll -> cr,showable -> cY,canLay0 -> c7,eqvAll -> dt,leavesShort -> eJ,showableAll -> eL,list -> fB,leavesShortAll -> kF
open Bool renaming and_eq_true -> am,false_ne_true -> aF,eq_iff_iff -> bi,false_eq_true -> bn,and_self -> cp,false_and -> cJ,and_false -> dB,not_eq_true -> em,not_true -> fk,not_false -> kE,true_and -> lv
open List renaming all_eq_true -> ao,length_map -> au,getElem?_eq_getElem -> av,mem_cons_self -> ax,mem_cons -> ay,mem_cons_of_mem -> az,getElem?_eq_some_iff -> aC,size_toArray -> aH,mem_append -> aL,map_cons -> aN,mem_singleton -> aO,length_cons -> aP,mem_map -> aR,map_map -> aU,not_mem_nil -> aX,range -> aZ,getElem?_append_right -> a8,getElem?_map -> a9,getElem?_append_left -> bd,mem_append_right -> bf,filter_eq_self -> bh,length_append -> bj,getElem?_set_ne -> bq,length_take -> br,mem_of_getElem? -> bA,mem_filter -> bC,mem_range -> bD,replicate -> bH,getElem?_set_self -> bI,getD_eq_getElem?_getD -> bK,append_nil -> bP,getElem_mem -> bR,append_assoc -> bW,pairwise_cons -> bZ,all_cons -> cb,mem_of_mem_drop -> cu,drop_eq_nil_of_le -> cv,drop_eq_getElem_cons -> cw,getElem?_eq_none -> cz,map -> cA,all_map -> cB,mem_of_mem_take -> cF,nil_append -> cN,mem_filterMap -> cO,foldl_cons -> cW,getElem?_eq_none_iff -> c8,nodup_cons -> df,ext_getElem? -> dj,reverse_cons -> dm,getElem?_replicate -> dv,getElem?_range -> dw,length_nil -> dP,take_append_drop -> dQ,pairwise_map -> dW,length_range -> dX,getElem?_of_mem -> d8,getElem?_take_of_lt -> ee,length_drop -> ef,sublist_append_left -> eA,filterMap_cons -> eB,pairwise_singleton -> eE,filter_cons_of_neg -> eF,filter_cons_of_pos -> eG,take_of_length_le -> eO,length_singleton -> eU,toArray -> eV,mem_append_left -> ff,of_mem_zip -> fE,length_filterMap_le -> fR,zip_cons_cons -> fS,filterMap_cons_some -> fX,filterMap_cons_none -> fY,getElem?_cons_succ -> gf,any_eq_false -> gg,nodup_append -> gi,mapM_toArray -> gj,any_cons -> gw,cons_append -> gx,mem_flatMap -> gB,mem_reverse -> gC,length_replicate -> gG,mem_iff_getElem? -> gJ,map_id' -> gY,nodup_nil -> hW,getElem?_drop -> im,perm_ext_iff_of_nodup -> iy,nodup_iff_pairwise_ne -> iz,flatMap_cons -> iJ,pairwise_iff_getElem -> iN,sublist_append_right -> iO,all_toArray -> iY,nodup_range -> i5,lookup_eq_none_iff -> i7,forIn_cons -> jB,map_append -> jE,filter_eq_nil_iff -> jT,drop_zero -> kB,lt_irrefl -> kC,perm_append_comm -> kG,set_append_left -> kN,pairwise_append -> kS,Nodup -> kT,length -> lS,Pairwise -> lZ
open PySem.Heap renaming get?_push_of_some -> aq,lt_size -> aM,get?_push_size -> aQ,size_push -> bT,SameBut -> de,get?_push_ne -> eQ,size_update -> gA,get?_update_self -> gH,ExtBut -> ib,get?_update_other -> jL
open PySem.W renaming Frag -> aw,mg_none_of -> bS,kia_one -> cV,fnOf -> dg,keepIn -> eS,mg_of -> fz,nsIn -> fQ,kas_place -> fT,codeIn -> f6,kas_asc -> f9,kas_rev -> gK,kas_sort -> iX,OpenLaw -> jA,cellsFrom_some -> jJ,kas_desc -> kQ,kas_tail3 -> lK,kas_descPart -> lL,kas_count -> lM,kas_bin -> lQ
open Nat renaming le_refl -> aD,le_trans -> aJ,ne_of_lt -> aT,lt_of_lt_of_le -> aW,le_of_not_lt -> bL,zero_le -> bX,lt_irrefl -> cG,lt_succ_of_lt -> cU,le_of_eq -> dH,min_eq_left -> eM,le_add_right -> fj,le_of_lt -> fI,lt_trans -> fN,mod_lt -> gT,add_assoc -> io,ne_of_gt -> iR,le_max_right -> i3,zero_add -> i4,succ_le_succ -> i6,le_max_left -> jH,pow_le_pow_right -> kU,mul_le_mul_left -> lB,sub_self -> lN
open Array renaming length_toList -> aG,getElem?_toList -> bG,getElem?_eq_some_iff -> cn,mem_toList_iff -> dh,getD -> dE,getElem?_eq_getElem -> d7,forIn_toList -> fF,any_toList -> gy,all_toList -> gz,mem_of_getElem? -> gL,replicate -> gV,perm_iff_toList_perm -> iu
open PySem.Value renaming none -> bu,ref -> bJ,type -> bN,bool -> dD,int -> fG,str -> fH,isStrOf -> gu,notImplemented -> kO
open PyProof.Rows renaming slot_tuple_getitem -> bF,callWith_type1 -> dF,AllBare -> gF,entry_tuple_getitem -> g6,slicePart_none -> hU,args_tuple_getitem -> ig,subscriptTail_builtinR -> jK,reads_det -> jR,SortKind -> kR,tupleItemsOf_ -> lc,subscriptTail -> lh,listUpdate_at -> lr,IntsAre -> lO,seqEpoch_at -> lW
open PySem.NameKind renaming free -> bO,cell -> fy
open PySem.Str renaming ofString -> bQ
open PyProof.Rows.F renaming plain_set_update_loop -> bY,entry_set_update_loop -> cQ
open PySem.Builtin.Slice renaming slicePlaces -> b8,sliceAdjust -> cL,sliceApplied -> fw,sliceFields -> iM
open PySem.SetTable renaming grown -> ca,insertAt -> dq,sizeAbove -> eI,below -> eW,toList_insertAt -> fW,fill -> lu
open PySem.F renaming called_set -> cf,slot_tuple_hash -> eP,slot_NoneType_hash -> eY,args_tuple_add_2 -> fM,entry_tuple_add -> gc,slot_tuple_add -> gl,slot_zip_next -> gS,sub_tuple_frozenset -> ii,sub_list_frozenset -> ir,slot_tuple_lt -> jF,typeCall_set_1 -> jQ,plain_set_new -> jY,sub_tuple_set -> kA,sub_list_set -> kL,slot_dict_eq_refl -> lz
open Classical renaming byContradiction -> cx
open Int renaming toNat_natCast -> cy,emod_lt_of_pos -> fV,natCast_succ -> gD,emod_nonneg -> gU,eq_ofNat_of_zero_le -> i8
open Option.some renaming inj -> cC,injEq -> iG
open Lean renaming mkIdent -> cH,TSyntax -> gX
open PySem.Builtin.Tuple renaming tupleHashOf -> cK,tupleExact -> cP,tupleItemsOf -> dR,tupleCompareSizes -> gN
open PySem.Builtin.SmallTypes renaming nextOf -> cM,ownedTupleIsFree -> gb
open PySem.SeqAt renaming EqAt -> cS,RcAt -> gW,room_head -> ij,eqAt_reads -> kP,notIn_tupleAt -> ly
open PySem.Builtin.Str renaming strSliceIndices -> cX,occurrences -> eD
open Ne renaming symm -> di
open PySem.Builtin.Frozenset renaming updateFrom -> dA
open List.cons renaming injEq -> dJ
open PySem.Challenge renaming rw_mannerports_k25_what_is_a_machine -> dS
open False renaming elim -> dZ
open PySem.Around renaming under_plainId -> d6,in1 -> kH
open PySem.Heap.SameBut renaming update -> eC,refl -> iH
open ForInStep renaming yield -> eH
open PySem.Obj renaming mapSeq -> fg,putSet -> f8
open Option renaming isSome_iff_exists -> fL,map_some -> jD,bind_eq_bind -> lw
open List.Perm renaming refl -> ga,append_left -> gM
open PySem.Calls renaming callWith_builtin -> gn,Name_function_global -> iq,evalArgs_plain -> kI
open Or renaming inl -> gP,inr -> gQ
open Sum renaming inl -> g9,inr -> hJ
open PySem.Txt renaming upper -> ik
open PyProof.Rows.ReadsAll renaming keeps -> il
open List.Pairwise renaming nil -> iF,imp_of_mem -> iZ
open True renaming intro -> iL
open PySem.AutoSeq1 renaming sub_tuple_tuple -> iW
open PySem.ReadAtMost renaming cons -> jG
open PySem.ReprEntriesK renaming of_two -> lA
open PySem.Sem renaming onRaise -> lU
namespace PF
open PySem PySem.Spec PySem.SeqAt --
mutual
noncomputable def plD:aa -> Bool
 |.none=> true
 |.int _=> true
 |.str _=> true
 |.tuple xs=> ve xs
 |_=> false
noncomputable def ve:List aa -> Bool
 |[]=> true
 |x::xs=> plD x&&ve xs
end
theorem vh:plD (.tuple xs)=ve xs:=by simp only [plD]
theorem zc{x:aa}:ve (x::xs)=(plD x&&ve xs):=by simp only [ve]
theorem ad3: ∀xs:List aa,ve xs=xs.all plD
 |[]=> by simp only [ve,List.all_nil]
 |x::r=> by rw [zc,cb,ad3 r]
theorem evt{ys:List aa}:aE (.tuple xs) (.tuple ys)=dt xs ys:=by simp only [aE]
theorem evs{x y:aa}{ys:List aa}:dt (x::xs) (y::ys)=(aE x y&&dt xs ys):=by simp only [dt]
mutual
theorem ac3: ∀a b:aa,plD a=true -> plD b=true -> (aE a b=true ↔ a=b)
 |.none,b,_,hb=> by cases b <;> simp [plD]at hb <;> simp [aE]
 |.int i,b,_,hb=> by cases b <;> simp [plD]at hb <;> simp [aE]
 |.str i,b,_,hb=> by cases b <;> simp [plD]at hb <;> simp [aE]
 |.tuple xs,.tuple ys,ha,hb=> by
  rw [evt,aj9 xs ys (by rw [←vh];exact ha) (by rw [←vh];exact hb)]
  simp
 |.tuple xs,.none,_,_=> by simp [aE]
 |.tuple xs,.int _,_,_=> by simp [aE]
 |.tuple xs,.str _,_,_=> by simp [aE]
 |.tuple xs,.bool _,_,hb=> by simp [plD]at hb
 |.tuple xs,.list _,_,hb=> by simp [plD]at hb
 |.tuple xs,.dict _,_,hb=> by simp [plD]at hb
 |.bool _,_,ha,_=> by simp [plD]at ha
 |.list _,_,ha,_=> by simp [plD]at ha
 |.dict _,_,ha,_=> by simp [plD]at ha
theorem aj9: ∀xs ys:List aa,ve xs=true -> ve ys=true -> (dt xs ys=true ↔ xs=ys)
 |[],[],_,_=> by simp [dt]
 |[],_::_,_,_=> by simp [dt]
 |_::_,[],_,_=> by simp [dt]
 |x::xs,y::ys,ha,hb=> by
  rw [zc,am]at ha hb
  rw [evs,am,ac3 x y ha.1 hb.1,aj9 xs ys ha.2 hb.2,dJ]
end
theorem ani{a:aa}(h:plD a=true):aE a a=true:=(ac3 a a h h).mpr rfl
mutual
noncomputable def jv(w:bw):aa -> Int
 |.none=> 0xFCA86420
 |.int i=> hashInt i
 |.str x=> hashStr w x
 |.tuple xs=> reduceHash (cK (aaz w xs))
 |_=> 0
noncomputable def aaz(w:bw):List aa -> List Int
 |[]=> []
 |x::xs=> jv w x::aaz w xs
end
mutual
noncomputable def ac7:aa -> Nat
 |.tuple xs=> yf xs+1
 |_=> 1
noncomputable def yf:List aa -> Nat
 |[]=> 0
 |x::xs=> ac7 x+yf xs
end
theorem aic(w:bw): ∀xs:List aa,aaz w xs=xs.map (jv w)
 |[]=> by simp only [aaz,List.map_nil]
 |x::r=> by simp only [aaz,aN,aic w r]
theorem adr: ∀xs ys:List aa,yf (xs++ys)=yf xs+yf ys
 |[],ys=> by simp [yf]
 |x::r,ys=> by simp only [gx,yf,adr r ys];lia
theorem adn: ∀{xs:List aa} {x:aa},x∈xs -> x.depth <=ar xs
 |[],x,h=> by cases h
 |y::r,x,h=> by
  simp only [ar]
  (rcases ay.mp h with rfl|h)
  ·lia
  ·have:=adn h;lia
section
variable{prog:bz}{w:bw} --
theorem aus{Q:Int -> ak -> Prop}(h:Q 0xFCA86420 {s with toks:=s.toks+1}):wpAny (model prog w) A (pyHash .none) Q E s:=by
 unfold pyHash
 have hv:[bu].any Value.onHeap=false:=rfl
 refine ae ?_
 (rw [cRoomFor,if_neg (by rw [hv];exact aF)];refine aj ?_)
 refine ae (dL (ia s) eY.lookup ?_)
 show wpAny _ _ (if (some (Value.builtin "NoneType.__hash__")==some bu)=true then _ else _) Q E s
 (rw [if_neg (by rw [beq_builtin_none];exact aF)])
 refine ae (dL (ia s) eY.lookup ?_)
 show wpAny _ _ (gZ .none "__hash__" _ >>=_) Q E s
 refine ae (eZ (ia s) eY
  (cE eY (ia s) F.entry_NoneType_hash
   (show wpAny _ _ (do ret (←mkInt 0xFCA86420)) _ _ s from wpAny_ret_mkInt ?_) (F.args_NoneType_hash_1 _)))
 show wpAny _ _ (if (decide (-(2:Int)^63 <=0xFCA86420)&&decide ((0xFCA86420:Int) < 2^63))=true then _ else _) Q E _
 rw [if_pos (by decide)]
 exact aj h
mutual
theorem aoj: ∀(d:aa) {A:bm} {E:af -> ak -> Prop} {s:ak} {v:af} {bs:List Addr} {Q:Int -> ak -> Prop},plD d=true -> cq s.heap v d bs -> A.units+d.depth < cLine -> Q (jv w d) {s with toks:=s.toks+ac7 d} -> wpAny (model prog w) A (pyHash v) Q E s
 |.none,A,E,s,v,bs,Q,_,r,_,h=> by cases r;simp only [jv,ac7]at h;exact aus h
 |.int i,A,E,s,v,bs,Q,_,r,_,h=> by cases r;simp only [jv,ac7]at h;exact wpAny_pyHash_int h
 |.str x,A,E,s,v,bs,Q,_,r,_,h=> by cases r;simp only [jv,ac7]at h;exact wpAny_pyHash_str h
 | .tuple xs,A,E,s,v,bs,Q,hp,r,hu,h=> by
  have ih:=aju xs
  rw [vh,ad3,ao]at hp
  (simp only [aA]at hu)
  cases r with
  | @tuple a o items n _ _ ho hc hd hi=>
  have hT:s.TypeIs (.ref a) "tuple":=⟨o,ho,hc⟩
  unfold pyHash pyHashByItsType
  refine ae (wpAny_cRoomFor_or (.inr (by lia)) ?_)
  (refine ae (dL hT eP.lookup ?_))
  show wpAny _ _ (if (some (Value.builtin "tuple.__hash__")==some bu)=true then _ else _) Q E s --
  (rw [if_neg (by rw [beq_builtin_none];exact aF)])
  (refine ae (dL hT eP.lookup ?_))
  show wpAny _ _ (gZ (.ref a) "__hash__" _ >>=_) Q E s --
  (refine ae (eZ hT eP (cE eP hT F.entry_tuple_hash ?_ (F.args_tuple_hash_1 _))))
  show wpAny _ _ (dR (.ref a)>>=_) _ _ s --
  (refine ae (wpAny_tupleItemsOf ho hd ?_))
  refine ae ?_
  rw [←fF]
  refine dz _
   (fun ju (b:Array Int) s'=> ∃done left cs,xs=done++left/\cc s.heap ju left cs/\b.toList=done.map (jv w)/\s'={s with toks:=s.toks+yf done})
   _ ?_ ?_ _ _ ⟨[],xs,_,rfl,hi,rfl,rfl⟩
  ·rintro x ju b s' ⟨done,left,cs,e,hl,hb,rfl⟩
   cases hl with
   | @cons _ _ k ks' _ _ h1 hl'=>
    have hm:k∈xs:=by rw [e];simp
    have hdk:=adn hm
    have e1: ∀A:bm,A.in1.units <=A.units+1:=fun A=> by first|exact aD _|(unfold kH;simp)
    have e1A:=e1 A
    refine ae (ih k hm (s:={s with toks:=s.toks+yf done}) (hp k hm) h1 (by lia) ?_)
    first
     |exact aj ⟨done++ [k],ks',_,by rw [e];simp,hl',by simp [hb],by simp [adr,yf,io]⟩
     |exact ae (aj (aj ⟨done++ [k],ks',_,by rw [e];simp,hl',by simp [hb],by simp [adr,yf,io]⟩))
  ·rintro b s' ⟨done,left,cs,e,hl,hb,rfl⟩
   cases hl
   rw [bP]at e
   subst e
   show wpAny _ _ (retInt (cK b.toList)) _ _ _ --
   rw [hb,←aic]
   refine wpAny_ret_mkInt ?_
   show wpAny _ _ (if (decide (-(2:Int)^63 <=cK (aaz w xs))&&decide (cK (aaz w xs) < 2^63))=true then _ else _) Q E _
   simp only [jv,ac7]at h
   unfold reduceHash at h
   by_cases hr:(decide (-(2:Int)^63 <=cK (aaz w xs))&&decide (cK (aaz w xs) < 2^63))=true
   ·rw [if_pos hr]
    rw [if_pos hr]at h
    (exact aj (by simpa [io] using h))
   ·rw [if_neg hr]
    rw [if_neg hr]at h
    (exact ae (c9 (aj (by simpa [io] using h))))
 |.bool _,_,_,_,_,_,_,hp,_,_,_=> by simp [plD]at hp
 |.list _,_,_,_,_,_,_,hp,_,_,_=> by simp [plD]at hp
 |.dict _,_,_,_,_,_,_,hp,_,_,_=> by simp [plD]at hp
theorem aju: ∀(xs:List aa),∀d∈xs,∀{A:bm} {E:af -> ak -> Prop} {s:ak} {v:af} {bs:List Addr} {Q:Int -> ak -> Prop},plD d=true -> cq s.heap v d bs -> A.units+d.depth < cLine -> Q (jv w d) {s with toks:=s.toks+ac7 d} -> wpAny (model prog w) A (pyHash v) Q E s
 |[],d,m=> by cases m
 | x::r,d,m=> by
  intro h1 h2 h3 h4
  rcases ay.mp m with e|m
  ·rw [e]at h1 h2 h3 h4
   exact aoj x h1 h2 h3 h4
  ·exact aju r d m h1 h2 h3 h4
end
mutual
theorem ahh: ∀(d:aa) {n:Nat} {A:bm} {E:af -> ak -> Prop} {s:ak} {v:af} {bs:List Addr} {Q:Bool -> ak -> Prop},plD d=true -> cq s.heap v d bs -> d.depth <=n -> Q true s -> wpAny (model prog w) A (eqIsQuiet n v) Q E s
 |.none,n,A,E,s,v,bs,Q,_,r,_,h=> by cases r;rw [iA n rfl];exact aj h
 |.int i,n,A,E,s,v,bs,Q,_,r,_,h=> by cases r;rw [iA n rfl];exact aj h
 |.str x,n,A,E,s,v,bs,Q,_,r,_,h=> by cases r;rw [iA n rfl];exact aj h
 | .tuple xs,n,A,E,s,v,bs,Q,hp,r,hu,h=> by
  have ih:=akw xs
  rw [vh,ad3,ao]at hp
  (simp only [aA]at hu)
  obtain⟨m,rfl⟩: ∃m,n=m+1:=⟨n - 1,by lia⟩
  cases r with
  | @tuple a o items n _ _ ho hc hd hi=>
  have hT:s.TypeIs (.ref a) "tuple":=⟨o,ho,hc⟩
  unfold eqIsQuiet
  (refine ae (dL hT F.slot_tuple_eq.lookup ?_))
  show wpAny _ _ (isInstance (.ref a) (.type "tuple")>>=_) _ _ s --
  (refine ae (wpAny_isInstance hT isSubtype_tuple_tuple ?_))
  (simp only [fk,bn,if_false])
  (refine ae (cI ho hd ?_))
  refine ae ?_
  show wpAny _ _ (forIn items _ _) _ _ s --
  rw [←fF]
  refine dz _ (fun ju r s'=> r.1=none/\s'=s/\ ∃left cs,(∀x∈left,x∈xs)/\cc s.heap ju left cs) _ ?_ ?_ _ _ ⟨rfl,rfl,xs,_,fun _ m=> m,hi⟩
  ·rintro v ju r s' ⟨hr,rfl,left,cs,sub,hl⟩
   cases hl with
   | @cons _ _ k ks' _ _ h1 hl'=>
    have hm:=sub k ax
    have hdk:=adn hm
    refine ae (ih k hm (hp k hm) h1 (by lia) ?_)
    (simp only [fk,bn,if_false])
    exact aj ⟨rfl,rfl,ks',_,fun x m=> sub x (az _ m),hl'⟩
  ·rintro⟨r1,r2⟩ s' ⟨hr,rfl,_⟩
   simp only at hr
   subst hr
   exact aj h
 |.bool _,_,_,_,_,_,_,_,hp,_,_,_=> by simp [plD]at hp
 |.list _,_,_,_,_,_,_,_,hp,_,_,_=> by simp [plD]at hp
 |.dict _,_,_,_,_,_,_,_,hp,_,_,_=> by simp [plD]at hp
theorem akw: ∀(xs:List aa),∀d∈xs,∀{n:Nat} {A:bm} {E:af -> ak -> Prop} {s:ak} {v:af} {bs:List Addr} {Q:Bool -> ak -> Prop},plD d=true -> cq s.heap v d bs -> d.depth <=n -> Q true s -> wpAny (model prog w) A (eqIsQuiet n v) Q E s
 |[],d,m=> by cases m
 | x::r,d,m=> by
  intro h1 h2 h3 h4
  rcases ay.mp m with e|m
  ·rw [e]at h1 h2 h3
   exact ahh x h1 h2 h3 h4
  ·exact akw r d m h1 h2 h3 h4
end
def af3(d:aa):Bool:=plD d&&d.canLay0&&decide (d.depth <=8)
theorem ze{d:aa}:af3 d=true ↔ plD d=true/\d.canLay0=true/\d.depth <=8:=by
 unfold af3
 simp only [am,decide_eq_true_eq,and_assoc]
noncomputable instance:DecidableEq aa:=fun a b=> Classical.propDecidable (a=b)
end
end PF
namespace L2
open PySem PySem.Spec PyProof.Rows
abbrev Key:=Sum Int Str
noncomputable def ayc:Key -> af -> Bool
 |.inl k,v=> Value.isInt k v
 |.inr x,v=> gu x v
noncomputable def a8l(w:bw):Key -> Int
 |.inl k=> hashInt k
 |.inr x=> hashStr w x
theorem vk: ∀{k:Key} {v:af},ayc k v=true -> (∃i t,k=g9 i/\v=fG i t)\/(∃x t,k=hJ x/\v=fH x t)
 |.inl i,v,h=> by
  obtain⟨t,e⟩:=Value.isInt_shape (k:=i) (v:=v) h
  exact .inl ⟨i,t,rfl,e⟩
 |.inr x,v,h=> by
  obtain⟨t,e⟩:=Value.isStrOf_shape (x:=x) (v:=v) h
  exact .inr ⟨x,t,rfl,e⟩
theorem a3o(a b:Int):decide ((g9 a:Key)=g9 b)=(a==b):=by
 by_cases e:a=b
 ·subst e;simp
 ·have h: ¬(g9 a:Key)=g9 b:=fun q=> e (g9.inj q)
  rw [decide_eq_false h]
  exact (beq_eq_false_iff_ne.mpr e).symm
theorem a3g(a b:Str):decide ((hJ a:Key)=hJ b)=decide (a=b):=by
 by_cases e:a=b
 ·subst e;simp
 ·have h: ¬(hJ a:Key)=hJ b:=fun q=> e (hJ.inj q)
  rw [decide_eq_false h,decide_eq_false e]
theorem a1w(a:Int)(b:Str):decide ((g9 a:Key)=hJ b)=false:=decide_eq_false (fun q=> nomatch q)
theorem a3j(a:Str)(b:Int):decide ((hJ a:Key)=g9 b)=false:=decide_eq_false (fun q=> nomatch q)
def agg(prog:bz)(w:bw):PySem.KeyKind prog w Key where
 is:=ayc
 hash:=a8l w
 inj:=fun v a b ha hb=> by
  rcases vk ha with ⟨i,t,rfl,rfl⟩|⟨x,t,rfl,rfl⟩
  ·rcases vk hb with ⟨j,u,rfl,e⟩|⟨y,u,rfl,e⟩
   ·injection e with e1 _;rw [e1]
   ·exact nomatch e
  ·rcases vk hb with ⟨j,u,rfl,e⟩|⟨y,u,rfl,e⟩
   ·exact nomatch e
   ·injection e with e1 _;rw [e1]
 byValue:=fun k v h=> by
  rcases vk h with ⟨i,t,rfl,rfl⟩|⟨x,t,rfl,rfl⟩ <;> rfl
 pyHash:=fun hv h=> by
  rcases vk hv with ⟨i,t,rfl,rfl⟩|⟨x,t,rfl,rfl⟩
  ·exact wpAny_pyHash_int h
  ·exact wpAny_pyHash_str h
 eqBool:=fun hu hv h=> by
  rcases vk hu with ⟨i,t,rfl,rfl⟩|⟨x,t,rfl,rfl⟩
  ·rcases vk hv with ⟨j,u,rfl,rfl⟩|⟨y,u,rfl,rfl⟩
   ·rw [a3o]at h;exact wpAny_eqBool_int h
   ·rw [a1w]at h;exact cS.int_str i t y u _ _ _ _ h
  ·rcases vk hv with ⟨j,u,rfl,rfl⟩|⟨y,u,rfl,rfl⟩
   ·rw [a3j]at h;exact cS.str_int x t j u _ _ _ _ h
   ·rw [a3g]at h;exact wpAny_eqBool_str h
 «strs»:=fun k x t v h=> by
  rcases vk h with ⟨i,u,rfl,e⟩|⟨y,u,rfl,e⟩
  ·exact nomatch e
  ·injection e with e1 _
   subst e1
   cases v <;> rfl
inductive V where
 |non|bl (b:Bool)|int (i:Int)|str (x:Str)|byt (b:Array UInt8)|flt (b:UInt64)|ref (a:Addr)|ty (n:String)
 deriving DecidableEq
def RelV:V -> af -> Prop
 |.non,u=> u=bu
 |.bl b,u=> u=dD b
 |.int i,u=> ∃t,u=fG i t
 |.str x,u=> ∃t,u=fH x t
 |.byt b,u=> ∃t,u=Value.bytes b t
 |.flt b,u=> ∃t,u=Value.float b t
 |.ref a,u=> u=bJ a
 |.ty n,u=> u=bN n
abbrev jn:List V -> List af -> Prop:=Paired RelV
theorem jn.length{xs:List V}{us:List af}(r:jn xs us):xs.length=us.length:=Paired.length r
theorem jn.get: ∀{xs:List V} {us:List af} {i:Nat} {x:V},jn xs us -> xs[i]?=some x -> ∃u,us[i]?=some u/\RelV x u
 |_,_,_,_,.nil,e=> by simp at e
 |_,_,0,_,.cons r _,e=> by simp at e;subst e;exact⟨_,rfl,r⟩
 |_,_,i+1,x,.cons _ t,e=> by
  obtain⟨u,h1,h2⟩:=jn.get (i:=i) (x:=x) t (by simpa using e)
  exact⟨u,by simpa using h1,h2⟩
theorem jn.set{x:V}{u:af}(r:RelV x u): ∀{xs:List V} {us:List af} (i:Nat),jn xs us -> jn (xs.set i x) (us.set i u)
 |_,_,_,.nil=>.nil
 |_,_,0,.cons _ t=>.cons r t
 |_,_,i+1,.cons q t=>.cons q (jn.set r i t)
theorem jn.append: ∀{xs ys:List V} {us ws:List af},jn xs us -> jn ys ws -> jn (xs++ys) (us++ws)
 |_,_,_,_,.nil,s=> s
 |_,_,_,_,.cons r t,s=>.cons r (jn.append t s)
theorem jn.take: ∀{xs:List V} {us:List af} (n:Nat),jn xs us -> jn (xs.take n) (us.take n)
 |_,_,0,_=>.nil
 |_,_,_+1,.nil=>.nil
 |_,_,n+1,.cons r t=>.cons r (jn.take n t)
theorem jn.drop: ∀{xs:List V} {us:List af} (n:Nat),jn xs us -> jn (xs.drop n) (us.drop n)
 |_,_,0,r=> r
 |_,_,_+1,.nil=>.nil
 |_,_,n+1,.cons _ t=> jn.drop n t
def KV{κ:Type}:List (κ×V) -> List (κ×af) -> Prop:=Paired fun (p:κ×V) (q:κ×af)=> p.1=q.1/\RelV p.2 q.2
noncomputable def kV:Key -> V
 |.inl i=>.int i
 |.inr x=>.str x
inductive HO where
 |lst (xs:List V)
 |tup (xs:List V)
 |dK (kvs:List (Key×V))
 |own (x:Addr)
 |rng (lo hi:Int)
 |frz (o:Obj) (u:HO)
 |tbl (ps:Array af)
 |ext (φ:Heap -> Prop)
abbrev Hp:=Addr -> Option HO
noncomputable def upd(H:Hp)(a:Addr)(o:HO):Hp:=fun b=> if b=a then some o else H b
theorem aak{H:Hp}{o:HO}:upd H a o a=some o:=by unfold upd;rw [if_pos rfl]
theorem qh{H:Hp}{o:HO}(h:b≠a):upd H a o b=H b:=by unfold upd;rw [if_neg h]
theorem yv{H:Hp}{o:HO}(h:H a=some o)(h':H b=none):a≠b:=by
 intro e;subst e;rw [h]at h';cases h'
def afb(h:Heap)(a:Addr)(its:Array af):Prop:= ∃n,h.get? a=some {cls:=.type "tuple",data:=.seq its n}
theorem afb.tup{its:Array af}(x:afb h a its):IsTup h a its:=let ⟨n,e⟩:=x;⟨_,e,rfl,n,rfl⟩
theorem afb.new(h:Heap)(its:Array af):afb (h.push {cls:=.type "tuple",data:=.seq its}) h.objs.size its:=⟨_,aQ _ rfl⟩
section
variable(P:bz)(w:bw)
def j6(H:Hp)(h:Heap)(a:Addr):HO -> Prop
 |.lst xs=> xs.length <=sizeLine/\ ∃(its:List af) (n:Nat),jn xs its/\h.get? a=some {cls:=.type "list",data:=.seq its.toArray n}
 |.tup xs=> xs.length <=sizeLine/\ ∃its:List af,jn xs its/\afb h a its.toArray
 |.dK kvs=> kvs.length <=sizeLine/\(a==fZ)=false/\ ∃vs,KV kvs vs/\h.DictOf (agg P w) a vs
 |.own _=> ∃o,h.get? a=some o
 |.rng lo hi=> ∃t u v,h.get? a=some {cls:=.type "range",data:=.fields #[.int lo t,.int hi u,.int 1 v]}
 |.frz o u=> h.get? a=some o/\j6 H h a u
 |.tbl ps=> h.get? a=some {cls:=.none,data:=.fields ps}
 |.ext φ=> φ h/\(∃o,h.get? a=some o)/\ ∀h1 h2:Heap,φ h1 -> (∀o,h1.get? a=some o -> h2.get? a=some o) -> φ h2
def HOk(H:Hp)(h:Heap):Prop:= ∀a o,H a=some o -> j6 P w H h a o
end
section
variable{P:bz}{w:bw}{H H':Hp}{h h':Heap}{a:Addr}{o:HO}
theorem j6.lt(x:j6 P w H h a o):a < h.objs.size:=by
 cases o with
 |lst xs=> obtain⟨_,_,_,_,e⟩:=x;exact aM e
 |tup xs=> obtain⟨_,_,_,p⟩:=x;exact p.tup.lt
 |dK kvs=> obtain⟨_,_,_,_,o,_,_,e,_⟩:=x;exact aM e
 |own y=> obtain⟨_,e⟩:=x;exact aM e
 |rng lo hi=> obtain⟨_,_,_,e⟩:=x;exact aM e
 |frz ob u=> obtain⟨e,_⟩:=x;exact aM e
 |tbl ps=> exact aM (show h.get? a=some _ from x)
 |ext φ=> obtain⟨_,⟨_,e⟩,_⟩:=x;exact aM e
theorem j6.stay(x:j6 P w H h a o)(k: ∀b u,(b=a\/H b=some (.own a)) -> h.get? b=some u -> h'.get? b=some u)
  (ho: ∀b,H b=some (.own a) -> H' b=some (.own a)) (ht: ∀b xs,H b=some (.tup xs) -> H' b=some (.tup xs)):j6 P w H' h' a o:=by
 induction o with
 |lst xs=> obtain⟨z,its,n,r,e⟩:=x;exact⟨z,its,n,r,k _ _ (.inl rfl) e⟩
 |tup xs=> obtain⟨z,its,r,n,e⟩:=x;exact⟨z,its,r,n,k _ _ (.inl rfl) e⟩
 |dK kvs=> obtain⟨z,y,vs,r,ob,es,ep,e,c⟩:=x;exact⟨z,y,vs,r,ob,es,ep,k _ _ (.inl rfl) e,c⟩
 |own y=> obtain⟨ob,e⟩:=x;exact⟨ob,k _ _ (.inl rfl) e⟩
 |rng lo hi=> obtain⟨t,u,v,e⟩:=x;exact⟨t,u,v,k _ _ (.inl rfl) e⟩
 |frz ob u ih=> obtain⟨e,q⟩:=x;exact⟨k _ _ (.inl rfl) e,ih q⟩
 |tbl ps=>
  have e:h.get? a=some {cls:=.none,data:=.fields ps}:=x
  show h'.get? a=some {cls:=.none,data:=.fields ps}
  exact k a _ (.inl rfl) e
 |ext φ=> obtain⟨p,⟨o,e⟩,st⟩:=x;exact⟨st _ _ p fun o q=> k _ _ (.inl rfl) q,⟨o,k _ _ (.inl rfl) e⟩,st⟩
theorem HOk.lt(x:HOk P w H h)(e:H a=some o):a < h.objs.size:=(x a o e).lt
theorem HOk.fresh(x:HOk P w H h)(e:h.objs.size <=a):H a=none:=by
 cases q:H a with
 |none=> rfl
 |some u=> exact absurd (aW (x.lt q) e) (cG _)
theorem HOk.kept(x:HOk P w H h)(k: ∀b u,h.get? b=some u -> h'.get? b=some u):HOk P w H h':=fun a o e=>
 (x a o e).stay (fun b u _ q=> k b u q) (fun _ q=> q) fun _ _ q=> q
theorem HOk.laid(x:HOk P w H h)(k: ∀b u,h.get? b=some u -> h'.get? b=some u)(hp:h.objs.size <=a)(new:j6 P w (upd H a o) h' a o):HOk P w (upd H a o) h':=fun b u e=> by
 have hn:=x.fresh hp
 by_cases hb:b=a
 ·subst hb;rw [aak]at e;cases e;exact new
 ·rw [qh hb]at e
  exact (x b u e).stay (fun c v _ q=> k c v q) (fun c q=> by rw [qh (yv q hn)];exact q) fun c xs q=> by rw [qh (yv q hn)];exact q
end
def Rd(H:Hp)(a:Addr)(u:HO):Prop:=H a=some u\/ ∃o,H a=some (.frz o u)
theorem Rd.ok{H:Hp}{u:HO}(r:Rd H a u)(x:HOk P w H h):j6 P w H h a u:=by
 rcases r with r|⟨o,r⟩
 ·exact x a u r
 ·obtain⟨_,q⟩:=x a _ r
  exact q
def Mut:Option HO -> Prop
 |some (.lst _)=> True
 |some (.dK _)=> True
 |some (.ext _)=> True
 |_=> False
section
variable{P:bz}{w:bw}{H:Hp}{h h':Heap}{x e:Addr}{o':HO}
theorem HOk.write(ok:HOk P w H h)(mu:Mut (H x))(he:e=x\/H e=some (.own x))(k: ∀b u,b≠e -> h.get? b=some u -> h'.get? b=some u)(heo: ∃u,h'.get? e=some u)
  (new:j6 P w (upd H x o') h' x o'):HOk P w (upd H x o') h':=fun b u q=> by
 have nown: ∀c y,H c=some (.own y) -> c≠x:=fun c y r z=> by subst z;rw [r]at mu;exact mu
 have ntup: ∀c xs,H c=some (.tup xs) -> c≠x:=fun c xs r z=> by subst z;rw [r]at mu;exact mu
 by_cases hb:b=x
 ·subst hb;rw [aak]at q;cases q;exact new
 ·rw [qh hb]at q
  by_cases hbe:b=e
  ·have q':H b=some (.own x):=by
    rcases he with z|z
    ·exact absurd (hbe.trans z) hb
    ·rw [hbe];exact z
   rw [q]at q';cases q'
   obtain⟨v,hv⟩:=heo
   exact⟨v,by rw [hbe];exact hv⟩
  ·refine (ok b u q).stay (fun c v hc r=> k c v ?_ r) (fun c r=> by rw [qh (nown c b r)];exact r) fun c xs r=> by rw [qh (ntup c xs r)];exact r
   rcases hc with rfl|hc
   ·exact hbe
   ·rintro rfl
    rcases he with z|z
    ·exact nown c b hc z
    ·rw [hc]at z;cases z;exact hb rfl
end
structure Un (fs ex:List Addr) (H H':Hp) (h h':Heap):Prop where
 keep: ∀b o,h.get? b=some o -> H b=none -> b∉fs -> b∉ex -> h'.get? b=some o
 slot: ∀b o,h.get? b=some o -> H b=none -> b∈fs -> b∉ex -> ∃sl,h'.get? b=some {o with slots:=sl}
 free: ∀b o,h.get? b=some o -> H b=none -> b∉ex -> H' b=none
 there: ∀b o,h.get? b=some o -> b∉ex -> ∃o',h'.get? b=some o'
 tups: ∀b xs,H b=some (.tup xs) -> H' b=some (.tup xs)
 frzs: ∀b o u,H b=some (.frz o u) -> H' b=some (.frz o u)
 tbls: ∀b ps,H b=some (.tbl ps) -> ∃more,H' b=some (.tbl (ps++more))
section
variable{fs fs' ex ex':List Addr}{H H1 H2:Hp}{h h1 h2 h':Heap}{a x e:Addr}{o:HO}
theorem Un.any(u:Un fs ex H H1 h h1){ob:Obj}(q:h.get? b=some ob)(n:H b=none)(hx:b∉ex): ∃sl,h1.get? b=some {ob with slots:=sl}:=by
 by_cases hb:b∈fs
 ·exact u.slot b ob q n hb hx
 ·exact⟨ob.slots,u.keep b ob q n hb hx⟩
theorem Un.kept(k: ∀b u,h.get? b=some u -> h'.get? b=some u):Un fs ex H H h h':=
 ⟨fun b ob q _ _ _=> k b ob q,fun b ob q _ _ _=> ⟨ob.slots,k b ob q⟩,fun _ _ _ n _=> n,fun b ob q _=> ⟨ob,k b ob q⟩,fun _ _ q=> q,fun _ _ _ q=> q,fun _ ps q=> ⟨#[],by rw [q];simp⟩⟩
theorem Un.refl:Un fs ex H H h h:=Un.kept fun _ _ q=> q
theorem Un.laid(k: ∀b u,h.get? b=some u -> h'.get? b=some u)(hp:h.objs.size <=a)(hn:H a=none):Un fs ex H (upd H a o) h h' where
 keep:=fun b u q _ _ _=> k b u q
 slot:=fun b u q _ _ _=> ⟨u.slots,k b u q⟩
 free:=fun b u q n _=> by rw [qh (aT (aW (aM q) hp))];exact n
 there:=fun b u q _=> ⟨u,k b u q⟩
 tups:=fun b xs q=> by rw [qh (yv q hn)];exact q
 frzs:=fun b u xs q=> by rw [qh (yv q hn)];exact q
 tbls:=fun b ps q=> ⟨#[],by rw [qh (yv q hn),q];simp⟩
theorem Un.write(mu:Mut (H x))(he:e=x\/H e=some (.own x))(k: ∀b u,b≠e -> h.get? b=some u -> h'.get? b=some u)(heo: ∃u,h'.get? e=some u):Un fs ex H (upd H x o) h h':=by
 have hx: ∀b,H b=none -> b≠x:=fun b n z=> by subst z;rw [n]at mu;exact mu
 have hb: ∀b,H b=none -> b≠e:=fun b n z=> by
  subst z
  rcases he with r|r
  ·exact hx b n r
  ·rw [n]at r;cases r
 have hm: ∀b u,H b=some u -> ¬Mut (some u) -> b≠x:=fun b u q nm z=> by subst z;rw [q]at mu;exact nm mu
 refine⟨fun b u q n _ _=> k b u (hb b n) q,fun b u q n _ _=> ⟨u.slots,k b u (hb b n) q⟩,fun b u q n _=> by rw [qh (hx b n)];exact n,fun b u q _=> ?_,
  fun b xs q=> by rw [qh (hm b _ q fun z=> z)];exact q,fun b u xs q=> by rw [qh (hm b _ q fun z=> z)];exact q,fun b ps q=> ⟨#[],by rw [qh (hm b _ q fun z=> z),q];simp⟩⟩
 by_cases hbe:b=e
 ·subst hbe;exact heo
 ·exact⟨u,k b u hbe q⟩
end
noncomputable def trk(h:Heap)(H:Hp):List Addr:=(aZ h.objs.size).filter fun a=> (H a).isSome
def aee(h:Heap)(H:Hp):Heap:=PySem.W.hideAll h (trk h H)
theorem at5(h:Heap)(H:Hp):(aee h H).objs.size=h.objs.size:=PySem.W.hideAll_size _ _
theorem awu{H:Hp}{o:Obj}(e:h.get? b=some o)(n:H b=none):(aee h H).get? b=some o:=
 PySem.W.hideAll_get _ e fun hm=> by
  have q:(H b).isSome=true:=(bC.mp hm).2
  rw [n]at q;simp at q
theorem a15{H:Hp}{o:Obj}(e:(aee h H).get? b=some o):h.get? b=some o/\H b=none:=by
 have e':h.get? b=some o:=PySem.W.of_hideAll (trk h H) e
 refine⟨e',?_⟩
 cases q:H b with
 |none=> rfl
 |some x=>
  have hm:b∈trk h H:=bC.mpr ⟨bD.mpr (aM e'),by simp [q]⟩
  have z:(aee h H).get? b=none:=PySem.W.hideAll_none (trk h H) hm
  rw [z]at e;cases e
noncomputable def a16(g h:Heap)(L:Addr):List (Addr×Obj):=(aZ h.objs.size).filterMap fun a=> if a=L\/(g.get? a).isSome=true then none else (h.get? a).map fun o=> (a,o)
def ju(g h:Heap)(L d:Addr):List (Addr×Obj):=(a16 g h L).filter fun p=> decide (p.1≠d)
structure Mod (K:aw) (mg:Str -> Option af) (base:Heap):Prop where
 kin:K.In base
 glob:base.Ns b7 mg
 blt: ∃mb,base.Ns builtinsNs mb/\ ∀x:Str,x≠"__name__" -> mb x=bM x
 nolimit:base.NoLimit
structure Cx where
 prog:bz
 w:bw
 K:aw
 mg:Str -> Option af
 base:Heap
 A:bm
 N:List Str
 s₀:ak
 H₀:Hp
 env:Env
 outer:List Env
 stack:List Env
 ex:List Addr
 fn:Str -> Bool
 calm:Bool
 pn:List (Addr×Obj)
 xe:af -> ak -> Prop
noncomputable def frs(l:List Env):List Addr:=l.filterMap (·.frame)
abbrev Cx.fs(X:Cx):List Addr:=frs X.outer
def Vis(sc:dM)(x:Str):Prop:=sc.names.lookup x=some .local\/sc.names.lookup x=some .cell\/sc.names.lookup x=some .free
def Loc(sc:dM)(x:Str):Prop:=sc.names.lookup x=some .local\/sc.names.lookup x=some .cell
def Look(env:Env)(h:Heap)(m:Str -> Option af)(x:Str)(u:af):Prop:=
 (env.kindOf x=some .local/\m x=some u)\/((env.kindOf x=some .cell\/env.kindOf x=some .free)/\ ∃c,env.cells.lookup x=some c/\h.IsCell c (some u))
structure Cx.Ok (X:Cx):Prop where
 mod:Mod X.K X.mg X.base
 kind:X.env.scope.kind=.function
 glob:X.env.globals=b7
 blt:X.env.builtins=builtinsNs
 above:X.s₀.heap.objs.size <=X.env.locals
 inj: ∀x y c,X.env.cells.lookup x=some c -> X.env.cells.lookup y=some c -> x=y
 has: ∀x,(X.env.kindOf x=some .cell\/X.env.kindOf x=some .free) -> ∃c,X.env.cells.lookup x=some c
 cab: ∀x c,X.fn x=true -> X.env.cells.lookup x=some c -> X.s₀.heap.objs.size <=c
 hd:X.calm=true -> X.A.handled=none
 frames:X.A.frames=some X.stack
 stk:X.stack=X.outer\/(X.stack=X.env::X.outer/\X.env.frame=some X.env.locals)
 exf: ∀b∈X.ex,b≠X.env.locals/\ ∀x c,X.env.cells.lookup x=some c -> c≠b
 bs: ∀b o,X.base.get? b=some o -> X.s₀.heap.get? b=some o/\X.H₀ b=none
 bsz:X.base.objs.size <=X.s₀.heap.objs.size
 noex: ∀b o,X.base.get? b=some o -> b∉X.ex
 exfs: ∀b∈X.ex,b∉X.fs
 funs:X.s₀.heap.FunFrames X.base X.outer
 frf: ∀b∈X.fs,X.H₀ b=none
structure Inv (X:Cx) (pins:List (Addr×Obj)) (σ:List (Option V)) (H:Hp) (s:ak):Prop where
 ok:X.Ok
 os:s.os=X.s₀.os
 bare:gF s.gens
 base:Un X.fs X.ex X.H₀ H X.s₀.heap s.heap
 loc: ∃m,s.heap.Ns X.env.locals m/\ ∀(i:Nat) (x:Str) (v:V),X.N[i]?=some x -> σ[i]?=some (some v) -> Vis X.env.scope x -> ∃u,RelV v u/\Look X.env s.heap m x u
 cell: ∀x c,X.env.cells.lookup x=some c -> ∃v,s.heap.IsCell c v
 free:H X.env.locals=none
 freeC: ∀x c,X.env.cells.lookup x=some c -> H c=none
 pin: ∀p∈X.pn++pins,s.heap.get? p.1=some p.2/\H p.1=none/\p.1≠X.env.locals/\p.1∉X.fs/\ ∀v,p.2.data≠ .cell v
 hok:HOk X.prog X.w H s.heap
 len:σ.length=X.N.length
section
variable{X:Cx}{pins:List (Addr×Obj)}{σ:List (Option V)}{H H':Hp}{s:ak}{h':Heap}
theorem Cx.Ok.nofr(ok:X.Ok){o:Obj}(e:X.base.get? b=some o):b∉X.fs:=fun hb=> by
 have:=(ok.funs.mem hb).1
 rw [e]at this;cases this
theorem Inv.bs(I:Inv X pins σ H s): ∀b o,X.base.get? b=some o -> s.heap.get? b=some o/\H b=none:=fun b o e=>
 ⟨I.base.keep b o (I.ok.bs b o e).1 (I.ok.bs b o e).2 (I.ok.nofr e) (I.ok.noex b o e),I.base.free b o (I.ok.bs b o e).1 (I.ok.bs b o e).2 (I.ok.noex b o e)⟩
theorem Inv.bk(I:Inv X pins σ H s): ∀b o,X.base.get? b=some o -> s.heap.get? b=some o:=fun b o e=> (I.bs b o e).1
theorem Inv.mod(I:Inv X pins σ H s):Mod X.K X.mg X.base:=I.ok.mod
theorem Inv.kIn(I:Inv X pins σ H s):X.K.In s.heap:=I.ok.mod.kin.keeps I.bk
theorem Inv.lt(I:Inv X pins σ H s):X.env.locals < s.heap.objs.size:=let ⟨_,hn,_⟩:=I.loc;hn.lt
theorem Inv.sz(I:Inv X pins σ H s):X.s₀.heap.objs.size <=s.heap.objs.size:=aJ I.ok.above (fI I.lt)
theorem Inv.nofs(I:Inv X pins σ H s)(h:s.heap.objs.size <=a):a∉X.fs:=fun hb=> by
 obtain⟨_,o,ho,_⟩:=I.ok.funs.mem hb
 exact absurd (aW (aM ho) (aJ I.sz h)) (cG _)
theorem Inv.cne(I:Inv X pins σ H s): ∀x c,X.env.cells.lookup x=some c -> c≠X.env.locals:=fun x c e z=> by
 obtain⟨v,o,ho,hd⟩:=I.cell x c e
 obtain⟨m,⟨o',es,ep,ho',hd',_⟩,_⟩:=I.loc
 rw [z,ho']at ho;cases ho;rw [hd']at hd;cases hd
theorem Inv.funs(I:Inv X pins σ H s):s.heap.FunFrames X.base X.outer:=by
 have all: ∀(l:List Env),(∀b∈frs l,b∈X.fs) -> X.s₀.heap.FunFrames X.base l -> s.heap.FunFrames X.base l:=by
  intro l
  induction l with
  |nil=> intro _ _;trivial
  |cons env r ih=>
   intro hs hl
   obtain⟨hk,⟨L,o,hf,hn,ho,hd⟩,hr⟩:=hl
   have hL:L∈X.fs:=hs L (by unfold frs;rw [eB,hf];exact ax)
   obtain⟨sl,e⟩:=I.base.slot L o ho (I.ok.frf L hL) hL fun z=> I.ok.exfs L z hL
   exact⟨hk,⟨L,_,hf,hn,e,hd⟩,ih (fun b hb=> hs b (by unfold frs;rw [eB,hf];exact az _ hb)) hr⟩
 exact all X.outer (fun _ hb=> hb) I.ok.funs
theorem Inv.stack(I:Inv X pins σ H s):s.heap.FunFrames X.base X.stack:=by
 rcases I.ok.stk with e|⟨e,hf⟩
 ·rw [e];exact I.funs
 ·rw [e]
  obtain⟨m,hn,_⟩:=I.loc
  refine .cons (by rw [I.ok.kind];decide) hf hn ?_ I.funs
  exact Heap.get?_none_of_le (aJ I.ok.bsz I.ok.above)
theorem Inv.stkSub(I:Inv X pins σ H s): ∀b∈frs X.stack,b∈X.env.locals::X.fs:=fun b hb=> by
 rcases I.ok.stk with e|⟨e,hf⟩
 ·rw [e]at hb;exact az _ hb
 ·rw [e]at hb
  unfold frs at hb
  rw [eB,hf]at hb
  exact hb
theorem Inv.stkFree(I:Inv X pins σ H s): ∀b∈frs X.stack,H b=none:=fun b hb=> by
 rcases ay.mp (I.stkSub b hb) with e|hb
 ·rw [e];exact I.free
 ·obtain⟨_,o,ho,_⟩:=I.ok.funs.mem hb
  exact I.base.free b o ho (I.ok.frf b hb) fun z=> I.ok.exfs b z hb
theorem Inv.step{g':Array iQ}{d':Drawn}(I:Inv X pins σ H s)(hch: ∀b∈ch,(b∈X.ex\/X.s₀.heap.objs.size <=b)/\b≠X.env.locals/\(∀x c,X.env.cells.lookup x=some c -> c≠b)/\ ∀p∈X.pn++pins,p.1≠b)(keep: ∀b o,b≠X.env.locals -> b∉X.fs -> b∉ch -> s.heap.get? b=some o -> H b=none -> h'.get? b=some o)(slot: ∀b o,b≠X.env.locals -> b∈X.fs -> b∉ch -> s.heap.get? b=some o -> H b=none -> ∃sl,h'.get? b=some {o with slots:=sl})(free: ∀b o,b∉ch -> s.heap.get? b=some o -> H b=none -> H' b=none)(there: ∀b o,b∉ch -> s.heap.get? b=some o -> ∃o',h'.get? b=some o')(tups: ∀b xs,H b=some (.tup xs) -> H' b=some (.tup xs))(frzs: ∀b o u,H b=some (.frz o u) -> H' b=some (.frz o u))(tbls: ∀b ps,H b=some (.tbl ps) -> ∃more,H' b=some (.tbl (ps++more)))(ns: ∀m,s.heap.Ns X.env.locals m -> h'.Ns X.env.locals m)(hok:HOk X.prog X.w H' h')(hg:gF g'):
  Inv X pins σ H' {s with heap:=h',gens:=g',drawn:=d',toks:=t'}:=by
 have neL: ∀b o,X.s₀.heap.get? b=some o -> b≠X.env.locals:=fun b o e=> aT (aW (aM e) I.ok.above)
 have neC: ∀b o,X.s₀.heap.get? b=some o -> b∉X.ex -> b∉ch:=fun b o e hx hb=> by
  rcases (hch b hb).1 with z|z
  ·exact hx z
  ·exact absurd (aW (aM e) z) (cG _)
 have cellK: ∀x c,X.env.cells.lookup x=some c -> ∀v,s.heap.IsCell c v -> h'.IsCell c v:=fun x c e v ⟨o,ho,hd⟩=> by
  have nch:c∉ch:=fun z=> (hch c z).2.2.1 x c e rfl
  by_cases hc:c∈X.fs
  ·obtain⟨sl,q⟩:=slot c o (I.cne x c e) hc nch ho (I.freeC x c e)
   exact⟨_,q,hd⟩
  ·exact⟨o,keep c o (I.cne x c e) hc nch ho (I.freeC x c e),hd⟩
 refine⟨I.ok,I.os,hg,⟨fun b o e n hb hx=> ?_,fun b o e n hb hx=> ?_,fun b o e n hx=> ?_,fun b o e hx=> ?_,fun b xs e=> tups b xs (I.base.tups b xs e),fun b o xs e=> frzs b o xs (I.base.frzs b o xs e),fun b ps e=> ?_⟩,?_,fun x c e=> ?_,?_,fun x c e=> ?_,fun p hp=> ?_,hok,I.len⟩
 ·exact keep b o (neL b o e) hb (neC b o e hx) (I.base.keep b o e n hb hx) (I.base.free b o e n hx)
 ·obtain⟨sl,e1⟩:=I.base.slot b o e n hb hx
  obtain⟨sl',e2⟩:=slot b _ (neL b o e) hb (neC b o e hx) e1 (I.base.free b o e n hx)
  exact⟨sl',e2⟩
 ·obtain⟨o',e1⟩:=I.base.there b o e hx
  exact free b o' (neC b o e hx) e1 (I.base.free b o e n hx)
 ·obtain⟨o',e1⟩:=I.base.there b o e hx
  exact there b o' (neC b o e hx) e1
 ·obtain⟨m1,e1⟩:=I.base.tbls b ps e
  obtain⟨m2,e2⟩:=tbls b _ e1
  exact⟨m1++m2,by rw [e2,Array.append_assoc]⟩
 ·obtain⟨m,hn,hl⟩:=I.loc
  refine⟨m,ns m hn,fun i x v e1 e2 e3=> ?_⟩
  obtain⟨u,r,l⟩:=hl i x v e1 e2 e3
  refine⟨u,r,?_⟩
  rcases l with l|⟨k,c,e,z⟩
  ·exact .inl l
  ·exact .inr ⟨k,c,e,cellK x c e _ z⟩
 ·obtain⟨v,z⟩:=I.cell x c e
  exact⟨v,cellK x c e v z⟩
 ·obtain⟨m,⟨o,_,_,ho,_⟩,_⟩:=I.loc
  exact free _ o (fun z=> (hch _ z).2.1 rfl) ho I.free
 ·obtain⟨v,o,ho,hd⟩:=I.cell x c e
  exact free c o (fun z=> (hch c z).2.2.1 x c e rfl) ho (I.freeC x c e)
 ·obtain⟨e,n,ne,nf,d⟩:=I.pin p hp
  have nch:p.1∉ch:=fun z=> (hch p.1 z).2.2.2 p hp rfl
  exact⟨keep p.1 p.2 ne nf nch e n,free p.1 p.2 nch e n,ne,nf,d⟩
theorem Inv.un(I:Inv X pins σ H s)(u:Un X.fs [] H H' s.heap h')(hok:HOk X.prog X.w H' h'):Inv X pins σ H' {s with heap:=h',toks:=t'}:=by
 obtain⟨m,⟨o,es,ep,ho,r⟩,_⟩:=id I.loc
 obtain⟨sl,hL⟩:=u.any ho I.free (by simp)
 exact I.step (g':=s.gens) (d':=s.drawn) (ch:=[]) (fun _ z=> nomatch z) (fun b o _ hb _ e n=> u.keep b o e n hb (by simp)) (fun b o _ hb _ e n=> u.slot b o e n hb (by simp)) (fun b o _ e n=> u.free b o e n (by simp)) (fun b o _ e=> u.there b o e (by simp)) u.tups u.frzs u.tbls (fun m' hm=> by
  obtain⟨o',es',ep',ho',r'⟩:=hm
  rw [ho]at ho';cases ho'
  exact⟨_,es',ep',hL,r'⟩) hok I.bare
theorem Inv.call{g':Array iQ}{d':Drawn}(I:Inv X pins σ H s)(u:Un (frs X.stack) ch H H' s.heap h')(hok:HOk X.prog X.w H' h')(hg:gF g')(hch: ∀b∈ch,(b∈X.ex\/X.s₀.heap.objs.size <=b)/\b≠X.env.locals/\(∀x c,X.env.cells.lookup x=some c -> c≠b)/\ ∀p∈X.pn++pins,p.1≠b):
  Inv X pins σ H' {s with heap:=h',gens:=g',drawn:=d',toks:=t'}:=by
 obtain⟨m,⟨o,es,ep,ho,r⟩,_⟩:=id I.loc
 obtain⟨sl,hL⟩:=u.any ho I.free fun z=> (hch _ z).2.1 rfl
 exact I.step (ch:=ch) hch (fun b o hL hb hc e n=> u.keep b o e n (fun z=> (ay.mp (I.stkSub b z)).elim hL hb) hc) (fun b o _ _ hc e n=> u.any e n hc) (fun b o hc e n=> u.free b o e n hc) (fun b o hc e=> u.there b o e hc) u.tups u.frzs u.tbls (fun m' hm=> by
  obtain⟨o',es',ep',ho',r'⟩:=hm
  rw [ho]at ho';cases ho'
  exact⟨_,es',ep',hL,r'⟩) hok hg
theorem Inv.turned{it:Addr}(I:Inv X pins σ H s)(k: ∀b o,b≠it -> s.heap.get? b=some o -> h'.get? b=some o)(hn:H it=none)(hL:it≠X.env.locals)(h1:it∈X.ex\/X.s₀.heap.objs.size <=it)(h2: ∀x c,X.env.cells.lookup x=some c -> c≠it)(h3: ∀p∈X.pn++pins,p.1≠it):Inv X pins σ H {s with heap:=h',toks:=t'}:=by
 have nit: ∀b u,H b=some u -> b≠it:=fun b u e z=> by rw [z,hn]at e;cases e
 refine I.step (g':=s.gens) (d':=s.drawn) (ch:=[it]) (fun b hb=> ?_) (fun b o _ _ hc e _=> k b o (fun z=> hc (by simp [z])) e) (fun b o _ _ hc e _=> ⟨o.slots,k b o (fun z=> hc (by simp [z])) e⟩) (fun _ _ _ _ n=> n)
  (fun b o hc e=> ⟨o,k b o (fun z=> hc (by simp [z])) e⟩) (fun _ _ e=> e) (fun _ _ _ e=> e) (fun b ps e=> ⟨#[],by rw [e];simp⟩) (fun m hm=> ?_) (fun b u e=> ?_) I.bare
 ·have e:b=it:=by simpa using hb
  subst e
  exact⟨h1,hL,h2,h3⟩
 ·obtain⟨o,es,ep,ho,r⟩:=hm
  exact⟨o,es,ep,k _ o (di hL) ho,r⟩
 ·refine (I.hok b u e).stay (fun c v hc q=> k c v ?_ q) (fun _ q=> q) fun _ _ q=> q
  rcases hc with z|z
  ·rw [z];exact nit b u e
  ·exact nit c _ z
theorem Inv.tok(I:Inv X pins σ H s)(t:Nat):Inv X pins σ H {s with toks:=t}:=I.un (h':=s.heap) (t':=t) Un.refl I.hok
theorem Inv.kept(I:Inv X pins σ H s)(k: ∀b u,s.heap.get? b=some u -> h'.get? b=some u):Inv X pins σ H {s with heap:=h',toks:=t'}:=I.un (Un.kept k) (I.hok.kept k)
theorem Inv.laid{o:HO}(I:Inv X pins σ H s)(k: ∀b u,s.heap.get? b=some u -> h'.get? b=some u)(hp:s.heap.objs.size <=a)(new:j6 X.prog X.w (upd H a o) h' a o):
  Inv X pins σ (upd H a o) {s with heap:=h',toks:=t'}:=I.un (Un.laid k hp (I.hok.fresh hp)) (I.hok.laid k hp new)
theorem Inv.write{x e:Addr}{o:HO}(I:Inv X pins σ H s)(mu:Mut (H x))(he:e=x\/H e=some (.own x))(k: ∀b u,b≠e -> s.heap.get? b=some u -> h'.get? b=some u)(heo: ∃u,h'.get? e=some u)(new:j6 X.prog X.w (upd H x o) h' x o):Inv X pins σ (upd H x o) {s with heap:=h',toks:=t'}:=I.un (Un.write mu he k heo) (I.hok.write mu he k heo new)
theorem Inv.pins_of{pins':List (Addr×Obj)}(I:Inv X pins σ H s)(h: ∀p∈pins',s.heap.get? p.1=some p.2/\H p.1=none/\p.1≠X.env.locals/\p.1∉X.fs/\ ∀v,p.2.data≠ .cell v):Inv X pins' σ H s:=
 ⟨I.ok,I.os,I.bare,I.base,I.loc,I.cell,I.free,I.freeC,fun p hp=> (aL.mp hp).elim (fun z=> I.pin p (ff _ z)) (h p),I.hok,I.len⟩
theorem ann{N:List Str}(hN:N.Nodup){j:Nat}(a:N[i]?=some x)(b:N[j]?=some x):i=j:=by
 obtain⟨h1,e1⟩:=aC.mp a
 obtain⟨h2,e2⟩:=aC.mp b
 exact (List.getElem_inj hN).mp (e1.trans e2.symm)
theorem afv{v:V}(I:Inv X pins σ H s)(hN:X.N.Nodup)(hi:X.N[i]?=some x)(hx:Loc X.env.scope x)(r:RelV v u)(h: ∀s',Inv X pins (σ.set i (some v)) H s' -> (∃a,de a s.heap s'.heap/\(a=X.env.locals\/X.env.cells.lookup x=some a)) -> Q () s')(hf:X.fn x=true\/X.env.scope.names.lookup x=some .local:=by first|exact .inl rfl|exact .inr rfl|assumption):wpAny M A (storeName X.env x u) Q E s:=by
 obtain⟨m,hn,hl⟩:=id I.loc
 have hcls:(X.env.scope.kind==.class||(X.env.scope.kind==.module&&X.env.locals !=X.env.globals))=false:=by rw [I.ok.kind];rfl
 have hiσ:i < σ.length:=by rw [I.len];exact (aC.mp hi).1
 have cne:=I.cne
 have tracked: ∀{a:Addr} {h':Heap},(∃o,s.heap.get? a=some o/\H a=none) -> de a s.heap h' -> HOk X.prog X.w H h':=fun {a h'} ha hs b ob e=> by
  obtain⟨_,_,hfree⟩:=ha
  refine (I.hok b ob e).stay (fun c w' hc q=> (hs.2 c ?_).trans q) (fun _ q=> q) fun _ _ q=> q
  rintro rfl
  rcases hc with rfl|hc
  ·rw [hfree]at e;cases e
  ·rw [hfree]at hc;cases hc
 rcases hx with hk|hk
 ·refine wpAny_storeName_local hk hn (fun h' hn' hs=> ?_) hcls
  obtain⟨oL,_,_,hoL,_⟩:=id hn
  refine h _ ⟨I.ok,I.os,I.bare,⟨fun b o e n hb hx=> ?_,fun b o e n hb hx=> ?_,I.base.free,fun b o e hx=> ?_,I.base.tups,I.base.frzs,I.base.tbls⟩,⟨_,hn',fun j y v' e1 e2 e3=> ?_⟩,fun y c e=> ?_,I.free,I.freeC,fun p hp=> ?_,tracked ⟨oL,hoL,I.free⟩ hs,by simpa using I.len⟩ ⟨_,hs,.inl rfl⟩
  ·exact (hs.2 b (aT (aW (aM e) I.ok.above))).trans (I.base.keep b o e n hb hx)
  ·obtain⟨sl,e1⟩:=I.base.slot b o e n hb hx
   exact⟨sl,(hs.2 b (aT (aW (aM e) I.ok.above))).trans e1⟩
  ·obtain⟨o',e1⟩:=I.base.there b o e hx
   exact⟨o',(hs.2 b (aT (aW (aM e) I.ok.above))).trans e1⟩
  ·by_cases hj:j=i
   ·subst hj
    rw [hi]at e1;cases e1
    rw [bI hiσ]at e2
    cases e2
    exact⟨u,r,.inl ⟨hk,by simp⟩⟩
   ·rw [bq (di hj)]at e2
    obtain⟨u',r',q⟩:=hl j y v' e1 e2 e3
    refine⟨u',r',?_⟩
    rcases q with ⟨k,e⟩|⟨k,c,e,z⟩
    ·refine .inl ⟨k,?_⟩
     have:y≠x:=fun e=> hj (ann hN e1 (e▸hi))
     simp [this,e]
    ·exact .inr ⟨k,c,e,z.sameBut hs (cne y c e)⟩
  ·obtain⟨w',z⟩:=I.cell y c e
   exact⟨w',z.sameBut hs (cne y c e)⟩
  ·obtain⟨e,n,ne,nf,d⟩:=I.pin p hp
   exact⟨(hs.2 p.1 ne).trans e,n,ne,nf,d⟩
 ·have hfn:X.fn x=true:=by
   rcases hf with z|z
   ·exact z
   ·rw [z]at hk;cases hk
  obtain⟨c,hc⟩:=I.ok.has x (.inl hk)
  obtain⟨w',z⟩:=I.cell x c hc
  refine wpAny_storeName_cell I.ok.kind hk hc z (fun h' hc' hs=> ?_)
  obtain⟨oc,hoc,hocd⟩:=id z
  refine h {s with heap:=h'} ⟨I.ok,I.os,I.bare,⟨fun b o e n hb hx=> ?_,fun b o e n hb hx=> ?_,I.base.free,fun b o e hx=> ?_,I.base.tups,I.base.frzs,I.base.tbls⟩,⟨m,hn.sameBut hs (di (cne x c hc)),fun j y v' e1 e2 e3=> ?_⟩,fun y c' e=> ?_,I.free,I.freeC,fun p hp=> ?_,tracked ⟨oc,hoc,I.freeC x c hc⟩ hs,by simpa using I.len⟩ ⟨c,hs,.inr hc⟩
  ·exact (hs.2 b (aT (aW (aM e) (I.ok.cab x c hfn hc)))).trans (I.base.keep b o e n hb hx)
  ·obtain⟨sl,e1⟩:=I.base.slot b o e n hb hx
   exact⟨sl,(hs.2 b (aT (aW (aM e) (I.ok.cab x c hfn hc)))).trans e1⟩
  ·obtain⟨o',e1⟩:=I.base.there b o e hx
   exact⟨o',(hs.2 b (aT (aW (aM e) (I.ok.cab x c hfn hc)))).trans e1⟩
  ·by_cases hj:j=i
   ·subst hj
    rw [hi]at e1;cases e1
    rw [bI hiσ]at e2
    cases e2
    exact⟨u,r,.inr ⟨.inl hk,c,hc,hc'⟩⟩
   ·rw [bq (di hj)]at e2
    obtain⟨u',r',q⟩:=hl j y v' e1 e2 e3
    refine⟨u',r',?_⟩
    rcases q with q|⟨k,c',e,z'⟩
    ·exact .inl q
    ·refine .inr ⟨k,c',e,z'.sameBut hs ?_⟩
     rintro rfl
     exact hj (ann hN e1 (I.ok.inj _ _ _ e hc▸hi))
  ·by_cases hcc:c'=c
   ·subst hcc;exact⟨_,hc'⟩
   ·obtain⟨w2,z2⟩:=I.cell y c' e
    exact⟨w2,z2.sameBut hs hcc⟩
  ·obtain⟨e,n,ne,nf,d⟩:=I.pin p hp
   refine⟨(hs.2 p.1 ?_).trans e,n,ne,nf,d⟩
   intro q
   rw [q,hoc]at e
   have q':oc=p.2:=cC e
   exact d w' (by rw [←q'];exact hocd)
theorem amh{v:V}(I:Inv X pins σ H s)(hN:X.N.Nodup)(hi:X.N[i]?=some x)(hx:Loc X.env.scope x)(r:RelV v u)(h: ∀s',Inv X pins (σ.set i (some v)) H s' -> Q () s')(hf:X.fn x=true\/X.env.scope.names.lookup x=some .local:=by first|exact .inl rfl|exact .inr rfl|assumption):wpAny M A (storeName X.env x u) Q E s:=
 afv I hN hi hx r (fun s' I' _=> h s' I') hf
theorem Inv.call'{s':ak}(I:Inv X pins σ H s)(ho:s'.os=s.os)(u:Un (frs X.stack) ch H H' s.heap s'.heap)(hok:HOk X.prog X.w H' s'.heap)(hg:gF s'.gens)(hch: ∀b∈ch,(b∈X.ex\/X.s₀.heap.objs.size <=b)/\b≠X.env.locals/\(∀x c,X.env.cells.lookup x=some c -> c≠b)/\ ∀p∈X.pn++pins,p.1≠b):Inv X pins σ H' s':=by
 obtain⟨h',g',d',t',o'⟩:=s'
 have e:o'=s.os:=ho
 subst e
 exact I.call (g':=g') (t':=t') (d':=d') u hok hg hch
end
abbrev XK:=af -> Option Addr -> Hp -> Prop
abbrev St:=List (Option V)
abbrev VK:=V -> Hp -> Prop
abbrev TE:=St -> Hp -> VK -> Prop
abbrev TT:=St -> Hp -> (Bool -> Hp -> Prop) -> Prop
abbrev TA:=St -> Hp -> (List V -> Hp -> Prop) -> Prop
structure Ends where
 nx:St -> Hp -> Prop
 rt:VK
 bk:St -> Hp -> Prop:=fun _ _=> False
 ct:St -> Hp -> Prop:=fun _ _=> False
abbrev TS:=Ends -> St -> Hp -> Prop
def EP(X:Cx)(pins:List (Addr×Obj))(σ:St)(Q:VK)(u:af)(s':ak):Prop:= ∃v H',Inv X pins σ H' s'/\RelV v u/\Q v H'
def TP(X:Cx)(pins:List (Addr×Obj))(σ:St)(Q:Bool -> Hp -> Prop)(b:Bool)(s':ak):Prop:= ∃H',Inv X pins σ H' s'/\Q b H'
def AP(X:Cx)(pins:List (Addr×Obj))(σ:St)(Q:List V -> Hp -> Prop)(us:List af)(s':ak):Prop:= ∃vs H',Inv X pins σ H' s'/\jn vs us/\Q vs H'
def SP(X:Cx)(pins:List (Addr×Obj))(D:Ends)(f:Flow)(s':ak):Prop:=
 match f with
 |.next=> ∃σ' H',Inv X pins σ' H' s'/\D.nx σ' H'
 |.brk=> ∃σ' H',Inv X pins σ' H' s'/\D.bk σ' H'
 |.cont=> ∃σ' H',Inv X pins σ' H' s'/\D.ct σ' H'
 |.ret u=> ∃v σ' H',Inv X pins σ' H' s'/\RelV v u/\D.rt v H'
structure PE (X:Cx) (e:Expr) (t:TE):Prop where
 run: ∀(pins:List (Addr×Obj)) (s:ak) (σ:St) (H:Hp) (Q:VK),Inv X pins σ H s -> t σ H Q -> wpAny (model X.prog X.w) X.A (eval e X.env) (EP X pins σ Q) X.xe s
instance {X:Cx} {e:Expr} {t:TE}:CoeFun (PE X e t) fun _=> ∀(pins:List (Addr×Obj)) (s:ak) (σ:St) (H:Hp) (Q:VK),Inv X pins σ H s -> t σ H Q -> wpAny (model X.prog X.w) X.A (eval e X.env) (EP X pins σ Q) X.xe s:=⟨PE.run⟩
structure PT (X:Cx) (e:Expr) (t:TT):Prop where
 run: ∀(pins:List (Addr×Obj)) (s:ak) (σ:St) (H:Hp) (Q:Bool -> Hp -> Prop),Inv X pins σ H s -> t σ H Q -> wpAny (model X.prog X.w) X.A (isTrue e X.env (eval e X.env)) (TP X pins σ Q) X.xe s
instance {X:Cx} {e:Expr} {t:TT}:CoeFun (PT X e t) fun _=> ∀(pins:List (Addr×Obj)) (s:ak) (σ:St) (H:Hp) (Q:Bool -> Hp -> Prop),Inv X pins σ H s -> t σ H Q -> wpAny (model X.prog X.w) X.A (isTrue e X.env (eval e X.env)) (TP X pins σ Q) X.xe s:=⟨PT.run⟩
structure PW (X:Cx) (e:Expr) (t:TT):Prop where
 run: ∀(whole:Sem af) (pins:List (Addr×Obj)) (s:ak) (σ:St) (H:Hp) (Q:Bool -> Hp -> Prop),Inv X pins σ H s -> t σ H Q -> wpAny (model X.prog X.w) X.A (isTrue e X.env whole) (TP X pins σ Q) X.xe s
instance {X:Cx} {e:Expr} {t:TT}:CoeFun (PW X e t) fun _=> ∀(whole:Sem af) (pins:List (Addr×Obj)) (s:ak) (σ:St) (H:Hp) (Q:Bool -> Hp -> Prop),Inv X pins σ H s -> t σ H Q -> wpAny (model X.prog X.w) X.A (isTrue e X.env whole) (TP X pins σ Q) X.xe s:=⟨PW.run⟩
theorem PW.pt{X:Cx}{t:TT}(h:PW X e t):PT X e t:=⟨h _⟩
structure PA (X:Cx) (es:List Expr) (t:TA):Prop where
 run: ∀(pos:Pos) (pins:List (Addr×Obj)) (s:ak) (σ:St) (H:Hp) (Q:List V -> Hp -> Prop),Inv X pins σ H s -> t σ H Q -> wpAny (model X.prog X.w) X.A (spliced (backTo pos (starEach es X.env))) (AP X pins σ Q) X.xe s
instance {X:Cx} {es:List Expr} {t:TA}:CoeFun (PA X es t) fun _=> ∀(pos:Pos) (pins:List (Addr×Obj)) (s:ak) (σ:St) (H:Hp) (Q:List V -> Hp -> Prop),Inv X pins σ H s -> t σ H Q -> wpAny (model X.prog X.w) X.A (spliced (backTo pos (starEach es X.env))) (AP X pins σ Q) X.xe s:=⟨PA.run⟩
structure PS (X:Cx) (st:Stmt) (t:TS):Prop where
 run: ∀(pins:List (Addr×Obj)) (s:ak) (σ:St) (H:Hp) (D:Ends),Inv X pins σ H s -> t D σ H -> wpAny (model X.prog X.w) X.A (exec st X.env) (SP X pins D) X.xe s
instance {X:Cx} {st:Stmt} {t:TS}:CoeFun (PS X st t) fun _=> ∀(pins:List (Addr×Obj)) (s:ak) (σ:St) (H:Hp) (D:Ends),Inv X pins σ H s -> t D σ H -> wpAny (model X.prog X.w) X.A (exec st X.env) (SP X pins D) X.xe s:=⟨PS.run⟩
structure PSs (X:Cx) (st:List Stmt) (t:TS):Prop where
 run: ∀(pins:List (Addr×Obj)) (s:ak) (σ:St) (H:Hp) (D:Ends),Inv X pins σ H s -> t D σ H -> wpAny (model X.prog X.w) X.A (execs st X.env) (SP X pins D) X.xe s
instance {X:Cx} {st:List Stmt} {t:TS}:CoeFun (PSs X st t) fun _=> ∀(pins:List (Addr×Obj)) (s:ak) (σ:St) (H:Hp) (D:Ends),Inv X pins σ H s -> t D σ H -> wpAny (model X.prog X.w) X.A (execs st X.env) (SP X pins D) X.xe s:=⟨PSs.run⟩
theorem thn{α:Type}{t:Sem α}{Q Q':α -> ak -> Prop}(h:wpAny M A t Q E s)(hQ: ∀a s,Q a s -> Q' a s):wpAny M A t Q' E s:=bE h hQ fun _ _ x=> x
section
variable{X:Cx}
noncomputable def a3x(i:Nat):TE:=fun σ H Q=> ∃v,σ[i]?=some (some v)/\Q v H
noncomputable def tC(v:V):TE:=fun _ H Q=> Q v H
theorem a4m(hN:X.N[i]?=some x)(hv:Vis X.env.scope x)(hd:(x==("__debug__":Str))=false:=by decide)(hcd:(x==("__classdict__":Str))=false:=by decide):PE X (.Name x pos) (a3x i):=by
 (first|refine⟨?_⟩|skip);intro pins s σ H Q I h
 obtain⟨v,e,h⟩:=h
 obtain⟨m,hn,hl⟩:=I.loc
 obtain⟨u,r,l⟩:=hl i x v hN e hv
 have fin:EP X pins σ Q u s:=⟨v,H,I,r,h⟩
 rcases l with ⟨hk,hm⟩|⟨hk,c,hc,hcell⟩
 ·exact wpAny_Name (wpAny_loadName_local I.ok.kind hk hn hm fin) hd
 ·rcases hk with hk|hk
  ·exact wpAny_Name (wpAny_loadName_cell I.ok.kind hk hc hcell fin) hd
  ·exact wpAny_Name (wpAny_loadName_free I.ok.kind hk hc hcell fin hcd) hd
theorem auj{i j pos}:PE X (.Constant (.int i) j pos) (tC (.int i)):=.mk <|fun _ _ _ H _ I h=> wpAny_Constant_int ⟨.int i,H,I.tok _,⟨_,rfl⟩,h⟩
theorem ayb{b j pos}:PE X (.Constant (.bool b) j pos) (tC (.bl b)):=.mk <|fun _ _ _ H _ I h=> Constant_bool ⟨.bl b,H,I,rfl,h⟩
theorem aue{j pos}:PE X (.Constant .none j pos) (tC .non):=.mk <|fun _ _ _ H _ I h=> Constant_none ⟨.non,H,I,rfl,h⟩
theorem auk{x j pos}:PE X (.Constant (.str x) j pos) (tC (.str x)):=.mk <|fun _ _ _ H _ I h=> Calls.Constant_str ⟨.str x,H,I.tok _,⟨_,rfl⟩,h⟩
def Gl(X:Cx)(x:Str):Prop:=X.env.kindOf x=some .globalImplicit
theorem ap9{σ:St}{H:Hp}{Q:af -> ak -> Prop}(I:Inv X pins σ H s)(hg:Gl X x)(hm:X.mg x=some u)(h:Q u s)(hd:(x==("__debug__":Str))=false:=by decide):wpAny (model X.prog X.w) X.A (eval (.Name x pos) X.env) Q E s:=
 iq I.ok.kind hg (Calls.loadGlobal_global (by rw [I.ok.glob];exact I.mod.glob.keeps I.bk) hm h) hd
theorem aed{σ:St}{H:Hp}{Q:af -> ak -> Prop}(I:Inv X pins σ H s)(hg:Gl X x)(hm:X.mg x=none)(hv:bM x=some u)(h:Q u s)(hn:x≠"__name__":=by decide)(hd:(x==("__debug__":Str))=false:=by decide):wpAny (model X.prog X.w) X.A (eval (.Name x pos) X.env) Q E s:=by
 obtain⟨mb,h1,h2⟩:=I.mod.blt
 exact iq I.ok.kind hg (Calls.loadGlobal_builtin (by rw [I.ok.glob];exact I.mod.glob.keeps I.bk) hm (by rw [I.ok.blt];exact h1.keeps I.bk) ((h2 x hn).trans hv) h) hd
theorem azm{v:V}(hg:Gl X x)(hm:X.mg x=some u)(r:RelV v u)(hd:(x==("__debug__":Str))=false:=by decide):PE X (.Name x pos) (tC v):=
 .mk <|fun _ _ _ H _ I h=> ap9 I hg hm ⟨v,H,I,r,h⟩ hd
theorem a0g{v:V}(hg:Gl X x)(hm:X.mg x=none)(hv:bM x=some u)(r:RelV v u)(hn:x≠"__name__":=by decide)(hd:(x==("__debug__":Str))=false:=by decide):PE X (.Name x pos) (tC v):=
 .mk <|fun _ _ _ H _ I h=> aed I hg hm hv ⟨v,H,I,r,h⟩ hn hd
variable{a b:Expr}{ta tb:TE}{pos:Pos}
variable{tA tB':TT}{ju:List Expr}
noncomputable def a21(t u:TT):TT:=fun σ H Q=> t σ H fun c H1=> if c=true then u σ H1 Q else Q false H1
noncomputable def tOr(t u:TT):TT:=fun σ H Q=> t σ H fun c H1=> if c=true then Q true H1 else u σ H1 Q
noncomputable def a3a(t:TT):TT:=fun σ H Q=> t σ H fun c H1=> Q (!c) H1
theorem a0l(ha:PT X a tA):PW X (.BoolOp .And [a] pos) tA:=by
 (first|refine⟨?_⟩|skip);intro wh pins s σ H Q I h
 refine isTrue_and (thn (ha pins s σ H Q I h) fun c s1 e=> ?_)
 cases c with
 |true=> exact isTrue_and_nil e
 |false=> exact e
theorem a4c(ha:PT X a tA):PW X (.BoolOp .Or [a] pos) tA:=by
 (first|refine⟨?_⟩|skip);intro wh pins s σ H Q I h
 refine isTrue_or (thn (ha pins s σ H Q I h) fun c s1 e=> ?_)
 cases c with
 |false=> exact isTrue_or_nil e
 |true=> exact e
theorem a48(ha:PT X a tA)(hb:PW X (.BoolOp .And (b::ju) pos) tB'):PW X (.BoolOp .And (a::b::ju) pos) (a21 tA tB'):=by
 (first|refine⟨?_⟩|skip);intro wh pins s σ H Q I h
 refine isTrue_and (thn (ha pins s σ H _ I h) fun c s1 ⟨H1,I1,q1⟩=> ?_)
 cases c with
 |true=> exact hb wh pins s1 σ H1 Q I1 q1
 |false=> exact⟨H1,I1,q1⟩
theorem a5k(ha:PT X a tA)(hb:PW X (.BoolOp .Or (b::ju) pos) tB'):PW X (.BoolOp .Or (a::b::ju) pos) (tOr tA tB'):=by
 (first|refine⟨?_⟩|skip);intro wh pins s σ H Q I h
 refine isTrue_or (thn (ha pins s σ H _ I h) fun c s1 ⟨H1,I1,q1⟩=> ?_)
 cases c with
 |true=> exact⟨H1,I1,q1⟩
 |false=> exact hb wh pins s1 σ H1 Q I1 q1
theorem a3h(ha:PT X a tA):PT X (.UnaryOp .Not a pos) (a3a tA):=by
 (first|refine⟨?_⟩|skip);intro pins s σ H Q I h
 exact isTrue_not (ha pins s σ H (fun c H1=> Q (!c) H1) I h)
noncomputable def a73(ta tb:TE):TE:=fun σ H Q=> ta σ H fun x H1=> ∃c,x=.bl c/\if c=true then tb σ H1 Q else Q (.bl false) H1
noncomputable def a7o(ta tb:TE):TE:=fun σ H Q=> ta σ H fun x H1=> ∃c,x=.bl c/\if c=true then Q (.bl true) H1 else tb σ H1 Q
noncomputable def a5e(ta:TE):TE:=fun σ H Q=> ta σ H fun x H1=> ∃c,x=.bl c/\Q (.bl (!c)) H1
theorem a2x{op}{t:TE}(h:PE X a t):PE X (.BoolOp op [a] pos) t:=.mk <|fun pins s σ H Q I hw=> BoolOp_one (h pins s σ H Q I hw)
theorem a4i(ha:PE X a ta)(hb:PE X (.BoolOp .And (b::ju) pos) tb):PE X (.BoolOp .And (a::b::ju) pos) (a73 ta tb):=by
 (first|refine⟨?_⟩|skip);intro pins s σ H Q I h
 refine BoolOp_and (thn (ha pins s σ H _ I h) fun v s1 ⟨x,H1,I1,r1,q1⟩=> ?_)
 obtain⟨c,rfl,q1⟩:=q1
 cases r1
 refine ck ?_
 cases c with
 |true=> exact hb pins s1 σ H1 Q I1 q1
 |false=> exact⟨.bl false,H1,I1,rfl,q1⟩
theorem a70(ha:PE X a ta)(hb:PE X (.BoolOp .Or (b::ju) pos) tb):PE X (.BoolOp .Or (a::b::ju) pos) (a7o ta tb):=by
 (first|refine⟨?_⟩|skip);intro pins s σ H Q I h
 refine BoolOp_or (thn (ha pins s σ H _ I h) fun v s1 ⟨x,H1,I1,r1,q1⟩=> ?_)
 obtain⟨c,rfl,q1⟩:=q1
 cases r1
 refine ck ?_
 cases c with
 |false=> exact hb pins s1 σ H1 Q I1 q1
 |true=> exact⟨.bl true,H1,I1,rfl,q1⟩
theorem a2z(ha:PE X a ta):PE X (.UnaryOp .Not a pos) (a5e ta):=by
 (first|refine⟨?_⟩|skip);intro pins s σ H Q I h
 refine UnaryOp_ (thn (ha pins s σ H _ I h) fun v s1 ⟨x,H1,I1,r1,q1⟩=> ?_)
 obtain⟨c,rfl,q1⟩:=q1
 cases r1
 exact not_of (ck ⟨.bl (!c),H1,I1,rfl,q1⟩)
noncomputable def tIf(t:TT)(ta tb:TE):TE:=fun σ H Q=> t σ H fun c H1=> if c=true then ta σ H1 Q else tb σ H1 Q
theorem aw0{c:Expr}(hc:PT X c tA)(ha:PE X a ta)(hb:PE X b tb):PE X (.IfExp c a b pos) (tIf tA ta tb):=by
 (first|refine⟨?_⟩|skip);intro pins s σ H Q I h
 refine wpAny_IfExp (thn (hc pins s σ H _ I h) fun d s1 ⟨H1,I1,q1⟩=> ?_)
 cases d with
 |true=> exact ha pins s1 σ H1 Q I1 q1
 |false=> exact hb pins s1 σ H1 Q I1 q1
end
def SqL(K:aw)(H:Hp)(a:Addr)(xs:List V):Prop:=
 Rd H a (.lst xs)\/
  ∃(o:Obj) (its:Array af) (n:Nat),K.lookup a=some o/\o.cls=.type "list"/\o.dict=none/\o.data=.seq its n/\its.size <=sizeLine/\jn xs its.toList
def SqT(K:aw)(H:Hp)(a:Addr)(xs:List V):Prop:=
 Rd H a (.tup xs)\/
  ∃(o:Obj) (its:Array af) (n:Nat),K.lookup a=some o/\o.cls=.type "tuple"/\o.data=.seq its n/\its.size <=sizeLine/\jn xs its.toList
noncomputable def a7n:af -> Option V
 |.none=> some .non
 |.bool b=> some (.bl b)
 |.int i _=> some (.int i)
 |.str x _=> some (.str x)
 |.bytes b _=> some (.byt b)
 |.float b _=> some (.flt b)
 |.ref a=> some (.ref a)
 |.type n=> some (.ty n)
 |_=> none
theorem RelV.abs{x:V}(r:RelV x u):a7n u=some x:=by
 cases x with
 |non=> cases r;rfl
 |bl _=> cases r;rfl
 |int _=> obtain⟨t,rfl⟩:=r;rfl
 |str _=> obtain⟨t,rfl⟩:=r;rfl
 |byt _=> obtain⟨t,rfl⟩:=r;rfl
 |flt _=> obtain⟨t,rfl⟩:=r;rfl
 |ref _=> cases r;rfl
 |ty _=> cases r;rfl
theorem RelV.inj{x y:V}(r:RelV x u)(q:RelV y u):x=y:=cC (r.abs.symm.trans q.abs)
theorem jn.inj: ∀{xs ys:List V} {us:List af},jn xs us -> jn ys us -> xs=ys
 |_,_,_,.nil,.nil=> rfl
 |_,_,_,.cons r t,.cons r' t'=> by rw [r.inj r',jn.inj t t']
section
variable{X:Cx}{pins:List (Addr×Obj)}{σ:St}{H:Hp}{s:ak}{a:Addr}{xs ys:List V}
theorem SqL.of(h:H a=some (.lst xs)):SqL K H a xs:=.inl (.inl h)
theorem SqT.of(h:H a=some (.tup xs)):SqT K H a xs:=.inl (.inl h)
theorem Inv.list(I:Inv X pins σ H s)(h:SqL X.K H a xs): ∃its:List af,jn xs its/\PlainL s.heap a its.toArray/\xs.length <=sizeLine:=by
 rcases h with h|⟨o,its,n,hk,hc,hd,hs,hz,r⟩
 ·obtain⟨z,its,n,r,e⟩:=h.ok I.hok
  exact⟨its,r,⟨_,n,e,rfl,rfl,rfl⟩,z⟩
 ·refine⟨its.toList,r,⟨o,n,I.kIn a o hk,hc,hd,by simpa using hs⟩,?_⟩
  have e:=r.length
  simp only [aG]at e
  lia
theorem Inv.tuple(I:Inv X pins σ H s)(h:SqT X.K H a xs): ∃its:List af,jn xs its/\IsTup s.heap a its.toArray/\xs.length <=sizeLine:=by
 rcases h with h|⟨o,its,n,hk,hc,hs,hz,r⟩
 ·obtain⟨z,its,r,p⟩:=h.ok I.hok
  exact⟨its,r,p.tup,z⟩
 ·refine⟨its.toList,r,⟨o,I.kIn a o hk,hc,n,by simpa using hs⟩,?_⟩
  have e:=r.length
  simp only [aG]at e
  lia
theorem Inv.list_inj(I:Inv X pins σ H s)(h:SqL X.K H a xs)(h':SqL X.K H a ys):xs=ys:=by
 obtain⟨its,r,⟨o,n,e,_,_,d⟩,_⟩:=I.list h
 obtain⟨its',r',⟨o',n',e',_,_,d'⟩,_⟩:=I.list h'
 rw [e]at e';cases e'
 rw [d]at d'
 injection d' with d1 _
 have:its=its':=by simpa using congrArg Array.toList d1
 subst this
 exact r.inj r'
theorem Inv.tuple_inj(I:Inv X pins σ H s)(h:SqT X.K H a xs)(h':SqT X.K H a ys):xs=ys:=by
 obtain⟨its,r,⟨o,e,_,n,d⟩,_⟩:=I.tuple h
 obtain⟨its',r',⟨o',e',_,n',d'⟩,_⟩:=I.tuple h'
 rw [e]at e';cases e'
 rw [d]at d'
 injection d' with d1 _
 have:its=its':=by simpa using congrArg Array.toList d1
 subst this
 exact r.inj r'
end
abbrev Cx.wish(X:Cx)(E:af -> ak -> Prop):Cx:={X with xe:=E}
abbrev Cx.nox(X:Cx):Cx:=X.wish fun _ _=> False
theorem Cx.Ok.wish{X:Cx}(ok:X.Ok)(E:af -> ak -> Prop):(X.wish E).Ok:=
 ⟨ok.mod,ok.kind,ok.glob,ok.blt,ok.above,ok.inj,ok.has,ok.cab,ok.hd,ok.frames,ok.stk,ok.exf,ok.bs,ok.bsz,ok.noex,ok.exfs,ok.funs,ok.frf⟩
theorem Cx.Ok.unwish{X:Cx}(ok:(X.wish E).Ok):X.Ok:=
 ⟨ok.mod,ok.kind,ok.glob,ok.blt,ok.above,ok.inj,ok.has,ok.cab,ok.hd,ok.frames,ok.stk,ok.exf,ok.bs,ok.bsz,ok.noex,ok.exfs,ok.funs,ok.frf⟩
section
variable{X:Cx}{pins:List (Addr×Obj)}{σ:St}{H:Hp}{s:ak}{E:af -> ak -> Prop}
theorem Inv.wish(I:Inv X pins σ H s)(E:af -> ak -> Prop):Inv (X.wish E) pins σ H s:=⟨I.ok.wish E,I.os,I.bare,I.base,I.loc,I.cell,I.free,I.freeC,I.pin,I.hok,I.len⟩
theorem Inv.unwish(I:Inv (X.wish E) pins σ H s):Inv X pins σ H s:=⟨I.ok.unwish,I.os,I.bare,I.base,I.loc,I.cell,I.free,I.freeC,I.pin,I.hok,I.len⟩
theorem SP.unwish{D:Ends}{f:Flow}{s':ak}(h:SP (X.wish E) pins D f s'):SP X pins D f s':=by
 cases f with
 |next=> obtain⟨σ',H',I,q⟩:=h;exact⟨σ',H',I.unwish,q⟩
 |brk=> obtain⟨σ',H',I,q⟩:=h;exact⟨σ',H',I.unwish,q⟩
 |cont=> obtain⟨σ',H',I,q⟩:=h;exact⟨σ',H',I.unwish,q⟩
 |ret u=> obtain⟨v,σ',H',I,r,q⟩:=h;exact⟨v,σ',H',I.unwish,r,q⟩
theorem PSs.nox{st:List Stmt}{t:TS}(h:PSs X.nox st t):PSs X st t:=.mk <|fun pins s σ H D I hw=>
 bE (h pins s σ H D (I.wish _) hw) (fun _ _ q=> q.unwish) fun _ _ z=> dZ z
end
section
variable{X:Cx}{st:Stmt}{ju:List Stmt}{t u:TS}{e:Expr}{te:TE}{pos:Pos}
noncomputable def a6c:TS:=fun D σ H=> D.nx σ H
noncomputable def a3y(t u:TS):TS:=fun D σ H=> t {D with nx:=u D} σ H
theorem ayx:PSs X [] a6c:=.mk <|fun _ _ σ H _ I h=> i9 ⟨σ,H,I,h⟩
theorem ava(h1:PS X st t)(h2:PSs X ju u):PSs X (st::ju) (a3y t u):=by
 (first|refine⟨?_⟩|skip);intro pins s σ H D I h
 refine wpAny_execs_cons (thn (h1 pins s σ H {D with nx:=u D} I h) fun f s1 q=> ?_)
 cases f with
 |next=>
  obtain⟨σ',H',I',q⟩:=q
  exact h2 pins s1 σ' H' D I' q
 |ret v=> exact q
 |brk=> exact q
 |cont=> exact q
theorem azc(h1:PS X st t):PSs X [st] t:=by
 (first|refine⟨?_⟩|skip);intro pins s σ H D I h
 refine wpAny_execs_cons (thn (h1 pins s σ H D I h) fun f s1 q=> ?_)
 cases f with
 |next=> exact i9 q
 |ret v=> exact q
 |brk=> exact q
 |cont=> exact q
theorem Inv.quiet{σ:St}{H:Hp}(I:Inv X pins σ H s):interactive X.env=false:=by simp [interactive,I.ok.kind]
noncomputable def a58(te:TE):TS:=fun D σ H=> te σ H fun _ H1=> D.nx σ H1
theorem az4(he:PE X e te)(hs:fJ e none pos.line X.env=pure false:=by rfl):PS X (.Expr e pos) (a58 te):=by
 (first|refine⟨?_⟩|skip);intro pins s σ H D I h
 exact wpAny_Expr_any (thn (he pins s σ H _ I h) fun v s1 ⟨x,H1,I1,r1,q1⟩=> ⟨σ,H1,I1,q1⟩) I.quiet hs
noncomputable def a82(te:TE):TS:=fun D σ H=> te σ H D.rt
theorem a2t(he:PE X e te):PS X (.Return (some e) pos) (a82 te):=by
 (first|refine⟨?_⟩|skip);intro pins s σ H D I h
 exact wpAny_Return_some (thn (he pins s σ H _ I h) fun v s1 ⟨x,H1,I1,r1,q1⟩=> ⟨x,σ,H1,I1,r1,q1⟩)
noncomputable def a8b(c:TT)(t u:TS):TS:=fun D σ H=> c σ H fun b H1=> if b=true then t D σ H1 else u D σ H1
theorem a6s{c:Expr}{a b:List Stmt}{tc:TT}(hc:PT X c tc)(ha:PSs X a t)(hb:PSs X b u):PS X (.If c a b pos) (a8b tc t u):=by
 (first|refine⟨?_⟩|skip);intro pins s σ H D I h
 refine wpAny_If (thn (hc pins s σ H _ I h) fun d s1 ⟨H1,I1,q1⟩=> ?_)
 cases d with
 |true=> exact ha pins s1 σ H1 D I1 q1
 |false=> exact hb pins s1 σ H1 D I1 q1
end
abbrev TG:=V -> St -> Hp -> (St -> Hp -> Prop) -> Prop
abbrev TGs:=List V -> St -> Hp -> (St -> Hp -> Prop) -> Prop
def PG(X:Cx)(target:Expr)(t:TG):Prop:=
 ∀(pins:List (Addr×Obj)) (s:ak) (σ:St) (H:Hp) (v:V) (u:af) (Q:St -> Hp -> Prop),Inv X pins σ H s -> RelV v u -> t v σ H Q ->
  wpAny (model X.prog X.w) X.A (assign target X.env u) (fun _ s'=> ∃σ' H',Inv X pins σ' H' s'/\Q σ' H') X.xe s
def PGs(X:Cx)(ts:List Expr)(t:TGs):Prop:=
 ∀(pins:List (Addr×Obj)) (s:ak) (σ:St) (H:Hp) (vs:List V) (us:List af) (Q:St -> Hp -> Prop),Inv X pins σ H s -> jn vs us -> t vs σ H Q ->
  wpAny (model X.prog X.w) X.A (assignInOrder ((b6 ts X.env).map (·.2)) us) (fun _ s'=> ∃σ' H',Inv X pins σ' H' s'/\Q σ' H') X.xe s
abbrev aqd:=V -> V -> V -> Hp -> (Hp -> Prop) -> Prop
def ajl(X:Cx)(t:aqd):Prop:=
 ∀(pins:List (Addr×Obj)) (s:ak) (σ:St) (H:Hp) (o i v:V) (ov iv u:af) (Q:Hp -> Prop),Inv X pins σ H s -> RelV o ov -> RelV i iv -> RelV v u -> t o i v H Q ->
  wpAny (model X.prog X.w) X.A (setItem ov iv u) (fun _ s'=> ∃H',Inv X pins σ H' s'/\Q H') X.xe s
section
variable{X:Cx}{pos:Pos}
noncomputable def al9(i:Nat):TG:=fun v σ H Q=> Q (σ.set i (some v)) H
theorem ayp(hN:X.N.Nodup)(hi:X.N[i]?=some x)(hx:Loc X.env.scope x)(hf:X.fn x=true\/X.env.scope.names.lookup x=some .local:=by first|exact .inl rfl|exact .inr rfl|assumption):PG X (.Name x pos) (al9 i):=by
 (first|refine⟨?_⟩|skip);intro pins s σ H v u Q I r h
 exact iC (amh I hN hi hx r (fun s' I'=> ⟨_,H,I',h⟩) hf)
noncomputable def ar9:TGs:=fun vs σ H Q=> vs=[]/\Q σ H
noncomputable def af5(t:TG)(u:TGs):TGs:=fun vs σ H Q=> ∃v r,vs=v::r/\t v σ H fun σ' H'=> u r σ' H' Q
theorem a0f:PGs X [] ar9:=by
 (first|refine⟨?_⟩|skip);intro pins s σ H vs us Q I r h
 obtain⟨e,h⟩:=h
 subst e
 cases r
 exact assignInOrder_nil ⟨σ,H,I,h⟩
theorem ahb{es:List Expr}{t:TG}{u:TGs}(h1:PG X e t)(h2:PGs X es u)(hs:(b6 (e::es) X.env).map (·.2)=assign e X.env::(b6 es X.env).map (·.2):=by rfl):PGs X (e::es) (af5 t u):=by
 (first|refine⟨?_⟩|skip);intro pins s σ H vs us Q I r h
 obtain⟨v,vr,e1,h⟩:=h
 subst e1
 cases r with
 |cons r rr=>
  rw [hs]
  refine assignInOrder_cons (thn (h1 pins s σ H _ _ _ I r h) fun _ s1 ⟨σ1,H1,I1,q1⟩=> ?_)
  exact h2 pins s1 σ1 H1 _ _ Q I1 rr q1
noncomputable def a86(K:aw)(n:Nat)(t:TGs):TG:=fun v σ H Q=> ∃a xs,v=.ref a/\SqT K H a xs/\xs.length=n/\t xs σ H Q
theorem a1q{es:List Expr}{k:Nat}{t:TGs}{n:Nat}(hc:X.calm=true)(h:PGs X es t)
  (hn:(b6 es X.env).length=n:=by rfl) (hst:(b6 es X.env).findIdx? (·.1)=none:=by rfl):PG X (.Tuple es k pos) (a86 X.K n t):=by
 (first|refine⟨?_⟩|skip);intro pins s σ H v u Q I r hw
 obtain⟨a,xs,e1,hq,hl,hw⟩:=hw
 subst e1
 cases r
 obtain⟨its,rv,ht,hz⟩:=I.tuple hq
 refine assign_Tuple_tuple (I.ok.hd hc) ht (by simp [hn,←hl,rv.length]) hst fun h' hx=> ?_
 have I1:Inv X pins σ H {s with heap:=h'}:=I.kept (t':=s.toks) fun b o e=> hx b o (aT (aM e)) e
 exact h pins _ σ H xs _ Q I1 (by simpa using rv) hw
noncomputable def adq(to ti:TE)(t:aqd):TG:=fun v σ H Q=> to σ H fun o H1=> ti σ H1 fun i H2=> t o i v H2 fun H3=> Q σ H3
theorem a4y{o i:Expr}{to ti:TE}{t:aqd}(ho:PE X o to)(hi:PE X i ti)(hs:ajl X t)
  (ha: ∀v,assign (.Subscript o i pos) X.env v=(do
   let ov←holding [v] (eval o X.env)
   let iv←holding [v,ov] (eval i X.env)
   standAt pos
   holding [v,ov,iv] (setItem ov iv v)
   release [v,ov,iv] []):=by intro _;rfl):PG X (.Subscript o i pos) (adq to ti t):=by
 (first|refine⟨?_⟩|skip);intro pins s σ H v u Q I r h
 rw [ha]
 refine ae (bB (thn (ho pins s σ H _ I h) fun ov s1 ⟨x,H1,I1,r1,q1⟩=> ?_))
 refine ae (bB (thn (hi pins s1 σ H1 _ I1 q1) fun iv s2 ⟨y,H2,I2,r2,q2⟩=> ?_))
 refine ae (du (ae (bB (thn (hs pins s2 σ H2 x y v ov iv u _ I2 r1 r2 r q2) fun _ s3 ⟨H3,I3,q3⟩=> ?_))))
 exact wpAny_release ⟨σ,H3,I3,q3⟩
noncomputable def a1x(te:TE)(g:TG):TS:=fun D σ H=> te σ H fun x H1=> g x σ H1 D.nx
theorem av3{te:TE}{g:TG}(he:PE X e te)(hg:PG X tg g)(hs:kX [tg] e pos.line X.env=pure false:=by rfl)(hw:kY [tg] e X.env=pure none:=by rfl)(h1:(b6 [tg] X.env).map (·.2)=[assign tg X.env]:=by rfl):PS X (.Assign [tg] e pos) (a1x te g):=by
 (first|refine⟨?_⟩|skip);intro pins s σ H D I h
 refine wpAny_Assign_stores (thn (he pins s σ H _ I h) fun v s1 ⟨x,H1,I1,r1,q1⟩=> ?_) hs hw
 rw [h1]
 exact thn (hg pins s1 σ H1 x v _ I1 r1 q1) fun _ s2 q=> q
theorem a33{te:TE}{pos':Pos}(hN:X.N.Nodup)(hi:X.N[i]?=some x)(hx:Loc X.env.scope x)(he:PE X e te)(hs:fJ e (some (.Name x pos')) pos.line X.env=pure false:=by rfl)(hf:X.fn x=true\/X.env.scope.names.lookup x=some .local:=by first|exact .inl rfl|exact .inr rfl|assumption):
  PS X (.Assign [.Name x pos'] e pos) (a1x te (al9 i)):=by
 (first|refine⟨?_⟩|skip);intro pins s σ H D I h
 refine wpAny_Assign_Name (thn (he pins s σ H _ I h) fun v s1 ⟨y,H1,I1,r1,q1⟩=> ?_) hs
 exact amh I1 hN hi hx r1 (fun s2 I2=> ⟨_,H1,I2,q1⟩) hf
end
structure It where
 go:Nat -> Hp -> Prop
 yld:Nat -> Hp -> V -> Hp -> Prop
 stop:Nat -> Hp -> Prop
def aaj(X:Cx)(pins:List (Addr×Obj))(H:Hp)(b:Addr):Prop:=
 H b=none/\b≠X.env.locals/\b∉X.fs/\(b∈X.ex\/X.s₀.heap.objs.size <=b)/\(∀x c,X.env.cells.lookup x=some c -> c≠b)/\ ∀p∈X.pn++pins,p.1≠b
theorem Inv.fpOk{X:Cx}{σ:St}{H H':Hp}(I:Inv X pins σ H s)(hb:s.heap.objs.size <=b)(hn:H' b=none):aaj X pins H' b:=by
 refine⟨hn,iR (aW I.lt hb),I.nofs hb,.inr (aJ I.sz hb),fun x c e z=> ?_,fun p hp z=> ?_⟩
 ·obtain⟨v,q⟩:=I.cell x c e
  exact absurd (aW q.lt (by rw [z];exact hb)) (cG _)
 ·exact absurd (aW (aM (I.pin p hp).1) (by rw [z];exact hb)) (cG _)
structure Turn (P:bz) (w:bw) (K:aw) (tg:Expr) (J:It) (fp:List Addr) (it:Addr) (tn:Nat -> Heap -> Prop):Prop where
 mem:it∈fp
 obj: ∀i h,tn i h -> ∀b∈fp,∃o,h.get? b=some o/\ ∀v,o.data≠ .cell v
 keep: ∀i h h',tn i h -> (∀b∈fp,∀o,h.get? b=some o -> h'.get? b=some o) -> tn i h'
 item: ∀(X:Cx),X.prog=P -> X.w=w -> X.K=K -> X.calm=true -> ∀(i:Nat) (pins:List (Addr×Obj)) (s:ak) (σ:St) (H:Hp) (E:af -> ak -> Prop),Inv X pins σ H s -> (∀b∈fp,aaj X pins H b) -> tn i s.heap -> J.go i H ->
  wpAny (model P w) X.A (pyNext (.ref it)) (fun r s1=> ∃u,r=some u/\
   wpAny (model P w) X.A (dN tg (.ref it) u) (fun _ s2=> ∃x H',Inv X pins σ H' s2/\RelV x u/\J.yld i H x H'/\tn (i+1) s2.heap/\ ∀b∈fp,H' b=none) E s1) E s
 done: ∀(X:Cx),X.prog=P -> X.w=w -> X.K=K -> X.calm=true -> ∀(i:Nat) (pins:List (Addr×Obj)) (s:ak) (σ:St) (H:Hp) (E:af -> ak -> Prop),Inv X pins σ H s -> (∀b∈fp,aaj X pins H b) -> tn i s.heap -> J.stop i H ->
  wpAny (model P w) X.A (pyNext (.ref it)) (fun r s1=> r=none/\Inv X pins σ H s1) E s
 self: ∀(A:bm) (i:Nat) (s:ak) (Q:af -> ak -> Prop) (E:af -> ak -> Prop),tn i s.heap -> Q (.ref it) s -> wpAny (model P w) A (pyIter (.ref it)) Q E s
abbrev TI:=St -> Hp -> (It -> Hp -> Prop) -> Prop
def PIE(X:Cx)(pins:List (Addr×Obj))(σ:St)(tg:Expr)(R:It -> Hp -> Prop)(itv:af)(s2:ak):Prop:=
 ∃(it:Addr) (fp:List Addr) (tn:Nat -> Heap -> Prop) (J:It) (H':Hp),itv=.ref it/\Inv X pins σ H' s2/\Turn X.prog X.w X.K tg J fp it tn/\tn 0 s2.heap/\(∀b∈fp,aaj X pins H' b)/\R J H'
def PI(X:Cx)(tg iter:Expr)(wi:TI):Prop:=
 ∀(pins:List (Addr×Obj)) (s:ak) (σ:St) (H:Hp) (R:It -> Hp -> Prop),Inv X pins σ H s -> wi σ H R ->
  wpAny (model X.prog X.w) X.A (eval iter X.env) (fun v s1=> wpAny (model X.prog X.w) X.A (pyIter v) (PIE X pins σ tg R) X.xe s1) X.xe s
theorem al8{it:Addr}{o:Obj}{n:String}{vs:Array af}(ho:s.heap.get? it=some o)(hc:o.cls=.type n)(hd:o.data=.fields vs)(hn:["enumerate","zip","dict_itemiterator","dict_reverseitemiterator","odict_iterator","itertools.zip_longest","itertools.pairwise"].contains n=false)(hQ:Q () s):wpAny M A (dN tg (.ref it) u) Q E s:=by
 unfold dN
 cases tg <;> first
  |exact aj hQ
  | (cases u <;> first
    |exact aj hQ
    | (refine ae (wpAny_load ho ?_)
       rw [hc,hd]
       show wpAny M A (if (["enumerate","zip","dict_itemiterator","dict_reverseitemiterator","odict_iterator","itertools.zip_longest","itertools.pairwise"].contains n&&vs[0]?==some (rawInt _))=true then _ else _) Q E s
       rw [if_neg (by intro h;rw [hn,cJ]at h;cases h)]
       exact aj hQ))
noncomputable def Itl(K:aw)(a:Addr):It:=
 ⟨fun i H=> ∃xs x,SqL K H a xs/\xs[i]?=some x,fun i H x H'=> H'=H/\ ∀xs,SqL K H a xs -> xs[i]?=some x,fun i H=> ∃xs,SqL K H a xs/\xs.length <=i⟩
noncomputable def Itt(K:aw)(a:Addr):It:=
 ⟨fun i H=> ∃xs x,SqT K H a xs/\xs[i]?=some x,fun i H x H'=> H'=H/\ ∀xs,SqT K H a xs -> xs[i]?=some x,fun i H=> ∃xs,SqT K H a xs/\xs.length <=i⟩
noncomputable def Itr(lo:Int)(n:Nat):It:=⟨fun i _=> i < n,fun i H x H'=> H'=H/\x=.int (lo+i),fun i _=> n <=i⟩
theorem auo(a it:Addr):Turn P w K tg (Itl K a) [it] it (fun i h=> h.IsListIter it a i) where
 mem:=by simp
 obj:=fun i h st b hb=> by
  have e:b=it:=by simpa using hb
  subst e
  obtain⟨o,e,c,d⟩:=st
  exact⟨o,e,fun v z=> by rw [d]at z;cases z⟩
 keep:=fun i h h' st k=> st.at fun o e=> k it (by simp) o e
 item:=by
  intro X hP hw hK hc i pins s σ H E I hf st hg
  subst hP hw hK
  obtain⟨xs,x,hq,hx⟩:=hg
  obtain⟨its,rv,p,hz⟩:=I.list hq
  obtain⟨u,hu,ru⟩:=rv.get hx
  obtain⟨f0,f1,f2,f3,f4,f5⟩:=hf it (by simp)
  refine jI st p.isList (x:=u) (by simpa using hu) fun h' st' sb=> ?_
  have I1:Inv X pins σ H {s with heap:=h'}:=I.turned (t':=s.toks) (fun b o hb e=> (sb.2 b hb).trans e) f0 f1 f3 f4 f5
  obtain⟨o,e,c,d⟩:=id st'
  exact⟨u,rfl,al8 (s:={s with heap:=h'}) e c d (by decide) ⟨x,H,I1,ru,⟨rfl,fun ys hy=> by rw [I.list_inj hy hq];exact hx⟩,st',fun b hb=> (hf b hb).1⟩⟩
 done:=by
  intro X hP hw hK hc i pins s σ H E I hf st hg
  subst hP hw hK
  obtain⟨xs,hq,hx⟩:=hg
  obtain⟨its,rv,p,hz⟩:=I.list hq
  obtain⟨f0,f1,f2,f3,f4,f5⟩:=hf it (by simp)
  have hl:=rv.length
  exact jU (I.ok.hd hc) st p.isList (by simp;lia) fun h' eb=> ⟨rfl,I.turned (t':=s.toks) (fun b o hb e=> eb b o hb e) f0 f1 f3 f4 f5⟩
 self:=fun _ _ _ _ _ st h=> wpAny_pyIter_listiter st h
theorem aqc(a it:Addr):Turn P w K tg (Itt K a) [it] it (fun i h=> h.IsTupleIter it a i) where
 mem:=by simp
 obj:=fun i h st b hb=> by
  have e:b=it:=by simpa using hb
  subst e
  obtain⟨o,e,c,d⟩:=st
  exact⟨o,e,fun v z=> by rw [d]at z;cases z⟩
 keep:=fun i h h' st k=> st.at fun o e=> k it (by simp) o e
 item:=by
  intro X hP hw hK hc i pins s σ H E I hf st hg
  subst hP hw hK
  obtain⟨xs,x,hq,hx⟩:=hg
  obtain⟨its,rv,p,hz⟩:=I.tuple hq
  obtain⟨u,hu,ru⟩:=rv.get hx
  obtain⟨f0,f1,f2,f3,f4,f5⟩:=hf it (by simp)
  refine wpAny_pyNext_tuple_item st (show s.heap.IsTuple a its.toArray from p) (x:=u) (by simpa using hu) fun h' st' sb=> ?_
  have I1:Inv X pins σ H {s with heap:=h'}:=I.turned (t':=s.toks) (fun b o hb e=> (sb.2 b hb).trans e) f0 f1 f3 f4 f5
  obtain⟨o,e,c,d⟩:=id st'
  exact⟨u,rfl,al8 (s:={s with heap:=h'}) e c d (by decide) ⟨x,H,I1,ru,⟨rfl,fun ys hy=> by rw [I.tuple_inj hy hq];exact hx⟩,st',fun b hb=> (hf b hb).1⟩⟩
 done:=by
  intro X hP hw hK hc i pins s σ H E I hf st hg
  subst hP hw hK
  obtain⟨xs,hq,hx⟩:=hg
  obtain⟨its,rv,p,hz⟩:=I.tuple hq
  obtain⟨f0,f1,f2,f3,f4,f5⟩:=hf it (by simp)
  have hl:=rv.length
  exact wpAny_pyNext_tuple_end (I.ok.hd hc) st (show s.heap.IsTuple a its.toArray from p) (by simp;lia) fun h' eb=> ⟨rfl,I.turned (t':=s.toks) (fun b o hb e=> eb b o hb e) f0 f1 f3 f4 f5⟩
 self:=fun _ _ _ _ _ st h=> wpAny_pyIter_tupleiter st h
theorem arw(it:Addr)(lo:Int)(n:Nat):Turn P w K tg (Itr lo n) [it] it (fun i h=> IsRangeIter h it (lo+(i:Nat)*1) ((n:Int) - (i:Nat)) 1) where
 mem:=by simp
 obj:=fun i h st b hb=> by
  have e:b=it:=by simpa using hb
  subst e
  exact⟨_,st,fun v z=> by
   have z':Data.fields _=Data.cell v:=z
   cases z'⟩
 keep:=fun i h h' st k=> k it (by simp) _ st
 item:=by
  intro X hP hw hK hc i pins s σ H E I hf st hg
  subst hP hw hK
  obtain⟨f0,f1,f2,f3,f4,f5⟩:=hf it (by simp)
  have W:=Walks.range (prog:=X.prog) (w:=X.w) (I.ok.hd hc) it lo 1 n
  refine W.item i s _ _ hg st fun v h' tk hv st' kk=> ?_
  obtain⟨t,rfl⟩:=hv
  have I1:Inv X pins σ H {s with heap:=h',toks:=tk}:=I.turned (fun b o hb e=> kk b o (by simpa using hb) e) f0 f1 f3 f4 f5
  refine⟨_,rfl,al8 (s:={s with heap:=h',toks:=tk}) (n:="range_iterator") st' rfl rfl (by decide) ⟨.int (lo+i),H,I1,⟨t,?_⟩,⟨rfl,rfl⟩,st',fun b hb=> (hf b hb).1⟩⟩
  rw [Int.mul_one]
 done:=by
  intro X hP hw hK hc i pins s σ H E I hf st hg
  subst hP hw hK
  obtain⟨f0,f1,f2,f3,f4,f5⟩:=hf it (by simp)
  exact wpAny_pyNext_range_end (I.ok.hd hc) st (by have:n <=i:=hg;lia) fun h' eb=> ⟨rfl,I.turned (t':=s.toks) (fun b o hb e=> eb b o hb e) f0 f1 f3 f4 f5⟩
 self:=fun _ _ _ _ _ st h=> wpAny_pyIter_rangeiter st h
end L2
variable{pins:List (eX×lE)}{σ:L2.St}{H H':L2.Hp}{s:eR}{E Q:dC -> eR -> Prop}{t:L2.TA}{v:L2.V}{a p f:eX}{ta tb te:L2.TE}{pos:PySem.Pos}{b iter c tg e:iK}{fp:List eX}{h base:PySem.Heap}{o:L2.HO}{body:List PySem.Stmt}{op:PySem.CmpOp}{i k n:Nat}{xs ys:List L2.V}{its us:List dC}{x qual:gE}{A:lD}{P prog:kW}{w:lR}{K:aw}{mg:gE -> Option dC}{fd:PySem.FuncData}{ps:List gE}{scope:PySem.Scope}{osl:Array (Option dC)}{T:String}{X:L2.Cx}{st:PySem.Stmt}{env:PySem.Env}{es:List iK}
namespace L2
open PySem PySem.Spec PyProof.Rows
theorem am0{R:It -> Hp -> Prop}{lo hi:Int}{t u v:Tok}{tk:Nat}(I:Inv X pins σ H s)(h1: -(2^62) <=lo)(h2:lo < 2^62)(h3: -(2^62) <=hi)(h4:hi < 2^62)(q:R (Itr lo (hi - lo).toNat) H):wpAny (model X.prog X.w) X.A (pyIter (.ref s.heap.objs.size)) (PIE X pins σ tg R) E {s with heap:=s.heap.push {cls:=.type "range",data:=.fields #[.int lo t,.int hi u,.int 1 v]},toks:=tk}:=by
 refine wpAny_pyIter_range (IsRange.new ..) (small_one h1 h2 h3 h4) ?_
 have I1:Inv X pins σ H {s with heap:=s.heap.push {cls:=.type "range",data:=.fields #[.int lo t,.int hi u,.int 1 v]},toks:=tk}:=I.kept fun b o e=> aq _ e
 refine⟨(s.heap.push {cls:=.type "range",data:=.fields #[.int lo t,.int hi u,.int 1 v]}).objs.size,[(s.heap.push {cls:=.type "range",data:=.fields #[.int lo t,.int hi u,.int 1 v]}).objs.size],_,_,H,rfl,
  I1.kept (t':=tk) fun b o e=> aq _ e,arw _ lo (hi - lo).toNat,?_,fun b hb=> ?_,q⟩
 ·have e1:lo+((0:Nat):Int)*1=lo:=by simp
  have e2:(((hi - lo).toNat:Nat):Int) - ((0:Nat):Int)=Builtin.Range.rangeSize lo hi 1:=by rw [rangeSize_one];split <;> lia
  show IsRangeIter _ _ (lo+((0:Nat):Int)*1) ((((hi - lo).toNat:Nat):Int) - ((0:Nat):Int)) 1
  rw [e1,e2]
  exact aQ _ rfl
 ·have e:b=(s.heap.push {cls:=.type "range",data:=.fields #[.int lo t,.int hi u,.int 1 v]}).objs.size:=by simpa using hb
  subst e
  exact I1.fpOk (aD _) (I1.hok.fresh (aD _))
def a6v(ta:TA):TI:=fun σ H R=> ta σ H fun vs H1=> ∃j:Int,vs=[.int j]/\ -(2^62) <=j/\j < 2^62/\R (Itr 0 j.toNat) H1
def a5d(ta:TA):TI:=fun σ H R=> ta σ H fun vs H1=> ∃i j:Int,vs=[.int i,.int j]/\(-(2^62) <=i/\i < 2^62/\ -(2^62) <=j/\j < 2^62)/\R (Itr i (j - i).toNat) H1
theorem at8{a:Expr}{ta:TA}{p:Pos}(hg:Gl X "range")(hm:X.mg "range"=none)(ha:PA X [a] ta)(hs:starEach [a] X.env=[(false,eval a X.env)]:=by rfl):PI X tg (.Call (.Name "range" p) [a] [] pos) (a6v ta):=by
 (first|refine⟨?_⟩|skip);intro pins s σ H R I h
 refine Call_ (aed I hg hm boot_range (dF (thn (ha pos pins s σ H _ I h) fun us s1 ⟨vs,H1,I1,r1,q1⟩=> ?_) hs rfl))
 obtain⟨j,e,q1,q2,q⟩:=q1
 subst e
 cases r1 with
 |cons r rr=>
  cases rr
  obtain⟨t,rfl⟩:=r
  exact call_range_1 (am0 I1 (by lia) (by lia) q1 q2 (by simpa using q))
theorem atd{a:Expr}{ta:TA}{p:Pos}(hg:Gl X "range")(hm:X.mg "range"=none)(ha:PA X [a,b] ta)(hs:starEach [a,b] X.env=[(false,eval a X.env),(false,eval b X.env)]:=by rfl)(hs2:starEach [b] X.env=[(false,eval b X.env)]:=by rfl):
  PI X tg (.Call (.Name "range" p) [a,b] [] pos) (a5d ta):=by
 (first|refine⟨?_⟩|skip);intro pins s σ H R I h
 refine Call_ (aed I hg hm boot_range (dF (thn (ha pos pins s σ H _ I h) fun us s1 ⟨vs,H1,I1,r1,q1⟩=> ?_) (by rw [hs,hs2]) (by rw [hs2];rfl)))
 obtain⟨i,j,e,⟨q1,q2,q3,q4⟩,q⟩:=q1
 subst e
 cases r1 with
 | cons r rr=>
  cases rr with
  |cons r' rr=>
   cases rr
   obtain⟨t,rfl⟩:=r
   obtain⟨t',rfl⟩:=r'
   exact call_range_2 (am0 I1 q1 q2 q3 q4 q)
noncomputable def a8s(wi:TI)(g:TG)(tb:TS):TS:=fun D σ H=> wi σ H fun J H1=> ∃W:Nat -> Nat -> St -> Hp -> Prop,(∃m,W 0 m σ H1)/\ ∀i m σ H,W i m σ H ->
 (J.stop i H/\D.nx σ H)\/(J.go i H/\ ∃N:St -> Hp -> Prop,(∀σ' H',N σ' H' -> ∃m',m' < m/\W (i+1) m' σ' H')/\ ∀x H',J.yld i H x H' -> g x σ H' fun σ2 H2=> tb {D with nx:=N,ct:=N,bk:=D.nx} σ2 H2)
noncomputable def ad6(fp:List Addr)(h:Heap):List (Addr×Obj):=fp.filterMap fun b=> (h.get? b).map fun o=> (b,o)
theorem xx{b:Addr}{o:Obj}(hb:b∈fp)(e:h.get? b=some o):(b,o)∈ad6 fp h:=cO.mpr ⟨b,hb,by rw [e];rfl⟩
theorem at9{p:Addr×Obj}(hp:p∈ad6 fp h):p.1∈fp/\h.get? p.1=some p.2:=by
 obtain⟨b,hb,e⟩:=cO.mp hp
 cases q:h.get? b with
 |none=> rw [q]at e;cases e
 |some o=>
  rw [q]at e
  have e':(b,o)=p:=cC e
  subst e'
  exact⟨hb,q⟩
theorem Inv.pinned(I:Inv X pins σ H s)(hf: ∀b∈fp,aaj X pins H b)(ho: ∀b∈fp,∃o,s.heap.get? b=some o/\ ∀v,o.data≠ .cell v):Inv X (pins++ad6 fp s.heap) σ H s:=
 I.pins_of fun p hp=> (aL.mp hp).elim (fun z=> I.pin p (bf _ z)) fun z=> by
  obtain⟨hb,e⟩:=at9 z
  obtain⟨f0,f1,f2,_⟩:=hf p.1 hb
  obtain⟨o,e',d⟩:=ho p.1 hb
  rw [e]at e';cases e'
  exact⟨e,f0,f1,f2,d⟩
theorem Inv.unpinned{pl:List (Addr×Obj)}(I:Inv X (pins++pl) σ H s):Inv X pins σ H s:=I.pins_of fun p hp=> I.pin p (bf _ (ff _ hp))
theorem a1u{wi:TI}{g:TG}{tb:TS}(hp:PassesOwn (model X.prog X.w) X.A X.env X.xe)(hc:X.calm=true)(hi:PI X tg iter wi)(hg:PG X tg g)(hb:PSs X body tb)(hs: ∀x,bU iter X.env x=pure x:=by intro _;rfl):PS X (.For tg iter body [] pos) (a8s wi g tb):=by
 (first|refine⟨?_⟩|skip);intro pins s σ H D I h
 refine wpAny_For (thn (hi pins s σ H _ I h) fun v s1 h1=> thn h1 fun itv s2 h2=> ?_) hs
 obtain⟨it,fp,tn,J,H2,e,I2,T,st2,f2,W,⟨m0,w0⟩,turn⟩:=h2
 subst e
 -- what stays true of the iterator's objects through the loop
 have stat: ∀{H':Hp},(∀b∈fp,H' b=none) -> ∀b∈fp,aaj X pins H' b:=fun hn b hb=> ⟨hn b hb,(f2 b hb).2⟩
 refine codeAny_forLoop_any (fun n s'=> ∃i σ' H',Inv X pins σ' H' s'/\tn i s'.heap/\(∀b∈fp,H' b=none)/\W i n σ' H') ?_ m0 ⟨0,σ,H2,I2,st2,fun b hb=> (f2 b hb).1,w0⟩
 rintro n s3 ⟨i,σ3,H3,I3,st3,fr3,w3⟩
 rcases turn i n σ3 H3 w3 with ⟨stop,qn⟩|⟨go,N,hN,step⟩
 ·refine fD hp (thn (T.done X rfl rfl rfl hc i pins s3 σ3 H3 X.xe I3 (stat fr3) st3 stop) fun r s4 ⟨hr,I4⟩=> ?_)
  subst hr
  exact i9 ⟨σ3,H3,I4,qn⟩
 ·refine fD hp (thn (T.item X rfl rfl rfl hc i pins s3 σ3 H3 X.xe I3 (stat fr3) st3 go) fun r s4 ⟨u,hr,h4⟩=> ?_)
  subst hr
  refine fD hp (thn h4 fun _ s5 ⟨x,H5,I5,r5,y5,st5,fr5⟩=> ?_)
  have I5':=I5.pinned (stat fr5) (T.obj _ _ st5)
  refine fD hp (thn (hg _ s5 σ3 H5 x u _ I5' r5 (step x H5 y5)) fun _ s6 ⟨σ6,H6,I6,q6⟩=> ?_)
  refine fD hp (thn (hb _ s6 σ6 H6 _ I6 q6) fun f s7 q7=> ?_)
  have again: ∀{σ7:St} {H7:Hp},Inv X (pins++ad6 fp s5.heap) σ7 H7 s7 -> N σ7 H7 -> ∃m,m < n/\ ∃i σ' H',Inv X pins σ' H' s7/\tn i s7.heap/\(∀b∈fp,H' b=none)/\W i m σ' H':=fun {σ7 H7} I7 n7=> by
   obtain⟨m',hm,w7⟩:=hN σ7 H7 n7
   refine⟨m',hm,i+1,σ7,H7,I7.unpinned,T.keep _ _ _ st5 fun b hb o e=> (I7.pin (b,o) (bf _ (bf _ (xx hb e)))).1,fun b hb=> ?_,w7⟩
   obtain⟨o,e,d⟩:=T.obj _ _ st5 b hb
   exact (I7.pin (b,o) (bf _ (bf _ (xx hb e)))).2.1
  cases f with
  |next=> obtain⟨σ7,H7,I7,n7⟩:=q7;exact again I7 n7
  |cont=> obtain⟨σ7,H7,I7,n7⟩:=q7;exact again I7 n7
  |brk=> obtain⟨σ7,H7,I7,q7⟩:=q7;exact⟨σ7,H7,I7.unpinned,q7⟩
  |ret v=> obtain⟨x7,σ7,H7,I7,r7,q7⟩:=q7;exact⟨x7,σ7,H7,I7.unpinned,r7,q7⟩
abbrev R2:=V -> V -> Hp -> VK -> Prop
def OpR(X:Cx)(f:af -> af -> Sem af)(r:R2):Prop:=
 ∀(pins:List (Addr×Obj)) (s:ak) (σ:St) (H:Hp) (x y:V) (v u:af) (Q:VK),Inv X pins σ H s -> RelV x v -> RelV y u -> r x y H Q ->
  wpAny (model X.prog X.w) X.A (f v u) (EP X pins σ Q) X.xe s
def UnR(X:Cx)(f:af -> Sem af)(r:V -> Hp -> VK -> Prop):Prop:=
 ∀(pins:List (Addr×Obj)) (s:ak) (σ:St) (H:Hp) (x:V) (v:af) (Q:VK),Inv X pins σ H s -> RelV x v -> r x H Q ->
  wpAny (model X.prog X.w) X.A (f v) (EP X pins σ Q) X.xe s
def vq(X:Cx)(f:af)(r:List V -> Hp -> VK -> Prop):Prop:=
 ∀(pins:List (Addr×Obj)) (s:ak) (σ:St) (H:Hp) (xs:List V) (us:List af) (Q:VK),Inv X pins σ H s -> jn xs us -> r xs H Q ->
  wpAny (model X.prog X.w) X.A (call f us) (EP X pins σ Q) X.xe s
def a92(X:Cx)(r:V -> Hp -> (Bool -> Hp -> Prop) -> Prop):Prop:=
 ∀(pins:List (Addr×Obj)) (s:ak) (σ:St) (H:Hp) (x:V) (v:af) (Q:Bool -> Hp -> Prop),Inv X pins σ H s -> RelV x v -> r x H Q ->
  wpAny (model X.prog X.w) X.A (truthy v) (TP X pins σ Q) X.xe s
noncomputable def tOp(r:R2)(ta tb:TE):TE:=fun σ H Q=> ta σ H fun x H1=> tb σ H1 fun y H2=> r x y H2 Q
noncomputable def tUn(r:V -> Hp -> VK -> Prop)(ta:TE):TE:=fun σ H Q=> ta σ H fun x H1=> r x H1 Q
noncomputable def rI(C:Int -> Int -> Prop)(g:Int -> Int -> V):R2:=fun x y H Q=> ∃i j,x=.int i/\y=.int j/\C i j/\Q (g i j) H
noncomputable def rI0(g:Int -> Int -> V):R2:=fun x y H Q=> ∃i j,x=.int i/\y=.int j/\Q (g i j) H
def rU(g:Int -> V):V -> Hp -> VK -> Prop:=fun x H Q=> ∃i,x=.int i/\Q (g i) H
section
variable{X:Cx}{a b c:Expr}{ta tb tc:TE}{pos:Pos}
theorem avm(ha:PE X a ta)(hb:PE X b tb){R:V -> V -> Hp -> Prop}(I:Inv X pins σ H s)(h:ta σ H fun x H1=> tb σ H1 fun y H2=> R x y H2){f:af -> af -> Sem af}(hf: ∀v u s2 x y H2,Inv X pins σ H2 s2 -> RelV x v -> RelV y u -> R x y H2 -> wpAny (model X.prog X.w) X.A (f v u) Q X.xe s2):
  wpAny (model X.prog X.w) X.A (eval a X.env) (fun v s₁=> wpAny (model X.prog X.w) X.A (eval b X.env) (fun u s₂=> wpAny (model X.prog X.w) X.A (f v u) Q X.xe s₂) X.xe s₁) X.xe s:=by
 refine thn (ha pins s σ H _ I h) fun v s1 ⟨x,H1,I1,r1,q1⟩=> ?_
 refine thn (hb pins s1 σ H1 _ I1 q1) fun u s2 ⟨y,H2,I2,r2,q2⟩=> ?_
 exact hf v u s2 x y H2 I2 r1 r2 q2
theorem a67{op:Operator}{r:R2}(ho:OpR X (binaryOp op) r)(ha:PE X a ta)(hb:PE X b tb):PE X (.BinOp a op b pos) (tOp r ta tb):=by
 (first|refine⟨?_⟩|skip);intro pins s σ H Q I h
 exact wpAny_BinOp (avm ha hb I h fun v u s2 x y H2 I2 rx ry q=> ho pins s2 σ H2 x y v u Q I2 rx ry q)
theorem a6q{op:UnaryOp}{r:V -> Hp -> VK -> Prop}(ho:UnR X (unaryOp op) r)(ha:PE X a ta):PE X (.UnaryOp op a pos) (tUn r ta):=by
 (first|refine⟨?_⟩|skip);intro pins s σ H Q I h
 exact UnaryOp_ (thn (ha pins s σ H _ I h) fun v s1 ⟨x,H1,I1,r1,q1⟩=> ho pins s1 σ H1 x v Q I1 r1 q1)
theorem opI{f:af -> af -> Sem af}{C:Int -> Int -> Prop}{g:Int -> Int -> Int}
  (rule: ∀(i j:Int) (t u:Tok) (s:ak) (Q:af -> ak -> Prop) (E:af -> ak -> Prop),C i j -> Q (.int (g i j) s.toks) {s with toks:=s.toks+1} -> wpAny (model X.prog X.w) X.A (f (.int i t) (.int j u)) Q E s):
  OpR X f (rI C fun i j=>.int (g i j)):=by
 (first|refine⟨?_⟩|skip);intro pins s σ H x y v u Q I rx ry h
 obtain⟨i,j,rfl,rfl,hc,q⟩:=h
 obtain⟨t,rfl⟩:=rx
 obtain⟨t',rfl⟩:=ry
 exact rule i j t t' s _ _ hc ⟨.int (g i j),H,I.tok _,⟨_,rfl⟩,q⟩
theorem a4u{f:af -> af -> Sem af}{g:Int -> Int -> Int}
  (rule: ∀(i j:Int) (t u:Tok) (s:ak) (Q:af -> ak -> Prop) (E:af -> ak -> Prop),Q (.int (g i j) s.toks) {s with toks:=s.toks+1} -> wpAny (model X.prog X.w) X.A (f (.int i t) (.int j u)) Q E s):
  OpR X f (rI0 fun i j=>.int (g i j)):=by
 (first|refine⟨?_⟩|skip);intro pins s σ H x y v u Q I rx ry h
 obtain⟨i,j,rfl,rfl,q⟩:=h
 obtain⟨t,rfl⟩:=rx
 obtain⟨t',rfl⟩:=ry
 exact rule i j t t' s _ _ ⟨.int (g i j),H,I.tok _,⟨_,rfl⟩,q⟩
theorem art{f:af -> af -> Sem af}{g:Int -> Int -> Bool}
  (rule: ∀(i j:Int) (t u:Tok) (s:ak) (Q:af -> ak -> Prop) (E:af -> ak -> Prop),Q (.bool (g i j)) s -> wpAny (model X.prog X.w) X.A (f (.int i t) (.int j u)) Q E s):
  OpR X f (rI0 fun i j=>.bl (g i j)):=by
 (first|refine⟨?_⟩|skip);intro pins s σ H x y v u Q I rx ry h
 obtain⟨i,j,rfl,rfl,q⟩:=h
 obtain⟨t,rfl⟩:=rx
 obtain⟨t',rfl⟩:=ry
 exact rule i j t t' s _ _ ⟨.bl (g i j),H,I,rfl,q⟩
def asf(i j:Int):Prop:=0 < j/\j < 1073741824
def arj(i j:Int):Prop:=0 <=j/\j <=1000000/\i.natAbs < 2^64
def ajt(i j:Int):Prop:=(-(2^64) < i/\i < 2^64)\/(-(2^64) < j/\j < 2^64)
theorem ajt.ok{i j:Int}(h:ajt i j):IntMulOk i j:=by
 rcases h with ⟨h1,h2⟩|⟨h1,h2⟩
 ·exact .of_left (intBits_le_64 h1 h2)
 ·exact .of_right (intBits_le_64 h1 h2)
theorem at7:OpR X (binaryOp .Add) (rI0 fun i j=>.int (i+j)):=a4u fun _ _ _ _ _ _ _ q=> add_int q
theorem amv:OpR X (binaryOp .Sub) (rI0 fun i j=>.int (i - j)):=a4u fun _ _ _ _ _ _ _ q=> sub_int q
theorem a4k:OpR X (binaryOp .Mult) (rI ajt fun i j=>.int (i*j)):=opI fun _ _ _ _ _ _ _ hc q=> mul_int q hc.ok
theorem az9:OpR X (binaryOp .FloorDiv) (rI asf fun i j=>.int (i/j)):=opI fun i j _ _ _ _ _ hc q=> by
 have h1:(0:Int) < j:=hc.1
 have h2:j < 1073741824:=hc.2
 exact floordiv_int (by lia) (by rw [Int.fdiv_eq_ediv_of_nonneg i (by lia)];exact q) (.inl (PyProof.noPylong_small (by lia)))
theorem a4f:OpR X (binaryOp .Mod) (rI (fun _ j=> 0 < j) fun i j=>.int (i % j)):=opI fun i j _ _ _ _ _ hc q=> by
 have h1:(0:Int) < j:=hc
 exact mod_int' (by lia) (by rw [Int.fmod_eq_emod_of_nonneg i (by lia)];exact q)
theorem a2q:OpR X (binaryOp .Pow) (rI arj fun i j=>.int (i^j.toNat)):=opI fun _ _ _ _ _ _ _ hc q=> pow_int_small hc.1 hc.2.1 hc.2.2 q
theorem unI{f:af -> Sem af}{g:Int -> Int}
  (rule: ∀(i:Int) (t:Tok) (s:ak) (Q:af -> ak -> Prop) (E:af -> ak -> Prop),Q (.int (g i) s.toks) {s with toks:=s.toks+1} -> wpAny (model X.prog X.w) X.A (f (.int i t)) Q E s):
  UnR X f (rU fun i=>.int (g i)):=by
 (first|refine⟨?_⟩|skip);intro pins s σ H x v Q I rx h
 obtain⟨i,rfl,q⟩:=h
 obtain⟨t,rfl⟩:=rx
 exact rule i t s _ _ ⟨.int (g i),H,I.tok _,⟨_,rfl⟩,q⟩
theorem a2y:UnR X (unaryOp .USub) (rU fun i=>.int (-i)):=unI fun _ _ _ _ _ q=> neg_int q
end
noncomputable def a1t:V -> V -> Bool
 |.non,.non=> true|.non,.int _=> true|.int _,.non=> true|.non,.bl _=> true|.bl _,.non=> true|.non,.str _=> true|.str _,.non=> true
 |.int _,.int _=> true|.bl _,.bl _=> true|.str _,.str _=> true|.byt _,.byt _=> true
 |.int _,.str _=> true|.str _,.int _=> true|.bl _,.str _=> true|.str _,.bl _=> true
 |_,_=> false
def rEq:R2:=fun x y H Q=> a1t x y=true/\Q (.bl (decide (x=y))) H
def rNe:R2:=fun x y H Q=> a1t x y=true/\Q (.bl (!decide (x=y))) H
theorem ape{i j:Int}:decide (V.int i=V.int j)=(i==j):=by
 rw [bi]
 simp
theorem asq{i j:Bool}:decide (V.bl i=V.bl j)=(i==j):=by
 rw [bi]
 simp
theorem aot{i j:Str}:decide (V.str i=V.str j)=(i==j):=by
 rw [bi]
 simp
theorem ap7{i j:Array UInt8}:decide (V.byt i=V.byt j)=(i.toList==j.toList):=by
 rw [bi]
 cases i
 cases j
 simp
section
variable{X:Cx}{a b c:Expr}{ta tb tc:TE}{pos:Pos}
theorem jy{Q:VK}{k k':Bool}(I:Inv X pins σ H s)(q:Q (.bl k) H)(e:k=k'):EP X pins σ Q (.bool k') s:=by
 subst e
 exact⟨.bl k,H,I,rfl,q⟩
theorem a63:OpR X (aY .Eq) rEq:=by
 (first|refine⟨?_⟩|skip);intro pins s σ H x y v u Q I rx ry h
 obtain⟨hs,q⟩:=h
 cases x with
 |non=>
  cases rx
  cases y with
  |non=> cases ry;exact PySem.EqNone.eq_none_none (jy I q (by simp))
  |bl j=> cases ry;exact PySem.EqNone.eq_none_bool (jy I q (by simp))
  |int j=> obtain⟨t',rfl⟩:=ry;exact PySem.EqNone.eq_none_int (jy I q (by simp))
  |str j=> obtain⟨t',rfl⟩:=ry;exact PySem.EqNone.eq_none_str (jy I q (by simp))
  |_=> exact absurd (show false=true from hs) aF
 |bl i=>
  cases rx
  cases y with
  |non=> cases ry;exact PySem.EqNone.eq_bool_none (jy I q (by simp))
  |bl j=> cases ry;exact eq_bool (jy I q asq)
  |str j=> obtain⟨t',rfl⟩:=ry;exact PySem.EqMixed.eq_bool_str (jy I q (by simp))
  |_=> exact absurd (show false=true from hs) aF
 |int i=>
  obtain⟨t,rfl⟩:=rx
  cases y with
  |non=> cases ry;exact PySem.EqNone.eq_int_none (jy I q (by simp))
  |int j=> obtain⟨t',rfl⟩:=ry;exact eq_int (jy I q ape)
  |str j=> obtain⟨t',rfl⟩:=ry;exact PySem.EqMixed.eq_int_str (jy I q (by simp))
  |_=> exact absurd (show false=true from hs) aF
 |str i=>
  obtain⟨t,rfl⟩:=rx
  cases y with
  |non=> cases ry;exact PySem.EqNone.eq_str_none (jy I q (by simp))
  |bl j=> cases ry;exact PySem.EqMixed.eq_str_bool (jy I q (by simp))
  |int j=> obtain⟨t',rfl⟩:=ry;exact PySem.EqMixed.eq_str_int (jy I q (by simp))
  |str j=> obtain⟨t',rfl⟩:=ry;exact eq_str (jy I q aot)
  |_=> exact absurd (show false=true from hs) aF
 |byt i=>
  obtain⟨t,rfl⟩:=rx
  cases y with
  |byt j=> obtain⟨t',rfl⟩:=ry;exact PySem.W.eq_bytes (jy I q ap7)
  |_=> exact absurd (show false=true from hs) aF
 |_=> cases y <;> exact absurd (show false=true from hs) aF
theorem a6n:OpR X (aY .NotEq) rNe:=by
 (first|refine⟨?_⟩|skip);intro pins s σ H x y v u Q I rx ry h
 obtain⟨hs,q⟩:=h
 cases x with
 |non=>
  cases rx
  cases y with
  |non=> cases ry;exact PySem.EqNone.ne_none_none (jy I q (by simp))
  |bl j=> cases ry;exact PySem.EqNone.ne_none_bool (jy I q (by simp))
  |int j=> obtain⟨t',rfl⟩:=ry;exact PySem.EqNone.ne_none_int (jy I q (by simp))
  |str j=> obtain⟨t',rfl⟩:=ry;exact PySem.EqNone.ne_none_str (jy I q (by simp))
  |_=> exact absurd (show false=true from hs) aF
 |bl i=>
  cases rx
  cases y with
  |non=> cases ry;exact PySem.EqNone.ne_bool_none (jy I q (by simp))
  |bl j=> cases ry;exact ne_bool (jy I q (congrArg not asq))
  |str j=> obtain⟨t',rfl⟩:=ry;exact PySem.EqMixed.ne_bool_str (jy I q (by simp))
  |_=> exact absurd (show false=true from hs) aF
 |int i=>
  obtain⟨t,rfl⟩:=rx
  cases y with
  |non=> cases ry;exact PySem.EqNone.ne_int_none (jy I q (by simp))
  |int j=> obtain⟨t',rfl⟩:=ry;exact ne_int (jy I q (congrArg not ape))
  |str j=> obtain⟨t',rfl⟩:=ry;exact PySem.EqMixed.ne_int_str (jy I q (by simp))
  |_=> exact absurd (show false=true from hs) aF
 |str i=>
  obtain⟨t,rfl⟩:=rx
  cases y with
  |non=> cases ry;exact PySem.EqNone.ne_str_none (jy I q (by simp))
  |bl j=> cases ry;exact PySem.EqMixed.ne_str_bool (jy I q (by simp))
  |int j=> obtain⟨t',rfl⟩:=ry;exact PySem.EqMixed.ne_str_int (jy I q (by simp))
  |str j=> obtain⟨t',rfl⟩:=ry;exact ne_str (jy I q (congrArg not aot))
  |_=> exact absurd (show false=true from hs) aF
 |byt i=>
  obtain⟨t,rfl⟩:=rx
  cases y with
  |byt j=> obtain⟨t',rfl⟩:=ry;exact PySem.W.ne_bytes (jy I q (congrArg not ap7))
  |_=> exact absurd (show false=true from hs) aF
 |_=> cases y <;> exact absurd (show false=true from hs) aF
theorem a5p:OpR X (aY .Lt) (rI0 fun i j=>.bl (decide (i < j))):=art fun _ _ _ _ _ _ _ q=> lt_int q
theorem a61:OpR X (aY .LtE) (rI0 fun i j=>.bl (decide (i <=j))):=art fun _ _ _ _ _ _ _ q=> le_int q
theorem a71:OpR X (aY .Gt) (rI0 fun i j=>.bl (decide (j < i))):=art fun _ _ _ _ _ _ _ q=> gt_int q
theorem a6k:OpR X (aY .GtE) (rI0 fun i j=>.bl (decide (j <=i))):=art fun _ _ _ _ _ _ _ q=> ge_int q
theorem aux:OpR X (aY .Lt) (fun x y H Q=> ∃i j,x=.str i/\y=.str j/\Q (.bl (decide (i.cps.toList < j.cps.toList))) H):=by
 (first|refine⟨?_⟩|skip);intro pins s σ H x y v u Q I rx ry h
 obtain⟨i,j,rfl,rfl,q⟩:=h
 obtain⟨t,rfl⟩:=rx
 obtain⟨t',rfl⟩:=ry
 exact lt_str (jy I q rfl)
theorem auv:OpR X (aY .In) (fun x y H Q=> ∃i j,x=.str i/\y=.str j/\Q (.bl (!(eD j i 0 j.length 1).isEmpty)) H):=by
 (first|refine⟨?_⟩|skip);intro pins s σ H x y v u Q I rx ry h
 obtain⟨i,j,rfl,rfl,q⟩:=h
 obtain⟨t,rfl⟩:=rx
 obtain⟨t',rfl⟩:=ry
 exact in_str (jy I q rfl)
theorem a1y:OpR X (aY .Is) (fun x y H Q=> y=.non/\Q (.bl (decide (x=.non))) H):=by
 (first|refine⟨?_⟩|skip);intro pins s σ H x y v u Q I rx ry h
 obtain⟨rfl,q⟩:=h
 cases ry
 refine is_none_gen (jy I q ?_)
 cases x <;> first
  |(cases rx;rfl)
  |(obtain⟨t,rfl⟩:=rx;rfl)
theorem ami:OpR X (aY .NotIn) (fun x y H Q=> ∃i j,x=.str i/\y=.str j/\Q (.bl (!(!(eD j i 0 j.length 1).isEmpty))) H):=by
 (first|refine⟨?_⟩|skip);intro pins s σ H x y v u Q I rx ry h
 obtain⟨i,j,rfl,rfl,q⟩:=h
 obtain⟨t,rfl⟩:=rx
 obtain⟨t',rfl⟩:=ry
 exact notIn_str (jy I q rfl)
theorem ast(b:Expr)(h:op≠ .In:=by decide)(h2:op≠ .NotIn:=by decide):fq op b=false:=by
 have e1:(op==CmpOp.In)=false:=by cases op <;> first|rfl|exact absurd rfl h
 have e2:(op==CmpOp.NotIn)=false:=by cases op <;> first|rfl|exact absurd rfl h2
 cases b <;> simp [fq,e1,e2]
theorem a0a{r:R2}(ho:OpR X (aY op) r)(ha:PE X a ta)(hb:PE X b tb)(hm:fq op b=false):PE X (.Compare a [op] [b] pos) (tOp r ta tb):=by
 (first|refine⟨?_⟩|skip);intro pins s σ H Q I h
 exact wpAny_Compare1 (avm ha hb I h fun v u s2 x y H2 I2 rx ry q=> ho pins s2 σ H2 x y v u Q I2 rx ry q) hm
noncomputable def aqp(t:TE):TT:=fun σ H Q=> t σ H fun x H'=> ∃k,x=.bl k/\Q k H'
theorem a0v{r:R2}(ho:OpR X (aY op) r)(ha:PE X a ta)(hb:PE X b tb)(hm:fq op b=false):PT X (.Compare a [op] [b] pos) (aqp (tOp r ta tb)):=by
 (first|refine⟨?_⟩|skip);intro pins s σ H Q I h
 refine wpAny_isTrue_Compare1 (thn (ha pins s σ H _ I h) fun v s1 ⟨x,H1,I1,r1,q1⟩=> thn (hb pins s1 σ H1 _ I1 q1) fun u s2 ⟨y,H2,I2,r2,q2⟩=>
  thn (ho pins s2 σ H2 x y v u _ I2 r1 r2 q2) fun c s3 ⟨z,H3,I3,r3,k,e,q3⟩=> ?_) hm
 subst e
 cases r3
 exact ck ⟨H3,I3,q3⟩
noncomputable def amt(r r':R2)(ta tb tc:TE):TE:=fun σ H Q=> ta σ H fun x H1=> tb σ H1 fun y H2=> r x y H2 fun z H3=> ∃k,z=.bl k/\
 (if k=true then tc σ H3 fun w' H4=> r' y w' H4 Q else Q (.bl false) H3)
theorem avs{op':CmpOp}{r r':R2}(ho:OpR X (aY op) r)(ho':OpR X (aY op') r')(ha:PE X a ta)(hb:PE X b tb)(hc:PE X c tc)(hm:lF [op,op'] [b,c]=false:=by with_unfolding_all rfl):PE X (.Compare a [op,op'] [b,c] pos) (amt r r' ta tb tc):=by
 (first|refine⟨?_⟩|skip);intro pins s σ H Q I h
 refine Compare_chain (thn (ha pins s σ H _ I h) fun v s1 ⟨x,H1,I1,r1,q1⟩=> chain_link (thn (hb pins s1 σ H1 _ I1 q1) fun u s2 ⟨y,H2,I2,r2,q2⟩=>
  thn (ho pins s2 σ H2 x y v u _ I2 r1 r2 q2) fun d s3 ⟨z,H3,I3,r3,k,e,q3⟩=> ?_)) hm
 subst e
 cases r3
 refine ck ?_
 cases k with
 |false=> exact ite_ff ⟨.bl false,H3,I3,rfl,q3⟩
 |true=> exact ite_tt (chain_last (thn (hc pins s3 σ H3 _ I3 q3) fun w' s4 ⟨z',H4,I4,r4,q4⟩=> ho' pins s4 σ H4 y z' u w' Q I4 r2 r4 q4))
theorem awb{op':CmpOp}{r r':R2}(ho:OpR X (aY op) r)(ho':OpR X (aY op') r')(ha:PE X a ta)(hb:PE X b tb)(hc:PE X c tc)(hm:lF [op,op'] [b,c]=false:=by with_unfolding_all rfl):PT X (.Compare a [op,op'] [b,c] pos) (aqp (amt r r' ta tb tc)):=by
 (first|refine⟨?_⟩|skip);intro pins s σ H Q I h
 refine isTrue_chain (thn (ha pins s σ H _ I h) fun v s1 ⟨x,H1,I1,r1,q1⟩=> test_link (thn (hb pins s1 σ H1 _ I1 q1) fun u s2 ⟨y,H2,I2,r2,q2⟩=>
  thn (ho pins s2 σ H2 x y v u _ I2 r1 r2 q2) fun d s3 ⟨z,H3,I3,r3,k,e,q3⟩=> ?_)) hm
 subst e
 cases r3
 refine ck ?_
 cases k with
 |false=>
  obtain⟨k',e',q'⟩:=q3
  cases e'
  exact ite_ff ⟨H3,I3,q'⟩
 |true=>
  refine ite_tt (test_last (thn (hc pins s3 σ H3 _ I3 q3) fun w' s4 ⟨z',H4,I4,r4,q4⟩=> thn (ho' pins s4 σ H4 y z' u w' _ I4 r2 r4 q4) fun d' s5 ⟨z2,H5,I5,r5,k2,e2,q5⟩=> ?_))
  subst e2
  cases r5
  exact ck ⟨H5,I5,q5⟩
def a55(K:aw)(x:V)(H:Hp)(k:Bool):Prop:=
 match x with
 |.non=> k=false
 |.bl b=> k=b
 |.int i=> k=(i !=0)
 |.str y=> y.length <=sizeLine/\k=((y.length:Int) !=0)
 |.byt y=> y.size <=sizeLine/\k=((y.size:Int) !=0)
 |.ref p=> (∃xs,SqL K H p xs/\k= !xs.isEmpty)\/(∃xs,SqT K H p xs/\k= !xs.isEmpty)\/ ∃kvs,H p=some (.dK kvs)/\k= !kvs.isEmpty
 |_=> False
theorem ar6{κ:Type}{kvs:List (κ×V)}{vs:List (κ×af)}(r:KV kvs vs):(!vs.isEmpty)= !kvs.isEmpty:=by
 cases r <;> rfl
theorem ai1(r:jn xs its):(!its.toArray.isEmpty)= !xs.isEmpty:=by
 cases r <;> simp
theorem ad5:(sizeLine:Nat) < 2^63:=by rw [cR];decide
theorem a3f:a92 X (fun x H Q=> ∃k,a55 X.K x H k/\Q k H):=by
 (first|refine⟨?_⟩|skip);intro pins s σ H x v Q I rx h
 obtain⟨k,e,q⟩:=h
 have hl:=ad5
 have hs:sizeLine=16777216:=cR
 cases x with
 |non=>
  cases rx
  have e':k=false:=e
  subst e'
  exact truthy_none ⟨H,I,q⟩
 |bl b=>
  cases rx
  have e':k=b:=e
  subst e'
  exact ck ⟨H,I,q⟩
 |int i=>
  obtain⟨t,rfl⟩:=rx
  have e':k=(i !=0):=e
  subst e'
  exact PySem.P.truthy_int ⟨H,I,q⟩
 |str y=>
  obtain⟨t,rfl⟩:=rx
  obtain⟨hy,e'⟩:y.length <=sizeLine/\k=((y.length:Int) !=0):=e
  subst e'
  exact PySem.P.truthy_str (by lia) ⟨H,I.tok _,q⟩
 |byt y=>
  obtain⟨t,rfl⟩:=rx
  obtain⟨hy,e'⟩:y.size <=sizeLine/\k=((y.size:Int) !=0):=e
  subst e'
  exact PySem.W.truthy_bytes (by lia) ⟨H,I.tok _,q⟩
 | ref p=>
  cases rx
  have e':(∃xs,SqL X.K H p xs/\k= !xs.isEmpty)\/(∃xs,SqT X.K H p xs/\k= !xs.isEmpty)\/ ∃kvs,H p=some (.dK kvs)/\k= !kvs.isEmpty:=e
  rcases e' with ⟨xs,hx,e'⟩|⟨xs,hx,e'⟩|⟨kvs,hx,e'⟩
  ·subst e'
   obtain⟨its,r,pl,hz⟩:=I.list hx
   have hlen:=r.length
   exact wpAny_truthy_list pl.isList (by simp only [aH];lia) ⟨H,I.tok _,by rw [ai1 r];exact q⟩
  ·subst e'
   obtain⟨its,r,pl,hz⟩:=I.tuple hx
   have hlen:=r.length
   exact truthy_tuple pl (by simp only [aH];lia) ⟨H,I.tok _,by rw [ai1 r];exact q⟩
  ·subst e'
   obtain⟨hz,hS,vs,r,m⟩:kvs.length <=sizeLine/\(p==fZ)=false/\ ∃vs,KV kvs vs/\s.heap.DictOf (agg X.prog X.w) p vs:=I.hok p _ hx
   have hlen:kvs.length=vs.length:=Paired.length r
   exact wpAny_truthy_dict hS m (by lia) ⟨H,I.tok _,by rw [ar6 r];exact q⟩
 |_=> exact (show False from e).elim
theorem awx(ha:PE X a ta)(he: ∀whole,isTrue a X.env whole=(do let v←whole;standAt a.pos;holding [v] (truthy v))):
  PT X a (fun σ H Q=> ta σ H fun x H'=> ∃k,a55 X.K x H' k/\Q k H'):=by
 (first|refine⟨?_⟩|skip);intro pins s σ H Q I h
 exact isTrue_plain (thn (ha pins s σ H _ I h) fun v s1 ⟨x,H1,I1,r1,q1⟩=> a3f pins s1 σ H1 x v Q I1 r1 q1) (he _)
theorem asl:OpR X (binaryOp .Add) (fun x y H Q=> ∃i j,x=.str i/\y=.str j/\i.length+j.length <=sizeLine/\Q (.str (i++j)) H):=by
 (first|refine⟨?_⟩|skip);intro pins s σ H x y v u Q I rx ry h
 obtain⟨i,j,rfl,rfl,hz,q⟩:=h
 obtain⟨t,rfl⟩:=rx
 obtain⟨t',rfl⟩:=ry
 exact add_str (fun t' tk=> ⟨.str (i++j),H,I.tok _,⟨_,rfl⟩,q⟩) hz
theorem vals1{x:V}(r:jn [x] us): ∃u,us=[u]/\RelV x u:=by
 cases r with
 |cons r1 r2=> cases r2;exact⟨_,rfl,r1⟩
theorem vals2{x y:V}(r:jn [x,y] us): ∃u w',us=[u,w']/\RelV x u/\RelV y w':=by
 cases r with
 |cons r1 r2=>
  cases r2 with
  |cons r3 r4=> cases r4;exact⟨_,_,rfl,r1,r3⟩
end
section
variable{X:Cx}{pins:List (Addr×Obj)}{σ:St}{H:Hp}{s:ak}{A:bm}{E:af -> ak -> Prop}{Q:af -> ak -> Prop}{c:af}{b:Bool}
inductive TyOf (K:aw) (H:Hp):V -> af -> Prop where
 |non:TyOf K H .non (.type "NoneType")
 |bl (x:Bool):TyOf K H (.bl x) (.type "bool")
 |int (i:Int):TyOf K H (.int i) (.type "int")
 |str (x:Str):TyOf K H (.str x) (.type "str")
 |flt (x:UInt64):TyOf K H (.flt x) (.type "float")
 |lst {a:Addr} {xs:List V} (e:H a=some (.lst xs)):TyOf K H (.ref a) (.type "list")
 |frz {a:Addr} {o:Obj} {xs:List V} (e:H a=some (.frz o (.lst xs))):TyOf K H (.ref a) (.type "list")
 |tup {a:Addr} {xs:List V} (e:H a=some (.tup xs)):TyOf K H (.ref a) (.type "tuple")
 |dK {a:Addr} {kvs:List (Key×V)} (e:H a=some (.dK kvs)):TyOf K H (.ref a) (.type "dict")
theorem ajx{x:V}{u t:af}(I:Inv X pins σ H s)(rx:RelV x u)(ty:TyOf X.K H x t)(e:PySem.W.kitOne X.K t c=some b)(h: ∀tk,Q (.bool b) {s with toks:=tk}):
  wpAny (model X.prog X.w) A (call (.builtin "isinstance") [u,c]) Q E s:=by
 cases ty with
 |non=> cases (show u=bu from rx);exact cV PySem.W.kitx_none I.kIn iL e (fun z=> nomatch z) h
 |bl y=> cases (show u=dD y from rx);exact cV PySem.W.kitx_bool I.kIn iL e (fun z=> nomatch z) h
 |int i=> obtain⟨t,q⟩:=(show∃t,u=fG i t from rx);cases q;exact cV PySem.W.kitx_int I.kIn iL e (fun z=> nomatch z) h
 |str y=> obtain⟨t,q⟩:=(show∃t,u=fH y t from rx);cases q;exact cV PySem.W.kitx_str I.kIn iL e (fun z=> nomatch z) h
 |flt y=> obtain⟨t,q⟩:=(show∃t,u=Value.float y t from rx);cases q;exact cV PySem.W.kitx_float I.kIn iL e (fun z=> nomatch z) h
 | @lst a xs ea=>
  cases (show u=bJ a from rx)
  obtain⟨_,_,n,_,h1⟩:=(show j6 X.prog X.w H s.heap a (.lst xs) from I.hok a _ ea)
  exact cV PySem.W.kitx_list I.kIn ⟨_,h1,rfl⟩ e (fun z=> nomatch z) h
 | @frz a ob xs ea=>
  cases (show u=bJ a from rx)
  obtain⟨_,_,_,n,_,h1⟩:=(show j6 X.prog X.w H s.heap a (.frz ob (.lst xs)) from I.hok a _ ea)
  exact cV PySem.W.kitx_list I.kIn ⟨_,h1,rfl⟩ e (fun z=> nomatch z) h
 | @tup a xs ea=>
  cases (show u=bJ a from rx)
  obtain⟨_,_,_,p⟩:=(show j6 X.prog X.w H s.heap a (.tup xs) from I.hok a _ ea)
  obtain⟨o,h1,h2,_⟩:=p.tup
  exact cV PySem.W.kitx_tuple I.kIn ⟨o,h1,h2⟩ e (fun z=> nomatch z) h
 | @dK a kvs ea=>
  cases (show u=bJ a from rx)
  obtain⟨_,_,vs,_,p⟩:=(show j6 X.prog X.w H s.heap a (.dK kvs) from I.hok a _ ea)
  obtain⟨o,es,ep,h1,h2,_⟩:=p
  exact cV PySem.W.kitx_dict I.kIn ⟨o,h1,h2.1⟩ e (fun z=> nomatch z) h
end
structure Room (k:Nat) (A:bm):Prop where
 hd:A.handled=none
 dp:A.depth+3*k+5 < recursionLimit
 un:A.units+16*k+200 < cLine
 gd:A.guards=some []
theorem Room.mono{j:Nat}(r:Room k A)(h:j <=k):Room j A:=⟨r.hd,by have:=r.dp;lia,by have:=r.un;lia,r.gd⟩
theorem Room.deeper(r:Room (k+1) A)(env:Env):Room k (A.deeper env):=
 ⟨r.hd,by have:=r.dp;show A.depth+1+3*k+5 < _;lia,by have:=r.un;show A.units+3+16*k+200 < _;lia,r.gd⟩
theorem Room.depth(r:Room k A):A.depth < recursionLimit:=by have:=r.dp;lia
noncomputable def a8a:TA:=fun _ H Q=> Q [] H
noncomputable def a7e(ta:TE)(tr:TA):TA:=fun σ H Q=> ta σ H fun x H1=> tr σ H1 fun xs H2=> Q (x::xs) H2
theorem an7:PA X [] a8a:=.mk <|fun _ _ _ _ H Q I h=> Calls.spliced_nil ⟨[],H,I,.nil,h⟩
theorem aix(ha:PE X e te)(hr:PA X es t)(hs:starEach (e::es) X.env=(false,eval e X.env)::starEach es X.env:=by rfl):PA X (e::es) (a7e te t):=by
 (first|refine⟨?_⟩|skip);intro pos pins s σ H Q I h
 rw [hs]
 show wpAny _ _ (spliced ((false,eval e X.env)::backTo pos (starEach es X.env))) _ _ s
 refine Calls.spliced_cons (thn (ha pins s σ H _ I h) fun u s1 ⟨x,H1,I1,r1,q1⟩=> ?_)
 exact thn (hr pos pins s1 σ H1 _ I1 q1) fun us s2 ⟨xs,H2,I2,r2,q2⟩=> ⟨x::xs,H2,I2,.cons r1 r2,q2⟩
abbrev Sp:=List V -> Hp -> VK -> XK -> Prop
abbrev CXT:=List Env -> Hp -> ak -> XK -> af -> ak -> Prop
structure Env0 (P:bz) (w:bw) (K:aw) (mg:Str -> Option af) (base:Heap) (A:bm) (outer:List Env) (s:ak) (H:Hp):Prop where
 frames:A.frames=some outer
 mod:Mod K mg base
 bs: ∀b o,base.get? b=some o -> s.heap.get? b=some o/\H b=none
 bsz:base.objs.size <=s.heap.objs.size
 funs:s.heap.FunFrames base outer
 frf: ∀b∈frs outer,H b=none
 hok:HOk P w H s.heap
 bare:gF s.gens
def CE(outer:List Env)(P:bz)(w:bw)(H:Hp)(s:ak)(Q:VK)(u:af)(s':ak):Prop:=
 ∃v H',s'.os=s.os/\gF s'.gens/\Un (frs outer) [] H H' s.heap s'.heap/\HOk P w H' s'.heap/\RelV v u/\Q v H'
def CR(CX:CXT)(outer:List Env)(P:bz)(w:bw)(H:Hp)(s:ak)(Q:VK)(E:XK)(r:jV)(s':ak):Prop:=
 match r with
 |.ok (.ret u)=> CE outer P w H s Q u s'
 |.ok _=> False
 |.error e=> CX outer H s E e s'
structure FnOk (P:bz) (w:bw) (K:aw) (mg:Str -> Option af) (base:Heap) (CX:CXT) (k:Nat) (f:Addr) (fd:fK) (ps:List Str) (sp:Sp):Prop where
 len: ∀vs H Q E,sp vs H Q E -> vs.length=ps.length
 run: ∀(A:bm) (outer:List Env) (s:ak) (H:Hp) (args:Args) (us:List af) (vs:List V) (Q:VK) (E:XK),Room k A -> Env0 P w K mg base A outer s H -> jW s fd args (ps.zip us) -> jn vs us -> sp vs H Q E ->
  codeAny (model P w) A (.call (.ref f) args) (CR CX outer P w H s Q E) s
theorem FnOk.imp{CX:CXT}{sp sp':Sp}(F:FnOk P w K mg base CX k f fd ps sp)(h: ∀vs H Q E,sp' vs H Q E -> sp vs H Q E):FnOk P w K mg base CX k f fd ps sp':=
 ⟨fun vs H Q E q=> F.len vs H Q E (h _ _ _ _ q),fun A outer s H args us vs Q E hr he hb hv hs=> F.run A outer s H args us vs Q E hr he hb hv (h _ _ _ _ hs)⟩
section
variable{X:Cx}{pins:List (Addr×Obj)}{σ:St}{H:Hp}{s s':ak}
theorem Inv.env0(I:Inv X pins σ H s):Env0 X.prog X.w X.K X.mg X.base X.A X.stack s H:=
 ⟨I.ok.frames,I.ok.mod,I.bs,aJ I.ok.bsz I.sz,I.stack,I.stkFree,I.hok,I.bare⟩
theorem Inv.after{Q:VK}{u:af}(I:Inv X pins σ H s)(h:CE X.stack X.prog X.w H s Q u s'):EP X pins σ Q u s':=by
 obtain⟨v,H',os,bare,un,hok,r,q⟩:=h
 obtain⟨hh,g,d,t,os'⟩:=s'
 obtain rfl:os'=s.os:=os
 exact⟨v,H',I.call (h':=hh) (g':=g) (d':=d) (t':=t) (ch:=[]) un hok bare (fun b z=> absurd z (by simp)),r,q⟩
end
noncomputable def aye(sp:Sp)(dvs:List V)(E:XK)(t:TA):TE:=fun σ H Q=> t σ H fun vs H1=> sp (vs++dvs) H1 Q E
def Binds(K:aw)(fd:fK)(ps:List Str)(ds:List af):Prop:=
 ∀(s:ak) (us:List af),K.In s.heap -> (us++ds).length=ps.length -> jW s fd ⟨us,[]⟩ (ps.zip (us++ds))
theorem Binds.all(h: ∀us:List af,us.length=ps.length -> bindArgs fd ⟨us,[]⟩=pure (ps.zip us)):Binds K fd ps []:=fun s us _ hl=> by
 rw [bP]at hl⊢
 exact .of_eq (h us hl)
def ano(CX:CXT)(X:Cx)(E:XK):Prop:= ∀(pins:List (Addr×Obj)) (σ:St) (H:Hp) (s:ak) (e:af) (s':ak),Inv X pins σ H s -> CX X.stack H s E e s' -> X.xe e s'
section
variable{X:Cx}{CX:CXT}{k:Nat}{f C:Addr}{fd:fK}{ps:List Str}{sp:Sp}{dvs:List V}{ds:List af}{E:XK}{x m:Str}{p pos apos:Pos}{e o:Expr}{es:List Expr}{ta:TE}{t:TA}
theorem a2j{Q:VK}{vs:List V}(F:FnOk X.prog X.w X.K X.mg X.base CX k f fd ps sp)(hr:Room k X.A)(hb:Binds X.K fd ps ds)(hd:jn dvs ds)(hx:ano CX X E)(I:Inv X pins σ H s)(r:jn vs us)(h:sp (vs++dvs) H Q E):wpAny (model X.prog X.w) X.A (call (.ref f) us) (EP X pins σ Q) X.xe s:=by
 have r2:jn (vs++dvs) (us++ds):=r.append hd
 have hl:(us++ds).length=ps.length:=by rw [←r2.length];exact F.len _ _ _ _ h
 refine wpAny_call (dG (F.run X.A X.stack s H ⟨us,[]⟩ (us++ds) (vs++dvs) Q E hr I.env0 (hb s us I.kIn hl) r2 h) fun r s' hq=> ?_)
 cases r with
 |error e=> exact hx pins σ H s e s' I hq
 |ok fl=>
  cases fl with
  |ret u=> exact I.after hq
  |next=> exact dZ hq
  |brk=> exact dZ hq
  |cont=> exact dZ hq
theorem ayo(F:FnOk X.prog X.w X.K X.mg X.base CX k f fd ps sp)(hr:Room k X.A)(hg:Gl X x)(hm:X.mg x=some (.ref f))(hk:eS X.K (.ref f)=true)(hb:Binds X.K fd ps ds)(hd:jn dvs ds)(hx:ano CX X E)
  (ha:PA X (e::es) t) (hdb:(x==("__debug__":Str))=false:=by decide) (he:starEach (e::es) X.env=(false,eval e X.env)::starEach es X.env:=by rfl) (hpl:(backTo pos (starEach es X.env)).any (·.1)=false:=by rfl):
  PE X (.Call (.Name x p) (e::es) [] pos) (aye sp dvs E t):=by
 (first|refine⟨?_⟩|skip);intro pins s σ H Q I h
 refine ie (ap9 I hg hm ?_ hdb)
 refine PySem.W.callWith_K (h₀:=X.base) I.ok.mod.kin hk (thn (ha pos pins s σ H _ I h) fun us s1 ⟨vs,H1,I1,r,q⟩=> ⟨I1.kIn,?_⟩) he hpl
 exact a2j F hr hb hd hx I1 r q
end
structure FnScope (N P:List Str) (sc:dM):Prop where
 kind:sc.kind=.function
 co:sc.isCoroutine=false
 gen:sc.isGenerator=false
 nd:N.Nodup
 pre:N.take P.length=P
 par: ∀x∈P,sc.names.lookup x=some .local\/sc.names.lookup x=some .cell
 nofree: ∀y∈sc.names,y.2≠ .free
theorem akp{kindOf:Str -> Option eN}{x:Str}: ∀{binds:List (Str×af)} {m:Str -> Option af},(∀v,(x,v)∉binds) -> bindL kindOf binds m x=m x
 |[],_,_=> rfl
 | (n,v)::r,m,h=> by
  unfold bindL
  rw [akp fun w hw=> h w (az _ hw)]
  split
  ·have:x≠n:=by rintro rfl;exact h v ax
   simp [this]
  ·rfl
theorem akm{kindOf:Str -> Option eN}{x:Str}: ∀{binds:List (Str×af)} {m:Str -> Option af},(∀v,(x,v)∉binds) -> bindC kindOf binds m x=m x
 |[],_,_=> rfl
 | (n,v)::r,m,h=> by
  unfold bindC
  rw [akm fun w hw=> h w (az _ hw)]
  split
  ·rfl
  ·have:x≠n:=by rintro rfl;exact h v ax
   simp [this]
theorem al0{kindOf:Str -> Option eN}{x:Str}{v:af}: ∀{P:List Str} {vs:List af} {i:Nat} {m:Str -> Option af},P.Nodup -> P[i]?=some x -> vs[i]?=some v -> kindOf x=some .local ->
  bindL kindOf (P.zip vs) m x=some v
 |[],_,_,_,_,h,_,_=> by simp at h
 |_::_,[],_,_,_,_,h,_=> by simp at h
 |p::P,w::vs,0,m,nd,h1,h2,hk=> by
  simp at h1 h2;subst h1;subst h2
  show bindL kindOf ((p,w)::P.zip vs) m p=_
  unfold bindL
  rw [akp fun v hv=> (df.mp nd).1 (fE hv).1,if_pos hk]
  simp
 |p::P,w::vs,i+1,m,nd,h1,h2,hk=> by
  show bindL kindOf ((p,w)::P.zip vs) m x=_
  unfold bindL
  exact al0 (i:=i) (df.mp nd).2 (by simpa using h1) (by simpa using h2) hk
theorem ake{kindOf:Str -> Option eN}{x:Str}{v:af}: ∀{P:List Str} {vs:List af} {i:Nat} {m:Str -> Option af},P.Nodup -> P[i]?=some x -> vs[i]?=some v -> kindOf x≠some .local ->
  bindC kindOf (P.zip vs) m x=some v
 |[],_,_,_,_,h,_,_=> by simp at h
 |_::_,[],_,_,_,_,h,_=> by simp at h
 |p::P,w::vs,0,m,nd,h1,h2,hk=> by
  simp at h1 h2;subst h1;subst h2
  show bindC kindOf ((p,w)::P.zip vs) m p=_
  unfold bindC
  rw [akm fun v hv=> (df.mp nd).1 (fE hv).1,if_neg hk]
  simp
 |p::P,w::vs,i+1,m,nd,h1,h2,hk=> by
  show bindC kindOf ((p,w)::P.zip vs) m x=_
  unfold bindC
  exact ake (i:=i) (df.mp nd).2 (by simpa using h1) (by simpa using h2) hk
noncomputable def start(N:List Str)(vs:List V):St:=vs.map some++bH (N.length - vs.length) none
noncomputable def afc(CX:CXT)(P:bz)(w:bw)(K:aw)(mg:Str -> Option af)(base:Heap)(N:List Str)(qual:Str)(scope:dM)(f:Addr)(cd:af)(A:bm)(outer:List Env)(s:ak)(H:Hp)(E:XK):Cx where
 prog:=P
 w:=w
 K:=K
 mg:=mg
 base:=base
 A:=A.deeper (envOfC qual scope s.heap.objs.size f cd)
 N:=N
 s₀:=s
 H₀:=H
 env:=envOfC qual scope s.heap.objs.size f cd
 outer:=outer
 stack:=envOfC qual scope s.heap.objs.size f cd::outer
 ex:=[]
 calm:=true
 fn:=fun _=> true
 pn:=[]
 xe:=fun e s'=> wpAny (model P w) (A.deeper (envOfC qual scope s.heap.objs.size f cd)) (leaving (envOfC qual scope s.heap.objs.size f cd) e) (fun _ s''=> CX outer H s E e s'') (fun e' s''=> CX outer H s E e' s'') s'
theorem amw{sc:dM}(h:sc.names.lookup x=some .cell): ∃c,(cellsFrom n sc.names []).lookup x=some c:=by
 have q:=jJ sc.names n [] (.inl h)
 exact fL.mp q
theorem aty{CX:CXT}{N:List Str}{cd:af}{outer:List Env}{s1:ak}{E:XK}{vs:List V}(S:FnScope N ps scope)(hd:A.handled=none)(e0:Env0 P w K mg base A outer s H)(hl:vs.length=ps.length)(r:jn vs us)(x:InCallC s s.heap.objs.size (bindL (envOfC qual scope s.heap.objs.size f cd).kindOf (ps.zip us) fun _=> none) (cellsFrom (s.heap.objs.size+1) scope.names []) (bindC (envOfC qual scope s.heap.objs.size f cd).kindOf (ps.zip us) fun _=> none) s1):
  Inv (afc CX P w K mg base N qual scope f cd A outer s H E) [] (start N vs) H s1:=by
 have hpl:ps.length <=N.length:=by have:=congrArg lS S.pre;rw [br]at this;lia
 obtain⟨h1,tk,rfl,hk⟩:=x.done
 have noA: ∀b:Addr,b∉(afc CX P w K mg base N qual scope f cd A outer s H E).ex:=fun b z=> absurd (show b∈([]:List Addr) from z) (by simp)
 refine⟨⟨e0.mod,S.kind,rfl,rfl,aD _,fun y z c h1 h2=> ?_,fun y hy=> ?_,fun y c _ h=> ?_,fun _=> hd,Around.frames_deeper e0.frames,.inr ⟨rfl,rfl⟩,fun b z=> absurd z (noA b),e0.bs,e0.bsz,fun b _ _=> noA b,fun b z=> absurd z (noA b),e0.funs,e0.frf⟩,
  rfl,e0.bare,Un.kept hk,⟨_,x.toInCall.ns,fun i y v h1 h2 h3=> ?_⟩,fun y c h=> ⟨_,x.cell y c h⟩,e0.hok.fresh (aD _),fun y c h=> ?_,fun p hp=> absurd (show p∈([]:List (Addr×Obj)) from hp) (by simp),e0.hok.kept hk,?_⟩
 ·exact name_of_addr x.apart (cZ h1) (cZ h2)
 ·have hy:scope.names.lookup y=some .cell\/scope.names.lookup y=some .free:=hy
  rcases hy with hy|hy
  ·exact amw hy
  ·exact absurd rfl (S.nofree _ (cZ hy))
 ·exact fI (x.above y c (cZ h))
 ·have hi:i < vs.length:=by
   unfold start at h2
   by_cases hi:i < vs.length
   ·exact hi
   ·rw [a8 (by simpa using hi)]at h2
    rw [dv]at h2
    split at h2 <;> cases h2
  have ha:vs[i]?=some v:=by
   unfold start at h2
   rw [bd (by simpa using hi),a9]at h2
   cases e:vs[i]? with
   |none=> rw [e]at h2;cases h2
   |some a=> rw [e]at h2;cases h2;rfl
  obtain⟨u,hu,rv⟩:=r.get ha
  have hp:ps[i]?=some y:=by
   rw [←S.pre,ee (by lia)];exact h1
  have ndP:ps.Nodup:=by rw [←S.pre];exact S.nd.sublist (List.take_sublist _ _)
  refine⟨u,rv,?_⟩
  rcases S.par y (bA hp) with k|k
  ·exact .inl ⟨k,al0 ndP hp hu k⟩
  ·obtain⟨c,e⟩:=amw (n:=s.heap.objs.size+1) k
   refine .inr ⟨.inl k,c,e,?_⟩
   have q:=x.cell y c e
   rw [ake ndP hp hu (by show scope.names.lookup y≠_;rw [k];decide)]at q
   exact q
 ·exact e0.hok.fresh (fI (x.above y c (cZ h)))
 ·unfold start
  show _=N.length
  rw [bj,au,gG]
  lia
theorem a62{CX:CXT}{name:Str}{params:Arguments}{dV kV doc pm cdv ct oc:af}{an od:Option Addr}{N:List Str}{sp:Sp}(lk:K.lookup f=some ⟨oc,od,.func (dg name qual params body scope dV kV doc pm an cdv ct),osl⟩)(hcd:f6 K cdv qual=true)(S:FnScope N ps scope)(len: ∀vs H Q E,sp vs H Q E -> vs.length=ps.length)(hbody: ∀(A:bm) (outer:List Env) (s:ak) (H:Hp) (vs:List V) (Q:VK) (E:XK),Room k (A.deeper (envOfC qual scope s.heap.objs.size f cdv)) -> sp vs H Q E ->
   ∃t,PSs (afc CX P w K mg base N qual scope f cdv A outer s H E) body t/\t {nx:=fun _ H'=> Q .non H',rt:=Q} (start N vs) H):
  FnOk P w K mg base CX (k+1) f (dg name qual params body scope dV kV doc pm an cdv ct) ps sp:=by
 refine⟨len,fun A outer s H args us vs Q E hr e0 hb r hsp=> ?_⟩
 have hl:=len _ _ _ _ hsp
 have KX:K.In s.heap:=e0.mod.kin.keeps fun b o e=> (e0.bs b o e).1
 have lim:s.heap.NoLimit:=e0.mod.nolimit.keeps fun b o e=> (e0.bs b o e).1
 have hkind: ∀y∈ps.zip us,scope.names.lookup y.1=some .local\/(scope.names.lookup y.1=some .cell/\((cellsFrom (s.heap.objs.size+1) scope.names []).lookup y.1).isSome=true):=fun⟨n,v⟩ hy=> by
  rcases S.par n (fE hy).1 with q|q
  ·exact .inl q
  ·exact .inr ⟨q,jJ _ _ _ (.inl q)⟩
 refine codeAny_call_function hr.depth (KX _ _ lk) rfl S.co S.gen rfl (PySem.W.codeRec_of KX hcd) (hb _ _ _ _ ?_)
 refine wpAny_newFunctionEnv_cells S.kind hkind fun env he s1 x=> ?_
 subst he
 refine⟨lim.keeps x.toInCall.keep,codeAny_func ?_⟩
 obtain⟨t,ht,hq⟩:=hbody A outer s H vs Q E (hr.deeper _) hsp
 have I:Inv (afc CX P w K mg base N qual scope f cdv A outer s H E) [] (start N vs) H s1:=aty S hr.hd e0 hl r x
 refine bE (ht [] s1 (start N vs) H _ I hq) (fun fl s' hs=> ?_) fun e s' hs=> hs
 have fin: ∀{σ':St} {H':Hp} {v:V} {u:af},Inv (afc CX P w K mg base N qual scope f cdv A outer s H E) [] σ' H' s' -> RelV v u -> Q v H' -> CE outer P w H s Q u s':=
  fun {σ' H' v u} J rv q=> ⟨v,H',J.os,J.bare,J.base,J.hok,rv,q⟩
 cases fl with
 |ret u=>
  obtain⟨v,σ',H',J,rv,q⟩:=hs
  exact fin J rv q
 |next=>
  obtain⟨σ',H',J,q⟩:=hs
  exact fin (v:=V.non) (u:=bu) J rfl q
 |brk=>
  obtain⟨_,_,_,q⟩:=hs
  exact dZ q
 |cont=>
  obtain⟨_,_,_,q⟩:=hs
  exact dZ q
section
variable{X:Cx}{x:Str}{p pos:Pos}{e:Expr}{es:List Expr}{t:TA}{id T:String}{r:List V -> Hp -> VK -> Prop}
noncomputable def tCB(r:List V -> Hp -> VK -> Prop)(t:TA):TE:=fun σ H Q=> t σ H fun vs H1=> r vs H1 Q
theorem am9(hc:vq X (.builtin id) r)(hg:Gl X x)(hm:X.mg x=none)(hv:bM x=some (.builtin id))(ha:PA X (e::es) t)(hn:x≠"__name__":=by decide)(hdb:(x==("__debug__":Str))=false:=by decide)
  (he:starEach (e::es) X.env=(false,eval e X.env)::starEach es X.env:=by rfl) (hpl:(backTo pos (starEach es X.env)).any (·.1)=false:=by rfl):PE X (.Call (.Name x p) (e::es) [] pos) (tCB r t):=by
 (first|refine⟨?_⟩|skip);intro pins s σ H Q I h
 refine ie (aed I hg hm hv ?_ hn hdb)
 exact PyProof.Rows.callWith_builtin1 (thn (ha pos pins s σ H _ I h) fun us s1 ⟨vs,H1,I1,r1,q1⟩=> hc pins s1 σ H1 vs us Q I1 r1 q1) he hpl
theorem ak0(hc:vq X (.type T) r)(hg:Gl X x)(hm:X.mg x=none)(hv:bM x=some (.type T))(ha:PA X (e::es) t)(hn:x≠"__name__":=by decide)(hdb:(x==("__debug__":Str))=false:=by decide)
  (he:starEach (e::es) X.env=(false,eval e X.env)::starEach es X.env:=by rfl) (hpl:(backTo pos (starEach es X.env)).any (·.1)=false:=by rfl):PE X (.Call (.Name x p) (e::es) [] pos) (tCB r t):=by
 (first|refine⟨?_⟩|skip);intro pins s σ H Q I h
 refine ie (aed I hg hm hv ?_ hn hdb)
 exact dF (thn (ha pos pins s σ H _ I h) fun us s1 ⟨vs,H1,I1,r1,q1⟩=> hc pins s1 σ H1 vs us Q I1 r1 q1) he hpl
end
end L2
namespace HT
open PySem PyProof.Rows
theorem cat_tup{t b:Addr}{vs ws:List af}(ht:IsTup s.heap t vs.toArray)(hb:IsTup s.heap b ws.toArray)(hv:vs≠ [])(h1:ws=[] -> Q (.ref t) s)(h2:ws≠ [] -> Q (.ref s.heap.objs.size) {s with heap:=s.heap.push {cls:=.type "tuple",data:=.seq (vs++ws).toArray}})(hsz:vs.length+ws.length <=sizeLine):wpAny (model prog w) A (binaryOp .Add (.ref t) (.ref b)) Q E s:=by
 obtain⟨⟨cls,dd,data,sl⟩,ho,hc,n,hd⟩:=id ht
 obtain⟨⟨cls2,dd2,data2,sl2⟩,ho2,hc2,n2,hd2⟩:=id hb
 simp only at hc hd hc2 hd2
 subst hc hd hc2 hd2
 have e:vs.toArray++ws.toArray=(vs++ws).toArray:=by simp
 by_cases hw:ws=[]
 ·exact lG ⟨_,ho,rfl⟩ ⟨_,ho2,rfl⟩ iU kZ gl gc (fM _ _)
   (tuple_addW1 t b vs.toArray ws.toArray n n2 dd dd2 sl sl2 (by simpa using hv) (by simp [hw])) ⟨ho,ho2,h1 hw⟩
 ·refine lG ⟨_,ho,rfl⟩ ⟨_,ho2,rfl⟩ iU kZ gl gc (fM _ _)
   (tuple_addW2 t b vs.toArray ws.toArray n n2 dd dd2 sl sl2 (by simpa using hv) (by simpa using hw) (by rw [aH,aH];exact hsz)) ⟨ho,ho2,?_⟩
  rw [e]
  exact h2 hw
noncomputable def sIx(n d:Nat):Option Int -> Nat
 |none=> d
 |some v=> if v < 0 then (v+(n:Int)).toNat else min v.toNat n
theorem sIx_none(n d:Nat):sIx n d none=d:=rfl
theorem sIx_nat(n d k:Nat):sIx n d (some (k:Int))=min k n:=by
 show (if (k:Int) < 0 then ((k:Int)+(n:Int)).toNat else min (k:Int).toNat n)=min k n
 rw [if_neg (by lia),cy]
theorem a2m(n d:Nat)(hd:d <=n)(o:Option Int):sIx n d o <=n:=by
 cases o with
 |none=> exact hd
 |some v=>
  show (if v < 0 then (v+(n:Int)).toNat else min v.toNat n) <=n
  by_cases hv:v < 0
  ·rw [if_pos hv];lia
  ·rw [if_neg hv];exact Nat.min_le_right _ _
theorem aol(v:Int)(n d:Nat):(if v < 0 then max (v+(n:Int)) 0 else min v (n:Int))=((sIx n d (some v):Nat):Int):=by
 show (if v < 0 then max (v+(n:Int)) 0 else min v (n:Int))=(((if v < 0 then (v+(n:Int)).toNat else min v.toNat n):Nat):Int)
 by_cases hv:v < 0
 ·simp only [if_pos hv];lia
 ·simp only [if_neg hv];lia
theorem ary(lo hi:Option Int)(n:Nat):cL lo hi 1 (n:Int)=(((sIx n 0 lo:Nat):Int),((sIx n n hi:Nat):Int)):=by
 have h1: ¬((1:Int) < 0):=by lia
 unfold cL
 simp only [h1,if_false]
 refine Prod.ext ?_ ?_
 ·cases lo with
  |none=> rfl
  |some v=> exact aol v n 0
 ·cases hi with
  |none=> rfl
  |some v=> exact aol v n n
theorem aqj(i j:Nat):b8 (i:Int) (j:Int) 1=j - i:=by
 unfold b8
 have h1:(1:Int)> 0:=by lia
 simp only [h1,if_true,Int.ediv_one]
 split <;> lia
theorem aij{v:af}{o:Option Int}{Q:Option Int -> ak -> Prop}(p:gm v o)(h:Q o s):wpAny (model prog w) A (Builtin.Slice.slicePartIndex v) Q E s:=by
 cases p with
 |none=> exact hU h
 |int i t=> exact slicePart_int h
theorem ad2{sl:Addr}{vl vu:af}{lo hi:Option Int}{Q:Int×Int×Nat -> ak -> Prop}(hs:s.heap.IsSliceOf sl vl vu .none)(pl:gm vl lo)(pu:gm vu hi)(h:Q (((sIx n 0 lo:Nat):Int),1,sIx n n hi - sIx n 0 lo) s):wpAny (model prog w) A (fw (.ref sl) (pure (n:Int))) Q E s:=by
 obtain⟨os,hos,hcs,hds⟩:=id hs
 unfold fw iM
 refine ae (ae (b9 hos hds (x:=vl) rfl (ae (b9 hos hds (x:=vu) rfl (ae (b9 hos hds (x:=.none) rfl (aj ?_)))))))
 refine ae (hU ?_)
 show wpAny _ _ (if ((1:Int)==0)=true then _ else _) _ _ s
 rw [if_neg (by decide)]
 refine ae (aij pl (ae (aij pu (ae (aj ?_)))))
 show wpAny _ _ (match cL lo hi 1 (n:Int) with|(lo,hi)=> pure (lo,(1:Int),b8 lo hi 1)) _ _ s
 rw [ary lo hi n]
 show wpAny _ _ (pure (((sIx n 0 lo:Nat):Int),(1:Int),b8 ((sIx n 0 lo:Nat):Int) ((sIx n n hi:Nat):Int) 1)) _ _ s
 rw [aqj]
 exact aj h
theorem ax9(xs:Array af)(i k:Nat):((aZ k).filterMap fun (m:Nat)=> xs[((i:Int)+(m:Int)*1).toNat]?).toArray=((xs.toList.drop i).take k).toArray:=by
 have e:(fun (m:Nat)=> xs[((i:Int)+(m:Int)*1).toNat]?)=fun m=> xs[i+m]?:=by
  funext m
  have:((i:Int)+(m:Int)*1).toNat=i+m:=by lia
  rw [this]
 rw [e]
 have:=pick_run xs i k
 rw [List.filterMap_map]at this
 have e2:((fun x=> xs[x]?)∘fun x=> i+x)=fun m=> xs[i+m]?:=rfl
 rw [e2]at this
 rw [this]
theorem getItem_tuple_cut{t sl:Addr}{items:Array af}{vl vu:af}{lo hi:Option Int}(ht:IsTup s.heap t items)(hs:s.heap.IsSliceOf sl vl vu .none)(pl:gm vl lo)(pu:gm vu hi)(hw: ¬(sIx items.size 0 lo=0/\sIx items.size items.size hi=items.size))(h:Q (.ref s.heap.objs.size) {s with heap:=s.heap.push {cls:=.type "tuple",data:=.seq ((items.toList.drop (sIx items.size 0 lo)).take (sIx items.size items.size hi - sIx items.size 0 lo)).toArray}})(hsz:items.size <=sizeLine):wpAny (model prog w) A (getItem (.ref t) (.ref sl)) Q E s:=by
 have htake:sizeOk (.seq ((items.toList.drop (sIx items.size 0 lo)).take (sIx items.size items.size hi - sIx items.size 0 lo)).toArray):=by
  show ((items.toList.drop (sIx items.size 0 lo)).take (sIx items.size items.size hi - sIx items.size 0 lo)).toArray.size <=sizeLine
  rw [aH,br,ef,aG]
  lia
 have hj:sIx items.size items.size hi <=items.size:=a2m _ _ (aD _) hi
 obtain⟨os,hos,hcs,hds⟩:=id hs
 have hTs:s.TypeIs (.ref sl) "slice":=⟨os,hos,hcs⟩
 unfold getItem
 try with_reducible refine bB ?_
 first|refine ae (aj ?_)|skip
 refine ae (iD ht.typeIs (by decide) ?_)
 refine ae (cD (name:=bQ "__getitem__") ht.typeIs bF
  (cE bF ht.typeIs g6 ?_ (ig _ _)))
 show wpAny _ _ (dR (.ref t)>>=_) _ _ s
 refine ae (lc ht ?_)
 refine ae (eT hTs ?_)
 rw [if_pos (by decide)]
 refine ae (ad2 hs pl pu ?_)
 have hno: ¬((((sIx items.size 0 lo:Nat):Int)==0&&(1:Int)==1&&(sIx items.size items.size hi - sIx items.size 0 lo)==items.size)=true):=by
  intro q
  rw [am,am]at q
  have q1:((sIx items.size 0 lo:Nat):Int)=0:=eq_of_beq q.1.1
  have q2:sIx items.size items.size hi - sIx items.size 0 lo=items.size:=eq_of_beq q.2
  exact hw ⟨by lia,by lia⟩
 show wpAny _ _ (if (((sIx items.size 0 lo:Nat):Int)==0&&(1:Int)==1&&(sIx items.size items.size hi - sIx items.size 0 lo)==items.size)=true then _ else _) _ _ s
 rw [if_neg hno,ax9]
 first
  |exact ae (m:=cP _) (cT (aj ⟨_,rfl,aj h⟩) htake)
  |exact ae (m:=cP _) (cT (ae (aj (aj ⟨_,rfl,aj h⟩))) htake)
  |exact ae (ae (m:=cP _) (cT (aj (aj ⟨_,rfl,aj h⟩)) htake))
  |exact ae (ae (m:=cP _) (cT (aj ⟨_,rfl,aj h⟩) htake))
end HT
namespace L2
open PySem PySem.Spec PyProof.Rows
abbrev TO:=St -> Hp -> (Option Int -> Hp -> Prop) -> Prop
def PO(X:Cx)(e:Option Expr)(t:TO):Prop:=
 ∀(pins:List (Addr×Obj)) (s:ak) (σ:St) (H:Hp) (Q:Option Int -> Hp -> Prop),Inv X pins σ H s -> t σ H Q ->
  wpAny (model X.prog X.w) X.A (evalPart e X.env) (fun u s'=> ∃o H',Inv X pins σ H' s'/\gm u o/\Q o H') X.xe s
noncomputable def azv:TO:=fun _ H Q=> Q none H
noncomputable def a5y(t:TE):TO:=fun σ H Q=> t σ H fun x H1=> ∃i,x=.int i/\Q (some i) H1
section
variable{X:Cx}{e:Expr}{te:TE}{lo hi:Option Expr}{tl th:TO}{pos p2:Pos}
theorem a0k:PO X none azv:=by
 (first|refine⟨?_⟩|skip);intro pins s σ H Q I h
 rw [lg]
 exact aj ⟨none,H,I,.none,h⟩
theorem a0b(h:PE X e te):PO X (some e) (a5y te):=by
 (first|refine⟨?_⟩|skip);intro pins s σ H Q I hw
 rw [evalPart_some]
 refine thn (h pins s σ H _ I hw) fun u s1 ⟨x,H1,I1,r1,q1⟩=> ?_
 obtain⟨i,rfl,q⟩:=q1
 obtain⟨t,rfl⟩:=r1
 exact⟨some i,H1,I1,.int i t,q⟩
def SlR(X:Cx)(r:V -> Option Int -> Option Int -> Hp -> VK -> Prop):Prop:=
 ∀(pins:List (Addr×Obj)) (s:ak) (σ:St) (H:Hp) (x:V) (v vl vu:af) (lo hi:Option Int) (sl:Addr) (Q:VK),Inv X pins σ H s -> RelV x v -> s.heap.IsSliceOf sl vl vu .none -> gm vl lo -> gm vu hi -> r x lo hi H Q ->
  ∃T id,typeLookup (.type T) "__getitem__"=pure (some (.builtin id))/\s.TypeIs v T/\wpAny (model X.prog X.w) X.A (getItem v (.ref sl)) (EP X pins σ Q) X.xe s
theorem SlR.or{r r':V -> Option Int -> Option Int -> Hp -> VK -> Prop}(h:SlR X r)(h':SlR X r'):SlR X (fun x lo hi H Q=> r x lo hi H Q\/r' x lo hi H Q):=by
 (first|refine⟨?_⟩|skip);intro pins s σ H x v vl vu lo hi sl Q I rx hs pl pu q
 rcases q with q|q
 ·exact h pins s σ H x v vl vu lo hi sl Q I rx hs pl pu q
 ·exact h' pins s σ H x v vl vu lo hi sl Q I rx hs pl pu q
noncomputable def tSl(r:V -> Option Int -> Option Int -> Hp -> VK -> Prop)(te:TE)(tl th:TO):TE:=fun σ H Q=> te σ H fun x H1=> tl σ H1 fun l H2=> th σ H2 fun u H3=> r x l u H3 Q
theorem avj{r:V -> Option Int -> Option Int -> Hp -> VK -> Prop}(hr:SlR X r)(he:PE X e te)(hl:PO X lo tl)(hu:PO X hi th):PE X (.Subscript e (.Slice lo hi none p2) pos) (tSl r te tl th):=by
 (first|refine⟨?_⟩|skip);intro pins s σ H Q I h
 refine Subscript_ (thn (he pins s σ H _ I h) fun v s1 ⟨x,H1,I1,r1,q1⟩=> ?_)
 refine wpAny_Slice (thn (hl pins s1 σ H1 _ I1 q1) fun vl s2 ⟨l,H2,I2,pl,q2⟩=> thn (hu pins s2 σ H2 _ I2 q2) fun vu s3 ⟨u,H3,I3,pu,q3⟩=> ?_)
 rw [lg]
 refine aj ?_
 have I4:Inv X pins σ H3 {s3 with heap:=s3.heap.push {cls:=.type "slice",data:=.fields #[vl,vu,.none]}}:=I3.kept (t':=s3.toks) fun b ob q=> aq _ q
 obtain⟨T,id,hT,ht,hg⟩:=hr pins {s3 with heap:=s3.heap.push {cls:=.type "slice",data:=.fields #[vl,vu,.none]}} σ H3 x v vl vu l u s3.heap.objs.size Q I4 r1 (Heap.IsSliceOf.new ..) pl pu q3
 show wpAny (model X.prog X.w) X.A (lh e (.Slice lo hi none p2) v (.ref s3.heap.objs.size)) (EP X pins σ Q) X.xe {s3 with heap:=s3.heap.push {cls:=.type "slice",data:=.fields #[vl,vu,.none]}}
 exact tail_any (ops:=[.ref s3.heap.objs.size,v]) ht hT hg (by with_unfolding_all rfl)
def aaf(xs:List V)(lo hi:Option Int):List V:=(xs.drop (HT.sIx xs.length 0 lo)).take (HT.sIx xs.length xs.length hi - HT.sIx xs.length 0 lo)
theorem ah7(xs:List V)(lo hi:Option Int):(aaf xs lo hi).length <=xs.length:=by
 unfold aaf
 rw [br,ef]
 lia
def a88(K:aw):V -> Option Int -> Option Int -> Hp -> VK -> Prop:=fun x lo hi H Q=> ∃a xs,x=.ref a/\SqT K H a xs/\
 ¬(HT.sIx xs.length 0 lo=0/\HT.sIx xs.length xs.length hi=xs.length)/\ ∀p,H p=none -> Q (.ref p) (upd H p (.tup (aaf xs lo hi)))
theorem asz:SlR X (a88 X.K):=by
 (first|refine⟨?_⟩|skip);intro pins s σ H x v vl vu lo hi sl Q I rx hs pl pu h
 obtain⟨a,xs,rfl,hx,hw,q⟩:=h
 cases rx
 obtain⟨its,r,ht,hz⟩:=I.tuple hx
 have hlen:its.toArray.size=xs.length:=by rw [aH];exact r.length.symm
 refine⟨"tuple",_,bF.lookup,ht.typeIs,?_⟩
 refine HT.getItem_tuple_cut ht hs pl pu (by rw [hlen];exact hw) ?_ (by rw [hlen];exact hz)
 rw [hlen]
 refine⟨.ref s.heap.objs.size,_,I.laid (t':=s.toks) (o:=.tup (aaf xs lo hi)) (fun b ob q=> aq _ q) (aD _) ?_,rfl,q _ (I.hok.fresh (aD _))⟩
 exact⟨aJ (ah7 xs lo hi) hz,_,(r.drop (HT.sIx xs.length 0 lo)).take (HT.sIx xs.length xs.length hi - HT.sIx xs.length 0 lo),afb.new _ _⟩
def a6r(K:aw):R2:=fun x y H Q=> ∃a b xs ys,x=.ref a/\y=.ref b/\SqT K H a xs/\SqT K H b ys/\xs≠ []/\xs.length+ys.length <=sizeLine/\
 (ys=[] -> Q (.ref a) H)/\(ys≠ [] -> ∀p,H p=none -> Q (.ref p) (upd H p (.tup (xs++ys))))
theorem jn.nil_iff(r:jn xs us):us=[] ↔ xs=[]:=by
 cases r with
 |nil=> simp
 |cons _ _=> simp
theorem azg:OpR X (binaryOp .Add) (a6r X.K):=by
 (first|refine⟨?_⟩|skip);intro pins s σ H x y v u Q I rx ry h
 obtain⟨a,b,xs,ys,rfl,rfl,ha,hb,hx,hz,q1,q2⟩:=h
 cases rx
 cases ry
 obtain⟨its,r1,p1,_⟩:=I.tuple ha
 obtain⟨its2,r2,p2,_⟩:=I.tuple hb
 refine HT.cat_tup p1 p2 (fun z=> hx (r1.nil_iff.mp z)) (fun z=> ⟨.ref a,H,I,rfl,q1 (r2.nil_iff.mp z)⟩) (fun z=> ?_) (by rw [←r1.length,←r2.length];exact hz)
 refine⟨.ref s.heap.objs.size,_,I.laid (t':=s.toks) (o:=.tup (xs++ys)) (fun b ob q=> aq _ q) (aD _) ?_,rfl,q2 (fun w=> z (r2.nil_iff.mpr w)) _ (I.hok.fresh (aD _))⟩
 exact⟨by rw [bj];exact hz,_,r1.append r2,afb.new _ _⟩
end
noncomputable def ixN(n:Nat)(i:Int):Option Nat:=if 0 <=i then (if i < n then some i.toNat else none) else if -(n:Int) <=i then some (i+n).toNat else none
def atI{α:Type}(xs:List α)(i:Int):Option α:=(ixN xs.length i).bind fun j=> xs[j]?
theorem apo{i:Int}{j:Nat}(h:ixN n i=some j):seqIndex? i n=some j/\j < n/\ -(n:Int) <=i/\i < n:=by
 unfold ixN at h
 by_cases h0:0 <=i
 ·rw [if_pos h0]at h
  by_cases h1:i < n
  ·rw [if_pos h1]at h
   have e:i.toNat=j:=cC h
   exact⟨by rw [lT h0 h1,e],by lia,by lia,h1⟩
  ·rw [if_neg h1]at h;cases h
 ·rw [if_neg h0]at h
  by_cases h1: -(n:Int) <=i
  ·rw [if_pos h1]at h
   have e:(i+n).toNat=j:=cC h
   exact⟨by rw [lH (by lia) h1,e],by lia,h1,by lia⟩
  ·rw [if_neg h1]at h;cases h
theorem ajn{α:Type}{xs:List α}{i:Int}{v:α}(h:atI xs i=some v): ∃j,seqIndex? i xs.length=some j/\xs[j]?=some v/\j < xs.length/\ -(xs.length:Int) <=i/\i < xs.length:=by
 unfold atI at h
 cases e:ixN xs.length i with
 |none=> rw [e]at h;cases h
 |some j=>
  rw [e]at h
  obtain⟨h1,h2,h3,h4⟩:=apo e
  exact⟨j,h1,h,h2,h3,h4⟩
theorem agd{α:Type}{xs:List α}{j:Nat}{v:α}(h:xs[j]?=some v):atI xs (j:Int)=some v:=by
 have hj:j < xs.length:=(aC.mp h).1
 have e:ixN xs.length (j:Int)=some j:=by
  unfold ixN
  rw [if_pos (by lia),if_pos (by lia)];simp
 unfold atI;rw [e];exact h
def aq0(b:Expr):Prop:= ∀o i,subscripted b false o i=operate [o,i] (getItem o i)
def IxR(X:Cx)(r:R2):Prop:=
 ∀(value slice:Expr) (pins:List (Addr×Obj)) (s:ak) (σ:St) (H:Hp) (x y:V) (v u:af) (Q:VK),Inv X pins σ H s -> RelV x v -> RelV y u -> r x y H Q ->
  subscripted slice false v u=operate [v,u] (getItem v u) -> wpAny (model X.prog X.w) X.A (lh value slice v u) (EP X pins σ Q) X.xe s
def MtR(X:Cx)(id:String)(r:V -> List V -> Hp -> VK -> Prop):Prop:=
 ∀(pins:List (Addr×Obj)) (s:ak) (σ:St) (H:Hp) (x:V) (xs:List V) (v:af) (us:List af) (Q:VK),Inv X pins σ H s -> RelV x v -> jn xs us -> r x xs H Q ->
  wpAny (model X.prog X.w) X.A (call (.builtin id) (v::us)) (EP X pins σ Q) X.xe s
section
variable{X:Cx}{a b:Expr}{ta tb:TE}{pos:Pos}
theorem IxR.or{r r':R2}(h:IxR X r)(h':IxR X r'):IxR X (fun x y H Q=> r x y H Q\/r' x y H Q):=by
 intro value slice pins s σ H x y v u Q I rx ry q hs
 rcases q with q|q
 ·exact h value slice pins s σ H x y v u Q I rx ry q hs
 ·exact h' value slice pins s σ H x y v u Q I rx ry q hs
theorem a6h{r:R2}(hr:IxR X r)(ha:PE X a ta)(hb:PE X b tb)(hs:aq0 b):PE X (.Subscript a b pos) (tOp r ta tb):=by
 (first|refine⟨?_⟩|skip);intro pins s σ H Q I h
 exact Subscript_ (avm ha hb I h fun v u s2 x y H2 I2 rx ry q=> hr a b pins s2 σ H2 x y v u Q I2 rx ry q (hs _ _))
def a2w(K:aw):R2:=fun x y H Q=> ∃p xs i v,x=.ref p/\y=.int i/\SqL K H p xs/\atI xs i=some v/\Q v H
def a3i(K:aw):R2:=fun x y H Q=> ∃p xs i v,x=.ref p/\y=.int i/\SqT K H p xs/\atI xs i=some v/\Q v H
def a2p:R2:=fun x y H Q=> ∃z i c,x=.str z/\y=.int i/\z.length <=sizeLine/\atI z.cps.toList i=some c/\Q (.str ⟨#[c]⟩) H
theorem a06:IxR X (a2w X.K):=by
 intro value slice pins s σ H x y v u Q I rx ry h hs
 obtain⟨p,xs,i,z,rfl,rfl,hq,he,q⟩:=h
 cases rx
 obtain⟨t,rfl⟩:=ry
 obtain⟨its,r,pl,hz⟩:=I.list hq
 obtain⟨j,h1,h2,h3,h4,h5⟩:=ajn he
 obtain⟨w,ew,rw'⟩:=r.get h2
 have hl:=r.length
 have hn:=ad5
 have fin:EP X pins σ Q w s:=⟨z,H,I,rw',q⟩
 by_cases h0:0 <=i
 ·have hj:i.toNat=j:=by
   rw [lT h0 h5]at h1
   exact cC h1
  exact item_listR pl.isList h0 (by lia) (by rw [hj];simpa using ew) fin hs
 ·have hj:(i+(its.toArray.size:Int)).toNat=j:=by
   rw [lH (by lia) h4]at h1
   rw [aH,←hl]
   exact cC h1
  exact jK (x:=w) pl.isList.typeIs slot_list_getitem.lookup
   (wpAny_getItem_list_neg (Q:=fun r s'=> r=w/\EP X pins σ Q r s') pl.isList (by lia) (by rw [aH] <;> lia) (by lia) (by rw [hj];simpa using ew) ⟨rfl,fin⟩) hs
theorem a3k:IxR X (a3i X.K):=by
 intro value slice pins s σ H x y v u Q I rx ry h hs
 obtain⟨p,xs,i,z,rfl,rfl,hq,he,q⟩:=h
 cases rx
 obtain⟨t,rfl⟩:=ry
 obtain⟨its,r,pl,hz⟩:=I.tuple hq
 obtain⟨j,h1,h2,h3,h4,h5⟩:=ajn he
 obtain⟨w,ew,rw'⟩:=r.get h2
 have hl:=r.length
 have hn:=ad5
 have fin:EP X pins σ Q w s:=⟨z,H,I,rw',q⟩
 exact jK (x:=w) pl.typeIs slot_tuple_getitem.lookup
  (getItem_tuple (j:=j) (Q:=fun r s'=> r=w/\EP X pins σ Q r s') pl (by lia) (by lia) (by rw [aH,←hl];exact h1) (by simpa using ew) ⟨rfl,fin⟩) hs
theorem ali:IxR X a2p:=by
 intro value slice pins s σ H x y v u Q I rx ry h hs
 obtain⟨z,i,c,rfl,rfl,hz,he,q⟩:=h
 obtain⟨t,rfl⟩:=rx
 obtain⟨t',rfl⟩:=ry
 obtain⟨j,h1,h2,h3,h4,h5⟩:=ajn he
 have hl:z.cps.toList.length=z.length:=by simp [Str.length]
 rw [hl]at h1 h4 h5
 have hn:=ad5
 exact tail_any (f7 s z t) slot_str_getitem.lookup (getItem_str (c:=c) (by
  have e1:decide (i < -(2^63:Int))=false:=decide_eq_false (by lia)
  have e2:decide (i≥2^63)=false:=decide_eq_false (by lia)
  rw [e1,e2,Bool.or_false]) (by rw [h1];simpa using h2) ⟨.str ⟨#[c]⟩,H,I.tok _,⟨_,rfl⟩,q⟩) hs
def rIx(K:aw):R2:=fun x y H Q=> a2w K x y H Q\/a3i K x y H Q\/a2p x y H Q
theorem a22:IxR X (rIx X.K):=a06.or (a3k.or ali)
theorem ars(its:List af)(n j:Nat)(u:af):fg (·.setIfInBounds j u) {cls:=.type "list",data:=.seq its.toArray n}={cls:=.type "list",data:=.seq (its.set j u).toArray n}:=by
 simp [fg]
theorem Inv.lst(I:Inv X pins σ H s)(h:H p=some (.lst xs)):
  ∃(its:List af) (n:Nat),jn xs its/\s.heap.get? p=some {cls:=.type "list",data:=.seq its.toArray n}/\xs.length <=sizeLine:=by
 obtain⟨z,its,n,r,e⟩:=I.hok p _ h
 exact⟨its,n,r,e,z⟩
theorem Inv.lstUpd{its':List af}{n':Nat}{f:Obj -> Obj}(I:Inv X pins σ H s)(h:H p=some (.lst xs))(ho:s.heap.get? p=some {cls:=.type "list",data:=.seq its.toArray n})(hf:f {cls:=.type "list",data:=.seq its.toArray n}={cls:=.type "list",data:=.seq its'.toArray n'})(r:jn ys its')(hz:ys.length <=sizeLine)(t:Nat):
  Inv X pins σ (upd H p (.lst ys)) {s with heap:=s.heap.update p f,toks:=t}:=by
 have e:(s.heap.update p f).get? p=some {cls:=.type "list",data:=.seq its'.toArray n'}:=by
  rw [gH f ho (by rw [hf] <;> rfl),hf]
 refine I.write (x:=p) (e:=p) (by rw [h];trivial) (.inl rfl) (fun b u hb q=> (jL _ _ (di hb)).trans q) ⟨_,e⟩ ?_
 exact⟨hz,its',n',r,e⟩
def a6w:V -> V -> V -> Hp -> (Hp -> Prop) -> Prop:=fun o i v H Q=> ∃p xs k j,o=.ref p/\i=.int k/\H p=some (.lst xs)/\ixN xs.length k=some j/\Q (upd H p (.lst (xs.set j v)))
theorem awv:ajl X a6w:=by
 (first|refine⟨?_⟩|skip);intro pins s σ H o i v ov iv u Q I ro ri rv h
 obtain⟨p,xs,k,j,rfl,rfl,hp,hj,q⟩:=h
 cases ro
 obtain⟨t,rfl⟩:=ri
 obtain⟨its,n,r,ho,hz⟩:=I.lst hp
 obtain⟨h1,h2,h3,h4⟩:=apo hj
 have hl:=r.length
 have hn:=ad5
 have I':Inv X pins σ (upd H p (.lst (xs.set j v))) {s with heap:=s.heap.update p (fg (·.setIfInBounds j u))}:=
  I.lstUpd hp ho (ars its n j u) (r.set rv j) (by rw [List.length_set];exact hz) s.toks
 by_cases h0:0 <=k
 ·have hk:k.toNat=j:=by
   rw [lT h0 h4]at h1
   exact cC h1
  exact PySem.W.ki_setAt ho h0 (by lia) (by rw [aH,←hl];exact h4) (by rw [hk];exact⟨_,I',q⟩)
 ·have hk:(k+(its.toArray.size:Int)).toNat=j:=by
   rw [lH (by lia) h3]at h1
   rw [aH,←hl]
   exact cC h1
  exact PySem.W.ki_setBack ho (by lia) (by rw [aH,←hl];exact h3) (by lia) (by rw [hk];exact⟨_,I',q⟩)
theorem anl(lo hi:Option Int)(n:Nat):(fA lo hi none n).1=((HT.sIx n 0 lo:Nat):Int)/\(fA lo hi none n).2.1=((HT.sIx n n hi:Nat):Int)/\(fA lo hi none n).2.2=1:=by
 refine⟨?_,?_,rfl⟩
 ·cases lo with
  |none=> simp [fA,HT.sIx]
  |some i=>
   simp only [fA,HT.sIx,Option.getD_none,show (1:Int)> 0 by decide,if_true]
   by_cases h:i < 0
   ·simp only [h,if_true] <;> lia
   ·simp only [h,if_false] <;> lia
 ·cases hi with
  |none=> simp [fA,HT.sIx]
  |some i=>
   simp only [fA,HT.sIx,Option.getD_none,show (1:Int)> 0 by decide,if_true]
   by_cases h:i < 0
   ·simp only [h,if_true] <;> lia
   ·simp only [h,if_false] <;> lia
theorem al3(its:List af)(lo hi:Option Int):slicePick its.toArray lo hi none=((its.drop (HT.sIx its.length 0 lo)).take (HT.sIx its.length its.length hi - HT.sIx its.length 0 lo)).toArray:=by
 obtain⟨h1,h2,h3⟩:=anl lo hi its.toArray.size
 unfold slicePick
 rw [h1,h2,h3]
 simp only [sliceRange_one,pick_run,aH] <;> rfl
def a8k(K:aw):V -> Option Int -> Option Int -> Hp -> VK -> Prop:=fun x lo hi H Q=> ∃a xs,x=.ref a/\SqL K H a xs/\ ∀p,H p=none -> Q (.ref p) (upd H p (.lst (aaf xs lo hi)))
theorem a0i:SlR X (a8k X.K):=by
 (first|refine⟨?_⟩|skip);intro pins s σ H x v vl vu lo hi sl Q I rx hs pl pu h
 obtain⟨a,xs,rfl,hx,q⟩:=h
 cases rx
 obtain⟨its,r,ht,hz⟩:=I.list hx
 have hlen:=r.length
 refine⟨"list",_,slot_list_getitem.lookup,ht.isList.typeIs,?_⟩
 refine wpAny_getItem_list_slice ht.isList hs pl pu .none (by simp) ?_ (by rw [aH] <;> lia)
 rw [al3,←hlen]
 refine⟨.ref s.heap.objs.size,_,I.laid (t':=s.toks) (o:=.lst (aaf xs lo hi)) (fun b ob q=> aq _ q) (aD _) ?_,rfl,q _ (I.hok.fresh (aD _))⟩
 exact⟨aJ (ah7 xs lo hi) hz,_,0,(r.drop (HT.sIx xs.length 0 lo)).take (HT.sIx xs.length xs.length hi - HT.sIx xs.length 0 lo),aQ _ rfl⟩
theorem amr:vq X (.builtin "len") (fun xs H Q=> ∃p ys,xs=[.ref p]/\(SqL X.K H p ys\/SqT X.K H p ys)/\Q (.int ys.length) H):=by
 (first|refine⟨?_⟩|skip);intro pins s σ H xs us Q I r h
 obtain⟨p,ys,rfl,hq,q⟩:=h
 obtain⟨u,rfl,rx⟩:=vals1 r
 cases rx
 have hn:=ad5
 rcases hq with hq|hq
 ·obtain⟨its,r',pl,hz⟩:=I.list hq
  have hlen:=r'.length
  exact Calls.call_len_list pl.isList (by simp only [aH] <;> lia) ⟨.int ys.length,H,I.tok _,⟨s.toks+1,by rw [aH,hlen]⟩,q⟩
 ·obtain⟨its,r',pl,hz⟩:=I.tuple hq
  have hlen:=r'.length
  exact len_tuple pl (by simp only [aH] <;> lia) ⟨.int ys.length,H,I.tok _,⟨s.toks+1,by rw [aH,hlen]⟩,q⟩
theorem am7:vq X (.builtin "len") (fun xs H Q=> ∃z,xs=[.str z]/\z.length <=sizeLine/\Q (.int z.length) H):=by
 (first|refine⟨?_⟩|skip);intro pins s σ H xs us Q I r h
 obtain⟨z,rfl,hz,q⟩:=h
 obtain⟨u,rfl,t,rfl⟩:=vals1 r
 have hn:=ad5
 exact len_str (by lia) ⟨.int z.length,H,I.tok _,⟨_,rfl⟩,q⟩
theorem anb:vq X (.type "list") (fun xs H Q=> ∃p ys,xs=[.ref p]/\(SqL X.K H p ys\/SqT X.K H p ys)/\ ∀l,H l=none -> Q (.ref l) (upd H l (.lst ys))):=by
 (first|refine⟨?_⟩|skip);intro pins s σ H xs us Q I r h
 obtain⟨p,ys,rfl,hq,q⟩:=h
 obtain⟨u,rfl,rx⟩:=vals1 r
 cases rx
 have fin: ∀(its:List af),jn ys its -> ys.length <=sizeLine -> ∀(h':Heap) (c':Nat),(∀b o',s.heap.get? b=some o' -> h'.get? b=some o') ->
   h'.get? s.heap.objs.size=some {cls:=.type "list",dict:=none,data:=.seq its.toArray c',slots:= #[]} -> EP X pins σ Q (.ref s.heap.objs.size) {s with heap:=h'}:=fun its r' hz h' c' kp e=>
  ⟨.ref s.heap.objs.size,_,I.laid (t':=s.toks) kp (aD _) (show j6 X.prog X.w _ h' _ (.lst ys) from ⟨hz,its,c',r',e⟩),rfl,q _ (I.hok.fresh (aD _))⟩
 rcases hq with hq|hq
 ·obtain⟨its,r',pl,hz⟩:=I.list hq
  have hlen:=r'.length
  obtain⟨o,ho,hc,n,hd⟩:=pl.isList
  exact call_list_seq p (.inl rfl) ho hc hd (fun h' c' kp e=> fin its r' hz h' c' kp e) (by simp only [aH] <;> lia)
 ·obtain⟨its,r',pl,hz⟩:=I.tuple hq
  have hlen:=r'.length
  obtain⟨o,ho,hc,n,hd⟩:=pl
  exact call_list_seq p (.inr rfl) ho hc hd (fun h' c' kp e=> fin its r' hz h' c' kp e) (by simp only [aH] <;> lia)
theorem al1:vq X (.type "tuple") (fun xs H Q=> ∃p ys,xs=[.ref p]/\((SqL X.K H p ys/\ ∀l,H l=none -> Q (.ref l) (upd H l (.tup ys)))\/(SqT X.K H p ys/\Q (.ref p) H))):=by
 (first|refine⟨?_⟩|skip);intro pins s σ H xs us Q I r h
 obtain⟨p,ys,rfl,h⟩:=h
 obtain⟨u,rfl,rx⟩:=vals1 r
 cases rx
 rcases h with ⟨hq,q⟩|⟨hq,q⟩
 ·obtain⟨its,r',pl,hz⟩:=I.list hq
  have hlen:=r'.length
  refine call_tuple_list pl.isList (fun h' kp=> ?_) (by simp only [aH] <;> lia)
  have I1:Inv X pins σ H {s with heap:=h'}:=I.kept (t':=s.toks) kp
  have I2:Inv X pins σ (upd H h'.objs.size (.tup ys)) {s with heap:=h'.push {cls:=.type "tuple",data:=.seq its.toArray}}:=
   I1.laid (t':=s.toks) (fun b o e=> aq _ e) (aD _) (show j6 X.prog X.w _ _ _ (.tup ys) from ⟨hz,its,r',afb.new _ _⟩)
  exact⟨.ref h'.objs.size,_,I2,rfl,q _ (I1.hok.fresh (aD _))⟩
 ·obtain⟨its,r',pl,hz⟩:=I.tuple hq
  exact call_tuple_same pl ⟨.ref p,H,I,rfl,q⟩
def tyV(K:aw)(T:String)(x:V)(H:Hp):Prop:=match x with
 |.str _=> T="str"
 |.int _=> T="int"
 | .ref p=> (T="list"/\ ∃xs,SqL K H p xs)\/(T="tuple"/\ ∃o,K.lookup p=some o/\o.cls=.type "tuple"/\o.dict=none)\/
   (T="dict"/\ ∃kvs,H p=some (.dK kvs))
 |_=> False
theorem atc{x:V}{v:af}(I:Inv X pins σ H s)(r:RelV x v)(ty:tyV X.K T x H):
  s.TypeIs v T/\ ∀a,v=.ref a -> ∃ob,s.heap.get? a=some ob/\ob.dict=none:=by
 cases x with
 |str z=>
  obtain⟨t,rfl⟩:=r
  cases (show T="str" from ty)
  exact⟨f7 s z t,fun _ e=> nomatch e⟩
 |int i=>
  obtain⟨t,rfl⟩:=r
  cases (show T="int" from ty)
  exact⟨typeIs_int s i t,fun _ e=> nomatch e⟩
 | ref p=>
  cases r
  rcases ty with ⟨rfl,xs,hq⟩|⟨rfl,o,hk,hc,hd⟩|⟨rfl,hk⟩
  ·obtain⟨its,_,pl,_⟩:=I.list hq
   refine⟨pl.isList.typeIs,fun a e=> ?_⟩
   cases e
   obtain⟨o,n,e,c,hd,_⟩:=pl
   exact⟨o,e,hd⟩
  ·refine⟨⟨o,I.kIn p o hk,hc⟩,fun a e=> ?_⟩
   cases e
   exact⟨o,I.kIn _ o hk,hd⟩
  ·obtain⟨kvs,hk⟩:=hk
   obtain⟨_,_,_,_,o,_,_,e,ex,_⟩:=I.hok p _ hk
   refine⟨⟨o,e,ex.1⟩,fun a e2=> ?_⟩
   cases e2
   exact⟨o,e,ex.2.1⟩
 |_=> exact dZ ty
noncomputable def a8t(K:aw)(T:String)(r:V -> List V -> Hp -> VK -> Prop)(to:TE):TE:=fun σ H Q=> to σ H fun x H1=> tyV K T x H1/\r x [] H1 Q
noncomputable def tBM(K:aw)(T:String)(r:V -> List V -> Hp -> VK -> Prop)(to:TE)(t:TA):TE:=fun σ H Q=> to σ H fun x H1=> tyV K T x H1/\t σ H1 fun xs H2=> r x xs H2 Q
variable{o e:Expr}{es:List Expr}{to:TE}{t:TA}{name:Str}{apos cpos:Pos}{T id:String}{r:V -> List V -> Hp -> VK -> Prop}
theorem a44(pa:PlainAttrs T)(slot:Slot T name id)(hty:typeOf (.builtin id)=pure (.type "method_descriptor"))(hm:MtR X id r)(ho:PE X o to)
  (hbase:fx o name X.env (eval o X.env)=eval o X.env:=by rfl) (hline:(apos.endLine==cpos.line)=true:=by rfl):PE X (.Call (.Attribute o name apos) [] [] cpos) (a8t X.K T r to):=by
 (first|refine⟨?_⟩|skip);intro pins s σ H Q I h
 refine wpAny_Call_method0_late hbase hline (thn (ho pins s σ H _ I h) fun v s1 ⟨x,H1,I1,r1,ty,q1⟩=> ?_)
 obtain⟨h1,h2⟩:=atc I1 r1 ty
 exact⟨T,id,pa,slot,hty,h1,h2,gn rfl (PySem.evalArgs_none (hm pins s1 σ H1 x [] v [] Q I1 r1 .nil q1))⟩
theorem a5w(pa:PlainAttrs T)(slot:Slot T name id)(hty:typeOf (.builtin id)=pure (.type "method_descriptor"))(hm:MtR X id r)(ho:PE X o to)(ha:PA X (e::es) t)
  (hbase:fx o name X.env (eval o X.env)=eval o X.env:=by rfl)
  (hfew:((backTo cpos (starEach (e::es) X.env)).all (fun x=> !x.1)&&(backToKw cpos (jM [] X.env)).all (fun x=> x.1.isSome)
   &&decide ((e::es).length+([]:List hV).length+(if ([]:List hV).isEmpty then 0 else 1) < 30))=true:=by rfl)
  (hline:(apos.endLine==cpos.line)=true:=by rfl) (hs:starEach (e::es) X.env=(false,eval e X.env)::starEach es X.env:=by rfl) (hplain:(backTo cpos (starEach es X.env)).any (·.1)=false:=by rfl):
  PE X (.Call (.Attribute o name apos) (e::es) [] cpos) (tBM X.K T r to t):=by
 (first|refine⟨?_⟩|skip);intro pins s σ H Q I h
 refine jN hbase hfew hline rfl (thn (ho pins s σ H _ I h) fun v s1 ⟨x,H1,I1,r1,ty,q1⟩=> ?_)
 obtain⟨h1,h2⟩:=atc I1 r1 ty
 refine⟨T,id,pa,slot,hty,h1,h2,?_⟩
 have hA:=ha cpos pins s1 σ H1 _ I1 q1
 rw [hs]at hA⊢
 refine gn (by show (false||(backTo cpos (starEach es X.env)).any (·.1))=false;rw [hplain] <;> rfl) (kI ?_)
 exact thn hA fun us s2 ⟨vs,H2,I2,r2,q2⟩=> hm pins s2 σ H2 x vs v us Q I2 r1 r2 q2
end
def MtM(X:Cx)(id:String)(r:V -> List V -> Hp -> VK -> Prop):Prop:=
 ∀(pins:List (Addr×Obj)) (s:ak) (σ:St) (H:Hp) (x:V) (xs:List V) (v:af) (us:List af) (Q:VK),Inv X pins σ H s -> RelV x v -> jn xs us -> r x xs H Q ->
  wpAny (model X.prog X.w) X.A (call (.builtin id) (v::us)) (EP X pins σ Q) X.xe s
theorem jn.one: ∀{x:V} {us:List af},jn [x] us -> ∃u,us=[u]/\RelV x u
 |_,_,.cons r .nil=> ⟨_,rfl,r⟩
section
variable{X:Cx}{pins:List (Addr×Obj)}{σ:St}{H:Hp}{s:ak}{l b:Addr}{xs ys zs:List V}
theorem Inv.lset{its':List af}{f:Array af -> Array af}{t':Nat}(I:Inv X pins σ H s)(hH:H l=some (.lst xs))(e:s.heap.get? l=some {cls:=.type "list",data:=.seq its.toArray n})(hf:f its.toArray=its'.toArray)(hv:jn ys its')(hz:ys.length <=sizeLine):
  Inv X pins σ (upd H l (.lst ys)) {s with heap:=s.heap.update l (fg f),toks:=t'}:=by
 have q:=PySem.IsL.update e f
 rw [hf]at q
 refine I.write (x:=l) (e:=l) (by rw [hH];exact trivial) (.inl rfl) (fun b' u hb hu=> (jL s.heap (fg f) (di hb)).trans hu) ⟨_,q⟩ ?_
 exact⟨hz,its',_,hv,q⟩
theorem Inv.lnew{t':Nat}(I:Inv X pins σ H s)(hv:jn ys its)(hz:ys.length <=sizeLine):
  Inv X pins σ (upd H s.heap.objs.size (.lst ys)) {s with heap:=s.heap.push {cls:=.type "list",data:=.seq its.toArray},toks:=t'}:=
 I.laid (fun _ _ q=> aq _ q) (aD _) ⟨hz,its,0,hv,aQ _ rfl⟩
theorem Inv.fresh(I:Inv X pins σ H s):H s.heap.objs.size=none:=I.hok.fresh (aD _)
theorem Inv.lstM(I:Inv X pins σ H s)(hH:H l=some (.lst xs)):xs.length <=sizeLine/\ ∃(its:List af) (n:Nat),jn xs its/\xs.length=its.length/\s.heap.get? l=some {cls:=.type "list",data:=.seq its.toArray n}:=by
 obtain⟨z,its,n,r,e⟩:=I.hok l _ hH
 exact⟨z,its,n,r,r.length,e⟩
end
def a14:V -> List V -> Hp -> VK -> Prop:=fun x vs H Q=> ∃l xs y,x=.ref l/\vs=[y]/\H l=some (.lst xs)/\xs.length < sizeLine/\Q .non (upd H l (.lst (xs++ [y])))
theorem afq:MtM X "list.append" a14:=by
 (first|refine⟨?_⟩|skip);intro pins s σ H x vs v us Q I rx rv h
 obtain⟨l,xs,y,rfl,rfl,hH,hz,q⟩:=h
 cases rx
 obtain⟨u,rfl,ru⟩:=rv.one
 obtain⟨z,its,n,r,hl,e⟩:=I.lstM hH
 refine fh F.slot_list_append ⟨_,e,rfl⟩ F.entry_list_append (F.args_list_append_2 _ _) (PySem.list_append l its.toArray n u (by rw [aH];lia)) ⟨e,?_⟩
 refine⟨.non,_,I.lset (its':=its++ [u]) hH e (by simp) (r.append (.cons ru .nil)) ?_,rfl,q⟩
 rw [bj,eU]
 lia
def a8x:R2:=fun x y H Q=> ∃l b xs zs,x=.ref l/\y=.ref b/\H l=some (.lst xs)/\H b=some (.lst zs)/\xs.length+zs.length <=sizeLine/\ ∀p,H p=none -> Q (.ref p) (upd H p (.lst (xs++zs)))
theorem a47:OpR X (binaryOp .Add) a8x:=by
 (first|refine⟨?_⟩|skip);intro pins s σ H x y v u Q I rx ry h
 obtain⟨l,b,xs,zs,rfl,rfl,hH,hB,hz,q⟩:=h
 cases rx
 cases ry
 obtain⟨z,its,n,r,hl,e⟩:=I.lstM hH
 obtain⟨z2,its2,n2,r2,hl2,e2⟩:=I.lstM hB
 refine PySem.P.add_list e e2 ?_ (by rw [aH,aH];lia)
 have ea:its.toArray++its2.toArray=(its++its2).toArray:=by simp
 rw [ea]
 exact⟨.ref _,_,I.lnew (t':=s.toks) (r.append r2) (by rw [bj];lia),rfl,q _ I.fresh⟩
theorem a5i{u:HO}(ok:HOk P w H h)(e:Rd H a u):j6 P w H h a u:=e.ok ok
theorem a72{kvs:List (Key×V)}(ok:HOk P w H h)(e:Rd H a (.dK kvs)):kvs.length <=sizeLine/\(a==fZ)=false/\ ∃vs,KV kvs vs/\h.DictOf (agg P w) a vs:=
 show j6 P w H h a (.dK kvs) from a5i ok e
theorem a7d{kvs:List (Key×V)}(ok:HOk P w H h)(e:H a=some (.dK kvs)):kvs.length <=sizeLine/\(a==fZ)=false/\ ∃vs,KV kvs vs/\h.DictOf (agg P w) a vs:=a72 ok (.inl e)
section
variable{X:Cx}{pins:List (Addr×Obj)}{σ:St}{H:Hp}{s:ak}{a:Addr}{y v:V}{u r:af}{o:Option V}{A:bm}{E:af -> ak -> Prop}
theorem Inv.big(I:Inv X pins σ H s):fZ < s.heap.objs.size:=by
 have h:b7 < s.heap.objs.size:=(I.mod.glob.keeps I.bk).lt
 exact fN (by decide) h
end
theorem ax2(h:Heap)(hb:fZ < h.objs.size):j6 P w H (h.push {cls:=.type "dict",data:=.dict #[]}) h.objs.size (.dK []):=
 ⟨bX _,beq_eq_false_iff_ne.mpr (di (aT hb)),[],.nil,Heap.DictOf.new h⟩
def a2u:TE:=fun _ H Q=> ∀p,H p=none -> Q (.ref p) (upd H p (.dK []))
theorem awm:PE X (.Dict [] [] pos) a2u:=.mk <|fun pins s σ H Q I h=>
 wpAny_Dict_empty ⟨.ref s.heap.objs.size,_,I.laid (a:=s.heap.objs.size) (o:=.dK []) (t':=s.toks) (fun _ _ q=> aq _ q) (aD _) (ax2 s.heap I.big),rfl,h _ (I.hok.fresh (aD _))⟩
end L2
namespace Att
open PySem PySem.W PySem.Calls PyProof.Rows
theorem aio{P:Params}: ∀(ns:List Int) (vs:List af),WellAll P h vs (ns.map WData.int) -> lO vs ns:=by
 intro ns
 induction ns with
 |nil=>
  intro vs w
  rw [List.map_nil]at w
  cases w
  exact .nil
 | cons n ns ih=>
  intro vs w
  rw [aN]at w
  cases w with
  |cons a b=>
   cases a
   exact .cons _ _ (ih _ b)
theorem asr{l:OpenLaw}(hn:l.most=some n){P:Params}{args:List WData}{vals:List af}(hpre:l.row.toRowW.claim.pre args=true)(hwl:WellAll P h vals args):
  ∃a vs ns,vals=[bJ a]/\args=[WData.list (ns.map WData.int)]/\h.get? a=some {cls:=.type "list",data:=.seq vs.toArray}/\lO vs ns/\ns.length <=n:=by
 have hsh:WShape.hasAll [] args [.list .int]=true:=(pre_splitW hpre).1
 have hc:l.pre.holds [] {args:=args}=true:=(pre_splitW hpre).2
 obtain⟨d,r,rfl,h1,h2⟩:=hasAllW_cons hsh
 obtain rfl:=hasAllW_nil h2
 obtain⟨xs,rfl,h3⟩:=hasW_list h1
 obtain⟨ns,rfl⟩:=items_int h3
 have hlen:ns.length <=n:=by
  unfold OpenLaw.pre at hc
  have h4:(WTm.not (.lt (.lit (.int (n:Int))) (.len (.arg 0)))).holds [] {args:=[.list (ns.map .int)]}=true:=by
   have h4:=(holds_andW hc).1
   rw [hn]at h4
   exact h4
  have h5:=condW_of h4 (w_not (w_lt w_lit (w_len_list (w_arg rfl))))
  rw [au]at h5
  refine bL fun q=> ?_
  have q':(n:Int) < ((ns.length:Nat):Int):=by lia
  first
   |(rw [decide_eq_true q']at h5;exact absurd h5 (by decide))
   |(simp at h5;lia)
 cases hwl with
 |cons w1 w2=>
  cases w2
  cases w1 with
  |list ho hall=> exact⟨_,_,ns,rfl,rfl,ho,aio ns _ hall,hlen⟩
theorem atk(l:OpenLaw)(args:List WData):l.row.toRowW.claim.post args (.bool true) args=true:=
 postW_of (r:=l.row.toRowW) (X:=(true==true))
  (show WShape.has [] (.bool true) .bool=true by first|rfl|decide|simp [WShape.has,WShape.arms,WShape.armsAll])
  (show (WTm.eq .res (.lit (.bool true))).value [] {args:=args,res:=some (.bool true),after:=args}=some (.bool (true==true)) from w_eq_bool (w_res rfl) w_lit) rfl
theorem attach_call{l:OpenLaw}{q:bz}{loose:List Str}{XP:(Str -> Option af) -> Heap -> Prop}{YP:bw -> Heap -> Prop}{d:DefRec}(hn:l.most=some n)(hdf:d.params.defaults=[])(call: ∀(w:bw) (s₀ s₁:ak) (mg mb:Str -> Option af) (fa:Addr) (o:Obj) (pm cd doc:af) (a:Addr) (vs:List af) (ns:List Int),
   Ground q loose [] XP w s₀ mg mb s₁.heap -> YP w s₁.heap ->
   s₁.heap.get? fa=some o -> o.data=.func (docDef d.name d.params d.body d.scope pm cd doc) -> s₁.heap.CodeRec cd d.name -> mg d.name=some (.ref fa) ->
   s₁.heap.get? a=some {cls:=.type "list",data:=.seq vs.toArray} -> lO vs ns -> ns.length <=n -> s₁.gens= #[] ->
   codeAny (model l.prog w) callerA (.call (.ref fa) ⟨[.ref a],[]⟩) (fun r s'=> r=.ok (.ret (.bool true))/\OldK s₁.heap s'.heap/\s'.os=s₁.os/\gF s'.gens) s₁):
  WalkO q loose XP YP l.row.toRowW d [] (fun f vs=> PySem.call f vs):=by
 intro w s₀ s₁ mg mb G Y fa o pm cd doc dV kV ho hd hcd hD hmg hg args vals as hpre hlay hrd hwl hlo
 obtain rfl:dV=.none:=Dflts.none hD hdf
 obtain rfl:kV=.none:=Dflts.noKw hD
 obtain⟨a,vs,ns,rfl,rfl,hobj,hints,hlen⟩:=asr hn hpre hwl
 refine enter_call (dG (call w s₀ s₁ mg mb fa o pm cd doc a vs ns G Y ho (fd_plain hd) hcd hmg hobj hints hlen hg) fun r s' hq=> ?_)
 obtain⟨rfl,h2,h3,h4⟩:=hq
 exact⟨.inl ⟨.bool true,.bool true,[],rfl,fun _=> rfl,.bool true,atk l _,fun _=> ⟨iF,fun _ hm=> (nomatch hm)⟩⟩,h2,h3,h4⟩
end Att
namespace L2
open PySem PySem.Spec PyProof.Rows
theorem akn: ∀{vs:List af} {ns:List Int},lO vs ns -> jn (ns.map V.int) vs
 |_,_,.nil=>.nil
 |_,_,.cons n t h=>.cons ⟨t,rfl⟩ (akn h)
def avk(H:Hp):Prop:= ∀b,H b=none\/ ∃o xs,H b=some (.frz o (.lst xs))
theorem avi{mb:Str -> Option af}{CX:CXT}{fa:Addr}{sp:Sp}{s₁:ak}{vs:List af}{ns:List Int}(KX:K.In s₁.heap)(hns:s₁.heap.Ns b7 mg)(hb:s₁.heap.Ns builtinsNs mb)(hbb: ∀x:Str,x≠"__name__" -> mb x=bM x)(hlim:s₁.heap.NoLimit)(hg:s₁.gens= #[])(ha:s₁.heap.get? a=some {cls:=.type "list",data:=.seq vs.toArray})(hi:lO vs ns)(hl:ns.length <=sizeLine)(hr:Room k callerA)(F: ∀base:Heap,K.In base -> base.Ns b7 mg -> FnOk P w K mg base CX k fa fd [x] sp)(hbind: ∀(s:ak) (u:af),jW s fd ⟨[u],[]⟩ [(x,u)])(hsp: ∀H:Hp,avk H -> SqL K H a (ns.map V.int) -> sp [.ref a] H (fun v _=> v=.bl true) fun _ _ _=> False)(hCX: ∀H e s',CX [] H s₁ (fun _ _ _=> False) e s' -> False):
  codeAny (model P w) callerA (.call (.ref fa) ⟨[.ref a],[]⟩) (fun r s'=> r=.ok (.ret (.bool true))/\OldK s₁.heap s'.heap/\s'.os=s₁.os/\gF s'.gens) s₁:=by
 have rv:=akn hi
 have lenV:=hi.length
 -- from an abstract heap in which nothing but the script may be tracked
 have core: ∀H:Hp,avk H -> SqL K H a (ns.map V.int) -> HOk P w H s₁.heap -> (∀b,H b≠none -> b=a) -> (H a≠none -> K.lookup a=none) ->
   codeAny (model P w) callerA (.call (.ref fa) ⟨[.ref a],[]⟩) (fun r s'=> r=.ok (.ret (.bool true))/\OldK s₁.heap s'.heap/\s'.os=s₁.os/\gF s'.gens) s₁:=by
  intro H hO hS hok hA hK
  have base_of: ∀{b:Addr} {o:Obj},s₁.heap.get? b=some o -> H b=none -> (aee s₁.heap H).get? b=some o:=fun e n=> awu e n
  have noA: ∀{b:Addr} {o:Obj} {es:Array gI} {ep:Nat},s₁.heap.get? b=some o -> o.data=.dict es ep -> H b=none:=fun {b o es ep} e d=> by
   cases q:H b with
   |none=> rfl
   |some u=>
    have e':b=a:=hA b (by rw [q];simp)
    subst e'
    rw [ha]at e;cases e
    have d':Data.seq vs.toArray _=Data.dict es ep:=d
    cases d'
  have nsK: ∀{b:Addr} {m:Str -> Option af},s₁.heap.Ns b m -> (aee s₁.heap H).Ns b m:=fun {b m} ⟨o,es,ep,e,d,r⟩=> ⟨o,es,ep,base_of e (noA e d),d,r⟩
  have hKb:K.In (aee s₁.heap H):=fun b o e=> base_of (KX b o e) (by
   cases q:H b with
   |none=> rfl
   |some u=>
    have e':b=a:=hA b (by rw [q];simp)
    subst e'
    rw [hK (by rw [q];simp)]at e;cases e)
  have hM:Mod K mg (aee s₁.heap H):=⟨hKb,nsK hns,⟨mb,nsK hb,hbb⟩,let ⟨mc,h1,h2⟩:=hlim;⟨mc,nsK h1,h2⟩⟩
  have e0:Env0 P w K mg (aee s₁.heap H) callerA [] s₁ H:=⟨rfl,hM,fun b o e=> a15 e,dH (at5 _ _),trivial,fun b hb=> absurd (show b∈([]:List Addr) from hb) (by simp),hok,.of_eq hg⟩
  refine dG ((F _ hKb (nsK hns)).run callerA [] s₁ H ⟨[.ref a],[]⟩ [.ref a] [.ref a] _ _ hr e0 (hbind s₁ (.ref a)) (.cons rfl .nil) (hsp H hO hS)) fun r s' h=> ?_
  cases r with
  |error e=> exact (hCX H e s' h).elim
  | ok fl=>
   cases fl with
   |next=> exact dZ h
   |brk=> exact dZ h
   |cont=> exact dZ h
   | ret u=>
    obtain⟨v,H',os,bare,un,hok',r',q⟩:=h
    have q':v=.bl true:=q
    subst q'
    obtain rfl:u=dD true:=r'
    refine⟨rfl,OldK.of_keep fun b o e=> ?_,os,bare⟩
    cases q:H b with
    |none=> exact un.keep b o e q (by intro z;exact absurd (show b∈([]:List Addr) from z) (by simp)) (by simp)
    | some u=>
     rcases hO b with z|⟨ob,xs,z⟩
     ·rw [q]at z;cases z
     ·have z2:=un.frzs b ob _ z
      obtain⟨e1,_⟩:=hok b _ z
      obtain⟨e2,_⟩:=hok' b _ z2
      rw [e]at e1;cases e1
      exact e2
 cases hk:K.lookup a with
 |some o=>
  -- the script is one of the module's own objects
  have e:=KX a o hk
  rw [ha]at e
  cases e
  refine core (fun _=> none) (fun _=>.inl rfl) (.inr ⟨_,vs.toArray,_,hk,rfl,rfl,rfl,by rw [aH,lenV];exact hl,by simpa using rv⟩) (fun b u z=> by have z':(none:Option HO)=some u:=z;cases z') (fun b z=> absurd rfl z) fun z=> absurd rfl z
 | none=>
  refine core (fun b=> if b=a then some (.frz {cls:=.type "list",data:=.seq vs.toArray} (.lst (ns.map V.int))) else none) (fun b=> ?_) (.inl (.inr ⟨{cls:=.type "list",data:=.seq vs.toArray},if_pos rfl⟩)) (fun b u z=> ?_) (fun b z=> ?_) fun _=> hk
  ·by_cases hb:b=a
   ·exact .inr ⟨_,_,if_pos hb⟩
   ·exact .inl (if_neg hb)
  ·by_cases hb:b=a
   ·have z':=(if_pos hb).symm.trans z
    cases z'
    subst hb
    exact⟨ha,by rw [au];exact hl,vs,_,rv,ha⟩
   ·have z':=(if_neg hb).symm.trans z
    cases z'
  ·by_cases hb:b=a
   ·exact hb
   ·exact absurd (if_neg hb) z
theorem a04{l:jA}{q:bz}{loose:List Str}{XP:(Str -> Option af) -> Heap -> Prop}{YP:bw -> Heap -> Prop}{d:DefRec}{K:Params -> aw}{CX:bw -> CXT}{sp:bw -> Sp}(hn:l.most=some n)(hn2:n <=sizeLine)(hdf:d.params.defaults=[])(hr:Room k callerA)(hY: ∀(w:bw) (h:Heap),YP w h -> (K w.params).In h)(F: ∀(w:bw) (mg:Str -> Option af) (fa:Addr) (h:Heap),(K w.params).In h -> h.Ns b7 mg -> mg d.name=some (.ref fa) ->
   ∃fd:fK,(∀(s:ak) (u:af),jW s fd ⟨[u],[]⟩ [(x,u)])/\
    ∀base:Heap,(K w.params).In base -> base.Ns b7 mg -> FnOk l.prog w (K w.params) mg base (CX w) k fa fd [x] (sp w)) (hsp: ∀(w:bw) (H:Hp) (a:Addr) (ns:List Int),ns.length <=n -> avk H -> SqL (K w.params) H a (ns.map V.int) -> sp w [.ref a] H (fun v _=> v=.bl true) fun _ _ _=> False) (hCX: ∀(w:bw) (H:Hp) (s:ak) (e:af) (s':ak),CX w [] H s (fun _ _ _=> False) e s' -> False):
  PySem.W.WalkO q loose XP YP l.row.toRowW d [] (fun f vs=> PySem.call f vs):=by
 refine Att.attach_call hn hdf fun w s₀ s₁ mg mb fa o pm cd doc a vs ns G Y ho hd hcd hmg hobj hints hlen hg=> ?_
 have KX:=hY w _ Y
 obtain⟨fd,hb,hF⟩:=F w mg fa _ KX G.T.g hmg
 exact avi KX G.T.g G.T.b G.T.builtins G.T.nolimit hg hobj hints (aJ hlen hn2) hr hF hb (fun H hO hS=> hsp w H a ns hlen hO hS) fun H e s'=> hCX w H s₁ e s'
noncomputable def aat(s:Stmt):Arguments:=match s with
 |.FunctionDef _ a _ _ _ _ _ _ _ _=> a
 |_=> {posonlyargs:=[],args:=[],vararg:=none,kwonlyargs:=[],kw_defaults:=[],kwarg:=none,defaults:=[]}
noncomputable def xo(s:Stmt):List Stmt:=match s with
 |.FunctionDef _ _ b _ _ _ _ _ _ _=> b
 |_=> []
noncomputable def jf(s:Stmt):dM:=match s with
 |.FunctionDef _ _ _ _ _ _ sc _ _ _=> sc
 |_=> {kind:=.function,names:=[],isGenerator:=false,isCoroutine:=false}
abbrev CX0:CXT:=fun _ _ _ _ _ _=> False
abbrev E0:XK:=fun _ _ _=> False
theorem a6d:ano CX0 X E0:=fun _ _ _ _ _ _ _ h=> h.elim
structure Fun (K:aw) (x qual:Str) (st:Stmt) (f:Addr) (fd:fK):Prop where
 ex: ∃(oc:af) (od:Option Addr) (kV doc pm:af) (an:Option Addr) (cdv ct:af) (osl:Array (Option af)),
  fd=dg x qual (aat st) (xo st) (jf st) .none kV doc pm an cdv ct/\K.lookup f=some ⟨oc,od,.func fd,osl⟩/\f6 K cdv qual=true
 kp:eS K (.ref f)=true
theorem Fun.ok{N:List Str}{sp:Sp}(F:Fun K x qual st f fd)(S:FnScope N ps (jf st))(len: ∀vs H Q E,sp vs H Q E -> vs.length=ps.length)(hbody: ∀(cdv:af) (A:bm) (outer:List Env) (s:ak) (H:Hp) (vs:List V) (Q:VK) (E:XK),Room k (A.deeper (envOfC qual (jf st) s.heap.objs.size f cdv)) -> sp vs H Q E ->
   ∃t,PSs (afc CX0 P w K mg base N qual (jf st) f cdv A outer s H E).nox (xo st) t/\t {nx:=fun _ H'=> Q .non H',rt:=Q} (start N vs) H):FnOk P w K mg base CX0 (k+1) f fd ps sp:=by
 obtain⟨oc,od,kV,doc,pm,an,cdv,ct,osl,rfl,lk,hcd⟩:=F.ex
 refine a62 lk hcd S len fun A outer s H vs Q E hr hsp=> ?_
 obtain⟨t,h,q⟩:=hbody cdv A outer s H vs Q E hr hsp
 exact⟨t,h.nox,q⟩
theorem Fun.binds(F:Fun K x qual st f fd)(h: ∀(kV doc pm:af) (an:Option Addr) (cdv ct:af) (us:List af),us.length=ps.length -> bindArgs (dg x qual (aat st) (xo st) (jf st) .none kV doc pm an cdv ct) ⟨us,[]⟩=pure (ps.zip us)):Binds K fd ps []:=by
 obtain⟨oc,od,kV,doc,pm,an,cdv,ct,osl,rfl,lk,hcd⟩:=F.ex
 exact .all (h kV doc pm an cdv ct)
theorem anj{oc:af}{od an:Option Addr}{kV doc pm cdv ct:af}(l:K.lookup f=some ⟨oc,od,.func (dg x qual (aat st) (xo st) (jf st) .none kV doc pm an cdv ct),osl⟩)(c:f6 K cdv qual=true)(k:eS K (.ref f)=true):Fun K x qual st f (dg x qual (aat st) (xo st) (jf st) .none kV doc pm an cdv ct):=⟨⟨oc,od,kV,doc,pm,an,cdv,ct,osl,rfl,l,c⟩,k⟩
theorem auq(h:n <=1000):n < sizeLine:=Nat.lt_of_le_of_lt h (by decide)
def j4(H H':Hp):Prop:= ∀b o,H b=some o -> H' b=some o
theorem j4.seq(e:j4 H H')(h:SqL K H a xs):SqL K H' a xs:=by
 rcases h with (h|⟨o,h⟩)|h
 ·exact .inl (.inl (e _ _ h))
 ·exact .inl (.inr ⟨o,e _ _ h⟩)
 ·exact .inr h
noncomputable def vf(env:Env):List (Str×eN) -> List (Str×Addr) -> List (Str×Addr)
 |[],cs=> cs
 |(n,k)::r,cs=> vf env r (if k==.free then (match env.cells.lookup n with|some c=> (n,c)::cs|none=> cs) else cs)
theorem ahc{env:Env}: ∀{l:List (Str×eN)} {cs:List (Str×Addr)},(∀n c,(n,c)∈cs -> env.cells.lookup n=some c) -> ∀n c,(n,c)∈vf env l cs -> env.cells.lookup n=some c
 |[],cs,h,n,c,m=> h n c m
 | (n',k)::r,cs,h,n,c,m=> by
  unfold vf at m
  refine ahc (l:=r) (fun a b q=> ?_) n c m
  split at q
  ·split at q
   ·rename_i c' hc
    rcases ay.mp q with z|z
    ·cases z;exact hc
    ·exact h a b z
   ·exact h a b q
  ·exact h a b q
theorem akq{env:Env}: ∀{l:List (Str×eN)} {cs:List (Str×Addr)} {p},p∈cs -> p∈vf env l cs
 |[],_,_,h=> h
 | (n,k)::r,cs,p,h=> by
  unfold vf
  refine akq (l:=r) ?_
  split
  ·split
   ·exact az _ h
   ·exact h
  ·exact h
theorem ahu{env:Env}: ∀{l:List (Str×eN)} {cs:List (Str×Addr)} {n:Str} {c:Addr},(n,bO)∈l -> env.cells.lookup n=some c -> (n,c)∈vf env l cs
 |[],_,_,_,h,_=> by cases h
 | (n',k)::r,cs,n,c,h,e=> by
  unfold vf
  rcases ay.mp h with z|z
  ·cases z
   refine akq ?_
   simp [e]
  ·exact ahu z e
theorem ac9(h: ∀n,(n,bO)∈scope.names -> ∃c,env.cells.lookup n=some c):closureFor scope env=pure (vf env scope.names []):=by
 have all: ∀(l:List (Str×eN)) (cs:List (Str×Addr)),(∀n,(n,bO)∈l -> ∃c,env.cells.lookup n=some c) ->
   (forIn l cs (fun (x:Str×eN) (r:List (Str×Addr))=> (match x with|(name,kind)=> if (kind==bO)=true then (do let a←cellOf env name;pure (eH ((name,a)::r))) else pure (eH r):Sem (ForInStep (List (Str×Addr))))))=(pure (vf env l cs):Sem (List (Str×Addr))):=by
  intro l
  induction l with
  |nil=> intro cs _;rfl
  | cons p r ih=>
   intro cs hl
   obtain⟨n,k⟩:=p
   have hr: ∀n,(n,bO)∈r -> ∃c,env.cells.lookup n=some c:=fun n m=> hl n (az _ m)
   rw [jB]
   unfold vf
   by_cases hk:k=.free
   ·subst hk
    obtain⟨c,hc⟩:=hl n ax
    have e:cellOf env n=pure c:=by unfold cellOf;rw [hc]
    simp only [beq_self_eq_true,if_true,e,hc]
    exact ih _ hr
   ·have hb:(k==bO)=false:=by simpa using hk
    simp only [hb,bn,if_false];exact ih _ hr
 unfold closureFor
 exact (congrArg (fun (z:Sem (List (Str×Addr)))=> z >>=fun r=> pure r) (all scope.names [] h)).trans rfl
def kc(X:Cx)(own caps:List Str)(scope:dM)(C:Addr)(fp:List Addr)(s:ak)(H:Hp):Cx where
 prog:=X.prog
 w:=X.w
 K:=X.K
 mg:=X.mg
 base:=X.base
 A:=X.A
 N:=own++caps
 s₀:=s
 H₀:=H
 env:=compEnvC scope (vf X.env scope.names []) C X.env
 outer:=X.stack
 stack:=X.stack
 ex:=fp
 fn:=fun _=> false
 calm:=X.calm
 pn:=[]
 xe:=fun _ _=> False
def arq(X:Cx)(scope:dM)(y:Str)(j:Nat):Prop:=X.N[j]?=some y/\Vis X.env.scope y/\(X.env.kindOf y==some .local)=false/\((relabel scope X.env).names.lookup y==some .cell||(relabel scope X.env).names.lookup y==some .free)=true
def yk(X:Cx)(scope:dM):List Str -> List Nat -> Prop
 |[],[]=> True
 |y::ys,j::js=> arq X scope y j/\yk X scope ys js
 |_,_=> False
noncomputable def xl(σ:St)(js:List Nat):St:=js.map fun j=> (σ[j]?).join
theorem yk.at{X:Cx}{scope:dM}{σ:St}: ∀{ys:List Str} {js:List Nat} {i:Nat} {y:Str} {v:V},yk X scope ys js -> ys[i]?=some y -> (xl σ js)[i]?=some (some v) -> ∃j,arq X scope y j/\σ[j]?=some (some v)
 |[],[],i,y,v,_,h,_=> by simp at h
 | a::ys,j::js,0,y,v,c,h,e=> by
  simp at h;subst h
  refine⟨j,c.1,?_⟩
  simp [xl]at e
  cases q:σ[j]? with
  |none=>
   rw [q]at e
   cases e
  |some o=>
   rw [q]at e
   simp at e
   rw [e]
 |a::ys,j::js,i+1,y,v,c,h,e=> yk.at (i:=i) c.2 (by simpa using h) (by simpa [xl] using e)
 |[],_::_,_,_,_,c,_,_=> c.elim
 |_::_,[],_,_,_,c,_,_=> c.elim
theorem yk.len{X:Cx}{scope:dM}{σ:St}: ∀{ys:List Str} {js:List Nat},yk X scope ys js -> (xl σ js).length=ys.length
 |[],[],_=> rfl
 |a::ys,j::js,c=> by simp only [xl,aN,aP];exact congrArg (· +1) (yk.len (σ:=σ) c.2)
 |[],_::_,c=> c.elim
 |_::_,[],c=> c.elim
theorem zm{env:Env}: ∀{names:List (Str×eN)} {x:Str},(∀p∈names,p.2≠ .cell) ->
  ((names.map fun (n,k)=> if (k==bO&&env.scope.kind==.function&&env.kindOf n==some .cell) then (n,fy) else (n,k)).lookup x=some .cell\/
    (names.map fun (n,k)=> if (k==bO&&env.scope.kind==.function&&env.kindOf n==some .cell) then (n,fy) else (n,k)).lookup x=some .free) -> (x,bO)∈names
 |[],_,_,h=> by simp at h
 | (n,k)::r,x,hc,h=> by
  have hr: ∀p∈r,p.2≠ .cell:=fun p hp=> hc p (az _ hp)
  have hk:k≠ .cell:=hc (n,k) ax
  have step: ∀(b:Bool),(List.lookup x ((if b=true then (n,fy) else (n,k))::r.map fun (n,k)=> if (k==bO&&env.scope.kind==.function&&env.kindOf n==some .cell) then (n,fy) else (n,k))=some .cell\/
     List.lookup x ((if b=true then (n,fy) else (n,k))::r.map fun (n,k)=> if (k==bO&&env.scope.kind==.function&&env.kindOf n==some .cell) then (n,fy) else (n,k))=some .free) -> (b=true -> k=.free) -> (x,bO)∈(n,k)::r:=by
   intro b q hb
   cases hx:x==n with
   | true=>
    have e:x=n:=by simpa using hx
    subst e
    cases b with
    |true=> rw [hb rfl];exact ax
    |false=>
     simp [List.lookup_cons]at q
     rcases q with q|q
     ·exact absurd q hk
     ·rw [q];exact ax
   |false=>
    refine az _ (zm (env:=env) hr ?_)
    cases b <;> simpa [List.lookup_cons,hx] using q
  exact step _ h fun q=> by simp at q;exact q.1.1
def aey(X:Cx)(ifs:List Expr)(t:TT):Prop:=
 ∀(pins:List (Addr×Obj)) (s:ak) (σ:St) (H:Hp) (Q:Bool -> Hp -> Prop),Inv X pins σ H s -> t σ H Q ->
  wpAny (model X.prog X.w) X.A (forIn ifs true fun c r=> if r=true then do let ok←isTrue c X.env (eval c X.env);pure (eH ok) else pure (eH r)) (TP X pins σ Q) X.xe s
noncomputable def a8o:TT:=fun _ H Q=> Q true H
theorem avl:aey X [] a8o:=fun _ _ _ H _ I h=> wpAny_tests_nil ⟨H,I,h⟩
theorem axh{t:TT}(h:PT X c t):aey X [c] t:=fun pins s σ H Q I q=> wpAny_tests_one (h pins s σ H Q I q)
abbrev Wn(P:bz)(w:bw)(A:bm){α:Type}(m:Sem α)(Q:α -> ak -> Prop)(s:ak):Prop:=wpAny (model P w) A m Q (fun _ _=> False) s
abbrev aig(env:Env)(l:List Expr):Sem Bool:=forIn l true fun c r=> if r=true then do let b←isTrue c env (eval c env);pure (eH b) else pure (eH r)
def a4o (P:bz) (w:bw) (A:bm) (it acc:af) (tg elt:Expr) (l:List Expr) (env:Env) (fin:ak -> Prop) (again:ak -> Prop) (s:ak):Prop:=
 Wn P w A (pyNext it) (fun r a=> match r with
  |none=> fin a
  | some v=> Wn P w A (dN tg it v) (fun _ b=> Wn P w A (assign tg env v) (fun _ c=> Wn P w A (aig env l) (fun ok d=>
    if ok=true then Wn P w A (eval elt env) (fun x e=> Wn P w A (call (.builtin "list.append") [acc,x]) (fun _ g=> again g) e) d else again d) c) b) a) s
theorem a08{R:jV -> ak -> Prop}{elt:Expr}{l:List Expr}{sc:dM}{it acc:af}(J:Nat -> ak -> Prop)(turn: ∀n s,J n s -> a4o P w A it acc tg elt l env (R (.ok .next)) (fun z=> ∃m,m < n/\J m z) s)(n:Nat)(h:J n s):codeAny (model P w) A (.compLoop (.ListComp elt [⟨tg,iter,l,0⟩] sc pos) 0 it acc env) R s:=by
 refine lI rfl J (fun k z hz=> ?_) n h
 have one:=turn k z hz
 show wpAny _ A (lU (compTurn (.ListComp elt [⟨tg,iter,l,0⟩] sc pos) 0 it acc env) fun x=> do lJ x env;jC x) _ _ z
 refine lV ?_
 rw [compTurn_list]
 refine ae (du (ae (bE one (fun r a ha=> ?_) fun _ _ f=> f.elim)))
 cases r with
 |none=> exact aj ha
 | some v=>
  refine ae (bE ha (fun _ b hb=> ae (bE hb (fun _ c hc=> ae (bE hc (fun ok d hd=> ?_) fun _ _ f=> f.elim)) fun _ _ f=> f.elim)) fun _ _ f=> f.elim)
  cases ok with
  |false=>
   have q: ∃m,m < k/\J m d:=hd
   exact aj ⟨rfl,q⟩
  |true=>
   have q:Wn P w A (eval elt env) (fun x e=> Wn P w A (call (.builtin "list.append") [acc,x]) (fun _ g=> ∃m,m < k/\J m g) e) d:=hd
   exact ae (ae (bE q (fun x e he=> ae (bE he (fun _ g hg=> aj (aj ⟨rfl,hg⟩)) fun _ _ f=> f.elim)) fun _ _ f=> f.elim))
def ax0(g:TG)(tt:TT)(te:TE)(k:Nat)(cap:St)(J:It)(H1:Hp)(Q:VK):Prop:=
 ∀ D,H1 D=none -> ∃W:Nat -> Nat -> List V -> Hp -> Prop,(∃m,W 0 m [] (upd H1 D (.lst [])))/\ ∀i m ys H,H D=some (.lst ys) -> W i m ys H ->
  (J.stop i H/\Q (.ref D) H)\/(J.go i H/\ ∀x H',J.yld i H x H' -> ∀vs:St,vs.length=k -> g x (vs++cap) H' fun σ2 H2=> (∃vs':St,vs'.length=k/\σ2=vs'++cap)/\tt σ2 H2 fun b H3=>
   if b=true then te σ2 H3 fun v H4=> H4 D=some (.lst ys)/\ys.length < sizeLine/\ ∃m',m' < m/\W (i+1) m' (ys++ [v]) (upd H4 D (.lst (ys++ [v]))) else H3 D=some (.lst ys)/\ ∃m',m' < m/\W (i+1) m' ys H3)
def tLc(js:List Nat)(k:Nat)(wi:TI)(g:TG)(tt:TT)(te:TE):TE:=fun σ H Q=> wi σ H fun J H1=> ax0 g tt te k (xl σ js) J H1 Q
section
variable{X:Cx}{own caps:List Str}{js:List Nat}{scope:dM}{tg iter elt:Expr}{ifs:List Expr}{wi:TI}{g:TG}{tt:TT}{te:TE}{pos:Pos}
theorem aua{H2:Hp}{s2:ak}{it:Addr}{tn:Nat -> Heap -> Prop}{J:It}{Q:VK}{post:af -> Addr -> jV -> ak -> Prop}(hcalm:X.calm=true)(hkind:scope.kind=.function)(hcell:(scope.names.any fun p=> p.2==.cell)=false)(hk:(scope.names.all fun p=> !(p.2==.free)||(X.env.kindOf p.1==some .cell||X.env.kindOf p.1==some .free))=true)(hcap:yk X scope caps js)(hg: ∀C fp s H,PG (kc X own caps scope C fp s H) tg g)(hi: ∀C fp s H,aey (kc X own caps scope C fp s H) ifs tt)(he: ∀C fp s H,PE (kc X own caps scope C fp s H) elt te)(I2:Inv X pins σ H2 s2)(T:Turn X.prog X.w X.K tg J fp it tn)(st2:tn 0 s2.heap)(f2: ∀b∈fp,aaj X pins H2 b)(hw:ax0 g tt te own.length (xl σ js) J H2 Q)(hpost: ∀D C s' m H',s'.heap.Ns C m -> s2.heap.objs.size <=C -> aaj X pins H' C -> Inv X pins σ H' s' -> Q (.ref D) H' -> post (.ref D) C (.ok .next) s'):
  wpAny (model X.prog X.w) X.A (newList []) (fun acc s₃=> wpAny (model X.prog X.w) X.A (newFunctionEnv scope X.env.globals (vf X.env scope.names []) [] X.env.qual none .none (some X.env)) (fun cenv s₄=>
   codeAny (model X.prog X.w) X.A (.compStart (.ListComp elt [⟨tg,iter,ifs,0⟩] scope pos) 0 (.ref it) acc {cenv with scope:=relabel scope X.env}) (post acc cenv.locals) s₄) E s₃) E s2:=by
 have hcell': ∀y∈scope.names,y.2≠ .cell:=fun y hy e=> by
  have:=(gg.mp hcell) y hy
  simp [e]at this
 have hfr: ∀n,(n,bO)∈scope.names -> X.env.kindOf n=some .cell\/X.env.kindOf n=some .free:=fun n hn=> by
  have:=(ao.mp hk) _ hn
  simpa using this
 refine cT (kJ hcell' (by intro y hy;simp at hy) (fun h₁ hns₁ hsb₁=> ?_) hkind)
 dsimp only at hns₁ hsb₁⊢
 generalize hHp:s2.heap.push {cls:=.type "list",dict:=none,data:=.seq ([]:List af).toArray}=G2 at hns₁ hsb₁⊢
 have hC:G2.objs.size=s2.heap.objs.size+1:=by rw [←hHp,bT]
 obtain⟨D,hDe⟩: ∃D:Nat,s2.heap.objs.size=D:=⟨_,rfl⟩
 obtain⟨C,hCe⟩: ∃C:Nat,G2.objs.size=C:=⟨_,rfl⟩
 rw [hCe]at hns₁ hsb₁
 rw [hDe,hCe]at hC
 show codeAny _ _ (.compStart _ 0 (.ref it) (.ref s2.heap.objs.size) (compEnvC scope (vf X.env scope.names []) G2.objs.size X.env)) (post (.ref s2.heap.objs.size) G2.objs.size) _
 rw [hDe,hCe]
 have hDC:D≠C:=by lia
 have hDCl:D < C:=by lia
 have old: ∀b o,s2.heap.get? b=some o -> h₁.get? b=some o:=fun b o e=> by
  have hlt:b < D:=hDe▸aM e
  exact hsb₁.extBut b o (aT (fN hlt hDCl)) (aq _ (hHp▸aq _ e))
 have hD2:H2 D=none:=I2.hok.fresh (dH hDe)
 have hC2:H2 C=none:=I2.hok.fresh (by rw [hDe];lia)
 have accD:h₁.get? D=some {cls:=.type "list",data:=.seq ([]:List af).toArray}:=hsb₁.extBut _ _ hDC (aq _ (hHp▸hDe▸aQ _ rfl))
 obtain⟨W,⟨m0,w0⟩,turn⟩:=hw D hD2
 -- the block's own state
 have fpn: ∀b∈fp,H2 b=none:=fun b hb=> (f2 b hb).1
 have fplt: ∀b∈fp,b < D:=fun b hb=> by obtain⟨o,e,_⟩:=T.obj _ _ st2 b hb;exact hDe▸aM e
 have clsub: ∀n c,(n,c)∈vf X.env scope.names [] -> X.env.cells.lookup n=some c:=ahc (by intro _ _ z;cases z)
 have cllook: ∀n c,(vf X.env scope.names []).lookup n=some c -> X.env.cells.lookup n=some c:=fun n c e=> clsub n c (cZ e)
 have clhas: ∀n,(n,bO)∈scope.names -> ∃c,(vf X.env scope.names []).lookup n=some c/\X.env.cells.lookup n=some c:=fun n hn=> by
  obtain⟨c,e⟩:=I2.ok.has n (hfr n hn)
  have m:=ahu (cs:=[]) hn e
  cases q:(vf X.env scope.names []).lookup n with
  |none=>
   have:=i7.mp q _ m
   simp at this
  |some c'=> exact⟨c',rfl,cllook n c' q⟩
 have clt: ∀x c,(vf X.env scope.names []).lookup x=some c -> c < D:=fun x c e=> by
  obtain⟨v,z⟩:=I2.cell x c (cllook x c e)
  exact hDe▸z.lt
 have ok':(kc X own caps scope C fp s2 H2).Ok:=by
  refine⟨I2.ok.mod,hkind,I2.ok.glob,I2.ok.blt,?_,fun x y c e1 e2=> I2.ok.inj x y c (cllook x c e1) (cllook y c e2),fun x hx=> ?_,fun x c z=> (by cases z),I2.ok.hd,I2.ok.frames,.inl rfl,fun b hb=> ⟨?_,fun x c e=> ?_⟩,I2.bs,aJ I2.ok.bsz I2.sz,fun b o e hb=> ?_,fun b hb hs=> ?_,I2.stack,I2.stkFree⟩
  ·show s2.heap.objs.size <=C
   rw [hDe];lia
  ·have hx':(relabel scope X.env).names.lookup x=some .cell\/(relabel scope X.env).names.lookup x=some .free:=hx
   obtain⟨c,e,_⟩:=clhas x (zm hcell' hx')
   exact⟨c,e⟩
  ·exact aT (fN (fplt b hb) hDCl)
  ·exact (f2 b hb).2.2.2.2.1 x c (cllook x c e)
  ·rcases (f2 b hb).2.2.2.1 with z|z
   ·exact I2.ok.noex b o e z
   ·exact absurd (aW (aM (I2.ok.bs b o e).1) z) (cG _)
  ·rcases ay.mp (I2.stkSub b hs) with z|z
   ·exact (f2 b hb).2.1 z
   ·exact (f2 b hb).2.2.1 z
 have I4:Inv (kc X own caps scope C fp s2 H2) [] (bH own.length none++xl σ js) (upd H2 D (.lst [])) {s2 with heap:=h₁,toks:=s2.toks+([]:List (Str×af)).length}:=by
  refine⟨ok',rfl,I2.bare,Un.laid old (dH hDe) hD2,⟨_,hns₁,fun i x v e1 e2 e3=> ?_⟩,fun x c e=> ?_,?_,fun x c e=> ?_,fun p hp=> absurd (show p∈([]:List (Addr×Obj)) from hp) (by simp),?_,?_⟩
  ·have e1:(own++caps)[i]?=some x:=e1
   by_cases hio:i < own.length
   ·rw [bd (by simpa using hio),dv]at e2
    split at e2 <;> cases e2
   ·have hle:own.length <=i:=bL hio
    rw [a8 hle]at e1
    rw [a8 (by simpa using hle)]at e2
    obtain⟨j,c,e⟩:=yk.at (σ:=σ) hcap e1 (by simpa using e2)
    obtain⟨c1,c2,c3,c4⟩:=c
    obtain⟨m,hn,hl⟩:=I2.loc
    obtain⟨u,r,lk⟩:=hl j x v c1 e c2
    refine⟨u,r,.inr ⟨?_,?_⟩⟩
    ·have c4':(relabel scope X.env).names.lookup x=some .cell\/(relabel scope X.env).names.lookup x=some .free:=by simpa using c4
     exact c4'
    ·have c4':(relabel scope X.env).names.lookup x=some .cell\/(relabel scope X.env).names.lookup x=some .free:=by simpa using c4
     obtain⟨c',q1,q2⟩:=clhas x (zm hcell' c4')
     rcases lk with ⟨k1,_⟩|⟨_,c'',k2,k3⟩
     ·rw [k1]at c3;simp at c3
     ·rw [q2]at k2;cases k2
      obtain⟨oc,hoc,hod⟩:=k3
      exact⟨c',q1,oc,old _ _ hoc,hod⟩
  ·obtain⟨v,oc,hoc,hod⟩:=I2.cell x c (cllook x c e)
   exact⟨v,oc,old _ _ hoc,hod⟩
  ·show upd H2 D (.lst []) C=none
   rw [qh (di hDC)];exact hC2
  ·rw [qh (aT (clt x c e))];exact I2.freeC x c (cllook x c e)
  ·exact I2.hok.laid old (dH hDe) ⟨bX _,[],0,.nil,accD⟩
  ·show (bH own.length none++xl σ js).length=(own++caps).length
   rw [bj,bj,gG,hcap.len]
 have stat: ∀{H':Hp},(∀b∈fp,H' b=none) -> ∀b∈fp,aaj (kc X own caps scope C fp s2 H2) [] H' b:=fun hn b hb=>
  ⟨hn b hb,(ok'.exf b hb).1,ok'.exfs b hb,.inl hb,(ok'.exf b hb).2,fun p hp=> absurd (show p∈([]:List (Addr×Obj)) from hp) (by simp)⟩
 have loop: ∀s₃:ak,s₃={s2 with heap:=h₁,toks:=s2.toks+([]:List (Str×af)).length} ->
   codeAny (model X.prog X.w) X.A (.compLoop (.ListComp elt [⟨tg,iter,ifs,0⟩] scope pos) 0 (.ref it) (.ref D) (compEnvC scope (vf X.env scope.names []) C X.env)) (post (.ref D) C) s₃:=by
  rintro s₃ rfl
  refine a08 (fun n s'=> ∃i vs ys H',vs.length=own.length/\Inv (kc X own caps scope C fp s2 H2) [] (vs++xl σ js) H' s'/\tn i s'.heap/\(∀b∈fp,H' b=none)/\H' D=some (.lst ys)/\W i n ys H') ?_ m0
   ⟨0,bH own.length none,[],upd H2 D (.lst []),by simp,I4,T.keep _ _ _ st2 fun b _ o e=> old b o e,fun b hb=> by rw [qh (aT (fplt b hb))];exact fpn b hb,aak,w0⟩
  rintro n s3 ⟨i,vs,ys,H3,hvs,I3,st3,fr3,hD3,w3⟩
  rcases turn i n ys H3 hD3 w3 with ⟨stop,qn⟩|⟨go,step⟩
  ·refine thn (T.done (kc X own caps scope C fp s2 H2) rfl rfl rfl hcalm i [] s3 _ H3 (fun _ _=> False) I3 (stat fr3) st3 stop) fun r s5 ⟨hr,I5⟩=> ?_
   subst hr
   obtain⟨m5,hn5,_⟩:=id I5.loc
   refine hpost D C s5 m5 H3 hn5 (by rw [hDe];lia) (I2.fpOk (by rw [hDe];lia) I5.free) ?_ qn
   exact I2.call' (ch:=fp) I5.os I5.base I5.hok I5.bare fun b hb=> ⟨(f2 b hb).2.2.2.1,(f2 b hb).2.1,(f2 b hb).2.2.2.2⟩
  ·refine thn (T.item (kc X own caps scope C fp s2 H2) rfl rfl rfl hcalm i [] s3 _ H3 (fun _ _=> False) I3 (stat fr3) st3 go) fun r s4 ⟨u,hr,h4⟩=> ?_
   subst hr
   refine thn h4 fun _ s5 ⟨x,H5,I5,r5,y5,st5,fr5⟩=> ?_
   have I5':=I5.pinned (stat fr5) (T.obj _ _ st5);refine thn (hg C fp s2 H2 _ s5 _ H5 x u _ I5' r5 (step x H5 y5 vs hvs)) fun _ s6 ⟨σ6,H6,I6,⟨vs6,hvs6,e6⟩,q6⟩=> ?_
   subst e6
   refine thn (hi C fp s2 H2 _ s6 _ H6 _ I6 q6) fun b s7 ⟨H7,I7,q7⟩=> ?_
   have again: ∀{H8:Hp} {s8:ak} {ys':List V},Inv (kc X own caps scope C fp s2 H2) ([]++ad6 fp s5.heap) (vs6++xl σ js) H8 s8 -> H8 D=some (.lst ys') -> (∃m',m' < n/\W (i+1) m' ys' H8) ->
     ∃m,m < n/\ ∃i vs ys H',vs.length=own.length/\Inv (kc X own caps scope C fp s2 H2) [] (vs++xl σ js) H' s8/\tn i s8.heap/\(∀b∈fp,H' b=none)/\H' D=some (.lst ys)/\W i m ys H':=fun {H8 s8 ys'} I8 hD8 w8=> by
    obtain⟨m',hm,w8⟩:=w8
    refine⟨m',hm,i+1,vs6,ys',H8,hvs6,I8.unpinned,T.keep _ _ _ st5 fun b hb o e=> (I8.pin (b,o) (bf _ (bf _ (xx hb e)))).1,fun b hb=> ?_,hD8,w8⟩
    obtain⟨o,e,d⟩:=T.obj _ _ st5 b hb
    exact (I8.pin (b,o) (bf _ (bf _ (xx hb e)))).2.1
   cases b with
   |false=> exact again I7 q7.1 q7.2
   |true=>
    refine thn (he C fp s2 H2 _ s7 _ H7 _ I7 q7) fun y s8 ⟨v,H8,I8,r8,hD8,hz8,q8⟩=> ?_
    refine thn (afq (X:=kc X own caps scope C fp s2 H2) _ s8 _ H8 (.ref D) [v] (.ref D) [y] (fun z H9=> H9=upd H8 D (.lst (ys++ [v]))) I8 rfl (.cons r8 .nil) ⟨D,ys,v,rfl,rfl,hD8,hz8,rfl⟩) fun _ s9 ⟨z,H9,I9,_,e9⟩=> ?_
    subst e9
    exact again I9 aak q8
 refine jO (loop _ rfl) (T.self _ 0 _ _ _ (T.keep _ _ _ st2 fun b _ o e=> old b o e) (loop _ rfl))
theorem a68(hcalm:X.calm=true)(hkind:scope.kind=.function)(hnames:(scope.names.all fun p=> !(p.2==.local)||(scope.names.lookup p.1==some .local))=true)(hcell:(scope.names.any fun p=> p.2==.cell)=false)
  (hk:(scope.names.all fun p=> !(p.2==.free)||(X.env.kindOf p.1==some .cell||X.env.kindOf p.1==some .free))=true)
  (hcap:yk X scope caps js) (hi:PI X tg iter wi) (hg: ∀C fp s H,PG (kc X own caps scope C fp s H) tg g) (ht: ∀C fp s H,aey (kc X own caps scope C fp s H) ifs tt) (he: ∀C fp s H,PE (kc X own caps scope C fp s H) elt te)
  (hs: ∀x,bU iter X.env x=pure x:=by intro _;rfl):PE X (.ListComp elt [⟨tg,iter,ifs,0⟩] scope pos) (tLc js own.length wi g tt te):=by
 refine⟨?_⟩
 intro pins s σ H Q I h
 have hfr: ∀n,(n,bO)∈scope.names -> X.env.kindOf n=some .cell\/X.env.kindOf n=some .free:=fun n hn=> by
  have:=(ao.mp hk) _ hn
  simpa using this
 have hn': ∀x∈scope.names,x.2=.local -> scope.names.lookup x.1=some .local:=fun x hx e=> by
  have:=(ao.mp hnames) _ hx
  simpa [e] using this
 rw [eval_ListComp]
 refine fO (use:=none) rfl hs (ac9 fun n hn=> I.ok.has n (hfr n hn)) hkind hn' (thn (hi pins s σ H _ I h) fun v s1 h1=> thn h1 fun itv s2 h2=> ?_)
 obtain⟨it,fp,tn,J,H2,e,I2,T,st2,f2,hw⟩:=h2
 subst e
 refine aua (iter:=iter) (pos:=pos) (post:=fun acc C=> compPost (model X.prog X.w) X.A X.xe none (EP X pins σ Q) acc C) hcalm hkind hcell hk hcap hg ht he I2 T st2 f2 hw ?_
 intro D C s' m H' hn _ f hI hq
 exact⟨m,hn,fun h' hs'=> ⟨.ref D,H',hI.turned (t':=s'.toks) (fun b o hb e=> (hs'.2 b hb).trans e) f.1 f.2.1 f.2.2.2.1 f.2.2.2.2.1 f.2.2.2.2.2,rfl,hq⟩⟩
theorem axj{y:Str}{py:Pos}{spos:Pos}(hsw:fJ (.ListComp elt [⟨tg,iter,ifs,0⟩] scope pos) (some (.Name y py)) spos.line X.env=pure true)(hN:X.N.Nodup)(hy:X.N[i]?=some y)(hyl:X.env.scope.names.lookup y=some .local)(hcalm:X.calm=true)(hkind:scope.kind=.function)(hnames:(scope.names.all fun p=> !(p.2==.local)||(scope.names.lookup p.1==some .local))=true)(hcell:(scope.names.any fun p=> p.2==.cell)=false)(hk:(scope.names.all fun p=> !(p.2==.free)||(X.env.kindOf p.1==some .cell||X.env.kindOf p.1==some .free))=true)(hcap:yk X scope caps js)(hi:PI X tg iter wi)(hg: ∀C fp s H,PG (kc X own caps scope C fp s H) tg g)(ht: ∀C fp s H,aey (kc X own caps scope C fp s H) ifs tt)(he: ∀C fp s H,PE (kc X own caps scope C fp s H) elt te)(hs: ∀x,bU iter X.env x=pure x:=by intro _;rfl):PS X (.Assign [.Name y py] (.ListComp elt [⟨tg,iter,ifs,0⟩] scope pos) spos) (fun D σ H=> tLc js own.length wi g tt te σ H fun v H'=> D.nx (σ.set i (some v)) H'):=by
 refine⟨?_⟩
 intro pins s σ H D I h
 have hfr: ∀n,(n,bO)∈scope.names -> X.env.kindOf n=some .cell\/X.env.kindOf n=some .free:=fun n hn=> by
  have:=(ao.mp hk) _ hn
  simpa using this
 have hn': ∀x∈scope.names,x.2=.local -> scope.names.lookup x.1=some .local:=fun x hx e=> by
  have:=(ao.mp hnames) _ hx
  simpa [e] using this
 rw [jX _ _ _ _ hsw];refine ae (du (ae ?_))
 show wpAny _ _ (do let _←comprehension (.ListComp elt [⟨tg,iter,ifs,0⟩] scope pos) scope X.env _ (newList []) false (eval iter X.env) (some (assign (.Name y py) X.env))) _ _ s
 refine ae (bE (fO (use:=some (assign (.Name y py) X.env)) (Q:=fun _ s'=> SP X pins D .next s') rfl hs (ac9 fun n hn=> I.ok.has n (hfr n hn)) hkind hn'
  (thn (hi pins s σ H _ I h) fun v s1 h1=> thn h1 fun itv s2 h2=> ?_)) (fun _ s' hq=> aj (aj hq)) fun _ _ e=> e)
 obtain⟨it,fp,tn,J,H2,e,I2,T,st2,f2,hw⟩:=h2
 subst e
 refine aua (iter:=iter) (pos:=pos) (post:=fun acc C=> compPost (model X.prog X.w) X.A X.xe (some (assign (.Name y py) X.env)) (fun _ s'=> SP X pins D .next s') acc C) hcalm hkind hcell hk hcap hg ht he I2 T st2 f2 hw ?_
 intro Da C s' m H' hn hCs f I' hq
 show wpAny _ _ (assign (.Name y py) X.env (.ref Da)) _ _ _
 refine iC (afv (v:=.ref Da) (u:=.ref Da) I' hN hy (.inl hyl) rfl (fun s6 I6 hs6=> ?_) (.inr hyl))
 obtain⟨a,hsb,ha⟩:=hs6
 have haC:a≠C:=by
  rcases ha with z|z
  ·rw [z];exact di f.2.1
  ·exact f.2.2.2.2.1 y a z
 exact⟨m,hn.sameBut hsb (di haC),fun h' hs'=> ⟨σ.set i (some (.ref Da)),H',I6.turned (t':=s6.toks) (fun b o hb e=> (hs'.2 b hb).trans e) f.1 f.2.1 f.2.2.2.1 f.2.2.2.2.1 f.2.2.2.2.2,hq⟩⟩
end
def Cal(P:bz)(w:bw)(K:aw)(mg:Str -> Option af)(base:Heap)(x:Str)(k:Nat)(sp:Sp):Prop:=
 ∃(f:Addr) (fd:fK) (ps:List Str),FnOk P w K mg base CX0 k f fd ps sp/\mg x=some (.ref f)/\eS K (.ref f)=true/\Binds K fd ps []
def Has(K:aw)(mg:Str -> Option af)(x:Str)(st:Stmt)(ps:List Str):Prop:=
 ∃(f:Addr) (fd:fK),Fun K x x st f fd/\mg x=some (.ref f)/\Binds K fd ps []
section
variable{P:bz}{w:bw}{K:aw}{mg:Str -> Option af}{base:Heap}{x:Str}{st:Stmt}{N ps:List Str}{k:Nat}{sp:Sp}
theorem Has.cal(h:Has K mg x st ps)(S:FnScope N ps (jf st))(len: ∀vs H Q E,sp vs H Q E -> vs.length=ps.length)
  (hbody: ∀(f:Addr) (cdv:af) (A:bm) (outer:List Env) (s:ak) (H:Hp) (vs:List V) (Q:VK) (E:XK),Room k (A.deeper (envOfC x (jf st) s.heap.objs.size f cdv)) -> sp vs H Q E ->
   ∃t,PSs (afc CX0 P w K mg base N x (jf st) f cdv A outer s H E).nox (xo st) t/\t {nx:=fun _ H'=> Q .non H',rt:=Q} (start N vs) H):Cal P w K mg base x (k+1) sp:=by
 obtain⟨f,fd,F,m,b⟩:=h
 exact⟨f,fd,ps,F.ok S len (hbody f),m,F.kp,b⟩
end
section
variable{X:Cx}{x:Str}{k:Nat}{sp:Sp}{p pos:Pos}{e:Expr}{es:List Expr}{t:TA}
theorem a8y(c:Cal X.prog X.w X.K X.mg X.base x k sp)(hr:Room k X.A)(ha:PA X (e::es) t)(hg:Gl X x:=by rfl)(hdb:(x==("__debug__":Str))=false:=by decide)
  (he:starEach (e::es) X.env=(false,eval e X.env)::starEach es X.env:=by rfl) (hpl:(backTo pos (starEach es X.env)).any (·.1)=false:=by rfl):PE X (.Call (.Name x p) (e::es) [] pos) (aye sp [] E0 t):=by
 obtain⟨f,fd,ps,F,m,kk,b⟩:=c
 exact ayo F hr hg m kk b .nil a6d ha hdb he hpl
end
theorem ayd:bM "len"=some (.builtin "len"):=by decide+kernel
theorem a2o:bM "repr"=some (.builtin "repr"):=by decide+kernel
theorem axa:bM "sorted"=some (.builtin "sorted"):=by decide+kernel
theorem an2:bM "isinstance"=some (.builtin "isinstance"):=by decide+kernel
theorem a69:bM "all"=some (.builtin "all"):=by decide+kernel
theorem a1z:bM "list"=some (.type "list"):=by decide+kernel
theorem aoo:bM "tuple"=some (.type "tuple"):=by decide+kernel
theorem a5x:bM "set"=some (.type "set"):=by decide+kernel
theorem ayh:bM "str"=some (.type "str"):=by decide+kernel
theorem a66:bM "int"=some (.type "int"):=by decide+kernel
theorem a1n:bM "bool"=some (.type "bool"):=by decide+kernel
noncomputable def tyD:aa -> String
 |.none=> "NoneType"
 |.bool _=> "bool"
 |.int _=> "int"
 |.str _=> "str"
 |.list _=> "list"
 |.tuple _=> "tuple"
 |.dict _=> "dict"
noncomputable def ku(d:aa)(n:String):Bool:=match d with
 |.none=> n=="NoneType"
 |.bool _=> n=="bool"||n=="int"
 |.int _=> n=="int"
 |.str _=> n=="str"
 |.list _=> n=="list"
 |.tuple _=> n=="tuple"
 |.dict _=> n=="dict"
theorem auf(K:aw)(d:aa)(n:String)(hn:n="str"\/n="int"\/n="bool"\/n="tuple"\/n="list"):PySem.W.kitOne K (.type (tyD d)) (.type n)=some (ku d n):=by
 rcases hn with rfl|rfl|rfl|rfl|rfl <;> cases d <;> rfl
noncomputable def an0:Const -> Option V
 |.str x=> some (.str x)
 |.int i=> some (.int i)
 |.bool b=> some (.bl b)
 |.none=> some .non
 |_=> none
def ael:List Expr -> Option (List V)
 |[]=> some []
 | .Constant c _ _::r=> match an0 c with
  |some v=> match ael r with
   |some vs=> some (v::vs)
   |none=> none
  |none=> none
 |_=> none
theorem axl{c:Const}{j:Nat}:starEach (.Constant c j pos::es) env=(false,eval (.Constant c j pos) env)::starEach es env:=by rfl
noncomputable def tVs(vs:List V):TA:=fun _ H Q=> Q vs H
theorem a02{c:Const}{j:Nat}(h:an0 c=some v):PE X (.Constant c j pos) (tC v):=by
 cases c <;> simp [an0]at h <;> subst h
 all_goals first
  |exact auk
  |exact auj
  |exact ayb
  |exact aue
theorem ajw: ∀{es:List Expr} {vs:List V},ael es=some vs -> PA X es (tVs vs)
 |[],vs,h=> by
  cases h
  exact an7
 | e ::es,vs,h=> by
  cases e with
  | Constant c j pos=>
   simp only [ael]at h
   cases h1:an0 c with
   |none=>
    rw [h1]at h
    cases h
   | some v=>
    rw [h1]at h
    cases h2:ael es with
    |none=> rw [h2]at h;cases h
    |some ws=>
     rw [h2]at h
     cases h
     have p:=aix (a02 (X:=X) (pos:=pos) (j:=j) h1) (ajw h2) axl
     exact p
  |_=> simp [ael]at h
structure New (H:Hp) (p:Addr) (o:HO) (H':Hp):Prop where
 no:H p=none
 eq:H'=upd H p o
theorem New.at(n:New H p o H'):H' p=some o:=by rw [n.eq,aak]
theorem New.keep{b:Addr}{u:HO}(n:New H p o H')(e:H b=some u):H' b=some u:=by rw [n.eq,qh (yv e n.no)];exact e
structure Chg (H:Hp) (p:Addr) (o:HO) (H':Hp):Prop where
 eq:H'=upd H p o
theorem Chg.at(n:Chg H p o H'):H' p=some o:=by rw [n.eq,aak]
theorem Chg.keep{b:Addr}{u:HO}(n:Chg H p o H')(h:b≠p)(e:H b=some u):H' b=some u:=by rw [n.eq,qh h];exact e
theorem PE.weak{t t':TE}(h:PE X e t)(k: ∀σ H Q,t' σ H Q -> t σ H Q):PE X e t':=.mk <|fun pins s σ H Q I q=> h pins s σ H Q I (k σ H Q q)
theorem OpR.weak{f:af -> af -> Sem af}{r r':R2}(h:OpR X f r)(k: ∀x y H Q,r' x y H Q -> r x y H Q):OpR X f r':=fun pins s σ H x y v u Q I rx ry q=> h pins s σ H x y v u Q I rx ry (k x y H Q q)
theorem vq.weak{f:af}{r r':List V -> Hp -> VK -> Prop}(h:vq X f r)(k: ∀xs H Q,r' xs H Q -> r xs H Q):vq X f r':=fun pins s σ H xs us Q I rv q=> h pins s σ H xs us Q I rv (k xs H Q q)
theorem MtM.weak{id:String}{r r':V -> List V -> Hp -> VK -> Prop}(h:MtM X id r)(k: ∀x xs H Q,r' x xs H Q -> r x xs H Q):MtM X id r':=fun pins s σ H x xs v us Q I rx rv q=> h pins s σ H x xs v us Q I rx rv (k x xs H Q q)
theorem SlR.weak{r r':V -> Option Int -> Option Int -> Hp -> VK -> Prop}(h:SlR X r)(k: ∀x lo hi H Q,r' x lo hi H Q -> r x lo hi H Q):SlR X r':=by
 intro pins s σ H x v vl vu lo hi sl Q I rx hs pl pu q
 exact h pins s σ H x v vl vu lo hi sl Q I rx hs pl pu (k x lo hi H Q q)
theorem ajl.weak{t t':aqd}(h:ajl X t)(k: ∀o i v H Q,t' o i v H Q -> t o i v H Q):ajl X t':=fun pins s σ H o i v ov iv u Q I ro ri rv q=> h pins s σ H o i v ov iv u Q I ro ri rv (k o i v H Q q)
noncomputable def a6a(t:TA):TE:=fun σ H Q=> t σ H fun xs H1=> xs.length <=sizeLine/\ ∀p H',New H1 p (.tup xs) H' -> Q (.ref p) H'
noncomputable def a5b(t:TA):TE:=fun σ H Q=> t σ H fun xs H1=> xs.length <=sizeLine/\ ∀p H',New H1 p (.lst xs) H' -> Q (.ref p) H'
theorem a0j{x1 pos}(h:PA X es t):PE X (.Tuple es x1 pos) (a6a t):=by
 refine⟨?_⟩
 intro pins s σ H Q I hq
 refine wpAny_Tuple_spliced (thn (h pos pins s σ H _ I hq) fun us s1 ⟨xs,H1,I1,r,z,q⟩=> ⟨by rw [←r.length];exact z,?_⟩)
 have hf:H1 s1.heap.objs.size=none:=I1.hok.fresh (aD _)
 refine⟨.ref s1.heap.objs.size,upd H1 s1.heap.objs.size (.tup xs),I1.laid (t':=s1.toks) (fun b u e=> aq _ e) (aD _) ?_,rfl,q _ _ ⟨hf,rfl⟩⟩
 exact⟨z,us,r,⟨_,aQ _ rfl⟩⟩
theorem a1b{pos}(h:PA X es t):PE X (.List es pos) (a5b t):=by
 refine⟨?_⟩
 intro pins s σ H Q I hq
 refine wpAny_List_spliced (thn (h pos pins s σ H _ I hq) fun us s1 ⟨xs,H1,I1,r,z,q⟩=> ⟨by rw [←r.length];exact z,?_⟩)
 have hf:H1 s1.heap.objs.size=none:=I1.hok.fresh (aD _)
 refine⟨.ref s1.heap.objs.size,upd H1 s1.heap.objs.size (.lst xs),I1.laid (t':=s1.toks) (fun b u e=> aq _ e) (aD _) ?_,rfl,q _ _ ⟨hf,rfl⟩⟩
 exact⟨z,us,0,r,aQ _ rfl⟩
def a5c(K:aw):V -> Option Int -> Option Int -> Hp -> VK -> Prop:=fun x lo hi H Q=> ∃a xs,x=.ref a/\SqL K H a xs/\ ∀p H',New H p (.lst (aaf xs lo hi)) H' -> Q (.ref p) H'
theorem axu:SlR X (a5c X.K):=a0i.weak fun x lo hi H Q ⟨a,xs,e,h,q⟩=> ⟨a,xs,e,h,fun p hp=> q p _ ⟨hp,rfl⟩⟩
def a7a(K:aw):V -> Option Int -> Option Int -> Hp -> VK -> Prop:=fun x lo hi H Q=> ∃a xs,x=.ref a/\SqT K H a xs/\ ¬(HT.sIx xs.length 0 lo=0/\HT.sIx xs.length xs.length hi=xs.length)/\ ∀p H',New H p (.tup (aaf xs lo hi)) H' -> Q (.ref p) H'
theorem ayy:SlR X (a7a X.K):=asz.weak fun x lo hi H Q ⟨a,xs,e,h,n,q⟩=> ⟨a,xs,e,h,n,fun p hp=> q p _ ⟨hp,rfl⟩⟩
noncomputable def a60:R2:=fun x y H Q=> ∃l b xs zs,x=.ref l/\y=.ref b/\H l=some (.lst xs)/\H b=some (.lst zs)/\xs.length+zs.length <=sizeLine/\ ∀p H',New H p (.lst (xs++zs)) H' -> Q (.ref p) H'
theorem a1c:OpR X (binaryOp .Add) a60:=a47.weak fun x y H Q ⟨l,b,xs,zs,e1,e2,h1,h2,n,q⟩=> ⟨l,b,xs,zs,e1,e2,h1,h2,n,fun p hp=> q p _ ⟨hp,rfl⟩⟩
theorem aqb:vq X (.type "list") (fun xs H Q=> ∃p ys,xs=[.ref p]/\(SqL X.K H p ys\/SqT X.K H p ys)/\ ∀l H',New H l (.lst ys) H' -> Q (.ref l) H'):=
 anb.weak fun xs H Q ⟨p,ys,e,h,q⟩=> ⟨p,ys,e,h,fun l hl=> q l _ ⟨hl,rfl⟩⟩
theorem adt:vq X (.type "tuple") (fun xs H Q=> ∃p ys,xs=[.ref p]/\((SqL X.K H p ys/\ ∀l H',New H l (.tup ys) H' -> Q (.ref l) H')\/(SqT X.K H p ys/\Q (.ref p) H))):=
 al1.weak fun xs H Q ⟨p,ys,e,h⟩=> ⟨p,ys,e,h.imp (fun⟨a,q⟩=> ⟨a,fun l hl=> q l _ ⟨hl,rfl⟩⟩) id⟩
def axf:V -> List V -> Hp -> VK -> Prop:=fun x vs H Q=> ∃l xs y,x=.ref l/\vs=[y]/\H l=some (.lst xs)/\xs.length < sizeLine/\ ∀H',Chg H l (.lst (xs++ [y])) H' -> Q .non H'
theorem arz:MtM X "list.append" axf:=afq.weak fun x vs H Q ⟨l,xs,y,e1,e2,h,n,q⟩=> ⟨l,xs,y,e1,e2,h,n,q _ ⟨rfl⟩⟩
def a2a:V -> V -> V -> Hp -> (Hp -> Prop) -> Prop:=fun o i v H Q=> ∃p xs k j,o=.ref p/\i=.int k/\H p=some (.lst xs)/\ixN xs.length k=some j/\ ∀H',Chg H p (.lst (xs.set j v)) H' -> Q H'
theorem av5:ajl X a2a:=awv.weak fun o i v H Q ⟨p,xs,k,j,e1,e2,h,n,q⟩=> ⟨p,xs,k,j,e1,e2,h,n,q _ ⟨rfl⟩⟩
def a4j(w:bw)(k:Nat)(t:bt):Prop:=t.led= !(w.params.followText "set-order")/\(k≠0 -> t.plain=false)
def xg(P:bz)(w:bw)(h:Heap)(a:Addr)(S:Str -> Bool)(n:Nat):Prop:=
 ∃o es ep t,h.get? a=some o/\o.ExactSet/\o.data=.set es ep t/\(ElemsOf (bV P w) es.toList/\(∀k,S k=true ↔ ∃e∈es.toList,(bV P w).is k e.2=true)
  /\es.size < c5/\t.fits es.size=true/\es.size=n)/\a4j w es.size t
theorem xg.congr{S S':Str -> Bool}{n':Nat}(z:xg P w h a S n)(hS: ∀k,S' k=S k)(hn:n'=n):xg P w h a S' n':=by
 subst hn
 obtain⟨o,es,ep,t,e,ex,d,⟨q1,q2,q3⟩,q4⟩:=z
 exact⟨o,es,ep,t,e,ex,d,⟨q1,fun k=> by rw [hS k];exact q2 k,q3⟩,q4⟩
theorem a03(t:bt)(es:Array (Int×af))(h:Int)(x:af):(layNew t es h x).2.1.led=t.led:=by
 have si: ∀(u:bt) (m:Nat),(u.orStandIn m).led=u.led:=fun u m=> by
  unfold SetTable.orStandIn
  by_cases c:u.fits m=true
  ·rw [if_pos c]
  ·rw [if_neg c];rfl
 unfold layNew
 cases t.freeSlot h with
 |none=> rfl
 |some q=>
  obtain⟨sl,wd⟩:=q
  exact (si _ _).trans rfl
theorem alw{t t':bt}{hs:Array Int}{wd:Nat}{od:Array Nat}(e:t.relaid hs wd=some (t',od)):t'.led=t.led/\t'.plain=t.plain:=by
 unfold SetTable.relaid SetTable.laid at e
 cases c:SetTable.layClean (eI wd - 1) hs with
 |none=> rw [c]at e;cases e
 |some ow=>
  rw [c]at e
  simp only [lw,Option.bind_some,Option.pure_def,iG,Prod.mk.injEq]at e
  obtain⟨rfl,_⟩:=e
  exact⟨rfl,rfl⟩
theorem atw(t:bt)(es:Array (Int×af))(wd:Nat):(relayAll t es wd).2.1.led=t.led/\(t.plain=false -> (relayAll t es wd).2.1.plain=false):=by
 unfold relayAll
 cases c:t.relaid (es.map (·.1)) wd with
 |none=> exact⟨rfl,fun _=> rfl⟩
 |some q=>
  obtain⟨t',od⟩:=q
  obtain⟨k1,k2⟩:=alw c
  dsimp only
  split
  ·exact⟨k1,fun z=> k2.trans z⟩
  ·exact⟨rfl,fun _=> rfl⟩
theorem au1{o:Obj}{es:Array (Int×af)}{ep:Nat}{t:bt}(ho:h.get? a=some o)(hex:o.ExactSet)(hd:o.data=.set es ep t){es':Array (Int×af)}{t':bt}{S':Str -> Bool}(q:ElemsOf (bV prog w) es'.toList/\(∀k,S' k=true ↔ ∃e∈es'.toList,(bV prog w).is k e.2=true)/\es'.size < c5/\t'.fits es'.size=true)(tx:a4j w es'.size t'):
  (h.update a (f8 es' t')).get? a=some {o with data:=.set es' (ep+1) t'}/\xg prog w (h.update a (f8 es' t')) a S' es'.size:=by
 obtain⟨g,_⟩:=SetOf_store (knd:=bV prog w) ho hex hd q.1 q.2.1 q.2.2.1 q.2.2.2
 exact⟨g,_,es',ep+1,t',g,hex,rfl,⟨q.1,q.2.1,q.2.2.1,q.2.2.2,rfl⟩,tx⟩
theorem ay6{g:Bool -> Sem Unit}(hg: ∀(b:Bool) (s1:ak) (Q':Unit -> ak -> Prop),Q' () s1 -> wpAny (model prog w) A (g b) Q' E s1){o:Obj}{es:Array (Int×af)}{ep:Nat}{t:bt}(ho:s.heap.get? a=some o)(hex:o.ExactSet)(hd:o.data=.set es ep t){es1:Array (Int×af)}{t2:bt}{S':Str -> Bool}(q:ElemsOf (bV prog w) es1.toList/\(∀k,S' k=true ↔ ∃e∈es1.toList,(bV prog w).is k e.2=true)/\es1.size < c5/\t2.fits es1.size=true)(tx:t2.led= !(w.params.followText "set-order")/\t2.plain=false){wasDummy:Bool}{R:Option Bool -> ak -> Prop}(h: ∀h',de a s.heap h' -> xg prog w h' a S' es1.size -> R (some true) {s with heap:=h'}):
  wpAny (model prog w) A (do
   storeSet a es1 t2
   if (!wasDummy&&t2.tooFull)=true then do g (relayAll t2 es1 (ca es1.size)).2.2;storeSet a (relayAll t2 es1 (ca es1.size)).1 (relayAll t2 es1 (ca es1.size)).2.1;pure (some true) else pure (some true)) R E s:=by
 obtain⟨q1,q2,q3,q4⟩:=q
 refine ae (gh ho hd ?_ (fits_of_scanBound q3))
 obtain⟨g1,x1⟩:=au1 (w:=w) (prog:=prog) ho hex hd ⟨q1,q2,q3,q4⟩ ⟨tx.1,fun _=> tx.2⟩
 have b1:=eC s.heap a (f8 es1 t2)
 split
 ·have p:=relayAll_perm t2 es1 (ca es1.size)
  have f:=relayAll_fits t2 es1 (ca es1.size)
  have tt:=atw t2 es1 (ca es1.size)
  revert p f tt
  generalize relayAll t2 es1 (ca es1.size)=Rl
  obtain⟨es2,t3,gv⟩:=Rl
  intro p f tt
  dsimp only at p f tt⊢
  have z:es2.size=es1.size:=by
   have:=p.length_eq
   rwa [aG,aG]at this
  have b2:es2.size < c5:=z▸q3
  refine ae (hg _ _ _ (ae (gh g1 rfl ?_ (fits_of_scanBound b2))))
  obtain⟨_,x2⟩:=au1 (w:=w) (prog:=prog) (S':=S') g1 hex rfl ⟨q1.perm p,fun k=> (q2 k).trans ⟨fun⟨e,m,y⟩=> ⟨e,p.mem_iff.mpr m,y⟩,fun⟨e,m,y⟩=> ⟨e,p.mem_iff.mp m,y⟩⟩,b2,f⟩ ⟨tt.1.trans tx.1,fun _=> tt.2 tx.2⟩
  exact aj (h _ (b1.trans (eC _ a _)) (z▸x2))
 ·exact aj (h _ b1 x1)
theorem a7v{S:Str -> Bool}{k:Str}{tk:Tok}{Q:Bool -> ak -> Prop}(hS:xg prog w s.heap a S n)(hroom:n+1 < c5)(h: ∀h',de a s.heap h' -> xg prog w h' a (fun y=> S y||decide (y=k)) (if S k then n else n+1) -> Q (!S k) {s with heap:=h'}):
  wpAny (model prog w) A (iV a (.str k tk) ((bV prog w).hash k)) Q E s:=by
 have hkey:(bV prog w).is k (.str k tk)=true:=by show gu k (.str k tk)=true;simp [gu]
 obtain⟨o,es,ep,t,ho,hex,hd,⟨hel,hmem,hb,hf,hn⟩,tx⟩:=hS
 have hgw: ∀(b:Bool) {s1:ak} {Q':Unit -> ak -> Prop},Q' () s1 -> wpAny (model prog w) A (match b with|true=> rule "set.scan.the-table-gave-way"|false=> pure ()) Q' E s1:=by
  intro b s1 Q' z
  cases b
  ·exact aj z
  ·exact c9 z
 unfold iV setAddHashedIn;refine bB (ae (dT ho hd hf ?_))
 dsimp only
 rw [byScan_of (knd:=bV prog w) rfl hb hel,if_pos rfl]
 unfold setAddByScan
 refine ae (ae (c9 (ae (wpAny_setScan_of hkey ho hd hf hel ?_))))
 cases hr:List.findIdx? (fun e=> (bV prog w).is k e.2) es.toList with
 | some j=>
  obtain⟨hj,hpj,_⟩:=List.findIdx?_eq_some_iff_getElem.mp hr;have sk:S k=true:=(hmem k).mpr ⟨es.toList[j],bR hj,hpj⟩
  dsimp only
  refine aj (aj ?_);have z:=h s.heap (iH a s.heap) ⟨o,es,ep,t,ho,hex,hd,⟨hel,fun y=> by
   rw [Bool.or_eq_true,decide_eq_true_eq,←hmem y]
   exact⟨fun c=> c.elim id (fun e=> e▸sk),.inl⟩,hb,hf,by rw [sk];exact hn⟩,tx⟩
  rw [sk]at z
  exact z
 | none=>
  dsimp only
  have sk:S k=false:=by
   cases c:S k with
   |false=> rfl
   |true=>
    obtain⟨e,m,y⟩:=(hmem k).mp c
    exact Bool.noConfusion (y.symm.trans (List.findIdx?_eq_none_iff.mp hr e m))
  have p:=layNew_perm t es ((bV prog w).hash k) (.str k tk)
  have f:=layNew_fits t es ((bV prog w).hash k) (.str k tk)
  have ld:=a03 t es ((bV prog w).hash k) (.str k tk)
  revert p f ld
  generalize layNew t es ((bV prog w).hash k) (.str k tk)=L
  obtain⟨es1,t1,wd,gv⟩:=L
  intro p f ld
  dsimp only at p f ld⊢
  rw [Array.toList_push]at p
  have z1:es1.size=n+1:=by
   have:=p.length_eq
   rw [aG,bj,aG,hn]at this
   exact this
  have b1:es1.size < c5:=z1▸hroom
  have q:ElemsOf (bV prog w) es1.toList/\(∀y,(fun y=> S y||decide (y=k)) y=true ↔ ∃e∈es1.toList,(bV prog w).is y e.2=true)/\es1.size < c5:=
   ⟨(hel.push hkey rfl).perm p,fun y=> mem_push_iff hkey hmem p y,b1⟩
  have fin: ∀h',de a s.heap h' -> xg prog w h' a (fun y=> S y||decide (y=k)) es1.size -> Q true {s with heap:=h'}:=fun h' u v=> by
   have:=h h' u
   rw [sk,if_neg aF,←z1]at this
   exact this v
  refine ae (hgw _ ?_)
  split
  ·refine ae ?_
   rw [hashByValue_scannable 8 rfl]
   refine aj (ay6 (fun b s1 Q' z=> ?_) ho hex hd ⟨q.1,q.2.1,q.2.2,?_⟩ ⟨?_,?_⟩ fun h' u v=> ?_)
   ·cases b
    ·exact aj z
    ·exact c9 z
   ·exact SetTable.fits_plain_off f
   ·exact ld.trans tx.1
   ·rfl
   ·dsimp only;exact aj (fin h' u v)
  ·rename_i hpl
   refine ae (aj ?_);simp only [↓reduceIte]
   refine ay6 (fun b s1 Q' z=> ?_) ho hex hd ⟨q.1,q.2.1,q.2.2,f⟩ ⟨ld.trans tx.1,?_⟩ fun h' u v=> ?_
   ·cases b
    ·exact aj z
    ·exact c9 z
   ·simpa using hpl
   ·dsimp only;exact aj (fin h' u v)
theorem a52(a:af){Q1:af -> ak -> Prop}(h:Q1 (.ref s.heap.objs.size) {s with heap:=s.heap.push {cls:=.type "set",dict:=none,data:=.set #[] 0 (.fresh 0 0 (!(w.params.followText "set-order")))}}):
  codeAny (model prog w) A (.call (.builtin "set.__new__") ⟨[.type "set",a],[]⟩) (wants Q1 E) s:=by
 refine gO (show wpAny _ A.in1 (do checkBuiltinCall "set.__new__" ⟨[.type "set",a],[]⟩;again (.builtin "set.__new__" ⟨[.type "set",a],[]⟩)) _ _ s from ?_)
 refine ae (jP (PySem.F.newCall_set_1 a) (aj ⟨lm jY _,dO PySem.F.entry_set_new ?_⟩))
 rw [d6 jY _];unfold d9.«set.__new__» Builtin.Frozenset.newClass
 have sb:=PySem.sub_set_self
 obtain⟨hp,g,d,tk,os⟩:=s;dsimp only
 wp_walk
 refine wpAny_askSetting (aj ?_);dsimp only;simp only [newObj]
 exact ae (wpAny_alloc (aj (aj h)))
noncomputable def yc(l:List Str)(x:Str):List Str:=if x∈l then l else l++ [x]
def j9(xs:List Str):List Str:=xs.foldl yc []
theorem ak7(xs:List Str)(x:Str):j9 (xs++ [x])=yc (j9 xs) x:=by unfold j9;rw [List.foldl_append];rfl
theorem aef{l:List Str}{y:Str}:y∈yc l x ↔ y∈l\/y=x:=by
 unfold yc
 split
 ·constructor
  ·exact gP
  ·rintro (h|rfl)
   ·exact h
   ·assumption
 ·simp
theorem ash{l:List Str}(h:l.Nodup):(yc l x).Nodup:=by
 unfold yc
 split
 ·exact h
 ·rename_i hx
  rw [gi]
  refine⟨h,by simp,fun a ha b hb=> ?_⟩
  rw [aO.mp hb]
  rintro rfl
  exact hx ha
theorem arb(xs:List Str):(j9 xs).Nodup/\(∀y,y∈j9 xs ↔ y∈xs)/\(j9 xs).length <=xs.length:=by
 have all: ∀(ys acc:List Str),acc.Nodup -> (ys.foldl yc acc).Nodup/\(∀y,y∈ys.foldl yc acc ↔ y∈acc\/y∈ys)/\(ys.foldl yc acc).length <=acc.length+ys.length:=by
  intro ys
  induction ys with
  |nil=> intro acc h;exact⟨h,by simp,aD _⟩
  | cons z r ih=>
   intro acc h
   obtain⟨h1,h2,h3⟩:=ih (yc acc z) (ash h)
   refine⟨h1,fun y=> ?_,?_⟩
   ·rw [cW,h2,aef,ay]
    constructor
    ·rintro ((a|a)|a)
     ·exact .inl a
     ·exact .inr (.inl a)
     ·exact .inr (.inr a)
    ·rintro (a|a|a)
     ·exact .inl (.inl a)
     ·exact .inl (.inr a)
     ·exact .inr a
   ·rw [cW,aP]
    have:(yc acc z).length <=acc.length+1:=by unfold yc;split <;> simp
    lia
 have h:=all xs [] hW
 refine⟨h.1,fun y=> ?_,?_⟩
 ·show y∈xs.foldl yc [] ↔ _
  simpa using h.2.1 y
 ·show (xs.foldl yc []).length <=_
  simpa using h.2.2
theorem aql: ∀{xs:List Str},xs.Nodup -> j9 xs=xs:=by
 intro xs h
 have all: ∀(ys acc:List Str),(acc++ys).Nodup -> ys.foldl yc acc=acc++ys:=by
  intro ys
  induction ys with
  |nil=> intro acc _;simp
  | cons z r ih=>
   intro acc hn
   have hz:z∉acc:=fun m=> by
    rw [gi]at hn
    exact hn.2.2 z m z ax rfl
   rw [cW,show yc acc z=acc++ [z] from by unfold yc;rw [if_neg hz],ih _ (by rw [bW];exact hn),bW]
   rfl
 have:=all xs [] (by simpa using h)
 simpa [j9] using this
section
variable{prog:bz}{w:bw}{A:bm}{R:jV -> ak -> Prop}{I:Addr}{wr fp:List Addr}{G:Array iQ -> Array iQ -> Prop}{n:Nat}{P:Nat -> af -> Prop}{St:Nat -> ak -> Prop}
theorem ank(W:WalksS prog w A.in1 I fp wr G n P St)(p:Addr)(hp:p∉fp)(xs:List Str)(hn:xs.length=n)(hval: ∀i v,P i v -> ∃x t,xs[i]?=some x/\v=.str x t)(hb:n+1 < c5):
  ∀(j i:Nat) (s:ak),i+j=n -> St i s -> xg prog w s.heap p (fun y=> decide (y∈j9 (xs.take i))) (j9 (xs.take i)).length ->
   (∀s',lP (p::wr) G s s' -> xg prog w s'.heap p (fun y=> decide (y∈j9 xs)) (j9 xs).length -> R (.ok (.ret .none)) s') ->
   codeAny (model prog w) A (.builtin "set.update.loop" ⟨[.ref p,.ref I],[]⟩) R s:=by
 have hpw:p∉wr:=fun z=> hp (W.sub _ z)
 have up: ∀b∈wr,b∈p::wr:=fun b z=> az _ z
 have stays: ∀{s s':ak} {S:Str -> Bool} {m:Nat},lP wr G s s' -> xg prog w s.heap p S m -> xg prog w s'.heap p S m:=fun mv z=> by
  obtain⟨o,es,ep,t,ho,q⟩:=z
  exact⟨o,es,ep,t,mv.heap p _ hpw ho,q⟩
 intro j
 induction j with
 |zero=>
  intro i s hij hst hS hR
  have ei:i=n:=by lia
  subst ei
  refine dO cQ ?_
  rw [d6 bY _]
  refine (show wpAny _ A.in1 (pyNext (.ref I)>>=_) _ _ s from ae (W.done s _ _ hst fun s' mv=> ?_))
  refine aj (hR s' (mv.mono up) ?_)
  have:=stays mv hS
  rw [eO (dH hn)]at this
  exact this
 | succ j ih=>
  intro i s hij hst hS hR
  refine dO cQ ?_
  rw [d6 bY _]
  refine (show wpAny _ A.in1 (pyNext (.ref I)>>=_) _ _ s from ae (W.item i s _ _ (by lia) hst fun v s' hP hst' mv=> ?_))
  obtain⟨x,t,hx,rfl⟩:=hval i v hP
  show wpAny _ A.in1 (holding [fH x t] (setAdd p (.str x t))>>=_) _ _ s'
  refine ae (bB ?_);unfold setAdd
  refine bB (ae ((strKind prog w).pyHash (k:=x) (by show gu x (.str x t)=true;simp [gu]) ?_))
  have few:(j9 (xs.take i)).length <=i:=aJ (arb _).2.2 (by rw [br];lia)
  refine a7v (s:={s' with toks:=s'.toks+1}) (show xg prog w s'.heap p _ _ from stays mv hS) (by lia) fun h' sb hS2=> ?_
  have et:xs.take (i+1)=xs.take i++ [x]:=by rw [List.take_add_one,hx];rfl
  have hS3:xg prog w h' p (fun y=> decide (y∈j9 (xs.take (i+1)))) (j9 (xs.take (i+1))).length:=by
   refine xg.congr hS2 (fun y=> ?_) ?_
   ·rw [et,ak7]
    by_cases h1:y∈j9 (xs.take i)
    ·simp [h1,aef]
    ·by_cases h2:y=x
     ·simp [h1,h2,aef]
     ·simp [h1,h2,aef]
   ·rw [et,ak7]
    by_cases h1:x∈j9 (xs.take i)
    ·rw [show yc (j9 (xs.take i)) x=j9 (xs.take i) from by unfold yc;rw [if_pos h1]];simp [h1]
    ·rw [show yc (j9 (xs.take i)) x=j9 (xs.take i)++ [x] from by unfold yc;rw [if_neg h1]];simp [h1]
  refine aj ⟨lm bY _,ih (i+1) _ (by lia) (W.frame _ s' _ _ hst' (Nat.le_succ _) fun b hbm o e=> ?_) hS3 fun s'' mv2 hS''=> ?_⟩
  ·rw [sb.2 b (fun z:b=p=> hp (by rw [←z];exact hbm))];exact e
  ·refine hR s'' (Moved.trans W.gtrans ((mv.mono up).then_heap (Nat.le_succ _) fun b o hbm e=> ?_) mv2) hS''
   rw [sb.2 b (fun z:b=p=> hbm (by rw [z];exact ax))];exact e
end
set_option maxHeartbeats 8000000 in
theorem amd{oc:Obj}(hh:A.handled=none)(hT:T="list"\/T="tuple")(ho:s.heap.get? a=some oc)(hc:oc.cls=.type T){its:Array af}(hd:oc.data=.seq its k)(xs:List Str)(hx:jn (xs.map V.str) its.toList)(hb:its.size+1 < c5)(h: ∀(h':Heap) (tk:Nat),xg prog w h' s.heap.objs.size (fun y=> decide (y∈j9 xs)) (j9 xs).length -> (∀b o,b < s.heap.objs.size -> s.heap.get? b=some o -> h'.get? b=some o) -> Q (.ref s.heap.objs.size) {s with heap:=h',toks:=tk}):
  wpAny (model prog w) A (call (.type "set") [.ref a]) Q E s:=by
 obtain⟨cm,mrest,m0⟩:=cf.mro
 have m1:=cf.made
 have m2:=cf.sub
 refine wpAny_call (gO (show wpAny _ _ (callAny (.type "set") _) _ _ _ from aj ⟨Code.quiet_builtin _ (by decide+kernel),dO F.entry_type_call ?_⟩))
 rw [Around.under_plain (jZ "set" [.ref a] []) rfl]
 have m3:=cf.notType
 have m4:=cf.canCreate
 have m5:=jQ (.ref a)
 repeat any_goals (first|assumption|wp_step)
 refine dG (a52 (.ref a) (E:=E) (Q1:=fun ob s1=> ∃led:Bool,led= !(w.params.followText "set-order")/\ob=.ref s.heap.objs.size/\s1={s with heap:=s.heap.push {cls:=.type "set",dict:=none,data:=.set #[] 0 (.fresh 0 0 led)}}) ⟨_,rfl,rfl,rfl⟩) fun r s1 hr=> ?_
 cases r with
 |error e=> exact hr
 | ok fl=>
  cases fl with
  | ret ob=>
   obtain⟨led,hled,rfl,rfl⟩:=hr
   have g0:(s.heap.push {cls:=.type "set",dict:=none,data:=.set #[] 0 (.fresh 0 0 led)}).get? s.heap.objs.size=some {cls:=.type "set",dict:=none,data:=.set #[] 0 (.fresh 0 0 led)}:=aQ _ rfl
   have g1:Shared.TypeIs {s with heap:=s.heap.push {cls:=.type "set",dict:=none,data:=.set #[] 0 (.fresh 0 0 led)}} (.ref s.heap.objs.size) "set":=⟨_,g0,rfl⟩
   have m6:=cf.init.lookup
   have m7:=cf.init.bind (.ref s.heap.objs.size)
   repeat any_goals (first|assumption|wp_step)
   refine dG (kK (R:=wants (fun r s2=> r=.none/\ ∃h' tk,s2={s with heap:=h',toks:=tk}/\xg prog w h' s.heap.objs.size (fun y=> decide (y∈j9 xs)) (j9 xs).length/\
     (∀b o,b < s.heap.objs.size -> s.heap.get? b=some o -> h'.get? b=some o)) E) cf.init.plain F.entry_set_init (check_set_init_1 g1 ?_)) fun r2 s2 hr2=> ?_
   ·have halt:a < s.heap.objs.size:=aM ho
    obtain⟨o1,o2,o3,o4⟩:=oc
    simp only at hc hd
    subst hc hd
    have g2:(s.heap.push {cls:=.type "set",dict:=none,data:=.set #[] 0 (.fresh 0 0 led)}).get? a=some {cls:=.type T,dict:=o2,data:=.seq its k,slots:=o4}:=aq _ ho
    have h3:A.in1.in1.in1.handled=none:=by simp [hh]
    have neI:a≠(s.heap.push {cls:=.type "set",dict:=none,data:=.set #[] 0 (.fresh 0 0 led)}).objs.size:=by
     rw [bT]
     exact aT (cU halt)
    have nf:s.heap.objs.size∉ [(s.heap.push {cls:=.type "set",dict:=none,data:=.set #[] 0 (.fresh 0 0 led)}).objs.size,a]:=by
     rw [bT]
     simp only [ay,aX,or_false,not_or]
     exact⟨aT (Nat.lt_succ_self _),iR halt⟩
    have hlen:xs.length=its.size:=by
     have:=hx.length
     rw [au]at this
     simpa using this
    have hval: ∀(i:Nat) (v:af),its[i]?=some v -> ∃x t,xs[i]?=some x/\v=.str x t:=fun i v hv=> by
     have hi:i < its.size:=(cn.mp hv).1
     have hxi:(xs.map V.str)[i]?=some (.str xs[i]):=by rw [a9,av (by lia)];rfl
     obtain⟨u,hu,ru⟩:=hx.get hxi
     rw [bG,hv]at hu
     cases hu
     obtain⟨t,e⟩:=(show∃t,v=fH xs[i] t from ru)
     exact⟨xs[i],t,av (by lia),e⟩
    have s0: ∀{o:Obj},xg prog w ((s.heap.push {cls:=.type "set",dict:=none,data:=.set #[] 0 (.fresh 0 0 led)}).push o) s.heap.objs.size (fun y=> decide (y∈j9 (xs.take 0))) (j9 (xs.take 0)).length:=fun {o}=> by
     exact⟨_,#[],0,_,aq _ g0,⟨rfl,rfl,rfl⟩,rfl,⟨fun e he=> by simp at he,fun k=> by simp [j9],by decide,rfl,rfl⟩,hled,fun z=> absurd rfl z⟩
    have fin: ∀(o:Obj) (s':ak),lP [s.heap.objs.size,(s.heap.push {cls:=.type "set",dict:=none,data:=.set #[] 0 (.fresh 0 0 led)}).objs.size] (fun x y=> y=x) {s with heap:=(s.heap.push {cls:=.type "set",dict:=none,data:=.set #[] 0 (.fresh 0 0 led)}).push o} s' ->
      xg prog w s'.heap s.heap.objs.size (fun y=> decide (y∈j9 xs)) (j9 xs).length ->
      ∃h' tk,s'={s with heap:=h',toks:=tk}/\xg prog w h' s.heap.objs.size (fun y=> decide (y∈j9 xs)) (j9 xs).length/\(∀b o,b < s.heap.objs.size -> s.heap.get? b=some o -> h'.get? b=some o):=by
     intro o s' mv hS'
     obtain⟨h',ge,dr,tk',oz⟩:=s'
     have e1:ge=s.gens:=mv.gens
     have e2:dr=s.drawn:=mv.drawn
     have e3:oz=s.os:=mv.os
     subst e1 e2 e3
     refine⟨h',tk',rfl,hS',fun b o' hb' e=> mv.heap b o' ?_ (aq _ (aq _ e))⟩
     rw [bT]
     simp only [ay,aX,or_false,not_or]
     exact⟨aT hb',aT (cU hb')⟩
    rcases hT with rfl|rfl
    ·have n1:=kL
     have n2:=ir
     have n3:(bN "list"==bN "dict")=false:=by decide
     have l1:(s.heap.push {cls:=.type "set",dict:=none,data:=.set #[] 0 (.fresh 0 0 led)}).IsList a its:=⟨_,g2,rfl,k,rfl⟩
     unfold d9.«set.__init__» kM dA;generalize hPI:pyIter=PI
     wp_walk
     subst hPI
     refine dU l1 (ae (hZ ?_))
     refine ank ((Walks.list h3 _ a neI its).toS) s.heap.objs.size nf xs hlen hval hb its.size 0 _ (by lia) ⟨⟨_,aQ _ rfl,rfl,rfl⟩,l1.push _⟩ s0 ?_
     intro s' mv hS'
     obtain⟨h',tk,rfl,z1,z2⟩:=fin _ s' mv hS'
     exact aj (show wpAny _ _ (ret bu) _ _ _ from aj ⟨rfl,h',tk,rfl,z1,z2⟩)
    ·have n1:=kA
     have n2:=ii
     have n3:(bN "tuple"==bN "dict")=false:=by decide
     have l1:(s.heap.push {cls:=.type "set",dict:=none,data:=.set #[] 0 (.fresh 0 0 led)}).IsTuple a its:=⟨_,g2,rfl,k,rfl⟩
     unfold d9.«set.__init__» kM dA;generalize hPI:pyIter=PI
     wp_walk
     subst hPI
     refine fP l1 (ae (hZ ?_))
     refine ank ((Walks.tuple h3 _ a neI its).toS) s.heap.objs.size nf xs hlen hval hb its.size 0 _ (by lia) ⟨⟨_,aQ _ rfl,rfl,rfl⟩,?_⟩ s0 ?_
     ·exact⟨_,aq _ g2,rfl,k,rfl⟩
     intro s' mv hS'
     obtain⟨h',tk,rfl,z1,z2⟩:=fin _ s' mv hS'
     exact aj (show wpAny _ _ (ret bu) _ _ _ from aj ⟨rfl,h',tk,rfl,z1,z2⟩)
   ·cases r2 with
    |error e=> exact hr2
    | ok f2=>
     cases f2 with
     |ret u=>
      obtain⟨rfl,h',tk,rfl,z1,z2⟩:=hr2
      repeat any_goals (first|assumption|wp_step)
      exact h h' tk z1 z2
     |next=> exact hr2.elim
     |brk=> exact hr2.elim
     |cont=> exact hr2.elim
  |next=> exact hr.elim
  |brk=> exact hr.elim
  |cont=> exact hr.elim
def an4(P:bz)(w:bw)(p:Addr)(xs:List Str):HO:=.ext fun h=> xg P w h p (fun y=> decide (y∈j9 xs)) (j9 xs).length
theorem a07{xs:List Str}(hS:xg P w h p (fun y=> decide (y∈j9 xs)) (j9 xs).length):j6 P w H h p (an4 P w p xs):=by
 refine⟨hS,?_,fun h1 h2 z k=> ?_⟩
 ·obtain⟨o,_,_,_,e,_⟩:=hS
  exact⟨o,e⟩
 ·obtain⟨o,es,ep,t,e,q⟩:=z
  exact⟨o,es,ep,t,k o e,q⟩
theorem aur(hc:X.calm=true):vq X (.type "set") (fun vs H Q=> ∃a xs,vs=[.ref a]/\(SqL X.K H a (xs.map V.str)\/SqT X.K H a (xs.map V.str))/\xs.length < 4000/\ ∀p H',New H p (an4 X.prog X.w p xs) H' -> Q (.ref p) H'):=by
 intro pins s σ H vs us Q I r h
 obtain⟨a,xs,rfl,hS,hl,q⟩:=h
 obtain⟨u,rfl,ru⟩:=vals1 r
 cases ru
 have hh:=I.ok.hd hc
 have fin: ∀(h':Heap) (tk:Nat),xg X.prog X.w h' s.heap.objs.size (fun y=> decide (y∈j9 xs)) (j9 xs).length -> (∀b o,b < s.heap.objs.size -> s.heap.get? b=some o -> h'.get? b=some o) ->
   EP X pins σ Q (.ref s.heap.objs.size) {s with heap:=h',toks:=tk}:=fun h' tk z k=>
  ⟨.ref s.heap.objs.size,upd H s.heap.objs.size (an4 X.prog X.w s.heap.objs.size xs),I.laid (fun b u e=> k b u (aM e) e) (aD _) (a07 z),rfl,q _ _ ⟨I.fresh,rfl⟩⟩
 rcases hS with hS|hS
 ·obtain⟨its,rv,⟨o,n,e,c,dd,d⟩,z⟩:=I.list hS
  have hsz:its.toArray.size+1 < c5:=by
   have:=rv.length
   rw [au]at this
   rw [aH]
   unfold c5
   lia
  exact amd hh (.inl rfl) e c d xs (by simpa using rv) hsz fin
 ·obtain⟨its,rv,⟨o,e,c,n,d⟩,z⟩:=I.tuple hS
  have hsz:its.toArray.size+1 < c5:=by
   have:=rv.length
   rw [au]at this
   rw [aH]
   unfold c5
   lia
  exact amd hh (.inr rfl) e c d xs (by simpa using rv) hsz fin
theorem aud:vq X (.builtin "len") (fun vs H Q=> ∃a xs,vs=[.ref a]/\H a=some (an4 X.prog X.w a xs)/\Q (.int (j9 xs).length) H):=by
 intro pins s σ H vs us Q I r h
 obtain⟨a,xs,rfl,hS,q⟩:=h
 obtain⟨u,rfl,ru⟩:=vals1 r
 cases ru
 obtain⟨hh,_,_⟩:=(show j6 X.prog X.w H s.heap a (an4 X.prog X.w a xs) from I.hok a _ hS)
 obtain⟨o,es,ep,t,e,ex,d,⟨_,_,hb,hf,hn⟩,_⟩:=hh
 refine call_len_set e ex d hf (by unfold c5 at hb;lia) ⟨.int es.size,H,I.tok _,⟨_,rfl⟩,?_⟩
 rw [hn]
 exact q
theorem Inv.drew(I:Inv X pins σ H s)(d':Drawn):Inv X pins σ H {s with drawn:=d'}:=
 ⟨I.ok,I.os,I.bare,I.base,I.loc,I.cell,I.free,I.freeC,I.pin,I.hok,I.len⟩
def Nx(n:Nat)(Pv:Addr -> Nat -> List V -> Hp -> Prop)(D:Addr)(i:Nat)(ys:List V)(H:Hp):Prop:= ∃m',m' < n - i/\m'=n - (i+1)/\i+1 <=n/\ys.length <=i+1/\Pv D (i+1) ys H
theorem nx{Pv:Addr -> Nat -> List V -> Hp -> Prop}{D:Addr}(hi:i < n)(hl:ys.length <=i+1)(p:Pv D (i+1) ys H):Nx n Pv D i ys H:=⟨n - (i+1),by lia,rfl,hi,hl,p⟩
def awe(K:aw)(mg:Str -> Option af)(x:Str)(vs:List V):Prop:= ∃a,mg x=some (.ref a)/\ ∀H,SqT K H a vs
theorem au7(hc:X.calm=true):vq X (.builtin "all") (fun vs H Q=> ∃(a:Addr) (bs:List Bool),vs=[.ref a]/\SqL X.K H a (bs.map V.bl)/\Q (.bl (bs.all id)) H):=by
 intro pins s σ H vs us Q I r h
 obtain⟨a,bs,rfl,hS,q⟩:=h
 obtain⟨u,rfl,ru⟩:=vals1 r
 cases ru
 have hh:X.A.in1.handled=none:=I.ok.hd hc
 obtain⟨its,rv,⟨o,n,e,c,dd,d⟩,z⟩:=I.list hS
 have l1:s.heap.IsList a its.toArray:=⟨o,e,c,n,d⟩
 have hl:=rv.length
 rw [au]at hl
 refine call_all_walk (dU l1 ⟨s.heap.objs.size,_,_,_,_,_,fun i=> bs.getD i true,rfl,Walks.list hh _ a (aT (aM e)) its.toArray,⟨⟨_,aQ _ rfl,rfl,rfl⟩,l1.push _⟩,?_,fun h' tk k=> ?_⟩)
 ·intro i v s Q E hv hq
  have hi:i < bs.length:=by
   have:=(cn.mp hv).1
   rw [aH]at this
   lia
  have e1:(bs.map V.bl)[i]?=some (.bl bs[i]):=by rw [a9,av hi];rfl
  obtain⟨u,hu,ru⟩:=rv.get e1
  rw [List.getElem?_toArray,hu]at hv
  obtain rfl:u=v:=cC hv
  obtain rfl:u=dD bs[i]:=ru
  have e3:bs.getD i true=bs[i]:=by rw [bK,av hi];rfl
  refine ck ?_
  rw [←e3];exact hq
 ·have ks: ∀b u,s.heap.get? b=some u -> h'.get? b=some u:=fun b u hb=> k b u (fun m=> absurd (aM hb) (by rw [aO.mp m];exact cG _)) (aq _ hb)
  have e2:(aZ its.toArray.size).all (fun i=> bs.getD i true)=bs.all id:=by
   rw [aH,←hl]
   rw [bi]
   simp only [ao,bD,id_eq]
   constructor
   ·intro h b hb
    (obtain⟨i,hi,rfl⟩:=List.getElem_of_mem hb)
    have:=h i hi
    rw [bK,av hi]at this
    exact this
   ·intro h i hi
    (rw [bK,av hi])
    exact h _ (bR hi)
  rw [e2]
  exact⟨.bl (bs.all id),H,I.un (Un.kept ks) (I.hok.kept ks),rfl,q⟩
noncomputable def inD(d:aa)(ss:List Str):Bool:=match d with
 |.str y=> decide (y∈ss)
 |_=> false
theorem Inv.turnedL{h':Heap}{t':Nat}{ch:List Addr}(I:Inv X pins σ H s)(k: ∀b o,b∉ch -> s.heap.get? b=some o -> h'.get? b=some o)(hf: ∀b∈ch,aaj X pins H b):Inv X pins σ H {s with heap:=h',toks:=t'}:=by
 have no: ∀b u,H b=some u -> b∉ch:=fun b u e m=> by rw [(hf b m).1]at e;cases e
 refine I.step (g':=s.gens) (d':=s.drawn) (ch:=ch) (fun b m=> ⟨(hf b m).2.2.2.1,(hf b m).2.1,(hf b m).2.2.2.2.1,(hf b m).2.2.2.2.2⟩) (fun b o _ _ hc e _=> k b o hc e) (fun b o _ _ hc e _=> ⟨o.slots,k b o hc e⟩) (fun _ _ _ _ n=> n)
  (fun b o hc e=> ⟨o,k b o hc e⟩) (fun _ _ e=> e) (fun _ _ _ e=> e) (fun b ps e=> ⟨#[],by rw [e];simp⟩) (fun m hm=> ?_) (fun b u e=> ?_) I.bare
 ·obtain⟨o,es,ep,ho,r⟩:=hm
  exact⟨o,es,ep,k _ o (fun z=> (hf _ z).2.1 rfl) ho,r⟩
 ·refine (I.hok b u e).stay (fun c v hc q=> k c v ?_ q) (fun _ q=> q) fun _ _ q=> q
  rcases hc with z|z
  ·rw [z];exact no b u e
  ·exact no c _ z
theorem a79:bM "zip"=some (.type "zip"):=by decide+kernel
section
open HT
variable{prog:bz}{w:bw}{A:bm}{E:af -> ak -> Prop}{s:ak}
theorem au6{t sl:Addr}{items:Array af}{vl vu:af}{lo hi:Option Int}(ht:IsTup s.heap t items)(hs:s.heap.IsSliceOf sl vl vu .none)(pl:gm vl lo)(pu:gm vu hi)(hw:sIx items.size 0 lo=0/\sIx items.size items.size hi=items.size)(h:Q (.ref t) s):wpAny (model prog w) A (getItem (.ref t) (.ref sl)) Q E s:=by
 obtain⟨os,hos,hcs,hds⟩:=id hs
 have hTs:s.TypeIs (.ref sl) "slice":=⟨os,hos,hcs⟩
 unfold getItem
 try with_reducible refine bB ?_
 first|refine ae (aj ?_)|skip
 refine ae (iD ht.typeIs (by decide) (ae (cD (name:=bQ "__getitem__") ht.typeIs bF
  (cE bF ht.typeIs g6 ?_ (ig _ _)))))
 show wpAny _ _ (dR (.ref t)>>=_) _ _ s
 refine ae (lc ht (ae (eT hTs ?_)))
 rw [if_pos (by decide)]
 refine ae (ad2 hs pl pu ?_)
 have yes:(((sIx items.size 0 lo:Nat):Int)==0&&(1:Int)==1&&(sIx items.size items.size hi - sIx items.size 0 lo)==items.size)=true:=by
  rw [hw.1,hw.2];simp
 show wpAny _ _ (if (((sIx items.size 0 lo:Nat):Int)==0&&(1:Int)==1&&(sIx items.size items.size hi - sIx items.size 0 lo)==items.size)=true then _ else _) _ _ s
 rw [if_pos yes]
 unfold Builtin.Tuple.tupleIsExact
 refine ae (ae (eT ht.typeIs (aj ?_)))
 rw [if_pos (by decide)]
 exact ae (c9 (aj ⟨_,rfl,aj h⟩))
end
def a7f(K:aw):V -> Option Int -> Option Int -> Hp -> VK -> Prop:=fun x lo hi H Q=> ∃a xs,x=.ref a/\SqT K H a xs/\(aaf xs lo hi=xs -> Q (.ref a) H)/\ ∀p H',New H p (.tup (aaf xs lo hi)) H' -> Q (.ref p) H'
theorem a1h:SlR X (a7f X.K):=by
 intro pins s σ H x v vl vu lo hi sl Q I rx hs pl pu h
 obtain⟨a,xs,rfl,hx,q1,q2⟩:=h
 by_cases c:HT.sIx xs.length 0 lo=0/\HT.sIx xs.length xs.length hi=xs.length
 ·cases rx
  obtain⟨its,r,ht,hz⟩:=I.tuple hx
  have hlen:its.toArray.size=xs.length:=by rw [aH];exact r.length.symm
  refine⟨"tuple",_,bF.lookup,ht.typeIs,?_⟩
  refine au6 ht hs pl pu (by rw [hlen];exact c) ⟨.ref a,H,I,rfl,q1 ?_⟩
  unfold aaf
  rw [c.1,c.2];simp
 ·exact ayy pins s σ H (.ref a) v vl vu lo hi sl Q I rx hs pl pu ⟨a,xs,rfl,hx,c,q2⟩
noncomputable def a57(K:aw):R2:=fun x y H Q=> ∃a b xs ys,x=.ref a/\y=.ref b/\SqT K H a xs/\SqT K H b ys/\xs.length+ys.length <=sizeLine/\(xs=[] -> Q (.ref b) H)/\(xs≠ [] -> ys=[] -> Q (.ref a) H)/\(xs≠ [] -> ys≠ [] -> ∀p H',New H p (.tup (xs++ys)) H' -> Q (.ref p) H')
theorem awh:OpR X (binaryOp .Add) (a57 X.K):=by
 intro pins s σ H x y v u Q I rx ry h
 obtain⟨a,b,xs,ys,rfl,rfl,ha,hb,hz,q0,q1,q2⟩:=h
 by_cases c:xs=[]
 ·cases rx
  cases ry
  obtain⟨its,r1,p1,_⟩:=I.tuple ha
  obtain⟨its2,r2,p2,_⟩:=I.tuple hb
  have e0:its=[]:=r1.nil_iff.mpr c
  subst e0
  obtain⟨⟨cls,dd,data,sl⟩,ho,hc,n,hd⟩:=id p1
  obtain⟨⟨cls2,dd2,data2,sl2⟩,ho2,hc2,n2,hd2⟩:=id p2
  simp only at hc hd hc2 hd2
  subst hc hd hc2 hd2
  exact lG ⟨_,ho,rfl⟩ ⟨_,ho2,rfl⟩ iU kZ gl gc (fM _ _) (tuple_addW0 a b _ _ n n2 dd dd2 sl sl2 (by simp)) ⟨ho,ho2,⟨.ref b,H,I,rfl,q0 c⟩⟩
 ·exact azg pins s σ H (.ref a) (.ref b) v u Q I rx ry ⟨a,b,xs,ys,rfl,rfl,ha,hb,c,hz,q1 c,fun d p hp=> q2 c d p _ ⟨hp,rfl⟩⟩
noncomputable def b01(b:Bool):Int:=if b=true then 1 else 0
def awj:V -> Option Int
 |.int i=> some i
 |.bl b=> some (b01 b)
 |_=> none
theorem a09:OpR X (binaryOp .Add) (fun x y H Q=> ∃i j,awj x=some i/\y=.int j/\Q (.int (i+j)) H):=by
 intro pins s σ H x y v u Q I rx ry h
 obtain⟨i,j,hx,rfl,q⟩:=h
 cases x with
 |int k=> cases hx;exact at7 pins s σ H _ _ v u Q I rx ry ⟨_,j,rfl,rfl,q⟩
 |bl b=>
  cases hx
  cases rx
  obtain⟨t',rfl⟩:=ry
  exact PySem.IntBool.add_bool_int ⟨.int (b01 b+j),H,I.tok _,⟨_,rfl⟩,q⟩
 |_=> cases hx
theorem a18:OpR X (binaryOp .Sub) (fun x y H Q=> ∃i j,awj x=some i/\y=.int j/\Q (.int (i - j)) H):=by
 intro pins s σ H x y v u Q I rx ry h
 obtain⟨i,j,hx,rfl,q⟩:=h
 cases x with
 |int k=> cases hx;exact amv pins s σ H _ _ v u Q I rx ry ⟨_,j,rfl,rfl,q⟩
 |bl b=>
  cases hx
  cases rx
  obtain⟨t',rfl⟩:=ry
  exact PySem.IntBool.sub_bool_int ⟨.int (b01 b - j),H,I.tok _,⟨_,rfl⟩,q⟩
 |_=> cases hx
theorem a0d:OpR X (binaryOp .Sub) (fun x y H Q=> ∃i j,x=.int i/\awj y=some j/\Q (.int (i - j)) H):=by
 intro pins s σ H x y v u Q I rx ry h
 obtain⟨i,j,rfl,hy,q⟩:=h
 cases y with
 |int k=> cases hy;exact amv pins s σ H _ _ v u Q I rx ry ⟨i,_,rfl,rfl,q⟩
 |bl b=>
  cases hy
  cases ry
  obtain⟨t',rfl⟩:=rx
  exact PySem.IntBool.sub_int_bool ⟨.int (i - b01 b),H,I.tok _,⟨_,rfl⟩,q⟩
 |_=> cases hy
theorem part_of{v:af}{o:Option Int}(p:gm v o): ∃q:Option (Int×Tok),v=partValue q/\q.map (·.1)=o:=by
 cases p with
 |none=> exact⟨none,rfl,rfl⟩
 |int i t=> exact⟨some (i,t),rfl,rfl⟩
section
open HT
variable{prog:bz}{w:bw}{A:bm}{E:af -> ak -> Prop}{s:ak}
theorem amz{α β:Type}{f g:α -> Option β}: ∀{l:List α},(∀m∈l,f m=g m) -> l.filterMap f=l.filterMap g
 |[],_=> rfl
 |a::r,h=> by
  rw [eB,eB,h a ax,amz fun m hm=> h m (az _ hm)]
theorem axp(xs:Array af):(aZ xs.size).filterMap (fun (m:Nat)=> xs[(((xs.size:Nat):Int) - 1+(m:Int)*(-1)).toNat]?)=xs.toList.reverse:=by
 have e: ∀m∈aZ xs.size,xs[(((xs.size:Nat):Int) - 1+(m:Int)*(-1)).toNat]?=some (xs.toList.reverse.getD m .none):=fun m hm=> by
  have hm':m < xs.size:=by simpa using hm
  have e1:(((xs.size:Nat):Int) - 1+(m:Int)*(-1)).toNat=xs.size - 1 - m:=by lia
  rw [e1,←bG,bK,List.getElem?_reverse (by simpa using hm')]
  rw [aG,av (by simp;lia)]
  rfl
 rw [amz e]
 refine dj fun j=> ?_
 have fm:(aZ xs.size).filterMap (fun m=> some (xs.toList.reverse.getD m .none))=(aZ xs.size).map (fun m=> xs.toList.reverse.getD m .none):=by
  rw [←List.filterMap_eq_map];rfl
 rw [fm,a9]
 by_cases c:j < xs.size
 ·rw [dw c,jD,bK,av (by simpa using c)];rfl
 ·rw [cz (by simpa using c),cz (by simpa using c)];rfl
theorem ayq{t sl:Addr}{items:Array af}{tk:Tok}{os:Obj}(ht:IsTup s.heap t items)(hos:s.heap.get? sl=some os)(hcs:os.cls=.type "slice")(hds:os.data=.fields #[.none,.none,.int (-1) tk])(h:Q (.ref s.heap.objs.size) {s with heap:=s.heap.push {cls:=.type "tuple",data:=.seq items.toList.reverse.toArray}})(hsz:items.size <=sizeLine):wpAny (model prog w) A (getItem (.ref t) (.ref sl)) Q E s:=by
 have hTs:s.TypeIs (.ref sl) "slice":=⟨os,hos,hcs⟩
 unfold getItem
 try with_reducible refine bB ?_
 first|refine ae (aj ?_)|skip
 refine ae (iD ht.typeIs (by decide) (ae (cD (name:=bQ "__getitem__") ht.typeIs bF
  (cE bF ht.typeIs g6 ?_ (ig _ _)))))
 show wpAny _ _ (dR (.ref t)>>=_) _ _ s
 refine ae (lc ht (ae (eT hTs ?_)))
 rw [if_pos (by decide)]
 refine ae ?_
 unfold fw iM
 refine ae (ae (b9 hos hds (x:=.none) rfl (ae (b9 hos hds (x:=.none) rfl (ae (b9 hos hds (x:=.int (-1) tk) rfl (aj ?_)))))))
 refine ae (slicePart_int ?_)
 show wpAny _ _ (if ((-1:Int)==0)=true then _ else _) _ _ s
 rw [if_neg (by decide)]
 refine ae (hU (ae (hU (ae (aj ?_)))))
 have adj:cL none none (-1) (items.size:Int)=((items.size:Int) - 1,-1):=by
  unfold cL
  simp
 have pls:b8 ((items.size:Int) - 1) (-1) (-1)=items.size:=by
  unfold b8
  simp only [show¬((-1:Int)> 0) by decide,if_false]
  split <;> (try simp) <;> lia
 show wpAny _ _ (match cL none none (-1) (items.size:Int) with|(lo,hi)=> pure (lo,(-1:Int),b8 lo hi (-1))) _ _ s
 rw [adj]
 show wpAny _ _ (pure ((items.size:Int) - 1,(-1:Int),b8 ((items.size:Int) - 1) (-1) (-1))) _ _ s
 rw [pls]
 refine aj ?_
 show wpAny _ _ (if (((items.size:Int) - 1)==0&&(-1:Int)==1&&items.size==items.size)=true then _ else _) _ _ s
 rw [if_neg (by simp),axp]
 have hk:sizeOk (.seq items.toList.reverse.toArray):=by
  show items.toList.reverse.toArray.size <=sizeLine
  simpa using hsz
 first
  |exact ae (m:=cP _) (cT (aj ⟨_,rfl,aj h⟩) hk)
  |exact ae (m:=cP _) (cT (ae (aj (aj ⟨_,rfl,aj h⟩))) hk)
end
section
variable{X:Cx}{e st:Expr}{te ts:TE}{p2 pos:Pos}
noncomputable def a85(K:aw)(te ts:TE):TE:=fun σ H Q=> te σ H fun x H1=> ts σ H1 fun y H2=> ∃a xs,x=.ref a/\y=.int (-1)/\SqT K H2 a xs/\ ∀p H',New H2 p (.tup xs.reverse) H' -> Q (.ref p) H'
theorem axi(r:jn xs us):jn xs.reverse us.reverse:=by
 induction r with
 |nil=> exact .nil
 |cons a _ ih=> rw [dm,dm];exact ih.append (.cons a .nil)
theorem a1v(he:PE X e te)(hst:PE X st ts):PE X (.Subscript e (.Slice none none (some st) p2) pos) (a85 X.K te ts):=by
 refine⟨?_⟩
 intro pins s σ H Q I h
 refine Subscript_ (thn (he pins s σ H _ I h) fun v s1 ⟨x,H1,I1,r1,q1⟩=> ?_)
 refine wpAny_Slice ?_
 rw [lg]
 (refine aj (aj ?_))
 refine thn (hst pins s1 σ H1 _ I1 q1) fun sv s2 ⟨y,H2,I2,r2,a,xs,ex,ey,hq,q⟩=> ?_
 subst ex ey
 cases r1
 obtain⟨tk,rfl⟩:=r2
 have I4:Inv X pins σ H2 {s2 with heap:=s2.heap.push {cls:=.type "slice",data:=.fields #[.none,.none,.int (-1) tk]}}:=I2.kept (t':=s2.toks) fun b ob q=> aq _ q
 obtain⟨its,rv,ht,hz⟩:=I4.tuple hq
 have hlen:its.toArray.size=xs.length:=by rw [aH];exact rv.length.symm
 show wpAny (model X.prog X.w) X.A (lh e (.Slice none none (some st) p2) (.ref a) (.ref s2.heap.objs.size)) (EP X pins σ Q) X.xe {s2 with heap:=s2.heap.push {cls:=.type "slice",data:=.fields #[.none,.none,.int (-1) tk]}}
 refine tail_any (ops:=[.ref a,.ref s2.heap.objs.size]) ht.typeIs bF.lookup ?_ (by with_unfolding_all rfl)
 refine ayq (tk:=tk) ht (aQ _ rfl) rfl rfl ?_ (by rw [hlen];exact hz)
 refine⟨.ref _,_,I4.laid (t':=s2.toks) (o:=.tup xs.reverse) (fun b ob q=> aq _ q) (aD _) ?_,rfl,q _ _ ⟨I4.hok.fresh (aD _),rfl⟩⟩
 exact⟨by rw [List.length_reverse];exact hz,_,axi rv,afb.new _ _⟩
end
end L2
namespace L2
open PySem PySem.Spec PyProof.Rows PyProof.Rows.KTD
structure TabF (K:aw) (d:Addr) (D:List (Str×Str)):Prop where
 tab: ∀h:Heap,K.In h -> TabOf (fun y v=> fQ K b7 y=some (some v)) h d D
 refs: ∀k y,datumAt k D=some y -> ∃f:Addr,fQ K b7 y=some (some (.ref f))
end L2
namespace PF
open PySem PySem.Spec
open L2
inductive D where
 |da (d:aa)|con (ds:List aa)|frz (ds:List aa)|set (ds:List aa)
 |ref (n:Nat)|fn (x:Str)|tabF (T:List (Str×Str))|ty (n:String)
abbrev D.non:D:=.da .none
abbrev D.bl(b:Bool):D:=.da (.bool b)
abbrev D.int(i:Int):D:=.da (.int i)
abbrev D.str(x:Str):D:=.da (.str x)
abbrev D.tup(ds:List aa):D:=.da (.tuple ds)
abbrev D.lst(ds:List aa):D:=.da (.list ds)
inductive O where
 |lst (ds:List D)|gone
abbrev S:=List O
inductive R (α:Type) where
 |ok (a:α) (s:S)
 |bad
noncomputable def R.bind{α β:Type}(r:R α)(f:α -> S -> R β):R β:=match r with
 |.ok a s=> f a s
 |.bad=>.bad
theorem R.bind_ok{α β:Type}(a:α)(s:S)(f:α -> S -> R β):(R.ok a s).bind f=f a s:=rfl
def R.W{α:Type}(r:R α)(Q:α -> S -> Prop):Prop:=match r with
 |.ok a s=> Q a s
 |.bad=> False
theorem R.W_ok{α:Type}(a:α)(s:S)(Q:α -> S -> Prop):(R.ok a s).W Q=Q a s:=rfl
theorem R.W_bind{α β:Type}(r:R α)(f:α -> S -> R β)(Q:β -> S -> Prop):(r.bind f).W Q=r.W fun a s=> (f a s).W Q:=by cases r <;> rfl
theorem R.W_mono{α:Type}{r:R α}{Q Q':α -> S -> Prop}(h:r.W Q)(k: ∀a s,Q a s -> Q' a s):r.W Q':=by
 cases r with
 |ok a s=> exact k a s h
 |bad=> exact h
structure As where
 ix:List (Option Addr)
 hd:List Addr
def As.has(as:As)(p:Addr):Prop:=some p∈as.ix\/p∈as.hd
abbrev As.add(as:As)(p:Addr):As:={as with ix:=as.ix++ [some p]}
abbrev As.hide(as:As)(p:Addr):As:={as with hd:=p::as.hd}
abbrev As.show(as:As)(p:Addr):As:={as with hd:=as.hd.filter fun q=> decide (q≠p)}
structure Step0 (as:As) (H:Hp) (as':As) (H':Hp):Prop where
 len:as.ix.length <=as'.ix.length
 old: ∀n:Nat,n < as.ix.length -> as'.ix[n]?=as.ix[n]?\/as'.ix[n]?=some none
 back: ∀p,as'.has p -> as.has p\/H p=none
 keep: ∀b o,¬as.has b -> H b=some o -> H' b=some o
 dom: ∀b,H b≠none -> H' b≠none
structure Step (as:As) (H:Hp) (as':As) (H':Hp):Prop extends Step0 as H as' H' where
 hk: ∀p∈as.hd,p∈as'.hd
 hh: ∀p∈as.hd,∀o,H p=some o -> H' p=some o
theorem Step.refl(as:As)(H:Hp):Step as H as H where
 len:=aD _
 old _ _:=.inl rfl
 back _ h:=.inl h
 keep _ _ _ e:=e
 dom _ e:=e
 hk _ h:=h
 hh _ _ _ e:=e
theorem abb{as:As}:some p∈as.ix ↔ ∃n:Nat,as.ix[n]?=some (some p):=by
 rw [gJ]
theorem Step0.out{as as':As}(st:Step0 as H as' H'){b:Addr}(n: ¬as.has b)(e:H b=some o): ¬as'.has b:=fun m=> by
 rcases st.back b m with q|q
 ·exact n q
 ·rw [e]at q;cases q
theorem Step0.trans{as as1 as2:As}{H1 H2:Hp}(a:Step0 as H as1 H1)(b:Step0 as1 H1 as2 H2):Step0 as H as2 H2 where
 len:=aJ a.len b.len
 old n hn:=by
  rcases b.old n (aW hn a.len) with q|q
  ·rw [q];exact a.old n hn
  ·exact .inr q
 back p h:=by
  rcases b.back p h with q|q
  ·exact a.back p q
  ·right
   cases z:H p with
   |none=> rfl
   |some o=> exact absurd q (a.dom p (by rw [z];simp))
 keep b' o n e:=b.keep b' o (a.out n e) (a.keep b' o n e)
 dom b' e:=b.dom b' (a.dom b' e)
theorem Step.trans{as as1 as2:As}{H1 H2:Hp}(a:Step as H as1 H1)(b:Step as1 H1 as2 H2):Step as H as2 H2:=⟨a.toStep0.trans b.toStep0,fun p h=> b.hk p (a.hk p h),fun p h o e=> b.hh p (a.hk p h) o (a.hh p h o e)⟩
mutual
inductive TD (as:As) (H:Hp):V -> aa -> Prop
 |non:TD as H .non .none
 |bl (b:Bool):TD as H (.bl b) (.bool b)
 |int (i:Int):TD as H (.int i) (.int i)
 |str (x:Str):TD as H (.str x) (.str x)
 |tup {p:Addr} {xs:List V} {ds:List aa}: ¬as.has p -> H p=some (.tup xs) -> TDs as H xs ds -> TD as H (.ref p) (.tuple ds)
 |lst {p:Addr} {xs:List V} {ds:List aa}: ¬as.has p -> H p=some (.lst xs) -> TDs as H xs ds -> TD as H (.ref p) (.list ds)
 |dct {p:Addr}: ¬as.has p -> H p=some (.dK []) -> TD as H (.ref p) (.dict [])
inductive TDs (as:As) (H:Hp):List V -> List aa -> Prop
 |nil:TDs as H [] []
 |cons {x:V} {xs:List V} {d:aa} {ds:List aa}:TD as H x d -> TDs as H xs ds -> TDs as H (x::xs) (d::ds)
end
inductive RD (K:aw) (as:As) (H:Hp):V -> D -> Prop
 |da {v:V} {d:aa}:TD as H v d -> RD K as H v (.da d)
 |ty (n:String):RD K as H (.ty n) (.ty n)
 |fn {f:Addr} {x:Str}:fQ K b7 x=some (some (.ref f)) -> RD K as H (.ref f) (.fn x)
 |tabF {d:Addr} {T:List (Str×Str)}:TabF K d T -> RD K as H (.ref d) (.tabF T)
 |con {p:Addr} {xs:List V} {ds:List aa}:(∀H',SqT K H' p xs) -> TDs as H xs ds -> RD K as H (.ref p) (.con ds)
 |frz {p:Addr} {xs:List V} {ds:List aa}:(∀as' H',Step0 as H as' H' -> SqL K H' p xs) -> TDs as H xs ds -> RD K as H (.ref p) (.frz ds)
 |ref {p:Addr} {n:Nat}:n < as.ix.length -> (∀q,as.ix[n]?=some (some q) -> q=p) -> RD K as H (.ref p) (.ref n)
inductive RDs (K:aw) (as:As) (H:Hp):List V -> List D -> Prop
 |nil:RDs K as H [] []
 |cons {x:V} {xs:List V} {d:D} {ds:List D}:RD K as H x d -> RDs K as H xs ds -> RDs K as H (x::xs) (d::ds)
def RO(K:aw)(as:As)(H:Hp)(p:Addr):O -> Prop
 |.lst ds=> ∃xs,H p=some (.lst xs)/\RDs K as H xs ds
 |_=> False
structure Rel (K:aw) (as:As) (H:Hp) (s:S):Prop where
 len:as.ix.length=s.length
 nd: ∀(i j:Nat) (p:Addr),as.ix[i]?=some (some p) -> as.ix[j]?=some (some p) -> i=j
 ob: ∀(n:Nat) (p:Addr) (o:O),as.ix[n]?=some (some p) -> s[n]?=some o -> RO K as H p o
 li: ∀(n:Nat) (o:O),s[n]?=some o -> o≠ .gone -> ∃p,as.ix[n]?=some (some p)
 hs: ∀p∈as.hd,∃xs,H p=some (.lst xs)
 hx: ∀p∈as.hd,some p∉as.ix
mutual
theorem TD.mono0{as as':As}{H H':Hp}(st:Step0 as H as' H'): ∀{v:V} {d:aa},TD as H v d -> TD as' H' v d
 |_,_,.non=>.non
 |_,_,.bl b=>.bl b
 |_,_,.int i=>.int i
 |_,_,.str x=>.str x
 |_,_,.tup n e r=>.tup (st.out n e) (st.keep _ _ n e) (TDs.mono0 st r)
 |_,_,.lst n e r=>.lst (st.out n e) (st.keep _ _ n e) (TDs.mono0 st r)
 |_,_,.dct n e=>.dct (st.out n e) (st.keep _ _ n e)
theorem TDs.mono0{as as':As}{H H':Hp}(st:Step0 as H as' H'): ∀{vs:List V} {ds:List aa},TDs as H vs ds -> TDs as' H' vs ds
 |_,_,.nil=>.nil
 |_,_,.cons a r=>.cons (TD.mono0 st a) (TDs.mono0 st r)
end
theorem RD.mono0{as as':As}(st:Step0 as H as' H'){d:D}(h:RD K as H v d):RD K as' H' v d:=by
 cases h with
 |da t=> exact .da (t.mono0 st)
 |ty n=> exact .ty n
 |fn a=> exact .fn a
 |tabF a=> exact .tabF a
 |con h r=> exact .con h (r.mono0 st)
 |frz h r=> exact .frz (fun as' H' s2=> h as' H' (st.trans s2)) (r.mono0 st)
 |ref l h=>
  refine .ref (aW l st.len) fun q e=> ?_
  rcases st.old _ l with z|z
  ·rw [z]at e;exact h q e
  ·rw [z]at e;cases e
theorem RDs.mono0{K:aw}{as as':As}{H H':Hp}(st:Step0 as H as' H'): ∀{vs:List V} {ds:List D},RDs K as H vs ds -> RDs K as' H' vs ds
 |_,_,.nil=>.nil
 |_,_,.cons a r=>.cons (RD.mono0 st a) (RDs.mono0 st r)
theorem TD.mono{as as':As}(st:Step as H as' H'){d:aa}(h:TD as H v d):TD as' H' v d:=h.mono0 st.toStep0
theorem TDs.mono{as as':As}(st:Step as H as' H'){v:List V}{d:List aa}(h:TDs as H v d):TDs as' H' v d:=h.mono0 st.toStep0
theorem RD.mono{as as':As}(st:Step as H as' H'){d:D}(h:RD K as H v d):RD K as' H' v d:=h.mono0 st.toStep0
theorem RDs.mono{as as':As}(st:Step as H as' H'){v:List V}{d:List D}(h:RDs K as H v d):RDs K as' H' v d:=h.mono0 st.toStep0
section
variable{K:aw}{as:As}{H:Hp}
theorem RDs.length: ∀{vs:List V} {ds:List D},RDs K as H vs ds -> vs.length=ds.length
 |_,_,.nil=> rfl
 |_,_,.cons _ r=> congrArg (· +1) (RDs.length r)
theorem RDs.append: ∀{vs ws:List V} {ds es:List D},RDs K as H vs ds -> RDs K as H ws es -> RDs K as H (vs++ws) (ds++es)
 |_,_,_,_,.nil,s=> s
 |_,_,_,_,.cons a r,s=>.cons a (RDs.append r s)
theorem RDs.get: ∀{vs:List V} {ds:List D} {i:Nat} {d:D},RDs K as H vs ds -> ds[i]?=some d -> ∃v,vs[i]?=some v/\RD K as H v d
 |_,_,_,_,.nil,e=> by simp at e
 |_,_,0,_,.cons a _,e=> by simp at e;subst e;exact⟨_,rfl,a⟩
 |_,_,i+1,d,.cons _ r,e=> by
  obtain⟨v,h1,h2⟩:=RDs.get (i:=i) (d:=d) r (by simpa using e)
  exact⟨v,by simpa using h1,h2⟩
theorem RDs.set: ∀{vs:List V} {ds:List D} (i:Nat) {v:V} {d:D},RD K as H v d -> RDs K as H vs ds -> RDs K as H (vs.set i v) (ds.set i d)
 |_,_,_,_,_,_,.nil=>.nil
 |_,_,0,_,_,r,.cons _ t=>.cons r t
 |_,_,i+1,_,_,r,.cons q t=>.cons q (RDs.set i r t)
theorem RDs.take: ∀{vs:List V} {ds:List D} (n:Nat),RDs K as H vs ds -> RDs K as H (vs.take n) (ds.take n)
 |_,_,0,_=>.nil
 |_,_,_+1,.nil=>.nil
 |_,_,n+1,.cons r t=>.cons r (RDs.take n t)
theorem RDs.drop: ∀{vs:List V} {ds:List D} (n:Nat),RDs K as H vs ds -> RDs K as H (vs.drop n) (ds.drop n)
 |_,_,0,r=> r
 |_,_,_+1,.nil=>.nil
 |_,_,n+1,.cons _ t=> RDs.drop n t
end
section
variable{as:As}{H:Hp}
theorem TDs.length: ∀{vs:List V} {ds:List aa},TDs as H vs ds -> vs.length=ds.length
 |_,_,.nil=> rfl
 |_,_,.cons _ r=> congrArg (· +1) (TDs.length r)
theorem TDs.append: ∀{vs ws:List V} {ds es:List aa},TDs as H vs ds -> TDs as H ws es -> TDs as H (vs++ws) (ds++es)
 |_,_,_,_,.nil,s=> s
 |_,_,_,_,.cons a r,s=>.cons a (TDs.append r s)
theorem TDs.get: ∀{vs:List V} {ds:List aa} {i:Nat} {d:aa},TDs as H vs ds -> ds[i]?=some d -> ∃v,vs[i]?=some v/\TD as H v d
 |_,_,_,_,.nil,e=> by simp at e
 |_,_,0,_,.cons a _,e=> by simp at e;subst e;exact⟨_,rfl,a⟩
 |_,_,i+1,d,.cons _ r,e=> by
  obtain⟨v,h1,h2⟩:=TDs.get (i:=i) (d:=d) r (by simpa using e)
  exact⟨v,by simpa using h1,h2⟩
theorem TDs.take: ∀{vs:List V} {ds:List aa} (n:Nat),TDs as H vs ds -> TDs as H (vs.take n) (ds.take n)
 |_,_,0,_=>.nil
 |_,_,_+1,.nil=>.nil
 |_,_,n+1,.cons r t=>.cons r (TDs.take n t)
theorem TDs.drop: ∀{vs:List V} {ds:List aa} (n:Nat),TDs as H vs ds -> TDs as H (vs.drop n) (ds.drop n)
 |_,_,0,r=> r
 |_,_,_+1,.nil=>.nil
 |_,_,n+1,.cons _ t=> TDs.drop n t
theorem TDs.reverse: ∀{vs:List V} {ds:List aa},TDs as H vs ds -> TDs as H vs.reverse ds.reverse
 |_,_,.nil=>.nil
 |_,_,.cons a r=> by rw [dm,dm];exact (TDs.reverse r).append (.cons a .nil)
end
theorem TDs.rd{K:aw}{as:As}{H:Hp}: ∀{vs:List V} {ds:List aa},TDs as H vs ds -> RDs K as H vs (ds.map D.da)
 |_,_,.nil=>.nil
 |_,_,.cons a r=>.cons (.da a) (TDs.rd r)
noncomputable def kg:List D -> Option (List aa)
 |[]=> some []
 |.da d::r=> match kg r with
  |some ds=> some (d::ds)
  |none=> none
 |_=> none
theorem va: ∀ds:List aa,kg (ds.map D.da)=some ds
 |[]=> rfl
 |d::r=> by rw [aN,kg,va r]
theorem zd: ∀{ds:List D} {xs:List aa},kg ds=some xs -> ds=xs.map D.da
 |[],xs,h=> by cases h;rfl
 |.da d::r,xs,h=> by
  rw [kg]at h
  cases q:kg r with
  |none=> rw [q]at h;cases h
  |some ys=> rw [q]at h;cases h;rw [zd q];rfl
 |.con _::_,_,h=> by cases h
 |.frz _::_,_,h=> by cases h
 |.set _::_,_,h=> by cases h
 |.ref _::_,_,h=> by cases h
 |.fn _::_,_,h=> by cases h
 |.tabF _::_,_,h=> by cases h
 |.ty _::_,_,h=> by cases h
theorem RDs.td{K:aw}{as:As}{H:Hp}: ∀{vs:List V} {ds:List aa},RDs K as H vs (ds.map D.da) -> TDs as H vs ds
 |_,[],h=> by cases h;exact .nil
 |_,d::r,h=> by
  cases h with
  |cons a b=> cases a with|da a=> exact .cons a (RDs.td b)
theorem aj6{b:Addr}(n:New H p o H')(e:H b≠none):H' b≠none:=by
 cases q:H b with
 |none=> exact absurd q e
 |some u=> rw [n.keep q];simp
theorem kr{as:As}(n:New H p o H'):Step as H as H' where
 len:=aD _
 old _ _:=.inl rfl
 back _ h:=.inl h
 keep _ _ _ e:=n.keep e
 dom _ e:=aj6 n e
 hk _ h:=h
 hh _ _ _ e:=n.keep e
theorem ya{α:Type}{l:List α}{x y:α}(e:(l++ [x])[i]?=some y):(i < l.length/\l[i]?=some y)\/(i=l.length/\y=x):=by
 by_cases h:i < l.length
 ·rw [bd h]at e;exact .inl ⟨h,e⟩
 ·have h2:i - l.length=0\/1 <=i - l.length:=by lia
  rw [a8 (bL h)]at e
  rcases h2 with z|z
  ·rw [z]at e
   simp at e
   exact .inr ⟨by lia,e.symm⟩
  ·rw [c8.mpr (by simpa using z)]at e
   cases e
theorem aq2{as:As}{q:Addr}(h:(as.add p).has q):as.has q\/q=p:=by
 rcases h with h|h
 ·rcases aL.mp h with z|z
  ·exact .inl (.inl z)
  ·exact .inr (by simpa using z)
 ·exact .inl (.inr h)
theorem ag6{as:As}(n:New H p o H'):Step as H (as.add p) H' where
 len:=by simp
 old i h:=.inl (bd h)
 back q h:=by
  rcases aq2 h with z|z
  ·exact .inl z
  ·subst z;exact .inr n.no
 keep _ _ _ e:=n.keep e
 dom _ e:=aj6 n e
 hk _ h:=h
 hh _ _ _ e:=n.keep e
theorem aar{as:As}(m:as.has p)(c:Chg H p o H'):Step0 as H as H' where
 len:=aD _
 old _ _:=.inl rfl
 back _ h:=.inl h
 keep b u n e:=c.keep (fun z=> n (z▸m)) e
 dom b e:=by
  by_cases z:b=p
  ·subst z;rw [c.at];simp
  ·cases q:H b with
   |none=> exact absurd q e
   |some u=> rw [c.keep z q];simp
theorem axv{as:As}(m:some p∈as.ix)(nh:p∉as.hd)(c:Chg H p o H'):Step as H as H':=⟨aar (.inl m) c,fun _ h=> h,fun q h u e=> c.keep (fun z=> nh (z▸h)) e⟩
theorem aly{as as2:As}{H1 H2:Hp}(st:Step as H as2 H1)(no:H p=none)(nh:p∉as.hd)(m:p∈as2.hd)(c:Chg H1 p o H2):Step as H as2 H2:=
 ⟨⟨st.len,st.old,st.back,fun b u n e=> c.keep (yv e no) (st.keep b u n e),fun b e=> (aar (.inr m) c).dom b (st.dom b e)⟩,st.hk,fun q h u e=> c.keep (fun z=> nh (z▸h)) (st.hh q h u e)⟩
theorem ag1{as:As}(n:New H p o H'):Step as H (as.hide p) H' where
 len:=aD _
 old _ _:=.inl rfl
 back q h:=by
  rcases h with h|h
  ·exact .inl (.inl h)
  ·rcases ay.mp h with z|z
   ·subst z;exact .inr n.no
   ·exact .inl (.inr z)
 keep _ _ _ e:=n.keep e
 dom _ e:=aj6 n e
 hk _ h:=az _ h
 hh _ _ _ e:=n.keep e
theorem an8{as:As}{q:Addr}(h:(as.show p).has q):as.has q:=by
 rcases h with h|h
 ·exact .inl h
 ·exact .inr (bC.mp h).1
theorem abv{as:As}:Step0 as H (as.show p) H where
 len:=aD _
 old _ _:=.inl rfl
 back q h:=.inl (an8 h)
 keep _ _ _ e:=e
 dom _ e:=e
theorem ade{as:As}(m:p∈as.hd):Step0 as H ((as.show p).add p) H where
 len:=by simp
 old i h:=.inl (bd h)
 back q h:=by
  rcases aq2 h with z|z
  ·exact .inl (an8 z)
  ·subst z;exact .inl (.inr m)
 keep _ _ _ e:=e
 dom _ e:=e
theorem anh{as as2:As}{H2:Hp}(st:Step as H as2 H2)(nh:p∉as.hd)(st2:Step0 as2 H2 (as2.show p) H2):Step as H (as2.show p) H2:=
 ⟨st.toStep0.trans st2,fun q h=> bC.mpr ⟨st.hk q h,by
  have:q≠p:=fun z=> nh (z▸h)
  simp [this]⟩,st.hh⟩
theorem aka{as as2:As}{H2:Hp}(st:Step as H as2 H2)(nh:p∉as.hd)(m:p∈as2.hd):Step as H ((as2.show p).add p) H2:=
 ⟨st.toStep0.trans (ade m),fun q h=> bC.mpr ⟨st.hk q h,by
  have:q≠p:=fun z=> nh (z▸h)
  simp [this]⟩,st.hh⟩
section
variable{K:aw}{as as':As}{H H':Hp}{s:S}{p:Addr}
theorem RO.mono0(st:Step0 as H as' H'){o:O}(e:H' p=H p)(h:RO K as H p o):RO K as' H' p o:=by
 cases o with
 |lst ds=>
  obtain⟨xs,e1,r⟩:=h
  exact⟨xs,e.trans e1,r.mono0 st⟩
 |_=> exact h.elim
theorem RO.some{o:O}(h:RO K as H p o):H p≠none:=by
 cases o with
 |lst ds=>
  obtain⟨xs,e1,r⟩:=h
  rw [e1];simp
 |_=> exact h.elim
theorem Rel.at(r:Rel K as H s)(e:as.ix[n]?=some (some p)):H p≠none:=by
 have hl:n < s.length:=by
  rw [←r.len]
  exact (aC.mp e).1
 exact (r.ob n p _ e (av hl)).some
theorem Rel.has(r:Rel K as H s)(h:as.has p):H p≠none:=by
 rcases h with h|h
 ·obtain⟨i,hi⟩:=abb.mp h
  exact r.at hi
 ·obtain⟨xs,e⟩:=r.hs p h
  rw [e];simp
theorem adz{q:Addr}(k: ∀o,H q=some o -> H' q=some o)(h:H q≠none):H' q=H q:=by
 cases z:H q with
 |none=> exact absurd z h
 |some x=> rw [k x z]
theorem Rel.new(r:Rel K as H s)(n:New H p o H'):Rel K as H' s where
 len:=r.len
 nd:=r.nd
 ob i q u e1 e2:=(r.ob i q u e1 e2).mono0 (kr n).toStep0 (adz (fun _=> n.keep) (r.at e1))
 li:=r.li
 hs q h:=let ⟨xs,e⟩:=r.hs q h;⟨xs,n.keep e⟩
 hx:=r.hx
theorem Rel.laid{u:O}(r:Rel K as H s)(n:New H p o H')(h:RO K (as.add p) H' p u):Rel K (as.add p) H' (s++ [u]) where
 len:=by simp [r.len]
 nd i j q e1 e2:=by
  rcases ya e1 with ⟨l1,z1⟩|⟨l1,z1⟩ <;> rcases ya e2 with ⟨l2,z2⟩|⟨l2,z2⟩
  ·exact r.nd i j q z1 z2
  ·cases z2;exact absurd n.no (r.at z1)
  ·cases z1;exact absurd n.no (r.at z2)
  ·rw [l1,l2]
 ob i q x e1 e2:=by
  rcases ya e1 with ⟨l1,z1⟩|⟨l1,z1⟩ <;> rcases ya e2 with ⟨l2,z2⟩|⟨l2,z2⟩
  ·exact (r.ob i q x z1 z2).mono0 (ag6 n).toStep0 (adz (fun _=> n.keep) (r.at z1))
  ·rw [l2,←r.len]at l1;exact absurd l1 (cG _)
  ·rw [l1,r.len]at l2;exact absurd l2 (cG _)
  ·cases z1;subst z2;exact h
 li i x e g:=by
  rcases ya e with ⟨l1,z1⟩|⟨l1,z1⟩
  ·obtain⟨q,hq⟩:=r.li i x z1 g
   exact⟨q,by rw [bd (by rw [r.len];exact l1)];exact hq⟩
  ·exact⟨p,by rw [l1,←r.len];simp⟩
 hs q h:=let ⟨xs,e⟩:=r.hs q h;⟨xs,n.keep e⟩
 hx q h m:=by
  rcases aL.mp m with z|z
  ·exact r.hx q h z
  ·have:q=p:=by simpa using z
   subst this
   obtain⟨xs,e⟩:=r.hs q h
   rw [n.no]at e;cases e
theorem Rel.chg{u:O}(r:Rel K as H s)(e:as.ix[n]?=some (some p))(c:Chg H p o H')(h:RO K as H' p u):Rel K as H' (s.set n u) where
 len:=by simp [r.len]
 nd:=r.nd
 ob i q x e1 e2:=by
  by_cases z:n=i
  ·subst z
   rw [e]at e1;cases e1
   have hl:n < s.length:=by rw [←r.len];exact (aC.mp e).1
   rw [bI hl]at e2
   cases e2;exact h
  ·rw [bq z]at e2
   have ne:q≠p:=fun w=> z (r.nd n i p e (w▸e1))
   exact (r.ob i q x e1 e2).mono0 (aar (.inl (abb.mpr ⟨n,e⟩)) c) (adz (fun _=> c.keep ne) (r.at e1))
 li i x e2 g:=by
  by_cases z:n=i
  ·subst z;exact⟨p,e⟩
  ·rw [bq z]at e2
   exact r.li i x e2 g
 hs q h:=let ⟨xs,e'⟩:=r.hs q h;⟨xs,c.keep (fun z=> r.hx q h (abb.mpr ⟨n,z▸e⟩)) e'⟩
 hx:=r.hx
theorem Rel.chgH(r:Rel K as H s)(m:p∈as.hd)(c:Chg H p (.lst ys) H'):Rel K as H' s where
 len:=r.len
 nd:=r.nd
 ob i q x e1 e2:=by
  have ne:q≠p:=fun w=> r.hx p m (abb.mpr ⟨i,w▸e1⟩)
  exact (r.ob i q x e1 e2).mono0 (aar (.inr m) c) (adz (fun _=> c.keep ne) (r.at e1))
 li:=r.li
 hs q h:=by
  by_cases z:q=p
  ·subst z;exact⟨ys,c.at⟩
  ·obtain⟨xs,e⟩:=r.hs q h
   exact⟨xs,c.keep z e⟩
 hx:=r.hx
theorem Rel.hide(r:Rel K as H s)(n:New H p (.lst ys) H'):Rel K (as.hide p) H' s where
 len:=r.len
 nd:=r.nd
 ob i q u e1 e2:=(r.ob i q u e1 e2).mono0 (ag1 n).toStep0 (adz (fun _=> n.keep) (r.at e1))
 li:=r.li
 hs q h:=by
  rcases ay.mp h with z|z
  ·subst z;exact⟨ys,n.at⟩
  ·obtain⟨xs,e⟩:=r.hs q z
   exact⟨xs,n.keep e⟩
 hx q h m:=by
  rcases ay.mp h with z|z
  ·subst z
   obtain⟨i,hi⟩:=abb.mp m
   exact r.at hi n.no
  ·exact r.hx q z m
theorem Rel.show(r:Rel K as H s):Rel K (as.show p) H s where
 len:=r.len
 nd:=r.nd
 ob i q u e1 e2:=(r.ob i q u e1 e2).mono0 abv rfl
 li:=r.li
 hs q h:=r.hs q (bC.mp h).1
 hx q h:=r.hx q (bC.mp h).1
theorem Rel.take{u:O}(r:Rel K as H s)(m:p∈as.hd)(h:RO K ((as.show p).add p) H p u):Rel K ((as.show p).add p) H (s++ [u]) where
 len:=by simp [r.len]
 nd i j q e1 e2:=by
  rcases ya e1 with ⟨l1,z1⟩|⟨l1,z1⟩ <;> rcases ya e2 with ⟨l2,z2⟩|⟨l2,z2⟩
  ·exact r.nd i j q z1 z2
  ·cases z2;exact absurd (abb.mpr ⟨i,z1⟩) (r.hx p m)
  ·cases z1;exact absurd (abb.mpr ⟨j,z2⟩) (r.hx p m)
  ·rw [l1,l2]
 ob i q x e1 e2:=by
  rcases ya e1 with ⟨l1,z1⟩|⟨l1,z1⟩ <;> rcases ya e2 with ⟨l2,z2⟩|⟨l2,z2⟩
  ·exact (r.ob i q x z1 z2).mono0 (ade m) rfl
  ·rw [l2,←r.len]at l1;exact absurd l1 (cG _)
  ·rw [l1]at l2
   have:as.ix.length < s.length:=l2
   rw [r.len]at this;exact absurd this (cG _)
  ·cases z1;subst z2;exact h
 li i x e g:=by
  rcases ya e with ⟨l1,z1⟩|⟨l1,z1⟩
  ·obtain⟨q,hq⟩:=r.li i x z1 g
   exact⟨q,by rw [bd (by rw [r.len];exact l1)];exact hq⟩
  ·exact⟨p,by rw [l1,←r.len];simp⟩
 hs q h:=r.hs q (bC.mp h).1
 hx q h m2:=by
  obtain⟨h1,h2⟩:=bC.mp h
  rcases aL.mp m2 with z|z
  ·exact r.hx q h1 z
  ·have:q=p:=by simpa using z
   exact absurd this (of_decide_eq_true h2)
end
abbrev En:=List (Option D)
structure Envs (K:aw) (as:As) (H:Hp) (ρ:En) (σ:St):Prop where
 len:ρ.length=σ.length
 get: ∀(i:Nat) (d:D),ρ[i]?=some (some d) -> ∃v,σ[i]?=some (some v)/\RD K as H v d
theorem Envs.mono{as as':As}{ρ:En}(e:Envs K as H ρ σ)(st:Step as H as' H'):Envs K as' H' ρ σ:=⟨e.len,fun i d h=> let ⟨v,a,b⟩:=e.get i d h;⟨v,a,b.mono st⟩⟩
theorem Envs.set{as:As}{ρ:En}(e:Envs K as H ρ σ)(i:Nat){d:D}(r:RD K as H v d):Envs K as H (ρ.set i (some d)) (σ.set i (some v)):=by
 refine⟨by simp [e.len],fun j x h=> ?_⟩
 by_cases z:i=j
 ·subst z
  rw [List.getElem?_set]at h⊢
  by_cases hl:i < ρ.length
  ·simp [hl]at h
   subst h
   exact⟨v,by simp [←e.len,hl],r⟩
  ·simp [hl]at h
 ·rw [bq z]at h⊢
  exact e.get j x h
def Dn{α β:Type}(K:aw)(rel:As -> Hp -> β -> α -> Prop)(as:As)(H:Hp)(r:R α)(Q:β -> Hp -> Prop):Prop:=match r with
 |.ok a s=> ∀b as' H',Step as H as' H' -> Rel K as' H' s -> rel as' H' b a -> Q b H'
 |.bad=> False
theorem Dn.step{α β:Type}{rel:As -> Hp -> β -> α -> Prop}{as as1:As}{H1:Hp}{r:R α}{Q:β -> Hp -> Prop}(h:Dn K rel as H r Q)(st:Step as H as1 H1):Dn K rel as1 H1 r Q:=by
 cases r with
 |ok a s=> exact fun b as' H' s2 rl rb=> h b as' H' (st.trans s2) rl rb
 |bad=> exact h
theorem Dn.bind{α β γ δ:Type}{r1:As -> Hp -> β -> α -> Prop}{r2:As -> Hp -> δ -> γ -> Prop}{as:As}{r:R α}{f:α -> S -> R γ}{Q:δ -> Hp -> Prop}{Q':β -> Hp -> Prop}(h:Dn K r2 as H (r.bind f) Q)(k: ∀a s as1 H1 b,Step as H as1 H1 -> Rel K as1 H1 s -> r1 as1 H1 b a -> Dn K r2 as1 H1 (f a s) Q -> Q' b H1):Dn K r1 as H r Q':=by
 cases r with
 |ok a s=> exact fun b as' H' st rl rb=> k a s as' H' b st rl rb (Dn.step (r:=f a s) h st)
 |bad=> exact h
theorem Dn.now{α β:Type}{rel:As -> Hp -> β -> α -> Prop}{as:As}{a:α}{s:S}{Q:β -> Hp -> Prop}{b:β}(h:Dn K rel as H (.ok a s) Q)(rl:Rel K as H s)(rb:rel as H b a):Q b H:=h b as H (Step.refl _ _) rl rb
abbrev rD(K:aw):As -> Hp -> V -> D -> Prop:=fun as H v d=> RD K as H v d
abbrev rB:As -> Hp -> Bool -> Bool -> Prop:=fun _ _ b a=> b=a
abbrev rL(K:aw):As -> Hp -> List V -> List D -> Prop:=fun as H v d=> RDs K as H v d
inductive Fl where
 |nx (ρ:En)|rt (d:D)|bk (ρ:En)|ct (ρ:En)
inductive FV where
 |nx (σ:St)|rt (v:V)|bk (σ:St)|ct (σ:St)
inductive rF (K:aw) (as:As) (H:Hp):FV -> Fl -> Prop
 |nx {σ:St} {ρ:En}:Envs K as H ρ σ -> rF K as H (.nx σ) (.nx ρ)
 |rt {v:V} {d:D}:RD K as H v d -> rF K as H (.rt v) (.rt d)
 |bk {σ:St} {ρ:En}:Envs K as H ρ σ -> rF K as H (.bk σ) (.bk ρ)
 |ct {σ:St} {ρ:En}:Envs K as H ρ σ -> rF K as H (.ct σ) (.ct ρ)
def abk(D:Ends)(f:FV)(H:Hp):Prop:=match f with
 |.nx σ=> D.nx σ H
 |.rt v=> D.rt v H
 |.bk σ=> D.bk σ H
 |.ct σ=> D.ct σ H
abbrev FE:=En -> S -> R D
abbrev FT:=En -> S -> R Bool
abbrev FA:=En -> S -> R (List D)
abbrev FS:=En -> S -> R Fl
def ab9(K:aw)(t:TE)(f:FE):Prop:= ∀as σ H ρ s Q,Rel K as H s -> Envs K as H ρ σ -> Dn K (rD K) as H (f ρ s) Q -> t σ H Q
def acx(K:aw)(t:TT)(f:FT):Prop:= ∀as σ H ρ s Q,Rel K as H s -> Envs K as H ρ σ -> Dn K rB as H (f ρ s) Q -> t σ H Q
def a3q(K:aw)(t:TA)(f:FA):Prop:= ∀as σ H ρ s Q,Rel K as H s -> Envs K as H ρ σ -> Dn K (rL K) as H (f ρ s) Q -> t σ H Q
def amy(K:aw)(t:TS)(f:FS):Prop:= ∀as σ H ρ s D,Rel K as H s -> Envs K as H ρ σ -> Dn K (rF K) as H (f ρ s) (abk D) -> t D σ H
structure RE (X:Cx) (e:Expr) (f:FE):Prop where
 ex: ∃t,PE X e t/\ab9 X.K t f
structure RT (X:Cx) (e:Expr) (f:FT):Prop where
 ex: ∃t,PT X e t/\acx X.K t f
structure RW (X:Cx) (e:Expr) (f:FT):Prop where
 ex: ∃t,PW X e t/\acx X.K t f
structure RA (X:Cx) (es:List Expr) (f:FA):Prop where
 ex: ∃t,PA X es t/\a3q X.K t f
structure RS (X:Cx) (st:Stmt) (f:FS):Prop where
 ex: ∃t,PS X st t/\amy X.K t f
structure RSs (X:Cx) (st:List Stmt) (f:FS):Prop where
 ex: ∃t,PSs X st t/\amy X.K t f
section
variable{X:Cx}{a b:Expr}{fa fb:FE}{pos:Pos}
noncomputable def jb(i:Nat):FE:=fun ρ s=> match ρ[i]? with
 |some (some d)=>.ok d s
 |_=>.bad
noncomputable def fC(d:D):FE:=fun _ s=>.ok d s
theorem a0u(i:Nat):ab9 K (a3x i) (jb i):=by
 intro as σ H ρ s Q rl en h
 unfold jb at h
 cases q:ρ[i]? with
 |none=> rw [q]at h;exact h.elim
 | some o=>
  cases o with
  |none=> rw [q]at h;exact h.elim
  |some d=>
   rw [q]at h
   obtain⟨v,e,r⟩:=en.get i d q
   exact⟨v,e,Dn.now h rl r⟩
theorem bah(i:Nat)(hN:X.N[i]?=some x:=by rfl)(hv:Vis X.env.scope x:=by first|exact gP rfl|exact gQ (gP rfl)|exact gQ (gQ rfl))(hd:(x==("__debug__":Str))=false:=by decide)(hcd:(x==("__classdict__":Str))=false:=by decide):RE X (.Name x pos) (jb i):=⟨_,a4m hN hv hd hcd,a0u i⟩
theorem agl{d:D}(r: ∀as H,RD K as H v d):ab9 K (tC v) (fC d):=fun as σ H ρ s Q rl en h=> Dn.now (K:=K) (rel:=rD K) h rl (r as H)
theorem bam{i j pos}:RE X (.Constant (.int i) j pos) (fC (.int i)):=⟨_,auj,agl fun _ _=>.da (.int i)⟩
theorem bag{x j pos}:RE X (.Constant (.str x) j pos) (fC (.str x)):=⟨_,auk,agl fun _ _=>.da (.str x)⟩
theorem bcz{b j pos}:RE X (.Constant (.bool b) j pos) (fC (.bl b)):=⟨_,ayb,agl fun _ _=>.da (.bl b)⟩
theorem bbt{j pos}:RE X (.Constant .none j pos) (fC .non):=⟨_,aue,agl fun _ _=>.da .non⟩
theorem ajj{u:af}{d:D}(r: ∀as H,RD X.K as H v d)(hm:X.mg x=some u)(rv:RelV v u)(hg:Gl X x:=by rfl)(hd:(x==("__debug__":Str))=false:=by decide):RE X (.Name x pos) (fC d):=⟨_,azm hg hm rv hd,agl r⟩
theorem agi{n:String}(hm:X.mg x=none)(hv:bM x=some (.type n))(hg:Gl X x:=by rfl)(hn:x≠"__name__":=by decide)(hd:(x==("__debug__":Str))=false:=by decide):RE X (.Name x pos) (fC (.ty n)):=
 ⟨_,a0g (v:=.ty n) hg hm hv rfl hn hd,agl fun _ _=>.ty n⟩
def fOp(g:D -> D -> S -> R D)(fa fb:FE):FE:=fun ρ s=> (fa ρ s).bind fun x s1=> (fb ρ s1).bind fun y s2=> g x y s2
def alp(K:aw)(r:R2)(g:D -> D -> S -> R D):Prop:= ∀as H s x y dx dy Q,Rel K as H s -> RD K as H x dx -> RD K as H y dy -> Dn K (rD K) as H (g dx dy s) Q -> r x y H Q
theorem aif{r:R2}{g:D -> D -> S -> R D}(hr:alp K r g)(ha:ab9 K ta fa)(hb:ab9 K tb fb):ab9 K (tOp r ta tb) (fOp g fa fb):=by
 intro as σ H ρ s Q rl en h
 refine ha as σ H ρ s _ rl en (Dn.bind h fun d1 s1 as1 H1 x st1 rl1 r1 h1=> ?_)
 refine hb as1 σ H1 ρ s1 _ rl1 (en.mono st1) (Dn.bind h1 fun d2 s2 as2 H2 y st2 rl2 r2 h2=> ?_)
 exact hr as2 H2 s2 x y d1 d2 Q rl2 (r1.mono st2) r2 h2
structure Op2 (X:Cx) (f:af -> af -> Sem af) (g:D -> D -> S -> R D):Prop where
 ex: ∃r,OpR X f r/\alp X.K r g
theorem bd0{op:Operator}{g:D -> D -> S -> R D}(o:Op2 X (binaryOp op) g)(ha:RE X a fa)(hb:RE X b fb):RE X (.BinOp a op b pos) (fOp g fa fb):=by
 obtain⟨r,ho,hr⟩:=o.ex
 obtain⟨ta,pa,ra⟩:=ha.ex
 obtain⟨tb,pb,rb⟩:=hb.ex
 exact⟨_,a67 ho pa pb,aif hr ra rb⟩
theorem bbq{g:D -> D -> S -> R D}(o:Op2 X (aY op) g)(ha:RE X a fa)(hb:RE X b fb)(hm:fq op b=false:=by first|exact ast _|with_unfolding_all rfl):RE X (.Compare a [op] [b] pos) (fOp g fa fb):=by
 obtain⟨r,ho,hr⟩:=o.ex
 obtain⟨ta,pa,ra⟩:=ha.ex
 obtain⟨tb,pb,rb⟩:=hb.ex
 exact⟨_,a0a ho pa pb hm,aif hr ra rb⟩
def ji(f:FE):FT:=fun ρ s=> (f ρ s).bind fun d s1=> match d with
 |.bl k=>.ok k s1
 |_=>.bad
theorem anz{t:TE}{f:FE}(h:ab9 K t f):acx K (aqp t) (ji f):=by
 intro as σ H ρ s Q rl en q
 refine h as σ H ρ s _ rl en (Dn.bind q fun d1 s1 as1 H1 x st1 rl1 r1 h1=> ?_)
 cases r1 with
 |da t=>
  cases t with
  |bl k=> exact⟨k,rfl,Dn.now h1 rl1 rfl⟩
  |_=> exact h1.elim
 |_=> exact h1.elim
theorem bar{g:D -> D -> S -> R D}(o:Op2 X (aY op) g)(ha:RE X a fa)(hb:RE X b fb)(hm:fq op b=false:=by first|exact ast _|with_unfolding_all rfl):RT X (.Compare a [op] [b] pos) (ji (fOp g fa fb)):=by
 obtain⟨r,ho,hr⟩:=o.ex
 obtain⟨ta,pa,ra⟩:=ha.ex
 obtain⟨tb,pb,rb⟩:=hb.ex
 exact⟨_,a0v ho pa pb hm,anz (aif hr ra rb)⟩
def abz(g g':D -> D -> S -> R D)(fa fb fc:FE):FE:=fun ρ s=> (fa ρ s).bind fun x s1=> (fb ρ s1).bind fun y s2=> (g x y s2).bind fun z s3=> match z with
 |.bl true=> (fc ρ s3).bind fun w s4=> g' y w s4
 |.bl false=>.ok (.bl false) s3
 |_=>.bad
theorem akj{r r':R2}{g g':D -> D -> S -> R D}{tc:TE}{fc:FE}(hr:alp K r g)(hr':alp K r' g')(ha:ab9 K ta fa)(hb:ab9 K tb fb)(hc:ab9 K tc fc):ab9 K (amt r r' ta tb tc) (abz g g' fa fb fc):=by
 intro as σ H ρ s Q rl en h
 refine ha as σ H ρ s _ rl en (Dn.bind h fun d1 s1 as1 H1 x st1 rl1 r1 h1=> ?_)
 refine hb as1 σ H1 ρ s1 _ rl1 (en.mono st1) (Dn.bind h1 fun d2 s2 as2 H2 y st2 rl2 r2 h2=> ?_)
 refine hr as2 H2 s2 x y d1 d2 _ rl2 (r1.mono st2) r2 (Dn.bind h2 fun d3 s3 as3 H3 z st3 rl3 r3 h3=> ?_)
 cases r3 with
 | da t=>
  cases t with
  | bl k=>
   cases k with
   |false=> exact⟨false,rfl,Dn.now h3 rl3 (.da (.bl false))⟩
   |true=>
    refine⟨true,rfl,?_⟩
    rw [if_pos rfl]
    refine hc as3 σ H3 ρ s3 _ rl3 (((en.mono st1).mono st2).mono st3) (Dn.bind h3 fun d4 s4 as4 H4 w st4 rl4 r4 h4=> ?_)
    exact hr' as4 H4 s4 y w d2 d4 Q rl4 ((r2.mono st3).mono st4) r4 h4
  |_=> exact h3.elim
 |_=> exact h3.elim
theorem a89{op':CmpOp}{g g':D -> D -> S -> R D}{fc:FE}(o:Op2 X (aY op) g)(o':Op2 X (aY op') g')(ha:RE X a fa)(hb:RE X b fb)(hc:RE X c fc)(hm:lF [op,op'] [b,c]=false:=by with_unfolding_all rfl):RE X (.Compare a [op,op'] [b,c] pos) (abz g g' fa fb fc):=by
 obtain⟨r,ho,hr⟩:=o.ex
 obtain⟨r',ho',hr'⟩:=o'.ex
 obtain⟨ta,pa,ra⟩:=ha.ex
 obtain⟨tb,pb,rb⟩:=hb.ex
 obtain⟨tc,pc,rc⟩:=hc.ex
 exact⟨_,avs ho ho' pa pb pc hm,akj hr hr' ra rb rc⟩
theorem a83{op':CmpOp}{g g':D -> D -> S -> R D}{fc:FE}(o:Op2 X (aY op) g)(o':Op2 X (aY op') g')(ha:RE X a fa)(hb:RE X b fb)(hc:RE X c fc)(hm:lF [op,op'] [b,c]=false:=by with_unfolding_all rfl):RT X (.Compare a [op,op'] [b,c] pos) (ji (abz g g' fa fb fc)):=by
 obtain⟨r,ho,hr⟩:=o.ex
 obtain⟨r',ho',hr'⟩:=o'.ex
 obtain⟨ta,pa,ra⟩:=ha.ex
 obtain⟨tb,pb,rb⟩:=hb.ex
 obtain⟨tc,pc,rc⟩:=hc.ex
 exact⟨_,awb ho ho' pa pb pc hm,anz (akj hr hr' ra rb rc)⟩
def adc(f g:FT):FT:=fun ρ s=> (f ρ s).bind fun c s1=> if c=true then g ρ s1 else .ok false s1
def kf(f g:FT):FT:=fun ρ s=> (f ρ s).bind fun c s1=> if c=true then .ok true s1 else g ρ s1
def jq(f:FT):FT:=fun ρ s=> (f ρ s).bind fun c s1=>.ok (!c) s1
theorem az8{t u:TT}{f g:FT}(h1:acx K t f)(h2:acx K u g):acx K (a21 t u) (adc f g):=by
 intro as σ H ρ s Q rl en h
 refine h1 as σ H ρ s _ rl en (Dn.bind h fun c s1 as1 H1 b st1 rl1 r1 q1=> ?_)
 have e1:b=c:=r1
 subst e1
 cases b with
 |true=> rw [if_pos rfl]at q1⊢;exact h2 as1 σ H1 ρ s1 Q rl1 (en.mono st1) q1
 |false=> rw [if_neg aF]at q1⊢;exact Dn.now q1 rl1 rfl
theorem a2b{t u:TT}{f g:FT}(h1:acx K t f)(h2:acx K u g):acx K (tOr t u) (kf f g):=by
 intro as σ H ρ s Q rl en h
 refine h1 as σ H ρ s _ rl en (Dn.bind h fun c s1 as1 H1 b st1 rl1 r1 q1=> ?_)
 have e1:b=c:=r1
 subst e1
 cases b with
 |false=> rw [if_neg aF]at q1⊢;exact h2 as1 σ H1 ρ s1 Q rl1 (en.mono st1) q1
 |true=> rw [if_pos rfl]at q1⊢;exact Dn.now q1 rl1 rfl
theorem a12{t:TT}{f:FT}(h1:acx K t f):acx K (a3a t) (jq f):=by
 intro as σ H ρ s Q rl en h
 refine h1 as σ H ρ s _ rl en (Dn.bind h fun c s1 as1 H1 b st1 rl1 r1 q1=> ?_)
 have e1:b=c:=r1
 subst e1
 exact Dn.now q1 rl1 rfl
theorem RW.rt{f:FT}(h:RW X e f):RT X e f:=let ⟨t,p,r⟩:=h.ex;⟨t,p.pt,r⟩
theorem a9c{f:FT}(h:RT X a f):RW X (.BoolOp .And [a] pos) f:=let ⟨t,p,r⟩:=h.ex;⟨t,a0l p,r⟩
theorem bbp{f:FT}(h:RT X a f):RW X (.BoolOp .Or [a] pos) f:=let ⟨t,p,r⟩:=h.ex;⟨t,a4c p,r⟩
theorem bav{f g:FT}{ju:List Expr}(h:RT X a f)(k:RW X (.BoolOp .And (b::ju) pos) g):RW X (.BoolOp .And (a::b::ju) pos) (adc f g):=let ⟨t,p,r⟩:=h.ex;let ⟨t',p',r'⟩:=k.ex;⟨_,a48 p p',az8 r r'⟩
theorem bc5{f g:FT}{ju:List Expr}(h:RT X a f)(k:RW X (.BoolOp .Or (b::ju) pos) g):RW X (.BoolOp .Or (a::b::ju) pos) (kf f g):=let ⟨t,p,r⟩:=h.ex;let ⟨t',p',r'⟩:=k.ex;⟨_,a5k p p',a2b r r'⟩
theorem bc4{f:FT}(h:RT X a f):RT X (.UnaryOp .Not a pos) (jq f):=let ⟨t,p,r⟩:=h.ex;⟨_,a3h p,a12 r⟩
def yt(fa fb:FE):FE:=fun ρ s=> (fa ρ s).bind fun d s1=> match d with
 |.bl true=> fb ρ s1
 |.bl false=>.ok (.bl false) s1
 |_=>.bad
def fOr(fa fb:FE):FE:=fun ρ s=> (fa ρ s).bind fun d s1=> match d with
 |.bl false=> fb ρ s1
 |.bl true=>.ok (.bl true) s1
 |_=>.bad
def axn(fa:FE):FE:=fun ρ s=> (fa ρ s).bind fun d s1=> match d with
 |.bl k=>.ok (.bl (!k)) s1
 |_=>.bad
theorem bbm{op}(h:RE X a fa):RE X (.BoolOp op [a] pos) fa:=let ⟨t,p,r⟩:=h.ex;⟨_,a2x p,r⟩
theorem bbe{ju:List Expr}(h:RE X a fa)(k:RE X (.BoolOp .And (b::ju) pos) fb):RE X (.BoolOp .And (a::b::ju) pos) (yt fa fb):=by
 obtain⟨ta,pa,ra⟩:=h.ex
 obtain⟨tb,pb,rb⟩:=k.ex
 refine⟨_,a4i pa pb,fun as σ H ρ s Q rl en h=> ?_⟩
 refine ra as σ H ρ s _ rl en (Dn.bind h fun d1 s1 as1 H1 x st1 rl1 r1 h1=> ?_)
 cases r1 with
 | da t=>
  cases t with
  |bl k=>
   refine⟨k,rfl,?_⟩
   cases k with
   |false=> rw [if_neg aF];exact Dn.now h1 rl1 (.da (.bl false))
   |true=> rw [if_pos rfl];exact rb as1 σ H1 ρ s1 Q rl1 (en.mono st1) h1
  |_=> exact h1.elim
 |_=> exact h1.elim
theorem bc6{ju:List Expr}(h:RE X a fa)(k:RE X (.BoolOp .Or (b::ju) pos) fb):RE X (.BoolOp .Or (a::b::ju) pos) (fOr fa fb):=by
 obtain⟨ta,pa,ra⟩:=h.ex
 obtain⟨tb,pb,rb⟩:=k.ex
 refine⟨_,a70 pa pb,fun as σ H ρ s Q rl en h=> ?_⟩
 refine ra as σ H ρ s _ rl en (Dn.bind h fun d1 s1 as1 H1 x st1 rl1 r1 h1=> ?_)
 cases r1 with
 | da t=>
  cases t with
  |bl k=>
   refine⟨k,rfl,?_⟩
   cases k with
   |true=> rw [if_pos rfl];exact Dn.now h1 rl1 (.da (.bl true))
   |false=> rw [if_neg aF];exact rb as1 σ H1 ρ s1 Q rl1 (en.mono st1) h1
  |_=> exact h1.elim
 |_=> exact h1.elim
theorem bbn(h:RE X a fa):RE X (.UnaryOp .Not a pos) (axn fa):=by
 obtain⟨ta,pa,ra⟩:=h.ex
 refine⟨_,a2z pa,fun as σ H ρ s Q rl en h=> ?_⟩
 refine ra as σ H ρ s _ rl en (Dn.bind h fun d1 s1 as1 H1 x st1 rl1 r1 h1=> ?_)
 cases r1 with
 |da t=>
  cases t with
  |bl k=> exact⟨k,rfl,Dn.now h1 rl1 (.da (.bl (!k)))⟩
  |_=> exact h1.elim
 |_=> exact h1.elim
def fIf(c:FT)(fa fb:FE):FE:=fun ρ s=> (c ρ s).bind fun k s1=> if k=true then fa ρ s1 else fb ρ s1
theorem bc8{fc:FT}(hc:RT X c fc)(ha:RE X a fa)(hb:RE X b fb):RE X (.IfExp c a b pos) (fIf fc fa fb):=by
 obtain⟨tc,pc,rc⟩:=hc.ex
 obtain⟨ta,pa,ra⟩:=ha.ex
 obtain⟨tb,pb,rb⟩:=hb.ex
 refine⟨_,aw0 pc pa pb,fun as σ H ρ s Q rl en h=> ?_⟩
 refine rc as σ H ρ s _ rl en (Dn.bind h fun d1 s1 as1 H1 x st1 rl1 r1 h1=> ?_)
 have e1:x=d1:=r1
 subst e1
 cases x with
 |true=> rw [if_pos rfl]at h1⊢;exact ra as1 σ H1 ρ s1 Q rl1 (en.mono st1) h1
 |false=> rw [if_neg aF]at h1⊢;exact rb as1 σ H1 ρ s1 Q rl1 (en.mono st1) h1
noncomputable def jc:FA:=fun _ s=>.ok [] s
def ja(f:FE)(g:FA):FA:=fun ρ s=> (f ρ s).bind fun x s1=> (g ρ s1).bind fun xs s2=>.ok (x::xs) s2
noncomputable def fVs(ds:List D):FA:=fun _ s=>.ok ds s
theorem bb7:RA X [] jc:=⟨_,an7,fun as σ H ρ s Q rl en h=> Dn.now h rl .nil⟩
theorem a9s{f:FE}{g:FA}(h:RE X e f)(k:RA X es g)(hs:starEach (e::es) X.env=(false,eval e X.env)::starEach es X.env:=by rfl):RA X (e::es) (ja f g):=by
 obtain⟨t,p,r⟩:=h.ex
 obtain⟨t',p',r'⟩:=k.ex
 refine⟨_,aix p p' hs,fun as σ H ρ s Q rl en h=> ?_⟩
 refine r as σ H ρ s _ rl en (Dn.bind h fun d1 s1 as1 H1 x st1 rl1 r1 h1=> ?_)
 refine r' as1 σ H1 ρ s1 _ rl1 (en.mono st1) (Dn.bind h1 fun d2 s2 as2 H2 xs st2 rl2 r2 h2=> ?_)
 exact Dn.now h2 rl2 (.cons (r1.mono st2) r2)
noncomputable def as7:Const -> Option aa
 |.str x=> some (.str x)
 |.int i=> some (.int i)
 |.bool b=> some (.bool b)
 |.none=> some .none
 |_=> none
def agb:List Expr -> Option (List aa)
 |[]=> some []
 | .Constant c _ _::r=> match as7 c with
  |some v=> match agb r with
   |some vs=> some (v::vs)
   |none=> none
  |none=> none
 |_=> none
noncomputable def pV:aa -> V
 |.none=>.non
 |.bool b=>.bl b
 |.int i=>.int i
 |.str x=>.str x
 |_=>.non
theorem a40{c:Const}{d:aa}(h:as7 c=some d):an0 c=some (pV d)/\ ∀as H,TD as H (pV d) d:=by
 cases c <;> simp [as7]at h <;> subst h
 all_goals first
  |exact⟨rfl,fun _ _=>.str _⟩
  |exact⟨rfl,fun _ _=>.int _⟩
  |exact⟨rfl,fun _ _=>.bl _⟩
  |exact⟨rfl,fun _ _=>.non⟩
theorem aom: ∀{es:List Expr} {ds:List aa},agb es=some ds -> ael es=some (ds.map pV)/\ ∀as H,TDs as H (ds.map pV) ds
 |[],ds,h=> by cases h;exact⟨rfl,fun _ _=>.nil⟩
 | e ::es,ds,h=> by
  cases e with
  | Constant c j pos=>
   simp only [agb]at h
   cases h1:as7 c with
   |none=> (rw [h1]at h;cases h)
   | some v=>
    rw [h1]at h
    cases h2:agb es with
    |none=> rw [h2]at h;cases h
    |some ws=>
     rw [h2]at h
     cases h
     obtain⟨a1,a2⟩:=a40 h1
     obtain⟨b1,b2⟩:=aom h2
     exact⟨by simp only [ael,a1,b1,aN],fun as H=>.cons (a2 as H) (b2 as H)⟩
  |_=> simp [agb]at h
theorem aug{ds:List aa}(h:agb es=some ds):RA X es (fVs (ds.map D.da)):=by
 obtain⟨a,b⟩:=aom h
 exact⟨_,ajw a,fun as σ H ρ s Q rl en h=> Dn.now h rl (b as H).rd⟩
def qy(m:Bool)(ds:List D)(s:S):R D:=if m=true then .ok (.ref s.length) (s++ [.lst ds]) else match kg ds with
 |some xs=>.ok (.lst xs) s
 |none=>.bad
def aht(ds:List D)(s:S):R D:=match kg ds with
 |some xs=>.ok (.tup xs) s
 |none=>.bad
theorem acp{as:As}{s:S}{m:Bool}{ds:List D}{Q:VK}(h:Dn K (rD K) as H (qy m ds s) Q)(rl:Rel K as H s)(r:RDs K as H xs ds)(n:New H p (.lst xs) H'):Q (.ref p) H':=by
 unfold qy at h
 cases m with
 |true=>
  rw [if_pos rfl]at h
  refine h (.ref p) (as.add p) H' (ag6 n) (rl.laid n ⟨xs,n.at,r.mono (ag6 n)⟩) (.ref (by simp [rl.len]) fun q e=> ?_)
  rw [←rl.len]at e
  simp at e
  exact e.symm
 | false=>
  rw [if_neg aF]at h
  cases q:kg ds with
  |none=> rw [q]at h;exact h.elim
  |some ys=>
   rw [q]at h
   have e:=zd q
   subst e
   exact h (.ref p) as H' (kr n) (rl.new n) (.da (.lst (fun z=> rl.has z n.no) n.at (r.td.mono (kr n))))
theorem ap1{as:As}{s:S}{ds:List D}{Q:VK}(h:Dn K (rD K) as H (aht ds s) Q)(rl:Rel K as H s)(r:RDs K as H xs ds)(n:New H p (.tup xs) H'):Q (.ref p) H':=by
 unfold aht at h
 cases q:kg ds with
 |none=> rw [q]at h;exact h.elim
 |some ys=>
  rw [q]at h
  have e:=zd q
  subst e
  exact h (.ref p) as H' (kr n) (rl.new n) (.da (.tup (fun z=> rl.has z n.no) n.at (r.td.mono (kr n))))
def kv(m:Bool)(f:FA):FE:=fun ρ s=> (f ρ s).bind fun ds s1=> if ds.length <=sizeLine then qy m ds s1 else .bad
def j2(f:FA):FE:=fun ρ s=> (f ρ s).bind fun ds s1=> if ds.length <=sizeLine then aht ds s1 else .bad
theorem baz{f:FA}(m:Bool)(h:RA X es f):RE X (.List es pos) (kv m f):=by
 obtain⟨t,p,r⟩:=h.ex
 refine⟨_,a1b p,fun as σ H ρ s Q rl en h=> ?_⟩
 refine r as σ H ρ s _ rl en (Dn.bind h fun ds s1 as1 H1 xs st1 rl1 r1 h1=> ?_)
 split at h1
 ·rename_i hz
  exact⟨by rw [r1.length];exact hz,fun p H' n=> acp h1 rl1 r1 n⟩
 ·exact h1.elim
theorem bbr{f:FA}{x1:Nat}(h:RA X es f):RE X (.Tuple es x1 pos) (j2 f):=by
 obtain⟨t,p,r⟩:=h.ex
 refine⟨_,a0j p,fun as σ H ρ s Q rl en h=> ?_⟩
 refine r as σ H ρ s _ rl en (Dn.bind h fun ds s1 as1 H1 xs st1 rl1 r1 h1=> ?_)
 split at h1
 ·rename_i hz
  exact⟨by rw [r1.length];exact hz,fun p H' n=> ap1 h1 rl1 r1 n⟩
 ·exact h1.elim
end
end PF
namespace L2
open PySem PySem.Spec PyProof.Rows
theorem akv{it t:Addr}{items:Array af}(hne:t≠it): ∀(n i:Nat) (s:ak) (Q:List af -> ak -> Prop),s.heap.IsListIter it t i -> s.heap.IsList t items -> i+n <=items.size ->
  (∀h',h'.IsListIter it t (i+n) -> de it s.heap h' -> Q ((items.toList.drop i).take n) {s with heap:=h'}) -> wpAny (model prog w) A (draw (.ref it) n) Q E s
 |0,i,s,Q,hit,_,_,hQ=> by --
  show wpAny _ _ (pure []) Q E s --
  (exact aj (by simpa using hQ s.heap hit (iH ..)))
 | n+1,i,s,Q,hit,ht,hle,hQ=> by --
  have hlt:i < items.size:=by lia
  show wpAny _ _ (pyNext (.ref it)>>=_) Q E s --
  refine ae (jI hit ht (x:=items[i]) (by simp [hlt]) fun h₁ hit₁ hs₁=> ?_)
  have ht₁:h₁.IsList t items:=by
   obtain⟨o,ho,c⟩:=ht
   exact⟨o,hs₁.extBut t o hne ho,c⟩
  refine ae (bB (akv hne n (i+1) _ _ hit₁ ht₁ (by lia) fun h₂ hit₂ hs₂=> aj ?_))
  (have hd:items.toList.drop i=items[i]::items.toList.drop (i+1):=by simp [cw,hlt])
  have:=hQ h₂ (by rw [show i+(n+1)=i+1+n by lia];exact hit₂) (hs₁.trans hs₂)
  (rw [hd,List.take_succ_cons]at this)
  exact this
theorem ah9{t:Addr}{items:Array af}{Q:List af -> ak -> Prop}(hh:A.handled=none)(ht:s.heap.IsList t items)
  (hQ: ∀h',ib s.heap.objs.size s.heap h' -> Q items.toList {s with heap:=h'}):wpAny (model prog w) A (unpackItems (.ref t) items.size none) Q E s:=by
 (have hlt:t≠s.heap.objs.size:=by obtain⟨o,ho,_⟩:=ht;exact aT (aM ho))
 have up: ∀h':Heap,ib s.heap.objs.size s.heap h' -> h'.IsList t items:=fun h' x=> by
  obtain⟨o,ho,c⟩:=ht
  exact⟨o,x t o hlt ho,c⟩
 unfold unpackItems
 refine ae ?_
 unfold notIterableAtAll
 refine ae (dL ht.typeIs slot_list_iter.lookup ?_)
 refine aj ?_
 (simp only [bn,if_false])
 refine ae (bB (dU ht ?_))
 refine ae (bB (akv hlt items.size 0 _ _ ⟨_,aQ _ rfl,rfl,rfl⟩ (up _ fun b o hb e=> aq _ e) (by lia) fun h₁ hit₁ hs₁=> ?_))
 have hall:List.take items.size (List.drop 0 items.toList)=items.toList:=by --
  (rw [kB];exact eO (by simp))
 rw [hall]
 rw [if_neg (by simp)]
 have x₁:ib s.heap.objs.size s.heap h₁:=fun b o hb e=> hs₁.extBut b o hb (aq _ e)
 refine ae (bB (jU hh (by simpa using hit₁) (up _ x₁) (by simp) fun h₂ he₂=> ?_))
 (simp only [Option.isSome_none,bn,if_false])
 refine aj (hQ h₂ fun b o hb e=> he₂ b o hb (x₁ b o hb e))
theorem agr{elts:List Expr}{x1}{t:Addr}{items:Array af}{Q:Unit -> ak -> Prop}(hh:A.handled=none)(ht:s.heap.IsList t items)(hn:(b6 elts env).length=items.size)(hstar:(b6 elts env).findIdx? (·.1)=none) --
  (h: ∀h',ib s.heap.objs.size s.heap h' -> wpAny (model prog w) A (assignInOrder ((b6 elts env).map (·.2)) items.toList) Q E {s with heap:=h'}):
  wpAny (model prog w) A (assign (.Tuple elts x1 pos) env (.ref t)) Q E s:=by --
 rw [assign_Tuple]
 refine ae (du ?_)
 unfold unpack
 rw [hn,hstar]
 exact ae (bB (ah9 hh ht h))
noncomputable def ale(K:aw)(n:Nat)(t:TGs):TG:=fun v σ H Q=> ∃a xs,v=.ref a/\(SqT K H a xs\/SqL K H a xs)/\xs.length=n/\t xs σ H Q
theorem ap0{t:TGs}(hc:X.calm=true)(h:PGs X es t)(hn:(b6 es X.env).length=n:=by rfl)(hst:(b6 es X.env).findIdx? (·.1)=none:=by rfl):PG X (.Tuple es k pos) (ale X.K n t):=by
 intro pins s σ H v u Q I r hw
 obtain⟨a,xs,e1,hq,hl,hw⟩:=hw
 rcases hq with hq|hq
 ·exact a1q hc h hn hst pins s σ H v u Q I r ⟨a,xs,e1,hq,hl,hw⟩
 ·subst e1
  cases r
  obtain⟨its,rv,⟨o,m,ho,hcl,_,hd⟩,hz⟩:=I.list hq
  refine agr (I.ok.hd hc) ⟨o,ho,hcl,m,hd⟩ (by simp [hn,←hl,rv.length]) hst fun h' hx=> ?_
  have I1:Inv X pins σ H {s with heap:=h'}:=I.kept (t':=s.toks) fun b o e=> hx b o (aT (aM e)) e
  exact h pins _ σ H xs _ Q I1 (by simpa using rv) hw
end L2
namespace PF
open PySem PySem.Spec
open L2
noncomputable def tOf(K:aw)(f:FE):TE:=fun σ H Q=> ∃as ρ s,Rel K as H s/\Envs K as H ρ σ/\Dn K (rD K) as H (f ρ s) Q
noncomputable def acs(K:aw)(f:FT):TT:=fun σ H Q=> ∃as ρ s,Rel K as H s/\Envs K as H ρ σ/\Dn K rB as H (f ρ s) Q
theorem RE.pe{f:FE}(h:RE X e f):PE X e (tOf X.K f):=by
 obtain⟨t,p,r⟩:=h.ex
 exact p.weak fun σ H Q ⟨as,ρ,s,a,b,c⟩=> r as σ H ρ s Q a b c
theorem RT.pt{f:FT}(h:RT X e f):PT X e (acs X.K f):=by
 obtain⟨t,p,r⟩:=h.ex
 exact⟨fun pins s σ H Q I ⟨as,ρ,s',a,b,c⟩=> p pins s σ H Q I (r as σ H ρ s' Q a b c)⟩
inductive Tg where
 |nm (i:Nat)|t2 (a b:Tg)|t3 (a b c:Tg)|tn (is:List Nat)
def gNs:List Nat -> TGs
 |[]=> ar9
 |i::r=> af5 (al9 i) (gNs r)
def gOf(K:aw):Tg -> TG
 |.nm i=> al9 i
 |.t2 a b=> ale K 2 (af5 (gOf K a) (af5 (gOf K b) ar9))
 |.t3 a b c=> ale K 3 (af5 (gOf K a) (af5 (gOf K b) (af5 (gOf K c) ar9)))
 |.tn is=> ale K is.length (gNs is)
noncomputable def ar8:D -> Option (List D)
 |.tup ds=> some (ds.map D.da)
 |.lst ds=> some (ds.map D.da)
 |.con ds=> some (ds.map D.da)
 |_=> none
noncomputable def arv:List Nat -> List D -> En -> Option En
 |[],[],ρ=> some ρ
 |i::r,d::ds,ρ=> arv r ds (ρ.set i (some d))
 |_,_,_=> none
def qu:Tg -> D -> En -> Option En
 |.nm i,d,ρ=> some (ρ.set i (some d))
 | .t2 a b,d,ρ=> match ar8 d with
  |some [x,y]=> match qu a x ρ with
   |some ρ1=> qu b y ρ1
   |none=> none
  |_=> none
 | .t3 a b c,d,ρ=> match ar8 d with
  | some [x,y,z]=> match qu a x ρ with
   |some ρ1=> match qu b y ρ1 with
    |some ρ2=> qu c z ρ2
    |none=> none
   |none=> none
  |_=> none
 |.tn is,d,ρ=> match ar8 d with
  |some xs=> arv is xs ρ
  |none=> none
noncomputable def y9(k:Nat):Tg -> Bool
 |.nm i=> decide (i < k)
 |.t2 a b=> y9 k a&&y9 k b
 |.t3 a b c=> y9 k a&&y9 k b&&y9 k c
 |.tn is=> is.all fun i=> decide (i < k)
def Fra(k:Nat)(σ σ':St):Prop:= ∀vs cap:St,vs.length=k -> σ=vs++cap -> ∃vs':St,vs'.length=k/\σ'=vs'++cap
theorem Fra.refl(k:Nat)(σ:St):Fra k σ σ:=fun vs cap h e=> ⟨vs,h,e⟩
theorem Fra.trans{a b c:St}(h1:Fra k a b)(h2:Fra k b c):Fra k a c:=fun vs cap h e=> by
 obtain⟨v1,l1,e1⟩:=h1 vs cap h e
 exact h2 v1 cap l1 e1
theorem aiw{as:As}{d:D}{ds:List D}(r:RD K as H v d)(h:ar8 d=some ds): ∃p xs,v=.ref p/\(SqT K H p xs\/SqL K H p xs)/\RDs K as H xs ds:=by
 cases r with
 |da t=>
  cases t with
  |tup n e r=> cases h;exact⟨_,_,rfl,.inl (SqT.of e),r.rd⟩
  |lst n e r=> cases h;exact⟨_,_,rfl,.inr (SqL.of e),r.rd⟩
  |_=> cases h
 |con q r=> cases h;exact⟨_,_,rfl,.inl (q H),r.rd⟩
 |_=> cases h
theorem at3{K:aw}{as:As}{H:Hp}{ρ':En}{Q:St -> Hp -> Prop}: ∀(is:List Nat) {xs:List V} {ds:List D} {σ:St} {ρ:En},Envs K as H ρ σ -> RDs K as H xs ds -> arv is ds ρ=some ρ' ->
  (∀σ',Envs K as H ρ' σ' -> (∀k,(is.all fun i=> decide (i < k))=true -> Fra k σ σ') -> Q σ' H) -> xs.length=is.length/\gNs is xs σ H Q
 |[],_,_,σ,ρ,en,rs,e,h=> by
  cases rs with
  |nil=> cases e;exact⟨rfl,rfl,h σ en fun k _=> Fra.refl k σ⟩
  |cons _ _=> cases e
 | i::r,_,_,σ,ρ,en,rs,e,h=> by
  cases rs with
  |nil=> cases e
  | @cons v _ d _ r1 rs=>
   obtain⟨hl,hg⟩:=at3 r (en.set i r1) rs e (Q:=Q) fun σ' en' f=> h σ' en' fun k hk=> by
    rw [cb,am]at hk
    refine Fra.trans (fun vs cap hl z=> ?_) (f k hk.2)
    have hi:i < k:=of_decide_eq_true hk.1
    subst z
    exact⟨vs.set i (some v),by simpa using hl,by rw [kN _ _ (by lia)]⟩
   exact⟨by rw [aP,aP,hl],_,_,rfl,hg⟩
theorem aa4{K:aw}: ∀(tg:Tg) {as:As} {σ:St} {H:Hp} {ρ ρ':En} {v:V} {d:D} {Q:St -> Hp -> Prop},Envs K as H ρ σ -> RD K as H v d -> qu tg d ρ=some ρ' ->
  (∀σ',Envs K as H ρ' σ' -> (∀k,y9 k tg=true -> Fra k σ σ') -> Q σ' H) -> gOf K tg v σ H Q
 |.nm i,as,σ,H,ρ,ρ',v,d,Q,en,r,e,h=> by
  cases e
  refine h (σ.set i (some v)) (en.set i r) fun k hk vs cap hl z=> ?_
  have hi:i < k:=of_decide_eq_true hk
  subst z
  exact⟨vs.set i (some v),by simpa using hl,by rw [kN _ _ (by lia)]⟩
 | .t2 a b,as,σ,H,ρ,ρ',v,d,Q,en,r,e,h=> by
  unfold qu at e
  split at e
  ·rename_i x y q
   obtain⟨p,xs,rfl,sq,rs⟩:=aiw r q
   cases rs with
   |cons r1 rs=>
   cases rs with
   |cons r2 rs=>
   cases rs
   split at e
   ·rename_i ρ1 q1
    refine⟨p,_,rfl,sq,rfl,_,_,rfl,aa4 a en r1 q1 fun σ1 en1 f1=> ⟨_,_,rfl,aa4 b en1 r2 e fun σ2 en2 f2=> ⟨rfl,h σ2 en2 fun k hk=> ?_⟩⟩⟩
    simp only [y9,am]at hk
    exact (f1 k hk.1).trans (f2 k hk.2)
   ·cases e
  ·cases e
 | .t3 a b c,as,σ,H,ρ,ρ',v,d,Q,en,r,e,h=> by
  unfold qu at e
  split at e
  ·rename_i x y z q
   obtain⟨p,xs,rfl,sq,rs⟩:=aiw r q
   cases rs with
   |cons r1 rs=>
   cases rs with
   |cons r2 rs=>
   cases rs with
   |cons r3 rs=>
   cases rs
   split at e
   ·rename_i ρ1 q1
    split at e
    ·rename_i ρ2 q2
     refine⟨p,_,rfl,sq,rfl,_,_,rfl,aa4 a en r1 q1 fun σ1 en1 f1=> ⟨_,_,rfl,aa4 b en1 r2 q2 fun σ2 en2 f2=> ⟨_,_,rfl,aa4 c en2 r3 e fun σ3 en3 f3=> ⟨rfl,h σ3 en3 fun k hk=> ?_⟩⟩⟩⟩
     simp only [y9,am]at hk
     exact ((f1 k hk.1.1).trans (f2 k hk.1.2)).trans (f3 k hk.2)
    ·cases e
   ·cases e
  ·cases e
 | .tn is,as,σ,H,ρ,ρ',v,d,Q,en,r,e,h=> by
  unfold qu at e
  split at e
  ·rename_i ys q
   obtain⟨p,xs,rfl,sq,rs⟩:=aiw r q
   obtain⟨hl,hg⟩:=at3 is en rs e (Q:=Q) h
   exact⟨p,xs,rfl,sq,hl,hg⟩
  ·cases e
abbrev Wk:=List D×Option Nat
abbrev FI:=En -> S -> R Wk
def ky(p:Wk)(s:S):Prop:=match p.2 with
 |none=> True
 |some n=> s[n]?=some (.lst p.1)
open Classical in
noncomputable def chk{α:Type}(p:Wk)(s:S)(k:R α):R α:=if ky p s then k else .bad
theorem yo{α:Type}{ds:List D}{s:S}{k:R α}:chk (ds,none) s k=k:=if_pos trivial
theorem vg{α:Type}{p:Wk}{s:S}{k:R α}(h:ky p s):chk p s k=k:=if_pos h
theorem Dn.chk{α β:Type}{rel:As -> Hp -> β -> α -> Prop}{as:As}{p:Wk}{s:S}{r:R α}{Q:β -> Hp -> Prop}(h:Dn K rel as H (chk p s r) Q):ky p s/\Dn K rel as H r Q:=by
 by_cases c:ky p s
 ·rw [vg c]at h;exact⟨c,h⟩
 ·have e:PF.chk p s r=.bad:=if_neg c
  rw [e]at h;exact h.elim
def aer(K:aw)(as:As)(H:Hp)(J:It)(p:Wk):Prop:= ∀as2 H2 s2,Step0 as H as2 H2 -> Rel K as2 H2 s2 -> ky p s2 -> ∀i:Nat,
 (p.1.length <=i -> J.stop i H2)/\ ∀d,p.1[i]?=some d -> J.go i H2/\ ∀x H3,J.yld i H2 x H3 -> Step as2 H2 as2 H3/\Rel K as2 H3 s2/\RD K as2 H3 x d
def avq(K:aw)(wi:TI)(f:FI):Prop:= ∀as σ H ρ s Q,Rel K as H s -> Envs K as H ρ σ -> Dn K (aer K) as H (f ρ s) Q -> wi σ H Q
structure RI (X:Cx) (tg iter:Expr) (f:FI):Prop where
 ex: ∃t,PI X tg iter t/\avq X.K t f
structure RG (X:Cx) (tg:Expr) (g:Tg):Prop where
 pg:PG X tg (gOf X.K g)
section
variable{X:Cx}{a b:Expr}{fa fb:FE}{pos:Pos}
theorem a1g(hN:X.N.Nodup)(hi:X.N[i]?=some x)(hx:Loc X.env.scope x)(hf:X.fn x=true\/X.env.scope.names.lookup x=some .local:=by first|exact .inl rfl|exact .inr rfl|assumption):RG X (.Name x pos) (.nm i):=⟨ayp hN hi hx hf⟩
theorem a7c{e1 e2:Expr}{g1 g2:Tg}(hc:X.calm=true)(h1:RG X e1 g1)(h2:RG X e2 g2)(hn:(b6 [e1,e2] X.env).length=2:=by rfl)(hst:(b6 [e1,e2] X.env).findIdx? (·.1)=none:=by rfl)(s1:(b6 [e1,e2] X.env).map (·.2)=assign e1 X.env::(b6 [e2] X.env).map (·.2):=by rfl)(s2:(b6 [e2] X.env).map (·.2)=assign e2 X.env::(b6 [] X.env).map (·.2):=by rfl):RG X (.Tuple [e1,e2] k pos) (.t2 g1 g2):=
 ⟨ap0 hc (ahb h1.pg (ahb h2.pg a0f s2) s1) hn hst⟩
theorem a5t{is:List Nat}(hc:X.calm=true)(h:PGs X es (gNs is))(hn:(b6 es X.env).length=is.length:=by rfl)(hst:(b6 es X.env).findIdx? (·.1)=none:=by rfl):RG X (.Tuple es k pos) (.tn is):=⟨ap0 hc h hn hst⟩
def jj(f:FE):FS:=fun ρ s=> (f ρ s).bind fun d s1=>.ok (.rt d) s1
def xk(f:FE):FS:=fun ρ s=> (f ρ s).bind fun _ s1=>.ok (.nx ρ) s1
noncomputable def jl:FS:=fun ρ s=>.ok (.nx ρ) s
def j5(i:Nat)(f:FE):FS:=fun ρ s=> (f ρ s).bind fun d s1=>.ok (.nx (ρ.set i (some d))) s1
def acy(g:Tg)(f:FE):FS:=fun ρ s=> (f ρ s).bind fun d s1=> match qu g d ρ with
 |some ρ1=>.ok (.nx ρ1) s1
 |none=>.bad
def jp(c:FT)(f g:FS):FS:=fun ρ s=> (c ρ s).bind fun k s1=> if k=true then f ρ s1 else g ρ s1
def je(f g:FS):FS:=fun ρ s=> (f ρ s).bind fun fl s1=> match fl with
 |.nx ρ1=> g ρ1 s1
 |fl=>.ok fl s1
theorem bap(h:RE X a fa):RS X (.Return (some a) pos) (jj fa):=by
 obtain⟨t,p,r⟩:=h.ex
 refine⟨_,a2t p,fun as σ H ρ s D rl en h=> ?_⟩
 exact r as σ H ρ s _ rl en (Dn.bind h fun d s1 as1 H1 v st1 rl1 r1 h1=> Dn.now (b:=FV.rt v) h1 rl1 (.rt r1))
theorem a96(h:RE X a fa)(hs:fJ a none pos.line X.env=pure false:=by rfl):RS X (.Expr a pos) (xk fa):=by
 obtain⟨t,p,r⟩:=h.ex
 refine⟨_,az4 p hs,fun as σ H ρ s D rl en h=> ?_⟩
 exact r as σ H ρ s _ rl en (Dn.bind h fun d s1 as1 H1 v st1 rl1 r1 h1=> Dn.now (b:=FV.nx σ) h1 rl1 (.nx (en.mono st1)))
theorem a20{pos':Pos}(hN:X.N.Nodup)(hi:X.N[i]?=some x)(hx:Loc X.env.scope x)(h:RE X a fa)(hs:fJ a (some (.Name x pos')) pos.line X.env=pure false:=by rfl)(hf:X.fn x=true\/X.env.scope.names.lookup x=some .local:=by first|exact .inl rfl|exact .inr rfl|assumption):RS X (.Assign [.Name x pos'] a pos) (j5 i fa):=by
 obtain⟨t,p,r⟩:=h.ex
 refine⟨_,a33 hN hi hx p hs hf,fun as σ H ρ s D rl en h=> ?_⟩
 exact r as σ H ρ s _ rl en (Dn.bind h fun d s1 as1 H1 v st1 rl1 r1 h1=> Dn.now (b:=FV.nx (σ.set i (some v))) h1 rl1 (.nx ((en.mono st1).set i r1)))
theorem bac{g:Tg}(h:RE X a fa)(hg:RG X tg g)(hs:kX [tg] a pos.line X.env=pure false:=by rfl)(hw:kY [tg] a X.env=pure none:=by rfl)(h1:(b6 [tg] X.env).map (·.2)=[assign tg X.env]:=by rfl):RS X (.Assign [tg] a pos) (acy g fa):=by
 obtain⟨t,p,r⟩:=h.ex
 refine⟨_,av3 p hg.pg hs hw h1,fun as σ H ρ s D rl en h=> ?_⟩
 refine r as σ H ρ s _ rl en (Dn.bind h fun d s1 as1 H1 v st1 rl1 r1 h1=> ?_)
 split at h1
 ·rename_i ρ1 q
  exact aa4 g (en.mono st1) r1 q fun σ' en' _=> Dn.now (b:=FV.nx σ') h1 rl1 (.nx en')
 ·exact h1.elim
theorem bco{st su:List Stmt}{fc:FT}{f g:FS}(hc:RT X c fc)(h1:RSs X st f)(h2:RSs X su g):RS X (.If c st su pos) (jp fc f g):=by
 obtain⟨tc,pc,rc⟩:=hc.ex
 obtain⟨t,p,r⟩:=h1.ex
 obtain⟨t',p',r'⟩:=h2.ex
 refine⟨_,a6s pc p p',fun as σ H ρ s D rl en h=> ?_⟩
 refine rc as σ H ρ s _ rl en (Dn.bind h fun k s1 as1 H1 x st1 rl1 r1 h1=> ?_)
 have e1:x=k:=r1
 subst e1
 cases x with
 |true=> rw [if_pos rfl]at h1⊢;exact r as1 σ H1 ρ s1 D rl1 (en.mono st1) h1
 |false=> rw [if_neg aF]at h1⊢;exact r' as1 σ H1 ρ s1 D rl1 (en.mono st1) h1
theorem a9m:RSs X [] jl:=⟨_,ayx,fun as σ H ρ s D rl en h=> Dn.now (b:=FV.nx σ) h rl (.nx en)⟩
theorem ba6{f:FS}(h:RS X st f):RSs X [st] f:=let ⟨t,p,r⟩:=h.ex;⟨_,azc p,r⟩
theorem a0z{t u:TS}{f g:FS}(h1:amy K t f)(h2:amy K u g):amy K (a3y t u) (je f g):=by
 intro as σ H ρ s D rl en h
 refine h1 as σ H ρ s _ rl en (Dn.bind h fun fl s1 as1 H1 fv st1 rl1 r1 h1=> ?_)
 cases r1 with
 |nx e=> exact h2 as1 _ H1 _ s1 D rl1 e h1
 |rt e=> exact (show abk D (.rt _) H1 from Dn.now (K:=K) (rel:=rF K) (Q:=abk D) (b:=FV.rt _) h1 rl1 (rF.rt e))
 |bk e=> exact (show abk D (.bk _) H1 from Dn.now (K:=K) (rel:=rF K) (Q:=abk D) (b:=FV.bk _) h1 rl1 (rF.bk e))
 |ct e=> exact (show abk D (.ct _) H1 from Dn.now (K:=K) (rel:=rF K) (Q:=abk D) (b:=FV.ct _) h1 rl1 (rF.ct e))
theorem a8v{ju:List Stmt}{f g:FS}(h:RS X st f)(k:RSs X ju g):RSs X (st::ju) (je f g):=by
 obtain⟨t,p,r⟩:=h.ex
 obtain⟨t',p',r'⟩:=k.ex
 exact⟨_,ava p p',a0z r r'⟩
def qf(g:Tg)(fb:FS)(p:Wk):List D -> En -> S -> R Fl
 |[],ρ,s=>.ok (.nx ρ) s
 | d::r,ρ,s=> match qu g d ρ with
  |none=>.bad
  |some ρ1=> (fb ρ1 s).bind fun fl s2=> match fl with
   |.nx ρ2=> chk p s2 (qf g fb p r ρ2 s2)
   |.ct ρ2=> chk p s2 (qf g fb p r ρ2 s2)
   |.bk ρ2=>.ok (.nx ρ2) s2
   |.rt d=>.ok (.rt d) s2
def ab0(fi:FI)(g:Tg)(fb:FS):FS:=fun ρ s=> (fi ρ s).bind fun p s1=> chk p s1 (qf g fb p p.1 ρ s1)
theorem a4s{fi:FI}{g:Tg}{fb:FS}(hc:X.calm=true)(hi:RI X tg iter fi)(hg:RG X tg g)(hb:RSs X body fb)(hp:PassesOwn (model X.prog X.w) X.A X.env X.xe:=by exact PassesOwn.never)(hs: ∀x,bU iter X.env x=pure x:=by intro _;rfl):RS X (.For tg iter body [] pos) (ab0 fi g fb):=by
 obtain⟨wi,pi,ri⟩:=hi.ex
 obtain⟨tb,pb,rb⟩:=hb.ex
 refine⟨_,a1u hp hc pi hg.pg pb hs,fun as σ H ρ s D rl en h=> ?_⟩
 refine ri as σ H ρ s _ rl en (Dn.bind h fun p s1 as1 H1 J st1 rl1 r1 h1=> ?_)
 obtain⟨so,h1⟩:=Dn.chk h1
 refine⟨fun i m σ' H'=> ∃as2 ρ2 s2,m=p.1.length - i/\i <=p.1.length/\Step as1 H1 as2 H'/\Rel X.K as2 H' s2/\Envs X.K as2 H' ρ2 σ'/\ky p s2/\Dn X.K (rF X.K) as2 H' (qf g fb p (p.1.drop i) ρ2 s2) (abk D),
  ⟨_,as1,ρ,s1,rfl,bX _,Step.refl _ _,rl1,en.mono st1,so,h1⟩,?_⟩
 rintro i m σ' H' ⟨as2,ρ2,s2,hm,hi,st2,rl2,en2,so2,h2⟩
 have tn:=r1 as2 H' s2 st2.toStep0 rl2 so2 i
 by_cases hl:i < p.1.length
 ·obtain⟨d,hd⟩: ∃d,p.1[i]?=some d:=⟨_,av hl⟩
  have hdr:p.1.drop i=d::p.1.drop (i+1):=by
   rw [cw hl]
   rw [av hl]at hd
   cases hd;rfl
  rw [hdr]at h2
  obtain⟨go,yl⟩:=tn.2 d hd
  unfold qf at h2
  split at h2
  ·exact h2.elim
  ·rename_i ρ3 q3
   refine .inr ⟨go,fun σ4 H4=> ∃as4 ρ4 s4,Step as1 H1 as4 H4/\Rel X.K as4 H4 s4/\Envs X.K as4 H4 ρ4 σ4/\ky p s4/\Dn X.K (rF X.K) as4 H4 (qf g fb p (p.1.drop (i+1)) ρ4 s4) (abk D),?_,fun x H3 hy=> ?_⟩
   ·rintro σ4 H4 ⟨as4,ρ4,s4,a1,a2,a3,a4,a5⟩
    exact⟨p.1.length - (i+1),by lia,as4,ρ4,s4,rfl,hl,a1,a2,a3,a4,a5⟩
   ·obtain⟨st3,rl3,rx⟩:=yl x H3 hy
    refine aa4 g (en2.mono st3) rx q3 fun σ3 en3 _=> ?_
    refine rb as2 σ3 H3 ρ3 s2 _ rl3 en3 (Dn.bind (Dn.step h2 st3) fun fl s5 as5 H5 fv st5 rl5 r5 h5=> ?_)
    cases r5 with
    |nx e=>
     obtain⟨so5,h5⟩:=Dn.chk h5
     exact⟨as5,_,s5,(st2.trans st3).trans st5,rl5,e,so5,h5⟩
    |ct e=>
     obtain⟨so5,h5⟩:=Dn.chk h5
     exact⟨as5,_,s5,(st2.trans st3).trans st5,rl5,e,so5,h5⟩
    |rt e=> exact (show abk D (.rt _) H5 from Dn.now (K:=X.K) (rel:=rF X.K) (Q:=abk D) (b:=FV.rt _) h5 rl5 (rF.rt e))
    |bk e=> exact (show abk D (.nx _) H5 from Dn.now (K:=X.K) (rel:=rF X.K) (Q:=abk D) (b:=FV.nx _) h5 rl5 (rF.nx e))
 ·refine .inl ⟨tn.1 (bL hl),?_⟩
  rw [cv (bL hl)]at h2
  exact Dn.now (b:=FV.nx σ') h2 rl2 (.nx en2)
end
end PF
variable{l:eX}{K:aw}{as:PF.As}{H:L2.Hp}{p d a:lC}{xs ds ys kt sp ts ties sts Z:List lC}{w:lR}{s s':PF.S}{n i k c B j:Nat}{v:L2.V}{x y name:gE}{vs:List L2.V}{e tg iter elt tg2 iter2:iK}{f fe fa fo:PF.FE}{ρ ρ0 r:PF.En}{σ:L2.St}{g:PF.Tg}{ft:PF.FT}{m b T:Int}{wi:L2.TI}{N ss ps:List gE}{fb:PF.FS}{st:PySem.Stmt}{sh:eR}{A:lD}{us:List dC}{op:PySem.CmpOp}{pos:PySem.Pos}{t:PySem.SetTable}{o:lE}{es ifs ifs2:List iK}{fi:PF.FI}{x0 x1 x2 x3 x4 x5 x6 x7 ρ2:Option PF.D}{js:List Nat}{a0 a1 a2:PF.D}{fd:PySem.FuncData}{Q E:dC -> eR -> Prop}{P prog:kW}{pins:List (eX×lE)}{X:L2.Cx}{h base:PySem.Heap}{hl:List Int}{scope:PySem.Scope}{mg:gE -> Option dC}{sl:Array (Option dC)}
namespace PF
open PySem PySem.Spec
open L2
noncomputable def aeq(d:D)(s:S):R Wk:=match d with
 |.lst ds=>.ok (ds.map D.da,none) s
 |.tup ds=>.ok (ds.map D.da,none) s
 |.con ds=>.ok (ds.map D.da,none) s
 |.frz ds=>.ok (ds.map D.da,none) s
 |.ref n=> match s[n]? with
  |some (.lst ds)=>.ok (ds,some n) s
  |_=>.bad
 |_=>.bad
def fIt(f:FE):FI:=fun ρ s=> (f ρ s).bind aeq
section
variable{X:Cx}{tg a b:Expr}{fa fb:FE}{pos:Pos}
def a7z(K:aw)(tl:TE):TI:=fun σ H R=> tl σ H fun x H1=> ∃a,x=.ref a/\(((∃xs,SqL K H1 a xs)/\R (Itl K a) H1)\/((∃xs,SqT K H1 a xs)/\R (Itt K a) H1))
theorem a4a{l:Expr}{tl:TE}(hl:PE X l tl):PI X tg l (a7z X.K tl):=by
 intro pins s σ H R I h
 refine thn (hl pins s σ H _ I h) fun v s1 ⟨x,H1,I1,r1,q1⟩=> ?_
 obtain⟨a,e,q1⟩:=q1
 subst e
 cases r1
 have fp: ∀b∈ [s1.heap.objs.size],aaj X pins H1 b:=fun b hb=> by
  have e:b=s1.heap.objs.size:=by simpa using hb
  subst e
  exact I1.fpOk (aD _) (I1.hok.fresh (aD _))
 rcases q1 with ⟨⟨xs,hq⟩,q⟩|⟨⟨xs,hq⟩,q⟩
 ·obtain⟨its,rv,p,hz⟩:=I1.list hq
  refine dU p.isList ?_
  exact⟨s1.heap.objs.size,[s1.heap.objs.size],_,_,H1,rfl,I1.kept (t':=s1.toks) fun b o e=> aq _ e,auo a _,⟨_,aQ _ rfl,rfl,rfl⟩,fp,q⟩
 ·obtain⟨its,rv,p,hz⟩:=I1.tuple hq
  refine fP (show s1.heap.IsTuple a its.toArray from p) ?_
  exact⟨s1.heap.objs.size,[s1.heap.objs.size],_,_,H1,rfl,I1.kept (t':=s1.toks) fun b o e=> aq _ e,aqc a _,⟨_,aQ _ rfl,rfl,rfl⟩,fp,q⟩
theorem and{p:Addr}{xs:List V}{w:Wk}(h: ∀as2 H2 s2,Step0 as H as2 H2 -> Rel K as2 H2 s2 -> ky w s2 -> ∃ys,SqL K H2 p ys/\RDs K as2 H2 ys w.1):aer K as H (Itl K p) w:=by
 intro as2 H2 s2 st rl so i
 obtain⟨ys,sq,rs⟩:=h as2 H2 s2 st rl so
 refine⟨fun hl=> ⟨ys,sq,by rw [rs.length];exact hl⟩,fun d hd=> ?_⟩
 obtain⟨v,hv,r⟩:=rs.get hd
 refine⟨⟨ys,v,sq,hv⟩,fun x H3 hy=> ?_⟩
 obtain⟨rfl,hx⟩:=hy
 have:=hx ys sq
 rw [hv]at this
 cases this
 exact⟨Step.refl _ _,rl,r⟩
theorem au3{p:Addr}{xs:List V}{w:Wk}(h: ∀as2 H2 s2,Step0 as H as2 H2 -> Rel K as2 H2 s2 -> ky w s2 -> ∃ys,SqT K H2 p ys/\RDs K as2 H2 ys w.1):aer K as H (Itt K p) w:=by
 intro as2 H2 s2 st rl so i
 obtain⟨ys,sq,rs⟩:=h as2 H2 s2 st rl so
 refine⟨fun hl=> ⟨ys,sq,by rw [rs.length];exact hl⟩,fun d hd=> ?_⟩
 obtain⟨v,hv,r⟩:=rs.get hd
 refine⟨⟨ys,v,sq,hv⟩,fun x H3 hy=> ?_⟩
 obtain⟨rfl,hx⟩:=hy
 have:=hx ys sq
 rw [hv]at this
 cases this
 exact⟨Step.refl _ _,rl,r⟩
theorem abj{p:Addr}{ds:List D}(rl:Rel K as H s)(hr: ∀q,as.ix[n]?=some (some q) -> q=p)(e:s[n]?=some (.lst ds)):as.ix[n]?=some (some p)/\ ∃xs,H p=some (.lst xs)/\RDs K as H xs ds:=by
 obtain⟨q,hq⟩:=rl.li n _ e (by intro z;cases z)
 cases hr q hq
 exact⟨hq,rl.ob n p _ hq e⟩
theorem ba9(h:RE X a fa):RI X tg a (fIt fa):=by
 obtain⟨t,p,r⟩:=h.ex
 refine⟨_,a4a p,fun as σ H ρ s Q rl en h=> ?_⟩
 refine r as σ H ρ s _ rl en (Dn.bind h fun d s1 as1 H1 v st1 rl1 r1 h1=> ?_)
 cases r1 with
 |da t=>
  cases t with
  |tup n e rs=> exact⟨_,rfl,.inr ⟨⟨_,SqT.of e⟩,Dn.now (Q:=Q) h1 rl1 (au3 (xs:=[]) fun as2 H2 s2 st rl so=> ⟨_,SqT.of (st.keep _ _ n e),(rs.mono0 st).rd⟩)⟩⟩
  |lst n e rs=> exact⟨_,rfl,.inl ⟨⟨_,SqL.of e⟩,Dn.now (Q:=Q) h1 rl1 (and (xs:=[]) fun as2 H2 s2 st rl so=> ⟨_,SqL.of (st.keep _ _ n e),(rs.mono0 st).rd⟩)⟩⟩
  |_=> exact h1.elim
 |con q rs=> exact⟨_,rfl,.inr ⟨⟨_,q H1⟩,Dn.now (Q:=Q) h1 rl1 (au3 (xs:=[]) fun as2 H2 s2 st rl so=> ⟨_,q H2,(rs.mono0 st).rd⟩)⟩⟩
 |frz q rs=> exact⟨_,rfl,.inl ⟨⟨_,q as1 H1 (Step.refl _ _).toStep0⟩,Dn.now (Q:=Q) h1 rl1 (and (xs:=[]) fun as2 H2 s2 st rl so=> ⟨_,q as2 H2 st,(rs.mono0 st).rd⟩)⟩⟩
 | @ref pp n l hr=>
  have h1:Dn X.K (aer X.K) as1 H1 (match s1[n]? with|some (O.lst ds)=> R.ok (ds,some n) s1|_=> R.bad) Q:=h1
  split at h1
  ·rename_i ds e
   obtain⟨ha,xs,hx,rs⟩:=abj rl1 hr e
   refine⟨_,rfl,.inl ⟨⟨_,SqL.of hx⟩,Dn.now (Q:=Q) h1 rl1 (and (xs:=[]) fun as2 H2 s2 st rl so=> ?_)⟩⟩
   have so':s2[_]?=some (O.lst ds):=so
   obtain⟨q,hq⟩:=rl.li _ _ so' (by intro z;cases z)
   have e2:=hq
   rcases st.old _ l with z|z
   ·rw [z]at e2
    cases hr q e2
    obtain⟨ys,hy,rs2⟩:=rl.ob _ _ _ hq so'
    exact⟨ys,SqL.of hy,rs2⟩
   ·rw [z]at e2;cases e2
  ·exact h1.elim
 |_=> exact h1.elim
noncomputable def v8(lo:Int):Nat -> List D
 |0=> []
 |n+1=>.int lo::v8 (lo+1) n
theorem k8: ∀(n:Nat) (lo:Int),(v8 lo n).length=n
 |0,_=> rfl
 |n+1,lo=> congrArg (· +1) (k8 n (lo+1))
theorem agc: ∀(n:Nat) (lo:Int) (i:Nat),i < n -> (v8 lo n)[i]?=some (.int (lo+i))
 |n+1,lo,0,_=> by simp [v8]
 |n+1,lo,i+1,h=> by
  rw [v8,gf,agc n (lo+1) i (by lia)]
  have:lo+1+(i:Int)=lo+((i+1:Nat):Int):=by lia
  rw [this]
theorem ati(lo:Int)(n:Nat):aer K as H (Itr lo n) (v8 lo n,none):=by
 intro as2 H2 s2 st rl so i
 refine⟨fun hl=> by rw [k8]at hl;exact hl,fun d hd=> ?_⟩
 have hl:i < n:=by
  have:=(aC.mp hd).1
  rw [k8]at this;exact this
 rw [agc n lo i hl]at hd
 cases hd
 refine⟨hl,fun x H3 hy=> ?_⟩
 obtain⟨rfl,rfl⟩:=hy
 exact⟨Step.refl _ _,rl,.da (.int _)⟩
def arn(ds:List D)(s:S):R Wk:=match ds with
 |[.int j]=> if -(2^62) <=j/\j < 2^62 then .ok (v8 0 j.toNat,none) s else .bad
 |_=>.bad
def alc(ds:List D)(s:S):R Wk:=match ds with
 |[.int i,.int j]=> if -(2^62) <=i/\i < 2^62/\ -(2^62) <=j/\j < 2^62 then .ok (v8 i (j - i).toNat,none) s else .bad
 |_=>.bad
def aac(f:FA):FI:=fun ρ s=> (f ρ s).bind arn
def arl(f:FA):FI:=fun ρ s=> (f ρ s).bind alc
theorem RD.int_inv{i:Int}(h:RD K as H v (.int i)):v=.int i:=by
 cases h with|da t=> cases t;rfl
theorem RD.str_inv(h:RD K as H v (.str x)):v=.str x:=by
 cases h with|da t=> cases t;rfl
theorem RD.bl_inv{x:Bool}(h:RD K as H v (.bl x)):v=.bl x:=by
 cases h with|da t=> cases t;rfl
theorem RDs.one{d:D}(h:RDs K as H vs [d]): ∃v,vs=[v]/\RD K as H v d:=by
 cases h with|cons a b=> cases b;exact⟨_,rfl,a⟩
theorem RDs.two{d e:D}(h:RDs K as H vs [d,e]): ∃v w,vs=[v,w]/\RD K as H v d/\RD K as H w e:=by
 cases h with|cons a b=> cases b with|cons b c=> cases c;exact⟨_,_,rfl,a,b⟩
theorem a3r{f:FA}{p:Pos}(hm:X.mg "range"=none)(h:RA X [a] f)(hg:Gl X "range":=by rfl)(hs:starEach [a] X.env=[(false,eval a X.env)]:=by rfl):RI X tg (.Call (.Name "range" p) [a] [] pos) (aac f):=by
 obtain⟨t,p,r⟩:=h.ex
 refine⟨_,at8 hg hm p hs,fun as σ H ρ s Q rl en h=> ?_⟩
 refine r as σ H ρ s _ rl en (Dn.bind h fun ds s1 as1 H1 vs st1 rl1 r1 h1=> ?_)
 unfold arn at h1
 split at h1
 ·rename_i j
  obtain⟨v,rfl,rv⟩:=r1.one
  cases rv.int_inv
  split at h1
  ·rename_i hb
   exact⟨j,rfl,hb.1,hb.2,Dn.now (Q:=Q) h1 rl1 (ati 0 _)⟩
  ·exact h1.elim
 ·exact h1.elim
theorem a0y{f:FA}{p:Pos}(hm:X.mg "range"=none)(h:RA X [a,b] f)(hg:Gl X "range":=by rfl)(hs:starEach [a,b] X.env=[(false,eval a X.env),(false,eval b X.env)]:=by rfl)(hs2:starEach [b] X.env=[(false,eval b X.env)]:=by rfl):RI X tg (.Call (.Name "range" p) [a,b] [] pos) (arl f):=by
 obtain⟨t,p,r⟩:=h.ex
 refine⟨_,atd hg hm p hs hs2,fun as σ H ρ s Q rl en h=> ?_⟩
 refine r as σ H ρ s _ rl en (Dn.bind h fun ds s1 as1 H1 vs st1 rl1 r1 h1=> ?_)
 unfold alc at h1
 split at h1
 ·rename_i i j
  obtain⟨v,w,rfl,rv,rw⟩:=r1.two
  cases rv.int_inv
  cases rw.int_inv
  split at h1
  ·rename_i hb
   exact⟨i,j,rfl,hb,Dn.now (Q:=Q) h1 rl1 (ati i _)⟩
  ·exact h1.elim
 ·exact h1.elim
def kl(g:Tg)(ft:FT)(fe:FE)(ρ0:En)(p:Wk):List D -> S -> R (List D)
 |[],s=>.ok [] s
 |d::r,s=> match qu g d ρ0 with
  |none=>.bad
  |some ρ1=> (ft ρ1 s).bind fun b s2=> if b=true then (fe ρ1 s2).bind fun x s3=> chk p s3 ((kl g ft fe ρ0 p r s3).bind fun xs s4=>.ok (x::xs) s4) else chk p s2 (kl g ft fe ρ0 p r s2)
noncomputable def adu(ρ:En)(js:List Nat):En:=js.map fun j=> (ρ[j]?).join
def fLc(m:Bool)(js:List Nat)(k:Nat)(fi:FI)(g:Tg)(ft:FT)(fe:FE):FE:=fun ρ s=> (fi ρ s).bind fun p s1=> if p.1.length <=sizeLine then chk p s1 ((kl g ft fe (bH k none++adu ρ js) p p.1 s1).bind fun ds s2=> qy m ds s2) else .bad
noncomputable def kx:FT:=fun _ s=>.ok true s
structure RIfs (X:Cx) (ifs:List Expr) (f:FT):Prop where
 run:aey X ifs (acs X.K f)
theorem a8i:RIfs X [] kx:=⟨fun pins s σ H Q I ⟨as,ρ,s',rl,en,h⟩=> avl pins s σ H Q I (show Q true H from Dn.now h rl rfl)⟩
theorem a90{f:FT}(h:RT X a f):RIfs X [a] f:=⟨axh h.pt⟩
theorem Envs.caps(e:Envs K as H ρ σ)(js:List Nat):Envs K as H (adu ρ js) (xl σ js):=by
 refine⟨by simp [adu,xl],fun i d h=> ?_⟩
 unfold adu at h
 unfold xl
 rw [a9]at h⊢
 cases q:js[i]? with
 |none=> rw [q]at h;cases h
 | some j=>
  rw [q]at h
  have h:(ρ[j]?).join=some d:=by simpa using h
  cases z:ρ[j]? with
  |none=> rw [z]at h;cases h
  | some o=>
   rw [z]at h
   cases o with
   |none=> cases h
   |some x=>
    cases h
    obtain⟨v,e1,r⟩:=e.get j d z
    exact⟨v,by simp [e1],r⟩
theorem Envs.own{vs:St}(e:Envs K as H ρ σ)(hl:vs.length=k):Envs K as H (bH k none++ρ) (vs++σ):=by
 refine⟨by simp [hl,e.len],fun i d h=> ?_⟩
 by_cases z:i < k
 ·rw [bd (by simpa using z),dv]at h
  simp [z]at h
 ·rw [a8 (by simpa using bL z)]at h
  rw [a8 (by rw [hl];exact bL z)]
  rw [hl]
  exact e.get _ d (by simpa using h)
theorem lcB {J:It} {p:Wk} {cap:St} {m:Bool} {Q:VK} (hg:y9 k g=true) (hz:p.1.length <=sizeLine) (rl:Rel K as H s) (ri:aer K as H J p) (so:ky p s) (en: ∀vs:St,vs.length=k -> Envs K as H ρ0 (vs++cap)) (h:Dn K (rD K) as H ((kl g ft fe ρ0 p p.1 s).bind fun ds s2=> qy m ds s2) Q):ax0 (gOf K g) (acs K ft) (tOf K fe) k cap J H Q:=by
 intro D hD
 have n0:New H D (.lst []) (upd H D (.lst [])):=⟨hD,rfl⟩
 have nh:D∉as.hd:=fun z=> by obtain⟨_,e⟩:=rl.hs D z;rw [hD]at e;cases e
 have s0:=ag1 (as:=as) n0
 refine⟨fun i mm ys H'=> ∃as2 s2 ds,mm=p.1.length - i/\i <=p.1.length/\ys.length <=i/\Step as H as2 H'/\D∈as2.hd/\Rel K as2 H' s2/\ky p s2/\RDs K as2 H' ys ds/\
   Dn K (rD K) as H ((kl g ft fe ρ0 p (p.1.drop i) s2).bind fun xs s3=> qy m (ds++xs) s3) Q,
  ⟨_,as.hide D,s,[],rfl,bX _,aD _,s0,ax,rl.hide n0,so,.nil,h⟩,?_⟩
 rintro i mm ys H' hDi ⟨as2,s2,ds,hm,hi,hys,st2,mD2,rl2,so2,rs,h2⟩
 have tn:=ri as2 H' s2 st2.toStep0 rl2 so2 i
 by_cases hl:i < p.1.length
 ·obtain⟨d,hd⟩: ∃d,p.1[i]?=some d:=⟨_,av hl⟩
  have hdr:p.1.drop i=d::p.1.drop (i+1):=by
   rw [cw hl]
   rw [av hl]at hd
   cases hd;rfl
  rw [hdr]at h2
  obtain⟨go,yl⟩:=tn.2 d hd
  unfold kl at h2
  split at h2
  ·exact h2.elim
  ·rename_i ρ3 q3
   refine .inr ⟨go,fun x H3 hy vs hv=> ?_⟩
   obtain⟨st3,rl3,rx⟩:=yl x H3 hy
   refine aa4 g ((en vs hv).mono (st2.trans st3)) rx q3 fun σ3 en3 fr=> ?_
   refine⟨fr k hg vs cap hv rfl,as2,ρ3,s2,rl3,en3,?_⟩
   have eD3:H3 D=some (.lst ys):=st3.hh D mD2 _ hDi
   cases qt:ft ρ3 s2 with
   |bad=> rw [qt]at h2;exact h2.elim
   | ok b s4=>
    rw [qt]at h2
    intro b' as4 H4 st4 rl4 eb
    have eb':b'=b:=eb
    subst eb'
    have mD4:D∈as4.hd:=st4.hk D mD2
    have eD4:H4 D=some (.lst ys):=st4.hh D mD2 _ eD3
    have st24:=(st2.trans st3).trans st4
    rw [R.bind_ok]at h2
    cases b' with
    | false=>
     rw [if_neg aF]at h2⊢
     by_cases c:ky p s4
     ·rw [vg c]at h2
      exact⟨eD4,_,by lia,as4,s4,ds,rfl,hl,by lia,st24,mD4,rl4,c,(rs.mono st3).mono st4,h2⟩
     ·have e:chk p s4 (kl g ft fe ρ0 p (p.1.drop (i+1)) s4)=.bad:=if_neg c
      rw [e]at h2;exact h2.elim
    | true=>
     rw [if_pos rfl]at h2⊢
     refine⟨as4,ρ3,s4,rl4,en3.mono st4,?_⟩
     cases qe:fe ρ3 s4 with
     |bad=> rw [qe]at h2;exact h2.elim
     | ok x5 s5=>
      rw [qe]at h2
      intro v5 as5 H5 st5 rl5 r5
      rw [R.bind_ok]at h2
      have mD5:D∈as5.hd:=st5.hk D mD4
      have eD5:H5 D=some (.lst ys):=st5.hh D mD4 _ eD4
      have st25:=st24.trans st5
      by_cases c:ky p s5
      ·rw [vg c]at h2
       have cg:Chg H5 D (.lst (ys++ [v5])) (upd H5 D (.lst (ys++ [v5]))):=⟨rfl⟩
       have s05:=aar (.inr mD5) cg
       refine⟨eD5,by lia,_,by lia,as5,s5,ds++ [x5],rfl,hl,by simp;lia,aly st25 hD nh mD5 cg,mD5,rl5.chgH mD5 cg,c,((((rs.mono st3).mono st4).mono st5).append (.cons r5 .nil)).mono0 s05,?_⟩
       cases qc:kl g ft fe ρ0 p (p.1.drop (i+1)) s5 with
       |bad=> rw [qc]at h2;exact h2.elim
       |ok xs s6=>
        rw [qc]at h2
        show Dn K (rD K) as H (qy m ((ds++ [x5])++xs) s6) Q
        rw [bW]
        exact h2
      ·have e:chk p s5 ((kl g ft fe ρ0 p (p.1.drop (i+1)) s5).bind fun xs s4=>.ok (x5::xs) s4)=.bad:=if_neg c
       rw [e]at h2;exact h2.elim
 ·refine .inl ⟨tn.1 (bL hl),?_⟩
  rw [cv (bL hl)]at h2
  replace h2:Dn K (rD K) as H (qy m (ds++ []) s2) Q:=h2
  rw [bP]at h2
  unfold qy at h2
  cases m with
  |true=>
   rw [if_pos rfl]at h2
   refine h2 (.ref D) _ H' (aka st2 nh mD2) (rl2.take mD2 ⟨ys,hDi,rs.mono0 (ade mD2)⟩) (.ref (by simp [rl2.len]) fun q e=> ?_)
   rw [←rl2.len]at e
   simp at e
   exact e.symm
  | false=>
   rw [if_neg aF]at h2
   cases q:kg ds with
   |none=> rw [q]at h2;exact h2.elim
   |some zs=>
    rw [q]at h2
    have e:=zd q
    subst e
    have h2:Dn K (rD K) as H (R.ok (.lst zs) s2) Q:=h2
    refine h2 (.ref D) _ H' (anh st2 nh abv) rl2.show (.da (.lst (fun z=> ?_) hDi (rs.td.mono0 abv)))
    rcases z with z|z
    ·exact rl2.hx D mD2 z
    ·exact absurd rfl (of_decide_eq_true (bC.mp z).2)
end
end PF
namespace PF
open PySem PySem.Spec
open L2
open PyProof.Rows (envOfC)
section
variable{X:Cx}{own caps:List Str}{js:List Nat}{scope:dM}{tg iter elt a:Expr}{ifs:List Expr}{fi:FI}{g:Tg}{ft:FT}{fe fa:FE}{pos:Pos}
theorem av1{m:Bool}(ri:avq K wi fi)(hl:y9 k g=true):ab9 K (tLc js k wi (gOf K g) (acs K ft) (tOf K fe)) (fLc m js k fi g ft fe):=by
 intro as σ H ρ s Q rl en h
 refine ri as σ H ρ s _ rl en (Dn.bind h fun p s1 as1 H1 J st1 rl1 r1 h1=> ?_)
 split at h1
 ·rename_i hz
  obtain⟨so,h1⟩:=Dn.chk h1
  exact lcB hl hz rl1 r1 so (fun vs hv=> ((en.mono st1).caps js).own hv) h1
 ·exact h1.elim
theorem ay7(m:Bool)(hcalm:X.calm=true)(hkind:scope.kind=.function)(hnames:(scope.names.all fun p=> !(p.2==.local)||(scope.names.lookup p.1==some .local))=true)(hcell:(scope.names.any fun p=> p.2==.cell)=false)
  (hk:(scope.names.all fun p=> !(p.2==.free)||(X.env.kindOf p.1==some .cell||X.env.kindOf p.1==some .free))=true)
  (hcap:yk X scope caps js) (hl:y9 own.length g=true) (hi:RI X tg iter fi) (hg: ∀C fp s H,RG (kc X own caps scope C fp s H) tg g) (ht: ∀C fp s H,RIfs (kc X own caps scope C fp s H) ifs ft) (he: ∀C fp s H,RE (kc X own caps scope C fp s H) elt fe)
  (hs: ∀x,bU iter X.env x=pure x:=by intro _;rfl):RE X (.ListComp elt [⟨tg,iter,ifs,0⟩] scope pos) (fLc m js own.length fi g ft fe):=by
 obtain⟨wi,pi,ri⟩:=hi.ex
 exact⟨_,a68 hcalm hkind hnames hcell hk hcap pi (fun C fp s H=> (hg C fp s H).pg) (fun C fp s H=> (ht C fp s H).run) (fun C fp s H=> (he C fp s H).pe) hs,av1 ri hl⟩
theorem awf(m:Bool){py:Pos}{spos:Pos}(hsw:fJ (.ListComp elt [⟨tg,iter,ifs,0⟩] scope pos) (some (.Name y py)) spos.line X.env=pure true)(hN:X.N.Nodup)(hy:X.N[i]?=some y)(hyl:X.env.scope.names.lookup y=some .local)(hcalm:X.calm=true)(hkind:scope.kind=.function)(hnames:(scope.names.all fun p=> !(p.2==.local)||(scope.names.lookup p.1==some .local))=true)(hcell:(scope.names.any fun p=> p.2==.cell)=false)(hk:(scope.names.all fun p=> !(p.2==.free)||(X.env.kindOf p.1==some .cell||X.env.kindOf p.1==some .free))=true)(hcap:yk X scope caps js)(hl:y9 own.length g=true)(hi:RI X tg iter fi)(hg: ∀C fp s H,RG (kc X own caps scope C fp s H) tg g)(ht: ∀C fp s H,RIfs (kc X own caps scope C fp s H) ifs ft)(he: ∀C fp s H,RE (kc X own caps scope C fp s H) elt fe)(hs: ∀x,bU iter X.env x=pure x:=by intro _;rfl):RS X (.Assign [.Name y py] (.ListComp elt [⟨tg,iter,ifs,0⟩] scope pos) spos) (j5 i (fLc m js own.length fi g ft fe)):=by
 obtain⟨wi,pi,ri⟩:=hi.ex
 refine⟨_,axj (own:=own) (te:=tOf X.K fe) (tt:=acs X.K ft) (g:=gOf X.K g) hsw hN hy hyl hcalm hkind hnames hcell hk hcap pi (fun C fp s H=> (hg C fp s H).pg) (fun C fp s H=> (ht C fp s H).run) (fun C fp s H=> (he C fp s H).pe) hs,fun as σ H ρ s D rl en h=> ?_⟩
 exact av1 (m:=m) ri hl as σ H ρ s _ rl en (Dn.bind h fun d s1 as1 H1 v st1 rl1 r1 h1=> Dn.now (b:=FV.nx (σ.set i (some v))) h1 rl1 (.nx ((en.mono st1).set i r1)))
end
abbrev FF:=List D -> S -> R D
noncomputable def spF(K:aw)(n:Nat)(F:FF):Sp:=fun vs H Q _=> vs.length=n/\ ∃as ds s,Rel K as H s/\RDs K as H vs ds/\Dn K (rD K) as H (F ds s) Q
structure CalF (P:bz) (w:bw) (K:aw) (mg:Str -> Option af) (base:Heap) (x:Str) (k n:Nat) (F:FF):Prop where
 cal:Cal P w K mg base x k (spF K n F)
def jd(n:Nat)(F:FF)(f:FA):FE:=fun ρ s=> (f ρ s).bind fun ds s1=> if ds.length=n then F ds s1 else .bad
section
variable{X:Cx}{x:Str}{k n:Nat}{F:FF}{p pos:Pos}{e:Expr}{es:List Expr}{f:FA}
theorem a8q(c:CalF X.prog X.w X.K X.mg X.base x k n F)(hr:Room k X.A)(ha:RA X (e::es) f)(hg:Gl X x:=by rfl)(hdb:(x==("__debug__":Str))=false:=by decide)
  (he:starEach (e::es) X.env=(false,eval e X.env)::starEach es X.env:=by rfl) (hpl:(backTo pos (starEach es X.env)).any (·.1)=false:=by rfl):RE X (.Call (.Name x p) (e::es) [] pos) (jd n F f):=by
 obtain⟨t,p,r⟩:=ha.ex
 refine⟨_,a8y c.cal hr p hg hdb he hpl,fun as σ H ρ s Q rl en h=> ?_⟩
 refine r as σ H ρ s _ rl en (Dn.bind h fun ds s1 as1 H1 vs st1 rl1 r1 h1=> ?_)
 split at h1
 ·rename_i hn
  refine⟨by rw [bP,r1.length];exact hn,as1,ds,s1,rl1,?_,h1⟩
  rw [bP];exact r1
 ·exact h1.elim
end
def j7(m:Nat)(fb:FS):FF:=fun ds s=> (fb (ds.map some++bH (m - ds.length) none) s).bind fun fl s1=> match fl with
 |.rt d=>.ok d s1
 |.nx _=>.ok .non s1
 |_=>.bad
theorem air{ds:List D}(r:RDs K as H vs ds):Envs K as H (ds.map some++bH (N.length - ds.length) none) (L2.start N vs):=by
 unfold L2.start
 refine⟨by simp [r.length],fun i d h=> ?_⟩
 by_cases z:i < ds.length
 ·rw [bd (by simpa using z),a9]at h
  cases q:ds[i]? with
  |none=> rw [q]at h;cases h
  |some x=>
   rw [q]at h
   cases h
   obtain⟨v,hv,rv⟩:=r.get q
   exact⟨v,by rw [bd (by rw [au,r.length];exact z),a9,hv];rfl,rv⟩
 ·rw [a8 (by simpa using bL z),dv]at h
  split at h
  ·cases h
  ·cases h
theorem a4g(h:Has K mg x st ps)(S:FnScope N ps (jf st)){m:Nat}(hm:N.length=m)(hn:ps.length=n)(hbody: ∀(f:Addr) (cdv:af) (A:bm) (outer:List Env) (s:ak) (H:Hp) (E:XK),Room k (A.deeper (envOfC x (jf st) s.heap.objs.size f cdv)) ->
   RSs (afc CX0 P w K mg base N x (jf st) f cdv A outer s H E).nox (xo st) fb):CalF P w K mg base x (k+1) n (j7 m fb):=by
 refine⟨h.cal S (fun vs H Q E h=> by rw [hn];exact h.1) fun f cdv A outer s H vs Q E hr h=> ?_⟩
 obtain⟨hv,as,ds,s',rl,rs,h⟩:=h
 obtain⟨t,p,r⟩:=(hbody f cdv A outer s H E hr).ex
 refine⟨t,p,?_⟩
 have en:Envs K as H (ds.map some++bH (m - ds.length) none) (L2.start N vs):=by rw [←hm];exact air rs
 refine r as _ H _ s' _ rl en (Dn.bind h fun fl s1 as1 H1 fv st1 rl1 r1 h1=> ?_)
 cases r1 with
 |nx e=> exact Dn.now (Q:=Q) h1 rl1 (.da .non)
 |rt e=> exact Dn.now (Q:=Q) h1 rl1 e
 |bk e=> exact h1.elim
 |ct e=> exact h1.elim
noncomputable def ald(K:aw):Sp:=fun vs H Q _=> ∃(a:Addr) (ns:List Int),vs=[.ref a]/\SqL K H a (ns.map V.int)/\ns.length <=63/\ ∀H',Q (.bl true) H'
theorem TDs.ints{as:As}{H:Hp}: ∀ns:List Int,TDs as H (ns.map V.int) (ns.map aI)
 |[]=>.nil
 |n::r=>.cons (.int n) (TDs.ints r)
end PF
namespace PF
open PySem PySem.Spec
open L2
section
variable{X:Cx}{pins:List (Addr×Obj)}{σ:St}{H:Hp}{s:ak}{as:As}
theorem ac6{a:Addr}(I:Inv X pins σ H s)(e:H a=some (.dK [])):(a==fZ)=false/\ ∃(o:Obj) (es:Array gI) (ep:Nat),s.heap.get? a=some o/\o.cls=.type "dict"/\o.data=.dict es ep/\es.toList=[]:=by
 obtain⟨_,hd,vs,rel,dd⟩:=a7d I.hok e
 cases rel
 obtain⟨o,es,ep,h1,h2,h3,h4,h5⟩:=dd
 refine⟨hd,o,es,ep,h1,h2.1,h3,?_⟩
 cases h6:es.toList with
 |nil=> rfl
 |cons x r=> rw [h6]at h5;obtain⟨h5,_⟩:=h5;cases h5
mutual
theorem TD.reads(I:Inv X pins σ H s): ∀{v:V} {d:aa} {u:af},TD as H v d -> RelV v u -> ∃bs,cq s.heap u d bs
 |_,_,u,.non,r=> by cases (show u=bu from r);exact⟨_,.none⟩
 |_,_,u,.bl b,r=> by cases (show u=dD b from r);exact⟨_,.bool b⟩
 |_,_,u,.int i,r=> by obtain⟨t,e⟩:=(show∃t,u=fG i t from r);subst e;exact⟨_,.int i t⟩
 |_,_,u,.str x,r=> by obtain⟨t,e⟩:=(show∃t,u=fH x t from r);subst e;exact⟨_,.str x t⟩
 |_,_,u,.tup (p:=a) (xs:=xs) n e q,r=> by
  cases (show u=bJ a from r)
  obtain⟨z,its,rv,p⟩:=(show j6 X.prog X.w H s.heap a (.tup xs) from I.hok a _ e)
  obtain⟨o,h1,h2,k,h3⟩:=p.tup
  obtain⟨bs,ra⟩:=TDs.reads I q rv
  exact⟨_,.tuple h1 h2 h3 ra⟩
 |_,_,u,.lst (p:=a) (xs:=xs) n e q,r=> by
  cases (show u=bJ a from r)
  obtain⟨z,its,k,rv,h1⟩:=(show j6 X.prog X.w H s.heap a (.lst xs) from I.hok a _ e)
  obtain⟨bs,ra⟩:=TDs.reads I q rv
  exact⟨_,.list h1 rfl rfl ra⟩
 |_,_,u,.dct (p:=a) n e,r=> by
  cases (show u=bJ a from r)
  obtain⟨_,o,es,ep,h1,h2,h3,h4⟩:=ac6 I e
  exact⟨_,.dict (kvs:=[]) h1 h2 h3 (by rw [h4];exact .nil) (by rw [h4];exact .nil)⟩
theorem TDs.reads(I:Inv X pins σ H s): ∀{vs:List V} {ds:List aa} {us:List af},TDs as H vs ds -> jn vs us -> ∃bs,cc s.heap us ds bs
 |_,_,_,.nil,r=> by cases r;exact⟨_,.nil⟩
 | _,_,_,.cons a b,r=> by
  cases r with
  |cons r1 r2=>
   obtain⟨as,h1⟩:=TD.reads I a r1
   obtain⟨bs,h2⟩:=TDs.reads I b r2
   exact⟨_,.cons h1 h2⟩
end
def toP(s:S):D -> Option aa
 |.da d=> some d
 |.con ds=> some (.tuple ds)
 |.frz ds=> some (.list ds)
 |.ref n=> match s[n]? with
  |some (.lst ds)=> (kg ds).map fB
  |_=> none
 |_=> none
noncomputable def toL(s:S):D -> Option (List D)
 |.lst ds=> some (ds.map D.da)
 |.ref n=> match s[n]? with
  |some (.lst ds)=> some ds
  |_=> none
 |_=> none
theorem ae8{st:S}{d:D}{ds:List D}(rl:Rel K as H st)(r:RD K as H v d)(h:toL st d=some ds): ∃p xs,v=.ref p/\H p=some (.lst xs)/\RDs K as H xs ds:=by
 cases r with
 |da t=>
  cases t with
  |lst n e q=> cases h;exact⟨_,_,rfl,e,q.rd⟩
  |_=> cases h
 | @ref p n l hr=>
  have h:(match st[n]? with|some (O.lst ds)=> some ds|_=> none)=some ds:=h
  split at h
  ·rename_i ys e
   cases h
   obtain⟨_,xs,hx,rs⟩:=abj rl hr e
   exact⟨p,xs,rfl,hx,rs⟩
  ·cases h
 |_=> cases h
theorem RD.reads{st:S}{d:D}{pd:aa}{u:af}(I:Inv X pins σ H s)(rl:Rel X.K as H st)(r:RD X.K as H v d)(h:toP st d=some pd)(ru:RelV v u): ∃bs,cq s.heap u pd bs:=by
 cases r with
 |da t=> cases h;exact t.reads I ru
 |con q rs=>
  cases h
  obtain⟨its,rv,⟨o,h1,h2,k,h3⟩,z⟩:=I.tuple (q H)
  obtain⟨bs,ra⟩:=rs.reads I rv
  cases ru
  exact⟨_,.tuple h1 h2 h3 ra⟩
 |frz q rs=>
  cases h
  obtain⟨its,rv,⟨o,k,h1,h2,h3,h4⟩,z⟩:=I.list (q as H (Step.refl _ _).toStep0)
  obtain⟨bs,ra⟩:=rs.reads I rv
  cases ru
  exact⟨_,.list h1 h2 h4 ra⟩
 | @ref p n l hr=>
  have h:(match st[n]? with|some (O.lst ds)=> (kg ds).map fB|_=> none)=some pd:=h
  split at h
  ·rename_i ds e
   cases q:kg ds with
   |none=> rw [q]at h;cases h
   |some xs=>
    rw [q]at h
    cases h
    have e2:=zd q
    subst e2
    obtain⟨_,vs,hv,rs⟩:=abj rl hr e
    obtain⟨z,its,k,rv,h1⟩:=(show j6 X.prog X.w H s.heap p (.lst vs) from I.hok p _ hv)
    obtain⟨bs,ra⟩:=rs.td.reads I rv
    cases ru
    exact⟨_,.list h1 rfl rfl ra⟩
  ·cases h
 |_=> cases h
end
noncomputable def okD(d:aa):Bool:=d.canLay0&&decide (d.depth <=64)
theorem qj{f:af -> af -> Sem af}{g:D -> D -> S -> R D}(h: ∀(pins:List (Addr×Obj)) (sh:ak) (σ:St) (H:Hp) (as:As) (s:S) (x y:V) (dx dy:D) (v u:af) (Q:VK),Inv X pins σ H sh -> Rel X.K as H s -> RD X.K as H x dx -> RD X.K as H y dy -> RelV x v -> RelV y u ->
  Dn X.K (rD X.K) as H (g dx dy s) Q -> wpAny (model X.prog X.w) X.A (f v u) (EP X pins σ Q) X.xe sh):Op2 X f g:=
 ⟨fun x y H Q=> ∃as s dx dy,Rel X.K as H s/\RD X.K as H x dx/\RD X.K as H y dy/\Dn X.K (rD X.K) as H (g dx dy s) Q,
  fun pins sh σ H x y v u Q I rx ry ⟨as,s,dx,dy,rl,r1,r2,q⟩=> h pins sh σ H as s x y dx dy v u Q I rl r1 r2 rx ry q,
  fun as H s x y dx dy Q rl r1 r2 q=> ⟨as,s,dx,dy,rl,r1,r2,q⟩⟩
def aqs(dx dy:D)(s:S):R D:=match toP s dx,toP s dy with
 |some a,some b=> if okD a=true/\okD b=true then .ok (.bl (aE a b)) s else .bad
 |_,_=>.bad
def ajd(dx dy:D)(s:S):R D:=match toP s dx,toP s dy with
 |some a,some b=> if okD a=true/\okD b=true then .ok (.bl (!PyData.eqv a b)) s else .bad
 |_,_=>.bad
def gEq(dx dy:D)(s:S):R D:=match dx,dy with
 |.str x,.str y=>.ok (.bl (decide (x=y))) s
 |dx,dy=> aqs dx dy s
def gNe(dx dy:D)(s:S):R D:=match dx,dy with
 |.str x,.str y=>.ok (.bl (!decide (x=y))) s
 |dx,dy=> ajd dx dy s
theorem xu(h:okD d=true):d.canLay0=true/\d.depth <=64:=by
 unfold okD at h
 rw [am]at h
 exact⟨h.1,of_decide_eq_true h.2⟩
theorem a5r(hu:X.A.units+64 < cLine):Op2 X (aY .Eq) aqs:=qj fun pins sh σ H as s x y dx dy v u Q I rl r1 r2 rx ry h=> by
 unfold aqs at h
 split at h
 ·rename_i a b ea eb
  split at h
  ·rename_i hok
   obtain⟨bs1,q1⟩:=r1.reads I rl ea rx
   obtain⟨bs2,q2⟩:=r2.reads I rl eb ry
   obtain⟨c1,d1⟩:=xu hok.1
   obtain⟨c2,d2⟩:=xu hok.2
   exact SeqAt.compareEq_reads q1 q2 c1 c2 (by lia) ⟨.bl _,H,I,rfl,Dn.now (Q:=Q) h rl (.da (.bl _))⟩
  ·exact h.elim
 ·exact h.elim
theorem a6u(hu:X.A.units+64 < cLine):Op2 X (aY .NotEq) ajd:=qj fun pins sh σ H as s x y dx dy v u Q I rl r1 r2 rx ry h=> by
 unfold ajd at h
 split at h
 ·rename_i a b ea eb
  split at h
  ·rename_i hok
   obtain⟨bs1,q1⟩:=r1.reads I rl ea rx
   obtain⟨bs2,q2⟩:=r2.reads I rl eb ry
   obtain⟨c1,d1⟩:=xu hok.1
   obtain⟨c2,d2⟩:=xu hok.2
   exact SeqAt.compareNe_reads q1 q2 c1 c2 (by lia) ⟨.bl _,H,I,rfl,Dn.now (Q:=Q) h rl (.da (.bl _))⟩
  ·exact h.elim
 ·exact h.elim
theorem aor(x y:Str):decide (V.str x=V.str y)=decide (x=y):=by
 rw [bi,decide_eq_true_eq,decide_eq_true_eq,V.str.injEq]
theorem aeh(h:RD K as H v (.str x)):v=.str x:=by
 cases h with|da t=> cases t;rfl
theorem aw8(hu:X.A.units+64 < cLine):Op2 X (aY .Eq) gEq:=qj fun pins sh σ H as s x y dx dy v u Q I rl r1 r2 rx ry h=> by
 unfold gEq at h
 split at h
 ·cases aeh r1;cases aeh r2
  exact a63 pins sh σ H _ _ v u Q I rx ry ⟨rfl,by rw [aor];exact Dn.now (Q:=Q) h rl (.da (.bl _))⟩
 ·obtain⟨r,ho,hr⟩:=(a5r (X:=X) hu).ex
  exact ho pins sh σ H x y v u Q I rx ry (hr as H s x y _ _ Q rl r1 r2 h)
theorem a54(hu:X.A.units+64 < cLine):Op2 X (aY .NotEq) gNe:=qj fun pins sh σ H as s x y dx dy v u Q I rl r1 r2 rx ry h=> by
 unfold gNe at h
 split at h
 ·cases aeh r1;cases aeh r2
  exact a6n pins sh σ H _ _ v u Q I rx ry ⟨rfl,by rw [aor];exact Dn.now (Q:=Q) h rl (.da (.bl _))⟩
 ·obtain⟨r,ho,hr⟩:=(a6u (X:=X) hu).ex
  exact ho pins sh σ H x y v u Q I rx ry (hr as H s x y _ _ Q rl r1 r2 h)
noncomputable def auz:aa -> Option (List aa)
 |.list ds=> some ds
 |.tuple ds=> some ds
 |_=> none
noncomputable def nb(n b:Bool):Bool:=match n with
 |true=> !b
 |false=> b
def ajf(neg:Bool)(dx dy:D)(s:S):R D:=match toP s dx,(toP s dy).bind auz with
 |some a,some ds=> if okD a=true/\ds.all okD=true then .ok (.bl (nb neg (ds.any fun d=> aE d a))) s else .bad
 |_,_=>.bad
def ahj(neg:Bool)(dx dy:D)(s:S):R D:=match dx,dy with
 |.str a,.str b=>.ok (.bl (nb neg (!(eD b a 0 b.length 1).isEmpty))) s
 |dx,dy=> ajf neg dx dy s
open Classical in
theorem axy{v:af}{bs:List Addr}(ra:cq sh.heap v a bs)(ha:okD a=true)(hu:A.units+64 < cLine){cs:List Addr}(h:cc sh.heap us ds cs)(hd:ds.all okD=true):
  ∃e:af -> Bool,(∀y∈us,cS A sh y v (e y))/\us.any e=ds.any fun d=> aE d a:=by
 refine⟨fun y=> decide (∃d cs,cq sh.heap y d cs/\aE d a=true),?_⟩
 have one: ∀{y:af} {d:aa} {cs:List Addr},cq sh.heap y d cs -> decide (∃d cs,cq sh.heap y d cs/\aE d a=true)=aE d a:=fun {y d cs} r=> by
  (rw [bi,decide_eq_true_eq])
  constructor
  ·rintro⟨d',cs',r',e⟩
   obtain⟨q,_⟩:=jR (fun _ _ e _=> e) r r'
   subst q;exact e
  ·exact fun e=> ⟨d,cs,r,e⟩
 induction us generalizing ds cs with
 |nil=>
  cases h
  exact⟨fun _ z=> (by cases z),rfl⟩
 | cons u us ih=>
  cases h with
  | cons r rs=>
   rw [cb,am]at hd
   obtain⟨i1,i2⟩:=ih rs hd.2
   obtain⟨l1,m1⟩:=xu hd.1
   obtain⟨l2,m2⟩:=xu ha
   refine⟨fun y hy=> ?_,?_⟩
   ·rcases ay.mp hy with z|z
    ·subst z
     show cS A sh y v (decide (∃d cs,cq sh.heap y d cs/\aE d a=true))
     rw [one r]
     exact SeqAt.eqAt_reads _ _ A sh _ _ _ _ r ra l1 l2 (by lia)
    ·exact i1 y z
   ·rw [gw,gw,i2,one r]
theorem yn(A:bm):A.in1.units <=A.units+1:=by
 show (A.in1).units <=A.units+1
 first|exact aD _|(unfold kH;simp)|simp [kH]
theorem a3z(neg:Bool)(hop:(neg=false/\op=.In)\/(neg=true/\op=.NotIn))(hu:X.A.units+65 < cLine):Op2 X (aY op) (ajf neg):=qj fun pins sh σ H as s x y dx dy v u Q I rl r1 r2 rx ry h=> by
 unfold ajf at h
 split at h
 ·rename_i a ds ea ed
  split at h
  ·rename_i hok
   obtain⟨bs1,q1⟩:=r1.reads I rl ea rx
   cases e2:toP s dy with
   |none=> rw [e2]at ed;cases ed
   | some pd=>
    rw [e2]at ed
    have ed:auz pd=some ds:=ed
    obtain⟨bs2,q2⟩:=r2.reads I rl e2 ry
    have hin:=yn X.A
    cases q2 with
    | list k1 k2 k3 k4=>
     cases ed
     obtain⟨e,he,ha⟩:=axy (A:=X.A.in1) q1 hok.1 (by lia) k4 hok.2
     rcases hop with ⟨rfl,rfl⟩|⟨rfl,rfl⟩
     ·refine SeqAt.in_listAt e ⟨_,k1,k2,_,k3⟩ (fun y hy=> he y (by simpa using hy)) ⟨.bl _,H,I,rfl,?_⟩
      rw [←gy,ha]
      exact Dn.now (Q:=Q) h rl (.da (.bl _))
     ·refine SeqAt.notIn_listAt e ⟨_,k1,k2,_,k3⟩ (fun y hy=> he y (by simpa using hy)) ⟨.bl _,H,I,rfl,?_⟩
      rw [←gy,ha]
      exact Dn.now (Q:=Q) h rl (.da (.bl _))
    | tuple k1 k2 k3 k4=>
     cases ed
     obtain⟨e,he,ha⟩:=axy (A:=X.A.in1) q1 hok.1 (by lia) k4 hok.2
     rcases hop with ⟨rfl,rfl⟩|⟨rfl,rfl⟩
     ·refine SeqAt.in_tupleAt e ⟨_,k1,k2,_,k3⟩ (fun y hy=> he y (by simpa using hy)) ⟨.bl _,H,I,rfl,?_⟩
      rw [←gy,ha]
      exact Dn.now (Q:=Q) h rl (.da (.bl _))
     ·refine ly e ⟨_,k1,k2,_,k3⟩ (fun y hy=> he y (by simpa using hy)) ⟨.bl _,H,I,rfl,?_⟩
      rw [←gy,ha]
      exact Dn.now (Q:=Q) h rl (.da (.bl _))
    |_=> cases ed
  ·exact h.elim
 ·exact h.elim
theorem ahw(neg:Bool)(hop:(neg=false/\op=.In)\/(neg=true/\op=.NotIn))(hu:X.A.units+65 < cLine):Op2 X (aY op) (ahj neg):=qj fun pins sh σ H as s x y dx dy v u Q I rl r1 r2 rx ry h=> by
 unfold ahj at h
 split at h
 ·rename_i a b
  cases r2.str_inv
  cases r1.str_inv
  rcases hop with ⟨rfl,rfl⟩|⟨rfl,rfl⟩
  ·exact auv pins sh σ H _ _ v u Q I rx ry ⟨a,b,rfl,rfl,Dn.now (Q:=Q) h rl (.da (.bl _))⟩
  ·exact ami pins sh σ H _ _ v u Q I rx ry ⟨a,b,rfl,rfl,Dn.now (Q:=Q) h rl (.da (.bl _))⟩
 ·obtain⟨r,ho,hr⟩:=(a3z (X:=X) neg hop hu).ex
  exact ho pins sh σ H x y v u Q I rx ry (hr as H s x y _ _ Q rl r1 r2 h)
abbrev gIn:=ahj false
abbrev yj:=ahj true
theorem a7w(hu:X.A.units+65 < cLine):Op2 X (aY .In) gIn:=ahw false (.inl ⟨rfl,rfl⟩) hu
theorem azr(hu:X.A.units+65 < cLine):Op2 X (aY .NotIn) yj:=ahw true (.inr ⟨rfl,rfl⟩) hu
def jr(m:Bool)(dx dy:D)(s:S):R D:=match dx,dy with
 |.int i,.int j=>.ok (.int (i+j)) s
 |.bl b,.int j=>.ok (.int (b01 b+j)) s
 |.str a,.str b=> if a.length+b.length <=sizeLine then .ok (.str (a++b)) s else .bad
 |.tup xs,.tup ys=> if xs.length+ys.length <=sizeLine then .ok (.tup (xs++ys)) s else .bad
 |dx,dy=> match toL s dx,toL s dy with
  |some xs,some ys=> if xs.length+ys.length <=sizeLine then qy m (xs++ys) s else .bad
  |_,_=>.bad
theorem RD.tup_inv(h:RD K as H v (.tup ds)): ∃p xs,v=.ref p/\ ¬as.has p/\H p=some (.tup xs)/\TDs as H xs ds:=by
 cases h with|da t=> cases t with|tup n e r=> exact⟨_,_,rfl,n,e,r⟩
theorem RD.lst_inv(h:RD K as H v (.lst ds)): ∃p xs,v=.ref p/\ ¬as.has p/\H p=some (.lst xs)/\TDs as H xs ds:=by
 cases h with|da t=> cases t with|lst n e r=> exact⟨_,_,rfl,n,e,r⟩
theorem a5j(m:Bool):Op2 X (binaryOp .Add) (jr m):=qj fun pins sh σ H as s x y dx dy v u Q I rl r1 r2 rx ry h=> by
 unfold jr at h
 split at h
 ·rename_i i j
  cases r1.int_inv;cases r2.int_inv
  exact at7 pins sh σ H _ _ v u Q I rx ry ⟨i,j,rfl,rfl,Dn.now (Q:=Q) h rl (.da (.int _))⟩
 ·rename_i b j
  cases r1.bl_inv;cases r2.int_inv
  exact a09 pins sh σ H _ _ v u Q I rx ry ⟨b01 b,j,rfl,rfl,Dn.now (Q:=Q) h rl (.da (.int _))⟩
 ·rename_i a b
  split at h
  ·rename_i hz
   cases r1.str_inv;cases r2.str_inv
   exact asl pins sh σ H _ _ v u Q I rx ry ⟨a,b,rfl,rfl,hz,Dn.now (Q:=Q) h rl (.da (.str _))⟩
  ·exact h.elim
 ·rename_i xs ys
  split at h
  ·rename_i hz
   obtain⟨p,vs,rfl,n1,e1,t1⟩:=r1.tup_inv
   obtain⟨q,ws,rfl,n2,e2,t2⟩:=r2.tup_inv
   refine awh pins sh σ H _ _ v u Q I rx ry ⟨p,q,vs,ws,rfl,rfl,SqT.of e1,SqT.of e2,by rw [t1.length,t2.length];exact hz,fun e=> ?_,fun _ e=> ?_,fun _ _ r H' n=> ?_⟩
   ·subst e
    cases t1
    exact Dn.now (Q:=Q) h rl (.da (.tup n2 e2 t2))
   ·subst e
    cases t2
    rw [bP]at h
    exact Dn.now (Q:=Q) h rl (.da (.tup n1 e1 t1))
   ·exact h (.ref r) as H' (kr n) (rl.new n) (.da (.tup (fun z=> rl.has z n.no) n.at ((t1.append t2).mono (kr n))))
  ·exact h.elim
 ·split at h
  ·rename_i xs ys e1 e2
   split at h
   ·rename_i hz
    obtain⟨p,vs,rfl,h1,t1⟩:=ae8 rl r1 e1
    obtain⟨q,ws,rfl,h2,t2⟩:=ae8 rl r2 e2
    exact a1c pins sh σ H _ _ v u Q I rx ry ⟨p,q,vs,ws,rfl,rfl,h1,h2,by rw [t1.length,t2.length];exact hz,fun r H' n=> acp h rl (t1.append t2) n⟩
   ·exact h.elim
  ·exact h.elim
def adq(dx dy:D)(s:S):R D:=match dx,dy with
 |.int i,.int j=>.ok (.int (i - j)) s
 |.bl b,.int j=>.ok (.int (b01 b - j)) s
 |.int i,.bl b=>.ok (.int (i - b01 b)) s
 |_,_=>.bad
theorem a5h:Op2 X (binaryOp .Sub) adq:=qj fun pins sh σ H as s x y dx dy v u Q I rl r1 r2 rx ry h=> by
 unfold adq at h
 split at h
 ·rename_i i j
  cases r1.int_inv;cases r2.int_inv
  exact amv pins sh σ H _ _ v u Q I rx ry ⟨i,j,rfl,rfl,Dn.now (Q:=Q) h rl (.da (.int _))⟩
 ·rename_i b j
  cases r1.bl_inv;cases r2.int_inv
  exact a18 pins sh σ H _ _ v u Q I rx ry ⟨b01 b,j,rfl,rfl,Dn.now (Q:=Q) h rl (.da (.int _))⟩
 ·rename_i i b
  cases r1.int_inv;cases r2.bl_inv
  exact a0d pins sh σ H _ _ v u Q I rx ry ⟨i,b01 b,rfl,rfl,Dn.now (Q:=Q) h rl (.da (.int _))⟩
 ·exact h.elim
instance (i j:Int):Decidable (ajt i j):=by unfold ajt;infer_instance
instance (i j:Int):Decidable (asf i j):=by unfold asf;infer_instance
instance (i j:Int):Decidable (arj i j):=by unfold arj;infer_instance
noncomputable def gI2(C:Int -> Int -> Prop)[∀i j,Decidable (C i j)](f:Int -> Int -> Int)(dx dy:D)(s:S):R D:=match dx,dy with
 |.int i,.int j=> if C i j then .ok (.int (f i j)) s else .bad
 |_,_=>.bad
theorem alf{op:Operator}{C:Int -> Int -> Prop}[∀i j,Decidable (C i j)]{f:Int -> Int -> Int}(o:OpR X (binaryOp op) (rI C fun i j=>.int (f i j))):Op2 X (binaryOp op) (gI2 C f):=qj fun pins sh σ H as s x y dx dy v u Q I rl r1 r2 rx ry h=> by
 unfold gI2 at h
 split at h
 ·rename_i i j
  split at h
  ·rename_i hc
   cases r1.int_inv;cases r2.int_inv
   exact o pins sh σ H _ _ v u Q I rx ry ⟨i,j,rfl,rfl,hc,Dn.now (Q:=Q) h rl (.da (.int _))⟩
  ·exact h.elim
 ·exact h.elim
def aal:D -> D -> S -> R D:=gI2 ajt fun i j=> i*j
def aje:D -> D -> S -> R D:=gI2 asf fun i j=> i/j
def abc:D -> D -> S -> R D:=gI2 (fun _ j=> 0 < j) fun i j=> i % j
def ajm:D -> D -> S -> R D:=gI2 arj fun i j=> i^j.toNat
theorem a6g:Op2 X (binaryOp .Mult) aal:=alf a4k
theorem a6l:Op2 X (binaryOp .FloorDiv) aje:=alf az9
theorem a75:Op2 X (binaryOp .Mod) abc:=alf a4f
theorem a6m:Op2 X (binaryOp .Pow) ajm:=alf a2q
noncomputable def gC2(f:Int -> Int -> Bool)(dx dy:D)(s:S):R D:=match dx,dy with
 |.int i,.int j=>.ok (.bl (f i j)) s
 |_,_=>.bad
theorem aqe{f:Int -> Int -> Bool}(o:OpR X (aY op) (rI0 fun i j=>.bl (f i j))):Op2 X (aY op) (gC2 f):=qj fun pins sh σ H as s x y dx dy v u Q I rl r1 r2 rx ry h=> by
 unfold gC2 at h
 split at h
 ·rename_i i j
  cases r1.int_inv;cases r2.int_inv
  exact o pins sh σ H _ _ v u Q I rx ry ⟨i,j,rfl,rfl,Dn.now (Q:=Q) h rl (.da (.bl _))⟩
 ·exact h.elim
def gLe:D -> D -> S -> R D:=gC2 fun i j=> decide (i <=j)
def gGt:D -> D -> S -> R D:=gC2 fun i j=> decide (j < i)
def gGe:D -> D -> S -> R D:=gC2 fun i j=> decide (j <=i)
noncomputable def gLt(dx dy:D)(s:S):R D:=match dx,dy with
 |.int i,.int j=>.ok (.bl (decide (i < j))) s
 |.str a,.str b=>.ok (.bl (decide (a.cps.toList < b.cps.toList))) s
 |_,_=>.bad
theorem a7s:Op2 X (aY .LtE) gLe:=aqe a61
theorem a8g:Op2 X (aY .Gt) gGt:=aqe a71
theorem a7q:Op2 X (aY .GtE) gGe:=aqe a6k
theorem a87:Op2 X (aY .Lt) gLt:=qj fun pins sh σ H as s x y dx dy v u Q I rl r1 r2 rx ry h=> by
 unfold gLt at h
 split at h
 ·rename_i i j
  cases r1.int_inv;cases r2.int_inv
  exact a5p pins sh σ H _ _ v u Q I rx ry ⟨i,j,rfl,rfl,Dn.now (Q:=Q) h rl (.da (.bl _))⟩
 ·rename_i a b
  cases r1.str_inv;cases r2.str_inv
  exact aux pins sh σ H _ _ v u Q I rx ry ⟨a,b,rfl,rfl,Dn.now (Q:=Q) h rl (.da (.bl _))⟩
 ·exact h.elim
noncomputable def isN:D -> Bool
 |.non=> true
 |_=> false
theorem a5a{d:D}(r:RD K as H v d):decide (v=.non)=isN d:=by
 cases r with
 |da t=> cases t <;> rfl
 |_=> rfl
def gIs(dx dy:D)(s:S):R D:=match dy with
 |.non=>.ok (.bl (isN dx)) s
 |_=>.bad
theorem RD.non_inv(h:RD K as H v .non):v=.non:=by
 cases h with|da t=> cases t;rfl
theorem a8e:Op2 X (aY .Is) gIs:=qj fun pins sh σ H as s x y dx dy v u Q I rl r1 r2 rx ry h=> by
 unfold gIs at h
 split at h
 ·cases r2.non_inv
  refine a1y pins sh σ H _ _ v u Q I rx ry ⟨rfl,?_⟩
  rw [a5a r1]
  exact Dn.now (Q:=Q) h rl (.da (.bl _))
 ·exact h.elim
def afw(f:FE):FE:=fun ρ s=> (f ρ s).bind fun d s1=> match d with
 |.int i=>.ok (.int (-i)) s1
 |_=>.bad
theorem bax{a:Expr}(h:RE X a fa):RE X (.UnaryOp .USub a pos) (afw fa):=by
 obtain⟨t,p,r⟩:=h.ex
 refine⟨_,a6q a2y p,fun as σ H ρ s Q rl en h=> ?_⟩
 refine r as σ H ρ s _ rl en (Dn.bind h fun d s1 as1 H1 v st1 rl1 r1 h1=> ?_)
 split at h1
 ·cases r1.int_inv
  exact⟨_,rfl,Dn.now (Q:=Q) h1 rl1 (.da (.int _))⟩
 ·exact h1.elim
noncomputable def afm(s:S):D -> Option (List D)
 |.lst ds=> some (ds.map D.da)
 |.tup ds=> some (ds.map D.da)
 |.con ds=> some (ds.map D.da)
 |.frz ds=> some (ds.map D.da)
 |.ref n=> match s[n]? with
  |some (.lst ds)=> some ds
  |_=> none
 |_=> none
theorem ae1{d:D}{ds:List D}(rl:Rel K as H s)(r:RD K as H v d)(h:afm s d=some ds): ∃p xs,v=.ref p/\(SqL K H p xs\/SqT K H p xs)/\RDs K as H xs ds:=by
 cases r with
 |da t=>
  cases t with
  |lst n e q=> cases h;exact⟨_,_,rfl,.inl (SqL.of e),q.rd⟩
  |tup n e q=> cases h;exact⟨_,_,rfl,.inr (SqT.of e),q.rd⟩
  |_=> cases h
 |con q r=> cases h;exact⟨_,_,rfl,.inr (q H),r.rd⟩
 |frz q r=> cases h;exact⟨_,_,rfl,.inl (q as H (Step.refl _ _).toStep0),r.rd⟩
 | @ref p n l hr=>
  have h:(match s[n]? with|some (O.lst ds)=> some ds|_=> none)=some ds:=h
  split at h
  ·rename_i ys e
   cases h
   obtain⟨_,xs,hx,rs⟩:=abj rl hr e
   exact⟨p,xs,rfl,.inl (SqL.of hx),rs⟩
  ·cases h
 |_=> cases h
theorem RDs.atI{xs:List V}{ds:List D}{i:Int}{d:D}(r:RDs K as H xs ds)(h:atI ds i=some d): ∃v,atI xs i=some v/\RD K as H v d:=by
 unfold L2.atI at h⊢
 rw [r.length]
 cases q:ixN ds.length i with
 |none=> rw [q]at h;cases h
 |some j=>
  rw [q]at h
  obtain⟨v,hv,rv⟩:=r.get (show ds[j]?=some d from h)
  exact⟨v,hv,rv⟩
def gIx(dx dy:D)(s:S):R D:=match dx,dy with
 | .str z,.int i=> if z.length <=sizeLine then match atI z.cps.toList i with
   |some c=>.ok (.str ⟨#[c]⟩) s
   |none=>.bad
  else .bad
 | dx,.int i=> match afm s dx with
  |some ds=> match atI ds i with
   |some d=>.ok d s
   |none=>.bad
  |none=>.bad
 |_,_=>.bad
theorem a2n:alp K (rIx K) gIx:=by
 intro as H s x y dx dy Q rl r1 r2 h
 unfold gIx at h
 split at h
 ·rename_i z i
  cases r1.str_inv;cases r2.int_inv
  split at h
  ·rename_i hz
   split at h
   ·rename_i c e
    exact .inr (.inr ⟨z,i,c,rfl,rfl,hz,e,Dn.now (Q:=Q) h rl (.da (.str _))⟩)
   ·exact h.elim
  ·exact h.elim
 ·rename_i i _
  cases r2.int_inv
  split at h
  ·rename_i ds e
   split at h
   ·rename_i d e2
    obtain⟨p,xs,rfl,sq,rs⟩:=ae1 rl r1 e
    obtain⟨v,hv,rv⟩:=rs.atI e2
    rcases sq with sq|sq
    ·exact .inl ⟨p,xs,i,v,rfl,rfl,sq,hv,Dn.now (Q:=Q) h rl rv⟩
    ·exact .inr (.inl ⟨p,xs,i,v,rfl,rfl,sq,hv,Dn.now (Q:=Q) h rl rv⟩)
   ·exact h.elim
  ·exact h.elim
 ·exact h.elim
theorem bcp{a b:Expr}{fb:FE}(ha:RE X a fa)(hb:RE X b fb)(hs:aq0 b:=by exact fun _ _=> rfl):RE X (.Subscript a b pos) (fOp gIx fa fb):=by
 obtain⟨ta,pa,ra⟩:=ha.ex
 obtain⟨tb,pb,rb⟩:=hb.ex
 exact⟨_,a6h a22 pa pb hs,aif a2n ra rb⟩
def qw{α:Type}(xs:List α)(lo hi:Option Int):List α:=(xs.drop (HT.sIx xs.length 0 lo)).take (HT.sIx xs.length xs.length hi - HT.sIx xs.length 0 lo)
theorem RDs.cut{xs:List V}{ds:List D}(r:RDs K as H xs ds)(lo hi:Option Int):RDs K as H (aaf xs lo hi) (qw ds lo hi):=by
 unfold aaf qw
 rw [r.length]
 exact (r.drop _).take _
theorem TDs.cut{xs:List V}(r:TDs as H xs ds)(lo hi:Option Int):TDs as H (aaf xs lo hi) (qw ds lo hi):=by
 unfold aaf qw
 rw [r.length]
 exact (r.drop _).take _
noncomputable def aa2(z:Str)(lo hi:Option Int):Str:=if ((cX lo hi 1 z.length).length==z.length)=true then z else ⟨((cX lo hi 1 z.length).filterMap (z.cps[·]?)).toArray⟩
def a80:V -> Option Int -> Option Int -> Hp -> VK -> Prop:=fun x lo hi H Q=> ∃z,x=.str z/\z.length <=sizeLine/\Q (.str (aa2 z lo hi)) H
theorem a0n:SlR X a80:=by
 intro pins s σ H x v vl vu lo hi sl Q I rx hs pl pu h
 obtain⟨z,rfl,hz,q⟩:=h
 obtain⟨t,rfl⟩:=rx
 obtain⟨l,rfl,el⟩:=part_of pl
 obtain⟨u,rfl,eu⟩:=part_of pu
 refine⟨"str",_,PySem.F.slot_str_getitem.lookup,rfl,?_⟩
 have hs':s.heap.IsSlice sl l u none:=by
  obtain⟨o,ho,hc,hd⟩:=hs
  exact⟨o,ho,hc,hd⟩
 refine wpAny_getItem_str_slice hs' rfl ?_
 have ep:gp z l u none=cX lo hi 1 z.length:=by
  unfold gp
  rw [el,eu];rfl
 have hlen:(gp z l u none).length <=z.length:=sliceIndices_le _ _ _
 have hfl:((gp z l u none).filterMap (z.cps[·]?)).length <=z.length:=aJ (fR _ _) hlen
 unfold aa2 at q
 rw [←ep]at q
 unfold sliceMade
 split
 ·rename_i c
  rw [if_pos (by simpa using c)]at q
  exact⟨.str z,H,I,⟨t,rfl⟩,q⟩
 ·rename_i c
  rw [if_neg (by simpa using c)]at q
  have len:(⟨((gp z l u none).filterMap (z.cps[·]?)).toArray⟩:Str).length <=z.length:=by
   show (((gp z l u none).filterMap (z.cps[·]?)).toArray).size <=z.length
   rw [aH];exact hfl
  exact⟨aJ len hz,.str _,H,I.tok _,⟨_,rfl⟩,q⟩
def gSl(m:Bool)(d:D)(lo hi:Option Int)(s:S):R D:=match d with
 |.str z=> if z.length <=sizeLine then .ok (.str (aa2 z lo hi)) s else .bad
 |.tup ds=>.ok (.tup (qw ds lo hi)) s
 |.frz ds=> qy m (qw (ds.map D.da) lo hi) s
 |d=> match toL s d with
  |some ds=> qy m (qw ds lo hi) s
  |none=>.bad
abbrev FO:=En -> S -> R (Option Int)
noncomputable def fNo:FO:=fun _ s=>.ok none s
def kn(f:FE):FO:=fun ρ s=> (f ρ s).bind fun d s1=> match d with
 |.int i=>.ok (some i) s1
 |_=>.bad
def a8f(K:aw)(t:TO)(f:FO):Prop:= ∀as σ H ρ s Q,Rel K as H s -> Envs K as H ρ σ -> Dn K (fun _ _ (b a:Option Int)=> b=a) as H (f ρ s) Q -> t σ H Q
structure ROp (X:Cx) (e:Option Expr) (f:FO):Prop where
 ex: ∃t,PO X e t/\a8f X.K t f
theorem a9k:ROp X none fNo:=⟨_,a0k,fun as σ H ρ s Q rl en h=> Dn.now (Q:=Q) h rl rfl⟩
theorem ba1{a:Expr}(h:RE X a fa):ROp X (some a) (kn fa):=by
 obtain⟨t,p,r⟩:=h.ex
 refine⟨_,a0b p,fun as σ H ρ s Q rl en h=> ?_⟩
 refine r as σ H ρ s _ rl en (Dn.bind h fun d s1 as1 H1 v st1 rl1 r1 h1=> ?_)
 split at h1
 ·cases r1.int_inv
  exact⟨_,rfl,Dn.now (Q:=Q) h1 rl1 rfl⟩
 ·exact h1.elim
def fSl(m:Bool)(f:FE)(lo hi:FO):FE:=fun ρ s=> (f ρ s).bind fun d s1=> (lo ρ s1).bind fun l s2=> (hi ρ s2).bind fun u s3=> gSl m d l u s3
theorem a8h(m:Bool){a:Expr}{lo hi:Option Expr}{fl fu:FO}{p2:Pos}(ha:RE X a fa)(hl:ROp X lo fl)(hu:ROp X hi fu):RE X (.Subscript a (.Slice lo hi none p2) pos) (fSl m fa fl fu):=by
 obtain⟨ta,pa,ra⟩:=ha.ex
 obtain⟨tl,pl,rl'⟩:=hl.ex
 obtain⟨tu,pu,ru⟩:=hu.ex
 refine⟨_,avj (a0n.or (a1h.or axu)) pa pl pu,fun as σ H ρ s Q rl en h=> ?_⟩
 refine ra as σ H ρ s _ rl en (Dn.bind h fun d s1 as1 H1 v st1 rl1 r1 h1=> ?_)
 refine rl' as1 σ H1 ρ s1 _ rl1 (en.mono st1) (Dn.bind h1 fun l s2 as2 H2 l' st2 rl2 e2 h2=> ?_)
 have e2:l'=l:=e2
 subst e2
 refine ru as2 σ H2 ρ s2 _ rl2 ((en.mono st1).mono st2) (Dn.bind h2 fun u s3 as3 H3 u' st3 rl3 e3 h3=> ?_)
 have e3:u'=u:=e3
 subst e3
 have r1:=(r1.mono st2).mono st3
 unfold gSl at h3
 split at h3
 ·cases r1.str_inv
  split at h3
  ·rename_i hz
   exact .inl ⟨_,rfl,hz,Dn.now (Q:=Q) h3 rl3 (.da (.str _))⟩
  ·exact h3.elim
 ·obtain⟨p,xs,rfl,n,e,t⟩:=r1.tup_inv
  refine .inr (.inl ⟨p,xs,rfl,SqT.of e,fun c=> ?_,fun q H' nw=> ?_⟩)
  ·have t2:=t.cut l' u'
   rw [c]at t2
   exact Dn.now (Q:=Q) h3 rl3 (.da (.tup n e t2))
  ·exact h3 (.ref q) as3 H' (kr nw) (rl3.new nw) (.da (.tup (fun z=> rl3.has z nw.no) nw.at ((t.cut l' u').mono (kr nw))))
 ·cases r1 with
  |frz q t=> exact .inr (.inr ⟨_,_,rfl,q as3 H3 (Step.refl _ _).toStep0,fun r H' nw=> acp h3 rl3 (t.rd.cut l' u') nw⟩)
 ·split at h3
  ·rename_i ds e
   obtain⟨p,xs,rfl,hx,rs⟩:=ae8 rl3 r1 e
   exact .inr (.inr ⟨p,xs,rfl,SqL.of hx,fun r H' nw=> acp h3 rl3 (rs.cut l' u') nw⟩)
  ·exact h3.elim
def ar0(fa fs:FE):FE:=fun ρ s=> (fa ρ s).bind fun d s1=> (fs ρ s1).bind fun k s2=> match d,k with
 |.tup ds,.int (-1)=>.ok (.tup ds.reverse) s2
 |_,_=>.bad
theorem bb4{a st:Expr}{fs:FE}{p2:Pos}(ha:RE X a fa)(hs:RE X st fs):RE X (.Subscript a (.Slice none none (some st) p2) pos) (ar0 fa fs):=by
 obtain⟨ta,pa,ra⟩:=ha.ex
 obtain⟨tb,pb,rb⟩:=hs.ex
 refine⟨_,a1v pa pb,fun as σ H ρ s Q rl en h=> ?_⟩
 refine ra as σ H ρ s _ rl en (Dn.bind h fun d s1 as1 H1 v st1 rl1 r1 h1=> ?_)
 refine rb as1 σ H1 ρ s1 _ rl1 (en.mono st1) (Dn.bind h1 fun k s2 as2 H2 w st2 rl2 r2 h2=> ?_)
 split at h2
 ·obtain⟨p,xs,rfl,n,e,t⟩:=(r1.mono st2).tup_inv
  cases r2.int_inv
  refine⟨p,xs,rfl,rfl,SqT.of e,fun q H' nw=> ?_⟩
  exact h2 (.ref q) as2 H' (kr nw) (rl2.new nw) (.da (.tup (fun z=> rl2.has z nw.no) nw.at (t.reverse.mono (kr nw))))
 ·exact h2.elim
def are(d:D)(s:S):R Bool:=match d with
 |.non=>.ok false s
 |.bl b=>.ok b s
 |.int i=>.ok (i !=0) s
 |.str z=> if z.length <=sizeLine then .ok ((z.length:Int) !=0) s else .bad
 |d=> match afm s d with
  |some ds=>.ok (!ds.isEmpty) s
  |none=>.bad
def j3(f:FE):FT:=fun ρ s=> (f ρ s).bind are
theorem RDs.empty{xs:List V}{ds:List D}(r:RDs K as H xs ds):xs.isEmpty=ds.isEmpty:=by cases r <;> rfl
theorem bb1{a:Expr}(h:RE X a fa)(he: ∀whole,isTrue a X.env whole=(do let v←whole;standAt a.pos;holding [v] (truthy v)):=by exact fun _=> rfl):RT X a (j3 fa):=by
 obtain⟨t,p,r⟩:=h.ex
 refine⟨_,awx p he,fun as σ H ρ s Q rl en h=> ?_⟩
 refine r as σ H ρ s _ rl en (Dn.bind h fun d s1 as1 H1 v st1 rl1 r1 h1=> ?_)
 unfold are at h1
 split at h1
 ·cases r1.non_inv;exact⟨false,rfl,Dn.now (Q:=Q) h1 rl1 rfl⟩
 ·cases r1.bl_inv;exact⟨_,rfl,Dn.now (Q:=Q) h1 rl1 rfl⟩
 ·cases r1.int_inv;exact⟨_,rfl,Dn.now (Q:=Q) h1 rl1 rfl⟩
 ·cases r1.str_inv
  split at h1
  ·rename_i hz
   exact⟨_,⟨hz,rfl⟩,Dn.now (Q:=Q) h1 rl1 rfl⟩
  ·exact h1.elim
 ·split at h1
  ·rename_i ds e
   obtain⟨p,xs,rfl,sq,rs⟩:=ae1 rl1 r1 e
   refine⟨!xs.isEmpty,?_,?_⟩
   ·rcases sq with sq|sq
    ·exact .inl ⟨xs,sq,rfl⟩
    ·exact .inr (.inl ⟨xs,sq,rfl⟩)
   ·rw [rs.empty];exact Dn.now (Q:=Q) h1 rl1 rfl
  ·exact h1.elim
structure CB (X:Cx) (f:af) (g:FF):Prop where
 ex: ∃r,vq X f r/\ ∀as H s xs ds Q,Rel X.K as H s -> RDs X.K as H xs ds -> Dn X.K (rD X.K) as H (g ds s) Q -> r xs H Q
theorem adg{f:af}{g:FF}(h: ∀(pins:List (Addr×Obj)) (sh:ak) (σ:St) (H:Hp) (as:As) (s:S) (xs:List V) (ds:List D) (us:List af) (Q:VK),Inv X pins σ H sh -> Rel X.K as H s -> RDs X.K as H xs ds -> jn xs us ->
  Dn X.K (rD X.K) as H (g ds s) Q -> wpAny (model X.prog X.w) X.A (call f us) (EP X pins σ Q) X.xe sh):CB X f g:=
 ⟨fun xs H Q=> ∃as s ds,Rel X.K as H s/\RDs X.K as H xs ds/\Dn X.K (rD X.K) as H (g ds s) Q,fun pins sh σ H xs us Q I r ⟨as,s,ds,rl,rs,q⟩=> h pins sh σ H as s xs ds us Q I rl rs r q,fun as H s xs ds Q rl rs q=> ⟨as,s,ds,rl,rs,q⟩⟩
def fCB(g:FF)(f:FA):FE:=fun ρ s=> (f ρ s).bind g
section
variable{x:Str}{id:String}{g:FF}{f:FA}{e:Expr}{es:List Expr}{p pos:Pos}
theorem asp{r:List V -> Hp -> VK -> Prop}{t:TA}(hr: ∀as H s xs ds Q,Rel K as H s -> RDs K as H xs ds -> Dn K (rD K) as H (g ds s) Q -> r xs H Q)(h:a3q K t f):ab9 K (tCB r t) (fCB g f):=by
 intro as σ H ρ s Q rl en q
 exact h as σ H ρ s _ rl en (Dn.bind q fun ds s1 as1 H1 vs st1 rl1 r1 h1=> hr as1 H1 s1 vs ds Q rl1 r1 h1)
theorem aii(c:CB X (.builtin id) g)(hm:X.mg x=none)(hv:bM x=some (.builtin id))(ha:RA X (e::es) f)(hg:Gl X x:=by rfl)(hn:x≠"__name__":=by decide)(hdb:(x==("__debug__":Str))=false:=by decide)
  (hs:starEach (e::es) X.env=(false,eval e X.env)::starEach es X.env:=by rfl) (hpl:(backTo pos (starEach es X.env)).any (·.1)=false:=by rfl):RE X (.Call (.Name x p) (e::es) [] pos) (fCB g f):=by
 obtain⟨r,hc,hr⟩:=c.ex
 obtain⟨t,pa,ra⟩:=ha.ex
 exact⟨_,am9 hc hg hm hv pa hn hdb hs hpl,asp hr ra⟩
theorem arh(c:CB X (.type id) g)(hm:X.mg x=none)(hv:bM x=some (.type id))(ha:RA X (e::es) f)(hg:Gl X x:=by rfl)(hn:x≠"__name__":=by decide)(hdb:(x==("__debug__":Str))=false:=by decide)
  (hs:starEach (e::es) X.env=(false,eval e X.env)::starEach es X.env:=by rfl) (hpl:(backTo pos (starEach es X.env)).any (·.1)=false:=by rfl):RE X (.Call (.Name x p) (e::es) [] pos) (fCB g f):=by
 obtain⟨r,hc,hr⟩:=c.ex
 obtain⟨t,pa,ra⟩:=ha.ex
 exact⟨_,ak0 hc hg hm hv pa hn hdb hs hpl,asp hr ra⟩
end
def k6(ds:List D)(s:S):R D:=match ds with
 |[.str z]=> if z.length <=sizeLine then .ok (.int z.length) s else .bad
 |[d]=> match afm s d with
  |some xs=>.ok (.int xs.length) s
  |none=>.bad
 |_=>.bad
theorem a6b:CB X (.builtin "len") k6:=adg fun pins sh σ H as s xs ds us Q I rl rs ru h=> by
 unfold k6 at h
 split at h
 ·obtain⟨v,rfl,rv⟩:=rs.one
  cases rv.str_inv
  split at h
  ·rename_i hz
   exact am7 pins sh σ H _ us Q I ru ⟨_,rfl,hz,Dn.now (Q:=Q) h rl (.da (.int _))⟩
  ·exact h.elim
 ·obtain⟨v,rfl,rv⟩:=rs.one
  split at h
  ·rename_i ys e
   obtain⟨p,zs,rfl,sq,rz⟩:=ae1 rl rv e
   refine amr pins sh σ H _ us Q I ru ⟨p,zs,rfl,sq,?_⟩
   rw [rz.length]
   exact Dn.now (Q:=Q) h rl (.da (.int _))
  ·exact h.elim
 ·exact h.elim
def aci(m:Bool)(ds:List D)(s:S):R D:=match ds with
 |[d]=> match afm s d with
  |some xs=> qy m xs s
  |none=>.bad
 |_=>.bad
theorem a3m(m:Bool):CB X (.type "list") (aci m):=adg fun pins sh σ H as s xs ds us Q I rl rs ru h=> by
 unfold aci at h
 split at h
 ·obtain⟨v,rfl,rv⟩:=rs.one
  split at h
  ·rename_i ys e
   obtain⟨p,zs,rfl,sq,rz⟩:=ae1 rl rv e
   exact aqb pins sh σ H _ us Q I ru ⟨p,zs,rfl,sq,fun r H' nw=> acp h rl rz nw⟩
  ·exact h.elim
 ·exact h.elim
def y3(ds:List D)(s:S):R D:=match ds with
 |[.tup xs]=>.ok (.tup xs) s
 |[.frz xs]=>.ok (.tup xs) s
 |[d]=> match toL s d with
  |some xs=> aht xs s
  |none=>.bad
 |_=>.bad
theorem a0r:CB X (.type "tuple") y3:=adg fun pins sh σ H as s xs ds us Q I rl rs ru h=> by
 unfold y3 at h
 split at h
 ·obtain⟨v,rfl,rv⟩:=rs.one
  obtain⟨p,zs,rfl,n,e,t⟩:=rv.tup_inv
  exact adt pins sh σ H _ us Q I ru ⟨p,zs,rfl,.inr ⟨SqT.of e,Dn.now (Q:=Q) h rl (.da (.tup n e t))⟩⟩
 ·obtain⟨v,rfl,rv⟩:=rs.one
  cases rv with
  |frz q t=> exact adt pins sh σ H _ us Q I ru ⟨_,_,rfl,.inl ⟨q as H (Step.refl _ _).toStep0,fun r H' nw=> h (.ref r) as H' (kr nw) (rl.new nw) (.da (.tup (fun z=> rl.has z nw.no) nw.at (t.mono (kr nw))))⟩⟩
 ·obtain⟨v,rfl,rv⟩:=rs.one
  split at h
  ·rename_i ys e
   obtain⟨p,zs,rfl,hx,rz⟩:=ae8 rl rv e
   exact adt pins sh σ H _ us Q I ru ⟨p,zs,rfl,.inl ⟨SqL.of hx,fun r H' nw=> ap1 h rl rz nw⟩⟩
  ·exact h.elim
 ·exact h.elim
def kw (ds:List D) (s:S):R D:=match ds with
 | [d,.ty n]=> if n="str"\/n="int"\/n="bool"\/n="tuple"\/n="list" then match d with
   |.da d=>.ok (.bl (ku d n)) s
   |.ref k=> match s[k]? with
    |some (.lst _)=>.ok (.bl (n=="list")) s
    |_=>.bad
   |_=>.bad
  else .bad
 |_=>.bad
theorem TD.ty(t:TD as H v d):TyOf K H v (.type (tyD d)):=by
 cases t with
 |non=> exact .non
 |bl b=> exact .bl b
 |int i=> exact .int i
 |str x=> exact .str x
 |tup n e w=> exact .tup e
 |lst n e w=> exact .lst e
 |dct n e=> exact .dK e
theorem a6x:CB X (.builtin "isinstance") kw:=adg fun pins sh σ H as s xs ds us Q I rl rs ru h=> by
 unfold kw at h
 split at h
 ·rename_i d n
  obtain⟨v,w,rfl,rv,rw⟩:=rs.two
  obtain⟨u,u2,rfl,ru1,ru2⟩:=vals2 ru
  cases rw
  cases (show u2=bN n from ru2)
  split at h
  ·rename_i hn
   split at h
   ·rename_i d
    cases rv with
    |da t=> exact ajx I ru1 t.ty (auf X.K d n hn) fun tk=> ⟨.bl _,H,I.tok _,rfl,Dn.now (Q:=Q) h rl (.da (.bl _))⟩
   ·rename_i k
    split at h
    ·rename_i ys e
     cases rv with
     |ref l hr=>
      obtain⟨_,zs,hz,_⟩:=abj rl hr e
      exact ajx I ru1 (.lst hz) (auf X.K (.list []) n hn) fun tk=> ⟨.bl _,H,I.tok _,rfl,Dn.now (Q:=Q) h rl (.da (.bl _))⟩
    ·exact h.elim
   ·exact h.elim
  ·exact h.elim
 ·exact h.elim
noncomputable def okS(d:aa):Bool:=d.canLay0&&d.showable&&decide (d.depth <=64)&&decide (d.shown.length <=sizeLine)
abbrev GM:=D -> List D -> S -> R D
def fMt(g:GM)(fo:FE)(fa:FA):FE:=fun ρ s=> (fo ρ s).bind fun d s1=> if (toL s1 d).isSome=true then (fa ρ s1).bind fun ds s2=> g d ds s2 else .bad
structure MB (X:Cx) (id:String) (g:GM):Prop where
 ex: ∃r,MtR X id r/\ ∀as H s x xs d ds Q,Rel X.K as H s -> RD X.K as H x d -> RDs X.K as H xs ds -> Dn X.K (rD X.K) as H (g d ds s) Q -> r x xs H Q
theorem azx{d:D}(rl:Rel K as H s)(r:RD K as H v d)(h:(toL s d).isSome=true):tyV K "list" v H:=by
 cases e:toL s d with
 |none=> rw [e]at h;cases h
 |some ds=>
  obtain⟨p,xs,rfl,hx,_⟩:=ae8 rl r e
  exact .inl ⟨rfl,xs,SqL.of hx⟩
theorem ayf{o:Expr}{fa:FA}{id:String}{g:GM}{apos cpos:Pos}(slot:Slot "list" name id)(hty:typeOf (.builtin id)=pure (.type "method_descriptor"))(hm:MB X id g)(ho:RE X o fo)(ha:RA X (e::es) fa)(hbase:fx o name X.env (eval o X.env)=eval o X.env:=by rfl)(hfew:((backTo cpos (starEach (e::es) X.env)).all (fun x=> !x.1)&&(backToKw cpos (jM [] X.env)).all (fun x=> x.1.isSome)
   &&decide ((e::es).length+([]:List hV).length+(if ([]:List hV).isEmpty then 0 else 1) < 30))=true:=by rfl) (hline:(apos.endLine==cpos.line)=true:=by rfl) (hs:starEach (e::es) X.env=(false,eval e X.env)::starEach es X.env:=by rfl) (hplain:(backTo cpos (starEach es X.env)).any (·.1)=false:=by rfl):
  RE X (.Call (.Attribute o name apos) (e::es) [] cpos) (fMt g fo fa):=by
 obtain⟨r,hr,hg⟩:=hm.ex
 obtain⟨to,po,ro⟩:=ho.ex
 obtain⟨ta,pa,ra⟩:=ha.ex
 refine⟨_,a5w PySem.F.plainAttrs_list slot hty hr po pa hbase hfew hline hs hplain,fun as σ H ρ s Q rl en h=> ?_⟩
 refine ro as σ H ρ s _ rl en (Dn.bind h fun d s1 as1 H1 v st1 rl1 r1 h1=> ?_)
 split at h1
 ·rename_i hl
  refine⟨azx rl1 r1 hl,ra as1 σ H1 ρ s1 _ rl1 (en.mono st1) (Dn.bind h1 fun ds s2 as2 H2 vs st2 rl2 r2 h2=> ?_)⟩
  exact hg as2 H2 s2 v vs d ds Q rl2 (r1.mono st2) r2 h2
 ·exact h1.elim
theorem atg{p:Addr}{o:HO}{H':Hp}{d:D}{ys:List V}{es:List D}{Q:VK}(rl:Rel K as H s)(ha:as.ix[n]?=some (some p))(c:Chg H p (.lst ys) H')(rs:RDs K as H ys es)(rv:RD K as H v d)(h:Dn K (rD K) as H (.ok d (s.set n (.lst es))) Q):Q v H':=by
 have st:=axv (abb.mpr ⟨n,ha⟩) (fun z=> rl.hx p z (abb.mpr ⟨n,ha⟩)) c
 exact h v as H' st (rl.chg ha c ⟨ys,c.at,rs.mono st⟩) (rv.mono st)
noncomputable def onL(d:D)(s:S)(k:Nat -> List D -> R D):R D:=match d with
 |.ref n=> match s[n]? with
  |some (.lst ds)=> k n ds
  |_=>.bad
 |_=>.bad
theorem atz{d:D}{k:Nat -> List D -> R D}{Q:VK}(rl:Rel K as H s)(r:RD K as H v d)(h:Dn K (rD K) as H (onL d s k) Q): ∃p n xs ds,v=.ref p/\as.ix[n]?=some (some p)/\H p=some (.lst xs)/\RDs K as H xs ds/\Dn K (rD K) as H (k n ds) Q:=by
 cases r with
 | @ref p n l hr=>
  have h:Dn K (rD K) as H (match s[n]? with|some (O.lst ds)=> k n ds|_=>.bad) Q:=h
  split at h
  ·rename_i ds e
   obtain⟨ha,xs,hx,rs⟩:=abj rl hr e
   exact⟨p,n,xs,ds,rfl,ha,hx,rs,h⟩
  ·exact h.elim
 |_=> exact h.elim
def k7:GM:=fun d ds s=> match ds with
 |[x]=> onL d s fun n xs=> if xs.length < sizeLine then .ok .non (s.set n (.lst (xs++ [x]))) else .bad
 |_=>.bad
theorem awn:MB X "list.append" k7:=⟨_,arz,fun as H s x xs d ds Q rl r rs h=> by
 unfold k7 at h
 split at h
 ·obtain⟨v,rfl,rv⟩:=rs.one
  obtain⟨p,n,ys,es,rfl,ha,hy,re,h⟩:=atz rl r h
  split at h
  ·rename_i hz
   exact⟨p,ys,v,rfl,rfl,hy,by rw [re.length];exact hz,fun H' c=> atg (o:=.lst []) rl ha c (re.append (.cons rv .nil)) (.da .non) h⟩
  ·exact h.elim
 ·exact h.elim⟩
def acz(o i v:D)(s:S):R D:=match i with
 |.int k=> onL o s fun n xs=> match ixN xs.length k with
  |some j=>.ok .non (s.set n (.lst (xs.set j v)))
  |none=>.bad
 |_=>.bad
def afn(fv fo fi:FE):FS:=fun ρ s=> (fv ρ s).bind fun v s1=> (fo ρ s1).bind fun o s2=> (fi ρ s2).bind fun i s3=> (acz o i v s3).bind fun _ s4=>.ok (.nx ρ) s4
theorem bba{o i:Expr}{fi fv:FE}{pos':Pos}(he:RE X e fv)(ho:RE X o fo)(hi:RE X i fi)(ha: ∀v,assign (.Subscript o i pos') X.env v=(do
   let ov←holding [v] (eval o X.env)
   let iv←holding [v,ov] (eval i X.env)
   standAt pos'
   holding [v,ov,iv] (setItem ov iv v)
   release [v,ov,iv] []):=by intro _;rfl) (hs:kX [.Subscript o i pos'] e pos.line X.env=pure false:=by rfl) (hw:kY [.Subscript o i pos'] e X.env=pure none:=by rfl) (h1:(b6 [.Subscript o i pos'] X.env).map (·.2)=[assign (.Subscript o i pos') X.env]:=by rfl):RS X (.Assign [.Subscript o i pos'] e pos) (afn fv fo fi):=by
 obtain⟨te,pe,re⟩:=he.ex
 obtain⟨to,po,ro⟩:=ho.ex
 obtain⟨ti,pi,ri⟩:=hi.ex
 refine⟨_,av3 pe (a4y po pi av5 ha) hs hw h1,fun as σ H ρ s D rl en h=> ?_⟩
 refine re as σ H ρ s _ rl en (Dn.bind h fun v s1 as1 H1 vv st1 rl1 r1 h1=> ?_)
 refine ro as1 σ H1 ρ s1 _ rl1 (en.mono st1) (Dn.bind h1 fun o s2 as2 H2 ov st2 rl2 r2 h2=> ?_)
 refine ri as2 σ H2 ρ s2 _ rl2 ((en.mono st1).mono st2) (Dn.bind h2 fun i s3 as3 H3 iv st3 rl3 r3 h3=> ?_)
 have en3:=((en.mono st1).mono st2).mono st3
 have h3:Dn X.K (rD X.K) as3 H3 (acz o i v s3) (fun _ H'=> D.nx σ H'):=Dn.bind h3 fun d s4 as4 H4 vv st4 rl4 r4 h4=> Dn.now (b:=FV.nx σ) h4 rl4 (.nx (en3.mono st4))
 unfold acz at h3
 split at h3
 ·cases r3.int_inv
  obtain⟨p,n,xs,ds,rfl,ha,hx,rs,h3⟩:=atz rl3 (r2.mono st3) h3
  split at h3
  ·rename_i j e
   refine⟨p,xs,_,j,rfl,rfl,hx,by rw [rs.length];exact e,fun H' c=> ?_⟩
   exact atg (v:=.non) (o:=.lst []) rl3 ha c (rs.set j ((r1.mono st2).mono st3)) (.da .non) h3
  ·exact h3.elim
 ·exact h3.elim
noncomputable def ab1:List D -> Option (List Str)
 |[]=> some []
 |.str x::r=> match ab1 r with
  |some xs=> some (x::xs)
  |none=> none
 |_=> none
theorem apt: ∀{xs:List V} {ds:List D} {ss:List Str},RDs K as H xs ds -> ab1 ds=some ss -> xs=ss.map V.str/\ds=ss.map D.str
 |_,[],ss,r,h=> by cases r;cases h;exact⟨rfl,rfl⟩
 | _,d::ds,ss,r,h=> by
  cases r with
  | cons r rs=>
   unfold ab1 at h
   split at h
   ·rename_i e;cases e
   ·rename_i x rr e
    cases e
    split at h
    ·rename_i ys e2
     cases h
     obtain⟨h1,h2⟩:=apt rs e2
     cases r.str_inv
     rw [h1,h2];exact⟨rfl,rfl⟩
    ·cases h
   ·cases h
theorem ako: ∀ss:List Str,ab1 (ss.map D.str)=some ss
 |[]=> rfl
 |s::r=> by rw [aN,ab1,ako r]
noncomputable def af8:List D -> Option (List Bool)
 |[]=> some []
 |.bl x::r=> match af8 r with
  |some xs=> some (x::xs)
  |none=> none
 |_=> none
theorem aul: ∀{xs:List V} {ds:List D} {bs:List Bool},RDs K as H xs ds -> af8 ds=some bs -> xs=bs.map V.bl
 |_,[],ss,r,h=> by cases r;cases h;rfl
 | _,d::ds,ss,r,h=> by
  cases r with
  | cons r rs=>
   unfold af8 at h
   split at h
   ·rename_i e;cases e
   ·rename_i x rr e
    cases e
    split at h
    ·rename_i ys e2
     cases h
     have h1:=aul rs e2
     cases r.bl_inv
     rw [h1];rfl
    ·cases h
   ·cases h
def abe(ds:List D)(s:S):R D:=match ds with
 |[d]=> match (toL s d).bind af8 with
  |some bs=>.ok (.bl (bs.all id)) s
  |none=>.bad
 |_=>.bad
theorem a6j(hc:X.calm=true):CB X (.builtin "all") abe:=adg fun pins sh σ H as s xs ds us Q I rl rs ru h=> by
 unfold abe at h
 split at h
 ·obtain⟨v,rfl,rv⟩:=rs.one
  split at h
  ·rename_i bs e
   cases e2:toL s _ with
   |none=> rw [e2]at e;cases e
   |some ys=>
    rw [e2]at e
    obtain⟨p,zs,rfl,hx,rz⟩:=ae8 rl rv e2
    have ez:=aul rz (show af8 ys=some bs from e)
    subst ez
    exact au7 hc pins sh σ H _ us Q I ru ⟨p,bs,rfl,SqL.of hx,Dn.now (Q:=Q) h rl (.da (.bl _))⟩
  ·exact h.elim
 ·exact h.elim
theorem u64(hr:Room k A):A.units+64 < cLine:=by have:=hr.un;lia
theorem u65(hr:Room k A):A.units+65 < cLine:=by have:=hr.un;lia
theorem ao0{as:As}{H:Hp}: ∀ss:List Str,TDs as H (ss.map V.str) (ss.map ag)
 |[]=>.nil
 |s::r=>.cons (.str s) (ao0 r)
theorem azz(ss:List Str)(c:awe X.K X.mg x vs)(e:vs=ss.map V.str:=by rfl)(hg:Gl X x:=by rfl)(hd:(x==("__debug__":Str))=false:=by decide):RE X (.Name x pos) (fC (.con (ss.map ag))):=by
 obtain⟨a,hm,hs⟩:=c
 subst e
 exact ajj (v:=.ref a) (fun as H=>.con hs (ao0 ss)) hm rfl hg hd
noncomputable def a3p:FF:=fun _ _=>.bad
theorem azw(h:Has K mg x st ps)(S:FnScope N ps (jf st))(hn:ps.length=n):CalF P w K mg base x (k+1) n a3p:=by
 refine⟨h.cal S (fun vs H Q E h=> by rw [hn];exact h.1) fun f cdv A outer s H vs Q E hr h=> ?_⟩
 obtain⟨hv,as,ds,s',rl,rs,h⟩:=h
 exact h.elim
def R.Wk{α β:Type}(f:α -> S -> R β)(Q:β -> S -> Prop)(a:α)(s:S):Prop:=(f a s).W Q
theorem R.W_bindk{α β:Type}(r:R α)(f:α -> S -> R β)(Q:β -> S -> Prop):(r.bind f).W Q=r.W (R.Wk f Q):=R.W_bind r f Q
@[simp] theorem R.Wk_app{α β:Type}(f:α -> S -> R β)(Q:β -> S -> Prop)(a:α)(s:S):R.Wk f Q a s=(f a s).W Q:=(rfl)
section
variable{s:S}{m:Bool}{n:Nat}{i j:Int}{x y:Str}{b:Bool}{xs ys:List aa}{ds es:List D}{d e:D}{ρ:En}{Q:D -> S -> Prop}
theorem ki:sizeLine=16777216:=cR
@[simp] theorem a8r:jr m (.int i) (.int j) s=.ok (.int (i+j)) s:=(rfl)
@[simp] theorem a7j:jr m (.bl b) (.int j) s=.ok (.int (b01 b+j)) s:=(rfl)
theorem aag(h:x.length+y.length <=16777216):jr m (.str x) (.str y) s=.ok (.str (x++y)) s:=if_pos (by rw [ki];exact h)
theorem kz(h:xs.length+ys.length <=16777216):jr m (.tup xs) (.tup ys) s=.ok (.tup (xs++ys)) s:=if_pos (by rw [ki];exact h)
theorem ad4(h:xs.length+ys.length <=16777216):jr false (.lst xs) (.lst ys) s=.ok (.lst (xs++ys)) s:=by
 show (if (xs.map D.da).length+(ys.map D.da).length <=sizeLine then qy false (xs.map D.da++ys.map D.da) s else .bad)=_
 rw [if_pos (by rw [ki,au,au];exact h),←jE]
 show (match kg _ with|some xs=> R.ok (D.lst xs) s|none=>.bad)=_
 rw [va]
@[simp] theorem a7m:PF.adq (.int i) (.int j) s=.ok (.int (i - j)) s:=(rfl)
@[simp] theorem a7k:PF.adq (.bl b) (.int j) s=.ok (.int (b01 b - j)) s:=(rfl)
@[simp] theorem a78:PF.adq (.int i) (.bl b) s=.ok (.int (i - b01 b)) s:=(rfl)
theorem aah(h:(-(2^64) < i/\i < 2^64)\/(-(2^64) < j/\j < 2^64)):aal (.int i) (.int j) s=.ok (.int (i*j)) s:=if_pos h
theorem ad9(h:0 < j)(h2:j < 1073741824):aje (.int i) (.int j) s=.ok (.int (i/j)) s:=if_pos ⟨h,h2⟩
theorem yw(h:0 < j):abc (.int i) (.int j) s=.ok (.int (i % j)) s:=if_pos h
theorem ahp(h:0 <=j)(h1:j <=1000000)(h2:i.natAbs < 2^64):ajm (.int i) (.int j) s=.ok (.int (i^j.toNat)) s:=if_pos ⟨h,h1,h2⟩
@[simp] theorem a9y:gLt (.int i) (.int j) s=.ok (.bl (decide (i < j))) s:=(rfl)
@[simp] theorem a9w:gLe (.int i) (.int j) s=.ok (.bl (decide (i <=j))) s:=(rfl)
@[simp] theorem a9n:gGt (.int i) (.int j) s=.ok (.bl (decide (j < i))) s:=(rfl)
@[simp] theorem a9v:gGe (.int i) (.int j) s=.ok (.bl (decide (j <=i))) s:=(rfl)
@[simp] theorem ba7:gIs d .non s=.ok (.bl (isN d)) s:=(rfl)
theorem amc(x y:Str):aE (.str x) (.str y)=decide (x=y):=by
 show (x==y)=_
 (rw [bi,beq_iff_eq,decide_eq_true_eq])
theorem ae5{q:aa}(h1:okD p=true)(h2:okD q=true):gEq (.da p) (.da q) s=.ok (.bl (aE p q)) s:=by
 have e:aqs (.da p) (.da q) s=.ok (.bl (aE p q)) s:=if_pos ⟨h1,h2⟩
 cases p <;> cases q <;> first|exact e|(rw [amc];rfl)
theorem aya:gNe (.str x) (.str y) s=.ok (.bl (!decide (x=y))) s:=(rfl)
theorem at0{q:aa}(h1:okD p=true)(h2:okD q=true):gNe (.da p) (.da q) s=.ok (.bl (!PyData.eqv p q)) s:=by
 have e:ajd (.da p) (.da q) s=.ok (.bl (!PyData.eqv p q)) s:=if_pos ⟨h1,h2⟩
 cases p <;> cases q <;> first|exact e|(rw [amc];rfl)
theorem aoi(h:s[n]?=some (.lst ds))(h2:ds[k]?=some d):gIx (.ref n) (.int (k:Int)) s=.ok d s:=by
 show (match (match s[n]? with|some (O.lst ds)=> some ds|_=> none) with|some ds=> (match atI ds (k:Int) with|some d=> R.ok d s|none=>.bad)|none=>.bad)=_
 rw [h]
 show (match atI ds (k:Int) with|some d=> R.ok d s|none=>.bad)=_
 rw [agd h2]
theorem abp(h2:xs[k]?=some p):gIx (.tup xs) (.int (k:Int)) s=.ok (.da p) s:=by
 show (match atI (xs.map D.da) (k:Int) with|some d=> R.ok d s|none=>.bad)=_
 rw [agd (v:=D.da p) (by rw [a9,h2];rfl)]
theorem zz(h2:xs[k]?=some p):gIx (.lst xs) (.int (k:Int)) s=.ok (.da p) s:=by
 show (match atI (xs.map D.da) (k:Int) with|some d=> R.ok d s|none=>.bad)=_
 rw [agd (v:=D.da p) (by rw [a9,h2];rfl)]
theorem ave(h:s[n]?=some (.lst ds))(h2:k < ds.length):acz (.ref n) (.int (k:Int)) d s=.ok .non (s.set n (.lst (ds.set k d))):=by
 show (match s[n]? with|some (O.lst xs)=> (match ixN xs.length (k:Int) with|some j=> R.ok D.non (s.set n (.lst (xs.set j d)))|none=>.bad)|_=>.bad)=_
 rw [h]
 have:ixN ds.length (k:Int)=some k:=by
  unfold ixN
  rw [if_pos (by lia),if_pos (by lia)]
  rfl
 show (match ixN ds.length (k:Int) with|some j=> R.ok D.non (s.set n (.lst (ds.set j d)))|none=>.bad)=_
 rw [this]
def a4d(g:D -> D -> S -> R D)(fb:FE)(ρ:En)(x:D)(s:S):R D:=(fb ρ s).bind fun y s2=> g x y s2
noncomputable def aq9(g:D -> D -> S -> R D)(x y:D)(s:S):R D:=g x y s
@[simp] theorem a7u{g:D -> D -> S -> R D}{fb:FE}:fOp g fa fb ρ s=(fa ρ s).bind (a4d g fb ρ):=(rfl)
@[simp] theorem bcd{g:D -> D -> S -> R D}{fb:FE}:a4d g fb ρ d s=(fb ρ s).bind (aq9 g d):=(rfl)
@[simp] theorem bct{g:D -> D -> S -> R D}:aq9 g d e s=g d e s:=(rfl)
@[simp] theorem e_c:fC d ρ s=.ok d s:=(rfl)
@[simp] theorem bb9:jb 0 (some d::r) s=.ok d s:=(rfl)
@[simp] theorem bc0:jb 1 (x0::some d::r) s=.ok d s:=(rfl)
@[simp] theorem bc2:jb 2 (x0::x1::some d::r) s=.ok d s:=(rfl)
@[simp] theorem bal:jb 3 (x0::x1::x2::some d::r) s=.ok d s:=(rfl)
@[simp] theorem bc1:jb 4 (x0::x1::x2::x3::some d::r) s=.ok d s:=(rfl)
@[simp] theorem bau:jb 5 (x0::x1::x2::x3::x4::some d::r) s=.ok d s:=(rfl)
@[simp] theorem bai:jb 6 (x0::x1::x2::x3::x4::x5::some d::r) s=.ok d s:=(rfl)
@[simp] theorem bay:jb 7 (x0::x1::x2::x3::x4::x5::x6::some d::r) s=.ok d s:=(rfl)
@[simp] theorem bae:jb 8 (x0::x1::x2::x3::x4::x5::x6::x7::some d::r) s=.ok d s:=(rfl)
@[simp] theorem baj{x8:Option D}:jb 9 (x0::x1::x2::x3::x4::x5::x6::x7::x8::some d::r) s=.ok d s:=(rfl)
@[simp] theorem a9d{x8 x9:Option D}:jb 10 (x0::x1::x2::x3::x4::x5::x6::x7::x8::x9::some d::r) s=.ok d s:=(rfl)
@[simp] theorem ba5{x8 x9 x10:Option D}:jb 11 (x0::x1::x2::x3::x4::x5::x6::x7::x8::x9::x10::some d::r) s=.ok d s:=(rfl)
@[simp] theorem a95{x8 x9 x10 x11:Option D}:jb 12 (x0::x1::x2::x3::x4::x5::x6::x7::x8::x9::x10::x11::some d::r) s=.ok d s:=(rfl)
noncomputable def am3(g:FS)(fl:Fl)(s:S):R Fl:=match fl with
 |.nx ρ1=> g ρ1 s
 |fl=>.ok fl s
@[simp] theorem bcy{f g:FS}:je f g ρ s=(f ρ s).bind (am3 g):=(rfl)
@[simp] theorem bbd{g:FS}:am3 g (.nx ρ) s=g ρ s:=(rfl)
@[simp] theorem bat{g:FS}:am3 g (.rt d) s=.ok (.rt d) s:=(rfl)
noncomputable def a1o(d:D)(s:S):R Fl:=.ok (.rt d) s
@[simp] theorem bca:jj f ρ s=(f ρ s).bind a1o:=(rfl)
@[simp] theorem ba8:a1o d s=.ok (.rt d) s:=(rfl)
@[simp] theorem baa:jl ρ s=.ok (.nx ρ) s:=(rfl)
noncomputable def aqu(ρ:En)(_:D)(s:S):R Fl:=.ok (.nx ρ) s
@[simp] theorem a46:xk f ρ s=(f ρ s).bind (aqu ρ):=(rfl)
@[simp] theorem a9z:aqu ρ d s=.ok (.nx ρ) s:=(rfl)
noncomputable def abd(i:Nat)(ρ:En)(d:D)(s:S):R Fl:=.ok (.nx (ρ.set i (some d))) s
@[simp] theorem bcg{i:Nat}:j5 i f ρ s=(f ρ s).bind (abd i ρ):=(rfl)
@[simp] theorem bbk{i:Nat}:abd i ρ d s=.ok (.nx (ρ.set i (some d))) s:=(rfl)
noncomputable def ax5(f g:FS)(ρ:En)(k:Bool)(s:S):R Fl:=if k=true then f ρ s else g ρ s
@[simp] theorem bcc{c:FT}{f g:FS}:jp c f g ρ s=(c ρ s).bind (ax5 f g ρ):=(rfl)
@[simp] theorem bck{f g:FS}:ax5 f g ρ true s=f ρ s:=(rfl)
@[simp] theorem bd7{f g:FS}:ax5 f g ρ false s=g ρ s:=(rfl)
noncomputable def kIf(f g:FE)(ρ:En)(k:Bool)(s:S):R D:=if k=true then f ρ s else g ρ s
@[simp] theorem bdq{c:FT}{g:FE}:fIf c f g ρ s=(c ρ s).bind (kIf f g ρ):=(rfl)
@[simp] theorem bbc{g:FE}:kIf f g ρ true s=f ρ s:=(rfl)
@[simp] theorem bbh{g:FE}:kIf f g ρ false s=g ρ s:=(rfl)
noncomputable def axx(d:D)(s:S):R Bool:=match d with
 |.bl k=>.ok k s
 |_=>.bad
@[simp] theorem bbv:ji f ρ s=(f ρ s).bind axx:=(rfl)
@[simp] theorem a9l:axx (.bl b) s=.ok b s:=(rfl)
noncomputable def ar4(g:FT)(ρ:En)(c:Bool)(s:S):R Bool:=if c=true then g ρ s else .ok false s
noncomputable def axs(g:FT)(ρ:En)(c:Bool)(s:S):R Bool:=if c=true then .ok true s else g ρ s
noncomputable def ay3(c:Bool)(s:S):R Bool:=.ok (!c) s
@[simp] theorem bbx{f g:FT}:adc f g ρ s=(f ρ s).bind (ar4 g ρ):=(rfl)
@[simp] theorem bd8{f g:FT}:kf f g ρ s=(f ρ s).bind (axs g ρ):=(rfl)
@[simp] theorem bb6{f:FT}:jq f ρ s=(f ρ s).bind ay3:=(rfl)
@[simp] theorem a9e{g:FT}:ar4 g ρ true s=g ρ s:=(rfl)
@[simp] theorem a93{g:FT}:ar4 g ρ false s=.ok false s:=(rfl)
@[simp] theorem bao{g:FT}:axs g ρ true s=.ok true s:=(rfl)
@[simp] theorem bbb{g:FT}:axs g ρ false s=g ρ s:=(rfl)
@[simp] theorem a9q:ay3 b s=.ok (!b) s:=(rfl)
noncomputable def axq(g:FE)(ρ:En)(d:D)(s:S):R D:=match d with
 |.bl true=> g ρ s
 |.bl false=>.ok (.bl false) s
 |_=>.bad
noncomputable def kOr(g:FE)(ρ:En)(d:D)(s:S):R D:=match d with
 |.bl false=> g ρ s
 |.bl true=>.ok (.bl true) s
 |_=>.bad
@[simp] theorem bcq{g:FE}:yt f g ρ s=(f ρ s).bind (axq g ρ):=(rfl)
@[simp] theorem bdk{g:FE}:fOr f g ρ s=(f ρ s).bind (kOr g ρ):=(rfl)
@[simp] theorem baq{g:FE}:axq g ρ (.bl true) s=g ρ s:=(rfl)
@[simp] theorem bas{g:FE}:axq g ρ (.bl false) s=.ok (.bl false) s:=(rfl)
@[simp] theorem bc9{g:FE}:kOr g ρ (.bl true) s=.ok (.bl true) s:=(rfl)
@[simp] theorem bc7{g:FE}:kOr g ρ (.bl false) s=g ρ s:=(rfl)
def apu(g g':D -> D -> S -> R D)(fb fc:FE)(ρ:En)(x:D)(s:S):R D:=(fb ρ s).bind fun y s2=> (g x y s2).bind fun z s3=> match z with
 |.bl true=> (fc ρ s3).bind fun w s4=> g' y w s4
 |.bl false=>.ok (.bl false) s3
 |_=>.bad
def apk(g g':D -> D -> S -> R D)(fc:FE)(ρ:En)(x y:D)(s:S):R D:=(g x y s).bind fun z s3=> match z with
 |.bl true=> (fc ρ s3).bind fun w s4=> g' y w s4
 |.bl false=>.ok (.bl false) s3
 |_=>.bad
def ajk(g':D -> D -> S -> R D)(fc:FE)(ρ:En)(y z:D)(s:S):R D:=match z with
 |.bl true=> (fc ρ s).bind fun w s4=> g' y w s4
 |.bl false=>.ok (.bl false) s
 |_=>.bad
@[simp] theorem a9j{g g':D -> D -> S -> R D}{fb fc:FE}:abz g g' fa fb fc ρ s=(fa ρ s).bind (apu g g' fb fc ρ):=(rfl)
@[simp] theorem a8d{g g':D -> D -> S -> R D}{fb fc:FE}:apu g g' fb fc ρ d s=(fb ρ s).bind (apk g g' fc ρ d):=(rfl)
@[simp] theorem a7p{g g':D -> D -> S -> R D}{fc:FE}:apk g g' fc ρ d e s=(g d e s).bind (ajk g' fc ρ e):=(rfl)
@[simp] theorem a7x{g':D -> D -> S -> R D}{fc:FE}:ajk g' fc ρ e (.bl true) s=(fc ρ s).bind (aq9 g' e):=(rfl)
@[simp] theorem a8u{g':D -> D -> S -> R D}{fc:FE}:ajk g' fc ρ e (.bl false) s=.ok (.bl false) s:=(rfl)
def au5(g:FA)(ρ:En)(x:D)(s:S):R (List D):=(g ρ s).bind fun xs s2=>.ok (x::xs) s2
noncomputable def amp(x:D)(xs:List D)(s:S):R (List D):=.ok (x::xs) s
@[simp] theorem bcf:jc ρ s=.ok [] s:=(rfl)
@[simp] theorem bdr:fVs ds ρ s=.ok ds s:=(rfl)
@[simp] theorem bb8{g:FA}:ja f g ρ s=(f ρ s).bind (au5 g ρ):=(rfl)
@[simp] theorem a9h{g:FA}:au5 g ρ d s=(g ρ s).bind (amp d):=(rfl)
@[simp] theorem aji:amp d ds s=.ok (d::ds) s:=(rfl)
def aeu(ds:List D)(s:S):R D:=if ds.length <=sizeLine then aht ds s else .bad
def ab5(m:Bool)(ds:List D)(s:S):R D:=if ds.length <=sizeLine then qy m ds s else .bad
@[simp] theorem bcw{f:FA}:j2 f ρ s=(f ρ s).bind aeu:=(rfl)
@[simp] theorem bd6{f:FA}:kv m f ρ s=(f ρ s).bind (ab5 m):=(rfl)
theorem a05(h:kg ds=some xs)(hl:ds.length <=16777216):aeu ds s=.ok (.tup xs) s:=by
 unfold aeu aht
 rw [if_pos (by rw [ki];exact hl),h]
theorem a13(h:kg ds=some xs)(hl:ds.length <=16777216):ab5 false ds s=.ok (.lst xs) s:=by
 unfold ab5 qy
 rw [if_pos (by rw [ki];exact hl),if_neg aF,h]
@[simp] theorem bdj:aeu [] s=.ok (.tup []) s:=(rfl)
@[simp] theorem bdc:ab5 false [] s=.ok (.lst []) s:=(rfl)
@[simp] theorem bcj:ab5 true [] s=.ok (.ref s.length) (s++ [.lst []]):=(rfl)
@[simp] theorem bdi:aeu [.da a] s=.ok (.tup [a]) s:=(rfl)
@[simp] theorem bda{b:aa}:aeu [.da a,.da b] s=.ok (.tup [a,b]) s:=(rfl)
@[simp] theorem bdp{b c d:aa}:aeu [.da a,.da b,.da c,.da d] s=.ok (.tup [a,b,c,d]) s:=(rfl)
@[simp] theorem bdh:ab5 false [.da a] s=.ok (.lst [a]) s:=(rfl)
@[simp] theorem bdg{b:aa}:ab5 false [.da a,.da b] s=.ok (.lst [a,b]) s:=(rfl)
@[simp] theorem bdm{b c:aa}:ab5 false [.da a,.da b,.da c] s=.ok (.lst [a,b,c]) s:=(rfl)
@[simp] theorem bdf{b c d:aa}:ab5 false [.da a,.da b,.da c,.da d] s=.ok (.lst [a,b,c,d]) s:=(rfl)
def a4h(m:Bool)(lo hi:FO)(ρ:En)(d:D)(s:S):R D:=(lo ρ s).bind fun l s2=> (hi ρ s2).bind fun u s3=> gSl m d l u s3
def a4l(m:Bool)(hi:FO)(ρ:En)(d:D)(l:Option Int)(s:S):R D:=(hi ρ s).bind fun u s3=> gSl m d l u s3
def a2e(m:Bool)(d:D)(l u:Option Int)(s:S):R D:=gSl m d l u s
@[simp] theorem bdo{lo hi:FO}:fSl m f lo hi ρ s=(f ρ s).bind (a4h m lo hi ρ):=(rfl)
@[simp] theorem bci{lo hi:FO}:a4h m lo hi ρ d s=(lo ρ s).bind (a4l m hi ρ d):=(rfl)
@[simp] theorem bd9{hi:FO}{l:Option Int}:a4l m hi ρ d l s=(hi ρ s).bind (a2e m d l):=(rfl)
@[simp] theorem bcu{l u:Option Int}:a2e m d l u s=gSl m d l u s:=(rfl)
@[simp] theorem bdb:fNo ρ s=.ok none s:=(rfl)
noncomputable def ayg(d:D)(s:S):R (Option Int):=match d with
 |.int i=>.ok (some i) s
 |_=>.bad
@[simp] theorem bc3:kn f ρ s=(f ρ s).bind ayg:=(rfl)
@[simp] theorem ba0:ayg (.int i) s=.ok (some i) s:=(rfl)
def ayi(fs:FE)(ρ:En)(d:D)(s:S):R D:=(fs ρ s).bind fun k s2=> match d,k with
 |.tup ds,.int (-1)=>.ok (.tup ds.reverse) s2
 |_,_=>.bad
noncomputable def ay2(d k:D)(s:S):R D:=match d,k with
 |.tup ds,.int (-1)=>.ok (.tup ds.reverse) s
 |_,_=>.bad
@[simp] theorem bcm{g:FE}:ar0 f g ρ s=(f ρ s).bind (ayi g ρ):=(rfl)
@[simp] theorem ban{g:FE}:ayi g ρ d s=(g ρ s).bind (ay2 d):=(rfl)
@[simp] theorem bab:ay2 (.tup xs) (.int (-1)) s=.ok (.tup xs.reverse) s:=(rfl)
noncomputable def a2g(d:D)(s:S):R D:=match d with
 |.int i=>.ok (.int (-i)) s
 |_=>.bad
@[simp] theorem bch:afw f ρ s=(f ρ s).bind a2g:=(rfl)
@[simp] theorem bbi:a2g (.int i) s=.ok (.int (-i)) s:=(rfl)
@[simp] theorem bce:j3 f ρ s=(f ρ s).bind are:=(rfl)
@[simp] theorem bbo:are (.bl b) s=.ok b s:=(rfl)
@[simp] theorem bdd{g:FF}{f:FA}:fCB g f ρ s=(f ρ s).bind g:=(rfl)
noncomputable def agh(n:Nat)(F:FF)(ds:List D)(s:S):R D:=if ds.length=n then F ds s else .bad
@[simp] theorem bb0{F:FF}{f:FA}:jd n F f ρ s=(f ρ s).bind (agh n F):=(rfl)
@[simp] theorem a9o{F:FF}:agh 1 F [d] s=F [d] s:=(rfl)
@[simp] theorem a9a{F:FF}:agh 2 F [d,e] s=F [d,e] s:=(rfl)
@[simp] theorem a97{F:FF}{d3:D}:agh 3 F [d,e,d3] s=F [d,e,d3] s:=(rfl)
@[simp] theorem a98{F:FF}{d3 d4:D}:agh 4 F [d,e,d3,d4] s=F [d,e,d3,d4] s:=(rfl)
@[simp] theorem a94{F:FF}{d3 d4 d5:D}:agh 5 F [d,e,d3,d4,d5] s=F [d,e,d3,d4,d5] s:=(rfl)
@[simp] theorem a9x:k6 [.tup xs] s=.ok (.int xs.length) s:=by show R.ok (D.int (xs.map D.da).length) s=_;rw [au]
@[simp] theorem a9g:k6 [.lst xs] s=.ok (.int xs.length) s:=by show R.ok (D.int (xs.map D.da).length) s=_;rw [au]
theorem len_str(h:x.length <=16777216):k6 [.str x] s=.ok (.int x.length) s:=if_pos (by rw [ki];exact h)
@[simp] theorem a7y:aci false [.tup xs] s=.ok (.lst xs) s:=by
 show (match kg (xs.map D.da) with|some xs=> R.ok (D.lst xs) s|none=>.bad)=_
 rw [va]
@[simp] theorem a7i:y3 [.lst xs] s=.ok (.tup xs) s:=by
 show (match kg (xs.map D.da) with|some xs=> R.ok (D.tup xs) s|none=>.bad)=_
 rw [va]
@[simp] theorem a9b:kw [.da p,.ty "tuple"] s=.ok (.bl (ku p "tuple")) s:=(rfl)
@[simp] theorem ba3:kw [.da p,.ty "int"] s=.ok (.bl (ku p "int")) s:=(rfl)
@[simp] theorem aj1:kw [.da p,.ty "str"] s=.ok (.bl (ku p "str")) s:=(rfl)
@[simp] theorem asz{lo hi:Option Int}:gSl m (.tup xs) lo hi s=.ok (.tup (qw xs lo hi)) s:=(rfl)
theorem amj{α β:Type}(f:α -> β)(l:List α)(lo hi:Option Int):qw (l.map f) lo hi=(qw l lo hi).map f:=by
 unfold qw
 rw [au,List.map_take,List.map_drop]
@[simp] theorem bbg{lo hi:Option Int}:gSl false (.frz xs) lo hi s=.ok (.lst (qw xs lo hi)) s:=by
 show (match kg (qw (xs.map D.da) lo hi) with|some xs=> R.ok (D.lst xs) s|none=>.bad)=_
 rw [amj,va]
theorem aau{lo hi:Option Int}(h:x.length <=16777216):gSl m (.str x) lo hi s=.ok (.str (aa2 x lo hi)) s:=if_pos (by rw [ki];exact h)
noncomputable def jt(fl:Fl)(s:S):R D:=match fl with
 |.rt d=>.ok d s
 |.nx _=>.ok .non s
 |_=>.bad
@[simp] theorem a9r:jt (.rt d) s=.ok d s:=(rfl)
def aq4(fo fi:FE)(ρ:En)(v:D)(s:S):R Fl:=(fo ρ s).bind fun o s2=> (fi ρ s2).bind fun i s3=> (acz o i v s3).bind fun _ s4=>.ok (.nx ρ) s4
def aq3(fi:FE)(ρ:En)(v o:D)(s:S):R Fl:=(fi ρ s).bind fun i s3=> (acz o i v s3).bind fun _ s4=>.ok (.nx ρ) s4
def apl(ρ:En)(v o i:D)(s:S):R Fl:=(acz o i v s).bind fun _ s4=>.ok (.nx ρ) s4
@[simp] theorem a9p{fv fi:FE}:afn fv fo fi ρ s=(fv ρ s).bind (aq4 fo fi ρ):=(rfl)
@[simp] theorem a8n{fi:FE}:aq4 fo fi ρ d s=(fo ρ s).bind (aq3 fi ρ d):=(rfl)
@[simp] theorem a8j{fi:FE}:aq3 fi ρ d e s=(fi ρ s).bind (apl ρ d e):=(rfl)
@[simp] theorem a8m{o:D}:apl ρ d e o s=(acz e o d s).bind (aqu ρ):=(rfl)
def aqx(g:GM)(fa:FA)(ρ:En)(d:D)(s:S):R D:=if (toL s d).isSome=true then (fa ρ s).bind fun ds s2=> g d ds s2 else .bad
noncomputable def a4z(g:GM)(d:D)(ds:List D)(s:S):R D:=g d ds s
@[simp] theorem a8w{g:GM}{fa:FA}:fMt g fo fa ρ s=(fo ρ s).bind (aqx g fa ρ):=(rfl)
theorem ahy{g:GM}{fa:FA}(h:s[n]?=some (.lst ds)):aqx g fa ρ (.ref n) s=(fa ρ s).bind (a4z g (.ref n)):=by
 unfold aqx
 rw [if_pos]
 ·rfl
 ·show ((match s[n]? with|some (O.lst ds)=> some ds|_=> none):Option (List D)).isSome=true
  rw [h];rfl
@[simp] theorem bcv{g:GM}:a4z g d ds s=g d ds s:=(rfl)
theorem abu(h:s[n]?=some (.lst ds))(hl:ds.length < 16777216):k7 (.ref n) [d] s=.ok .non (s.set n (.lst (ds++ [d]))):=by
 show (match s[n]? with|some (O.lst xs)=> (if xs.length < sizeLine then R.ok D.non (s.set n (.lst (xs++ [d]))) else .bad)|_=>.bad)=_
 rw [h]
 show (if ds.length < sizeLine then _ else _)=_
 rw [if_pos (by rw [ki];exact hl)]
def ag8(g:Tg)(ρ:En)(d:D)(s:S):R Fl:=match qu g d ρ with
 |some ρ1=>.ok (.nx ρ1) s
 |none=>.bad
@[simp] theorem bcb:acy g f ρ s=(f ρ s).bind (ag8 g ρ):=(rfl)
def kFor(g:Tg)(fb:FS)(ρ:En)(p:Wk)(s:S):R Fl:=chk p s (qf g fb p p.1 ρ s)
@[simp] theorem bcn:ab0 fi g fb ρ s=(fi ρ s).bind (kFor g fb ρ):=(rfl)
@[simp] theorem bbj:kFor g fb ρ (ds,none) s=qf g fb (ds,none) ds ρ s:=yo
@[simp] theorem bdn:fIt f ρ s=(f ρ s).bind aeq:=(rfl)
@[simp] theorem bbf:aeq (.lst xs) s=.ok (xs.map D.da,none) s:=(rfl)
@[simp] theorem bbu:aeq (.tup xs) s=.ok (xs.map D.da,none) s:=(rfl)
@[simp] theorem bcr{f:FA}:aac f ρ s=(f ρ s).bind arn:=(rfl)
theorem aa7(h: -(2^62) <=j)(h2:j < 2^62):arn [.int j] s=.ok (v8 0 j.toNat,none) s:=if_pos ⟨h,h2⟩
@[simp] theorem a8p{p:Wk}:qf g fb p [] ρ s=.ok (.nx ρ) s:=(rfl)
def acg(g:Tg)(fb:FS)(p:Wk)(r:List D)(fl:Fl)(s:S):R Fl:=match fl with
 |.nx ρ2=> chk p s (qf g fb p r ρ2 s)
 |.ct ρ2=> chk p s (qf g fb p r ρ2 s)
 |.bk ρ2=>.ok (.nx ρ2) s
 |.rt d=>.ok (.rt d) s
theorem aby{p:Wk}{r:List D}{ρ1:En}(h:qu g d ρ=some ρ1):qf g fb p (d::r) ρ s=(fb ρ1 s).bind (acg g fb p r):=by
 rw [qf,h];rfl
@[simp] theorem azf{r:List D}:acg g fb (ds,none) r (.nx ρ) s=qf g fb (ds,none) r ρ s:=yo
@[simp] theorem ayv{r:List D}:acg g fb (ds,none) r (.ct ρ) s=qf g fb (ds,none) r ρ s:=yo
@[simp] theorem aph{p:Wk}{r:List D}:acg g fb p r (.bk ρ) s=.ok (.nx ρ) s:=(rfl)
@[simp] theorem apz{p:Wk}{r:List D}:acg g fb p r (.rt d) s=.ok (.rt d) s:=(rfl)
def kLc(m:Bool)(js:List Nat)(k:Nat)(g:Tg)(ft:FT)(fe:FE)(ρ:En)(p:Wk)(s:S):R D:=if p.1.length <=sizeLine then chk p s ((kl g ft fe (bH k none++adu ρ js) p p.1 s).bind fun ds s2=> qy m ds s2) else .bad
@[simp] theorem bds:fLc m js k fi g ft fe ρ s=(fi ρ s).bind (kLc m js k g ft fe ρ):=(rfl)
def ala(m:Bool)(ds:List D)(s:S):R D:=qy m ds s
theorem ko(h:ds.length <=16777216)(e:bH k none++adu ρ js=ρ0):kLc m js k g ft fe ρ (ds,none) s=(kl g ft fe ρ0 (ds,none) ds s).bind (ala m):=by
 subst e
 unfold kLc
 rw [if_pos (by rw [ki];exact h),yo];rfl
@[simp] theorem amn:ala false (xs.map D.da) s=.ok (.lst xs) s:=by
 show (match kg _ with|some xs=> R.ok (D.lst xs) s|none=>.bad)=_
 rw [va]
@[simp] theorem bak:ala true ds s=.ok (.ref s.length) (s++ [.lst ds]):=(rfl)
@[simp] theorem awy{p:Wk}:kl g ft fe ρ p [] s=.ok [] s:=(rfl)
def an3(g:Tg)(ft:FT)(fe:FE)(ρ0:En)(p:Wk)(r:List D)(ρ1:En)(b:Bool)(s2:S):R (List D):=if b=true then (fe ρ1 s2).bind fun x s3=> chk p s3 ((kl g ft fe ρ0 p r s3).bind fun xs s4=>.ok (x::xs) s4) else chk p s2 (kl g ft fe ρ0 p r s2)
def av7(g:Tg)(ft:FT)(fe:FE)(ρ0:En)(p:Wk)(r:List D)(x:D)(s3:S):R (List D):=chk p s3 ((kl g ft fe ρ0 p r s3).bind fun xs s4=>.ok (x::xs) s4)
theorem adb{p:Wk}{r:List D}{ρ1:En}(h:qu g d ρ=some ρ1):kl g ft fe ρ p (d::r) s=(ft ρ1 s).bind (an3 g ft fe ρ p r ρ1):=by
 rw [kl,h];rfl
@[simp] theorem aie{p:Wk}{r:List D}{ρ1:En}:an3 g ft fe ρ p r ρ1 true s=(fe ρ1 s).bind (av7 g ft fe ρ p r):=(rfl)
@[simp] theorem ana{r:List D}{ρ1:En}:an3 g ft fe ρ (ds,none) r ρ1 false s=kl g ft fe ρ (ds,none) r s:=yo
@[simp] theorem anr{r:List D}:av7 g ft fe ρ (ds,none) r d s=(kl g ft fe ρ (ds,none) r s).bind (amp d):=yo
@[simp] theorem aqw:kx ρ s=.ok true s:=(rfl)
theorem bdl{a0 a1 a2 a3 a4:aa}:aeu [.da a0,.da a1,.da a2,.da a3,.da a4] s=.ok (.tup [a0,a1,a2,a3,a4]) s:=(rfl)
theorem bde{a0 a1 a2 a3 a4 a5:aa}:ab5 false [.da a0,.da a1,.da a2,.da a3,.da a4,.da a5] s=.ok (.lst [a0,a1,a2,a3,a4,a5]) s:=(rfl)
theorem bcl:ab5 true [a0,a1,a2] s=.ok (.ref s.length) (s++ [.lst [a0,a1,a2]]):=(rfl)
theorem bcx{a3 a4:D}:ab5 true [a0,a1,a2,a3,a4] s=.ok (.ref s.length) (s++ [.lst [a0,a1,a2,a3,a4]]):=(rfl)
theorem a9t(h:xs.length <=16777216):ab5 false (xs.map D.da) s=.ok (.lst xs) s:=a13 (va xs) (by rw [au];exact h)
theorem a9u(h:xs.length <=16777216):aeu (xs.map D.da) s=.ok (.tup xs) s:=a05 (va xs) (by rw [au];exact h)
theorem it0{a0:aa}{r:List aa}:gIx (.tup (a0::r)) (.int 0) s=.ok (.da a0) s:=abp (k:=0) rfl
theorem il0{a0:aa}{r:List aa}:gIx (.lst (a0::r)) (.int 0) s=.ok (.da a0) s:=zz (k:=0) rfl
theorem it1{a0 a1:aa}{r:List aa}:gIx (.tup (a0::a1::r)) (.int 1) s=.ok (.da a1) s:=abp (k:=1) rfl
theorem il1{a0 a1:aa}{r:List aa}:gIx (.lst (a0::a1::r)) (.int 1) s=.ok (.da a1) s:=zz (k:=1) rfl
theorem it2{a0 a1 a2:aa}{r:List aa}:gIx (.tup (a0::a1::a2::r)) (.int 2) s=.ok (.da a2) s:=abp (k:=2) rfl
theorem it3{a0 a1 a2 a3:aa}{r:List aa}:gIx (.tup (a0::a1::a2::a3::r)) (.int 3) s=.ok (.da a3) s:=abp (k:=3) rfl
theorem a6p{y:Option D}:qu (.nm 0) d (y::r)=some (some d::r):=(rfl)
theorem baf{y:Option D}:abd 1 (x0::y::r) d s=.ok (.nx (x0::some d::r)) s:=(rfl)
theorem bb5{y:Option D}:abd 2 (x0::x1::y::r) d s=.ok (.nx (x0::x1::some d::r)) s:=(rfl)
theorem a5g{y:Option D}:qu (.nm 2) d (x0::x1::y::r)=some (x0::x1::some d::r):=(rfl)
theorem bb2{y:Option D}:abd 3 (x0::x1::x2::y::r) d s=.ok (.nx (x0::x1::x2::some d::r)) s:=(rfl)
theorem a6e{y:Option D}:qu (.nm 3) d (x0::x1::x2::y::r)=some (x0::x1::x2::some d::r):=(rfl)
theorem bbs{y:Option D}:abd 4 (x0::x1::x2::x3::y::r) d s=.ok (.nx (x0::x1::x2::x3::some d::r)) s:=(rfl)
theorem bb3{y:Option D}:abd 5 (x0::x1::x2::x3::x4::y::r) d s=.ok (.nx (x0::x1::x2::x3::x4::some d::r)) s:=(rfl)
theorem baw{y:Option D}:abd 6 (x0::x1::x2::x3::x4::x5::y::r) d s=.ok (.nx (x0::x1::x2::x3::x4::x5::some d::r)) s:=(rfl)
theorem bbw{y:Option D}:abd 8 (x0::x1::x2::x3::x4::x5::x6::x7::y::r) d s=.ok (.nx (x0::x1::x2::x3::x4::x5::x6::x7::some d::r)) s:=(rfl)
theorem bbz{x8 y:Option D}:abd 9 (x0::x1::x2::x3::x4::x5::x6::x7::x8::y::r) d s=.ok (.nx (x0::x1::x2::x3::x4::x5::x6::x7::x8::some d::r)) s:=(rfl)
theorem ba2{x8 x9 y:Option D}:abd 10 (x0::x1::x2::x3::x4::x5::x6::x7::x8::x9::y::r) d s=.ok (.nx (x0::x1::x2::x3::x4::x5::x6::x7::x8::x9::some d::r)) s:=(rfl)
theorem a99{x8 x9 x10 y:Option D}:abd 11 (x0::x1::x2::x3::x4::x5::x6::x7::x8::x9::x10::y::r) d s=.ok (.nx (x0::x1::x2::x3::x4::x5::x6::x7::x8::x9::x10::some d::r)) s:=(rfl)
theorem ba4{x8 x9 x10 x11 y:Option D}:abd 12 (x0::x1::x2::x3::x4::x5::x6::x7::x8::x9::x10::x11::y::r) d s=.ok (.nx (x0::x1::x2::x3::x4::x5::x6::x7::x8::x9::x10::x11::some d::r)) s:=(rfl)
end
@[simp] theorem R.bind_ok'{α β:Type}(a:α)(s:S)(f:α -> S -> R β):(R.ok a s).bind f=f a s:=(rfl)
@[simp] theorem R.W_ok'{α:Type}(a:α)(s:S)(Q:α -> S -> Prop):(R.ok a s).W Q=Q a s:=(rfl)
def flW(J:En -> S -> Prop)(Q:Fl -> S -> Prop)(fl:Fl)(s:S):Prop:=match fl with
 |.nx ρ=> J ρ s
 |.ct ρ=> J ρ s
 |.bk ρ=> Q (.nx ρ) s
 |.rt d=> Q (.rt d) s
theorem aae{g:Tg}{fb:FS}{all:List D}{Q:Fl -> S -> Prop}(J:List D -> En -> S -> Prop)
  (step: ∀d r ρ s,J (d::r) ρ s -> ∃ρ1,qu g d ρ=some ρ1/\(fb ρ1 s).W (flW (J r) Q)) (fin: ∀ρ s,J [] ρ s -> Q (.nx ρ) s):
  ∀(ds:List D) (ρ:En) (s:S),J ds ρ s -> (qf g fb (all,none) ds ρ s).W Q
 |[],ρ,s,h=> fin ρ s h
 |d::r,ρ,s,h=> by
  obtain⟨ρ1,e,w⟩:=step d r ρ s h
  rw [aby e,R.W_bind]
  refine R.W_mono w fun fl s1 q=> ?_
  cases fl with
  |nx ρ2=> rw [azf];exact aae J step fin r ρ2 s1 q
  |ct ρ2=> rw [ayv];exact aae J step fin r ρ2 s1 q
  |bk ρ2=> rw [aph];exact q
  |rt d=> rw [apz];exact q
theorem aab{g:Tg}{ft:FT}{fe:FE}{ρ0:En}{all:List D}{Q:List D -> S -> Prop}(J:List D -> List D -> S -> Prop)
  (step: ∀d r acc s,J (d::r) acc s -> ∃ρ1,qu g d ρ0=some ρ1/\(ft ρ1 s).W fun b s2=> if b=true then (fe ρ1 s2).W fun x s3=> J r (acc++ [x]) s3 else J r acc s2) (fin: ∀acc s,J [] acc s -> Q acc s):
  ∀(ds acc:List D) (s:S),J ds acc s -> (kl g ft fe ρ0 (all,none) ds s).W fun xs s'=> Q (acc++xs) s'
 |[],acc,s,h=> by
  rw [awy,R.W_ok,bP]
  exact fin acc s h
 | d::r,acc,s,h=> by
  obtain⟨ρ1,e,w⟩:=step d r acc s h
  rw [adb e,R.W_bind]
  refine R.W_mono w fun b s1 q=> ?_
  cases b with
  |false=>
   rw [ana]
   rw [if_neg aF]at q
   exact aab J step fin r acc s1 q
  |true=>
   rw [aie,R.W_bind]
   rw [if_pos rfl]at q
   refine R.W_mono q fun x s2 q2=> ?_
   rw [anr,R.W_bind]
   refine R.W_mono (aab J step fin r (acc++ [x]) s2 q2) fun xs s3 q3=> ?_
   rw [aji,R.W_ok]
   rw [bW]at q3
   exact q3
structure Ext (s s':S):Prop where
 ex: ∃g,s'=s++g
theorem Ext.add(s g:S):Ext s (s++g):=⟨g,rfl⟩
theorem Ext.len(h:Ext s s'):s.length <=s'.length:=by obtain⟨g,rfl⟩:=h.ex;simp
theorem Ext.get(h:Ext s s'){o:O}(e:s[k]?=some o):s'[k]?=some o:=by
 obtain⟨g,rfl⟩:=h.ex
 rw [bd (aC.mp e).1];exact e
theorem Ext.getE(h:Ext s s')(e:k < s.length):s'[k]?=s[k]?:=by
 obtain⟨g,rfl⟩:=h.ex
 rw [bd e]
structure j4 (n:Nat) (s s':S):Prop where
 len:s.length <=s'.length
 get: ∀k,k≠n -> k < s.length -> s'[k]?=s[k]?
theorem j4.refl(n:Nat)(s:S):j4 n s s:=⟨aD _,fun _ _ _=> rfl⟩
theorem j4.trans{a b c:S}(h1:j4 n a b)(h2:j4 n b c):j4 n a c:=⟨aJ h1.len h2.len,fun k hk hl=> (h2.get k hk (aW hl h1.len)).trans (h1.get k hk hl)⟩
theorem Ext.same(h:Ext s s')(n:Nat):j4 n s s':=⟨h.len,fun _ _ hl=> h.getE hl⟩
theorem af2{o:O}:j4 n s (s.set n o):=⟨by simp,fun k hk hl=> bq (di hk)⟩
theorem j4.own{o:O}(h:j4 n s s')(hk:s.length <=k):j4 n s (s'.set k o):=⟨by simpa using h.len,fun j hj hl=> by rw [bq (by lia)];exact h.get j hj hl⟩
theorem ax1{α:Type}{s:List α}{o:α}(e:s[n]?=some o):s.set n o=s:=by
 apply dj
 intro i
 by_cases z:n=i
 ·subst z
  have hl:=(aC.mp e).1
  rw [bI hl,e]
 ·rw [bq z]
structure Nice (B D:Nat) (d:aa):Prop where
 ls:d.leavesShort 13=true
 sh:d.showable=true
 cl:d.canLay0=true
 bk:d.bulk <=B
 dp:d.depth <=D
theorem Nice.okD{D:Nat}(h:Nice B D d)(hd:D <=64):okD d=true:=by
 unfold PF.okD
 rw [am]
 exact⟨h.cl,decide_eq_true (aJ h.dp hd)⟩
noncomputable def aft(x:Str):Bool:=(decide (0 < x.length)&&decide (x.length <=20))&&x.cps.toList.all fun c=> decide (32 <=c)&&decide (c < 127)
theorem awt(h:aft x=true):Nice 20 0 (.str x):=by
 unfold aft at h
 simp only [am,decide_eq_true_eq,ao]at h
 refine⟨?_,rfl,?_,h.1.2,by simp [aA]⟩
 ·simp only [eJ,ao,decide_eq_true_eq]
  intro c hc
  have:=(h.2 c hc).2
  have e16:(16:Nat)^8=4294967296:=by decide
  lia
 ·simp only [c7]
  unfold PyData.strOk
  (rw [←gz,ao])
  intro c hc
  have:=(h.2 c hc).2
  exact decide_eq_true (by lia)
end PF
namespace PF
open PySem PySem.Spec
open L2
open PyProof.Rows (envOfC)
theorem fnF{f:Addr}(F:Fun K x x st f fd)(S:FnScope N ps (jf st)){m:Nat}(hm:N.length=m)(hn:ps.length=n)(hbody: ∀(f:Addr) (cdv:af) (A:bm) (outer:List Env) (s:ak) (H:Hp) (E:XK),Room k (A.deeper (envOfC x (jf st) s.heap.objs.size f cdv)) ->
   RSs (afc CX0 P w K mg base N x (jf st) f cdv A outer s H E).nox (xo st) fb):FnOk P w K mg base CX0 (k+1) f fd ps (spF K n (j7 m fb)):=by
 refine F.ok S (fun vs H Q E h=> by rw [hn];exact h.1) fun cdv A outer s H vs Q E hr h=> ?_
 obtain⟨hv,as,ds,s',rl,rs,h⟩:=h
 obtain⟨t,p,r⟩:=(hbody f cdv A outer s H E hr).ex
 refine⟨t,p,?_⟩
 have en:Envs K as H (ds.map some++bH (m - ds.length) none) (L2.start N vs):=by rw [←hm];exact air rs
 refine r as _ H _ s' _ rl en (Dn.bind h fun fl s1 as1 H1 fv st1 rl1 r1 h1=> ?_)
 cases r1 with
 |nx e=> exact Dn.now (Q:=Q) h1 rl1 (.da .non)
 |rt e=> exact Dn.now (Q:=Q) h1 rl1 e
 |bk e=> exact h1.elim
 |ct e=> exact h1.elim
theorem a4b{f:Addr}{F:FF}(h:FnOk P w K mg base CX0 k f fd ps (spF K 1 F))(ht: ∀ns:List Int,ns.length <=63 -> (F [.frz (ns.map aI)] []).W fun d _=> d=.bl true):FnOk P w K mg base CX0 k f fd ps (ald K):=by
 refine h.imp fun vs H Q E q=> ?_
 obtain⟨a,ns,rfl,hS,hl,hq⟩:=q
 have R0:Rel K ⟨[],[]⟩ H []:=⟨rfl,fun i j p e=> by simp at e,fun n p o e=> by simp at e,fun n o e=> by simp at e,fun p hp=> by simp at hp,fun p hp=> by simp at hp⟩
 refine⟨rfl,⟨[],[]⟩,[.frz (ns.map aI)],[],R0,.cons (.frz (fun as' H' st=> ?_) (TDs.ints ns)) .nil,?_⟩
 ·exact L2.j4.seq (fun b o hb=> st.keep b o (by simp [As.has]) hb) hS
 ·have t:=ht ns hl
  cases hr:F [.frz (ns.map aI)] []with
  |ok d s=>
   rw [hr]at t
   intro b as' H' st rl rb
   have:d=.bl true:=t
   subst this
   cases rb with
   |da z=> cases z;exact hq _
  |bad=> rw [hr]at t;exact t
end PF
namespace PF
open PySem PySem.Spec
open L2
theorem ap8{i:Int}(c: ∃t,X.mg x=some (.int i t))(hg:Gl X x:=by rfl)(hd:(x==("__debug__":Str))=false:=by decide):RE X (.Name x pos) (fC (.da (.int i))):=by
 obtain⟨t,hm⟩:=c
 exact ajj (v:=.int i) (fun as H=>.da (.int i)) hm ⟨_,rfl⟩ hg hd
theorem az7{z:Str}(c: ∃t,X.mg x=some (.str z t))(hg:Gl X x:=by rfl)(hd:(x==("__debug__":Str))=false:=by decide):RE X (.Name x pos) (fC (.da (.str z))):=by
 obtain⟨t,hm⟩:=c
 exact ajj (v:=.str z) (fun as H=>.da (.str z)) hm ⟨_,rfl⟩ hg hd
end PF
namespace PF
open PySem PySem.Spec
open L2
open PyProof.Rows (is_bool isnot_bool)
theorem RD.bl_inv'{b:Bool}(h:RD K as H v (.bl b)):v=.bl b:=by
 cases h with|da t=> cases t;rfl
noncomputable def alo(dx dy:D)(s:S):R D:=match dx,dy with
 |.da (.bool c),.da (.bool d)=>.ok (.bl (c==d)) s
 |_,_=>.bad
noncomputable def adw(dx dy:D)(s:S):R D:=match dx,dy with
 |.da (.bool c),.da (.bool d)=>.ok (.bl (c !=d)) s
 |_,_=>.bad
theorem a65:Op2 X (aY .Is) alo:=qj fun pins sh σ H as s x y dx dy v u Q I rl r1 r2 rx ry h=> by
 unfold alo at h
 split at h
 ·cases r1.bl_inv';cases r2.bl_inv';cases rx;cases ry
  exact is_bool (jy I (Dn.now (Q:=Q) h rl (.da (.bl _))) rfl)
 ·exact h.elim
theorem avb:Op2 X (aY .IsNot) adw:=qj fun pins sh σ H as s x y dx dy v u Q I rl r1 r2 rx ry h=> by
 unfold adw at h
 split at h
 ·cases r1.bl_inv';cases r2.bl_inv';cases rx;cases ry
  exact isnot_bool (jy I (Dn.now (Q:=Q) h rl (.da (.bl _))) rfl)
 ·exact h.elim
end PF
namespace PF
open PySem PySem.Spec
open PySem.SeqAt
open AutoSeq1 (wpAny_loadPart') --
open MeetsSeq MeetsSeq2 MeetsSeq3 SeqRoads2 --
def ajq(A:bm)(s:ak)(x y:af)(b:Bool):Prop:= ∀(prog:bz) (w:bw) (E:af -> ak -> Prop) (Q:af -> ak -> Prop),Q (.bool b) s -> wpAny (model prog w) A (gt .Lt x y) Q E s
inductive LexAt (A:bm) (s:ak) (fin:Bool):List (af×af) -> Bool -> Prop
 |nil:LexAt A s fin [] fin
 |same {x y:af} {r:List (af×af)} {b:Bool}:EqAt A s x y true -> LexAt A s fin r b -> LexAt A s fin ((x,y)::r) b
 |diff {x y:af} {r:List (af×af)} {b:Bool}:EqAt A s x y false -> ajq A s x y b -> LexAt A s fin ((x,y)::r) b
theorem av0(l b:Addr)(us ws:Array af)(n n2:Nat)(dd dd2:Option Addr)(sl sl2:Array (Option af))(r:Bool):
  Meets (d9.«tuple.__lt__» ⟨[.ref l,.ref b],[]⟩)
   (fun A R s=> s.heap.get? l=some {cls:=.type "tuple",dict:=dd,data:=.seq us n,slots:=sl}/\s.heap.get? b=some {cls:=.type "tuple",dict:=dd2,data:=.seq ws n2,slots:=sl2}/\
    LexAt A.in1 s (decide (us.size < ws.size)) (us.toList.zip ws.toList) r/\R (.ok (.ret (.bool r))) s):=
 .of_wp fun prog w A R s h=> by
  (obtain⟨hp,g,d,tk,os⟩:=s)
  obtain⟨hl,hb,lx,hR⟩:=h
  have sub:=iW
  wp_walk using eK hl,eK hb,dz _ (fun ju b s'=> b.1=none/\s'=⟨hp,g,d,tk,os⟩/\LexAt A.in1 ⟨hp,g,d,tk,os⟩ (decide (us.size < ws.size)) ju r) _
  case turn=>
   rintro⟨y,x⟩ ju b s' ⟨hb',rfl,lx⟩
   cases lx with
   |same e t=>
    refine ae (e prog w _ _ ?_)
    wp_walk
    exact⟨rfl,rfl,t⟩
   |diff e t=>
    refine ae (e prog w _ _ ?_)
    have t': ∀(E:af -> ak -> Prop) (Q:af -> ak -> Prop),Q (.bool r) ⟨hp,g,d,tk,os⟩ -> wpAny (model prog w) A.in1 (gt .Lt y x) Q E ⟨hp,g,d,tk,os⟩:=fun E Q=> t prog w E Q
    generalize gt .Lt y x=m at t'⊢
    wp_walk
    refine t' _ _ ?_
    wp_walk
    exact⟨_,rfl,hR⟩
  case fin=>
   rintro⟨b1,b2⟩ s' ⟨hb',rfl,lx⟩
   simp only at hb'
   subst hb'
   cases lx
   wp_walk
   exact⟨_,rfl,by simpa [gN] using hR⟩
  case h=> exact⟨rfl,rfl,lx⟩
section
variable{A:bm}{s:ak} --
theorem ajq.tuples{b:Addr}{us ws:Array af}{r:Bool}(hl:s.heap.IsTuple l us)(hb:s.heap.IsTuple b ws)(hu:A.units < cLine)(lx:LexAt A.in1 s (decide (us.size < ws.size)) (us.toList.zip ws.toList) r):ajq A s (.ref l) (.ref b) r:=fun prog w E Q h=> by
 obtain⟨⟨c1,d1,e1,s1⟩,o1,k1,n1,q1⟩:=id hl
 obtain⟨⟨c2,d2,e2,s2⟩,o2,k2,n2,q2⟩:=id hb
 simp only at k1 q1 k2 q2
 subst k1 q1 k2 q2
 exact jS (op:=.Lt) ⟨_,o1,rfl⟩ ⟨_,o2,rfl⟩ jF F.entry_tuple_lt (F.args_tuple_lt_2 _ _) (av0 l b us ws n1 n2 d1 d2 s1 s2 r) ⟨o1,o2,lx,show dD r≠kO/\Q (.bool r) s from ⟨nofun,h⟩⟩ hu
end
mutual
noncomputable def ltP:aa -> aa -> Option Bool
 |.int i,.int j=> some (decide (i < j))
 |.str a,.str b=> some (decide (a.cps.toList < b.cps.toList))
 |.tuple xs,.tuple ys=> vo xs ys
 |_,_=> none
noncomputable def vo:List aa -> List aa -> Option Bool
 |[],[]=> some false
 |[],_::_=> some true
 |_::_,[]=> some false
 |x::xs,y::ys=> if aE x y=true then vo xs ys else ltP x y
end
theorem yg:vo [] []=some false:=by simp only [vo]
theorem xn{y:aa}:vo [] (y::ys)=some true:=by simp only [vo]
theorem vd{y:aa}:vo (y::ys) []=some false:=by simp only [vo]
theorem zn{x y:aa}:vo (x::xs) (y::ys)=if aE x y=true then vo xs ys else ltP x y:=by simp only [vo]
theorem acn{i j:Int}:ltP (.int i) (.int j)=some (decide (i < j)):=by simp only [ltP]
theorem xq{a b:Str}:ltP (.str a) (.str b)=some (decide (a.cps.toList < b.cps.toList)):=by simp only [ltP]
theorem xm:ltP (.tuple xs) (.tuple ys)=vo xs ys:=by simp only [ltP]
end PF
namespace PF
open PySem PySem.Spec
open PySem.SeqAt
mutual
theorem acf: ∀(da db:aa) (A:bm) (s:ak) (a b:af) (as bs:List Addr) (r:Bool),cq s.heap a da as -> cq s.heap b db bs -> da.canLay0=true -> db.canLay0=true -> A.units+min da.depth db.depth < cLine -> ltP da db=some r -> ajq A s a b r
 | .int i,db,A,s,_,_,_,_,r,ra,rb,_,_,_,h=> by
  cases db with
  |int j=>
   rw [acn]at h
   cases h
   cases ra;cases rb
   exact fun prog w E Q q=> PyProof.Rows.lt_int q
  |none=> simp [ltP]at h
  |bool _=> simp [ltP]at h
  |str _=> simp [ltP]at h
  |list _=> simp [ltP]at h
  |tuple _=> simp [ltP]at h
  |dict _=> simp [ltP]at h
 | .str x,db,A,s,_,_,_,_,r,ra,rb,_,_,_,h=> by
  cases db with
  |str j=>
   rw [xq]at h
   cases h
   cases ra;cases rb
   exact fun prog w E Q q=> PyProof.Rows.lt_str q
  |none=> simp [ltP]at h
  |bool _=> simp [ltP]at h
  |int _=> simp [ltP]at h
  |list _=> simp [ltP]at h
  |tuple _=> simp [ltP]at h
  |dict _=> simp [ltP]at h
 | .tuple xs,db,A,s,_,_,_,_,r,ra,rb,ha,hb,hu,h=> by
  cases db with
  | tuple ys=>
   rw [xm]at h
   cases ra with
   | tuple h1 h2 h3 h4=>
    cases rb with
    |tuple k1 k2 k3 k4=>
     refine ajq.tuples ⟨_,h1,h2,_,h3⟩ ⟨_,k1,k2,_,k3⟩ (room_here hu) ?_
     have t:=ado xs ys A.in1 s _ _ _ _ r h4 k4 ha hb (room_in hu) h
     simpa using t
  |none=> simp [ltP]at h
  |bool _=> simp [ltP]at h
  |int _=> simp [ltP]at h
  |list _=> simp [ltP]at h
  |str _=> simp [ltP]at h
  |dict _=> simp [ltP]at h
 |.none,_,_,_,_,_,_,_,_,_,_,_,_,_,h=> by simp [ltP]at h
 |.bool _,_,_,_,_,_,_,_,_,_,_,_,_,_,h=> by simp [ltP]at h
 |.list _,_,_,_,_,_,_,_,_,_,_,_,_,_,h=> by simp [ltP]at h
 |.dict _,_,_,_,_,_,_,_,_,_,_,ha,_,_,_=> nomatch ha
theorem ado: ∀(xs ys:List aa) (A:bm) (s:ak) (vs ws:List af) (as bs:List Addr) (r:Bool),cc s.heap vs xs as -> cc s.heap ws ys bs -> aS xs=true -> aS ys=true -> A.units+min (ar xs) (ar ys) < cLine -> vo xs ys=some r -> LexAt A s (decide (vs.length < ws.length)) (vs.zip ws) r
 |[],[],A,s,_,_,_,_,r,ra,rb,_,_,_,h=> by
  cases ra;cases rb
  rw [yg]at h
  cases h
  exact .nil
 |[],_::_,A,s,_,_,_,_,r,ra,rb,_,_,_,h=> by
  cases ra;cases rb
  rw [xn]at h
  cases h
  simpa using LexAt.nil (A:=A) (s:=s) (fin:=true)
 |_::_,[],A,s,_,_,_,_,r,ra,rb,_,_,_,h=> by
  cases ra;cases rb
  rw [vd]at h
  cases h
  simpa using LexAt.nil (A:=A) (s:=s) (fin:=false)
 | x ::xs,y::ys,A,s,_,_,_,_,r,ra,rb,ha,hb,hu,h=> by
  have ha':x.canLay0=true/\aS xs=true:=by simpa [aS] using ha
  have hb':y.canLay0=true/\aS ys=true:=by simpa [aS] using hb
  rw [zn]at h
  cases ra with
  | cons r1 rs=>
   cases rb with
   | cons r2 rs2=>
    have e:=kP x y A s _ _ _ _ r1 r2 ha'.1 hb'.1 (ij hu)
    rw [fS,aP,aP]
    by_cases q:aE x y=true
    ·rw [if_pos q]at h
     rw [q]at e
     have t:=ado xs ys A s _ _ _ _ r rs rs2 ha'.2 hb'.2 (room_tail hu) h
     refine .same e ?_
     simpa using t
    ·rw [if_neg q]at h
     rw [em]at q
     rw [q]at e
     exact .diff e (acf x y A s _ _ _ _ r r1 r2 ha'.1 hb'.1 (ij hu) h)
end
end PF
namespace PF
open PySem PySem.Spec
theorem y6{x y:aa}(hx:plD x=true)(hy:plD y=true)(h:x≠y):vo (x::xs) (y::ys)=ltP x y:=by
 rw [zn,if_neg (fun z=> h ((ac3 x y hx hy).mp z))]
theorem ada{x:aa}(hx:plD x=true):vo (x::xs) (x::ys)=vo xs ys:=by
 rw [zn,if_pos (ani hx)]
mutual
theorem a3n: ∀a:aa,plD a=true -> ltP a a≠some true
 |.none,_=> by simp [ltP]
 |.int i,_=> by simp [ltP]
 |.str i,_=> by rw [xq];simp [kC]
 |.tuple xs,h=> by rw [xm];exact apc xs (by rw [←vh];exact h)
 |.bool _,h=> by simp [plD]at h
 |.list _,h=> by simp [plD]at h
 |.dict _,h=> by simp [plD]at h
theorem apc: ∀xs:List aa,ve xs=true -> vo xs xs≠some true
 |[],_=> by rw [yg];simp
 |x::xs,h=> by
  rw [zc,am]at h
  rw [ada h.1]
  exact apc xs h.2
end
mutual
theorem ay1: ∀a b:aa,plD a=true -> plD b=true -> ltP a b=some true -> ltP b a=some false
 |.int i,b,_,hb,h=> by
  cases b <;> simp [ltP]at h⊢
  lia
 |.str i,b,_,hb,h=> by
  cases b <;> simp [ltP]at h⊢
  exact List.le_of_lt h
 |.tuple xs,.tuple ys,ha,hb,h=> by
  rw [xm]at h⊢
  exact av4 xs ys (by rw [←vh];exact ha) (by rw [←vh];exact hb) h
 |.tuple xs,.none,_,_,h=> by simp [ltP]at h
 |.tuple xs,.int _,_,_,h=> by simp [ltP]at h
 |.tuple xs,.str _,_,_,h=> by simp [ltP]at h
 |.tuple xs,.bool _,_,hb,_=> by simp [plD]at hb
 |.tuple xs,.list _,_,hb,_=> by simp [plD]at hb
 |.tuple xs,.dict _,_,hb,_=> by simp [plD]at hb
 |.none,_,_,_,h=> by simp [ltP]at h
 |.bool _,_,ha,_,_=> by simp [plD]at ha
 |.list _,_,ha,_,_=> by simp [plD]at ha
 |.dict _,_,ha,_,_=> by simp [plD]at ha
theorem av4: ∀xs ys:List aa,ve xs=true -> ve ys=true -> vo xs ys=some true -> vo ys xs=some false
 |[],[],_,_,h=> by rw [yg]at h;cases h
 |[],_::_,_,_,h=> by rw [vd]
 |_::_,[],_,_,h=> by rw [vd]at h;cases h
 | x::xs,y::ys,ha,hb,h=> by
  rw [zc,am]at ha hb
  by_cases e:x=y
  ·subst e
   rw [ada ha.1]at h⊢
   exact av4 xs ys ha.2 hb.2 h
  ·rw [y6 ha.1 hb.1 e]at h
   rw [y6 hb.1 ha.1 (di e)]
   exact ay1 x y ha.1 hb.1 h
end
theorem a6z{b:aa}(ha:plD a=true)(h:ltP a b=some true):a≠b:=fun e=> by subst e;exact a3n a ha h
mutual
theorem atv: ∀a b:aa,plD a=true -> plD b=true -> ltP a b=some false -> a=b\/ltP b a=some true
 |.int i,b,_,hb,h=> by
  cases b <;> simp [ltP]at h⊢
  lia
 | .str i,b,_,hb,h=> by
  cases b with
  | str j=>
   simp [ltP]at h⊢
   rcases List.le_iff_lt_or_eq.mp h with z|z
   ·exact .inr z
   ·refine .inl ?_
    cases i;cases j
    simp at z
    simp [z]
  |_=> simp [ltP]at h
 |.tuple xs,.tuple ys,ha,hb,h=> by
  rw [xm]at h⊢
  rcases aoy xs ys (by rw [←vh];exact ha) (by rw [←vh];exact hb) h with z|z
  ·exact .inl (by rw [z])
  ·exact .inr z
 |.tuple xs,.none,_,_,h=> by simp [ltP]at h
 |.tuple xs,.int _,_,_,h=> by simp [ltP]at h
 |.tuple xs,.str _,_,_,h=> by simp [ltP]at h
 |.tuple xs,.bool _,_,hb,_=> by simp [plD]at hb
 |.tuple xs,.list _,_,hb,_=> by simp [plD]at hb
 |.tuple xs,.dict _,_,hb,_=> by simp [plD]at hb
 |.none,_,_,_,h=> by simp [ltP]at h
 |.bool _,_,ha,_,_=> by simp [plD]at ha
 |.list _,_,ha,_,_=> by simp [plD]at ha
 |.dict _,_,ha,_,_=> by simp [plD]at ha
theorem aoy: ∀xs ys:List aa,ve xs=true -> ve ys=true -> vo xs ys=some false -> xs=ys\/vo ys xs=some true
 |[],[],_,_,h=>.inl rfl
 |[],_::_,_,_,h=> by rw [xn]at h;cases h
 |_::_,[],_,_,h=>.inr xn
 | x::xs,y::ys,ha,hb,h=> by
  rw [zc,am]at ha hb
  by_cases e:x=y
  ·subst e
   rw [ada ha.1]at h⊢
   rcases aoy xs ys ha.2 hb.2 h with z|z
   ·exact .inl (by rw [z])
   ·exact .inr z
  ·rw [y6 ha.1 hb.1 e]at h
   rw [y6 hb.1 ha.1 (di e)]
   rcases atv x y ha.1 hb.1 h with z|z
   ·exact absurd z e
   ·exact .inr z
end
mutual
theorem ay9: ∀a b c:aa,plD a=true -> plD b=true -> plD c=true -> ltP a b=some true -> ltP b c=some true -> ltP a c=some true
 |.int i,b,c,_,_,_,h,k=> by
  cases b <;> simp [ltP]at h
  cases c <;> simp [ltP]at k⊢
  lia
 |.str i,b,c,_,_,_,h,k=> by
  cases b <;> simp [ltP]at h
  cases c <;> simp [ltP]at k⊢
  exact List.lt_trans h k
 |.tuple xs,.tuple ys,.tuple zs,ha,hb,hc,h,k=> by
  rw [xm]at h k⊢
  exact auw xs ys zs (by rw [←vh];exact ha) (by rw [←vh];exact hb) (by rw [←vh];exact hc) h k
 |.tuple xs,.tuple ys,.none,_,_,_,_,h=> by simp [ltP]at h
 |.tuple xs,.tuple ys,.int _,_,_,_,_,h=> by simp [ltP]at h
 |.tuple xs,.tuple ys,.str _,_,_,_,_,h=> by simp [ltP]at h
 |.tuple xs,.tuple ys,.bool _,_,_,hb,_,_=> by simp [plD]at hb
 |.tuple xs,.tuple ys,.list _,_,_,hb,_,_=> by simp [plD]at hb
 |.tuple xs,.tuple ys,.dict _,_,_,hb,_,_=> by simp [plD]at hb
 |.tuple xs,.none,_,_,_,_,h,_=> by simp [ltP]at h
 |.tuple xs,.int _,_,_,_,_,h,_=> by simp [ltP]at h
 |.tuple xs,.str _,_,_,_,_,h,_=> by simp [ltP]at h
 |.tuple xs,.bool _,_,_,hb,_,_,_=> by simp [plD]at hb
 |.tuple xs,.list _,_,_,hb,_,_,_=> by simp [plD]at hb
 |.tuple xs,.dict _,_,_,hb,_,_,_=> by simp [plD]at hb
 |.none,_,_,_,_,_,h,_=> by simp [ltP]at h
 |.bool _,_,_,ha,_,_,_,_=> by simp [plD]at ha
 |.list _,_,_,ha,_,_,_,_=> by simp [plD]at ha
 |.dict _,_,_,ha,_,_,_,_=> by simp [plD]at ha
theorem auw: ∀xs ys zs:List aa,ve xs=true -> ve ys=true -> ve zs=true -> vo xs ys=some true -> vo ys zs=some true -> vo xs zs=some true
 |[],ys,[],_,_,_,h,k=> by
  cases ys with
  |nil=> rw [yg]at h;cases h
  |cons y ys=> rw [vd]at k;cases k
 |[],_,_::_,_,_,_,_,_=> xn
 |_::_,[],_,_,_,_,h,_=> by rw [vd]at h;cases h
 |_::_,_::_,[],_,_,_,_,k=> by rw [vd]at k;cases k
 | x::xs,y::ys,z::zs,ha,hb,hc,h,k=> by
  rw [zc,am]at ha hb hc
  by_cases e:x=y
  ·subst e
   rw [ada ha.1]at h
   by_cases e2:x=z
   ·subst e2
    rw [ada ha.1]at k⊢
    exact auw xs ys zs ha.2 hb.2 hc.2 h k
   ·rw [y6 ha.1 hc.1 e2]at k⊢
    exact k
  ·rw [y6 ha.1 hb.1 e]at h
   by_cases e2:y=z
   ·subst e2
    rw [y6 ha.1 hb.1 e]
    exact h
   ·rw [y6 hb.1 hc.1 e2]at k
    have t:=ay9 x y z ha.1 hb.1 hc.1 h k
    rw [y6 ha.1 hc.1 (a6z ha.1 t)]
    exact t
end
def ltb(a b:aa):Bool:=match ltP a b with
 |some true=> true
 |_=> false
theorem aap{b:aa}:ltb a b=true ↔ ltP a b=some true:=by
 unfold ltb
 split
 ·rename_i h;simp [h]
 ·rename_i h
  constructor
  ·intro z;cases z
  ·intro z;exact absurd z h
def vi(ds:List aa):Bool:=ds.all fun a=> plD a&&ds.all fun b=> (ltP a b).isSome
theorem abh(h:vi ds=true)(m:a∈ds):plD a=true:=by
 have:=ao.mp h a m
 rw [am]at this
 exact this.1
theorem afx(h:vi ds=true){b:aa}(m:a∈ds)(k:b∈ds): ∃r,ltP a b=some r:=by
 have:=ao.mp h a m
 rw [am]at this
 have:=ao.mp this.2 b k
 exact fL.mp this
theorem al7(h:vi ds=true){b:aa}(m:a∈ds)(k:b∈ds)(e:ltb a b=false):a=b\/ltb b a=true:=by
 obtain⟨r,hr⟩:=afx h m k
 cases r with
 |true=> rw [aap.mpr hr]at e;cases e
 |false=>
  rcases atv a b (abh h m) (abh h k) hr with z|z
  ·exact .inl z
  ·exact .inr (aap.mpr z)
theorem alu(h:vi ds=true){b:aa}(m:a∈ds)(k:b∈ds)(e:ltb a b=true):ltb b a=false:=by
 have:=ay1 a b (abh h m) (abh h k) (aap.mp e)
 cases q:ltb b a with
 |false=> rfl
 |true=> rw [aap.mp q]at this;cases this
theorem a1r(h:vi ds=true){b c:aa}(m:a∈ds)(k:b∈ds)(l:c∈ds)(e:ltb a b=true)(e2:ltb b c=true):ltb a c=true:=
 aap.mpr (ay9 a b c (abh h m) (abh h k) (abh h l) (aap.mp e) (aap.mp e2))
theorem aof(h:vi ds=true){b c:aa}(m:a∈ds)(k:b∈ds)(l:c∈ds)(e:ltb a b=false)(e2:ltb b c=false):ltb a c=false:=by
 rcases al7 h m k e with rfl|z
 ·exact e2
 ·rcases al7 h k l e2 with rfl|z2
  ·exact e
  ·exact alu h l m (a1r h l k m z2 z)
abbrev ace(ds:List aa):Prop:=ds.Pairwise fun a b=> ltb b a=false
def ajr(x:aa):List aa -> List aa
 |[]=> [x]
 |y::r=> if ltb y x=true then y::ajr x r else x::y::r
def ql:List aa -> List aa
 |[]=> []
 |x::r=> ajr x (ql r)
theorem ahr(x:aa): ∀l:List aa,(ajr x l).Perm (x::l)
 |[]=>.refl _
 |y::r=> by
  unfold ajr
  split
  ·exact ((ahr x r).cons y).trans (.swap x y r)
  ·exact .refl _
theorem ym: ∀l:List aa,(ql l).Perm l
 |[]=>.refl _
 |x::r=> (ahr x _).trans ((ym r).cons x)
theorem am6{ds:List aa}(h:vi ds=true){x:aa}(hx:x∈ds): ∀l:List aa,(∀y∈l,y∈ds) -> ace l -> ace (ajr x l)
 |[],_,_=> eE _ _
 | y::r,hl,hr=> by
  obtain⟨h1,h2⟩:=bZ.mp hr
  have hy:=hl y ax
  unfold ajr
  split
  ·rename_i c
   refine bZ.mpr ⟨fun z hz=> ?_,am6 h hx r (fun z hz=> hl z (az _ hz)) h2⟩
   rcases ay.mp ((ahr x r).mem_iff.mp hz) with rfl|hz
   ·exact alu h hy hx c
   ·exact h1 z hz
  ·rename_i c
   have c':ltb y x=false:=by simpa using c
   refine bZ.mpr ⟨fun z hz=> ?_,hr⟩
   (rcases ay.mp hz with rfl|hz)
   ·exact c'
   ·exact aof h (hl z (az _ hz)) hy hx (h1 z hz) c'
theorem aid{ds:List aa}(h:vi ds=true): ∀l:List aa,(∀y∈l,y∈ds) -> ace (ql l)
 |[],_=> iF
 |x::r,hl=> am6 h (hl x ax) _ (fun y hy=> hl y (az _ ((ym r).mem_iff.mp hy))) (aid h r fun y hy=> hl y (az _ hy))
theorem akz(h:vi ds=true):ace (ql ds):=aid h ds fun _ y=> y
theorem awd{l m:List aa}(h:vi ds=true)(pl:l.Perm ds)(pm:m.Perm ds)(hl:ace l)(hm:ace m):l=m:=by
 refine List.Perm.eq_of_pairwise (le:=fun a b=> ltb b a=false) ?_ hl hm (pl.trans pm.symm)
 intro a b ha hb e1 e2
 rcases al7 h (pm.mem_iff.mp hb) (pl.mem_iff.mp ha) e1 with z|z
 ·exact z.symm
 ·rw [e2]at z;cases z
theorem awa{l:List aa}(h:vi ds=true)(pl:l.Perm ds)(hl:ace l):l=ql ds:=awd h pl (ym ds) hl (akz h)
end PF
namespace KS
open PySem PySem.W PyProof.Rows
noncomputable def run{α:Type}(lt:Nat -> Nat -> Bool):KasT α -> α
 |.ret a=> a
 |.ask i j k=> run lt (k (lt i j))
section
variable{lt:Nat -> Nat -> Bool}
theorem abo{α β:Type}(f:α -> KasT β): ∀t:KasT α,run lt (t.bind f)=run lt (f (run lt t))
 |.ret a=> rfl
 |.ask i j k=> abo f (k (lt i j))
theorem zv{α:Type}(a:α):run lt (.ret a)=a:=rfl
theorem ae2{α:Type}(i j:Nat)(k:Bool -> KasT α):run lt (.ask i j k)=run lt (k (lt i j)):=rfl
theorem acm{α:Type}(c:Prop)[Decidable c](a b:KasT α):run lt (if c then a else b)=if c then run lt a else run lt b:=by split <;> rfl
structure Swo (lt:Nat -> Nat -> Bool):Prop where
 tr: ∀{a b c},lt a b=false -> lt b c=false -> lt a c=false
 as: ∀{a b},lt a b=true -> lt b a=false
theorem Swo.irr(w:Swo lt)(a:Nat):lt a a=false:=by
 cases h:lt a a with
 |false=> rfl
 |true=> have:=w.as h;rw [h]at this;exact this
def Up(lt:Nat -> Nat -> Bool)(p:Array Nat)(m:Nat):Prop:= ∀k,0 < k -> k < m -> lt (p.getD k 0) (p.getD (k - 1) 0)=false
def zl(lt:Nat -> Nat -> Bool)(p:Array Nat)(m:Nat):Prop:= ∀k,0 < k -> k < m -> lt (p.getD (k - 1) 0) (p.getD k 0)=false
theorem Up.all(w:Swo lt){p:Array Nat}{m:Nat}(h:Up lt p m): ∀(d i:Nat),i+d < m -> lt (p.getD (i+d) 0) (p.getD i 0)=false
 |0,i,_=> w.irr _
 |d+1,i,hl=> by
  have a:=h (i+(d+1)) (by lia) hl
  rw [show i+(d+1) - 1=i+d by lia]at a
  exact w.tr a (Up.all w h d i (by lia))
theorem Up.le(w:Swo lt){p:Array Nat}{m:Nat}(h:Up lt p m)(hij:i <=j)(hj:j < m):lt (p.getD j 0) (p.getD i 0)=false:=by
 have:=Up.all w h (j - i) i (by lia)
 rwa [show i+(j - i)=j by lia]at this
theorem zl.all(w:Swo lt){p:Array Nat}{m:Nat}(h:zl lt p m): ∀(d i:Nat),i+d < m -> lt (p.getD i 0) (p.getD (i+d) 0)=false
 |0,i,_=> w.irr _
 |d+1,i,hl=> by
  have a:=h (i+(d+1)) (by lia) hl
  rw [show i+(d+1) - 1=i+d by lia]at a
  exact w.tr (zl.all w h d i (by lia)) a
theorem zl.le(w:Swo lt){p:Array Nat}{m:Nat}(h:zl lt p m)(hij:i <=j)(hj:j < m):lt (p.getD i 0) (p.getD j 0)=false:=by
 have:=zl.all w h (j - i) i (by lia)
 rwa [show i+(j - i)=j by lia]at this
theorem alq{p:Array Nat}: ∀(f n:Nat),0 < n -> Up lt p n -> n <=run lt (f9 p f n)/\run lt (f9 p f n) <=n+f/\Up lt p (run lt (f9 p f n))/\(run lt (f9 p f n) < n+f -> lt (p.getD (run lt (f9 p f n)) 0) (p.getD (run lt (f9 p f n) - 1) 0)=true)
 |0,n,_,h=> by
  rw [f9,zv]
  exact⟨aD _,aD _,h,fun z=> absurd z (by lia)⟩
 | f +1,n,h0,h=> by
  rw [f9,ae2]
  cases e:lt (p.getD n 0) (p.getD (n - 1) 0) with
  |true=>
   rw [if_pos rfl,zv]
   exact⟨aD _,by lia,h,fun _=> e⟩
  | false=>
   rw [if_neg aF]
   have up:Up lt p (n+1):=fun k k0 k1=> by
    by_cases z:k < n
    ·exact h k k0 z
    ·have:k=n:=by lia
     subst this;exact e
   obtain⟨a,b,c,d⟩:=alq f (n+1) (by lia) up
   exact⟨by lia,by lia,c,fun z=> d (by lia)⟩
theorem ahd(w:Swo lt){p:Array Nat}{k:Nat}(up:Up lt p k): ∀(f l r:Nat),l <=r -> r <=k -> r - l <=f -> (∀i,i < l -> lt (p.getD k 0) (p.getD i 0)=false) -> (∀i,r <=i -> i < k -> lt (p.getD k 0) (p.getD i 0)=true) ->
  run lt (fT p k f l r) <=k/\(∀i,i < run lt (fT p k f l r) -> lt (p.getD k 0) (p.getD i 0)=false)/\ ∀i,run lt (fT p k f l r) <=i -> i < k -> lt (p.getD k 0) (p.getD i 0)=true
 |0,l,r,hlr,hrk,hf,h1,h2=> by
  have:l=r:=by lia
  subst this
  rw [fT,zv]
  exact⟨hrk,h1,h2⟩
 | f +1,l,r,hlr,hrk,hf,h1,h2=> by
  rw [fT,acm]
  by_cases z:l≥r
  ·rw [if_pos z,zv]
   have:l=r:=by lia
   subst this
   exact⟨hrk,h1,h2⟩
  ·rw [if_neg z,ae2]
   have m1:l <=(l+r)/2:=by lia
   have m2:(l+r)/2 < r:=by lia
   generalize (l+r)/2=m at m1 m2
   cases e:lt (p.getD k 0) (p.getD m 0) with
   | true=>
    rw [if_pos rfl]
    refine ahd w up f l m m1 (by lia) (by lia) h1 fun i i0 i1=> ?_
    by_cases q:r <=i
    ·exact h2 i q i1
    ·cases e2:lt (p.getD k 0) (p.getD i 0) with
     |true=> rfl
     |false=>
      have:=w.tr e2 (up.le w (i:=m) (j:=i) i0 i1)
      rw [e]at this;cases this
   |false=>
    rw [if_neg aF]
    refine ahd w up f (m+1) r (by lia) hrk (by lia) (fun i i0=> ?_) h2
    exact w.tr e (up.le w (i:=i) (j:=m) (by lia) (by lia))
end
section
variable{lt:Nat -> Nat -> Bool}
theorem gd(p:Array Nat)(k:Nat):p.getD k 0=(p[k]?).getD 0:=Array.getD_eq_getD_getElem? ..
theorem api{p:Array Nat}{d:Nat}(hk:k < p.size)(hd:d <=k)(i:Nat):(bubble p k d).getD i 0=if i=k - d then p.getD k 0 else if k - d < i/\i <=k then p.getD (i - 1) 0 else p.getD i 0:=by
 rw [gd,getElem?_bubble hk d hd]
 by_cases c1:i=k - d
 ·rw [if_pos c1,if_pos c1];exact (gd p k).symm
 ·rw [if_neg c1,if_neg c1]
  by_cases c2:k - d < i/\i <=k
  ·rw [if_pos c2,if_pos c2];exact (gd p _).symm
  ·rw [if_neg c2,if_neg c2];exact (gd p _).symm
theorem y7{p:Array Nat}(hj:j <=p.size)(k:Nat):(gK p i j).getD k 0=if i <=k/\k < j then p.getD (i+j - 1 - k) 0 else p.getD k 0:=by
 unfold gK
 rw [gd,getElem?_mirror_all hj]
 split <;> rw [gd]
theorem yx(p:Array Nat)(i j:Nat):(gK p i j).Perm p:=mirror_perm _ _ _ _
theorem aln(p:Array Nat)(i j:Nat):(gK p i j).size=p.size:=mirror_size _ _ _ _
theorem asw(w:Swo lt): ∀(f:Nat) (p:Array Nat) (k:Nat),k+f=p.size -> Up lt p k -> (run lt (lQ f p k)).Perm p/\Up lt (run lt (lQ f p k)) p.size
 |0,p,k,hs,up=> by
  rw [lQ,zv]
  have:k=p.size:=by lia
  subst this
  exact⟨.refl _,up⟩
 | f +1,p,k,hs,up=> by
  rw [lQ,abo]
  obtain⟨l1,l2,l3⟩:=ahd w up k 0 k (bX _) (aD _) (by lia) (fun i h=> absurd h (Nat.not_lt_zero _)) (fun i h1 h2=> absurd h2 (by lia))
  generalize run lt (fT p k k 0 k)=l at l1 l2 l3
  have hk:k < p.size:=by lia
  have up1:Up lt (bubble p k (k - l)) (k+1):=fun i i0 i1=> by
   rw [api hk (by lia),api hk (by lia),show k - (k - l)=l by lia]
   by_cases c1:i < l
   ·rw [if_neg (by lia),if_neg (by lia),if_neg (by lia),if_neg (by lia)]
    exact up i i0 (by lia)
   ·by_cases c2:i=l
    ·subst c2
     rw [if_pos rfl,if_neg (by lia),if_neg (by lia)]
     exact l2 (i - 1) (by lia)
    ·by_cases c3:i=l+1
     ·subst c3
      rw [if_neg (by lia),if_pos (by lia),if_pos (by lia)]
      exact w.as (l3 _ (by lia) (by lia))
     ·rw [if_neg (by lia),if_pos (by lia),if_neg (by lia),if_pos (by lia)]
      exact up (i - 1) (by lia) (by lia)
  obtain⟨a,b⟩:=asw w f (bubble p k (k - l)) (k+1) (by rw [bubble_size];lia) up1
  exact⟨a.trans (bubble_perm _ _ _),by rw [bubble_size]at b;exact b⟩
def Seg(lt:Nat -> Nat -> Bool)(p:Array Nat)(n q:Nat):Prop:= ∀k,n - 1 - q < k -> k < n -> lt (p.getD k 0) (p.getD (k - 1) 0)=false
theorem an1(w:Swo lt){p:Array Nat}{q:Nat}(hn:n <=p.size)(hq:q < n)(d:zl lt p n)(s:Seg lt p n q):zl lt (gK p (n - (q+1)) n) n:=fun k k0 k1=> by
 rw [y7 hn,y7 hn]
 by_cases c1:k < n - (q+1)
 ·rw [if_neg (by lia),if_neg (by lia)]
  exact d k k0 k1
 ·by_cases c2:k=n - (q+1)
  ·rw [if_neg (by lia),if_pos (by lia)]
   exact d.le w (by lia) (by lia)
  ·rw [if_pos (by lia),if_pos (by lia)]
   have:=s (n - (q+1)+n - 1 - (k - 1)) (by lia) (by lia)
   rwa [show n - (q+1)+n - 1 - (k - 1) - 1=n - (q+1)+n - 1 - k by lia]at this
theorem a3l{p:Array Nat}(hn:n <=p.size)(d:zl lt p n):Up lt (gK p 0 n) n:=fun k k0 k1=> by
 rw [y7 hn,y7 hn,if_pos (by lia),if_pos (by lia)]
 have:=d (0+n - 1 - (k - 1)) (by lia) (by lia)
 rwa [show 0+n - 1 - (k - 1) - 1=0+n - 1 - k by lia]at this
theorem a26{p:Array Nat}(hn:n <=p.size)(d:Up lt p n):zl lt (gK p 0 n) n:=fun k k0 k1=> by
 rw [y7 hn,y7 hn,if_pos (by lia),if_pos (by lia)]
 have:=d (0+n - 1 - (k - 1)) (by lia) (by lia)
 rwa [show 0+n - 1 - (k - 1) - 1=0+n - 1 - k by lia]at this
theorem ac1{p:Array Nat}(d:zl lt p n)(h:lt (p.getD (n - 1) 0) (p.getD n 0)=false):zl lt p (n+1):=fun k k0 k1=> by
 by_cases z:k < n
 ·exact d k k0 z
 ·have:k=n:=by lia
  subst this;exact h
structure DescOk (lt:Nat -> Nat -> Bool) (p:Array Nat) (n f:Nat) (r:Array Nat×Nat×Nat):Prop where
 pm:r.1.Perm p
 n1:n <=r.2.1
 n2:r.2.1 <=n+f
 q1:r.2.2 < r.2.1
 dn:zl lt r.1 r.2.1
 sg:Seg lt r.1 r.2.1 r.2.2
theorem agn(w:Swo lt): ∀(f:Nat) (p:Array Nat) (n q:Nat),n+f <=p.size -> q < n -> zl lt p n -> Seg lt p n q -> DescOk lt p n f (run lt (kQ f p n q))
 |0,p,n,q,hs,hq,d,s=> by
  rw [kQ,zv]
  exact⟨.refl _,aD _,aD _,hq,d,s⟩
 | f +1,p,n,q,hs,hq,d,s=> by
  rw [kQ,ae2]
  cases e:lt (p.getD n 0) (p.getD (n - 1) 0) with
  | true=>
   rw [if_pos rfl,acm]
   have sg0: ∀p:Array Nat,Seg lt p (n+1) 0:=fun p k k0 k1=> absurd k1 (by lia)
   by_cases z:q > 0
   ·rw [if_pos z]
    have hn:n <=p.size:=by lia
    have d1:zl lt (gK p (n - (q+1)) n) (n+1):=by
     refine ac1 (an1 w hn hq d s) ?_
     rw [y7 hn,y7 hn,if_pos (by lia),if_neg (by lia),show n - (q+1)+n - 1 - (n - 1)=n - (q+1) by lia]
     exact w.tr (d.le w (i:=n - (q+1)) (j:=n - 1) (by lia) (by lia)) (w.as e)
    obtain⟨a1,a2,a3,a4,a5,a6⟩:=agn w f _ (n+1) 0 (by rw [aln];lia) (by lia) d1 (sg0 _)
    exact⟨a1.trans (yx _ _ _),by lia,by lia,a4,a5,a6⟩
   ·rw [if_neg z]
    obtain⟨a1,a2,a3,a4,a5,a6⟩:=agn w f p (n+1) 0 (by lia) (by lia) (ac1 d (w.as e)) (sg0 _)
    exact⟨a1,by lia,by lia,a4,a5,a6⟩
  | false=>
   rw [if_neg aF,ae2]
   cases e2:lt (p.getD (n - 1) 0) (p.getD n 0) with
   |true=>
    rw [if_pos rfl,zv]
    exact⟨.refl _,aD _,by simp,hq,d,s⟩
   | false=>
    rw [if_neg aF]
    have s1:Seg lt p (n+1) (q+1):=fun k k0 k1=> by
     by_cases z:k < n
     ·exact s k (by lia) z
     ·have:k=n:=by lia
      subst this;exact e
    obtain⟨a1,a2,a3,a4,a5,a6⟩:=agn w f p (n+1) (q+1) (by lia) (by lia) (ac1 d e2) s1
    exact⟨a1,by lia,by lia,a4,a5,a6⟩
structure CountOk (lt:Nat -> Nat -> Bool) (p:Array Nat) (nrem:Nat) (r:Nat×Array Nat):Prop where
 pm:r.2.Perm p
 n1:1 <=r.1
 n2:r.1 <=nrem
 up:Up lt r.2 r.1
theorem ame{p p0:Array Nat}{nrem:Nat}(h0:0 < n)(hn:n <=nrem)(hz:nrem <=p.size)(pm:p.Perm p0)(d:zl lt p n):CountOk lt p0 nrem (run lt (lK n nrem p)):=by
 unfold lK
 rw [abo,zv]
 obtain⟨a,b,c,_⟩:=alq (lt:=lt) (p:=gK p 0 n) (nrem - n) n h0 (a3l (by lia) d)
 exact⟨(yx _ _ _).trans pm,by show 1 <=_;lia,by show _ <=nrem;lia,c⟩
theorem ah0(w:Swo lt){p p0:Array Nat}{nrem:Nat}(h0:0 < n)(hn:n+1 <=nrem)(hz:nrem <=p.size)(pm:p.Perm p0)(d:zl lt p (n+1)):CountOk lt p0 nrem (run lt (lL n nrem p)):=by
 unfold lL
 rw [abo]
 have D:=agn w (nrem - (n+1)) p (n+1) 0 (by lia) (by lia) d (fun k k0 k1=> absurd k1 (by lia))
 generalize run lt (kQ (nrem - (n+1)) p (n+1) 0)=r at D
 obtain⟨a1,a2,a3,a4,a5,a6⟩:=D
 have sz:r.1.size=p.size:=a1.size_eq
 rw [acm]
 split
 ·exact ame (by lia) (by lia) (by rw [aln];lia) ((yx _ _ _).trans (a1.trans pm)) (an1 w (by lia) a4 a5 a6)
 ·exact ame (by lia) (by lia) (by lia) (a1.trans pm) a5
theorem awk(w:Swo lt){p:Array Nat}{nrem:Nat}(h1:1 <=nrem)(hz:nrem=p.size):CountOk lt p nrem (run lt (lM nrem p)):=by
 unfold lM
 rw [abo]
 obtain⟨a,b,c,d⟩:=alq (lt:=lt) (p:=p) (nrem - 1) 1 (by lia) (fun k k0 k1=> absurd k1 (by lia))
 generalize run lt (f9 p (nrem - 1) 1)=n at a b c d
 rw [acm]
 split
 ·rename_i e
  exact⟨.refl _,a,by show n <=nrem;lia,c⟩
 ·rename_i e
  have hne:n≠nrem:=fun z=> e (by subst z;exact beq_self_eq_true n)
  have d':=d (by lia)
  rw [acm]
  split
  ·rename_i h
   rw [ae2]
   cases e2:lt (p.getD 0 0) (p.getD (n - 1) 0) with
   |true=>
    rw [if_pos rfl,zv]
    exact⟨.refl _,a,by show n <=nrem;lia,c⟩
   |false=>
    rw [if_neg aF]
    refine ah0 w (by lia) (by lia) (by rw [aln];lia) (yx _ _ _) (ac1 (a26 (by lia) c) ?_)
    rw [y7 (by lia),y7 (by lia),if_pos (by lia),if_neg (by lia),show 0+n - 1 - (n - 1)=0 by lia]
    exact w.tr e2 (w.as d')
  ·rename_i h
   have:n=1:=by lia
   subst this
   exact ah0 w (by lia) (by lia) (by lia) (.refl _) (ac1 (fun k k0 k1=> absurd k1 (by lia)) (w.as d'))
theorem a11(w:Swo lt)(h1:1 <=n):(run lt (iX n)).Perm (eV (aZ n))/\Up lt (run lt (iX n)) n:=by
 unfold iX
 rw [abo]
 have hz:n=(eV (aZ n)).size:=by simp
 obtain⟨a,b,c,d⟩:=awk w (p:=eV (aZ n)) h1 hz
 generalize run lt (lM n (eV (aZ n)))=r at a b c d
 have sz:r.2.size=n:=by rw [a.size_eq];exact hz.symm
 rw [acm]
 split
 ·rw [show max r.1 1=r.1 by lia]
  obtain⟨e,f⟩:=asw w (n - r.1) r.2 r.1 (by lia) d
  exact⟨e.trans a,by rw [sz]at f;exact f⟩
 ·rename_i h
  have:r.1=n:=by lia
  rw [this]at d
  exact⟨a,d⟩
end
def abq{α:Type}(n:Nat):KasT α -> (α -> Prop) -> Prop
 |.ret a,P=> P a
 |.ask i j k,P=> i < n/\j < n/\ ∀b,abq n (k b) P
section
variable{lt:Nat -> Nat -> Bool}{n:Nat}
theorem aam{α β:Type}{f:α -> KasT β}{P:α -> Prop}{P':β -> Prop}(h: ∀a,P a -> abq n (f a) P'): ∀t:KasT α,abq n t P -> abq n (t.bind f) P'
 |.ret a,q=> h a q
 |.ask i j k,q=> ⟨q.1,q.2.1,fun b=> aam h (k b) (q.2.2 b)⟩
theorem au9{α:Type}{cmp:Nat -> Nat -> (Bool -> ak -> Prop) -> ak -> Prop}{s:ak}{P:α -> Prop}{Q:α -> ak -> Prop}(hc: ∀i j (C:Bool -> ak -> Prop),i < n -> j < n -> C (lt i j) s -> cmp i j C s): ∀t:KasT α,abq n t P -> Q (run lt t) s -> t.kasWp cmp Q s
 |.ret a,_,q=> q
 |.ask i j k,a,q=> hc i j _ a.1 a.2.1 (au9 hc (k (lt i j)) (a.2.2 _) q)
def All(n:Nat)(p:Array Nat):Prop:= ∀x∈p.toList,x < n
theorem All.get{p:Array Nat}(h:All n p)(h0:0 < n)(k:Nat):p.getD k 0 < n:=by
 rw [gd]
 cases e:p[k]? with
 |none=> exact h0
 |some x=> exact h x (by rw [←bG]at e;exact bA e)
theorem All.perm{p q:Array Nat}(h:All n p)(e:q.Perm p):All n q:=fun x hx=> h x ((iu.mp e).mem_iff.mp hx)
theorem ahf{p:Array Nat}(h:All n p)(h0:0 < n): ∀f m:Nat,abq n (f9 p f m) fun _=> True
 |0,m=> trivial
 |f+1,m=> ⟨h.get h0 _,h.get h0 _,fun b=> by
  cases b with
  |true=> dsimp only;rw [if_pos rfl];trivial
  |false=> dsimp only;rw [if_neg aF];exact ahf h h0 f (m+1)⟩
theorem adi(h0:0 < n): ∀(f:Nat) (p:Array Nat) (m q:Nat),All n p -> abq n (kQ f p m q) fun r=> All n r.1
 |0,p,m,q,h=> h
 | f+1,p,m,q,h=> ⟨h.get h0 _,h.get h0 _,fun b=> by
  cases b with
  |true=>
   dsimp only;rw [if_pos rfl]
   split
   ·exact adi h0 f _ _ _ (h.perm (yx _ _ _))
   ·exact adi h0 f _ _ _ h
  | false=>
   dsimp only;rw [if_neg aF]
   exact⟨h.get h0 _,h.get h0 _,fun b=> by
    cases b with
    |true=> dsimp only;rw [if_pos rfl];exact h
    |false=> dsimp only;rw [if_neg aF];exact adi h0 f _ _ _ h⟩⟩
theorem ais(h0:0 < n){p:Array Nat}(h:All n p)(m r:Nat):abq n (lK m r p) fun x=> All n x.2:=by
 unfold lK
 refine aam (P:=fun _=> True) (fun a _=> ?_) _ (ahf (h.perm (yx _ _ _)) h0 _ _)
 exact h.perm (yx _ _ _)
theorem afd(h0:0 < n){p:Array Nat}(h:All n p)(m r:Nat):abq n (lL m r p) fun x=> All n x.2:=
 aam (fun a ha=> by
  split
  ·exact ais h0 (All.perm ha (yx _ _ _)) _ _
  ·exact ais h0 ha _ _) _ (adi h0 _ _ _ _ h)
theorem ar7(h0:0 < n){p:Array Nat}(h:All n p)(r:Nat):abq n (lM r p) fun x=> All n x.2:=
 aam (fun a _=> by
  split
  ·exact h
  ·split
   ·exact⟨h.get h0 _,h.get h0 _,fun b=> by
     cases b with
     |true=> dsimp only;rw [if_pos rfl];exact h
     |false=> dsimp only;rw [if_neg aF];exact afd h0 (h.perm (yx _ _ _)) _ _⟩
   ·exact afd h0 h _ _) _ (ahf h h0 _ _)
theorem aek(h0:0 < n){p:Array Nat}(h:All n p)(k:Nat): ∀f l r:Nat,abq n (fT p k f l r) fun _=> True
 |0,l,r=> trivial
 |f+1,l,r=> by
  rw [fT]
  split
  ·trivial
  ·exact⟨h.get h0 _,h.get h0 _,fun b=> by
    cases b with
    |true=> dsimp only;rw [if_pos rfl];exact aek h0 h k f _ _
    |false=> dsimp only;rw [if_neg aF];exact aek h0 h k f _ _⟩
theorem anf(h0:0 < n): ∀(f:Nat) (p:Array Nat) (k:Nat),All n p -> abq n (lQ f p k) fun _=> True
 |0,p,k,h=> trivial
 |f+1,p,k,h=> aam (fun l _=> anf h0 f _ _ (h.perm (bubble_perm _ _ _))) _ (aek h0 h k _ _ _)
theorem auc(h0:0 < n):abq n (iX n) fun _=> True:=
 aam (fun r hr=> by
  split
  ·exact anf h0 _ _ _ hr
  ·trivial) _ (ar7 h0 (fun x hx=> by simpa using hx) n)
end
section
variable{prog:bz}{w:bw}{A:bm}{E:af -> ak -> Prop}{s:ak}
theorem awp(vs:List af):(vs.toArray.zip vs.toArray).map (·.2)=vs.toArray:=by
 apply Array.toList_inj.mp
 rw [Array.toList_map,ksk_zip]
 show (vs.zip vs).map Prod.snd=vs
 rw [List.map_snd_zip (aD _)]
theorem aqk(vs:List af):(aZ vs.length).map (fun i=> vs.getD i bu)=vs:=by
 apply dj
 intro i
 rw [a9]
 by_cases h:i < vs.length
 ·rw [dw h,av h]
  simp [h]
 ·rw [c8.mpr (by simpa using h),c8.mpr (by simpa using h)];rfl
theorem avu{a:Addr}{vs:List af}{lt:Nat -> Nat -> Bool}{P:PySem.Fin -> ak -> Prop}(ho:s.heap.get? a=some (seqObj "list" vs.toArray n))(h64:vs.length < 64)(wo:Swo lt)(hk:2 <=vs.length -> ∀s':ak,(∀b o,b≠a -> s.heap.get? b=some o -> s'.heap.get? b=some o) ->
   wpAny (model prog w) A (keyKind' vs.toArray) (fun κ s''=> s''=s'/\ ∀(i j:Nat) (C:Bool -> ak -> Prop),i < vs.length -> j < vs.length -> C (lt i j) s' -> wpAny (model prog w) A (keyLt' κ (vs.getD i bu) (vs.getD j bu)) C (fun _ _=> False) s') (fun _ _=> False) s') (h: ∀p:List Nat,p.Perm (aZ vs.length) -> p.Pairwise (fun i j=> lt j i=false) -> P (.done (.ret .none)) {s with heap:=sortedHeap s.heap a vs (p.map fun i=> vs.getD i bu).toArray}):
  wpAny (model prog w) A (d9.«list.sort» ⟨[.ref a],[]⟩) P E s:=by --
 rw [list_sort_plain]
 (have ha:a < s.heap.objs.size:=aM ho)
 (refine ae (listItems_at ho rfl ?_))
 (refine ae (lr ho rfl ?_ (by rw [aH,cR];lia) (bX _)))
 obtain⟨e1,ho1⟩: ∃e1,(s.heap.update a (fg fun _=> (#[]:Array af))).get? a=some (seqObj "list" #[] e1):=⟨_,get?_update_seq ho (fun _=> #[])⟩
 (refine ae (lW ho1 rfl ?_))
 (refine ae (wpAny_newTuple ?_ (by show vs.length <=_;rw [cR];lia)))
 (refine ae (wpAny_newList ?_ (bX _)))
 (refine bB ?_)
 generalize hh:((s.heap.update a (fg fun _=> (#[]:Array af))).push (seqObj "tuple" vs.toArray 0)).push (seqObj "list" #[] 0)=h6
 have ho6:h6.get? a=some (seqObj "list" #[] e1):=by
  rw [←hh,eQ _ _ _ (by rw [size_push',gA];exact aT (cU ha)),eQ _ _ _ (by rw [gA];exact aT ha)]
  exact ho1
 have kp: ∀b o,b≠a -> s.heap.get? b=some o -> h6.get? b=some o:=fun b o hb e=> by
  have hlt:b < s.heap.objs.size:=aM e
  rw [←hh,eQ _ _ _ (by rw [size_push',gA];exact aT (cU hlt)),eQ _ _ _ (by rw [gA];exact aT hlt),Heap.get?_update_ne _ _ _ _ hb]
  exact e
 show wpAny (model prog w) A _ P E {s with heap:=h6}
 have hz: ∀out:Array af,sortedHeap s.heap a vs out=h6.update a (fg fun _=> out):=fun out=> by rw [←hh];rfl
 dsimp only
 by_cases h2:vs.toArray.size < 2 --
 ·rw [if_pos h2,if_pos h2]
  refine ae (aj ?_)
  rw [StateT.run_pure]
  refine ae (aj ?_)
  dsimp only
  (refine ae (lW ho6 rfl ?_))
  have e0:(arrOf (SortSt.mk' general' (vs.toArray.zip vs.toArray) #[] 7 none)).map (·.2)=vs.toArray:=awp vs
  rw [e0]
  refine ae (lr ho6 rfl ?_ (bX _) (by rw [aH,cR];lia))
  (simp only [bne_self_eq_false,bn,if_false])
  have t:=h (aZ vs.length) (ga _) (by
   rw [aH]at h2
   match hv:vs.length with
   |0=> simp
   |1=> simp
   |k+2=> lia)
  rw [aqk,hz]at t
  exact aj t
 ·rw [if_neg h2,if_neg h2]
  have h2':2 <=vs.length:=by rw [aH]at h2;lia
  refine ae (bE (hk h2' {s with heap:=h6} kp) ?_ fun _ _ x=> x.elim)
  rintro κ _ ⟨rfl,ask⟩
  have hw:(iX vs.length).kasWp (kas_ask prog w A κ vs) (fun p s'=> s'={s with heap:=h6}/\p.Perm (eV (aZ vs.length))/\Up lt p vs.length) {s with heap:=h6}:=
   au9 (lt:=lt) (n:=vs.length) (fun i j C hi hj hC=> ask i j C hi hj hC) (iX vs.length) (auc (by lia)) ⟨rfl,a11 wo (by lia)⟩
  refine ae (bE (kat_run (Q:=fun st' s'=> ∃p:Array Nat,p.size=vs.length/\arrOf st'=p.map (kas_item (vs.toArray.zip vs.toArray))/\failedOf st'=none/\s'={s with heap:=h6}/\p.Perm (eV (aZ vs.length))/\Up lt p vs.length)
   rfl h2' h64 (fun p' st' s' a1 a2 a3 a4=> ⟨p',a1,a2,a3,a4⟩) hw) ?_ fun _ _ e=> e)
  rintro⟨⟨⟩,st'⟩ s' ⟨p,hp,har,hf,rfl,pm,up⟩
  dsimp only
  have hout:=kat_snds rfl har
  rw [hout]
  (refine ae (lW ho6 rfl ?_))
  have hsz:(eV (p.toList.map fun i=> vs.getD i bu)).size <=sizeLine:=by rw [aH,au,aG,hp,cR];lia
  refine ae (lr ho6 rfl ?_ (bX _) (Nat.le_succ_of_le hsz))
  rw [hf]
  (simp only [bne_self_eq_false,bn,if_false])
  have t:=h p.toList (by have:=iu.mp pm;simpa using this) (by
   (rw [iN])
   intro i j hi hj hij
   rw [aG]at hi hj
   have u:=Up.le wo up (fI hij) (by lia)
   simpa [dE,hi,hj] using u)
  rw [hz]at t
  exact aj t
end
end KS
namespace PF
open PySem PySem.Spec PySem.W PyProof.Rows
open PySem.SeqAt
noncomputable def tyD:aa -> String
 |.none=> "NoneType"
 |.bool _=> "bool"
 |.int _=> "int"
 |.str _=> "str"
 |.list _=> "list"
 |.tuple _=> "tuple"
 |.dict _=> "dict"
section
variable{prog:bz}{w:bw}{A:bm}{E:af -> ak -> Prop}{s:ak}
theorem ath{v:af}{bs:List Addr}(h:cq s.heap v d bs):s.TypeIs v (tyD d):=by
 cases h with
 |none=> exact ia s
 |bool b=> exact PySem.typeIs_bool s b
 |int i t=> exact typeIs_int s i t
 |str x t=> exact f7 s x t
 |list h1 h2 h3 h4=> exact⟨_,h1,h2⟩
 |tuple h1 h2 h3 h4=> exact⟨_,h1,h2⟩
 |dict h1 h2 h3 h4 h5=> exact⟨_,h1,h2⟩
theorem ak9{x y:af}{b:Bool}{Q:Bool -> ak -> Prop}(h:ajq A s x y b)(q:Q b s):wpAny (model prog w) A (oneLt' false x y) Q E s:=
 kat_one x y (h prog w E _ (show PySem.W.BoolBack Q (.bool b) s from q))
theorem ax8{b:Addr}{us ws:Array af}{r:Bool}{Q:Bool -> ak -> Prop}(hl:s.heap.IsTuple l us)(hb:s.heap.IsTuple b ws)(hu:A.units < cLine)(lx:LexAt A.in1 s (decide (us.size < ws.size)) (us.toList.zip ws.toList) r)(q:Q r s):wpAny (model prog w) A (oneLt' true (.ref l) (.ref b)) Q E s:=by
 obtain⟨⟨c1,d1,e1,s1⟩,o1,k1,n1,q1⟩:=id hl
 obtain⟨⟨c2,d2,e2,s2⟩,o2,k2,n2,q2⟩:=id hb
 simp only at k1 q1 k2 q2
 subst k1 q1 k2 q2
 rw [oneLt'_eq]
 simp only [if_true]
 (refine ae (wpAny_cRoomFor hu ?_))
 refine ae (wpAny_callSpecialIfBound?_slot (T:="tuple") (id:="tuple.__lt__") ⟨_,o1,rfl⟩ jF ?_)
 refine fh jF ⟨_,o1,rfl⟩ F.entry_tuple_lt (F.args_tuple_lt_2 _ _) (av0 l b us ws n1 n2 d1 d2 s1 s2 r) ⟨o1,o2,lx,?_⟩
 show wpAny (model prog w) A (truthOfDropped (.bool r)>>=fun x=> pure x) Q E s
 exact ae (ck (aj q))
theorem aei: ∀{vs:List af} {ds:List aa} {bs:List Addr} {Q:List af -> ak -> Prop},cc s.heap vs ds bs -> Q (ds.map fun d=> bN (tyD d)) s -> wpAny (model prog w) A (vs.mapM typeOf) Q E s
 |_,_,_,_,.nil,h=> by rw [List.mapM_nil];exact aj h
 |_,_,_,_,.cons r rs,h=> by
  rw [List.mapM_cons]
  exact ae (eT (ath r) (ae (aei rs (aj h))))
inductive Fsts (h:Heap):List aa -> List (Option af) -> Prop
 |nil:Fsts h [] []
 |no {ds:List aa} {fs:List (Option af)}:Fsts h ds fs -> Fsts h (.tuple []::ds) (none::fs)
 |yes {ds xs:List aa} {x:aa} {u:af} {bs:List Addr} {fs:List (Option af)}:cq h u x bs -> Fsts h ds fs -> Fsts h (.tuple (x::xs)::ds) (some u::fs)
theorem akx: ∀{vs:List af} {ds:List aa} {bs:List Addr},cc s.heap vs ds bs -> (∀d∈ds,∃xs,d=.tuple xs) -> ∃fs,Fsts s.heap ds fs/\ ∀{Q:List (Option af) -> ak -> Prop},Q fs s -> wpAny (model prog w) A (vs.mapM firstOfTuple') Q E s
 |_,_,_,.nil,_=> ⟨[],.nil,fun h=> by rw [List.mapM_nil];exact aj h⟩
 | _, _,_,.cons (v:=v) r rs,ht=> by
  obtain⟨fs,F,k⟩:=akx rs fun d hd=> ht d (az _ hd)
  obtain⟨xs,e⟩:=ht _ ax
  subst e
  cases r with
  | @tuple a o us n _ _ h1 h2 h3 h4=>
   have go: ∀f:Option af,us[0]?=f -> ∀{Q:List (Option af) -> ak -> Prop},Q (f::fs) s -> wpAny (model prog w) A ((bJ a::_).mapM firstOfTuple') Q E s:=fun f hf Q h=> by
    rw [List.mapM_cons,kas_first_eq]
    refine ae (ae (eT (T:="tuple") ⟨_,h1,h2⟩ ?_))
    rw [if_neg (by simp)]
    refine ae (listItems_at h1 h3 (aj ?_))
    rw [hf]
    exact ae (k (aj h))
   cases xs with
   | nil=>
    have:us[0]?=none:=by
     have e:us.toList=[]:=by cases h5:us.toList with
      |nil=> rfl
      |cons a b=> rw [h5]at h4;cases h4
     rw [←bG,e];rfl
    exact⟨_,.no F,go _ this⟩
   | cons x xs=>
    cases h5:us.toList with
    |nil=> rw [h5]at h4;cases h4
    |cons u t=>
     rw [h5]at h4
     cases h4 with
     |cons r1 r2=> exact⟨_,.yes r1 F,go _ (by rw [←bG,h5];rfl)⟩
theorem amu: ∀{ds:List aa} {fs:List (Option af)},Fsts s.heap ds fs -> fs.all (·.isSome)=true -> ∃xs us bs,fs=us.map some/\cc s.heap us xs bs/\xs.length=ds.length/\ ∀(i:Nat) (d:aa),ds[i]?=some d -> ∃x r,xs[i]?=some x/\d=.tuple (x::r)
 |_,_,.nil,_=> ⟨[],[],_,rfl,.nil,rfl,fun i d e=> by simp at e⟩
 |_,_,.no F,h=> by simp at h
 |_,_,.yes r F,h=> by
  obtain⟨xs,us,bs,e,ra,hl,k⟩:=amu F (by simpa using h)
  refine⟨_::xs,_::us,_,by rw [e];rfl,.cons r ra,by simp [hl],fun i d e=> ?_⟩
  cases i with
  |zero=> simp at e;subst e;exact⟨_,_,rfl,rfl⟩
  |succ i=> simpa using k i d (by simpa using e)
def ay0(ds:List aa)(κ:kR):Prop:=κ=general'\/κ=oneType'\/ ∃b,κ=tuples' b/\(b=true -> ∃T:String,T≠"tuple"/\ ∀d∈ds,∃x r,d=.tuple (x::r)/\tyD x=T)
theorem axc{vs:List af}{bs:List Addr}(ra:cc s.heap vs ds bs)(ht: ∀d∈ds,∃xs,d=.tuple xs)(hn:ds≠ []): ∃κ,ay0 ds κ/\ ∀{Q:kR -> ak -> Prop},Q κ s -> wpAny (model prog w) A (keyKind' vs.toArray) Q E s:=by
 obtain⟨fs,F,k⟩:=akx (prog:=prog) (w:=w) (A:=A) (E:=E) ra ht
 have hk: ∀{Q:kR -> ak -> Prop},wpAny (model prog w) A (do
   if fs.toArray.all (·.isSome) then
    rule "list.sort.keys-are-tuples" --
    return tuples' ((←oneTypeOnly' (fs.toArray.filterMap id)).any (· !=.type "tuple"))
   if (fs.toArray[0]?.bind id).isSome then return general'
   return if (←oneTypeOnly' vs.toArray).isSome then oneType' else general') Q E s -> wpAny (model prog w) A (keyKind' vs.toArray) Q E s:=fun {Q} h=> by
  (rw [keyKind'_eq,gj,map_eq_pure_bind])
  exact ae (ae (k (aj h)))
 by_cases ha:fs.all (·.isSome)=true
 ·obtain⟨xs,us,cs,e,ru,hl,kk⟩:=amu F ha
  have e1:fs.toArray.all (·.isSome)=true:=by simpa using ha
  have e2:fs.toArray.filterMap id=us.toArray:=by rw [e];simp
  obtain⟨x0,xr,hx⟩: ∃x0 xr,xs=x0::xr:=by
   cases xs with
   |nil=> rw [dP]at hl;exact absurd (List.length_eq_zero_iff.mp hl.symm) hn
   |cons a b=> exact⟨a,b,rfl⟩
  by_cases hT:xs.all (fun x=> decide (tyD x=tyD x0))=true
  ·refine⟨tuples' (bN (tyD x0) !=bN "tuple"),.inr (.inr ⟨_,rfl,fun hb=> ⟨tyD x0,fun z=> ?_,fun d hd=> ?_⟩⟩),fun {Q} h=> hk ?_⟩
   ·rw [z]at hb;simp at hb
   ·obtain⟨i,hi⟩:=gJ.mp hd
    obtain⟨x,r,h1,h2⟩:=kk i d hi
    exact⟨x,r,h2,of_decide_eq_true (ao.mp hT x (bA h1))⟩
   ·rw [if_pos e1,e2]
    refine ae (c9 ?_)
    (rw [oneTypeOnly'_eq,gj,map_eq_pure_bind])
    refine ae (ae (ae (aei ru (aj ?_))))
    rw [hx]
    have h0:(cA (fun d=> bN (tyD d)) (x0::xr)).toArray[0]?=some (bN (tyD x0)):=by simp
    have hall:((cA (fun d=> bN (tyD d)) (x0::xr)).toArray.all fun x=> x==bN (tyD x0))=true:=by
     (simp only [iY,cB,ao])
     intro y hy
     have:=of_decide_eq_true (ao.mp hT y (by rw [hx];exact hy))
     simp [this]
    rw [h0]
    simp only [hall,if_true]
    (exact aj (aj h))
  ·refine⟨tuples' false,.inr (.inr ⟨_,rfl,fun hb=> by cases hb⟩),fun {Q} h=> hk ?_⟩
   rw [if_pos e1,e2]
   refine ae (c9 ?_)
   (rw [oneTypeOnly'_eq,gj,map_eq_pure_bind])
   refine ae (ae (ae (aei ru (aj ?_))))
   rw [hx]
   have h0:(cA (fun d=> bN (tyD d)) (x0::xr)).toArray[0]?=some (bN (tyD x0)):=by simp
   have hall:((cA (fun d=> bN (tyD d)) (x0::xr)).toArray.all fun x=> x==bN (tyD x0))=false:=by
    rw [←hx]
    rw [em,List.all_eq_false]at hT
    obtain⟨y,hy,hne⟩:=hT
    simp only [iY,cB,List.all_eq_false]
    refine⟨y,hy,?_⟩
    simpa using hne
   rw [h0]
   simp only [hall,bn,if_false]
   (exact aj (aj h))
 ·have e1: ¬fs.toArray.all (·.isSome)=true:=by simpa using ha
  by_cases hf:(fs.toArray[0]?.bind id).isSome=true
  ·exact⟨general',.inl rfl,fun {Q} h=> hk (by rw [if_neg e1,if_pos hf];exact aj h)⟩
  ·refine⟨oneType',.inr (.inl rfl),fun {Q} h=> hk ?_⟩
   rw [if_neg e1,if_neg hf,oneTypeOnly'_eq,gj,map_eq_pure_bind]
   refine ae (ae (ae (aei ra (aj ?_))))
   obtain⟨d0,dr,rfl⟩: ∃d0 dr,ds=d0::dr:=by
    cases ds with
    |nil=> exact absurd rfl hn
    |cons a b=> exact⟨a,b,rfl⟩
   have h0:(cA (fun d=> bN (tyD d)) (d0::dr)).toArray[0]?=some (bN (tyD d0)):=by simp
   have hall:((cA (fun d=> bN (tyD d)) (d0::dr)).toArray.all fun x=> x==bN (tyD d0))=true:=by
    (simp only [iY,cB,ao])
    intro y hy
    obtain⟨z,rfl⟩:=ht y hy
    obtain⟨z0,rfl⟩:=ht d0 ax
    simp [tyD]
   rw [h0]
   simp only [hall,if_true]
   (exact aj (aj h))
def a8z(b:Bool)(i:Nat)(xs ys:List aa):Prop:=b=true -> i=0 -> ∀x y xr yr,xs=x::xr -> ys=y::yr -> ltP x y≠none -> aE x y=false -> (∃i j,x=.int i/\y=.int j)\/ ∃i j,x=.str i/\y=.str j
theorem aku{b:Bool}: ∀(xs ys:List aa) (vs ws:List af) (as bs:List Addr) (i:Nat) (r:Bool) (Q:Bool -> ak -> Prop),cc s.heap vs xs as -> cc s.heap ws ys bs -> aS xs=true -> aS ys=true -> A.units+min (ar xs) (ar ys) < cLine -> vo xs ys=some r -> a8z b i xs ys -> Q r s ->
  KatLex prog w A b (decide (vs.length < ws.length)) Q (vs.zip ws) i s
 |[],[],_,_,_,_,i,r,Q,ra,rb,_,_,_,h,_,q=> by
  cases ra;cases rb
  rw [yg]at h
  cases h
  exact kat_nil q
 |[],_::_,_,_,_,_,i,r,Q,ra,rb,_,_,_,h,_,q=> by
  cases ra;cases rb
  rw [xn]at h
  cases h
  exact kat_nil (by simpa using q)
 |_::_,[],_,_,_,_,i,r,Q,ra,rb,_,_,_,h,_,q=> by
  cases ra;cases rb
  rw [vd]at h
  cases h
  exact kat_nil (by simpa using q)
 | x ::xs,y::ys,_,_,_,_,i,r,Q,ra,rb,ha,hb,hu,h,f2,q=> by
  have ha':x.canLay0=true/\aS xs=true:=by simpa [aS] using ha
  have hb':y.canLay0=true/\aS ys=true:=by simpa [aS] using hb
  rw [zn]at h
  cases ra with
  | cons r1 rs=>
   cases rb with
   | cons r2 rs2=>
    have e:=kP x y A s _ _ _ _ r1 r2 ha'.1 hb'.1 (ij hu)
    rw [fS,aP,aP]
    refine kat_cons (e prog w _ _ ?_)
    by_cases c:aE x y=true
    ·rw [if_pos c]at h
     rw [c]
     have t:=aku (b:=b) xs ys _ _ _ _ (i+1) r Q rs rs2 ha'.2 hb'.2 (room_tail hu) h (fun _ z=> by lia) q
     refine kat_yes ?_
     simpa using t
    ·rw [if_neg c]at h
     rw [em]at c
     rw [c]
     refine kat_no ?_
     by_cases z:(b&&i==0)=true
     ·rw [z]
      rw [am]at z
      rcases f2 z.1 (by simpa using z.2) x y xs ys rfl rfl (by rw [h];simp) c with ⟨p,p',rfl,rfl⟩|⟨p,p',rfl,rfl⟩
      ·rw [acn]at h
       cases h
       cases r1;cases r2
       exact oneLt_int q
      ·rw [xq]at h
       cases h
       cases r1;cases r2
       exact oneLt_str q
     ·rw [em]at z
      rw [z]
      exact ak9 (acf x y A s _ _ _ _ r r1 r2 ha'.1 hb'.1 (ij hu) h) q
theorem azq{κ:kR}(hκ:ay0 ds κ){v u:af}{as bs:List Addr}{r:Bool}{Q:Bool -> ak -> Prop}(mx:aK xs∈ds)(my:aK ys∈ds)(ra:cq s.heap v (.tuple xs) as)(rb:cq s.heap u (.tuple ys) bs)(hx:(aK xs).canLay0=true)(hy:(aK ys).canLay0=true)(hu:A.units+66 < cLine)(dx:(aK xs).depth <=64)(h:ltP (.tuple xs) (.tuple ys)=some r)(q:Q r s):wpAny (model prog w) A (keyLt' κ v u) Q E s:=by
 have hu':A.units+min (aK xs).depth (aK ys).depth < cLine:=by lia
 rcases hκ with rfl|rfl|⟨b,rfl,hb⟩
 ·exact ak9 (acf _ _ A s _ _ _ _ r ra rb hx hy hu' h) q
 ·rw [keyLt'_oneType]
  cases ra with
  | tuple h1 h2 h3 h4=>
   cases rb with
   |tuple k1 k2 k3 k4=>
    rw [xm]at h
    refine ax8 ⟨_,h1,h2,_,h3⟩ ⟨_,k1,k2,_,k3⟩ (room_here hu') ?_ q
    have t:=ado xs ys A.in1 s _ _ _ _ r h4 k4 hx hy (room_in hu') h
    simpa using t
 ·cases ra with
  | tuple h1 h2 h3 h4=>
   cases rb with
   | tuple k1 k2 k3 k4=>
    rw [xm]at h
    refine kat_lt h1 h3 k1 k3 ?_
    have hd:ar xs < (aK xs).depth:=by simp only [aA];lia
    have t:=aku (prog:=prog) (w:=w) (A:=A) (b:=b) xs ys _ _ _ _ 0 r Q h4 k4 hx hy (by lia) h (fun hb' _ x y xr yr e1 e2 hn ne=> ?_) q
    ·simpa using t
    ·obtain⟨T,hT,al⟩:=hb hb'
     obtain⟨x',r',e3,t3⟩:=al _ mx
     obtain⟨y',r'',e4,t4⟩:=al _ my
     rw [e1]at e3
     rw [e2]at e4
     cases e3;cases e4
     cases x <;> cases y <;> simp [ltP,tyD]at hn t3 t4⊢
     all_goals (subst t3;simp at hT t4)
end
end PF
namespace PF
open PySem PySem.Spec
open L2
def arc(dx dy:D)(s:S):R D:=match toP s dx,toP s dy with
 |some a,some b=> match ltP a b with
  |some r=> if okD a=true/\okD b=true then .ok (.bl r) s else .bad
  |none=>.bad
 |_,_=>.bad
theorem a5u(hu:X.A.units+64 < cLine):Op2 X (aY .Lt) arc:=qj fun pins sh σ H as s x y dx dy v u Q I rl r1 r2 rx ry h=> by
 unfold arc at h
 split at h
 ·rename_i a b ea eb
  split at h
  ·rename_i r hr
   split at h
   ·rename_i hok
    obtain⟨bs1,q1⟩:=r1.reads I rl ea rx
    obtain⟨bs2,q2⟩:=r2.reads I rl eb ry
    obtain⟨c1,d1⟩:=xu hok.1
    obtain⟨c2,d2⟩:=xu hok.2
    exact acf a b _ _ _ _ _ _ r q1 q2 c1 c2 (by lia) hr _ _ _ _ ⟨.bl _,H,I,rfl,Dn.now (Q:=Q) h rl (.da (.bl _))⟩
   ·exact h.elim
  ·exact h.elim
 ·exact h.elim
end PF
namespace PF
open PySem PySem.Spec
open PySem.SeqAt
section
open AutoSeq1 (wpAny_loadPart') --
open MeetsSeq MeetsSeq2 MeetsSeq3 SeqRoads2 --
def alm(A:bm)(s:ak)(x y:af)(b:Bool):Prop:= ∀(prog:bz) (w:bw) (E:af -> ak -> Prop) (Q:af -> ak -> Prop),Q (.bool b) s -> wpAny (model prog w) A (gt .GtE x y) Q E s
inductive LexGe (A:bm) (s:ak) (fin:Bool):List (af×af) -> Bool -> Prop
 |nil:LexGe A s fin [] fin
 |same {x y:af} {r:List (af×af)} {b:Bool}:EqAt A s x y true -> LexGe A s fin r b -> LexGe A s fin ((x,y)::r) b
 |diff {x y:af} {r:List (af×af)} {b:Bool}:EqAt A s x y false -> alm A s x y b -> LexGe A s fin ((x,y)::r) b
theorem a3s(l b:Addr)(us ws:Array af)(n n2:Nat)(dd dd2:Option Addr)(sl sl2:Array (Option af))(r:Bool):
  Meets (d9.«tuple.__ge__» ⟨[.ref l,.ref b],[]⟩)
   (fun A R s=> s.heap.get? l=some {cls:=.type "tuple",dict:=dd,data:=.seq us n,slots:=sl}/\s.heap.get? b=some {cls:=.type "tuple",dict:=dd2,data:=.seq ws n2,slots:=sl2}/\
    LexGe A.in1 s (decide (ws.size <=us.size)) (us.toList.zip ws.toList) r/\R (.ok (.ret (.bool r))) s):=
 .of_wp fun prog w A R s h=> by
  (obtain⟨hp,g,d,tk,os⟩:=s)
  obtain⟨hl,hb,lx,hR⟩:=h
  have sub:=iW
  wp_walk using eK hl,eK hb,dz _ (fun ju b s'=> b.1=none/\s'=⟨hp,g,d,tk,os⟩/\LexGe A.in1 ⟨hp,g,d,tk,os⟩ (decide (ws.size <=us.size)) ju r) _
  case turn=>
   rintro⟨y,x⟩ ju b s' ⟨hb',rfl,lx⟩
   cases lx with
   |same e t=>
    refine ae (e prog w _ _ ?_)
    wp_walk
    exact⟨rfl,rfl,t⟩
   |diff e t=>
    refine ae (e prog w _ _ ?_)
    have t': ∀(E:af -> ak -> Prop) (Q:af -> ak -> Prop),Q (.bool r) ⟨hp,g,d,tk,os⟩ -> wpAny (model prog w) A.in1 (gt .GtE y x) Q E ⟨hp,g,d,tk,os⟩:=fun E Q=> t prog w E Q
    generalize gt .GtE y x=m at t'⊢
    wp_walk
    refine t' _ _ ?_
    wp_walk
    exact⟨_,rfl,hR⟩
  case fin=>
   rintro⟨b1,b2⟩ s' ⟨hb',rfl,lx⟩
   simp only at hb'
   subst hb'
   cases lx
   wp_walk
   exact⟨_,rfl,by simpa [gN] using hR⟩
  case h=> exact⟨rfl,rfl,lx⟩
section
variable{A:bm}{s:ak} --
theorem alm.tuples{b:Addr}{us ws:Array af}{r:Bool}(hl:s.heap.IsTuple l us)(hb:s.heap.IsTuple b ws)(hu:A.units < cLine)(lx:LexGe A.in1 s (decide (ws.size <=us.size)) (us.toList.zip ws.toList) r):alm A s (.ref l) (.ref b) r:=fun prog w E Q h=> by
 obtain⟨⟨c1,d1,e1,s1⟩,o1,k1,n1,q1⟩:=id hl
 obtain⟨⟨c2,d2,e2,s2⟩,o2,k2,n2,q2⟩:=id hb
 simp only at k1 q1 k2 q2
 subst k1 q1 k2 q2
 exact jS (op:=.GtE) ⟨_,o1,rfl⟩ ⟨_,o2,rfl⟩ F.slot_tuple_ge F.entry_tuple_ge (F.args_tuple_ge_2 _ _) (a3s l b us ws n1 n2 d1 d2 s1 s2 r) ⟨o1,o2,lx,show dD r≠kO/\Q (.bool r) s from ⟨nofun,h⟩⟩ hu
end
end
mutual
theorem ai6: ∀(da db:aa) (A:bm) (s:ak) (a b:af) (as bs:List Addr) (r:Bool),cq s.heap a da as -> cq s.heap b db bs -> da.canLay0=true -> db.canLay0=true -> A.units+min da.depth db.depth < cLine -> ltP da db=some r -> alm A s a b (!r)
 | .int i,db,A,s,_,_,_,_,r,ra,rb,_,_,_,h=> by
  cases db with
  |int j=>
   rw [acn]at h
   cases h
   cases ra;cases rb
   refine fun prog w E Q q=> PyProof.Rows.ge_int ?_
   rw [show decide (j <=i)= !decide (i < j) by rw [bi,Bool.not_eq_true',decide_eq_false_iff_not,decide_eq_true_eq];lia]
   exact q
  |none=> simp [ltP]at h
  |bool _=> simp [ltP]at h
  |str _=> simp [ltP]at h
  |list _=> simp [ltP]at h
  |tuple _=> simp [ltP]at h
  |dict _=> simp [ltP]at h
 | .str x,db,A,s,_,_,_,_,r,ra,rb,_,_,_,h=> by
  cases db with
  |str j=>
   rw [xq]at h
   cases h
   cases ra;cases rb
   exact fun prog w E Q q=> PySem.P.ge_str q
  |none=> simp [ltP]at h
  |bool _=> simp [ltP]at h
  |int _=> simp [ltP]at h
  |list _=> simp [ltP]at h
  |tuple _=> simp [ltP]at h
  |dict _=> simp [ltP]at h
 | .tuple xs,db,A,s,_,_,_,_,r,ra,rb,ha,hb,hu,h=> by
  cases db with
  | tuple ys=>
   rw [xm]at h
   cases ra with
   | tuple h1 h2 h3 h4=>
    cases rb with
    |tuple k1 k2 k3 k4=>
     refine alm.tuples ⟨_,h1,h2,_,h3⟩ ⟨_,k1,k2,_,k3⟩ (room_here hu) ?_
     have t:=ah6 xs ys A.in1 s _ _ _ _ r h4 k4 ha hb (room_in hu) h
     simpa using t
  |none=> simp [ltP]at h
  |bool _=> simp [ltP]at h
  |int _=> simp [ltP]at h
  |list _=> simp [ltP]at h
  |str _=> simp [ltP]at h
  |dict _=> simp [ltP]at h
 |.none,_,_,_,_,_,_,_,_,_,_,_,_,_,h=> by simp [ltP]at h
 |.bool _,_,_,_,_,_,_,_,_,_,_,_,_,_,h=> by simp [ltP]at h
 |.list _,_,_,_,_,_,_,_,_,_,_,_,_,_,h=> by simp [ltP]at h
 |.dict _,_,_,_,_,_,_,_,_,_,_,ha,_,_,_=> nomatch ha
theorem ah6: ∀(xs ys:List aa) (A:bm) (s:ak) (vs ws:List af) (as bs:List Addr) (r:Bool),cc s.heap vs xs as -> cc s.heap ws ys bs -> aS xs=true -> aS ys=true -> A.units+min (ar xs) (ar ys) < cLine -> vo xs ys=some r -> LexGe A s (decide (ws.length <=vs.length)) (vs.zip ws) (!r)
 |[],[],A,s,_,_,_,_,r,ra,rb,_,_,_,h=> by
  cases ra;cases rb
  rw [yg]at h
  cases h
  exact .nil
 |[],_::_,A,s,_,_,_,_,r,ra,rb,_,_,_,h=> by
  cases ra;cases rb
  rw [xn]at h
  cases h
  simpa using LexGe.nil (A:=A) (s:=s) (fin:=false)
 |_::_,[],A,s,_,_,_,_,r,ra,rb,_,_,_,h=> by
  cases ra;cases rb
  rw [vd]at h
  cases h
  simpa using LexGe.nil (A:=A) (s:=s) (fin:=true)
 | x ::xs,y::ys,A,s,_,_,_,_,r,ra,rb,ha,hb,hu,h=> by
  have ha':x.canLay0=true/\aS xs=true:=by simpa [aS] using ha
  have hb':y.canLay0=true/\aS ys=true:=by simpa [aS] using hb
  rw [zn]at h
  cases ra with
  | cons r1 rs=>
   cases rb with
   | cons r2 rs2=>
    have e:=kP x y A s _ _ _ _ r1 r2 ha'.1 hb'.1 (ij hu)
    rw [fS,aP,aP]
    by_cases q:aE x y=true
    ·rw [if_pos q]at h
     rw [q]at e
     have t:=ah6 xs ys A s _ _ _ _ r rs rs2 ha'.2 hb'.2 (room_tail hu) h
     refine .same e ?_
     simpa using t
    ·rw [if_neg q]at h
     rw [em]at q
     rw [q]at e
     exact .diff e (ai6 x y A s _ _ _ _ r r1 r2 ha'.1 hb'.1 (ij hu) h)
end
section
open L2
variable{X:Cx}
def asg(dx dy:D)(s:S):R D:=match toP s dx,toP s dy with
 |some a,some b=> match ltP a b with
  |some r=> if okD a=true/\okD b=true then .ok (.bl (!r)) s else .bad
  |none=>.bad
 |_,_=>.bad
theorem a5s(hu:X.A.units+64 < cLine):Op2 X (aY .GtE) asg:=qj fun pins sh σ H as s x y dx dy v u Q I rl r1 r2 rx ry h=> by
 unfold asg at h
 split at h
 ·rename_i a b ea eb
  split at h
  ·rename_i r hr
   split at h
   ·rename_i hok
    obtain⟨bs1,q1⟩:=r1.reads I rl ea rx
    obtain⟨bs2,q2⟩:=r2.reads I rl eb ry
    obtain⟨c1,d1⟩:=xu hok.1
    obtain⟨c2,d2⟩:=xu hok.2
    exact ai6 a b _ _ _ _ _ _ r q1 q2 c1 c2 (by lia) hr _ _ _ _ ⟨.bl _,H,I,rfl,Dn.now (Q:=Q) h rl (.da (.bl _))⟩
   ·exact h.elim
  ·exact h.elim
 ·exact h.elim
end
end PF
namespace PF
open PySem PySem.Spec
open L2
noncomputable def Its(x:Str):It:=⟨fun i _=> i < x.length,fun i H v H'=> H'=H/\ ∃c,x.cps.toList[i]?=some c/\v=.str ⟨#[c]⟩,fun i _=> x.length <=i⟩
theorem ar3(x:Str)(t:Tok)(it:Addr):Turn P w K tg (Its x) [it] it (fun i h=> h.IsStrIter it "str_ascii_iterator" x t i) where
 mem:=by simp
 obj:=fun i h st b hb=> by
  cases aO.mp hb
  obtain⟨o,e,c,d⟩:=st
  exact⟨o,e,fun v z=> by rw [d]at z;cases z⟩
 keep:=fun i h h' st k=> by
  obtain⟨o,e,c,d⟩:=st
  exact⟨o,k it (by simp) o e,c,d⟩
 item:=by
  intro X hP hw hK hc i pins s σ H E I hf st hg
  subst hP hw hK
  have hl:i < x.cps.size:=hg
  have hx:x.cps[i]?=some x.cps[i]:=d7 hl
  obtain⟨f0,f1,f2,f3,f4,f5⟩:=hf it (by simp)
  refine wpAny_pyNext_ascii_item st hx fun h' st' sb=> ?_
  have I1:Inv X pins σ H {s with heap:=h',toks:=s.toks+1}:=I.turned (t':=s.toks+1) (fun b o hb e=> (sb.2 b hb).trans e) f0 f1 f3 f4 f5
  obtain⟨o,e,c,d⟩:=id st'
  exact⟨_,rfl,al8 (s:={s with heap:=h',toks:=s.toks+1}) e c d (by decide) ⟨.str ⟨#[x.cps[i]]⟩,H,I1,⟨_,rfl⟩,⟨rfl,x.cps[i],by rw [←hx,bG],rfl⟩,st',fun b hb=> (hf b hb).1⟩⟩
 done:=by
  intro X hP hw hK hc i pins s σ H E I hf st hg
  subst hP hw hK
  have hl:x.cps.size <=i:=hg
  obtain⟨f0,f1,f2,f3,f4,f5⟩:=hf it (by simp)
  exact wpAny_pyNext_ascii_end (I.ok.hd hc) st (Array.getElem?_eq_none hl) fun h' eb=> ⟨rfl,I.turned (t':=s.toks) (fun b o hb e=> eb b o hb e) f0 f1 f3 f4 f5⟩
 self:=fun _ _ _ _ _ st h=> wpAny_pyIter_striter_ascii st h
section
variable{X:Cx}{tg a:Expr}{fa:FE}
def a7r(tl:TE):TI:=fun σ H R=> tl σ H fun v H1=> ∃x,v=.str x/\x.cps.all (· < 128)=true/\R (Its x) H1
theorem a4e{l:Expr}{tl:TE}(hl:PE X l tl):PI X tg l (a7r tl):=by
 intro pins s σ H R I h
 refine thn (hl pins s σ H _ I h) fun v s1 ⟨z,H1,I1,r1,q1⟩=> ?_
 obtain⟨x,rfl,hx,q⟩:=q1
 obtain⟨t,rfl⟩:=r1
 refine wpAny_pyIter_ascii hx ?_
 exact⟨s1.heap.objs.size,[s1.heap.objs.size],_,_,H1,rfl,I1.kept (t':=s1.toks) fun b o e=> aq _ e,ar3 x t _,⟨_,aQ _ rfl,rfl,rfl⟩,fun b hb=> by
  cases aO.mp hb
  exact I1.fpOk (aD _) (I1.hok.fresh (aD _)),q⟩
noncomputable def abw(x:Str):List D:=x.cps.toList.map fun c=>.str ⟨#[c]⟩
theorem a1p(x:Str):aer K as H (Its x) (abw x,none):=by
 intro as2 H2 s2 st rl so i
 have ln:(abw x).length=x.length:=by unfold abw;rw [au,aG];rfl
 refine⟨fun hl=> by rw [ln]at hl;exact hl,fun d hd=> ?_⟩
 have hl:i < x.length:=by
  have:=(aC.mp hd).1
  rw [ln]at this;exact this
 unfold abw at hd
 rw [a9]at hd
 cases e:x.cps.toList[i]? with
 |none=> rw [e]at hd;cases hd
 |some c=>
  rw [e]at hd
  cases hd
  refine⟨hl,fun v H3 hy=> ?_⟩
  obtain⟨rfl,c',ec,rfl⟩:=hy
  rw [e]at ec
  cases ec
  exact⟨Step.refl _ _,rl,.da (.str _)⟩
def ait(d:D)(s:S):R Wk:=match d with
 |.da (.str x)=> if x.cps.all (· < 128)=true then .ok (abw x,none) s else .bad
 |_=>.bad
def alv(f:FE):FI:=fun ρ s=> (f ρ s).bind ait
theorem bby(h:RE X a fa):RI X tg a (alv fa):=by
 obtain⟨t,p,r⟩:=h.ex
 refine⟨_,a4e p,fun as σ H ρ s Q rl en h=> ?_⟩
 refine r as σ H ρ s _ rl en (Dn.bind h fun d s1 as1 H1 v st1 rl1 r1 h1=> ?_)
 unfold ait at h1
 split at h1
 ·rename_i x
  cases r1.str_inv
  split at h1
  ·rename_i hx
   exact⟨x,rfl,hx,Dn.now (Q:=Q) h1 rl1 (a1p x)⟩
  ·exact h1.elim
 ·exact h1.elim
end
noncomputable def aj0(x y:Str):Bool:= !(eD x y 0 x.length 1).isEmpty
def ar1(dx dy:D)(s:S):R D:=match dx,dy with
 |.da (.str y),.da (.str x)=>.ok (.bl (aj0 x y)) s
 |_,_=>.bad
def ag9(dx dy:D)(s:S):R D:=match dx,dy with
 |.da (.str y),.da (.str x)=>.ok (.bl (!aj0 x y)) s
 |_,_=>.bad
theorem a6f:Op2 X (aY .In) ar1:=qj fun pins sh σ H as s x y dx dy v u Q I rl r1 r2 rx ry h=> by
 unfold ar1 at h
 split at h
 ·cases r1.str_inv;cases r2.str_inv
  obtain⟨t,rfl⟩:=rx
  obtain⟨t',rfl⟩:=ry
  exact PyProof.Rows.in_str (jy I (Dn.now (Q:=Q) h rl (.da (.bl _))) rfl)
 ·exact h.elim
theorem awg:Op2 X (aY .NotIn) ag9:=qj fun pins sh σ H as s x y dx dy v u Q I rl r1 r2 rx ry h=> by
 unfold ag9 at h
 split at h
 ·cases r1.str_inv;cases r2.str_inv
  obtain⟨t,rfl⟩:=rx
  obtain⟨t',rfl⟩:=ry
  exact PyProof.Rows.notIn_str (jy I (Dn.now (Q:=Q) h rl (.da (.bl _))) rfl)
 ·exact h.elim
theorem aoc: ∀c:Nat,c < 128 -> aj0 (bQ "abcdefghijklmnopqrstuvwxyz") ⟨#[c]⟩=(decide (97 <=c)&&decide (c <=122)):=by decide+kernel
section
variable{s:S}{a b:aa}{r c d:Bool}{x y:Str}{ρ:En}
theorem azo(h:ltP a b=some r)(h1:okD a=true)(h2:okD b=true):arc (.da a) (.da b) s=.ok (.bl r) s:=by
 show (match ltP a b with|some r=> if okD a=true/\okD b=true then R.ok (D.bl r) s else .bad|none=>.bad)=_
 rw [h]
 exact if_pos ⟨h1,h2⟩
theorem a0m(h:ltP a b=some r)(h1:okD a=true)(h2:okD b=true):asg (.da a) (.da b) s=.ok (.bl (!r)) s:=by
 show (match ltP a b with|some r=> if okD a=true/\okD b=true then R.ok (D.bl (!r)) s else .bad|none=>.bad)=_
 rw [h]
 exact if_pos ⟨h1,h2⟩
theorem a0o:alo (.bl c) (.bl d) s=.ok (.bl (c==d)) s:=(rfl)
theorem as0:adw (.bl c) (.bl d) s=.ok (.bl (c !=d)) s:=(rfl)
theorem a1s:ar1 (.str y) (.str x) s=.ok (.bl (aj0 x y)) s:=(rfl)
theorem auh:ag9 (.str y) (.str x) s=.ok (.bl (!aj0 x y)) s:=(rfl)
theorem ajb(h:x.cps.all (· < 128)=true):ait (.str x) s=.ok (abw x,none) s:=if_pos h
theorem aq8:alv f ρ s=(f ρ s).bind ait:=(rfl)
end
theorem alt(h:x.cps.all (· < 128)=true): ∀c∈x.cps.toList,aj0 (bQ "abcdefghijklmnopqrstuvwxyz") ⟨#[c]⟩=(decide (97 <=c)&&decide (c <=122)):=by
 intro c hc
 refine aoc c ?_
 rw [←gz,ao]at h
 exact of_decide_eq_true (h c hc)
noncomputable def an6(ds:List D)(s:S):R D:=match ds with
 |[.da (.int i)]=> if i.natAbs.log2 < 1920 then .ok (.str (toString i)) s else .bad
 |[.da (.bool b)]=>.ok (.str (if b then "True" else "False")) s
 |_=>.bad
theorem a5m:CB X (.type "str") an6:=adg fun pins sh σ H as s xs ds us Q I rl rs ru h=> by
 unfold an6 at h
 split at h
 ·obtain⟨v,rfl,rv⟩:=rs.one
  cases rv.int_inv
  obtain⟨u,rfl,r9⟩:=vals1 ru
  obtain⟨t,rfl⟩:=r9
  split at h
  ·rename_i hz
   exact PySem.P.str_of_int hz (show EP X pins σ Q _ _ from ⟨.str _,H,I.tok _,⟨_,rfl⟩,Dn.now (Q:=Q) h rl (.da (.str _))⟩)
  ·exact h.elim
 ·obtain⟨v,rfl,rv⟩:=rs.one
  cases rv.bl_inv
  obtain⟨u,rfl,r9⟩:=vals1 ru
  cases r9
  exact PySem.P.str_of_bool (show EP X pins σ Q _ _ from ⟨.str _,H,I.tok _,⟨_,rfl⟩,Dn.now (Q:=Q) h rl (.da (.str _))⟩)
 ·exact h.elim
noncomputable def isStr:D -> Bool
 |.da (.str _)=> true
 |_=> false
def fMs(g:GM)(fo:FE)(fa:FA):FE:=fun ρ s=> (fo ρ s).bind fun d s1=> if isStr d=true then (fa ρ s1).bind fun ds s2=> g d ds s2 else .bad
theorem a2k{d:D}(r:RD K as H v d)(h:isStr d=true):tyV K "str" v H:=by
 cases r with
 |da t=>
  cases t with
  |str x=> exact rfl
  |_=> cases h
 |_=> cases h
theorem aqq{id:String}{g:GM}(h: ∀(pins:List (Addr×Obj)) (sh:ak) (σ:St) (H:Hp) (as:As) (s:S) (x:V) (xs:List V) (d:D) (ds:List D) (v:af) (us:List af) (Q:VK),Inv X pins σ H sh -> Rel X.K as H s -> RD X.K as H x d -> RDs X.K as H xs ds -> RelV x v -> jn xs us ->
  Dn X.K (rD X.K) as H (g d ds s) Q -> wpAny (model X.prog X.w) X.A (call (.builtin id) (v::us)) (EP X pins σ Q) X.xe sh):MB X id g:=
 ⟨fun x xs H Q=> ∃as s d ds,Rel X.K as H s/\RD X.K as H x d/\RDs X.K as H xs ds/\Dn X.K (rD X.K) as H (g d ds s) Q,fun pins sh σ H x xs v us Q I r rs ⟨as,s,d,ds,rl,r1,r2,q⟩=> h pins sh σ H as s x xs d ds v us Q I rl r1 r2 r rs q,fun as H s x xs d ds Q rl r1 r2 q=> ⟨as,s,d,ds,rl,r1,r2,q⟩⟩
theorem a39{o:Expr}{id:String}{g:GM}{apos cpos:Pos}(slot:Slot "str" name id)(hty:typeOf (.builtin id)=pure (.type "method_descriptor"))(hm:MB X id g)(ho:RE X o fo)(hbase:fx o name X.env (eval o X.env)=eval o X.env:=by rfl)(hline:(apos.endLine==cpos.line)=true:=by rfl):RE X (.Call (.Attribute o name apos) [] [] cpos) (fMs g fo jc):=by
 obtain⟨r,hr,hg⟩:=hm.ex
 obtain⟨to,po,ro⟩:=ho.ex
 refine⟨_,a44 PySem.F.plainAttrs_str slot hty hr po hbase hline,fun as σ H ρ s Q rl en h=> ?_⟩
 refine ro as σ H ρ s _ rl en (Dn.bind h fun d s1 as1 H1 v st1 rl1 r1 h1=> ?_)
 split at h1
 ·rename_i hl
  exact⟨a2k r1 hl,hg as1 H1 s1 v [] d [] Q rl1 r1 .nil h1⟩
 ·exact h1.elim
noncomputable def ae9:GM:=fun d ds s=> match d,ds with
 |.da (.str x),[]=> if Builtin.Str.tooLong (ik x).length=false then .ok (.str (ik x)) s else .bad
 |_,_=>.bad
theorem m_upper:MB X "str.upper" ae9:=aqq fun pins sh σ H as s x xs d ds v us Q I rl r1 r2 rv rs h=> by
 unfold ae9 at h
 split at h
 ·cases r1.str_inv
  cases r2
  obtain⟨t,rfl⟩:=rv
  cases rs
  split at h
  ·rename_i hz
   exact SC.upper hz (show EP X pins σ Q _ _ from ⟨.str _,H,I.tok _,⟨_,rfl⟩,Dn.now (Q:=Q) h rl (.da (.str _))⟩)
  ·exact h.elim
 ·exact h.elim
end PF
namespace PF
open PySem PySem.Spec PySem.W PyProof.Rows
open PySem.SeqAt
def ltN(ds:List aa)(i j:Nat):Bool:=match ds[i]?,ds[j]? with
 |some a,some b=> ltb a b
 |some _,none=> true
 |none,_=> false
theorem azj(h:vi ds=true):KS.Swo (ltN ds) where
 tr {a b c} h1 h2:=by
  unfold ltN at h1 h2⊢
  cases ha:ds[a]? with
  |none=> rfl
  | some x=>
   rw [ha]at h1
   cases hb:ds[b]? with
   |none=> rw [hb]at h1;cases h1
   | some y=>
    rw [hb]at h1 h2
    cases hc:ds[c]? with
    |none=> rw [hc]at h2;cases h2
    |some z=>
     rw [hc]at h2
     exact aof h (bA ha) (bA hb) (bA hc) h1 h2
 as {a b} h1:=by
  unfold ltN at h1⊢
  cases ha:ds[a]? with
  |none=> rw [ha]at h1;cases h1
  | some x=>
   rw [ha]at h1
   cases hb:ds[b]? with
   |none=> rfl
   |some y=>
    rw [hb]at h1
    exact alu h (bA ha) (bA hb) h1
section
variable{prog:bz}{w:bw}{A:bm}{E:af -> ak -> Prop}{s:ak}
theorem adf{h:Heap}: ∀{vs:List af} {ds:List aa} {bs:List Addr} {i:Nat},cc h vs ds bs -> i < ds.length -> ∃d cs,ds[i]?=some d/\cq h (vs.getD i bu) d cs
 |_,_,_,_,.nil,hi=> by simp at hi
 |_,_,_,0,.cons r rs,_=> ⟨_,_,rfl,r⟩
 |_,_,_,i+1,.cons r rs,hi=> by
  obtain⟨d,cs,e,q⟩:=adf (i:=i) rs (by simpa using hi)
  exact⟨d,cs,by simpa using e,by simpa using q⟩
theorem a30{vs:List af}{bs:List Addr}(ra:cc s.heap vs ds bs)(hc:vi ds=true)(hok:ds.all okD=true)(h2:2 <=vs.length)(hu:A.units+66 < cLine):
  wpAny (model prog w) A (keyKind' vs.toArray) (fun κ s''=> s''=s/\ ∀(i j:Nat) (C:Bool -> ak -> Prop),i < vs.length -> j < vs.length -> C (ltN ds i j) s -> wpAny (model prog w) A (keyLt' κ (vs.getD i bu) (vs.getD j bu)) C (fun _ _=> False) s) (fun _ _=> False) s:=by
 have hl:vs.length=ds.length:=ReadsAll.length ds vs bs ra
 have ask: ∀(κ:kR),(∀(x y:aa) (v u:af) (as cs:List Addr) (r:Bool) (C:Bool -> ak -> Prop),x∈ds -> y∈ds -> cq s.heap v x as -> cq s.heap u y cs -> ltP x y=some r -> C r s -> wpAny (model prog w) A (keyLt' κ v u) C (fun _ _=> False) s) ->
   s=s/\ ∀(i j:Nat) (C:Bool -> ak -> Prop),i < vs.length -> j < vs.length -> C (ltN ds i j) s -> wpAny (model prog w) A (keyLt' κ (vs.getD i bu) (vs.getD j bu)) C (fun _ _=> False) s:=fun κ k=> by
  refine⟨rfl,fun i j C hi hj hC=> ?_⟩
  obtain⟨x,as,ex,rx⟩:=adf (i:=i) ra (by lia)
  obtain⟨y,cs,ey,ry⟩:=adf (i:=j) ra (by lia)
  have mx:=bA ex
  have my:=bA ey
  obtain⟨r,hr⟩:=afx hc mx my
  refine k x y _ _ as cs r C mx my rx ry hr ?_
  have:ltN ds i j=r:=by
   unfold ltN
   rw [ex,ey]
   show ltb x y=r
   unfold ltb
   rw [hr]
   cases r <;> rfl
  rw [←this];exact hC
 obtain⟨d0,dr,hd⟩: ∃d0 dr,ds=d0::dr:=by
  cases ds with
  |nil=> rw [dP]at hl;lia
  |cons a b=> exact⟨a,b,rfl⟩
 have m0:d0∈ds:=by rw [hd];exact ax
 have cmp0: ∀d∈ds,∃r,ltP d0 d=some r:=fun d hm=> afx hc m0 hm
 have lay: ∀d∈ds,d.canLay0=true/\d.depth <=64:=fun d hm=> by
  have:=ao.mp hok d hm
  unfold okD at this
  rw [am,decide_eq_true_eq]at this
  exact this
 have typ: ∀v∈vs,∃d cs,d∈ds/\cq s.heap v d cs:=fun v hv=> by
  obtain⟨i,hi⟩:=gJ.mp hv
  have hil:=(aC.mp hi).1
  obtain⟨x,as,ex,rx⟩:=adf (i:=i) ra (by lia)
  have:vs.getD i bu=v:=by simp [hi]
  rw [this]at rx
  exact⟨x,as,bA ex,rx⟩
 cases d0 with
 | int i0=>
  have ai: ∀d∈ds,∃i,d=.int i:=fun d hm=> by
   obtain⟨r,hr⟩:=cmp0 d hm
   cases d <;> simp [ltP]at hr
   exact⟨_,rfl⟩
  refine kas_kind (T:=.type "int") h2 (fun v hv=> ?_) (by decide) (by decide) (ask oneType' fun x y v u as cs r C mx my rx ry hr hC=> ?_)
  ·obtain⟨d,cs,hm,rd⟩:=typ v hv
   obtain⟨i,rfl⟩:=ai d hm
   cases rd
   exact Looks.of_pure rfl
  ·obtain⟨i,rfl⟩:=ai x mx
   obtain⟨j,rfl⟩:=ai y my
   rw [acn]at hr
   cases hr
   cases rx;cases ry
   exact kat_lt_int hC
 | str i0=>
  have ai: ∀d∈ds,∃i,d=.str i:=fun d hm=> by
   obtain⟨r,hr⟩:=cmp0 d hm
   cases d <;> simp [ltP]at hr
   exact⟨_,rfl⟩
  refine kas_kind (T:=.type "str") h2 (fun v hv=> ?_) (by decide) (by decide) (ask oneType' fun x y v u as cs r C mx my rx ry hr hC=> ?_)
  ·obtain⟨d,cs,hm,rd⟩:=typ v hv
   obtain⟨i,rfl⟩:=ai d hm
   cases rd
   exact Looks.of_pure rfl
  ·obtain⟨i,rfl⟩:=ai x mx
   obtain⟨j,rfl⟩:=ai y my
   rw [xq]at hr
   cases hr
   cases rx;cases ry
   exact kas_lt_str hC
 | tuple t0=>
  have ai: ∀d∈ds,∃i,d=.tuple i:=fun d hm=> by
   obtain⟨r,hr⟩:=cmp0 d hm
   cases d <;> simp [ltP]at hr
   exact⟨_,rfl⟩
  obtain⟨κ,hκ,k⟩:=axc (prog:=prog) (w:=w) (A:=A) (E:=fun _ _=> False) ra ai (by rw [hd];simp)
  refine k (ask κ fun x y v u as cs r C mx my rx ry hr hC=> ?_)
  obtain⟨i,rfl⟩:=ai x mx
  obtain⟨j,rfl⟩:=ai y my
  exact azq hκ mx my rx ry (lay _ mx).1 (lay _ my).1 hu (lay _ mx).2 hr hC
 |none=> obtain⟨r,hr⟩:=cmp0 _ m0;simp [ltP]at hr
 |bool _=> obtain⟨r,hr⟩:=cmp0 _ m0;simp [ltP]at hr
 |list _=> obtain⟨r,hr⟩:=cmp0 _ m0;simp [ltP]at hr
 |dict _=> obtain⟨r,hr⟩:=cmp0 _ m0;simp [ltP]at hr
theorem ara{r:Addr}(h64:ds.length < 64)(hc:vi ds=true)(hok:ds.all okD=true)(hu:A.units+70 < cLine)(coll: ∀(R:List af -> ak -> Prop),(∀h' d' tk (vs:List af) (bs:List Addr),cc h' vs ds bs -> (∀b u,s.heap.get? b=some u -> h'.get? b=some u) ->
    (∀(h1 h2:Heap) (d2:Drawn) (tk2 e:Nat) (p:List Nat),p.Perm (aZ vs.length) -> (p.map fun i=> ds.getD i .none)=ql ds -> (∀b u,s.heap.get? b=some u -> h1.get? b=some u) -> (∀b u,h'.get? b=some u -> h1.get? b=some u) -> h2.get? h1.objs.size=some (seqObj "list" (p.map fun i=> vs.getD i bu).toArray e) -> (∀b u,h1.get? b=some u -> h2.get? b=some u) ->
     Q (.ref h1.objs.size) {s with heap:=h2,drawn:=d2,toks:=tk2}) -> R vs {s with heap:=h',drawn:=d',toks:=tk}) -> wpAny (model prog w) A.in1 (collect (.ref r)) R E s):
  wpAny (model prog w) A (call (.builtin "sorted") [.ref r]) Q E s:=by --
 refine Calls.call_function_entry kind_sorted plain_sorted entry_sorted (args_sorted1 _) ?_;unfold d9.«sorted»
 refine ae (m:=checkCount "sorted" 1 1 _) (aj (ae (coll _ fun h' d' tk vs bs ra kp q=> ?_)))
 have hl:vs.length=ds.length:=ReadsAll.length ds vs bs ra
 refine ae (wpAny_newList ?_ (by rw [cR];lia));have g:(h'.push {cls:=.type "list",data:=.seq vs.toArray}).get? h'.objs.size=some (seqObj "list" vs.toArray 0):=aQ _ rfl
 have hin1:=yn A
 have hin2:=yn A.in1
 refine ae (bB (cE slot_list_sort ⟨_,g,rfl⟩ entry_list_sort (KS.avu g (by lia) (azj hc) (fun h2 s' k'=> a30 (ds:=ds) (bs:=bs) ?_ hc hok h2 (by lia)) fun p pm pw=> ⟨_,rfl,?_⟩) (args_list_sort _)))
 ·refine il (fun b o eb=> k' b o (aT (aM eb)) (aq _ eb)) ra
 ·obtain⟨e,ge⟩:=sortedHeap_at (out:=(p.map fun i=> vs.getD i bu).toArray) g
  have es:(p.map fun i=> ds.getD i .none)=ql ds:=by
   have e0:(aZ vs.length).map (fun i=> ds.getD i .none)=ds:=by
    rw [hl]
    apply dj
    intro i
    rw [a9]
    by_cases z:i < ds.length
    ·rw [dw z,av z]
     simp [z]
    ·rw [c8.mpr (by simpa using z),c8.mpr (by simpa using z)];rfl
   refine awa hc ?_ ?_
   ·have:=pm.map fun i=> ds.getD i .none
    rwa [e0]at this
   ·rw [ace,dW]
    refine iZ ?_ pw
    intro a b ma mb h
    have la:a < ds.length:=by have:=bD.mp (pm.mem_iff.mp ma);lia
    have lb:b < ds.length:=by have:=bD.mp (pm.mem_iff.mp mb);lia
    unfold ltN at h
    rw [av la,av lb]at h
    simpa [la,lb] using h
  refine aj ⟨_,rfl,q h' _ d' tk e p pm es kp (fun b u z=> z) ge fun b u eb=> ?_⟩
  have lb:=aM eb
  rw [sortedHeap_old (aT lb) (by rw [bT];exact cU lb)]
  exact aq _ eb
end
end PF
namespace PF
open PySem PySem.Spec
open L2
theorem TDs.pick{as:As}{H:Hp}{vs:List V}{ds:List aa}(t:TDs as H vs ds): ∀p:List Nat,(∀i∈p,i < ds.length) -> TDs as H (p.map fun i=> vs.getD i .non) (p.map fun i=> ds.getD i .none)
 |[],_=>.nil
 |i::r,h=> by
  have hi:=h i ax
  obtain⟨v,e,td⟩:=t.get (i:=i) (d:=ds[i]) (av hi)
  refine .cons ?_ (TDs.pick t r fun j hj=> h j (az _ hj))
  show TD as H (vs.getD i .non) (ds.getD i .none)
  rw [show vs.getD i .non=v by simp [e],show ds.getD i .none=ds[i] by simp [hi]]
  exact td
theorem awc(r:jn vs us)(e:vs[i]?=some v): ∃u,us[i]?=some u/\RelV v u:=by
 induction r generalizing i with
 |nil=> simp at e
 |cons a b ih=>
  cases i with
  |zero=> simp at e;subst e;exact⟨_,rfl,a⟩
  |succ i=> simpa using ih (by simpa using e)
theorem ak4{vs:List V}{us:List af}(r:jn vs us): ∀p:List Nat,(∀i∈p,i < vs.length) -> jn (p.map fun i=> vs.getD i .non) (p.map fun i=> us.getD i bu)
 |[],_=>.nil
 |i::q,h=> by
  have hi:=h i ax
  obtain⟨u,e,rv⟩:=awc r (i:=i) (av hi)
  refine .cons ?_ (ak4 r q fun j hj=> h j (az _ hj))
  show RelV (vs.getD i .non) (us.getD i bu)
  rw [show vs.getD i .non=vs[i] by simp [hi],show us.getD i bu=u by simp [e]]
  exact rv
def zt(m:Bool)(ds:List D)(s:S):R D:=match ds with
 |[d]=> match (afm s d).bind kg with
  |some xs=> if xs.length < 64/\vi xs=true/\xs.all okD=true then qy m ((ql xs).map D.da) s else .bad
  |none=>.bad
 |_=>.bad
theorem awo(m:Bool)(hu:X.A.units+70 < cLine):CB X (.builtin "sorted") (zt m):=adg fun pins sh σ H as s xs ds us Q I rl rs ru h=> by
 unfold zt at h
 split at h
 ·rename_i d
  split at h
  ·rename_i es he
   split at h
   ·rename_i hcond
    obtain⟨h64,hc,hok⟩:=hcond
    obtain⟨v,rfl,rv⟩:=rs.one
    cases e1:afm s d with
    |none=> rw [e1]at he;cases he
    | some ys=>
     rw [e1]at he
     have hp:kg ys=some es:=he
     have e2:=zd hp
     subst e2
     obtain⟨p,zs,rfl,sq,rz⟩:=ae1 rl rv e1
     obtain⟨u,rfl,ruv⟩:=vals1 ru
     cases ruv
     have td:=rz.td
     have fin: ∀(its:List af),jn zs its -> (∃(T:String) (o:Obj) (n:Nat),(T="list"\/T="tuple")/\sh.heap.get? p=some o/\o.cls=.type T/\o.data=.seq its.toArray n) -> wpAny (model X.prog X.w) X.A (call (.builtin "sorted") [.ref p]) (EP X pins σ Q) X.xe sh:=fun its rv ⟨T,o,n,hT,ho,hcl,hd⟩=> by
      obtain⟨bs,ra⟩:=td.reads I rv
      have hl2:its.length=es.length:=PySem.SeqAt.ReadsAll.length es its bs ra
      refine ara (ds:=es) h64 hc hok hu fun R k=> PySem.wpAny_collect_seq p hT ho hcl hd (fun h' kp=> ?_) (by rw [aH,cR];lia)
      have k1:=k h' sh.drawn sh.toks its bs (il kp ra) kp
      refine k1 fun h1 h2 d2 tk2 e p' pm es' kp1 kp1' g kp2=> ?_
      have I1:Inv X pins σ H {sh with heap:=h1,toks:=sh.toks}:=I.un (Un.kept kp1) (I.hok.kept kp1)
      have hz:zs.length=es.length:=td.length
      have hlt: ∀i∈p',i < es.length:=fun i hi=> by have:=bD.mp (pm.mem_iff.mp hi);lia
      have vp:=ak4 rv p' (fun i hi=> by rw [hz];exact hlt i hi)
      have hlen:p'.length=es.length:=by rw [pm.length_eq,dX,hl2]
      have I2:Inv X pins σ (upd H h1.objs.size (.lst (p'.map fun i=> zs.getD i .non))) {sh with heap:=h2,toks:=tk2}:=I1.laid (t':=tk2) kp2 (aD _) ⟨by rw [au,hlen,cR];lia,_,e,vp,by simpa [PyProof.Rows.seqObj] using g⟩
      have nw:New H h1.objs.size (.lst (p'.map fun i=> zs.getD i .non)) (upd H h1.objs.size (.lst (p'.map fun i=> zs.getD i .non))):=⟨I1.hok.fresh (aD _),rfl⟩
      have tp:=(td.pick p' hlt).rd (K:=X.K)
      rw [es']at tp
      exact⟨.ref h1.objs.size,_,I2.drew d2,rfl,acp h rl tp nw⟩
     rcases sq with sq|sq
     ·obtain⟨its,rv,⟨o,k,h1,h2,h3,h4⟩,z⟩:=I.list sq
      exact fin its rv ⟨"list",o,_,.inl rfl,h1,h2,h4⟩
     ·obtain⟨its,rv,⟨o,h1,h2,k,h3⟩,z⟩:=I.tuple sq
      exact fin its rv ⟨"tuple",o,_,.inr rfl,h1,h2,h3⟩
   ·exact h.elim
  ·exact h.elim
 ·exact h.elim
end PF
namespace L2
open PySem PySem.Spec PyProof.Rows
abbrev TBd:=Addr -> St -> Hp -> (St -> Hp -> Prop) -> Prop
noncomputable def a7b(elt:Expr)(acc:af)(env:Env):Sem Unit:=do let _←call (.builtin "list.append") [acc,←eval elt env]
theorem az6(elt tg iter tg2 iter2:Expr)(ifs ifs2:List Expr)(scope:dM)(pos:Pos)(it acc:af)(env:Env):compTurn (.ListComp elt [⟨tg,iter,ifs,0⟩,⟨tg2,iter2,ifs2,0⟩] scope pos) 0 it acc env=(do
  standAt iter.pos
  match←pyNext it with
  |none=> pure (.done .next)
  | some v=>
   dN tg it v
   assign tg env v
   let ok←aig env ifs
   if ok=true then
    let x←eval iter2 env
    standAt iter2.pos
    let x←bU iter2 env x
    let _←runOwn (.compStart (.ListComp elt [⟨tg,iter,ifs,0⟩,⟨tg2,iter2,ifs2,0⟩] scope pos) 1 (←holding [x] (pyIter x)) acc env) env
   again (.compLoop (.ListComp elt [⟨tg,iter,ifs,0⟩,⟨tg2,iter2,ifs2,0⟩] scope pos) 0 it acc env)):=rfl
theorem awr(elt tg iter tg2 iter2:Expr)(ifs ifs2:List Expr)(scope:dM)(pos:Pos)(it acc:af)(env:Env):compTurn (.ListComp elt [⟨tg,iter,ifs,0⟩,⟨tg2,iter2,ifs2,0⟩] scope pos) 1 it acc env=(do
  standAt iter2.pos
  match←pyNext it with
  |none=> pure (.done .next)
  |some v=>
   dN tg2 it v
   assign tg2 env v
   let ok←aig env ifs2
   if ok=true then a7b elt acc env
   again (.compLoop (.ListComp elt [⟨tg,iter,ifs,0⟩,⟨tg2,iter2,ifs2,0⟩] scope pos) 1 it acc env)):=rfl
section
variable{P:bz}{w:bw}{A:bm}{R:jV -> ak -> Prop}{s:ak}{elt tg iter tg2 iter2:Expr}{ifs ifs2:List Expr}{sc:dM}{pos:Pos}{it acc:af}{env:Env}
abbrev LC2(elt tg iter tg2 iter2:Expr)(ifs ifs2:List Expr)(sc:dM)(pos:Pos):Expr:=.ListComp elt [⟨tg,iter,ifs,0⟩,⟨tg2,iter2,ifs2,0⟩] sc pos
def LcT(P:bz)(w:bw)(A:bm)(it:af)(tg:Expr)(l:List Expr)(env:Env)(body:(ak -> Prop) -> ak -> Prop)(fin again:ak -> Prop)(s:ak):Prop:=
 Wn P w A (pyNext it) (fun r a=> match r with
  |none=> fin a
  |some v=> Wn P w A (dN tg it v) (fun _ b=> Wn P w A (assign tg env v) (fun _ c=> Wn P w A (aig env l) (fun ok d=> if ok=true then body again d else again d) c) b) a) s
def ay5(P:bz)(w:bw)(A:bm)(elt:Expr)(acc:af)(env:Env)(again:ak -> Prop)(s:ak):Prop:=Wn P w A (eval elt env) (fun x e=> Wn P w A (call (.builtin "list.append") [acc,x]) (fun _ g=> again g) e) s
def aew(P:bz)(w:bw)(A:bm)(e iter:Expr)(acc:af)(env:Env)(again:ak -> Prop)(s:ak):Prop:=
 Wn P w A (eval iter env) (fun x a=> Wn P w A (pyIter x) (fun it2 c=> codeAny (model P w) A (.compStart e 1 it2 acc env) (fun r z=> match r with|.ok _=> again z|.error _=> False) c) a) s
theorem a5v(J:Nat -> ak -> Prop)(hs: ∀x,bU iter2 env x=pure x)
  (turn: ∀n s,J n s -> LcT P w A it tg ifs env (aew P w A (LC2 elt tg iter tg2 iter2 ifs ifs2 sc pos) iter2 acc env) (R (.ok .next)) (fun z=> ∃m,m < n/\J m z) s) (n:Nat) (h:J n s):codeAny (model P w) A (.compLoop (LC2 elt tg iter tg2 iter2 ifs ifs2 sc pos) 0 it acc env) R s:=by
 refine lI rfl J (fun k z hz=> ?_) n h
 have one:=turn k z hz
 show wpAny _ A (lU (compTurn (LC2 elt tg iter tg2 iter2 ifs ifs2 sc pos) 0 it acc env) fun x=> do lJ x env;jC x) _ _ z
 refine lV ?_
 rw [az6]
 refine ae (du (ae (bE one (fun r a ha=> ?_) fun _ _ f=> f.elim)))
 cases r with
 |none=> exact aj ha
 | some v=>
  refine ae (bE ha (fun _ b hb=> ae (bE hb (fun _ c hc=> ae (bE hc (fun ok d hd=> ?_) fun _ _ f=> f.elim)) fun _ _ f=> f.elim)) fun _ _ f=> f.elim)
  cases ok with
  |false=>
   have q: ∃m,m < k/\J m d:=hd
   exact aj ⟨rfl,q⟩
  |true=>
   have q:aew P w A (LC2 elt tg iter tg2 iter2 ifs ifs2 sc pos) iter2 acc env (fun z=> ∃m,m < k/\J m z) d:=hd
   refine ae (bE q (fun x e he=> ae (du (ae ?_))) fun _ _ f=> f.elim)
   rw [hs x]
   refine aj (ae (bB (bE he (fun it2 e2 he2=> ae (wpAny_runOwn (dG he2 fun r z hz=> ?_))) fun _ _ f=> f.elim)))
   cases r with
   |ok f=> exact aj ⟨rfl,hz⟩
   |error e=> exact hz.elim
theorem a2d(J:Nat -> ak -> Prop)
  (turn: ∀n s,J n s -> LcT P w A it tg2 ifs2 env (ay5 P w A elt acc env) (R (.ok .next)) (fun z=> ∃m,m < n/\J m z) s) (n:Nat) (h:J n s):codeAny (model P w) A (.compLoop (LC2 elt tg iter tg2 iter2 ifs ifs2 sc pos) 1 it acc env) R s:=by
 refine lI rfl J (fun k z hz=> ?_) n h
 have one:=turn k z hz
 show wpAny _ A (lU (compTurn (LC2 elt tg iter tg2 iter2 ifs ifs2 sc pos) 1 it acc env) fun x=> do lJ x env;jC x) _ _ z
 refine lV ?_
 rw [awr]
 refine ae (du (ae (bE one (fun r a ha=> ?_) fun _ _ f=> f.elim)))
 cases r with
 |none=> exact aj ha
 | some v=>
  refine ae (bE ha (fun _ b hb=> ae (bE hb (fun _ c hc=> ae (bE hc (fun ok d hd=> ?_) fun _ _ f=> f.elim)) fun _ _ f=> f.elim)) fun _ _ f=> f.elim)
  cases ok with
  |false=>
   have q: ∃m,m < k/\J m d:=hd
   exact aj ⟨rfl,q⟩
  |true=>
   have q:ay5 P w A elt acc env (fun z=> ∃m,m < k/\J m z) d:=hd
   exact ae (ae (bE q (fun x e he=> ae (bE he (fun _ g hg=> aj (aj ⟨rfl,hg⟩)) fun _ _ f=> f.elim)) fun _ _ f=> f.elim))
theorem a2i(h0:codeAny (model P w) A (.compLoop (LC2 elt tg iter tg2 iter2 ifs ifs2 sc pos) 1 it acc env) R s)
  (h:wpAny (model P w) A (pyIter it) (fun it' s'=> codeAny (model P w) A (.compLoop (LC2 elt tg iter tg2 iter2 ifs ifs2 sc pos) 1 it' acc env) R s') (fun _ _=> False) s):codeAny (model P w) A (.compStart (LC2 elt tg iter tg2 iter2 ifs ifs2 sc pos) 1 it acc env) R s:=by
 refine gO ?_
 show wpAny _ _ ((compStart (LC2 elt tg iter tg2 iter2 ifs ifs2 sc pos) 1 it acc env).onRaise (fun x=> do lJ x env;standAt theWindowsPlace)) _ _ s
 refine wpAny_notedAt ?_
 unfold compStart
 show wpAny _ _ (ask >>=_) _ _ s --
 (refine ae (wpAny_askSetting (wpAny_ite ?_)))
 split
 ·exact aj ⟨rfl,h0⟩
 ·exact ae (c9 (ae (du (ae (bE h (fun it' s' h'=> aj ⟨rfl,h'⟩) fun _ _ x=> x.elim)))))
end
theorem aew.mono{acc:af}{env:Env}{a b:ak -> Prop}{s:ak}(h:aew P w A e iter acc env a s)(k: ∀z,a z -> b z):aew P w A e iter acc env b s:=by
 refine bE h (fun x s1 h1=> bE h1 (fun it2 s2 h2=> dG h2 fun r z hz=> ?_) fun _ _ f=> f) fun _ _ f=> f
 cases r with
 |ok f=> exact k z hz
 |error _=> exact hz
def PNx(X:Cx)(e iter:Expr)(tb:TBd):Prop:= ∀(D:Addr) (pins:List (Addr×Obj)) (s:ak) (σ:St) (H:Hp) (Q:St -> Hp -> Prop),Inv X pins σ H s -> tb D σ H Q -> aew X.prog X.w X.A e iter (.ref D) X.env (fun s'=> ∃σ' H',Inv X pins σ' H' s'/\Q σ' H') s
def ari(g:TG)(tt:TT)(tb:TBd)(k:Nat)(cap:St)(J:It)(H1:Hp)(Q:VK):Prop:=
 ∀ D,H1 D=none -> ∃W:Nat -> Nat -> Hp -> Prop,(∃m,W 0 m (upd H1 D (.lst [])))/\ ∀i m H,W i m H ->
  (J.stop i H/\Q (.ref D) H)\/(J.go i H/\ ∀x H',J.yld i H x H' -> ∀vs:St,vs.length=k -> g x (vs++cap) H' fun σ2 H2=> (∃vs':St,vs'.length=k/\σ2=vs'++cap)/\tt σ2 H2 fun b H3=>
   if b=true then tb D σ2 H3 fun σ4 H4=> (∃vs':St,vs'.length=k/\σ4=vs'++cap)/\ ∃m',m' < m/\W (i+1) m' H4 else∃m',m' < m/\W (i+1) m' H3)
def a3b(js:List Nat)(k:Nat)(wi:TI)(g:TG)(tt:TT)(tb:TBd):TE:=fun σ H Q=> wi σ H fun J H1=> ari g tt tb k (xl σ js) J H1 Q
def tNx(wi:TI)(g:TG)(tt:TT)(te:TE):TBd:=fun D σ H Q=> wi σ H fun J H1=> ∃W:Nat -> Nat -> St -> Hp -> Prop,(∃m,W 0 m σ H1)/\ ∀i m σ H,W i m σ H ->
  (J.stop i H/\Q σ H)\/(J.go i H/\ ∀x H',J.yld i H x H' -> g x σ H' fun σ2 H2=> tt σ2 H2 fun b H3=>
   if b=true then te σ2 H3 fun v H4=> ∃ys,H4 D=some (.lst ys)/\ys.length < sizeLine/\ ∃m',m' < m/\W (i+1) m' σ2 (upd H4 D (.lst (ys++ [v]))) else∃m',m' < m/\W (i+1) m' σ2 H3)
section
variable{X:Cx}{own caps:List Str}{js:List Nat}{scope:dM}{tg iter tg2 iter2 elt:Expr}{ifs ifs2:List Expr}{wi:TI}{g:TG}{tt:TT}{te:TE}{tb:TBd}{pos:Pos}
theorem pnx(hcalm:X.calm=true)(hx:X.xe=fun _ _=> False)(hi:PI X tg2 iter2 wi)(hg:PG X tg2 g)(ht:aey X ifs2 tt)(he:PE X elt te):PNx X (LC2 elt tg iter tg2 iter2 ifs ifs2 scope pos) iter2 (tNx wi g tt te):=by
 intro D pins s σ H Q I h
 have h0:=hi pins s σ H _ I h
 rw [hx]at h0
 refine thn h0 fun v s1 h1=> thn h1 fun itv s2 h2=> ?_
 obtain⟨it,fp,tn,J,H2,e,I2,T,st2,f2,W,⟨m0,w0⟩,turn⟩:=h2
 subst e
 have stat: ∀{H':Hp},(∀b∈fp,H' b=none) -> ∀b∈fp,aaj X pins H' b:=fun hn b hb=> ⟨hn b hb,(f2 b hb).2⟩
 have loop:codeAny (model X.prog X.w) X.A (.compLoop (LC2 elt tg iter tg2 iter2 ifs ifs2 scope pos) 1 (.ref it) (.ref D) X.env) (fun r z=> match r with|.ok _=> ∃σ' H',Inv X pins σ' H' z/\Q σ' H'|.error _=> False) s2:=by
  refine a2d (fun n s'=> ∃i σ' H',Inv X pins σ' H' s'/\tn i s'.heap/\(∀b∈fp,H' b=none)/\W i n σ' H') ?_ m0 ⟨0,σ,H2,I2,st2,fun b hb=> (f2 b hb).1,w0⟩
  rintro n s3 ⟨i,σ3,H3,I3,st3,fr3,w3⟩
  rcases turn i n σ3 H3 w3 with ⟨stop,qn⟩|⟨go,step⟩
  ·refine thn (T.done X rfl rfl rfl hcalm i pins s3 σ3 H3 (fun _ _=> False) I3 (stat fr3) st3 stop) fun r s4 ⟨hr,I4⟩=> ?_
   subst hr
   exact⟨σ3,H3,I4,qn⟩
  ·refine thn (T.item X rfl rfl rfl hcalm i pins s3 σ3 H3 (fun _ _=> False) I3 (stat fr3) st3 go) fun r s4 ⟨u,hr,h4⟩=> ?_
   subst hr
   refine thn h4 fun _ s5 ⟨x,H5,I5,r5,y5,st5,fr5⟩=> ?_
   have I5':=I5.pinned (stat fr5) (T.obj _ _ st5)
   have hg5:=hg _ s5 σ3 H5 x u _ I5' r5 (step x H5 y5)
   rw [hx]at hg5
   refine thn hg5 fun _ s6 ⟨σ6,H6,I6,q6⟩=> ?_
   have ht6:=ht _ s6 σ6 H6 _ I6 q6
   rw [hx]at ht6
   refine thn ht6 fun b s7 ⟨H7,I7,q7⟩=> ?_
   have again: ∀{H8:Hp} {s8:ak},Inv X (pins++ad6 fp s5.heap) σ6 H8 s8 -> (∃m',m' < n/\W (i+1) m' σ6 H8) -> ∃m,m < n/\ ∃i σ' H',Inv X pins σ' H' s8/\tn i s8.heap/\(∀b∈fp,H' b=none)/\W i m σ' H':=fun {H8 s8} I8 w8=> by
    obtain⟨m',hm,w8⟩:=w8
    refine⟨m',hm,i+1,σ6,H8,I8.unpinned,T.keep _ _ _ st5 fun b hb o e=> (I8.pin (b,o) (bf _ (bf _ (xx hb e)))).1,fun b hb=> ?_,w8⟩
    obtain⟨o,e,d⟩:=T.obj _ _ st5 b hb
    exact (I8.pin (b,o) (bf _ (bf _ (xx hb e)))).2.1
   cases b with
   |false=> exact again I7 q7
   |true=>
    have he7:=he _ s7 _ H7 _ I7 q7
    rw [hx]at he7
    refine thn he7 fun y s8 ⟨v,H8,I8,r8,ys,hD8,hz8,q8⟩=> ?_
    have ha:=afq (X:=X) _ s8 _ H8 (.ref D) [v] (.ref D) [y] (fun z H9=> H9=upd H8 D (.lst (ys++ [v]))) I8 rfl (.cons r8 .nil) ⟨D,ys,v,rfl,rfl,hD8,hz8,rfl⟩
    rw [hx]at ha
    refine thn ha fun _ s9 ⟨z,H9,I9,_,e9⟩=> ?_
    subst e9
    exact again I9 q8
 exact a2i loop (T.self _ 0 _ _ _ st2 loop)
theorem ayt{H2:Hp}{s2:ak}{it:Addr}{fp:List Addr}{tn:Nat -> Heap -> Prop}{J:It}{Q:VK}{post:af -> Addr -> jV -> ak -> Prop}(hcalm:X.calm=true)(hkind:scope.kind=.function)(hcell:(scope.names.any fun p=> p.2==.cell)=false)(hk:(scope.names.all fun p=> !(p.2==.free)||(X.env.kindOf p.1==some .cell||X.env.kindOf p.1==some .free))=true)(hcap:yk X scope caps js)(hg: ∀C fp s H,PG (kc X own caps scope C fp s H) tg g)(hi: ∀C fp s H,aey (kc X own caps scope C fp s H) ifs tt)(hb: ∀C fp s H,PNx (kc X own caps scope C fp s H) (LC2 elt tg iter tg2 iter2 ifs ifs2 scope pos) iter2 tb)(hs2: ∀C fp s H x,bU iter2 (kc X own caps scope C fp s H).env x=pure x)(I2:Inv X pins σ H2 s2)(T:Turn X.prog X.w X.K tg J fp it tn)(st2:tn 0 s2.heap)(f2: ∀b∈fp,aaj X pins H2 b)(hw:ari g tt tb own.length (xl σ js) J H2 Q)(hpost: ∀D C s' m H',s'.heap.Ns C m -> s2.heap.objs.size <=C -> aaj X pins H' C -> Inv X pins σ H' s' -> Q (.ref D) H' -> post (.ref D) C (.ok .next) s'):
  wpAny (model X.prog X.w) X.A (newList []) (fun acc s₃=> wpAny (model X.prog X.w) X.A (newFunctionEnv scope X.env.globals (vf X.env scope.names []) [] X.env.qual none .none (some X.env)) (fun cenv s₄=>
   codeAny (model X.prog X.w) X.A (.compStart (LC2 elt tg iter tg2 iter2 ifs ifs2 scope pos) 0 (.ref it) acc {cenv with scope:=relabel scope X.env}) (post acc cenv.locals) s₄) E s₃) E s2:=by
 have hcell': ∀y∈scope.names,y.2≠ .cell:=fun y hy e=> by
  have:=(gg.mp hcell) y hy
  simp [e]at this
 have hfr: ∀n,(n,bO)∈scope.names -> X.env.kindOf n=some .cell\/X.env.kindOf n=some .free:=fun n hn=> by
  have:=(ao.mp hk) _ hn
  simpa using this
 refine cT (kJ hcell' (by intro y hy;simp at hy) (fun h₁ hns₁ hsb₁=> ?_) hkind)
 dsimp only at hns₁ hsb₁⊢
 generalize hHp:s2.heap.push {cls:=.type "list",dict:=none,data:=.seq ([]:List af).toArray}=G2 at hns₁ hsb₁⊢
 have hC:G2.objs.size=s2.heap.objs.size+1:=by rw [←hHp,bT]
 obtain⟨D,hDe⟩: ∃D:Nat,s2.heap.objs.size=D:=⟨_,rfl⟩
 obtain⟨C,hCe⟩: ∃C:Nat,G2.objs.size=C:=⟨_,rfl⟩
 rw [hCe]at hns₁ hsb₁
 rw [hDe,hCe]at hC
 show codeAny _ _ (.compStart _ 0 (.ref it) (.ref s2.heap.objs.size) (compEnvC scope (vf X.env scope.names []) G2.objs.size X.env)) (post (.ref s2.heap.objs.size) G2.objs.size) _
 rw [hDe,hCe]
 have hDC:D≠C:=by lia
 have hDCl:D < C:=by lia
 have old: ∀b o,s2.heap.get? b=some o -> h₁.get? b=some o:=fun b o e=> by
  have hlt:b < D:=hDe▸aM e
  exact hsb₁.extBut b o (aT (fN hlt hDCl)) (aq _ (hHp▸aq _ e))
 have hD2:H2 D=none:=I2.hok.fresh (dH hDe)
 have hC2:H2 C=none:=I2.hok.fresh (by rw [hDe];lia)
 have accD:h₁.get? D=some {cls:=.type "list",data:=.seq ([]:List af).toArray}:=hsb₁.extBut _ _ hDC (aq _ (hHp▸hDe▸aQ _ rfl))
 obtain⟨W,⟨m0,w0⟩,turn⟩:=hw D hD2
 -- the block's own state
 have fpn: ∀b∈fp,H2 b=none:=fun b hb=> (f2 b hb).1
 have fplt: ∀b∈fp,b < D:=fun b hb=> by obtain⟨o,e,_⟩:=T.obj _ _ st2 b hb;exact hDe▸aM e
 have clsub: ∀n c,(n,c)∈vf X.env scope.names [] -> X.env.cells.lookup n=some c:=ahc (by intro _ _ z;cases z)
 have cllook: ∀n c,(vf X.env scope.names []).lookup n=some c -> X.env.cells.lookup n=some c:=fun n c e=> clsub n c (cZ e)
 have clhas: ∀n,(n,bO)∈scope.names -> ∃c,(vf X.env scope.names []).lookup n=some c/\X.env.cells.lookup n=some c:=fun n hn=> by
  obtain⟨c,e⟩:=I2.ok.has n (hfr n hn)
  have m:=ahu (cs:=[]) hn e
  cases q:(vf X.env scope.names []).lookup n with
  |none=>
   have:=i7.mp q _ m
   simp at this
  |some c'=> exact⟨c',rfl,cllook n c' q⟩
 have clt: ∀x c,(vf X.env scope.names []).lookup x=some c -> c < D:=fun x c e=> by
  obtain⟨v,z⟩:=I2.cell x c (cllook x c e)
  exact hDe▸z.lt
 have ok':(kc X own caps scope C fp s2 H2).Ok:=by
  refine⟨I2.ok.mod,hkind,I2.ok.glob,I2.ok.blt,?_,fun x y c e1 e2=> I2.ok.inj x y c (cllook x c e1) (cllook y c e2),fun x hx=> ?_,fun x c z=> (by cases z),I2.ok.hd,I2.ok.frames,.inl rfl,fun b hb=> ⟨?_,fun x c e=> ?_⟩,I2.bs,aJ I2.ok.bsz I2.sz,fun b o e hb=> ?_,fun b hb hs=> ?_,I2.stack,I2.stkFree⟩
  ·show s2.heap.objs.size <=C
   rw [hDe];lia
  ·have hx':(relabel scope X.env).names.lookup x=some .cell\/(relabel scope X.env).names.lookup x=some .free:=hx
   obtain⟨c,e,_⟩:=clhas x (zm hcell' hx')
   exact⟨c,e⟩
  ·exact aT (fN (fplt b hb) hDCl)
  ·exact (f2 b hb).2.2.2.2.1 x c (cllook x c e)
  ·rcases (f2 b hb).2.2.2.1 with z|z
   ·exact I2.ok.noex b o e z
   ·exact absurd (aW (aM (I2.ok.bs b o e).1) z) (cG _)
  ·rcases ay.mp (I2.stkSub b hs) with z|z
   ·exact (f2 b hb).2.1 z
   ·exact (f2 b hb).2.2.1 z
 have I4:Inv (kc X own caps scope C fp s2 H2) [] (bH own.length none++xl σ js) (upd H2 D (.lst [])) {s2 with heap:=h₁,toks:=s2.toks+([]:List (Str×af)).length}:=by
  refine⟨ok',rfl,I2.bare,Un.laid old (dH hDe) hD2,⟨_,hns₁,fun i x v e1 e2 e3=> ?_⟩,fun x c e=> ?_,?_,fun x c e=> ?_,fun p hp=> absurd (show p∈([]:List (Addr×Obj)) from hp) (by simp),?_,?_⟩
  ·have e1:(own++caps)[i]?=some x:=e1
   by_cases hio:i < own.length
   ·rw [bd (by simpa using hio),dv]at e2
    split at e2 <;> cases e2
   ·have hle:own.length <=i:=bL hio
    rw [a8 hle]at e1
    rw [a8 (by simpa using hle)]at e2
    obtain⟨j,c,e⟩:=yk.at (σ:=σ) hcap e1 (by simpa using e2)
    obtain⟨c1,c2,c3,c4⟩:=c
    obtain⟨m,hn,hl⟩:=I2.loc
    obtain⟨u,r,lk⟩:=hl j x v c1 e c2
    refine⟨u,r,.inr ⟨?_,?_⟩⟩
    ·have c4':(relabel scope X.env).names.lookup x=some .cell\/(relabel scope X.env).names.lookup x=some .free:=by simpa using c4
     exact c4'
    ·have c4':(relabel scope X.env).names.lookup x=some .cell\/(relabel scope X.env).names.lookup x=some .free:=by simpa using c4
     obtain⟨c',q1,q2⟩:=clhas x (zm hcell' c4')
     rcases lk with ⟨k1,_⟩|⟨_,c'',k2,k3⟩
     ·rw [k1]at c3;simp at c3
     ·rw [q2]at k2;cases k2
      obtain⟨oc,hoc,hod⟩:=k3
      exact⟨c',q1,oc,old _ _ hoc,hod⟩
  ·obtain⟨v,oc,hoc,hod⟩:=I2.cell x c (cllook x c e)
   exact⟨v,oc,old _ _ hoc,hod⟩
  ·show upd H2 D (.lst []) C=none
   rw [qh (di hDC)];exact hC2
  ·rw [qh (aT (clt x c e))];exact I2.freeC x c (cllook x c e)
  ·exact I2.hok.laid old (dH hDe) ⟨bX _,[],0,.nil,accD⟩
  ·show (bH own.length none++xl σ js).length=(own++caps).length
   rw [bj,bj,gG,hcap.len]
 have stat: ∀{H':Hp},(∀b∈fp,H' b=none) -> ∀b∈fp,aaj (kc X own caps scope C fp s2 H2) [] H' b:=fun hn b hb=>
  ⟨hn b hb,(ok'.exf b hb).1,ok'.exfs b hb,.inl hb,(ok'.exf b hb).2,fun p hp=> absurd (show p∈([]:List (Addr×Obj)) from hp) (by simp)⟩
 have loop: ∀s₃:ak,s₃={s2 with heap:=h₁,toks:=s2.toks+([]:List (Str×af)).length} ->
   codeAny (model X.prog X.w) X.A (.compLoop (LC2 elt tg iter tg2 iter2 ifs ifs2 scope pos) 0 (.ref it) (.ref D) (compEnvC scope (vf X.env scope.names []) C X.env)) (post (.ref D) C) s₃:=by
  rintro s₃ rfl
  refine a5v (fun n s'=> ∃i vs H',vs.length=own.length/\Inv (kc X own caps scope C fp s2 H2) [] (vs++xl σ js) H' s'/\tn i s'.heap/\(∀b∈fp,H' b=none)/\W i n H') (hs2 C fp s2 H2) ?_ m0
   ⟨0,bH own.length none,upd H2 D (.lst []),by simp,I4,T.keep _ _ _ st2 fun b _ o e=> old b o e,fun b hb=> by rw [qh (aT (fplt b hb))];exact fpn b hb,w0⟩
  rintro n s3 ⟨i,vs,H3,hvs,I3,st3,fr3,w3⟩
  rcases turn i n H3 w3 with ⟨stop,qn⟩|⟨go,step⟩
  ·refine thn (T.done (kc X own caps scope C fp s2 H2) rfl rfl rfl hcalm i [] s3 _ H3 (fun _ _=> False) I3 (stat fr3) st3 stop) fun r s5 ⟨hr,I5⟩=> ?_
   subst hr
   obtain⟨m5,hn5,_⟩:=id I5.loc
   refine hpost D C s5 m5 H3 hn5 (by rw [hDe];lia) (I2.fpOk (by rw [hDe];lia) I5.free) ?_ qn
   exact I2.call' (ch:=fp) I5.os I5.base I5.hok I5.bare fun b hb=> ⟨(f2 b hb).2.2.2.1,(f2 b hb).2.1,(f2 b hb).2.2.2.2⟩
  ·refine thn (T.item (kc X own caps scope C fp s2 H2) rfl rfl rfl hcalm i [] s3 _ H3 (fun _ _=> False) I3 (stat fr3) st3 go) fun r s4 ⟨u,hr,h4⟩=> ?_
   subst hr
   refine thn h4 fun _ s5 ⟨x,H5,I5,r5,y5,st5,fr5⟩=> ?_
   have I5':=I5.pinned (stat fr5) (T.obj _ _ st5);refine thn (hg C fp s2 H2 _ s5 _ H5 x u _ I5' r5 (step x H5 y5 vs hvs)) fun _ s6 ⟨σ6,H6,I6,⟨vs6,hvs6,e6⟩,q6⟩=> ?_
   subst e6
   refine thn (hi C fp s2 H2 _ s6 _ H6 _ I6 q6) fun b s7 ⟨H7,I7,q7⟩=> ?_
   have again: ∀{H8:Hp} {s8:ak} {vs8:St},vs8.length=own.length -> Inv (kc X own caps scope C fp s2 H2) ([]++ad6 fp s5.heap) (vs8++xl σ js) H8 s8 -> (∃m',m' < n/\W (i+1) m' H8) ->
     ∃m,m < n/\ ∃i vs H',vs.length=own.length/\Inv (kc X own caps scope C fp s2 H2) [] (vs++xl σ js) H' s8/\tn i s8.heap/\(∀b∈fp,H' b=none)/\W i m H':=fun {H8 s8 vs8} hv8 I8 w8=> by
    obtain⟨m',hm,w8⟩:=w8
    refine⟨m',hm,i+1,vs8,H8,hv8,I8.unpinned,T.keep _ _ _ st5 fun b hb o e=> (I8.pin (b,o) (bf _ (bf _ (xx hb e)))).1,fun b hb=> ?_,w8⟩
    obtain⟨o,e,d⟩:=T.obj _ _ st5 b hb
    exact (I8.pin (b,o) (bf _ (bf _ (xx hb e)))).2.1
   cases b with
   |false=> exact again hvs6 I7 q7
   |true=>
    refine aew.mono (hb C fp s2 H2 D _ s7 _ H7 _ I7 q7) fun z hz=> ?_
    obtain⟨σ8,H8,I8,⟨vs8,hv8,e8⟩,w8⟩:=hz
    subst e8
    exact again hv8 I8 w8
 refine jO (loop _ rfl) (T.self _ 0 _ _ _ (T.keep _ _ _ st2 fun b _ o e=> old b o e) (loop _ rfl))
end
section
variable{X:Cx}{own caps:List Str}{js:List Nat}{scope:dM}{tg iter tg2 iter2 elt:Expr}{ifs ifs2:List Expr}{wi:TI}{g:TG}{tt:TT}{te:TE}{tb:TBd}{pos:Pos}
theorem ass{py:Pos}{spos:Pos}(hsw:fJ (LC2 elt tg iter tg2 iter2 ifs ifs2 scope pos) (some (.Name y py)) spos.line X.env=pure true)(hN:X.N.Nodup)(hy:X.N[i]?=some y)(hyl:X.env.scope.names.lookup y=some .local)(hcalm:X.calm=true)(hkind:scope.kind=.function)(hnames:(scope.names.all fun p=> !(p.2==.local)||(scope.names.lookup p.1==some .local))=true)(hcell:(scope.names.any fun p=> p.2==.cell)=false)(hk:(scope.names.all fun p=> !(p.2==.free)||(X.env.kindOf p.1==some .cell||X.env.kindOf p.1==some .free))=true)(hcap:yk X scope caps js)(hi:PI X tg iter wi)(hg: ∀C fp s H,PG (kc X own caps scope C fp s H) tg g)(ht: ∀C fp s H,aey (kc X own caps scope C fp s H) ifs tt)(hb: ∀C fp s H,PNx (kc X own caps scope C fp s H) (LC2 elt tg iter tg2 iter2 ifs ifs2 scope pos) iter2 tb)(hs2: ∀C fp s H x,bU iter2 (kc X own caps scope C fp s H).env x=pure x)(hs: ∀x,bU iter X.env x=pure x:=by intro _;rfl):PS X (.Assign [.Name y py] (LC2 elt tg iter tg2 iter2 ifs ifs2 scope pos) spos) (fun D σ H=> a3b js own.length wi g tt tb σ H fun v H'=> D.nx (σ.set i (some v)) H'):=by
 refine⟨?_⟩
 intro pins s σ H D I h
 have hfr: ∀n,(n,bO)∈scope.names -> X.env.kindOf n=some .cell\/X.env.kindOf n=some .free:=fun n hn=> by
  have:=(ao.mp hk) _ hn
  simpa using this
 have hn': ∀x∈scope.names,x.2=.local -> scope.names.lookup x.1=some .local:=fun x hx e=> by
  have:=(ao.mp hnames) _ hx
  simpa [e] using this
 rw [jX _ _ _ _ hsw];refine ae (du (ae ?_))
 show wpAny _ _ (do let _←comprehension (LC2 elt tg iter tg2 iter2 ifs ifs2 scope pos) scope X.env _ (newList []) false (eval iter X.env) (some (assign (.Name y py) X.env))) _ _ s
 refine ae (bE (fO (use:=some (assign (.Name y py) X.env)) (Q:=fun _ s'=> SP X pins D .next s') rfl hs (ac9 fun n hn=> I.ok.has n (hfr n hn)) hkind hn'
  (thn (hi pins s σ H _ I h) fun v s1 h1=> thn h1 fun itv s2 h2=> ?_)) (fun _ s' hq=> aj (aj hq)) fun _ _ e=> e)
 obtain⟨it,fp,tn,J,H2,e,I2,T,st2,f2,hw⟩:=h2
 subst e
 refine ayt (iter:=iter) (pos:=pos) (post:=fun acc C=> compPost (model X.prog X.w) X.A X.xe (some (assign (.Name y py) X.env)) (fun _ s'=> SP X pins D .next s') acc C) hcalm hkind hcell hk hcap hg ht hb hs2 I2 T st2 f2 hw ?_
 intro Da C s' m H' hn hCs f I' hq
 show wpAny _ _ (assign (.Name y py) X.env (.ref Da)) _ _ _
 refine iC (afv (v:=.ref Da) (u:=.ref Da) I' hN hy (.inl hyl) rfl (fun s6 I6 hs6=> ?_) (.inr hyl))
 obtain⟨a,hsb,ha⟩:=hs6
 have haC:a≠C:=by
  rcases ha with z|z
  ·rw [z];exact di f.2.1
  ·exact f.2.2.2.2.1 y a z
 exact⟨m,hn.sameBut hsb (di haC),fun h' hs'=> ⟨σ.set i (some (.ref Da)),H',I6.turned (t':=s6.toks) (fun b o hb e=> (hs'.2 b hb).trans e) f.1 f.2.1 f.2.2.2.1 f.2.2.2.2.1 f.2.2.2.2.2,hq⟩⟩
end
end L2
namespace PF
open PySem PySem.Spec
open L2
noncomputable def asd(K:aw)(f:FI):TI:=fun σ H R=> ∃as ρ s,Rel K as H s/\Envs K as H ρ σ/\Dn K (aer K) as H (f ρ s) R
theorem RI.pi{f:FI}(h:RI X tg iter f):PI X tg iter (asd X.K f):=by
 obtain⟨t,p,r⟩:=h.ex
 exact fun pins s σ H R I ⟨as,ρ,s',a,b,c⟩=> p pins s σ H R I (r as σ H ρ s' R a b c)
noncomputable def xh:Tg -> En -> Bool
 |.nm i,ρ=> match ρ[i]? with
  |some none=> true
  |_=> false
 |.t2 a b,ρ=> xh a ρ&&xh b ρ
 |.t3 a b c,ρ=> xh a ρ&&xh b ρ&&xh c ρ
 |.tn is,ρ=> is.all fun i=> match ρ[i]? with
  |some none=> true
  |_=> false
def Wk1(ρ ρ':En):Prop:=ρ'.length=ρ.length/\ ∀(i:Nat) (d:D),ρ[i]?=some (some d) -> ρ'[i]?=some (some d)
theorem Wk1.refl(ρ:En):Wk1 ρ ρ:=⟨rfl,fun _ _ e=> e⟩
theorem apx: ∀(is:List Nat) (ds:List D) {ρ0 ρ ρ':En},Wk1 ρ0 ρ -> xh (.tn is) ρ0=true -> arv is ds ρ=some ρ' -> Wk1 ρ0 ρ'
 |[],[],_,_,_,w,_,e=> by cases e;exact w
 | i::r,d::ds,ρ0,ρ,ρ',w,hn,e=> by
  have hn':(match ρ0[i]? with|some none=> true|_=> false)=true/\xh (.tn r) ρ0=true:=by simpa [xh] using hn
  refine apx r ds ⟨by simp [w.1],fun j x ej=> ?_⟩ hn'.2 e
  by_cases z:i=j
  ·subst z
   have:=hn'.1
   rw [ej]at this
   cases this
  ·rw [bq z];exact w.2 j x ej
 |[],_::_,_,_,_,_,_,e=> by cases e
 |_::_,[],_,_,_,_,_,e=> by cases e
theorem ae0: ∀(g:Tg) {d:D} {ρ0 ρ ρ':En},Wk1 ρ0 ρ -> xh g ρ0=true -> qu g d ρ=some ρ' -> Wk1 ρ0 ρ'
 | .nm i,d,ρ0,ρ,ρ',w,hn,e=> by
  cases e
  refine⟨by simp [w.1],fun j x ej=> ?_⟩
  by_cases z:i=j
  ·subst z
   simp only [xh,ej]at hn
   cases hn
  ·rw [bq z];exact w.2 j x ej
 | .t2 a b,d,ρ0,ρ,ρ',w,hn,e=> by
  simp only [xh,am]at hn
  unfold qu at e
  split at e
  ·split at e
   ·rename_i q1
    exact ae0 b (ae0 a w hn.1 q1) hn.2 e
   ·cases e
  ·cases e
 | .t3 a b c,d,ρ0,ρ,ρ',w,hn,e=> by
  simp only [xh,am]at hn
  unfold qu at e
  split at e
  ·split at e
   ·rename_i q1
    split at e
    ·rename_i q2
     exact ae0 c (ae0 b (ae0 a w hn.1.1 q1) hn.1.2 q2) hn.2 e
    ·cases e
   ·cases e
  ·cases e
 | .tn is,d,ρ0,ρ,ρ',w,hn,e=> by
  unfold qu at e
  split at e
  ·rename_i ys _
   exact apx is ys w hn e
  ·cases e
theorem Envs.mono0{as':As}{H':Hp}(e:Envs K as H ρ σ)(st:Step0 as H as' H'):Envs K as' H' ρ σ:=⟨e.len,fun i d h=> let ⟨v,a,b⟩:=e.get i d h;⟨v,a,b.mono0 st⟩⟩
theorem Envs.weak{ρ':En}(e:Envs K as H ρ' σ)(w:Wk1 ρ ρ'):Envs K as H ρ σ:=⟨w.1.symm.trans e.len,fun i d h=> e.get i d (w.2 i d h)⟩
def qr(g g2:Tg)(ft:FT)(fi2:FI)(ft2:FT)(fe:FE)(ρ0:En)(p:Wk):List D -> S -> R (List D)
 |[],s=>.ok [] s
 | d::r,s=> match qu g d ρ0 with
  |none=>.bad
  |some ρ1=> (ft ρ1 s).bind fun b s2=> if b=true then (fi2 ρ1 s2).bind fun p2 s3=> if xh g2 ρ1=true then chk p2 s3 ((kl g2 ft2 fe ρ1 p2 p2.1 s3).bind fun xs s4=> chk p s4 ((qr g g2 ft fi2 ft2 fe ρ0 p r s4).bind fun ys s5=>.ok (xs++ys) s5)) else .bad
   else chk p s2 (qr g g2 ft fi2 ft2 fe ρ0 p r s2)
def yy(m:Bool)(ds:List D)(s:S):R D:=if ds.length <=sizeLine then qy m ds s else .bad
def ar5(m:Bool)(js:List Nat)(k:Nat)(fi:FI)(g:Tg)(ft:FT)(fi2:FI)(g2:Tg)(ft2:FT)(fe:FE):FE:=fun ρ s=> (fi ρ s).bind fun p s1=> chk p s1 ((qr g g2 ft fi2 ft2 fe (bH k none++adu ρ js) p p.1 s1).bind (yy m))
theorem azh{σ' cap:St}(f:Fra k σ σ')(h: ∃vs:St,vs.length=k/\σ=vs++cap): ∃vs:St,vs.length=k/\σ'=vs++cap:=by
 obtain⟨vs,hl,e⟩:=h
 exact f vs cap hl e
theorem a7t {J :It} {p:Wk} {g2:Tg} {ft2:FT} {fi2:FI} {cap:St} {m:Bool} {Q:VK} (hg:y9 k g=true) (hg2:y9 k g2=true) (rl:Rel K as H s) (ri:aer K as H J p) (so:ky p s) (en: ∀vs:St,vs.length=k -> Envs K as H ρ0 (vs++cap)) (h:Dn K (rD K) as H ((qr g g2 ft fi2 ft2 fe ρ0 p p.1 s).bind (yy m)) Q):ari (gOf K g) (acs K ft) (tNx (asd K fi2) (gOf K g2) (acs K ft2) (tOf K fe)) k cap J H Q:=by
 intro Da hD
 have n0:New H Da (.lst []) (upd H Da (.lst [])):=⟨hD,rfl⟩
 have nh:Da∉as.hd:=fun z=> by obtain⟨_,e⟩:=rl.hs Da z;rw [hD]at e;cases e
 have s0:=ag1 (as:=as) n0
 refine⟨fun i mm H'=> ∃as2 s2 ds ys,mm=p.1.length - i/\i <=p.1.length/\Step as H as2 H'/\Da∈as2.hd/\Rel K as2 H' s2/\ky p s2/\H' Da=some (.lst ys)/\RDs K as2 H' ys ds/\
   Dn K (rD K) as H ((qr g g2 ft fi2 ft2 fe ρ0 p (p.1.drop i) s2).bind fun xs s3=> yy m (ds++xs) s3) Q,
  ⟨_,as.hide Da,s,[],[],rfl,bX _,s0,ax,rl.hide n0,so,n0.at,.nil,h⟩,?_⟩
 rintro i mm H' ⟨as2,s2,ds,ys,hm,hi,st2,mD2,rl2,so2,hDi,rs,h2⟩
 have tn:=ri as2 H' s2 st2.toStep0 rl2 so2 i
 by_cases hl:i < p.1.length
 ·obtain ⟨d, hd⟩: ∃d,p.1[i]?=some d:=⟨_,av hl⟩
  have hdr:p.1.drop i=d::p.1.drop (i+1):=by
   rw [cw hl]
   rw [av hl]at hd
   cases hd;rfl
  rw [hdr]at h2
  obtain⟨go,yl⟩:=tn.2 d hd
  unfold qr at h2
  split at h2
  ·exact h2.elim
  ·rename_i ρ3 q3
   refine .inr ⟨go,fun x H3 hy vs hv=> ?_⟩
   obtain⟨st3,rl3,rx⟩:=yl x H3 hy
   refine aa4 g ((en vs hv).mono (st2.trans st3)) rx q3 fun σ3 en3 fr=> ?_
   have cap3:=fr k hg vs cap hv rfl
   refine⟨cap3,as2,ρ3,s2,rl3,en3,?_⟩
   have eD3:H3 Da=some (.lst ys):=st3.hh Da mD2 _ hDi
   cases qt:ft ρ3 s2 with
   |bad=> rw [qt]at h2;exact h2.elim
   | ok b s4 =>
    rw [qt]at h2
    intro b' as4 H4 st4 rl4 eb
    have eb':b'=b:=eb
    subst eb'
    have mD4:Da∈as4.hd:=st4.hk Da mD2
    have eD4:H4 Da=some (.lst ys):=st4.hh Da mD2 _ eD3
    have st24:=(st2.trans st3).trans st4
    rw [R.bind_ok]at h2
    cases b' with
    | false=>
     rw [if_neg aF]at h2⊢
     by_cases c:ky p s4
     ·rw [vg c]at h2
      exact⟨_,by lia,as4,s4,ds,ys,rfl,hl,st24,mD4,rl4,c,eD4,(rs.mono st3).mono st4,h2⟩
     ·have e:chk p s4 (qr g g2 ft fi2 ft2 fe ρ0 p (p.1.drop (i+1)) s4)=.bad:=if_neg c
      rw [e]at h2;exact h2.elim
    | true =>
     rw [if_pos rfl]at h2⊢
     refine⟨as4,ρ3,s4,rl4,en3.mono st4,?_⟩
     cases qi:fi2 ρ3 s4 with
     |bad=> rw [qi]at h2;exact h2.elim
     | ok p2 s5 =>
      rw [qi]at h2
      rw [R.bind_ok]at h2
      by_cases hnn:xh g2 ρ3=true
      ·rw [if_pos hnn]at h2
       intro J2 as5 H5 st5 rl5 ri5
       have mD5:Da∈as5.hd:=st5.hk Da mD4
       have eD5:H5 Da=some (.lst ys):=st5.hh Da mD4 _ eD4
       have st25:=st24.trans st5
       have so5:ky p2 s5:=by
        by_cases c:ky p2 s5
        ·exact c
        ·rw [show∀{α:Type} (k:R α),chk p2 s5 k=.bad from fun k=> if_neg c]at h2
         exact h2.elim
       rw [vg so5]at h2
       -- the ju behind the inner a43
       have ju: ∀(xs:List D) (s6:S),Dn K (rD K) as H ((chk p s6 ((qr g g2 ft fi2 ft2 fe ρ0 p (p.1.drop (i+1)) s6).bind fun ys s5=> R.ok (xs++ys) s5)).bind fun zs s3=> yy m (ds++zs) s3) Q -> ky p s6/\Dn K (rD K) as H ((qr g g2 ft fi2 ft2 fe ρ0 p (p.1.drop (i+1)) s6).bind fun zs s3=> yy m ((ds++xs)++zs) s3) Q:=fun xs s6 hx=> by
        by_cases c:ky p s6
        ·rw [vg c]at hx
         refine⟨c,?_⟩
         cases qc:qr g g2 ft fi2 ft2 fe ρ0 p (p.1.drop (i+1)) s6 with
         |bad=> rw [qc]at hx;exact hx.elim
         |ok zs s7=>
          rw [qc]at hx
          have hx:Dn K (rD K) as H (yy m (ds++(xs++zs)) s7) Q:=hx
          rw [←bW]at hx
          exact hx
        ·rw [show∀{α:Type} (k:R α),chk p s6 k=.bad from fun k=> if_neg c]at hx
         exact hx.elim
       refine⟨fun j mj σ6 H6=> ∃as6 s6 es zs,mj=p2.1.length - j/\j <=p2.1.length/\Step as H as6 H6/\Step0 as5 H5 as6 H6/\Da∈as6.hd/\Rel K as6 H6 s6/\ky p2 s6/\H6 Da=some (.lst zs)/\RDs K as6 H6 zs (ds++es)/\Envs K as6 H6 ρ3 σ6/\(∃vs':St,vs'.length=k/\σ6=vs'++cap)/\
         Dn K (rD K) as H (((kl g2 ft2 fe ρ3 p2 (p2.1.drop j) s6).bind fun xs s7=> chk p s7 ((qr g g2 ft fi2 ft2 fe ρ0 p (p.1.drop (i+1)) s7).bind fun ys s8=> R.ok ((es++xs)++ys) s8)).bind fun zs s3=> yy m (ds++zs) s3) Q,
        ⟨_,as5,s5,[],ys,rfl,bX _,st25,(Step.refl _ _).toStep0,mD5,rl5,so5,eD5,by rw [bP];exact ((rs.mono st3).mono st4).mono st5,(en3.mono st4).mono st5,cap3,h2⟩,?_⟩
       rintro j mj σ6 H6 ⟨as6,s6,es,zs,hmj,hj,st6,st56,mD6,rl6,so6,hD6,rs6,en6,cap6,h6⟩
       have tn2:=ri5 as6 H6 s6 st56 rl6 so6 j
       by_cases hl2:j < p2.1.length
       ·obtain ⟨d2,hd2⟩: ∃d,p2.1[j]?=some d:=⟨_,av hl2⟩
        have hdr2:p2.1.drop j=d2::p2.1.drop (j+1):=by
         rw [cw hl2]
         rw [av hl2]at hd2
         cases hd2;rfl
        rw [hdr2]at h6
        obtain⟨go2,yl2⟩:=tn2.2 d2 hd2
        unfold kl at h6
        split at h6
        ·exact h6.elim
        ·rename_i ρ7 q7
         refine .inr ⟨go2,fun x2 H7 hy2=> ?_⟩
         obtain⟨st7,rl7,rx2⟩:=yl2 x2 H7 hy2
         refine aa4 g2 (en6.mono st7) rx2 q7 fun σ7 en7 fr7=> ?_
         have cap7:=azh (fr7 k hg2) cap6
         have wk7:Wk1 ρ3 ρ7:=ae0 g2 (Wk1.refl _) hnn q7
         refine⟨as6,ρ7,s6,rl7,en7,?_⟩
         have eD7:H7 Da=some (.lst zs):=st7.hh Da mD6 _ hD6
         cases qt2:ft2 ρ7 s6 with
         |bad=> rw [qt2]at h6;exact h6.elim
         | ok b2 s8=>
          rw [qt2]at h6
          intro b2' as8 H8 st8 rl8 eb2
          have eb2':b2'=b2:=eb2
          subst eb2'
          have mD8:Da∈as8.hd:=st8.hk Da mD6
          have eD8:H8 Da=some (.lst zs):=st8.hh Da mD6 _ eD7
          have st68:=st7.trans st8
          rw [R.bind_ok]at h6
          cases b2' with
          | false=>
           rw [if_neg aF]at h6⊢
           have c:ky p2 s8:=by
            by_cases c:ky p2 s8
            ·exact c
            ·rw [show∀{α:Type} (k:R α),chk p2 s8 k=.bad from fun k=> if_neg c]at h6
             exact h6.elim
           rw [vg c]at h6
           exact⟨_,by lia,as8,s8,es,zs,rfl,hl2,st6.trans st68,st56.trans st68.toStep0,mD8,rl8,c,eD8,(rs6.mono st7).mono st8,(en7.mono st8).weak wk7,cap7,h6⟩
          | true=>
           rw [if_pos rfl]at h6⊢
           refine⟨as8,ρ7,s8,rl8,en7.mono st8,?_⟩
           cases qe:fe ρ7 s8 with
           |bad=> rw [qe]at h6;exact h6.elim
           | ok x9 s9=>
            rw [qe]at h6
            intro v9 as9 H9 st9 rl9 r9
            rw [R.bind_ok]at h6
            have mD9:Da∈as9.hd:=st9.hk Da mD8
            have eD9:H9 Da=some (.lst zs):=st9.hh Da mD8 _ eD8
            have st69:=st68.trans st9
            have c:ky p2 s9:=by
             by_cases c:ky p2 s9
             ·exact c
             ·rw [show∀{α:Type} (k:R α),chk p2 s9 k=.bad from fun k=> if_neg c]at h6
              exact h6.elim
            rw [vg c]at h6
            have cg:Chg H9 Da (.lst (zs++ [v9])) (upd H9 Da (.lst (zs++ [v9]))):=⟨rfl⟩
            have s05:=aar (.inr mD9) cg
            -- the inner ju
            have h9:Dn K (rD K) as H (((kl g2 ft2 fe ρ3 p2 (p2.1.drop (j+1)) s9).bind fun xs s7=> chk p s7 ((qr g g2 ft fi2 ft2 fe ρ0 p (p.1.drop (i+1)) s7).bind fun ys s8=> R.ok (((es++ [x9])++xs)++ys) s8)).bind fun zs s3=> yy m (ds++zs) s3) Q:=by
             cases qc:kl g2 ft2 fe ρ3 p2 (p2.1.drop (j+1)) s9 with
             |bad=> rw [qc]at h6;exact h6.elim
             |ok xs s7=>
              rw [qc]at h6
              have e1:(es++ [x9])++xs=es++(x9::xs):=by simp
              show Dn K (rD K) as H ((chk p s7 ((qr g g2 ft fi2 ft2 fe ρ0 p (p.1.drop (i+1)) s7).bind fun ys s8=> R.ok (((es++ [x9])++xs)++ys) s8)).bind fun zs s3=> yy m (ds++zs) s3) Q
              rw [e1]
              exact h6
            have hlen:zs.length < sizeLine:=by
             cases qc:kl g2 ft2 fe ρ3 p2 (p2.1.drop (j+1)) s9 with
             |bad=> rw [qc]at h9;exact h9.elim
             | ok xs s7=>
              rw [qc]at h9
              obtain⟨_,h10⟩:=ju _ s7 (show Dn K (rD K) as H ((chk p s7 ((qr g g2 ft fi2 ft2 fe ρ0 p (p.1.drop (i+1)) s7).bind fun ys s8=> R.ok (((es++ [x9])++xs)++ys) s8)).bind fun zs s3=> yy m (ds++zs) s3) Q from h9)
              cases qd:qr g g2 ft fi2 ft2 fe ρ0 p (p.1.drop (i+1)) s7 with
              |bad=> rw [qd]at h10;exact h10.elim
              | ok ws s8=>
               rw [qd]at h10
               have h10:Dn K (rD K) as H (yy m ((ds++((es++ [x9])++xs))++ws) s8) Q:=h10
               unfold yy at h10
               split at h10
               ·rename_i hz
                have:=rs6.length
                simp at hz this
                lia
               ·exact h10.elim
            refine⟨zs,eD9,hlen,_,by lia,as9,s9,es++ [x9],zs++ [v9],rfl,hl2,?_,?_,mD9,rl9.chgH mD9 cg,c,cg.at,?_,?_,cap7,h9⟩
            ·exact aly (st6.trans st69) hD nh mD9 cg
            ·exact (st56.trans st69.toStep0).trans s05
            ·rw [←bW]
             exact ((((rs6.mono st7).mono st8).mono st9).append (.cons r9 .nil)).mono0 s05
            ·exact ((((en7.mono st8).mono st9).mono0 s05).weak wk7)
       ·refine .inl ⟨tn2.1 (bL hl2),cap6,?_⟩
        rw [cv (bL hl2)]at h6
        have h6:Dn K (rD K) as H ((chk p s6 ((qr g g2 ft fi2 ft2 fe ρ0 p (p.1.drop (i+1)) s6).bind fun ys s8=> R.ok ((es++ [])++ys) s8)).bind fun zs s3=> yy m (ds++zs) s3) Q:=h6
        rw [bP]at h6
        obtain⟨c,h7⟩:=ju es s6 h6
        exact⟨_,by lia,as6,s6,ds++es,zs,rfl,hl,st6,mD6,rl6,c,hD6,rs6,h7⟩
      ·rw [if_neg hnn]at h2;exact h2.elim
 ·refine .inl ⟨tn.1 (bL hl),?_⟩
  rw [cv (bL hl)]at h2
  replace h2:Dn K (rD K) as H (yy m (ds++ []) s2) Q:=h2
  rw [bP]at h2
  unfold yy at h2
  split at h2
  ·unfold qy at h2
   cases m with
   |true=>
    rw [if_pos rfl]at h2
    refine h2 (.ref Da) _ H' (aka st2 nh mD2) (rl2.take mD2 ⟨ys,hDi,rs.mono0 (ade mD2)⟩) (.ref (by simp [rl2.len]) fun q e=> ?_)
    rw [←rl2.len]at e
    simp at e
    exact e.symm
   | false=>
    rw [if_neg aF]at h2
    cases q:kg ds with
    |none=> rw [q]at h2;exact h2.elim
    |some zs=>
     rw [q]at h2
     have e:=zd q
     subst e
     have h2:Dn K (rD K) as H (R.ok (.lst zs) s2) Q:=h2
     refine h2 (.ref Da) _ H' (anh st2 nh abv) rl2.show (.da (.lst (fun z=> ?_) hDi (rs.td.mono0 abv)))
     rcases z with z|z
     ·exact rl2.hx Da mD2 z
     ·exact absurd rfl (of_decide_eq_true (bC.mp z).2)
  ·exact h2.elim
section
variable{X:Cx}{own caps:List Str}{js:List Nat}{scope:dM}{tg iter tg2 iter2 elt:Expr}{ifs ifs2:List Expr}{fi fi2:FI}{g g2:Tg}{ft ft2:FT}{fe:FE}{pos:Pos}
theorem a1j{m:Bool}(ri:avq K wi fi)(hl:y9 k g=true)(hl2:y9 k g2=true):ab9 K (a3b js k wi (gOf K g) (acs K ft) (tNx (asd K fi2) (gOf K g2) (acs K ft2) (tOf K fe))) (ar5 m js k fi g ft fi2 g2 ft2 fe):=by
 intro as σ H ρ s Q rl en h
 refine ri as σ H ρ s _ rl en (Dn.bind h fun p s1 as1 H1 J st1 rl1 r1 h1=> ?_)
 obtain⟨so,h1⟩:=Dn.chk h1
 exact a7t hl hl2 rl1 r1 so (fun vs hv=> ((en.mono st1).caps js).own hv) h1
theorem atm(m:Bool){py:Pos}{spos:Pos}(hsw:fJ (LC2 elt tg iter tg2 iter2 ifs ifs2 scope pos) (some (.Name y py)) spos.line X.env=pure true)(hN:X.N.Nodup)(hy:X.N[i]?=some y)(hyl:X.env.scope.names.lookup y=some .local)(hcalm:X.calm=true)(hkind:scope.kind=.function)(hnames:(scope.names.all fun p=> !(p.2==.local)||(scope.names.lookup p.1==some .local))=true)(hcell:(scope.names.any fun p=> p.2==.cell)=false)(hk:(scope.names.all fun p=> !(p.2==.free)||(X.env.kindOf p.1==some .cell||X.env.kindOf p.1==some .free))=true)(hcap:yk X scope caps js)(hl:y9 own.length g=true)(hl2:y9 own.length g2=true)(hi:RI X tg iter fi)(hg: ∀C fp s H,RG (kc X own caps scope C fp s H) tg g)(ht: ∀C fp s H,RIfs (kc X own caps scope C fp s H) ifs ft)(hi2: ∀C fp s H,RI (kc X own caps scope C fp s H) tg2 iter2 fi2)(hg2: ∀C fp s H,RG (kc X own caps scope C fp s H) tg2 g2)(ht2: ∀C fp s H,RIfs (kc X own caps scope C fp s H) ifs2 ft2)(he: ∀C fp s H,RE (kc X own caps scope C fp s H) elt fe)(hs: ∀x,bU iter X.env x=pure x:=by intro _;rfl)(hs2: ∀C fp s H x,bU iter2 (kc X own caps scope C fp s H).env x=pure x:=by intro _ _ _ _ _;rfl):RS X (.Assign [.Name y py] (LC2 elt tg iter tg2 iter2 ifs ifs2 scope pos) spos) (j5 i (ar5 m js own.length fi g ft fi2 g2 ft2 fe)):=by
 obtain⟨wi,pi,ri⟩:=hi.ex
 refine⟨_,ass (own:=own) (tb:=tNx (asd X.K fi2) (gOf X.K g2) (acs X.K ft2) (tOf X.K fe)) (g:=gOf X.K g) (tt:=acs X.K ft) hsw hN hy hyl hcalm hkind hnames hcell hk hcap pi (fun C fp s H=> (hg C fp s H).pg) (fun C fp s H=> (ht C fp s H).run) (fun C fp s H=> pnx hcalm rfl (hi2 C fp s H).pi (hg2 C fp s H).pg (ht2 C fp s H).run (he C fp s H).pe) hs2 hs,fun as σ H ρ s D rl en h=> ?_⟩
 exact a1j (m:=m) ri hl hl2 as σ H ρ s _ rl en (Dn.bind h fun d s1 as1 H1 v st1 rl1 r1 h1=> Dn.now (b:=FV.nx (σ.set i (some v))) h1 rl1 (.nx ((en.mono st1).set i r1)))
end
end PF
namespace L2
open PySem PySem.Spec PyProof.Rows
def vb(b:Bool)(h:Heap)(l:Addr)(xs:Array af):Prop:=if b=true then h.IsList l xs else h.IsTuple l xs
def zy(b:Bool)(h:Heap)(i l:Addr)(k:Nat):Prop:=if b=true then h.IsListIter i l k else h.IsTupleIter i l k
theorem vb.to{b:Bool}{h':Heap}{xs:Array af}(x:vb b h l xs)(k: ∀o,h.get? l=some o -> h'.get? l=some o):vb b h' l xs:=by
 cases b with
 |true=> obtain⟨o,e,r⟩:=x;exact⟨o,k o e,r⟩
 |false=> obtain⟨o,e,r⟩:=x;exact⟨o,k o e,r⟩
theorem zy.to{b:Bool}{h':Heap}{i:Addr}(x:zy b h i l n)(k: ∀o,h.get? i=some o -> h'.get? i=some o):zy b h' i l n:=by
 cases b with
 |true=> obtain⟨o,e,r⟩:=x;exact⟨o,k o e,r⟩
 |false=> obtain⟨o,e,r⟩:=x;exact⟨o,k o e,r⟩
theorem zy.obj{b:Bool}{i:Addr}(x:zy b h i l n): ∃o,h.get? i=some o/\ ∃vs,o.data=.fields vs:=by
 cases b with
 |true=> obtain⟨o,e,_,r⟩:=x;exact⟨o,e,_,r⟩
 |false=> obtain⟨o,e,_,r⟩:=x;exact⟨o,e,_,r⟩
theorem vb.lt{b:Bool}{xs:Array af}(x:vb b h l xs):l < h.objs.size:=by
 cases b with
 |true=> obtain⟨o,e,r⟩:=x;exact aM e
 |false=> obtain⟨o,e,r⟩:=x;exact aM e
section
variable{P:bz}{w:bw}{A:bm}{E:af -> ak -> Prop}{s:ak}
open PySem.F in
theorem ads{b:Bool}{i:Addr}{xs:Array af}{x:af}(hi:zy b s.heap i l k)(hl:vb b s.heap l xs)(hx:xs[k]?=some x)(hQ: ∀h',zy b h' i l (k+1) -> de i s.heap h' -> Q x {s with heap:=h'}):wpAny (model P w) A (cM (.ref i)) Q E s:=by
 cases b with
 |true=> exact wpAny_nextOf_list_item hi hl hx hQ
 |false=>
  have hi:s.heap.IsTupleIter i l k:=hi
  have hl:s.heap.IsTuple l xs:=hl
  obtain⟨o,ho,hc,hd⟩:=id hi
  (obtain⟨ol,hol,_,nl,hdl⟩:=hl)
  refine ae (cD (name:=bQ "__next__") hi.typeIs slot_tuple_iterator_next (cE slot_tuple_iterator_next hi.typeIs entry_tuple_iterator_next ?_ (args_tuple_iterator_next_1 _)))
  wp_walk using b9 ho hd (x:=.ref l) rfl,b9 ho hd (x:=.int k 0) rfl,cI hol hdl
  (simp only [cy,hx])
  refine ae (wpAny_setField ho hd (by simp) (aj ⟨_,rfl,aj (hQ _ ?_ (.update ..))⟩))
  exact⟨_,gH _ ho (Obj.isFreed_of_fields (Obj.data_mapFields hd _)),by rw [Obj.cls_mapFields];exact hc,by rw [Obj.data_mapFields hd];simp [rawInt]⟩
open PySem.F in
theorem ain{b:Bool}{i:Addr}{xs:Array af}(hh:A.handled=none)(hi:zy b s.heap i l k)(hl:vb b s.heap l xs)(hx:xs[k]?=none)(hE: ∀h' e,ib i s.heap h' -> (∃o,h'.get? e=some o/\o.cls=.type "StopIteration") -> E (.ref e) {s with heap:=h'}):wpAny (model P w) A (cM (.ref i)) Q E s:=by
 cases b with
 |true=> exact wpAny_nextOf_list_end hh hi hl hx hE
 |false=>
  have hi:s.heap.IsTupleIter i l k:=hi
  have hl:s.heap.IsTuple l xs:=hl
  obtain⟨o,ho,hc,hd⟩:=id hi
  (obtain⟨ol,hol,_,nl,hdl⟩:=hl)
  refine ae (cD (name:=bQ "__next__") hi.typeIs slot_tuple_iterator_next (cE slot_tuple_iterator_next hi.typeIs entry_tuple_iterator_next ?_ (args_tuple_iterator_next_1 _)))
  (have hh1:A.in1.handled=none:=hh)
  wp_walk using b9 ho hd (x:=.ref l) rfl,b9 ho hd (x:=.int k 0) rfl,cI hol hdl
  (simp only [cy,hx])
  (refine ae (c9 (ae (wpAny_setField ho hd (by simp) ?_))))
  wp_walk
  simp only [raiseNew]
  (refine ae (wpAny_handled ?_))
  rw [hh1]
  refine ae (aj (wpAny_throw (hE _ _ (((eC ..).extBut.push _).push _) ?_)))
  exact⟨_,aQ _ rfl,rfl⟩
end
section
variable{P:bz}{w:bw}{A:bm}{E:af -> ak -> Prop}{s:ak}
structure ZAt (b1 b2:Bool) (l1 l2 z TI TO i1 i2:Addr) (f0:af) (k1 k2:Nat) (h:Heap):Prop where
 ap:ZipApart z TI TO i1 i2 l1 l2
 oz:ic h z TI TO f0
 oi:fU h TI (.ref i1) (.ref i2)
 oo: ∃a b,fU h TO a b
 c1:zy b1 h i1 l1 k1
 c2:zy b2 h i2 l2 k2
theorem a32{b1 b2:Bool}{z TI TO i1 i2 l1 l2:Addr}{k1 k2:Nat}{xs ys:Array af}{x y:af}(Z:ZAt b1 b2 l1 l2 z TI TO i1 i2 .none k1 k2 s.heap)(hl1:vb b1 s.heap l1 xs)(hl2:vb b2 s.heap l2 ys)(hx:xs[k1]?=some x)(hy:ys[k2]?=some y)(hQ: ∀h',ZAt b1 b2 l1 l2 z TI TO i1 i2 (rawInt s.heap.objs.size) (k1+1) (k2+1) h' -> fU h' s.heap.objs.size x y ->
   (∀c o,c≠z -> c≠TO -> c≠i1 -> c≠i2 -> s.heap.get? c=some o -> h'.get? c=some o) -> Q (.ref s.heap.objs.size) {s with heap:=h'}):
  wpAny (model P w) A (d9.«zip.__next__» ⟨[.ref z],[]⟩) (fun fin s'=> ∃v,fin=.done (.ret v)/\Q v s') E s:=by
 obtain⟨ap,oz,oi,⟨a,b,oo⟩,c1,c2⟩:=Z
 (show wpAny _ _ (field (.ref z) 2 >>=_) _ _ _);refine ae (b9 oz rfl (x:=.bool false) rfl ?_)
 (show wpAny _ _ (field (.ref z) 3 >>=_) _ _ _);refine ae (b9 oz rfl (x:=.ref TI) rfl (ae (cI oi rfl ?_)))
 (show wpAny _ _ (gb (.ref z)>>=_) _ _ _);refine ae (ae (b9 oz rfl (x:=.none) rfl (aj ?_)))
 simp only [if_true]
 refine ae (c9 (ae (b9 oz rfl (x:=.ref TO) rfl (ae (dI oz (by simp) fun g1 z1 e1=> ae ?_)))))
 have z1:ic g1 z TI TO .ellipsis:=z1
 (simp only [List.zipIdx_cons,List.zipIdx_nil,jB,List.forIn_nil])
 (refine ae (ae (iw ?_)))
 (show wpAny _ _ (cM (.ref i1)>>=_) _ _ _);refine ae (ads (c1.to fun o=> e1.extBut _ _ ap.i1z) (hl1.to fun o=> e1.extBut _ _ ap.l1z) hx fun g2 c1' e2=> aj ?_)
 have o2:fU g2 TO a b:=e2.extBut _ _ ap.TOi1 (e1.extBut _ _ ap.TOz oo)
 refine ae (cI o2 rfl (ae (gR o2 fun g3 o3 e3=> ae (lX (aj (ae (ae (iw ?_))))))))
 have o3:fU g3 TO x b:=o3
 have k3: ∀c o,c≠z -> c≠i1 -> c≠TO -> s.heap.get? c=some o -> g3.get? c=some o:=fun c o a1 a2 a3 e=> e3.extBut _ _ a3 (e2.extBut _ _ a2 (e1.extBut _ _ a1 e))
 (show wpAny _ _ (cM (.ref i2)>>=_) _ _ _);refine ae (ads (c2.to fun o=> k3 _ o ap.i2z ap.i12.symm ap.TOi2.symm) (hl2.to fun o=> k3 _ o ap.l2z ap.l2i1 ap.l2TO) hy fun g4 c2' e4=> aj ?_)
 have o4:fU g4 TO x b:=e4.extBut _ _ ap.TOi2 o3
 refine ae (cI o4 rfl (ae (gR o4 fun g5 o5 e5=> ae (lX (aj (aj ?_))))))
 have o5:fU g5 TO x y:=o5
 refine ae (cI o5 rfl (ae (wpAny_newTuple ?_)))
 have sz:g5.objs.size=s.heap.objs.size:=by rw [e5.1,e4.1,e3.1,e2.1,e1.1]
 have z5:ic g5 z TI TO .ellipsis:=e5.extBut _ _ ap.TOz.symm (e4.extBut _ _ ap.i2z.symm (e3.extBut _ _ ap.TOz.symm (e2.extBut _ _ ap.i1z.symm z1)))
 have k5: ∀c o,c≠z -> c≠TO -> c≠i1 -> c≠i2 -> s.heap.get? c=some o -> g5.get? c=some o:=fun c o a1 a2 a3 a4 e=> e5.extBut _ _ a2 (e4.extBut _ _ a4 (k3 c o a1 a3 a2 e))
 have c15:zy b1 g5 i1 l1 (k1+1):=c1'.to fun o e=> e5.extBut _ _ ap.TOi1.symm (e4.extBut _ _ ap.i12 (e3.extBut _ _ ap.TOi1.symm e))
 have c25:zy b2 g5 i2 l2 (k2+1):=c2'.to fun o e=> e5.extBut _ _ ap.TOi2.symm e
 (show wpAny _ _ (Builtin.SmallTypes.ownedTupleHandOut (.ref z) (.ref g5.objs.size)>>=_) _ _ _);refine ae ?_
 have z6:ic (g5.push {cls:=.type "tuple",data:=.seq #[x,y]}) z TI TO .ellipsis:=aq _ z5
 refine ae (dI z6 (by simp) fun g7 z7 e7=> ?_)
 have z7:ic g7 z TI TO (rawInt g5.objs.size):=z7
 refine dI z7 (by simp) fun g8 z8 e8=> ?_
 have z8:ic g8 z TI TO (rawInt g5.objs.size):=z8
 have up: ∀c o,c≠z -> g5.get? c=some o -> g8.get? c=some o:=fun c o a1 e=> e8.extBut _ _ a1 (e7.extBut _ _ a1 (aq _ e))
 have nz:g5.objs.size≠z:=iR (aM z5)
 have t8:fU g8 g5.objs.size x y:=e8.extBut _ _ nz (e7.extBut _ _ nz (aQ _ rfl))
 rw [sz]at z8 t8
 (refine aj ⟨_,rfl,?_⟩)
 show Q (.ref g5.objs.size) _
 rw [sz]
 exact hQ g8 ⟨ap,z8,up _ _ ap.TIz (k5 _ _ ap.TIz ap.TITO ap.TIi1 ap.TIi2 oi),⟨_,_,up _ _ ap.TOz o5⟩,c15.to fun o=> up _ o ap.i1z,c25.to fun o=> up _ o ap.i2z⟩ t8 fun c o a1 a2 a3 a4 e=> up c o a1 (k5 c o a1 a2 a3 a4 e)
theorem a1i{b1 b2:Bool}{z TI TO i1 i2 l1 l2:Addr}{k1 k2:Nat}{xs ys:Array af}{Q:Fin -> ak -> Prop}(hh:A.handled=none)(Z:ZAt b1 b2 l1 l2 z TI TO i1 i2 .none k1 k2 s.heap)
  (hl1:vb b1 s.heap l1 xs) (hl2:vb b2 s.heap l2 ys) (hend:xs[k1]?=none\/ys[k2]?=none)
  (hE: ∀h' e,(∀c o,c≠z -> c≠TO -> c≠i1 -> c≠i2 -> s.heap.get? c=some o -> h'.get? c=some o) -> (∃o,h'.get? e=some o/\o.cls=.type "StopIteration") -> E (.ref e) {s with heap:=h'}):
  wpAny (model P w) A (d9.«zip.__next__» ⟨[.ref z],[]⟩) Q E s:=by
 obtain⟨ap,oz,oi,⟨a,b,oo⟩,c1,c2⟩:=Z
 (show wpAny _ _ (field (.ref z) 2 >>=_) _ _ _);refine ae (b9 oz rfl (x:=.bool false) rfl ?_)
 (show wpAny _ _ (field (.ref z) 3 >>=_) _ _ _);refine ae (b9 oz rfl (x:=.ref TI) rfl (ae (cI oi rfl ?_)))
 (show wpAny _ _ (gb (.ref z)>>=_) _ _ _);refine ae (ae (b9 oz rfl (x:=.none) rfl (aj ?_)))
 simp only [if_true]
 refine ae (c9 (ae (b9 oz rfl (x:=.ref TO) rfl (ae (dI oz (by simp) fun g1 z1 e1=> ae ?_)))))
 have z1:ic g1 z TI TO .ellipsis:=z1
 have stop: ∀(g:Heap) (o:Obj) (e:Addr),ic g z TI TO .ellipsis -> g.get? e=some o -> o.cls=.type "StopIteration" -> e≠z:=fun g o e hz ho hc q=> by
  subst q;rw [hz]at ho;cases ho;simp at hc
 (simp only [List.zipIdx_cons,List.zipIdx_nil,jB,List.forIn_nil])
 (refine ae (ae (iw ?_)))
 (show wpAny _ _ (cM (.ref i1)>>=_) _ _ _);cases hx:xs[k1]? with
 |none=>
  refine ae (ain hh (c1.to fun o=> e1.extBut _ _ ap.i1z) (hl1.to fun o=> e1.extBut _ _ ap.l1z) hx fun g2 e e2 ⟨oe,he,ce⟩=> ?_)
  have z2:ic g2 z TI TO .ellipsis:=e2 _ _ ap.i1z.symm z1
  exact dI z2 (by simp) fun g3 _ e3=> hE g3 e (fun c o a1 _ a3 _ q=> e3.extBut _ _ a1 (e2 _ _ a3 (e1.extBut _ _ a1 q))) ⟨oe,e3.extBut _ _ (stop _ _ _ z2 he ce) he,ce⟩
 |some x=>
  have hy:ys[k2]?=none:=hend.elim (fun h=> by rw [hx]at h;cases h) id
  refine ae (ads (c1.to fun o=> e1.extBut _ _ ap.i1z) (hl1.to fun o=> e1.extBut _ _ ap.l1z) hx fun g2 c1' e2=> aj ?_)
  have o2:fU g2 TO a b:=e2.extBut _ _ ap.TOi1 (e1.extBut _ _ ap.TOz oo)
  refine ae (cI o2 rfl (ae (gR o2 fun g3 o3 e3=> ae (lX (aj (ae (ae (iw ?_))))))))
  have k3: ∀c o,c≠z -> c≠i1 -> c≠TO -> s.heap.get? c=some o -> g3.get? c=some o:=fun c o a1 a2 a3 e=> e3.extBut _ _ a3 (e2.extBut _ _ a2 (e1.extBut _ _ a1 e))
  (show wpAny _ _ (cM (.ref i2)>>=_) _ _ _);refine ae (ain hh (c2.to fun o=> k3 _ o ap.i2z ap.i12.symm ap.TOi2.symm) (hl2.to fun o=> k3 _ o ap.l2z ap.l2i1 ap.l2TO) hy fun g4 e e4 ⟨oe,he,ce⟩=> ?_)
  have z4:ic g4 z TI TO .ellipsis:=e4 _ _ ap.i2z.symm (e3.extBut _ _ ap.TOz.symm (e2.extBut _ _ ap.i1z.symm z1))
  exact dI z4 (by simp) fun g5 _ e5=> hE g5 e (fun c o a1 a2 a3 a4 q=> e5.extBut _ _ a1 (e4 _ _ a4 (k3 c o a1 a3 a2 q))) ⟨oe,e5.extBut _ _ (stop _ _ _ z4 he ce) he,ce⟩
theorem azk{b1 b2:Bool}{z TI TO i1 i2 l1 l2:Addr}{k1 k2:Nat}{xs ys:Array af}{x y:af}{Q:Option af -> ak -> Prop}(Z:ZAt b1 b2 l1 l2 z TI TO i1 i2 .none k1 k2 s.heap)
  (hl1:vb b1 s.heap l1 xs) (hl2:vb b2 s.heap l2 ys) (hx:xs[k1]?=some x) (hy:ys[k2]?=some y)
  (hQ: ∀h',ZAt b1 b2 l1 l2 z TI TO i1 i2 (rawInt s.heap.objs.size) (k1+1) (k2+1) h' -> fU h' s.heap.objs.size x y ->
   (∀c o,c≠z -> c≠TO -> c≠i1 -> c≠i2 -> s.heap.get? c=some o -> h'.get? c=some o) -> Q (some (.ref s.heap.objs.size)) {s with heap:=h'}):
  wpAny (model P w) A (pyNext (.ref z)) Q E s:=
 have hT:s.TypeIs (.ref z) "zip":=⟨_,Z.oz,rfl⟩
 ae (wpAny_attempt (cD (name:=bQ "__next__") hT gS (cE gS hT F.entry_zip_next (a32 Z hl1 hl2 hx hy fun h' a1 a2 a3=> aj (hQ h' a1 a2 a3)) (F.args_zip_next_1 _))))
theorem aw4{b1 b2:Bool}{z TI TO i1 i2 l1 l2:Addr}{k1 k2:Nat}{xs ys:Array af}{Q:Option af -> ak -> Prop}(hh:A.handled=none)(Z:ZAt b1 b2 l1 l2 z TI TO i1 i2 .none k1 k2 s.heap)
  (hl1:vb b1 s.heap l1 xs) (hl2:vb b2 s.heap l2 ys) (hend:xs[k1]?=none\/ys[k2]?=none)
  (hQ: ∀h',(∀c o,c≠z -> c≠TO -> c≠i1 -> c≠i2 -> s.heap.get? c=some o -> h'.get? c=some o) -> Q none {s with heap:=h'}):wpAny (model P w) A (pyNext (.ref z)) Q E s:=
 have hT:s.TypeIs (.ref z) "zip":=⟨_,Z.oz,rfl⟩
 ae (wpAny_attempt (cD (name:=bQ "__next__") hT gS (cE gS hT F.entry_zip_next (a1i hh Z hl1 hl2 hend fun h' e hk ⟨o,ho,hc⟩=>
  ae (wpAny_isInstance (T:="StopIteration") (b:=true) ⟨o,ho,hc⟩ isSubtype_stop (aj (hQ _ hk)))) (F.args_zip_next_1 _))))
end
def SqB(K:aw)(b:Bool)(H:Hp)(l:Addr)(xs:List V):Prop:=if b=true then SqL K H l xs else SqT K H l xs
theorem Inv.seqB{s:ak}{b:Bool}{xs:List V}(I:Inv X pins σ H s)(q:SqB X.K b H l xs): ∃its,jn xs its/\vb b s.heap l its.toArray:=by
 cases b with
 |true=> obtain⟨its,rv,p,_⟩:=I.list q;exact⟨its,rv,p.isList⟩
 |false=> obtain⟨its,rv,p,_⟩:=I.tuple q;exact⟨its,rv,p⟩
noncomputable def a1l(K:aw)(b1 b2:Bool)(l1 l2:Addr):It:=
 ⟨fun i H=> ∃xs ys x y,SqB K b1 H l1 xs/\SqB K b2 H l2 ys/\xs[i]?=some x/\ys[i]?=some y,
   fun i H v H'=> ∃T,v=.ref T/\ ∀xs ys,SqB K b1 H l1 xs -> SqB K b2 H l2 ys -> ∃x y,xs[i]?=some x/\ys[i]?=some y/\New H T (.tup [x,y]) H',
   fun i H=> ∃xs ys,SqB K b1 H l1 xs/\SqB K b2 H l2 ys/\(xs.length <=i\/ys.length <=i)⟩
theorem Inv.seqB_inj{s:ak}{b:Bool}{xs ys:List V}(I:Inv X pins σ H s)(p:SqB X.K b H l xs)(q:SqB X.K b H l ys):xs=ys:=by
 cases b with
 |true=> exact I.list_inj p q
 |false=> exact I.tuple_inj p q
theorem asm{x1:Nat}{b1 b2:Bool}(l1 l2 z TI TO i1 i2:Addr):Turn P w K (.Tuple es x1 pos) (a1l K b1 b2 l1 l2) [z,TI,TO,i1,i2] z (fun i h=> ZAt b1 b2 l1 l2 z TI TO i1 i2 .none i i h) where
 mem:=by simp
 obj:=fun i h ⟨_,hz,hTI,⟨a,c,hTO⟩,q1,q2⟩ b hb=> by
  obtain⟨o1,e1,v1,d1⟩:=q1.obj
  obtain⟨o2,e2,v2,d2⟩:=q2.obj
  (simp only [ay,aX,or_false]at hb)
  rcases hb with rfl|rfl|rfl|rfl|rfl
  ·exact⟨_,hz,fun v y=> by cases y⟩
  ·exact⟨_,hTI,fun v y=> by cases y⟩
  ·exact⟨_,hTO,fun v y=> by cases y⟩
  ·exact⟨_,e1,fun v y=> by rw [d1]at y;cases y⟩
  ·exact⟨_,e2,fun v y=> by rw [d2]at y;cases y⟩
 keep:=fun i h h' ⟨D,hz,hTI,⟨a,c,hTO⟩,q1,q2⟩ k=>
  ⟨D,k z (by simp) _ hz,k TI (by simp) _ hTI,⟨a,c,k TO (by simp) _ hTO⟩,q1.to fun o e=> k i1 (by simp) o e,q2.to fun o e=> k i2 (by simp) o e⟩
 item:=by
  intro X hP hw hK hc i pins s σ H E I hf st hg
  subst hP hw hK
  obtain⟨xs,ys,x,y,q1,q2,hx,hy⟩:=hg
  obtain⟨its1,rv1,p1⟩:=I.seqB q1
  obtain⟨its2,rv2,p2⟩:=I.seqB q2
  obtain⟨u1,hu1,ru1⟩:=rv1.get hx
  obtain⟨u2,hu2,ru2⟩:=rv2.get hy
  refine azk st p1 p2 (x:=u1) (y:=u2) (by simpa using hu1) (by simpa using hu2) fun h' Z a5 k=> ?_
  refine⟨_,rfl,wpAny_letOwnedTupleGo_zip (s:={s with heap:=h'}) Z.oz fun h2' hz' sb=> ?_⟩
  have lt: ∀b∈ [z,TI,TO,i1,i2],b < s.heap.objs.size:=fun b hb=> by
   obtain⟨_,hz,hTI,⟨_,_,hTO⟩,q1,q2⟩:=st
   obtain⟨o1,e1,_⟩:=q1.obj
   obtain⟨o2,e2,_⟩:=q2.obj
   (simp only [ay,aX,or_false]at hb)
   rcases hb with rfl|rfl|rfl|rfl|rfl
   ·exact aM hz
   ·exact aM hTI
   ·exact aM hTO
   ·exact aM e1
   ·exact aM e2
  have I1:Inv X pins σ (upd H s.heap.objs.size (.tup [x,y])) {s with heap:=s.heap.push {cls:=.type "tuple",data:=.seq #[u1,u2]},toks:=s.toks}:=
   I.laid (fun b u e=> aq _ e) (aD _) ⟨by show 2 <=sizeLine;decide,[u1,u2],.cons ru1 (.cons ru2 .nil),⟨_,aQ _ rfl⟩⟩
  have nT: ∀b∈ [z,TI,TO,i1,i2],upd H s.heap.objs.size (.tup [x,y]) b=none:=fun b hb=> by
   rw [qh (aT (lt b hb))];exact (hf b hb).1
  have D:=Z.ap
  have I2:=I1.turnedL (h':=h2') (t':=s.toks) (ch:=[z,TI,TO,i1,i2]) (fun b o hb e=> by
   have hbz:b≠z:=fun y=> hb (by simp [y])
   rw [sb.2 b hbz]
   by_cases hT:b=s.heap.objs.size
   ·subst hT
    rw [aQ _ rfl]at e
    cases e
    exact a5
   ·rw [eQ _ _ _ hT]at e
    exact k b o hbz (fun y=> hb (by simp [y])) (fun y=> hb (by simp [y])) (fun y=> hb (by simp [y])) e) fun b hb=> ⟨nT b hb,(hf b hb).2⟩
  obtain⟨_,_,oi,⟨_,_,oo⟩,c1,c2⟩:=Z
  refine⟨.ref s.heap.objs.size,_,I2,rfl,⟨_,rfl,fun xs' ys' q1' q2'=> ?_⟩,⟨D,hz',sb.extBut _ _ D.TIz oi,⟨_,_,sb.extBut _ _ D.TOz oo⟩,c1.to fun o=> sb.extBut _ _ D.i1z,c2.to fun o=> sb.extBut _ _ D.i2z⟩,nT⟩
  rw [I.seqB_inj q1' q1,I.seqB_inj q2' q2]
  exact⟨x,y,hx,hy,I.fresh,rfl⟩
 done:=by
  intro X hP hw hK hc i pins s σ H E I hf st hg
  subst hP hw hK
  obtain⟨xs,ys,q1,q2,hx⟩:=hg
  obtain⟨its1,rv1,p1⟩:=I.seqB q1
  obtain⟨its2,rv2,p2⟩:=I.seqB q2
  have l1':=rv1.length
  have l2':=rv2.length
  refine aw4 (I.ok.hd hc) st p1 p2 ?_ fun h' k=> ⟨rfl,I.turnedL (t':=s.toks) (ch:=[z,TI,TO,i1,i2]) (fun b o hb e=> k b o (fun y=> hb (by simp [y])) (fun y=> hb (by simp [y])) (fun y=> hb (by simp [y])) (fun y=> hb (by simp [y])) e) hf⟩
  rcases hx with hx|hx
  ·exact .inl (by simp;lia)
  ·exact .inr (by simp;lia)
 self:=fun _ _ _ _ _ st h=> wpAny_pyIter_zip st.oz h
noncomputable def ahk(b:Bool):String:=if b=true then "list_iterator" else "tuple_iterator"
section
variable{P:bz}{w:bw}{A:bm}{E:af -> ak -> Prop}{s:ak}
theorem ay4{b:Bool}{xs:Array af}(h:vb b s.heap l xs)(hQ:Q (.ref s.heap.objs.size) {s with heap:=s.heap.push {cls:=.type (ahk b),data:=.fields #[.ref l,.int 0 0]}}):wpAny (model P w) A (pyIter (.ref l)) Q E s:=by
 cases b with
 |true=> exact dU h hQ
 |false=> exact fP h hQ
theorem a2c{b:Bool}{i:Addr}(e:h.get? i=some {cls:=.type (ahk b),data:=.fields #[.ref l,.int 0 0]}):zy b h i l 0:=by
 cases b with
 |true=> exact⟨_,e,rfl,rfl⟩
 |false=> exact⟨_,e,rfl,rfl⟩
def zH(h:Heap)(b1 b2:Bool)(l1 l2:Addr):Heap:=
 ((((h.push {cls:=.type (ahk b1),data:=.fields #[.ref l1,.int 0 0]}).push {cls:=.type (ahk b2),data:=.fields #[.ref l2,.int 0 0]}).push {cls:=.type "tuple",data:=.seq #[.ref h.objs.size,.ref (h.objs.size+1)]}).push {cls:=.type "tuple",data:=.seq #[.none,.none]}).push
  {cls:=.type "zip",data:=.fields #[.none,.bool false,.bool false,.ref (h.objs.size+2),.ref (h.objs.size+3)]}
theorem aq7(b1 b2:Bool)(l1 l2:Addr)(xs ys:Array af):
  Meets (d9.«zip.__new__» ⟨[.type "zip",.ref l1,.ref l2],[]⟩) (fun _ R s=> vb b1 s.heap l1 xs/\vb b2 s.heap l2 ys/\R (.ok (.ret (.ref (s.heap.objs.size+4)))) {s with heap:=zH s.heap b1 b2 l1 l2}):=
 .of_wp fun prog w A R s h=> by
  obtain⟨hp,g,d,tk,os⟩:=s;obtain⟨h1,h2,h⟩:=h
  have hsub:=sub_zip
  have L1:vb b1 (Shared.heap ⟨hp,g,d,tk,os⟩) l1 xs:=h1
  have L2:vb b2 (Shared.heap ⟨hp.push {cls:=.type (ahk b1),data:=.fields #[.ref l1,.int 0 0]},g,d,tk,os⟩) l2 ys:=h2.to fun o=> aq _
  wp_walk using ay4 L1,ay4 L2
  refine⟨_,rfl,?_⟩
  simp only [bT]
  exact h
theorem atl{b1 b2:Bool}{l1 l2:Addr}{xs ys:Array af}(h1:vb b1 s.heap l1 xs)(h2:vb b2 s.heap l2 ys)(h: ∀h',ZAt b1 b2 l1 l2 (s.heap.objs.size+4) (s.heap.objs.size+2) (s.heap.objs.size+3) s.heap.objs.size (s.heap.objs.size+1) .none 0 0 h' -> (∀c o,s.heap.get? c=some o -> h'.get? c=some o) -> Q (.ref (s.heap.objs.size+4)) {s with heap:=h'}):
  wpAny (model P w) A (call (.type "zip") [.ref l1,.ref l2]) Q E s:=by
 refine callType_new F.called_zip (by decide) (F.typeCall_zip_2 _ _) (F.newCall_zip_2 _ _) (fun obj=> F.args_object_init_3 obj _ _) F.entry_zip_new (aq7 b1 b2 l1 l2 xs ys) ⟨h1,h2,?_⟩
 have q1:=h1.lt
 have q2:=h2.lt
 have up: ∀(g:Heap) (o:Obj) (n:Nat),n=g.objs.size -> o.isFreed=false -> (g.push o).get? n=some o:=fun g o n e hf=> by subst e;exact aQ _ hf
 have sz: ∀(g:Heap) (o:Obj) (n:Nat),g.objs.size=n -> (g.push o).objs.size=n+1:=fun g o n e=> by rw [bT,e]
 have g5:ic (zH s.heap b1 b2 l1 l2) (s.heap.objs.size+4) (s.heap.objs.size+2) (s.heap.objs.size+3) .none:=up _ _ _ (by simp only [bT]) rfl
 have g4:fU (zH s.heap b1 b2 l1 l2) (s.heap.objs.size+3) .none .none:=aq _ (up _ _ _ (by simp only [bT]) rfl)
 have g3:fU (zH s.heap b1 b2 l1 l2) (s.heap.objs.size+2) (.ref s.heap.objs.size) (.ref (s.heap.objs.size+1)):=aq _ (aq _ (up _ _ _ (by simp only [bT]) rfl))
 have g2:(zH s.heap b1 b2 l1 l2).get? (s.heap.objs.size+1)=some {cls:=.type (ahk b2),data:=.fields #[.ref l2,.int 0 0]}:=aq _ (aq _ (aq _ (up _ _ _ (by simp only [bT]) rfl)))
 have g1:(zH s.heap b1 b2 l1 l2).get? s.heap.objs.size=some {cls:=.type (ahk b1),data:=.fields #[.ref l1,.int 0 0]}:=aq _ (aq _ (aq _ (aq _ (up _ _ _ rfl rfl))))
 refine⟨⟨_,g5,rfl⟩,h _ ⟨?_,g5,g3,⟨_,_,g4⟩,a2c g1,a2c g2⟩ fun c o x=> aq _ (aq _ (aq _ (aq _ (aq _ x))))⟩
 constructor <;> (unfold Addr at*;lia)
end
def a5z(K:aw)(ta:TA):TI:=fun σ H R=> ta σ H fun vs H1=> ∃l1 l2 xs ys b1 b2,vs=[.ref l1,.ref l2]/\SqB K b1 H1 l1 xs/\SqB K b2 H1 l2 ys/\R (a1l K b1 b2 l1 l2) H1
theorem ayn{x1:Nat}{tp:Pos}{a b:Expr}{ta:TA}{p:Pos}(hg:Gl X "zip")(hm:X.mg "zip"=none)(ha:PA X [a,b] ta)(hs:starEach [a,b] X.env=[(false,eval a X.env),(false,eval b X.env)]:=by rfl)(hs2:starEach [b] X.env=[(false,eval b X.env)]:=by rfl):
  PI X (.Tuple es x1 tp) (.Call (.Name "zip" p) [a,b] [] pos) (a5z X.K ta):=by
 intro pins s σ H R I h
 refine Call_ (aed I hg hm a79 (dF (thn (ha pos pins s σ H _ I h) fun us s1 ⟨vs,H1,I1,r1,q1⟩=> ?_) (by rw [hs,hs2]) (by rw [hs2];rfl)))
 obtain⟨l1,l2,xs,ys,b1,b2,e,q1,q2,q⟩:=q1
 subst e
 cases r1 with
 | cons r rr=>
  cases rr with
  | cons r' rr=>
   cases rr
   cases r
   cases r'
   obtain⟨its1,rv1,p1⟩:=I1.seqB q1
   obtain⟨its2,rv2,p2⟩:=I1.seqB q2
   refine atl p1 p2 fun h' Z k=> wpAny_pyIter_zip (s:={s1 with heap:=h'}) Z.oz ?_
   refine⟨s1.heap.objs.size+4,_,_,_,H1,rfl,I1.kept (t':=s1.toks) k,asm l1 l2 _ _ _ _ _,Z,fun b hb=> ?_,q⟩
   have hb':s1.heap.objs.size <=b:=by
    (simp only [ay,aX,or_false]at hb)
    rcases hb with rfl|rfl|rfl|rfl|rfl <;> (unfold Addr at*;lia)
   exact I1.fpOk hb' (I1.hok.fresh hb')
end L2
namespace PF
open PySem PySem.Spec
open L2
noncomputable def sqD:D -> Option (Bool×List aa)
 |.lst xs=> some (true,xs)
 |.tup xs=> some (false,xs)
 |_=> none
def alb(ds:List D)(s:S):R Wk:=match ds with
 |[a,b]=> match sqD a,sqD b with
  |some (_,xs),some (_,ys)=>.ok ((xs.zip ys).map fun p=> D.tup [p.1,p.2],none) s
  |_,_=>.bad
 |_=>.bad
def arp(f:FA):FI:=fun ρ s=> (f ρ s).bind alb
theorem aog{d:D}{b:Bool}(r:RD K as H v d)(e:sqD d=some (b,xs)): ∃l vs,v=.ref l/\(∀as2 H2,Step0 as H as2 H2 -> SqB K b H2 l vs)/\TDs as H vs xs:=by
 cases d with
 | da d=>
  cases d with
  |list zs=>
   cases e
   obtain⟨l,vs,rfl,n,q,t⟩:=r.lst_inv
   exact⟨l,vs,rfl,fun as2 H2 st=> SqL.of (st.keep _ _ n q),t⟩
  | tuple zs=>
   cases e
   cases r with
   |da t=> cases t with
    |tup n q t=> exact⟨_,_,rfl,fun as2 H2 st=> SqT.of (st.keep _ _ n q),t⟩
  |_=> cases e
 |_=> cases e
theorem a0h{x1:Nat}{tp:Pos}{a b:Expr}{f:FA}{p:Pos}(hm:X.mg "zip"=none)(h:RA X [a,b] f)(hg:Gl X "zip":=by rfl)(hs:starEach [a,b] X.env=[(false,eval a X.env),(false,eval b X.env)]:=by rfl)(hs2:starEach [b] X.env=[(false,eval b X.env)]:=by rfl):
  RI X (.Tuple es x1 tp) (.Call (.Name "zip" p) [a,b] [] pos) (arp f):=by
 obtain⟨t,pa,ra⟩:=h.ex
 refine⟨_,ayn hg hm pa hs hs2,fun as σ H ρ s Q rl en h=> ?_⟩
 refine ra as σ H ρ s _ rl en (Dn.bind h fun ds s1 as1 H1 vs st1 rl1 r1 h1=> ?_)
 unfold alb at h1
 split at h1
 ·split at h1
  ·rename_i da db _ xd bx _ yd ea eb
   obtain⟨v,w,rfl,rv,rw⟩:=r1.two
   obtain⟨l1,xs,rfl,k1,t1⟩:=aog rv ea
   obtain⟨l2,ys,rfl,k2,t2⟩:=aog rw eb
   refine⟨l1,l2,xs,ys,_,_,rfl,k1 as1 H1 (Step.refl _ _).toStep0,k2 as1 H1 (Step.refl _ _).toStep0,Dn.now (Q:=Q) h1 rl1 ?_⟩
   intro as2 H2 s2 st2 rl2 _ i
   have sq1:=k1 as2 H2 st2
   have sq2:=k2 as2 H2 st2
   have u1:=t1.mono0 st2
   have u2:=t2.mono0 st2
   refine⟨fun hl=> ⟨xs,ys,sq1,sq2,?_⟩,fun d hd=> ?_⟩
   ·simp only [au,List.length_zip]at hl
    rw [u1.length,u2.length]
    lia
   ·rw [a9]at hd
    cases q:(List.zip _ _)[i]? with
    |none=> rw [q]at hd;cases hd
    |some pr=>
     rw [q]at hd
     cases hd
     rw [List.getElem?_zip_eq_some]at q
     obtain⟨x,hx,rx⟩:=u1.get q.1
     obtain⟨y,hy,ry⟩:=u2.get q.2
     refine⟨⟨xs,ys,x,y,sq1,sq2,hx,hy⟩,fun vv H3 hv=> ?_⟩
     obtain⟨T,rfl,hT⟩:=hv
     obtain⟨x',y',hx',hy',nw⟩:=hT xs ys sq1 sq2
     rw [hx]at hx';cases hx'
     rw [hy]at hy';cases hy'
     exact⟨kr nw,rl2.new nw,.da (.tup (fun z=> rl2.has z nw.no) nw.at (.cons (rx.mono (kr nw)) (.cons (ry.mono (kr nw)) .nil)))⟩
  ·exact h1.elim
 ·exact h1.elim
theorem u70(hr:Room k A):A.units+70 < cLine:=by have:=hr.un;lia
section
variable{s:S}{m:Bool}{n:Nat}{x y:Str}{b:Bool}{xs ys:List aa}{ds es:List D}{d e v o:D}{ρ:En}{kvs:List (aa×D)}{k:aa}
theorem bbl{f:FA}:arp f ρ s=(f ρ s).bind alb:=(rfl)
theorem a9i:alb [.tup xs,.tup ys] s=.ok ((xs.zip ys).map fun p=> D.tup [p.1,p.2],none) s:=(rfl)
theorem aej(h1:xs.length < 64)(h2:vi xs=true)(h3:xs.all okD=true):zt false [.lst xs] s=.ok (.lst (ql xs)) s:=by
 show (match (some (xs.map D.da)).bind kg with|some xs=> if xs.length < 64/\vi xs=true/\xs.all okD=true then qy false ((ql xs).map D.da) s else .bad|none=>.bad)=_
 show (match kg (xs.map D.da) with|some xs=> if xs.length < 64/\vi xs=true/\xs.all okD=true then qy false ((ql xs).map D.da) s else .bad|none=>.bad)=_
 rw [va]
 show (if xs.length < 64/\vi xs=true/\xs.all okD=true then qy false ((ql xs).map D.da) s else .bad)=_
 rw [if_pos ⟨h1,h2,h3⟩]
 exact amn
theorem arf(h:s[n]?=some (.lst (xs.map D.da)))(h1:xs.length < 64)(h2:vi xs=true)(h3:xs.all okD=true):zt false [.ref n] s=.ok (.lst (ql xs)) s:=by
 show (match (match s[n]? with|some (O.lst ds)=> some ds|_=> none).bind kg with|some xs=> if xs.length < 64/\vi xs=true/\xs.all okD=true then qy false ((ql xs).map D.da) s else .bad|none=>.bad)=_
 rw [h]
 show (match kg (xs.map D.da) with|some xs=> if xs.length < 64/\vi xs=true/\xs.all okD=true then qy false ((ql xs).map D.da) s else .bad|none=>.bad)=_
 rw [va]
 show (if xs.length < 64/\vi xs=true/\xs.all okD=true then qy false ((ql xs).map D.da) s else .bad)=_
 rw [if_pos ⟨h1,h2,h3⟩]
 exact amn
theorem ajz(h:s[n]?=some (.lst (xs.map D.da))):y3 [.ref n] s=.ok (.tup xs) s:=by
 show (match (match s[n]? with|some (O.lst ds)=> some ds|_=> none) with|some xs=> aht xs s|none=>.bad)=_
 rw [h]
 show (match kg (xs.map D.da) with|some xs=> R.ok (D.tup xs) s|none=>.bad)=_
 rw [va]
theorem a4t(h:s[n]?=some (.lst ds)):aeq (.ref n) s=.ok (ds,some n) s:=by
 show (match s[n]? with|some (O.lst ds)=> R.ok (ds,some n) s|_=>.bad)=_
 rw [h]
theorem aow(h:s[n]?=some (.lst (xs.map D.da))):toP s (.ref n)=some (.list xs):=by
 show (match s[n]? with|some (O.lst ds)=> (kg ds).map fB|_=> none)=_
 rw [h]
 show (kg (xs.map D.da)).map fB=_
 rw [va];rfl
end
def a4w(m:Bool)(js:List Nat)(k:Nat)(g:Tg)(ft:FT)(fi2:FI)(g2:Tg)(ft2:FT)(fe:FE)(ρ:En)(p:Wk)(s:S):R D:=chk p s ((qr g g2 ft fi2 ft2 fe (bH k none++adu ρ js) p p.1 s).bind (yy m))
theorem bcs{m:Bool}{fi2:FI}{g2:Tg}{ft2:FT}:ar5 m js k fi g ft fi2 g2 ft2 fe ρ s=(fi ρ s).bind (a4w m js k g ft fi2 g2 ft2 fe ρ):=(rfl)
theorem a3v{m:Bool}{fi2:FI}{g2:Tg}{ft2:FT}{ds:List D}(e:bH k none++adu ρ js=ρ0):a4w m js k g ft fi2 g2 ft2 fe ρ (ds,none) s=(qr g g2 ft fi2 ft2 fe ρ0 (ds,none) ds s).bind (yy m):=by
 subst e;exact yo
theorem az2(h:xs.length <=16777216):yy false (xs.map D.da) s=.ok (.lst xs) s:=by
 unfold yy
 rw [if_pos (by rw [ki,au];exact h)]
 exact amn
theorem vj{g:Tg}{ft:FT}{fe:FE}{ρ0:En}{all:List D}{s:S}{α:Type}(c:α -> D)(p:α -> Bool)(f:α -> aa): ∀(l:List α),(∀a∈l,∃ρ1,qu g (c a) ρ0=some ρ1/\ft ρ1 s=.ok (p a) s/\(p a=true -> fe ρ1 s=.ok (.da (f a)) s)) ->
  kl g ft fe ρ0 (all,none) (l.map c) s=.ok (((l.filter p).map f).map D.da) s
 |[],_=> rfl
 | a::r,h=> by
  obtain⟨ρ1,e,e1,e2⟩:=h a ax
  have ih:=vj (all:=all) c p f r fun b hb=> h b (az _ hb)
  rw [aN,adb e,e1,R.bind_ok]
  cases hp:p a with
  |false=>
   rw [ana,ih,eF (by simp [hp])]
  |true=>
   rw [aie,e2 hp,R.bind_ok,anr,ih,R.bind_ok,aji,eG hp]
   rfl
end PF
namespace L2
open PySem PySem.Spec PySem.SeqAt --
theorem agy(b:Str)(u:Tok)(l:Addr)(es:Array gI)(n:Nat)(dd:Option Addr)(sl:Array (Option af)):
  Meets (d9.«str.__eq__» ⟨[.str b u,.ref l],[]⟩) (fun _ R s=> s.heap.get? l=some {cls:=.type "dict",dict:=dd,data:=.dict es n,slots:=sl}/\R (.ok (.ret .notImplemented)) s):=
 .of_wp fun prog w A R s h=> by obtain⟨hp,g,d,tk,os⟩:=s;obtain⟨hl,h⟩:=h;wp_walk using eK hl,wpAny_load hl;exact⟨_,rfl,h⟩ --
theorem ah1(b:Str)(u:Tok)(l:Addr)(es:Array gI)(n:Nat)(dd:Option Addr)(sl:Array (Option af)):
  Meets (d9.«dict.__eq__» ⟨[.ref l,.str b u],[]⟩) (fun _ R s=> s.heap.get? l=some {cls:=.type "dict",dict:=dd,data:=.dict es n,slots:=sl}/\R (.ok (.ret .notImplemented)) s):=
 .of_wp fun prog w A R s h=> by obtain⟨hp,g,d,tk,os⟩:=s;obtain⟨hl,h⟩:=h;wp_walk using eK hl,wpAny_load hl;refine jP F.sub_str_dict ?_;wp_walk;exact⟨_,rfl,h⟩
section
variable{A:bm}{s:ak} --
theorem ao9{es:Array gI}(b:Str)(u:Tok)(ho:s.heap.get? l=some o)(hc:o.cls=.type "dict")(hd:o.data=.dict es n)(hu:A.units < cLine):RcAt A s (.str b u) (.ref l) false:=fun prog w E Q h=> by
 obtain⟨cls,dd,data,sl⟩:=o
 simp only at hc hd
 subst hc hd
 exact rc_eq_decline_or (k:=false) (f7 s b u) ⟨_,ho,rfl⟩ (by decide) F.sub_dict_str F.slot_str_eq lz
  (fun _ hq=> fh F.slot_str_eq (f7 s b u) F.entry_str_eq (F.args_str_eq_2 _ _) (agy b u l es n dd sl) ⟨ho,hq⟩)
  (fun _ hq=> fh lz ⟨_,ho,rfl⟩ F.entry_dict_eq (F.args_dict_eq_2 _ _) (ah1 b u l es n dd sl) ⟨ho,hq⟩)
  (fun _ hq=> jP (rfl:isSame (.str b u) (.ref l)=pure false) hq) (.inr hu) h --
theorem ao1{es:Array gI}(b:Str)(u:Tok)(ho:s.heap.get? l=some o)(hc:o.cls=.type "dict")(hd:o.data=.dict es n)(hu:A.units < cLine):EqAt A s (.str b u) (.ref l) false:=fun prog w E Q h=> by
 unfold eqBool
 refine bB ?_
 (refine wpAny_ite_split (fun hab=> absurd (eq_of_beq hab) nofun) (fun _=> ?_))
 exact ae (ao9 b u ho hc hd hu prog w E _ (ck h))
end
end L2
namespace PF
open PySem PySem.Spec
open L2
section
variable{X:Cx}{pins:List (Addr×Obj)}{σ:St}{H:Hp}{s:ak}{as:As}
noncomputable def aqv:FE:=fun _ s=>.ok (.da (.dict [])) s
theorem a9f:RE X (.Dict [] [] pos) aqv:=⟨_,awm,fun as σ H ρ s Q rl en h=> fun p hp=>
 h (.ref p) as (upd H p (.dK [])) (kr ⟨hp,rfl⟩) (rl.new ⟨hp,rfl⟩) (.da (.dct (fun z=> rl.has z hp) aak))⟩
mutual
theorem TD.repr(I:Inv X pins σ H s): ∀{v:V} {d:aa} {u:af},TD as H v d -> RelV v u -> d.showable=true -> d.shown.length <=sizeLine -> ∃bs,ReadAtMost s.heap d.depth bs/\ReprK X.prog X.w bs s.heap d.depth u d.shown
 |_,_,u,.non,r,_,_=> by
  cases (show u=bu from r)
  exact⟨[],(fun _ h=> nomatch h),by simp only [cj];exact .of_is ReprIs.none _ _ _⟩
 |_,_,u,.bl b,r,_,_=> by
  cases (show u=dD b from r)
  exact⟨[],(fun _ h=> nomatch h),by simp only [cj];exact .of_is (ReprIs.bool b) _ _ _⟩
 |_,_,u,.int i,r,hs,_=> by
  obtain⟨t,e⟩:=(show∃t,u=fG i t from r)
  subst e
  exact⟨[],(fun _ h=> nomatch h),by simp only [cj];exact .of_is (ReprIs.int t (by simpa [cY] using hs)) _ _ _⟩
 |_,_,u,.str x,r,_,hz=> by
  obtain⟨t,e⟩:=(show∃t,u=fH x t from r)
  subst e
  exact⟨[],(fun _ h=> nomatch h),by simp only [cj];exact .of_is (ReprIs.str x t (by simpa only [cj] using hz)) _ _ _⟩
 |_,_,u,.tup (p:=a) (xs:=xs) (ds:=ds) n e q,r,hs,hz=> by
  obtain⟨cs,rd⟩:=TD.reads I (.tup n e q) r
  cases (show u=bJ a from r)
  obtain⟨z,its,rv,p⟩:=(show j6 X.prog X.w H s.heap a (.tup xs) from I.hok a _ e)
  obtain⟨o,h1,h2,k,h3⟩:=p.tup
  have hz2:(tupleText (cr ds)).length <=sizeLine:=by simpa only [cj] using hz
  obtain⟨bs,hb,hk⟩:=TDs.repr I q rv (by simpa [cY] using hs) (fun t ht=> aJ (tupleText_mem_le ht) hz2)
  have hna:a∉bs:=gk rd (by simp only [aA];lia) hb
  refine⟨a::bs,jG rd (by simp only [aA];lia) hb,?_⟩
  (simp only [aA,cj])
  exact ReprK.tuple h1 h2 h3 hna (by simpa using hk)
 | _,_,u,.lst (p:=a) (xs:=xs) (ds:=ds) n e q,r,hs,hz=> by
  obtain⟨cs,rd⟩:=TD.reads I (.lst n e q) r
  cases (show u=bJ a from r)
  obtain⟨z,its,k,rv,h1⟩:=(show j6 X.prog X.w H s.heap a (.lst xs) from I.hok a _ e)
  have hz2:(listText (cr ds)).length <=sizeLine:=by simpa only [cj] using hz
  obtain⟨bs,hb,hk⟩:=TDs.repr I q rv (by simpa [cY] using hs) (fun t ht=> aJ (listText_mem_le ht) hz2)
  have hna:a∉bs:=gk rd (by simp only [aA];lia) hb
  refine⟨a::bs,jG rd (by simp only [aA];lia) hb,?_⟩
  (simp only [aA,cj])
  cases its with
  |nil=>
   cases rv
   cases q
   (simp only [cr,listText_nil])
   exact ReprK.listEmpty h1 rfl rfl
  |cons x l=> exact ReprK.list h1 rfl rfl hna (by simpa using hk.length_eq) (fun i y ey=> hk.item i y (by simpa using ey))
 |_,_,u,.dct (p:=a) n e,r,hs,hz=> by
  obtain⟨cs,rd⟩:=TD.reads I (.dct n e) r
  cases (show u=bJ a from r)
  obtain⟨hsys,o,es,ep,h1,h2,h3,h4⟩:=ac6 I e
  refine⟨[a],jG (n:=0) rd (bX _) (fun _ h=> nomatch h),?_⟩
  (simp only [aA,cj,PyData.shownKv_eq])
  refine ReprK.dict (as:=[]) h1 h2 h3 hsys (by simp) (lA es.toList _ _ ?_ ?_)
  ·rw [h4];exact .nil
  ·rw [h4];exact .nil
theorem TDs.repr(I:Inv X pins σ H s): ∀{vs:List V} {ds:List aa} {us:List af},TDs as H vs ds -> jn vs us -> eL ds=true -> (∀t∈cr ds,t.length <=sizeLine) -> ∃bs,ReadAtMost s.heap (ar ds) bs/\ReprAllK X.prog X.w bs s.heap (ar ds) us (cr ds)
 |_,_,_,.nil,r,_,_=> by
  cases r
  exact⟨[],(fun _ h=> nomatch h),by simp only [cr];exact .nil⟩
 | _,_,_,.cons (d:=d) (ds:=ds) a b,r,hs,hz=> by
  cases r with
  |cons r1 r2=>
   have hs2:d.showable=true/\eL ds=true:=by simpa [eL] using hs
   obtain⟨b1,hb1,k1⟩:=TD.repr I a r1 hs2.1 (hz _ (by simp only [cr];exact ax ..))
   obtain⟨b2,hb2,k2⟩:=TDs.repr I b r2 hs2.2 (fun t ht=> hz t (by simp only [cr];exact az _ ht))
   refine⟨b1++b2,(hb1.mono (by simp only [ar];exact jH _ _)).append (hb2.mono (by simp only [ar];exact i3 _ _)),?_⟩
   simp only [ar,cr]
   (exact .cons ((k1.more fun b hb=> ff _ hb).level_le (jH _ _)) (k2.more_le (fun b hb=> bf _ hb) (i3 _ _)))
end
noncomputable def okE(d:aa):Bool:=d.showable&&decide (d.depth <=64)&&decide (d.shown.length <=sizeLine)
def xz(ds:List D)(s:S):R D:=match ds with
 |[.da a]=> if okE a=true then .ok (.str a.shown) s else .bad
 |_=>.bad
theorem a1d(hr:Room k X.A):CB X (.builtin "repr") xz:=adg fun pins sh σ H as s xs ds us Q I rl rs ru h=> by
 unfold xz at h
 split at h
 ·rename_i a
  obtain⟨v,rfl,rv⟩:=rs.one
  obtain⟨u,rfl,ru1⟩:=vals1 ru
  split at h
  ·rename_i ok
   unfold okE at ok
   (simp only [am,decide_eq_true_eq]at ok)
   obtain⟨⟨ok2,ok3⟩,ok4⟩:=ok
   have hun:=hr.un
   have fin:Q (.str a.shown) H:=Dn.now (Q:=Q) h rl (.da (.str _))
   cases rv with
   | da t=>
    obtain⟨cs,rd⟩:=TD.reads I t ru1
    cases t with
    |non=> cases (show u=bu from ru1);exact PySem.P.repr_of_none ⟨.str "None",H,I.tok _,⟨_,rfl⟩,fin⟩
    |bl b=> cases (show u=dD b from ru1);exact PySem.P.repr_of_bool ⟨.str (if b then "True" else "False"),H,I.tok _,⟨_,rfl⟩,fin⟩
    |int i=> obtain⟨t,e⟩:=(show∃t,u=fG i t from ru1);subst e;exact PySem.P.repr_of_int (by simpa [cY] using ok2) ⟨.str (toString i),H,I.tok _,⟨_,rfl⟩,fin⟩
    |str x=> obtain⟨t,e⟩:=(show∃t,u=fH x t from ru1);subst e;exact PySem.P.repr_of_str ⟨.str (reprText x),H,I.tok _,⟨_,rfl⟩,fin⟩ (by simpa [cj] using ok4)
    | @tup p xs ds n e q=>
     cases (show u=bJ p from ru1)
     obtain⟨z,its,rw,pp⟩:=(show j6 X.prog X.w H sh.heap p (.tup xs) from I.hok p _ e)
     obtain⟨o,h1,h2,k,h3⟩:=pp.tup
     have hz2:(tupleText (cr ds)).length <=sizeLine:=by simpa only [cj] using ok4
     obtain⟨bs,hb,hk⟩:=TDs.repr I q rw (by simpa [cY] using ok2) (fun t ht=> aJ (tupleText_mem_le ht) hz2)
     have hna:p∉bs:=gk rd (by simp only [aA];lia) hb
     simp only [aA]at ok3
     simp only [cj]at fin
     refine kD (by lia) ⟨o,h1,h2⟩ F.slot_tuple_repr (call_tuple_reprK h1 h2 h3 hna (by simpa using hk) hr.gd (fun b _=> Clear.nil b) (by show X.A.units+1+_ < cLine;lia) (fun _ _ e=> e) (fun h' u tk hk=> ⟨_,_,rfl,.str _,H,I.kept hk,⟨u,rfl⟩,fin⟩) hz2)
    | @lst p xs ds n e q=>
     cases (show u=bJ p from ru1)
     obtain⟨z,its,k,rw,h1⟩:=(show j6 X.prog X.w H sh.heap p (.lst xs) from I.hok p _ e)
     have hz2:(listText (cr ds)).length <=sizeLine:=by simpa only [cj] using ok4
     obtain⟨bs,hb,hk⟩:=TDs.repr I q rw (by simpa [cY] using ok2) (fun t ht=> aJ (listText_mem_le ht) hz2)
     have hna:p∉bs:=gk rd (by simp only [aA];lia) hb
     simp only [aA]at ok3
     simp only [cj]at fin
     refine kD (by lia) ⟨_,h1,rfl⟩ F.slot_list_repr.toG ?_
     cases its with
     |nil=>
      cases rw
      cases q
      simp only [cr,listText_nil]at fin
      exact call_list_repr_empty ⟨_,h1,rfl⟩ h1 rfl ⟨_,_,rfl,.str _,H,I.tok _,⟨_,rfl⟩,fin⟩
     |cons x l=> exact call_list_reprK h1 rfl rfl hna (by simpa using hk.length_eq) (fun i y ey=> hk.item i y (by simpa using ey)) hr.gd (fun b _=> Clear.nil b) (by show X.A.units+1+_ < cLine;lia) (fun _ _ e=> e) (fun h' u tk hk=> ⟨_,_,rfl,.str _,H,I.kept hk,⟨u,rfl⟩,fin⟩) hz2
    | @dct p n e=>
     cases (show u=bJ p from ru1)
     obtain⟨hsys,o,es,ep,h1,h2,h3,h4⟩:=ac6 I e
     simp only [cj,PyData.shownKv_eq]at fin
     refine kD (by lia) ⟨o,h1,h2⟩ F.slot_dict_repr (call_dict_reprK (as:=[]) (d:=0) h1 h2 h3 hsys (by simp) (lA es.toList [] [] (by rw [h4];exact .nil) (by rw [h4];exact .nil)) hr.gd (fun b _=> Clear.nil b) (by show X.A.units+1+_ < cLine;lia) (fun _ _ e=> e) (fun h' u tk hk=> ⟨_,_,rfl,.str _,H,I.kept hk,⟨u,rfl⟩,fin⟩) (by decide+kernel))
  ·exact h.elim
 ·exact h.elim
noncomputable def asb:List aa -> Bool
 |[]=> true
 |.str _::r=> asb r
 |_=> false
noncomputable def aa5:aa -> Bool
 |.str _=> true
 |_=> false
theorem TD.noStr(I:Inv X pins σ H sh)(hu:A.units < cLine){u:af}(t:TD as H v d)(r:RelV v u)(h:aa5 d=false)(b:Str)(tk:Tok):cS A sh (.str b tk) u false:=by
 cases t with
 |non=> cases (show u=bu from r);exact cS.str_none b tk
 |bl c=> cases (show u=dD c from r);exact cS.str_bool b tk c
 |int i=> obtain⟨t,e⟩:=(show∃t,u=fG i t from r);subst e;exact cS.str_int b tk i t
 |str x=> cases h
 | @tup p xs ds n e q=>
  cases (show u=bJ p from r)
  obtain⟨z,its,rv,pp⟩:=(show j6 X.prog X.w H sh.heap p (.tup xs) from I.hok p _ e)
  exact cS.str_tuple b tk pp.tup hu
 | @lst p xs ds n e q=>
  cases (show u=bJ p from r)
  obtain⟨z,its,k,rv,h1⟩:=(show j6 X.prog X.w H sh.heap p (.lst xs) from I.hok p _ e)
  exact cS.str_list (items:=its.toArray) b tk ⟨_,h1,rfl,k,rfl⟩ hu
 | @dct p n e=>
  cases (show u=bJ p from r)
  obtain⟨hsys,o,es,ep,h1,h2,h3,h4⟩:=ac6 I e
  exact ao1 b tk h1 h2 h3 hu
theorem aso{sh:ak}{A:bm}{v:af}(hv: ∀b tk,cS A sh (.str b tk) v false): ∀{us:List af} {ds:List aa} {cs:List Addr},cc sh.heap us ds cs -> asb ds=true -> ∀y∈us,cS A sh y v false
 |_,_,_,.nil,_,y,hy=> by cases hy
 | _,_,_,.cons (d:=d) r rs,h,y,hy=> by
  cases r with
  |str x t=>
   rcases ay.mp hy with z|z
   ·subst z;exact hv x t
   ·exact aso hv rs h y z
  |_=> simp [asb]at h
end
end PF
namespace L2
open PySem PySem.Spec PyProof.Rows
section
variable{X:Cx}{o e:Expr}{es:List Expr}{to:TE}{t:TA}{name:Str}{id:String}{r:V -> List V -> Hp -> VK -> Prop}{apos cpos:Pos}
noncomputable def a8c(r:V -> List V -> Hp -> VK -> Prop)(to:TE)(t:TA):TE:=fun σ H Q=> to σ H fun x H1=> (∃p xs,x=.ref p/\H1 p=some (.tup xs))/\t σ H1 fun vs H2=> r x vs H2 Q
theorem a2v(slot:Slot "tuple" name id)(hty:typeOf (.builtin id)=pure (.type "method_descriptor"))(hm:MtR X id r)(ho:PE X o to)(ha:PA X (e::es) t)
  (hbase:fx o name X.env (eval o X.env)=eval o X.env:=by rfl)
  (hfew:((backTo cpos (starEach (e::es) X.env)).all (fun x=> !x.1)&&(backToKw cpos (jM [] X.env)).all (fun x=> x.1.isSome)
   &&decide ((e::es).length+([]:List hV).length+(if ([]:List hV).isEmpty then 0 else 1) < 30))=true:=by rfl)
  (hline:(apos.endLine==cpos.line)=true:=by rfl) (hs:starEach (e::es) X.env=(false,eval e X.env)::starEach es X.env:=by rfl) (hplain:(backTo cpos (starEach es X.env)).any (·.1)=false:=by rfl):
  PE X (.Call (.Attribute o name apos) (e::es) [] cpos) (a8c r to t):=by
 refine⟨?_⟩;intro pins s σ H Q I h
 refine jN hbase hfew hline rfl (thn (ho pins s σ H _ I h) fun v s1 ⟨x,H1,I1,r1,⟨p,xs,ex,ep⟩,q1⟩=> ?_)
 subst ex
 obtain rfl:v=bJ p:=r1
 obtain⟨_,its,rv,n,hx⟩:=(show j6 X.prog X.w H1 s1.heap p (.tup xs) from I1.hok p _ ep)
 refine⟨"tuple",id,PySem.F.plainAttrs_tuple,slot,hty,⟨_,hx,rfl⟩,(fun a ea=> by cases ea;exact⟨_,hx,rfl⟩),?_⟩
 have hA:=ha cpos pins s1 σ H1 _ I1 q1
 rw [hs]at hA⊢
 refine gn (by show (false||(backTo cpos (starEach es X.env)).any (·.1))=false;rw [hplain] <;> rfl) (kI ?_)
 exact thn hA fun us s2 ⟨vs,H2,I2,r2,q2⟩=> hm pins s2 σ H2 (.ref p) vs (.ref p) us Q I2 rfl r2 q2
end
end L2
namespace PF
open PySem PySem.Spec
open L2
noncomputable def a5o:D -> Bool
 |.da (.tuple _)=> true
 |_=> false
def aq5(g:GM)(fo:FE)(fa:FA):FE:=fun ρ s=> (fo ρ s).bind fun d s1=> if a5o d=true then (fa ρ s1).bind fun ds s2=> g d ds s2 else .bad
theorem a24{o:Expr}{fa:FA}{id:String}{g:GM}{apos cpos:Pos}(slot:Slot "tuple" name id)(hty:typeOf (.builtin id)=pure (.type "method_descriptor"))(hm:MB X id g)(ho:RE X o fo)(ha:RA X (e::es) fa)(hbase:fx o name X.env (eval o X.env)=eval o X.env:=by rfl)(hfew:((backTo cpos (starEach (e::es) X.env)).all (fun x=> !x.1)&&(backToKw cpos (jM [] X.env)).all (fun x=> x.1.isSome)
   &&decide ((e::es).length+([]:List hV).length+(if ([]:List hV).isEmpty then 0 else 1) < 30))=true:=by rfl) (hline:(apos.endLine==cpos.line)=true:=by rfl) (hs:starEach (e::es) X.env=(false,eval e X.env)::starEach es X.env:=by rfl) (hplain:(backTo cpos (starEach es X.env)).any (·.1)=false:=by rfl):
  RE X (.Call (.Attribute o name apos) (e::es) [] cpos) (aq5 g fo fa):=by
 obtain⟨r,hr,hg⟩:=hm.ex
 obtain⟨to,po,ro⟩:=ho.ex
 obtain⟨ta,pa,ra⟩:=ha.ex
 refine⟨_,a2v slot hty hr po pa hbase hfew hline hs hplain,fun as σ H ρ s Q rl en h=> ?_⟩
 refine ro as σ H ρ s _ rl en (Dn.bind h fun d s1 as1 H1 v st1 rl1 r1 h1=> ?_)
 split at h1
 ·rename_i hl
  have tp: ∃p xs,v=.ref p/\H1 p=some (.tup xs):=by
   cases r1 with
   |da t=>
    cases t with
    |tup n e q=> exact⟨_,_,rfl,e⟩
    |_=> cases hl
   |_=> cases hl
  refine⟨tp,ra as1 σ H1 ρ s1 _ rl1 (en.mono st1) (Dn.bind h1 fun ds s2 as2 H2 vs st2 rl2 r2 h2=> ?_)⟩
  exact hg as2 H2 s2 v vs d ds Q rl2 (r1.mono st2) r2 h2
 ·exact h1.elim
theorem u66(hr:Room k X.A):X.A.units+66 < cLine:=by have:=u70 hr;lia
def acw:GM:=fun d ds s=> match d,ds with
 |.da (.tuple xs),[.da a]=> if okD a=true/\xs.all okD=true then .ok (.int (xs.countP fun d=> aE d a:Nat)) s else .bad
 |_,_=>.bad
open Classical in
theorem asv{v:af}{bs:List Addr}(ra:cq sh.heap v a bs)(ha:okD a=true)(hu:A.units+64 < cLine){cs:List Addr}(h:cc sh.heap us ds cs)(hd:ds.all okD=true):
  ∃e:af -> Bool,(∀y∈us,cS A sh y v (e y))/\us.countP e=ds.countP fun d=> aE d a:=by
 refine⟨fun y=> decide (∃d cs,cq sh.heap y d cs/\aE d a=true),?_⟩
 have one: ∀{y:af} {d:aa} {cs:List Addr},cq sh.heap y d cs -> decide (∃d cs,cq sh.heap y d cs/\aE d a=true)=aE d a:=fun {y d cs} r=> by
  (rw [bi,decide_eq_true_eq])
  constructor
  ·rintro⟨d',cs',r',e⟩
   obtain⟨q,_⟩:=jR (fun _ _ e _=> e) r r'
   subst q;exact e
  ·exact fun e=> ⟨d,cs,r,e⟩
 induction us generalizing ds cs with
 |nil=>
  cases h
  exact⟨fun _ z=> (by cases z),rfl⟩
 | cons u us ih=>
  cases h with
  | cons r rs=>
   rw [cb,am]at hd
   obtain⟨i1,i2⟩:=ih rs hd.2
   obtain⟨l1,m1⟩:=xu hd.1
   obtain⟨l2,m2⟩:=xu ha
   refine⟨fun y hy=> ?_,?_⟩
   ·rcases ay.mp hy with z|z
    ·subst z
     show cS A sh y v (decide (∃d cs,cq sh.heap y d cs/\aE d a=true))
     rw [one r]
     exact SeqAt.eqAt_reads _ _ A sh _ _ _ _ r ra l1 l2 (by lia)
    ·exact i1 y z
   ·rw [List.countP_cons,List.countP_cons,i2,one r]
theorem a0t(hu:X.A.units+66 < cLine):MB X "tuple.count" acw:=aqq fun pins sh σ H as s x xs d ds v us Q I rl r1 r2 rv rs h=> by
 unfold acw at h
 split at h
 ·rename_i zs a
  split at h
  ·rename_i hok
   obtain⟨y,rfl,ry⟩:=r2.one
   obtain⟨u,rfl,ru⟩:=vals1 rs
   cases r1 with
   | da t1=>
    cases ry with
    | da t2=>
     obtain⟨bs2,q2⟩:=TD.reads I t2 ru
     cases t1 with
     | @tup p ws _ n e q=>
      cases (show v=bJ p from rv)
      obtain⟨z,its,rw,m,hx⟩:=(show j6 X.prog X.w H sh.heap p (.tup ws) from I.hok p _ e)
      obtain⟨bs1,q1⟩:=TDs.reads I q rw
      have hin:=yn X.A
      have hin2:=yn X.A.in1
      obtain⟨f,hf,hc⟩:=asv (A:=X.A.in1) q2 hok.1 (by lia) q1 hok.2
      refine fh F.slot_tuple_count ⟨_,hx,rfl⟩ F.entry_tuple_count (F.args_tuple_count_2 _ _) (SeqAt.tuple_countAt p its.toArray m none #[] u f) ⟨hx,fun y hy=> hf y (by simpa using hy),?_⟩
      refine⟨.int _,H,I.tok _,⟨_,rfl⟩,?_⟩
      rw [show its.toArray.toList=its by simp,hc]
      exact Dn.now (Q:=Q) h rl (.da (.int _))
  ·exact h.elim
 ·exact h.elim
end PF
namespace ST
open PySem PySem.SetTable
noncomputable def it(m:Nat):Nat -> Nat -> Nat
 |0,i=> i
 |r+1,i=> it m r ((i*5+1) % (m+1))
theorem anv(m a b i:Nat):it m (a+b) i=it m b (it m a i):=by
 induction a generalizing i with
 |zero=> rw [i4];rfl
 |succ a ih=> rw [show a+1+b=(a+b)+1 by lia];exact ih _
noncomputable def ard(m:Nat):Nat -> Nat -> List Nat
 |0,_=> []
 |n+1,i=> i::ard m n ((i*5+1) % (m+1))
theorem afp{m:Nat}: ∀{n i j:Nat},j∈ard m n i -> ∃r,r < n/\it m r i=j
 |0,_,_,h=> by cases h
 | n+1,i,j,h=> by
  (rcases ay.mp h with rfl|h)
  ·exact⟨0,by lia,rfl⟩
  ·obtain⟨r,hr,e⟩:=afp h
   exact⟨r+1,by lia,e⟩
def cyc(m:Nat):Bool:=((aZ (m+1)).all fun j=> (ard m (m+1) 0).contains j)&&(it m (m+1) 0==0)
theorem reach{m:Nat}(hc:cyc m=true)(hi:i <=m)(hj:j <=m): ∃r,r <=m/\it m r i=j:=by
 unfold cyc at hc
 simp only [am,ao,bD,List.contains_iff_mem,beq_iff_eq]at hc
 obtain⟨a,ha,ea⟩:=afp (hc.1 i (by lia))
 obtain⟨b,hb,eb⟩:=afp (hc.1 j (by lia))
 by_cases h:a <=b
 ·refine⟨b - a,by lia,?_⟩
  rw [←ea,←anv,show a+(b - a)=b by lia,eb]
 ·refine⟨b+(m+1) - a,by lia,?_⟩
  rw [←ea,←anv,show a+(b+(m+1) - a)=(m+1)+b by lia,anv,hc.2,eb]
theorem cyc7:cyc 7=true:=by decide+kernel
theorem cyc31:cyc 31=true:=by decide+kernel
theorem cyc127:cyc 127=true:=by decide+kernel
noncomputable def lp(m:Nat):Nat -> Nat×Nat -> Nat×Nat
 |0,p=> p
 |n+1,p=> lp m n (leap m p.1 p.2)
theorem aut(m a b:Nat)(p:Nat×Nat):lp m (a+b) p=lp m b (lp m a p):=by
 induction a generalizing p with
 |zero=> rw [i4];rfl
 |succ a ih=> rw [show a+1+b=(a+b)+1 by lia];exact ih _
theorem ap6(m n:Nat)(p:Nat×Nat):lp m (n+1) p=leap m (lp m n p).1 (lp m n p).2:=by rw [aut];rfl
theorem apm(m:Nat): ∀(n:Nat) (p:Nat×Nat),(lp m n p).2=p.2/32^n
 |0,p=> by simp [lp]
 |n+1,p=> by
  rw [ap6]
  show (lp m n p).2/32=_
  rw [apm m n p,Nat.div_div_eq_div_mul,Nat.pow_succ]
theorem a7h(m n:Nat)(p:Nat×Nat)(h:p.1 <=m):(lp m n p).1 <=m:=by
 cases n with
 |zero=> exact h
 |succ n=>
  rw [ap6]
  show _ % (m+1) <=m
  have:=gT ((lp m n p).1*5+1+(lp m n p).2/32) (show 0 < m+1 by lia)
  lia
theorem ayj(m:Nat): ∀(n i:Nat),lp m n (i,0)=(it m n i,0)
 |0,_=> rfl
 |n+1,i=> by
  show lp m n ((i*5+1+0/32) % (m+1),0/32)=_
  rw [Nat.zero_div,Nat.add_zero,ayj m n]
  rfl
theorem anw{m p:Nat}(hc:cyc m=true)(hi:i <=m)(hp:p < 2^64)(hj:j <=m): ∃n,n <=13+m/\(lp m n (i,p)).1=j:=by
 have h13:lp m 13 (i,p)=((lp m 13 (i,p)).1,0):=by
  have:=apm m 13 (i,p)
  rw [Nat.div_eq_of_lt (aW hp (by decide))]at this
  exact Prod.ext rfl this
 obtain⟨r,hr,e⟩:=reach hc (a7h m 13 (i,p) hi) hj
 refine⟨13+r,by lia,?_⟩
 rw [aut,h13,ayj,e]
noncomputable def adv(t:bt):Nat -> Probe -> Probe
 |0,p=> p
 |n+1,p=> adv t n (t.advance p)
theorem acq(t:bt)(a b:Nat)(p:Probe):adv t (a+b) p=adv t b (adv t a p):=by
 induction a generalizing p with
 |zero=> rw [i4];rfl
 |succ a ih=> rw [show a+1+b=(a+b)+1 by lia];exact ih _
theorem abi(t:bt)(n:Nat)(p:Probe):adv t (n+1) p=t.advance (adv t n p):=by rw [acq];rfl
theorem aiy(t:bt): ∀(n:Nat) (p:Probe),n <=p.more -> adv t n p={p with j:=p.j+n,more:=p.more - n}
 |0,p,_=> rfl
 |n+1,p,h=> by
  rw [abi,aiy t n p (by lia)]
  unfold advance
  rw [if_pos (show p.more - n > 0 by lia)]
  simp only [Probe.mk.injEq,and_true,true_and]
  lia
noncomputable def blk(m:Nat)(p:Nat×Nat):Probe:={j:=p.1,more:=runEnd m p.1 - p.1,i:=p.1,perturb:=p.2,dummy:=none}
theorem a7l(m i:Nat):runEnd m i - i <=9:=by unfold runEnd;split <;> lia
theorem am2(t:bt)(p:Nat×Nat):adv t (runEnd t.mask p.1 - p.1+1) (blk t.mask p)=blk t.mask (leap t.mask p.1 p.2):=by
 rw [abi,aiy t (runEnd t.mask p.1 - p.1) (blk t.mask p) (aD _)]
 unfold advance
 rw [if_neg (by simp [blk])]
 rfl
theorem atp(t:bt): ∀(n:Nat) (p:Nat×Nat),∃k,k <=10*n/\adv t k (blk t.mask p)=blk t.mask (lp t.mask n p)
 |0,p=> ⟨0,by lia,rfl⟩
 |n+1,p=> by
  obtain⟨k,hk,e⟩:=atp t n (leap t.mask p.1 p.2)
  refine⟨(runEnd t.mask p.1 - p.1+1)+k,by have:=a7l t.mask p.1;lia,?_⟩
  rw [acq,am2,e]
  rfl
theorem ak6(t:bt)(h:Int):t.probeStart h=blk t.mask (bits h % (t.mask+1),bits h):=rfl
theorem ap2(h:Int):bits h < 2^64:=by
 unfold bits
 have h0:=gU h (show (2^64:Int)≠0 by decide)
 have h1:=fV h (show (0:Int) < 2^64 by decide)
 have:(2:Int)^64=18446744073709551616:=by decide
 lia
theorem a6o(t:bt)(hc:cyc t.mask=true)(h:Int)(hj:j <=t.mask): ∃k,k < 10*turns t.mask/\(adv t k (t.probeStart h)).j=j:=by
 have hi:bits h % (t.mask+1) <=t.mask:=by have:=gT (bits h) (show 0 < t.mask+1 by lia);lia
 obtain⟨n,hn,e⟩:=anw hc hi (ap2 h) hj
 obtain⟨k,hk,e2⟩:=atp t n (bits h % (t.mask+1),bits h)
 refine⟨k,by unfold turns;lia,?_⟩
 rw [ak6,e2]
 exact e
theorem afk(t:bt): ∀(n:Nat) (p:Probe),(adv t n p).dummy=p.dummy
 |0,_=> rfl
 |n+1,p=> by
  rw [abi,←afk t n p]
  unfold advance
  split <;> rfl
structure MeetE (t:bt) (ha:Nat -> Int) (h:Int) (p:Probe) (k:Nat):Prop where
 empty:t.slot (adv t k p).j=.empty
 live: ∀k',k' < k -> ∃i,t.slot (adv t k' p).j=.live i/\ha i≠h
structure MeetC (t:bt) (ha:Nat -> Int) (h:Int) (p:Probe) (k i:Nat):Prop where
 cand:t.slot (adv t k p).j=.live i
 hash:ha i=h
 live: ∀k',k' < k -> ∃i,t.slot (adv t k' p).j=.live i/\ha i≠h
theorem amx(t:bt)(ha:Nat -> Int)(h:Int)(nd: ∀j,t.slot j≠ .dummy): ∀(fuel:Nat) (p:Probe),p.dummy=none -> (∃k,k < fuel/\t.slot (adv t k p).j=.empty) ->
  (∃k,k < fuel/\MeetE t ha h p k/\probe.go t ha h fuel p=some (.empty (adv t k p).j none))\/(∃k i,k < fuel/\MeetC t ha h p k i/\probe.go t ha h fuel p=some (.candidate (adv t k p).j i (adv t (k+1) p)))
 |0,_,_,⟨k,hk,_⟩=> by lia
 | fuel+1,p,hd,⟨k,hk,e⟩=> by
  cases hs:t.slot p.j with
  |empty=> exact .inl ⟨0,by lia,⟨hs,fun k' h=> by lia⟩,by unfold probe.go;rw [hs];simp only [hd];rfl⟩
  |dummy=> exact absurd hs (nd _)
  | live i=>
   by_cases hh:ha i=h
   ·exact .inr ⟨0,i,by lia,⟨hs,hh,fun k' h=> by lia⟩,by unfold probe.go;rw [hs];simp only [hh,beq_self_eq_true,if_true];rfl⟩
   ·have hk0:k≠0:=fun z=> by subst z;rw [show adv t 0 p=p from rfl,hs]at e;cases e
    obtain⟨k2,rfl⟩: ∃k2,k=k2+1:=⟨k - 1,by lia⟩
    have g:probe.go t ha h (fuel+1) p=probe.go t ha h fuel (t.advance p):=by
     conv=> lhs;unfold probe.go
     rw [hs];simp only [beq_iff_eq,hh,if_false]
    have hl: ∀n,(∀k',k' < n -> ∃i,t.slot (adv t k' (t.advance p)).j=.live i/\ha i≠h) -> ∀k',k' < n+1 -> ∃i,t.slot (adv t k' p).j=.live i/\ha i≠h:=by
     intro n hn k' hk'
     cases k' with
     |zero=> exact⟨i,hs,hh⟩
     |succ k'=> exact hn k' (by lia)
    rcases amx t ha h nd fuel (t.advance p) (by have:=afk t 1 p;exact this.trans hd) ⟨k2,by lia,e⟩with ⟨n,a,b,c⟩|⟨n,i2,a,b,c⟩
    ·exact .inl ⟨n+1,by lia,⟨b.empty,hl n b.live⟩,g.trans c⟩
    ·exact .inr ⟨n+1,i2,by lia,⟨b.cand,b.hash,hl n b.live⟩,g.trans c⟩
abbrev Ris(l:List Nat):Prop:=l.Pairwise (· < ·)
theorem apg{l:List Nat}(h:Ris l){a b:Nat}(ha:a < b)(hb:b < l.length):l[a]'(by lia) < l[b]:=(iN.mp h) a b (by lia) hb ha
theorem ahm(xs:Array Nat)(j:Nat)(h:Ris xs.toList): ∀(fuel lo hi:Nat),lo <=hi -> hi <=xs.size -> hi - lo <=fuel -> (∀i,i < lo -> xs.getD i j < j) -> (∀i,hi <=i -> i < xs.size -> j <=xs.getD i j) ->
  below.go xs j fuel lo hi <=xs.size/\(∀i,i < below.go xs j fuel lo hi -> xs.getD i j < j)/\(∀i,below.go xs j fuel lo hi <=i -> i < xs.size -> j <=xs.getD i j)
 |0,lo,hi,h1,h2,h3,h4,h5=> by
  unfold below.go
  exact⟨by lia,h4,fun i a b=> h5 i (by lia) b⟩
 | fuel+1,lo,hi,h1,h2,h3,h4,h5=> by
  unfold below.go
  split
  ·rename_i hlt
   have mono: ∀a b,a <=b -> b < xs.size -> xs.getD a j <=xs.getD b j:=by
    intro a b hab hb
    rcases Nat.lt_or_eq_of_le hab with z|z
    ·have:=apg h z (by rw [aG];exact hb)
     simp only [dE,show a < xs.size by lia,hb,dif_pos]
     simpa using fI this
    ·subst z;exact aD _
   dsimp only
   split
   ·rename_i c
    refine ahm xs j h fuel _ _ (by lia) h2 (by lia) (fun i hi'=> ?_) h5
    exact Nat.lt_of_le_of_lt (mono i ((lo+hi)/2) (by lia) (by lia)) c
   ·rename_i c
    refine ahm xs j h fuel _ _ (by lia) (by lia) (by lia) h4 (fun i a b=> ?_)
    exact aJ (by lia) (mono ((lo+hi)/2) i a b)
  ·exact⟨by lia,h4,fun i a b=> h5 i (by lia) b⟩
theorem below_spec(xs:Array Nat)(j:Nat)(h:Ris xs.toList):below xs j <=xs.size/\(∀i,i < below xs j -> xs.getD i j < j)/\(∀i,below xs j <=i -> i < xs.size -> j <=xs.getD i j):=
 ahm xs j h xs.size 0 xs.size (bX _) (aD _) (by lia) (fun i hi=> by lia) (fun i a b=> by lia)
theorem axm{xs:Array Nat}(h:Ris xs.toList)(e:xs[i]?=some j):below xs j=i:=by
 obtain⟨b1,b2,b3⟩:=below_spec xs j h
 have hi:i < xs.size:=(cn.mp e).1
 have ei:xs.getD i j=j:=by simp only [dE,hi,dif_pos];exact (cn.mp e).2
 have h1: ¬i < below xs j:=fun z=> by have:=b2 i z;lia
 have h2: ¬below xs j < i:=fun z=> by
  have hb:below xs j < xs.size:=by lia
  have:=b3 _ (aD _) hb
  have q:=apg h z (by rw [aG];exact hi)
  have e2:xs.getD (below xs j) j=xs[below xs j]:=by simp only [dE,hb,dif_pos];rfl
  have e3:xs[i]=j:=(cn.mp e).2
  simp only [Array.getElem_toList]at q
  lia
 lia
structure Ok (t:bt):Prop where
 nd:t.dummies= #[]
 ris:Ris t.place.toList
 le: ∀j∈t.place.toList,j <=t.mask
 room:t.place.size <=t.mask
 cyc:cyc t.mask=true
theorem agj(j:Nat):has #[] j=false:=by unfold has;simp
theorem slot_live(h:Ok t):t.slot j=.live i ↔ t.place[i]?=some j:=by
 unfold slot
 rw [h.nd,agj]
 dsimp only
 constructor
 ·intro e
  split at e
  ·rename_i c
   injection e with e
   rw [←e];simpa using c
  ·simp at e
 ·intro e
  rw [axm h.ris e,e]
  simp
theorem aex(h:Ok t):t.slot j=.empty ↔ j∉t.place.toList:=by
 constructor
 ·intro e m
  obtain⟨i,hi⟩:=d8 m
  rw [(slot_live h (i:=i)).mpr (by simpa using hi)]at e
  cases e
 ·intro m
  unfold slot
  rw [h.nd,agj]
  dsimp only
  split
  ·rename_i c
   exact absurd (dh.mpr (gL (by simpa using c))) m
  ·simp
theorem azt(h:Ok t)(j:Nat):t.slot j≠ .dummy:=by
 unfold slot
 rw [h.nd,agj]
 dsimp only
 split <;> simp
theorem avh(h:Ok t): ∃j,j <=t.mask/\t.slot j=.empty:=by
 apply cx
 intro z
 have all: ∀j∈aZ (t.mask+1),j∈t.place.toList:=by
  intro j hj
  apply cx
  intro m
  exact z ⟨j,by have:=bD.mp hj;lia,(aex h).mpr m⟩
 have:=(i5 (n:=t.mask+1)).length_le_of_subset all
 rw [dX,aG]at this
 have:=h.room
 lia
section
variable{α:Type}
noncomputable def ha(es:Array (Int×α))(i:Nat):Int:=(es[i]?.map (·.1)).getD 0
structure Rc (t:bt) (es:Array (Int×α)):Prop where
 size:t.place.size=es.size
 met: ∀(i j:Nat) (h:Int) (x:α),t.place[i]?=some j -> es[i]?=some (h,x) -> ∃k,(adv t k (t.probeStart h)).j=j/\ ∀k',k' < k -> (adv t k' (t.probeStart h)).j∈t.place.toList
theorem aiq(t:bt)(h:Int): ∀k,(adv t k (t.probeStart h)).j+(adv t k (t.probeStart h)).more <=t.mask/\(adv t k (t.probeStart h)).i <=t.mask:=by
 have re: ∀i,i <=t.mask -> i+(runEnd t.mask i - i) <=t.mask:=fun i hi=> by unfold runEnd;split <;> lia
 intro k
 induction k with
 |zero=>
  have hi:bits h % (t.mask+1) <=t.mask:=by have:=gT (bits h) (show 0 < t.mask+1 by lia);lia
  exact⟨re _ hi,hi⟩
 | succ k ih=>
  rw [abi]
  generalize adv t k (t.probeStart h)=p at ih
  unfold advance
  split
  ·exact⟨by show p.j+1+(p.more - 1) <=_;lia,ih.2⟩
  ·have hi:(leap t.mask p.i p.perturb).1 <=t.mask:=by
    show _ % (t.mask+1) <=_
    have:=gT (p.i*5+1+p.perturb/32) (show 0 < t.mask+1 by lia)
    lia
   exact⟨re _ hi,hi⟩
abbrev Full(t:bt)(h:Int)(k:Nat):Prop:= ∀k',k' < k -> ∃i,t.slot (adv t k' (t.probeStart h)).j=.live i
theorem search_step(O:Ok t)(hs:Nat -> Int)(h:Int)(k0:Nat)(B:Full t h k0):
  (∃k,k0 <=k/\k < 10*turns t.mask/\t.slot (adv t k (t.probeStart h)).j=.empty/\(∀k',k0 <=k' -> k' < k -> ∃i,t.slot (adv t k' (t.probeStart h)).j=.live i/\hs i≠h)/\t.probe hs h (adv t k0 (t.probeStart h))=some (.empty (adv t k (t.probeStart h)).j none))\/
  (∃k i,k0 <=k/\k < 10*turns t.mask/\t.slot (adv t k (t.probeStart h)).j=.live i/\hs i=h/\(∀k',k0 <=k' -> k' < k -> ∃i,t.slot (adv t k' (t.probeStart h)).j=.live i/\hs i≠h)/\t.probe hs h (adv t k0 (t.probeStart h))=some (.candidate (adv t k (t.probeStart h)).j i (adv t (k+1) (t.probeStart h)))):=by
 obtain⟨j,hj,he⟩:=avh O
 obtain⟨k1,hk1,e1⟩:=a6o t O.cyc h hj
 have h01:k0 <=k1:=by
  apply cx
  intro z
  obtain⟨i,e⟩:=B k1 (by lia)
  rw [e1,he]at e
  cases e
 have ad: ∀n,adv t n (adv t k0 (t.probeStart h))=adv t (k0+n) (t.probeStart h):=fun n=> (acq t k0 n _).symm
 have ju: ∀n,(∀k',k' < n -> ∃i,t.slot (adv t k' (adv t k0 (t.probeStart h))).j=.live i/\hs i≠h) -> ∀k',k0 <=k' -> k' < k0+n -> ∃i,t.slot (adv t k' (t.probeStart h)).j=.live i/\hs i≠h:=by
  intro n hn k' a b
  obtain⟨i,e⟩:=hn (k' - k0) (by lia)
  rw [ad,show k0+(k' - k0)=k' by lia]at e
  exact⟨i,e⟩
 have dn:(adv t k0 (t.probeStart h)).dummy=none:=afk t k0 _
 -- the first empty one lies behind k1 at the latest
 rcases amx t hs h (azt O) (10*turns t.mask) (adv t k0 (t.probeStart h)) dn ⟨k1 - k0,by lia,by rw [ad,show k0+(k1 - k0)=k1 by lia,e1];exact he⟩with ⟨n,a,b,c⟩|⟨n,i,a,b,c⟩
 ·have hn:k0+n <=k1:=by
   apply cx
   intro z
   obtain⟨i,e,_⟩:=ju n b.live k1 h01 (by lia)
   rw [e1,he]at e
   cases e
  exact .inl ⟨k0+n,by lia,by lia,by rw [←ad];exact b.empty,ju n b.live,by rw [←ad];exact c⟩
 ·have hn:k0+n <=k1:=by
   apply cx
   intro z
   obtain⟨i,e,_⟩:=ju n b.live k1 h01 (by lia)
   rw [e1,he]at e
   cases e
  refine .inr ⟨k0+n,i,by lia,by lia,by rw [←ad];exact b.cand,b.hash,ju n b.live,?_⟩
  rw [←ad,show k0+n+1=k0+(n+1) by lia,←ad]
  exact c
theorem elem_met{es:Array (Int×α)}(O:Ok t)(R:Rc t es){h:Int}(he:t.slot (adv t k (t.probeStart h)).j=.empty){x:α}(e:es[i]?=some (h,x)): ∃k2,k2 < k/\t.slot (adv t k2 (t.probeStart h)).j=.live i:=by
 have hi:i < t.place.size:=by rw [R.size];exact (cn.mp e).1
 have ej:t.place[i]?=some t.place[i]:=d7 hi
 obtain⟨k2,e2,f2⟩:=R.met i _ h x ej e
 refine⟨k2,?_,by rw [e2];exact (slot_live O).mpr ej⟩
 apply cx
 intro z
 rw [aex O]at he
 rcases Nat.lt_or_eq_of_le (bL z) with q|q
 ·exact he (f2 k q)
 ·subst q
  rw [e2]at he
  exact he (dh.mpr (Array.getElem_mem hi))
theorem ins_get{β:Type}{l:List β}{p:Nat}{x y:β}(hp:p <=l.length)(h:(l.take p++x::l.drop p)[i]?=some y):(i=p/\y=x)\/(i < p/\l[i]?=some y)\/(p < i/\l[i - 1]?=some y):=by
 rcases Nat.lt_trichotomy i p with q|q|q
 ·rw [bd (by rw [br];lia),ee q]at h
  exact .inr (.inl ⟨q,h⟩)
 ·subst q
  rw [a8 (by rw [br];lia),br,eM hp,lN]at h
  exact .inl ⟨rfl,by simpa using h.symm⟩
 ·rw [a8 (by rw [br];lia),br,eM hp,show i - p=(i - p - 1)+1 by lia,gf,im,show p+(i - p - 1)=i - 1 by lia]at h
  exact .inr (.inr ⟨q,h⟩)
theorem abg{t t':bt}(h:t'.mask=t.mask): ∀(k:Nat) (p:Probe),adv t' k p=adv t k p
 |0,_=> rfl
 |k+1,p=> by
  rw [abi,abi,abg h k p]
  unfold advance
  rw [h]
theorem aay{t':bt}(h:t'.mask=t.mask)(x:Int):t'.probeStart x=t.probeStart x:=by unfold probeStart;rw [h]
theorem put_eq(O:Ok t)(j:Nat):t.put j=({t with place:=insertAt t.place (below t.place j) j},below t.place j):=by
 unfold put
 rw [O.nd,agj]
 simp [O.nd]
theorem put_ok{t':bt}{es:Array (Int×α)}(O:Ok t)(R:Rc t es){h:Int}{x:α}(F:Full t h k)(he:t.slot (adv t k (t.probeStart h)).j=.empty)(hr:t.place.size+1 <=t.mask)(hm:t'.mask=t.mask)(hd:t'.dummies=t.dummies)(hpl:t'.place=insertAt t.place (below t.place (adv t k (t.probeStart h)).j) (adv t k (t.probeStart h)).j):
  Ok t'/\Rc t' (insertAt es (below t.place (adv t k (t.probeStart h)).j) (h,x)):=by
 have hjm:=(aiq t h k).1
 have hnm:=(aex O).mp he
 generalize hj:(adv t k (t.probeStart h)).j=j at*
 obtain⟨b1,b2,b3⟩:=below_spec t.place j O.ris
 have pl:t'.place.toList=t.place.toList.take (below t.place j)++j::t.place.toList.drop (below t.place j):=by rw [hpl];exact fW _ _ _
 have el:(insertAt es (below t.place j) (h,x)).toList=es.toList.take (below t.place j)++(h,x)::es.toList.drop (below t.place j):=fW _ _ _
 generalize below t.place j=p at*
 have mem: ∀y,y∈t'.place.toList ↔ y∈t.place.toList\/y=j:=by
  intro y
  rw [pl]
  conv=> rhs;rw [←dQ p t.place.toList]
  simp only [aL,ay]
  constructor
  ·rintro (q|q|q)
   ·exact .inl (.inl q)
   ·exact .inr q
   ·exact .inl (.inr q)
  ·rintro ((q|q)|q)
   ·exact .inl q
   ·exact .inr (.inr q)
   ·exact .inr (.inl q)
 have gd: ∀i (hi:i < t.place.size),t.place.getD i j=t.place.toList[i]'(by rw [aG];exact hi):=fun i hi=> by simp only [dE,hi,dif_pos];simp
 have lt1: ∀y∈t.place.toList.take p,y < j:=by
  intro y hy
  obtain⟨i,hi⟩:=d8 hy
  have hip:i < p:=by
   have:=(aC.mp hi).1
   rw [br]at this;lia
  rw [ee hip]at hi
  have:=b2 i hip
  rw [gd i (by lia)]at this
  rw [←(aC.mp hi).2]
  exact this
 have lt2: ∀y∈t.place.toList.drop p,j < y:=by
  intro y hy
  obtain⟨i,hi⟩:=d8 hy
  rw [im]at hi
  have hl:=(aC.mp hi).1
  rw [aG]at hl
  have:=b3 (p+i) (by lia) hl
  rw [gd _ hl,(aC.mp hi).2]at this
  have ne:y≠j:=fun z=> hnm (z▸cu hy)
  lia
 constructor
 ·refine⟨hd.trans O.nd,?_,?_,?_,by rw [hm];exact O.cyc⟩
  ·show lZ (· < ·) t'.place.toList
   rw [pl,kS]
   refine⟨O.ris.sublist (List.take_sublist _ _),bZ.mpr ⟨lt2,O.ris.sublist (List.drop_sublist _ _)⟩,fun a ha b hb=> ?_⟩
   rcases ay.mp hb with q|q
   ·subst q;exact lt1 a ha
   ·exact fN (lt1 a ha) (lt2 b q)
  ·intro y hy
   rw [hm]
   rcases (mem y).mp hy with q|q
   ·exact O.le y q
   ·subst q;lia
  ·have:t'.place.toList.length=t.place.size+1:=by
    rw [pl];simp only [bj,aP,br,ef,aG];lia
   rw [aG]at this
   rw [hm];lia
 ·have hps:p <=es.size:=by rw [←R.size];exact b1
  refine⟨?_,?_⟩
  ·have l1:t'.place.toList.length=t.place.size+1:=by
    rw [pl];simp only [bj,aP,br,ef,aG];lia
   have l2:(insertAt es p (h,x)).toList.length=es.size+1:=by
    rw [el];simp only [bj,aP,br,ef,aG];lia
   rw [aG]at l1 l2
   rw [l1,l2,R.size]
  ·intro i j' h' x' e1 e2
   have e1':(t.place.toList.take p++j::t.place.toList.drop p)[i]?=some j':=by rw [←pl];simpa using e1
   have e2':(es.toList.take p++(h,x)::es.toList.drop p)[i]?=some (h',x'):=by rw [←el];simpa using e2
   have old: ∀i0:Nat,t.place.toList[i0]?=some j' -> es.toList[i0]?=some (h',x') -> ∃k,(adv t' k (t'.probeStart h')).j=j'/\ ∀k',k' < k -> (adv t' k' (t'.probeStart h')).j∈t'.place.toList:=by
    intro i0 a b
    obtain⟨k2,f1,f2⟩:=R.met i0 j' h' x' (by simpa using a) (by simpa using b)
    refine⟨k2,?_,fun k' hk'=> ?_⟩
    ·rw [abg hm,aay hm];exact f1
    ·rw [abg hm,aay hm];exact (mem _).mpr (.inl (f2 k' hk'))
   rcases ins_get (by rw [aG];exact b1) e1' with ⟨q,r1⟩|⟨q,r1⟩|⟨q,r1⟩
   ·rcases ins_get (by rw [aG];exact hps) e2' with ⟨q2,r2⟩|⟨q2,r2⟩|⟨q2,r2⟩
    ·cases r2
     subst r1
     refine⟨k,?_,fun k' hk'=> ?_⟩
     ·rw [abg hm,aay hm];exact hj
     ·rw [abg hm,aay hm]
      obtain⟨i2,e⟩:=F k' hk'
      exact (mem _).mpr (.inl (dh.mpr (gL ((slot_live O).mp e))))
    ·lia
    ·lia
   ·rcases ins_get (by rw [aG];exact hps) e2' with ⟨q2,r2⟩|⟨q2,r2⟩|⟨q2,r2⟩
    ·lia
    ·exact old i r1 r2
    ·lia
   ·rcases ins_get (by rw [aG];exact hps) e2' with ⟨q2,r2⟩|⟨q2,r2⟩|⟨q2,r2⟩
    ·lia
    ·lia
    ·exact old (i - 1) r1 r2
end
section
variable{m:Nat}{t:bt}
theorem akb(ht:t.mask=m)(o:Array (Option Nat)): ∀(fuel:Nat) (p:Nat×Nat),(∃n,n < fuel/\o.getD (lp m n p).1 (some 0)=none) ->
  ∃k,layClean.free m o fuel p.1 p.2=some (adv t k (blk m p)).j/\o.getD (adv t k (blk m p)).j (some 0)=none/\ ∀k',k' < k -> (o.getD (adv t k' (blk m p)).j (some 0)).isSome=true
 |0,_,⟨n,hn,_⟩=> by lia
 | fuel+1,p,⟨n,hn,e⟩=> by
  have run: ∀k,k <=runEnd m p.1 - p.1 -> (adv t k (blk m p)).j=p.1+k:=fun k hk=> by rw [aiy t k (blk m p) hk];rfl
  have le:p.1 <=runEnd m p.1:=by unfold runEnd;split <;> lia
  unfold layClean.free
  cases hf:(aZ (runEnd m p.1+1 - p.1)).find? fun k=> (o.getD (p.1+k) (some 0)).isNone with
  |some k=>
   have h1:=List.find?_some hf
   have h2:=List.mem_of_find?_eq_some hf
   rw [bD]at h2
   refine⟨k,by dsimp only;rw [run k (by lia)],by rw [run k (by lia)];simpa using h1,fun k' hk'=> ?_⟩
   rw [run k' (by lia)]
   rw [List.find?_range_eq_some]at hf
   have:=hf.2.2 k' hk'
   cases q:o.getD (p.1+k') (some 0) with
   |none=> rw [q]at this;simp at this
   |some _=> rfl
  | none=>
   have all: ∀k,k <=runEnd m p.1 - p.1 -> (o.getD (p.1+k) (some 0)).isSome=true:=by
    intro k hk
    rw [List.find?_eq_none]at hf
    have:=hf k (bD.mpr (by lia))
    cases q:o.getD (p.1+k) (some 0) with
    |none=> rw [q]at this;simp at this
    |some _=> rfl
   have hn0:n≠0:=fun z=> by
    subst z
    have:=all 0 (by lia)
    rw [Nat.add_zero]at this
    rw [show (lp m 0 p).1=p.1 from rfl]at e
    rw [e]at this;cases this
   obtain⟨n2,rfl⟩: ∃n2,n=n2+1:=⟨n - 1,by lia⟩
   obtain⟨k,e1,e2,e3⟩:=akb ht o fuel (leap m p.1 p.2) ⟨n2,by lia,e⟩
   have nx:adv t (runEnd m p.1 - p.1+1) (blk m p)=blk m (leap m p.1 p.2):=by
    have:=am2 t p
    rw [ht]at this
    exact this
   refine⟨runEnd m p.1 - p.1+1+k,?_,?_,fun k' hk'=> ?_⟩
   ·rw [acq,nx];exact e1
   ·rw [acq,nx];exact e2
   ·by_cases c:k' <=runEnd m p.1 - p.1
    ·rw [run k' c];exact all k' c
    ·have:adv t k' (blk m p)=adv t (k' - (runEnd m p.1 - p.1+1)) (blk m (leap m p.1 p.2)):=by
      rw [←nx,←acq];congr 1;lia
     rw [this];exact e3 _ (by lia)
structure Lc (t:bt) (o:Array (Option Nat)) (hl:List Int):Prop where
 size:o.size=t.mask+1
 lt: ∀j k,o.getD j none=some k -> k < hl.length
 inj: ∀j j' k,o.getD j none=some k -> o.getD j' none=some k -> j=j'
 met: ∀k h,hl[k]?=some h -> ∃q,o.getD (adv t q (t.probeStart h)).j none=some k/\ ∀q',q' < q -> (o.getD (adv t q' (t.probeStart h)).j none).isSome=true
theorem aj8{o:Array (Option Nat)}(h:j < o.size):o.getD j (some 0)=o.getD j none:=by simp only [dE,h,dif_pos]
theorem Lc.room{o:Array (Option Nat)}(L:Lc t o hl)(hl':hl.length <=t.mask): ∃j,j <=t.mask/\o.getD j none=none:=by
 apply cx
 intro z
 have all: ∀j,j <=t.mask -> ∃k,o.getD j none=some k:=fun j hj=> by
  cases q:o.getD j none with
  |none=> exact absurd ⟨j,hj,q⟩ z
  |some k=> exact⟨k,rfl⟩
 let f:Nat -> Nat:=fun j=> (o.getD j none).getD 0
 have fe: ∀j,j <=t.mask -> o.getD j none=some (f j):=fun j hj=> by
  obtain⟨k,e⟩:=all j hj
  show _=some ((o.getD j none).getD 0)
  rw [e];rfl
 have nd:((aZ (t.mask+1)).map f).Nodup:=by
  unfold kT
  rw [dW]
  refine iZ ?_ (i5 (n:=t.mask+1))
  intro a b ha hb hab e
  rw [bD]at ha hb
  exact hab (L.inj a b (f a) (fe a (by lia)) (by rw [e];exact fe b (by lia)))
 have sub: ∀k∈(aZ (t.mask+1)).map f,k∈aZ hl.length:=by
  intro k hk
  obtain⟨j,hj,rfl⟩:=aR.mp hk
  rw [bD]at hj
  exact bD.mpr (L.lt j _ (fe j (by lia)))
 have:=nd.length_le_of_subset sub
 rw [au,dX,dX]at this
 lia
theorem Lc.put{o:Array (Option Nat)}(L:Lc t o hl)(hc:cyc t.mask=true)(hl':hl.length <=t.mask)(h:Int):
  ∃j,layClean.free t.mask o (turns t.mask) (bits h % (t.mask+1)) (bits h)=some j/\Lc t (o.setIfInBounds j (some hl.length)) (hl++ [h]):=by
 obtain⟨j0,hj0,e0⟩:=L.room hl'
 have hi:bits h % (t.mask+1) <=t.mask:=by have:=gT (bits h) (show 0 < t.mask+1 by lia);lia
 obtain⟨n,hn,en⟩:=anw hc hi (ap2 h) hj0
 obtain⟨k,e1,e2,e3⟩:=akb (t:=t) rfl o (turns t.mask) (bits h % (t.mask+1),bits h) ⟨n,by unfold turns;lia,by rw [en,aj8 (by rw [L.size];lia)];exact e0⟩
 have inb: ∀q,(adv t q (t.probeStart h)).j < o.size:=fun q=> by have:=(aiq t h q).1;rw [L.size];lia
 rw [←ak6]at e1 e2 e3
 rw [aj8 (inb k)]at e2
 have e3': ∀q',q' < k -> (o.getD (adv t q' (t.probeStart h)).j none).isSome=true:=fun q' hq=> by rw [←aj8 (inb q')];exact e3 q' hq
 have hjs:=inb k
 refine⟨(adv t k (t.probeStart h)).j,e1,?_⟩
 generalize hj:(adv t k (t.probeStart h)).j=j at*
 have gs: ∀i,(o.setIfInBounds j (some hl.length)).getD i none=if i=j then some hl.length else o.getD i none:=by
  intro i
  by_cases c:i=j
  ·subst c
   rw [if_pos rfl]
   simp [dE,hjs]
  ·rw [if_neg c]
   by_cases ci:i < o.size
   ·simp [dE,ci,Array.getElem_setIfInBounds,di c]
   ·simp [dE,ci]
 refine⟨by rw [Array.size_setIfInBounds,L.size],?_,?_,?_⟩
 ·intro i k' e
  rw [gs]at e
  rw [bj,eU]
  split at e
  ·injection e with e;lia
  ·have:=L.lt i k' e;lia
 ·intro i i' k' a b
  rw [gs]at a b
  split at a
  ·rename_i c
   split at b
   ·rename_i c2;lia
   ·injection a with a
    have:=L.lt _ _ b
    lia
  ·split at b
   ·injection b with b
    have:=L.lt _ _ a
    lia
   ·exact L.inj i i' k' a b
 ·intro k' h' e
  by_cases c:k' < hl.length
  ·rw [bd c]at e
   obtain⟨q,f1,f2⟩:=L.met k' h' e
   refine⟨q,?_,fun q' hq=> ?_⟩
   ·rw [gs,if_neg (fun z=> by rw [z,e2]at f1;cases f1)];exact f1
   ·rw [gs]
    split
    ·rfl
    ·exact f2 q' hq
  ·have hk:k'=hl.length:=by
    have:=(aC.mp e).1
    rw [bj,eU]at this
    lia
   subst hk
   rw [a8 (aD _),lN]at e
   have:h'=h:=by simpa using e.symm
   subst this
   refine⟨k,by rw [gs,hj,if_pos rfl],fun q' hq=> ?_⟩
   rw [gs]
   split
   ·rfl
   ·exact e3' q' hq
end
theorem am8{t:bt}(hc:cyc t.mask=true): ∀(l pre:List Int) (o:Array (Option Nat)),Lc t o pre -> pre.length+l.length <=t.mask ->
  ∃o',l.foldl (fun acc h=> do
   let (owner,k)←acc
   let j←layClean.free t.mask owner (turns t.mask) (bits h % (t.mask+1)) (bits h)
   pure (owner.setIfInBounds j (some k),k+1)) (some (o,pre.length))=some (o',(pre++l).length)/\Lc t o' (pre++l)
 |[],pre,o,L,_=> ⟨o,by rw [bP];rfl,by rw [bP];exact L⟩
 | h::r,pre,o,L,hl=> by
  rw [aP]at hl
  obtain⟨j,e,L2⟩:=L.put hc (by lia) h
  obtain⟨o',e2,L3⟩:=am8 hc r (pre++ [h]) _ L2 (by rw [bj,eU];lia)
  refine⟨o',?_,by rw [show pre++h::r=(pre++ [h])++r by simp];exact L3⟩
  rw [cW]
  have:(do
   let (owner,k)←(some (o,pre.length):Option (Array (Option Nat)×Nat))
   let j←layClean.free t.mask owner (turns t.mask) (bits h % (t.mask+1)) (bits h)
   pure (owner.setIfInBounds j (some k),k+1))=some (o.setIfInBounds j (some pre.length),(pre++ [h]).length):=by
   simp only [lw,Option.bind_some,e,Option.pure_def]
   simp
  rw [this,e2]
  simp
theorem atj(hc:cyc t.mask=true)(hs:Array Int)(hl:hs.size <=t.mask): ∃o,layClean t.mask hs=some o/\Lc t o hs.toList:=by
 have L0:Lc t (gV (t.mask+1) none) []:=by
  have g: ∀j,(gV (t.mask+1) (none:Option Nat)).getD j none=none:=fun j=> by
   by_cases c:j < t.mask+1
   ·simp [dE,c]
   ·simp [dE,c]
  exact⟨by simp,fun j k e=> (by rw [g]at e;cases e),fun j j' k e=> (by rw [g]at e;cases e),fun k h e=> (by simp at e)⟩
 obtain⟨o',e,L⟩:=am8 hc hs.toList [] _ L0 (by rw [aG];simpa using hl)
 refine⟨o',?_,by simpa using L⟩
 unfold layClean
 rw [←Array.foldl_toList]
 rw [show (some (gV (t.mask+1) (none:Option Nat),0))=some (gV (t.mask+1) none,([]:List Int).length) from rfl,e]
 rfl
section
variable{α:Type}
noncomputable def xj(m:Nat)(o:Array (Option Nat)):List (Nat×Nat):=(aZ (m+1)).filterMap fun j=> (o.getD j none).map (j,·)
theorem aai{m:Nat}{o:Array (Option Nat)}:(j,k)∈xj m o ↔ j <=m/\o.getD j none=some k:=by
 unfold xj
 rw [cO]
 constructor
 ·rintro⟨a,ha,e⟩
  rw [bD]at ha
  cases q:o.getD a none with
  |none=> rw [q]at e;cases e
  |some b=>
   rw [q]at e
   simp only [jD,iG,Prod.mk.injEq]at e
   obtain⟨rfl,rfl⟩:=e
   exact⟨by lia,q⟩
 ·rintro⟨a,b⟩
  exact⟨j,bD.mpr (by lia),by rw [b];rfl⟩
theorem anu(m:Nat)(o:Array (Option Nat)):Ris ((xj m o).map (·.1)):=by
 unfold xj Ris
 rw [dW,List.pairwise_filterMap]
 refine lZ.imp ?_ (List.pairwise_lt_range (n:=m+1))
 intro a b hab x hx y hy
 cases qa:o.getD a none with
 |none=> rw [qa]at hx;cases hx
 | some ka=>
  cases qb:o.getD b none with
  |none=> rw [qb]at hy;cases hy
  |some kb=>
   rw [qa]at hx;rw [qb]at hy
   simp only [jD,iG]at hx hy
   subst hx;subst hy
   exact hab
theorem az1{o:Array (Option Nat)}(L:Lc t o hl):((xj t.mask o).map (·.2)).Nodup:=by
 have r:=anu t.mask o
 unfold Ris at r
 unfold kT
 rw [dW]at r⊢
 refine r.imp_of_mem ?_
 rintro⟨a,ka⟩ ⟨b,kb⟩ ha hb hab e
 have e:ka=kb:=e
 subst e
 have:=L.inj a b ka (aai.mp ha).2 (aai.mp hb).2
 have:a < b:=hab
 lia
theorem at1{o:Array (Option Nat)}(L:Lc t o hl):((xj t.mask o).map (·.2)).Perm (aZ hl.length):=by
 refine (iy (az1 L) i5).mpr fun k=> ?_
 rw [bD,aR]
 constructor
 ·rintro⟨⟨j,k'⟩,hm,rfl⟩
  exact L.lt j k' (aai.mp hm).2
 ·intro hk
  obtain⟨q,e,_⟩:=L.met k hl[k] (av hk)
  exact⟨(_,k),aai.mpr ⟨by have:=(aiq t hl[k] q).1;lia,e⟩,rfl⟩
theorem amk{β:Type}(es:Array β): ∀(l:List Nat),(∀k∈l,k < es.size) -> ∃ys:List β,l.filterMap (es[·]?)=ys/\ys.length=l.length/\ ∀i k:Nat,l[i]?=some k -> ys[i]?=es[k]?
 |[],_=> ⟨[],rfl,rfl,fun i k e=> by simp at e⟩
 | k::r,h=> by
  obtain⟨ys,e,hl,hg⟩:=amk es r fun y hy=> h y (az _ hy)
  have hk:=h k ax
  refine⟨es[k]::ys,?_,by simp [hl],fun i k' e'=> ?_⟩
  ·rw [fX (b:=es[k]) (d7 hk),e]
  ·cases i with
   |zero=>
    have:k=k':=by simpa using e'
    subst this
    simp [d7 hk]
   |succ i=>
    have:=hg i k' (by simpa using e')
    simpa using this
theorem aza{β:Type}(es:Array β){l:List Nat}(h:l.Perm (aZ es.size)):(l.filterMap (es[·]?)).Perm es.toList:=by
 refine (h.filterMap _).trans ?_
 have:(aZ es.size).filterMap (es[·]?)=es.toList:=by
  apply dj
  intro i
  obtain⟨ys,e,hl,hg⟩:=amk es (aZ es.size) fun k hk=> bD.mp hk
  rw [e]
  by_cases c:i < es.size
  ·rw [hg i i (by rw [dw c])];simp
  ·rw [cz (by rw [hl,dX];lia),cz (by rw [aG];lia)]
 rw [this]
theorem aw5{t':bt}(h:t'.mask=t.mask)(k:Nat)(x:Int):adv t' k (t'.probeStart x)=adv t k (t.probeStart x):=by rw [abg h,aay h]
theorem laid_ok(es:Array (Int×α)){mask finger moves:Nat}{led plain:Bool}(hc:cyc mask=true)(hl:es.size <=mask):
  ∃t' od,laid mask finger moves led plain (es.map (·.1))=some (t',od)/\t'.mask=mask/\t'.led=led/\t'.plain=plain/\t'.moves=moves/\t'.finger=finger/\Ok t'/\Rc t' (od.filterMap (es[·]?))/\(od.filterMap (es[·]?)).toList.Perm es.toList/\t'.place.size=es.size:=by
 let t:bt:={mask,place:= #[],dummies:= #[],finger,led,moves,plain}
 obtain⟨o,e,L⟩:=atj (t:=t) hc (es.map (·.1)) (by simpa using hl)
 have hln:(es.map (·.1)).toList.length=es.size:=by simp
 have pm:=at1 L
 rw [hln]at pm
 have lt: ∀k∈(xj mask o).map (·.2),k < es.size:=fun k hk=> bD.mp (pm.mem_iff.mp hk)
 have ll:(xj mask o).length=es.size:=by have:=pm.length_eq;rwa [au,dX]at this
 obtain⟨ys,e1,e2,e3⟩:=amk es ((xj mask o).map (·.2)) lt
 have fm:(((xj mask o).map (·.2)).toArray.filterMap (es[·]?)).toList=ys:=by rw [Array.toList_filterMap];simpa using e1
 let T:bt:={mask,place:=((xj mask o).map (·.1)).toArray,dummies:= #[],finger,led,moves,plain}
 have tp:T.place.toList=(xj mask o).map (·.1):=rfl
 have ts:T.place.size=es.size:=by show ((xj mask o).map (·.1)).toArray.size=_;simp [ll]
 have pe: ∀(k:Nat) (x:Int),adv T k (T.probeStart x)=adv t k (t.probeStart x):=fun k x=> aw5 (t:=t) (t':=T) rfl k x
 refine⟨T,((xj mask o).map (·.2)).toArray,?_,rfl,rfl,rfl,rfl,rfl,?_,?_,?_,ts⟩
 ·unfold laid
  rw [show layClean mask (es.map (·.1))=some o from e]
  rfl
 ·refine⟨rfl,by rw [tp];exact anu mask o,?_,by rw [ts];exact hl,hc⟩
  intro j hj
  rw [tp]at hj
  obtain⟨⟨a,b⟩,hm,rfl⟩:=aR.mp hj
  exact (aai.mp hm).1
 ·refine⟨?_,?_⟩
  ·have:(((xj mask o).map (·.2)).toArray.filterMap (es[·]?)).size=es.size:=by
    rw [←aG,fm,e2,au,ll]
   rw [this,ts]
  ·intro i j h x a b
   have a:((xj mask o).map (·.1))[i]?=some j:=by rw [←tp,bG];exact a
   have b:ys[i]?=some (h,x):=by rw [←fm];simpa using b
   rw [a9]at a
   cases q:(xj mask o)[i]? with
   |none=> rw [q]at a;cases a
   | some jk=>
    obtain⟨j',k⟩:=jk
    rw [q]at a
    have:j'=j:=by simpa using a
    subst this
    have hk:=e3 i k (by rw [a9,q];rfl)
    rw [b]at hk
    obtain⟨_,hjo⟩:=aai.mp (bA q)
    obtain⟨w,f1,f2⟩:=L.met k h (by
     have:(es.map (·.1)).toList[k]?=(es[k]?).map (·.1):=by simp
     rw [this,←hk];rfl)
    have ej:=L.inj _ _ k f1 hjo
    refine⟨w,?_,fun w' hw=> ?_⟩
    ·rw [pe];exact ej
    ·rw [pe]
     have:=f2 w' hw
     obtain⟨k2,hk2⟩:=fL.mp this
     have m:((adv t w' (t.probeStart h)).j,k2)∈xj mask o:=aai.mpr ⟨by have:=(aiq t h w').1;show _ <=t.mask;lia,hk2⟩
     have m2:=List.mem_map_of_mem (f:=fun p:Nat×Nat=> p.1) m
     rw [tp];exact m2
 ·rw [fm,←e1]
  exact aza es pm
end
end ST
namespace PF
open PySem PySem.Spec PySem.SeqAt --
section
variable{prog:bz}{w:bw} --
mutual
theorem alj: ∀(d:aa) {n:Nat} {A:bm} {E:af -> ak -> Prop} {s:ak} {v:af} {bs:List Addr} {Q:Bool -> ak -> Prop},plD d=true -> cq s.heap v d bs -> (∀b,Q b s) -> wpAny (model prog w) A (lY n v) Q E s
 |.none,n,A,E,s,v,bs,Q,_,r,h=> by cases r;cases n <;> exact aj (h _)
 |.int i,n,A,E,s,v,bs,Q,_,r,h=> by cases r;cases n <;> exact aj (h _)
 |.str x,n,A,E,s,v,bs,Q,_,r,h=> by cases r;cases n <;> exact aj (h _)
 |.tuple xs,0,A,E,s,v,bs,Q,hp,r,h=> by cases r;exact aj (h _)
 | .tuple xs,m+1,A,E,s,v,bs,Q,hp,r,h=> by
  have ih:=ak8 xs
  rw [vh,ad3,ao]at hp
  cases r with
  | @tuple a o items n _ _ ho hc hd hi=>
  have hT:s.TypeIs (.ref a) "tuple":=⟨o,ho,hc⟩
  unfold lY
  (refine ae (dL hT eP.lookup ?_))
  show wpAny _ _ (seqItems? (.ref a)>>=_) _ _ s
  (refine ae (cI ho hd ?_))
  refine ae ?_
  show wpAny _ _ (forIn items _ _) _ _ s --
  rw [←fF]
  refine dz _ (fun ju r s'=> (r.1=none\/r.1=some false)/\s'=s/\ ∃left cs,(∀x∈left,x∈xs)/\cc s.heap ju left cs) _ ?_ ?_ _ _ ⟨.inl rfl,rfl,xs,_,fun _ m=> m,hi⟩
  ·rintro v ju r s' ⟨hr,rfl,left,cs,sub,hl⟩
   cases hl with
   | @cons _ _ k ks' _ _ h1 hl'=>
    have hm:=sub k ax
    refine ae (ih k hm (hp k hm) h1 fun b=> ?_)
    cases b
    ·simp only [kE,if_true]
     (exact aj (aj (h _)))
    ·simp only [fk,bn,if_false]
     exact aj ⟨.inl rfl,rfl,ks',_,fun x m=> sub x (az _ m),hl'⟩
  ·rintro⟨r1,r2⟩ s' ⟨hr,rfl,_⟩
   simp only at hr
   rcases hr with rfl|rfl
   ·exact aj (h _)
   ·exact aj (h _)
 |.bool _,_,_,_,_,_,_,_,hp,_,_=> by simp [plD]at hp
 |.list _,_,_,_,_,_,_,_,hp,_,_=> by simp [plD]at hp
 |.dict _,_,_,_,_,_,_,_,hp,_,_=> by simp [plD]at hp
theorem ak8: ∀(xs:List aa),∀d∈xs,∀{n:Nat} {A:bm} {E:af -> ak -> Prop} {s:ak} {v:af} {bs:List Addr} {Q:Bool -> ak -> Prop},plD d=true -> cq s.heap v d bs -> (∀b,Q b s) -> wpAny (model prog w) A (lY n v) Q E s
 |[],d,m=> by cases m
 | x::r,d,m=> by
  intro h1 h2 h3
  rcases ay.mp m with e|m
  ·rw [e]at h1 h2
   exact alj x h1 h2 h3
  ·exact ak8 r d m h1 h2 h3
end
mutual
theorem ahi: ∀(d:aa) {n:Nat} {A:bm} {E:af -> ak -> Prop} {s:ak} {v:af} {bs:List Addr} {Q:Bool -> ak -> Prop},plD d=true -> cq s.heap v d bs -> d.depth <=n -> Q false s -> wpAny (model prog w) A (dY n v) Q E s
 |.none,n,A,E,s,v,bs,Q,_,r,_,h=> by cases r;unfold dY;exact aj h
 |.int i,n,A,E,s,v,bs,Q,_,r,_,h=> by cases r;unfold dY;exact aj h
 |.str x,n,A,E,s,v,bs,Q,_,r,_,h=> by cases r;unfold dY;exact aj h
 | .tuple xs,n,A,E,s,v,bs,Q,hp,r,hu,h=> by
  have ih:=akk xs
  rw [vh,ad3,ao]at hp
  (simp only [aA]at hu)
  obtain⟨m,rfl⟩: ∃m,n=m+1:=⟨n - 1,by lia⟩
  cases r with
  | @tuple a o items n _ _ ho hc hd hi=>
  have hT:s.TypeIs (.ref a) "tuple":=⟨o,ho,hc⟩
  unfold dY
  (refine ae (eT hT ?_))
  show wpAny _ _ (pure true >>=_) _ _ s
  refine ae (aj ?_)
  (simp only [fk,bn,if_false])
  (refine ae (cI ho hd ?_))
  refine ae ?_
  show wpAny _ _ (forIn items _ _) _ _ s --
  rw [←fF]
  refine dz _ (fun ju r s'=> r.1=none/\s'=s/\ ∃left cs,(∀x∈left,x∈xs)/\cc s.heap ju left cs) _ ?_ ?_ _ _ ⟨rfl,rfl,xs,_,fun _ m=> m,hi⟩
  ·rintro v ju r s' ⟨hr,rfl,left,cs,sub,hl⟩
   cases hl with
   | @cons _ _ k ks' _ _ h1 hl'=>
    have hm:=sub k ax
    have hdk:=adn hm
    refine ae (ih k hm (hp k hm) h1 (by lia) ?_)
    (simp only [bn,if_false])
    exact aj ⟨rfl,rfl,ks',_,fun x m=> sub x (az _ m),hl'⟩
  ·rintro⟨r1,r2⟩ s' ⟨hr,rfl,_⟩
   simp only at hr
   subst hr
   exact aj h
 |.bool _,_,_,_,_,_,_,_,hp,_,_,_=> by simp [plD]at hp
 |.list _,_,_,_,_,_,_,_,hp,_,_,_=> by simp [plD]at hp
 |.dict _,_,_,_,_,_,_,_,hp,_,_,_=> by simp [plD]at hp
theorem akk: ∀(xs:List aa),∀d∈xs,∀{n:Nat} {A:bm} {E:af -> ak -> Prop} {s:ak} {v:af} {bs:List Addr} {Q:Bool -> ak -> Prop},plD d=true -> cq s.heap v d bs -> d.depth <=n -> Q false s -> wpAny (model prog w) A (dY n v) Q E s
 |[],d,m=> by cases m
 | x::r,d,m=> by
  intro h1 h2 h3 h4
  rcases ay.mp m with e|m
  ·rw [e]at h1 h2 h3
   exact ahi x h1 h2 h3 h4
  ·exact akk r d m h1 h2 h3 h4
end
structure TupV (h:Heap) (k:aa) (v:af):Prop where
 ok:af3 k=true
 ex: ∃a bs,v=.ref a/\cq h (.ref a) k bs
theorem a1a{s:ak}{k:aa}{v:af}{Q:Bool -> ak -> Prop}(hk:TupV s.heap k v)(vs:List af)(hvs: ∀y∈vs,∃k',TupV s.heap k' y)(h:Q false s):wpAny (model prog w) A (iI v vs) Q E s:=by
 obtain⟨ok,a,bs,rfl,rd⟩:=hk
 obtain⟨p,c,d⟩:=ze.mp ok
 unfold iI
 refine ae ?_
 refine dz _ (fun ju r s'=> r.1=none/\s'=s/\ ∀y∈ju,∃k',TupV s.heap k' y) _ ?_ ?_ _ _ ⟨rfl,rfl,hvs⟩
 ·rintro y ju r s' ⟨hr,rfl,hy⟩
  obtain⟨k',ok',b,bs',rfl,rd'⟩:=hy y ax
  obtain⟨p',c',d'⟩:=ze.mp ok'
  have nx: ∀y∈ju,∃k',TupV s'.heap k' y:=fun y m=> hy y (az _ m)
  dsimp only
  split
  ·exact aj ⟨rfl,rfl,nx⟩
  ·refine ae (ahh k p rd d ?_)
   (simp only [fk,bn,if_false])
   refine ae (ahh k' p' rd' d' ?_)
   (simp only [fk,bn,if_false])
   refine ae (ahi k p rd d ?_)
   (simp only [bn,if_false])
   refine ae (ahi k' p' rd' d' ?_)
   (simp only [bn,if_false])
   exact aj ⟨rfl,rfl,nx⟩
 ·rintro⟨r1,r2⟩ s' ⟨hr,rfl,_⟩
  simp only at hr
  subst hr
  exact aj h
end
section
variable{prog:bz}{w:bw} --
structure Tb (w:bw) (h:Heap) (es:Array (Int×af)) (t:bt) (kt:List aa):Prop where
 ok:ST.Ok t
 rc:ST.Rc t es
 len:kt.length=es.size
 el: ∀(i:Nat) (k:aa),kt[i]?=some k -> ∃v,es[i]?=some (jv w k,v)/\TupV h k v
 nd:kt.Nodup
 led:t.led= !(w.params.followText "set-order")
 msk:(t.mask=7/\es.size <=4)\/(t.mask=31/\es.size <=18)\/(t.mask=127/\es.size <=76)\/(t.mask=511/\es.size <=306)
theorem Tb.fits{es:Array (Int×af)}(T:Tb w h es t kt):t.fits es.size=true:=by
 simp only [SetTable.fits,am,beq_iff_eq,decide_eq_true_eq]
 refine⟨T.rc.size,?_⟩
 unfold lu
 rw [T.ok.nd]
 have:=T.ok.room
 simpa using this
theorem Tb.odd{es:Array (Int×af)}(T:Tb w h es t kt):t.gaveWay=false:=by
 unfold SetTable.gaveWay
 rcases T.msk with ⟨e,_⟩|⟨e,_⟩|⟨e,_⟩|⟨e,_⟩ <;> rw [e] <;> rfl
theorem Tb.turn{es:Array (Int×af)}(T:Tb w h es t kt):10*SetTable.turns t.mask <=6000:=by
 unfold SetTable.turns
 rcases T.msk with ⟨e,_⟩|⟨e,_⟩|⟨e,_⟩|⟨e,_⟩ <;> rw [e] <;> decide
theorem Tb.hash{es:Array (Int×af)}(T:Tb w h es t kt){k:aa}(e:kt[i]?=some k):ST.ha es i=jv w k:=by
 obtain⟨v,ev,_⟩:=T.el i k e
 unfold ST.ha
 rw [ev];rfl
theorem a3c{s:ak}{k:aa}{v:af}{vs:List af}{Q:SetFound -> ak -> Prop}{X Y:Sem SetFound}(hk:TupV s.heap k v)(hvs: ∀y∈vs,∃k',TupV s.heap k' y)(h:wpAny (model prog w) A X Q E s):
  wpAny (model prog w) A (if (!t.led)=true then (do
   let b←iI v vs
   if b=true then Y else X) else X) Q E s:=by
 split
 ·refine ae (a1a hk vs hvs ?_)
  rw [if_neg aF]
  exact h
 ·exact h
theorem aky {A:bm} {E:af -> ak -> Prop} {s:ak} {a:Addr} {o:Obj} {es:Array (Int×af)} {ep:Nat} {t:bt} {kt:List aa} {k:aa} {v:af} {Q:SetFound -> ak -> Prop}
  (hu:A.units+10 < cLine) (ho:s.heap.get? a=some o) (hd:o.data=.set es ep t) (T:Tb w s.heap es t kt) (hk:TupV s.heap k v)
  (h1:k∈kt -> Q (.there none) s) (h2: ∀kk,k∉kt -> t.slot (ST.adv t kk (t.probeStart (jv w k))).j=.empty -> ST.Full t (jv w k) kk -> Q (.free (ST.adv t kk (t.probeStart (jv w k))).j false) s):
  ∀(fuel k0:Nat) (st:Option SetTable.Probe),st.getD (t.probeStart (jv w k))=ST.adv t k0 (t.probeStart (jv w k)) -> 6001 <=fuel+k0 -> k0 <=6000 -> ST.Full t (jv w k) k0 -> (∀k',k' < k0 -> ∀i,t.slot (ST.adv t k' (t.probeStart (jv w k))).j=.live i -> kt[i]?≠some k) ->
   wpAny (model prog w) A (setSearchFrom a v (jv w k) true fuel st) Q E s
 |0,k0,st,e,f,g,_,_=> by lia
 | fuel +1,k0,st,e,f,g,F,NE=> by
  unfold setSearchFrom
  refine ae (dT ho hd T.fits ?_)
  dsimp only
  rw [T.odd]
  (simp only [bn,if_false])
  rw [e]
  have same: ∀{i:Nat} {kk:Nat},t.slot (ST.adv t kk (t.probeStart (jv w k))).j=.live i -> ST.ha es i≠jv w k -> kt[i]?≠some k:=fun a b c=> b (T.hash c)
  have tt:=T.turn
  generalize hf:t.probe _ (jv w k) (ST.adv t k0 (t.probeStart (jv w k)))=m
  rcases ST.search_step T.ok (ST.ha es) (jv w k) k0 F with ⟨kk,a1,a2,a3,a4,a5⟩|⟨kk,i,a1,a2,a3,ah,a4,a5⟩
  ·obtain rfl:m=some (.empty (ST.adv t kk (t.probeStart (jv w k))).j none):=hf.symm.trans a5
   dsimp only
   refine aj (h2 kk ?_ a3 ?_)
   ·intro m
    obtain⟨i,hi⟩:=d8 m
    obtain⟨v',ev,_⟩:=T.el i k hi
    obtain⟨k2,b1,b2⟩:=ST.elem_met T.ok T.rc a3 ev
    by_cases c:k2 < k0
    ·exact NE k2 c i b2 hi
    ·obtain⟨i',c1,c2⟩:=a4 k2 (by lia) b1
     rw [b2]at c1
     cases c1
     exact c2 (T.hash hi)
   ·intro k' hk'
    by_cases c:k' < k0
    ·exact F k' c
    ·obtain⟨i',c1,_⟩:=a4 k' (by lia) hk'
     exact⟨i',c1⟩
  ·obtain rfl:m=some (.candidate (ST.adv t kk (t.probeStart (jv w k))).j i (ST.adv t (kk+1) (t.probeStart (jv w k)))):=hf.symm.trans a5
   dsimp only
   have hi:i < kt.length:=by
    rw [T.len,←T.rc.size]
    exact (cn.mp ((ST.slot_live T.ok).mp a3)).1
   obtain⟨y,ey,hy⟩:=T.el i kt[i] (av hi)
   refine a3c hk (fun y hy=> ?_) ?_
   ·obtain⟨e,he,rfl⟩:=aR.mp hy
    have he':e∈es.toList:=by
     have:=dh.mp he
     exact dh.mpr (Array.mem_filter.mp this).1
    obtain⟨i2,hi2⟩:=d8 he'
    have l2:i2 < kt.length:=by rw [T.len,←aG];exact (aC.mp hi2).1
    obtain⟨y2,ey2,hy2⟩:=T.el i2 kt[i2] (av l2)
    rw [bG,ey2]at hi2
    cases hi2
    exact⟨_,hy2⟩
   ·skip
    rw [ey]
    dsimp only
    obtain⟨ok',b',bs',rfl,rd'⟩:=hy
    obtain⟨ok,b,bs,rfl,rd⟩:=id hk
    obtain⟨p,c,d⟩:=ze.mp ok
    obtain⟨p',c',d'⟩:=ze.mp ok'
    refine ae (bB (kP kt[i] k A s _ _ _ _ rd' rd c' c (by lia) prog w E _ ?_))
    refine ae (dT ho hd T.fits ?_)
    dsimp only
    by_cases ek:kt[i]=k
    ·rw [show aE kt[i] k=true from (ac3 _ _ p' p).mpr ek]
     (simp only [cp,if_true])
     exact aj (h1 (ek▸bR hi))
    ·rw [show aE kt[i] k=false by
      cases q:aE kt[i] k with
      |false=> rfl
      |true=> exact absurd ((ac3 _ _ p' p).mp q) ek]
     simp only [dB,bn,if_false]
     rw [show t.sameMemory t.moves t.mask=some true by unfold SetTable.sameMemory;simp]
     simp only [if_true]
     rw [a3]
     dsimp only
     rw [ey]
     dsimp only
     refine ae (wpAny_isSame_ref_self ?_)
     simp only [if_true]
     refine ae (aj ?_)
     dsimp only
     refine aky hu ho hd T hk h1 h2 fuel (kk+1) (some _) rfl (by lia) (by lia) (fun k' hk'=> ?_) (fun k' hk' i' hl=> ?_)
     ·by_cases c:k' < k0
      ·exact F k' c
      ·by_cases c2:k' < kk
       ·obtain⟨i',c1,_⟩:=a4 k' (by lia) c2
        exact⟨i',c1⟩
       ·rw [show k'=kk by lia];exact⟨i,a3⟩
     ·by_cases c:k' < k0
      ·exact NE k' c i' hl
      ·by_cases c2:k' < kk
       ·obtain⟨i2,c1,c3⟩:=a4 k' (by lia) c2
        rw [hl]at c1
        cases c1
        exact same hl c3
       ·rw [show k'=kk by lia,a3]at hl
        cases hl
        rw [av hi]
        exact fun z=> ek (by injection z)
structure Tb1 (w:bw) (h:Heap) (es:Array (Int×af)) (t:bt) (kt:List aa):Prop where
 ok:ST.Ok t
 rc:ST.Rc t es
 len:kt.length=es.size
 el: ∀(i:Nat) (k:aa),kt[i]?=some k -> ∃v,es[i]?=some (jv w k,v)/\TupV h k v
 nd:kt.Nodup
 led:t.led= !(w.params.followText "set-order")
theorem att{α:Type}(l:List α)(p:Nat)(x:α):(l.take p++x::l.drop p).Perm (x::l):=by
 have:=List.perm_middle (a:=x) (l₁:=l.take p) (l₂:=l.drop p)
 rwa [dQ]at this
theorem Tb.put{es:Array (Int×af)}{t':bt}{k:aa}{v:af}{kk:Nat}(T:Tb w h es t kt)(hk:TupV h k v)(nm:k∉kt)(F:ST.Full t (jv w k) kk)(he:t.slot (ST.adv t kk (t.probeStart (jv w k))).j=.empty)(hm:t'.mask=t.mask)(hd:t'.dummies=t.dummies)(hld:t'.led=t.led)(hpl:t'.place=dq t.place (eW t.place (ST.adv t kk (t.probeStart (jv w k))).j) (ST.adv t kk (t.probeStart (jv w k))).j):
  ∃kt',Tb1 w h (dq es (eW t.place (ST.adv t kk (t.probeStart (jv w k))).j) (jv w k,v)) t' kt'/\kt'.Perm (k::kt):=by
 obtain⟨o1,r1⟩:=ST.put_ok (x:=v) T.ok T.rc F he (by
  rw [T.rc.size]
  rcases T.msk with ⟨e,c⟩|⟨e,c⟩|⟨e,c⟩|⟨e,c⟩ <;> rw [e] <;> lia) hm hd hpl
 have b1:=(ST.below_spec t.place (ST.adv t kk (t.probeStart (jv w k))).j T.ok.ris).1
 generalize eW t.place (ST.adv t kk (t.probeStart (jv w k))).j=p at*
 have pe:p <=es.size:=by rw [←T.rc.size];exact b1
 have el:(dq es p (jv w k,v)).toList=es.toList.take p++(jv w k,v)::es.toList.drop p:=fW _ _ _
 have pm:=att kt p k
 refine⟨kt.take p++k::kt.drop p,⟨o1,r1,?_,?_,pm.nodup_iff.mpr (df.mpr ⟨nm,T.nd⟩),hld.trans T.led⟩,pm⟩
 ·rw [←aG,el]
  simp only [bj,aP,br,ef,aG,T.len]
 ·intro i k' e
  have get: ∀(i:Nat) (y:Int×af),(es.toList.take p++(jv w k,v)::es.toList.drop p)[i]?=some y -> (dq es p (jv w k,v))[i]?=some y:=fun i y q=> by rw [←bG,el];exact q
  rcases ST.ins_get (by rw [T.len];exact pe) e with ⟨rfl,rfl⟩|⟨q,r⟩|⟨q,r⟩
  ·refine⟨v,get _ _ ?_,hk⟩
   rw [a8 (by rw [br,aG];lia),br,aG,eM pe,lN]
   rfl
  ·obtain⟨v',ev,hv⟩:=T.el i k' r
   refine⟨v',get _ _ ?_,hv⟩
   rw [bd (by rw [br,aG];lia),ee q,bG]
   exact ev
  ·obtain⟨v',ev,hv⟩:=T.el (i - 1) k' r
   refine⟨v',get _ _ ?_,hv⟩
   rw [a8 (by rw [br,aG];lia),br,aG,eM pe,show i - p=(i - p - 1)+1 by lia,gf,im,show p+(i - p - 1)=i - 1 by lia,bG]
   exact ev
end
theorem at6{α β:Type}{f:α -> β}{l:List α}: ∀{ys:List β},ys.Perm (l.map f) -> ∃qs:List α,qs.Perm l/\qs.map f=ys:=by
 intro ys h
 generalize hz:l.map f=zs at h
 induction h generalizing l with
 |nil=>
  cases l with
  |nil=> exact⟨[],.refl _,rfl⟩
  |cons a b=> cases hz
 | cons x h ih=>
  cases l with
  |nil=> cases hz
  |cons a b=>
   cases hz
   obtain⟨qs,p,e⟩:=ih rfl
   exact⟨a::qs,p.cons a,by rw [aN,e]⟩
 | swap x y r=>
  match l,hz with
  |a::b::c,hz=>
   cases hz
   exact⟨b::a::c,.swap _ _ _,rfl⟩
 |trans h1 h2 ih1 ih2=>
  obtain⟨q2,p2,e2⟩:=ih2 hz
  obtain⟨q1,p1,e1⟩:=ih1 e2
  exact⟨q1,p1.trans p2,e1⟩
section
variable{prog:bz}{w:bw} --
abbrev Kp(h h':Heap):Prop:= ∀b o,h.get? b=some o -> h'.get? b=some o
mutual
theorem alx: ∀(d:aa) {h h':Heap} {v:af} {bs:List Addr},plD d=true -> Kp h h' -> cq h v d bs -> cq h' v d bs
 |.none,_,_,_,_,_,_,r=> by cases r;exact .none
 |.int i,_,_,_,_,_,_,r=> by cases r;exact .int _ _
 |.str x,_,_,_,_,_,_,r=> by cases r;exact .str _ _
 |.tuple xs,h,h',v,bs,hp,hs,r=> by
  rw [vh]at hp
  cases r with
  | @tuple b ob items n _ _ h1 h2 h3 h4=> exact .tuple (hs b _ h1) h2 h3 (akc xs hp hs h4)
 |.bool _,_,_,_,_,hp,_,_=> by simp [plD]at hp
 |.list _,_,_,_,_,hp,_,_=> by simp [plD]at hp
 |.dict _,_,_,_,_,hp,_,_=> by simp [plD]at hp
theorem akc: ∀(xs:List aa) {h h':Heap} {vs:List af} {bs:List Addr},ve xs=true -> Kp h h' -> cc h vs xs bs -> cc h' vs xs bs
 |[],_,_,_,_,_,_,r=> by cases r;exact .nil
 |x::xs,_,_,_,_,hp,hs,r=> by
  rw [zc,am]at hp
  cases r with
  |cons r1 r2=> exact .cons (alx x hp.1 hs r1) (akc xs hp.2 hs r2)
end
theorem TupV.kp{h':Heap}{k:aa}{v:af}(t:TupV h k v)(hs:Kp h h'):TupV h' k v:=by
 obtain⟨ok,a,bs,rfl,rd⟩:=t
 exact⟨ok,a,bs,rfl,alx k (ze.mp ok).1 hs rd⟩
theorem Tb.kp{h':Heap}{es:Array (Int×af)}(T:Tb w h es t kt)(hs:Kp h h'):Tb w h' es t kt:=⟨T.ok,T.rc,T.len,fun i k e=> by
 obtain⟨v,a,b⟩:=T.el i k e
 exact⟨v,a,b.kp hs⟩,T.nd,T.led,T.msk⟩
structure SetT0 (w:bw) (h0 h:Heap) (a:Addr) (ks:List aa):Prop where
 ex: ∃o es ep t kt,h.get? a=some o/\o.ExactSet/\o.data=.set es ep t/\Tb w h0 es t kt/\kt.Perm ks
theorem aup{h:Heap}: ∀(kt:List aa) (el:List (Int×af)),kt.length=el.length -> (∀(i:Nat) (k:aa),kt[i]?=some k -> ∃v,el[i]?=some (jv w k,v)/\TupV h k v) ->
  ∃zs:List (aa×af),el=zs.map (fun p=> (jv w p.1,p.2))/\zs.map (fun p=> p.1)=kt/\ ∀p∈zs,TupV h p.1 p.2
 |[],[],_,_=> ⟨[],rfl,rfl,fun _ m=> by cases m⟩
 |[],_::_,e,_=> by cases e
 |_::_,[],e,_=> by cases e
 | k::kt,x::el,e,H=> by
  obtain⟨zs,e1,e2,e3⟩:=aup kt el (by simpa using e) (fun i k' q=> by
   obtain⟨v,a,b⟩:=H (i+1) k' (by simpa using q)
   exact⟨v,by simpa using a,b⟩)
  obtain⟨v,a,b⟩:=H 0 k rfl
  have:x=(jv w k,v):=by simpa using a
  subst this
  exact⟨(k,v)::zs,by rw [aN,e1],by rw [aN,e2],fun p m=> by
   rcases ay.mp m with rfl|m
   ·exact b
   ·exact e3 p m⟩
theorem Tb1.relay{es:Array (Int×af)}(T:Tb1 w h es t kt){led:Bool}(hld:led=t.led){mask finger moves:Nat}{plain:Bool}(hc:ST.cyc mask=true)(hl:es.size <=mask)(hm:(mask=31/\es.size <=18)\/(mask=127/\es.size <=76)\/(mask=511/\es.size <=306)):
  ∃t' od,SetTable.laid mask finger moves led plain (es.map (·.1))=some (t',od)/\(od.filterMap (es[·]?)).size=es.size/\ ∃kt',Tb w h (od.filterMap (es[·]?)) t' kt'/\kt'.Perm kt:=by
 obtain⟨t',od,e,m1,ld1,_,_,_,o1,r1,pm,sz⟩:=ST.laid_ok es (mask:=mask) (finger:=finger) (moves:=moves) (led:=led) (plain:=plain) hc hl
 obtain⟨zs,z1,z2,z3⟩:=aup (w:=w) (h:=h) kt es.toList (by rw [T.len,aG]) (fun i k q=> by
  obtain⟨v,a,b⟩:=T.el i k q
  exact⟨v,by rw [bG];exact a,b⟩)
 have hs:(od.filterMap (es[·]?)).size=es.size:=by
  have:=pm.length_eq
  rwa [aG,aG]at this
 rw [z1]at pm
 obtain⟨qs,qp,qe⟩:=at6 pm
 refine⟨t',od,e,hs,qs.map (fun p=> p.1),⟨o1,r1,?_,?_,?_,ld1.trans (hld.trans T.led),?_⟩,by rw [←z2];exact qp.map _⟩
 ·rw [au,hs,qp.length_eq,←aG,z1,au]
 ·intro i k q
  rw [a9]at q
  cases c:qs[i]? with
  |none=> rw [c]at q;cases q
  |some p=>
   rw [c]at q
   have:p.1=k:=by simpa using q
   subst this
   refine⟨p.2,?_,z3 p (qp.mem_iff.mp (bA c))⟩
   rw [←bG,←qe,a9,c]
   rfl
 ·have:(qs.map fun p=> p.1).Perm kt:=by rw [←z2];exact qp.map _
  exact this.nodup_iff.mpr T.nd
 ·rw [m1,hs]
  rcases hm with ⟨a,b⟩|⟨a,b⟩|⟨a,b⟩
  ·exact .inr (.inl ⟨a,b⟩)
  ·exact .inr (.inr (.inl ⟨a,b⟩))
  ·exact .inr (.inr (.inr ⟨a,b⟩))
theorem aoh{a:Addr}{es:Array (Int×af)}{ep:Nat}(ho:h.get? a=some o)(hd:o.data=.set es ep t)(es':Array (Int×af))(t':bt):(h.update a (f8 es' t')).get? a=some {o with data:=.set es' (ep+1) t'}:=by
 rw [gH _ ho (by rw [putSet_of es' t' hd];rfl),putSet_of es' t' hd]
theorem a1k:eI 20=32:=by decide+kernel
theorem az0:eI 76=128:=by decide+kernel
theorem awz:eI 308=512:=by decide+kernel
theorem a38:ST.cyc 511=true:=by decide+kernel
theorem av9{h0:Heap}{s:ak}{a:Addr}{es:Array (Int×af)}{ep:Nat}{Q:Unit -> ak -> Prop}(ho:s.heap.get? a=some o)(hex:o.ExactSet)(hd:o.data=.set es ep t)(T:Tb1 w h0 es t kt){m:Nat}(hm:(m=5/\es.size=5)\/(m=19/\es.size=19)\/(m=77/\es.size=77))(h: ∀h',de a s.heap h' -> (∃o' es' ep' t' kt',h'.get? a=some o'/\o'.ExactSet/\o'.data=.set es' ep' t'/\Tb w h0 es' t' kt'/\kt'.Perm kt) -> Q () {s with heap:=h'}):
  wpAny (model prog w) A (setRelay a (ca m)) Q E s:=by
 have hf:t.fits es.size=true:=by
  simp only [SetTable.fits,am,beq_iff_eq,decide_eq_true_eq]
  refine⟨T.rc.size,?_⟩
  unfold lu
  rw [T.ok.nd]
  have:=T.ok.room
  simpa using this
 have gr: ∃mask,eI (ca m)=mask+1/\ST.cyc mask=true/\es.size <=mask/\((mask=31/\es.size <=18)\/(mask=127/\es.size <=76)\/(mask=511/\es.size <=306)):=by
  rcases hm with ⟨rfl,e⟩|⟨rfl,e⟩|⟨rfl,e⟩
  ·exact⟨31,by rw [show ca 5=20 from rfl,a1k],ST.cyc31,by lia,.inl ⟨rfl,by lia⟩⟩
  ·exact⟨127,by rw [show ca 19=76 from rfl,az0],ST.cyc127,by lia,.inr (.inl ⟨rfl,by lia⟩)⟩
  ·exact⟨511,by rw [show ca 77=308 from rfl,awz],a38,by lia,.inr (.inr ⟨rfl,by lia⟩)⟩
 obtain⟨mask,g1,g2,g3,g4⟩:=gr
 obtain⟨t',od,e,hs,kt',T',pm⟩:=T.relay (led:=t.led) rfl (finger:=t.finger) (moves:=t.movedTo mask) (plain:=t.plain) g2 g3 g4
 unfold setRelay
 (refine ae (dT ho hd hf ?_))
 dsimp only
 rw [g1,if_neg (by rw [cR];rcases g4 with ⟨a,_⟩|⟨a,_⟩|⟨a,_⟩ <;> lia)]
 have er:t.relaid (es.map (·.1)) (ca m)=some (t',od):=by
  unfold SetTable.relaid
  rw [g1]
  exact e
 rw [er]
 refine ae ?_
 show wpAny _ _ (if ((od.filterMap (es[·]?)).size !=es.size)=true then _ else pure (od.filterMap (es[·]?),t')) _ _ s
 rw [if_neg (by rw [hs];simp)]
 refine aj ?_
 dsimp only
 refine gh ho hd ?_ (by rw [hs,cR];rcases g4 with ⟨a,_⟩|⟨a,_⟩|⟨a,_⟩ <;> lia)
 have sb:=eC s.heap a (f8 (od.filterMap (es[·]?)) t')
 exact h _ sb ⟨{o with data:=.set (od.filterMap (es[·]?)) (ep+1) t'},_,ep+1,t',kt',aoh ho hd _ _,hex,rfl,T',pm⟩
theorem a81{h0:Heap}{s:ak}{a:Addr}{ks:List aa}{k:aa}{v:af}{Q:Bool -> ak -> Prop}(hu:A.units+10 < cLine)(kp:Kp h0 s.heap)(hS:SetT0 w h0 s.heap a ks)(hn:ks.length+1 <=306)(hk0:TupV h0 k v)(h: ∀h',de a s.heap h' -> SetT0 w h0 h' a (if k∈ks then ks else k::ks) -> Q (decide (k∉ks)) {s with heap:=h'}):
  wpAny (model prog w) A (iV a v (jv w k)) Q E s:=by
 obtain⟨o,es,ep,t,kt,ho,hex,hd,T,pm⟩:=hS.ex
 have hsz:es.size=ks.length:=by rw [←T.len,pm.length_eq]
 have hk:=hk0.kp kp
 obtain⟨ok,b,bs,rfl,rd⟩:=id hk
 (unfold iV setAddHashedIn)
 refine bB (ae (dT ho hd T.fits ?_))
 dsimp only
 rw [show byScan (.ref b) es=false from rfl]
 (simp only [bn,if_false])
 unfold setSearch
 refine ae (aky hu ho hd (T.kp kp) hk (fun hm=> ?_) (fun kk nm he F=> ?_) 100000 0 none rfl (by decide) (by decide) (fun k' h'=> by lia) (fun k' h'=> by lia))
 ·have hm':k∈ks:=pm.mem_iff.mp hm
  have:=h s.heap (iH a s.heap) (by rw [if_pos hm'];exact hS)
  rw [decide_eq_false (by simpa using hm')]at this
  exact aj this
 ·have nm':k∉ks:=fun z=> nm (pm.mem_iff.mpr z)
  have h': ∀h',de a s.heap h' -> SetT0 w h0 h' a (k::ks) -> Q true {s with heap:=h'}:=fun h1 a1 a2=> by
   have:=h h1 a1 (by rw [if_neg nm'];exact a2)
   rw [decide_eq_true nm']at this
   exact this
  refine ae (dT ho hd T.fits ?_)
  dsimp only
  rw [ST.put_eq T.ok]
  dsimp only
  have key: ∀t2:bt,t2.mask=t.mask -> t2.dummies=t.dummies -> t2.led=t.led -> t2.place=dq t.place (eW t.place (ST.adv t kk (t.probeStart (jv w k))).j) (ST.adv t kk (t.probeStart (jv w k))).j ->
    wpAny (model prog w) A (do
     storeSet a (dq es (eW t.place (ST.adv t kk (t.probeStart (jv w k))).j) (jv w k,.ref b)) t2
     if (!false&&t2.tooFull)=true then do setRelay a (ca (es.size+1));pure true else pure true) Q E s:=by
   intro t2 m1 m2 m4 m3
   obtain⟨kt',T1,pm1⟩:=T.put (t':=t2) hk0 nm F he m1 m2 m4 m3
   have sz1:=T1.len
   rw [pm1.length_eq,aP,T.len]at sz1
   generalize dq es (eW t.place (ST.adv t kk (t.probeStart (jv w k))).j) (jv w k,bJ b)=es1 at*
   refine ae (gh ho hd ?_ (by rw [←sz1,cR];lia))
   have sb:=eC s.heap a (f8 es1 t2)
   have got:=aoh ho hd es1 t2
   have fill:t2.fill=es.size+1:=by
    unfold lu
    rw [T1.ok.nd,T1.rc.size,←sz1];rfl
   split
   ·rename_i c
    have full:t2.mask*3 <=(es.size+1)*5:=by
     simp only [kE,lv,SetTable.tooFull,decide_eq_true_eq,fill]at c
     exact c
    rw [m1]at full
    have hm:(es.size+1=5/\es1.size=5)\/(es.size+1=19/\es1.size=19)\/(es.size+1=77/\es1.size=77):=by
     rcases T.msk with ⟨e,c⟩|⟨e,c⟩|⟨e,c⟩|⟨e,c⟩ <;> rw [e]at full <;> lia
    refine ae (av9 (s:={s with heap:=s.heap.update a (f8 es1 t2)}) got hex rfl T1 hm fun h2 sb2 ⟨o',es',ep',t',kt2,g1,g2,g3,g4,g5⟩=> ?_)
    exact aj (h' h2 (sb.trans sb2) ⟨o',es',ep',t',kt2,g1,g2,g3,g4,g5.trans (pm1.trans (pm.cons k))⟩)
   ·rename_i c
    have full: ¬t2.mask*3 <=(es.size+1)*5:=by
     intro z
     apply c
     simp only [kE,lv,SetTable.tooFull,decide_eq_true_eq,fill]
     exact z
    rw [m1]at full
    refine aj (h' _ sb ⟨_,es1,ep+1,t2,kt',got,hex,rfl,⟨T1.ok,T1.rc,T1.len,T1.el,T1.nd,T1.led,?_⟩,pm1.trans (pm.cons k)⟩)
    rw [m1]
    rcases T.msk with ⟨e,c⟩|⟨e,c⟩|⟨e,c⟩|⟨e,c⟩ <;> rw [e]at full⊢ <;> lia
  split
  ·refine ae (alj k (ze.mp ok).1 rd fun bv=> ?_)
   cases bv
   ·exact key _ rfl rfl rfl rfl
   ·exact key _ rfl rfl rfl rfl
  ·refine ae (aj ?_)
   exact key _ rfl rfl rfl rfl
end
end PF
namespace L2
open PySem PySem.Spec PyProof.Rows PF
theorem aqy(A:bm):A.in1.units <=A.units+1:=by first|exact aD _|(unfold kH;simp)
noncomputable def aad(l:List aa)(x:aa):List aa:=if x∈l then l else x::l
def ud(xs:List aa):List aa:=xs.foldl aad []
theorem a0q(xs:List aa)(x:aa):ud (xs++ [x])=aad (ud xs) x:=by unfold ud;rw [List.foldl_append];rfl
theorem ahn(xs:List aa):(ud xs).Nodup/\(∀y,y∈ud xs ↔ y∈xs)/\(ud xs).length <=xs.length:=by
 have all: ∀(ys acc:List aa),acc.Nodup -> (ys.foldl aad acc).Nodup/\(∀y,y∈ys.foldl aad acc ↔ y∈acc\/y∈ys)/\(ys.foldl aad acc).length <=acc.length+ys.length:=by
  intro ys
  induction ys with
  |nil=> intro acc h;exact⟨h,by simp,aD _⟩
  | cons z r ih=>
   intro acc h
   have e:aad acc z=if z∈acc then acc else z::acc:=rfl
   by_cases m:z∈acc
   ·rw [if_pos m]at e
    obtain⟨h1,h2,h3⟩:=ih acc h
    rw [cW,e]
    refine⟨h1,fun y=> ?_,by rw [aP];lia⟩
    rw [h2 y,ay]
    exact⟨fun c=> c.elim .inl (fun d=>.inr (.inr d)),fun c=> c.elim .inl (fun d=> d.elim (fun f=>.inl (f▸m)) .inr)⟩
   ·rw [if_neg m]at e
    obtain⟨h1,h2,h3⟩:=ih (z::acc) (df.mpr ⟨m,h⟩)
    rw [cW,e]
    refine⟨h1,fun y=> ?_,by rw [aP]at h3⊢;lia⟩
    rw [h2 y,ay,ay]
    exact⟨fun c=> c.elim (fun d=> d.elim (fun f=>.inr (.inl f)) .inl) (fun d=>.inr (.inr d)),fun c=> c.elim (fun d=>.inl (.inr d)) (fun d=> d.elim (fun f=>.inl (.inl f)) .inr)⟩
 have:=all xs [] hW
 simpa [ud] using this
section
variable{prog:bz}{w:bw}{A:bm}{R:jV -> ak -> Prop}{I:Addr}{wr fp:List Addr}{G:Array iQ -> Array iQ -> Prop}{n:Nat}{P:Nat -> af -> Prop}{St:Nat -> ak -> Prop}
theorem akl{h0:Heap}(hu:A.units+30 < cLine)(W:WalksS prog w A.in1 I fp wr G n P St)(p:Addr)(hp:p∉fp)(hw: ∀b o,h0.get? b=some o -> b∉p::wr)(xs:List aa)(hn:xs.length=n)(hval: ∀i v,P i v -> ∃x,xs[i]?=some x/\TupV h0 x v)(hb:n+1 <=306):
  ∀(j i:Nat) (s:ak),i+j=n -> St i s -> Kp h0 s.heap -> SetT0 w h0 s.heap p (ud (xs.take i)) ->
   (∀s',lP (p::wr) G s s' -> SetT0 w h0 s'.heap p (ud xs) -> R (.ok (.ret .none)) s') ->
   codeAny (model prog w) A (.builtin "set.update.loop" ⟨[.ref p,.ref I],[]⟩) R s:=by
 have hpw:p∉wr:=fun z=> hp (W.sub _ z)
 have up: ∀b∈wr,b∈p::wr:=fun b z=> az _ z
 have stays: ∀{s s':ak} {ks:List aa},lP wr G s s' -> SetT0 w h0 s.heap p ks -> SetT0 w h0 s'.heap p ks:=fun mv z=> by
  obtain⟨o,es,ep,t,kt,ho,q⟩:=z.ex
  exact⟨o,es,ep,t,kt,mv.heap p _ hpw ho,q⟩
 have kps: ∀{s s':ak},lP wr G s s' -> Kp h0 s.heap -> Kp h0 s'.heap:=fun mv z b o e=> mv.heap b o (fun m=> hw b o e (az _ m)) (z b o e)
 intro j
 induction j with
 |zero=>
  intro i s hij hst kp hS hR
  have ei:i=n:=by lia
  subst ei
  refine dO cQ ?_
  rw [d6 bY _]
  refine (show wpAny _ A.in1 (pyNext (.ref I)>>=_) _ _ s from ae (W.done s _ _ hst fun s' mv=> ?_))
  refine aj (hR s' (mv.mono up) ?_)
  have:=stays mv hS
  rw [eO (dH hn)]at this
  exact this
 | succ j ih=>
  intro i s hij hst kp hS hR
  refine dO cQ ?_
  rw [d6 bY _]
  refine (show wpAny _ A.in1 (pyNext (.ref I)>>=_) _ _ s from ae (W.item i s _ _ (by lia) hst fun v s' hP hst' mv=> ?_))
  obtain⟨x,hx,tv⟩:=hval i v hP
  have kp1:=kps mv kp
  show wpAny _ A.in1 (holding [v] (setAdd p v)>>=_) _ _ s'
  refine ae (bB ?_);unfold setAdd
  obtain⟨ok,b0,bs,hv0,rd⟩:=tv.kp kp1
  obtain⟨pd,cd,dd⟩:=ze.mp ok
  have in1:=aqy A
  refine bB (ae (aoj x pd (by rw [hv0];exact rd) (by lia) ?_))
  have few:(ud (xs.take i)).length <=i:=aJ (ahn _).2.2 (by rw [br];lia)
  refine a81 (h0:=h0) (s:={s' with toks:=s'.toks+ac7 x}) (by lia) kp1 (show SetT0 w h0 s'.heap p _ from stays mv hS) (by lia) tv fun h' sb hS2=> ?_
  have et:xs.take (i+1)=xs.take i++ [x]:=by rw [List.take_add_one,hx];rfl
  have hS3:SetT0 w h0 h' p (ud (xs.take (i+1))):=by
   rw [et,a0q]
   exact hS2
  have kp2:Kp h0 h':=fun b o e=> by
   rw [sb.2 b (fun z:b=p=> hw b o e (by rw [z];exact ax))]
   exact kp1 b o e
  refine aj ⟨lm bY _,ih (i+1) _ (by lia) (W.frame _ s' _ _ hst' (fj _ _) fun b hbm o e=> ?_) kp2 hS3 fun s'' mv2 hS''=> ?_⟩
  ·rw [sb.2 b (fun z:b=p=> hp (by rw [←z];exact hbm))];exact e
  ·refine hR s'' (Moved.trans W.gtrans ((mv.mono up).then_heap (fj _ _) fun b o hbm e=> ?_) mv2) hS''
   rw [sb.2 b (fun z:b=p=> hbm (by rw [z];exact ax))];exact e
end
section
variable{prog:bz}{w:bw}{A:bm}{s:ak}{E:af -> ak -> Prop}
set_option maxHeartbeats 8000000 in
theorem aki{a:Addr}{T:String}{oc:Obj}(hh:A.handled=none)(hT:T="list"\/T="tuple")(ho:s.heap.get? a=some oc)(hc:oc.cls=.type T){its:Array af}(hd:oc.data=.seq its k)(hu:A.units+40 < cLine)(xs:List aa)(hlen:xs.length=its.size)(hval: ∀(i:Nat) (v:af),its[i]?=some v -> ∃x,xs[i]?=some x/\TupV s.heap x v)(hb:its.size+1 <=306)(h: ∀(h':Heap) (tk:Nat),SetT0 w s.heap h' s.heap.objs.size (ud xs) -> (∀b o,b < s.heap.objs.size -> s.heap.get? b=some o -> h'.get? b=some o) -> Q (.ref s.heap.objs.size) {s with heap:=h',toks:=tk}):
  wpAny (model prog w) A (call (.type "set") [.ref a]) Q E s:=by
 obtain⟨cm,mrest,m0⟩:=cf.mro
 have m1:=cf.made
 have m2:=cf.sub
 refine wpAny_call (gO (show wpAny _ _ (callAny (.type "set") _) _ _ _ from aj ⟨Code.quiet_builtin _ (by decide+kernel),dO F.entry_type_call ?_⟩))
 rw [Around.under_plain (jZ "set" [.ref a] []) rfl]
 have m3:=cf.notType
 have m4:=cf.canCreate
 have m5:=jQ (.ref a)
 repeat any_goals (first|assumption|wp_step)
 refine dG (a52 (.ref a) (E:=E) (Q1:=fun ob s1=> ∃led:Bool,led= !(w.params.followText "set-order")/\ob=.ref s.heap.objs.size/\s1={s with heap:=s.heap.push {cls:=.type "set",dict:=none,data:=.set #[] 0 (.fresh 0 0 led)}}) ⟨_,rfl,rfl,rfl⟩) fun r s1 hr=> ?_
 cases r with
 |error e=> exact hr
 | ok fl=>
  cases fl with
  | ret ob=>
   obtain⟨led,hled,rfl,rfl⟩:=hr
   have g0:(s.heap.push {cls:=.type "set",dict:=none,data:=.set #[] 0 (.fresh 0 0 led)}).get? s.heap.objs.size=some {cls:=.type "set",dict:=none,data:=.set #[] 0 (.fresh 0 0 led)}:=aQ _ rfl
   have g1:Shared.TypeIs {s with heap:=s.heap.push {cls:=.type "set",dict:=none,data:=.set #[] 0 (.fresh 0 0 led)}} (.ref s.heap.objs.size) "set":=⟨_,g0,rfl⟩
   have m6:=cf.init.lookup
   have m7:=cf.init.bind (.ref s.heap.objs.size)
   repeat any_goals (first|assumption|wp_step)
   refine dG (kK (R:=wants (fun r s2=> r=.none/\ ∃h' tk,s2={s with heap:=h',toks:=tk}/\SetT0 w s.heap h' s.heap.objs.size (ud xs)/\
     (∀b o,b < s.heap.objs.size -> s.heap.get? b=some o -> h'.get? b=some o)) E) cf.init.plain F.entry_set_init (check_set_init_1 g1 ?_)) fun r2 s2 hr2=> ?_
   ·have halt:a < s.heap.objs.size:=aM ho
    obtain⟨o1,o2,o3,o4⟩:=oc
    simp only at hc hd
    subst hc hd
    have g2:(s.heap.push {cls:=.type "set",dict:=none,data:=.set #[] 0 (.fresh 0 0 led)}).get? a=some {cls:=.type T,dict:=o2,data:=.seq its k,slots:=o4}:=aq _ ho
    have h3:A.in1.in1.in1.handled=none:=by simp [hh]
    have neI:a≠(s.heap.push {cls:=.type "set",dict:=none,data:=.set #[] 0 (.fresh 0 0 led)}).objs.size:=by
     rw [bT]
     exact aT (cU halt)
    have nf:s.heap.objs.size∉ [(s.heap.push {cls:=.type "set",dict:=none,data:=.set #[] 0 (.fresh 0 0 led)}).objs.size,a]:=by
     rw [bT]
     simp only [ay,aX,or_false,not_or]
     exact⟨aT (Nat.lt_succ_self _),iR halt⟩
    have s0: ∀{o:Obj},SetT0 w s.heap ((s.heap.push {cls:=.type "set",dict:=none,data:=.set #[] 0 (.fresh 0 0 led)}).push o) s.heap.objs.size (ud (xs.take 0)):=fun {o}=>
     ⟨_,#[],0,_,[],aq _ g0,⟨rfl,rfl,rfl⟩,rfl,⟨⟨rfl,iF,(fun j hj=> by have hj':j∈([]:List Nat):=hj;cases hj'),bX _,ST.cyc7⟩,⟨rfl,(fun i j h x a b=> by simp [SetTable.fresh]at a)⟩,rfl,(fun i k e=> by simp at e),hW,hled,.inl ⟨rfl,bX _⟩⟩,ga _⟩
    have kp0: ∀{o:Obj},Kp s.heap ((s.heap.push {cls:=.type "set",dict:=none,data:=.set #[] 0 (.fresh 0 0 led)}).push o):=fun b o' e=> aq _ (aq _ e)
    have hw: ∀b o,s.heap.get? b=some o -> b∉ [s.heap.objs.size,(s.heap.push {cls:=.type "set",dict:=none,data:=.set #[] 0 (.fresh 0 0 led)}).objs.size]:=fun b o e=> by
     have lb:=aM e
     rw [bT]
     simp only [ay,aX,or_false,not_or]
     exact⟨aT lb,aT (cU lb)⟩
    have hu3:A.in1.in1.units+30 < cLine:=by
     have i1:=aqy A
     have i2:=aqy A.in1
     lia
    have fin: ∀(o:Obj) (s':ak),lP [s.heap.objs.size,(s.heap.push {cls:=.type "set",dict:=none,data:=.set #[] 0 (.fresh 0 0 led)}).objs.size] (fun x y=> y=x) {s with heap:=(s.heap.push {cls:=.type "set",dict:=none,data:=.set #[] 0 (.fresh 0 0 led)}).push o} s' ->
      SetT0 w s.heap s'.heap s.heap.objs.size (ud xs) ->
      ∃h' tk,s'={s with heap:=h',toks:=tk}/\SetT0 w s.heap h' s.heap.objs.size (ud xs)/\(∀b o,b < s.heap.objs.size -> s.heap.get? b=some o -> h'.get? b=some o):=by
     intro o s' mv hS'
     obtain⟨h',ge,dr,tk',oz⟩:=s'
     have e1:ge=s.gens:=mv.gens
     have e2:dr=s.drawn:=mv.drawn
     have e3:oz=s.os:=mv.os
     subst e1 e2 e3
     refine⟨h',tk',rfl,hS',fun b o' hb' e=> mv.heap b o' ?_ (aq _ (aq _ e))⟩
     rw [bT]
     simp only [ay,aX,or_false,not_or]
     exact⟨aT hb',aT (cU hb')⟩
    rcases hT with rfl|rfl
    ·have n1:=kL
     have n2:=ir
     have n3:(bN "list"==bN "dict")=false:=by decide
     have l1:(s.heap.push {cls:=.type "set",dict:=none,data:=.set #[] 0 (.fresh 0 0 led)}).IsList a its:=⟨_,g2,rfl,k,rfl⟩
     unfold d9.«set.__init__» kM dA;generalize hPI:pyIter=PI
     wp_walk
     subst hPI
     refine dU l1 (ae (hZ ?_))
     refine akl (h0:=s.heap) hu3 ((Walks.list h3 _ a neI its).toS) s.heap.objs.size nf hw xs hlen hval hb its.size 0 _ (by lia) ⟨⟨_,aQ _ rfl,rfl,rfl⟩,l1.push _⟩ kp0 s0 ?_
     intro s' mv hS'
     obtain⟨h',tk,rfl,z1,z2⟩:=fin _ s' mv hS'
     exact aj (show wpAny _ _ (ret bu) _ _ _ from aj ⟨rfl,h',tk,rfl,z1,z2⟩)
    ·have n1:=kA
     have n2:=ii
     have n3:(bN "tuple"==bN "dict")=false:=by decide
     have l1:(s.heap.push {cls:=.type "set",dict:=none,data:=.set #[] 0 (.fresh 0 0 led)}).IsTuple a its:=⟨_,g2,rfl,k,rfl⟩
     unfold d9.«set.__init__» kM dA;generalize hPI:pyIter=PI
     wp_walk
     subst hPI
     refine fP l1 (ae (hZ ?_))
     refine akl (h0:=s.heap) hu3 ((Walks.tuple h3 _ a neI its).toS) s.heap.objs.size nf hw xs hlen hval hb its.size 0 _ (by lia) ⟨⟨_,aQ _ rfl,rfl,rfl⟩,?_⟩ kp0 s0 ?_
     ·exact⟨_,aq _ g2,rfl,k,rfl⟩
     intro s' mv hS'
     obtain⟨h',tk,rfl,z1,z2⟩:=fin _ s' mv hS'
     exact aj (show wpAny _ _ (ret bu) _ _ _ from aj ⟨rfl,h',tk,rfl,z1,z2⟩)
   ·cases r2 with
    |error e=> exact hr2
    | ok f2=>
     cases f2 with
     |ret u=>
      obtain⟨rfl,h',tk,rfl,z1,z2⟩:=hr2
      repeat any_goals (first|assumption|wp_step)
      exact h h' tk z1 z2
     |next=> exact hr2.elim
     |brk=> exact hr2.elim
     |cont=> exact hr2.elim
  |next=> exact hr.elim
  |brk=> exact hr.elim
  |cont=> exact hr.elim
end
end L2
namespace PF
open PySem PySem.Spec
open L2
def ai3(w:bw)(p:Addr)(xs:List aa):HO:=.ext fun h=> ∃h0,SetT0 w h0 h p (ud xs)
theorem aw7{h0:Heap}{p:Addr}(hS:SetT0 w h0 h p (ud xs)):j6 P w H h p (ai3 w p xs):=by
 refine⟨⟨h0,hS⟩,?_,fun h1 h2 z k=> ?_⟩
 ·obtain⟨o,_,_,_,_,e,_⟩:=hS.ex
  exact⟨o,e⟩
 ·obtain⟨h3,z⟩:=z
  obtain⟨o,es,ep,t,kt,e,q⟩:=z.ex
  exact⟨h3,⟨o,es,ep,t,kt,k o e,q⟩⟩
def aa0(d:aa):Bool:=af3 d&&(match d with|.tuple _=> true|_=> false)
theorem aj5(h:aa0 d=true):af3 d=true/\ ∃xs,d=.tuple xs:=by
 unfold aa0 at h
 rw [am]at h
 refine⟨h.1,?_⟩
 cases d with
 |tuple xs=> exact⟨xs,rfl⟩
 |_=> cases h.2
theorem ays{v:af}{bs:List Addr}(k:aa0 d=true)(r:cq h v d bs):TupV h d v:=by
 obtain⟨ok,xs,rfl⟩:=aj5 k
 cases r with
 | @tuple a o items n _ _ h1 h2 h3 h4=> exact⟨ok,a,_,rfl,.tuple h1 h2 h3 h4⟩
theorem ad1{h:Heap}: ∀{us:List af} {ds:List aa} {bs:List Addr},cc h us ds bs -> ds.all aa0=true -> us.length=ds.length/\ ∀(i:Nat) (v:af),us[i]?=some v -> ∃x,ds[i]?=some x/\TupV h x v
 |_,_,_,.nil,_=> ⟨rfl,fun i v e=> by simp at e⟩
 | _,_,_,.cons r rs,hk=> by
  rw [cb,am]at hk
  obtain⟨l,g⟩:=ad1 rs hk.2
  refine⟨by simp [l],fun i v e=> ?_⟩
  cases i with
  |zero=>
   have e':=cC (by simpa using e)
   subst e'
   exact⟨_,rfl,ays hk.1 r⟩
  |succ i=>
   obtain⟨x,a,b⟩:=g i v (by simpa using e)
   exact⟨x,by simpa using a,b⟩
def a6y(X:Cx)(vs:List V)(H:Hp)(Q:VK):Prop:= ∃a zs ds as,vs=[.ref a]/\(SqL X.K H a zs\/SqT X.K H a zs)/\TDs as H zs ds/\ds.all aa0=true/\ds.length+1 <=306/\ ∀p H',New H p (ai3 X.w p ds) H' -> Q (.ref p) H'
theorem asn(hc:X.calm=true)(hu:X.A.units+40 < cLine):vq X (.type "set") (a6y X):=by
 intro pins s σ H vs us Q I r h
 obtain⟨a,zs,ds,as,rfl,hS,hT,hk,hl,q⟩:=h
 obtain⟨u,rfl,ru⟩:=vals1 r
 cases ru
 have hh:=I.ok.hd hc
 have fin: ∀(h':Heap) (tk:Nat),SetT0 X.w s.heap h' s.heap.objs.size (ud ds) -> (∀b o,b < s.heap.objs.size -> s.heap.get? b=some o -> h'.get? b=some o) ->
   EP X pins σ Q (.ref s.heap.objs.size) {s with heap:=h',toks:=tk}:=fun h' tk z k=>
  ⟨.ref s.heap.objs.size,upd H s.heap.objs.size (ai3 X.w s.heap.objs.size ds),I.laid (fun b u e=> k b u (aM e) e) (aD _) (aw7 z),rfl,q _ _ ⟨I.fresh,rfl⟩⟩
 rcases hS with hS|hS
 ·obtain⟨its,rv,⟨o,n,e,c,dd,d⟩,z⟩:=I.list hS
  obtain⟨bs,ra⟩:=TDs.reads I hT rv
  obtain⟨l1,g1⟩:=ad1 ra hk
  exact aki hh (.inl rfl) e c d hu ds (by rw [aH];exact l1.symm) (fun i v q=> g1 i v (by simpa using q)) (by rw [aH,l1];exact hl) fin
 ·obtain⟨its,rv,⟨o,e,c,n,d⟩,z⟩:=I.tuple hS
  obtain⟨bs,ra⟩:=TDs.reads I hT rv
  obtain⟨l1,g1⟩:=ad1 ra hk
  exact aki hh (.inr rfl) e c d hu ds (by rw [aH];exact l1.symm) (fun i v q=> g1 i v (by simpa using q)) (by rw [aH,l1];exact hl) fin
theorem asu:vq X (.builtin "len") (fun vs H Q=> ∃a xs,vs=[.ref a]/\H a=some (ai3 X.w a xs)/\Q (.int (ud xs).length) H):=by
 intro pins s σ H vs us Q I r h
 obtain⟨a,xs,rfl,hS,q⟩:=h
 obtain⟨u,rfl,ru⟩:=vals1 r
 cases ru
 obtain⟨⟨h0,hh⟩,_,_⟩:=(show j6 X.prog X.w H s.heap a (ai3 X.w a xs) from I.hok a _ hS)
 obtain⟨o,es,ep,t,kt,e,ex,d,T,pm⟩:=hh.ex
 have hb:es.size <=306:=by rcases T.msk with ⟨_,c⟩|⟨_,c⟩|⟨_,c⟩|⟨_,c⟩ <;> lia
 refine call_len_set e ex d T.fits (by lia) ⟨.int es.size,H,I.tok _,⟨_,rfl⟩,?_⟩
 rw [←T.len,pm.length_eq]
 exact q
theorem apb{f:af}{r1 r2:List V -> Hp -> VK -> Prop}(h1:vq X f r1)(h2:vq X f r2):vq X f (fun vs H Q=> r1 vs H Q\/r2 vs H Q):=fun pins s σ H vs us Q I r h=> h.elim (h1 pins s σ H vs us Q I r) (h2 pins s σ H vs us Q I r)
def zb (ds:List D) (s:S):R D:=match ds with
 | [d]=> match afm s d with
  | some xs=> match ab1 xs with
   |some ss=> if ss.length < 4000 then .ok (.int (j9 ss).length) s else .bad
   |none=> match kg xs with
    |some ps=> if ps.all aa0=true/\ps.length+1 <=306 then .ok (.int (ud ps).length) s else .bad
    |none=>.bad
  |none=>.bad
 |_=>.bad
theorem aqz{f:FA}{p1 p2 pos2:Pos}(hc:X.calm=true)(hu:X.A.units+66 < cLine)(hm1:X.mg "len"=none)(hm2:X.mg "set"=none)(ha:RA X [e] f)(hg1:Gl X "len":=by rfl)(hg2:Gl X "set":=by rfl)(hs:starEach [e] X.env=(false,eval e X.env)::starEach [] X.env:=by rfl)(hs2:starEach [.Call (.Name "set" p2) [e] [] pos2] X.env=(false,eval (.Call (.Name "set" p2) [e] [] pos2) X.env)::starEach [] X.env:=by rfl)(hpl:(backTo pos (starEach [] X.env)).any (·.1)=false:=by rfl)(hpl2:(backTo pos2 (starEach [] X.env)).any (·.1)=false:=by rfl):
  RE X (.Call (.Name "len" p1) [.Call (.Name "set" p2) [e] [] pos2] [] pos) (fCB zb f):=by
 obtain⟨t,pa,ra⟩:=ha.ex
 have pset:=ak0 (X:=X) (apb (aur hc) (asn hc (by lia))) hg2 hm2 a5x pa (pos:=pos2) (p:=p2) (by decide) (by decide) hs hpl2
 have plen:=am9 (X:=X) (apb aud asu) hg1 hm1 ayd (aix pset an7 hs2) (pos:=pos) (p:=p1) (by decide) (by decide) hs2 hpl
 refine⟨_,plen,fun as σ H ρ s Q rl en h=> ?_⟩
 refine ra as σ H ρ s _ rl en (Dn.bind h fun ds s1 as1 H1 vs st1 rl1 r1 h1=> ?_)
 unfold zb at h1
 split at h1
 ·obtain⟨v,rfl,rv⟩:=r1.one
  split at h1
  ·rename_i xs e2
   obtain⟨p,zs,rfl,sq,rz⟩:=ae1 rl1 rv e2
   split at h1
   ·rename_i ss e
    split at h1
    ·rename_i hz
     obtain⟨ez,ex⟩:=apt rz e
     subst ez
     refine .inl ⟨p,ss,rfl,sq,hz,fun q H2 n2=>.inl ⟨q,ss,rfl,n2.at,?_⟩⟩
     exact Dn.now (Q:=Q) (Dn.step h1 (kr n2)) (rl1.new n2) (.da (.int _))
    ·exact h1.elim
   ·split at h1
    ·rename_i ps ep
     split at h1
     ·rename_i hk
      have ep2:=zd ep
      subst ep2
      refine .inr ⟨p,zs,ps,as1,rfl,sq,RDs.td rz,hk.1,hk.2,fun q H2 n2=>.inr ⟨q,ps,rfl,n2.at,?_⟩⟩
      exact Dn.now (Q:=Q) (Dn.step h1 (kr n2)) (rl1.new n2) (.da (.int _))
     ·exact h1.elim
    ·exact h1.elim
  ·exact h1.elim
 ·exact h1.elim
end PF
namespace L2
open PySem PySem.Spec PySem.SeqAt --
theorem aoa{s:ak}{es:Array gI}(b:Str)(u:Tok)(ho:s.heap.get? l=some o)(hc:o.cls=.type "dict")(hd:o.data=.dict es n)(hu:A.units < cLine):RcAt A s (.ref l) (.str b u) false:=fun prog w E Q h=> by
 obtain⟨cls,dd,data,sl⟩:=o
 simp only at hc hd
 subst hc hd
 exact rc_eq_decline_or (k:=false) ⟨_,ho,rfl⟩ (f7 s b u) (by decide) F.sub_str_dict F.slot_dict_eq F.slot_str_eq_refl
  (fun _ hq=> fh F.slot_dict_eq ⟨_,ho,rfl⟩ F.entry_dict_eq (F.args_dict_eq_2 _ _) (ah1 b u l es n dd sl) ⟨ho,hq⟩)
  (fun _ hq=> fh F.slot_str_eq_refl (f7 s b u) F.entry_str_eq (F.args_str_eq_2 _ _) (agy b u l es n dd sl) ⟨ho,hq⟩)
  (fun _ hq=> jP (rfl:isSame (.ref l) (.str b u)=pure false) hq) (.inr hu) h --
end L2
namespace PF
open PySem PySem.Spec
open L2
def am4(dx dy:D)(s:S):R D:=match dx,dy with
 |.da d,.str x=> if aa5 d=false then .ok (.bl false) s else gEq (.da d) (.str x) s
 |dx,dy=> gEq dx dy s
theorem TD.rcStr(I:Inv X pins σ H sh)(hu:A.units < cLine){u:af}(t:TD as H v d)(r:RelV v u)(h:aa5 d=false)(b:Str)(tk:Tok):gW A sh u (.str b tk) false:=by
 cases t with
 |non=> cases (show u=bu from r);exact gW.none_str b tk
 |bl c=> cases (show u=dD c from r);exact gW.bool_str c b tk
 |int i=> obtain⟨t,e⟩:=(show∃t,u=fG i t from r);subst e;exact gW.int_str i t b tk
 |str x=> cases h
 | @tup p xs ds n e q=>
  cases (show u=bJ p from r)
  obtain⟨z,its,rv,pp⟩:=(show j6 X.prog X.w H sh.heap p (.tup xs) from I.hok p _ e)
  exact gW.tuple_str b tk pp.tup hu
 | @lst p xs ds n e q=>
  cases (show u=bJ p from r)
  obtain⟨z,its,k,rv,h1⟩:=(show j6 X.prog X.w H sh.heap p (.lst xs) from I.hok p _ e)
  exact gW.list_str (items:=its.toArray) b tk ⟨_,h1,rfl,k,rfl⟩ hu
 | @dct p n e=>
  cases (show u=bJ p from r)
  obtain⟨hsys,o,es,ep,h1,h2,h3,h4⟩:=ac6 I e
  exact aoa b tk h1 h2 h3 hu
theorem a3t(hu:X.A.units+64 < cLine):Op2 X (aY .Eq) am4:=qj fun pins sh σ H as s x y dx dy v u Q I rl r1 r2 rx ry h=> by
 unfold am4 at h
 split at h
 ·rename_i d z
  split at h
  ·rename_i hd
   cases r2.str_inv
   obtain⟨t',rfl⟩:=ry
   cases r1 with
   |da t=> exact TD.rcStr I (A:=X.A) (by lia) t rx hd z t' X.prog X.w _ _ ⟨.bl false,H,I,rfl,Dn.now (Q:=Q) h rl (.da (.bl _))⟩
  ·obtain⟨r,ho,hr⟩:=(aw8 (X:=X) hu).ex
   exact ho pins sh σ H x y v u Q I rx ry (hr as H s x y _ _ Q rl r1 r2 h)
 ·obtain⟨r,ho,hr⟩:=(aw8 (X:=X) hu).ex
  exact ho pins sh σ H x y v u Q I rx ry (hr as H s x y _ _ Q rl r1 r2 h)
def ama(neg:Bool)(dx dy:D)(s:S):R D:=match dx,dy with
 |.da d,.con ds=> if aa5 d=false then (if asb ds=true then .ok (.bl (nb neg false)) s else .bad) else ahj neg (.da d) (.con ds) s
 |dx,dy=> ahj neg dx dy s
theorem a1m(neg:Bool)(hop:(neg=false/\op=.In)\/(neg=true/\op=.NotIn))(hu:X.A.units+65 < cLine):Op2 X (aY op) (ama neg):=qj fun pins sh σ H as s x y dx dy v u Q I rl r1 r2 rx ry h=> by
 unfold ama at h
 split at h
 ·rename_i d ds
  split at h
  ·rename_i hd
   split at h
   ·rename_i hs
    have hin:=yn X.A
    obtain⟨cs,rd⟩:=r2.reads I rl (show toP s (.con ds)=some (.tuple ds) from rfl) ry
    cases r1 with
    | da t=>
     have hv:=fun b tk=> TD.noStr I (A:=X.A.in1) (by lia) t rx hd b tk
     cases rd with
     | @tuple q oq vs nq _ bs k1 k2 k3 k4=>
      have he:=aso (A:=X.A.in1) hv k4 hs
      rcases hop with ⟨rfl,rfl⟩|⟨rfl,rfl⟩
      ·refine SeqAt.in_tupleAt (fun _=> false) ⟨_,k1,k2,_,k3⟩ (fun y hy=> he y (by simpa using hy)) ⟨.bl _,H,I,rfl,?_⟩
       have:(vs.any fun _=> false)=false:=by simp
       rw [this]
       exact Dn.now (Q:=Q) h rl (.da (.bl _))
      ·refine ly (fun _=> false) ⟨_,k1,k2,_,k3⟩ (fun y hy=> he y (by simpa using hy)) ⟨.bl _,H,I,rfl,?_⟩
       have:(vs.any fun _=> false)=false:=by simp
       rw [this]
       exact Dn.now (Q:=Q) h rl (.da (.bl _))
   ·exact h.elim
  ·obtain⟨r,ho,hr⟩:=(ahw (X:=X) neg hop hu).ex
   exact ho pins sh σ H x y v u Q I rx ry (hr as H s x y _ _ Q rl r1 r2 h)
 ·obtain⟨r,ho,hr⟩:=(ahw (X:=X) neg hop hu).ex
  exact ho pins sh σ H x y v u Q I rx ry (hr as H s x y _ _ Q rl r1 r2 h)
def ahs(neg:Bool)(dx dy:D)(s:S):R D:=match dx,dy with
 |.da _,.lst []=>.ok (.bl (nb neg false)) s
 |dx,dy=> ahj neg dx dy s
theorem a3w(neg:Bool)(hop:(neg=false/\op=.In)\/(neg=true/\op=.NotIn))(hu:X.A.units+65 < cLine):Op2 X (aY op) (ahs neg):=qj fun pins sh σ H as s x y dx dy v u Q I rl r1 r2 rx ry h=> by
 unfold ahs at h
 split at h
 ·obtain⟨p,xs,rfl,n,e,t⟩:=r2.lst_inv
  cases t
  cases (show u=bJ p from ry)
  obtain⟨z,its,k,rv,h1⟩:=(show j6 X.prog X.w H sh.heap p (.lst []) from I.hok p _ e)
  cases rv
  rcases hop with ⟨rfl,rfl⟩|⟨rfl,rfl⟩
  ·exact SeqAt.in_listAt (items:= #[]) (fun _=> false) ⟨_,h1,rfl,k,rfl⟩ (fun y hy=> by simp at hy) ⟨.bl false,H,I,(by simp;rfl),Dn.now (Q:=Q) h rl (.da (.bl false))⟩
  ·exact SeqAt.notIn_listAt (items:= #[]) (fun _=> false) ⟨_,h1,rfl,k,rfl⟩ (fun y hy=> by simp at hy) ⟨.bl true,H,I,(by simp;rfl),Dn.now (Q:=Q) h rl (.da (.bl true))⟩
 ·obtain⟨r,ho,hr⟩:=(ahw (X:=X) neg hop hu).ex
  exact ho pins sh σ H x y v u Q I rx ry (hr as H s x y _ _ Q rl r1 r2 h)
def aj7(dx dy:D)(s:S):R D:=match dx,dy with
 |.da (.tuple xs),.da (.tuple [])=>.ok (.bl (!xs.isEmpty)) s
 |dx,dy=> gNe dx dy s
theorem a56(hu:X.A.units+64 < cLine):Op2 X (aY .NotEq) aj7:=qj fun pins sh σ H as s x y dx dy v u Q I rl r1 r2 rx ry h=> by
 unfold aj7 at h
 split at h
 ·rename_i ds
  obtain⟨p,xs,rfl,n,e,t⟩:=r1.tup_inv
  obtain⟨p2,xs2,rfl,n2,e2,t2⟩:=r2.tup_inv
  cases t2
  cases (show v=bJ p from rx)
  cases (show u=bJ p2 from ry)
  obtain⟨z,its,rv,pp⟩:=(show j6 X.prog X.w H sh.heap p (.tup xs) from I.hok p _ e)
  obtain⟨z2,its2,rv2,pp2⟩:=(show j6 X.prog X.w H sh.heap p2 (.tup []) from I.hok p2 _ e2)
  cases rv2
  refine SeqAt.RcNeAt.tuples (A:=X.A) (items:=its.toArray) (items2:= #[]) (e:=fun _=> true) pp.tup pp2.tup (by lia) (fun j h1 h2=> by simp at h2) X.prog X.w _ _ ⟨.bl _,H,I,rfl,?_⟩
  have hb:(!((aZ (min its.toArray.size (#[]:Array af).size)).all (fun _=> true)&&its.toArray.size==(#[]:Array af).size))= !ds.isEmpty:=by
   cases t with
   |nil=> cases rv;rfl
   |cons a b=> cases rv;simp
  rw [hb]
  exact Dn.now (Q:=Q) h rl (.da (.bl _))
 ·obtain⟨r,ho,hr⟩:=(a54 (X:=X) hu).ex
  exact ho pins sh σ H x y v u Q I rx ry (hr as H s x y _ _ Q rl r1 r2 h)
def abn:GM:=fun d ds s=> match d,ds with
 |.da (.list xs),[.da a]=> if okD a=true/\xs.all okD=true then .ok (.int (xs.countP fun d=> aE d a:Nat)) s else .bad
 |_,_=>.bad
theorem aww(hu:X.A.units+66 < cLine):MB X "list.count" abn:=aqq fun pins sh σ H as s x xs d ds v us Q I rl r1 r2 rv rs h=> by
 unfold abn at h
 split at h
 ·rename_i zs a
  split at h
  ·rename_i hok
   obtain⟨y,rfl,ry⟩:=r2.one
   obtain⟨u,rfl,ru⟩:=vals1 rs
   cases r1 with
   | da t1=>
    cases ry with
    | da t2=>
     obtain⟨bs2,q2⟩:=TD.reads I t2 ru
     cases t1 with
     | @lst p ws _ n e q=>
      cases (show v=bJ p from rv)
      obtain⟨z,its,m,rw,hx⟩:=(show j6 X.prog X.w H sh.heap p (.lst ws) from I.hok p _ e)
      obtain⟨bs1,q1⟩:=TDs.reads I q rw
      have hin:=yn X.A
      have hin2:=yn X.A.in1
      obtain⟨f,hf,hc⟩:=asv (A:=X.A.in1) q2 hok.1 (by lia) q1 hok.2
      refine fh F.slot_list_count ⟨_,hx,rfl⟩ F.entry_list_count (F.args_list_count_2 _ _) (SeqAt.list_countAt p its.toArray m none #[] u f) ⟨hx,fun y hy=> hf y (by simpa using hy),?_⟩
      refine⟨.int _,H,I.tok _,⟨_,rfl⟩,?_⟩
      rw [show its.toArray.toList=its by simp,hc]
      exact Dn.now (Q:=Q) h rl (.da (.int _))
  ·exact h.elim
 ·exact h.elim
end PF
namespace Ln
open PySem L2 PF
def top(i:Nat):Stmt:=PySem.Challenge.pw_mannerports_k25_what_is_a_machine.main.body.getD i (.Pass ⟨0,0,0,0⟩)
noncomputable abbrev ail:Stmt:=top 1
noncomputable abbrev agz:Stmt:=top 2
noncomputable abbrev ai8:Stmt:=top 3
noncomputable abbrev ah2:Stmt:=top 4
noncomputable abbrev ak2:Stmt:=top 8
abbrev ac5:Stmt:=top 9
abbrev ac4:Stmt:=top 10
noncomputable abbrev agu:Stmt:=top 13
noncomputable abbrev ai7:Stmt:=top 14
noncomputable abbrev ajv:Stmt:=top 15
noncomputable abbrev ak3:Stmt:=top 16
noncomputable abbrev ag5:Stmt:=top 19
noncomputable abbrev aik:Stmt:=top 20
noncomputable abbrev akg:Stmt:=top 21
noncomputable abbrev ams:Stmt:=top 22
noncomputable abbrev akf:Stmt:=top 23
abbrev ah3:Stmt:=top 25
abbrev ah8:Stmt:=top 26
abbrev afi:Stmt:=top 27
abbrev ah4:Stmt:=top 28
abbrev agx:Stmt:=top 29
abbrev ae7:Stmt:=top 30
abbrev aih:Stmt:=top 31
abbrev adm:Stmt:=top 32
abbrev ah5:Stmt:=top 33
abbrev afu:Stmt:=top 34
abbrev ag3:Stmt:=top 35
abbrev ae4:Stmt:=top 36
abbrev ag7:Stmt:=top 37
abbrev acv:Stmt:=top 38
abbrev aeb:Stmt:=top 39
abbrev aff:Stmt:=top 40
abbrev ady:Stmt:=top 41
abbrev acd:Stmt:=top 42
abbrev afe:Stmt:=top 43
abbrev ag4:Stmt:=top 44
abbrev ac2:Stmt:=top 45
abbrev abr:Stmt:=top 46
structure Txt0 (K:aw) (mg:Str -> Option af):Prop where
 h_is_whole:Has K mg "is_whole" ail ["thing"]
 h_is_from_0:Has K mg "is_from_0" agz ["thing"]
 h_is_below:Has K mg "is_below" ai8 ["many","thing"]
 h_is_rising:Has K mg "is_rising" ah2 ["things"]
 h_is_port:Has K mg "is_port" ak2 ["thing"]
 h_are_unlike_ports:Has K mg "are_unlike_ports" ac5 ["thing"]
 h_are_rising_ports:Has K mg "are_rising_ports" ac4 ["thing"]
 h_is_things:Has K mg "is_things" agu ["thing"]
 h_is_thing:Has K mg "is_thing" ai7 ["things","thing"]
 h_is_held:Has K mg "is_held" ajv ["things","thing"]
 h_is_told:Has K mg "is_told" ak3 ["things","thing"]
 h_is_machine:Has K mg "is_machine" ag5 ["thing"]
 h_is_begin:Has K mg "is_begin" aik ["things","boxes","thing"]
 h_is_step:Has K mg "is_step" akg ["things","ports","boxes","thing"]
 h_is_tie:Has K mg "is_tie" ams ["things","boxes","thing"]
 h_is_spot:Has K mg "is_spot" akf ["boxes","thing"]
 h__law_tape:Has K mg "_law_tape" ah3 ["_law_script"]
 h__law_draw:Has K mg "_law_draw" ah8 ["_law_tape_here","_law_many"]
 h__law_names:Has K mg "_law_names" afi ["_law_tape_here","_law_many"]
 h__law_told:Has K mg "_law_told" ah4 ["_law_tape_here","_law_things"]
 h__law_step:Has K mg "_law_step" agx ["_law_tape_here","_law_things","_law_ports","_law_boxes","_law_places"]
 h__law_machine:Has K mg "_law_machine" ae7 ["_law_tape_here","_law_things","_law_ports","_law_most"]
 h__law_odd:Has K mg "_law_odd" aih ["_law_tape_here"]
 h__law_lettered:Has K mg "_law_lettered" adm ["_law_tape_here","_law_word"]
 h__law_bent:Has K mg "_law_bent" ah5 ["_law_tape_here","_law_thing"]
 h__law_whole:Has K mg "_law_whole" afu ["_law_thing","_law_least"]
 h__law_below:Has K mg "_law_below" ag3 ["_law_thing","_law_most"]
 h__law_is_port:Has K mg "_law_is_port" ae4 ["_law_thing"]
 h__law_rises:Has K mg "_law_rises" ag7 ["_law_row"]
 h__law_are_ports:Has K mg "_law_are_ports" acv ["_law_thing"]
 h__law_is_spot:Has K mg "_law_is_spot" aeb ["_law_spot","_law_boxes","_law_passing"]
 h__law_is_tie:Has K mg "_law_is_tie" aff ["_law_tie","_law_things","_law_boxes","_law_passing"]
 h__law_is_step:Has K mg "_law_is_step" ady ["_law_step_here","_law_things","_law_ports","_law_boxes"]
 h__law_is_machine:Has K mg "_law_is_machine" acd ["_law_thing"]
 h__law_spoilt:Has K mg "_law_spoilt" afe ["_law_tape_here","_law_machine_here"]
 h__law_right:Has K mg "_law_right" ag4 ["_law_thing"]
 h__law_all_letters:Has K mg "_law_all_letters" ac2 ["_law_tape_here","_law_word"]
 h_law:Has K mg "law" abr ["_law_script"]
 c_SMALL_LETTERS: ∃t,mg "SMALL_LETTERS"=some (.str "abcdefghijklmnopqrstuvwxyz" t)
 c_MOST_LETTERS: ∃t,mg "MOST_LETTERS"=some (.int 8 t)
 c_MOST_THINGS: ∃t,mg "MOST_THINGS"=some (.int 3 t)
 c_BOX_WORDS:awe K mg "BOX_WORDS" [.str "box",.str "next"]
 n_len:mg "len"=none
 n_repr:mg "repr"=none
 n_sorted:mg "sorted"=none
 n_list:mg "list"=none
 n_tuple:mg "tuple"=none
 n_set:mg "set"=none
 n_range:mg "range"=none
 n_isinstance:mg "isinstance"=none
 n_str:mg "str"=none
 n_int:mg "int"=none
 n_bool:mg "bool"=none
 n_all:mg "all"=none
 n_zip:mg "zip"=none
local macro_rules | `(tactic| walk_at $s:str) => do
 let n := s.getString
 unless n.startsWith "ok" do Lean.Macro.throwUnsupported
 let x := (n.drop 2).toString
 let i (p : String) := cH (p ++ x).toName
 let sc := cH `sc
 let hr := cH `hr
 `(tactic| (have $sc:ident := $(i "sc"); exact a4g $(i "T.h_") $sc rfl rfl fun f cdv A outer s H E $hr => by unfold $(i "B"):ident; walk_at "dr"))
local macro_rules | `(tactic| walk_at "cl") => do
 let T := cH `T
 let ns := "okis_whole okis_from_0 okis_below okis_rising okis_port okare_unlike_ports okare_rising_ports okis_things okis_thing okis_held okis_told okis_begin okis_spot okis_tie okis_step okis_machine ok_law_tape ok_law_draw ok_law_names ok_law_told ok_law_step ok_law_machine ok_law_odd ok_law_lettered ok_law_whole ok_law_below ok_law_is_port ok_law_rises ok_law_are_ports ok_law_is_spot ok_law_is_tie ok_law_is_step ok_law_is_machine ok_law_spoilt ok_law_right ok_law_all_letters"
 let a : gX `tactic ← `(tactic| first | assumption | exact $(cH `ok_law_bent) $T _)
 let r ← (ns.splitOn " ").foldrM (init := a) fun n (acc : gX `tactic) => `(tactic| first | exact $(cH n.toName) $T | $acc:tactic)
 return r
theorem aw2:yk X scope [] []:=trivial
theorem atb{ys:List Str}(h:arq X scope y j)(k:yk X scope ys js):yk X scope (y::ys) (j::js):=⟨h,k⟩
local macro_rules | `(tactic| walk_at "dr") => do
 let T := cH `T
 let hr := cH `hr
 let sc := cH `sc
 let ns := "bah:_ bam: bd0:??? bcp:?? bcz: bbr:? baz:_? a8h:_??? bbq:??? bag: bbe:?? bbm:? bax:? bbt: bbn:? a89:????? bc6:?? bb4:?? bc8:??? a9f:|a9s:?? bb7:|a8v:?? ba6:? a9m:|bap:? bco:??? bac:?? a96:? bba:???|bar:??? bb1:? bc4:? a83:?????|bc5:?? bbp:? bav:?? a9c:?|ba9:? bby:?|a1g:????|ba1:? a9k:|a8i: a90:?|a0f:"
 let q ← `(?_)
 let u ← `(_)
 let gs ← (ns.splitOn "|").mapM fun l => do
  let e ← `(tactic| fail)
  (l.splitOn " ").foldrM (init := e) fun x (acc : gX `tactic) => do
   let p := x.splitOn ":"
   let f := cH p.head!.toName
   let as := (p.getLast!.toList.map fun c => if c == '?' then q else u).toArray
   if as.isEmpty then `(tactic| first | exact $f | $acc:tactic) else `(tactic| first | refine $f $as* | $acc:tactic)
 let g (i : Nat) : gX `tactic := gs.getD i ⟨.missing⟩
 `(tactic|
  ((repeat' first
 | (show RE _ _ _; first
  | $(g 0):tactic
  | refine a8q (by walk_at "cl") (($hr).mono (by first | decide | lia)) ?_
  | refine aii a6x ($T).n_isinstance an2 ?_
  | refine aii a6b ($T).n_len ayd ?_
  | exact agi ($T).n_tuple aoo
  | refine aii (a6j rfl) ($T).n_all a69 ?_
  | refine arh a0r ($T).n_tuple aoo ?_
  | refine ayf PySem.F.slot_list_append PySem.F.type_list_append awn ?_ ?_
  | exact agi ($T).n_str ayh
  | refine aii (awo _ (u70 $hr)) ($T).n_sorted axa ?_
  | refine arh (a3m _) ($T).n_list a1z ?_
  | refine aii (a1d $hr) ($T).n_repr a2o ?_
  | exact agi ($T).n_int a66
  | refine aqz rfl (u66 $hr) ($T).n_len ($T).n_set ?_
  | exact agi ($T).n_bool a1n
  | exact ap8 ($T).c_MOST_LETTERS
  | exact az7 ($T).c_SMALL_LETTERS
  | exact ap8 ($T).c_MOST_THINGS
  | exact azz ["box", "next"] ($T).c_BOX_WORDS
  | refine arh a5m ($T).n_str ayh ?_
  | refine a39 PySem.F.slot_str_upper PySem.F.type_str_upper m_upper ?_
  | refine ayf PySem.F.slot_list_count PySem.F.type_list_count (aww (u66 $hr)) ?_ ?_
  | refine a24 PySem.F.slot_tuple_count PySem.F.type_tuple_count (a0t (u66 $hr)) ?_ ?_
  | refine' ay7 _ (own := [_]) (caps := _) _ _ _ _ _ _ _ _ _ _ _
  | refine' ay7 _ (own := [_, _]) (caps := _) _ _ _ _ _ _ _ _ _ _ _)
 | (show RA _ _ _; first
  | $(g 1):tactic
  | exact aug rfl)
 | (show RSs _ _ _; first
  | $(g 2):tactic)
 | (show RS _ _ _; first
  | refine' awf _ (own := [_]) (caps := _) _ _ _ _ _ _ _ _ _ _ _ _ _ _ _
  | refine' atm _ (own := [_, _]) (caps := _) _ _ _ _ _ _ _ _ _ _ _ _ _ _ _ _ _ _ _
  | $(g 3):tactic
  | refine a20 ?_ rfl (by first | exact gP rfl | exact gQ rfl) ?_
  | refine a4s rfl ?_ ?_ ?_)
 | (show RT _ _ _; first
  | $(g 4):tactic
  | refine RW.rt ?_)
 | (show RW _ _ _; first
  | $(g 5):tactic)
 | (show RI _ _ _ _; first
  | $(g 6):tactic
  | refine a3r ($T).n_range ?_
  | refine a0h ($T).n_zip ?_
  | refine a0y ($T).n_range ?_)
 | (show RG _ _ _; first
  | $(g 7):tactic
  | refine a5t rfl ?_
  | refine a7c rfl ?_ ?_)
 | (show ROp _ _ _; first
  | $(g 8):tactic)
 | (show RIfs _ _ _; first
  | $(g 9):tactic)
 | (show PGs _ _ _; first
  | $(g 10):tactic
  | refine ahb (a1g ($sc).nd rfl (by first | exact gP rfl | exact gQ rfl)).pg ?_ rfl)
 | (show Op2 _ _ _; with_reducible first | refine a3t ?_ | refine a3w false ?_ ?_ | refine a1m false ?_ ?_ | refine a56 ?_ | refine aw8 ?_ | refine a5s ?_ | refine a7w ?_ | refine a5u ?_ | refine a54 ?_ | refine azr ?_ | exact a5j _ | exact a6l | exact a7q | exact a8g | exact a6f | exact a8e | exact a65 | exact avb | exact a7s | exact a87 | exact a75 | exact a6g | exact awg | exact a6m | exact a5h)
 | (show _ < cLine; first | exact u64 $hr | exact u65 $hr | exact u66 $hr | exact u70 $hr)
 | exact gP ⟨rfl, rfl⟩
 | exact aw2
 | refine' atb ⟨rfl, by first | exact gQ (gP rfl) | exact gP rfl | exact gQ (gQ rfl), rfl, rfl⟩ _
 | (show _ = _; exact rfl)
 | (show Loc _ _; first | exact gP rfl | exact gQ rfl)
 | (show _ \/ _; first | exact gP rfl | exact gQ rfl)
 | (intro _ _ _ _; show RE _ _ _)
 | (intro _ _ _ _; show RG _ _ _)
 | (intro _ _ _ _; show RIfs _ _ _)
 | (intro _ _ _ _; show RI _ _ _ _)); all_goals first | exact ($sc).nd | exact (show (_ ++ _ : List Str).Nodup by decide +kernel)))
variable{P:bz}{w:bw}{K:aw}{mg:Str -> Option af}{base:Heap}
def Bis_whole:FS:=
  (jj (yt (fCB kw (ja (jb 0) (ja (fC (.ty "int")) jc))) (axn (fCB kw (ja (jb 0) (ja (fC (.ty "bool")) jc))))))
def aas:FF:=j7 1 Bis_whole
theorem auy:aas [a0] s=(Bis_whole [some a0] s).bind jt:=rfl
theorem scis_whole:FnScope ["thing"] ["thing"] (jf ail):=⟨rfl,rfl,rfl,by decide+kernel,rfl,by decide+kernel,by decide+kernel⟩
theorem okis_whole(T:Txt0 K mg):CalF P w K mg base "is_whole" 1 1 aas:=by walk_at "okis_whole"
def Bis_from_0:FS:=
  (jj (yt (jd 1 aas (ja (jb 0) jc)) (fOp gGe (jb 0) (fC (.da (.int 0))))))
def yp:FF:=j7 1 Bis_from_0
theorem aru:yp [a0] s=(Bis_from_0 [some a0] s).bind jt:=rfl
theorem scis_from_0:FnScope ["thing"] ["thing"] (jf agz):=⟨rfl,rfl,rfl,by decide+kernel,rfl,by decide+kernel,by decide+kernel⟩
theorem okis_from_0(T:Txt0 K mg):CalF P w K mg base "is_from_0" 2 1 yp:=by walk_at "okis_from_0"
def Bis_below:FS:=
  (jj (yt (jd 1 aas (ja (jb 1) jc)) (abz gLe gLt (fC (.da (.int 0))) (jb 1) (jb 0))))
def abx:FF:=j7 2 Bis_below
theorem aum:abx [a0,a1] s=(Bis_below [some a0,some a1] s).bind jt:=rfl
theorem scis_below:FnScope ["many","thing"] ["many","thing"] (jf ai8):=⟨rfl,rfl,rfl,by decide+kernel,rfl,by decide+kernel,by decide+kernel⟩
theorem okis_below(T:Txt0 K mg):CalF P w K mg base "is_below" 2 2 abx:=by walk_at "okis_below"
def Bis_rising:FS:=
  (jj (fCB abe (ja (fLc false [] 2 (arp (ja (jb 0) (ja (fSl false (jb 0) (kn (fC (.da (.int 1)))) fNo) jc))) (.t2 (.nm 0) (.nm 1)) kx (fOp arc (jb 0) (jb 1))) jc)))
def zu:FF:=j7 1 Bis_rising
theorem ark:zu [a0] s=(Bis_rising [some a0] s).bind jt:=rfl
theorem scis_rising:FnScope ["things"] ["things"] (jf ah2):=⟨rfl,rfl,rfl,by decide+kernel,rfl,by decide+kernel,by decide+kernel⟩
theorem okis_rising(T:Txt0 K mg):CalF P w K mg base "is_rising" 1 1 zu:=by walk_at "okis_rising"
def Bis_port:FS:=
  (je (jp (kf (jq (j3 (fCB kw (ja (jb 0) (ja (fC (.ty "str")) jc))))) (jq (ji (abz gLe gLe (fC (.da (.int 1))) (fCB k6 (ja (jb 0) jc)) (fC (.da (.int 8))))))) (jj (fC (.da (.bool false)))) jl)
  (jj (fCB abe (ja (fLc false [] 1 (alv (jb 0)) (.nm 0) kx (fOp ar1 (jb 0) (fC (.da (.str "abcdefghijklmnopqrstuvwxyz"))))) jc))))
def ad7:FF:=j7 1 Bis_port
theorem axo:ad7 [a0] s=(Bis_port [some a0] s).bind jt:=rfl
theorem scis_port:FnScope ["thing"] ["thing"] (jf ak2):=⟨rfl,rfl,rfl,by decide+kernel,rfl,by decide+kernel,by decide+kernel⟩
theorem okis_port(T:Txt0 K mg):CalF P w K mg base "is_port" 1 1 ad7:=by walk_at "okis_port"
def Bare_unlike_ports:FS:=
  (je (jp (kf (jq (j3 (fCB kw (ja (jb 0) (ja (fC (.ty "tuple")) jc))))) (jq (j3 (fCB abe (ja (fLc false [] 1 (fIt (jb 0)) (.nm 0) kx (jd 1 ad7 (ja (jb 0) jc))) jc))))) (jj (fC (.da (.bool false)))) jl)
  (jj (fOp gEq (fCB zb (ja (jb 0) jc)) (fCB k6 (ja (jb 0) jc)))))
def ye:FF:=j7 1 Bare_unlike_ports
theorem agt:ye [a0] s=(Bare_unlike_ports [some a0] s).bind jt:=rfl
theorem scare_unlike_ports:FnScope ["thing"] ["thing"] (jf ac5):=⟨rfl,rfl,rfl,by decide+kernel,rfl,by decide+kernel,by decide+kernel⟩
theorem okare_unlike_ports(T:Txt0 K mg):CalF P w K mg base "are_unlike_ports" 2 1 ye:=by walk_at "okare_unlike_ports"
def Bare_rising_ports:FS:=
  (jj (yt (jd 1 ye (ja (jb 0) jc)) (jd 1 zu (ja (jb 0) jc))))
def vy:FF:=j7 1 Bare_rising_ports
theorem ags:vy [a0] s=(Bare_rising_ports [some a0] s).bind jt:=rfl
theorem scare_rising_ports:FnScope ["thing"] ["thing"] (jf ac4):=⟨rfl,rfl,rfl,by decide+kernel,rfl,by decide+kernel,by decide+kernel⟩
theorem okare_rising_ports(T:Txt0 K mg):CalF P w K mg base "are_rising_ports" 3 1 vy:=by walk_at "okare_rising_ports"
def Bis_things:FS:=
  (jj (yt (jd 1 aas (ja (jb 0) jc)) (abz gLe gLe (fC (.da (.int 1))) (jb 0) (fC (.da (.int 3))))))
def ach:FF:=j7 1 Bis_things
theorem aqi:ach [a0] s=(Bis_things [some a0] s).bind jt:=rfl
theorem scis_things:FnScope ["thing"] ["thing"] (jf agu):=⟨rfl,rfl,rfl,by decide+kernel,rfl,by decide+kernel,by decide+kernel⟩
theorem okis_things(T:Txt0 K mg):CalF P w K mg base "is_things" 2 1 ach:=by walk_at "okis_things"
def Bis_thing:FS:=
  (jj (jd 2 abx (ja (jb 0) (ja (jb 1) jc))))
def ac0:FF:=j7 2 Bis_thing
theorem atu:ac0 [a0,a1] s=(Bis_thing [some a0,some a1] s).bind jt:=rfl
theorem scis_thing:FnScope ["things","thing"] ["things","thing"] (jf ai7):=⟨rfl,rfl,rfl,by decide+kernel,rfl,by decide+kernel,by decide+kernel⟩
theorem okis_thing(T:Txt0 K mg):CalF P w K mg base "is_thing" 3 2 ac0:=by walk_at "okis_thing"
def Bis_held:FS:=
  (jj (fOr (fOp gIs (jb 1) (fC (.da (.none)))) (jd 2 ac0 (ja (jb 0) (ja (jb 1) jc)))))
def af9:FF:=j7 2 Bis_held
theorem awl:af9 [a0,a1] s=(Bis_held [some a0,some a1] s).bind jt:=rfl
theorem scis_held:FnScope ["things","thing"] ["things","thing"] (jf ajv):=⟨rfl,rfl,rfl,by decide+kernel,rfl,by decide+kernel,by decide+kernel⟩
theorem okis_held(T:Txt0 K mg):CalF P w K mg base "is_held" 4 2 af9:=by walk_at "okis_held"
def Bis_told:FS:=
  (je (jp (kf (jq (j3 (fCB kw (ja (jb 1) (ja (fC (.ty "tuple")) jc))))) (jq (j3 (fCB abe (ja (fLc false [0] 1 (fIt (jb 1)) (.nm 0) kx (jd 2 ac0 (ja (jb 1) (ja (jb 0) jc)))) jc))))) (jj (fC (.da (.bool false)))) jl)
  (jj (jd 1 zu (ja (jb 1) jc))))
def aes:FF:=j7 2 Bis_told
theorem axw:aes [a0,a1] s=(Bis_told [some a0,some a1] s).bind jt:=rfl
theorem scis_told:FnScope ["things","thing"] ["things","thing"] (jf ak3):=⟨rfl,rfl,rfl,by decide+kernel,rfl,by decide+kernel,by decide+kernel⟩
theorem okis_told(T:Txt0 K mg):CalF P w K mg base "is_told" 4 2 aes:=by walk_at "okis_told"
def Bis_begin:FS:=
  (je (jp (kf (jq (j3 (fCB kw (ja (jb 2) (ja (fC (.ty "tuple")) jc))))) (ji (fOp gNe (fCB k6 (ja (jb 2) jc)) (fC (.da (.int 2)))))) (jj (fC (.da (.bool false)))) jl)
  (je (acy (.t2 (.nm 3) (.nm 4)) (jb 2))
  (je (jp (kf (jq (j3 (jd 1 yp (ja (jb 3) jc)))) (kf (jq (j3 (fCB kw (ja (jb 4) (ja (fC (.ty "tuple")) jc))))) (ji (fOp gNe (fCB k6 (ja (jb 4) jc)) (jb 1))))) (jj (fC (.da (.bool false)))) jl)
  (jj (fCB abe (ja (fLc false [0] 1 (fIt (jb 4)) (.nm 0) kx (jd 2 af9 (ja (jb 1) (ja (jb 0) jc)))) jc))))))
def adh:FF:=j7 5 Bis_begin
theorem aui:adh [a0,a1,a2] s=(Bis_begin [some a0,some a1,some a2,none,none] s).bind jt:=rfl
theorem scis_begin:FnScope ["things","boxes","thing","place","held"] ["things","boxes","thing"] (jf aik):=⟨rfl,rfl,rfl,by decide+kernel,rfl,by decide+kernel,by decide+kernel⟩
theorem okis_begin(T:Txt0 K mg):CalF P w K mg base "is_begin" 5 3 adh:=by walk_at "okis_begin"
def Bis_spot:FS:=
  (je (jp (kf (jq (j3 (fCB kw (ja (jb 1) (ja (fC (.ty "tuple")) jc))))) (ji (fOp gNe (fCB k6 (ja (jb 1) jc)) (fC (.da (.int 2)))))) (jj (fC (.da (.bool false)))) jl)
  (je (acy (.t2 (.nm 2) (.nm 3)) (jb 1))
  (je (jp (ji (fOp am4 (jb 2) (fC (.da (.str "port"))))) (jj (jd 1 ad7 (ja (jb 3) jc))) jl)
  (jj (yt (fOp (ama false) (jb 2) (fC (.con (cA ag ["box","next"])))) (jd 2 abx (ja (jb 0) (ja (jb 3) jc))))))))
def afa:FF:=j7 4 Bis_spot
theorem av8:afa [a0,a1] s=(Bis_spot [some a0,some a1,none,none] s).bind jt:=rfl
theorem scis_spot:FnScope ["boxes","thing","word","at"] ["boxes","thing"] (jf akf):=⟨rfl,rfl,rfl,by decide+kernel,rfl,by decide+kernel,by decide+kernel⟩
theorem okis_spot(T:Txt0 K mg):CalF P w K mg base "is_spot" 3 2 afa:=by walk_at "okis_spot"
def Bis_tie:FS:=
  (je (jp (kf (jq (j3 (fCB kw (ja (jb 2) (ja (fC (.ty "tuple")) jc))))) (ji (fOp gNe (fCB k6 (ja (jb 2) jc)) (fC (.da (.int 2)))))) (jj (fC (.da (.bool false)))) jl)
  (je (acy (.t2 (.nm 3) (.nm 4)) (jb 2))
  (je (jp (kf (jq (j3 (fCB kw (ja (jb 3) (ja (fC (.ty "tuple")) jc))))) (jq (j3 (fCB abe (ja (fLc false [1] 1 (fIt (jb 3)) (.nm 0) kx (jd 2 afa (ja (jb 1) (ja (jb 0) jc)))) jc))))) (jj (fC (.da (.bool false)))) jl)
  (jj (yt (fOp gGt (fCB k6 (ja (jb 3) jc)) (fC (.da (.int 0)))) (yt (jd 1 zu (ja (jb 3) jc)) (yt (jd 2 aes (ja (jb 0) (ja (jb 4) jc))) (fOp gGt (fCB k6 (ja (jb 4) jc)) (fC (.da (.int 0)))))))))))
def agf:FF:=j7 5 Bis_tie
theorem azi:agf [a0,a1,a2] s=(Bis_tie [some a0,some a1,some a2,none,none] s).bind jt:=rfl
theorem scis_tie:FnScope ["things","boxes","thing","spots","told"] ["things","boxes","thing"] (jf ams):=⟨rfl,rfl,rfl,by decide+kernel,rfl,by decide+kernel,by decide+kernel⟩
theorem okis_tie(T:Txt0 K mg):CalF P w K mg base "is_tie" 5 3 agf:=by walk_at "okis_tie"
def Bis_step:FS:=
  (je (jp (kf (jq (j3 (fCB kw (ja (jb 3) (ja (fC (.ty "tuple")) jc))))) (ji (fOp gNe (fCB k6 (ja (jb 3) jc)) (fC (.da (.int 4)))))) (jj (fC (.da (.bool false)))) jl)
  (je (acy (.tn [4,5,6,7]) (jb 3))
  (je (jp (kf (jq (j3 (jd 1 yp (ja (jb 4) jc)))) (kf (jq (j3 (jd 1 yp (ja (jb 7) jc)))) (jq (j3 (fCB kw (ja (jb 6) (ja (fC (.ty "tuple")) jc))))))) (jj (fC (.da (.bool false)))) jl)
  (je (jp (kf (jq (j3 (jd 1 vy (ja (jb 5) jc)))) (jq (j3 (fCB abe (ja (fLc false [1] 1 (fIt (jb 5)) (.nm 0) kx (fOp gIn (jb 0) (jb 1))) jc))))) (jj (fC (.da (.bool false)))) jl)
  (je (jp (jq (j3 (fCB abe (ja (fLc false [0,2] 1 (fIt (jb 6)) (.nm 0) kx (jd 3 agf (ja (jb 1) (ja (jb 2) (ja (jb 0) jc))))) jc)))) (jj (fC (.da (.bool false)))) jl)
  (je (j5 8 (ar5 false [] 2 (fIt (jb 6)) (.nm 0) kx (fIt (fOp gIx (jb 0) (fC (.da (.int 0))))) (.nm 1) kx (jb 1)))
  (je (jp (ji (fOp gLt (fCB zb (ja (jb 8) jc)) (fCB k6 (ja (jb 8) jc)))) (jj (fC (.da (.bool false)))) jl)
  (jj (fOp gEq (fCB (zt false) (ja (fLc false [] 2 (fIt (jb 8)) (.t2 (.nm 0) (.nm 1)) (ji (fOp gEq (jb 0) (fC (.da (.str "port"))))) (jb 1)) jc)) (fCB (aci false) (ja (jb 5) jc)))))))))))
def aev:FF:=j7 9 Bis_step
theorem axr{a3:D}:aev [a0,a1,a2,a3] s=(Bis_step [some a0,some a1,some a2,some a3,none,none,none,none,none] s).bind jt:=rfl
theorem scis_step:FnScope ["things","ports","boxes","thing","begin","passing","ties","end","spots"] ["things","ports","boxes","thing"] (jf akg):=⟨rfl,rfl,rfl,by decide+kernel,rfl,by decide+kernel,by decide+kernel⟩
theorem okis_step(T:Txt0 K mg):CalF P w K mg base "is_step" 6 4 aev:=by walk_at "okis_step"
def Bis_machine:FS:=
  (je (jp (kf (jq (j3 (fCB kw (ja (jb 0) (ja (fC (.ty "tuple")) jc))))) (ji (fOp gNe (fCB k6 (ja (jb 0) jc)) (fC (.da (.int 5)))))) (jj (fC (.da (.bool false)))) jl)
  (je (acy (.tn [1,2,3,4,5]) (jb 0))
  (je (jp (kf (jq (j3 (jd 1 ach (ja (jb 1) jc)))) (kf (jq (j3 (jd 1 vy (ja (jb 2) jc)))) (jq (j3 (jd 1 yp (ja (jb 3) jc)))))) (jj (fC (.da (.bool false)))) jl)
  (je (jp (kf (jq (j3 (jd 3 adh (ja (jb 1) (ja (jb 3) (ja (jb 4) jc)))))) (jq (j3 (fCB kw (ja (jb 5) (ja (fC (.ty "tuple")) jc)))))) (jj (fC (.da (.bool false)))) jl)
  (je (jp (jq (j3 (fCB abe (ja (fLc false [1,2,3] 1 (fIt (jb 5)) (.nm 0) kx (jd 4 aev (ja (jb 1) (ja (jb 2) (ja (jb 3) (ja (jb 0) jc)))))) jc)))) (jj (fC (.da (.bool false)))) jl)
  (jj (fOp gEq (fCB zb (ja (jb 5) jc)) (fCB k6 (ja (jb 5) jc)))))))))
def qx:FF:=j7 6 Bis_machine
theorem ao5:qx [a0] s=(Bis_machine [some a0,none,none,none,none,none] s).bind jt:=rfl
theorem scis_machine:FnScope ["thing","things","ports","boxes","begin","steps"] ["thing"] (jf ag5):=⟨rfl,rfl,rfl,by decide+kernel,rfl,by decide+kernel,by decide+kernel⟩
theorem okis_machine(T:Txt0 K mg):CalF P w K mg base "is_machine" 7 1 qx:=by walk_at "okis_machine"
def B_law_tape:FS:=
  (jj (kv true (ja (fSl false (jb 0) fNo (kn (fC (.da (.int 63))))) (ja (fC (.da (.int 0))) (ja (fC (.da (.int 0))) jc)))))
def ab7:FF:=j7 1 B_law_tape
theorem asi:ab7 [a0] s=(B_law_tape [some a0] s).bind jt:=rfl
theorem sc_law_tape:FnScope ["_law_script"] ["_law_script"] (jf ah3):=⟨rfl,rfl,rfl,by decide+kernel,rfl,by decide+kernel,by decide+kernel⟩
theorem ok_law_tape(T:Txt0 K mg):CalF P w K mg base "_law_tape" 1 1 ab7:=by walk_at "ok_law_tape"
def B_law_draw:FS:=
  (je (jp (ji (fOp gGt (fOp gIx (jb 0) (fC (.da (.int 2)))) (fC (.da (.int 0))))) (je (j5 2 (fOp abc (fOp gIx (jb 0) (fC (.da (.int 2)))) (jb 1)))
  (je (afn (fOp aje (fOp gIx (jb 0) (fC (.da (.int 2)))) (jb 1)) (jb 0) (fC (.da (.int 2))))
  (jj (jb 2)))) jl)
  (je (j5 3 (fOp gIx (jb 0) (fC (.da (.int 1)))))
  (je (afn (fOp (jr false) (jb 3) (fC (.da (.int 1)))) (jb 0) (fC (.da (.int 1))))
  (je (j5 4 (fC (.da (.int 0))))
  (je (jp (ji (fOp gGt (fCB k6 (ja (fOp gIx (jb 0) (fC (.da (.int 0)))) jc)) (fC (.da (.int 0))))) (j5 4 (fOp gIx (fOp gIx (jb 0) (fC (.da (.int 0)))) (fOp abc (jb 3) (fCB k6 (ja (fOp gIx (jb 0) (fC (.da (.int 0)))) jc))))) jl)
  (je (jp (ji (fOp gGe (jb 4) (fOp ajm (fC (.da (.int 10))) (fC (.da (.int 18)))))) (je (afn (fOp aje (jb 4) (jb 1)) (jb 0) (fC (.da (.int 2))))
  (jj (fOp abc (jb 4) (jb 1)))) jl)
  (je (j5 5 (fOp abc (fOp aal (fOp (jr false) (fOp (jr false) (fOp (jr false) (fOp abc (jb 4) (fC (.da (.int 1000003)))) (fOp aal (fOp aal (fC (.da (.int 37))) (jb 3)) (jb 3))) (fOp aal (fC (.da (.int 101))) (jb 3))) (fC (.da (.int 7)))) (fC (.da (.int 48271)))) (fC (.da (.int 2147483587)))))
  (je (j5 5 (fOp abc (fOp (jr false) (fOp aal (jb 5) (fC (.da (.int 69621)))) (fOp aal (fC (.da (.int 7919))) (jb 3))) (fC (.da (.int 2147483549)))))
  (jj (fOp abc (fOp aje (jb 5) (fC (.da (.int 64)))) (jb 1)))))))))))
def jh:FF:=j7 6 B_law_draw
theorem arm:jh [a0,a1] s=(B_law_draw [some a0,some a1,none,none,none,none] s).bind jt:=rfl
theorem sc_law_draw:FnScope ["_law_tape_here","_law_many","_law_found","_law_spot","_law_cell","_law_mixed"] ["_law_tape_here","_law_many"] (jf ah8):=⟨rfl,rfl,rfl,by decide+kernel,rfl,by decide+kernel,by decide+kernel⟩
theorem ok_law_draw(T:Txt0 K mg):CalF P w K mg base "_law_draw" 1 2 jh:=by walk_at "ok_law_draw"
def B_law_names:FS:=
  (je (j5 2 (kv false (fVs (cA D.da [.str "a",.str "ab",.str "abc",.str "net",.str "end",.str "within",.str "to",.str "table",.str "step",.str "box",.str "port",.str "next",.str "b",.str "zzzzzzzz"]))))
  (je (j5 2 (fOp (jr false) (jb 2) (kv false (fVs (cA D.da [.str "both",.str "place",.str "ba"])))))
  (je (j5 3 (jd 2 jh (ja (jb 0) (ja (fC (.da (.int 17))) jc))))
  (je (j5 4 (fOp (jr false) (fC (.da (.int 1))) (jd 2 jh (ja (jb 0) (ja (fC (.da (.int 16))) jc)))))
  (jj (fLc false [2,3,4] 1 (aac (ja (jb 1) jc)) (.nm 0) kx (fOp gIx (jb 1) (fOp abc (fOp (jr false) (jb 2) (fOp aal (jb 3) (jb 0))) (fC (.da (.int 17)))))))))))
def aa6:FF:=j7 5 B_law_names
theorem ao4:aa6 [a0,a1] s=(B_law_names [some a0,some a1,none,none,none] s).bind jt:=rfl
theorem sc_law_names:FnScope ["_law_tape_here","_law_many","_law_some","_law_first","_law_step_here"] ["_law_tape_here","_law_many"] (jf afi):=⟨rfl,rfl,rfl,by decide+kernel,rfl,by decide+kernel,by decide+kernel⟩
theorem ok_law_names(T:Txt0 K mg):CalF P w K mg base "_law_names" 2 2 aa6:=by walk_at "ok_law_names"
def B_law_told:FS:=
  (je (j5 2 (fLc false [0] 1 (aac (ja (jb 1) jc)) (.nm 0) (ji (fOp gEq (jd 2 jh (ja (jb 1) (ja (fC (.da (.int 2))) jc))) (fC (.da (.int 0))))) (jb 0)))
  (jj (fIf (ji (fOp gNe (jb 2) (kv false jc))) (fCB y3 (ja (jb 2) jc)) (j2 (ja (jd 2 jh (ja (jb 0) (ja (jb 1) jc))) jc)))))
def zp:FF:=j7 3 B_law_told
theorem aqm:zp [a0,a1] s=(B_law_told [some a0,some a1,none] s).bind jt:=rfl
theorem sc_law_told:FnScope ["_law_tape_here","_law_things","_law_found"] ["_law_tape_here","_law_things"] (jf ah4):=⟨rfl,rfl,rfl,by decide+kernel,rfl,by decide+kernel,by decide+kernel⟩
theorem ok_law_told(T:Txt0 K mg):CalF P w K mg base "_law_told" 2 2 zp:=by walk_at "ok_law_told"
def B_law_step:FS:=
  (je (j5 5 (fLc false [0] 1 (fIt (jb 2)) (.nm 0) (ji (fOp gEq (jd 2 jh (ja (jb 1) (ja (fC (.da (.int 2))) jc))) (fC (.da (.int 0))))) (jb 0)))
  (je (j5 6 (kv true (ja (kv true jc) (ja (kv true jc) (ja (kv true jc) jc)))))
  (je (ab0 (fIt (jb 5)) (.nm 7) (xk (fMt k7 (fOp gIx (jb 6) (jd 2 jh (ja (jb 0) (ja (fC (.da (.int 3))) jc)))) (ja (j2 (ja (fC (.da (.str "port"))) (ja (jb 7) jc))) jc))))
  (je (ab0 (aac (ja (jb 3) jc)) (.nm 8) (je (j5 9 (jd 2 jh (ja (jb 0) (ja (fC (.da (.int 5))) jc))))
  (je (jp (kf (ji (fOp gLt (jb 9) (fC (.da (.int 2))))) (ji (fOp gEq (jb 9) (fC (.da (.int 4)))))) (xk (fMt k7 (fOp gIx (jb 6) (jd 2 jh (ja (jb 0) (ja (fC (.da (.int 3))) jc)))) (ja (j2 (ja (fC (.da (.str "box"))) (ja (jb 8) jc))) jc))) jl)
  (jp (ji (fOp gIn (jb 9) (j2 (fVs (cA D.da [.int 1,.int 2,.int 4]))))) (xk (fMt k7 (fOp gIx (jb 6) (jd 2 jh (ja (jb 0) (ja (fC (.da (.int 3))) jc)))) (ja (j2 (ja (fC (.da (.str "next"))) (ja (jb 8) jc))) jc))) jl))))
  (je (j5 10 (kv true jc))
  (je (ab0 (fIt (jb 6)) (.nm 11) (jp (ji (fOp gNe (jb 11) (kv false jc))) (xk (fMt k7 (jb 10) (ja (j2 (ja (fCB y3 (ja (fCB (zt false) (ja (jb 11) jc)) jc)) (ja (jd 2 zp (ja (jb 0) (ja (jb 1) jc))) jc))) jc))) jl))
  (je (j5 12 (fOp gIx (jb 4) (jd 2 jh (ja (jb 0) (ja (fCB k6 (ja (jb 4) jc)) jc)))))
  (jj (j2 (ja (jb 12) (ja (fCB y3 (ja (fCB (zt false) (ja (jb 5) jc)) jc)) (ja (fCB y3 (ja (jb 10) jc)) (ja (fOp gIx (jb 4) (jd 2 jh (ja (jb 0) (ja (fCB k6 (ja (jb 4) jc)) jc)))) jc)))))))))))))
def zq:FF:=j7 13 B_law_step
theorem aq6{a3 a4:D}:zq [a0,a1,a2,a3,a4] s=(B_law_step [some a0,some a1,some a2,some a3,some a4,none,none,none,none,none,none,none,none] s).bind jt:=rfl
theorem sc_law_step:FnScope ["_law_tape_here","_law_things","_law_ports","_law_boxes","_law_places","_law_passing","_law_groups","_law_port","_law_box","_law_way","_law_ties","_law_spots","_law_start"] ["_law_tape_here","_law_things","_law_ports","_law_boxes","_law_places"] (jf agx):=⟨rfl,rfl,rfl,by decide+kernel,rfl,by decide+kernel,by decide+kernel⟩
theorem ok_law_step(T:Txt0 K mg):CalF P w K mg base "_law_step" 3 5 zq:=by walk_at "ok_law_step"
def B_law_machine:FS:=
  (je (j5 4 (fOp gIx (kv false (ja (kv false (ja (fC (.da (.int 4))) jc)) (ja (kv false (fVs (cA D.da [.int 0,.int 1]))) (ja (kv false (fVs (cA D.da [.int 1,.int 0]))) (ja (kv false (ja (fOp ajm (fC (.da (.int 10))) (fC (.da (.int 12)))) (ja (fC (.da (.int 3))) (ja (fC (.da (.int 0))) jc)))) jc))))) (jd 2 jh (ja (jb 0) (ja (fC (.da (.int 4))) jc)))))
  (je (j5 5 (jd 2 jh (ja (jb 0) (ja (fC (.da (.int 3))) jc))))
  (je (j5 6 (kv true jc))
  (je (ab0 (aac (ja (jd 2 jh (ja (jb 0) (ja (fOp (jr false) (jb 3) (fC (.da (.int 1)))) jc))) jc)) (.nm 7) (je (j5 8 (jd 5 zq (ja (jb 0) (ja (jb 1) (ja (jb 2) (ja (jb 5) (ja (jb 4) jc)))))))
  (jp (ji (fOp yj (jb 8) (jb 6))) (xk (fMt k7 (jb 6) (ja (jb 8) jc))) jl)))
  (je (j5 9 (fCB y3 (ja (fLc false [0,1] 1 (aac (ja (jb 5) jc)) (.nm 0) kx (fOp gIx (kv false (ja (fC (.da (.none))) (ja (jd 2 jh (ja (jb 1) (ja (jb 2) jc))) jc))) (jd 2 jh (ja (jb 1) (ja (fC (.da (.int 2))) jc))))) jc)))
  (jj (j2 (ja (jb 1) (ja (fCB y3 (ja (fCB (zt false) (ja (jb 2) jc)) jc)) (ja (jb 5) (ja (j2 (ja (fOp gIx (jb 4) (fC (.da (.int 0)))) (ja (jb 9) jc))) (ja (fCB y3 (ja (jb 6) jc)) jc))))))))))))
def y4:FF:=j7 10 B_law_machine
theorem al2{a3:D}:y4 [a0,a1,a2,a3] s=(B_law_machine [some a0,some a1,some a2,some a3,none,none,none,none,none,none] s).bind jt:=rfl
theorem sc_law_machine:FnScope ["_law_tape_here","_law_things","_law_ports","_law_most","_law_places","_law_boxes","_law_steps","_law_k","_law_step_here","_law_held"] ["_law_tape_here","_law_things","_law_ports","_law_most"] (jf ae7):=⟨rfl,rfl,rfl,by decide+kernel,rfl,by decide+kernel,by decide+kernel⟩
theorem ok_law_machine(T:Txt0 K mg):CalF P w K mg base "_law_machine" 4 4 y4:=by walk_at "ok_law_machine"
def B_law_odd:FS:=
  (je (j5 1 (kv false (ja (fC (.da (.none))) (ja (fC (.da (.bool true))) (ja (fC (.da (.bool false))) (ja (fC (.da (.int 0))) (ja (fC (.da (.int 1))) (ja (afw (fC (.da (.int 1)))) (ja (fC (.da (.int 3))) (ja (fC (.da (.str ""))) (ja (fC (.da (.str "a"))) (ja (fC (.da (.str "box"))) (ja (fC (.da (.str "port"))) (ja (fC (.da (.str "next"))) (ja (j2 jc) (ja (kv false jc) (ja aqv jc)))))))))))))))))
  (jj (fOp gIx (fOp (jr false) (jb 1) (kv false (ja (j2 (fVs (cA D.da [.str "box",.int 0]))) (ja (j2 (fVs (cA D.da [.str "port",.str "a"]))) (ja (fOp ajm (fC (.da (.int 10))) (fC (.da (.int 30)))) jc))))) (jd 2 jh (ja (jb 0) (ja (fC (.da (.int 18))) jc))))))
def zj:FF:=j7 2 B_law_odd
theorem aun:zj [a0] s=(B_law_odd [some a0,none] s).bind jt:=rfl
theorem sc_law_odd:FnScope ["_law_tape_here","_law_some"] ["_law_tape_here"] (jf aih):=⟨rfl,rfl,rfl,by decide+kernel,rfl,by decide+kernel,by decide+kernel⟩
theorem ok_law_odd(T:Txt0 K mg):CalF P w K mg base "_law_odd" 2 1 zj:=by walk_at "ok_law_odd"
def B_law_lettered:FS:=
  (je (j5 2 (jd 2 jh (ja (jb 0) (ja (fOp (jr false) (fCB k6 (ja (jb 1) jc)) (fC (.da (.int 1)))) jc))))
  (je (j5 3 (fOp gIx (fC (.da (.str "abcdefghijklmnopqrstuvwxyz_A0~"))) (jd 2 jh (ja (jb 0) (ja (fC (.da (.int 30))) jc)))))
  (jj (fOp gIx (kv false (ja (fOp (jr false) (fOp (jr false) (fSl false (jb 1) fNo (kn (jb 2))) (jb 3)) (fSl false (jb 1) (kn (jb 2)) fNo)) (ja (fOp (jr false) (fOp (jr false) (fSl false (jb 1) fNo (kn (jb 2))) (jb 3)) (fSl false (jb 1) (kn (fOp (jr false) (jb 2) (fC (.da (.int 1))))) fNo)) (ja (fOp (jr false) (fSl false (jb 1) fNo (kn (jb 2))) (fSl false (jb 1) (kn (fOp (jr false) (jb 2) (fC (.da (.int 1))))) fNo)) jc)))) (jd 2 jh (ja (jb 0) (ja (fC (.da (.int 3))) jc)))))))
def zw:FF:=j7 4 B_law_lettered
theorem ajs:zw [a0,a1] s=(B_law_lettered [some a0,some a1,none,none] s).bind jt:=rfl
theorem sc_law_lettered:FnScope ["_law_tape_here","_law_word","_law_at","_law_new"] ["_law_tape_here","_law_word"] (jf adm):=⟨rfl,rfl,rfl,by decide+kernel,rfl,by decide+kernel,by decide+kernel⟩
theorem ok_law_lettered(T:Txt0 K mg):CalF P w K mg base "_law_lettered" 2 2 zw:=by walk_at "ok_law_lettered"
def ab4(jw:FF):FS:=
  (jj (jd 1 zj (ja (jb 0) jc)))
def aba(jw:FF):FS:=
  (je (jp (adc (j3 (fCB kw (ja (jb 1) (ja (fC (.ty "str")) jc)))) (ji (fOp gLt (jb 3) (fC (.da (.int 7)))))) (jj (fOp gIx (fOp (jr false) (fLc false [0,1] 1 (aac (ja (fC (.da (.int 4))) jc)) (.nm 0) kx (jd 2 zw (ja (jb 1) (ja (jb 2) jc)))) (kv false (ja (fMs ae9 (jb 1) jc) (ja (fC (.da (.str "box"))) (ja (fC (.da (.str "next"))) jc))))) (jb 3))) jl)
  (ab4 jw))
def ab6(jw:FF):FS:=
  (je (jp (adc (j3 (fCB kw (ja (jb 1) (ja (fC (.ty "int")) jc)))) (ji (fOp gLt (jb 3) (fC (.da (.int 6)))))) (jj (fOp gIx (kv false (ja (fOp (jr false) (jb 1) (fC (.da (.int 1)))) (ja (fOp adq (jb 1) (fC (.da (.int 1)))) (ja (fOp gEq (jb 1) (fC (.da (.int 1)))) (ja (fCB an6 (ja (jb 1) jc)) (ja (fOp (jr false) (jb 1) (fC (.da (.int 2)))) (ja (fOp adq (afw (fC (.da (.int 1)))) (jb 1)) jc))))))) (jb 3))) jl)
  (aba jw))
def ab2(jw:FF):FS:=
  (je (jp (adc (j3 (fCB kw (ja (jb 1) (ja (fC (.ty "tuple")) jc)))) (ji (fOp gLt (jb 3) (fC (.da (.int 6)))))) (je (j5 2 (jd 2 jh (ja (jb 0) (ja (fOp (jr false) (fCB k6 (ja (jb 1) jc)) (fC (.da (.int 1)))) jc))))
  (je (j5 4 (kv false (ja (fCB (aci false) (ja (jb 1) jc)) (ja (fOp (jr false) (fSl false (jb 1) fNo (kn (jb 2))) (fSl false (jb 1) (kn (fOp (jr false) (jb 2) (fC (.da (.int 1))))) fNo)) (ja (fOp (jr false) (fOp (jr false) (fSl false (jb 1) fNo (kn (jb 2))) (fSl false (jb 1) (kn (jb 2)) (kn (fOp (jr false) (jb 2) (fC (.da (.int 1))))))) (fSl false (jb 1) (kn (jb 2)) fNo)) (ja (ar0 (jb 1) (afw (fC (.da (.int 1))))) jc))))))
  (jj (fOp gIx (fOp (jr false) (jb 4) (kv false (ja (fOp (jr false) (fOp (jr false) (fSl false (jb 1) fNo (kn (jb 2))) (j2 (ja (jd 1 zj (ja (jb 0) jc)) jc))) (fSl false (jb 1) (kn (jb 2)) fNo)) (ja (fSl false (jb 1) fNo (kn (jb 2))) jc)))) (jb 3))))) jl)
  (ab6 jw))
def zk(jw:FF):FS:=
  (je (j5 3 (jd 2 jh (ja (jb 0) (ja (fC (.da (.int 8))) jc))))
  (ab2 jw))
def B_law_bent(jw:FF):FS:=
  (je (jp (adc (j3 (fCB kw (ja (jb 1) (ja (fC (.ty "tuple")) jc)))) (adc (ji (fOp gGt (fCB k6 (ja (jb 1) jc)) (fC (.da (.int 0))))) (ji (fOp gGt (jd 2 jh (ja (jb 0) (ja (fC (.da (.int 5))) jc))) (fC (.da (.int 0))))))) (je (j5 2 (jd 2 jh (ja (jb 0) (ja (fCB k6 (ja (jb 1) jc)) jc))))
  (jj (fOp (jr false) (fOp (jr false) (fSl false (jb 1) fNo (kn (jb 2))) (j2 (ja (jd 2 jw (ja (jb 0) (ja (fOp gIx (jb 1) (jb 2)) jc))) jc))) (fSl false (jb 1) (kn (fOp (jr false) (jb 2) (fC (.da (.int 1))))) fNo)))) jl)
  (zk jw))
def jw:Nat -> FF
 |0=> a3p
 |n+1=> j7 5 (B_law_bent (jw n))
theorem aro:jw (n+1) [a0,a1] s=(B_law_bent (jw n) [some a0,some a1,none,none,none] s).bind jt:=rfl
theorem sc_law_bent:FnScope ["_law_tape_here","_law_thing","_law_at","_law_way","_law_turned"] ["_law_tape_here","_law_thing"] (jf ah5):=⟨rfl,rfl,rfl,by decide+kernel,rfl,by decide+kernel,by decide+kernel⟩
theorem ok_law_bent(T:Txt0 K mg): ∀n:Nat,CalF P w K mg base "_law_bent" (3+n) 2 (jw n)
 |0=> (azw (k:=2) T.h__law_bent sc_law_bent rfl)
 | n+1=> by
  have ih:=ok_law_bent T n
  have sc:=sc_law_bent
  exact a4g (k:=3+n) T.h__law_bent sc rfl rfl fun f cdv A outer s H E hr=> by
   unfold B_law_bent zk ab2 ab6 aba ab4
   walk_at "dr"
def B_law_whole:FS:=
  (jj (yt (fCB kw (ja (jb 0) (ja (fC (.ty "int")) jc))) (yt (axn (fCB kw (ja (jb 0) (ja (fC (.ty "bool")) jc)))) (fOp gGe (jb 0) (jb 1)))))
def vm:FF:=j7 2 B_law_whole
theorem ao7:vm [a0,a1] s=(B_law_whole [some a0,some a1] s).bind jt:=rfl
theorem sc_law_whole:FnScope ["_law_thing","_law_least"] ["_law_thing","_law_least"] (jf afu):=⟨rfl,rfl,rfl,by decide+kernel,rfl,by decide+kernel,by decide+kernel⟩
theorem ok_law_whole(T:Txt0 K mg):CalF P w K mg base "_law_whole" 1 2 vm:=by walk_at "ok_law_whole"
def B_law_below:FS:=
  (jj (yt (jd 2 vm (ja (jb 0) (ja (fC (.da (.int 0))) jc))) (fOp gLt (jb 0) (jb 1))))
def y8:FF:=j7 2 B_law_below
theorem ao8:y8 [a0,a1] s=(B_law_below [some a0,some a1] s).bind jt:=rfl
theorem sc_law_below:FnScope ["_law_thing","_law_most"] ["_law_thing","_law_most"] (jf ag3):=⟨rfl,rfl,rfl,by decide+kernel,rfl,by decide+kernel,by decide+kernel⟩
theorem ok_law_below(T:Txt0 K mg):CalF P w K mg base "_law_below" 2 2 y8:=by walk_at "ok_law_below"
def B_law_is_port:FS:=
  (je (jp (kf (jq (j3 (fCB kw (ja (jb 0) (ja (fC (.ty "str")) jc))))) (jq (ji (abz gLe gLe (fC (.da (.int 1))) (fCB k6 (ja (jb 0) jc)) (fC (.da (.int 8))))))) (jj (fC (.da (.bool false)))) jl)
  (jj (fOp gEq (fLc false [] 1 (alv (jb 0)) (.nm 0) (ji (fOp ag9 (jb 0) (fC (.da (.str "abcdefghijklmnopqrstuvwxyz"))))) (jb 0)) (kv false jc))))
def aa8:FF:=j7 1 B_law_is_port
theorem al6:aa8 [a0] s=(B_law_is_port [some a0] s).bind jt:=rfl
theorem sc_law_is_port:FnScope ["_law_thing"] ["_law_thing"] (jf ae4):=⟨rfl,rfl,rfl,by decide+kernel,rfl,by decide+kernel,by decide+kernel⟩
theorem ok_law_is_port(T:Txt0 K mg):CalF P w K mg base "_law_is_port" 1 1 aa8:=by walk_at "ok_law_is_port"
def B_law_rises:FS:=
  (jj (fOp gEq (fLc false [0] 1 (arl (ja (fC (.da (.int 1))) (ja (fCB k6 (ja (jb 0) jc)) jc))) (.nm 0) (ji (fOp asg (fOp gIx (jb 1) (fOp adq (jb 0) (fC (.da (.int 1))))) (fOp gIx (jb 1) (jb 0)))) (jb 0)) (kv false jc)))
def yb:FF:=j7 1 B_law_rises
theorem aoe:yb [a0] s=(B_law_rises [some a0] s).bind jt:=rfl
theorem sc_law_rises:FnScope ["_law_row"] ["_law_row"] (jf ag7):=⟨rfl,rfl,rfl,by decide+kernel,rfl,by decide+kernel,by decide+kernel⟩
theorem ok_law_rises(T:Txt0 K mg):CalF P w K mg base "_law_rises" 1 1 yb:=by walk_at "ok_law_rises"
def B_law_are_ports:FS:=
  (jj (yt (fCB kw (ja (jb 0) (ja (fC (.ty "tuple")) jc))) (yt (fOp yj (fC (.da (.bool false))) (fLc false [] 1 (fIt (jb 0)) (.nm 0) kx (jd 1 aa8 (ja (jb 0) jc)))) (jd 1 yb (ja (jb 0) jc)))))
def xv:FF:=j7 1 B_law_are_ports
theorem aia:xv [a0] s=(B_law_are_ports [some a0] s).bind jt:=rfl
theorem sc_law_are_ports:FnScope ["_law_thing"] ["_law_thing"] (jf acv):=⟨rfl,rfl,rfl,by decide+kernel,rfl,by decide+kernel,by decide+kernel⟩
theorem ok_law_are_ports(T:Txt0 K mg):CalF P w K mg base "_law_are_ports" 2 1 xv:=by walk_at "ok_law_are_ports"
def B_law_is_spot:FS:=
  (je (jp (kf (jq (j3 (fCB kw (ja (jb 0) (ja (fC (.ty "tuple")) jc))))) (kf (ji (fOp gNe (fCB k6 (ja (jb 0) jc)) (fC (.da (.int 2))))) (jq (j3 (fCB kw (ja (fOp gIx (jb 0) (fC (.da (.int 0)))) (ja (fC (.ty "str")) jc))))))) (jj (fC (.da (.bool false)))) jl)
  (je (jp (ji (fOp gEq (fOp gIx (jb 0) (fC (.da (.int 0)))) (fC (.da (.str "port"))))) (jj (fOp (ahs false) (fOp gIx (jb 0) (fC (.da (.int 1)))) (fLc false [0] 1 (fIt (jb 2)) (.nm 0) (j3 (fCB kw (ja (fOp gIx (jb 1) (fC (.da (.int 1)))) (ja (fC (.ty "str")) jc)))) (jb 0)))) jl)
  (jj (yt (fOp (ahs false) (fOp gIx (jb 0) (fC (.da (.int 0)))) (kv false (fVs (cA D.da [.str "box",.str "next"])))) (jd 2 y8 (ja (fOp gIx (jb 0) (fC (.da (.int 1)))) (ja (jb 1) jc)))))))
def aaa:FF:=j7 3 B_law_is_spot
theorem al4:aaa [a0,a1,a2] s=(B_law_is_spot [some a0,some a1,some a2] s).bind jt:=rfl
theorem sc_law_is_spot:FnScope ["_law_spot","_law_boxes","_law_passing"] ["_law_spot","_law_boxes","_law_passing"] (jf aeb):=⟨rfl,rfl,rfl,by decide+kernel,rfl,by decide+kernel,by decide+kernel⟩
theorem ok_law_is_spot(T:Txt0 K mg):CalF P w K mg base "_law_is_spot" 3 3 aaa:=by walk_at "ok_law_is_spot"
def B_law_is_tie:FS:=
  (je (jp (kf (jq (j3 (fCB kw (ja (jb 0) (ja (fC (.ty "tuple")) jc))))) (kf (ji (fOp aj7 (fCB k6 (ja (jb 0) jc)) (fC (.da (.int 2))))) (ji (fOp gIn (fC (.da (.bool false))) (fLc false [] 1 (fIt (jb 0)) (.nm 0) kx (yt (fCB kw (ja (jb 0) (ja (fC (.ty "tuple")) jc))) (fOp aj7 (jb 0) (j2 jc)))))))) (jj (fC (.da (.bool false)))) jl)
  (je (jp (kf (ji (fOp gIn (fC (.da (.bool false))) (fLc false [2,3] 1 (fIt (fOp gIx (jb 0) (fC (.da (.int 0))))) (.nm 0) kx (jd 3 aaa (ja (jb 0) (ja (jb 1) (ja (jb 2) jc))))))) (jq (j3 (jd 1 yb (ja (fOp gIx (jb 0) (fC (.da (.int 0)))) jc))))) (jj (fC (.da (.bool false)))) jl)
  (jj (yt (fOp yj (fC (.da (.bool false))) (fLc false [1] 1 (fIt (fOp gIx (jb 0) (fC (.da (.int 1))))) (.nm 0) kx (jd 2 y8 (ja (jb 0) (ja (jb 1) jc))))) (jd 1 yb (ja (fOp gIx (jb 0) (fC (.da (.int 1)))) jc))))))
def ab3:FF:=j7 4 B_law_is_tie
theorem anp{a3:D}:ab3 [a0,a1,a2,a3] s=(B_law_is_tie [some a0,some a1,some a2,some a3] s).bind jt:=rfl
theorem sc_law_is_tie:FnScope ["_law_tie","_law_things","_law_boxes","_law_passing"] ["_law_tie","_law_things","_law_boxes","_law_passing"] (jf aff):=⟨rfl,rfl,rfl,by decide+kernel,rfl,by decide+kernel,by decide+kernel⟩
theorem ok_law_is_tie(T:Txt0 K mg):CalF P w K mg base "_law_is_tie" 4 4 ab3:=by walk_at "ok_law_is_tie"
def B_law_is_step:FS:=
  (je (jp (kf (jq (j3 (fCB kw (ja (jb 0) (ja (fC (.ty "tuple")) jc))))) (kf (ji (fOp gNe (fCB k6 (ja (jb 0) jc)) (fC (.da (.int 4))))) (kf (jq (j3 (jd 2 vm (ja (fOp gIx (jb 0) (fC (.da (.int 0)))) (ja (fC (.da (.int 0))) jc))))) (jq (j3 (jd 2 vm (ja (fOp gIx (jb 0) (fC (.da (.int 3)))) (ja (fC (.da (.int 0))) jc)))))))) (jj (fC (.da (.bool false)))) jl)
  (je (acy (.tn [4,5,6,7]) (jb 0))
  (je (jp (kf (jq (j3 (jd 1 xv (ja (jb 5) jc)))) (ji (fOp gNe (fLc false [2] 1 (fIt (jb 5)) (.nm 0) (ji (fOp yj (jb 0) (jb 1))) (jb 0)) (kv false jc)))) (jj (fC (.da (.bool false)))) jl)
  (je (jp (kf (jq (j3 (fCB kw (ja (jb 6) (ja (fC (.ty "tuple")) jc))))) (ji (fOp gIn (fC (.da (.bool false))) (fLc false [1,3,5] 1 (fIt (jb 6)) (.nm 0) kx (jd 4 ab3 (ja (jb 0) (ja (jb 1) (ja (jb 2) (ja (jb 3) jc))))))))) (jj (fC (.da (.bool false)))) jl)
  (je (j5 8 (kv false jc))
  (je (ab0 (fIt (jb 6)) (.nm 9) (j5 8 (fOp (jr false) (jb 8) (fCB (aci false) (ja (fOp gIx (jb 9) (fC (.da (.int 0)))) jc)))))
  (je (jp (ji (fOp gNe (fLc false [8] 1 (fIt (jb 8)) (.nm 0) (ji (fOp gGt (fMt abn (jb 1) (ja (jb 0) jc)) (fC (.da (.int 1))))) (jb 0)) (kv false jc))) (jj (fC (.da (.bool false)))) jl)
  (jj (fOp gEq (fLc false [8] 1 (fIt (jb 5)) (.nm 0) (ji (fOp yj (j2 (ja (fC (.da (.str "port"))) (ja (jb 0) jc))) (jb 1))) (jb 0)) (kv false jc))))))))))
def aa9:FF:=j7 10 B_law_is_step
theorem al5{a3:D}:aa9 [a0,a1,a2,a3] s=(B_law_is_step [some a0,some a1,some a2,some a3,none,none,none,none,none,none] s).bind jt:=rfl
theorem sc_law_is_step:FnScope ["_law_step_here","_law_things","_law_ports","_law_boxes","_law_start","_law_passing","_law_ties","_law_to","_law_spots","_law_tie"] ["_law_step_here","_law_things","_law_ports","_law_boxes"] (jf ady):=⟨rfl,rfl,rfl,by decide+kernel,rfl,by decide+kernel,by decide+kernel⟩
theorem ok_law_is_step(T:Txt0 K mg):CalF P w K mg base "_law_is_step" 5 4 aa9:=by walk_at "ok_law_is_step"
def B_law_is_machine:FS:=
  (je (jp (kf (jq (j3 (fCB kw (ja (jb 0) (ja (fC (.ty "tuple")) jc))))) (kf (ji (fOp gNe (fCB k6 (ja (jb 0) jc)) (fC (.da (.int 5))))) (kf (jq (j3 (jd 2 vm (ja (fOp gIx (jb 0) (fC (.da (.int 0)))) (ja (fC (.da (.int 1))) jc))))) (ji (fOp gGt (fOp gIx (jb 0) (fC (.da (.int 0)))) (fC (.da (.int 3)))))))) (jj (fC (.da (.bool false)))) jl)
  (je (acy (.tn [1,2,3,4,5]) (jb 0))
  (je (jp (kf (jq (j3 (jd 1 xv (ja (jb 2) jc)))) (kf (jq (j3 (jd 2 vm (ja (jb 3) (ja (fC (.da (.int 0))) jc))))) (kf (jq (j3 (fCB kw (ja (jb 4) (ja (fC (.ty "tuple")) jc))))) (ji (fOp gNe (fCB k6 (ja (jb 4) jc)) (fC (.da (.int 2)))))))) (jj (fC (.da (.bool false)))) jl)
  (je (jp (kf (jq (j3 (jd 2 vm (ja (fOp gIx (jb 4) (fC (.da (.int 0)))) (ja (fC (.da (.int 0))) jc))))) (kf (jq (j3 (fCB kw (ja (fOp gIx (jb 4) (fC (.da (.int 1)))) (ja (fC (.ty "tuple")) jc))))) (ji (fOp gNe (fCB k6 (ja (fOp gIx (jb 4) (fC (.da (.int 1)))) jc)) (jb 3))))) (jj (fC (.da (.bool false)))) jl)
  (je (jp (kf (ji (fOp gIn (fC (.da (.bool false))) (fLc false [1] 1 (fIt (fOp gIx (jb 4) (fC (.da (.int 1))))) (.nm 0) kx (fOr (fOp gIs (jb 0) (fC (.da (.none)))) (jd 2 y8 (ja (jb 0) (ja (jb 1) jc))))))) (jq (j3 (fCB kw (ja (jb 5) (ja (fC (.ty "tuple")) jc)))))) (jj (fC (.da (.bool false)))) jl)
  (je (jp (ji (fOp gIn (fC (.da (.bool false))) (fLc false [1,2,3] 1 (fIt (jb 5)) (.nm 0) kx (jd 4 aa9 (ja (jb 0) (ja (jb 1) (ja (jb 2) (ja (jb 3) jc)))))))) (jj (fC (.da (.bool false)))) jl)
  (jj (fOp gEq (fLc false [5] 1 (fIt (jb 5)) (.nm 0) (ji (fOp gGt (aq5 acw (jb 1) (ja (jb 0) jc)) (fC (.da (.int 1))))) (jb 0)) (kv false jc)))))))))
def yq:FF:=j7 6 B_law_is_machine
theorem ahg:yq [a0] s=(B_law_is_machine [some a0,none,none,none,none,none] s).bind jt:=rfl
theorem sc_law_is_machine:FnScope ["_law_thing","_law_things","_law_ports","_law_boxes","_law_begin","_law_steps"] ["_law_thing"] (jf acd):=⟨rfl,rfl,rfl,by decide+kernel,rfl,by decide+kernel,by decide+kernel⟩
theorem ok_law_is_machine(T:Txt0 K mg):CalF P w K mg base "_law_is_machine" 6 1 yq:=by walk_at "ok_law_is_machine"
def B_law_spoilt:FS:=
  (je (acy (.tn [2,3,4,5,6]) (jb 1))
  (je (jp (ji (fOp gEq (jb 6) (j2 jc))) (jj (j2 (ja (jb 2) (ja (ar0 (jb 3) (afw (fC (.da (.int 1))))) (ja (jb 4) (ja (jb 5) (ja (jb 6) jc))))))) jl)
  (je (acy (.tn [7,8,9,10]) (fOp gIx (jb 6) (jd 2 jh (ja (jb 0) (ja (fCB k6 (ja (jb 6) jc)) jc)))))
  (je (j5 11 (jd 2 jh (ja (jb 0) (ja (fC (.da (.int 6))) jc))))
  (je (jp (ji (fOp gEq (jb 11) (fC (.da (.int 0))))) (jj (fOp (jr false) (fSl false (jb 1) fNo (kn (fC (.da (.int 4))))) (j2 (ja (fOp (jr false) (jb 6) (j2 (ja (j2 (ja (jb 7) (ja (jb 8) (ja (jb 9) (ja (jb 10) jc))))) jc))) jc)))) jl)
  (je (jp (ji (fOp gEq (jb 11) (fC (.da (.int 1))))) (jj (fOp (jr false) (fSl false (jb 1) fNo (kn (fC (.da (.int 4))))) (j2 (ja (fOp (jr false) (jb 6) (j2 (ja (j2 (ja (jb 7) (ja (jb 8) (ja (fOp (jr false) (jb 9) (fSl false (jb 9) fNo (kn (fC (.da (.int 1)))))) (ja (fOp (jr false) (jb 10) (fC (.da (.int 1)))) jc))))) jc))) jc)))) jl)
  (je (jp (ji (fOp gEq (jb 11) (fC (.da (.int 2))))) (jj (fOp (jr false) (fSl false (jb 1) fNo (kn (fC (.da (.int 4))))) (j2 (ja (fOp (jr false) (jb 6) (j2 (ja (j2 (ja (jb 7) (ja (jb 8) (ja (fSl false (jb 9) (kn (fC (.da (.int 1)))) fNo) (ja (fOp (jr false) (jb 10) (fC (.da (.int 1)))) jc))))) jc))) jc)))) jl)
  (je (jp (ji (fOp gEq (jb 11) (fC (.da (.int 3))))) (jj (fOp (jr false) (fSl false (jb 1) fNo (kn (fC (.da (.int 4))))) (j2 (ja (fOp (jr false) (jb 6) (j2 (ja (j2 (ja (jb 7) (ja (fSl false (jb 8) (kn (fC (.da (.int 1)))) fNo) (ja (jb 9) (ja (fOp (jr false) (jb 10) (fC (.da (.int 1)))) jc))))) jc))) jc)))) jl)
  (je (jp (ji (fOp gEq (jb 11) (fC (.da (.int 4))))) (jj (j2 (ja (jb 2) (ja (fOp (jr false) (jb 3) (fSl false (jb 3) fNo (kn (fC (.da (.int 1)))))) (ja (jb 4) (ja (jb 5) (ja (jb 6) jc))))))) jl)
  (jj (j2 (ja (jb 2) (ja (jb 3) (ja (fOp (jr false) (jb 4) (fC (.da (.int 1)))) (ja (jb 5) (ja (jb 6) jc))))))))))))))))
def yh:FF:=j7 12 B_law_spoilt
theorem alr:yh [a0,a1] s=(B_law_spoilt [some a0,some a1,none,none,none,none,none,none,none,none,none,none] s).bind jt:=rfl
theorem sc_law_spoilt:FnScope ["_law_tape_here","_law_machine_here","_law_things","_law_ports","_law_boxes","_law_begin","_law_steps","_law_start","_law_passing","_law_ties","_law_to","_law_way"] ["_law_tape_here","_law_machine_here"] (jf afe):=⟨rfl,rfl,rfl,by decide+kernel,rfl,by decide+kernel,by decide+kernel⟩
theorem ok_law_spoilt(T:Txt0 K mg):CalF P w K mg base "_law_spoilt" 2 2 yh:=by walk_at "ok_law_spoilt"
def B_law_right:FS:=
  (je (j5 1 (fCB xz (ja (jb 0) jc)))
  (je (j5 2 (jd 1 yq (ja (jb 0) jc)))
  (je (ab0 (aac (ja (fC (.da (.int 2))) jc)) (.nm 3) (jp (kf (ji (fOp gNe (fCB xz (ja (jd 1 qx (ja (jb 0) jc)) jc)) (fCB xz (ja (jb 2) jc)))) (ji (fOp gNe (fCB xz (ja (jb 0) jc)) (jb 1)))) (jj (fC (.da (.bool false)))) jl))
  (jj (fC (.da (.bool true)))))))
def xc:FF:=j7 4 B_law_right
theorem ao6:xc [a0] s=(B_law_right [some a0,none,none,none] s).bind jt:=rfl
theorem sc_law_right:FnScope ["_law_thing","_law_kept","_law_due","_law_turn"] ["_law_thing"] (jf ag4):=⟨rfl,rfl,rfl,by decide+kernel,rfl,by decide+kernel,by decide+kernel⟩
theorem ok_law_right(T:Txt0 K mg):CalF P w K mg base "_law_right" 8 1 xc:=by walk_at "ok_law_right"
def B_law_all_letters:FS:=
  (je (j5 2 (jd 2 jh (ja (jb 0) (ja (fCB k6 (ja (jb 1) jc)) jc))))
  (jj (fLc false [1,2] 1 (alv (fC (.da (.str "abcdefghijklmnopqrstuvwxyz")))) (.nm 0) kx (fOp (jr false) (fOp (jr false) (fSl false (jb 1) fNo (kn (jb 2))) (jb 0)) (fSl false (jb 1) (kn (fOp (jr false) (jb 2) (fC (.da (.int 1))))) fNo)))))
def vx:FF:=j7 3 B_law_all_letters
theorem agq:vx [a0,a1] s=(B_law_all_letters [some a0,some a1,none] s).bind jt:=rfl
theorem sc_law_all_letters:FnScope ["_law_tape_here","_law_word","_law_at"] ["_law_tape_here","_law_word"] (jf ac2):=⟨rfl,rfl,rfl,by decide+kernel,rfl,by decide+kernel,by decide+kernel⟩
theorem ok_law_all_letters(T:Txt0 K mg):CalF P w K mg base "_law_all_letters" 2 2 vx:=by walk_at "ok_law_all_letters"
def Blaw:FS:=
  (je (j5 1 (jd 1 ab7 (ja (jb 0) jc)))
  (je (ab0 (aac (ja (fC (.da (.int 3))) jc)) (.nm 2) (je (j5 3 (fOp (jr false) (fC (.da (.int 1))) (jd 2 jh (ja (jb 1) (ja (fC (.da (.int 3))) jc)))))
  (je (j5 4 (jd 4 y4 (ja (jb 1) (ja (jb 3) (ja (jd 2 aa6 (ja (jb 1) (ja (jd 2 jh (ja (jb 1) (ja (fC (.da (.int 5))) jc))) jc))) (ja (fC (.da (.int 4))) jc))))))
  (je (jp (ji (fOp adw (jd 1 qx (ja (jb 4) jc)) (fC (.da (.bool true))))) (jj (fC (.da (.bool false)))) jl)
  (je (j5 5 (kv true (ja (jb 4) (ja (fCB (aci false) (ja (jb 4) jc)) (ja (fSl false (jb 4) fNo (kn (fC (.da (.int 4))))) (ja (fOp (jr false) (jb 4) (j2 (ja (j2 jc) jc))) (ja (jd 1 zj (ja (jb 1) jc)) jc)))))))
  (je (j5 5 (fOp (jr true) (jb 5) (fLc false [1,4] 1 (aac (ja (fC (.da (.int 3))) jc)) (.nm 0) kx (jd 2 yh (ja (jb 1) (ja (jb 2) jc))))))
  (je (ab0 (aac (ja (fC (.da (.int 10))) jc)) (.nm 6) (xk (fMt k7 (jb 5) (ja (jd 2 (jw 14) (ja (jb 1) (ja (jb 4) jc))) jc))))
  (je (xk (fMt k7 (jb 5) (ja (jd 2 (jw 14) (ja (jb 1) (ja (fOp gIx (jb 5) (afw (fC (.da (.int 1))))) jc))) jc)))
  (ab0 (fIt (jb 5)) (.nm 7) (jp (jq (j3 (jd 1 xc (ja (jb 7) jc)))) (jj (fC (.da (.bool false)))) jl))))))))))
  (je (j5 5 (fLc true [] 1 (fIt (jd 2 vx (ja (jb 1) (ja (fC (.da (.str "abc"))) jc)))) (.nm 0) kx (j2 (ja (fC (.da (.int 1))) (ja (j2 (ja (jb 0) jc)) (ja (fC (.da (.int 0))) (ja (j2 (ja (fC (.da (.int 0))) (ja (j2 jc) jc))) (ja (j2 jc) jc))))))))
  (jj (fOp yj (fC (.da (.bool false))) (fLc false [] 1 (fIt (jb 5)) (.nm 0) kx (fOp alo (jd 1 qx (ja (jb 0) jc)) (fC (.da (.bool true))))))))))
def aqg:FF:=j7 8 Blaw
theorem a84:aqg [a0] s=(Blaw [some a0,none,none,none,none,none,none,none] s).bind jt:=rfl
theorem sclaw:FnScope ["_law_script","_law_tape_here","_law_k","_law_things","_law_machine_here","_law_some","_law_j","_law_thing"] ["_law_script"] (jf abr):=⟨rfl,rfl,rfl,by decide+kernel,rfl,by decide+kernel,by decide+kernel⟩
theorem a6i{f:Addr}(F:Fun K "law" "law" abr f fd)(T:Txt0 K mg):FnOk P w K mg base CX0 18 f fd ["_law_script"] (spF K 1 aqg):=by
 have sc:=sclaw
 exact fnF (k:=17) F sc rfl rfl fun f cdv A outer s H E hr=> by
  unfold Blaw
  walk_at "dr"
end Ln
local macro_rules | `(tactic| walk_at "ev") => do
  let ns := "PF.bbl PF.a9i PF.bcs PF.a8r PF.a7j PF.a7m PF.a7k PF.a78 PF.a9y PF.a9w PF.a9n PF.a9v PF.ba7 PF.a7u PF.bcd PF.bct PF.e_c PF.bb9 PF.bc0 PF.bc2 PF.bal PF.bc1 PF.bau PF.bai PF.bay PF.bae PF.baj PF.a9d PF.ba5 PF.a95 PF.bcy PF.bbd PF.bat PF.bca PF.ba8 PF.baa PF.a46 PF.a9z PF.bcg PF.bcc PF.bck PF.bd7 PF.bdq PF.bbc PF.bbh PF.bbv PF.a9l PF.bbx PF.bd8 PF.bb6 PF.a9e PF.a93 PF.bao PF.bbb PF.a9q PF.bcq PF.bdk PF.baq PF.bas PF.bc9 PF.bc7 PF.a9j PF.a8d PF.a7p PF.a7x PF.a8u PF.bcf PF.bdr PF.bb8 PF.a9h PF.aji PF.bcw PF.bd6 PF.bdj PF.bdc PF.bcj PF.bdi PF.bda PF.bdp PF.bdh PF.bdg PF.bdm PF.bdf PF.bdo PF.bci PF.bd9 PF.bcu PF.bdb PF.bc3 PF.ba0 PF.bcm PF.ban PF.bab PF.bch PF.bbi PF.bce PF.bbo PF.bdd PF.bb0 PF.a9o PF.a9a PF.a97 PF.a98 PF.a94 PF.a9x PF.a9g PF.a7y PF.a7i PF.a9b PF.ba3 PF.aj1 PF.asz PF.bbg PF.a9r PF.a9p PF.a8n PF.a8j PF.a8m PF.a8w PF.bcv PF.bcb PF.bcn PF.bbj PF.bdn PF.bbf PF.bbu PF.bcr PF.a8p PF.azf PF.ayv PF.aph PF.apz PF.bds PF.amn PF.bak PF.awy PF.aie PF.ana PF.anr PF.aqw PF.R.bind_ok' PF.R.W_ok' PF.R.Wk_app PF.baf PF.bb5 PF.bb2 PF.bbs PF.bb3 PF.baw PF.bbw PF.bbz PF.ba2 PF.a99 PF.ba4 PF.a6p PF.a5g PF.a6e Bool.not_true Bool.not_false decide_true decide_false Bool.and_true Bool.and_false Bool.true_and Bool.false_and List.length_append List.length_cons List.length_nil List.append_assoc List.cons_append List.nil_append Nat.zero_add Nat.reduceAdd PF.bdl PF.bde PF.bcl PF.bcx PF.a9t PF.a9u Nat.reduceLeDiff PF.it0 PF.il0 PF.it1 PF.il1 PF.it3 if_true if_false Bool.false_eq_true".splitOn " "
  let ids : Array (gX `term) := ns.toArray.map fun n => cH n.toName
  `(tactic| try simp only [$[$ids:term],*])
local macro_rules | `(tactic| walk_at "go") => `(tactic| (walk_at "ev"; (try simp only [PF.R.W_bindk])))
namespace Ln
open PySem L2 PF
section
variable{s:S}{n:Nat}{a b c v:D}
theorem ix4(k:Nat){ds:List D}{x:D}(hl:n < s.length)(h:ds[k]?=some x):gIx (.ref n) (.int (k:Int)) (s.set n (.lst ds))=.ok x (s.set n (.lst ds)):=aoi (bI hl) h
theorem st4(k:Nat){ds:List D}(hl:n < s.length)(h:k < ds.length):acz (.ref n) (.int (k:Int)) v (s.set n (.lst ds))=.ok .non (s.set n (.lst (ds.set k v))):=by
 rw [ave (bI hl) h,List.set_set]
theorem ix0(hl:n < s.length):gIx (.ref n) (.int 0) (s.set n (.lst [a,b,c]))=.ok a (s.set n (.lst [a,b,c])):=ix4 0 hl rfl
theorem ix1(hl:n < s.length):gIx (.ref n) (.int 1) (s.set n (.lst [a,b,c]))=.ok b (s.set n (.lst [a,b,c])):=ix4 1 hl rfl
theorem ix2(hl:n < s.length):gIx (.ref n) (.int 2) (s.set n (.lst [a,b,c]))=.ok c (s.set n (.lst [a,b,c])):=ix4 2 hl rfl
theorem st1(hl:n < s.length):acz (.ref n) (.int 1) v (s.set n (.lst [a,b,c]))=.ok .non (s.set n (.lst [a,v,c])):=st4 1 hl (by simp)
theorem st2(hl:n < s.length):acz (.ref n) (.int 2) v (s.set n (.lst [a,b,c]))=.ok .non (s.set n (.lst [a,b,v])):=st4 2 hl (by simp)
end
structure Fd (s:S) (n c:Nat):Prop where
 ex: ∃(xs:List Int) (i j:Int),s[n]?=some (.lst [.lst (xs.map aI),.int i,.int j])/\xs.length <=63/\0 <=i/\i <=c
theorem Fd.lt(h:Fd s n c):n < s.length:=by
 obtain⟨xs,i,j,e,_⟩:=h.ex
 exact (aC.mp e).1
theorem ai2{xs:List Int}{i j:Int}(hl:n < s.length)(hx:xs.length <=63)(hi:0 <=i)(hc:i <=c):Fd (s.set n (.lst [.lst (xs.map aI),.int i,.int j])) n c:=⟨xs,i,j,bI hl,hx,hi,hc⟩
theorem ke(h:Fd s n c)(hm:0 < m)(hm2:m < 1073741824)(hc:c < 2^40):(jh [.ref n,.int m] s).W fun d s'=> ∃i,d=.int i/\0 <=i/\i < m/\Fd s' n (c+1)/\j4 n s s':=by
 obtain⟨xs,i,j,e,hx,hi,hkc⟩:=h.ex
 have hl:n < s.length:=(aC.mp e).1
 have e0:jh [.ref n,.int m] s=jh [.ref n,.int m] (s.set n (.lst [.lst (xs.map aI),.int i,.int j])):=by rw [ax1 e]
 rw [e0,arm];unfold B_law_draw
 have fin: ∀x:Int,0 <=x % m/\x % m < m:=fun x=> ⟨gU _ (by lia),fV _ hm⟩
 have p18: ∀s:S,ajm (.int 10) (.int 18) s=.ok (.int 1000000000000000000) s:=fun s=> ahp (by decide) (by decide) (by decide)
 by_cases hj:0 < j
 ·simp [ix0 hl,ix1 hl,ix2 hl,st1 hl,st2 hl,hj,yw hm,ad9 hm hm2]
  exact⟨(fin _).1,(fin _).2,ai2 hl hx hi (by lia),af2⟩
 ·have q1: ∀(x:Int) (s:S),abc (.int x) (.int 1000003) s=.ok (.int (x % 1000003)) s:=fun x s=> yw (by decide)
  have q2: ∀(x:Int) (s:S),aal (.int 37) (.int x) s=.ok (.int (37*x)) s:=fun x s=> aah (.inl (by decide))
  have q3: ∀(x:Int) (s:S),aal (.int x) (.int 69621) s=.ok (.int (x*69621)) s:=fun x s=> aah (.inr (by decide))
  have q4: ∀(x:Int) (s:S),abc (.int x) (.int 2147483549) s=.ok (.int (x % 2147483549)) s:=fun x s=> yw (by decide)
  have q5: ∀(x:Int) (s:S),aal (.int 101) (.int x) s=.ok (.int (101*x)) s:=fun x s=> aah (.inl (by decide))
  have q6: ∀(x:Int) (s:S),aal (.int 7919) (.int x) s=.ok (.int (7919*x)) s:=fun x s=> aah (.inl (by decide))
  have q7: ∀(x:Int) (s:S),aal (.int x) (.int i) s=.ok (.int (x*i)) s:=fun x s=> aah (.inr (by lia))
  have q8: ∀(x:Int) (s:S),aal (.int x) (.int 48271) s=.ok (.int (x*48271)) s:=fun x s=> aah (.inr (by decide))
  have q9: ∀(x:Int) (s:S),abc (.int x) (.int 2147483587) s=.ok (.int (x % 2147483587)) s:=fun x s=> yw (by decide)
  have q10: ∀(x:Int) (s:S),aje (.int x) (.int 64) s=.ok (.int (x/64)) s:=fun x s=> ad9 (by decide) (by decide)
  cases hxs:xs with
  |nil=>
   subst hxs
   simp [ix0 hl,ix1 hl,ix2 hl,st1 hl,st2 hl,hj,yw hm,ad9 hm hm2,p18,q1,q2,q3,q4,q5,q6,q7,q8,q9,q10]
   exact⟨(fin _).1,(fin _).2,ai2 (xs:=[]) hl (by simp) (by lia) (by lia),af2⟩
  | cons y ys=>
   have hne:xs≠ []:=by rw [hxs];simp
   have hlen:0 < (xs.length:Int):=by rw [hxs];simp
   have hlen2:0 < xs.length:=by rw [hxs];simp
   rw [←hxs]
   have ixx: ∀s:S,gIx (.lst (xs.map aI)) (.int (i % (xs.length:Int))) s=.ok (.int (xs.getD (i % (xs.length:Int)).toNat 0)) s:=fun s=> by
    have h0:=gU i (show (xs.length:Int)≠0 by lia)
    have h1:=fV i hlen
    obtain⟨q,hq⟩: ∃q:Nat,i % (xs.length:Int)=q:=⟨(i % (xs.length:Int)).toNat,by lia⟩
    rw [hq]
    have hlt:q < xs.length:=by lia
    rw [zz (p:=.int (xs.getD q 0)) (by rw [a9,av hlt,bK,av hlt];rfl)]
    rfl
   generalize hcell:xs.getD (i % (xs.length:Int)).toNat 0=cell at ixx
   have qm: ∀s:S,abc (.int i) (.int (xs.length:Int)) s=.ok (.int (i % (xs.length:Int))) s:=fun s=> yw hlen
   by_cases hb:1000000000000000000 <=cell
   ·simp [ix0 hl,ix1 hl,ix2 hl,st1 hl,st2 hl,hj,hlen2,yw hm,ad9 hm hm2,p18,q1,q2,q3,q4,q5,q6,q7,q8,q9,q10,ixx,qm,hb]
    exact⟨(fin _).1,(fin _).2,ai2 hl hx (by lia) (by lia),af2⟩
   ·simp [ix0 hl,ix1 hl,ix2 hl,st1 hl,st2 hl,hj,hlen2,yw hm,ad9 hm hm2,p18,q1,q2,q3,q4,q5,q6,q7,q8,q9,q10,ixx,qm,hb]
    exact⟨(fin _).1,(fin _).2,ai2 hl hx (by lia) (by lia),af2⟩
theorem Fd.le{c':Nat}(h:Fd s n c)(hc:c <=c'):Fd s n c':=by
 obtain⟨xs,i,j,e,hx,hi,hkc⟩:=h.ex
 exact⟨xs,i,j,e,hx,hi,by lia⟩
theorem Fd.ext(h:Fd s n c)(x:Ext s s'):Fd s' n c:=by
 obtain⟨xs,i,j,e,r⟩:=h.ex
 exact⟨xs,i,j,x.get e,r⟩
theorem Fd.set{o:O}(h:Fd s n c)(hk:k≠n):Fd (s.set k o) n c:=by
 obtain⟨xs,i,j,e,r⟩:=h.ex
 exact⟨xs,i,j,by rw [bq hk];exact e,r⟩
theorem a00{xs:List Int}:(ab7 [.frz (xs.map aI)] s).W fun d s'=> d=.ref s.length/\Fd s' s.length 0/\Ext s s':=by
 rw [asi];unfold B_law_tape
 walk_at "go"
 have e:qw (xs.map aI) none (some 63)=(qw xs none (some 63)).map aI:=amj _ _ _ _
 rw [e]
 refine⟨trivial,⟨⟨qw xs none (some 63),0,0,by simp,?_,by decide,by decide⟩⟩,Ext.add _ _⟩
 unfold qw
 rw [show (63:Int)=((63:Nat):Int) from rfl,HT.sIx_nat]
 simp
 lia
end Ln
namespace PF
open PySem L2
theorem qg{s:S}{ft:FT}{fe:FE}{ju:En}{all:List D}(pr:aa -> Bool)(f:aa -> D): ∀(xs:List aa),(∀x∈xs,ft (some (.da x)::ju) s=.ok (pr x) s) -> (∀x∈xs,pr x=true -> fe (some (.da x)::ju) s=.ok (f x) s) ->
  kl (.nm 0) ft fe (none::ju) (all,none) (xs.map D.da) s=.ok ((xs.filter pr).map f) s
 |[],_,_=> rfl
 |x::r,h1,h2=> by
  have ih:=qg (all:=all) pr f r (fun y hy=> h1 y (az _ hy)) (fun y hy=> h2 y (az _ hy))
  rw [aN,adb a6p,h1 x ax,R.bind_ok']
  cases q:pr x with
  |false=> rw [ana,ih,eF (by rw [q];exact aF)]
  |true=> rw [aie,h2 x ax q,R.bind_ok',anr,ih,R.bind_ok',aji,eG q,aN]
theorem apa: ∀bs:List Bool,af8 (bs.map D.bl)=some bs
 |[]=> rfl
 |b::r=> by rw [aN,af8,apa r]
theorem ajc{bs:List Bool}:abe [.lst (bs.map aV)] s=.ok (.bl (bs.all id)) s:=by
 show (match (some ((bs.map aV).map D.da)).bind af8 with|some bs=> R.ok (D.bl (bs.all id)) s|none=>.bad)=_
 rw [show (bs.map aV).map D.da=bs.map D.bl by rw [aU];rfl]
 show (match af8 (bs.map D.bl) with|some bs=> R.ok (D.bl (bs.all id)) s|none=>.bad)=_
 rw [apa]
theorem all_map{f:aa -> Bool}:abe [.lst (xs.map fun x=>.bool (f x))] s=.ok (.bl (xs.all f)) s:=by
 have:xs.map (fun x=> aV (f x))=(xs.map f).map aV:=by rw [aU];rfl
 rw [this,ajc,cB];rfl
theorem aq1(i j:Int):aE (.int i) (.int j)=decide (i=j):=by
 show (i==j)=_
 (rw [bi,beq_iff_eq,decide_eq_true_eq])
theorem xt{i j:Int}:gNe (.int i) (.int j) s=.ok (.bl (!decide (i=j))) s:=by rw [at0 rfl rfl,aq1]
theorem yi{i j:Int}:gEq (.int i) (.int j) s=.ok (.bl (decide (i=j))) s:=by rw [ae5 rfl rfl,aq1]
end PF
namespace Ln
open PySem L2 PF
theorem axb{α:Type}(l:List α)(t:Nat)(h:t <=l.length):qw l (some (t:Int)) none=l.drop t:=by
 unfold qw
 rw [HT.sIx_nat,HT.sIx_none,eM h,eO (by simp)]
theorem acu{α:Type}(l:List α)(t:Nat):qw l none (some (t:Int))=l.take t:=by
 unfold qw
 rw [HT.sIx_nat,HT.sIx_none,kB,Nat.sub_zero,List.take_eq_take_iff]
 lia
theorem zg{α:Type}(l:List α)(t:Nat):qw l (some (t:Int)) none=l.drop t:=by
 by_cases h:t <=l.length
 ·exact axb l t h
 ·unfold qw
  rw [HT.sIx_nat,HT.sIx_none,Nat.min_eq_right (by lia),List.drop_length,cv (by lia)]
  simp
theorem age(h1:okD (.str x)=true)(h2:okD (.str y)=true):gEq (.str x) (.str y) s=.ok (.bl (decide (x=y))) s:=by
 rw [ae5 h1 h2]
 have:aE (.str x) (.str y)=decide (x=y):=by
  show (x==y)=_
  (rw [bi,beq_iff_eq,decide_eq_true_eq])
 rw [this]
theorem aeg{w:Str}: ∀ss:List Str,((ss.map ag).any fun d=> aE d (.str w))=decide (w∈ss)
 |[]=> by simp
 | x::r=> by
  rw [aN,gw,aeg r]
  have:aE (.str x) (.str w)=decide (x=w):=by
   show (x==w)=_
   (rw [bi,beq_iff_eq,decide_eq_true_eq])
  rw [this,bi,Bool.or_eq_true,decide_eq_true_eq,decide_eq_true_eq,decide_eq_true_eq,ay]
  exact⟨fun h=> h.imp Eq.symm id,fun h=> h.imp Eq.symm id⟩
theorem all_strs(h: ∀x∈ss,okD (.str x)=true):(ss.map ag).all okD=true:=by
 rw [ao]
 intro d hd
 obtain⟨x,hx,rfl⟩:=aR.mp hd
 exact h x hx
theorem axt(h:aft x=true):okD (.str x)=true:=(awt h).okD (by decide)
theorem avt{α β:Type}{f:α -> β}{l:List α}: ∀{ys:List β},ys.Perm (l.map f) -> ∃qs:List α,qs.Perm l/\qs.map f=ys:=by
 intro ys h
 generalize hz:l.map f=zs at h
 induction h generalizing l with
 |nil=>
  cases l with
  |nil=> exact⟨[],.refl _,rfl⟩
  |cons a b=> cases hz
 | cons x h ih=>
  cases l with
  |nil=> cases hz
  |cons a b=>
   cases hz
   obtain⟨qs,p,e⟩:=ih rfl
   exact⟨a::qs,p.cons a,by rw [aN,e]⟩
 | swap x y r=>
  match l,hz with
  |a::b::c,hz=>
   cases hz
   exact⟨b::a::c,.swap _ _ _,rfl⟩
 |trans h1 h2 ih1 ih2=>
  obtain⟨q2,p2,e2⟩:=ih2 hz
  obtain⟨q1,p1,e1⟩:=ih1 e2
  exact⟨q1,p1.trans p2,e1⟩
theorem za(i:Int)(h:0 <=i): ∃j:Nat,i=(j:Int):=⟨i.toNat,(Int.toNat_of_nonneg h).symm⟩
theorem ai5{b:Nat}(h:k < b):b - k=(b - (k+1))+1:=by lia
structure DW {α:Type} (r:R α) (Q:α -> S -> Prop):Prop where
 w:r.W Q
theorem DW.mono{α:Type}{r:R α}{Q Q':α -> S -> Prop}(h:DW r Q)(k: ∀a s,Q a s -> Q' a s):r.W Q':=R.W_mono h.w k
theorem ajg(xs:List aa):aE (.list xs) (.list [])=xs.isEmpty:=by cases xs <;> rfl
noncomputable def anm:aa -> Bool
 |.int _=> true
 |_=> false
noncomputable def jo(m:Int):aa -> Bool
 |.int i=> decide (0 <=i)&&decide (i < m)
 |_=> false
theorem aja:aas [.da d] s=.ok (.bl (anm d)) s:=by
 rw [auy];unfold Bis_whole
 walk_at "ev"
 cases d <;> simp only [ku] <;> rfl
theorem apr:abx [.int m,.da d] s=.ok (.bl (jo m d)) s:=by
 rw [aum];unfold Bis_below
 walk_at "ev"
 rw [aja]
 cases d with
 | int i=>
  simp only [anm]
  walk_at "ev"
  by_cases h0:0 <=i
  ·simp only [h0,decide_true,jo]
   walk_at "ev"
  ·simp only [h0,decide_false,jo]
   walk_at "ev"
 |_=> rfl
theorem apf:ac0 [.int m,.da d] s=.ok (.bl (jo m d)) s:=by
 rw [atu];unfold Bis_thing
 walk_at "ev"
 rw [apr];rfl
noncomputable def ack(c:Nat):Bool:=decide (97 <=c)&&decide (c <=122)
def jz(x:Str):Bool:=(decide (1 <=x.length)&&decide (x.length <=8))&&x.cps.toList.all ack
def kj:aa -> Bool
 |.str x=> jz x
 |_=> false
noncomputable def asc(x:Str):Bool:=x.cps.toList.all fun c=> decide (32 <=c)&&decide (c < 127)
theorem agk(h:asc x=true):x.cps.all (· < 128)=true:=by
 unfold asc at h
 simp only [ao,am,decide_eq_true_eq]at h
 (rw [←gz,ao])
 intro c hc
 have:=h c hc
 exact decide_eq_true (by lia)
theorem afy(x:Str):abw x=x.cps.toList.map fun c=> D.str ⟨#[c]⟩:=by first|rfl|(unfold abw;rfl)
theorem au4(h: ∀x,d=.str x -> asc x=true/\x.length <=100000):ad7 [.da d] s=.ok (.bl (kj d)) s:=by
 rw [axo];unfold Bis_port
 walk_at "ev"
 cases d with
 | str x=>
  obtain⟨ha,hl⟩:=h x rfl
  rw [show ku (.str x) "str"=true from rfl]
  walk_at "ev"
  rw [len_str (by lia)]
  walk_at "ev"
  show _=R.ok (D.bl (jz x)) s
  unfold jz
  by_cases h1:1 <=x.length
  ·rw [decide_eq_true (show (1:Int) <=(x.length:Int) by lia),decide_eq_true h1]
   walk_at "ev"
   by_cases h2:x.length <=8
   ·rw [decide_eq_true (show (x.length:Int) <=8 by lia),decide_eq_true h2]
    walk_at "ev"
    rw [aq8]
    walk_at "ev"
    rw [ajb (agk ha)]
    walk_at "ev"
    rw [afy,ko (ρ0:=[none]) (by rw [au,aG];show x.length <=_;lia) rfl]
    rw [vj (fun c:Nat=> D.str ⟨#[c]⟩) (fun _=> true) (fun c=> aV (ack c)) x.cps.toList (fun c hc=> ⟨[some (.str ⟨#[c]⟩)],rfl,rfl,fun _=> by
     walk_at "ev"
     rw [a1s,alt (agk ha) c hc];rfl⟩)]
    (rw [bh.mpr (fun _ _=> rfl)])
    walk_at "ev"
    rw [show x.cps.toList.map (fun c=> aV (ack c))=(x.cps.toList.map ack).map aV by rw [aU];rfl,ajc,cB]
    rfl
   ·rw [decide_eq_false (show¬(x.length:Int) <=8 by lia),decide_eq_false h2]
    walk_at "ev"
  ·rw [decide_eq_false (show¬(1:Int) <=(x.length:Int) by lia),decide_eq_false h1]
   walk_at "ev"
 |_=> rfl
inductive Lf (n:Nat):aa -> Prop
 |none:Lf n .none
 |bool (b:Bool):Lf n (.bool b)
 |int {i:Int}:i.natAbs <=1000000000000000000000000000000+2*n -> Lf n (.int i)
 |str {x:Str}:asc x=true -> x.length <=40*4^n -> Lf n (.str x)
 |tup {ds:List aa}:ds.length <=12+n -> (∀x∈ds,Lf n x) -> Lf n (.tuple ds)
 |lst {ds:List aa}:ds.length <=12+n -> (∀x∈ds,Lf n x) -> Lf n (.list ds)
 |dct:Lf n (.dict [])
theorem Lf.mono{m:Nat}(h:Lf n d)(hm:n <=m):Lf m d:=by
 induction h with
 |none=> exact .none
 |bool b=> exact .bool b
 |int h=> exact .int (by lia)
 |str h l=> exact .str h (aJ l (lB _ (kU (by decide) hm)))
 |tup hl _ ih=> exact .tup (by lia) ih
 |lst hl _ ih=> exact .lst (by lia) ih
 |dct=> exact .dct
structure Core (d:aa):Prop where
 ls:d.leavesShort 45=true
 sh:d.showable=true
theorem axz(h: ∀x∈ds,Core x):kF 45 ds=true/\eL ds=true:=by
 induction ds with
 |nil=> exact⟨rfl,rfl⟩
 |cons x r ih=>
  obtain⟨a,b⟩:=ih fun y hy=> h y (az _ hy)
  obtain⟨p,q⟩:=h x ax
  exact⟨by simp only [kF,p,a,cp],by simp only [eL,q,b,cp]⟩
theorem akd{i:Int}(h:i.natAbs < 10^31):(toString i).length <=32:=int_text_length_le10 (k:=31) (by decide) h
theorem Lf.core(h:Lf n d)(hn:n <=5):Core d:=by
 induction h with
 |none=> exact⟨rfl,rfl⟩
 |bool b=> exact⟨by cases b <;> rfl,rfl⟩
 | @int i h=>
  have h31:i.natAbs < 10^31:=by
   have e:(10:Nat)^31=10000000000000000000000000000000:=by decide
   lia
  constructor
  ·simp only [eJ,decide_eq_true_eq]
   have:=akd h31
   show (bQ (toString i)).length <=45
   rw [ofString_length]
   lia
  ·simp only [cY,decide_eq_true_eq]
   by_cases z:i.natAbs=0
   ·rw [z];decide
   ·have h2:i.natAbs < 2^104:=by
     have e:(2:Nat)^104=20282409603651670423947251286016:=by decide
     lia
    have:=(Nat.log2_lt z).mpr h2
    lia
 | @str x h l=>
  unfold asc at h
  simp only [ao,am,decide_eq_true_eq]at h
  refine⟨?_,rfl⟩
  simp only [eJ,ao,decide_eq_true_eq]
  intro c hc
  have:=(h c hc).2
  have e16:(16:Nat)^8=4294967296:=by decide
  lia
 |tup hl _ ih=>
  obtain⟨a,b⟩:=axz ih
  exact⟨by simpa only [eJ] using a,by simpa only [cY] using b⟩
 |lst hl _ ih=>
  obtain⟨a,b⟩:=axz ih
  exact⟨by simpa only [eJ] using a,by simpa only [cY] using b⟩
 |dct=> exact⟨rfl,rfl⟩
theorem Lf.okE(h:Lf n d)(hn:n <=5)(hb:d.bulk <=200000)(hd:d.depth <=64):okE d=true:=by
 unfold PF.okE
 (simp only [am,decide_eq_true_eq])
 refine⟨⟨(h.core hn).sh,hd⟩,?_⟩
 have:=PyData.shown_le_bulk 45 (by decide) d (h.core hn).ls
 rw [ki]
 lia
theorem apq(h:Lf n d)(hn:n <=5)(hb:d.bulk <=200000)(hd:d.depth <=64):xz [.da d] s=.ok (.str d.shown) s:=by
 show (if PF.okE d=true then R.ok (D.str d.shown) s else .bad)=_
 rw [if_pos (h.okE hn hb hd)]
noncomputable def yu(ds:List aa):List Str:=ds.filterMap fun d=> match d with
 |.str x=> some x
 |_=> none
theorem zf(xs:List Str):yu (xs.map ag)=xs:=by
 induction xs with
 |nil=> rfl
 |cons x r ih=>
  show x::yu (r.map ag)=_
  rw [ih]
theorem aaq: ∀{ds:List aa},ds.all kj=true -> ∃ss:List Str,ds=ss.map .str/\ ∀x∈ss,jz x=true
 |[],_=> ⟨[],rfl,fun _ h=> by cases h⟩
 |d::r,h=> by
  (rw [cb,am]at h)
  obtain⟨ss,rfl,hs⟩:=aaq h.2
  cases d with
  | str x=> exact⟨x::ss,rfl,fun y hy=> by
    rcases ay.mp hy with z|z
    ·subst z;exact h.1
    ·exact hs y z⟩
  |_=> exact absurd h.1 aF
theorem axe(h:jz x=true):aft x=true:=by
 unfold jz at h
 unfold aft
 simp only [am,decide_eq_true_eq,ao,ack]at h⊢
 exact⟨⟨by lia,by lia⟩,fun c hc=> by have:=h.2 c hc;lia⟩
def amg(ds:List aa):Bool:=decide ((j9 (yu ds)).length=ds.length)
def aon:aa -> Bool
 |.tuple ds=> ds.all kj&&amg ds
 |_=> false
theorem aiu(h:Lf n d)(hn:n <=5): ∀x,d=.str x -> asc x=true/\x.length <=100000:=by
 rintro x rfl
 cases h with
 |str a b=> exact⟨a,aJ b (aJ (lB _ (kU (by decide) hn)) (by decide))⟩
theorem aod(h:ss.length < 4000):zb [.tup (ss.map ag)] s=.ok (.int (j9 ss).length) s:=by
 have e:ab1 ((ss.map ag).map D.da)=some ss:=by
  rw [aU];exact ako ss
 show (match ab1 ((ss.map ag).map D.da) with
  |some ss=> if ss.length < 4000 then R.ok (D.int (j9 ss).length) s else .bad
  |none=> match kg ((ss.map ag).map D.da) with
   |some ps=> if ps.all aa0=true/\ps.length+1 <=306 then R.ok (D.int (ud ps).length) s else .bad
   |none=>.bad)=_
 rw [e]
 exact if_pos h
theorem awi(h:Lf n d)(hn:n <=5):ye [.da d] s=.ok (.bl (aon d)) s:=by
 rw [agt];unfold Bare_unlike_ports
 walk_at "ev"
 cases h with
 | @tup ds hl hx=>
  rw [show ku (.tuple ds) "tuple"=true from rfl]
  walk_at "ev"
  rw [ko (ρ0:=[none]) (by rw [au];lia) rfl]
  rw [qg (fun _=> true) (fun x=> D.bl (kj x)) ds (fun x _=> rfl) (fun x hm _=> by
   walk_at "ev"
   rw [au4 (aiu (hx x hm) hn)]),bh.mpr (fun _ _=> rfl)]
  rw [show ds.map (fun x=> D.bl (kj x))=(ds.map fun x=> aV (kj x)).map D.da by rw [aU];rfl]
  walk_at "ev"
  rw [all_map]
  show _=R.ok (D.bl (ds.all kj&&amg ds)) s
  cases hp:ds.all kj with
  |false=> walk_at "ev"
  |true=>
   walk_at "ev"
   obtain⟨ss,rfl,hs⟩:=aaq hp
   rw [au]at hl
   rw [aod (by lia)]
   walk_at "ev"
   rw [yi]
   walk_at "ev"
   unfold amg
   rw [zf]
   have e:(((j9 ss).length:Int)=((ss.map ag).length:Int))=((j9 ss).length=(ss.map ag).length):=propext (by lia)
   congr 3
 |_=> rfl
noncomputable def ltS(a b:Str):Bool:=decide (a.cps.toList < b.cps.toList)
def z9(ss:List Str):Bool:=((ss.zip (ss.drop 1)).map fun p=> ltS p.1 p.2).all id
theorem ag2(x y:Str)(r:List Str):z9 (x::y::r)=(ltS x y&&z9 (y::r)):=by
 simp [z9]
theorem atx{a b c:Str}(h1:ltS a b=true)(h2:ltS b c=true):ltS a c=true:=by
 unfold ltS at h1 h2⊢
 exact decide_eq_true (List.lt_trans (of_decide_eq_true h1) (of_decide_eq_true h2))
theorem agp: ∀(l:List Str),z9 l=true -> l.Pairwise fun a b=> ltS a b=true
 |[],_=>.nil
 |[_],_=> (eE _ _)
 |x::y::r,h=> by
  rw [ag2,am]at h
  have ih:=agp (y::r) h.2
  rw [bZ]
  refine⟨fun z hz=> ?_,ih⟩
  (rcases ay.mp hz with rfl|hz)
  ·exact h.1
  ·exact atx h.1 ((bZ.mp ih).1 z hz)
theorem aj4: ∀(l:List Str),(l.Pairwise fun a b=> ltS a b=true) -> z9 l=true
 |[],_=> rfl
 |[_],_=> rfl
 |x::y::r,h=> by
  rw [ag2,am]
  rw [bZ]at h
  exact⟨h.1 y ax,aj4 (y::r) h.2⟩
structure OkT (y:aa):Prop where
 ok: ∀x,y=.str x -> okD (.str x)=true
theorem apy(h:asc x=true):okD (.str x)=true:=by
 unfold PF.okD
 rw [am]
 unfold asc at h
 simp only [ao,am,decide_eq_true_eq]at h
 refine⟨?_,decide_eq_true (by simp [aA])⟩
 simp only [c7]
 unfold PyData.strOk
 (rw [←gz,ao])
 intro c hc
 have:=(h c hc).2
 exact decide_eq_true (by lia)
theorem Lf.okT(h:Lf n d):OkT d:=⟨fun x e=> by
 subst e
 cases h with
 |str a _=> exact apy a⟩
theorem qo(h:Lf n (.tuple ds)):ds.length <=12+n/\ ∀x∈ds,Lf n x:=by
 cases h with
 |tup a b=> exact⟨a,b⟩
def jx:List aa -> Bool
 |x::y::r=> ltb x y&&jx (y::r)
 |_=> true
theorem ant{b:aa}(h:(ltP a b).isSome=true):ltP a b=some (ltb a b):=by
 unfold ltb
 match ltP a b,h with
 |some true,_=> rfl
 |some false,_=> rfl
theorem alh: ∀xs:List aa,((xs.zip (xs.drop 1)).map fun p=> ltb p.1 p.2).all id=jx xs
 |[]=> rfl
 |[_]=> rfl
 |x::y::r=> by
  have ih:=alh (y::r)
  simp only [List.drop_succ_cons,kB,fS,aN,cb,id]at ih⊢
  rw [ih];rfl
theorem a1f{p:aa×aa}(h:p∈xs.zip (xs.drop 1)):p.1∈xs/\p.2∈xs:=⟨(fE h).1,cu (fE h).2⟩
structure CmpR (xs:List aa):Prop where
 lt: ∀a∈xs,∀b∈xs,(ltP a b).isSome=true
 ok: ∀a∈xs,okD a=true
theorem aem(h:CmpR xs)(hl:xs.length <=1000):zu [.tup xs] s=.ok (.bl (jx xs)) s:=by
 rw [ark];unfold Bis_rising
 walk_at "ev"
 rw [show qw xs (some 1) none=xs.drop 1 from zg xs 1]
 rw [ko (ρ0:=[none,none]) (by rw [au,List.length_zip];lia) rfl]
 rw [vj (fun p:aa×aa=> D.tup [p.1,p.2]) (fun _=> true) (fun p=> aV (ltb p.1 p.2)) (xs.zip (xs.drop 1)) (fun p hp=> ⟨[some (.da p.1),some (.da p.2)],rfl,rfl,fun _=> by
  obtain⟨m1,m2⟩:=a1f hp
  walk_at "ev"
  rw [azo (ant (h.lt _ m1 _ m2)) (h.ok _ m1) (h.ok _ m2)]⟩),bh.mpr (fun _ _=> rfl)]
 walk_at "ev"
 rw [show (xs.zip (xs.drop 1)).map (fun p=> aV (ltb p.1 p.2))=((xs.zip (xs.drop 1)).map fun p=> ltb p.1 p.2).map aV by rw [aU];rfl,ajc,alh]
 rfl
noncomputable def jm(m:Int):aa -> Bool
 |.int i=> decide (m <=i)
 |_=> false
theorem acr:vm [.da d,.int m] s=.ok (.bl (jm m d)) s:=by
 rw [ao7];unfold B_law_whole
 walk_at "ev"
 cases d with
 |int i=> rfl
 |bool b=> rfl
 |_=> rfl
theorem aj2:y8 [.da d,.int m] s=.ok (.bl (jo m d)) s:=by
 rw [ao8];unfold B_law_below
 walk_at "ev"
 rw [acr]
 cases d with
 |int i=>
  show _=R.ok (D.bl (decide (0 <=i)&&decide (i < m))) s
  rw [show jm 0 (.int i)=decide (0 <=i) from rfl]
  cases decide (0 <=i) with
  |false=> walk_at "ev"
  |true=> walk_at "ev"
 |_=> rfl
theorem akt: ∀{xs:List Str},(∀x∈xs,okD (.str x)=true) -> aS (xs.map ag)=true/\ar (xs.map ag) <=1
 |[],_=> ⟨rfl,by simp [ar]⟩
 |x::r,h=> by
  obtain⟨a,b⟩:=akt fun y hy=> h y (az _ hy)
  have hx:=h x ax
  unfold PF.okD at hx
  rw [am]at hx
  refine⟨by simp only [aN,aS,a,hx.1,cp],?_⟩
  (simp only [aN,ar,aA])
  lia
theorem amq{xs:List Str}(h: ∀x∈xs,okD (.str x)=true):okD (.list (xs.map ag))=true:=by
 obtain⟨a,b⟩:=akt h
 unfold PF.okD
 rw [am]
 exact⟨by simpa only [c7] using a,decide_eq_true (by simp only [aA];lia)⟩
theorem ago(h:okD (.list xs)=true):gEq (.lst xs) (.lst []) s=.ok (.bl xs.isEmpty) s:=by rw [ae5 h rfl,ajg]
theorem aiv(h:okD (.list xs)=true):gNe (.lst xs) (.lst []) s=.ok (.bl (!xs.isEmpty)) s:=by rw [at0 h rfl,ajg]
theorem aez{α:Type}(p:α -> Bool)(xs:List α):(xs.filter fun x=> !p x).isEmpty=xs.all p:=by
 induction xs with
 |nil=> rfl
 |cons x r ih=>
  cases h:p x with
  |true=> rw [eF (by simp [h]),ih,cb,h,lv]
  |false=> rw [eG (by simp [h]),cb,h];rfl
theorem aa3{α β:Type}(f:α -> β)(l:List α):(l.map f).isEmpty=l.isEmpty:=by cases l <;> rfl
theorem a36(h: ∀x,d=.str x -> asc x=true/\x.length <=100000):aa8 [.da d] s=.ok (.bl (kj d)) s:=by
 rw [al6];unfold B_law_is_port
 walk_at "ev"
 cases d with
 | str x=>
  obtain⟨ha,hl⟩:=h x rfl
  rw [show ku (.str x) "str"=true from rfl]
  walk_at "ev"
  rw [len_str (by lia)]
  walk_at "ev"
  show _=R.ok (D.bl (jz x)) s
  unfold jz
  by_cases h1:1 <=x.length
  ·rw [decide_eq_true (show (1:Int) <=(x.length:Int) by lia),decide_eq_true h1]
   walk_at "ev"
   by_cases h2:x.length <=8
   ·rw [decide_eq_true (show (x.length:Int) <=8 by lia),decide_eq_true h2]
    walk_at "ev"
    rw [aq8]
    walk_at "ev"
    rw [ajb (agk ha)]
    walk_at "ev"
    rw [afy,ko (ρ0:=[none]) (by rw [au,aG];show x.length <=_;lia) rfl]
    rw [vj (fun c:Nat=> D.str ⟨#[c]⟩) (fun c=> !ack c) (fun c=> ag ⟨#[c]⟩) x.cps.toList (fun c hc=> ⟨[some (.str ⟨#[c]⟩)],rfl,by
     walk_at "ev"
     rw [auh,alt (agk ha) c hc];rfl,fun _=> by
     walk_at "ev"⟩)]
    walk_at "ev"
    rw [show ((x.cps.toList.filter fun c=> !ack c).map fun c=> ag ⟨#[c]⟩)=((x.cps.toList.filter fun c=> !ack c).map fun c=> (⟨#[c]⟩:Str)).map ag by rw [aU];rfl]
    rw [ago (amq (by
     intro y hy
     obtain⟨c,hc,rfl⟩:=aR.mp hy
     have hc':=(bC.mp hc).1
     unfold asc at ha
     rw [ao]at ha
     refine apy ?_
     show ([c].all fun c=> decide (32 <=c)&&decide (c < 127))=true
     rw [cb,ha c hc'];rfl)),aa3,aa3,aez]
    rfl
   ·rw [decide_eq_false (show¬(x.length:Int) <=8 by lia),decide_eq_false h2]
    walk_at "ev"
  ·rw [decide_eq_false (show¬(1:Int) <=(x.length:Int) by lia),decide_eq_false h1]
   walk_at "ev"
 |_=> rfl
theorem ad0{bs:List Bool}:gIn (.da (.bool false)) (.lst (bs.map aV)) s=.ok (.bl (!bs.all id)) s:=by
 show (if okD (.bool false)=true/\(bs.map aV).all okD=true then R.ok (D.bl (nb false ((bs.map aV).any fun d=> aE d (.bool false)))) s else .bad)=_
 rw [if_pos ⟨rfl,by rw [cB,ao];intro b _;rfl⟩]
 have:((bs.map aV).any fun d=> aE d (.bool false))= !bs.all id:=by
  induction bs with
  |nil=> rfl
  |cons b r ih=>
   rw [aN,gw,ih,cb]
   cases b <;> simp [aE]
 rw [this];rfl
theorem adp{bs:List Bool}:yj (.da (.bool false)) (.lst (bs.map aV)) s=.ok (.bl (bs.all id)) s:=by
 show (if okD (.bool false)=true/\(bs.map aV).all okD=true then R.ok (D.bl (nb true ((bs.map aV).any fun d=> aE d (.bool false)))) s else .bad)=_
 rw [if_pos ⟨rfl,by rw [cB,ao];intro b _;rfl⟩]
 have:((bs.map aV).any fun d=> aE d (.bool false))= !bs.all id:=by
  induction bs with
  |nil=> rfl
  |cons b r ih=>
   rw [aN,gw,ih,cb]
   cases b <;> simp [aE]
 rw [this]
 cases bs.all id <;> rfl
theorem alz: ∀xs:List Int,aS (xs.map aI)=true
 |[]=> rfl
 |x::r=> by simp only [aN,aS,c7,alz r,cp]
theorem ai9: ∀xs:List Int,ar (xs.map aI) <=1
 |[]=> by (simp [ar])
 |x::r=> by simp only [aN,ar,aA];have:=ai9 r;lia
theorem am1(xs:List Int):okD (.list (xs.map aI))=true:=by
 unfold okD
 rw [am]
 refine⟨by simp only [c7];exact alz xs,decide_eq_true ?_⟩
 simp only [aA]
 have:=ai9 xs
 lia
theorem akh: ∀xs:List aa,jx xs=true ↔ ∀k,k+1 < xs.length -> ltb (xs.getD k .none) (xs.getD (k+1) .none)=true
 |[]=> ⟨fun _ k h=> by simp at h,fun _=> rfl⟩
 |[x]=> ⟨fun _ k h=> by simp at h,fun _=> rfl⟩
 | x::y::r=> by
  have ih:=akh (y::r)
  show (ltb x y&&jx (y::r))=true ↔ _
  rw [am,ih]
  constructor
  ·rintro⟨h1,h2⟩ k hk
   cases k with
   |zero=> exact h1
   |succ k=>
    have:=h2 k (by simpa using hk)
    simpa using this
  ·intro h
   refine⟨h 0 (by simp),fun k hk=> ?_⟩
   have:=h (k+1) (by simpa using hk)
   simpa using this
theorem asj(n:Nat):v8 1 n=(aZ n).map fun i:Nat=> D.int ((i:Int)+1):=by
 apply dj
 intro i
 by_cases hi:i < n
 ·rw [agc _ _ _ hi,a9,dw hi];simp;lia
 ·rw [cz (by rw [k8];lia),cz (by simp;lia)]
theorem a0p{i j:Int}(h: -(2^62) <=i/\i < 2^62/\ -(2^62) <=j/\j < 2^62):alc [.int i,.int j] s=.ok (v8 i (j - i).toNat,none) s:=if_pos h
theorem a3e{f:FA}:arl f ρ s=(f ρ s).bind alc:=rfl
theorem azb{row:D}(hlen:k6 [row] s=.ok (.int xs.length) s)(hix: ∀(k:Nat) (x:aa),xs[k]?=some x -> gIx row (.int (k:Int)) s=.ok (.da x) s)(h:CmpR xs)(hl:xs.length <=1000):yb [row] s=.ok (.bl (jx xs)) s:=by
 rw [aoe];unfold B_law_rises
 walk_at "ev"
 rw [a3e]
 walk_at "ev"
 rw [hlen]
 walk_at "ev"
 rw [a0p ⟨by decide,by decide,by lia,by lia⟩]
 walk_at "ev"
 rw [ko (ρ0:=[none,some row]) (by rw [k8];lia) rfl]
 rw [show ((xs.length:Int) - 1).toNat=xs.length - 1 by lia,asj]
 rw [vj (fun i:Nat=> D.int ((i:Int)+1)) (fun i=> !ltb (xs.getD i .none) (xs.getD (i+1) .none)) (fun i:Nat=> aI ((i:Int)+1)) (aZ (xs.length - 1)) (fun i hi=> ⟨[some (.int ((i:Int)+1)),some row],rfl,by
  (have hi':=bD.mp hi)
  have g1:xs[i]?=some (xs.getD i .none):=by rw [bK,av (by lia)];rfl
  have g2:xs[i+1]?=some (xs.getD (i+1) .none):=by rw [bK,av (by lia)];rfl
  walk_at "ev"
  rw [show (i:Int)+1 - 1=(i:Int) by lia,hix _ _ g1]
  walk_at "ev"
  rw [show (i:Int)+1=((i+1:Nat):Int) by lia,hix _ _ g2]
  walk_at "ev"
  have m1:=bA g1
  have m2:=bA g2
  rw [a0m (ant (h.lt _ m1 _ m2)) (h.ok _ m1) (h.ok _ m2)]
  walk_at "ev",fun _=> by
  walk_at "ev"⟩)]
 walk_at "ev"
 rw [show ((aZ (xs.length - 1)).filter fun i=> !ltb (xs.getD i .none) (xs.getD (i+1) .none)).map (fun i:Nat=> aI ((i:Int)+1))=(((aZ (xs.length - 1)).filter fun i=> !ltb (xs.getD i .none) (xs.getD (i+1) .none)).map fun i:Nat=> (i:Int)+1).map aI by rw [aU];rfl]
 rw [ago (am1 _),aa3,aa3,aez]
 walk_at "ev"
 congr 3
 rw [bi,akh,ao]
 exact⟨fun h k hk=> h k (bD.mpr (by lia)),fun h k hk=> h k (by have:=bD.mp hk;lia)⟩
theorem ahe(h:CmpR xs)(hl:xs.length <=1000):yb [.tup xs] s=.ok (.bl (jx xs)) s:=azb (by walk_at "ev") (fun k x e=> abp e) h hl
theorem ae3:yp [.da d] s=.ok (.bl (jm 0 d)) s:=by
 rw [aru];unfold Bis_from_0
 walk_at "ev"
 rw [aja]
 cases d with
 |int i=> rfl
 |_=> rfl
noncomputable def vt:aa -> Bool
 |.int i=> decide (1 <=i)&&decide (i <=3)
 |_=> false
theorem axg:ach [.da d] s=.ok (.bl (vt d)) s:=by
 rw [aqi];unfold Bis_things
 walk_at "ev"
 rw [aja]
 cases d with
 | int i=>
  simp only [anm]
  walk_at "ev"
  by_cases h0:1 <=i
  ·simp only [h0,decide_true,vt]
   walk_at "ev"
  ·simp only [h0,decide_false,vt]
   walk_at "ev"
 |_=> rfl
noncomputable def alg:aa -> Bool
 |.none=> true
 |_=> false
def xy(m:Int)(d:aa):Bool:=alg d||jo m d
theorem a3d:af9 [.int m,.da d] s=.ok (.bl (xy m d)) s:=by
 rw [awl];unfold Bis_held
 walk_at "ev"
 cases d with
 |none=> rfl
 |int i=>
  rw [show isN (D.da (.int i))=false from rfl]
  walk_at "ev"
  rw [apf]
  rfl
 |_=> rfl
theorem zo: ∀xs:List Str,jx (xs.map ag)=z9 xs
 |[]=> rfl
 |[_]=> rfl
 | x::y::r=> by
  rw [ag2,←zo (y::r)]
  show (ltb (.str x) (.str y)&&_)=_
  have:ltb (.str x) (.str y)=ltS x y:=by
   unfold ltb ltS
   rw [xq]
   cases decide (x.cps.toList < y.cps.toList) <;> rfl
  rw [this];rfl
theorem ahq{xs:List Str}(h: ∀x∈xs,okD (.str x)=true):CmpR (xs.map ag):=by
 refine⟨fun a ha b hb=> ?_,fun a ha=> ?_⟩
 ·obtain⟨x,_,rfl⟩:=aR.mp ha
  obtain⟨y,_,rfl⟩:=aR.mp hb
  rw [xq];rfl
 ·obtain⟨x,hx,rfl⟩:=aR.mp ha
  exact h x hx
theorem acj{m:Int}: ∀{ds:List aa},ds.all (jo m)=true -> ∃is:List Int,ds=is.map .int/\ ∀i∈is,0 <=i/\i < m
 |[],_=> ⟨[],rfl,fun _ h=> by cases h⟩
 | d::r,h=> by
  (rw [cb,am]at h)
  obtain⟨is,rfl,hs⟩:=acj h.2
  cases d with
  | int i=>
   have h1:=h.1
   simp only [jo,am,decide_eq_true_eq]at h1
   exact⟨i::is,rfl,fun y hy=> by
    rcases ay.mp hy with z|z
    ·subst z;exact h1
    ·exact hs y z⟩
  |_=> exact absurd h.1 aF
theorem als(is:List Int):CmpR (is.map aI):=by
 refine⟨fun a ha b hb=> ?_,fun a ha=> ?_⟩
 ·obtain⟨x,_,rfl⟩:=aR.mp ha
  obtain⟨y,_,rfl⟩:=aR.mp hb
  rfl
 ·obtain⟨x,hx,rfl⟩:=aR.mp ha
  rfl
def adk(m:Int):aa -> Bool
 |.tuple ds=> ds.all (jo m)&&jx ds
 |_=> false
theorem a53(h:Lf n d)(hn:n <=5):aes [.int m,.da d] s=.ok (.bl (adk m d)) s:=by
 rw [axw];unfold Bis_told
 walk_at "ev"
 cases h with
 | @tup ds hl hx=>
  rw [show ku (.tuple ds) "tuple"=true from rfl]
  walk_at "ev"
  rw [ko (ρ0:=[none,some (.int m)]) (by rw [au];lia) rfl]
  rw [qg (fun _=> true) (fun x=> D.bl (jo m x)) ds (fun x _=> rfl) (fun x hm _=> by
   walk_at "ev"
   rw [apf]),bh.mpr (fun _ _=> rfl)]
  rw [show ds.map (fun x=> D.bl (jo m x))=(ds.map fun x=> aV (jo m x)).map D.da by rw [aU];rfl]
  walk_at "ev"
  rw [all_map]
  show _=R.ok (D.bl (ds.all (jo m)&&jx ds)) s
  cases hp:ds.all (jo m) with
  |false=> walk_at "ev"
  |true=>
   walk_at "ev"
   obtain⟨is,rfl,hs⟩:=acj hp
   rw [aem (als is) (by lia)]
   walk_at "ev"
 |_=> rfl
theorem ar2(h:z9 ss=true):ss.Nodup:=by
 refine (agp ss h).imp fun {a b} hab e=> ?_
 subst e
 unfold ltS at hab
 exact absurd (of_decide_eq_true hab) (kC _)
def kd:aa -> Bool
 |.tuple ds=> ds.all kj&&jx ds
 |_=> false
theorem km(h:jz x=true):okD (.str x)=true:=axt (axe h)
theorem ane(h:Lf n d)(hn:n <=5):vy [.da d] s=.ok (.bl (kd d)) s:=by
 rw [ags];unfold Bare_rising_ports
 walk_at "ev"
 rw [awi h hn]
 cases h with
 | @tup ds hl hx=>
  show _=R.ok (D.bl (ds.all kj&&jx ds)) s
  rw [show aon (.tuple ds)=(ds.all kj&&amg ds) from rfl]
  cases hp:ds.all kj with
  |false=> walk_at "ev"
  | true=>
   obtain⟨ss,rfl,hs⟩:=aaq hp
   unfold amg
   rw [zf,au]
   cases hr:jx (ss.map ag) with
   |true=>
    rw [zo]at hr
    rw [aql (ar2 hr),decide_eq_true rfl]
    walk_at "ev"
    rw [aem (ahq fun x hx=> km (hs x hx)) (by lia),zo,hr]
    walk_at "ev"
   | false=>
    cases decide ((j9 ss).length=ss.length) with
    |false=> walk_at "ev"
    |true=>
     walk_at "ev"
     rw [aem (ahq fun x hx=> km (hs x hx)) (by lia),hr]
     walk_at "ev"
 |_=> rfl
theorem a4q(h: ∀a b,ds≠ [a,b]):(!decide ((ds.length:Int)=2))=true:=by
 match ds with
 |[]=> rfl
 |[a]=> rfl
 |[a,b]=> exact absurd rfl (h a b)
 |a::b::c::r=> simp;lia
theorem aec(ds:List aa):(∃a b,ds=[a,b])\/(!decide ((ds.length:Int)=2))=true:=by
 by_cases h: ∃a b,ds=[a,b]
 ·exact .inl h
 ·exact .inr (a4q fun a b e=> h ⟨a,b,e⟩)
theorem ay8{A B C u v:Option D}{b:aa}:ag8 (.t2 (.nm 3) (.nm 4)) [A,B,C,u,v] (.da (.tuple [a,b])) s=.ok (.nx [A,B,C,some (.da a),some (.da b)]) s:=rfl
theorem a64{A B u v:Option D}{b:aa}:ag8 (.t2 (.nm 2) (.nm 3)) [A,B,u,v] (.da (.tuple [a,b])) s=.ok (.nx [A,B,some (.da a),some (.da b)]) s:=rfl
def aim(m b:Int):aa -> Bool
 |.tuple ds=> decide ((ds.length:Int)=b)&&ds.all (xy m)
 |_=> false
def yz(m b:Int):aa -> Bool
 |.tuple [p,hs]=> jm 0 p&&aim m b hs
 |_=> false
theorem ak1(h:(!decide ((ds.length:Int)=2))=true):yz m b (.tuple ds)=false:=by
 match ds,h with
 |[],_=> rfl
 |[_],_=> rfl
 |[_,_],h=> simp at h
 |_::_::_::_,_=> rfl
theorem a0c(h:Lf n d)(hn:n <=5):adh [.int m,.int b,.da d] s=.ok (.bl (yz m b d)) s:=by
 rw [aui];unfold Bis_begin
 walk_at "ev"
 cases h with
 | @tup ds hl hx=>
  rw [show ku (.tuple ds) "tuple"=true from rfl]
  walk_at "ev"
  rw [xt]
  rcases aec ds with ⟨p,hs,rfl⟩|e
  ·rw [show (!decide ((([p,hs]:List aa).length:Int)=2))=false by simp]
   walk_at "ev"
   rw [ay8]
   walk_at "ev"
   rw [ae3]
   show _=R.ok (D.bl (jm 0 p&&aim m b hs)) s
   cases jm 0 p with
   |false=> walk_at "ev"
   | true=>
    walk_at "ev"
    cases hx hs (by simp) with
    | @tup es hl' hx'=>
     rw [show ku (.tuple es) "tuple"=true from rfl]
     walk_at "ev"
     rw [xt]
     show _=R.ok (D.bl (true&&(decide ((es.length:Int)=b)&&es.all (xy m)))) s
     cases decide ((es.length:Int)=b) with
     |false=> walk_at "ev"
     | true=>
      walk_at "ev"
      rw [ko (ρ0:=[none,some (.int m)]) (by rw [au];lia) rfl]
      rw [qg (fun _=> true) (fun x=> D.bl (xy m x)) es (fun x _=> rfl) (fun x hm _=> by
       walk_at "ev"
       rw [a3d]),bh.mpr (fun _ _=> rfl)]
      rw [show es.map (fun x=> D.bl (xy m x))=(es.map fun x=> aV (xy m x)).map D.da by rw [aU];rfl]
      walk_at "ev"
      rw [all_map]
      walk_at "ev"
    |_=> rfl
  ·rw [e]
   walk_at "ev"
   rw [ak1 e]
 |_=> rfl
def xb(b:Int):aa -> Bool
 |.tuple [.str w,x]=> if w="port" then kj x else (decide (w∈(["box","next"]:List Str))&&jo b x)
 |_=> false
theorem ax6(h:(!decide ((ds.length:Int)=2))=true):xb b (.tuple ds)=false:=by
 match ds,h with
 |[],_=> rfl
 |[a],_=> cases a <;> rfl
 |[_,_],h=> simp at h
 |a::_::_::_,_=> cases a <;> rfl
theorem a17{w x:aa}(h:aa5 w=false):xb b (.tuple [w,x])=false:=by cases w <;> first|rfl|cases h
theorem ae6: ∀x∈(["box","next"]:List Str),okD (.str x)=true:=by decide+kernel
theorem a2h(h:Lf n d)(hn:n <=5):afa [.int b,.da d] s=.ok (.bl (xb b d)) s:=by
 rw [av8];unfold Bis_spot
 walk_at "ev"
 cases h with
 | @tup ds hl hx=>
  rw [show ku (.tuple ds) "tuple"=true from rfl]
  walk_at "ev"
  rw [xt]
  rcases aec ds with ⟨w,x,rfl⟩|e
  ·rw [show (!decide ((([w,x]:List aa).length:Int)=2))=false by simp]
   walk_at "ev"
   rw [a64]
   walk_at "ev"
   cases hw:aa5 w with
   |false=>
    rw [show am4 (.da w) (.str "port") s=.ok (.bl false) s from if_pos hw]
    walk_at "ev"
    rw [show ama false (.da w) (.con (cA ag ["box","next"])) s=.ok (.bl false) s from (if_pos hw).trans (if_pos rfl)]
    walk_at "ev"
    rw [a17 hw]
   | true=>
    obtain⟨z,rfl⟩: ∃z,w=.str z:=by
     cases w with
     |str z=> exact⟨z,rfl⟩
     |_=> cases hw
    have oz:=(hx (.str z) (by simp)).okT.ok z rfl
    rw [show am4 (.da (.str z)) (.str "port") s=gEq (.da (.str z)) (.str "port") s from rfl]
    rw [age oz (by decide+kernel)]
    show _=R.ok (D.bl (if z="port" then kj x else (decide (z∈(["box","next"]:List Str))&&jo b x))) s
    by_cases hz:z="port"
    ·rw [decide_eq_true hz,if_pos hz]
     walk_at "ev"
     rw [au4 (aiu (hx x (by simp)) hn)]
     walk_at "ev"
    ·rw [decide_eq_false hz,if_neg hz]
     walk_at "ev"
     rw [show ama false (.da (.str z)) (.con (cA ag ["box","next"])) s=.ok (.bl (decide (z∈(["box","next"]:List Str)))) s by
      show (if okD (.str z)=true/\((["box","next"]:List Str).map ag).all okD=true then R.ok (D.bl (nb false (((["box","next"]:List Str).map ag).any fun d=> aE d (.str z)))) s else .bad)=_
      rw [if_pos ⟨oz,all_strs ae6⟩,aeg];rfl]
     cases decide (z∈(["box","next"]:List Str)) with
     |false=> walk_at "ev"
     |true=>
      walk_at "ev"
      rw [apr]
      walk_at "ev"
  ·rw [e]
   walk_at "ev"
   rw [ax6 e]
 |_=> rfl
structure SpK (b:Int) (d:aa):Prop where
 ex:(∃p:Str,d=.tuple [.str "port",.str p]/\jz p=true)\/ ∃(w:Str) (i:Int),d=.tuple [.str w,.int i]/\w∈(["box","next"]:List Str)/\0 <=i/\i < b
theorem ad8(h:xb b d=true):SpK b d:=by
 match d,h with
 | .tuple [.str w,x],h=>
  have h:(if w="port" then kj x else (decide (w∈(["box","next"]:List Str))&&jo b x))=true:=h
  by_cases hw:w="port"
  ·rw [if_pos hw]at h
   subst hw
   cases x with
   |str p=> exact⟨.inl ⟨p,rfl,h⟩⟩
   |_=> cases h
  ·rw [if_neg hw,am,decide_eq_true_eq]at h
   cases x with
   |int i=>
    have h2:=h.2
    simp only [jo,am,decide_eq_true_eq]at h2
    exact⟨.inr ⟨w,i,rfl,h.1,h2.1,h2.2⟩⟩
   |_=> cases h.2
theorem af7: ∀w∈(["box","next"]:List Str),w≠"port":=by decide+kernel
theorem SpK.lt{b':Int}{e:aa}(h:SpK b d)(k:SpK b' e):(ltP d e).isSome=true:=by
 rcases h.ex with ⟨p,rfl,hp⟩|⟨w,i,rfl,hw,hi⟩ <;> rcases k.ex with ⟨q,rfl,hq⟩|⟨v,j,rfl,hv,hj⟩
 ·rw [xm,ada (by simp [plD]),zn]
  split
  ·rfl
  ·rw [xq];rfl
 ·rw [xm,y6 (by simp [plD]) (by simp [plD]) (fun e=> af7 v hv (by injection e with e;exact e.symm)),xq];rfl
 ·rw [xm,y6 (by simp [plD]) (by simp [plD]) (fun e=> af7 w hw (by injection e)),xq];rfl
 ·rw [xm]
  by_cases e:w=v
  ·subst e
   rw [ada (by simp [plD]),zn]
   split
   ·rfl
   ·rw [acn];rfl
  ·rw [y6 (by simp [plD]) (by simp [plD]) (fun z=> e (by injection z)),xq];rfl
theorem ajo{b:aa}(ha:okD a=true)(hb:okD b=true)(h1:a.depth <=1)(h2:b.depth <=1):okD (.tuple [a,b])=true:=by
 unfold PF.okD at ha hb⊢
 rw [am]at ha hb⊢
 refine⟨by simp only [c7,aS,ha.1,hb.1,cp],decide_eq_true ?_⟩
 simp only [aA,ar]
 lia
theorem azy(i:Int):okD (.int i)=true:=rfl
theorem SpK.okD(h:SpK b d):okD d=true:=by
 rcases h.ex with ⟨p,rfl,hp⟩|⟨w,i,rfl,hw,hi⟩
 ·exact ajo (by decide+kernel) (km hp) (by simp [aA]) (by simp [aA])
 ·exact ajo (ae6 w hw) (azy i) (by simp [aA]) (by simp [aA])
theorem aub(h:sp.all (xb b)=true):CmpR sp:=by
 rw [ao]at h
 exact⟨fun x hx y hy=> (ad8 (h x hx)).lt (ad8 (h y hy)),fun x hx=> (ad8 (h x hx)).okD⟩
noncomputable def qz:aa -> Bool
 |.tuple td=> decide (0 < td.length)
 |_=> false
def xi(m b:Int):aa -> Bool
 |.tuple [.tuple sp,.tuple td]=> sp.all (xb b)&&(decide (0 < sp.length)&&(jx sp&&(adk m (.tuple td)&&decide (0 < td.length))))
 |_=> false
theorem ayl(h:(!decide ((ds.length:Int)=2))=true):xi m b (.tuple ds)=false:=by
 match ds,h with
 |[],_=> rfl
 |[a],_=> cases a <;> rfl
 |[_,_],h=> simp at h
 |a::c::_::_,_=> cases a <;> cases c <;> rfl
theorem a77 (h:Lf n d) (hn:n <=5):agf [.int m,.int b,.da d] s=.ok (.bl (xi m b d)) s:=by
 rw [azi];unfold Bis_tie
 walk_at "ev"
 cases h with
 | @tup ds hl hx=>
  rw [show ku (.tuple ds) "tuple"=true from rfl]
  walk_at "ev"
  rw [xt]
  rcases aec ds with ⟨x,y,rfl⟩|e
  ·rw [show (!decide ((([x,y]:List aa).length:Int)=2))=false by simp]
   walk_at "ev"
   rw [ay8]
   walk_at "ev"
   have hy:=hx y (by simp)
   cases hx x (by simp) with
   | @tup sp hl1 hx1=>
    rw [show ku (.tuple sp) "tuple"=true from rfl]
    walk_at "ev"
    rw [ko (ρ0:=[none,some (.int b)]) (by rw [au];lia) rfl]
    rw [qg (fun _=> true) (fun x=> D.bl (xb b x)) sp (fun x _=> rfl) (fun x hm _=> by
     walk_at "ev"
     rw [a2h (hx1 x hm) hn]),bh.mpr (fun _ _=> rfl)]
    rw [show sp.map (fun x=> D.bl (xb b x))=(sp.map fun x=> aV (xb b x)).map D.da by rw [aU];rfl]
    walk_at "ev"
    rw [all_map]
    have he:xi m b (.tuple [.tuple sp,y])=(sp.all (xb b)&&(decide (0 < sp.length)&&(jx sp&&(adk m y&&qz y)))):=by
     cases y with
     |tuple td=> rfl
     |_=> simp [xi,adk]
    rw [he]
    cases hp:sp.all (xb b) with
    |false=> walk_at "ev"
    | true=>
     walk_at "ev"
     rw [show decide ((0:Int) < (sp.length:Int))=decide (0 < sp.length) by rw [bi,decide_eq_true_eq,decide_eq_true_eq];lia]
     cases decide (0 < sp.length) with
     |false=> walk_at "ev"
     | true=>
      walk_at "ev"
      rw [aem (aub hp) (by lia)]
      cases jx sp with
      |false=> walk_at "ev"
      | true=>
       walk_at "ev"
       rw [a53 hy hn]
       cases ht:adk m y with
       |false=> walk_at "ev"
       | true=>
        walk_at "ev"
        cases y with
        |tuple td=>
         walk_at "ev"
         rw [show decide ((0:Int) < (td.length:Int))=decide (0 < td.length) by rw [bi,decide_eq_true_eq,decide_eq_true_eq];lia]
         rfl
        |_=> cases ht
   |_=> rfl
  ·rw [e]
   walk_at "ev"
   rw [ayl e]
 |_=> rfl
mutual
noncomputable def strN:aa -> Nat
 |.str _=> 1
 |.tuple ds=> jg ds
 |.list ds=> jg ds
 |_=> 0
noncomputable def jg:List aa -> Nat
 |[]=> 0
 |d::r=> strN d+jg r
end
theorem qq(xs ys:List aa):jg (xs++ys)=jg xs+jg ys:=by
 induction xs with
 |nil=> simp [jg]
 |cons x r ih=> rw [gx];simp only [jg,ih];lia
theorem ahz{all:List D}{s:S}: ∀(ts:List (List aa×aa)),qr (.nm 0) (.nm 1) kx (fIt (fOp gIx (jb 0) (fC (.da (.int 0))))) kx (jb 1) [none,none] (all,none) (ts.map fun t=> D.da (.tuple [.tuple t.1,t.2])) s=.ok ((ts.flatMap fun t=> t.1).map D.da) s
 |[]=> rfl
 | t::r=> by
  have ih:=ahz (all:=all) (s:=s) r
  have e1:fIt (fOp gIx (jb 0) (fC (.da (.int 0)))) [some (D.da (.tuple [.tuple t.1,t.2])),none] s=.ok (t.1.map D.da,none) s:=by
   walk_at "ev"
   first|done|rfl
  have e2:kl (.nm 1) kx (jb 1) [some (D.da (.tuple [.tuple t.1,t.2])),none] (t.1.map D.da,none) (t.1.map D.da) s=.ok (t.1.map D.da) s:=by
   rw [vj D.da (fun _=> true) (fun x=> x) t.1 (fun x hx=> ⟨[some (D.da (.tuple [.tuple t.1,t.2])),some (.da x)],rfl,rfl,fun _=> rfl⟩),bh.mpr (fun _ _=> rfl)]
   rw [gY]
  have e0:qu (Tg.nm 0) (D.da (.tuple [.tuple t.1,t.2])) [none,none]=some [some (D.da (.tuple [.tuple t.1,t.2])),none]:=rfl
  rw [aN,qr,e0]
  dsimp only
  rw [aqw,R.bind_ok,if_pos rfl,e1,R.bind_ok,if_pos (show xh (Tg.nm 1) [some (D.da (.tuple [.tuple t.1,t.2])),none]=true from rfl),yo]
  dsimp only
  rw [e2,R.bind_ok,yo,ih,R.bind_ok,iJ,jE]
noncomputable def adx:aa -> List aa
 |.tuple (.tuple sp::_)=> sp
 |_=> []
def j8(ties:List aa):List aa:=ties.flatMap adx
theorem ahl{m b:Int}: ∀{ts:List aa},ts.all (xi m b)=true -> ∃qs:List (List aa×aa),(ts=qs.map fun t=> aK [.tuple t.1,t.2])/\(∀t∈qs,t.1.all (xb b)=true)/\j8 ts=qs.flatMap fun t=> t.1
 |[],_=> ⟨[],rfl,(fun _ h=> by cases h),rfl⟩
 | d::r,h=> by
  (rw [cb,am]at h)
  obtain⟨qs,rfl,hq,e⟩:=ahl h.2
  match d,h.1 with
  | .tuple [.tuple sp,.tuple td],h1=>
   have h1:(sp.all (xb b)&&(decide (0 < sp.length)&&(jx sp&&(adk m (.tuple td)&&decide (0 < td.length)))))=true:=h1
   rw [am]at h1
   refine⟨(sp,.tuple td)::qs,rfl,fun t ht=> ?_,?_⟩
   ·rcases ay.mp ht with z|z
    ·subst z;exact h1.1
    ·exact hq t z
   ·show sp++j8 _=_
    rw [e];rfl
theorem ag0(h:ts.all (xi m b)=true): ∀x∈j8 ts,SpK b x:=by
 obtain⟨qs,rfl,hq,e⟩:=ahl h
 rw [e]
 intro x hx
 obtain⟨t,ht,hx⟩:=gB.mp hx
 have:=hq t ht
 rw [ao]at this
 exact ad8 (this x hx)
noncomputable def vw:aa -> Option Str
 |.tuple [.str w,.str p]=> if w="port" then some p else none
 |_=> none
def qk(sp:List aa):List Str:=sp.filterMap vw
theorem af0{b:Int}: ∀{sp:List aa},(∀x∈sp,SpK b x) -> sp.length+(qk sp).length <=jg sp
 |[],_=> by simp [jg,qk]
 | x::r,h=> by
  have ih:=af0 fun y hy=> h y (az _ hy)
  have hx:=(h x ax).ex
  rcases hx with ⟨p,rfl,hp⟩|⟨w,i,rfl,hw,hi⟩
  ·have e:qk (.tuple [.str "port",.str p]::r)=p::qk r:=by simp [qk,vw]
   rw [e]
   simp only [aP,jg,strN]
   lia
  ·have e:qk (.tuple [.str w,.int i]::r)=qk r:=by unfold qk;rw [fY rfl]
   rw [e]
   simp only [aP,jg,strN]
   lia
theorem afz: ∀ts:List aa,jg (j8 ts) <=jg ts
 |[]=> aD _
 | d::r=> by
  have ih:=afz r
  show jg (adx d++j8 r) <=_
  rw [qq]
  have:jg (adx d) <=strN d:=by
   unfold adx
   split
   ·simp only [strN,jg];lia
   ·simp [jg]
  simp only [jg]
  lia
theorem SpK.pl(h:SpK b d):plD d=true:=by
 rcases h.ex with ⟨p,rfl,hp⟩|⟨w,i,rfl,hw,hi⟩ <;> simp [plD,ve]
theorem SpK.key(h:SpK b d):aa0 d=true:=by
 have hp:=h.pl
 have ho:=h.okD
 unfold PF.okD at ho
 rw [am]at ho
 unfold aa0 af3
 rcases h.ex with ⟨p,rfl,_⟩|⟨w,i,rfl,_,_⟩
 ·rw [hp,ho.1];simp [aA,ar]
 ·rw [hp,ho.1];simp [aA,ar]
theorem anq(xs:List aa)(r:List D):ab1 (.da (.tuple xs)::r)=none:=rfl
theorem aob(h: ∀x∈sp,aa0 x=true)(hl:sp.length <=305):zb [.lst sp] s=.ok (.int (ud sp).length) s:=by
 match sp,h,hl with
 |[],_,_=> rfl
 | x::r,h,hl=>
  obtain⟨_,xs,rfl⟩:=aj5 (h x ax)
  show (match ab1 ((aK xs::r).map D.da) with
   |some ss=> if ss.length < 4000 then R.ok (D.int (j9 ss).length) s else .bad
   |none=> match kg ((aK xs::r).map D.da) with
    |some ps=> if ps.all aa0=true/\ps.length+1 <=306 then R.ok (D.int (ud ps).length) s else .bad
    |none=>.bad)=_
  rw [aN,anq,←aN,va]
  exact if_pos ⟨ao.mpr h,by lia⟩
theorem asa{all:List D}(h: ∀x∈sp,SpK b x):kl (.t2 (.nm 0) (.nm 1)) (ji (fOp gEq (jb 0) (fC (.da (.str "port"))))) (jb 1) [none,none] (all,none) (sp.map D.da) s=.ok (((qk sp).map ag).map D.da) s:=by
 have key:=vj (g:=.t2 (.nm 0) (.nm 1)) (ft:=ji (fOp gEq (jb 0) (fC (.da (.str "port"))))) (fe:=jb 1) (ρ0:=[none,none]) (all:=all) (s:=s) D.da (fun x=> (vw x).isSome) (fun x=>.str ((vw x).getD "")) sp (fun x hx=> by
  rcases (h x hx).ex with ⟨p,rfl,hp⟩|⟨w,i,rfl,hw,hi⟩
  ·refine⟨[some (.str "port"),some (.str p)],rfl,?_,fun _=> ?_⟩
   ·walk_at "ev"
    rw [age (by decide+kernel) (by decide+kernel)]
    walk_at "ev"
    simp [vw]
   ·walk_at "ev"
    simp [vw]
  ·refine⟨[some (.str w),some (.int i)],rfl,?_,fun hf=> by cases hf⟩
   walk_at "ev"
   rw [age (ae6 w hw) (by decide+kernel),decide_eq_false (af7 w hw)]
   walk_at "ev"
   rfl)
 rw [key]
 congr 2
 clear key h
 induction sp with
 |nil=> rfl
 |cons x r ih=>
  unfold qk at ih⊢
  cases e:vw x with
  |none=> rw [eF (by simp [e]),fY e,ih]
  |some p=> rw [eG (by simp [e]),fX e,aN,aN,ih,e];rfl
theorem avv(h: ∀x∈sp,SpK b x): ∀p∈qk sp,jz p=true:=by
 intro p hp
 obtain⟨x,hx,e⟩:=cO.mp hp
 rcases (h x hx).ex with ⟨q,rfl,hq⟩|⟨w,i,rfl,hw,hi⟩
 ·have:some q=some p:=by simpa [vw] using e
  cases this;exact hq
 ·cases e
theorem aao(l:List Str):vi (l.map ag)=true:=by
 unfold vi
 rw [ao]
 intro a ha
 obtain⟨p,_,rfl⟩:=aR.mp ha
 rw [am,ao]
 refine⟨by simp [plD],fun b hb=> ?_⟩
 obtain⟨q,_,rfl⟩:=aR.mp hb
 rw [xq];rfl
noncomputable def qv:aa -> List aa
 |.tuple ds=> ds
 |_=> []
def act(pa ties:List aa):Bool:=decide ((ud (j8 ties)).length=(j8 ties).length)&&aE (.list (ql ((qk (j8 ties)).map ag))) (.list pa)
def k9(m b:Int)(ps:List Str):aa -> Bool
 |.tuple [bg,pa,.tuple ties,en]=> jm 0 bg&&(jm 0 en&&(kd pa&&((qv pa).all (fun x=> inD x ps)&&(ties.all (xi m b)&&act (qv pa) ties))))
 |_=> false
theorem app(ds:List aa):(∃a b c d,ds=[a,b,c,d])\/(!decide ((ds.length:Int)=4))=true:=by
 match ds with
 |[]=> exact .inr rfl
 |[a]=> exact .inr rfl
 |[a,b]=> exact .inr rfl
 |[a,b,c]=> exact .inr rfl
 |[a,b,c,d]=> exact .inl ⟨a,b,c,d,rfl⟩
 |a::b::c::d::e::r=> exact .inr (by simp;lia)
theorem avc(h:(!decide ((ds.length:Int)=4))=true):k9 m b ps (.tuple ds)=false:=by
 match ds,h with
 |[],_=> rfl
 |[a],_=> rfl
 |[a,b],_=> rfl
 |[a,b,c],_=> cases c <;> rfl
 |[_,_,_,_],h=> simp at h
 |a::b::c::d::e::r,_=> cases c <;> rfl
theorem ayr{bg pa ti en:aa}(h:ku ti "tuple"=false):k9 m b ps (.tuple [bg,pa,ti,en])=false:=by cases ti <;> first|rfl|cases h
theorem a91{A B C E u v w x y:Option D}{b c:aa}:ag8 (.tn [4,5,6,7]) [A,B,C,E,u,v,w,x,y] (.da (.tuple [a,b,c,d])) s=.ok (.nx [A,B,C,E,some (.da a),some (.da b),some (.da c),some (.da d),y]) s:=rfl
theorem agw{xs:List Str}(h: ∀x∈xs,jz x=true):okD (.list (xs.map ag))=true:=amq fun x hx=> km (h x hx)
theorem aen(l:List Str): ∃qs:List Str,ql (l.map ag)=qs.map ag/\qs.Perm l:=by
 obtain⟨qs,h1,h2⟩:=avt (ym (l.map ag))
 exact⟨qs,h2.symm,h1⟩
theorem aox(a:aa): ∀ss:List Str,((ss.map ag).any fun d=> aE d a)=inD a ss:=by
 intro ss
 cases a with
 |str w=> rw [aeg];rfl
 |_=>
  rw [show∀x:aa,inD x ss=inD x ss from fun _=> rfl]
  rw [gg.mpr (by intro d hd;obtain⟨x,_,rfl⟩:=aR.mp hd;exact aF)]
  rfl
theorem avy(h1:okD a=true)(h2: ∀x∈ss,okD (.str x)=true):gIn (.da a) (.tup (ss.map ag)) s=.ok (.bl (inD a ss)) s:=by
 have e:gIn (.da a) (.tup (ss.map ag)) s=ajf false (.da a) (.tup (ss.map ag)) s:=by cases a <;> rfl
 rw [e]
 show (if okD a=true/\(ss.map ag).all okD=true then R.ok (D.bl (nb false ((ss.map ag).any fun d=> aE d a))) s else .bad)=_
 rw [if_pos ⟨h1,all_strs h2⟩,aox];rfl
theorem arr{all:List D}(ht:ties.all (xi m b)=true):qr (.nm 0) (.nm 1) kx (fIt (fOp gIx (jb 0) (fC (.da (.int 0))))) kx (jb 1) [none,none] (all,none) (ties.map D.da) s=.ok ((j8 ties).map D.da) s:=by
 obtain⟨qs,rfl,hq,e⟩:=ahl ht
 rw [e,aU]
 exact ahz qs
theorem a4p (h:Lf n d) (hn:n <=5) (hps: ∀x∈ps,jz x=true) (hN:strN d <=100):aev [.int m,.tup (ps.map ag),.int b,.da d] s=.ok (.bl (k9 m b ps d)) s:=by
 rw [axr];unfold Bis_step
 walk_at "ev"
 cases h with
 | @tup ds hl hx=>
  rw [show ku (.tuple ds) "tuple"=true from rfl]
  walk_at "ev"
  rw [xt]
  rcases app ds with ⟨bg,pa,ti,en,rfl⟩|e
  ·rw [show (!decide ((([bg,pa,ti,en]:List aa).length:Int)=4))=false by simp]
   walk_at "ev"
   rw [a91]
   walk_at "ev"
   rw [ae3]
   by_cases hti:ku ti "tuple"=true
   ·have hT:=hx ti (by simp)
    have hP:=hx pa (by simp)
    obtain⟨ties,rfl⟩: ∃ts,ti=.tuple ts:=by
     cases ti with
     |tuple ts=> exact⟨ts,rfl⟩
     |_=> cases hti
    obtain⟨hl2,hx2⟩:=qo hT
    show _=R.ok (D.bl (jm 0 bg&&(jm 0 en&&(kd pa&&((qv pa).all (fun x=> inD x ps)&&(ties.all (xi m b)&&act (qv pa) ties)))))) s
    cases jm 0 bg with
    |false=> walk_at "ev"
    | true =>
     walk_at "ev"
     rw [ae3]
     cases jm 0 en with
     |false=> walk_at "ev"
     | true=>
      walk_at "ev"
      rw [show ku (.tuple ties) "tuple"=true from rfl]
      walk_at "ev"
      rw [ane hP hn]
      cases hr:kd pa with
      |false=> walk_at "ev"
      | true=>
       obtain⟨ds,rfl⟩: ∃ts,pa=.tuple ts:=by
        cases pa with
        |tuple ts=> exact⟨ts,rfl⟩
        |_=> cases hr
       have hr':(ds.all kj&&jx ds)=true:=hr
       rw [am]at hr'
       obtain⟨ss,rfl,hs⟩:=aaq hr'.1
       obtain⟨hl3,hx3⟩:=qo hP
       walk_at "ev"
       rw [ko (ρ0:=[none,some (.tup (ps.map ag))]) (by rw [au];lia) rfl]
       rw [qg (fun _=> true) (fun x=> D.bl (inD x ps)) (ss.map ag) (fun x _=> rfl) (fun x hm _=> by
        obtain⟨z,hz,rfl⟩:=aR.mp hm
        walk_at "ev"
        rw [avy (km (hs z hz)) fun x hx=> km (hps x hx)]),bh.mpr (fun _ _=> rfl)]
       rw [show (ss.map ag).map (fun x=> D.bl (inD x ps))=((ss.map ag).map fun x=> aV (inD x ps)).map D.da by rw [aU,aU,aU];rfl]
       walk_at "ev"
       rw [all_map]
       rw [show qv (.tuple (ss.map ag))=ss.map ag from rfl]
       cases (ss.map ag).all fun x=> inD x ps with
       |false=> walk_at "ev"
       | true=>
        walk_at "ev"
        rw [ko (ρ0:=[none,some (.int m),some (.int b)]) (by rw [au];lia) rfl]
        rw [qg (fun _=> true) (fun x=> D.bl (xi m b x)) ties (fun x _=> rfl) (fun x hm _=> by
         walk_at "ev"
         rw [a77 (hx2 x hm) hn]),bh.mpr (fun _ _=> rfl)]
        rw [show ties.map (fun x=> D.bl (xi m b x))=(ties.map fun x=> aV (xi m b x)).map D.da by rw [aU];rfl]
        walk_at "ev"
        rw [all_map]
        cases ht:ties.all (xi m b) with
        |false=> walk_at "ev"
        | true=>
         have hsp:=ag0 ht
         have hN2:(j8 ties).length+(qk (j8 ties)).length <=100:=by
          have h1:=af0 hsp
          have h2:=afz ties
          have h3:jg ties <=strN (.tuple [bg,.tuple (ss.map ag),.tuple ties,en]):=by
           simp only [strN,jg];lia
          lia
         walk_at "ev"
         rw [a3v (ρ0:=[none,none]) rfl,arr ht,R.bind_ok,az2 (by lia)]
         walk_at "ev"
         rw [aob (fun x hx=> (hsp x hx).key) (by lia)]
         walk_at "ev"
         have hpl:(qk (j8 ties)).length <=(j8 ties).length:=fR _ _
         have hle:=(ahn (j8 ties)).2.2
         unfold act
         by_cases hu:(ud (j8 ties)).length=(j8 ties).length
         ·rw [decide_eq_true hu,decide_eq_false (show¬((ud (j8 ties)).length:Int) < ((j8 ties).length:Int) by lia)]
          walk_at "ev"
          rw [ko (ρ0:=[none,none]) (by rw [au];lia) rfl,asa hsp]
          walk_at "ev"
          have hpo:=avv hsp
          rw [aej (by rw [au];lia) (aao _) (all_strs fun x hx=> km (hpo x hx))]
          walk_at "ev"
          obtain⟨qs,eq,pq⟩:=aen (qk (j8 ties))
          rw [eq]
          rw [ae5 (agw fun x hx=> hpo x (pq.mem_iff.mp hx)) (agw hs)]
          walk_at "ev"
         ·rw [decide_eq_false hu,decide_eq_true (show ((ud (j8 ties)).length:Int) < ((j8 ties).length:Int) by lia)]
          walk_at "ev"
   ·rw [em]at hti
    rw [ayr hti]
    cases jm 0 bg with
    |false=> walk_at "ev"
    | true=>
     walk_at "ev"
     rw [ae3]
     cases jm 0 en with
     |false=> walk_at "ev"
     |true=>
      walk_at "ev"
      rw [hti]
      walk_at "ev"
  ·rw [e]
   walk_at "ev"
   rw [avc e]
 |_=> rfl
structure PlK (k:Nat) (d:aa):Prop where
 pl:plD d=true
 lay:d.canLay0=true
 dp:d.depth <=k
theorem PlK.mono{k':Nat}(h:PlK k d)(hk:k <=k'):PlK k' d:=⟨h.pl,h.lay,aJ h.dp hk⟩
theorem pls{k:Nat}: ∀{ds:List aa},(∀x∈ds,PlK k x) -> ve ds=true/\aS ds=true/\ar ds <=k
 |[],_=> ⟨by simp [ve],rfl,by simp [ar]⟩
 |x::r,h=> by
  obtain⟨a,b,c⟩:=pls fun y hy=> h y (az _ hy)
  obtain⟨p,q,z⟩:=h x ax
  refine⟨by simp only [ve,p,a,cp],by simp only [aS,q,b,cp],?_⟩
  simp only [ar]
  lia
theorem PlK.tup(h: ∀x∈ds,PlK k x):PlK (k+1) (.tuple ds):=by
 obtain⟨a,b,c⟩:=pls h
 exact⟨by simpa only [plD] using a,by simpa only [c7] using b,by simp only [aA];lia⟩
theorem PlK.int(i:Int):PlK 1 (.int i):=⟨by simp [plD],rfl,by simp [aA]⟩
theorem PlK.str(h:okD (.str x)=true):PlK 1 (.str x):=by
 unfold PF.okD at h
 rw [am]at h
 exact⟨by simp [plD],h.1,by simp [aA]⟩
theorem aca{P:aa -> Prop}{b:aa}(ha:P a)(hb:P b): ∀x∈ [a,b],P x:=by
 intro x hx
 (simp only [ay,aX,or_false]at hx)
 rcases hx with rfl|rfl
 ·exact ha
 ·exact hb
theorem aqr{P:aa -> Prop}{b c:aa}(ha:P a)(hb:P b)(hc:P c)(hd:P d): ∀x∈ [a,b,c,d],P x:=by
 intro x hx
 (simp only [ay,aX,or_false]at hx)
 rcases hx with rfl|rfl|rfl|rfl
 ·exact ha
 ·exact hb
 ·exact hc
 ·exact hd
theorem SpK.pk(h:SpK b d):PlK 2 d:=by
 rcases h.ex with ⟨p,rfl,hp⟩|⟨w,i,rfl,hw,hi⟩
 ·exact .tup (aca (.str (by decide+kernel)) (.str (km hp)))
 ·exact .tup (aca (.str (ae6 w hw)) (.int i))
theorem a0x(h:adk m d=true):PlK 2 d:=by
 cases d with
 | tuple ds=>
  have h:(ds.all (jo m)&&jx ds)=true:=h
  rw [am]at h
  obtain⟨is,rfl,_⟩:=acj h.1
  exact .tup fun x hx=> by
   obtain⟨i,_,rfl⟩:=aR.mp hx
   exact .int i
 |_=> cases h
theorem a28(h:xi m b d=true):PlK 4 d:=by
 match d,h with
 |.tuple [.tuple sp,.tuple td],h=>
  have h:(sp.all (xb b)&&(decide (0 < sp.length)&&(jx sp&&(adk m (.tuple td)&&decide (0 < td.length)))))=true:=h
  simp only [am,ao]at h
  exact .tup (aca (.tup fun x hx=> (ad8 (h.1 x hx)).pk) ((a0x h.2.2.2.1).mono (by decide)))
theorem zh(h:kd d=true):PlK 2 d/\ ∃ss:List Str,d=.tuple (ss.map ag)/\(∀x∈ss,jz x=true)/\z9 ss=true:=by
 cases d with
 |tuple ds=>
  have h:(ds.all kj&&jx ds)=true:=h
  rw [am]at h
  obtain⟨ss,rfl,hs⟩:=aaq h.1
  refine⟨.tup fun x hx=> ?_,ss,rfl,hs,by rw [←zo];exact h.2⟩
  obtain⟨i,hi,rfl⟩:=aR.mp hx
  exact .str (km (hs i hi))
 |_=> cases h
theorem zi(h:jm m d=true):PlK 1 d/\ ∃i:Int,d=.int i/\m <=i:=by
 cases d with
 |int i=> exact⟨.int i,i,rfl,of_decide_eq_true h⟩
 |_=> cases h
theorem xp(h:k9 m b ps d=true):PlK 6 d/\ ∃xs,d=.tuple xs:=by
 match d,h with
 |.tuple [bg,pa,.tuple ties,en],h=>
  have h:(jm 0 bg&&(jm 0 en&&(kd pa&&((qv pa).all (fun x=> inD x ps)&&(ties.all (xi m b)&&act (qv pa) ties)))))=true:=h
  (simp only [am]at h)
  obtain⟨h1,h2,h3,_,h5,_⟩:=h
  rw [ao]at h5
  exact⟨.tup (aqr ((zi h1).1.mono (by decide)) ((zh h3).1.mono (by decide)) (.tup fun x hx=> a28 (h5 x hx)) ((zi h2).1.mono (by decide))),_,rfl⟩
theorem PlK.key(h:PlK k (.tuple xs))(hk:k <=8):aa0 (.tuple xs)=true:=by
 unfold aa0 af3
 rw [h.pl,h.lay,decide_eq_true (aJ h.dp hk)]
 rfl
theorem avz(h:k9 m b ps d=true):aa0 d=true:=by
 obtain⟨a,xs,rfl⟩:=xp h
 exact a.key (by decide)
theorem anx(h: ∀x∈sp,aa0 x=true)(hl:sp.length <=305):zb [.tup sp] s=.ok (.int (ud sp).length) s:=by
 match sp,h,hl with
 |[],_,_=> rfl
 | x::r,h,hl=>
  obtain⟨_,xs,rfl⟩:=aj5 (h x ax)
  show (match ab1 ((aK xs::r).map D.da) with
   |some ss=> if ss.length < 4000 then R.ok (D.int (j9 ss).length) s else .bad
   |none=> match kg ((aK xs::r).map D.da) with
    |some ps=> if ps.all aa0=true/\ps.length+1 <=306 then R.ok (D.int (ud ps).length) s else .bad
    |none=>.bad)=_
  rw [aN,anq,←aN,va]
  exact if_pos ⟨ao.mpr h,by lia⟩
noncomputable def aqt:aa -> List aa
 |.tuple ds=> ds
 |.list ds=> ds
 |_=> []
def Sz:Nat -> Nat -> aa -> Prop
 |0,N,d=> strN d <=N
 |k+1,N,d=> ∀x∈aqt d,Sz k N x
noncomputable def xa:aa -> Int
 |.int i=> i
 |_=> 0
def kh:aa -> Bool
 |.tuple [th,po,bo,be,.tuple sts]=> vt th&&(kd po&&(jm 0 bo&&(yz (xa th) (xa bo) be&&(sts.all (k9 (xa th) (xa bo) (yu (qv po)))&&decide ((ud sts).length=sts.length)))))
 |_=> false
theorem apd(ds:List aa):(∃a b c d e,ds=[a,b,c,d,e])\/(!decide ((ds.length:Int)=5))=true:=by
 match ds with
 |[]=> exact .inr rfl
 |[a]=> exact .inr rfl
 |[a,b]=> exact .inr rfl
 |[a,b,c]=> exact .inr rfl
 |[a,b,c,d]=> exact .inr rfl
 |[a,b,c,d,e]=> exact .inl ⟨a,b,c,d,e,rfl⟩
 |a::b::c::d::e::f::r=> exact .inr (by simp;lia)
theorem amb(h:(!decide ((ds.length:Int)=5))=true):kh (.tuple ds)=false:=by
 match ds,h with
 |[],_=> rfl
 |[a],_=> rfl
 |[a,b],_=> rfl
 |[a,b,c],_=> rfl
 |[a,b,c,d],_=> rfl
 |[_,_,_,_,_],h=> simp at h
 |a::b::c::d::e::f::r,_=> cases e <;> rfl
theorem a4n{A u v w x y:Option D}{b c e:aa}:ag8 (.tn [1,2,3,4,5]) [A,u,v,w,x,y] (.da (.tuple [a,b,c,d,e])) s=.ok (.nx [A,some (.da a),some (.da b),some (.da c),some (.da d),some (.da e)]) s:=rfl
theorem afs (h:Lf n d) (hn:n <=5) (hz:Sz 2 100 d):qx [.da d] s=.ok (.bl (kh d)) s:=by
 rw [ao5];unfold Bis_machine
 walk_at "ev"
 cases h with
 | @tup ds hl hx=>
  rw [show ku (.tuple ds) "tuple"=true from rfl]
  walk_at "ev"
  rw [xt]
  rcases apd ds with ⟨th,po,bo,be,st,rfl⟩|e
  ·rw [show (!decide ((([th,po,bo,be,st]:List aa).length:Int)=5))=false by simp]
   walk_at "ev"
   rw [a4n]
   walk_at "ev"
   rw [axg]
   have hP:=hx po (by simp)
   have hB:=hx be (by simp)
   have hS:=hx st (by simp)
   cases h1:vt th with
   |false=>
    walk_at "ev"
    rw [show kh (.tuple [th,po,bo,be,st])=false by cases st <;> first|rfl|(simp only [kh,h1];rfl)]
   | true=>
    obtain⟨m,rfl⟩: ∃i,th=.int i:=by
     cases th with
     |int i=> exact⟨i,rfl⟩
     |_=> cases h1
    walk_at "ev"
    rw [ane hP hn]
    cases h2:kd po with
    |false=>
     walk_at "ev"
     rw [show kh (.tuple [.int m,po,bo,be,st])=false by cases st <;> first|rfl|(simp only [kh,h1,h2];rfl)]
    | true=>
     obtain⟨_,ps,rfl,hp,_⟩:=zh h2
     walk_at "ev"
     rw [ae3]
     cases h3:jm 0 bo with
     |false=>
      walk_at "ev"
      rw [show kh (.tuple [.int m,.tuple (ps.map ag),bo,be,st])=false by cases st <;> first|rfl|(simp only [kh,h1,h2,h3];rfl)]
     | true=>
      obtain⟨_,b,rfl,_⟩:=zi h3
      walk_at "ev"
      rw [a0c hB hn]
      cases h4:yz m b be with
      |false=>
       walk_at "ev"
       rw [show kh (.tuple [.int m,.tuple (ps.map ag),.int b,be,st])=false by cases st <;> first|rfl|(simp only [kh,h1,h2,h3,xa,h4];rfl)]
      | true=>
       walk_at "ev"
       cases hS with
       | @tup sts hl2 hx2=>
        rw [show ku (.tuple sts) "tuple"=true from rfl]
        walk_at "ev"
        rw [ko (ρ0:=[none,some (.int m),some (.tup (ps.map ag)),some (.int b)]) (by rw [au];lia) rfl]
        have hzs: ∀x∈sts,strN x <=100:=fun x hxs=> hz (.tuple sts) (by simp [aqt]) x hxs
        rw [qg (fun _=> true) (fun x=> D.bl (k9 m b ps x)) sts (fun x _=> rfl) (fun x hm _=> by
         walk_at "ev"
         rw [a4p (hx2 x hm) hn hp (hzs x hm)]),bh.mpr (fun _ _=> rfl)]
        rw [show sts.map (fun x=> D.bl (k9 m b ps x))=(sts.map fun x=> aV (k9 m b ps x)).map D.da by rw [aU];rfl]
        walk_at "ev"
        rw [all_map]
        have he:kh (.tuple [.int m,.tuple (ps.map ag),.int b,be,.tuple sts])=(sts.all (k9 m b ps)&&decide ((ud sts).length=sts.length)):=by
         show (vt (.int m)&&(kd (.tuple (ps.map ag))&&(jm 0 (.int b)&&(yz m b be&&(sts.all (k9 m b (yu (ps.map ag)))&&decide ((ud sts).length=sts.length))))))=_
         rw [h1,h2,h3,h4,zf]
         rfl
        rw [he]
        cases h5:sts.all (k9 m b ps) with
        |false=> walk_at "ev"
        |true=>
         walk_at "ev"
         rw [ao]at h5
         rw [anx (fun x hm=> avz (h5 x hm)) (by lia)]
         walk_at "ev"
         rw [yi]
         walk_at "ev"
         congr 3
         exact propext (by lia)
       |_=> rfl
  ·rw [e]
   walk_at "ev"
   rw [amb e]
 |_=> rfl
theorem aop(h:Lf n d)(hn:n <=5):xv [.da d] s=.ok (.bl (kd d)) s:=by
 rw [aia];unfold B_law_are_ports
 walk_at "ev"
 cases h with
 | @tup ds hl hx=>
  rw [show ku (.tuple ds) "tuple"=true from rfl]
  walk_at "ev"
  rw [ko (ρ0:=[none]) (by rw [au];lia) rfl]
  rw [qg (fun _=> true) (fun x=> D.bl (kj x)) ds (fun x _=> rfl) (fun x hm _=> by
   walk_at "ev"
   rw [a36 (aiu (hx x hm) hn)]),bh.mpr (fun _ _=> rfl)]
  rw [show ds.map (fun x=> D.bl (kj x))=((ds.map kj).map aV).map D.da by rw [aU,aU];rfl]
  walk_at "ev"
  rw [adp,cB]
  show _=R.ok (D.bl (ds.all kj&&jx ds)) s
  cases hp:ds.all kj with
  |false=>
   rw [show ds.all (id∘kj)=false from hp]
   walk_at "ev"
  |true=>
   rw [show ds.all (id∘kj)=true from hp]
   walk_at "ev"
   obtain⟨ss,rfl,hs⟩:=aaq hp
   rw [ahe (ahq fun x hx=> km (hs x hx)) (by lia)]
   walk_at "ev"
 |_=> rfl
def vn(b:Int)(ss:List Str):aa -> Bool
 |.tuple [.str w,x]=> if w="port" then inD x ss else (decide (w∈(["box","next"]:List Str))&&jo b x)
 |_=> false
theorem atn(h:(!decide ((ds.length:Int)=2))=true):vn b ss (.tuple ds)=false:=by
 match ds,h with
 |[],_=> rfl
 |[a],_=> cases a <;> rfl
 |[_,_],h=> simp at h
 |a::_::_::_,_=> cases a <;> rfl
theorem aj1{x:aa}:ku x "str"=aa5 x:=by cases x <;> rfl
theorem apn{z:Str}(h1:okD (.str z)=true)(h2: ∀x∈ss,okD (.str x)=true):ahs false (.da (.str z)) (.lst (ss.map ag)) s=.ok (.bl (decide (z∈ss))) s:=by
 cases ss with
 |nil=> rfl
 |cons a r=>
  show (if okD (.str z)=true/\((a::r).map ag).all okD=true then R.ok (D.bl (nb false (((a::r).map ag).any fun d=> aE d (.str z)))) s else .bad)=_
  rw [if_pos ⟨h1,all_strs h2⟩,aeg];rfl
theorem a4x(h:Lf n d)(hn:n <=5)(hs: ∀x∈ss,jz x=true)(hl:ss.length <=1000):aaa [.da d,.int b,.tup (ss.map ag)] s=.ok (.bl (vn b ss d)) s:=by
 rw [al4];unfold B_law_is_spot
 walk_at "ev"
 cases h with
 | @tup ds hl hx=>
  rw [show ku (.tuple ds) "tuple"=true from rfl]
  walk_at "ev"
  rw [xt]
  rcases aec ds with ⟨w,x,rfl⟩|e
  ·rw [show (!decide ((([w,x]:List aa).length:Int)=2))=false by simp]
   walk_at "ev"
   rw [aj1]
   cases hw:aa5 w with
   |false=>
    walk_at "ev"
    rw [show vn b ss (.tuple [w,x])=false by cases w <;> first|rfl|cases hw]
   | true=>
    obtain⟨z,rfl⟩: ∃z,w=.str z:=by
     cases w with
     |str z=> exact⟨z,rfl⟩
     |_=> cases hw
    have oz:=(hx (.str z) (by simp)).okT.ok z rfl
    walk_at "ev"
    rw [age oz (by decide+kernel)]
    show _=R.ok (D.bl (if z="port" then inD x ss else (decide (z∈(["box","next"]:List Str))&&jo b x))) s
    by_cases hz:z="port"
    ·rw [decide_eq_true hz,if_pos hz]
     walk_at "ev"
     rw [ko (ρ0:=[none,some (.da (.tuple [.str z,x]))]) (by rw [au,au];lia) rfl]
     rw [vj D.da (fun _=> aa5 x) (fun y=> y) (ss.map ag) (fun y hy=> ⟨[some (.da y),some (.da (.tuple [.str z,x]))],rfl,by
      walk_at "ev"
      rw [aj1],fun _=> rfl⟩),gY]
     cases hq:aa5 x with
     |false=>
      rw [jT.mpr (by intro _ _ h;cases h)]
      walk_at "ev"
      rw [show ahs false (.da x) (.lst []) s=.ok (.bl false) s by cases x <;> rfl]
      walk_at "ev"
      rw [show inD x ss=false by cases x <;> first|rfl|cases hq]
     | true=>
      obtain⟨q,rfl⟩: ∃z,x=.str z:=by
       cases x with
       |str z=> exact⟨z,rfl⟩
       |_=> cases hq
      (rw [bh.mpr (fun _ _=> rfl)])
      walk_at "ev"
      rw [apn ((hx (.str q) (by simp)).okT.ok q rfl) fun x hx=> km (hs x hx)]
      walk_at "ev"
      rfl
    ·rw [decide_eq_false hz,if_neg hz]
     walk_at "ev"
     rw [show ahs false (.da (.str z)) (.lst [.str "box",.str "next"]) s=.ok (.bl (decide (z∈(["box","next"]:List Str)))) s from apn oz ae6]
     cases decide (z∈(["box","next"]:List Str)) with
     |false=> walk_at "ev"
     |true=>
      walk_at "ev"
      rw [aj2]
      walk_at "ev"
  ·rw [e]
   walk_at "ev"
   rw [atn e]
 |_=> rfl
def vz(m b:Int)(ss:List Str):aa -> Bool
 |.tuple [.tuple sp,.tuple td]=> (qz (.tuple sp)&&qz (.tuple td))&&(sp.all (vn b ss)&&(jx sp&&(td.all (jo m)&&jx td)))
 |_=> false
theorem aw1(h:(!decide ((ds.length:Int)=2))=true):vz m b ss (.tuple ds)=false:=by
 match ds,h with
 |[],_=> rfl
 |[a],_=> cases a <;> rfl
 |[_,_],h=> simp at h
 |a::c::_::_,_=> cases a <;> cases c <;> rfl
theorem a49{x y:aa}(h:(qz x&&qz y)=false):vz m b ss (.tuple [x,y])=false:=by
 cases x <;> cases y <;> first|rfl|(simp only [vz,h,cJ])
theorem adl(hs: ∀x∈ss,jz x=true)(h:vn b ss d=true):SpK b d:=by
 match d,h with
 | .tuple [.str w,x],h=>
  have h:(if w="port" then inD x ss else (decide (w∈(["box","next"]:List Str))&&jo b x))=true:=h
  by_cases hw:w="port"
  ·rw [if_pos hw]at h
   subst hw
   cases x with
   |str p=> exact⟨.inl ⟨p,rfl,hs p (of_decide_eq_true h)⟩⟩
   |_=> cases h
  ·rw [if_neg hw,am,decide_eq_true_eq]at h
   cases x with
   |int i=>
    have h2:=h.2
    simp only [jo,am,decide_eq_true_eq]at h2
    exact⟨.inr ⟨w,i,rfl,h.1,h2.1,h2.2⟩⟩
   |_=> cases h.2
theorem aqo(hs: ∀x∈ss,jz x=true)(h:sp.all (vn b ss)=true):CmpR sp:=by
 rw [ao]at h
 exact⟨fun x hx y hy=> (adl hs (h x hx)).lt (adl hs (h y hy)),fun x hx=> (adl hs (h x hx)).okD⟩
theorem a5f (h:Lf n d) (hn:n <=5) (hs: ∀x∈ss,jz x=true) (hls:ss.length <=1000):ab3 [.da d,.int m,.int b,.tup (ss.map ag)] s=.ok (.bl (vz m b ss d)) s:=by
 rw [anp];unfold B_law_is_tie
 walk_at "ev"
 cases h with
 | @tup ds hl hx=>
  rw [show ku (.tuple ds) "tuple"=true from rfl]
  walk_at "ev"
  rw [show aj7 (.int (ds.length:Int)) (.int 2) s=gNe (.int (ds.length:Int)) (.int 2) s from rfl]
  rw [xt]
  rcases aec ds with ⟨x,y,rfl⟩|e
  ·rw [show (!decide ((([x,y]:List aa).length:Int)=2))=false by simp]
   walk_at "ev"
   rw [ko (ρ0:=[none]) (by rw [au];lia) rfl]
   rw [qg (fun _=> true) (fun z=> D.bl (qz z)) [x,y] (fun z _=> rfl) (fun z hm _=> by
    walk_at "ev"
    cases z with
    |tuple zs=>
     rw [show ku (.tuple zs) "tuple"=true from rfl]
     walk_at "ev"
     rw [show aj7 (.da (.tuple zs)) (.da (.tuple [])) s=.ok (.bl (!zs.isEmpty)) s from rfl]
     cases zs <;> rfl
    |_=> rfl),bh.mpr (fun _ _=> rfl)]
   rw [show ([x,y]:List aa).map (fun x=> D.bl (qz x))=(([qz x,qz y]:List Bool).map aV).map D.da from rfl]
   walk_at "ev"
   rw [ad0,show ([qz x,qz y]:List Bool).all id=(qz x&&qz y) by simp]
   cases hxy:qz x&&qz y with
   |false=>
    walk_at "ev"
    rw [a49 hxy]
   | true=>
    walk_at "ev"
    have hX:=hx x (by simp)
    have hY:=hx y (by simp)
    rw [am]at hxy
    cases hX with
    | @tup sp hl1 hx1=>
     cases hY with
     | @tup td hl2 hx2=>
      walk_at "ev"
      rw [ko (ρ0:=[none,some (.int b),some (.tup (ss.map ag))]) (by rw [au];lia) rfl]
      rw [qg (fun _=> true) (fun x=> D.bl (vn b ss x)) sp (fun x _=> rfl) (fun x hm _=> by
       walk_at "ev"
       rw [a4x (hx1 x hm) hn hs hls]),bh.mpr (fun _ _=> rfl)]
      rw [show sp.map (fun x=> D.bl (vn b ss x))=((sp.map (vn b ss)).map aV).map D.da by rw [aU,aU];rfl]
      walk_at "ev"
      rw [ad0,cB]
      have he:vz m b ss (.tuple [.tuple sp,.tuple td])=(sp.all (vn b ss)&&(jx sp&&(td.all (jo m)&&jx td))):=by
       show ((qz (.tuple sp)&&qz (.tuple td))&&_)=_
       rw [hxy.1,hxy.2];rfl
      rw [he]
      cases hp:sp.all (vn b ss) with
      |false=>
       rw [show sp.all (id∘vn b ss)=false from hp]
       walk_at "ev"
      | true=>
       rw [show sp.all (id∘vn b ss)=true from hp]
       walk_at "ev"
       rw [ahe (aqo hs hp) (by lia)]
       cases jx sp with
       |false=> walk_at "ev"
       | true=>
        walk_at "ev"
        rw [ko (ρ0:=[none,some (.int m)]) (by rw [au];lia) rfl]
        rw [qg (fun _=> true) (fun x=> D.bl (jo m x)) td (fun x _=> rfl) (fun x hm _=> by
         walk_at "ev"
         rw [aj2]),bh.mpr (fun _ _=> rfl)]
        rw [show td.map (fun x=> D.bl (jo m x))=((td.map (jo m)).map aV).map D.da by rw [aU,aU];rfl]
        walk_at "ev"
        rw [adp,cB]
        cases hq:td.all (jo m) with
        |false=>
         rw [show td.all (id∘jo m)=false from hq]
         walk_at "ev"
        |true=>
         rw [show td.all (id∘jo m)=true from hq]
         walk_at "ev"
         obtain⟨is,rfl,_⟩:=acj hq
         rw [ahe (als is) (by lia)]
         walk_at "ev"
     |_=> cases hxy.2
    |_=> cases hxy.1
  ·rw [e]
   walk_at "ev"
   rw [aw1 e]
 |_=> rfl
def spB:FS:=j5 8 (fOp (jr false) (jb 8) (fCB (aci false) (ja (fOp gIx (jb 9) (fC (.da (.int 0)))) jc)))
theorem aps{all:List D}{s:S}{a0 a1 a2 a3 a4 a5 a6 a7:Option D}: ∀(qs:List (List aa×aa)) (acc:List aa) (u:Option D),acc.length+(qs.flatMap fun t=> t.1).length <=1000 ->
  ∃u',qf (.nm 9) spB (all,none) (qs.map fun t=> D.da (.tuple [.tuple t.1,t.2])) [a0,a1,a2,a3,a4,a5,a6,a7,some (.lst acc),u] s=.ok (.nx [a0,a1,a2,a3,a4,a5,a6,a7,some (.lst (acc++qs.flatMap fun t=> t.1)),u']) s
 |[],acc,u,_=> ⟨u,by rw [List.flatMap_nil,bP];rfl⟩
 | t::r,acc,u,h=> by
  rw [iJ,bj]at h
  obtain⟨u',e⟩:=aps (all:=all) (s:=s) (a0:=a0) (a1:=a1) (a2:=a2) (a3:=a3) (a4:=a4) (a5:=a5) (a6:=a6) (a7:=a7) r (acc++t.1) (some (.da (.tuple [.tuple t.1,t.2]))) (by rw [bj];lia)
  refine⟨u',?_⟩
  rw [aN,aby rfl]
  have hb:spB ([a0,a1,a2,a3,a4,a5,a6,a7,some (.lst acc),u].set 9 (some (D.da (.tuple [.tuple t.1,t.2])))) s=.ok (.nx [a0,a1,a2,a3,a4,a5,a6,a7,some (.lst (acc++t.1)),some (.da (.tuple [.tuple t.1,t.2]))]) s:=by
   show spB [a0,a1,a2,a3,a4,a5,a6,a7,some (.lst acc),some (D.da (.tuple [.tuple t.1,t.2]))] s=_
   unfold spB
   walk_at "ev"
   rw [ad4 (by lia)]
   walk_at "ev"
  rw [hb]
  walk_at "ev"
  rw [e,bW,iJ]
noncomputable def af6(ss:List Str)(sp:List aa):Bool:=(sp.filter fun x=> decide (1 < sp.countP fun d=> aE d x)).isEmpty&&ss.all fun p=> sp.any fun d=> aE d (.tuple [.str "port",.str p])
theorem atf{x:aa}(h: ∀x∈sp,okD x=true)(hx:okD x=true):ji (fOp gGt (fMt abn (jb 1) (ja (jb 0) jc)) (fC (.da (.int 1)))) [some (.da x),some (.lst sp)] s=.ok (decide (1 < sp.countP fun d=> aE d x)) s:=by
 have e:aqx abn (ja (jb 0) jc) [some (.da x),some (.lst sp)] (.lst sp) s=abn (.lst sp) [.da x] s:=rfl
 have e2:abn (.lst sp) [.da x] s=.ok (.int (sp.countP fun d=> aE d x:Nat)) s:=if_pos ⟨hx,ao.mpr h⟩
 walk_at "ev"
 rw [e,e2]
 walk_at "ev"
 congr 1
 (rw [bi,decide_eq_true_eq,decide_eq_true_eq])
 lia
def xw(m b:Int)(ps:List Str):aa -> Bool
 |.tuple [bg,pa,.tuple ties,en]=> jm 0 bg&&(jm 0 en&&(kd pa&&((qv pa).all (fun x=> inD x ps)&&(ties.all (vz m b (yu (qv pa)))&&af6 (yu (qv pa)) (j8 ties)))))
 |_=> false
theorem au0(h:(!decide ((ds.length:Int)=4))=true):xw m b ps (.tuple ds)=false:=by
 match ds,h with
 |[],_=> rfl
 |[a],_=> rfl
 |[a,b],_=> rfl
 |[a,b,c],_=> cases c <;> rfl
 |[_,_,_,_],h=> simp at h
 |a::b::c::d::e::r,_=> cases c <;> rfl
theorem ax4{bg pa ti en:aa}(h:jm 0 bg=false):xw m b ps (.tuple [bg,pa,ti,en])=false:=by cases ti <;> first|rfl|(simp only [xw,h,cJ])
theorem axk{bg pa ti en:aa}(h:jm 0 en=false):xw m b ps (.tuple [bg,pa,ti,en])=false:=by cases ti <;> first|rfl|(simp only [xw,h,cJ,dB])
theorem aw9{bg pa ti en:aa}(h:kd pa=false):xw m b ps (.tuple [bg,pa,ti,en])=false:=by cases ti <;> first|rfl|(simp only [xw,h,cJ,dB])
theorem awq{bg pa ti en:aa}(h:(qv pa).all (fun x=> inD x ps)=false):xw m b ps (.tuple [bg,pa,ti,en])=false:=by cases ti <;> first|rfl|(simp only [xw,h,cJ,dB])
theorem a5n{A B C E u v w x y z:Option D}{b c:aa}:ag8 (.tn [4,5,6,7]) [A,B,C,E,u,v,w,x,y,z] (.da (.tuple [a,b,c,d])) s=.ok (.nx [A,B,C,E,some (.da a),some (.da b),some (.da c),some (.da d),y,z]) s:=rfl
theorem aks{m b:Int}{ss:List Str}(hs: ∀x∈ss,jz x=true): ∀{ts:List aa},ts.all (vz m b ss)=true -> ∃qs:List (List aa×aa),(ts=qs.map fun t=> aK [.tuple t.1,t.2])/\(∀t∈qs,∀x∈t.1,SpK b x)/\j8 ts=qs.flatMap fun t=> t.1
 |[],_=> ⟨[],rfl,(fun _ h=> by cases h),rfl⟩
 | d::r,h=> by
  (rw [cb,am]at h)
  obtain⟨qs,rfl,hq,e⟩:=aks hs h.2
  match d,h.1 with
  | .tuple [.tuple sp,.tuple td],h1=>
   have h1:((qz (.tuple sp)&&qz (.tuple td))&&(sp.all (vn b ss)&&(jx sp&&(td.all (jo m)&&jx td))))=true:=h1
   simp only [am,ao]at h1
   refine⟨(sp,.tuple td)::qs,rfl,fun t ht=> ?_,?_⟩
   ·rcases ay.mp ht with z|z
    ·subst z;exact fun x hx=> adl hs (h1.2.1 x hx)
    ·exact hq t z
   ·show sp++j8 _=_
    rw [e];rfl
theorem aqf{z:Str}(h1:okD (.str z)=true)(h2: ∀x∈ss,okD (.str x)=true):yj (.da (.str z)) (.tup (ss.map ag)) s=.ok (.bl (!inD (.str z) ss)) s:=by
 show (if okD (.str z)=true/\(ss.map ag).all okD=true then R.ok (D.bl (nb true ((ss.map ag).any fun d=> aE d (.str z)))) s else .bad)=_
 rw [if_pos ⟨h1,all_strs h2⟩,aox]
 cases inD (.str z) ss <;> rfl
theorem agm(h: ∀x∈xs,okD x=true)(hd: ∀x∈xs,x.depth <=8):okD (.list xs)=true:=by
 have:aS xs=true/\ar xs <=8:=by
  induction xs with
  |nil=> exact⟨rfl,by simp [ar]⟩
  |cons x r ih=>
   obtain⟨a,b⟩:=ih (fun y hy=> h y (az _ hy)) (fun y hy=> hd y (az _ hy))
   have hx:=h x ax
   have hx2:=hd x ax
   unfold PF.okD at hx
   rw [am]at hx
   refine⟨by simp only [aS,a,hx.1,cp],?_⟩
   simp only [ar]
   lia
 unfold PF.okD
 rw [am]
 exact⟨by simpa only [c7] using this.1,decide_eq_true (by simp only [aA];lia)⟩
theorem atr(h1:okD a=true)(h2: ∀x∈xs,okD x=true)(ha: ∃ys,a=.tuple ys):yj (.da a) (.lst xs) s=.ok (.bl (!(xs.any fun d=> aE d a))) s:=by
 obtain⟨ys,rfl⟩:=ha
 show (if okD (.tuple ys)=true/\xs.all okD=true then R.ok (D.bl (nb true (xs.any fun d=> aE d (.tuple ys)))) s else .bad)=_
 rw [if_pos ⟨h1,ao.mpr h2⟩]
 cases xs.any fun d=> aE d (.tuple ys) <;> rfl
theorem a2l (h:Lf n d) (hn:n <=5) (hps: ∀x∈ps,jz x=true) (hN:strN d <=100):aa9 [.da d,.int m,.tup (ps.map ag),.int b] s=.ok (.bl (xw m b ps d)) s:=by
 rw [al5];unfold B_law_is_step
 walk_at "ev"
 cases h with
 | @tup ds hl hx=>
  rw [show ku (.tuple ds) "tuple"=true from rfl]
  walk_at "ev"
  rw [xt]
  rcases app ds with ⟨bg,pa,ti,en,rfl⟩|e
  ·rw [show (!decide ((([bg,pa,ti,en]:List aa).length:Int)=4))=false by simp]
   walk_at "ev"
   rw [acr]
   cases h1:jm 0 bg with
   |false=>
    walk_at "ev"
    rw [ax4 h1]
   | true =>
    walk_at "ev"
    rw [acr]
    cases h2:jm 0 en with
    |false=>
     walk_at "ev"
     rw [axk h2]
    | true =>
     walk_at "ev"
     rw [a5n]
     walk_at "ev"
     have hP:=hx pa (by simp)
     have hT:=hx ti (by simp)
     rw [aop hP hn]
     cases h3:kd pa with
     |false=>
      walk_at "ev"
      rw [aw9 h3]
     | true=>
      obtain⟨_,ss,rfl,hs,hr⟩:=zh h3
      obtain⟨hl3,hx3⟩:=qo hP
      rw [au]at hl3
      walk_at "ev"
      rw [ko (ρ0:=[none,some (.tup (ps.map ag))]) (by rw [au,au];lia) rfl]
      rw [vj D.da (fun x=> !inD x ps) (fun x=> x) (ss.map ag) (fun x hm=> ⟨[some (.da x),some (.tup (ps.map ag))],rfl,by
       obtain⟨z,hz,rfl⟩:=aR.mp hm
       walk_at "ev"
       rw [aqf (km (hs z hz)) fun x hx=> km (hps x hx)]
       rfl,fun _=> rfl⟩),gY]
      walk_at "ev"
      rw [aiv (agm (fun x hx=> by
       obtain⟨z,hz,rfl⟩:=aR.mp (bC.mp hx).1
       exact km (hs z hz)) (fun x hx=> by
       obtain⟨z,hz,rfl⟩:=aR.mp (bC.mp hx).1
       simp [aA])),aez]
      cases h4:(ss.map ag).all fun x=> inD x ps with
      |false=>
       walk_at "ev"
       rw [awq (pa:=.tuple (ss.map ag)) h4]
      | true=>
       walk_at "ev"
       cases hT with
       | @tup ties hl2 hx2=>
        rw [show ku (.tuple ties) "tuple"=true from rfl]
        walk_at "ev"
        rw [ko (ρ0:=[none,some (.int m),some (.int b),some (.tup (ss.map ag))]) (by rw [au];lia) rfl]
        rw [qg (fun _=> true) (fun x=> D.bl (vz m b ss x)) ties (fun x _=> rfl) (fun x hm _=> by
         walk_at "ev"
         rw [a5f (hx2 x hm) hn hs (by lia)]),bh.mpr (fun _ _=> rfl)]
        rw [show ties.map (fun x=> D.bl (vz m b ss x))=((ties.map (vz m b ss)).map aV).map D.da by rw [aU,aU];rfl]
        walk_at "ev"
        rw [ad0,cB]
        have he:xw m b ps (.tuple [bg,.tuple (ss.map ag),.tuple ties,en])=(ties.all (vz m b ss)&&af6 ss (j8 ties)):=by
         show (jm 0 bg&&(jm 0 en&&(kd (.tuple (ss.map ag))&&((ss.map ag).all (fun x=> inD x ps)&&(ties.all (vz m b (yu (ss.map ag)))&&af6 (yu (ss.map ag)) (j8 ties))))))=_
         rw [h1,h2,h3,h4,zf];rfl
        rw [he]
        cases h5:ties.all (vz m b ss) with
        |false=>
         rw [show ties.all (id∘vz m b ss)=false from h5]
         walk_at "ev"
        | true=>
         rw [show ties.all (id∘vz m b ss)=true from h5]
         obtain⟨qs,rfl,hq,eq⟩:=aks hs h5
         have hsp: ∀x∈qs.flatMap (fun t=> t.1),SpK b x:=fun x hx=> by
          obtain⟨t,ht,hx⟩:=gB.mp hx
          exact hq t ht x hx
         have hN2:(qs.flatMap fun t=> t.1).length <=100:=by
          have h1:=af0 hsp
          have h2:=afz (qs.map fun t=> aK [.tuple t.1,t.2])
          rw [eq]at h2
          have h3:jg (qs.map fun t=> aK [.tuple t.1,t.2]) <=strN (.tuple [bg,.tuple (ss.map ag),.tuple (qs.map fun t=> aK [.tuple t.1,t.2]),en]):=by
           simp only [strN,jg];lia
          lia
         walk_at "ev"
         obtain⟨u',e⟩:=aps (all:=qs.map fun t=> D.da (.tuple [.tuple t.1,t.2])) (s:=s) (a0:=some (D.da (.tuple [bg,.tuple (ss.map ag),.tuple (qs.map fun t=> aK [.tuple t.1,t.2]),en]))) (a1:=some (.int m)) (a2:=some (.tup (ps.map ag))) (a3:=some (.int b)) (a4:=some (.da bg)) (a5:=some (.tup (ss.map ag))) (a6:=some (.tup (qs.map fun t=> aK [.tuple t.1,t.2]))) (a7:=some (.da en)) qs [] none (by rw [dP];lia)
         rw [cN]at e
         unfold spB at e
         rw [show ((qs.map fun t=> aK [.tuple t.1,t.2]).map D.da)=qs.map (fun t=> D.da (.tuple [.tuple t.1,t.2])) by rw [aU];rfl]
         rw [e,eq]
         generalize (qs.flatMap fun t=> t.1)=sp at hsp hN2
         walk_at "ev"
         rw [ko (ρ0:=[none,some (.lst sp)]) (by rw [au];lia) rfl]
         rw [vj D.da (fun x=> decide (1 < sp.countP fun d=> aE d x)) (fun x=> x) sp (fun x hm=> ⟨[some (.da x),some (.lst sp)],rfl,atf (fun x hx=> (hsp x hx).okD) (hsp x hm).okD,fun _=> rfl⟩),gY]
         walk_at "ev"
         rw [aiv (agm (fun x hx=> (hsp x (bC.mp hx).1).okD) (fun x hx=> aJ (hsp x (bC.mp hx).1).pk.dp (by decide)))]
         unfold af6
         cases (sp.filter fun x=> decide (1 < sp.countP fun d=> aE d x)).isEmpty with
         |false=> walk_at "ev"
         | true=>
          walk_at "ev"
          rw [ko (ρ0:=[none,some (.lst sp)]) (by rw [au,au];lia) rfl]
          rw [show (ss.map ag).map D.da=ss.map D.str by rw [aU];rfl]
          rw [vj D.str (fun p=> !(sp.any fun d=> aE d (.tuple [.str "port",.str p]))) (fun p=>.str p) ss (fun p hm=> ⟨[some (.str p),some (.lst sp)],rfl,by
           walk_at "ev"
           rw [atr (ajo (by decide+kernel) (km (hs p hm)) (by simp [aA]) (by simp [aA])) (fun x hx=> (hsp x hx).okD) ⟨_,rfl⟩]
           rfl,fun _=> rfl⟩)]
          walk_at "ev"
          rw [ago (agm (fun x hx=> by
           obtain⟨z,hz,rfl⟩:=aR.mp hx
           exact km (hs z (bC.mp hz).1)) (fun x hx=> by
           obtain⟨z,hz,rfl⟩:=aR.mp hx
           simp [aA])),aa3,aez]
          walk_at "ev"
       |_=>
        walk_at "ev"
        rfl
  ·rw [e]
   walk_at "ev"
   rw [au0 e]
 |_=> rfl
theorem azd{b:aa}(ha:plD a=true)(hb:plD b=true):aE a b=decide (a=b):=by
 rw [bi,ac3 a b ha hb,decide_eq_true_eq]
theorem au2: ∀(zs a:List aa),(zs.foldl aad a).length <=a.length+zs.length
 |[],a=> aD _
 |y::t,a=> by
  (rw [cW,aP])
  have h1:=au2 t (aad a y)
  have h2:(aad a y).length <=a.length+1:=by unfold aad;split <;> simp
  lia
theorem aos: ∀(ys acc:List aa),(ys.foldl aad acc).length=acc.length+ys.length -> ys.foldl aad acc=ys.reverse++acc
 |[],_,_=> rfl
 | z::r,acc,h=> by
  rw [cW,aP]at h
  have hz:z∉acc:=fun m=> by
   have h1:=au2 r (aad acc z)
   rw [show aad acc z=acc from if_pos m]at h1 h
   lia
  have e:aad acc z=z::acc:=if_neg hz
  rw [e]at h
  rw [cW,e,aos r (z::acc) (by rw [h,aP];lia),dm,bW]
  rfl
theorem afj(xs:List aa):(ud xs).length=xs.length ↔ xs.Nodup:=by
 obtain⟨h1,h2,h3⟩:=ahn xs
 constructor
 ·intro h
  have e:ud xs=xs.reverse:=by
   have:=aos xs [] (by rw [dP,i4];exact h)
   rw [bP]at this
   exact this
  rw [e]at h1
  exact (List.reverse_perm xs).nodup_iff.mp h1
 ·intro h
  have p:(ud xs).Perm xs:=(iy h1 h).mpr h2
  exact p.length_eq
theorem afo(hp: ∀x∈xs,plD x=true):(xs.filter fun x=> decide (1 < xs.countP fun d=> aE d x)).isEmpty=decide ((ud xs).length=xs.length):=by
 rw [bi,decide_eq_true_eq,afj,List.isEmpty_iff,jT]
 have ec: ∀x∈xs,(xs.countP fun d=> aE d x)=xs.count x:=fun x hx=> by
  rw [List.count]
  exact List.countP_congr fun d hd=> by rw [ac3 d x (hp d hd) (hp x hx),beq_iff_eq]
 rw [List.nodup_iff_count]
 constructor
 ·intro h a
  by_cases ha:a∈xs
  ·have:=h a ha
   rw [ec a ha,decide_eq_true_eq]at this
   lia
  ·rw [List.count_eq_zero_of_not_mem ha];lia
 ·intro h a ha
  rw [ec a ha,decide_eq_true_eq]
  have:=h a
  lia
theorem afr(h: ∀x∈sp,SpK b x)(p:Str):p∈qk sp ↔ aK [.str "port",.str p]∈sp:=by
 unfold qk
 rw [cO]
 constructor
 ·rintro⟨x,hx,e⟩
  rcases (h x hx).ex with ⟨q,rfl,hq⟩|⟨w,i,rfl,hw,hi⟩
  ·have:some q=some p:=by simpa [vw] using e
   cases this;exact hx
  ·cases e
 ·intro hx
  exact⟨_,hx,by simp [vw]⟩
theorem abt{b:Int}: ∀{sp:List aa},(∀x∈sp,SpK b x) -> sp.Nodup -> (qk sp).Nodup
 |[],_,_=> hW
 | x::r,h,nd=> by
  rw [df]at nd
  have ih:=abt (fun y hy=> h y (az _ hy)) nd.2
  cases e:vw x with
  |none=> unfold qk;rw [fY e];exact ih
  | some p=>
   unfold qk;rw [fX e,df]
   refine⟨fun hm=> nd.1 ?_,ih⟩
   have:=(afr (fun y hy=> h y (az _ hy)) p).mp hm
   rcases (h x ax).ex with ⟨q,rfl,hq⟩|⟨w,i,rfl,hw,hi⟩
   ·have:some q=some p:=by simpa [vw] using e
    cases this;assumption
   ·cases e
theorem apv(h: ∀x∈sp,SpK b x)(p:Str):(sp.any fun d=> aE d (.tuple [.str "port",.str p]))=decide (p∈qk sp):=by
 rw [bi,decide_eq_true_eq,afr h,List.any_eq_true]
 constructor
 ·rintro⟨x,hx,e⟩
  rw [ac3 x _ (h x hx).pl (by simp [plD,ve])]at e
  subst e;exact hx
 ·intro hx
  exact⟨_,hx,ani (by simp [plD,ve])⟩
theorem aoq(xs:List Str):ve (xs.map ag)=true:=by
 induction xs with
 |nil=> simp [ve]
 |cons x r ih=> rw [aN];simp only [ve,plD,ih,cp]
theorem agv: ∀{xs ys:List Str},xs.map ag=ys.map ag -> xs=ys
 |[],[],_=> rfl
 |[],_::_,h=> by cases h
 |_::_,[],h=> by cases h
 |x::r,y::t,h=> by
  rw [aN,aN]at h
  injection h with h1 h2
  injection h1 with h1
  rw [h1,agv h2]
theorem atq(xs ys:List Str):aE (.list (xs.map ag)) (.list (ys.map ag))=true ↔ xs=ys:=by
 rw [show aE (.list (xs.map ag)) (.list (ys.map ag))=dt (xs.map ag) (ys.map ag) by simp only [aE],aj9 _ _ (aoq xs) (aoq ys)]
 exact⟨agv,fun e=> by rw [e]⟩
theorem ak5: ∀{xs ys:List Str},z9 xs=true -> z9 ys=true -> (∀a,a∈xs ↔ a∈ys) -> xs=ys
 |[],[],_,_,_=> rfl
 |[],y::_,_,_,h=> absurd ((h y).mpr ax) aX
 |x::_,[],_,_,h=> absurd ((h x).mp ax) aX
 | x::r,y::t,h1,h2,h=> by
  have p1:=bZ.mp (agp _ h1)
  have p2:=bZ.mp (agp _ h2)
  have irr: ∀a:Str,ltS a a≠true:=fun a e=> by
   unfold ltS at e
   exact absurd (of_decide_eq_true e) (kC _)
  have exy:x=y:=by
   rcases ay.mp ((h x).mp ax) with e|e
   ·exact e
   ·rcases ay.mp ((h y).mpr ax) with z|z
    ·exact z.symm
    ·exact absurd (atx (p2.1 x e) (p1.1 y z)) (irr y)
  subst exy
  rw [ak5 (aj4 _ p1.2) (aj4 _ p2.2) fun a=> ⟨fun ha=> ?_,fun ha=> ?_⟩]
  ·rcases ay.mp ((h a).mp (az _ ha)) with e|e
   ·subst e;exact absurd (p1.1 a ha) (irr a)
   ·exact e
  ·rcases ay.mp ((h a).mpr (az _ ha)) with e|e
   ·subst e;exact absurd (p2.1 a ha) (irr a)
   ·exact e
theorem af1(hs: ∀x∈ss,jz x=true):vn b ss d=true ↔ xb b d=true/\ ∀p,vw d=some p -> p∈ss:=by
 constructor
 ·intro h
  match d,h with
  | .tuple [.str w,x],h=>
   have h:(if w="port" then inD x ss else (decide (w∈(["box","next"]:List Str))&&jo b x))=true:=h
   by_cases hw:w="port"
   ·subst hw
    rw [if_pos rfl]at h
    cases x with
    | str p=>
     have hp:p∈ss:=of_decide_eq_true h
     exact⟨hs p hp,fun q e=> by
      have:some p=some q:=by simpa [vw] using e
      cases this;exact hp⟩
    |_=> cases h
   ·rw [if_neg hw]at h
    refine⟨?_,fun q e=> ?_⟩
    ·show (if w="port" then kj x else (decide (w∈(["box","next"]:List Str))&&jo b x))=true
     rw [if_neg hw];exact h
    ·cases x with
     |str p=>
      have:(if w="port" then some p else none)=some q:=e
      rw [if_neg hw]at this;cases this
     |_=> cases e
 ·rintro⟨h,k⟩
  match d,h,k with
  | .tuple [.str w,x],h,k=>
   have h:(if w="port" then kj x else (decide (w∈(["box","next"]:List Str))&&jo b x))=true:=h
   show (if w="port" then inD x ss else (decide (w∈(["box","next"]:List Str))&&jo b x))=true
   by_cases hw:w="port"
   ·subst hw
    rw [if_pos rfl]at h⊢
    cases x with
    |str p=> exact decide_eq_true (k p (by simp [vw]))
    |_=> cases h
   ·rw [if_neg hw]at h⊢
    exact h
theorem aha(hs: ∀x∈ss,jz x=true):vz m b ss d=true ↔ xi m b d=true/\ ∀x∈adx d,∀p,vw x=some p -> p∈ss:=by
 constructor
 ·intro h
  match d,h with
  |.tuple [.tuple sp,.tuple td],h=>
   have h:((qz (.tuple sp)&&qz (.tuple td))&&(sp.all (vn b ss)&&(jx sp&&(td.all (jo m)&&jx td))))=true:=h
   simp only [am,ao]at h
   obtain⟨⟨a1,a2⟩,a3,a4,a5,a6⟩:=h
   refine⟨?_,fun x hx=> ((af1 hs).mp (a3 x hx)).2⟩
   show (sp.all (xb b)&&(decide (0 < sp.length)&&(jx sp&&((td.all (jo m)&&jx td)&&decide (0 < td.length)))))=true
   simp only [am,ao]
   exact⟨fun x hx=> ((af1 hs).mp (a3 x hx)).1,a1,a4,⟨a5,a6⟩,a2⟩
 ·rintro⟨h,k⟩
  match d,h,k with
  |.tuple [.tuple sp,.tuple td],h,k=>
   have h:(sp.all (xb b)&&(decide (0 < sp.length)&&(jx sp&&((td.all (jo m)&&jx td)&&decide (0 < td.length)))))=true:=h
   simp only [am,ao]at h
   obtain⟨a3,a1,a4,⟨a5,a6⟩,a2⟩:=h
   show ((qz (.tuple sp)&&qz (.tuple td))&&(sp.all (vn b ss)&&(jx sp&&(td.all (jo m)&&jx td))))=true
   simp only [am,ao]
   exact⟨⟨a1,a2⟩,fun x hx=> (af1 hs).mpr ⟨a3 x hx,k x hx⟩,a4,a5,a6⟩
theorem aep(h:vi xs=true)(nd:xs.Nodup):jx (ql xs)=true:=by
 have pm:=ym xs
 have rs:=akz h
 have nd2:(ql xs).Nodup:=pm.nodup_iff.mpr nd
 unfold ace at rs
 unfold kT at nd2
 have both:=List.pairwise_and_iff.mpr ⟨rs,nd2⟩
 have pw:(ql xs).Pairwise fun a b=> ltb a b=true:=both.imp_of_mem fun {a b} ha hb hab=> by
  rcases al7 h (pm.mem_iff.mp hb) (pm.mem_iff.mp ha) hab.1 with z|z
  ·exact absurd z.symm hab.2
  ·exact z
 generalize ql xs=l at pw
 clear both nd2 rs pm nd h
 induction l with
 |nil=> rfl
 | cons x r ih=>
  cases r with
  |nil=> rfl
  |cons y r=>
   show (ltb x y&&jx (y::r))=true
   rw [bZ]at pw
   rw [pw.1 y ax,ih pw.2];rfl
theorem acb{xs:List Str}(h:xs.Nodup):(xs.map ag).Nodup:=by
 rw [iz,dW]
 exact (iz.mp h).imp fun {a b} hab e=> hab (by injection e)
theorem an5(nd:ps.Nodup)(hr:z9 ss=true):aE (.list (ql (ps.map ag))) (.list (ss.map ag))=true ↔ ∀p,p∈ps ↔ p∈ss:=by
 obtain⟨qs,e,pq⟩:=aen ps
 have hq:z9 qs=true:=by
  rw [←zo,←e]
  exact aep (aao ps) (acb nd)
 rw [e,atq]
 constructor
 ·rintro rfl p
  exact pq.mem_iff.symm
 ·intro h
  exact ak5 hq hr fun a=> pq.mem_iff.trans (h a)
theorem a3u(hs: ∀x∈ss,jz x=true)(hr:z9 ss=true):(ties.all (vz m b ss)&&af6 ss (j8 ties))=(ties.all (xi m b)&&act (ss.map ag) ties):=by
 rw [bi]
 unfold af6 act
 simp only [am,ao]
 have key:(∀x∈ties,vz m b ss x=true) ↔ (∀x∈ties,xi m b x=true)/\ ∀p∈qk (j8 ties),p∈ss:=by
  constructor
  ·intro h
   refine⟨fun x hx=> ((aha hs).mp (h x hx)).1,fun p hp=> ?_⟩
   obtain⟨y,hy,e⟩:=cO.mp hp
   obtain⟨t,ht,hy⟩:=gB.mp hy
   exact ((aha hs).mp (h t ht)).2 y hy p e
  ·rintro⟨h,k⟩ x hx
   exact (aha hs).mpr ⟨h x hx,fun y hy p e=> k p (cO.mpr ⟨y,gB.mpr ⟨x,hx,hy⟩,e⟩)⟩
 rw [key]
 constructor
 ·rintro⟨⟨h1,h2⟩,h3,h4⟩
  have hsp:=ag0 (ao.mpr h1)
  rw [afo fun x hx=> (hsp x hx).pl]at h3
  refine⟨h1,h3,(an5 (abt hsp ((afj _).mp (of_decide_eq_true h3))) hr).mpr fun p=> ⟨h2 p,fun hp=> ?_⟩⟩
  have:=h4 p hp
  rw [apv hsp]at this
  exact of_decide_eq_true this
 ·rintro⟨h1,h3,h4⟩
  have hsp:=ag0 (ao.mpr h1)
  rw [afo fun x hx=> (hsp x hx).pl]
  have h5:=(an5 (abt hsp ((afj _).mp (of_decide_eq_true h3))) hr).mp h4
  refine⟨⟨h1,fun p hp=> (h5 p).mp hp⟩,h3,fun p hp=> ?_⟩
  rw [apv hsp]
  exact decide_eq_true ((h5 p).mpr hp)
theorem azn:xw m b ps d=k9 m b ps d:=by
 by_cases h: ∃bg pa ties en,d=.tuple [bg,pa,.tuple ties,en]
 ·obtain⟨bg,pa,ties,en,rfl⟩:=h
  show (jm 0 bg&&(jm 0 en&&(kd pa&&((qv pa).all (fun x=> inD x ps)&&(ties.all (vz m b (yu (qv pa)))&&af6 (yu (qv pa)) (j8 ties))))))=(jm 0 bg&&(jm 0 en&&(kd pa&&((qv pa).all (fun x=> inD x ps)&&(ties.all (xi m b)&&act (qv pa) ties)))))
  cases hp:kd pa with
  |false=> simp only [cJ]
  |true=>
   obtain⟨_,ss,rfl,hs,hr⟩:=zh hp
   rw [show qv (.tuple (ss.map ag))=ss.map ag from rfl,zf,a3u hs hr]
 ·have e1:k9 m b ps d=false:=by
   unfold k9
   split
   ·exact absurd ⟨_,_,_,_,rfl⟩ h
   ·rfl
  have e2:xw m b ps d=false:=by
   unfold xw
   split
   ·exact absurd ⟨_,_,_,_,rfl⟩ h
   ·rfl
  rw [e1,e2]
theorem ap5{th po bo be st:aa}(h:vt th=false):kh (.tuple [th,po,bo,be,st])=false:=by cases st <;> first|rfl|(simp only [kh,h,cJ])
theorem aym{th po bo be st:aa}(h:kd po=false):kh (.tuple [th,po,bo,be,st])=false:=by cases st <;> first|rfl|(simp only [kh,h,cJ,dB])
theorem ayw{th po bo be st:aa}(h:jm 0 bo=false):kh (.tuple [th,po,bo,be,st])=false:=by cases st <;> first|rfl|(simp only [kh,h,cJ,dB])
theorem aco{th po bo be st:aa}(h:yz (xa th) (xa bo) be=false):kh (.tuple [th,po,bo,be,st])=false:=by cases st <;> first|rfl|(simp only [kh,h,cJ,dB])
theorem at4{x:aa}(h: ∀x∈sp,okD x=true)(hx:okD x=true):ji (fOp gGt (aq5 acw (jb 1) (ja (jb 0) jc)) (fC (.da (.int 1)))) [some (.da x),some (.tup sp)] s=.ok (decide (1 < sp.countP fun d=> aE d x)) s:=by
 have e:aq5 acw (jb 1) (ja (jb 0) jc) [some (.da x),some (.tup sp)] s=acw (.tup sp) [.da x] s:=rfl
 have e2:acw (.tup sp) [.da x] s=.ok (.int (sp.countP fun d=> aE d x:Nat)) s:=if_pos ⟨hx,ao.mpr h⟩
 walk_at "ev"
 rw [e,e2]
 walk_at "ev"
 congr 1
 (rw [bi,decide_eq_true_eq,decide_eq_true_eq])
 lia
theorem PlK.okD(h:PlK k d)(hk:k <=8):okD d=true:=by
 unfold PF.okD
 rw [am]
 exact⟨h.lay,decide_eq_true (by have:=h.dp;lia)⟩
theorem is_none{z:aa}:isN (.da z)=alg z:=by cases z <;> rfl
theorem auu (h :Lf n d) (hn:n <=5) (hz:Sz 2 100 d):yq [.da d] s=.ok (.bl (kh d)) s:=by
 rw [ahg];unfold B_law_is_machine
 walk_at "ev"
 cases h with
 | @tup ds hl hx=>
  rw [show ku (.tuple ds) "tuple"=true from rfl]
  walk_at "ev"
  rw [xt]
  rcases apd ds with ⟨th,po,bo,be,st,rfl⟩|e
  ·rw [show (!decide ((([th,po,bo,be,st]:List aa).length:Int)=5))=false by simp]
   walk_at "ev"
   rw [acr]
   have hP:=hx po (by simp)
   have hB:=hx be (by simp)
   have hS:=hx st (by simp)
   cases h0:jm 1 th with
   | false=>
    walk_at "ev"
    rw [ap5 (by
     cases th with
     |int i=> show (decide (1 <=i)&&decide (i <=3))=false;rw [show decide (1 <=i)=false from h0];rfl
     |_=> rfl)]
   | true =>
    obtain⟨_,m,rfl,hm⟩:=zi h0
    walk_at "ev"
    by_cases h3m:m <=3
    ·rw [show decide ((3:Int) < m)=false from decide_eq_false (by lia)]
     have h1:vt (.int m)=true:=by
      show (decide (1 <=m)&&decide (m <=3))=true
      rw [decide_eq_true hm,decide_eq_true h3m];rfl
     walk_at "ev"
     rw [a4n]
     walk_at "ev"
     rw [aop hP hn]
     cases h2:kd po with
     |false=>
      walk_at "ev"
      rw [aym h2]
     | true =>
      obtain⟨_,ps,rfl,hp,_⟩:=zh h2
      walk_at "ev"
      rw [acr]
      cases h3:jm 0 bo with
      |false=>
       walk_at "ev"
       rw [ayw h3]
      | true =>
       obtain⟨_,b,rfl,_⟩:=zi h3
       walk_at "ev"
       cases hB with
       | @tup bs hl1 hx1=>
        rw [show ku (.tuple bs) "tuple"=true from rfl]
        walk_at "ev"
        rw [xt]
        rcases aec bs with ⟨p,hs,rfl⟩|e
        ·rw [show (!decide ((([p,hs]:List aa).length:Int)=2))=false by simp]
         walk_at "ev"
         rw [acr]
         have eb:yz m b (.tuple [p,hs])=(jm 0 p&&aim m b hs):=rfl
         cases h4:jm 0 p with
         |false=>
          walk_at "ev"
          rw [aco (th:=.int m) (bo:=.int b) (be:=.tuple [p,hs]) (by rw [show xa (.int m)=m from rfl,show xa (.int b)=b from rfl,eb,h4];rfl)]
         | true=>
          walk_at "ev"
          have hH:=hx1 hs (by simp)
          cases hH with
          | @tup es hl2 hx2=>
           rw [show ku (.tuple es) "tuple"=true from rfl]
           walk_at "ev"
           rw [xt]
           have eh:aim m b (.tuple es)=(decide ((es.length:Int)=b)&&es.all (xy m)):=rfl
           cases h5:decide ((es.length:Int)=b) with
           |false=>
            walk_at "ev"
            rw [aco (th:=.int m) (bo:=.int b) (be:=.tuple [p,.tuple es]) (by rw [show xa (.int m)=m from rfl,show xa (.int b)=b from rfl,eb,eh,h5];simp)]
           | true=>
            walk_at "ev"
            rw [ko (ρ0:=[none,some (.int m)]) (by rw [au];lia) rfl]
            rw [qg (fun _=> true) (fun x=> D.bl (xy m x)) es (fun x _=> rfl) (fun x hm _=> by
             walk_at "ev"
             rw [is_none]
             unfold xy
             cases alg x with
             |true=>
              walk_at "ev"
              rfl
             |false=>
              walk_at "ev"
              rw [aj2]
              rfl),bh.mpr (fun _ _=> rfl)]
            rw [show es.map (fun x=> D.bl (xy m x))=((es.map (xy m)).map aV).map D.da by rw [aU,aU];rfl]
            walk_at "ev"
            rw [ad0,cB]
            cases h6:es.all (xy m) with
            |false=>
             rw [show es.all (id∘xy m)=false from h6]
             walk_at "ev"
             rw [aco (th:=.int m) (bo:=.int b) (be:=.tuple [p,.tuple es]) (by rw [show xa (.int m)=m from rfl,show xa (.int b)=b from rfl,eb,eh,h6];simp)]
            | true=>
             rw [show es.all (id∘xy m)=true from h6]
             walk_at "ev"
             cases hS with
             | @tup sts hl3 hx3=>
              rw [show ku (.tuple sts) "tuple"=true from rfl]
              walk_at "ev"
              rw [ko (ρ0:=[none,some (.int m),some (.tup (ps.map ag)),some (.int b)]) (by rw [au];lia) rfl]
              have hzs: ∀x∈sts,strN x <=100:=fun x hxs=> hz (.tuple sts) (by simp [aqt]) x hxs
              rw [qg (fun _=> true) (fun x=> D.bl (k9 m b ps x)) sts (fun x _=> rfl) (fun x hm _=> by
               walk_at "ev"
               rw [a2l (hx3 x hm) hn hp (hzs x hm),azn]),bh.mpr (fun _ _=> rfl)]
              rw [show sts.map (fun x=> D.bl (k9 m b ps x))=((sts.map (k9 m b ps)).map aV).map D.da by rw [aU,aU];rfl]
              walk_at "ev"
              rw [ad0,cB]
              have he:kh (.tuple [.int m,.tuple (ps.map ag),.int b,.tuple [p,.tuple es],.tuple sts])=(sts.all (k9 m b ps)&&decide ((ud sts).length=sts.length)):=by
               show (vt (.int m)&&(kd (.tuple (ps.map ag))&&(jm 0 (.int b)&&(yz m b (.tuple [p,.tuple es])&&(sts.all (k9 m b (yu (ps.map ag)))&&decide ((ud sts).length=sts.length))))))=_
               rw [h1,h2,h3,eb,h4,eh,h5,h6,zf]
               rfl
              rw [he]
              cases h7:sts.all (k9 m b ps) with
              |false=>
               rw [show sts.all (id∘k9 m b ps)=false from h7]
               walk_at "ev"
              |true=>
               rw [show sts.all (id∘k9 m b ps)=true from h7]
               walk_at "ev"
               rw [ao]at h7
               rw [ko (ρ0:=[none,some (.tup sts)]) (by rw [au];lia) rfl]
               rw [vj D.da (fun x=> decide (1 < sts.countP fun d=> aE d x)) (fun x=> x) sts (fun x hm=> ⟨[some (.da x),some (.tup sts)],rfl,at4 (fun x hx=> (xp (h7 x hx)).1.okD (by decide)) ((xp (h7 x hm)).1.okD (by decide)),fun _=> rfl⟩),gY]
               walk_at "ev"
               rw [ago (agm (fun x hx=> (xp (h7 x (bC.mp hx).1)).1.okD (by decide)) (fun x hx=> aJ (xp (h7 x (bC.mp hx).1)).1.dp (by decide))),afo fun x hx=> (xp (h7 x hx)).1.pl]
               walk_at "ev"
             |_=> rfl
          |_=>
           walk_at "ev"
           rw [aco (th:=.int m) (bo:=.int b) (by rw [show xa (.int m)=m from rfl,show xa (.int b)=b from rfl,eb,h4];rfl)]
           rfl
        ·rw [e]
         walk_at "ev"
         rw [aco (ak1 e)]
       |_=>
        walk_at "ev"
        rw [aco (by rfl)]
        rfl
    ·rw [show decide ((3:Int) < m)=true from decide_eq_true (by lia)]
     walk_at "ev"
     rw [ap5 (by
      show (decide (1 <=m)&&decide (m <=3))=false
      rw [decide_eq_false h3m,dB])]
  ·rw [e]
   walk_at "ev"
   rw [amb e]
 |_=> rfl
def rgB:FS:=(jp (kf (ji (fOp gNe (fCB xz (ja (jd 1 qx (ja (jb 0) jc)) jc)) (fCB xz (ja (jb 2) jc)))) (ji (fOp gNe (fCB xz (ja (jb 0) jc)) (jb 1)))) (jj (fC (.da (.bool false)))) jl)
theorem aou{b:Bool}:xz [.bl b] s=.ok (.str (aV b).shown) s:=by
 show (if PF.okE (.bool b)=true then R.ok (D.str (aV b).shown) s else .bad)=_
 rw [if_pos (by cases b <;> decide+kernel)]
theorem azu{u:Option D}(hn:n <=5)(h:Lf n d)(hb:d.bulk <=200000)(hd:d.depth <=64)(hz:Sz 2 100 d):
  rgB [some (.da d),some (.str d.shown),some (.bl (kh d)),u] s=.ok (.nx [some (.da d),some (.str d.shown),some (.bl (kh d)),u]) s:=by
 unfold rgB
 walk_at "ev"
 rw [afs h hn hz]
 walk_at "ev"
 rw [aou]
 walk_at "ev"
 rw [aou]
 walk_at "ev"
 rw [aya,show (!decide ((aV (kh d)).shown=(aV (kh d)).shown))=false by simp]
 walk_at "ev"
 rw [apq h (by lia) hb hd]
 walk_at "ev"
 rw [aya,show (!decide (d.shown=d.shown))=false by simp]
 walk_at "ev"
theorem avd(hn:n <=5)(h:Lf n d)(hb:d.bulk <=200000)(hd:d.depth <=64)(hz:Sz 2 100 d):xc [.da d] s=.ok (.bl true) s:=by
 rw [ao6]
 show (B_law_right [some (.da d),none,none,none] s).bind jt=_
 unfold B_law_right
 walk_at "ev"
 rw [apq h (by lia) hb hd]
 walk_at "ev"
 rw [auu h hn hz]
 walk_at "ev"
 rw [aa7 (by decide) (by decide)]
 walk_at "ev"
 have e: ∀{p:Wk} {r:List D} {v:D} {u:Option D},qf (.nm 3) rgB p (v::r) [some (.da d),some (.str d.shown),some (.bl (kh d)),u] s=(R.ok (Fl.nx [some (.da d),some (.str d.shown),some (.bl (kh d)),some v]) s).bind (acg (.nm 3) rgB p r):=fun {p r v u}=> by
  rw [aby a6e,azu hn h hb hd hz]
 rw [show v8 0 (2:Int).toNat=[D.int 0,D.int 1] from rfl]
 have e2:qf (.nm 3) rgB ([D.int 0,D.int 1],none) [D.int 0,D.int 1] [some (.da d),some (.str d.shown),some (.bl (kh d)),none] s=.ok (.nx [some (.da d),some (.str d.shown),some (.bl (kh d)),some (.int 1)]) s:=by
  rw [e]
  walk_at "ev"
  rw [e]
  walk_at "ev"
 rw [show (jp (kf (ji (fOp gNe (fCB xz (ja (jd 1 qx (ja (jb 0) jc)) jc)) (fCB xz (ja (jb 2) jc)))) (ji (fOp gNe (fCB xz (ja (jb 0) jc)) (jb 1)))) (jj (fC (.da (.bool false)))) jl)=rgB from rfl,e2]
 walk_at "ev"
theorem zx(z:Str)(lo hi:Option Int):(aa2 z lo hi).length <=z.length/\ ∀c∈(aa2 z lo hi).cps.toList,c∈z.cps.toList:=by
 unfold aa2
 split
 ·exact⟨aD _,fun _ h=> h⟩
 ·constructor
  ·show (((cX lo hi 1 z.length).filterMap (z.cps[·]?)).toArray).size <=z.length
   rw [aH]
   exact aJ (fR _ _) (sliceIndices_le _ _ _)
  ·intro c hc
   have hc':c∈(cX lo hi 1 z.length).filterMap (z.cps[·]?):=by simpa using hc
   obtain⟨i,_,e⟩:=cO.mp hc'
   exact dh.mpr (gL e)
theorem ajh{z:Str}(h:asc z=true)(lo hi:Option Int):asc (aa2 z lo hi)=true:=by
 unfold asc at h⊢
 rw [ao]at h⊢
 exact fun c hc=> h c ((zx z lo hi).2 c hc)
theorem aws(x y:Str):(x++y).cps.toList=x.cps.toList++y.cps.toList:=by
 show (x.cps++y.cps).toList=_
 rw [Array.toList_append]
theorem aea(h1:asc x=true)(h2:asc y=true):asc (x++y)=true:=by
 unfold asc at h1 h2⊢
 rw [aws,List.all_append,h1,h2];rfl
theorem aan(x y:Str):(x++y).length=x.length+y.length:=by
 show (x.cps++y.cps).size=_
 rw [Array.size_append];rfl
theorem xf(xs ys:List aa):aB (xs++ys)=aB xs+aB ys:=by
 induction xs with
 |nil=> simp [aB]
 |cons x r ih=> simp only [gx,aB,ih];lia
theorem kq{x:aa}: ∀{ds:List aa},x∈ds -> x.depth <=ar ds
 |d::r,h=> by
  simp only [ar]
  rcases ay.mp h with e|e
  ·subst e;exact jH _ _
  ·exact aJ (kq e) (i3 _ _)
theorem vc{n:Nat}: ∀{ds:List aa},(∀x∈ds,x.depth <=n) -> ar ds <=n
 |[],_=> bX _
 |d::r,h=> by
  simp only [ar]
  exact Nat.max_le.mpr ⟨h d ax,vc fun y hy=> h y (az _ hy)⟩
theorem afg(xs ys:List aa):ar (xs++ys)=max (ar xs) (ar ys):=by
 induction xs with
 |nil=> simp [ar]
 |cons x r ih=> simp only [gx,ar,ih,Nat.max_assoc]
theorem aml(xs:List aa):aB xs.reverse=aB xs:=by
 induction xs with
 |nil=> rfl
 |cons x r ih=> simp only [dm,xf,ih,aB];lia
theorem ate(xs:List aa):ar xs.reverse=ar xs:=
 Nat.le_antisymm (vc fun x hx=> kq (gC.mp hx)) (vc fun x hx=> kq (gC.mpr hx))
theorem aqa{x:aa}(h:xs[k]?=some x):aB xs=aB (xs.take k)+(x.bulk+1)+aB (xs.drop (k+1))/\ar xs=max (ar (xs.take k)) (max x.depth (ar (xs.drop (k+1)))):=by
 have hk:=(aC.mp h).1
 have e:xs=xs.take k++(x::xs.drop (k+1)):=by
  have:=(aC.mp h).2
  rw [←this,←cw hk,dQ]
 constructor
 ·conv=> lhs;rw [e]
  rw [xf,aB];lia
 ·conv=> lhs;rw [e]
  rw [afg,ar]
theorem afh(xs:List aa)(k:Nat):aB (xs.take k)+aB (xs.drop k)=aB xs:=by rw [←xf,dQ]
theorem aet(xs:List aa)(k:Nat):ar (xs.take k) <=ar xs/\ar (xs.drop k) <=ar xs:=
 ⟨vc fun x hx=> kq (cF hx),vc fun x hx=> kq (cu hx)⟩
theorem aze{α:Type}(l:List α)(a b:Nat):qw l (some (a:Int)) (some (b:Int))=(l.drop a).take (min b l.length - min a l.length):=by
 unfold qw
 rw [HT.sIx_nat,HT.sIx_nat]
 by_cases h:a <=l.length
 ·rw [eM h]
 ·rw [cv (by lia),cv (by lia)]
theorem ali{z:Str}(hz:z.length <=16777216)(h:z.cps.toList[j]?=some c):gIx (.str z) (.int (j:Int)) s=.ok (.str ⟨#[c]⟩) s:=by
 show (if z.length <=sizeLine then (match atI z.cps.toList (j:Int) with|some c=> R.ok (D.str ⟨#[c]⟩) s|none=>.bad) else .bad)=_
 rw [if_pos (by rw [ki];exact hz),agd h]
theorem av2(h:asc x=true):asc (ik x)=true/\(ik x).length=x.length:=by
 have h':=h
 unfold asc at h
 simp only [ao,am,decide_eq_true_eq]at h
 rw [PyProof.Rows.upper_ascii (fun c hc=> by have:=(h c hc).2;lia)]
 constructor
 ·unfold asc
  rw [ao]
  intro c hc
  simp only [Array.toList_map,aR]at hc
  obtain⟨a,ha,rfl⟩:=hc
  have:=h a ha
  unfold PyProof.Rows.up1
  (simp only [am,decide_eq_true_eq])
  split <;> lia
 ·show (x.cps.map _).size=x.cps.size
  rw [Array.size_map]
noncomputable def aj3:List aa:=[.none,.bool true,.bool false,.int 0,.int 1,.int (-1),.int 3,.str "",.str "a",.str "box",.str "port",.str "next",.tuple [],.list [],.dict [],.tuple [.str "box",.int 0],.tuple [.str "port",.str "a"],.int 1000000000000000000000000000000]
structure OddK (n:Nat) (x:aa):Prop where
 lf:Lf n x
 bk:x.bulk <=20
 dp:x.depth <=2
 sn:strN x <=2
theorem aeo: ∀x∈(["","a","box","port","next"]:List Str),asc x=true/\x.cps.size <=5:=by decide+kernel
theorem aav(n:Nat)(h:x∈(["","a","box","port","next"]:List Str)):OddK n (.str x):=by
 obtain⟨a,b⟩:=aeo x h
 have:1 <=4^n:=Nat.pow_pos (by decide)
 exact⟨.str a (by show x.cps.size <=_;lia),by show x.cps.size <=20;lia,by simp [aA],by simp [strN]⟩
theorem acl(n:Nat){i:Int}(h:i.natAbs <=1000000000000000000000000000000):OddK n (.int i):=⟨.int (by lia),by simp [bc],by simp [aA],by simp [strN]⟩
theorem a19(n:Nat): ∀x∈aj3,OddK n x:=by
 intro x hx
 simp only [aj3,ay,aX,or_false]at hx
 rcases hx with rfl|rfl|rfl|rfl|rfl|rfl|rfl|rfl|rfl|rfl|rfl|rfl|rfl|rfl|rfl|rfl|rfl|rfl
 ·exact⟨.none,by simp [bc],by simp [aA],by simp [strN]⟩
 ·exact⟨.bool _,by simp [bc],by simp [aA],by simp [strN]⟩
 ·exact⟨.bool _,by simp [bc],by simp [aA],by simp [strN]⟩
 ·exact acl n (by decide)
 ·exact acl n (by decide)
 ·exact acl n (by decide)
 ·exact acl n (by decide)
 ·exact aav n (by simp)
 ·exact aav n (by simp)
 ·exact aav n (by simp)
 ·exact aav n (by simp)
 ·exact aav n (by simp)
 ·exact⟨.tup (by simp) (fun x h=> by cases h),by simp [bc,aB],by simp [aA,ar],by simp [strN,jg]⟩
 ·exact⟨.lst (by simp) (fun x h=> by cases h),by simp [bc,aB],by simp [aA,ar],by simp [strN,jg]⟩
 ·exact⟨.dct,by simp [bc,PyData.bulkKv],by simp [aA,PyData.depthKv],by simp [strN]⟩
 ·refine⟨.tup (by simp;lia) (aca (aav n (by simp)).lf (acl n (by decide)).lf),?_,by simp [aA,ar],by simp [strN,jg]⟩
  have:=(aeo "box" (by simp)).2
  simp only [bc,aB]
  lia
 ·refine⟨.tup (by simp;lia) (aca (aav n (by simp)).lf (aav n (by simp)).lf),?_,by simp [aA,ar],by simp [strN,jg]⟩
  have:=(aeo "port" (by simp)).2
  have:=(aeo "a" (by simp)).2
  simp only [bc,aB]
  lia
 ·exact acl n (by decide)
theorem ans(k:Nat)(h:Fd s n c)(hc:c+1 < 2^40):(zj [.ref n] s).W fun d s'=> ∃x,d=.da x/\OddK k x/\Fd s' n (c+1)/\j4 n s s':=by
 rw [aun]
 show ((B_law_odd [some (.ref n),none] s).bind jt).W _
 unfold B_law_odd
 walk_at "ev"
 rw [show∀(ρ:En) (s:S),aqv ρ s=.ok (.da (.dict [])) s from fun _ _=> rfl]
 walk_at "ev"
 rw [show∀s:S,ab5 false [.da .none,.da (.bool true),.da (.bool false),.da (.int 0),.da (.int 1),.int (-1),.da (.int 3),.da (.str ""),.da (.str "a"),.da (.str "box"),.da (.str "port"),.da (.str "next"),.tup [],.lst [],.da (.dict [])] s=.ok (.lst (aj3.take 15)) s from fun s=> rfl]
 walk_at "ev"
 rw [ahp (by decide) (by decide) (by decide)]
 walk_at "ev"
 rw [ad4 (by decide)]
 walk_at "go"
 refine R.W_mono (ke h (by decide) (by decide) (by lia)) ?_
 rintro _ s1 ⟨j,rfl,j0,j1,fd1,sm1⟩
 obtain⟨q,rfl⟩:=za j (by assumption)
 have hq:q < aj3.length:=by show q < 18;lia
 walk_at "go"
 rw [show (aj3.take 15++ [aK [.str "box",.int 0],.tuple [.str "port",.str "a"],.int (10^(30:Int).toNat)])=aj3 from rfl,zz (av hq)]
 walk_at "go"
 exact⟨_,rfl,a19 k _ (bR hq),fd1,sm1⟩
theorem asy: ∀j:Nat,j < 30 -> ∃c,(bQ "abcdefghijklmnopqrstuvwxyz_A0~").cps.toList[j]?=some c/\32 <=c/\c < 127:=by decide+kernel
theorem ixP{L:List aa}{w:Int}{P:aa -> Prop}(h0:0 <=w)(h1:w < L.length)(h: ∀x∈L,P x): ∃x,P x/\gIx (.lst L) (.int w) s=.ok (.da x) s:=by
 obtain⟨q,rfl⟩:=za w (by assumption)
 have hq:q < L.length:=by lia
 exact⟨L[q],h _ (bR hq),zz (av hq)⟩
theorem ao2{w:Str}(h:Fd s n c)(ha:asc w=true)(hl:w.length <=100000)(hc:c+3 < 2^40):(zw [.ref n,.str w] s).W fun d s'=> ∃x:Str,d=.str x/\asc x=true/\x.length <=2*w.length+1/\Fd s' n (c+3)/\j4 n s s':=by
 rw [ajs]
 show ((B_law_lettered [some (.ref n),some (.str w),none,none] s).bind jt).W _
 unfold B_law_lettered
 walk_at "go"
 rw [len_str (by lia)]
 walk_at "go"
 refine R.W_mono (ke h (by lia) (by lia) (by lia)) ?_
 rintro _ s1 ⟨a,rfl,a0,a1,fd1,sm1⟩
 walk_at "go"
 refine R.W_mono (ke fd1 (by decide) (by decide) (by lia)) ?_
 rintro _ s2 ⟨t,rfl,t0,t1,fd2,sm2⟩
 obtain⟨q,rfl⟩:=za t (by assumption)
 obtain⟨ch,hch,c1,c2⟩:=asy q (by lia)
 walk_at "go"
 rw [ali (by decide+kernel) hch]
 walk_at "go"
 have l1:=(zx w none (some a)).1
 have l2:=(zx w (some (a+1)) none).1
 have l4:=(zx w (some a) none).1
 have l3:(⟨#[ch]⟩:Str).length=1:=rfl
 have ac:asc ⟨#[ch]⟩=true:=by
  show ([ch].all fun c=> decide (32 <=c)&&decide (c < 127))=true
  simp [c1,c2]
 have b1:=ajh ha none (some a)
 have b2:=ajh ha (some (a+1)) none
 have b4:=ajh ha (some a) none
 rw [aau (by lia)]
 walk_at "go"
 rw [aag (by lia)]
 walk_at "go"
 rw [aau (by lia)]
 walk_at "go"
 rw [aag (by rw [aan];lia)]
 walk_at "go"
 rw [aau (by lia)]
 walk_at "go"
 try rw [aag (by lia)]
 try walk_at "go"
 try rw [aau (by lia)]
 try walk_at "go"
 try rw [aag (by rw [aan];lia)]
 try walk_at "go"
 try rw [aau (by lia)]
 try walk_at "go"
 try rw [aau (by lia)]
 try walk_at "go"
 try rw [aag (by lia)]
 walk_at "go"
 refine R.W_mono (ke fd2 (by decide) (by decide) (by lia)) ?_
 rintro _ s3 ⟨v,rfl,v0,v1,fd3,sm3⟩
 obtain⟨x,⟨y,rfl,p1,p2⟩,e⟩:=ixP (L:=[.str (aa2 w none (some a)++⟨#[ch]⟩++aa2 w (some a) none),.str (aa2 w none (some a)++⟨#[ch]⟩++aa2 w (some (a+1)) none),.str (aa2 w none (some a)++aa2 w (some (a+1)) none)]) (s:=s3) (P:=fun x=> ∃y,x=.str y/\asc y=true/\y.length <=2*w.length+1) v0 v1 (by
  intro x hx
  (simp only [ay,aX,or_false]at hx)
  rcases hx with rfl|rfl|rfl
  ·exact⟨_,rfl,aea (aea b1 ac) b4,by rw [aan,aan];lia⟩
  ·exact⟨_,rfl,aea (aea b1 ac) b2,by rw [aan,aan];lia⟩
  ·exact⟨_,rfl,aea b1 b2,by rw [aan];lia⟩)
 walk_at "go"
 rw [e]
 walk_at "go"
 exact⟨y,rfl,p1,p2,fd3,sm1.trans (sm2.trans sm3)⟩
theorem ab8(xs:List aa)(k:Nat):aB (xs.drop k) <=aB xs:=by have:=afh xs k;lia
theorem aaw(xs:List aa)(k:Nat):aB (xs.take k) <=aB xs:=by have:=afh xs k;lia
theorem aho{x:aa}: ∀{ds:List aa},x∈ds -> strN x <=jg ds
 |[],h=> by cases h
 |d::r,h=> by
  simp only [jg]
  rcases ay.mp h with e|e
  ·subst e;lia
  ·have:=aho e;lia
theorem Sz.of: ∀{k N:Nat} {x:aa},strN x <=N -> Sz k N x
 |0,_,_,h=> h
 | k+1,N,x,h=> fun y hy=> Sz.of (aJ (by
   cases x with
   |tuple ds=> simp only [strN];exact aho hy
   |list ds=> simp only [strN];exact aho hy
   |_=> cases hy) h)
theorem Sz.mono: ∀{k N M:Nat} {x:aa},Sz k N x -> N <=M -> Sz k M x
 |0,_,_,_,h,hm=> aJ h hm
 |k+1,_,_,_,h,hm=> fun y hy=> Sz.mono (h y hy) hm
def Gr(d0 x:aa):Prop:= ∀k N,Sz k N d0 -> Sz k (2*N+2) x
theorem Gr.of{d0 x:aa}(h:strN x <=2):Gr d0 x:=fun k N _=> Sz.of (by lia)
theorem Gr.items{es:List aa}{f:List aa -> aa}(hf:f=aK\/f=fB)(h1:jg es <=2*jg ds+2)(h2: ∀y∈es,y∈ds\/strN y <=2\/ ∃z∈ds,Gr z y):Gr (.tuple ds) (f es):=by
 intro k N h
 cases k with
 |zero=>
  have h:strN (.tuple ds) <=N:=h
  simp only [strN]at h
  have e:strN (f es)=jg es:=by rcases hf with rfl|rfl <;> simp only [strN]
  show strN (f es) <=_
  lia
 |succ k=>
  intro y hy
  have hy:y∈es:=by rcases hf with rfl|rfl <;> exact hy
  rcases h2 y hy with z|z|⟨z,hm,g⟩
  ·exact (h y z).mono (by lia)
  ·exact Sz.of (by lia)
  ·exact g k N (h z hm)
structure BentK (n B dp:Nat) (d0 d:aa):Prop where
 sz:Gr d0 d
 lf:Lf (n+1) d
 bk:d.bulk <=2*B+60
 dp:d.depth <=dp+2
structure BentQ (s:S) (k c n B dp:Nat) (d0:aa) (r:D) (s':S):Prop where
 ex: ∃d',r=.da d'/\BentK n B dp d0 d'/\Fd s' k c/\j4 k s s'
theorem OddK.bent{dp:Nat}{d0 x:aa}(h:OddK (n+1) x):BentK n B dp d0 x:=⟨.of h.sn,h.lf,by have:=h.bk;lia,by have:=h.dp;lia⟩
theorem a35(n:Nat):4^(n+1)=4*4^n:=by rw [Nat.pow_succ,Nat.mul_comm]
theorem an9(n:Nat):1 <=4^n:=Nat.pow_pos (by decide)
open PyProof.Rows in
theorem azl(i:Int):asc (bQ (toString i))=true:=by
 unfold asc
 rw [ao]
 intro c hc
 (simp only [am,decide_eq_true_eq])
 by_cases h:c≠45/\(c < 48\/57 < c)
 ·exact absurd hc (int_text_free' c h i)
 ·lia
section
variable{s s1:S}{k c0 c n B:Nat}{d:aa}{ρ2:Option D}{F:FF}{w:Int}
theorem af4{dp:Nat}(h:Fd s1 k c0)(sm:j4 k s s1)(hc:c0+1 <=c)(hc2:c < 2^40):
  (ab4 F [some (.ref k),some (.da d),ρ2,some (.int w),none] s1).W fun fl s'=> (jt fl s').W (BentQ s k c n B dp d):=by
 unfold ab4
 walk_at "go"
 refine R.W_mono (ans (n+1) h (by lia)) ?_
 rintro _ s2 ⟨x,rfl,ok,fd2,sm2⟩
 walk_at "go"
 exact⟨x,rfl,ok.bent,fd2.le hc,sm.trans sm2⟩
structure LetJ (s:S) (k c:Nat) (x:Str) (r acc:List D) (s':S):Prop where
 ex: ∃(ys:List Str) (c':Nat),acc=ys.map (fun y=> D.str y)/\(∀y∈ys,asc y=true/\y.length <=2*x.length+1)/\ys.length+r.length=4/\Fd s' k c'/\c'+3*r.length <=c/\j4 k s s'
theorem a5q(h:Fd s1 k c0)(sm:j4 k s s1)(hc:c0+13 <=c)(hc2:c < 2^40)(hn:n <=5)(hd:Lf n d)(hB:d.bulk <=B)(w0:0 <=w):
  (aba F [some (.ref k),some (.da d),ρ2,some (.int w),none] s1).W fun fl s'=> (jt fl s').W (BentQ s k c n B d.depth d):=by
 unfold aba
 walk_at "go"
 cases hd with
 | @str x ha hlx=>
  have hx:x.length <=B:=hB
  have hx2:=(aiu (.str ha hlx) hn x rfl).2
  rw [show ku (.str x) "str"=true from rfl]
  walk_at "go"
  by_cases hw:w < 7
  ·rw [decide_eq_true hw]
   walk_at "go"
   rw [aa7 (by decide) (by decide),show ((4:Int)).toNat=4 from rfl]
   walk_at "go"
   rw [ko (ρ0:=[none,some (.ref k),some (.str x)]) (by rw [k8];lia) rfl,R.W_bindk]
   refine R.W_mono (aab (Q:=fun xs s'=> ∃ys:List Str,xs=ys.map (fun y=> D.str y)/\(∀y∈ys,asc y=true/\y.length <=2*x.length+1)/\ys.length=4/\Fd s' k (c0+12)/\j4 k s s') (LetJ s k (c0+12) x) ?_ ?_ _ [] s1 ⟨[],c0,rfl,(fun _ h=> by cases h),by rw [k8];rfl,h,by rw [k8];lia,sm⟩) ?_
   ·rintro d' r acc s' ⟨ys,c',rfl,hy,hlen,fd,hcc,sm'⟩
    simp only [aP]at hlen hcc
    refine⟨[some d',some (.ref k),some (.str x)],rfl,?_⟩
    walk_at "go"
    refine R.W_mono (ao2 fd ha hx2 (by lia)) ?_
    rintro _ s2 ⟨y,rfl,p1,p2,fd2,sm2⟩
    refine⟨ys++ [y],c'+3,by simp,?_,by simp;lia,fd2,by lia,sm'.trans sm2⟩
    intro z hz
    rcases aL.mp hz with q|q
    ·exact hy z q
    ·rw [aO.mp q];exact⟨p1,p2⟩
   ·rintro acc s' ⟨ys,c',rfl,hy,hlen,fd,hcc,sm'⟩
    exact⟨ys,rfl,hy,by simpa using hlen,fd.le (by simp at hcc;lia),sm'⟩
   ·rintro xs s2 ⟨ys,e,hy,hlen,fd,sm'⟩
    rw [cN]at e
    subst e
    walk_at "go"
    rw [show ys.map (fun y=> D.str y)=(ys.map ag).map D.da by rw [aU];rfl]
    walk_at "go"
    obtain⟨ua,ul⟩:=av2 ha
    rw [show∀s:S,fMs ae9 (jb 1) jc [some (.ref k),some (.da (.str x)),ρ2,some (.int w),none] s=ae9 (.str x) [] s from fun s=> rfl]
    rw [show∀s:S,ae9 (.str x) [] s=.ok (.str (ik x)) s from fun s=> if_pos (PyProof.Rows.fit_upper (by lia))]
    walk_at "go"
    rw [ad4 (by simp;lia)]
    walk_at "go"
    have p4:=a35 n
    have p0:=an9 n
    obtain⟨z,pz,ez⟩:=ixP (L:=ys.map ag++ [.str (ik x),.str "box",.str "next"]) (s:=s2) (P:=BentK n B 0 (.str x)) w0 (by simp [hlen];lia) (by
     have lit: ∀y:Str,y∈(["box","next"]:List Str) -> asc y=true/\y.cps.size <=5:=by decide+kernel
     have st: ∀y:Str,asc y=true -> y.length <=2*x.length+10 -> BentK n B 0 (.str x) (.str y):=fun y a b=> ⟨.of (by simp [strN]),.str a (by lia),by show y.length <=_;lia,by simp [aA]⟩
     intro z hz
     rcases aL.mp hz with q|q
     ·obtain⟨y,hm,rfl⟩:=aR.mp q
      exact st y (hy y hm).1 (by have:=(hy y hm).2;lia)
     ·simp only [ay,aX,or_false]at q
      rcases q with rfl|rfl|rfl
      ·exact st _ ua (by lia)
      ·exact st _ (lit "box" (by simp)).1 (by have:=(lit "box" (by simp)).2;show Array.size _ <=_;lia)
      ·exact st _ (lit "next" (by simp)).1 (by have:=(lit "next" (by simp)).2;show Array.size _ <=_;lia))
    rw [ez]
    walk_at "go"
    exact⟨z,rfl,⟨pz.sz,pz.lf,pz.bk,aJ pz.dp (by lia)⟩,fd.le (by lia),sm'⟩
  ·rw [decide_eq_false hw]
   walk_at "go"
   exact af4 (F:=F) h sm (by lia) hc2
 |none=> exact af4 (F:=F) h sm (by lia) hc2
 |bool b=> exact af4 (F:=F) h sm (by lia) hc2
 |int _=> exact af4 (F:=F) h sm (by lia) hc2
 |tup _ _=> exact af4 (F:=F) h sm (by lia) hc2
 |lst _ _=> exact af4 (F:=F) h sm (by lia) hc2
 |dct=> exact af4 (F:=F) h sm (by lia) hc2
theorem a5l(h:Fd s1 k c0)(sm:j4 k s s1)(hc:c0+13 <=c)(hc2:c < 2^40)(hn:n <=5)(hd:Lf n d)(hB:d.bulk <=B)(w0:0 <=w):
  (ab6 F [some (.ref k),some (.da d),ρ2,some (.int w),none] s1).W fun fl s'=> (jt fl s').W (BentQ s k c n B d.depth d):=by
 have go:=a5q (F:=F) (ρ2:=ρ2) (w:=w) h sm hc hc2 hn hd hB w0
 have p4:=a35 n
 have p0:=an9 n
 have ip: ∀i:Int,i.natAbs <=1000000000000000000000000000000+2*(n+1) -> BentK n B d.depth d (.int i):=fun i hi=> ⟨.of (by simp [strN]),.int hi,by simp [bc],by simp [aA]⟩
 have bp: ∀b:Bool,BentK n B d.depth d (.bool b):=fun b=> ⟨.of (by simp [strN]),.bool b,by simp [bc],by simp [aA]⟩
 have sp: ∀y:Str,asc y=true -> y.length <=40 -> BentK n B d.depth d (.str y):=fun y a b=> ⟨.of (by simp [strN]),.str a (by lia),by show y.length <=_;lia,by simp [aA]⟩
 unfold ab6
 walk_at "go"
 cases hd with
 | @int i hi=>
  rw [show ku (.int i) "int"=true from rfl]
  walk_at "go"
  by_cases hw:w < 6
  ·rw [decide_eq_true hw]
   walk_at "go"
   rw [yi]
   walk_at "go"
   have h31:i.natAbs < 10^31:=by
    have e:(10:Nat)^31=10000000000000000000000000000000:=by decide
    lia
   rw [show∀s:S,an6 [.int i] s=.ok (.str (toString i)) s from fun s=> if_pos (by
    by_cases z:i.natAbs=0
    ·rw [z];decide
    ·have h2:i.natAbs < 2^104:=by
      have e:(2:Nat)^104=20282409603651670423947251286016:=by decide
      lia
     have:=(Nat.log2_lt z).mpr h2
     lia)]
   walk_at "go"
   obtain⟨x,px,ex⟩:=ixP (s:=s1) (L:=[.int (i+1),.int (i - 1),.bool (decide (i=1)),.str (toString i),.int (i+2),.int (-1 - i)]) (P:=BentK n B (aI i).depth (.int i)) w0 (by simp;lia) (by
    intro x hx
    (simp only [ay,aX,or_false]at hx)
    rcases hx with rfl|rfl|rfl|rfl|rfl|rfl
    ·exact ip _ (by lia)
    ·exact ip _ (by lia)
    ·exact bp _
    ·exact sp _ (azl i) (by rw [ofString_length];have:=akd h31;lia)
    ·exact ip _ (by lia)
    ·exact ip _ (by lia))
   rw [ex]
   walk_at "go"
   exact⟨x,rfl,px,h.le (by lia),sm⟩
  ·rw [decide_eq_false hw]
   walk_at "go"
   exact go
 | bool b=>
  rw [show ku (.bool b) "int"=true from rfl]
  walk_at "go"
  by_cases hw:w < 6
  ·rw [decide_eq_true hw]
   walk_at "go"
   rw [ae5 rfl rfl]
   walk_at "go"
   rw [show∀s:S,an6 [.bl b] s=.ok (.str (if b then "True" else "False")) s from fun s=> rfl]
   walk_at "go"
   have hb:(b01 b).natAbs <=1:=by cases b <;> decide
   obtain⟨x,px,ex⟩:=ixP (s:=s1) (L:=[.int (b01 b+1),.int (b01 b - 1),.bool (aE (.bool b) (.int 1)),.str (if b then "True" else "False"),.int (b01 b+2),.int (-1 - b01 b)]) (P:=BentK n B (aV b).depth (.bool b)) w0 (by simp;lia) (by
    intro x hx
    (simp only [ay,aX,or_false]at hx)
    rcases hx with rfl|rfl|rfl|rfl|rfl|rfl
    ·exact ip _ (by lia)
    ·exact ip _ (by lia)
    ·exact bp _
    ·have lit: ∀y:Str,y∈(["True","False"]:List Str) -> asc y=true/\y.length <=5:=by decide+kernel
     cases b
     ·exact sp _ (lit "False" (by simp)).1 (by have:=(lit "False" (by simp)).2;exact aJ this (by decide))
     ·exact sp _ (lit "True" (by simp)).1 (by have:=(lit "True" (by simp)).2;exact aJ this (by decide))
    ·exact ip _ (by lia)
    ·exact ip _ (by lia))
   rw [ex]
   walk_at "go"
   exact⟨x,rfl,px,h.le (by lia),sm⟩
  ·rw [decide_eq_false hw]
   walk_at "go"
   exact go
 |none=> exact go
 |str _ _=> exact go
 |tup _ _=> exact go
 |lst _ _=> exact go
 |dct=> exact go
end
theorem axd(xs:List aa)(a b:Nat):aB ((xs.drop a).take b) <=aB (xs.drop a):=aaw _ b
theorem zr(xs:List aa)(k:Nat):jg (xs.take k)+jg (xs.drop k)=jg xs:=by rw [←qq,dQ]
theorem av6(xs:List aa):jg xs.reverse=jg xs:=by
 induction xs with
 |nil=> rfl
 |cons x r ih=> rw [dm,qq,ih];simp only [jg];lia
section
variable{s s1:S}{k c0 c n B:Nat}{d:aa}{ρ2:Option D}{F:FF}{w:Int}
theorem a6t(h:Fd s1 k c0)(sm:j4 k s s1)(hc:c0+13 <=c)(hc2:c < 2^40)(hn:n <=5)(hd:Lf n d)(hB:d.bulk <=B)(w0:0 <=w):
  (ab2 F [some (.ref k),some (.da d),ρ2,some (.int w),none] s1).W fun fl s'=> (jt fl s').W (BentQ s k c n B d.depth d):=by
 have go:=a5l (F:=F) (ρ2:=ρ2) (w:=w) h sm hc hc2 hn hd hB w0
 unfold ab2
 walk_at "go"
 cases hd with
 | @tup ds hl hx=>
  have hB':aB ds <=B:=by simpa only [bc] using hB
  rw [show ku (.tuple ds) "tuple"=true from rfl]
  walk_at "go"
  by_cases hw:w < 6
  ·rw [decide_eq_true hw]
   walk_at "go"
   refine R.W_mono (ke h (by lia) (by lia) (by lia)) ?_
   rintro _ s2 ⟨j,rfl,j0,j1,fd2,sm2⟩
   obtain⟨t,rfl⟩:=za j (by assumption)
   walk_at "go"
   rw [show (t:Int)+1=((t+1:Nat):Int) by lia,acu,zg]
   rw [kz (by simp;lia)]
   walk_at "go"
   try rw [show (t:Int)+1=((t+1:Nat):Int) by lia]
   rw [acu,aze]
   rw [kz (by simp;lia)]
   walk_at "go"
   rw [zg]
   rw [kz (by simp;lia)]
   walk_at "go"
   refine R.W_mono (ans (n+1) fd2 (by lia)) ?_
   rintro _ s3 ⟨x,rfl,ok,fd3,sm3⟩
   walk_at "go"
   rw [acu]
   rw [kz (by simp;lia)]
   walk_at "go"
   rw [zg]
   rw [kz (by simp;lia)]
   walk_at "go"
   try rw [acu]
   rw [ad4 (by simp)]
   walk_at "go"
   have t1:=aaw ds t
   have t2:=ab8 ds (t+1)
   have t4:=ab8 ds t
   have u1:=afh ds t
   have t5:=axd ds t (min (t+1) ds.length - min t ds.length)
   have ob:=ok.bk
   have v1:=zr ds t
   have v2:=zr ds (t+1)
   have v3:jg ((ds.drop t).take (min (t+1) ds.length - min t ds.length)) <=jg (ds.drop t):=by have:=zr (ds.drop t) (min (t+1) ds.length - min t ds.length);lia
   have v4:=ok.sn
   have od:=ok.dp
   have all: ∀(f:List aa -> aa) (es:List aa),(f=aK\/f=fB) -> es.length <=ds.length+1 -> (∀y∈es,y∈ds\/y=x) -> aB es <=2*B+60 -> jg es <=2*jg ds+2 -> BentK n B (aK ds).depth (.tuple ds) (f es):=by
    intro f es hf h1 h2 h3 h5
    have h4:ar es <=ar ds+2:=vc fun y hy=> (h2 y hy).elim (fun z=> aJ (kq z) (fj _ _)) fun z=> z▸aJ od (Nat.le_add_left _ _)
    have gr:Gr (.tuple ds) (f es):=.items hf h5 fun y hy=> (h2 y hy).elim .inl fun z=>.inr (.inl (z▸ok.sn))
    have m: ∀y∈es,Lf (n+1) y:=fun y hy=> (h2 y hy).elim (fun z=> (hx y z).mono (by lia)) (fun z=> z▸ok.lf)
    rcases hf with rfl|rfl
    ·exact⟨gr,.tup (by lia) m,by simpa only [bc] using h3,by simp only [aA];lia⟩
    ·exact⟨gr,.lst (by lia) m,by simpa only [bc] using h3,by simp only [aA];lia⟩
   have mt: ∀y∈ds.take t,y∈ds\/y=x:=fun y hy=>.inl (cF hy)
   have md: ∀q,∀y∈ds.drop q,y∈ds\/y=x:=fun q y hy=>.inl (cu hy)
   obtain⟨z,pz,ez⟩:=ixP (s:=s3) (L:=[.list ds,.tuple (ds.take t++ds.drop (t+1)),.tuple (ds.take t++((ds.drop t).take (min (t+1) ds.length - min t ds.length)++ds.drop t)),.tuple ds.reverse,.tuple (ds.take t++x::ds.drop t),.tuple (ds.take t)]) (P:=BentK n B (aK ds).depth (.tuple ds)) w0 (by simp;lia) (by
    intro y hy
    simp only [ay,aX,or_false]at hy
    rcases hy with rfl|rfl|rfl|rfl|rfl|rfl
    ·exact all fB ds (.inr rfl) (by lia) (fun _ h=>.inl h) (by lia) (by lia)
    ·exact all aK _ (.inl rfl) (by simp;lia) (fun y hm=> (aL.mp hm).elim (mt y) (md _ y)) (by rw [xf];lia) (by rw [qq];lia)
    ·refine all aK _ (.inl rfl) (by simp;lia) (fun y hm=> ?_) (by rw [xf,xf];lia) (by rw [qq,qq];lia)
     rcases aL.mp hm with q|q
     ·exact mt y q
     ·rcases aL.mp q with q|q
      ·exact md _ y (cF q)
      ·exact md _ y q
    ·exact all aK _ (.inl rfl) (by simp) (fun y hm=>.inl (gC.mp hm)) (by rw [aml];lia) (by rw [av6];lia)
    ·refine all aK _ (.inl rfl) (by simp;lia) (fun y hm=> ?_) (by rw [xf,aB];lia) (by rw [qq];simp only [jg];lia)
     rcases aL.mp hm with q|q
     ·exact mt y q
     ·rcases ay.mp q with q|q
      ·exact .inr q
      ·exact md _ y q
    ·exact all aK _ (.inl rfl) (by simp;lia) mt (by lia) (by lia))
   rw [ez]
   walk_at "go"
   exact⟨z,rfl,pz,fd3.le (by lia),sm.trans (sm2.trans sm3)⟩
  ·rw [decide_eq_false hw]
   walk_at "go"
   exact go
 |none=> exact go
 |bool b=> exact go
 |int _=> exact go
 |str _ _=> exact go
 |lst _ _=> exact go
 |dct=> exact go
end
theorem a59{s1:S}{c0:Nat}{ρ3:Option D}{F:FF}(h:Fd s1 k c0)(sm:j4 k s s1)(hc:c0+14 <=c)(hc2:c < 2^40)(hn:n <=5)(hd:Lf n d)(hB:d.bulk <=B):
  (zk F [some (.ref k),some (.da d),ρ2,ρ3,none] s1).W fun fl s'=> (jt fl s').W (BentQ s k c n B d.depth d):=by
 unfold zk
 walk_at "go"
 refine R.W_mono (ke h (by decide) (by decide) (by lia)) ?_
 rintro _ s2 ⟨j,rfl,j0,j1,fd2,sm2⟩
 walk_at "go"
 exact a6t fd2 (sm.trans sm2) (by lia) hc2 hn hd hB j0
theorem ao3{x:aa}(h:xs[k]?=some x):jg xs=jg (xs.take k)+strN x+jg (xs.drop (k+1)):=by
 have h1:=zr xs k
 obtain⟨hk,e⟩:=aC.mp h
 rw [cw hk,e]at h1
 simp only [jg]at h1
 lia
theorem aiz: ∀(f:Nat) {s:S} {k c n B:Nat} {d:aa},Fd s k c -> Lf n d -> d.bulk <=B -> d.depth < f -> n <=5 -> f <=60 -> c+16*f < 2^40 -> (jw f [.ref k,.da d] s).W (BentQ s k (c+16*f) n B d.depth d)
 |0,s,k,c,n,B,d,_,_,_,h,_,_,_=> by lia
 | f + 1,s,k,c,n,B,d,h,hd,hB,hf,hn,f60,hc=> by
  rw [aro,R.W_bind]
  unfold B_law_bent
  have go: ∀s1 ρ2 ρ3,Fd s1 k (c+2) -> j4 k s s1 -> (zk (jw f) [some (.ref k),some (.da d),ρ2,ρ3,none] s1).W fun fl s'=> (jt fl s').W (BentQ s k (c+16*(f+1)) n B d.depth d):=fun s1 ρ2 ρ3 fd sm=> a59 fd sm (by lia) hc hn hd hB
  walk_at "go"
  by_cases ht: ∃ds,d=.tuple ds
  ·obtain⟨ds,rfl⟩:=ht
   rw [show ku (.tuple ds) "tuple"=true from rfl]
   walk_at "go"
   by_cases hds:0 < ds.length
   ·rw [show decide ((0:Int) < (ds.length:Int))=true from decide_eq_true (by lia)]
    walk_at "go"
    refine R.W_mono (ke h (by decide) (by decide) (by lia)) ?_
    rintro _ s1 ⟨j,rfl,j0,j1,fd1,sm1⟩
    walk_at "go"
    by_cases hj:0 < j
    ·rw [decide_eq_true hj]
     obtain⟨hl,hx⟩:=qo hd
     walk_at "go"
     refine R.W_mono (ke fd1 (by lia) (by lia) (by lia)) ?_
     rintro _ s2 ⟨t,rfl,t0,t1,fd2,sm2⟩
     obtain⟨q,rfl⟩:=za t (by assumption)
     have hq:q < ds.length:=by lia
     have gq:ds[q]?=some ds[q]:=av hq
     have hB':aB ds <=B:=by simpa only [bc] using hB
     have b1:=(aqa gq).1
     have b2:(ds[q]).depth <=ar ds:=kq (bR hq)
     have dd:(aK ds).depth=ar ds+1:=by simp only [aA]
     walk_at "go"
     rw [abp gq]
     walk_at "go"
     refine R.W_mono (aiz f (B:=(ds[q]).bulk) fd2 (hx _ (bR hq)) (aD _) (by lia) hn (by lia) (by lia)) ?_
     rintro _ s3 ⟨d',rfl,⟨sz,lf,bk,dp⟩,fd3,sm3⟩
     walk_at "go"
     rw [acu]
     rw [kz (by simp;lia)]
     walk_at "go"
     rw [show (q:Int)+1=((q+1:Nat):Int) by lia,zg]
     rw [kz (by simp;lia)]
     walk_at "go"
     have g0:strN d' <=2*strN ds[q]+2:=sz 0 _ (aD _)
     have g1:=ao3 gq
     have gr:Gr (.tuple ds) (.tuple (ds.take q++d'::ds.drop (q+1))):=.items (f:=aK) (.inl rfl) (by rw [qq];simp only [jg];lia) fun y hm=> by
      rcases aL.mp hm with z|z
      ·exact .inl (cF z)
      ·rcases ay.mp z with z|z
       ·exact .inr (.inr ⟨ds[q],bR hq,z▸sz⟩)
       ·exact .inl (cu z)
     refine⟨_,rfl,⟨gr,.tup (by simp;lia) (fun x hm=> ?_),?_,?_⟩,fd3.le (by lia),sm1.trans (sm2.trans sm3)⟩
     ·rcases aL.mp hm with z|z
      ·exact (hx x (cF z)).mono (by lia)
      ·rcases ay.mp z with rfl|z
       ·exact lf
       ·exact (hx x (cu z)).mono (by lia)
     ·show aB _ <=_
      rw [xf]
      simp only [aB]
      lia
     ·have:ar (ds.take q++d'::ds.drop (q+1)) <=ar ds+2:=vc fun x hm=> by
       rcases aL.mp hm with z|z
       ·exact aJ (kq (cF z)) (fj _ _)
       ·rcases ay.mp z with z|z
        ·rw [z];exact aJ dp (Nat.add_le_add_right (kq (bR hq)) 2)
        ·exact aJ (kq (cu z)) (fj _ _)
      simp only [aA]
      exact i6 this
    ·rw [decide_eq_false hj]
     walk_at "go"
     exact go s1 _ _ (fd1.le (by lia)) sm1
   ·rw [show decide ((0:Int) < (ds.length:Int))=false from decide_eq_false (by lia)]
    walk_at "go"
    exact go s _ _ (h.le (by lia)) (j4.refl _ _)
  ·rw [show ku d "tuple"=false by cases d <;> first|rfl|exact absurd ⟨_,rfl⟩ ht]
   walk_at "go"
   exact go s _ _ (h.le (by lia)) (j4.refl _ _)
noncomputable def ac8:List Str:=["a","ab","abc","net","end","within","to","table","step","box","port","next","b","zzzzzzzz","both","place","ba"]
theorem azs: ∀x∈ac8,jz x=true:=by decide+kernel
theorem avx: ∀a:Nat,a < 17 -> ∀b:Nat,b < 17 -> a≠b -> ac8.getD a "a"≠ac8.getD b "a":=by decide+kernel
theorem a25: ∀f:Nat,f < 17 -> ∀g:Nat,g < 16 -> ((aZ 7).map fun i=> (f+(1+g)*i) % 17).Nodup:=by decide+kernel
theorem at2(n:Nat):v8 0 n=(aZ n).map fun i:Nat=> D.int (i:Int):=by
 apply dj
 intro i
 by_cases hi:i < n
 ·rw [agc _ _ _ hi,a9,dw hi];simp
 ·rw [cz (by rw [k8];lia),cz (by simp;lia)]
theorem au8{f g:Int}(f0:0 <=f)(g0:0 <=g)(i:Nat):((f+(1+g)*(i:Int)) % 17).toNat=(f.toNat+(1+g.toNat)*i) % 17:=by
 obtain⟨f',rfl⟩:=i8 f0
 obtain⟨g',rfl⟩:=i8 g0
 rw [show (f':Int)+(1+(g':Int))*(i:Int)=((f'+(1+g')*i:Nat):Int) by push_cast;rfl]
 rfl
theorem a31{f g:Int}(f0:0 <=f)(f1:f < 17)(g0:0 <=g)(g1:g < 16)(hk:k <=7):((aZ k).map fun i:Nat=> ac8.getD ((f+(1+g)*(i:Int)) % 17).toNat "a").Nodup:=by
 have nd:=a25 f.toNat (by lia) g.toNat (by lia)
 have lt: ∀i:Nat,(f.toNat+(1+g.toNat)*i) % 17 < 17:=fun i=> gT _ (by decide)
 unfold kT at nd⊢
 rw [dW]at nd⊢
 refine (nd.sublist (List.range_sublist.mpr hk)).imp fun {a b} h=> ?_
 rw [au8 f0 g0,au8 f0 g0]
 exact avx _ (lt a) _ (lt b) h
theorem avg(h:Fd s n c)(hk:k <=7)(hc:c+2 < 2^40):DW (aa6 [.ref n,.int (k:Int)] s) fun d s'=> ∃ps:List Str,d=.lst (ps.map ag)/\ps.length=k/\(∀x∈ps,jz x=true)/\ps.Nodup/\Fd s' n (c+2)/\j4 n s s':=by
 refine⟨?_⟩
 rw [ao4];unfold B_law_names
 walk_at "go"
 rw [ad4 (by decide)]
 walk_at "go"
 generalize hL:D.lst ([ag "a",ag "ab",ag "abc",ag "net",ag "end",ag "within",ag "to",ag "table",ag "step",ag "box",ag "port",ag "next",ag "b",ag "zzzzzzzz",ag "both",ag "place",ag "ba"])=L
 have hL:L=.lst (ac8.map ag):=hL.symm
 subst hL
 refine R.W_mono (ke h (by decide) (by decide) (by lia)) ?_
 rintro _ s1 ⟨f,rfl,f0,f1,fd1,sm1⟩
 walk_at "go"
 refine R.W_mono (ke fd1 (by decide) (by decide) (by lia)) fun dd s2 q=> ?_
 obtain⟨g,e,g0,g1,fd2,sm2⟩:=q
 rw [e];clear e
 walk_at "go"
 rw [aa7 (by lia) (by lia),show ((k:Int)).toNat=k from cy _]
 walk_at "go"
 rw [ko (ρ0:=[none,some (.lst (ac8.map ag)),some (.int f),some (.int (1+g))]) (by rw [k8];lia) rfl]
 rw [at2]
 have idx: ∀i:Nat,∃q:Nat,(f+(1+g)*(i:Int)) % 17=(q:Int)/\q < 17:=fun i=> by
  have h0:=gU (f+(1+g)*(i:Int)) (show (17:Int)≠0 by decide)
  have h1:=fV (f+(1+g)*(i:Int)) (show (0:Int) < 17 by decide)
  exact⟨((f+(1+g)*(i:Int)) % 17).toNat,by lia,by lia⟩
 rw [vj (fun i:Nat=> D.int (i:Int)) (fun _=> true) (fun i=>.str (ac8.getD ((f+(1+g)*(i:Int)) % 17).toNat "a")) (aZ k) fun i hi=> ⟨[some (.int (i:Int)),some (.lst (ac8.map ag)),some (.int f),some (.int (1+g))],rfl,rfl,fun _=> by
  walk_at "ev"
  rw [aah (.inl (by lia))]
  walk_at "ev"
  rw [yw (by decide)]
  walk_at "ev"
  obtain⟨q,hq,hq2⟩:=idx i
  rw [hq,cy]
  have hl:q < ac8.length:=hq2
  rw [zz (p:=.str (ac8.getD q "a")) (by rw [a9,av hl,bK,av hl];rfl)]⟩]
 rw [show (aZ k).filter (fun _=> true)=aZ k by simp]
 walk_at "go"
 refine⟨(aZ k).map fun i:Nat=> ac8.getD ((f+(1+g)*(i:Int)) % 17).toNat "a",by rw [aU];rfl,by simp,fun x hx=> ?_,?_,fd2,sm1.trans sm2⟩
 ·obtain⟨i,_,rfl⟩:=aR.mp hx
  obtain⟨q,hq,hq2⟩:=idx i
  rw [hq,cy]
  have hl:q < ac8.length:=hq2
  rw [bK,av hl]
  exact azs _ (bR hl)
 ·exact a31 f0 f1 g0 g1 hk
theorem aib: ∀xs:List Int,(xs.Pairwise fun a b=> a < b) -> jx (xs.map aI)=true
 |[],_=> rfl
 |[_],_=> rfl
 | x::y::r,h=> by
  have ih:=aib (y::r) (bZ.mp h).2
  have hx:=(bZ.mp h).1 y ax
  show (ltb (.int x) (.int y)&&_)=true
  have:ltb (.int x) (.int y)=true:=by
   rw [aap,acn,decide_eq_true hx]
  rw [this];exact ih
structure ToJ (s:S) (n c T:Nat) (r acc:List D) (s':S):Prop where
 ex: ∃(l:List Int) (k c':Nat),acc=l.map (fun i=> D.int i)/\r=v8 k (T - k)/\k <=T/\l.length <=k/\(∀x∈l,0 <=x/\x < (k:Int))/\(l.Pairwise fun a b=> a < b)/\Fd s' n c'/\c'+(T - k) <=c+T/\j4 n s s'
theorem a01{T:Nat}(h:Fd s n c)(h0:0 < T)(hT:T <=3)(hc:c+4 < 2^40):DW (zp [.ref n,.int (T:Int)] s) fun d s'=> ∃l:List Int,d=.tup (l.map aI)/\0 < l.length/\l.length <=3/\(∀x∈l,0 <=x/\x < (T:Int))/\(l.Pairwise fun a b=> a < b)/\Fd s' n (c+4)/\j4 n s s':=by
 refine⟨?_⟩
 rw [aqm];unfold B_law_told
 walk_at "go"
 rw [aa7 (by lia) (by lia),show ((T:Int)).toNat=T from cy _]
 walk_at "go"
 rw [ko (ρ0:=[none,some (.ref n)]) (by rw [k8];lia) rfl,R.W_bindk]
 refine R.W_mono (aab (Q:=fun xs s'=> ∃(l:List Int),xs=l.map (fun i=> D.int i)/\l.length <=T/\(∀x∈l,0 <=x/\x < (T:Int))/\(l.Pairwise fun a b=> a < b)/\Fd s' n (c+T)/\j4 n s s') (ToJ s n c T) ?_ ?_ _ [] s ⟨[],0,c,rfl,rfl,bX _,aD _,(fun x hx=> by cases hx),.nil,h,by lia,j4.refl _ _⟩) ?_
 ·rintro d r acc s' ⟨l,k,c',ha,hr,hk,hl,hx,pw,fd,hcc,sm⟩
  by_cases hkT:k < T
  ·rw [ai5 (show k < T by assumption),v8,dJ]at hr
   obtain⟨rfl,rfl⟩:=hr
   refine⟨[some (.int (k:Int)),some (.ref n)],rfl,?_⟩
   walk_at "go"
   refine R.W_mono (ke fd (by decide) (by decide) (by lia)) ?_
   rintro _ s1 ⟨i,rfl,i0,i1,fd1,sm1⟩
   walk_at "go"
   rw [yi]
   by_cases e:i=0
   ·rw [decide_eq_true e]
    walk_at "go"
    refine⟨l++ [(k:Int)],k+1,c'+1,by rw [ha];simp,by rw [gD],hkT,by simp;lia,fun x hx'=> ?_,?_,fd1,by lia,sm.trans sm1⟩
    ·rcases aL.mp hx' with z|z
     ·have:=hx x z;lia
     ·rw [aO.mp z];lia
    ·rw [kS]
     refine⟨pw,eE _ _,fun a ha b hb=> ?_⟩
     rw [aO.mp hb]
     exact (hx a ha).2
   ·rw [decide_eq_false e]
    walk_at "go"
    exact⟨l,k+1,c'+1,ha,by rw [gD],hkT,by lia,(fun x hz=> by have:=hx x hz;lia),pw,fd1,by lia,sm.trans sm1⟩
  ·rw [show T - k=0 by lia]at hr
   cases hr
 ·rintro acc s' ⟨l,k,c',ha,hr,hk,hl,hx,pw,fd,hcc,sm⟩
  exact⟨l,ha,by lia,(fun x hz=> by have:=hx x hz;lia),pw,fd.le (by lia),sm⟩
 ·rintro xs s1 ⟨l,e,hl,hx,pw,fd,sm⟩
  rw [cN]at e
  subst e
  walk_at "go"
  rw [show l.map (fun i=> D.int i)=(l.map aI).map D.da by rw [aU];rfl]
  walk_at "go"
  rw [aiv (am1 l)]
  cases l with
  |nil=>
   walk_at "go"
   rw [show (!(([]:List Int).map aI).isEmpty)=false from rfl]
   walk_at "go"
   refine R.W_mono (ke fd (by lia) (by lia) (by lia)) ?_
   rintro _ s2 ⟨i,rfl,i0,i1,fd2,sm2⟩
   walk_at "go"
   exact⟨[i],rfl,by simp,by simp,fun x hx=> by rw [aO.mp hx];lia,eE _ _,fd2.le (by lia),sm.trans sm2⟩
  |cons y ys=>
   rw [show (!((y::ys).map aI).isEmpty)=true from rfl]
   walk_at "go"
   exact⟨y::ys,rfl,by simp,by lia,hx,pw,fd.le (by lia),sm⟩
theorem a76{m:Bool}{p:Wk}(h:p.1.length <=16777216)(so:ky p s)(e:bH k none++adu ρ js=ρ0):kLc m js k g ft fe ρ p s=(kl g ft fe ρ0 p p.1 s).bind (ala m):=by
 subst e
 unfold kLc
 rw [if_pos (by rw [ki];exact h),vg so];rfl
theorem ajy{g:Tg}{fe:FE}{ρ0:En}{p:Wk}{s:S}(so:ky p s)(f:aa -> aa): ∀(l:List aa),(∀a∈l,∃ρ1,qu g (.da a) ρ0=some ρ1/\fe ρ1 s=.ok (.da (f a)) s) -> kl g kx fe ρ0 p (l.map D.da) s=.ok ((l.map f).map D.da) s
 |[],_=> rfl
 |a::r,h=> by
  obtain⟨ρ1,e1,e2⟩:=h a ax
  have ih:=ajy (p:=p) so f r fun y hy=> h y (az _ hy)
  rw [aN,adb e1,aqw,R.bind_ok',aie,e2,R.bind_ok']
  show chk p s _=_
  rw [vg so,ih];rfl
def wordAt(a:Nat)(c:Nat):Str:=aa2 "abc" none (some (a:Int))++⟨#[c]⟩++aa2 "abc" (some ((a:Int)+1)) none
theorem ayz: ∀a:Nat,a < 3 -> ∀c∈(bQ "abcdefghijklmnopqrstuvwxyz").cps.toList,jz (wordAt a c)=true:=by decide+kernel
theorem a41(h:Fd s k c)(hc:c+1 < 2^40):(vx [.ref k,.str "abc"] s).W fun d s'=> ∃ws:List Str,d=.lst (ws.map ag)/\ws.length <=26/\(∀x∈ws,jz x=true)/\Fd s' k (c+1):=by
 rw [agq]
 show ((B_law_all_letters [some (.ref k),some (.str "abc"),none] s).bind jt).W _
 unfold B_law_all_letters
 walk_at "go"
 rw [len_str (by decide+kernel),show ((bQ "abc").length:Int)=3 from rfl]
 walk_at "go"
 refine R.W_mono (ke h (by decide) (by decide) (by lia)) ?_
 rintro _ s1 ⟨a',rfl,a0,a1,fd1,sm1⟩
 obtain⟨a,rfl⟩:=za a' (by assumption)
 walk_at "go"
 rw [aq8]
 walk_at "go"
 rw [ajb (by decide+kernel)]
 walk_at "go"
 have l26:(bQ "abcdefghijklmnopqrstuvwxyz").cps.toList.length=26:=by decide+kernel
 rw [afy,ko (ρ0:=[none,some (.str "abc"),some (.int (a:Int))]) (by rw [au,l26];decide) rfl]
 rw [vj (fun c:Nat=> D.str ⟨#[c]⟩) (fun _=> true) (fun c=> ag (wordAt a c)) (bQ "abcdefghijklmnopqrstuvwxyz").cps.toList (fun c hc=> ⟨[some (.str ⟨#[c]⟩),some (.str "abc"),some (.int (a:Int))],rfl,rfl,fun _=> by
  have l1:=(zx (bQ "abc") none (some (a:Int))).1
  have l2:=(zx (bQ "abc") (some ((a:Int)+1)) none).1
  have l0:(bQ "abc").length=3:=rfl
  have l3:(⟨#[c]⟩:Str).length=1:=rfl
  walk_at "ev"
  rw [aau (by lia)]
  walk_at "ev"
  rw [aag (by lia)]
  walk_at "ev"
  rw [aau (by lia)]
  walk_at "ev"
  rw [aag (by rw [aan];lia)]
  rfl⟩),bh.mpr (fun _ _=> rfl)]
 walk_at "go"
 refine⟨(bQ "abcdefghijklmnopqrstuvwxyz").cps.toList.map (wordAt a),by rw [aU];rfl,by rw [au,l26];decide,fun x hx=> ?_,fd1⟩
 obtain⟨c,hc,rfl⟩:=aR.mp hx
 exact ayz a (by lia) c hc
noncomputable def aax(x:Str):aa:=.tuple [.int 1,.tuple [.str x],.int 0,.tuple [.int 0,.tuple []],.tuple []]
theorem abl(h:jz x=true):Lf 0 (.str x):=by
 unfold jz at h
 simp only [am,decide_eq_true_eq,ao,ack]at h
 refine .str ?_ (by lia)
 unfold asc
 rw [ao]
 intro c hc
 have:=h.2 c hc
 (simp only [am,decide_eq_true_eq])
 lia
theorem am5(n:Nat):Lf n (.tuple []):=.tup (by simp) (fun y hy=> by cases hy)
theorem a37(h:jz x=true):Lf 0 (aax x)/\kh (aax x)=true/\Sz 2 100 (aax x):=by
 refine⟨.tup (by simp) fun y hy=> ?_,?_,Sz.of (by simp [aax,strN,jg])⟩
 ·simp only [ay,aX,or_false]at hy
  rcases hy with rfl|rfl|rfl|rfl|rfl
  ·exact .int (by decide)
  ·exact .tup (by simp) fun y hy=> by rw [aO.mp hy];exact abl h
  ·exact .int (by decide)
  ·exact .tup (by simp) (aca (.int (by decide)) (am5 0))
  ·exact am5 0
 ·show (vt (.int 1)&&(kd (.tuple [.str x])&&(jm 0 (.int 0)&&(yz 1 0 (.tuple [.int 0,.tuple []])&&(([]:List aa).all (k9 1 0 (yu [.str x]))&&decide ((ud []).length=([]:List aa).length))))))=true
  rw [show kd (.tuple [.str x])=true by
   show ([ag x].all kj&&jx [ag x])=true
   rw [show [ag x].all kj=jz x by simp [kj],h];rfl]
  rfl
def arx:FS:=(je (j5 5 (fLc true [] 1 (fIt (jd 2 vx (ja (jb 1) (ja (fC (.da (.str "abc"))) jc)))) (.nm 0) kx (j2 (ja (fC (.da (.int 1))) (ja (j2 (ja (jb 0) jc)) (ja (fC (.da (.int 0))) (ja (j2 (ja (fC (.da (.int 0))) (ja (j2 jc) jc))) (ja (j2 jc) jc))))))))
  (jj (fOp yj (fC (.da (.bool false))) (fLc false [] 1 (fIt (jb 5)) (.nm 0) kx (fOp alo (jd 1 qx (ja (jb 0) jc)) (fC (.da (.bool true))))))))
theorem a74{A v2 v3 v4 v5 v6 v7:Option D}(h:Fd s k c)(hc:c+1 < 2^40):(arx [A,some (.ref k),v2,v3,v4,v5,v6,v7] s).W fun fl s'=> fl=.rt (.bl true):=by
 unfold arx
 walk_at "go"
 refine R.W_mono (a41 h hc) ?_
 rintro _ s1 ⟨ws,rfl,hl,hw,fd1⟩
 walk_at "go"
 rw [ko (ρ0:=[none]) (by rw [au,au];lia) rfl]
 rw [aU,vj (D.da∘ag) (fun _=> true) aax ws (fun x hx=> ⟨[some (.da (.str x))],rfl,rfl,fun _=> by
  walk_at "ev"
  rfl⟩),bh.mpr (fun _ _=> rfl)]
 walk_at "go"
 generalize hS:s1++ [O.lst ((ws.map aax).map D.da)]=s2
 have e2:s2[s1.length]?=some (.lst ((ws.map aax).map D.da)):=by rw [←hS];simp
 rw [show aeq (.ref s1.length) s2=.ok ((ws.map aax).map D.da,some s1.length) s2 by
  show (match s2[s1.length]? with|some (O.lst ds)=> R.ok (ds,some s1.length) s2|_=>.bad)=_
  rw [e2]]
 walk_at "go"
 rw [a76 (ρ0:=[none]) (p:=((ws.map aax).map D.da,some s1.length)) (by simp;lia) e2 rfl]
 rw [ajy (p:=((ws.map aax).map D.da,some s1.length)) e2 (fun _=> aV true) (ws.map aax) (fun a ha=> ⟨[some (.da a)],rfl,by
  obtain⟨x,hx,rfl⟩:=aR.mp ha
  obtain⟨o1,o2,o3⟩:=a37 (hw x hx)
  walk_at "ev"
  rw [afs (n:=0) o1 (by decide) o3,o2]
  walk_at "ev"
  rw [a0o]
  rfl⟩)]
 walk_at "go"
 rw [show (ws.map aax).map (fun _=> aV true)=((ws.map aax).map fun _=> true).map aV by rw [aU (f:=fun _=> true)];rfl,adp]
 walk_at "go"
 rw [show ((ws.map aax).map fun _=> true).all id=true by rw [cB,ao];intro x _;rfl]
def a4r:FS:=(xk (fMt k7 (jb 5) (ja (jd 2 (jw 14) (ja (jb 1) (ja (jb 4) jc))) jc)))
def lRB:FS:=(jp (jq (j3 (jd 1 xc (ja (jb 7) jc)))) (jj (fC (.da (.bool false)))) jl)
def aw3:FS:=(je (ab0 (aac (ja (fC (.da (.int 10))) jc)) (.nm 6) (xk (fMt k7 (jb 5) (ja (jd 2 (jw 14) (ja (jb 1) (ja (jb 4) jc))) jc))))
  (je (xk (fMt k7 (jb 5) (ja (jd 2 (jw 14) (ja (jb 1) (ja (fOp gIx (jb 5) (afw (fC (.da (.int 1))))) jc))) jc)))
  (ab0 (fIt (jb 5)) (.nm 7) (jp (jq (j3 (jd 1 xc (ja (jb 7) jc)))) (jj (fC (.da (.bool false)))) jl))))
structure It0 (x:aa):Prop where
 lf:Lf 0 x
 bk:x.bulk <=3000
 dp:x.depth <=8
 sz:Sz 2 16 x
structure Md (x:aa):Prop where
 lf:Lf 1 x
 bk:x.bulk <=12000
 dp:x.depth <=10
 sz:Sz 2 40 x
structure Gd (x:aa):Prop where
 lf:Lf 2 x
 bk:x.bulk <=30000
 dp:x.depth <=12
 sz:Sz 2 100 x
theorem It0.md{x:aa}(h:It0 x):Md x:=⟨h.lf.mono (by decide),by have:=h.bk;lia,by have:=h.dp;lia,h.sz.mono (by decide)⟩
theorem Md.gd{x:aa}(h:Md x):Gd x:=⟨h.lf.mono (by decide),by have:=h.bk;lia,by have:=h.dp;lia,h.sz.mono (by decide)⟩
theorem Gd.right{x:aa}(h:Gd x):xc [.da x] s=.ok (.bl true) s:=avd (by decide) h.lf (by have:=h.bk;lia) (by have:=h.dp;lia) h.sz
theorem avp{a:Nat}{xs:List D}{x:D}(h:s[a]?=some (.lst (xs++ [x]))):gIx (.ref a) (.int (-1)) s=.ok x s:=by
 show (match (match s[a]? with|some (O.lst ds)=> some ds|_=> none) with|some ds=> (match atI ds (-1) with|some d=> R.ok d s|none=>.bad)|none=>.bad)=_
 rw [h]
 show (match atI (xs++ [x]) (-1) with|some d=> R.ok d s|none=>.bad)=_
 have:atI (xs++ [x]) (-1)=some x:=by
  unfold atI ixN
  rw [if_neg (by decide),if_pos (by simp;lia)]
  show (xs++ [x])[((-1:Int)+((xs++ [x]).length:Nat)).toNat]?=_
  rw [show ((-1:Int)+((xs++ [x]).length:Nat)).toNat=xs.length by simp;lia]
  simp
 rw [this]
structure BnJ (k a c:Nat) (T:aa) (A C D3:Option D) (r:List D) (ρ:En) (s:S):Prop where
 ex: ∃(xs:List aa) (z:aa) (c':Nat) (u6 u7:Option D),ρ=[A,some (.ref k),C,D3,some (.da T),some (.ref a),u6,u7]/\s[a]?=some (.lst (xs.map D.da++ [D.da z]))/\(∀x∈xs,Gd x)/\Md z/\xs.length+r.length <=40/\Fd s k c'/\c'+224*r.length <=c/\a≠k
theorem a0w{a:Nat}{T:aa}{A C D3:Option D}{d:D}{r:List D}(hT:It0 T)(hc:c < 2^39)(J:BnJ k a c T A C D3 (d::r) ρ s):
  ∃ρ1,qu (.nm 6) d ρ=some ρ1/\(a4r ρ1 s).W fun fl s'=> ∃ρ2,fl=.nx ρ2/\BnJ k a c T A C D3 r ρ2 s':=by
 obtain⟨xs,z,c',u6,u7,rfl,ha,hx,hz,hl,fd,hcc,hak⟩:=J.ex
 simp only [aP]at hl hcc
 refine⟨[A,some (.ref k),C,D3,some (.da T),some (.ref a),some d,u7],rfl,?_⟩
 unfold a4r
 walk_at "go"
 rw [ahy ha]
 walk_at "go"
 refine R.W_mono (aiz 14 (B:=3000) fd hT.lf hT.bk (by have:=hT.dp;lia) (by decide) (by decide) (by lia)) ?_
 rintro _ s1 ⟨d',rfl,⟨sz,lf,bk,dp⟩,fd1,sm1⟩
 have la:=(aC.mp ha).1
 have ha1:s1[a]?=some (.lst (xs.map D.da++ [D.da z])):=by rw [sm1.get _ hak la];exact ha
 walk_at "go"
 rw [abu (d:=.da d') ha1 (by simp;lia)]
 walk_at "go"
 refine⟨_,rfl,xs++ [z],d',c'+224,_,_,rfl,?_,?_,⟨lf,by lia,by have:=hT.dp;lia,(sz 2 16 hT.sz).mono (by decide)⟩,by simp;lia,fd1.set hak,by lia,hak⟩
 ·rw [bI (aW la sm1.len)];simp
 ·intro x hm
  rcases aL.mp hm with q|q
  ·exact hx x q
  ·rw [aO.mp q];exact hz.gd
theorem a0s{a0 a1 a2 a3 a4 a5 a6:Option D}{x:aa}(h:Gd x):lRB [a0,a1,a2,a3,a4,a5,a6,some (.da x)] s=.ok (.nx [a0,a1,a2,a3,a4,a5,a6,some (.da x)]) s:=by
 unfold lRB
 walk_at "ev"
 rw [h.right]
 walk_at "ev"
theorem aok{a0 a1 a2 a3 a4 a5 a6:Option D}{p:Wk}{s:S}(src:ky p s): ∀(xs:List aa) (u:Option D),(∀x∈xs,Gd x) -> ∃v,qf (.nm 7) lRB p (xs.map D.da) [a0,a1,a2,a3,a4,a5,a6,u] s=.ok (.nx [a0,a1,a2,a3,a4,a5,a6,v]) s
 |[],u,_=> ⟨u,rfl⟩
 |x::r,u,h=> by
  obtain⟨v,e⟩:=aok (a0:=a0) (a1:=a1) (a2:=a2) (a3:=a3) (a4:=a4) (a5:=a5) (a6:=a6) src r (some (.da x)) fun y hy=> h y (az _ hy)
  refine⟨v,?_⟩
  rw [aN,aby (ρ1:=[a0,a1,a2,a3,a4,a5,a6,some (.da x)]) rfl,a0s (h x ax),R.bind_ok']
  rw [show∀(ρ:En),acg (.nm 7) lRB p (r.map D.da) (.nx ρ) s=qf (.nm 7) lRB p (r.map D.da) ρ s from fun ρ=> vg src]
  exact e
structure LwQ (A:Option D) (k c:Nat) (fl:Fl) (s:S):Prop where
 ex: ∃v2 v3 v4 v5 v6 v7:Option D,fl=.nx [A,some (.ref k),v2,v3,v4,v5,v6,v7]/\Fd s k c
theorem a7g{A u2 u3 u6 u7:Option D}{a:Nat}{T z0:aa}{L:List aa}(fd:Fd s k c)(hc:c < 2^38)(hak:a≠k)(ha:s[a]?=some (.lst (L.map D.da++ [D.da z0])))(hL: ∀x∈L,Md x)(h0:Md z0)(hl:L.length <=12)(hT:It0 T):
  (aw3 [A,some (.ref k),u2,u3,some (.da T),some (.ref a),u6,u7] s).W (LwQ A k (c+2700)):=by
 unfold aw3
 walk_at "go"
 rw [aa7 (by decide) (by decide)]
 walk_at "go"
 refine R.W_mono (aae (Q:=fun fl s'=> ∃ρ,fl=.nx ρ/\BnJ k a (c+2240) T A u2 u3 [] ρ s') (BnJ k a (c+2240) T A u2 u3) ?_ ?_ _ _ _ ⟨L,z0,c,u6,u7,rfl,ha,fun x hx=> (hL x hx).gd,h0,by rw [k8];show L.length+10 <=40;lia,fd,by rw [k8];show c+224*10 <=_;lia,hak⟩) ?_
 ·intro d r ρ s' J
  obtain⟨ρ1,e,w⟩:=a0w hT (by lia) J
  refine⟨ρ1,e,R.W_mono w ?_⟩
  rintro _ s4 ⟨ρ2,rfl,J2⟩
  exact J2
 ·intro ρ s' J
  exact⟨ρ,rfl,J⟩
 ·rintro _ s4 ⟨ρ,rfl,xs,z,c',u6,u7,rfl,ha4,hx,hz,hlen,fd4,hcc,_⟩
  simp only [dP]at hlen hcc
  walk_at "go"
  rw [ahy ha4]
  walk_at "go"
  rw [avp ha4]
  walk_at "go"
  refine R.W_mono (aiz 14 (B:=12000) fd4 hz.lf hz.bk (by have:=hz.dp;lia) (by decide) (by decide) (by lia)) ?_
  rintro _ s5 ⟨d',rfl,⟨sz,lf,bk,dp⟩,fd5,sm5⟩
  have la4:=(aC.mp ha4).1
  have ha5:s5[a]?=some (.lst (xs.map D.da++ [D.da z])):=by rw [sm5.get _ hak la4];exact ha4
  walk_at "go"
  rw [abu (d:=.da d') ha5 (by simp;lia)]
  walk_at "go"
  have hd:Gd d':=⟨lf,by lia,by have:=hz.dp;lia,(sz 2 40 hz.sz).mono (by decide)⟩
  generalize hS:s5.set a (O.lst (xs.map D.da++ [D.da z,D.da d']))=s6
  have e6:s6[a]?=some (.lst ((xs++ [z,d']).map D.da)):=by
   rw [←hS,bI (aW la4 sm5.len)];simp
  have fd6:Fd s6 k (c+2700):=by rw [←hS];exact (fd5.set hak).le (by lia)
  rw [show aeq (.ref a) s6=.ok ((xs++ [z,d']).map D.da,some a) s6 by
   show (match s6[a]? with|some (O.lst ds)=> R.ok (ds,some a) s6|_=>.bad)=_
   rw [e6]]
  walk_at "go"
  obtain⟨v,e⟩:=aok (a0:=A) (a1:=some (.ref k)) (a2:=u2) (a3:=u3) (a4:=some (.da T)) (a5:=some (.ref a)) (a6:=u6) (p:=((xs++ [z,d']).map D.da,some a)) (s:=s6) e6 (xs++ [z,d']) u7 (by
   intro x hm
   rcases aL.mp hm with q|q
   ·exact hx x q
   ·simp only [ay,aX,or_false]at q
    rcases q with rfl|rfl
    ·exact hz.gd
    ·exact hd)
  rw [show kFor (.nm 7) (jp (jq (j3 (jd 1 xc (ja (jb 7) jc)))) (jj (fC (.da (.bool false)))) jl) [A,some (.ref k),u2,u3,some (.da T),some (.ref a),u6,u7] ((xs++ [z,d']).map D.da,some a) s6=_ from (vg (p:=((xs++ [z,d']).map D.da,some a)) e6).trans e]
  exact⟨_,_,_,_,_,_,rfl,fd6⟩
structure I1 (B:Nat) (x:aa):Prop where
 lf:Lf 1 x
 bk:x.bulk <=B
 dp:x.depth <=9
 sz:Sz 1 40 x
theorem md5{b c e:aa}{A C D E:Nat}(ha:I1 A a)(hb:I1 B b)(hc:I1 C c)(hd:I1 D d)(he:I1 E e)(h:A+B+C+D+E <=11990):Md (.tuple [a,b,c,d,e]):=by
 have a1:=ha.bk;have b1:=hb.bk;have c1:=hc.bk;have d1:=hd.bk;have e1:=he.bk
 have a2:=ha.dp;have b2:=hb.dp;have c2:=hc.dp;have d2:=hd.dp;have e2:=he.dp
 refine⟨.tup (by simp) fun x hx=> ?_,by simp only [bc,aB];lia,by
  have:ar [a,b,c,d,e] <=9:=vc fun x hx=> by
   (simp only [ay,aX,or_false]at hx)
   rcases hx with rfl|rfl|rfl|rfl|rfl <;> assumption
  simp only [aA];exact i6 this,fun x hx=> ?_⟩
 ·simp only [ay,aX,or_false]at hx
  rcases hx with rfl|rfl|rfl|rfl|rfl
  ·exact ha.lf
  ·exact hb.lf
  ·exact hc.lf
  ·exact hd.lf
  ·exact he.lf
 ·have hx:x∈ [a,b,c,d,e]:=hx
  (simp only [ay,aX,or_false]at hx)
  rcases hx with rfl|rfl|rfl|rfl|rfl
  ·exact ha.sz
  ·exact hb.sz
  ·exact hc.sz
  ·exact hd.sz
  ·exact he.sz
theorem amf{es:List aa}(hl:es.length <=13)(h: ∀x∈es,Lf 1 x/\strN x <=40)(hd:ar es <=8)(hb:aB es <=B):I1 B (.tuple es):=
 ⟨.tup hl fun x hx=> (h x hx).1,by simpa only [bc] using hb,by simp only [aA];lia,fun x hx=> (h x hx).2⟩
theorem a2f{i:Int}(h:i.natAbs <=1000000000000000000000000000000+2):I1 0 (.int i):=⟨.int (by lia),by simp [bc],by simp [aA],fun x hx=> by cases hx⟩
structure Pt (x:aa):Prop where
 lf:Lf 0 x
 dp:x.depth <=7
 sz:Sz 1 16 x
theorem Pt.i1{x:aa}(h:Pt x):I1 x.bulk x:=⟨h.lf.mono (by decide),aD _,by have:=h.dp;lia,h.sz.mono (by decide)⟩
theorem Pt.kid{es:List aa}(h:Pt (.tuple es)):es.length <=12/\(∀x∈es,Lf 1 x/\strN x <=40)/\ar es <=6:=by
 obtain⟨a,b⟩:=qo h.lf
 refine⟨a,fun x hx=> ⟨(b x hx).mono (by decide),aJ (h.sz x hx) (by decide)⟩,?_⟩
 have:=h.dp
 simp only [aA]at this
 lia
theorem It0.pts{b c e:aa}(h:It0 (.tuple [a,b,c,d,e])):(Pt a/\Pt b/\Pt c/\Pt d/\Pt e)/\a.bulk+b.bulk+c.bulk+d.bulk+e.bulk <=2995:=by
 obtain⟨_,hx⟩:=qo h.lf
 have hd:=h.dp
 have hb:=h.bk
 simp only [aA]at hd
 have hd: ∀x∈ [a,b,c,d,e],x.depth <=7:=fun x hx=> aJ (kq hx) (Nat.le_of_succ_le_succ (by lia))
 simp only [bc,aB]at hb
 have sz: ∀x∈ [a,b,c,d,e],Sz 1 16 x:=h.sz
 refine⟨⟨⟨hx a (by simp),hd a (by simp),sz a (by simp)⟩,⟨hx b (by simp),hd b (by simp),sz b (by simp)⟩,⟨hx c (by simp),hd c (by simp),sz c (by simp)⟩,⟨hx d (by simp),hd d (by simp),sz d (by simp)⟩,⟨hx e (by simp),hd e (by simp),sz e (by simp)⟩⟩,by clear hd;lia⟩
theorem Pt.rev{es:List aa}(h:Pt (.tuple es)):I1 (aK es).bulk (.tuple es.reverse):=by
 obtain⟨a,b,c⟩:=h.kid
 exact amf (by simp;lia) (fun x hx=> b x (gC.mp hx)) (by rw [ate];lia) (by rw [aml];simp only [bc];lia)
theorem Pt.more{es:List aa}(h:Pt (.tuple es)):I1 (2*(aK es).bulk) (.tuple (es++es.take 1)):=by
 obtain⟨a,b,c⟩:=h.kid
 have t:=aaw es 1
 have d:=(aet es 1).1
 exact amf (by simp;lia) (fun x hx=> (aL.mp hx).elim (b x) fun z=> b x (cF z)) (by rw [afg];lia) (by rw [xf];simp only [bc];lia)
theorem Pt.add{es:List aa}{x:aa}(h:Pt (.tuple es))(hx:Lf 1 x)(hs:strN x <=40)(hd:x.depth <=8)(hb:x.bulk <=2*(aK es).bulk+20):I1 (3*(aK es).bulk+21) (.tuple (es++ [x])):=by
 obtain⟨a,b,c⟩:=h.kid
 simp only [bc]at hb⊢
 refine amf (by simp;lia) (fun y hy=> ?_) (by rw [afg];simp only [ar];lia) (by rw [xf];simp only [aB];lia)
 rcases aL.mp hy with z|z
 ·exact b y z
 ·rw [aO.mp z];exact⟨hx,hs⟩
theorem aqh(h:k9 m b ps d=true): ∃(i j:Int) (pa ties:List aa),d=.tuple [.int i,.tuple pa,.tuple ties,.int j]:=by
 match d,h with
 |.tuple [bg,pa,.tuple ties,en],h=>
  have h:(jm 0 bg&&(jm 0 en&&(kd pa&&((qv pa).all (fun x=> inD x ps)&&(ties.all (xi m b)&&act (qv pa) ties)))))=true:=h
  (simp only [am]at h)
  obtain⟨h1,h2,h3,_⟩:=h
  obtain⟨_,i,rfl,_⟩:=zi h1
  obtain⟨_,j,rfl,_⟩:=zi h2
  obtain⟨_,ss,rfl,_⟩:=zh h3
  exact⟨i,j,_,_,rfl⟩
theorem ahv(h:kh d=true): ∃(T b:Int) (ps:List aa) (be:aa) (sts:List aa),d=.tuple [.int T,.tuple ps,.int b,be,.tuple sts]/\ ∀x∈sts,PlK 6 x/\ ∃(i j:Int) (pa ties:List aa),x=.tuple [.int i,.tuple pa,.tuple ties,.int j]:=by
 match d,h with
 |.tuple [th,po,bo,be,.tuple sts],h=>
  have h:(vt th&&(kd po&&(jm 0 bo&&(yz (xa th) (xa bo) be&&(sts.all (k9 (xa th) (xa bo) (yu (qv po)))&&decide ((ud sts).length=sts.length))))))=true:=h
  simp only [am,ao]at h
  obtain⟨h1,h2,h3,_,h5,_⟩:=h
  obtain⟨_,b,rfl,_⟩:=zi h3
  obtain⟨_,ss,rfl,_⟩:=zh h2
  cases th with
  |int T=> exact⟨T,b,_,be,sts,rfl,fun x hx=> ⟨(xp (h5 x hx)).1,aqh (h5 x hx)⟩⟩
  |_=> cases h1
theorem amo{x:aa}: ∀{ds:List aa},x∈ds -> x.bulk <=aB ds
 |[],h=> by cases h
 |d::r,h=> by
  simp only [aB]
  rcases ay.mp h with e|e
  ·subst e;lia
  ·have:=amo e;lia
theorem a51{es:List aa}{i j j':Int}{pa pa' ti':List aa}(h:Pt (.tuple es))(hx:aK [.int i,.tuple pa,.tuple ties,.int j]∈es)(h1:pa'.length <=13)(h2: ∀x∈pa',x∈pa)(h3:aB pa' <=aB pa)(h5:jg pa' <=jg pa)(k1:ti'.length <=ties.length+1)(k2: ∀x∈ti',x∈ties)(k3:aB ti' <=2*aB ties)(k5:jg ti' <=2*jg ties)(hj:j'=j\/j'=j+1):
  I1 (3*(aK es).bulk+21) (.tuple (es++ [.tuple [.int i,.tuple pa',.tuple ti',.int j']])):=by
 obtain⟨hl,hk⟩:=qo h.lf
 obtain⟨_,q⟩:=qo (hk _ hx)
 have hs:=h.sz _ hx
 have hs:strN (.tuple [.int i,.tuple pa,.tuple ties,.int j]) <=16:=hs
 simp only [strN,jg]at hs
 have li:=q (.int i) (by simp)
 have lj:=q (.int j) (by simp)
 obtain⟨_,lp⟩:=qo (q (.tuple pa) (by simp))
 obtain⟨lt,lq⟩:=qo (q (.tuple ties) (by simp))
 have dk:=h.kid.2.2
 have dx:(aK [.int i,.tuple pa,.tuple ties,.int j]).depth <=ar es:=kq hx
 have bx:(aK [.int i,.tuple pa,.tuple ties,.int j]).bulk <=aB es:=amo hx
 have d3:ar [.int i,.tuple pa,.tuple ties,.int j] <=6:=by simp only [aA]at dx;lia
 have d1:=aJ (kq (show aK pa∈ [.int i,.tuple pa,.tuple ties,.int j] by simp)) d3
 have d2:=aJ (kq (show aK ties∈ [.int i,.tuple pa,.tuple ties,.int j] by simp)) d3
 simp only [aA]at d1 d2
 clear dx d3
 have e1:ar pa' <=6:=aJ (vc fun x hx=> kq (h2 x hx)) (by lia)
 have e2:ar ti' <=6:=aJ (vc fun x hx=> kq (k2 x hx)) (by lia)
 simp only [bc,aB]at bx
 refine h.add (.tup (by simp) (aqr (li.mono (by decide)) (.tup (by lia) fun x hx=> (lp x (h2 x hx)).mono (by decide)) (.tup (by lia) fun x hx=> (lq x (k2 x hx)).mono (by decide)) ?_)) ?_ ?_ ?_
 ·cases lj with
  |int hj0=> exact .int (by rcases hj with rfl|rfl <;> lia)
 ·simp only [strN,jg];lia
 ·simp only [aA]
  exact i6 (vc (aqr (P:=fun x=> x.depth <=7) (by simp [aA]) (by simp only [aA];lia) (by simp only [aA];lia) (by simp [aA])))
 ·simp only [bc,aB];lia
theorem a2s{A B u0 u1 u2 u3 u4 v0 v1 v2 v3 w:Option D}{b c e:aa}:ag8 (.tn [2,3,4,5,6]) [A,B,u0,u1,u2,u3,u4,v0,v1,v2,v3,w] (.da (.tuple [a,b,c,d,e])) s=.ok (.nx [A,B,some (.da a),some (.da b),some (.da c),some (.da d),some (.da e),v0,v1,v2,v3,w]) s:=rfl
theorem a50{A B u0 u1 u2 u3 u4 v0 v1 v2 v3 w:Option D}{b c:aa}:ag8 (.tn [7,8,9,10]) [A,B,u0,u1,u2,u3,u4,v0,v1,v2,v3,w] (.da (.tuple [a,b,c,d])) s=.ok (.nx [A,B,u0,u1,u2,u3,u4,some (.da a),some (.da b),some (.da c),some (.da d),w]) s:=rfl
theorem ax7(xs:List aa):aE (.tuple xs) (.tuple [])=xs.isEmpty:=by cases xs <;> rfl
theorem ang(a b c d e:aa):qw [a,b,c,d,e] none (some 4)=[a,b,c,d]:=rfl
structure SpQ (s:S) (k c:Nat) (d:D) (s':S):Prop where
 ex: ∃x,d=.da x/\Md x/\Fd s' k c/\j4 k s s'
theorem asx{M:aa}(h:Fd s k c)(hM:kh M=true)(it:It0 M)(hc:c+2 < 2^40):(yh [.ref k,.da M] s).W (SpQ s k (c+2)):=by
 obtain⟨T,b,ps,be,sts,rfl,hst⟩:=ahv hM
 obtain⟨⟨pT,pP,pB,pE,pS⟩,hb⟩:=it.pts
 obtain⟨sl,sk⟩:=qo pS.lf
 obtain⟨pl,_⟩:=qo pP.lf
 have iT:=pT.i1;have iP:=pP.i1;have iB:=pB.i1;have iE:=pE.i1;have iS:=pS.i1
 have hB1:b.natAbs <=1000000000000000000000000000000:=by
  cases pB.lf with
  |int q=> lia
 rw [alr]
 show ((B_law_spoilt [some (.ref k),some (.da (.tuple [.int T,.tuple ps,.int b,be,.tuple sts])),none,none,none,none,none,none,none,none,none,none] s).bind jt).W _
 unfold B_law_spoilt
 walk_at "go"
 rw [a2s]
 walk_at "go"
 have okS:okD (.tuple sts)=true:=(PlK.tup fun x hx=> (hst x hx).1).okD (by decide)
 rw [ae5 okS rfl,ax7]
 cases sts with
 |nil=>
  rw [show ([]:List aa).isEmpty=true from rfl]
  walk_at "go"
  exact⟨_,rfl,md5 iT pP.rev iB iE iS (by lia),h.le (by lia),j4.refl _ _⟩
 | cons x0 r0=>
  rw [show (x0::r0).isEmpty=false from rfl]
  generalize hS:x0::r0=sts at*
  have hlen:0 < sts.length:=by rw [←hS];simp
  walk_at "go"
  refine R.W_mono (ke h (by lia) (by lia) (by lia)) ?_
  rintro _ s1 ⟨t,rfl,t0,t1,fd1,sm1⟩
  obtain⟨q,rfl⟩:=za t (by assumption)
  have hq:q < sts.length:=by lia
  have gq:sts[q]?=some sts[q]:=av hq
  obtain⟨i,j,pa,ties,e⟩:=(hst _ (bR hq)).2
  have hmem:aK [.int i,.tuple pa,.tuple ties,.int j]∈sts:=by rw [←e];exact bR hq
  rw [e]at gq
  walk_at "go"
  rw [abp gq]
  walk_at "go"
  rw [a50]
  walk_at "go"
  refine R.W_mono (ke fd1 (by decide) (by decide) (by lia)) ?_
  rintro _ s2 ⟨w,rfl,w0,w1,fd2,sm2⟩
  obtain⟨_,q4⟩:=qo (sk _ hmem)
  obtain⟨lp,_⟩:=qo (q4 (.tuple pa) (by simp))
  obtain⟨lt,_⟩:=qo (q4 (.tuple ties) (by simp))
  have done: ∀(pa' ti':List aa) (j':Int),pa'.length <=13 -> (∀x∈pa',x∈pa) -> aB pa' <=aB pa -> jg pa' <=jg pa -> ti'.length <=ties.length+1 -> (∀x∈ti',x∈ties) -> aB ti' <=2*aB ties -> jg ti' <=2*jg ties -> (j'=j\/j'=j+1) -> Md (.tuple [.int T,.tuple ps,.int b,be,.tuple (sts++ [.tuple [.int i,.tuple pa',.tuple ti',.int j']])]):=fun pa' ti' j' a1 a2 a3 a5 b1 b2 b3 b5 hj=> md5 iT iP iB iE (a51 pS hmem a1 a2 a3 a5 b1 b2 b3 b5 hj) (by lia)
  walk_at "go"
  rw [yi]
  by_cases c0:w=0
  ·rw [decide_eq_true c0]
   walk_at "go"
   rw [ang,kz (by simp;lia)]
   walk_at "go"
   rw [kz (by simp)]
   walk_at "go"
   exact⟨_,rfl,done pa ties j (by lia) (fun _ h=> h) (aD _) (aD _) (by lia) (fun _ h=> h) (by lia) (by lia) (.inl rfl),fd2,sm1.trans sm2⟩
  ·rw [decide_eq_false c0]
   walk_at "go"
   rw [yi]
   have t1:=aaw ties 1
   have t2:=ab8 ties 1
   have t3:=aet ties 1
   have t4:=zr ties 1
   have p2:=ab8 pa 1
   have p3:=aet pa 1
   have p4:=zr pa 1
   by_cases c1:w=1
   ·rw [decide_eq_true c1]
    walk_at "go"
    rw [ang,show qw ties none (some 1)=ties.take 1 from acu ties 1,kz (by simp;lia)]
    walk_at "go"
    rw [kz (by simp;lia)]
    walk_at "go"
    rw [kz (by simp)]
    walk_at "go"
    exact⟨_,rfl,done pa (ties++ties.take 1) (j+1) (by lia) (fun _ h=> h) (aD _) (aD _) (by simp;lia) (fun x h=> (aL.mp h).elim id cF) (by rw [xf];lia) (by rw [qq];lia) (.inr rfl),fd2,sm1.trans sm2⟩
   ·rw [decide_eq_false c1]
    walk_at "go"
    rw [yi]
    by_cases c2:w=2
    ·rw [decide_eq_true c2]
     walk_at "go"
     rw [ang,show qw ties (some 1) none=ties.drop 1 from zg ties 1,kz (by simp;lia)]
     walk_at "go"
     rw [kz (by simp)]
     walk_at "go"
     exact⟨_,rfl,done pa (ties.drop 1) (j+1) (by lia) (fun _ h=> h) (aD _) (aD _) (by simp;lia) (fun x h=> cu h) (by lia) (by lia) (.inr rfl),fd2,sm1.trans sm2⟩
    ·rw [decide_eq_false c2]
     walk_at "go"
     rw [yi]
     by_cases c3:w=3
     ·rw [decide_eq_true c3]
      walk_at "go"
      rw [ang,show qw pa (some 1) none=pa.drop 1 from zg pa 1,kz (by simp;lia)]
      walk_at "go"
      rw [kz (by simp)]
      walk_at "go"
      exact⟨_,rfl,done (pa.drop 1) ties (j+1) (by simp;lia) (fun x h=> cu h) (by lia) (by lia) (by lia) (fun _ h=> h) (by lia) (by lia) (.inr rfl),fd2,sm1.trans sm2⟩
     ·rw [decide_eq_false c3]
      walk_at "go"
      rw [yi]
      by_cases c4:w=4
      ·rw [decide_eq_true c4]
       walk_at "go"
       rw [show qw ps none (some 1)=ps.take 1 from acu ps 1,kz (by simp;lia)]
       walk_at "go"
       exact⟨_,rfl,md5 iT pP.more iB iE iS (by lia),fd2,sm1.trans sm2⟩
      ·rw [decide_eq_false c4]
       walk_at "go"
       exact⟨_,rfl,md5 iT iP (a2f (i:=b+1) (by lia)) iE iS (by lia),fd2,sm1.trans sm2⟩
theorem ats{a:Nat}(h:s[a]?=some (.lst (xs.map D.da)))(hl:xs.length+ys.length <=1000):jr true (.ref a) (.lst ys) s=.ok (.ref s.length) (s++ [.lst ((xs++ys).map D.da)]):=by
 show (match toL s (.ref a),toL s (.lst ys) with|some xs,some ys=> if xs.length+ys.length <=sizeLine then qy true (xs++ys) s else .bad|_,_=>.bad)=_
 have e1:toL s (.ref a)=some (xs.map D.da):=by
  show (match s[a]? with|some (O.lst ds)=> some ds|_=> none)=_
  rw [h]
 have e2:toL s (.lst ys)=some (ys.map D.da):=rfl
 rw [e1,e2]
 show (if (xs.map D.da).length+(ys.map D.da).length <=sizeLine then qy true (xs.map D.da++ys.map D.da) s else .bad)=_
 rw [if_pos (by rw [au,au,ki];lia),←jE]
 rfl
def avn:FS:=(je (j5 3 (fOp (jr false) (fC (.da (.int 1))) (jd 2 jh (ja (jb 1) (ja (fC (.da (.int 3))) jc)))))
  (je (j5 4 (jd 4 y4 (ja (jb 1) (ja (jb 3) (ja (jd 2 aa6 (ja (jb 1) (ja (jd 2 jh (ja (jb 1) (ja (fC (.da (.int 5))) jc))) jc))) (ja (fC (.da (.int 4))) jc))))))
  (je (jp (ji (fOp adw (jd 1 qx (ja (jb 4) jc)) (fC (.da (.bool true))))) (jj (fC (.da (.bool false)))) jl)
  (je (j5 5 (kv true (ja (jb 4) (ja (fCB (aci false) (ja (jb 4) jc)) (ja (fSl false (jb 4) fNo (kn (fC (.da (.int 4))))) (ja (fOp (jr false) (jb 4) (j2 (ja (j2 jc) jc))) (ja (jd 1 zj (ja (jb 1) jc)) jc)))))))
  (je (j5 5 (fOp (jr true) (jb 5) (fLc false [1,4] 1 (aac (ja (fC (.da (.int 3))) jc)) (.nm 0) kx (jd 2 yh (ja (jb 1) (ja (jb 2) jc))))))
  aw3)))))
theorem Blaw_eq:Blaw=je (j5 1 (jd 1 ab7 (ja (jb 0) jc))) (je (ab0 (aac (ja (fC (.da (.int 3))) jc)) (.nm 2) avn) arx):=rfl
structure SJ (s:S) (k c:Nat) (r acc:List D) (s':S):Prop where
 ex: ∃(ys:List aa) (c':Nat),acc=ys.map D.da/\(∀y∈ys,Md y)/\ys.length+r.length=3/\Fd s' k c'/\c'+2*r.length <=c/\j4 k s s'
theorem avw{M:aa}{p:Wk}(hp:p.2=none)(h:Fd s k c)(hM:kh M=true)(it:It0 M)(hc:c+6 < 2^40):(kl (.nm 0) kx (jd 2 yh (ja (jb 1) (ja (jb 2) jc))) [none,some (.ref k),some (.da M)] (p.1,none) (v8 0 3) s).W fun xs s'=> ∃ys:List aa,xs=ys.map D.da/\(∀y∈ys,Md y)/\ys.length=3/\Fd s' k (c+6)/\j4 k s s':=by
 refine R.W_mono (aab (Q:=fun xs s'=> ∃ys:List aa,xs=ys.map D.da/\(∀y∈ys,Md y)/\ys.length=3/\Fd s' k (c+6)/\j4 k s s') (SJ s k (c+6)) ?_ ?_ _ [] s ⟨[],c,rfl,(fun _ h=> by cases h),by rw [k8];rfl,h,by rw [k8];lia,j4.refl _ _⟩) ?_
 ·rintro d' r acc s' ⟨ys,c',rfl,hy,hlen,fd,hcc,sm'⟩
  simp only [aP]at hlen hcc
  refine⟨[some d',some (.ref k),some (.da M)],rfl,?_⟩
  walk_at "go"
  refine R.W_mono (asx fd hM it (by lia)) ?_
  rintro _ s2 ⟨y,rfl,p1,fd2,sm2⟩
  refine⟨ys++ [y],c'+2,by simp,?_,by simp;lia,fd2,by lia,sm'.trans sm2⟩
  intro z hz
  rcases aL.mp hz with q|q
  ·exact hy z q
  ·rw [aO.mp q];exact p1
 ·rintro acc s' ⟨ys,c',rfl,hy,hlen,fd,hcc,sm'⟩
  exact⟨ys,rfl,hy,by simpa using hlen,fd.le (by simp at hcc;lia),sm'⟩
 ·rintro xs s' ⟨ys,e,q⟩
  rw [cN]at e
  exact⟨ys,e,q⟩
structure MchQ (s:S) (k c:Nat) (d:D) (s':S):Prop where
 ex: ∃M,d=.da M/\kh M=true/\It0 M/\Fd s' k (c+10000)/\j4 k s s'
def ase:Prop:= ∀{s:S} {k c T:Nat} {ps:List Str},Fd s k c -> 0 < T -> T <=3 -> (∀x∈ps,jz x=true) -> ps.Nodup -> ps.length <=4 -> c+10000 < 2^40 -> (y4 [.ref k,.int (T:Int),.lst (ps.map ag),.int 4] s).W (MchQ s k c)
theorem a1e{T0:Int}{ps0:List aa}{be z:aa}(it:It0 (.tuple [.int T0,.tuple ps0,.int b,be,.tuple sts]))(ok:OddK 1 z): ∀x∈([.tuple [.int T0,.tuple ps0,.int b,be,.tuple sts],.list [.int T0,.tuple ps0,.int b,be,.tuple sts],.tuple [.int T0,.tuple ps0,.int b,be],.tuple [.int T0,.tuple ps0,.int b,be,.tuple sts,.tuple []],z]:List aa),Md x:=by
 obtain⟨a1,a2,a3,a4⟩:=it.md
 obtain⟨_,hx⟩:=qo a1
 simp only [bc,aB]at a2
 have sz: ∀x∈ [.int T0,.tuple ps0,.int b,be,.tuple sts],Sz 1 40 x:=a4
 have dd:ar [.int T0,.tuple ps0,.int b,be,.tuple sts] <=7:=by have:=it.dp;simp only [aA]at this;lia
 have bb:=it.bk
 simp only [bc,aB]at bb
 have sub: ∀y∈ [aI T0,.tuple ps0,.int b,be],y∈ [aI T0,.tuple ps0,.int b,be,.tuple sts]:=fun y hy=> ff [aK sts] hy
 have up: ∀ds:List aa,(∀y∈ds,y∈ [aI T0,.tuple ps0,.int b,be,.tuple sts]\/y=.tuple []) -> (aK ds).depth <=10:=fun ds h=> by
  have:ar ds <=7:=vc fun y hy=> (h y hy).elim (fun q=> aJ (kq q) dd) fun q=> by rw [q];simp [aA,ar]
  simp only [aA]
  lia
 intro x hm
 (simp only [ay,aX,or_false]at hm)
 rcases hm with rfl|rfl|rfl|rfl|rfl
 ·exact it.md
 ·exact⟨.lst (by simp) hx,by have:=it.md.bk;simp only [bc]at this⊢;exact this,by have:=it.md.dp;simp only [aA]at this⊢;exact this,sz⟩
 ·exact⟨.tup (by simp) (fun y hy=> hx y (sub y hy)),by simp only [bc,aB];lia,up _ fun y hy=>.inl (sub y hy),fun y hy=> sz y (sub y hy)⟩
 ·have six: ∀y∈ [aI T0,.tuple ps0,.int b,be,.tuple sts,.tuple []],y∈ [aI T0,.tuple ps0,.int b,be,.tuple sts]\/y=.tuple []:=fun y hy=> (aL.mp (show y∈ [aI T0,.tuple ps0,.int b,be,.tuple sts]++ [.tuple []] from hy)).imp id aO.mp
  refine⟨.tup (by simp) (fun y hy=> ?_),by simp only [bc,aB];lia,up _ six,fun y hy=> ?_⟩
  ·rcases six y hy with q|q
   ·exact hx y q
   ·rw [q];exact am5 1
  ·rcases six y hy with q|q
   ·exact sz y q
   ·rw [q];exact Sz.of (by simp [strN,jg])
 ·exact⟨ok.lf,by have:=ok.bk;lia,by have:=ok.dp;lia,Sz.of (aJ ok.sn (by decide))⟩
theorem avo(mo:ase){A u2 u3 u4 u5 u6 u7:Option D}(h:Fd s k c)(hc:c < 2^37):
  (avn [A,some (.ref k),u2,u3,u4,u5,u6,u7] s).W (LwQ A k (c+20000)):=by
 unfold avn
 walk_at "go"
 refine R.W_mono (ke h (by decide) (by decide) (by lia)) ?_
 rintro _ s1 ⟨t,rfl,t0,t1,fd1,sm1⟩
 obtain⟨T,hT⟩: ∃q:Nat,1+t=(q:Int):=⟨(1+t).toNat,by lia⟩
 walk_at "go"
 rw [hT]
 walk_at "go"
 refine R.W_mono (ke fd1 (by decide) (by decide) (by lia)) ?_
 rintro _ s2 ⟨q',rfl,q0,q1,fd2,sm2⟩
 obtain⟨q,rfl⟩:=za q' (by assumption)
 walk_at "go"
 refine DW.mono (avg fd2 (by lia) (by lia)) ?_
 rintro _ s3 ⟨ps,rfl,pl,pok,pnd,fd3,sm3⟩
 walk_at "go"
 refine R.W_mono (mo fd3 (by lia) (by lia) pok pnd (by lia) (by lia)) ?_
 rintro _ s4 ⟨M,rfl,hM,it,fd4,sm4⟩
 walk_at "go"
 rw [afs (n:=0) it.lf (by decide) (it.sz.mono (by decide)),hM]
 walk_at "go"
 rw [as0,show (true !=true)=false from rfl]
 walk_at "go"
 obtain⟨T0,b,ps0,be,sts,rfl,hst⟩:=ahv hM
 walk_at "go"
 rw [ang]
 walk_at "go"
 rw [kz (by simp)]
 walk_at "go"
 refine R.W_mono (ans 1 fd4 (by lia)) ?_
 rintro _ s5 ⟨z,rfl,ok,fd5,sm5⟩
 walk_at "go"
 rw [aa7 (by decide) (by decide),show ((3:Int)).toNat=3 from rfl]
 walk_at "go"
 obtain⟨s6,hs6⟩: ∃s6,s5++ [O.lst [D.da (aK [.int T0,.tuple ps0,.int b,be,.tuple sts]),D.lst [.int T0,.tuple ps0,.int b,be,.tuple sts],D.tup [.int T0,.tuple ps0,.int b,be],D.tup [.int T0,.tuple ps0,.int b,be,.tuple sts,.tuple []],D.da z]]=s6:=⟨_,rfl⟩
 rw [hs6]
 have e6:s6[s5.length]?=some (.lst (([.tuple [.int T0,.tuple ps0,.int b,be,.tuple sts],.list [.int T0,.tuple ps0,.int b,be,.tuple sts],.tuple [.int T0,.tuple ps0,.int b,be],.tuple [.int T0,.tuple ps0,.int b,be,.tuple sts,.tuple []],z]:List aa).map D.da)):=by rw [←hs6];simp
 have fd6:Fd s6 k (c+1+1+2+10000+1):=by rw [←hs6];exact fd5.ext (Ext.add _ _)
 have hak:s5.length≠k:=by have:=fd5.lt;lia
 have h5: ∀x∈([.tuple [.int T0,.tuple ps0,.int b,be,.tuple sts],.list [.int T0,.tuple ps0,.int b,be,.tuple sts],.tuple [.int T0,.tuple ps0,.int b,be],.tuple [.int T0,.tuple ps0,.int b,be,.tuple sts,.tuple []],z]:List aa),Md x:=a1e it ok
 have hl5:([.tuple [.int T0,.tuple ps0,.int b,be,.tuple sts],.list [.int T0,.tuple ps0,.int b,be,.tuple sts],.tuple [.int T0,.tuple ps0,.int b,be],.tuple [.int T0,.tuple ps0,.int b,be,.tuple sts,.tuple []],z]:List aa).length <=5:=by simp
 generalize ([.tuple [.int T0,.tuple ps0,.int b,be,.tuple sts],.list [.int T0,.tuple ps0,.int b,be,.tuple sts],.tuple [.int T0,.tuple ps0,.int b,be],.tuple [.int T0,.tuple ps0,.int b,be,.tuple sts,.tuple []],z]:List aa)=L5 at e6 h5 hl5
 generalize hMM:aK [.int T0,.tuple ps0,.int b,be,.tuple sts]=MM at*
 rw [ko (ρ0:=[none,some (.ref k),some (.da MM)]) (by rw [k8];lia) rfl,R.W_bindk]
 refine R.W_mono (avw (p:=(v8 0 3,none)) rfl fd6 hM it (by lia)) ?_
 rintro _ s7 ⟨ys,rfl,hy,hyl,fd7,sm7⟩
 have la:s5.length < s6.length:=(aC.mp e6).1
 have e7:s7[s5.length]?=some (.lst (L5.map D.da)):=by rw [sm7.get _ hak la];exact e6
 walk_at "go"
 rw [ats e7 (by lia)]
 walk_at "go"
 match ys,hy,hyl with
 | [y0,y1,y2],hy,_=>
  refine R.W_mono (a7g (c:=c+1+1+2+10000+1+6) (a:=s7.length) (L:=L5++ [y0,y1]) (z0:=y2) (fd7.ext (Ext.add _ _)) (by lia) (by have:=fd7.lt;lia) (by simp) ?_ (hy y2 (by simp)) (by simp;lia) it) ?_
  ·intro x hx
   rcases aL.mp hx with q|q
   ·exact h5 x q
   ·exact hy x (by simp only [ay,aX,or_false]at q⊢;rcases q with h|h <;> simp [h])
  ·rintro _ s8 ⟨v2,v3,v4,v5,v6,v7,rfl,fd8⟩
   exact⟨v2,v3,v4,v5,v6,v7,rfl,fd8.le (by lia)⟩
structure LwJ (A:Option D) (k:Nat) (r:List D) (ρ:En) (s:S):Prop where
 ex: ∃(v2 v3 v4 v5 v6 v7:Option D) (c:Nat),ρ=[A,some (.ref k),v2,v3,v4,v5,v6,v7]/\Fd s k c/\c+20000*r.length <=70000
theorem aw6(mo:ase)(ns:List Int):(aqg [.frz (ns.map aI)] []).W fun d _=> d=.bl true:=by
 rw [a84,Blaw_eq]
 walk_at "go"
 refine R.W_mono a00 ?_
 rintro _ s1 ⟨rfl,fd,ex⟩
 walk_at "go"
 rw [aa7 (by decide) (by decide)]
 walk_at "go"
 refine R.W_mono (aae (Q:=fun fl s'=> ∃ρ,fl=.nx ρ/\LwJ (some (.frz (ns.map aI))) ([]:S).length [] ρ s') (LwJ (some (.frz (ns.map aI))) ([]:S).length) ?_ ?_ _ _ _ ⟨_,_,_,_,_,_,0,rfl,fd,by rw [k8];decide⟩) ?_
 ·rintro d r ρ s ⟨v2,v3,v4,v5,v6,v7,c,rfl,fd,hcc⟩
  simp only [aP]at hcc
  refine⟨_,a5g,R.W_mono (avo mo fd (by lia)) ?_⟩
  rintro _ s2 ⟨v2,v3,v4,v5,v6,v7,rfl,fd2⟩
  exact⟨v2,v3,v4,v5,v6,v7,_,rfl,fd2,by lia⟩
 ·intro ρ s J
  exact⟨ρ,rfl,J⟩
 ·rintro _ s2 ⟨ρ,rfl,v2,v3,v4,v5,v6,v7,c,rfl,fd2,hcc⟩
  simp only [dP]at hcc
  show (arx [some (.frz (ns.map aI)),some (.ref ([]:S).length),v2,v3,v4,v5,v6,v7] s2).W (R.Wk jt fun d _=> d=.bl true)
  refine R.W_mono (a74 fd2 (by lia)) ?_
  rintro _ s3 rfl
  rfl
theorem abm{N:Nat}: ∀{ds:List aa},(∀x∈ds,x.bulk <=N) -> aB ds <=(N+1)*ds.length
 |[],_=> by simp [aB]
 |x::r,h=> by
  have a:=abm fun y hy=> h y (az _ hy)
  have b:=h x ax
  simp only [aB,aP,Nat.mul_succ]
  lia
theorem ahx(h:xs.Perm ys):jg xs=jg ys:=by
 induction h with
 |nil=> rfl
 |cons x _ ih=> simp only [jg,ih]
 |swap x y l=> simp only [jg];lia
 |trans _ _ a b=> rw [a,b]
theorem ai4: ∀l:List Int,jg (l.map aI)=0
 |[]=> by simp [jg]
 |x::r=> by simp only [aN,jg,strN,ai4 r]
theorem aip: ∀l:List Str,jg (l.map ag)=l.length
 |[]=> by simp [jg]
 |x::r=> by simp only [aN,jg,strN,aip r,aP];lia
theorem anc: ∀w∈(["box","next"]:List Str),jz w=true:=by decide+kernel
theorem apw:jz "port"=true:=by decide+kernel
theorem SpK.lf(h:SpK b d)(hb:b <=2):Lf 0 d:=by
 rcases h.ex with ⟨p,rfl,hp⟩|⟨w,i,rfl,hw,hi⟩
 ·exact .tup (by simp) (aca (abl apw) (abl hp))
 ·exact .tup (by simp) (aca (abl (anc w hw)) (.int (by lia)))
theorem aga(h:jz x=true):(ag x).bulk <=8:=by
 unfold jz at h
 simp only [am,decide_eq_true_eq]at h
 simp only [bc]
 exact h.1.2
theorem apj{xs:List Str}(h: ∀x∈xs,jz x=true):aB (xs.map ag) <=9*xs.length:=by
 have:=abm (N:=8) (ds:=xs.map ag) fun z hz=> by
  obtain⟨q,m,rfl⟩:=aR.mp hz
  exact aga (h q m)
 rwa [au]at this
theorem SpK.bk(h:SpK b d):d.bulk <=18:=by
 rcases h.ex with ⟨p,rfl,hp⟩|⟨w,i,rfl,hw,hi⟩
 ·have a:=aga apw
  have b:=aga hp
  simp only [bc,aB]at a b⊢
  lia
 ·have a:=aga (anc w hw)
  simp only [bc,aB]at a⊢
  lia
theorem SpK.is(h:SpK b d):xb b d=true:=by
 rcases h.ex with ⟨p,rfl,hp⟩|⟨w,i,rfl,hw,h0,h1⟩
 ·show (if ("port":Str)="port" then kj (.str p) else (decide (("port":Str)∈(["box","next"]:List Str))&&jo b (.str p)))=true
  rw [if_pos rfl];exact hp
 ·show (if w="port" then kj (.int i) else (decide (w∈(["box","next"]:List Str))&&jo b (.int i)))=true
  rw [if_neg (af7 w hw),decide_eq_true hw]
  simp only [jo,decide_eq_true h0,decide_eq_true h1,cp]
theorem ap4(h: ∀x∈sp,SpK b x):vi sp=true:=ao.mpr fun x hx=> by
 rw [am]
 exact⟨(h x hx).pl,ao.mpr fun y hy=> (h x hx).lt (h y hy)⟩
structure TiK (T b:Int) (t:aa):Prop where
 is:xi T b t=true
 lf:Lf 0 t
 bk:t.bulk <=157
theorem a29{l:List Int}(h: ∀x∈sp,SpK b x)(nd:sp.Nodup)(h0:0 < sp.length)(h8:sp.length <=8)(hb:b <=2)(hT:T <=3)(l0:0 < l.length)(l3:l.length <=3)(lx: ∀x∈l,0 <=x/\x < T)(pw:l.Pairwise fun a b=> a < b):
  TiK T b (.tuple [.tuple (ql sp),.tuple (l.map aI)]):=by
 have pm:=ym sp
 have hs: ∀x∈ql sp,SpK b x:=fun x hx=> h x (pm.mem_iff.mp hx)
 have hl:=pm.length_eq
 refine⟨?_,.tup (by simp) (aca (.tup (by lia) fun x hx=> (hs x hx).lf hb) (.tup (by simp;lia) fun x hx=> ?_)),?_⟩
 ·show ((ql sp).all (xb b)&&(decide (0 < (ql sp).length)&&(jx (ql sp)&&(((l.map aI).all (jo T)&&jx (l.map aI))&&decide (0 < (l.map aI).length)))))=true
  rw [ao.mpr fun x hx=> (hs x hx).is,decide_eq_true (by lia),aep (ap4 h) nd,aib l pw,au,decide_eq_true l0,ao.mpr fun x hx=> ?_]
  ·rfl
  ·obtain⟨i,hi,rfl⟩:=aR.mp hx
   obtain⟨a,b⟩:=lx i hi
   simp only [jo,decide_eq_true a,decide_eq_true b,cp]
 ·obtain⟨i,hi,rfl⟩:=aR.mp hx
  obtain⟨a,b⟩:=lx i hi
  exact .int (by lia)
 ·have a:=abm (N:=18) (ds:=ql sp) fun x hx=> (hs x hx).bk
  have b:=abm (N:=0) (ds:=l.map aI) fun x hx=> by
   obtain⟨i,hi,rfl⟩:=aR.mp hx
   simp [bc]
  rw [au]at b
  simp only [bc,aB]
  lia
theorem avf(sp:List aa)(l:List Int):strN (.tuple [.tuple (ql sp),.tuple (l.map aI)])=jg sp:=by
 simp only [strN,jg,ai4,ahx (ym sp)]
 lia
structure ZsK (b:Int) (xs:List Str) (r:Nat) (Z:List aa):Prop where
 sp: ∀z∈Z,SpK b z
 nd:Z.Nodup
 pt: ∀p:Str,.tuple [.str "port",.str p]∈Z ↔ p∈xs
 fb: ∀i:Nat,.tuple [.str "box",.int (i:Int)]∈Z -> 2*i < r
 fn: ∀i:Nat,.tuple [.str "next",.int (i:Int)]∈Z -> 2*i+1 < r
 ln:Z.length <=xs.length+r
 tx:jg Z <=2*xs.length+r
theorem ZsK.mono{xs:List Str}{r r':Nat}(h:ZsK b xs r Z)(hr:r <=r'):ZsK b xs r' Z:=
 ⟨h.sp,h.nd,h.pt,fun i m=> aW (h.fb i m) hr,fun i m=> aW (h.fn i m) hr,by have:=h.ln;lia,by have:=h.tx;lia⟩
theorem ZsK.nil(b:Int):ZsK b [] 0 []:=⟨fun z hz=> (by cases hz),.nil,fun p=> ⟨fun h=> (by cases h),fun h=> (by cases h)⟩,fun i h=> (by cases h),fun i h=> (by cases h),by simp,by simp [jg]⟩
theorem ai0{α:Type}{Z:List α}{z:α}(h:Z.Nodup)(hz:z∉Z):(Z++ [z]).Nodup:=by
 rw [gi]
 exact⟨h,by simp,fun a ha b hb e=> by rw [aO.mp hb]at e;subst e;exact hz ha⟩
theorem amm{z:aa}(h: ∀x∈Z,SpK b x)(hz:SpK b z): ∀x∈Z++ [z],SpK b x:=fun x hx=> by
 rcases aL.mp hx with q|q
 ·exact h x q
 ·rw [aO.mp q];exact hz
theorem ato(w:Str)(p:Str):strN (.tuple [.str w,.str p])=2:=by simp [strN,jg]
theorem alk(w:Str)(i:Int):strN (.tuple [.str w,.int i])=1:=by simp [strN,jg]
theorem ap3:("box":Str)≠"next":=by decide+kernel
theorem ZsK.port{xs:List Str}(h:ZsK b xs 0 Z)(hy:jz y=true)(hx:y∉xs):ZsK b (xs++ [y]) 0 (Z++ [.tuple [.str "port",.str y]]):=by
 have ln:=h.ln
 have tx:=h.tx
 refine⟨amm h.sp ⟨.inl ⟨y,rfl,hy⟩⟩,ai0 h.nd fun m=> hx ((h.pt y).mp m),fun p=> ?_,fun i m=> ?_,fun i m=> ?_,by simp;lia,by rw [qq];simp [jg,ato];lia⟩
 ·rw [aL,aL,h.pt p,aO,aO]
  constructor
  ·rintro (q|q)
   ·exact .inl q
   ·injection q with q;injection q with _ q;injection q with q _;injection q with q;exact .inr q
  ·rintro (q|q)
   ·exact .inl q
   ·exact .inr (by rw [q])
 ·rcases aL.mp m with q|q
  ·exact h.fb i q
  ·have q:=aO.mp q
   injection q with q;injection q with _ q;injection q with q _;cases q
 ·rcases aL.mp m with q|q
  ·exact h.fn i q
  ·have q:=aO.mp q
   injection q with q;injection q with _ q;injection q with q _;cases q
theorem ZsK.box{xs:List Str}{r:Nat}(h:ZsK b xs r Z)(hj:(j:Int) < b)(hr:r <=2*j):ZsK b xs (2*j+1) (Z++ [.tuple [.str "box",.int (j:Int)]]):=by
 have ln:=h.ln
 have tx:=h.tx
 refine⟨amm h.sp ⟨.inr ⟨"box",j,rfl,by decide+kernel,by lia,hj⟩⟩,ai0 h.nd fun m=> by have:=h.fb j m;lia,fun p=> ?_,fun i m=> ?_,fun i m=> ?_,by simp;lia,by rw [qq];simp [jg,alk];lia⟩
 ·rw [aL,h.pt p,aO]
  exact⟨fun q=> q.elim id fun q=> (by injection q with q;injection q with _ q;injection q with q _;cases q),.inl⟩
 ·rcases aL.mp m with q|q
  ·have:=h.fb i q;lia
  ·have q:=aO.mp q
   injection q with q;injection q with _ q;injection q with q _;injection q with q;lia
 ·rcases aL.mp m with q|q
  ·have:=h.fn i q;lia
  ·have q:=aO.mp q
   injection q with q;injection q with q _;injection q with q;exact absurd q.symm ap3
theorem ZsK.nxt{xs:List Str}{r:Nat}(h:ZsK b xs r Z)(hj:(j:Int) < b)(hr:r <=2*j+1):ZsK b xs (2*j+2) (Z++ [.tuple [.str "next",.int (j:Int)]]):=by
 have ln:=h.ln
 have tx:=h.tx
 refine⟨amm h.sp ⟨.inr ⟨"next",j,rfl,by decide+kernel,by lia,hj⟩⟩,ai0 h.nd fun m=> by have:=h.fn j m;lia,fun p=> ?_,fun i m=> ?_,fun i m=> ?_,by simp;lia,by rw [qq];simp [jg,alk];lia⟩
 ·rw [aL,h.pt p,aO]
  exact⟨fun q=> q.elim id fun q=> (by injection q with q;injection q with _ q;injection q with q _;cases q),.inl⟩
 ·rcases aL.mp m with q|q
  ·have:=h.fb i q;lia
  ·have q:=aO.mp q
   injection q with q;injection q with q _;injection q with q;exact absurd q ap3
 ·rcases aL.mp m with q|q
  ·have:=h.fn i q;lia
  ·have q:=aO.mp q
   injection q with q;injection q with _ q;injection q with q _;injection q with q;lia
theorem afl{g:Tg}{fb:FS}{p:Wk}{Q:Fl -> S -> Prop}(J:List D -> En -> S -> Prop)(src: ∀r ρ s,J r ρ s -> ky p s)
  (step: ∀d r ρ s,J (d::r) ρ s -> ∃ρ1,qu g d ρ=some ρ1/\(fb ρ1 s).W (flW (J r) Q)) (fin: ∀ρ s,J [] ρ s -> Q (.nx ρ) s):
  ∀(ds:List D) (ρ:En) (s:S),J ds ρ s -> (qf g fb p ds ρ s).W Q
 |[],ρ,s,h=> fin ρ s h
 | d::r,ρ,s,h=> by
  obtain⟨ρ1,e,w⟩:=step d r ρ s h
  rw [aby e,R.W_bind]
  refine R.W_mono w fun fl s1 q=> ?_
  cases fl with
  |nx ρ2=>
   have q:J r ρ2 s1:=q
   rw [show acg g fb p r (.nx ρ2) s1=qf g fb p r ρ2 s1 from vg (src _ _ _ q)];exact afl J src step fin r ρ2 s1 q
  |ct ρ2=>
   have q:J r ρ2 s1:=q
   rw [show acg g fb p r (.ct ρ2) s1=qf g fb p r ρ2 s1 from vg (src _ _ _ q)];exact afl J src step fin r ρ2 s1 q
  |bk ρ2=> rw [aph];exact q
  |rt d=> rw [apz];exact q
noncomputable def abf(G:Nat -> List aa):Nat -> List aa
 |0=> []
 |k+1=> abf G k++G k
structure GrZ (s s':S) (n g:Nat) (G:Nat -> List aa) (Z:List aa):Prop where
 at': ∀i:Nat,i < 3 -> s'[g+i]?=some (.lst ((G i).map D.da))
 all:s'[g+3]?=some (.lst [.ref g,.ref (g+1),.ref (g+2)])
 big:s.length <=g/\n < s.length
 pm:(abf G 3).Perm Z
 sm:j4 n s s'
theorem GrZ.same{s2:S}{g:Nat}{G:Nat -> List aa}(h:GrZ s s' n g G Z)(x:j4 n s' s2):GrZ s s2 n g G Z:=by
 have hl:=(aC.mp h.all).1
 obtain⟨b1,b2⟩:=h.big
 refine⟨fun i hi=> ?_,?_,h.big,h.pm,h.sm.trans x⟩
 ·rw [x.get _ (by lia) (by lia)];exact h.at' i hi
 ·rw [x.get _ (by lia) (by lia)];exact h.all
theorem GrZ.ix{g:Nat}{G:Nat -> List aa}(h:GrZ s s' n g G Z)(hi:i < 3):gIx (.ref (g+3)) (.int (i:Int)) s'=.ok (.ref (g+i)) s':=by
 refine aoi h.all ?_
 have:i=0\/i=1\/i=2:=by lia
 rcases this with rfl|rfl|rfl <;> rfl
theorem ajp{G:Nat -> List aa}(hi:i < 3):(G i).Sublist (abf G 3):=by
 have:i=0\/i=1\/i=2:=by lia
 show (G i).Sublist ((([]++G 0)++G 1)++G 2)
 rw [cN]
 rcases this with rfl|rfl|rfl
 ·exact (eA _ _).trans (eA _ _)
 ·exact (iO _ _).trans (eA _ _)
 ·exact iO _ _
theorem GrZ.len{g:Nat}{G:Nat -> List aa}(h:GrZ s s' n g G Z)(hi:i < 3):(G i).length <=Z.length:=by
 rw [←h.pm.length_eq];exact (ajp hi).length_le
theorem GrZ.mem{g:Nat}{G:Nat -> List aa}(h:GrZ s s' n g G Z)(hi:i < 3){x:aa}(hx:x∈G i):x∈Z:=h.pm.mem_iff.mp ((ajp hi).subset hx)
theorem GrZ.nd{g:Nat}{G:Nat -> List aa}(h:GrZ s s' n g G Z)(hi:i < 3)(hz:Z.Nodup):(G i).Nodup:=(h.pm.nodup_iff.mpr hz).sublist (ajp hi)
noncomputable def aa1(G:Nat -> List aa)(i:Nat)(p:aa):Nat -> List aa:=fun j=> if j=i then G j++ [p] else G j
theorem az3{G:Nat -> List aa}(hi:i < 3):(abf (aa1 G i p) 3).Perm (abf G 3++ [p]):=by
 have:i=0\/i=1\/i=2:=by lia
 show ((([]++aa1 G i p 0)++aa1 G i p 1)++aa1 G i p 2).Perm ((([]++G 0)++G 1)++G 2++ [p])
 rcases this with rfl|rfl|rfl
 ·rw [show aa1 G 0 p 0=G 0++ [p] from rfl,show aa1 G 0 p 1=G 1 from rfl,show aa1 G 0 p 2=G 2 from rfl]
  simp only [cN,bW]
  (refine gM _ ?_)
  have:=kG (l₁:=[p]) (l₂:=G 1++G 2)
  simpa only [bW] using this
 ·rw [show aa1 G 1 p 0=G 0 from rfl,show aa1 G 1 p 1=G 1++ [p] from rfl,show aa1 G 1 p 2=G 2 from rfl]
  simp only [cN,bW]
  exact gM _ (gM _ (kG (l₁:=[p]) (l₂:=G 2)))
 ·rw [show aa1 G 2 p 0=G 0 from rfl,show aa1 G 2 p 1=G 1 from rfl,show aa1 G 2 p 2=G 2++ [p] from rfl]
  simp only [cN,bW]
  exact ga _
theorem GrZ.put{g:Nat}{G:Nat -> List aa}(h:GrZ s s' n g G Z)(hi:i < 3)(hN:Z.length <=1000)(p:aa):
  ∃s2,k7 (.ref (g+i)) [.da p] s'=.ok .non s2/\GrZ s s2 n g (aa1 G i p) (Z++ [p])/\ ∀k,k < s.length -> s2[k]?=s'[k]?:=by
 have hf:=h.len hi
 obtain⟨b1,b2⟩:=h.big
 have hl:=(aC.mp h.all).1
 refine⟨_,abu (h.at' i hi) (by simp;lia),⟨fun j hj=> ?_,?_,h.big,(az3 hi).trans (h.pm.append_right _),h.sm.own (by lia)⟩,fun k hk=> bq (by lia)⟩
 ·by_cases e:j=i
  ·subst e
   rw [bI (by lia)]
   unfold aa1
   rw [if_pos rfl];simp
  ·rw [bq (by lia),h.at' j hj]
   unfold aa1
   rw [if_neg e]
 ·rw [bq (by lia)];exact h.all
theorem put_ok{g:Nat}{G:Nat -> List aa}{fa:FA}{Q:Fl -> S -> Prop}(h:GrZ s s' n g G Z)(fd:Fd s' n c)(hc:c+1 < 2^40)(hN:Z.length <=1000)(e6: ∀s2,jb 6 ρ s2=.ok (.ref (g+3)) s2)(e0: ∀s2,jb 0 ρ s2=.ok (.ref n) s2)(ea: ∀s2,fa ρ s2=.ok [.da p] s2)(k: ∀(G':Nat -> List aa) (s2:S),GrZ s s2 n g G' (Z++ [p]) -> Fd s2 n (c+1) -> Q (.nx ρ) s2):
  ((xk (fMt k7 (fOp gIx (jb 6) (jd 2 jh (ja (jb 0) (ja (fC (.da (.int 3))) jc)))) fa)) ρ s').W Q:=by
 rw [a46,a8w,a7u,e6]
 walk_at "go"
 rw [e0]
 walk_at "go"
 refine R.W_mono (ke fd (by decide) (by decide) (by lia)) fun d s1 q=> ?_
 obtain⟨i,e,i0,i1,fd1,sm1⟩:=q
 rw [e];clear e
 obtain⟨j,rfl⟩:=za i (by assumption)
 have h1:=h.same sm1
 have hj:j < 3:=by lia
 walk_at "go"
 rw [h1.ix hj]
 walk_at "go"
 rw [ahy (h1.at' j hj),ea]
 walk_at "go"
 obtain⟨s2,e2,g2,kp⟩:=h1.put hj hN p
 rw [e2]
 walk_at "go"
 refine k _ s2 g2 ?_
 obtain⟨xs,a,b',ex,r⟩:=fd1.ex
 obtain⟨b1,b2⟩:=h.big
 exact⟨xs,a,b',by rw [kp _ b2];exact ex,r⟩
def s1B:FS:=(xk (fMt k7 (fOp gIx (jb 6) (jd 2 jh (ja (jb 0) (ja (fC (.da (.int 3))) jc)))) (ja (j2 (ja (fC (.da (.str "port"))) (ja (jb 7) jc))) jc)))
def s2a:FS:=(xk (fMt k7 (fOp gIx (jb 6) (jd 2 jh (ja (jb 0) (ja (fC (.da (.int 3))) jc)))) (ja (j2 (ja (fC (.da (.str "box"))) (ja (jb 8) jc))) jc)))
def s2b:FS:=(xk (fMt k7 (fOp gIx (jb 6) (jd 2 jh (ja (jb 0) (ja (fC (.da (.int 3))) jc)))) (ja (j2 (ja (fC (.da (.str "next"))) (ja (jb 8) jc))) jc)))
def s2B:FS:=(je (j5 9 (jd 2 jh (ja (jb 0) (ja (fC (.da (.int 5))) jc))))
  (je (jp (kf (ji (fOp gLt (jb 9) (fC (.da (.int 2))))) (ji (fOp gEq (jb 9) (fC (.da (.int 4)))))) s2a jl)
  (jp (ji (fOp gIn (jb 9) (j2 (fVs (cA D.da [.int 1,.int 2,.int 4]))))) s2b jl)))
def s3B:FS:=(jp (ji (fOp gNe (jb 11) (kv false jc))) (xk (fMt k7 (jb 10) (ja (j2 (ja (fCB y3 (ja (fCB (zt false) (ja (jb 11) jc)) jc)) (ja (jd 2 zp (ja (jb 0) (ja (jb 1) jc))) jc))) jc))) jl)
structure S1J (s:S) (n g c b:Nat) (T ps bx pl:D) (xs:List Str) (r:List D) (ρ:En) (s':S):Prop where
 ex: ∃(ys rs:List Str) (G:Nat -> List aa) (Z:List aa) (c':Nat) (u:Option D),r=(rs.map ag).map D.da/\xs=ys++rs/\GrZ s s' n g G Z/\ZsK b ys 0 Z/\Fd s' n c'/\c'+rs.length <=c+xs.length/\
  ρ=[some (.ref n),some T,some ps,some bx,some pl,some (.lst (xs.map ag)),some (.ref (g+3)),u,none,none,none,none,none]
structure S2J (s:S) (n g c b:Nat) (T ps bx pl:D) (xs:List Str) (u7:Option D) (r:List D) (ρ:En) (s':S):Prop where
 ex: ∃(j:Nat) (G:Nat -> List aa) (Z:List aa) (c':Nat) (u8 u9:Option D),r=v8 j (b - j)/\j <=b/\GrZ s s' n g G Z/\ZsK b xs (2*j) Z/\Fd s' n c'/\c' <=c+3*j/\
  ρ=[some (.ref n),some T,some ps,some bx,some pl,some (.lst (xs.map ag)),some (.ref (g+3)),u7,u8,u9,none,none,none]
theorem a0e{g b:Nat}{T ps bx pl xs:D}{u7 u9:Option D}{ys:List Str}{G:Nat -> List aa}{Q:Fl -> S -> Prop}(gr:GrZ s s' n g G Z)(zs:ZsK b ys (2*j) Z)(hy:ys.length <=4)(hb:b <=2)(fd:Fd s' n c)(hc:c+10 < 2^40)(hj:j < b)(kk: ∀(G':Nat -> List aa) (Z':List aa) (u:Option D) (s2:S),GrZ s s2 n g G' Z' -> ZsK b ys (2*(j+1)) Z' -> Fd s2 n (c+3) -> Q (.nx [some (.ref n),some T,some ps,some bx,some pl,some xs,some (.ref (g+3)),u7,some (.int (j:Int)),u,none,none,none]) s2):
  (s2B [some (.ref n),some T,some ps,some bx,some pl,some xs,some (.ref (g+3)),u7,some (.int (j:Int)),u9,none,none,none] s').W Q:=by
 have hj2:(j:Int) < (b:Int):=by lia
 unfold s2B
 walk_at "go"
 refine R.W_mono (ke fd (by decide) (by decide) (by lia)) fun d s1 q=> ?_
 obtain⟨i,e,i0,i1,fd1,sm1⟩:=q
 rw [e];clear e
 have gr1:=gr.same sm1
 walk_at "go"
 have half: ∀(G1:Nat -> List aa) (Z1:List aa) (c1:Nat) (s2:S),GrZ s s2 n g G1 Z1 -> ZsK b ys (2*j+1) Z1 -> Fd s2 n c1 -> c1 <=c+2 -> ((jp (ji (fOp gIn (jb 9) (j2 (fVs (cA D.da [.int 1,.int 2,.int 4]))))) s2b jl) [some (.ref n),some T,some ps,some bx,some pl,some xs,some (.ref (g+3)),u7,some (.int (j:Int)),some (.int i),none,none,none] s2).W Q:=fun G1 Z1 c1 s2 gr2 zs2 fd2 hc1=> by
  walk_at "go"
  have h5:i=0\/i=1\/i=2\/i=3\/i=4:=by lia
  have yes:(s2b [some (.ref n),some T,some ps,some bx,some pl,some xs,some (.ref (g+3)),u7,some (.int (j:Int)),some (.int i),none,none,none] s2).W Q:=by
   unfold s2b
   refine put_ok (p:=.tuple [.str "next",.int (j:Int)]) gr2 fd2 (by lia) (by have:=zs2.ln;lia) (fun _=> rfl) (fun _=> rfl) (fun _=> rfl) fun G3 s3 gr3 fd3=> ?_
   exact kk G3 _ _ s3 gr3 (zs2.nxt hj2 (aD _)) (fd3.le (by lia))
  have no:Q (.nx [some (.ref n),some T,some ps,some bx,some pl,some xs,some (.ref (g+3)),u7,some (.int (j:Int)),some (.int i),none,none,none]) s2:=kk G1 _ _ s2 gr2 (zs2.mono (by lia)) (fd2.le (by lia))
  rcases h5 with rfl|rfl|rfl|rfl|rfl
  ·rw [show gIn (.int 0) (.tup [.int 1,.int 2,.int 4]) s2=.ok (.bl false) s2 from rfl]
   walk_at "go"
   exact no
  ·rw [show gIn (.int 1) (.tup [.int 1,.int 2,.int 4]) s2=.ok (.bl true) s2 from rfl]
   walk_at "go"
   exact yes
  ·rw [show gIn (.int 2) (.tup [.int 1,.int 2,.int 4]) s2=.ok (.bl true) s2 from rfl]
   walk_at "go"
   exact yes
  ·rw [show gIn (.int 3) (.tup [.int 1,.int 2,.int 4]) s2=.ok (.bl false) s2 from rfl]
   walk_at "go"
   exact no
  ·rw [show gIn (.int 4) (.tup [.int 1,.int 2,.int 4]) s2=.ok (.bl true) s2 from rfl]
   walk_at "go"
   exact yes
 have doit:(s2a [some (.ref n),some T,some ps,some bx,some pl,some xs,some (.ref (g+3)),u7,some (.int (j:Int)),some (.int i),none,none,none] s1).W (R.Wk (am3 (jp (ji (fOp gIn (jb 9) (j2 (fVs (cA D.da [.int 1,.int 2,.int 4]))))) s2b jl)) Q):=by
  unfold s2a
  refine put_ok (p:=.tuple [.str "box",.int (j:Int)]) gr1 fd1 (by lia) (by have:=zs.ln;lia) (fun _=> rfl) (fun _=> rfl) (fun _=> rfl) fun G3 s3 gr3 fd3=> ?_
  exact half G3 _ _ s3 gr3 (zs.box hj2 (aD _)) fd3 (by lia)
 have skip:R.Wk (am3 (jp (ji (fOp gIn (jb 9) (j2 (fVs (cA D.da [.int 1,.int 2,.int 4]))))) s2b jl)) Q (.nx [some (.ref n),some T,some ps,some bx,some pl,some xs,some (.ref (g+3)),u7,some (.int (j:Int)),some (.int i),none,none,none]) s1:=half G _ _ s1 gr1 (zs.mono (by lia)) fd1 (by lia)
 by_cases h2:i < 2
 ·rw [decide_eq_true h2]
  walk_at "go"
  exact doit
 ·rw [decide_eq_false h2]
  walk_at "go"
  rw [yi]
  by_cases h4:i=4
  ·rw [decide_eq_true h4]
   walk_at "go"
   exact doit
  ·rw [decide_eq_false h4]
   walk_at "go"
   exact skip
theorem a27(h:s[n]?=some (.lst (xs.map D.da)))(ho:okD (.list xs)=true):gNe (.ref n) (.lst []) s=.ok (.bl (!xs.isEmpty)) s:=by
 show ajd (.ref n) (.lst []) s=_
 unfold ajd
 rw [aow h,show toP s (.lst [])=some (.list []) from rfl]
 show (if okD (.list xs)=true/\okD (.list [])=true then R.ok (D.bl (!PyData.eqv (.list xs) (.list []))) s else .bad)=_
 rw [if_pos ⟨ho,rfl⟩,ajg]
structure TsK (T b:Int) (G:Nat -> List aa) (i:Nat) (ts:List aa):Prop where
 ti: ∀t∈ts,TiK T b t
 ln:ts.length <=i
 pm:(j8 ts).Perm (abf G i)
 tx:jg ts=jg (abf G i)
theorem TsK.skip{G:Nat -> List aa}(h:TsK T b G i ts)(e:G i=[]):TsK T b G (i+1) ts:=by
 have:abf G (i+1)=abf G i:=by show abf G i++G i=_;rw [e,bP]
 exact⟨h.ti,by have:=h.ln;lia,by rw [this];exact h.pm,by rw [this];exact h.tx⟩
theorem TsK.add{G:Nat -> List aa}{l:List Int}(h:TsK T b G i ts)(k:TiK T b (.tuple [.tuple (ql (G i)),.tuple (l.map aI)])):TsK T b G (i+1) (ts++ [.tuple [.tuple (ql (G i)),.tuple (l.map aI)]]):=by
 refine⟨fun t ht=> ?_,by have:=h.ln;simp;lia,?_,?_⟩
 ·rcases aL.mp ht with q|q
  ·exact h.ti t q
  ·rw [aO.mp q];exact k
 ·show ((ts++ [_]).flatMap adx).Perm (abf G i++G i)
  rw [List.flatMap_append,List.flatMap_singleton]
  exact h.pm.append (ym (G i))
 ·rw [qq,h.tx]
  show _=jg (abf G i++G i)
  rw [qq]
  simp only [jg]
  rw [avf]
  lia
structure S3J (s:S) (n g t c b T:Nat) (G:Nat -> List aa) (Z:List aa) (ps bx pl xs:D) (u7 u8 u9:Option D) (r:List D) (ρ:En) (s':S):Prop where
 ex: ∃(i:Nat) (ts:List aa) (c':Nat) (u:Option D),i <=3/\r=([.ref g,.ref (g+1),.ref (g+2)]:List D).drop i/\GrZ s s' n g G Z/\g+3 < t/\s'[t]?=some (.lst (ts.map D.da))/\TsK T b G i ts/\Fd s' n c'/\c' <=c+4*i/\
  ρ=[some (.ref n),some (.int (T:Int)),some ps,some bx,some pl,some xs,some (.ref (g+3)),u7,u8,u9,some (.ref t),u,none]
theorem ayu: ∀{l:List aa},(∀p∈l,SpK b p) -> okD (.list l)=true:=fun {l} h=> by
 obtain⟨_,h2,h3⟩:=pls fun x hx=> (h x hx).pk
 unfold okD
 rw [am,decide_eq_true_eq]
 simp only [c7,aA]
 exact⟨h2,by lia⟩
theorem ayk{g t b T:Nat}{G:Nat -> List aa}{ys:List Str}{ps bx pl xs:D}{u7 u8 u9:Option D}{Q:Fl -> S -> Prop}(gr:GrZ s s' n g G Z)(zs:ZsK b ys 4 Z)(hy:ys.length <=4)(hb:b <=2)(hT0:0 < T)(hT:T <=3)(hi:i < 3)(ht:g+3 < t)(e:s'[t]?=some (.lst (ts.map D.da)))(tk:TsK T b G i ts)(fd:Fd s' n c)(hc:c+10 < 2^40)(k1: ∀(ts':List aa) (s2:S),TsK T b G (i+1) ts' -> GrZ s s2 n g G Z -> s2[t]?=some (.lst (ts'.map D.da)) -> Fd s2 n (c+4) -> Q (.nx [some (.ref n),some (.int (T:Int)),some ps,some bx,some pl,some xs,some (.ref (g+3)),u7,u8,u9,some (.ref t),some (.ref (g+i)),none]) s2):
  (s3B [some (.ref n),some (.int (T:Int)),some ps,some bx,some pl,some xs,some (.ref (g+3)),u7,u8,u9,some (.ref t),some (.ref (g+i)),none] s').W Q:=by
 have hgi:=gr.at' i hi
 have hln:=zs.ln
 have hfew:=gr.len hi
 have hsp: ∀x∈G i,SpK b x:=fun x hx=> zs.sp x (gr.mem hi hx)
 have hnd:=gr.nd hi zs.nd
 unfold s3B
 have qt:=a01 fd hT0 hT (by lia)
 generalize zp=FT at qt⊢
 walk_at "go"
 rw [a27 (xs:=G i) hgi (ayu hsp)]
 cases hG:G i with
 |nil=>
  rw [show (!([]:List aa).isEmpty)=false from rfl]
  walk_at "go"
  exact k1 ts s' (tk.skip hG) gr e (fd.le (by lia))
 | cons y ys'=>
  rw [show (!(y::ys').isEmpty)=true from rfl]
  walk_at "go"
  rw [ahy e]
  walk_at "go"
  rw [arf (xs:=G i) hgi (by lia) (ap4 hsp) (ao.mpr fun x hx=> (hsp x hx).okD)]
  walk_at "go"
  refine qt.mono fun d s1 q=> ?_
  obtain⟨l,ed,hl0,hl3,hx,pw,fd1,sm1⟩:=q
  rw [ed];clear ed
  walk_at "go"
  have htl:=(aC.mp e).1
  obtain⟨b1,b2⟩:=gr.big
  have e':s1[t]?=some (.lst (ts.map D.da)):=by rw [sm1.get _ (by lia) htl];exact e
  have hts:=tk.ln
  rw [abu e' (by simp;lia)]
  walk_at "go"
  have htl1:=(aC.mp e').1
  have gr1:=gr.same sm1
  have ti:=a29 (T:=T) (b:=b) hsp hnd (by rw [hG];simp) (by lia) (by lia) (by lia) hl0 hl3 hx pw
  refine k1 _ _ (tk.add ti) ⟨fun j hj=> ?_,?_,gr1.big,gr1.pm,gr1.sm.own (by lia)⟩ ?_ (fd1.set (by lia))
  ·rw [bq (by lia)];exact gr1.at' j hj
  ·rw [bq (by lia)];exact gr1.all
  ·rw [bI htl1,hG]
   simp
structure StK (T b:Int) (ps:List Str) (d:aa):Prop where
 is:k9 T b ps d=true
 lf:Lf 0 d
 bk:d.bulk <=514
 sn:strN d <=16
structure PlZ (pl:List Int):Prop where
 pos:0 < pl.length
 few:pl.length <=3
 ok: ∀x∈pl,0 <=x/\x <=1000000000000
theorem az5{xs:List Str}{G:Nat -> List aa}{x y:Int}(zs:ZsK b xs 4 Z)(pm:(abf G 3).Perm Z)(tk:TsK T b G 3 ts)(hxs: ∀x∈xs,jz x=true)(hsub: ∀x∈xs,x∈ps)(nd:xs.Nodup)(hl:xs.length <=4)(hx:0 <=x/\x <=1000000000000)(hy:0 <=y/\y <=1000000000000):
  StK T b ps (.tuple [.int x,.tuple (ql (xs.map ag)),.tuple ts,.int y]):=by
 obtain⟨qs,e,pq⟩:=aen xs
 have rs:=aep (aao xs) (acb nd)
 rw [e]at rs⊢
 have hq: ∀x∈qs,jz x=true:=fun x hx=> hxs x (pq.mem_iff.mp hx)
 have pz:=tk.pm.trans pm
 have hsp: ∀x∈j8 ts,SpK b x:=fun x hx=> zs.sp x (pz.mem_iff.mp hx)
 have hnd:(j8 ts).Nodup:=pz.nodup_iff.mpr zs.nd
 have hql:=pq.length_eq
 have htl:=tk.ln
 refine⟨?_,.tup (by simp) (aqr (.int (by lia)) (.tup (by simp;lia) fun z hz=> ?_) (.tup (by lia) fun z hz=> (tk.ti z hz).lf) (.int (by lia))),?_,?_⟩
 ·show (jm 0 (.int x)&&(jm 0 (.int y)&&(((qs.map ag).all kj&&jx (qs.map ag))&&((qs.map ag).all (fun x=> inD x ps)&&(ts.all (xi T b)&&act (qs.map ag) ts)))))=true
  have h1:jm 0 (.int x)=true:=decide_eq_true hx.1
  have h2:jm 0 (.int y)=true:=decide_eq_true hy.1
  have h3:(qs.map ag).all kj=true:=ao.mpr fun z hz=> by
   obtain⟨q,m,rfl⟩:=aR.mp hz
   exact hq q m
  have h4:(qs.map ag).all (fun x=> inD x ps)=true:=ao.mpr fun z hz=> by
   obtain⟨q,m,rfl⟩:=aR.mp hz
   exact decide_eq_true (hsub q (pq.mem_iff.mp m))
  have h5:ts.all (xi T b)=true:=ao.mpr fun z hz=> (tk.ti z hz).is
  have h6:act (qs.map ag) ts=true:=by
   unfold act
   rw [am]
   refine⟨decide_eq_true ((afj _).mpr hnd),(an5 (abt hsp hnd) (by rw [←zo];exact rs)).mpr fun p=> ?_⟩
   rw [afr hsp,pz.mem_iff,zs.pt p,pq.mem_iff]
  rw [h1,h2,h3,rs,h4,h5,h6];rfl
 ·obtain⟨q,m,rfl⟩:=aR.mp hz
  exact abl (hq q m)
 ·have a:=abm (N:=157) (ds:=ts) fun z hz=> (tk.ti z hz).bk
  have b:=apj hq
  simp only [bc,aB]
  lia
 ·have a:=tk.tx
  rw [ahx pm]at a
  have b:=zs.tx
  simp only [strN,jg,aip,a]
  lia
theorem aov{pl:List Int}{Q:D -> S -> Prop}(h:PlZ pl)(fd:Fd s n c)(hc:c < 2^40)(kk: ∀(x:Int) (s2:S),(0 <=x/\x <=1000000000000) -> Fd s2 n (c+1) -> j4 n s s2 -> Q (.int x) s2):
  (jh [.ref n,.int ((pl.map aI).length:Int)] s).W (R.Wk (aq9 gIx (.lst (pl.map aI))) Q):=by
 rw [au]
 have:=h.few
 have:=h.pos
 refine R.W_mono (ke fd (by lia) (by lia) (by lia)) fun d s1 q=> ?_
 obtain⟨i,e,i0,i1,fd1,sm1⟩:=q
 rw [e];clear e
 obtain⟨j,rfl⟩:=za i (by assumption)
 have hj:j < pl.length:=by lia
 walk_at "go"
 rw [zz (p:=.int pl[j]) (by rw [a9,av hj];rfl)]
 walk_at "go"
 exact kk _ _ (h.ok _ (bR hj)) fd1 sm1
theorem akr{l:List Str}(h: ∀x∈l,jz x=true):(l.map ag).all okD=true:=ao.mpr fun d hd=> by
 obtain⟨x,hx,rfl⟩:=aR.mp hd
 exact km (h x hx)
structure PaJ (s:S) (n c:Nat) (ps:List Str) (r acc:List D) (s':S):Prop where
 ex: ∃(l rs:List Str) (c':Nat),acc=l.map (fun x=> D.str x)/\r=(rs.map ag).map D.da/\(l++rs).Sublist ps/\Fd s' n c'/\c'+rs.length <=c+ps.length/\j4 n s s'
theorem a10{T b:Nat}{qs:List Str}{pl:List Int}(h:Fd s n c)(hT0:0 < T)(hT:T <=3)(hb:b <=2)(hps: ∀x∈ps,jz x=true)(hnd:ps.Nodup)(hp5:ps.length <=4)(hpl:PlZ pl)(hq: ∀x∈ps,x∈qs)(hc:c+1000 < 2^40):
  DW (zq [.ref n,.int (T:Int),.lst (ps.map ag),.int (b:Int),.lst (pl.map aI)] s) fun d s'=> ∃st:aa,d=.da st/\StK T b qs st/\Fd s' n (c+100)/\j4 n s s':=by
 refine⟨?_⟩
 rw [aq6];unfold B_law_step
 walk_at "go"
 rw [ko (ρ0:=[none,some (.ref n)]) (by simp;lia) rfl,R.W_bindk]
 refine R.W_mono (aab (Q:=fun xs s'=> ∃(l:List Str),xs=l.map (fun x=> D.str x)/\l.Sublist ps/\Fd s' n (c+ps.length)/\j4 n s s') (PaJ s n c ps) ?_ ?_ _ [] s ⟨[],ps,c,rfl,rfl,List.Sublist.refl _,h,aD _,j4.refl _ _⟩) ?_
 ·rintro d r acc s' ⟨l,rs,c',ha,hr,hl,fd,hcc,sm⟩
  cases rs with
  |nil=> cases hr
  | cons y rs=>
   rw [aN,aN,dJ]at hr
   obtain⟨rfl,rfl⟩:=hr
   refine⟨[some (.str y),some (.ref n)],rfl,?_⟩
   walk_at "go"
   refine R.W_mono (ke fd (by decide) (by decide) (by simp at hcc;lia)) fun d s1 q=> ?_
   obtain⟨i,e,i0,i1,fd1,sm1⟩:=q
   rw [e];clear e
   walk_at "go"
   rw [yi]
   by_cases e:i=0
   ·rw [decide_eq_true e]
    walk_at "go"
    exact⟨l++ [y],rs,c'+1,by rw [ha];simp,rfl,by rw [bW];exact hl,fd1,by simp at hcc;lia,sm.trans sm1⟩
   ·rw [decide_eq_false e]
    walk_at "go"
    exact⟨l,rs,c'+1,ha,rfl,(List.Sublist.append_left (List.sublist_cons_self y rs) l).trans hl,fd1,by simp at hcc;lia,sm.trans sm1⟩
 ·rintro acc s' ⟨l,rs,c',ha,hr,hl,fd,hcc,sm⟩
  exact⟨l,ha,(eA _ _).trans hl,fd.le (by lia),sm⟩
 ·rintro ds s1 ⟨xs,e,hsub,fd1,sm1⟩
  rw [cN]at e
  subst e
  have hl:=hsub.length_le
  have hx: ∀x∈xs,x∈ps:=fun x m=> hsub.subset m
  have xnd:xs.Nodup:=hnd.sublist hsub
  have hxs: ∀y∈xs,jz y=true:=fun y hy=> hps y (hx y hy)
  walk_at "go"
  rw [show xs.map (fun x=> D.str x)=(xs.map ag).map D.da by rw [aU];rfl]
  walk_at "go"
  have hn:n < s.length:=h.lt
  have hs1:=sm1.len
  have g0:GrZ s (s1++ [O.lst [],O.lst [],O.lst [],O.lst [.ref s1.length,.ref (s1.length+1),.ref (s1.length+2)]]) n s1.length (fun _=> []) []:=by
   refine⟨fun i hi=> ?_,?_,⟨hs1,hn⟩,ga _,sm1.trans ((Ext.add s1 _).same n)⟩
   ·have:i=0\/i=1\/i=2:=by lia
    rcases this with rfl|rfl|rfl <;> simp [a8]
   ·simp [a8]
  have fd2:=fd1.ext (Ext.add s1 [O.lst [],O.lst [],O.lst [],O.lst [.ref s1.length,.ref (s1.length+1),.ref (s1.length+2)]])
  generalize (s1++ [O.lst [],O.lst [],O.lst [],O.lst [.ref s1.length,.ref (s1.length+1),.ref (s1.length+2)]])=s2 at g0 fd2⊢
  generalize s1.length=g at g0⊢
  clear sm1 fd1 hs1
  show (qf (.nm 7) s1B _ _ _ _).W _
  refine aae (S1J s n g (c+ps.length) b (.int (T:Int)) (.lst (ps.map ag)) (.int (b:Int)) (.lst (pl.map aI)) xs) ?_ ?_ _ _ _ ⟨[],xs,_,[],_,none,rfl,rfl,g0,ZsK.nil b,fd2,aD _,rfl⟩
  ·rintro d r ρ s' ⟨ys,rs,G,Z,c',u,e2,hr,gr,zs,fd,hcc,rfl⟩
   cases rs with
   |nil=> cases e2
   | cons y rs=>
    rw [aN,aN,dJ]at e2
    obtain⟨rfl,rfl⟩:=e2
    refine⟨[some (.ref n),some (.int (T:Int)),some (.lst (ps.map ag)),some (.int (b:Int)),some (.lst (pl.map aI)),some (.lst (xs.map ag)),some (.ref (g+3)),some (.str y),none,none,none,none,none],rfl,?_⟩
    unfold s1B
    have hm:y∈xs:=by rw [hr];simp
    have hny:y∉ys:=fun m=> by
     rw [hr,gi]at xnd
     exact xnd.2.2 y m y ax rfl
    have hyl:ys.length <=4:=by
     have:=congrArg lS hr
     simp only [bj]at this
     lia
    have hz:=zs.ln
    simp only [aP]at hcc
    refine put_ok (p:=.tuple [.str "port",.str y]) gr fd (by lia) (by lia) (fun _=> rfl) (fun _=> rfl) (fun _=> rfl) fun G3 s3 gr3 fd3=> ?_
    exact⟨ys++ [y],rs,G3,_,c'+1,_,rfl,by rw [hr];simp,gr3,zs.port (hxs y hm) hny,fd3,by lia,rfl⟩
  ·rintro ρ s' ⟨ys,rs,G,Z,c',u,e2,hr,gr,zs,fd,hcc,rfl⟩
   have hrs:rs=[]:=by
    cases rs with
    |nil=> rfl
    |cons _ _=> cases e2
   rw [hrs,bP]at hr
   subst hr
   have hcc:c' <=c+10:=by lia
   clear e2 hrs g0 fd2
   walk_at "go"
   rw [aa7 (by lia) (by lia),show ((b:Int)).toNat=b from cy _]
   walk_at "go"
   show (qf (.nm 8) s2B _ _ _ _).W _
   refine aae (S2J s n g (c+10) b (.int (T:Int)) (.lst (ps.map ag)) (.int (b:Int)) (.lst (pl.map aI)) xs u) ?_ ?_ _ _ _ ⟨0,G,Z,c',none,none,rfl,bX _,gr,zs,fd,by lia,rfl⟩
   ·rintro d r ρ s3 ⟨j,G,Z,c',u8,u9,hr,hj,gr,zs,fd,hcc,rfl⟩
    by_cases hjb:j < b
    ·rw [ai5 (show j < b by assumption),v8,dJ]at hr
     obtain⟨rfl,rfl⟩:=hr
     refine⟨[some (.ref n),some (.int (T:Int)),some (.lst (ps.map ag)),some (.int (b:Int)),some (.lst (pl.map aI)),some (.lst (xs.map ag)),some (.ref (g+3)),u,some (.int (j:Int)),u9,none,none,none],rfl,?_⟩
     refine a0e gr zs (by lia) hb fd (by lia) hjb fun G' Z' u' s4 gr4 zs4 fd4=> ?_
     exact⟨j+1,G',Z',c'+3,_,_,by rw [gD],hjb,gr4,zs4,fd4,by lia,rfl⟩
    ·rw [show b - j=0 by lia]at hr
     cases hr
   ·rintro ρ s3 ⟨j,G,Z,c',u8,u9,hr,hj,gr,zs,fd,hcc,rfl⟩
    have zs4:ZsK b xs 4 Z:=zs.mono (by lia)
    have hcc:c' <=c+20:=by lia
    clear hr hj zs
    walk_at "go"
    have hgl:=(aC.mp gr.all).1
    have gr':GrZ s (s3++ [O.lst []]) n g G Z:=gr.same ((Ext.add s3 _).same n)
    have fd':=fd.ext (Ext.add s3 [O.lst []])
    have ht:(s3++ [O.lst []])[s3.length]?=some (.lst (([]:List aa).map D.da)):=by simp
    generalize (s3++ [O.lst []])=s4 at gr' fd' ht⊢
    generalize s3.length=t at hgl ht⊢
    rw [a4t gr'.all]
    walk_at "go"
    have hsrc: ∀ρ,kFor (.nm 11) s3B ρ ([.ref g,.ref (g+1),.ref (g+2)],some (g+3)) s4=qf (.nm 11) s3B ([.ref g,.ref (g+1),.ref (g+2)],some (g+3)) [.ref g,.ref (g+1),.ref (g+2)] ρ s4:=fun ρ=> vg (show ky _ s4 from gr'.all)
    show (kFor (.nm 11) s3B _ _ _).W _
    rw [hsrc]
    refine afl (S3J s n g t (c+20) b T G Z (.lst (ps.map ag)) (.int (b:Int)) (.lst (pl.map aI)) (.lst (xs.map ag)) u u8 u9) ?_ ?_ ?_ _ _ _ ⟨0,[],c',none,by decide,rfl,gr',by lia,ht,⟨fun t ht=> (by cases ht),aD _,ga _,rfl⟩,fd',by lia,rfl⟩
    ·rintro r ρ s5 ⟨i,ts,c',u',_,_,gr5,_⟩
     exact gr5.all
    ·rintro d r ρ s5 ⟨i,ts,c',u',hi,hr,gr5,htg,et,tk,fd5,hcc,rfl⟩
     by_cases hi3:i < 3
     ·have hdr:([.ref g,.ref (g+1),.ref (g+2)]:List D).drop i=.ref (g+i)::([.ref g,.ref (g+1),.ref (g+2)]:List D).drop (i+1):=by
       have:i=0\/i=1\/i=2:=by lia
       rcases this with rfl|rfl|rfl <;> rfl
      rw [hdr,dJ]at hr
      obtain⟨rfl,rfl⟩:=hr
      refine⟨[some (.ref n),some (.int (T:Int)),some (.lst (ps.map ag)),some (.int (b:Int)),some (.lst (pl.map aI)),some (.lst (xs.map ag)),some (.ref (g+3)),u,u8,u9,some (.ref t),some (.ref (g+i)),none],rfl,?_⟩
      refine ayk gr5 zs4 (by lia) hb hT0 hT hi3 htg et tk fd5 (by lia) fun ts' s6 tk6 gr6 et6 fd6=> ?_
      exact⟨i+1,ts',c'+4,_,hi3,rfl,gr6,htg,et6,tk6,fd6,by lia,rfl⟩
     ·rw [cv (by simp;lia)]at hr
      cases hr
    ·rintro ρ s5 ⟨i,ts,c',u',hi,hr,gr5,htg,et,tk,fd5,hcc,rfl⟩
     have hi3:i=3:=by
      by_cases z:i < 3
      ·exfalso
       have:=congrArg lS hr
       simp at this
       lia
      ·lia
     subst hi3
     walk_at "go"
     refine aov hpl fd5 (by lia) fun x s6 hx6 fd6 sm6=> ?_
     walk_at "go"
     rw [aej (by rw [au];lia) (aao xs) (akr hxs)]
     walk_at "go"
     have htl:=(aC.mp et).1
     obtain⟨b1,b2⟩:=gr5.big
     have et6:s6[t]?=some (.lst (ts.map D.da)):=by rw [sm6.get _ (by lia) htl];exact et
     rw [ajz et6]
     walk_at "go"
     refine aov hpl fd6 (by lia) fun y s7 hy7 fd7 sm7=> ?_
     walk_at "go"
     exact⟨_,rfl,az5 zs4 gr5.pm tk hxs (fun x m=> hq x (hx x m)) xnd (by lia) hx6 hy7,fd7.le (by lia),(gr5.sm.trans sm6).trans sm7⟩
theorem aqn(h:s[n]?=some (.lst (xs.map D.da)))(h1:okD (.tuple ys)=true)(h2:xs.all okD=true):yj (.tup ys) (.ref n) s=.ok (.bl (!xs.any fun d=> aE d (.tuple ys))) s:=by
 show ajf true (.tup ys) (.ref n) s=_
 unfold ajf
 rw [aow h,show toP s (.tup ys)=some (.tuple ys) from rfl]
 show (if okD (.tuple ys)=true/\xs.all okD=true then R.ok (D.bl (nb true (xs.any fun d=> aE d (.tuple ys)))) s else .bad)=_
 rw [if_pos ⟨h1,h2⟩];rfl
theorem StK.okD(h:StK T b ps d):okD d=true:=(xp h.is).1.okD (by decide)
theorem StK.new(h:StK T b ps d)(hs: ∀x∈sts,StK T b ps x)(e:(sts.any fun x=> aE x d)=false):d∉sts:=fun m=> by
 rw [gg]at e
 have:=e d m
 rw [azd (xp h.is).1.pl (xp h.is).1.pl,decide_eq_true rfl]at this
 exact this rfl
structure HdK (T:Int) (d:aa):Prop where
 ex:d=.none\/ ∃i:Int,d=.int i/\0 <=i/\i < T
theorem HdK.is(h:HdK T d):xy T d=true:=by
 rcases h.ex with rfl|⟨i,rfl,a,b⟩
 ·rfl
 ·simp only [xy,alg,jo,decide_eq_true a,decide_eq_true b,cp,Bool.or_true]
theorem HdK.lf(h:HdK T d)(hT:T <=3):Lf 0 d:=by
 rcases h.ex with rfl|⟨i,rfl,a,b⟩
 ·exact .none
 ·exact .int (by lia)
theorem HdK.bk(h:HdK T d):d.bulk <=0:=by
 rcases h.ex with rfl|⟨i,rfl,a,b⟩ <;> simp [bc]
theorem HdK.pk(h:HdK T d):PlK 1 d:=by
 rcases h.ex with rfl|⟨i,rfl,a,b⟩
 ·exact⟨by simp [plD],rfl,by simp [aA]⟩
 ·exact .int i
theorem aoz{T:Int}: ∀{ds:List aa},(∀x∈ds,HdK T x) -> jg ds=0
 |[],_=> by simp [jg]
 |x::r,h=> by
  have a:=aoz fun y hy=> h y (az _ hy)
  simp only [jg,a]
  rcases (h x ax).ex with rfl|⟨i,rfl,_⟩ <;> simp [strN]
structure HeJ (s:S) (n c b:Nat) (T:Int) (r acc:List D) (s':S):Prop where
 ex: ∃(h:List aa) (k c':Nat),acc=h.map D.da/\r=v8 k (b - k)/\k <=b/\h.length=k/\(∀x∈h,HdK T x)/\Fd s' n c'/\c' <=c+2*k/\j4 n s s'
theorem ata{b:Nat}(h:Fd s n c)(hb:b <=2)(hc:c+10 < 2^40)(step: ∀(k:Int) (s1:S) (c1:Nat),Fd s1 n c1 -> c1 <=c+4 -> ∃ρ1,qu (.nm 0) (.int k) ρ0=some ρ1/\(fe ρ1 s1).W fun d s2=> ∃o:aa,d=.da o/\HdK T o/\Fd s2 n (c1+2)/\j4 n s1 s2):
  (kl (.nm 0) kx fe ρ0 (v8 0 b,none) (v8 0 b) s).W fun ds s'=> ∃h:List aa,ds=h.map D.da/\h.length=b/\(∀x∈h,HdK T x)/\Fd s' n (c+4)/\j4 n s s':=by
 refine R.W_mono (aab (Q:=fun ds s'=> ∃h:List aa,ds=h.map D.da/\h.length=b/\(∀x∈h,HdK T x)/\Fd s' n (c+4)/\j4 n s s') (HeJ s n c b T) ?_ ?_ (v8 0 b) [] s ⟨[],0,c,rfl,rfl,bX _,rfl,(fun o ho=> by cases ho),h,by lia,j4.refl _ _⟩) fun ds s' q=> by rw [cN]at q;exact q
 ·rintro d r acc s' ⟨hh,k,c',ha,hr,hk,hl,ho,fd,hcc,sm⟩
  by_cases hkb:k < b
  ·rw [ai5 (show k < b by assumption),v8,dJ]at hr
   obtain⟨rfl,rfl⟩:=hr
   obtain⟨ρ1,e1,w⟩:=step (k:Int) s' c' fd (by lia)
   refine⟨ρ1,e1,?_⟩
   rw [aqw,R.W_ok,if_pos rfl]
   refine R.W_mono w fun d s2 q=> ?_
   obtain⟨o,rfl,hx,fd2,sm2⟩:=q
   refine⟨hh++ [o],k+1,c'+2,by rw [ha];simp,by rw [gD],hkb,by simp [hl],fun x m=> ?_,fd2,by lia,sm.trans sm2⟩
   rcases aL.mp m with z|z
   ·exact ho x z
   ·rw [aO.mp z];exact hx
  ·rw [show b - k=0 by lia]at hr
   cases hr
 ·rintro acc s' ⟨hh,k,c',ha,hr,hk,hl,ho,fd,hcc,sm⟩
  have hkb:k=b:=by
   by_cases z:k < b
   ·rw [ai5 (show k < b by assumption)]at hr
    cases hr
   ·lia
  exact⟨hh,ha,by lia,ho,fd.le (by lia),sm⟩
theorem a23{x:Int}(hj:j < 2)(h0:0 <=x)(h1:x < T): ∃o:aa,gIx (.lst [.none,.int x]) (.int (j:Int)) s=.ok (.da o) s/\HdK T o:=by
 have:j=0\/j=1:=by lia
 rcases this with rfl|rfl
 ·exact⟨_,il0,⟨.inl rfl⟩⟩
 ·exact⟨_,il1,⟨.inr ⟨x,rfl,h0,h1⟩⟩⟩
structure McJ (s:S) (n g c b:Nat) (T:Nat) (qs:List Str) (ps mo pl bx:D) (M:Nat) (r:List D) (ρ:En) (s':S):Prop where
 ex: ∃(sts:List aa) (c':Nat) (u v:Option D),sts.length+r.length <=M/\s'[g]?=some (.lst (sts.map D.da))/\(∀st∈sts,StK T b qs st)/\sts.Nodup/\Fd s' n c'/\c'+100*r.length <=c+100*M/\j4 n s s'/\s.length <=g/\n < s.length/\
  ρ=[some (.ref n),some (.int (T:Int)),some ps,some mo,some pl,some bx,some (.ref g),u,v,none]
def mcB:FS:=(je (j5 8 (jd 5 zq (ja (jb 0) (ja (jb 1) (ja (jb 2) (ja (jb 5) (ja (jb 4) jc)))))))
  (jp (ji (fOp yj (jb 8) (jb 6))) (xk (fMt k7 (jb 6) (ja (jb 8) jc))) jl))
theorem mc_turn{g b T M:Nat}{qs:List Str}{pl:List Int}{mo:D}{d:D}{r:List D}{Q:Fl -> S -> Prop}(hT0:0 < T)(hT:T <=3)(hb:b <=2)(hps: ∀x∈ps,jz x=true)(hnd:ps.Nodup)(hp5:ps.length <=4)(hpl:PlZ pl)(hq: ∀x∈ps,x∈qs)(hM:M <=10)(hc:c+5000 < 2^40)(J:McJ s n g c b T qs (.lst (ps.map ag)) mo (.lst (pl.map aI)) (.int (b:Int)) M (d::r) ρ s'):
  ∃ρ1,qu (.nm 7) d ρ=some ρ1/\(mcB ρ1 s').W (flW (McJ s n g c b T qs (.lst (ps.map ag)) mo (.lst (pl.map aI)) (.int (b:Int)) M r) Q):=by
 obtain⟨sts,c',u,v,hl,eg,hst,snd,fd,hcc,sm,hsg,hn,rfl⟩:=J.ex
 rw [aP]at hl hcc
 refine⟨[some (.ref n),some (.int (T:Int)),some (.lst (ps.map ag)),some mo,some (.lst (pl.map aI)),some (.int (b:Int)),some (.ref g),some d,v,none],rfl,?_⟩
 have q:=a10 (s:=s') (n:=n) (c:=c') (T:=T) (b:=b) fd hT0 hT hb hps hnd hp5 hpl hq (by lia)
 unfold mcB
 generalize zq=FS1 at q⊢
 walk_at "go"
 refine q.mono fun d1 s1 q=> ?_
 obtain⟨st,e,so,fd1,sm1⟩:=q
 rw [e];clear e
 obtain⟨_,xs,rfl⟩:=xp so.is
 walk_at "go"
 have hgl:=(aC.mp eg).1
 have eg1:s1[g]?=some (.lst (sts.map D.da)):=by rw [sm1.get _ (by lia) hgl];exact eg
 have hok:sts.all okD=true:=ao.mpr fun d hd=> (hst d hd).okD
 rw [aqn eg1 so.okD hok]
 cases ha:sts.any fun d=> aE d (.tuple xs) with
 |true=>
  walk_at "go"
  exact⟨sts,c'+100,_,_,by lia,eg1,hst,snd,fd1,by lia,sm.trans sm1,hsg,hn,rfl⟩
 | false=>
  walk_at "go"
  rw [ahy eg1]
  walk_at "go"
  rw [abu eg1 (by simp;lia)]
  walk_at "go"
  refine⟨sts++ [.tuple xs],c'+100,_,_,by simp;lia,?_,fun x hx=> ?_,ai0 snd (so.new hst ha),fd1.set (by lia),by lia,(sm.trans sm1).own hsg,hsg,hn,rfl⟩
  ·rw [bI (by have:=sm1.len;lia)];simp
  ·rcases aL.mp hx with z|z
   ·exact hst x z
   ·rw [aO.mp z];exact so
noncomputable def plc:List (List Int):=[[4],[0,1],[1,0],[1000000000000,3,0]]
theorem a42: ∀p∈plc,PlZ p:=by
 intro p hp
 simp only [plc,ay,aX,or_false]at hp
 rcases hp with rfl|rfl|rfl|rfl <;> exact⟨by decide,by decide,by decide⟩
theorem ax3{P:aa -> Prop}{b c e:aa}(ha:P a)(hb:P b)(hc:P c)(hd:P d)(he:P e): ∀x∈ [a,b,c,d,e],P x:=by
 intro x hx
 (simp only [ay,aX,or_false]at hx)
 rcases hx with rfl|rfl|rfl|rfl|rfl
 ·exact ha
 ·exact hb
 ·exact hc
 ·exact hd
 ·exact he
theorem azp{x:Int}{qs:List Str}{hs:List aa}(hT0:0 < T)(hT:T <=3)(hb0:0 <=b)(hb:b <=2)(hq: ∀x∈qs,jz x=true)(rs:jx (qs.map ag)=true)(hql:qs.length <=4)(hx:0 <=x/\x <=1000000000000)(hl:(hs.length:Int)=b)(hh: ∀x∈hs,HdK T x)(hst: ∀st∈sts,StK T b qs st)(snd:sts.Nodup)(sl:sts.length <=4):
  kh (.tuple [.int T,.tuple (qs.map ag),.int b,.tuple [.int x,.tuple hs],.tuple sts])=true/\It0 (.tuple [.int T,.tuple (qs.map ag),.int b,.tuple [.int x,.tuple hs],.tuple sts]):=by
 refine⟨?_,?_,?_,?_,?_⟩
 ·show (vt (.int T)&&(kd (.tuple (qs.map ag))&&(jm 0 (.int b)&&(yz T b (.tuple [.int x,.tuple hs])&&(sts.all (k9 T b (yu (qs.map ag)))&&decide ((ud sts).length=sts.length))))))=true
  have h1:vt (.int T)=true:=by simp only [vt,decide_eq_true (show 1 <=T by lia),decide_eq_true hT,cp]
  have h2:kd (.tuple (qs.map ag))=true:=by
   show ((qs.map ag).all kj&&jx (qs.map ag))=true
   rw [rs,ao.mpr fun z hz=> ?_]
   ·rfl
   ·obtain⟨q,m,rfl⟩:=aR.mp hz
    exact hq q m
  have h3:jm 0 (.int b)=true:=decide_eq_true hb0
  have h4:yz T b (.tuple [.int x,.tuple hs])=true:=by
   show (decide (0 <=x)&&(decide ((hs.length:Int)=b)&&hs.all (xy T)))=true
   rw [decide_eq_true hx.1,decide_eq_true hl,ao.mpr fun z hz=> (hh z hz).is];rfl
  rw [zf,h1,h2,h3,h4,ao.mpr fun z hz=> (hst z hz).is,decide_eq_true ((afj sts).mpr snd)];rfl
 ·refine .tup (by simp) (ax3 (.int (by lia)) (.tup (by simp;lia) fun z hz=> ?_) (.int (by lia)) (.tup (by simp) (aca (.int (by lia)) (.tup (by lia) fun z hz=> (hh z hz).lf hT))) (.tup (by lia) fun z hz=> (hst z hz).lf))
  obtain⟨q,m,rfl⟩:=aR.mp hz
  exact abl (hq q m)
 ·have a:=abm (N:=514) (ds:=sts) fun z hz=> (hst z hz).bk
  have b:=apj hq
  have c:=abm (N:=0) (ds:=hs) fun z hz=> (hh z hz).bk
  simp only [bc,aB]
  lia
 ·have h:=PlK.tup (k:=7) (ax3 ((PlK.int T).mono (by decide)) ((PlK.tup (ds:=qs.map ag) (k:=1) fun z hz=> by
   obtain⟨q,m,rfl⟩:=aR.mp hz
   exact .str (km (hq q m))).mono (by decide)) ((PlK.int b).mono (by decide)) ((PlK.tup (aca ((PlK.int x).mono (by decide)) (PlK.tup fun z hz=> (hh z hz).pk))).mono (by decide)) (PlK.tup fun z hz=> (xp (hst z hz).is).1))
  exact h.dp
 ·refine ax3 (P:=Sz 1 16) ?_ ?_ ?_ ?_ ?_
  ·exact fun y hy=> by cases hy
  ·intro y hy
   have hy:y∈qs.map ag:=hy
   obtain⟨q,m,rfl⟩:=aR.mp hy
   show strN (.str q) <=16
   simp [strN]
  ·exact fun y hy=> by cases hy
  ·refine aca (P:=Sz 0 16) ?_ ?_
   ·show strN (.int x) <=16
    simp [strN]
   ·show strN (.tuple hs) <=16
    simp only [strN,aoz hh]
    lia
  ·exact fun y hy=> (hst y hy).sn
theorem a34:ase:=by
 intro s n c T ps h hT0 hT hps hnd hp5 hc
 rw [al2];unfold B_law_machine
 walk_at "go"
 rw [ahp (by decide) (by decide) (by decide)]
 walk_at "go"
 refine R.W_mono (ke h (by decide) (by decide) (by lia)) fun d s1 q=> ?_
 obtain⟨i,e,i0,i1,fd1,sm1⟩:=q
 rw [e];clear e
 obtain⟨j,rfl⟩:=za i (by assumption)
 have hj:j < plc.length:=by show j < 4;lia
 walk_at "go"
 rw [show (10:Int)^Int.toNat 12=1000000000000 from by decide]
 rw [zz (p:=.list (plc[j].map aI)) (by
  have:([.list [.int 4],.list [.int 0,.int 1],.list [.int 1,.int 0],.list [.int 1000000000000,.int 3,.int 0]]:List aa)=plc.map fun l=>.list (l.map aI):=rfl
  rw [this,a9,av hj];rfl)]
 have hpl:=a42 _ (bR hj)
 generalize plc[j]=pl at hpl⊢
 walk_at "go"
 refine R.W_mono (ke fd1 (by decide) (by decide) (by lia)) fun d s2 q=> ?_
 obtain⟨i,e,b0,b1,fd2,sm2⟩:=q
 rw [e];clear e
 obtain⟨b,rfl⟩:=za i (by assumption)
 have hb:b <=2:=by lia
 walk_at "go"
 have hn:=h.lt
 have sm3:=(sm1.trans sm2).trans ((Ext.add s2 [O.lst []]).same n)
 have fd3:=fd2.ext (Ext.add s2 [O.lst []])
 have eg:(s2++ [O.lst []])[s2.length]?=some (.lst (([]:List aa).map D.da)):=by simp
 have hsg:s.length <=s2.length:=(sm1.trans sm2).len
 generalize (s2++ [O.lst []])=s3 at sm3 fd3 eg⊢
 generalize s2.length=g at eg hsg⊢
 refine R.W_mono (ke fd3 (by decide) (by decide) (by lia)) fun d s4 q=> ?_
 obtain⟨i,e,r0,r1,fd4,sm4⟩:=q
 rw [e];clear e
 obtain⟨r,rfl⟩:=za i (by assumption)
 walk_at "go"
 rw [aa7 (by lia) (by lia),show ((r:Int)).toNat=r from cy _]
 walk_at "go"
 have hgl:=(aC.mp eg).1
 have eg4:s4[g]?=some (.lst (([]:List aa).map D.da)):=by rw [sm4.get _ (by lia) hgl];exact eg
 obtain⟨qs,eq,pq⟩:=aen ps
 have rs:=aep (aao ps) (acb hnd)
 rw [eq]at rs
 show (qf (.nm 7) mcB _ _ _ _).W _
 refine aae (McJ s n g (c+3) b T qs (.lst (ps.map ag)) (.int 4) (.lst (pl.map aI)) (.int (b:Int)) r) ?_ ?_ _ _ _ ⟨[],c+3,none,none,by rw [k8];simp,eg4,(fun st hst=> by cases hst),.nil,fd4,by rw [k8];lia,sm3.trans sm4,hsg,hn,rfl⟩
 ·intro d r' ρ s5 J
  exact mc_turn hT0 hT hb hps hnd hp5 hpl (fun x m=> pq.mem_iff.mpr m) (by lia) (by lia) J
 ·rintro ρ s5 ⟨sts,c',u,v,hl,eg5,hst,snd,fd5,hcc,sm5,_,_,rfl⟩
  simp only [dP]at hl hcc
  walk_at "go"
  rw [aa7 (by lia) (by lia),show ((b:Int)).toNat=b from cy _]
  walk_at "go"
  rw [ko (ρ0:=[none,some (.ref n),some (.int (T:Int))]) (by rw [k8];lia) rfl,R.W_bindk]
  refine R.W_mono (ata (T:=T) fd5 hb (by lia) fun k s6 c6 fd6 hc6=> ⟨[some (.int k),some (.ref n),some (.int (T:Int))],rfl,?_⟩) fun ds s6 q=> ?_
  ·walk_at "go"
   refine R.W_mono (ke fd6 (by lia) (by lia) (by lia)) fun d s7 q=> ?_
   obtain⟨x,e,x0,x1,fd7,sm7⟩:=q
   rw [e];clear e
   walk_at "go"
   refine R.W_mono (ke fd7 (by decide) (by decide) (by lia)) fun d s8 q=> ?_
   obtain⟨y,e,y0,y1,fd8,sm8⟩:=q
   rw [e];clear e
   obtain⟨y,rfl⟩:=za y (by assumption)
   walk_at "go"
   obtain⟨o,eo,ho⟩:=a23 (s:=s8) (x:=x) (T:=T) (j:=y) (by lia) x0 x1
   rw [eo]
   walk_at "go"
   exact⟨_,rfl,ho,fd8,sm7.trans sm8⟩
  ·obtain⟨hd,rfl,hdl,hdo,fd6,sm6⟩:=q
   walk_at "go"
   rw [aej (by rw [au];lia) (aao ps) (akr hps),eq]
   walk_at "go"
   have hpos:=hpl.pos
   rw [show∀s2,gIx (.lst (pl.map aI)) (.int 0) s2=.ok (.int pl[0]) s2 from fun s2=> zz (k:=0) (by rw [a9,av hpos];rfl)]
   walk_at "go"
   have hgl5:=(aC.mp eg5).1
   have eg6:s6[g]?=some (.lst (sts.map D.da)):=by rw [sm6.get _ (by lia) hgl5];exact eg5
   rw [ajz eg6]
   walk_at "go"
   have hql:=pq.length_eq
   obtain⟨mm,it⟩:=azp (T:=T) (b:=b) (x:=pl[0]) (qs:=qs) (hs:=hd) (sts:=sts) (by lia) (by lia) (by lia) (by lia) (fun x m=> hps x (pq.mem_iff.mp m)) rs (by lia) (hpl.ok _ (bR hpos)) (by lia) hdo hst snd (by lia)
   exact⟨_,rfl,mm,it,fd6.le (by lia),sm5.trans sm6⟩
theorem avr(ns:List Int):(aqg [.frz (ns.map aI)] []).W fun d _=> d=.bl true:=aw6 a34 ns
def BN(x:Str)(st:Stmt)(ps:List Str)(us:List af):Prop:= ∀(kV doc pm:af) (an:Option Addr) (cdv ct:af),bindArgs (dg x x (aat st) (xo st) (jf st) .none kV doc pm an cdv ct) ⟨us,[]⟩=pure (ps.zip us)
theorem bd1{p0:Str}(h: ∀a0,BN x st [p0] [a0]): ∀us,us.length=1 -> BN x st [p0] us|[a0],_=> h a0
theorem bd2{p0 p1:Str}(h: ∀a0 a1,BN x st [p0,p1] [a0,a1]): ∀us,us.length=2 -> BN x st [p0,p1] us|[a0,a1],_=> h a0 a1
theorem bd3{p0 p1 p2:Str}(h: ∀a0 a1 a2,BN x st [p0,p1,p2] [a0,a1,a2]): ∀us,us.length=3 -> BN x st [p0,p1,p2] us|[a0,a1,a2],_=> h a0 a1 a2
theorem bd4{p0 p1 p2 p3:Str}(h: ∀a0 a1 a2 a3,BN x st [p0,p1,p2,p3] [a0,a1,a2,a3]): ∀us,us.length=4 -> BN x st [p0,p1,p2,p3] us|[a0,a1,a2,a3],_=> h a0 a1 a2 a3
theorem bd5{p0 p1 p2 p3 p4:Str}(h: ∀a0 a1 a2 a3 a4,BN x st [p0,p1,p2,p3,p4] [a0,a1,a2,a3,a4]): ∀us,us.length=5 -> BN x st [p0,p1,p2,p3,p4] us|[a0,a1,a2,a3,a4],_=> h a0 a1 a2 a3 a4
theorem a4v(X:K.In h)(G:h.Ns b7 mg){f:Addr}{od an:Option Addr}{oc kV dc pm cd ct:af}(a:fQ K b7 x=some (some (.ref f)))(l:K.lookup f=some ⟨oc,od,.func (dg x x (aat st) (xo st) (jf st) .none kV dc pm an cd ct),sl⟩)(c:f6 K cd x=true)(k:eS K (.ref f)=true)(b: ∀us,us.length=ps.length -> BN x st ps us):Has K mg x st ps:=
 ⟨f,_,anj (st:=st) l c k,fz X G a,(anj (st:=st) l c k).binds fun kV doc pm an cdv ct us hl=> b us hl kV doc pm an cdv ct⟩
theorem a2r(X:K.In h)(G:h.Ns b7 mg){g:Addr}{od:Option Addr}{its:Array af}(a:fQ K b7 x=some (some (.ref g)))(l:K.lookup g=some ⟨.type "tuple",od,.seq its n,sl⟩)(hz:its.size <=1000)(hv:jn vs its.toList):awe K mg x vs:=
 ⟨g,fz X G a,fun H=>.inr ⟨_,its,n,l,rfl,rfl,fI (auq hz),hv⟩⟩
theorem a45{l:jA}{fa f:Addr}{od an:Option Addr}{oc kV dc pm cd ct:af}(X:K.In h)(G:h.Ns b7 mg)(hfa:mg "law"=some (.ref fa))(a:fQ K b7 "law"=some (some (.ref f)))(l0:K.lookup f=some ⟨oc,od,.func (dg "law" "law" (aat abr) (xo abr) (jf abr) .none kV dc pm an cd ct),sl⟩)(c:f6 K cd "law"=true)(k:eS K (.ref f)=true)(T:Txt0 K mg):
  ∃fd:fK,(∀(s:ak) (v:af),jW s fd ⟨[v],[]⟩ [("_law_script",v)])/\ ∀base:Heap,K.In base -> base.Ns b7 mg -> FnOk l.prog w K mg base CX0 18 fa fd ["_law_script"] (ald K):=by
 have e:=hfa.symm.trans (fz X G a)
 cases e
 exact⟨dg "law" "law" (aat abr) (xo abr) (jf abr) .none kV dc pm an cd ct,fun s v=>.of_eq rfl,fun base _ _=> a4b (a6i (anj (st:=abr) l0 c k) T) fun ns _=> avr ns⟩
theorem a43{l:jA}{q:bz}{loose:List Str}{XP:(Str -> Option af) -> Heap -> Prop}{YP:bw -> Heap -> Prop}{d:DefRec}{K:Params -> aw}(hn:l.most=some 63)(hdf:d.params.defaults=[])
  (hY: ∀(w:bw) (h:Heap),YP w h -> (K w.params).In h)
  (F: ∀(w:bw) (mg:Str -> Option af) (fa:Addr) (h:Heap),(K w.params).In h -> h.Ns b7 mg -> mg d.name=some (.ref fa) ->
   ∃fd:fK,(∀(s:ak) (u:af),jW s fd ⟨[u],[]⟩ [("_law_script",u)])/\ ∀base:Heap,(K w.params).In base -> base.Ns b7 mg -> FnOk l.prog w (K w.params) mg base CX0 18 fa fd ["_law_script"] (ald (K w.params))):
  PySem.W.WalkO q loose XP YP l.row.toRowW d [] (fun f vs=> PySem.call f vs):=
 L2.a04 (n:=63) (k:=18) (x:="_law_script") (CX:=fun _=> CX0) (sp:=fun w=> ald (K w.params)) hn (by decide) hdf ⟨rfl,by decide,by decide,rfl⟩ hY F (fun _ _ a ns hl _ hS=> ⟨a,ns,rfl,hS,hl,fun _=> rfl⟩) fun _ _ _ _ _ z=> z
end Ln
open PySem PySem.W PyProof.Rows
local macro_rules | `(tactic| walk_at "hm") => do
 let X := cH `KX
 let G := cH `G
 `(tactic| refine Ln.a4v $X $G (by k_is) (by k_is) (by k_is) (by k_is) ?_)
namespace PySem.W.Fast
def tw11805987587678503575:=()
def tw13672456533947529275:=()
def tw13897115305021433345:=()
def tw2462396837112496146:=()
def tw15701529514343860785:=()
def tw12958024377870900854:=()
def tw7680281170913088139:=()
def tw11724116920330612009:=()
def tw3612953066929111126:=()
def tw10106657247225937656:=()
def tw17722558778799112647:=()
def tw11866126622836751651:=()
def tw7783832623122224148:=()
def tw6447048064049838022:=()
def tw7920555524959959975:=()
def tw10177529833638726785:=()
def tw9571538344957005922:=()
def tw4191070646972382562:=()
def tw2747622828364570614:=()
def tw15953208437819279874:=()
def tw20845974097759990:=()
def tw8988043845376417763:=()
def tw14152391031077685889:=()
def tw16694963136987015425:=()
def tw17746347790607768322:=()
def tw2429536023753610963:=()
def tw6473000787163641182:=()
def tw1401810488279317074:=()
def tw241073057105111398:=()
def tw12358974603736274970:=()
def tw7229157207791389055:=()
def tw10168143836070240473:=()
def tw11764322909182048432:=()
def tw8604056915241923823:=()
def tw1024272377441620691:=()
def tw2186133601841861403:=()
def tw1912676285653123322:=()
def tw12993971848649527367:=()
def tw6870875029804859266:=()
def tw13447848074714584994:=()
def tw17182058299066546113:=()
def tw14786482150048050207:=()
def tw862684647586588461:=()
def tw18006821043879061215:=()
def tw3183870558248248363:=()
def tw13972476546436213634:=()
def tw6552188059004266681:=()
def tw15307287172993339007:=()
def tw9252975931629287601:=()
def tw11477558907433433786:=()
def tw3992164881135018627:=()
def tw10046761606833730334:=()
def tw4999501587536980015:=()
def tw5788266911174242868:=()
def tw16409404333437544448:=()
def tw3472401484911062940:=()
def tw6515986717686964908:=()
def tw14171559817128556904:=()
def tw6120603910376505597:=()
def tw7429228885207327435:=()
def tw9609494319492845016:=()
def tw3538153859485074461:=()
def tw14728021133319332552:=()
def tw4980264564509286307:=()
def tw14139222868159697824:=()
def tw1207162710674027233:=()
def tw15196774612547856426:=()
def tw17620891963884955910:=()
def tw4125439673135244566:=()
def tw17251792469453714423:=()
def tw4525972193442978684:=()
def tw2364394522946360347:=()
def tw10248988649495101514:=()
def tw5409899231428094637:=()
def tw12187283979876572591:=()
def tw2082440975426721884:=()
def tw5072483168482083579:=()
def tw5785873519601132370:=()
def tw5192881673268347394:=()
def tw10003944561277277430:=()
def tw14838999414223065867:=()
def tw5289008497868543187:=()
def tw9975128266995377033:=()
def tw3439405241491407747:=()
def tw8934967434024811460:=()
def tw9761112720649131690:=()
def tw6659255050375050251:=()
def tw14970639039414580508:=()
def tw89430399798525249:=()
def tw8872394107761203268:=()
end PySem.W.Fast
set_option maxRecDepth 100000 in
set_option maxHeartbeats 0 in
theorem PySem.Challenge.cw_mannerports_k25_what_is_a_machine_holds : PySem.Challenge.rw_mannerports_k25_what_is_a_machine.Holds := by
 w_on;o_law;k_head;(case hw=> w_witness2)
 k_fill
 refine Ln.a43 (l:=dS) rfl rfl (fun w h Y=> PySem.W.kIn_of Y) ?F
 case F=>
  intro w mg fa h KX G hmg
  refine Ln.a45 KX G hmg (by k_is) (by k_is) (by k_is) (by k_is) ?_
  constructor
  ·walk_at "hm";exact Ln.bd1 fun _ _ _ _ _ _ _=> rfl
  ·walk_at "hm";exact Ln.bd1 fun _ _ _ _ _ _ _=> rfl
  ·walk_at "hm";exact Ln.bd2 fun _ _ _ _ _ _ _ _=> rfl
  ·walk_at "hm";exact Ln.bd1 fun _ _ _ _ _ _ _=> rfl
  ·walk_at "hm";exact Ln.bd1 fun _ _ _ _ _ _ _=> rfl
  ·walk_at "hm";exact Ln.bd1 fun _ _ _ _ _ _ _=> rfl
  ·walk_at "hm";exact Ln.bd1 fun _ _ _ _ _ _ _=> rfl
  ·walk_at "hm";exact Ln.bd1 fun _ _ _ _ _ _ _=> rfl
  ·walk_at "hm";exact Ln.bd2 fun _ _ _ _ _ _ _ _=> rfl
  ·walk_at "hm";exact Ln.bd2 fun _ _ _ _ _ _ _ _=> rfl
  ·walk_at "hm";exact Ln.bd2 fun _ _ _ _ _ _ _ _=> rfl
  ·walk_at "hm";exact Ln.bd1 fun _ _ _ _ _ _ _=> rfl
  ·walk_at "hm";exact Ln.bd3 fun _ _ _ _ _ _ _ _ _=> rfl
  ·walk_at "hm";exact Ln.bd4 fun _ _ _ _ _ _ _ _ _ _=> rfl
  ·walk_at "hm";exact Ln.bd3 fun _ _ _ _ _ _ _ _ _=> rfl
  ·walk_at "hm";exact Ln.bd2 fun _ _ _ _ _ _ _ _=> rfl
  ·walk_at "hm";exact Ln.bd1 fun _ _ _ _ _ _ _=> rfl
  ·walk_at "hm";exact Ln.bd2 fun _ _ _ _ _ _ _ _=> rfl
  ·walk_at "hm";exact Ln.bd2 fun _ _ _ _ _ _ _ _=> rfl
  ·walk_at "hm";exact Ln.bd2 fun _ _ _ _ _ _ _ _=> rfl
  ·walk_at "hm";exact Ln.bd5 fun _ _ _ _ _ _ _ _ _ _ _=> rfl
  ·walk_at "hm";exact Ln.bd4 fun _ _ _ _ _ _ _ _ _ _=> rfl
  ·walk_at "hm";exact Ln.bd1 fun _ _ _ _ _ _ _=> rfl
  ·walk_at "hm";exact Ln.bd2 fun _ _ _ _ _ _ _ _=> rfl
  ·walk_at "hm";exact Ln.bd2 fun _ _ _ _ _ _ _ _=> rfl
  ·walk_at "hm";exact Ln.bd2 fun _ _ _ _ _ _ _ _=> rfl
  ·walk_at "hm";exact Ln.bd2 fun _ _ _ _ _ _ _ _=> rfl
  ·walk_at "hm";exact Ln.bd1 fun _ _ _ _ _ _ _=> rfl
  ·walk_at "hm";exact Ln.bd1 fun _ _ _ _ _ _ _=> rfl
  ·walk_at "hm";exact Ln.bd1 fun _ _ _ _ _ _ _=> rfl
  ·walk_at "hm";exact Ln.bd3 fun _ _ _ _ _ _ _ _ _=> rfl
  ·walk_at "hm";exact Ln.bd4 fun _ _ _ _ _ _ _ _ _ _=> rfl
  ·walk_at "hm";exact Ln.bd4 fun _ _ _ _ _ _ _ _ _ _=> rfl
  ·walk_at "hm";exact Ln.bd1 fun _ _ _ _ _ _ _=> rfl
  ·walk_at "hm";exact Ln.bd2 fun _ _ _ _ _ _ _ _=> rfl
  ·walk_at "hm";exact Ln.bd1 fun _ _ _ _ _ _ _=> rfl
  ·walk_at "hm";exact Ln.bd2 fun _ _ _ _ _ _ _ _=> rfl
  ·walk_at "hm";exact Ln.bd1 fun _ _ _ _ _ _ _=> rfl
  ·exact⟨_,fz KX G (by k_is)⟩
  ·exact⟨_,fz KX G (by k_is)⟩
  ·exact⟨_,fz KX G (by k_is)⟩
  ·exact Ln.a2r KX G (by k_is) (by k_is) (by decide) (.cons ⟨_,rfl⟩ (.cons ⟨_,rfl⟩ (.nil)))
  ·exact bS KX G (by k_is)
  ·exact bS KX G (by k_is)
  ·exact bS KX G (by k_is)
  ·exact bS KX G (by k_is)
  ·exact bS KX G (by k_is)
  ·exact bS KX G (by k_is)
  ·exact bS KX G (by k_is)
  ·exact bS KX G (by k_is)
  ·exact bS KX G (by k_is)
  ·exact bS KX G (by k_is)
  ·exact bS KX G (by k_is)
  ·exact bS KX G (by k_is)
  ·exact bS KX G (by k_is)
