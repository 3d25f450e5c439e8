import PyProof.Rows.All
import Wide.All
import OpenK.AllK
import Wide.FinOn
import Lean
import PyProof.EqAt
import PyProof.EqKinds
import PyProof.TupleCall
import PyProof.NeKinds
import PyProof.Rows.SetFrom
import PyProof.WalksMore
import KE.KDictSum
import PyProof.AttrMissHeap
import PyProof.P3Eq
import PyProof.NeData
import PyProof.ConsumeWalk
import PyProof.ZipIter
import PyProof.Rows.TupAdd
import PyProof.Rows.IntBool
import PyProof.SliceStr2
import PyProof.StrBlockI
import KE.KTab
import PyProof.FString5
import PyProof.StrWalks
import PyProof.CallStr
import PyProof.Conv_int_bool
import PyProof.StrCalls
import PyProof.StrBlockG
import PyProof.StrCalls2
import KE.KSortAsk
import KE.KSortTup
import PyProof.TupleOfSeq
import KE.KIntText
import PyProof.DictWalks
import PyProof.Rows.TupDisplay
import PyProof.DictTruth
import PyProof.CollectWalk
import PyProof.TupleOfGen
import PyProof.EnumMake
import PyProof.ListMulAny
import PyProof.FactsAll.tuple_2
import PyProof.ListRange
import KE.KxMul
import PyProof.FactsAll.dict_1
import PyProof.FactsAll.subtypes_4
import PyProof.FactsAll.subtypes_3
import PyProof.FactsAll.tuple_0
import PySem.Challenge.RW_mannerports_k43_tables_written_and_read
import PyProof.StrLawsReplace
import PyProof.Rows.ReprOcc
import KE.KTabLook
set_option Elab.async false
set_option linter.all false
set_option bootstrap.genMatcherCode false
set_option genSizeOfSpec false
set_option maxRecDepth 100000
set_option maxHeartbeats 4000001
variable{xs:List jF}{x:fx}{a b:dM}{A:jG}{E:cx -> em -> Prop}{s:em}{h h':PySem.Heap}{P:iX}{w:jW}{t' i:Nat}{ch:List dM}{e tg:gK}{M:PySem.Model}{u:cx}{Q:Unit -> em -> Prop}{pos:PySem.Pos}{pins:List (dM×PySem.Obj)}{K:am}
noncomputable section
open PySem renaming wpAny_bind -> aa,Value -> ac,PyData -> ae,Shared -> ah,wpAny_pure -> aj,compareOp -> aK,wpAny_field -> aP,Program -> aR,World -> aT,wpAny_holding -> aW,Around -> aZ,assignEach -> a9,bootBuiltins -> bc,wpAny_setField_rec -> bo,wpAny_callSpecial?_slot -> bp,strKind -> bu,wpAny_call_entry -> bz,mainGlobals -> bC,wpAny_truthy_bool -> bK,ReadsAll -> bQ,wpAny_seqItems -> bW,codeAny_builtin -> b7,Fin -> cc,Builtin -> cf,sliceBounds -> ci,Reads -> cj,wpAny_rule -> ck,scanBound -> cr,Value -> cx,wpAny_specialOf -> cA,wpAny_mono -> cC,wpAny_newObj_type -> cH,mem_of_lookup -> cM,sizeLine_eq -> cO,call_meets -> cQ,wpAny_Call_Name_kw -> cS,foldedSetIterable -> cX,IsPair -> c5,wpAny_loadPart' -> du,NameKind -> dv,wpAny_pyIter_list -> dz,codeAny_mono -> dC,wpAny_typeOf -> dF,DictEntry -> dJ,Addr -> dM,wpAny_callSpecialIfBoundUnlessNone?_slot -> dO,sysModules -> dQ,FuncData -> dR,typeIs_str -> dU,behindInMarks -> d5,plainId_quiet -> d7,wpAny_attempt -> d8,wpAny_passesOwn -> d9,Shared -> em,SetTable -> eA,Scope -> eE,IsPart -> eS,slicePicked -> eW,richCompare -> eX,wpAny_standAt -> eZ,attributeBase -> ff,wpAny_forIn_list -> fh,wpAny_isInstance -> fj,checkBuiltinCall -> fk,Str -> fx,letOwnedTupleGo -> fG,wpAny_updateSeq -> fJ,codeAny_of_tree -> fM,codeAny_call_builtin -> fN,JoinOk -> fP,wpAny_updateSeq_pair -> fQ,callSpecialIfBoundUnlessNone? -> fU,Keyword -> f6,wpAny_newTuple -> f8,intText? -> f9,typeIs_none -> gb,keywordEach -> gc,wpAny_of_eq -> gf,IsZip -> gg,swapsWith -> gj,wpAny_pyIter_tuple -> gl,strValues -> gp,wpAny_onRaise -> gC,eqIsQuiet_byValue -> gD,slot_list_getitem -> gG,Expr -> gK,noFill_tuple_add -> gT,wpAny_getItem_list_slice -> gU,wpAny_comprehension_free -> gW,wpAny_pyIter_zip -> hJ,wpAny_execs_nil -> ic,Meets -> ig,wpAny_pyNext_list_item -> il,richCompare_meets_room -> iq,wpAny_letGo -> ir,loadIfAlive -> iu,wpAny_pyNext_list_end -> iy,BindsTo -> iA,weight_type_call_type -> iE,wpAny_runValue -> iF,isSubtype_stop -> iI,builtinLookup_eq_fast -> iJ,IsEnum -> iK,wpAny_load -> iP,typeLookup -> iQ,Program -> iX,swapsWithSole -> iY,swappedStores -> iZ,seq_tuple_add -> i3,evalPart_none -> i4,PyData -> jF,Around -> jG,Paired -> jH,Within -> jI,lastMarks -> jJ,concat_meets -> jK,seqIndex_neg -> jL,slicePick -> jM,IsEnumOut -> jS,World -> jW,seqIndex_of -> jX
open PySem.PyData renaming str -> af,eqv -> aI,canLayAll0 -> aO,bool -> bI,depthAll -> bM,int -> bT,tuple -> bV,list -> cz,eqvAll -> cJ,depth -> cR,leavesShort -> dq,canLay0 -> eG,showable -> fO,leavesShortAll -> iH,strOk -> jO
open PySem.Heap renaming get?_push_of_some -> ag,lt_size -> aB,get?_push_size -> aC,SameBut -> bh,size_push -> bt,get?_update_self -> cq,get?_push_ne -> cI,size_update -> cN,get?_update_other -> cP,ExtBut -> eU
open List renaming length_map -> ak,size_toArray -> au,all_eq_true -> aw,getElem?_eq_getElem -> ax,mem_cons_of_mem -> ay,mem_cons_self -> az,length_cons -> aD,mem_cons -> aE,getElem?_eq_some_iff -> aF,map_cons -> aG,length_append -> aH,map_map -> aL,getElem?_cons_succ -> aN,getElem?_append_left -> aS,range -> aU,getElem?_map -> aV,getElem?_set_ne -> aY,mem_of_getElem? -> bf,not_mem_nil -> bg,getElem?_set_self -> bj,mem_singleton -> bm,getD_eq_getElem?_getD -> bn,append_nil -> bq,mem_map -> bv,mem_append_right -> bw,getElem?_append_right -> bF,mem_filter -> bG,mem_append -> bH,replicate -> bL,filterMap_cons -> bY,filter_eq_self -> bZ,pairwise_cons -> cu,getElem?_eq_none -> cv,getElem?_eq_none_iff -> cw,all_map -> cF,zip_cons_cons -> cU,getElem?_set -> cZ,pairwise_map -> c0,getElem?_replicate -> di,pairwise_singleton -> dj,append_assoc -> dw,mem_range -> dA,toArray -> dH,length_take -> dS,map -> dX,all_cons -> dY,of_mem_zip -> ee,forIn_cons -> eg,drop_eq_getElem_cons -> eh,length_nil -> ej,nil_append -> ek,filterMap_map -> er,reverse_cons -> eM,nodup_append -> eN,ext_getElem? -> eO,mapM_toArray -> eP,take_of_length_le -> eT,drop_eq_nil_of_le -> eV,cons_append -> fg,mem_iff_getElem? -> fA,mem_append_left -> fF,nodup_cons -> fH,take_succ_cons -> fW,getElem?_range -> fX,mem_map_of_mem -> fY,forIn_nil -> ga,Pairwise -> gz,any_eq_false -> gF,all_eq_false -> gI,length_range -> gJ,pairwise_iff_getElem -> gM,Nodup -> gO,map_nil -> gP,getElem_mem -> gX,all_toArray -> g9,filter_cons_of_neg -> h9,filter_cons_of_pos -> ia,foldl_cons -> ii,map_append -> ij,length_replicate -> iB,drop_zero -> iG,set_append_right -> iL,pairwise_and_iff -> iM,length_filter_le -> iN,set_append_left -> iS,pairwise_append -> iW,any_cons -> i7,Sublist -> jT
open PySem.W renaming Frag -> am,mg_none_of -> bb,kia_one -> bO,mg_of -> cn,fnOf -> cD,keepIn -> dE,nsIn -> dG,kas_place -> eC,codeIn -> eF,kas_asc -> eI,kas_rev -> fB,methodObj -> gE,kas_sort -> g6,instObj -> ib,OpenLaw -> ie,cellsFrom_some -> im,lookIn -> iz,kas_desc -> iU,kas_tail3 -> jP,kas_descPart -> jQ,kas_count -> jR,kas_bin -> jV
open Bool renaming and_eq_true -> ao,false_ne_true -> av,eq_iff_iff -> br,false_eq_true -> bP,not_true -> cK,not_eq_true -> dW,or_eq_true -> fL,and_false -> iC,or_false -> i6,and_self -> i8,true_and -> jA
open Nat renaming le_refl -> aq,lt_of_lt_of_le -> aJ,ne_of_lt -> aM,le_trans -> a7,le_of_not_lt -> bR,lt_irrefl -> bU,zero_le -> cy,lt_succ_of_lt -> cY,ne_of_gt -> dB,le_of_eq -> fI,add_assoc -> gw,le_of_lt -> gQ,lt_trans -> jN
open PySem.Str renaming ofString -> aA,join -> bi,cps_append -> eJ
open PySem.Value renaming none -> aQ,ref -> a8,type -> bd,bool -> dP,isStrOf -> eY,int -> gh,str -> gi,notImplemented -> iT
open Array renaming length_toList -> aX,getElem?_toList -> cW,all_toList -> df,toList_append -> dg,any_toList -> fm,getElem?_eq_some_iff -> gA,perm_iff_toList_perm -> gB
open PySem.NameKind renaming free -> bA,cell -> d6
open PySem.Builtin.SmallTypes renaming nextOf -> bB,ownedTupleIsFree -> bJ,ownedTupleHandOut -> eD
open PySem.Obj renaming mapSeq -> bD
open PyProof.Rows renaming slot_tuple_getitem -> bE,callWith_type1 -> cb,AllBare -> fz,subscriptTail_builtinR -> io,SortKind -> iV,subscriptTail -> i5,listUpdate_at -> i9,entry_tuple_getitem -> jB,IntsAre -> jU,seqEpoch_at -> jY
open Option.some renaming inj -> bN
open PySem.Around renaming under_plainId -> bS
open PySem.Txt renaming split -> bX,join -> fq
open PySem.Builtin.Tuple renaming tupleHashOf -> b6,tupleExact -> b8,tupleItemsOf -> dZ,tupleCompareSizes -> fE
open Lean renaming mkIdent -> b9,TSyntax -> fT
open Int renaming toNat_natCast -> ca
open PySem.SeqAt renaming EqAt -> cB,room_head -> gn,eqAt_reads -> iO,notIn_tupleAt -> jD
open PySem.Builtin.List renaming listTooLong -> cE,listExtendWith -> gu,listSameRef -> hU
open PySem.F renaming slot_zip_next -> cG,plain_extend_loop -> c8,called_set -> de,slot_enumerate_next -> dI,slot_NoneType_hash -> dN,args_tuple_add_2 -> eo,entry_tuple_add -> eK,slot_tuple_hash -> eL,args_zip_next_1 -> eQ,slot_tuple_add -> eR,entry_zip_next -> fw,called_tuple -> fR,args_str_split_2 -> gq,entry_str_split -> gH,entry_extend_loop -> gN,slot_str_split -> gZ,plainAttrs_list -> hW,plain_list_iadd -> hX,plain_tuple_new -> hZ,args_enumerate_next_1 -> h8,slot_tuple_lt -> ik,entry_enumerate_next -> iw,plain_set_new -> iD,args_list_extend_2 -> iR,entry_list_extend -> jC,slot_dict_eq_refl -> jE
open PySem.Challenge renaming rw_mannerports_k43_tables_written_and_read -> cL
open PyProof.Rows.F renaming plain_set_update_loop -> cT,entry_set_update_loop -> eB
open Ne renaming symm -> cV
open False renaming elim -> c6
open PySem.Builtin.Slice renaming slicePlaces -> c7,sliceAdjust -> ef,sliceApplied -> gy
open PySem.SetTable renaming grown -> c9
open PySem.Builtin.Str renaming occurrences -> dh,strSliceIndices -> dL
open ForInStep renaming yield -> dm
open Sum renaming inl -> fy,inr -> fZ
open PySem.W.KIN renaming num_reads -> fD
open PySem.AutoSeq1 renaming wpAny_loadPart' -> fK,sub_tuple_tuple -> gY
open PySem.Heap.SameBut renaming update -> fV
open PySem.Builtin.Frozenset renaming updateFrom -> f7
open Or renaming inl -> gk,inr -> gm
open PyProof.Rows.ReadsAll renaming keeps -> gt
open PySem.Calls renaming Name_function_global -> gx,callWith_builtin -> ip
open True renaming intro -> gL
open Option renaming isSome_iff_exists -> gR
open List.Sublist renaming append_left -> hV
open PySem.Shared renaming heap -> jZ
namespace PF
open PySem PySem.Spec PySem.SeqAt --
mutual
noncomputable def plD:ae -> Bool
 |.none=> true
 |.int _=> true
 |.str _=> true
 |.tuple xs=> kf xs
 |_=> false
noncomputable def kf:List ae -> Bool
 |[]=> true
 |x::xs=> plD x&&kf xs
end
theorem kb:plD (.tuple xs)=kf xs:=by simp only [plD]
theorem j3{x:ae}:kf (x::xs)=(plD x&&kf xs):=by simp only [kf]
theorem aeg: ∀xs:List ae,kf xs=xs.all plD
 |[]=> by simp only [kf,List.all_nil]
 |x::r=> by rw [j3,dY,aeg r]
theorem evt{ys:List ae}:aI (.tuple xs) (.tuple ys)=cJ xs ys:=by simp only [aI]
theorem evs{x y:ae}{ys:List ae}:cJ (x::xs) (y::ys)=(aI x y&&cJ xs ys):=by simp only [cJ]
mutual
theorem yz: ∀a b:ae,plD a=true -> plD b=true -> (aI a b=true ↔ a=b)
 |.none,b,_,hb=> by cases b <;> simp [plD]at hb <;> simp [aI]
 |.int i,b,_,hb=> by cases b <;> simp [plD]at hb <;> simp [aI]
 |.str i,b,_,hb=> by cases b <;> simp [plD]at hb <;> simp [aI]
 |.tuple xs,.tuple ys,ha,hb=> by
  rw [evt,ag2 xs ys (by rw [←kb];exact ha) (by rw [←kb];exact hb)]
  simp
 |.tuple xs,.none,_,_=> by simp [aI]
 |.tuple xs,.int _,_,_=> by simp [aI]
 |.tuple xs,.str _,_,_=> by simp [aI]
 |.tuple xs,.bool _,_,hb=> by simp [plD]at hb
 |.tuple xs,.list _,_,hb=> by simp [plD]at hb
 |.tuple xs,.dict _,_,hb=> by simp [plD]at hb
 |.bool _,_,ha,_=> by simp [plD]at ha
 |.list _,_,ha,_=> by simp [plD]at ha
 |.dict _,_,ha,_=> by simp [plD]at ha
theorem ag2: ∀xs ys:List ae,kf xs=true -> kf ys=true -> (cJ xs ys=true ↔ xs=ys)
 |[],[],_,_=> by simp [cJ]
 |[],_::_,_,_=> by simp [cJ]
 |_::_,[],_,_=> by simp [cJ]
 |x::xs,y::ys,ha,hb=> by
  rw [j3,ao]at ha hb
  rw [evs,ao,yz x y ha.1 hb.1,ag2 xs ys ha.2 hb.2,List.cons.injEq]
end
theorem aji{a:ae}(h:plD a=true):aI a a=true:=(yz a a h h).mpr rfl
mutual
noncomputable def zg(w:aT):ae -> Int
 |.none=> 0xFCA86420
 |.int i=> hashInt i
 |.str x=> hashStr w x
 |.tuple xs=> reduceHash (b6 (yq w xs))
 |_=> 0
noncomputable def yq(w:aT):List ae -> List Int
 |[]=> []
 |x::xs=> zg w x::yq w xs
end
mutual
noncomputable def zr:ae -> Nat
 |.tuple xs=> vh xs+1
 |_=> 1
noncomputable def vh:List ae -> Nat
 |[]=> 0
 |x::xs=> zr x+vh xs
end
theorem af2(w:aT): ∀xs:List ae,yq w xs=xs.map (zg w)
 |[]=> by simp only [yq,gP]
 |x::r=> by simp only [yq,aG,af2 w r]
theorem ab3: ∀xs ys:List ae,vh (xs++ys)=vh xs+vh ys
 |[],ys=> by simp [vh]
 |x::r,ys=> by simp only [fg,vh,ab3 r ys];lia
theorem acj: ∀{xs:List ae} {x:ae},x∈xs -> x.depth <=bM xs
 |[],x,h=> by cases h
 |y::r,x,h=> by
  simp only [bM]
  (rcases aE.mp h with rfl|h)
  ·lia
  ·have:=acj h;lia
section
variable{prog:aR}{w:aT} --
theorem anr{Q:Int -> ah -> Prop}(h:Q 0xFCA86420 {s with toks:=s.toks+1}):wpAny (model prog w) A (pyHash .none) Q E s:=by
 unfold pyHash
 have hv:[aQ].any Value.onHeap=false:=rfl
 refine aa ?_
 (rw [cRoomFor,if_neg (by rw [hv];exact av)];refine aj ?_)
 refine aa (cA (gb s) dN.lookup ?_)
 show wpAny _ _ (if (some (Value.builtin "NoneType.__hash__")==some aQ)=true then _ else _) Q E s
 (rw [if_neg (by rw [beq_builtin_none];exact av)])
 refine aa (cA (gb s) dN.lookup ?_)
 show wpAny _ _ (fU .none "__hash__" _ >>=_) Q E s
 refine aa (dO (gb s) dN
  (bz dN (gb s) F.entry_NoneType_hash
   (show wpAny _ _ (do ret (←mkInt 0xFCA86420)) _ _ s from wpAny_ret_mkInt ?_) (F.args_NoneType_hash_1 _)))
 show wpAny _ _ (if (decide (-(2:Int)^63 <=0xFCA86420)&&decide ((0xFCA86420:Int) < 2^63))=true then _ else _) Q E _
 rw [if_pos (by decide)]
 exact aj h
mutual
theorem akl: ∀(d:ae) {A:aZ} {E:ac -> ah -> Prop} {s:ah} {v:ac} {bs:List Addr} {Q:Int -> ah -> Prop},plD d=true -> cj s.heap v d bs -> A.units+d.depth < cLine -> Q (zg w d) {s with toks:=s.toks+zr d} -> wpAny (model prog w) A (pyHash v) Q E s
 |.none,A,E,s,v,bs,Q,_,r,_,h=> by cases r;simp only [zg,zr]at h;exact anr h
 |.int i,A,E,s,v,bs,Q,_,r,_,h=> by cases r;simp only [zg,zr]at h;exact wpAny_pyHash_int h
 |.str x,A,E,s,v,bs,Q,_,r,_,h=> by cases r;simp only [zg,zr]at h;exact wpAny_pyHash_str h
 | .tuple xs,A,E,s,v,bs,Q,hp,r,hu,h=> by
  have ih:=ag9 xs
  rw [kb,aeg,aw]at hp
  (simp only [cR]at hu)
  cases r with
  | @tuple a o items n _ _ ho hc hd hi=>
  have hT:s.TypeIs (.ref a) "tuple":=⟨o,ho,hc⟩
  unfold pyHash pyHashByItsType
  refine aa (wpAny_cRoomFor_or (.inr (by lia)) ?_)
  (refine aa (cA hT eL.lookup ?_))
  show wpAny _ _ (if (some (Value.builtin "tuple.__hash__")==some aQ)=true then _ else _) Q E s --
  (rw [if_neg (by rw [beq_builtin_none];exact av)])
  (refine aa (cA hT eL.lookup ?_))
  show wpAny _ _ (fU (.ref a) "__hash__" _ >>=_) Q E s --
  (refine aa (dO hT eL (bz eL hT F.entry_tuple_hash ?_ (F.args_tuple_hash_1 _))))
  show wpAny _ _ (dZ (.ref a)>>=_) _ _ s --
  (refine aa (wpAny_tupleItemsOf ho hd ?_))
  refine aa ?_
  rw [←Array.forIn_toList]
  refine fh _
   (fun jx (b:Array Int) s'=> ∃done left cs,xs=done++left/\bQ s.heap jx left cs/\b.toList=done.map (zg w)/\s'={s with toks:=s.toks+vh done})
   _ ?_ ?_ _ _ ⟨[],xs,_,rfl,hi,rfl,rfl⟩
  ·rintro x jx b s' ⟨done,left,cs,e,hl,hb,rfl⟩
   cases hl with
   | @cons _ _ k ks' _ _ h1 hl'=>
    have hm:k∈xs:=by rw [e];simp
    have hdk:=acj hm
    have e1: ∀A:aZ,A.in1.units <=A.units+1:=fun A=> by first|exact aq _|(unfold Around.in1;simp)
    have e1A:=e1 A
    refine aa (ih k hm (s:={s with toks:=s.toks+vh done}) (hp k hm) h1 (by lia) ?_)
    first
     |exact aj ⟨done++ [k],ks',_,by rw [e];simp,hl',by simp [hb],by simp [ab3,vh,gw]⟩
     |exact aa (aj (aj ⟨done++ [k],ks',_,by rw [e];simp,hl',by simp [hb],by simp [ab3,vh,gw]⟩))
  ·rintro b s' ⟨done,left,cs,e,hl,hb,rfl⟩
   cases hl
   rw [bq]at e
   subst e
   show wpAny _ _ (retInt (b6 b.toList)) _ _ _ --
   rw [hb,←af2]
   refine wpAny_ret_mkInt ?_
   show wpAny _ _ (if (decide (-(2:Int)^63 <=b6 (yq w xs))&&decide (b6 (yq w xs) < 2^63))=true then _ else _) Q E _
   simp only [zg,zr]at h
   unfold reduceHash at h
   by_cases hr:(decide (-(2:Int)^63 <=b6 (yq w xs))&&decide (b6 (yq w xs) < 2^63))=true
   ·rw [if_pos hr]
    rw [if_pos hr]at h
    (exact aj (by simpa [gw] using h))
   ·rw [if_neg hr]
    rw [if_neg hr]at h
    (exact aa (ck (aj (by simpa [gw] using h))))
 |.bool _,_,_,_,_,_,_,hp,_,_,_=> by simp [plD]at hp
 |.list _,_,_,_,_,_,_,hp,_,_,_=> by simp [plD]at hp
 |.dict _,_,_,_,_,_,_,hp,_,_,_=> by simp [plD]at hp
theorem ag9: ∀(xs:List ae),∀d∈xs,∀{A:aZ} {E:ac -> ah -> Prop} {s:ah} {v:ac} {bs:List Addr} {Q:Int -> ah -> Prop},plD d=true -> cj s.heap v d bs -> A.units+d.depth < cLine -> Q (zg w d) {s with toks:=s.toks+zr d} -> wpAny (model prog w) A (pyHash v) Q E s
 |[],d,m=> by cases m
 | x::r,d,m=> by
  intro h1 h2 h3 h4
  rcases aE.mp m with e|m
  ·rw [e]at h1 h2 h3 h4
   exact akl x h1 h2 h3 h4
  ·exact ag9 r d m h1 h2 h3 h4
end
mutual
theorem aic: ∀(d:ae) {n:Nat} {A:aZ} {E:ac -> ah -> Prop} {s:ah} {v:ac} {bs:List Addr} {Q:Bool -> ah -> Prop},plD d=true -> cj s.heap v d bs -> d.depth <=n -> Q true s -> wpAny (model prog w) A (eqIsQuiet n v) Q E s
 |.none,n,A,E,s,v,bs,Q,_,r,_,h=> by cases r;rw [gD n rfl];exact aj h
 |.int i,n,A,E,s,v,bs,Q,_,r,_,h=> by cases r;rw [gD n rfl];exact aj h
 |.str x,n,A,E,s,v,bs,Q,_,r,_,h=> by cases r;rw [gD n rfl];exact aj h
 | .tuple xs,n,A,E,s,v,bs,Q,hp,r,hu,h=> by
  have ih:=ah6 xs
  rw [kb,aeg,aw]at hp
  (simp only [cR]at hu)
  obtain⟨m,rfl⟩: ∃m,n=m+1:=⟨n - 1,by lia⟩
  cases r with
  | @tuple a o items n _ _ ho hc hd hi=>
  have hT:s.TypeIs (.ref a) "tuple":=⟨o,ho,hc⟩
  unfold eqIsQuiet
  (refine aa (cA hT F.slot_tuple_eq.lookup ?_))
  show wpAny _ _ (isInstance (.ref a) (.type "tuple")>>=_) _ _ s --
  (refine aa (fj hT isSubtype_tuple_tuple ?_))
  (simp only [cK,bP,if_false])
  (refine aa (bW ho hd ?_))
  refine aa ?_
  show wpAny _ _ (forIn items _ _) _ _ s --
  rw [←Array.forIn_toList]
  refine fh _ (fun jx r s'=> r.1=none/\s'=s/\ ∃left cs,(∀x∈left,x∈xs)/\bQ s.heap jx left cs) _ ?_ ?_ _ _ ⟨rfl,rfl,xs,_,fun _ m=> m,hi⟩
  ·rintro v jx r s' ⟨hr,rfl,left,cs,sub,hl⟩
   cases hl with
   | @cons _ _ k ks' _ _ h1 hl'=>
    have hm:=sub k az
    have hdk:=acj hm
    refine aa (ih k hm (hp k hm) h1 (by lia) ?_)
    (simp only [cK,bP,if_false])
    exact aj ⟨rfl,rfl,ks',_,fun x m=> sub x (ay _ m),hl'⟩
  ·rintro⟨r1,r2⟩ s' ⟨hr,rfl,_⟩
   simp only at hr
   subst hr
   exact aj h
 |.bool _,_,_,_,_,_,_,_,hp,_,_,_=> by simp [plD]at hp
 |.list _,_,_,_,_,_,_,_,hp,_,_,_=> by simp [plD]at hp
 |.dict _,_,_,_,_,_,_,_,hp,_,_,_=> by simp [plD]at hp
theorem ah6: ∀(xs:List ae),∀d∈xs,∀{n:Nat} {A:aZ} {E:ac -> ah -> Prop} {s:ah} {v:ac} {bs:List Addr} {Q:Bool -> ah -> Prop},plD d=true -> cj s.heap v d bs -> d.depth <=n -> Q true s -> wpAny (model prog w) A (eqIsQuiet n v) Q E s
 |[],d,m=> by cases m
 | x::r,d,m=> by
  intro h1 h2 h3 h4
  rcases aE.mp m with e|m
  ·rw [e]at h1 h2 h3
   exact aic x h1 h2 h3 h4
  ·exact ah6 r d m h1 h2 h3 h4
end
mutual
theorem agw: ∀(d:ae) {h h':Heap} {v:ac} {bs:List Addr} {a:Addr} {o:Obj} {es:Array dJ} {ep:Nat},plD d=true -> cj h v d bs -> h.get? a=some o -> o.data=.dict es ep -> bh a h h' -> cj h' v d bs
 |.none,_,_,_,_,_,_,_,_,_,r,_,_,_=> by cases r;exact .none
 |.int i,_,_,_,_,_,_,_,_,_,r,_,_,_=> by cases r;exact .int _ _
 |.str x,_,_,_,_,_,_,_,_,_,r,_,_,_=> by cases r;exact .str _ _
 | .tuple xs,h,h',v,bs,a,o,es,ep,hp,r,ho,hd,hs=> by
  rw [kb]at hp
  cases r with
  | @tuple b ob items n _ _ h1 h2 h3 h4=>
   have ne:b≠a:=by
    rintro rfl
    rw [h1]at ho
    cases ho
    rw [hd]at h3;cases h3
   exact .tuple ((hs.2 b ne).trans h1) h2 h3 (aey xs hp h4 ho hd hs)
 |.bool _,_,_,_,_,_,_,_,_,hp,_,_,_,_=> by simp [plD]at hp
 |.list _,_,_,_,_,_,_,_,_,hp,_,_,_,_=> by simp [plD]at hp
 |.dict _,_,_,_,_,_,_,_,_,hp,_,_,_,_=> by simp [plD]at hp
theorem aey: ∀(xs:List ae) {h h':Heap} {vs:List ac} {bs:List Addr} {a:Addr} {o:Obj} {es:Array dJ} {ep:Nat},kf xs=true -> bQ h vs xs bs -> h.get? a=some o -> o.data=.dict es ep -> bh a h h' -> bQ h' vs xs bs
 |[],_,_,_,_,_,_,_,_,_,r,_,_,_=> by cases r;exact .nil
 |x::xs,_,_,_,_,_,_,_,_,hp,r,ho,hd,hs=> by
  rw [j3,ao]at hp
  cases r with
  |cons r1 r2=> exact .cons (agw x hp.1 r1 ho hd hs) (aey xs hp.2 r2 ho hd hs)
end
def aem(d:ae):Bool:=plD d&&d.canLay0&&decide (d.depth <=8)
theorem yi{d:ae}:aem d=true ↔ plD d=true/\d.canLay0=true/\d.depth <=8:=by
 unfold aem
 simp only [ao,decide_eq_true_eq,and_assoc]
noncomputable instance:DecidableEq ae:=fun a b=> Classical.propDecidable (a=b)
def aqn(prog:aR)(w:aT):HeapKind prog w ae where
 is h k a:=aem k=true/\ ∃bs,cj h (.ref a) k bs
 hash:=zg w
 draws:=zr
 room A:=A.units+10 < cLine
 inj:=by
  rintro h a x y ⟨k1,b1,r1⟩ ⟨k2,b2,r2⟩
  exact Reads.unique x y _ _ _ (yi.mp k1).2.1 r1 r2
 keeps:=by
  rintro h h' k a d o es ep ⟨k1,b1,r1⟩ ho hd hs
  exact⟨k1,b1,agw k (yi.mp k1).1 r1 ho hd hs⟩
 pyHash:=by
  rintro A E s k a Q hu ⟨k1,b1,r1⟩ h
  obtain⟨p,c,d⟩:=yi.mp k1
  exact akl k p r1 (by lia) h
 eqBool:=by
  rintro A E s x y a b Q hu ⟨k1,b1,r1⟩ ⟨k2,b2,r2⟩ h
  obtain⟨p,c,d⟩:=yi.mp k1
  obtain⟨p',c',d'⟩:=yi.mp k2
  refine iO x y A s _ _ _ _ r1 r2 c c' (by lia) prog w E Q ?_
  have:aI x y=decide (x=y):=by
   (rw [br,decide_eq_true_eq])
   exact yz x y p p'
  rw [this];exact h
 quiet:=by
  rintro A E s k a Q ⟨k1,b1,r1⟩ h
  obtain⟨p,c,d⟩:=yi.mp k1
  exact aic k p r1 (by lia) h
end
end PF
namespace L2
open PySem PySem.Spec PyProof.Rows
abbrev Key:=Sum Int Str
noncomputable def atw:Key -> ac -> Bool
 |.inl k,v=> Value.isInt k v
 |.inr x,v=> eY x v
noncomputable def a2k(w:aT):Key -> Int
 |.inl k=> hashInt k
 |.inr x=> hashStr w x
theorem kg: ∀{k:Key} {v:ac},atw k v=true -> (∃i t,k=fy i/\v=gh i t)\/(∃x t,k=fZ x/\v=gi x t)
 |.inl i,v,h=> by
  obtain⟨t,e⟩:=Value.isInt_shape (k:=i) (v:=v) h
  exact .inl ⟨i,t,rfl,e⟩
 |.inr x,v,h=> by
  obtain⟨t,e⟩:=Value.isStrOf_shape (x:=x) (v:=v) h
  exact .inr ⟨x,t,rfl,e⟩
theorem ax3(a b:Int):decide ((fy a:Key)=fy b)=(a==b):=by
 by_cases e:a=b
 ·subst e;simp
 ·have h: ¬(fy a:Key)=fy b:=fun q=> e (fy.inj q)
  rw [decide_eq_false h]
  exact (beq_eq_false_iff_ne.mpr e).symm
theorem azc(a b:Str):decide ((fZ a:Key)=fZ b)=decide (a=b):=by
 by_cases e:a=b
 ·subst e;simp
 ·have h: ¬(fZ a:Key)=fZ b:=fun q=> e (fZ.inj q)
  rw [decide_eq_false h,decide_eq_false e]
theorem awi(a:Int)(b:Str):decide ((fy a:Key)=fZ b)=false:=decide_eq_false (fun q=> nomatch q)
theorem ays(a:Str)(b:Int):decide ((fZ a:Key)=fy b)=false:=decide_eq_false (fun q=> nomatch q)
def abh(prog:aR)(w:aT):PySem.KeyKind prog w Key where
 is:=atw
 hash:=a2k w
 inj:=fun v a b ha hb=> by
  rcases kg ha with ⟨i,t,rfl,rfl⟩|⟨x,t,rfl,rfl⟩
  ·rcases kg hb with ⟨j,u,rfl,e⟩|⟨y,u,rfl,e⟩
   ·injection e with e1 _;rw [e1]
   ·exact nomatch e
  ·rcases kg hb with ⟨j,u,rfl,e⟩|⟨y,u,rfl,e⟩
   ·exact nomatch e
   ·injection e with e1 _;rw [e1]
 byValue:=fun k v h=> by
  rcases kg h with ⟨i,t,rfl,rfl⟩|⟨x,t,rfl,rfl⟩ <;> rfl
 pyHash:=fun hv h=> by
  rcases kg hv with ⟨i,t,rfl,rfl⟩|⟨x,t,rfl,rfl⟩
  ·exact wpAny_pyHash_int h
  ·exact wpAny_pyHash_str h
 eqBool:=fun hu hv h=> by
  rcases kg hu with ⟨i,t,rfl,rfl⟩|⟨x,t,rfl,rfl⟩
  ·rcases kg hv with ⟨j,u,rfl,rfl⟩|⟨y,u,rfl,rfl⟩
   ·rw [ax3]at h;exact wpAny_eqBool_int h
   ·rw [awi]at h;exact cB.int_str i t y u _ _ _ _ h
  ·rcases kg hv with ⟨j,u,rfl,rfl⟩|⟨y,u,rfl,rfl⟩
   ·rw [ays]at h;exact cB.str_int x t j u _ _ _ _ h
   ·rw [azc]at h;exact wpAny_eqBool_str h
 «strs»:=fun k x t v h=> by
  rcases kg h with ⟨i,u,rfl,e⟩|⟨y,u,rfl,e⟩
  ·exact nomatch e
  ·injection e with e1 _
   subst e1
   cases v <;> rfl
inductive V where
 |non|bl (b:Bool)|int (i:Int)|str (x:Str)|byt (b:Array UInt8)|flt (b:UInt64)|ref (a:Addr)|ty (n:String)
 deriving DecidableEq
def RelV:V -> ac -> Prop
 |.non,u=> u=aQ
 |.bl b,u=> u=dP b
 |.int i,u=> ∃t,u=gh i t
 |.str x,u=> ∃t,u=gi x t
 |.byt b,u=> ∃t,u=Value.bytes b t
 |.flt b,u=> ∃t,u=Value.float b t
 |.ref a,u=> u=a8 a
 |.ty n,u=> u=bd n
abbrev jg:List V -> List ac -> Prop:=jH RelV
theorem jg.length{xs:List V}{us:List ac}(r:jg xs us):xs.length=us.length:=Paired.length r
theorem jg.get: ∀{xs:List V} {us:List ac} {i:Nat} {x:V},jg xs us -> xs[i]?=some x -> ∃u,us[i]?=some u/\RelV x u
 |_,_,_,_,.nil,e=> by simp at e
 |_,_,0,_,.cons r _,e=> by simp at e;subst e;exact⟨_,rfl,r⟩
 |_,_,i+1,x,.cons _ t,e=> by
  obtain⟨u,h1,h2⟩:=jg.get (i:=i) (x:=x) t (by simpa using e)
  exact⟨u,by simpa using h1,h2⟩
theorem jg.set{x:V}{u:ac}(r:RelV x u): ∀{xs:List V} {us:List ac} (i:Nat),jg xs us -> jg (xs.set i x) (us.set i u)
 |_,_,_,.nil=>.nil
 |_,_,0,.cons _ t=>.cons r t
 |_,_,i+1,.cons q t=>.cons q (jg.set r i t)
theorem jg.append: ∀{xs ys:List V} {us ws:List ac},jg xs us -> jg ys ws -> jg (xs++ys) (us++ws)
 |_,_,_,_,.nil,s=> s
 |_,_,_,_,.cons r t,s=>.cons r (jg.append t s)
theorem jg.take: ∀{xs:List V} {us:List ac} (n:Nat),jg xs us -> jg (xs.take n) (us.take n)
 |_,_,0,_=>.nil
 |_,_,_+1,.nil=>.nil
 |_,_,n+1,.cons r t=>.cons r (jg.take n t)
theorem jg.drop: ∀{xs:List V} {us:List ac} (n:Nat),jg xs us -> jg (xs.drop n) (us.drop n)
 |_,_,0,r=> r
 |_,_,_+1,.nil=>.nil
 |_,_,n+1,.cons _ t=> jg.drop n t
def ame:Option V -> Option ac -> Prop
 |some v,some u=> RelV v u
 |none,none=> True
 |_,_=> False
def KV{κ:Type}:List (κ×V) -> List (κ×ac) -> Prop:=jH fun (p:κ×V) (q:κ×ac)=> p.1=q.1/\RelV p.2 q.2
noncomputable def kV:Key -> V
 |.inl i=>.int i
 |.inr x=>.str x
inductive HO where
 /-- a list -/
 |lst (xs:List V)
 /-- a tuple (never changes) -/
 |tup (xs:List V)
 /-- a dict whose keys are ints and texts;one whose keys are tuples of ints and texts (the empty one is both) -/
 |dK (kvs:List (Key×V))|dT (kvs:List (List Key×V))
 /-- one whose keys are plain tuples -/
 |dD (kvs:List (ae×V))
 /-- a set of ints:its members,its size -/
 |set (S:Int -> Bool) (n:Nat)
 /-- an instance of the class at C,its dict at dx,its attributes -/
 |ins (C dx:Addr) (fs:List (Str×V))
 /-- the dict of the instance at x -/
 |own (x:Addr)
 /-- the dict of an exception -/
 |xd (fs:List (Str×V))
 /-- a bound method,f of x -/
 |met (f x:Addr)
 /-- a range object lo,lo+1,.. below hi -/
 |rng (lo hi:Int)
 /-- a thing that is known to the object (the script;a dict while a loop walks it):read,never written while it is so -/
 |frz (o:Obj) (u:HO)
 /-- a code object's table -/
 |tbl (ps:Array ac)
 /-- an exception of the class at C,its attributes -/
 |exn (C:Addr) (fs:List (Str×V))
 /-- any other thing,by what is true of its one object (a def of one's own:SetO a S n:=HO.ext fun h=>..) -/
 |ext (φ:Heap -> Prop)
abbrev Hp:=Addr -> Option HO
mutual
inductive KD (H:Hp):V -> ae -> Prop
 |non:KD H .non .none
 |int (i:Int):KD H (.int i) (.int i)
 |str (x:Str):KD H (.str x) (.str x)
 |tup {p:Addr} {xs:List V} {ds:List ae}:H p=some (.tup xs) -> KDs H xs ds -> KD H (.ref p) (.tuple ds)
inductive KDs (H:Hp):List V -> List ae -> Prop
 |nil:KDs H [] []
 |cons {x:V} {xs:List V} {d:ae} {ds:List ae}:KD H x d -> KDs H xs ds -> KDs H (x::xs) (d::ds)
end
mutual
theorem KD.mono{H H':Hp}(ht: ∀b xs,H b=some (.tup xs) -> H' b=some (.tup xs)): ∀{v:V} {d:ae},KD H v d -> KD H' v d
 |_,_,.non=>.non
 |_,_,.int i=>.int i
 |_,_,.str x=>.str x
 |_,_,.tup e r=>.tup (ht _ _ e) (KDs.mono ht r)
theorem KDs.mono{H H':Hp}(ht: ∀b xs,H b=some (.tup xs) -> H' b=some (.tup xs)): ∀{v:List V} {d:List ae},KDs H v d -> KDs H' v d
 |_,_,.nil=>.nil
 |_,_,.cons a r=>.cons (KD.mono ht a) (KDs.mono ht r)
end
noncomputable def upd(H:Hp)(a:Addr)(o:HO):Hp:=fun b=> if b=a then some o else H b
theorem y7{H:Hp}{o:HO}:upd H a o a=some o:=by unfold upd;rw [if_pos rfl]
theorem j6{H:Hp}{o:HO}(h:b≠a):upd H a o b=H b:=by unfold upd;rw [if_neg h]
theorem vj{H:Hp}{o:HO}(h:H a=some o)(h':H b=none):a≠b:=by
 intro e;subst e;rw [h]at h';cases h'
def acq(h:Heap)(a:Addr)(its:Array ac):Prop:= ∃n,h.get? a=some {cls:=.type "tuple",data:=.seq its n}
theorem acq.tup{its:Array ac}(x:acq h a its):IsTup h a its:=let ⟨n,e⟩:=x;⟨_,e,rfl,n,rfl⟩
theorem acq.new(h:Heap)(its:Array ac):acq (h.push {cls:=.type "tuple",data:=.seq its}) h.objs.size its:=⟨_,aC _ rfl⟩
abbrev a31(C:Addr)(dx:Option Addr)(t:Addr):Obj:={cls:=.ref C,dict:=dx,data:=.fields #[.ref t,.none,.none,.none,.bool false,.none]}
section
variable(P:aR)(w:aT)
def j5(H:Hp)(h:Heap)(a:Addr):HO -> Prop
 |.lst xs=> xs.length <=sizeLine/\ ∃(its:List ac) (n:Nat),jg xs its/\h.get? a=some {cls:=.type "list",data:=.seq its.toArray n}
 |.tup xs=> xs.length <=sizeLine/\ ∃its:List ac,jg xs its/\acq h a its.toArray
 |.dK kvs=> kvs.length <=sizeLine/\(a==dQ)=false/\ ∃vs,KV kvs vs/\h.DictOf (abh P w) a vs
 | .dT kvs=> kvs.length <=sizeLine/\(a==dQ)=false/\ ∃xs:List (List Key×Addr×ac),
   jH (fun (p:List Key×V) (q:List Key×Addr×ac)=> p.1=q.1/\H q.2.1=some (.tup (p.1.map kV))/\RelV p.2 q.2.2) kvs xs/\
   ∃o es ep,h.get? a=some o/\o.ExactDict/\o.data=.dict es ep/\es.toList=xs.map (entryOfKey (tupleKind (abh P w)))/\(xs.map (·.1)).Nodup
 | .dD kvs=> kvs.length <=sizeLine/\(a==dQ)=false/\ ∃xs:List (ae×Addr×ac),
   jH (fun (p:ae×V) (q:ae×Addr×ac)=> p.1=q.1/\(PF.aem p.1=true/\KD H (.ref q.2.1) p.1)/\RelV p.2 q.2.2) kvs xs/\
   ∃o es ep,h.get? a=some o/\o.ExactDict/\o.data=.dict es ep/\es.toList=xs.map (entryOfKey (PF.aqn P w))/\(xs.map (·.1)).Nodup
 |.set S n=> h.SetOf (intKind P w) a S n
 | .ins C dx fs=> H dx=some (.own a)/\fs.length <=1000/\dx≠a/\h.get? a=some (ib C dx)/\
   ∃mA,h.Ns1 dx mA/\(∀f,ame (fs.lookup f) (mA f))/\jI mA (fs.map (·.1))
 | .exn C fs=> fs.length <=1000/\ ∃(t:Addr) (dxo:Option Addr),h.get? a=some (a31 C dxo t)/\((dxo=none/\fs=[])\/ ∃dx,dxo=some dx/\H dx=some (.own a)/\dx≠a/\
   ∃mA,h.Ns1 dx mA/\(∀f,ame (fs.lookup f) (mA f))/\jI mA (fs.map (·.1)))
 |.own _=> ∃o,h.get? a=some o
 |.xd fs=> ∃mA,h.Ns1 a mA/\ ∀f,ame (fs.lookup f) (mA f)
 |.rng lo hi=> ∃t u v,h.get? a=some {cls:=.type "range",data:=.fields #[.int lo t,.int hi u,.int 1 v]}
 |.frz o u=> h.get? a=some o/\j5 H h a u
 |.tbl ps=> h.get? a=some {cls:=.none,data:=.fields ps}
 |.met f x=> h.get? a=some (gE (.ref f) (.ref x))
 |.ext φ=> φ h/\(∃o,h.get? a=some o)/\ ∀h1 h2:Heap,φ h1 -> (∀o,h1.get? a=some o -> h2.get? a=some o) -> φ h2
def HOk(H:Hp)(h:Heap):Prop:= ∀a o,H a=some o -> j5 P w H h a o
end
section
variable{P:aR}{w:aT}{H H':Hp}{h h':Heap}{a:Addr}{o:HO}
theorem j5.lt(x:j5 P w H h a o):a < h.objs.size:=by
 cases o with
 |lst xs=> obtain⟨_,_,_,_,e⟩:=x;exact aB e
 |tup xs=> obtain⟨_,_,_,p⟩:=x;exact p.tup.lt
 |dK kvs=> obtain⟨_,_,_,_,o,_,_,e,_⟩:=x;exact aB e
 |dT kvs=> obtain⟨_,_,_,_,o,_,_,e,_⟩:=x;exact aB e
 |dD kvs=> obtain⟨_,_,_,_,o,_,_,e,_⟩:=x;exact aB e
 |set S n=> obtain⟨o,_,_,_,e,_⟩:=x;exact aB e
 |ins C dx fs=> obtain⟨_,_,_,e,_⟩:=x;exact aB e
 |exn C fs=> obtain⟨_,_,_,e,_⟩:=x;exact aB e
 |own y=> obtain⟨_,e⟩:=x;exact aB e
 |xd fs=> obtain⟨_,⟨_,_,_,e,_⟩,_⟩:=x;exact aB e
 |rng lo hi=> obtain⟨_,_,_,e⟩:=x;exact aB e
 |frz ob u=> obtain⟨e,_⟩:=x;exact aB e
 |tbl ps=> exact aB (show h.get? a=some _ from x)
 |met f y=> exact aB (show h.get? a=some _ from x)
 |ext φ=> obtain⟨_,⟨_,e⟩,_⟩:=x;exact aB e
theorem Paired.mapP{α β:Type}{F G:α -> β -> Prop}: ∀{l₁:List α} {l₂:List β},jH F l₁ l₂ -> (∀a b,F a b -> G a b) -> jH G l₁ l₂
 |_,_,.nil,_=>.nil
 |_,_,.cons r t,f=>.cons (f _ _ r) (Paired.mapP t f)
theorem j5.stay(x:j5 P w H h a o)(k: ∀b u,(b=a\/H b=some (.own a)) -> h.get? b=some u -> h'.get? b=some u)
  (ho: ∀b,H b=some (.own a) -> H' b=some (.own a)) (ht: ∀b xs,H b=some (.tup xs) -> H' b=some (.tup xs)):j5 P w H' h' a o:=by
 induction o with
 |lst xs=> obtain⟨z,its,n,r,e⟩:=x;exact⟨z,its,n,r,k _ _ (.inl rfl) e⟩
 |tup xs=> obtain⟨z,its,r,n,e⟩:=x;exact⟨z,its,r,n,k _ _ (.inl rfl) e⟩
 |dK kvs=> obtain⟨z,y,vs,r,ob,es,ep,e,c⟩:=x;exact⟨z,y,vs,r,ob,es,ep,k _ _ (.inl rfl) e,c⟩
 |dT kvs=>
  obtain⟨z,y,xs,r,ob,es,ep,e,c⟩:=x
  exact⟨z,y,xs,Paired.mapP r fun p q z=> ⟨z.1,ht _ _ z.2.1,z.2.2⟩,ob,es,ep,k _ _ (.inl rfl) e,c⟩
 |dD kvs=>
  obtain⟨z,y,xs,r,ob,es,ep,e,c⟩:=x
  exact⟨z,y,xs,Paired.mapP r fun p q z=> ⟨z.1,⟨z.2.1.1,z.2.1.2.mono ht⟩,z.2.2⟩,ob,es,ep,k _ _ (.inl rfl) e,c⟩
 |set S n=> obtain⟨ob,es,ep,t,e,c⟩:=x;exact⟨ob,es,ep,t,k _ _ (.inl rfl) e,c⟩
 |ins C dx fs=>
  obtain⟨d,z,ne,e,mA,⟨od,es,ep,e2,c⟩,r⟩:=x
  exact⟨ho _ d,z,ne,k _ _ (.inl rfl) e,mA,⟨od,es,ep,k _ _ (.inr d) e2,c⟩,r⟩
 |exn C fs=>
  obtain⟨z,t,dxo,e,q⟩:=x
  refine⟨z,t,dxo,k _ _ (.inl rfl) e,?_⟩
  rcases q with q|⟨dx,q,d,ne,mA,⟨od,es,ep,e2,c⟩,r⟩
  ·exact .inl q
  ·exact .inr ⟨dx,q,ho _ d,ne,mA,⟨od,es,ep,k _ _ (.inr d) e2,c⟩,r⟩
 |own y=> obtain⟨ob,e⟩:=x;exact⟨ob,k _ _ (.inl rfl) e⟩
 |xd fs=> obtain⟨mA,⟨od,es,ep,e,c⟩,r⟩:=x;exact⟨mA,⟨od,es,ep,k _ _ (.inl rfl) e,c⟩,r⟩
 |rng lo hi=> obtain⟨t,u,v,e⟩:=x;exact⟨t,u,v,k _ _ (.inl rfl) e⟩
 |frz ob u ih=> obtain⟨e,q⟩:=x;exact⟨k _ _ (.inl rfl) e,ih q⟩
 |tbl ps=>
  have e:h.get? a=some {cls:=.none,data:=.fields ps}:=x
  show h'.get? a=some {cls:=.none,data:=.fields ps}
  exact k a _ (.inl rfl) e
 |met f y=>
  have e:h.get? a=some (gE (.ref f) (.ref y)):=x
  show h'.get? a=some (gE (.ref f) (.ref y))
  exact k a _ (.inl rfl) e
 |ext φ=> obtain⟨p,⟨o,e⟩,st⟩:=x;exact⟨st _ _ p fun o q=> k _ _ (.inl rfl) q,⟨o,k _ _ (.inl rfl) e⟩,st⟩
theorem HOk.lt(x:HOk P w H h)(e:H a=some o):a < h.objs.size:=(x a o e).lt
theorem HOk.fresh(x:HOk P w H h)(e:h.objs.size <=a):H a=none:=by
 cases q:H a with
 |none=> rfl
 |some u=> exact absurd (aJ (x.lt q) e) (bU _)
theorem HOk.kept(x:HOk P w H h)(k: ∀b u,h.get? b=some u -> h'.get? b=some u):HOk P w H h':=fun a o e=>
 (x a o e).stay (fun b u _ q=> k b u q) (fun _ q=> q) fun _ _ q=> q
theorem HOk.laid(x:HOk P w H h)(k: ∀b u,h.get? b=some u -> h'.get? b=some u)(hp:h.objs.size <=a)(new:j5 P w (upd H a o) h' a o):HOk P w (upd H a o) h':=fun b u e=> by
 have hn:=x.fresh hp
 by_cases hb:b=a
 ·subst hb;rw [y7]at e;cases e;exact new
 ·rw [j6 hb]at e
  exact (x b u e).stay (fun c v _ q=> k c v q) (fun c q=> by rw [j6 (vj q hn)];exact q) fun c xs q=> by rw [j6 (vj q hn)];exact q
end
def Rd(H:Hp)(a:Addr)(u:HO):Prop:=H a=some u\/ ∃o,H a=some (.frz o u)
theorem Rd.ok{H:Hp}{u:HO}(r:Rd H a u)(x:HOk P w H h):j5 P w H h a u:=by
 rcases r with r|⟨o,r⟩
 ·exact x a u r
 ·obtain⟨_,q⟩:=x a _ r
  exact q
def Mut:Option HO -> Prop
 |some (.lst _)=> True
 |some (.dK _)=> True
 |some (.dT _)=> True
 |some (.dD _)=> True
 |some (.set _ _)=> True
 |some (.ins _ _ _)=> True
 |some (.ext _)=> True
 |some (.exn _ _)=> True
 |_=> False
section
variable{P:aR}{w:aT}{H:Hp}{h h':Heap}{x e:Addr}{o':HO}
theorem HOk.write(ok:HOk P w H h)(mu:Mut (H x))(he:e=x\/H e=some (.own x))(k: ∀b u,b≠e -> h.get? b=some u -> h'.get? b=some u)(heo: ∃u,h'.get? e=some u)
  (new:j5 P w (upd H x o') h' x o'):HOk P w (upd H x o') h':=fun b u q=> by
 have nown: ∀c y,H c=some (.own y) -> c≠x:=fun c y r z=> by subst z;rw [r]at mu;exact mu
 have ntup: ∀c xs,H c=some (.tup xs) -> c≠x:=fun c xs r z=> by subst z;rw [r]at mu;exact mu
 by_cases hb:b=x
 ·subst hb;rw [y7]at q;cases q;exact new
 ·rw [j6 hb]at q
  by_cases hbe:b=e
  ·have q':H b=some (.own x):=by
    rcases he with z|z
    ·exact absurd (hbe.trans z) hb
    ·rw [hbe];exact z
   rw [q]at q';cases q'
   obtain⟨v,hv⟩:=heo
   exact⟨v,by rw [hbe];exact hv⟩
  ·refine (ok b u q).stay (fun c v hc r=> k c v ?_ r) (fun c r=> by rw [j6 (nown c b r)];exact r) fun c xs r=> by rw [j6 (ntup c xs r)];exact r
   rcases hc with rfl|hc
   ·exact hbe
   ·rintro rfl
    rcases he with z|z
    ·exact nown c b hc z
    ·rw [hc]at z;cases z;exact hb rfl
end
structure Un (fs ex:List Addr) (H H':Hp) (h h':Heap):Prop where
 keep: ∀b o,h.get? b=some o -> H b=none -> b∉fs -> b∉ex -> h'.get? b=some o
 slot: ∀b o,h.get? b=some o -> H b=none -> b∈fs -> b∉ex -> ∃sl,h'.get? b=some {o with slots:=sl}
 free: ∀b o,h.get? b=some o -> H b=none -> b∉ex -> H' b=none
 there: ∀b o,h.get? b=some o -> b∉ex -> ∃o',h'.get? b=some o'
 tups: ∀b xs,H b=some (.tup xs) -> H' b=some (.tup xs)
 frzs: ∀b o u,H b=some (.frz o u) -> H' b=some (.frz o u)
 tbls: ∀b ps,H b=some (.tbl ps) -> ∃more,H' b=some (.tbl (ps++more))
section
variable{fs fs' ex ex':List Addr}{H H1 H2:Hp}{h h1 h2 h':Heap}{a x e:Addr}{o:HO}
theorem Un.any(u:Un fs ex H H1 h h1){ob:Obj}(q:h.get? b=some ob)(n:H b=none)(hx:b∉ex): ∃sl,h1.get? b=some {ob with slots:=sl}:=by
 by_cases hb:b∈fs
 ·exact u.slot b ob q n hb hx
 ·exact⟨ob.slots,u.keep b ob q n hb hx⟩
theorem Un.kept(k: ∀b u,h.get? b=some u -> h'.get? b=some u):Un fs ex H H h h':=
 ⟨fun b ob q _ _ _=> k b ob q,fun b ob q _ _ _=> ⟨ob.slots,k b ob q⟩,fun _ _ _ n _=> n,fun b ob q _=> ⟨ob,k b ob q⟩,fun _ _ q=> q,fun _ _ _ q=> q,fun _ ps q=> ⟨#[],by rw [q];simp⟩⟩
theorem Un.refl:Un fs ex H H h h:=Un.kept fun _ _ q=> q
theorem Un.laid(k: ∀b u,h.get? b=some u -> h'.get? b=some u)(hp:h.objs.size <=a)(hn:H a=none):Un fs ex H (upd H a o) h h' where
 keep:=fun b u q _ _ _=> k b u q
 slot:=fun b u q _ _ _=> ⟨u.slots,k b u q⟩
 free:=fun b u q n _=> by rw [j6 (aM (aJ (aB q) hp))];exact n
 there:=fun b u q _=> ⟨u,k b u q⟩
 tups:=fun b xs q=> by rw [j6 (vj q hn)];exact q
 frzs:=fun b u xs q=> by rw [j6 (vj q hn)];exact q
 tbls:=fun b ps q=> ⟨#[],by rw [j6 (vj q hn),q];simp⟩
theorem Un.write(mu:Mut (H x))(he:e=x\/H e=some (.own x))(k: ∀b u,b≠e -> h.get? b=some u -> h'.get? b=some u)(heo: ∃u,h'.get? e=some u):Un fs ex H (upd H x o) h h':=by
 have hx: ∀b,H b=none -> b≠x:=fun b n z=> by subst z;rw [n]at mu;exact mu
 have hb: ∀b,H b=none -> b≠e:=fun b n z=> by
  subst z
  rcases he with r|r
  ·exact hx b n r
  ·rw [n]at r;cases r
 have hm: ∀b u,H b=some u -> ¬Mut (some u) -> b≠x:=fun b u q nm z=> by subst z;rw [q]at mu;exact nm mu
 refine⟨fun b u q n _ _=> k b u (hb b n) q,fun b u q n _ _=> ⟨u.slots,k b u (hb b n) q⟩,fun b u q n _=> by rw [j6 (hx b n)];exact n,fun b u q _=> ?_,
  fun b xs q=> by rw [j6 (hm b _ q fun z=> z)];exact q,fun b u xs q=> by rw [j6 (hm b _ q fun z=> z)];exact q,fun b ps q=> ⟨#[],by rw [j6 (hm b _ q fun z=> z),q];simp⟩⟩
 by_cases hbe:b=e
 ·subst hbe;exact heo
 ·exact⟨u,k b u hbe q⟩
end
noncomputable def trk(h:Heap)(H:Hp):List Addr:=(aU h.objs.size).filter fun a=> (H a).isSome
def abu(h:Heap)(H:Hp):Heap:=PySem.W.hideAll h (trk h H)
theorem ape(h:Heap)(H:Hp):(abu h H).objs.size=h.objs.size:=PySem.W.hideAll_size _ _
theorem aq9{H:Hp}{o:Obj}(e:h.get? b=some o)(n:H b=none):(abu h H).get? b=some o:=
 PySem.W.hideAll_get _ e fun hm=> by
  have q:(H b).isSome=true:=(bG.mp hm).2
  rw [n]at q;simp at q
theorem avh{H:Hp}{o:Obj}(e:(abu h H).get? b=some o):h.get? b=some o/\H b=none:=by
 have e':h.get? b=some o:=PySem.W.of_hideAll (trk h H) e
 refine⟨e',?_⟩
 cases q:H b with
 |none=> rfl
 |some x=>
  have hm:b∈trk h H:=bG.mpr ⟨dA.mpr (aB e'),by simp [q]⟩
  have z:(abu h H).get? b=none:=PySem.W.hideAll_none (trk h H) hm
  rw [z]at e;cases e
noncomputable def aw9(g h:Heap)(L:Addr):List (Addr×Obj):=(aU h.objs.size).filterMap fun a=> if a=L\/(g.get? a).isSome=true then none else (h.get? a).map fun o=> (a,o)
def jx(g h:Heap)(L d:Addr):List (Addr×Obj):=(aw9 g h L).filter fun p=> decide (p.1≠d)
structure Mod (K:am) (mg:Str -> Option ac) (base:Heap):Prop where
 kin:K.In base
 glob:base.Ns bC mg
 blt: ∃mb,base.Ns builtinsNs mb/\ ∀x:Str,x≠"__name__" -> mb x=bc x
 nolimit:base.NoLimit
structure Cx where
 prog:aR
 w:aT
 K:am
 mg:Str -> Option ac
 base:Heap
 A:aZ
 N:List Str
 s₀:ah
 H₀:Hp
 env:Env
 outer:List Env
 stack:List Env
 ex:List Addr
 fn:Str -> Bool
 calm:Bool
 pn:List (Addr×Obj)
 xe:ac -> ah -> Prop
noncomputable def frs(l:List Env):List Addr:=l.filterMap (·.frame)
abbrev Cx.fs(X:Cx):List Addr:=frs X.outer
def Vis(sc:eE)(x:Str):Prop:=sc.names.lookup x=some .local\/sc.names.lookup x=some .cell\/sc.names.lookup x=some .free
def Loc(sc:eE)(x:Str):Prop:=sc.names.lookup x=some .local\/sc.names.lookup x=some .cell
def Look(env:Env)(h:Heap)(m:Str -> Option ac)(x:Str)(u:ac):Prop:=
 (env.kindOf x=some .local/\m x=some u)\/((env.kindOf x=some .cell\/env.kindOf x=some .free)/\ ∃c,env.cells.lookup x=some c/\h.IsCell c (some u))
structure Cx.Ok (X:Cx):Prop where
 mod:Mod X.K X.mg X.base
 kind:X.env.scope.kind=.function
 glob:X.env.globals=bC
 blt:X.env.builtins=builtinsNs
 above:X.s₀.heap.objs.size <=X.env.locals
 inj: ∀x y c,X.env.cells.lookup x=some c -> X.env.cells.lookup y=some c -> x=y
 has: ∀x,(X.env.kindOf x=some .cell\/X.env.kindOf x=some .free) -> ∃c,X.env.cells.lookup x=some c
 cab: ∀x c,X.fn x=true -> X.env.cells.lookup x=some c -> X.s₀.heap.objs.size <=c
 hd:X.calm=true -> X.A.handled=none
 frames:X.A.frames=some X.stack
 stk:X.stack=X.outer\/(X.stack=X.env::X.outer/\X.env.frame=some X.env.locals)
 exf: ∀b∈X.ex,b≠X.env.locals/\ ∀x c,X.env.cells.lookup x=some c -> c≠b
 bs: ∀b o,X.base.get? b=some o -> X.s₀.heap.get? b=some o/\X.H₀ b=none
 bsz:X.base.objs.size <=X.s₀.heap.objs.size
 noex: ∀b o,X.base.get? b=some o -> b∉X.ex
 exfs: ∀b∈X.ex,b∉X.fs
 funs:X.s₀.heap.FunFrames X.base X.outer
 frf: ∀b∈X.fs,X.H₀ b=none
structure Inv (X:Cx) (pins:List (Addr×Obj)) (σ:List (Option V)) (H:Hp) (s:ah):Prop where
 ok:X.Ok
 os:s.os=X.s₀.os
 bare:fz s.gens
 base:Un X.fs X.ex X.H₀ H X.s₀.heap s.heap
 loc: ∃m,s.heap.Ns X.env.locals m/\ ∀(i:Nat) (x:Str) (v:V),X.N[i]?=some x -> σ[i]?=some (some v) -> Vis X.env.scope x -> ∃u,RelV v u/\Look X.env s.heap m x u
 cell: ∀x c,X.env.cells.lookup x=some c -> ∃v,s.heap.IsCell c v
 free:H X.env.locals=none
 freeC: ∀x c,X.env.cells.lookup x=some c -> H c=none
 pin: ∀p∈X.pn++pins,s.heap.get? p.1=some p.2/\H p.1=none/\p.1≠X.env.locals/\p.1∉X.fs/\ ∀v,p.2.data≠ .cell v
 hok:HOk X.prog X.w H s.heap
 len:σ.length=X.N.length
section
variable{X:Cx}{pins:List (Addr×Obj)}{σ:List (Option V)}{H H':Hp}{s:ah}{h':Heap}
theorem Cx.Ok.nofr(ok:X.Ok){o:Obj}(e:X.base.get? b=some o):b∉X.fs:=fun hb=> by
 have:=(ok.funs.mem hb).1
 rw [e]at this;cases this
theorem Inv.bs(I:Inv X pins σ H s): ∀b o,X.base.get? b=some o -> s.heap.get? b=some o/\H b=none:=fun b o e=>
 ⟨I.base.keep b o (I.ok.bs b o e).1 (I.ok.bs b o e).2 (I.ok.nofr e) (I.ok.noex b o e),I.base.free b o (I.ok.bs b o e).1 (I.ok.bs b o e).2 (I.ok.noex b o e)⟩
theorem Inv.bk(I:Inv X pins σ H s): ∀b o,X.base.get? b=some o -> s.heap.get? b=some o:=fun b o e=> (I.bs b o e).1
theorem Inv.mod(I:Inv X pins σ H s):Mod X.K X.mg X.base:=I.ok.mod
theorem Inv.kIn(I:Inv X pins σ H s):X.K.In s.heap:=I.ok.mod.kin.keeps I.bk
theorem Inv.lt(I:Inv X pins σ H s):X.env.locals < s.heap.objs.size:=let ⟨_,hn,_⟩:=I.loc;hn.lt
theorem Inv.sz(I:Inv X pins σ H s):X.s₀.heap.objs.size <=s.heap.objs.size:=a7 I.ok.above (gQ I.lt)
theorem Inv.nofs(I:Inv X pins σ H s)(h:s.heap.objs.size <=a):a∉X.fs:=fun hb=> by
 obtain⟨_,o,ho,_⟩:=I.ok.funs.mem hb
 exact absurd (aJ (aB ho) (a7 I.sz h)) (bU _)
theorem Inv.cne(I:Inv X pins σ H s): ∀x c,X.env.cells.lookup x=some c -> c≠X.env.locals:=fun x c e z=> by
 obtain⟨v,o,ho,hd⟩:=I.cell x c e
 obtain⟨m,⟨o',es,ep,ho',hd',_⟩,_⟩:=I.loc
 rw [z,ho']at ho;cases ho;rw [hd']at hd;cases hd
theorem Inv.funs(I:Inv X pins σ H s):s.heap.FunFrames X.base X.outer:=by
 have all: ∀(l:List Env),(∀b∈frs l,b∈X.fs) -> X.s₀.heap.FunFrames X.base l -> s.heap.FunFrames X.base l:=by
  intro l
  induction l with
  |nil=> intro _ _;trivial
  |cons env r ih=>
   intro hs hl
   obtain⟨hk,⟨L,o,hf,hn,ho,hd⟩,hr⟩:=hl
   have hL:L∈X.fs:=hs L (by unfold frs;rw [bY,hf];exact az)
   obtain⟨sl,e⟩:=I.base.slot L o ho (I.ok.frf L hL) hL fun z=> I.ok.exfs L z hL
   exact⟨hk,⟨L,_,hf,hn,e,hd⟩,ih (fun b hb=> hs b (by unfold frs;rw [bY,hf];exact ay _ hb)) hr⟩
 exact all X.outer (fun _ hb=> hb) I.ok.funs
theorem Inv.stack(I:Inv X pins σ H s):s.heap.FunFrames X.base X.stack:=by
 rcases I.ok.stk with e|⟨e,hf⟩
 ·rw [e];exact I.funs
 ·rw [e]
  obtain⟨m,hn,_⟩:=I.loc
  refine .cons (by rw [I.ok.kind];decide) hf hn ?_ I.funs
  exact Heap.get?_none_of_le (a7 I.ok.bsz I.ok.above)
theorem Inv.stkSub(I:Inv X pins σ H s): ∀b∈frs X.stack,b∈X.env.locals::X.fs:=fun b hb=> by
 rcases I.ok.stk with e|⟨e,hf⟩
 ·rw [e]at hb;exact ay _ hb
 ·rw [e]at hb
  unfold frs at hb
  rw [bY,hf]at hb
  exact hb
theorem Inv.stkFree(I:Inv X pins σ H s): ∀b∈frs X.stack,H b=none:=fun b hb=> by
 rcases aE.mp (I.stkSub b hb) with e|hb
 ·rw [e];exact I.free
 ·obtain⟨_,o,ho,_⟩:=I.ok.funs.mem hb
  exact I.base.free b o ho (I.ok.frf b hb) fun z=> I.ok.exfs b z hb
theorem Inv.step{g':Array GenState}{d':Drawn}(I:Inv X pins σ H s)(hch: ∀b∈ch,(b∈X.ex\/X.s₀.heap.objs.size <=b)/\b≠X.env.locals/\(∀x c,X.env.cells.lookup x=some c -> c≠b)/\ ∀p∈X.pn++pins,p.1≠b)(keep: ∀b o,b≠X.env.locals -> b∉X.fs -> b∉ch -> s.heap.get? b=some o -> H b=none -> h'.get? b=some o)(slot: ∀b o,b≠X.env.locals -> b∈X.fs -> b∉ch -> s.heap.get? b=some o -> H b=none -> ∃sl,h'.get? b=some {o with slots:=sl})(free: ∀b o,b∉ch -> s.heap.get? b=some o -> H b=none -> H' b=none)(there: ∀b o,b∉ch -> s.heap.get? b=some o -> ∃o',h'.get? b=some o')(tups: ∀b xs,H b=some (.tup xs) -> H' b=some (.tup xs))(frzs: ∀b o u,H b=some (.frz o u) -> H' b=some (.frz o u))(tbls: ∀b ps,H b=some (.tbl ps) -> ∃more,H' b=some (.tbl (ps++more)))(ns: ∀m,s.heap.Ns X.env.locals m -> h'.Ns X.env.locals m)(hok:HOk X.prog X.w H' h')(hg:fz g'):
  Inv X pins σ H' {s with heap:=h',gens:=g',drawn:=d',toks:=t'}:=by
 have neL: ∀b o,X.s₀.heap.get? b=some o -> b≠X.env.locals:=fun b o e=> aM (aJ (aB e) I.ok.above)
 have neC: ∀b o,X.s₀.heap.get? b=some o -> b∉X.ex -> b∉ch:=fun b o e hx hb=> by
  rcases (hch b hb).1 with z|z
  ·exact hx z
  ·exact absurd (aJ (aB e) z) (bU _)
 have cellK: ∀x c,X.env.cells.lookup x=some c -> ∀v,s.heap.IsCell c v -> h'.IsCell c v:=fun x c e v ⟨o,ho,hd⟩=> by
  have nch:c∉ch:=fun z=> (hch c z).2.2.1 x c e rfl
  by_cases hc:c∈X.fs
  ·obtain⟨sl,q⟩:=slot c o (I.cne x c e) hc nch ho (I.freeC x c e)
   exact⟨_,q,hd⟩
  ·exact⟨o,keep c o (I.cne x c e) hc nch ho (I.freeC x c e),hd⟩
 refine⟨I.ok,I.os,hg,⟨fun b o e n hb hx=> ?_,fun b o e n hb hx=> ?_,fun b o e n hx=> ?_,fun b o e hx=> ?_,fun b xs e=> tups b xs (I.base.tups b xs e),fun b o xs e=> frzs b o xs (I.base.frzs b o xs e),fun b ps e=> ?_⟩,?_,fun x c e=> ?_,?_,fun x c e=> ?_,fun p hp=> ?_,hok,I.len⟩
 ·exact keep b o (neL b o e) hb (neC b o e hx) (I.base.keep b o e n hb hx) (I.base.free b o e n hx)
 ·obtain⟨sl,e1⟩:=I.base.slot b o e n hb hx
  obtain⟨sl',e2⟩:=slot b _ (neL b o e) hb (neC b o e hx) e1 (I.base.free b o e n hx)
  exact⟨sl',e2⟩
 ·obtain⟨o',e1⟩:=I.base.there b o e hx
  exact free b o' (neC b o e hx) e1 (I.base.free b o e n hx)
 ·obtain⟨o',e1⟩:=I.base.there b o e hx
  exact there b o' (neC b o e hx) e1
 ·obtain⟨m1,e1⟩:=I.base.tbls b ps e
  obtain⟨m2,e2⟩:=tbls b _ e1
  exact⟨m1++m2,by rw [e2,Array.append_assoc]⟩
 ·obtain⟨m,hn,hl⟩:=I.loc
  refine⟨m,ns m hn,fun i x v e1 e2 e3=> ?_⟩
  obtain⟨u,r,l⟩:=hl i x v e1 e2 e3
  refine⟨u,r,?_⟩
  rcases l with l|⟨k,c,e,z⟩
  ·exact .inl l
  ·exact .inr ⟨k,c,e,cellK x c e _ z⟩
 ·obtain⟨v,z⟩:=I.cell x c e
  exact⟨v,cellK x c e v z⟩
 ·obtain⟨m,⟨o,_,_,ho,_⟩,_⟩:=I.loc
  exact free _ o (fun z=> (hch _ z).2.1 rfl) ho I.free
 ·obtain⟨v,o,ho,hd⟩:=I.cell x c e
  exact free c o (fun z=> (hch c z).2.2.1 x c e rfl) ho (I.freeC x c e)
 ·obtain⟨e,n,ne,nf,d⟩:=I.pin p hp
  have nch:p.1∉ch:=fun z=> (hch p.1 z).2.2.2 p hp rfl
  exact⟨keep p.1 p.2 ne nf nch e n,free p.1 p.2 nch e n,ne,nf,d⟩
theorem Inv.un(I:Inv X pins σ H s)(u:Un X.fs [] H H' s.heap h')(hok:HOk X.prog X.w H' h'):Inv X pins σ H' {s with heap:=h',toks:=t'}:=by
 obtain⟨m,⟨o,es,ep,ho,r⟩,_⟩:=id I.loc
 obtain⟨sl,hL⟩:=u.any ho I.free (by simp)
 exact I.step (g':=s.gens) (d':=s.drawn) (ch:=[]) (fun _ z=> nomatch z) (fun b o _ hb _ e n=> u.keep b o e n hb (by simp)) (fun b o _ hb _ e n=> u.slot b o e n hb (by simp)) (fun b o _ e n=> u.free b o e n (by simp)) (fun b o _ e=> u.there b o e (by simp)) u.tups u.frzs u.tbls (fun m' hm=> by
  obtain⟨o',es',ep',ho',r'⟩:=hm
  rw [ho]at ho';cases ho'
  exact⟨_,es',ep',hL,r'⟩) hok I.bare
theorem Inv.call{g':Array GenState}{d':Drawn}(I:Inv X pins σ H s)(u:Un (frs X.stack) ch H H' s.heap h')(hok:HOk X.prog X.w H' h')(hg:fz g')(hch: ∀b∈ch,(b∈X.ex\/X.s₀.heap.objs.size <=b)/\b≠X.env.locals/\(∀x c,X.env.cells.lookup x=some c -> c≠b)/\ ∀p∈X.pn++pins,p.1≠b):
  Inv X pins σ H' {s with heap:=h',gens:=g',drawn:=d',toks:=t'}:=by
 obtain⟨m,⟨o,es,ep,ho,r⟩,_⟩:=id I.loc
 obtain⟨sl,hL⟩:=u.any ho I.free fun z=> (hch _ z).2.1 rfl
 exact I.step (ch:=ch) hch (fun b o hL hb hc e n=> u.keep b o e n (fun z=> (aE.mp (I.stkSub b z)).elim hL hb) hc) (fun b o _ _ hc e n=> u.any e n hc) (fun b o hc e n=> u.free b o e n hc) (fun b o hc e=> u.there b o e hc) u.tups u.frzs u.tbls (fun m' hm=> by
  obtain⟨o',es',ep',ho',r'⟩:=hm
  rw [ho]at ho';cases ho'
  exact⟨_,es',ep',hL,r'⟩) hok hg
theorem Inv.turned{it:Addr}(I:Inv X pins σ H s)(k: ∀b o,b≠it -> s.heap.get? b=some o -> h'.get? b=some o)(hn:H it=none)(hL:it≠X.env.locals)(h1:it∈X.ex\/X.s₀.heap.objs.size <=it)(h2: ∀x c,X.env.cells.lookup x=some c -> c≠it)(h3: ∀p∈X.pn++pins,p.1≠it):Inv X pins σ H {s with heap:=h',toks:=t'}:=by
 have nit: ∀b u,H b=some u -> b≠it:=fun b u e z=> by rw [z,hn]at e;cases e
 refine I.step (g':=s.gens) (d':=s.drawn) (ch:=[it]) (fun b hb=> ?_) (fun b o _ _ hc e _=> k b o (fun z=> hc (by simp [z])) e) (fun b o _ _ hc e _=> ⟨o.slots,k b o (fun z=> hc (by simp [z])) e⟩) (fun _ _ _ _ n=> n)
  (fun b o hc e=> ⟨o,k b o (fun z=> hc (by simp [z])) e⟩) (fun _ _ e=> e) (fun _ _ _ e=> e) (fun b ps e=> ⟨#[],by rw [e];simp⟩) (fun m hm=> ?_) (fun b u e=> ?_) I.bare
 ·have e:b=it:=by simpa using hb
  subst e
  exact⟨h1,hL,h2,h3⟩
 ·obtain⟨o,es,ep,ho,r⟩:=hm
  exact⟨o,es,ep,k _ o (cV hL) ho,r⟩
 ·refine (I.hok b u e).stay (fun c v hc q=> k c v ?_ q) (fun _ q=> q) fun _ _ q=> q
  rcases hc with z|z
  ·rw [z];exact nit b u e
  ·exact nit c _ z
theorem Inv.tok(I:Inv X pins σ H s)(t:Nat):Inv X pins σ H {s with toks:=t}:=I.un (h':=s.heap) (t':=t) Un.refl I.hok
theorem Inv.kept(I:Inv X pins σ H s)(k: ∀b u,s.heap.get? b=some u -> h'.get? b=some u):Inv X pins σ H {s with heap:=h',toks:=t'}:=I.un (Un.kept k) (I.hok.kept k)
theorem Inv.laid{o:HO}(I:Inv X pins σ H s)(k: ∀b u,s.heap.get? b=some u -> h'.get? b=some u)(hp:s.heap.objs.size <=a)(new:j5 X.prog X.w (upd H a o) h' a o):
  Inv X pins σ (upd H a o) {s with heap:=h',toks:=t'}:=I.un (Un.laid k hp (I.hok.fresh hp)) (I.hok.laid k hp new)
theorem Inv.write{x e:Addr}{o:HO}(I:Inv X pins σ H s)(mu:Mut (H x))(he:e=x\/H e=some (.own x))(k: ∀b u,b≠e -> s.heap.get? b=some u -> h'.get? b=some u)(heo: ∃u,h'.get? e=some u)(new:j5 X.prog X.w (upd H x o) h' x o):Inv X pins σ (upd H x o) {s with heap:=h',toks:=t'}:=I.un (Un.write mu he k heo) (I.hok.write mu he k heo new)
theorem Inv.pins_of{pins':List (Addr×Obj)}(I:Inv X pins σ H s)(h: ∀p∈pins',s.heap.get? p.1=some p.2/\H p.1=none/\p.1≠X.env.locals/\p.1∉X.fs/\ ∀v,p.2.data≠ .cell v):Inv X pins' σ H s:=
 ⟨I.ok,I.os,I.bare,I.base,I.loc,I.cell,I.free,I.freeC,fun p hp=> (bH.mp hp).elim (fun z=> I.pin p (fF _ z)) (h p),I.hok,I.len⟩
theorem ajj{N:List Str}(hN:N.Nodup){j:Nat}(a:N[i]?=some x)(b:N[j]?=some x):i=j:=by
 obtain⟨h1,e1⟩:=aF.mp a
 obtain⟨h2,e2⟩:=aF.mp b
 exact (List.getElem_inj hN).mp (e1.trans e2.symm)
theorem ah1{v:V}(I:Inv X pins σ H s)(hN:X.N.Nodup)(hi:X.N[i]?=some x)(hx:Loc X.env.scope x)(r:RelV v u)(h: ∀s',Inv X pins (σ.set i (some v)) H s' -> (∃a,bh a s.heap s'.heap/\(a=X.env.locals\/X.env.cells.lookup x=some a)) -> Q () s')(hf:X.fn x=true\/X.env.scope.names.lookup x=some .local:=by first|exact .inl rfl|exact .inr rfl|assumption):wpAny M A (storeName X.env x u) Q E s:=by
 obtain⟨m,hn,hl⟩:=id I.loc
 have hcls:(X.env.scope.kind==.class||(X.env.scope.kind==.module&&X.env.locals !=X.env.globals))=false:=by rw [I.ok.kind];rfl
 have hiσ:i < σ.length:=by rw [I.len];exact (aF.mp hi).1
 have cne:=I.cne
 have tracked: ∀{a:Addr} {h':Heap},(∃o,s.heap.get? a=some o/\H a=none) -> bh a s.heap h' -> HOk X.prog X.w H h':=fun {a h'} ha hs b ob e=> by
  obtain⟨_,_,hfree⟩:=ha
  refine (I.hok b ob e).stay (fun c w' hc q=> (hs.2 c ?_).trans q) (fun _ q=> q) fun _ _ q=> q
  rintro rfl
  rcases hc with rfl|hc
  ·rw [hfree]at e;cases e
  ·rw [hfree]at hc;cases hc
 rcases hx with hk|hk
 ·refine wpAny_storeName_local hk hn (fun h' hn' hs=> ?_) hcls
  obtain⟨oL,_,_,hoL,_⟩:=id hn
  refine h _ ⟨I.ok,I.os,I.bare,⟨fun b o e n hb hx=> ?_,fun b o e n hb hx=> ?_,I.base.free,fun b o e hx=> ?_,I.base.tups,I.base.frzs,I.base.tbls⟩,⟨_,hn',fun j y v' e1 e2 e3=> ?_⟩,fun y c e=> ?_,I.free,I.freeC,fun p hp=> ?_,tracked ⟨oL,hoL,I.free⟩ hs,by simpa using I.len⟩ ⟨_,hs,.inl rfl⟩
  ·exact (hs.2 b (aM (aJ (aB e) I.ok.above))).trans (I.base.keep b o e n hb hx)
  ·obtain⟨sl,e1⟩:=I.base.slot b o e n hb hx
   exact⟨sl,(hs.2 b (aM (aJ (aB e) I.ok.above))).trans e1⟩
  ·obtain⟨o',e1⟩:=I.base.there b o e hx
   exact⟨o',(hs.2 b (aM (aJ (aB e) I.ok.above))).trans e1⟩
  ·by_cases hj:j=i
   ·subst hj
    rw [hi]at e1;cases e1
    rw [bj hiσ]at e2
    cases e2
    exact⟨u,r,.inl ⟨hk,by simp⟩⟩
   ·rw [aY (cV hj)]at e2
    obtain⟨u',r',q⟩:=hl j y v' e1 e2 e3
    refine⟨u',r',?_⟩
    rcases q with ⟨k,e⟩|⟨k,c,e,z⟩
    ·refine .inl ⟨k,?_⟩
     have:y≠x:=fun e=> hj (ajj hN e1 (e▸hi))
     simp [this,e]
    ·exact .inr ⟨k,c,e,z.sameBut hs (cne y c e)⟩
  ·obtain⟨w',z⟩:=I.cell y c e
   exact⟨w',z.sameBut hs (cne y c e)⟩
  ·obtain⟨e,n,ne,nf,d⟩:=I.pin p hp
   exact⟨(hs.2 p.1 ne).trans e,n,ne,nf,d⟩
 ·have hfn:X.fn x=true:=by
   rcases hf with z|z
   ·exact z
   ·rw [z]at hk;cases hk
  obtain⟨c,hc⟩:=I.ok.has x (.inl hk)
  obtain⟨w',z⟩:=I.cell x c hc
  refine wpAny_storeName_cell I.ok.kind hk hc z (fun h' hc' hs=> ?_)
  obtain⟨oc,hoc,hocd⟩:=id z
  refine h {s with heap:=h'} ⟨I.ok,I.os,I.bare,⟨fun b o e n hb hx=> ?_,fun b o e n hb hx=> ?_,I.base.free,fun b o e hx=> ?_,I.base.tups,I.base.frzs,I.base.tbls⟩,⟨m,hn.sameBut hs (cV (cne x c hc)),fun j y v' e1 e2 e3=> ?_⟩,fun y c' e=> ?_,I.free,I.freeC,fun p hp=> ?_,tracked ⟨oc,hoc,I.freeC x c hc⟩ hs,by simpa using I.len⟩ ⟨c,hs,.inr hc⟩
  ·exact (hs.2 b (aM (aJ (aB e) (I.ok.cab x c hfn hc)))).trans (I.base.keep b o e n hb hx)
  ·obtain⟨sl,e1⟩:=I.base.slot b o e n hb hx
   exact⟨sl,(hs.2 b (aM (aJ (aB e) (I.ok.cab x c hfn hc)))).trans e1⟩
  ·obtain⟨o',e1⟩:=I.base.there b o e hx
   exact⟨o',(hs.2 b (aM (aJ (aB e) (I.ok.cab x c hfn hc)))).trans e1⟩
  ·by_cases hj:j=i
   ·subst hj
    rw [hi]at e1;cases e1
    rw [bj hiσ]at e2
    cases e2
    exact⟨u,r,.inr ⟨.inl hk,c,hc,hc'⟩⟩
   ·rw [aY (cV hj)]at e2
    obtain⟨u',r',q⟩:=hl j y v' e1 e2 e3
    refine⟨u',r',?_⟩
    rcases q with q|⟨k,c',e,z'⟩
    ·exact .inl q
    ·refine .inr ⟨k,c',e,z'.sameBut hs ?_⟩
     rintro rfl
     exact hj (ajj hN e1 (I.ok.inj _ _ _ e hc▸hi))
  ·by_cases hcc:c'=c
   ·subst hcc;exact⟨_,hc'⟩
   ·obtain⟨w2,z2⟩:=I.cell y c' e
    exact⟨w2,z2.sameBut hs hcc⟩
  ·obtain⟨e,n,ne,nf,d⟩:=I.pin p hp
   refine⟨(hs.2 p.1 ?_).trans e,n,ne,nf,d⟩
   intro q
   rw [q,hoc]at e
   have q':oc=p.2:=bN e
   exact d w' (by rw [←q'];exact hocd)
theorem aik{v:V}(I:Inv X pins σ H s)(hN:X.N.Nodup)(hi:X.N[i]?=some x)(hx:Loc X.env.scope x)(r:RelV v u)(h: ∀s',Inv X pins (σ.set i (some v)) H s' -> Q () s')(hf:X.fn x=true\/X.env.scope.names.lookup x=some .local:=by first|exact .inl rfl|exact .inr rfl|assumption):wpAny M A (storeName X.env x u) Q E s:=
 ah1 I hN hi hx r (fun s' I' _=> h s' I') hf
theorem Inv.call'{s':ah}(I:Inv X pins σ H s)(ho:s'.os=s.os)(u:Un (frs X.stack) ch H H' s.heap s'.heap)(hok:HOk X.prog X.w H' s'.heap)(hg:fz s'.gens)(hch: ∀b∈ch,(b∈X.ex\/X.s₀.heap.objs.size <=b)/\b≠X.env.locals/\(∀x c,X.env.cells.lookup x=some c -> c≠b)/\ ∀p∈X.pn++pins,p.1≠b):Inv X pins σ H' s':=by
 obtain⟨h',g',d',t',o'⟩:=s'
 have e:o'=s.os:=ho
 subst e
 exact I.call (g':=g') (t':=t') (d':=d') u hok hg hch
end
abbrev XK:=ac -> Option Addr -> Hp -> Prop
abbrev St:=List (Option V)
abbrev VK:=V -> Hp -> Prop
abbrev TE:=St -> Hp -> VK -> Prop
abbrev TT:=St -> Hp -> (Bool -> Hp -> Prop) -> Prop
abbrev TA:=St -> Hp -> (List V -> Hp -> Prop) -> Prop
structure Ends where
 nx:St -> Hp -> Prop
 rt:VK
 bk:St -> Hp -> Prop:=fun _ _=> False
 ct:St -> Hp -> Prop:=fun _ _=> False
abbrev TS:=Ends -> St -> Hp -> Prop
def EP(X:Cx)(pins:List (Addr×Obj))(σ:St)(Q:VK)(u:ac)(s':ah):Prop:= ∃v H',Inv X pins σ H' s'/\RelV v u/\Q v H'
def TP(X:Cx)(pins:List (Addr×Obj))(σ:St)(Q:Bool -> Hp -> Prop)(b:Bool)(s':ah):Prop:= ∃H',Inv X pins σ H' s'/\Q b H'
def AP(X:Cx)(pins:List (Addr×Obj))(σ:St)(Q:List V -> Hp -> Prop)(us:List ac)(s':ah):Prop:= ∃vs H',Inv X pins σ H' s'/\jg vs us/\Q vs H'
def SP(X:Cx)(pins:List (Addr×Obj))(D:Ends)(f:Flow)(s':ah):Prop:=
 match f with
 |.next=> ∃σ' H',Inv X pins σ' H' s'/\D.nx σ' H'
 |.brk=> ∃σ' H',Inv X pins σ' H' s'/\D.bk σ' H'
 |.cont=> ∃σ' H',Inv X pins σ' H' s'/\D.ct σ' H'
 |.ret u=> ∃v σ' H',Inv X pins σ' H' s'/\RelV v u/\D.rt v H'
structure PE (X:Cx) (e:Expr) (t:TE):Prop where
 run: ∀(pins:List (Addr×Obj)) (s:ah) (σ:St) (H:Hp) (Q:VK),Inv X pins σ H s -> t σ H Q -> wpAny (model X.prog X.w) X.A (eval e X.env) (EP X pins σ Q) X.xe s
instance {X:Cx} {e:Expr} {t:TE}:CoeFun (PE X e t) fun _=> ∀(pins:List (Addr×Obj)) (s:ah) (σ:St) (H:Hp) (Q:VK),Inv X pins σ H s -> t σ H Q -> wpAny (model X.prog X.w) X.A (eval e X.env) (EP X pins σ Q) X.xe s:=⟨PE.run⟩
structure PT (X:Cx) (e:Expr) (t:TT):Prop where
 run: ∀(pins:List (Addr×Obj)) (s:ah) (σ:St) (H:Hp) (Q:Bool -> Hp -> Prop),Inv X pins σ H s -> t σ H Q -> wpAny (model X.prog X.w) X.A (isTrue e X.env (eval e X.env)) (TP X pins σ Q) X.xe s
instance {X:Cx} {e:Expr} {t:TT}:CoeFun (PT X e t) fun _=> ∀(pins:List (Addr×Obj)) (s:ah) (σ:St) (H:Hp) (Q:Bool -> Hp -> Prop),Inv X pins σ H s -> t σ H Q -> wpAny (model X.prog X.w) X.A (isTrue e X.env (eval e X.env)) (TP X pins σ Q) X.xe s:=⟨PT.run⟩
structure PW (X:Cx) (e:Expr) (t:TT):Prop where
 run: ∀(whole:Sem ac) (pins:List (Addr×Obj)) (s:ah) (σ:St) (H:Hp) (Q:Bool -> Hp -> Prop),Inv X pins σ H s -> t σ H Q -> wpAny (model X.prog X.w) X.A (isTrue e X.env whole) (TP X pins σ Q) X.xe s
instance {X:Cx} {e:Expr} {t:TT}:CoeFun (PW X e t) fun _=> ∀(whole:Sem ac) (pins:List (Addr×Obj)) (s:ah) (σ:St) (H:Hp) (Q:Bool -> Hp -> Prop),Inv X pins σ H s -> t σ H Q -> wpAny (model X.prog X.w) X.A (isTrue e X.env whole) (TP X pins σ Q) X.xe s:=⟨PW.run⟩
theorem PW.pt{X:Cx}{t:TT}(h:PW X e t):PT X e t:=⟨h _⟩
structure PA (X:Cx) (es:List Expr) (t:TA):Prop where
 run: ∀(pos:Pos) (pins:List (Addr×Obj)) (s:ah) (σ:St) (H:Hp) (Q:List V -> Hp -> Prop),Inv X pins σ H s -> t σ H Q -> wpAny (model X.prog X.w) X.A (spliced (backTo pos (starEach es X.env))) (AP X pins σ Q) X.xe s
instance {X:Cx} {es:List Expr} {t:TA}:CoeFun (PA X es t) fun _=> ∀(pos:Pos) (pins:List (Addr×Obj)) (s:ah) (σ:St) (H:Hp) (Q:List V -> Hp -> Prop),Inv X pins σ H s -> t σ H Q -> wpAny (model X.prog X.w) X.A (spliced (backTo pos (starEach es X.env))) (AP X pins σ Q) X.xe s:=⟨PA.run⟩
structure PS (X:Cx) (st:Stmt) (t:TS):Prop where
 run: ∀(pins:List (Addr×Obj)) (s:ah) (σ:St) (H:Hp) (D:Ends),Inv X pins σ H s -> t D σ H -> wpAny (model X.prog X.w) X.A (exec st X.env) (SP X pins D) X.xe s
instance {X:Cx} {st:Stmt} {t:TS}:CoeFun (PS X st t) fun _=> ∀(pins:List (Addr×Obj)) (s:ah) (σ:St) (H:Hp) (D:Ends),Inv X pins σ H s -> t D σ H -> wpAny (model X.prog X.w) X.A (exec st X.env) (SP X pins D) X.xe s:=⟨PS.run⟩
structure PSs (X:Cx) (st:List Stmt) (t:TS):Prop where
 run: ∀(pins:List (Addr×Obj)) (s:ah) (σ:St) (H:Hp) (D:Ends),Inv X pins σ H s -> t D σ H -> wpAny (model X.prog X.w) X.A (execs st X.env) (SP X pins D) X.xe s
instance {X:Cx} {st:List Stmt} {t:TS}:CoeFun (PSs X st t) fun _=> ∀(pins:List (Addr×Obj)) (s:ah) (σ:St) (H:Hp) (D:Ends),Inv X pins σ H s -> t D σ H -> wpAny (model X.prog X.w) X.A (execs st X.env) (SP X pins D) X.xe s:=⟨PSs.run⟩
theorem thn{α:Type}{t:Sem α}{Q Q':α -> ah -> Prop}(h:wpAny M A t Q E s)(hQ: ∀a s,Q a s -> Q' a s):wpAny M A t Q' E s:=cC h hQ fun _ _ x=> x
section
variable{X:Cx}
noncomputable def azk(i:Nat):TE:=fun σ H Q=> ∃v,σ[i]?=some (some v)/\Q v H
noncomputable def tC(v:V):TE:=fun _ H Q=> Q v H
theorem ax6(hN:X.N[i]?=some x)(hv:Vis X.env.scope x)(hd:(x==("__debug__":Str))=false:=by decide)(hcd:(x==("__classdict__":Str))=false:=by decide):PE X (.Name x pos) (azk i):=by
 (first|refine⟨?_⟩|skip);intro pins s σ H Q I h
 obtain⟨v,e,h⟩:=h
 obtain⟨m,hn,hl⟩:=I.loc
 obtain⟨u,r,l⟩:=hl i x v hN e hv
 have fin:EP X pins σ Q u s:=⟨v,H,I,r,h⟩
 rcases l with ⟨hk,hm⟩|⟨hk,c,hc,hcell⟩
 ·exact wpAny_Name (wpAny_loadName_local I.ok.kind hk hn hm fin) hd
 ·rcases hk with hk|hk
  ·exact wpAny_Name (wpAny_loadName_cell I.ok.kind hk hc hcell fin) hd
  ·exact wpAny_Name (wpAny_loadName_free I.ok.kind hk hc hcell fin hcd) hd
theorem ahx{i j pos}:PE X (.Constant (.int i) j pos) (tC (.int i)):=.mk <|fun _ _ _ H _ I h=> wpAny_Constant_int ⟨.int i,H,I.tok _,⟨_,rfl⟩,h⟩
theorem ata{b j pos}:PE X (.Constant (.bool b) j pos) (tC (.bl b)):=.mk <|fun _ _ _ H _ I h=> Constant_bool ⟨.bl b,H,I,rfl,h⟩
theorem aph{j pos}:PE X (.Constant .none j pos) (tC .non):=.mk <|fun _ _ _ H _ I h=> Constant_none ⟨.non,H,I,rfl,h⟩
theorem aog{x j pos}:PE X (.Constant (.str x) j pos) (tC (.str x)):=.mk <|fun _ _ _ H _ I h=> Calls.Constant_str ⟨.str x,H,I.tok _,⟨_,rfl⟩,h⟩
def Gl(X:Cx)(x:Str):Prop:=X.env.kindOf x=some .globalImplicit
theorem akw{σ:St}{H:Hp}{Q:ac -> ah -> Prop}(I:Inv X pins σ H s)(hg:Gl X x)(hm:X.mg x=some u)(h:Q u s)(hd:(x==("__debug__":Str))=false:=by decide):wpAny (model X.prog X.w) X.A (eval (.Name x pos) X.env) Q E s:=
 gx I.ok.kind hg (Calls.loadGlobal_global (by rw [I.ok.glob];exact I.mod.glob.keeps I.bk) hm h) hd
theorem zo{σ:St}{H:Hp}{Q:ac -> ah -> Prop}(I:Inv X pins σ H s)(hg:Gl X x)(hm:X.mg x=none)(hv:bc x=some u)(h:Q u s)(hn:x≠"__name__":=by decide)(hd:(x==("__debug__":Str))=false:=by decide):wpAny (model X.prog X.w) X.A (eval (.Name x pos) X.env) Q E s:=by
 obtain⟨mb,h1,h2⟩:=I.mod.blt
 exact gx I.ok.kind hg (Calls.loadGlobal_builtin (by rw [I.ok.glob];exact I.mod.glob.keeps I.bk) hm (by rw [I.ok.blt];exact h1.keeps I.bk) ((h2 x hn).trans hv) h) hd
theorem auf{v:V}(hg:Gl X x)(hm:X.mg x=some u)(r:RelV v u)(hd:(x==("__debug__":Str))=false:=by decide):PE X (.Name x pos) (tC v):=
 .mk <|fun _ _ _ H _ I h=> akw I hg hm ⟨v,H,I,r,h⟩ hd
theorem aud{v:V}(hg:Gl X x)(hm:X.mg x=none)(hv:bc x=some u)(r:RelV v u)(hn:x≠"__name__":=by decide)(hd:(x==("__debug__":Str))=false:=by decide):PE X (.Name x pos) (tC v):=
 .mk <|fun _ _ _ H _ I h=> zo I hg hm hv ⟨v,H,I,r,h⟩ hn hd
variable{a b:Expr}{ta tb:TE}{pos:Pos}
variable{tA tB':TT}{jx:List Expr}
noncomputable def awg(t u:TT):TT:=fun σ H Q=> t σ H fun c H1=> if c=true then u σ H1 Q else Q false H1
noncomputable def tOr(t u:TT):TT:=fun σ H Q=> t σ H fun c H1=> if c=true then Q true H1 else u σ H1 Q
noncomputable def ayd(t:TT):TT:=fun σ H Q=> t σ H fun c H1=> Q (!c) H1
theorem auc(ha:PT X a tA):PW X (.BoolOp .And [a] pos) tA:=by
 (first|refine⟨?_⟩|skip);intro wh pins s σ H Q I h
 refine isTrue_and (thn (ha pins s σ H Q I h) fun c s1 e=> ?_)
 cases c with
 |true=> exact isTrue_and_nil e
 |false=> exact e
theorem awz(ha:PT X a tA):PW X (.BoolOp .Or [a] pos) tA:=by
 (first|refine⟨?_⟩|skip);intro wh pins s σ H Q I h
 refine isTrue_or (thn (ha pins s σ H Q I h) fun c s1 e=> ?_)
 cases c with
 |false=> exact isTrue_or_nil e
 |true=> exact e
theorem ayq(ha:PT X a tA)(hb:PW X (.BoolOp .And (b::jx) pos) tB'):PW X (.BoolOp .And (a::b::jx) pos) (awg tA tB'):=by
 (first|refine⟨?_⟩|skip);intro wh pins s σ H Q I h
 refine isTrue_and (thn (ha pins s σ H _ I h) fun c s1 ⟨H1,I1,q1⟩=> ?_)
 cases c with
 |true=> exact hb wh pins s1 σ H1 Q I1 q1
 |false=> exact⟨H1,I1,q1⟩
theorem a0b(ha:PT X a tA)(hb:PW X (.BoolOp .Or (b::jx) pos) tB'):PW X (.BoolOp .Or (a::b::jx) pos) (tOr tA tB'):=by
 (first|refine⟨?_⟩|skip);intro wh pins s σ H Q I h
 refine isTrue_or (thn (ha pins s σ H _ I h) fun c s1 ⟨H1,I1,q1⟩=> ?_)
 cases c with
 |true=> exact⟨H1,I1,q1⟩
 |false=> exact hb wh pins s1 σ H1 Q I1 q1
theorem ay9(ha:PT X a tA):PT X (.UnaryOp .Not a pos) (ayd tA):=by
 (first|refine⟨?_⟩|skip);intro pins s σ H Q I h
 exact isTrue_not (ha pins s σ H (fun c H1=> Q (!c) H1) I h)
noncomputable def a1b(ta tb:TE):TE:=fun σ H Q=> ta σ H fun x H1=> ∃c,x=.bl c/\if c=true then tb σ H1 Q else Q (.bl false) H1
noncomputable def a0r(ta:TE):TE:=fun σ H Q=> ta σ H fun x H1=> ∃c,x=.bl c/\Q (.bl (!c)) H1
theorem aze{op}{t:TE}(h:PE X a t):PE X (.BoolOp op [a] pos) t:=.mk <|fun pins s σ H Q I hw=> BoolOp_one (h pins s σ H Q I hw)
theorem azx(ha:PE X a ta)(hb:PE X (.BoolOp .And (b::jx) pos) tb):PE X (.BoolOp .And (a::b::jx) pos) (a1b ta tb):=by
 (first|refine⟨?_⟩|skip);intro pins s σ H Q I h
 refine BoolOp_and (thn (ha pins s σ H _ I h) fun v s1 ⟨x,H1,I1,r1,q1⟩=> ?_)
 obtain⟨c,rfl,q1⟩:=q1
 cases r1
 refine bK ?_
 cases c with
 |true=> exact hb pins s1 σ H1 Q I1 q1
 |false=> exact⟨.bl false,H1,I1,rfl,q1⟩
theorem ax0(ha:PE X a ta):PE X (.UnaryOp .Not a pos) (a0r ta):=by
 (first|refine⟨?_⟩|skip);intro pins s σ H Q I h
 refine UnaryOp_ (thn (ha pins s σ H _ I h) fun v s1 ⟨x,H1,I1,r1,q1⟩=> ?_)
 obtain⟨c,rfl,q1⟩:=q1
 cases r1
 exact not_of (bK ⟨.bl (!c),H1,I1,rfl,q1⟩)
end
def SqL(K:am)(H:Hp)(a:Addr)(xs:List V):Prop:=
 Rd H a (.lst xs)\/
  ∃(o:Obj) (its:Array ac) (n:Nat),K.lookup a=some o/\o.cls=.type "list"/\o.dict=none/\o.data=.seq its n/\its.size <=sizeLine/\jg xs its.toList
def SqT(K:am)(H:Hp)(a:Addr)(xs:List V):Prop:=
 Rd H a (.tup xs)\/
  ∃(o:Obj) (its:Array ac) (n:Nat),K.lookup a=some o/\o.cls=.type "tuple"/\o.data=.seq its n/\its.size <=sizeLine/\jg xs its.toList
noncomputable def a2o:ac -> Option V
 |.none=> some .non
 |.bool b=> some (.bl b)
 |.int i _=> some (.int i)
 |.str x _=> some (.str x)
 |.bytes b _=> some (.byt b)
 |.float b _=> some (.flt b)
 |.ref a=> some (.ref a)
 |.type n=> some (.ty n)
 |_=> none
theorem RelV.abs{x:V}(r:RelV x u):a2o u=some x:=by
 cases x with
 |non=> cases r;rfl
 |bl _=> cases r;rfl
 |int _=> obtain⟨t,rfl⟩:=r;rfl
 |str _=> obtain⟨t,rfl⟩:=r;rfl
 |byt _=> obtain⟨t,rfl⟩:=r;rfl
 |flt _=> obtain⟨t,rfl⟩:=r;rfl
 |ref _=> cases r;rfl
 |ty _=> cases r;rfl
theorem RelV.inj{x y:V}(r:RelV x u)(q:RelV y u):x=y:=bN (r.abs.symm.trans q.abs)
theorem jg.inj: ∀{xs ys:List V} {us:List ac},jg xs us -> jg ys us -> xs=ys
 |_,_,_,.nil,.nil=> rfl
 |_,_,_,.cons r t,.cons r' t'=> by rw [r.inj r',jg.inj t t']
section
variable{X:Cx}{pins:List (Addr×Obj)}{σ:St}{H:Hp}{s:ah}{a:Addr}{xs ys:List V}
theorem SqL.of(h:H a=some (.lst xs)):SqL K H a xs:=.inl (.inl h)
theorem SqT.of(h:H a=some (.tup xs)):SqT K H a xs:=.inl (.inl h)
theorem Inv.list(I:Inv X pins σ H s)(h:SqL X.K H a xs): ∃its:List ac,jg xs its/\PlainL s.heap a its.toArray/\xs.length <=sizeLine:=by
 rcases h with h|⟨o,its,n,hk,hc,hd,hs,hz,r⟩
 ·obtain⟨z,its,n,r,e⟩:=h.ok I.hok
  exact⟨its,r,⟨_,n,e,rfl,rfl,rfl⟩,z⟩
 ·refine⟨its.toList,r,⟨o,n,I.kIn a o hk,hc,hd,by simpa using hs⟩,?_⟩
  have e:=r.length
  simp only [aX]at e
  lia
theorem Inv.tuple(I:Inv X pins σ H s)(h:SqT X.K H a xs): ∃its:List ac,jg xs its/\IsTup s.heap a its.toArray/\xs.length <=sizeLine:=by
 rcases h with h|⟨o,its,n,hk,hc,hs,hz,r⟩
 ·obtain⟨z,its,r,p⟩:=h.ok I.hok
  exact⟨its,r,p.tup,z⟩
 ·refine⟨its.toList,r,⟨o,I.kIn a o hk,hc,n,by simpa using hs⟩,?_⟩
  have e:=r.length
  simp only [aX]at e
  lia
theorem Inv.list_inj(I:Inv X pins σ H s)(h:SqL X.K H a xs)(h':SqL X.K H a ys):xs=ys:=by
 obtain⟨its,r,⟨o,n,e,_,_,d⟩,_⟩:=I.list h
 obtain⟨its',r',⟨o',n',e',_,_,d'⟩,_⟩:=I.list h'
 rw [e]at e';cases e'
 rw [d]at d'
 injection d' with d1 _
 have:its=its':=by simpa using congrArg Array.toList d1
 subst this
 exact r.inj r'
theorem Inv.tuple_inj(I:Inv X pins σ H s)(h:SqT X.K H a xs)(h':SqT X.K H a ys):xs=ys:=by
 obtain⟨its,r,⟨o,e,_,n,d⟩,_⟩:=I.tuple h
 obtain⟨its',r',⟨o',e',_,n',d'⟩,_⟩:=I.tuple h'
 rw [e]at e';cases e'
 rw [d]at d'
 injection d' with d1 _
 have:its=its':=by simpa using congrArg Array.toList d1
 subst this
 exact r.inj r'
end
abbrev Cx.wish(X:Cx)(E:ac -> ah -> Prop):Cx:={X with xe:=E}
abbrev Cx.nox(X:Cx):Cx:=X.wish fun _ _=> False
theorem Cx.Ok.wish{X:Cx}(ok:X.Ok)(E:ac -> ah -> Prop):(X.wish E).Ok:=
 ⟨ok.mod,ok.kind,ok.glob,ok.blt,ok.above,ok.inj,ok.has,ok.cab,ok.hd,ok.frames,ok.stk,ok.exf,ok.bs,ok.bsz,ok.noex,ok.exfs,ok.funs,ok.frf⟩
theorem Cx.Ok.unwish{X:Cx}(ok:(X.wish E).Ok):X.Ok:=
 ⟨ok.mod,ok.kind,ok.glob,ok.blt,ok.above,ok.inj,ok.has,ok.cab,ok.hd,ok.frames,ok.stk,ok.exf,ok.bs,ok.bsz,ok.noex,ok.exfs,ok.funs,ok.frf⟩
section
variable{X:Cx}{pins:List (Addr×Obj)}{σ:St}{H:Hp}{s:ah}{E:ac -> ah -> Prop}
theorem Inv.wish(I:Inv X pins σ H s)(E:ac -> ah -> Prop):Inv (X.wish E) pins σ H s:=⟨I.ok.wish E,I.os,I.bare,I.base,I.loc,I.cell,I.free,I.freeC,I.pin,I.hok,I.len⟩
theorem Inv.unwish(I:Inv (X.wish E) pins σ H s):Inv X pins σ H s:=⟨I.ok.unwish,I.os,I.bare,I.base,I.loc,I.cell,I.free,I.freeC,I.pin,I.hok,I.len⟩
theorem SP.unwish{D:Ends}{f:Flow}{s':ah}(h:SP (X.wish E) pins D f s'):SP X pins D f s':=by
 cases f with
 |next=> obtain⟨σ',H',I,q⟩:=h;exact⟨σ',H',I.unwish,q⟩
 |brk=> obtain⟨σ',H',I,q⟩:=h;exact⟨σ',H',I.unwish,q⟩
 |cont=> obtain⟨σ',H',I,q⟩:=h;exact⟨σ',H',I.unwish,q⟩
 |ret u=> obtain⟨v,σ',H',I,r,q⟩:=h;exact⟨v,σ',H',I.unwish,r,q⟩
theorem PSs.nox{st:List Stmt}{t:TS}(h:PSs X.nox st t):PSs X st t:=.mk <|fun pins s σ H D I hw=>
 cC (h pins s σ H D (I.wish _) hw) (fun _ _ q=> q.unwish) fun _ _ z=> c6 z
end
section
variable{X:Cx}{st:Stmt}{jx:List Stmt}{t u:TS}{e:Expr}{te:TE}{pos:Pos}
noncomputable def a0t:TS:=fun D σ H=> D.nx σ H
noncomputable def axo(t u:TS):TS:=fun D σ H=> t {D with nx:=u D} σ H
theorem avd:PSs X [] a0t:=.mk <|fun _ _ σ H _ I h=> ic ⟨σ,H,I,h⟩
theorem arj(h1:PS X st t)(h2:PSs X jx u):PSs X (st::jx) (axo t u):=by
 (first|refine⟨?_⟩|skip);intro pins s σ H D I h
 refine wpAny_execs_cons (thn (h1 pins s σ H {D with nx:=u D} I h) fun f s1 q=> ?_)
 cases f with
 |next=>
  obtain⟨σ',H',I',q⟩:=q
  exact h2 pins s1 σ' H' D I' q
 |ret v=> exact q
 |brk=> exact q
 |cont=> exact q
theorem avf(h1:PS X st t):PSs X [st] t:=by
 (first|refine⟨?_⟩|skip);intro pins s σ H D I h
 refine wpAny_execs_cons (thn (h1 pins s σ H D I h) fun f s1 q=> ?_)
 cases f with
 |next=> exact ic q
 |ret v=> exact q
 |brk=> exact q
 |cont=> exact q
theorem Inv.quiet{σ:St}{H:Hp}(I:Inv X pins σ H s):interactive X.env=false:=by simp [interactive,I.ok.kind]
noncomputable def a1m(te:TE):TS:=fun D σ H=> te σ H fun _ H1=> D.nx σ H1
theorem av2(he:PE X e te)(hs:gj e none pos.line X.env=pure false:=by rfl):PS X (.Expr e pos) (a1m te):=by
 (first|refine⟨?_⟩|skip);intro pins s σ H D I h
 exact wpAny_Expr_any (thn (he pins s σ H _ I h) fun v s1 ⟨x,H1,I1,r1,q1⟩=> ⟨σ,H1,I1,q1⟩) I.quiet hs
noncomputable def a2f(te:TE):TS:=fun D σ H=> te σ H D.rt
theorem azu(he:PE X e te):PS X (.Return (some e) pos) (a2f te):=by
 (first|refine⟨?_⟩|skip);intro pins s σ H D I h
 exact wpAny_Return_some (thn (he pins s σ H _ I h) fun v s1 ⟨x,H1,I1,r1,q1⟩=> ⟨x,σ,H1,I1,r1,q1⟩)
noncomputable def a2x(c:TT)(t u:TS):TS:=fun D σ H=> c σ H fun b H1=> if b=true then t D σ H1 else u D σ H1
theorem a1e{c:Expr}{a b:List Stmt}{tc:TT}(hc:PT X c tc)(ha:PSs X a t)(hb:PSs X b u):PS X (.If c a b pos) (a2x tc t u):=by
 (first|refine⟨?_⟩|skip);intro pins s σ H D I h
 refine wpAny_If (thn (hc pins s σ H _ I h) fun d s1 ⟨H1,I1,q1⟩=> ?_)
 cases d with
 |true=> exact ha pins s1 σ H1 D I1 q1
 |false=> exact hb pins s1 σ H1 D I1 q1
noncomputable def azy:TS:=fun _ _ _=> False
theorem aq6:PS X st azy:=.mk <|fun _ _ _ _ _ _ h=> h.elim
end
abbrev TG:=V -> St -> Hp -> (St -> Hp -> Prop) -> Prop
abbrev TGs:=List V -> St -> Hp -> (St -> Hp -> Prop) -> Prop
def PG(X:Cx)(target:Expr)(t:TG):Prop:=
 ∀(pins:List (Addr×Obj)) (s:ah) (σ:St) (H:Hp) (v:V) (u:ac) (Q:St -> Hp -> Prop),Inv X pins σ H s -> RelV v u -> t v σ H Q ->
  wpAny (model X.prog X.w) X.A (assign target X.env u) (fun _ s'=> ∃σ' H',Inv X pins σ' H' s'/\Q σ' H') X.xe s
def PGs(X:Cx)(ts:List Expr)(t:TGs):Prop:=
 ∀(pins:List (Addr×Obj)) (s:ah) (σ:St) (H:Hp) (vs:List V) (us:List ac) (Q:St -> Hp -> Prop),Inv X pins σ H s -> jg vs us -> t vs σ H Q ->
  wpAny (model X.prog X.w) X.A (assignInOrder ((a9 ts X.env).map (·.2)) us) (fun _ s'=> ∃σ' H',Inv X pins σ' H' s'/\Q σ' H') X.xe s
abbrev amg:=V -> V -> V -> Hp -> (Hp -> Prop) -> Prop
def afn(X:Cx)(t:amg):Prop:=
 ∀(pins:List (Addr×Obj)) (s:ah) (σ:St) (H:Hp) (o i v:V) (ov iv u:ac) (Q:Hp -> Prop),Inv X pins σ H s -> RelV o ov -> RelV i iv -> RelV v u -> t o i v H Q ->
  wpAny (model X.prog X.w) X.A (setItem ov iv u) (fun _ s'=> ∃H',Inv X pins σ H' s'/\Q H') X.xe s
section
variable{X:Cx}{pos:Pos}
noncomputable def ahg(i:Nat):TG:=fun v σ H Q=> Q (σ.set i (some v)) H
theorem av7(hN:X.N.Nodup)(hi:X.N[i]?=some x)(hx:Loc X.env.scope x)(hf:X.fn x=true\/X.env.scope.names.lookup x=some .local:=by first|exact .inl rfl|exact .inr rfl|assumption):PG X (.Name x pos) (ahg i):=by
 (first|refine⟨?_⟩|skip);intro pins s σ H v u Q I r h
 exact wpAny_assign_Name (aik I hN hi hx r (fun s' I'=> ⟨_,H,I',h⟩) hf)
noncomputable def aly:TGs:=fun vs σ H Q=> vs=[]/\Q σ H
noncomputable def abq(t:TG)(u:TGs):TGs:=fun vs σ H Q=> ∃v r,vs=v::r/\t v σ H fun σ' H'=> u r σ' H' Q
theorem al5:PGs X [] aly:=by
 (first|refine⟨?_⟩|skip);intro pins s σ H vs us Q I r h
 obtain⟨e,h⟩:=h
 subst e
 cases r
 exact assignInOrder_nil ⟨σ,H,I,h⟩
theorem aad{es:List Expr}{t:TG}{u:TGs}(h1:PG X e t)(h2:PGs X es u)(hs:(a9 (e::es) X.env).map (·.2)=assign e X.env::(a9 es X.env).map (·.2):=by rfl):PGs X (e::es) (abq t u):=by
 (first|refine⟨?_⟩|skip);intro pins s σ H vs us Q I r h
 obtain⟨v,vr,e1,h⟩:=h
 subst e1
 cases r with
 |cons r rr=>
  rw [hs]
  refine assignInOrder_cons (thn (h1 pins s σ H _ _ _ I r h) fun _ s1 ⟨σ1,H1,I1,q1⟩=> ?_)
  exact h2 pins s1 σ1 H1 _ _ Q I1 rr q1
noncomputable def a2h(K:am)(n:Nat)(t:TGs):TG:=fun v σ H Q=> ∃a xs,v=.ref a/\SqT K H a xs/\xs.length=n/\t xs σ H Q
theorem axq{es:List Expr}{k:Nat}{t:TGs}{n:Nat}(hc:X.calm=true)(h:PGs X es t)
  (hn:(a9 es X.env).length=n:=by rfl) (hst:(a9 es X.env).findIdx? (·.1)=none:=by rfl):PG X (.Tuple es k pos) (a2h X.K n t):=by
 (first|refine⟨?_⟩|skip);intro pins s σ H v u Q I r hw
 obtain⟨a,xs,e1,hq,hl,hw⟩:=hw
 subst e1
 cases r
 obtain⟨its,rv,ht,hz⟩:=I.tuple hq
 refine assign_Tuple_tuple (I.ok.hd hc) ht (by simp [hn,←hl,rv.length]) hst fun h' hx=> ?_
 have I1:Inv X pins σ H {s with heap:=h'}:=I.kept (t':=s.toks) fun b o e=> hx b o (aM (aB e)) e
 exact h pins _ σ H xs _ Q I1 (by simpa using rv) hw
noncomputable def a2e(to ti:TE)(t:amg):TG:=fun v σ H Q=> to σ H fun o H1=> ti σ H1 fun i H2=> t o i v H2 fun H3=> Q σ H3
theorem azj{o i:Expr}{to ti:TE}{t:amg}(ho:PE X o to)(hi:PE X i ti)(hs:afn X t)
  (ha: ∀v,assign (.Subscript o i pos) X.env v=(do
   let ov←holding [v] (eval o X.env)
   let iv←holding [v,ov] (eval i X.env)
   standAt pos
   holding [v,ov,iv] (setItem ov iv v)
   release [v,ov,iv] []):=by intro _;rfl):PG X (.Subscript o i pos) (a2e to ti t):=by
 (first|refine⟨?_⟩|skip);intro pins s σ H v u Q I r h
 rw [ha]
 refine aa (aW (thn (ho pins s σ H _ I h) fun ov s1 ⟨x,H1,I1,r1,q1⟩=> ?_))
 refine aa (aW (thn (hi pins s1 σ H1 _ I1 q1) fun iv s2 ⟨y,H2,I2,r2,q2⟩=> ?_))
 refine aa (eZ (aa (aW (thn (hs pins s2 σ H2 x y v ov iv u _ I2 r1 r2 r q2) fun _ s3 ⟨H3,I3,q3⟩=> ?_))))
 exact wpAny_release ⟨σ,H3,I3,q3⟩
noncomputable def ayg(te:TE)(g:TG):TS:=fun D σ H=> te σ H fun x H1=> g x σ H1 D.nx
theorem api{te:TE}{g:TG}(he:PE X e te)(hg:PG X tg g)(hs:iY [tg] e pos.line X.env=pure false:=by rfl)(hw:iZ [tg] e X.env=pure none:=by rfl)(h1:(a9 [tg] X.env).map (·.2)=[assign tg X.env]:=by rfl):PS X (.Assign [tg] e pos) (ayg te g):=by
 (first|refine⟨?_⟩|skip);intro pins s σ H D I h
 refine wpAny_Assign_stores (thn (he pins s σ H _ I h) fun v s1 ⟨x,H1,I1,r1,q1⟩=> ?_) hs hw
 rw [h1]
 exact thn (hg pins s1 σ H1 x v _ I1 r1 q1) fun _ s2 q=> q
theorem awl{te:TE}{pos':Pos}(hN:X.N.Nodup)(hi:X.N[i]?=some x)(hx:Loc X.env.scope x)(he:PE X e te)(hs:gj e (some (.Name x pos')) pos.line X.env=pure false:=by rfl)(hf:X.fn x=true\/X.env.scope.names.lookup x=some .local:=by first|exact .inl rfl|exact .inr rfl|assumption):
  PS X (.Assign [.Name x pos'] e pos) (ayg te (ahg i)):=by
 (first|refine⟨?_⟩|skip);intro pins s σ H D I h
 refine wpAny_Assign_Name (thn (he pins s σ H _ I h) fun v s1 ⟨y,H1,I1,r1,q1⟩=> ?_) hs
 exact aik I1 hN hi hx r1 (fun s2 I2=> ⟨_,H1,I2,q1⟩) hf
end
structure It where
 go:Nat -> Hp -> Prop
 yld:Nat -> Hp -> V -> Hp -> Prop
 stop:Nat -> Hp -> Prop
def v7(X:Cx)(pins:List (Addr×Obj))(H:Hp)(b:Addr):Prop:=
 H b=none/\b≠X.env.locals/\b∉X.fs/\(b∈X.ex\/X.s₀.heap.objs.size <=b)/\(∀x c,X.env.cells.lookup x=some c -> c≠b)/\ ∀p∈X.pn++pins,p.1≠b
theorem Inv.fpOk{X:Cx}{σ:St}{H H':Hp}(I:Inv X pins σ H s)(hb:s.heap.objs.size <=b)(hn:H' b=none):v7 X pins H' b:=by
 refine⟨hn,dB (aJ I.lt hb),I.nofs hb,.inr (a7 I.sz hb),fun x c e z=> ?_,fun p hp z=> ?_⟩
 ·obtain⟨v,q⟩:=I.cell x c e
  exact absurd (aJ q.lt (by rw [z];exact hb)) (bU _)
 ·exact absurd (aJ (aB (I.pin p hp).1) (by rw [z];exact hb)) (bU _)
structure Turn (P:aR) (w:aT) (K:am) (tg:Expr) (J:It) (fp:List Addr) (it:Addr) (tn:Nat -> Heap -> Prop):Prop where
 mem:it∈fp
 obj: ∀i h,tn i h -> ∀b∈fp,∃o,h.get? b=some o/\ ∀v,o.data≠ .cell v
 keep: ∀i h h',tn i h -> (∀b∈fp,∀o,h.get? b=some o -> h'.get? b=some o) -> tn i h'
 item: ∀(X:Cx),X.prog=P -> X.w=w -> X.K=K -> X.calm=true -> ∀(i:Nat) (pins:List (Addr×Obj)) (s:ah) (σ:St) (H:Hp) (E:ac -> ah -> Prop),Inv X pins σ H s -> (∀b∈fp,v7 X pins H b) -> tn i s.heap -> J.go i H ->
  wpAny (model P w) X.A (pyNext (.ref it)) (fun r s1=> ∃u,r=some u/\
   wpAny (model P w) X.A (fG tg (.ref it) u) (fun _ s2=> ∃x H',Inv X pins σ H' s2/\RelV x u/\J.yld i H x H'/\tn (i+1) s2.heap/\ ∀b∈fp,H' b=none) E s1) E s
 done: ∀(X:Cx),X.prog=P -> X.w=w -> X.K=K -> X.calm=true -> ∀(i:Nat) (pins:List (Addr×Obj)) (s:ah) (σ:St) (H:Hp) (E:ac -> ah -> Prop),Inv X pins σ H s -> (∀b∈fp,v7 X pins H b) -> tn i s.heap -> J.stop i H ->
  wpAny (model P w) X.A (pyNext (.ref it)) (fun r s1=> r=none/\Inv X pins σ H s1) E s
 self: ∀(A:aZ) (i:Nat) (s:ah) (Q:ac -> ah -> Prop) (E:ac -> ah -> Prop),tn i s.heap -> Q (.ref it) s -> wpAny (model P w) A (pyIter (.ref it)) Q E s
abbrev TI:=St -> Hp -> (It -> Hp -> Prop) -> Prop
def PIE(X:Cx)(pins:List (Addr×Obj))(σ:St)(tg:Expr)(R:It -> Hp -> Prop)(itv:ac)(s2:ah):Prop:=
 ∃(it:Addr) (fp:List Addr) (tn:Nat -> Heap -> Prop) (J:It) (H':Hp),itv=.ref it/\Inv X pins σ H' s2/\Turn X.prog X.w X.K tg J fp it tn/\tn 0 s2.heap/\(∀b∈fp,v7 X pins H' b)/\R J H'
def PI(X:Cx)(tg iter:Expr)(wi:TI):Prop:=
 ∀(pins:List (Addr×Obj)) (s:ah) (σ:St) (H:Hp) (R:It -> Hp -> Prop),Inv X pins σ H s -> wi σ H R ->
  wpAny (model X.prog X.w) X.A (eval iter X.env) (fun v s1=> wpAny (model X.prog X.w) X.A (pyIter v) (PIE X pins σ tg R) X.xe s1) X.xe s
theorem ahd{it:Addr}{o:Obj}{n:String}{vs:Array ac}(ho:s.heap.get? it=some o)(hc:o.cls=.type n)(hd:o.data=.fields vs)(hn:["enumerate","zip","dict_itemiterator","dict_reverseitemiterator","odict_iterator","itertools.zip_longest","itertools.pairwise"].contains n=false)(hQ:Q () s):wpAny M A (fG tg (.ref it) u) Q E s:=by
 unfold fG
 cases tg <;> first
  |exact aj hQ
  | (cases u <;> first
    |exact aj hQ
    | (refine aa (iP ho ?_)
       rw [hc,hd]
       show wpAny M A (if (["enumerate","zip","dict_itemiterator","dict_reverseitemiterator","odict_iterator","itertools.zip_longest","itertools.pairwise"].contains n&&vs[0]?==some (rawInt _))=true then _ else _) Q E s
       rw [if_neg (by intro h;rw [hn,Bool.false_and]at h;cases h)]
       exact aj hQ))
noncomputable def Itl(K:am)(a:Addr):It:=
 ⟨fun i H=> ∃xs x,SqL K H a xs/\xs[i]?=some x,fun i H x H'=> H'=H/\ ∀xs,SqL K H a xs -> xs[i]?=some x,fun i H=> ∃xs,SqL K H a xs/\xs.length <=i⟩
noncomputable def Itt(K:am)(a:Addr):It:=
 ⟨fun i H=> ∃xs x,SqT K H a xs/\xs[i]?=some x,fun i H x H'=> H'=H/\ ∀xs,SqT K H a xs -> xs[i]?=some x,fun i H=> ∃xs,SqT K H a xs/\xs.length <=i⟩
noncomputable def Itr(lo:Int)(n:Nat):It:=⟨fun i _=> i < n,fun i H x H'=> H'=H/\x=.int (lo+i),fun i _=> n <=i⟩
theorem ao1(a it:Addr):Turn P w K tg (Itl K a) [it] it (fun i h=> h.IsListIter it a i) where
 mem:=by simp
 obj:=fun i h st b hb=> by
  have e:b=it:=by simpa using hb
  subst e
  obtain⟨o,e,c,d⟩:=st
  exact⟨o,e,fun v z=> by rw [d]at z;cases z⟩
 keep:=fun i h h' st k=> st.at fun o e=> k it (by simp) o e
 item:=by
  intro X hP hw hK hc i pins s σ H E I hf st hg
  subst hP hw hK
  obtain⟨xs,x,hq,hx⟩:=hg
  obtain⟨its,rv,p,hz⟩:=I.list hq
  obtain⟨u,hu,ru⟩:=rv.get hx
  obtain⟨f0,f1,f2,f3,f4,f5⟩:=hf it (by simp)
  refine il st p.isList (x:=u) (by simpa using hu) fun h' st' sb=> ?_
  have I1:Inv X pins σ H {s with heap:=h'}:=I.turned (t':=s.toks) (fun b o hb e=> (sb.2 b hb).trans e) f0 f1 f3 f4 f5
  obtain⟨o,e,c,d⟩:=id st'
  exact⟨u,rfl,ahd (s:={s with heap:=h'}) e c d (by decide) ⟨x,H,I1,ru,⟨rfl,fun ys hy=> by rw [I.list_inj hy hq];exact hx⟩,st',fun b hb=> (hf b hb).1⟩⟩
 done:=by
  intro X hP hw hK hc i pins s σ H E I hf st hg
  subst hP hw hK
  obtain⟨xs,hq,hx⟩:=hg
  obtain⟨its,rv,p,hz⟩:=I.list hq
  obtain⟨f0,f1,f2,f3,f4,f5⟩:=hf it (by simp)
  have hl:=rv.length
  exact iy (I.ok.hd hc) st p.isList (by simp;lia) fun h' eb=> ⟨rfl,I.turned (t':=s.toks) (fun b o hb e=> eb b o hb e) f0 f1 f3 f4 f5⟩
 self:=fun _ _ _ _ _ st h=> wpAny_pyIter_listiter st h
theorem amf(a it:Addr):Turn P w K tg (Itt K a) [it] it (fun i h=> h.IsTupleIter it a i) where
 mem:=by simp
 obj:=fun i h st b hb=> by
  have e:b=it:=by simpa using hb
  subst e
  obtain⟨o,e,c,d⟩:=st
  exact⟨o,e,fun v z=> by rw [d]at z;cases z⟩
 keep:=fun i h h' st k=> st.at fun o e=> k it (by simp) o e
 item:=by
  intro X hP hw hK hc i pins s σ H E I hf st hg
  subst hP hw hK
  obtain⟨xs,x,hq,hx⟩:=hg
  obtain⟨its,rv,p,hz⟩:=I.tuple hq
  obtain⟨u,hu,ru⟩:=rv.get hx
  obtain⟨f0,f1,f2,f3,f4,f5⟩:=hf it (by simp)
  refine wpAny_pyNext_tuple_item st (show s.heap.IsTuple a its.toArray from p) (x:=u) (by simpa using hu) fun h' st' sb=> ?_
  have I1:Inv X pins σ H {s with heap:=h'}:=I.turned (t':=s.toks) (fun b o hb e=> (sb.2 b hb).trans e) f0 f1 f3 f4 f5
  obtain⟨o,e,c,d⟩:=id st'
  exact⟨u,rfl,ahd (s:={s with heap:=h'}) e c d (by decide) ⟨x,H,I1,ru,⟨rfl,fun ys hy=> by rw [I.tuple_inj hy hq];exact hx⟩,st',fun b hb=> (hf b hb).1⟩⟩
 done:=by
  intro X hP hw hK hc i pins s σ H E I hf st hg
  subst hP hw hK
  obtain⟨xs,hq,hx⟩:=hg
  obtain⟨its,rv,p,hz⟩:=I.tuple hq
  obtain⟨f0,f1,f2,f3,f4,f5⟩:=hf it (by simp)
  have hl:=rv.length
  exact wpAny_pyNext_tuple_end (I.ok.hd hc) st (show s.heap.IsTuple a its.toArray from p) (by simp;lia) fun h' eb=> ⟨rfl,I.turned (t':=s.toks) (fun b o hb e=> eb b o hb e) f0 f1 f3 f4 f5⟩
 self:=fun _ _ _ _ _ st h=> wpAny_pyIter_tupleiter st h
theorem als(it:Addr)(lo:Int)(n:Nat):Turn P w K tg (Itr lo n) [it] it (fun i h=> IsRangeIter h it (lo+(i:Nat)*1) ((n:Int) - (i:Nat)) 1) where
 mem:=by simp
 obj:=fun i h st b hb=> by
  have e:b=it:=by simpa using hb
  subst e
  exact⟨_,st,fun v z=> by
   have z':Data.fields _=Data.cell v:=z
   cases z'⟩
 keep:=fun i h h' st k=> k it (by simp) _ st
 item:=by
  intro X hP hw hK hc i pins s σ H E I hf st hg
  subst hP hw hK
  obtain⟨f0,f1,f2,f3,f4,f5⟩:=hf it (by simp)
  have W:=Walks.range (prog:=X.prog) (w:=X.w) (I.ok.hd hc) it lo 1 n
  refine W.item i s _ _ hg st fun v h' tk hv st' kk=> ?_
  obtain⟨t,rfl⟩:=hv
  have I1:Inv X pins σ H {s with heap:=h',toks:=tk}:=I.turned (fun b o hb e=> kk b o (by simpa using hb) e) f0 f1 f3 f4 f5
  refine⟨_,rfl,ahd (s:={s with heap:=h',toks:=tk}) (n:="range_iterator") st' rfl rfl (by decide) ⟨.int (lo+i),H,I1,⟨t,?_⟩,⟨rfl,rfl⟩,st',fun b hb=> (hf b hb).1⟩⟩
  rw [Int.mul_one]
 done:=by
  intro X hP hw hK hc i pins s σ H E I hf st hg
  subst hP hw hK
  obtain⟨f0,f1,f2,f3,f4,f5⟩:=hf it (by simp)
  exact wpAny_pyNext_range_end (I.ok.hd hc) st (by have:n <=i:=hg;lia) fun h' eb=> ⟨rfl,I.turned (t':=s.toks) (fun b o hb e=> eb b o hb e) f0 f1 f3 f4 f5⟩
 self:=fun _ _ _ _ _ st h=> wpAny_pyIter_rangeiter st h
end L2
variable{pins:List (dM×PySem.Obj)}{σ:L2.St}{H H':L2.Hp}{s:em}{E Q:cx -> em -> Prop}{t:L2.TA}{v:L2.V}{a p C f:dM}{ta tb te:L2.TE}{pos:PySem.Pos}{fp:List dM}{h base:PySem.Heap}{b iter c tg e:gK}{o:L2.HO}{body:List PySem.Stmt}{op:PySem.CmpOp}{i k n:Nat}{xs ys:List L2.V}{its us:List cx}{x qual:fx}{mA mg:fx -> Option cx}{K:am}{A:jG}{P prog:iX}{w:jW}{fd:PySem.FuncData}{ps:List fx}{scope:PySem.Scope}{osl:Array (Option cx)}{items:Array cx}{T:String}{X:L2.Cx}{env:PySem.Env}{es:List gK}
namespace L2
open PySem PySem.Spec PyProof.Rows
theorem aqf{R:It -> Hp -> Prop}{lo hi:Int}{t u v:Tok}{tk:Nat}(I:Inv X pins σ H s)(h1: -(2^62) <=lo)(h2:lo < 2^62)(h3: -(2^62) <=hi)(h4:hi < 2^62)(q:R (Itr lo (hi - lo).toNat) H):wpAny (model X.prog X.w) X.A (pyIter (.ref s.heap.objs.size)) (PIE X pins σ tg R) E {s with heap:=s.heap.push {cls:=.type "range",data:=.fields #[.int lo t,.int hi u,.int 1 v]},toks:=tk}:=by
 refine wpAny_pyIter_range (IsRange.new ..) (small_one h1 h2 h3 h4) ?_
 have I1:Inv X pins σ H {s with heap:=s.heap.push {cls:=.type "range",data:=.fields #[.int lo t,.int hi u,.int 1 v]},toks:=tk}:=I.kept fun b o e=> ag _ e
 refine⟨(s.heap.push {cls:=.type "range",data:=.fields #[.int lo t,.int hi u,.int 1 v]}).objs.size,[(s.heap.push {cls:=.type "range",data:=.fields #[.int lo t,.int hi u,.int 1 v]}).objs.size],_,_,H,rfl,
  I1.kept (t':=tk) fun b o e=> ag _ e,als _ lo (hi - lo).toNat,?_,fun b hb=> ?_,q⟩
 ·have e1:lo+((0:Nat):Int)*1=lo:=by simp
  have e2:(((hi - lo).toNat:Nat):Int) - ((0:Nat):Int)=Builtin.Range.rangeSize lo hi 1:=by rw [rangeSize_one];split <;> lia
  show IsRangeIter _ _ (lo+((0:Nat):Int)*1) ((((hi - lo).toNat:Nat):Int) - ((0:Nat):Int)) 1
  rw [e1,e2]
  exact aC _ rfl
 ·have e:b=(s.heap.push {cls:=.type "range",data:=.fields #[.int lo t,.int hi u,.int 1 v]}).objs.size:=by simpa using hb
  subst e
  exact I1.fpOk (aq _) (I1.hok.fresh (aq _))
def a0o(ta:TA):TI:=fun σ H R=> ta σ H fun vs H1=> ∃j:Int,vs=[.int j]/\ -(2^62) <=j/\j < 2^62/\R (Itr 0 j.toNat) H1
theorem aor{a:Expr}{ta:TA}{p:Pos}(hg:Gl X "range")(hm:X.mg "range"=none)(ha:PA X [a] ta)(hs:starEach [a] X.env=[(false,eval a X.env)]:=by rfl):PI X tg (.Call (.Name "range" p) [a] [] pos) (a0o ta):=by
 (first|refine⟨?_⟩|skip);intro pins s σ H R I h
 refine Call_ (zo I hg hm boot_range (cb (thn (ha pos pins s σ H _ I h) fun us s1 ⟨vs,H1,I1,r1,q1⟩=> ?_) hs rfl))
 obtain⟨j,e,q1,q2,q⟩:=q1
 subst e
 cases r1 with
 |cons r rr=>
  cases rr
  obtain⟨t,rfl⟩:=r
  exact call_range_1 (aqf I1 (by lia) (by lia) q1 q2 (by simpa using q))
noncomputable def a20(wi:TI)(g:TG)(tb:TS):TS:=fun D σ H=> wi σ H fun J H1=> ∃W:Nat -> Nat -> St -> Hp -> Prop,(∃m,W 0 m σ H1)/\ ∀i m σ H,W i m σ H ->
 (J.stop i H/\D.nx σ H)\/(J.go i H/\ ∃N:St -> Hp -> Prop,(∀σ' H',N σ' H' -> ∃m',m' < m/\W (i+1) m' σ' H')/\ ∀x H',J.yld i H x H' -> g x σ H' fun σ2 H2=> tb {D with nx:=N,ct:=N,bk:=D.nx} σ2 H2)
noncomputable def acz(fp:List Addr)(h:Heap):List (Addr×Obj):=fp.filterMap fun b=> (h.get? b).map fun o=> (b,o)
theorem aa5{b:Addr}{o:Obj}(hb:b∈fp)(e:h.get? b=some o):(b,o)∈acz fp h:=List.mem_filterMap.mpr ⟨b,hb,by rw [e];rfl⟩
theorem apb{p:Addr×Obj}(hp:p∈acz fp h):p.1∈fp/\h.get? p.1=some p.2:=by
 obtain⟨b,hb,e⟩:=List.mem_filterMap.mp hp
 cases q:h.get? b with
 |none=> rw [q]at e;cases e
 |some o=>
  rw [q]at e
  have e':(b,o)=p:=bN e
  subst e'
  exact⟨hb,q⟩
theorem Inv.pinned(I:Inv X pins σ H s)(hf: ∀b∈fp,v7 X pins H b)(ho: ∀b∈fp,∃o,s.heap.get? b=some o/\ ∀v,o.data≠ .cell v):Inv X (pins++acz fp s.heap) σ H s:=
 I.pins_of fun p hp=> (bH.mp hp).elim (fun z=> I.pin p (bw _ z)) fun z=> by
  obtain⟨hb,e⟩:=apb z
  obtain⟨f0,f1,f2,_⟩:=hf p.1 hb
  obtain⟨o,e',d⟩:=ho p.1 hb
  rw [e]at e';cases e'
  exact⟨e,f0,f1,f2,d⟩
theorem Inv.unpinned{pl:List (Addr×Obj)}(I:Inv X (pins++pl) σ H s):Inv X pins σ H s:=I.pins_of fun p hp=> I.pin p (bw _ (fF _ hp))
theorem ayc{wi:TI}{g:TG}{tb:TS}(hp:PassesOwn (model X.prog X.w) X.A X.env X.xe)(hc:X.calm=true)(hi:PI X tg iter wi)(hg:PG X tg g)(hb:PSs X body tb)(hs: ∀x,cX iter X.env x=pure x:=by intro _;rfl):PS X (.For tg iter body [] pos) (a20 wi g tb):=by
 (first|refine⟨?_⟩|skip);intro pins s σ H D I h
 refine wpAny_For (thn (hi pins s σ H _ I h) fun v s1 h1=> thn h1 fun itv s2 h2=> ?_) hs
 obtain⟨it,fp,tn,J,H2,e,I2,T,st2,f2,W,⟨m0,w0⟩,turn⟩:=h2
 subst e
 -- what stays true of the iterator's objects through the loop
 have stat: ∀{H':Hp},(∀b∈fp,H' b=none) -> ∀b∈fp,v7 X pins H' b:=fun hn b hb=> ⟨hn b hb,(f2 b hb).2⟩
 refine codeAny_forLoop_any (fun n s'=> ∃i σ' H',Inv X pins σ' H' s'/\tn i s'.heap/\(∀b∈fp,H' b=none)/\W i n σ' H') ?_ m0 ⟨0,σ,H2,I2,st2,fun b hb=> (f2 b hb).1,w0⟩
 rintro n s3 ⟨i,σ3,H3,I3,st3,fr3,w3⟩
 rcases turn i n σ3 H3 w3 with ⟨stop,qn⟩|⟨go,N,hN,step⟩
 ·refine d9 hp (thn (T.done X rfl rfl rfl hc i pins s3 σ3 H3 X.xe I3 (stat fr3) st3 stop) fun r s4 ⟨hr,I4⟩=> ?_)
  subst hr
  exact ic ⟨σ3,H3,I4,qn⟩
 ·refine d9 hp (thn (T.item X rfl rfl rfl hc i pins s3 σ3 H3 X.xe I3 (stat fr3) st3 go) fun r s4 ⟨u,hr,h4⟩=> ?_)
  subst hr
  refine d9 hp (thn h4 fun _ s5 ⟨x,H5,I5,r5,y5,st5,fr5⟩=> ?_)
  have I5':=I5.pinned (stat fr5) (T.obj _ _ st5)
  refine d9 hp (thn (hg _ s5 σ3 H5 x u _ I5' r5 (step x H5 y5)) fun _ s6 ⟨σ6,H6,I6,q6⟩=> ?_)
  refine d9 hp (thn (hb _ s6 σ6 H6 _ I6 q6) fun f s7 q7=> ?_)
  have again: ∀{σ7:St} {H7:Hp},Inv X (pins++acz fp s5.heap) σ7 H7 s7 -> N σ7 H7 -> ∃m,m < n/\ ∃i σ' H',Inv X pins σ' H' s7/\tn i s7.heap/\(∀b∈fp,H' b=none)/\W i m σ' H':=fun {σ7 H7} I7 n7=> by
   obtain⟨m',hm,w7⟩:=hN σ7 H7 n7
   refine⟨m',hm,i+1,σ7,H7,I7.unpinned,T.keep _ _ _ st5 fun b hb o e=> (I7.pin (b,o) (bw _ (bw _ (aa5 hb e)))).1,fun b hb=> ?_,w7⟩
   obtain⟨o,e,d⟩:=T.obj _ _ st5 b hb
   exact (I7.pin (b,o) (bw _ (bw _ (aa5 hb e)))).2.1
  cases f with
  |next=> obtain⟨σ7,H7,I7,n7⟩:=q7;exact again I7 n7
  |cont=> obtain⟨σ7,H7,I7,n7⟩:=q7;exact again I7 n7
  |brk=> obtain⟨σ7,H7,I7,q7⟩:=q7;exact⟨σ7,H7,I7.unpinned,q7⟩
  |ret v=> obtain⟨x7,σ7,H7,I7,r7,q7⟩:=q7;exact⟨x7,σ7,H7,I7.unpinned,r7,q7⟩
abbrev R2:=V -> V -> Hp -> VK -> Prop
def OpR(X:Cx)(f:ac -> ac -> Sem ac)(r:R2):Prop:=
 ∀(pins:List (Addr×Obj)) (s:ah) (σ:St) (H:Hp) (x y:V) (v u:ac) (Q:VK),Inv X pins σ H s -> RelV x v -> RelV y u -> r x y H Q ->
  wpAny (model X.prog X.w) X.A (f v u) (EP X pins σ Q) X.xe s
def UnR(X:Cx)(f:ac -> Sem ac)(r:V -> Hp -> VK -> Prop):Prop:=
 ∀(pins:List (Addr×Obj)) (s:ah) (σ:St) (H:Hp) (x:V) (v:ac) (Q:VK),Inv X pins σ H s -> RelV x v -> r x H Q ->
  wpAny (model X.prog X.w) X.A (f v) (EP X pins σ Q) X.xe s
def vw(X:Cx)(f:ac)(r:List V -> Hp -> VK -> Prop):Prop:=
 ∀(pins:List (Addr×Obj)) (s:ah) (σ:St) (H:Hp) (xs:List V) (us:List ac) (Q:VK),Inv X pins σ H s -> jg xs us -> r xs H Q ->
  wpAny (model X.prog X.w) X.A (call f us) (EP X pins σ Q) X.xe s
def a34(X:Cx)(r:V -> Hp -> (Bool -> Hp -> Prop) -> Prop):Prop:=
 ∀(pins:List (Addr×Obj)) (s:ah) (σ:St) (H:Hp) (x:V) (v:ac) (Q:Bool -> Hp -> Prop),Inv X pins σ H s -> RelV x v -> r x H Q ->
  wpAny (model X.prog X.w) X.A (truthy v) (TP X pins σ Q) X.xe s
noncomputable def tOp(r:R2)(ta tb:TE):TE:=fun σ H Q=> ta σ H fun x H1=> tb σ H1 fun y H2=> r x y H2 Q
noncomputable def tUn(r:V -> Hp -> VK -> Prop)(ta:TE):TE:=fun σ H Q=> ta σ H fun x H1=> r x H1 Q
noncomputable def rI(C:Int -> Int -> Prop)(g:Int -> Int -> V):R2:=fun x y H Q=> ∃i j,x=.int i/\y=.int j/\C i j/\Q (g i j) H
noncomputable def rI0(g:Int -> Int -> V):R2:=fun x y H Q=> ∃i j,x=.int i/\y=.int j/\Q (g i j) H
def rU(g:Int -> V):V -> Hp -> VK -> Prop:=fun x H Q=> ∃i,x=.int i/\Q (g i) H
section
variable{X:Cx}{a b c:Expr}{ta tb tc:TE}{pos:Pos}
theorem ar0(ha:PE X a ta)(hb:PE X b tb){R:V -> V -> Hp -> Prop}(I:Inv X pins σ H s)(h:ta σ H fun x H1=> tb σ H1 fun y H2=> R x y H2){f:ac -> ac -> Sem ac}(hf: ∀v u s2 x y H2,Inv X pins σ H2 s2 -> RelV x v -> RelV y u -> R x y H2 -> wpAny (model X.prog X.w) X.A (f v u) Q X.xe s2):
  wpAny (model X.prog X.w) X.A (eval a X.env) (fun v s₁=> wpAny (model X.prog X.w) X.A (eval b X.env) (fun u s₂=> wpAny (model X.prog X.w) X.A (f v u) Q X.xe s₂) X.xe s₁) X.xe s:=by
 refine thn (ha pins s σ H _ I h) fun v s1 ⟨x,H1,I1,r1,q1⟩=> ?_
 refine thn (hb pins s1 σ H1 _ I1 q1) fun u s2 ⟨y,H2,I2,r2,q2⟩=> ?_
 exact hf v u s2 x y H2 I2 r1 r2 q2
theorem a1r{op:Operator}{r:R2}(ho:OpR X (binaryOp op) r)(ha:PE X a ta)(hb:PE X b tb):PE X (.BinOp a op b pos) (tOp r ta tb):=by
 (first|refine⟨?_⟩|skip);intro pins s σ H Q I h
 exact wpAny_BinOp (ar0 ha hb I h fun v u s2 x y H2 I2 rx ry q=> ho pins s2 σ H2 x y v u Q I2 rx ry q)
theorem a1h{op:UnaryOp}{r:V -> Hp -> VK -> Prop}(ho:UnR X (unaryOp op) r)(ha:PE X a ta):PE X (.UnaryOp op a pos) (tUn r ta):=by
 (first|refine⟨?_⟩|skip);intro pins s σ H Q I h
 exact UnaryOp_ (thn (ha pins s σ H _ I h) fun v s1 ⟨x,H1,I1,r1,q1⟩=> ho pins s1 σ H1 x v Q I1 r1 q1)
theorem opI{f:ac -> ac -> Sem ac}{C:Int -> Int -> Prop}{g:Int -> Int -> Int}
  (rule: ∀(i j:Int) (t u:Tok) (s:ah) (Q:ac -> ah -> Prop) (E:ac -> ah -> Prop),C i j -> Q (.int (g i j) s.toks) {s with toks:=s.toks+1} -> wpAny (model X.prog X.w) X.A (f (.int i t) (.int j u)) Q E s):
  OpR X f (rI C fun i j=>.int (g i j)):=by
 (first|refine⟨?_⟩|skip);intro pins s σ H x y v u Q I rx ry h
 obtain⟨i,j,rfl,rfl,hc,q⟩:=h
 obtain⟨t,rfl⟩:=rx
 obtain⟨t',rfl⟩:=ry
 exact rule i j t t' s _ _ hc ⟨.int (g i j),H,I.tok _,⟨_,rfl⟩,q⟩
theorem a2g{f:ac -> ac -> Sem ac}{g:Int -> Int -> Int}
  (rule: ∀(i j:Int) (t u:Tok) (s:ah) (Q:ac -> ah -> Prop) (E:ac -> ah -> Prop),Q (.int (g i j) s.toks) {s with toks:=s.toks+1} -> wpAny (model X.prog X.w) X.A (f (.int i t) (.int j u)) Q E s):
  OpR X f (rI0 fun i j=>.int (g i j)):=by
 (first|refine⟨?_⟩|skip);intro pins s σ H x y v u Q I rx ry h
 obtain⟨i,j,rfl,rfl,q⟩:=h
 obtain⟨t,rfl⟩:=rx
 obtain⟨t',rfl⟩:=ry
 exact rule i j t t' s _ _ ⟨.int (g i j),H,I.tok _,⟨_,rfl⟩,q⟩
theorem alx{f:ac -> ac -> Sem ac}{g:Int -> Int -> Bool}
  (rule: ∀(i j:Int) (t u:Tok) (s:ah) (Q:ac -> ah -> Prop) (E:ac -> ah -> Prop),Q (.bool (g i j)) s -> wpAny (model X.prog X.w) X.A (f (.int i t) (.int j u)) Q E s):
  OpR X f (rI0 fun i j=>.bl (g i j)):=by
 (first|refine⟨?_⟩|skip);intro pins s σ H x y v u Q I rx ry h
 obtain⟨i,j,rfl,rfl,q⟩:=h
 obtain⟨t,rfl⟩:=rx
 obtain⟨t',rfl⟩:=ry
 exact rule i j t t' s _ _ ⟨.bl (g i j),H,I,rfl,q⟩
def am5(i j:Int):Prop:=0 < j/\j < 1073741824
def ams(i j:Int):Prop:=0 <=j/\j <=1000000/\i.natAbs < 2^64
def afd(i j:Int):Prop:=(-(2^64) < i/\i < 2^64)\/(-(2^64) < j/\j < 2^64)
theorem afd.ok{i j:Int}(h:afd i j):IntMulOk i j:=by
 rcases h with ⟨h1,h2⟩|⟨h1,h2⟩
 ·exact .of_left (intBits_le_64 h1 h2)
 ·exact .of_right (intBits_le_64 h1 h2)
theorem aot:OpR X (binaryOp .Add) (rI0 fun i j=>.int (i+j)):=a2g fun _ _ _ _ _ _ _ q=> add_int q
theorem awp:OpR X (binaryOp .Mult) (rI afd fun i j=>.int (i*j)):=opI fun _ _ _ _ _ _ _ hc q=> mul_int q hc.ok
theorem auo:OpR X (binaryOp .FloorDiv) (rI am5 fun i j=>.int (i/j)):=opI fun i j _ _ _ _ _ hc q=> by
 have h1:(0:Int) < j:=hc.1
 have h2:j < 1073741824:=hc.2
 exact floordiv_int (by lia) (by rw [Int.fdiv_eq_ediv_of_nonneg i (by lia)];exact q) (.inl (PyProof.noPylong_small (by lia)))
theorem aws:OpR X (binaryOp .Mod) (rI (fun _ j=> 0 < j) fun i j=>.int (i % j)):=opI fun i j _ _ _ _ _ hc q=> by
 have h1:(0:Int) < j:=hc
 exact mod_int' (by lia) (by rw [Int.fmod_eq_emod_of_nonneg i (by lia)];exact q)
theorem azr:OpR X (binaryOp .Pow) (rI ams fun i j=>.int (i^j.toNat)):=opI fun _ _ _ _ _ _ _ hc q=> pow_int_small hc.1 hc.2.1 hc.2.2 q
theorem unI{f:ac -> Sem ac}{g:Int -> Int}
  (rule: ∀(i:Int) (t:Tok) (s:ah) (Q:ac -> ah -> Prop) (E:ac -> ah -> Prop),Q (.int (g i) s.toks) {s with toks:=s.toks+1} -> wpAny (model X.prog X.w) X.A (f (.int i t)) Q E s):
  UnR X f (rU fun i=>.int (g i)):=by
 (first|refine⟨?_⟩|skip);intro pins s σ H x v Q I rx h
 obtain⟨i,rfl,q⟩:=h
 obtain⟨t,rfl⟩:=rx
 exact rule i t s _ _ ⟨.int (g i),H,I.tok _,⟨_,rfl⟩,q⟩
theorem axs:UnR X (unaryOp .USub) (rU fun i=>.int (-i)):=unI fun _ _ _ _ _ q=> neg_int q
end
noncomputable def awn:V -> V -> Bool
 |.non,.non=> true|.non,.int _=> true|.int _,.non=> true|.non,.bl _=> true|.bl _,.non=> true|.non,.str _=> true|.str _,.non=> true
 |.int _,.int _=> true|.bl _,.bl _=> true|.str _,.str _=> true|.byt _,.byt _=> true
 |.int _,.str _=> true|.str _,.int _=> true|.bl _,.str _=> true|.str _,.bl _=> true
 |_,_=> false
def rEq:R2:=fun x y H Q=> awn x y=true/\Q (.bl (decide (x=y))) H
def rNe:R2:=fun x y H Q=> awn x y=true/\Q (.bl (!decide (x=y))) H
theorem akf{i j:Int}:decide (V.int i=V.int j)=(i==j):=by
 rw [br]
 simp
theorem anp{i j:Bool}:decide (V.bl i=V.bl j)=(i==j):=by
 rw [br]
 simp
theorem al3{i j:Str}:decide (V.str i=V.str j)=(i==j):=by
 rw [br]
 simp
theorem ak5{i j:Array UInt8}:decide (V.byt i=V.byt j)=(i.toList==j.toList):=by
 rw [br]
 cases i
 cases j
 simp
section
variable{X:Cx}{a b c:Expr}{ta tb tc:TE}{pos:Pos}
theorem jn{Q:VK}{k k':Bool}(I:Inv X pins σ H s)(q:Q (.bl k) H)(e:k=k'):EP X pins σ Q (.bool k') s:=by
 subst e
 exact⟨.bl k,H,I,rfl,q⟩
theorem a17:OpR X (aK .Eq) rEq:=by
 (first|refine⟨?_⟩|skip);intro pins s σ H x y v u Q I rx ry h
 obtain⟨hs,q⟩:=h
 cases x with
 |non=>
  cases rx
  cases y with
  |non=> cases ry;exact PySem.EqNone.eq_none_none (jn I q (by simp))
  |bl j=> cases ry;exact PySem.EqNone.eq_none_bool (jn I q (by simp))
  |int j=> obtain⟨t',rfl⟩:=ry;exact PySem.EqNone.eq_none_int (jn I q (by simp))
  |str j=> obtain⟨t',rfl⟩:=ry;exact PySem.EqNone.eq_none_str (jn I q (by simp))
  |_=> exact absurd (show false=true from hs) av
 |bl i=>
  cases rx
  cases y with
  |non=> cases ry;exact PySem.EqNone.eq_bool_none (jn I q (by simp))
  |bl j=> cases ry;exact eq_bool (jn I q anp)
  |str j=> obtain⟨t',rfl⟩:=ry;exact PySem.EqMixed.eq_bool_str (jn I q (by simp))
  |_=> exact absurd (show false=true from hs) av
 |int i=>
  obtain⟨t,rfl⟩:=rx
  cases y with
  |non=> cases ry;exact PySem.EqNone.eq_int_none (jn I q (by simp))
  |int j=> obtain⟨t',rfl⟩:=ry;exact eq_int (jn I q akf)
  |str j=> obtain⟨t',rfl⟩:=ry;exact PySem.EqMixed.eq_int_str (jn I q (by simp))
  |_=> exact absurd (show false=true from hs) av
 |str i=>
  obtain⟨t,rfl⟩:=rx
  cases y with
  |non=> cases ry;exact PySem.EqNone.eq_str_none (jn I q (by simp))
  |bl j=> cases ry;exact PySem.EqMixed.eq_str_bool (jn I q (by simp))
  |int j=> obtain⟨t',rfl⟩:=ry;exact PySem.EqMixed.eq_str_int (jn I q (by simp))
  |str j=> obtain⟨t',rfl⟩:=ry;exact eq_str (jn I q al3)
  |_=> exact absurd (show false=true from hs) av
 |byt i=>
  obtain⟨t,rfl⟩:=rx
  cases y with
  |byt j=> obtain⟨t',rfl⟩:=ry;exact PySem.W.eq_bytes (jn I q ak5)
  |_=> exact absurd (show false=true from hs) av
 |_=> cases y <;> exact absurd (show false=true from hs) av
theorem a10:OpR X (aK .NotEq) rNe:=by
 (first|refine⟨?_⟩|skip);intro pins s σ H x y v u Q I rx ry h
 obtain⟨hs,q⟩:=h
 cases x with
 |non=>
  cases rx
  cases y with
  |non=> cases ry;exact PySem.EqNone.ne_none_none (jn I q (by simp))
  |bl j=> cases ry;exact PySem.EqNone.ne_none_bool (jn I q (by simp))
  |int j=> obtain⟨t',rfl⟩:=ry;exact PySem.EqNone.ne_none_int (jn I q (by simp))
  |str j=> obtain⟨t',rfl⟩:=ry;exact PySem.EqNone.ne_none_str (jn I q (by simp))
  |_=> exact absurd (show false=true from hs) av
 |bl i=>
  cases rx
  cases y with
  |non=> cases ry;exact PySem.EqNone.ne_bool_none (jn I q (by simp))
  |bl j=> cases ry;exact ne_bool (jn I q (congrArg not anp))
  |str j=> obtain⟨t',rfl⟩:=ry;exact PySem.EqMixed.ne_bool_str (jn I q (by simp))
  |_=> exact absurd (show false=true from hs) av
 |int i=>
  obtain⟨t,rfl⟩:=rx
  cases y with
  |non=> cases ry;exact PySem.EqNone.ne_int_none (jn I q (by simp))
  |int j=> obtain⟨t',rfl⟩:=ry;exact ne_int (jn I q (congrArg not akf))
  |str j=> obtain⟨t',rfl⟩:=ry;exact PySem.EqMixed.ne_int_str (jn I q (by simp))
  |_=> exact absurd (show false=true from hs) av
 |str i=>
  obtain⟨t,rfl⟩:=rx
  cases y with
  |non=> cases ry;exact PySem.EqNone.ne_str_none (jn I q (by simp))
  |bl j=> cases ry;exact PySem.EqMixed.ne_str_bool (jn I q (by simp))
  |int j=> obtain⟨t',rfl⟩:=ry;exact PySem.EqMixed.ne_str_int (jn I q (by simp))
  |str j=> obtain⟨t',rfl⟩:=ry;exact ne_str (jn I q (congrArg not al3))
  |_=> exact absurd (show false=true from hs) av
 |byt i=>
  obtain⟨t,rfl⟩:=rx
  cases y with
  |byt j=> obtain⟨t',rfl⟩:=ry;exact PySem.W.ne_bytes (jn I q (congrArg not ak5))
  |_=> exact absurd (show false=true from hs) av
 |_=> cases y <;> exact absurd (show false=true from hs) av
theorem a0k:OpR X (aK .Lt) (rI0 fun i j=>.bl (decide (i < j))):=alx fun _ _ _ _ _ _ _ q=> lt_int q
theorem at1:OpR X (aK .LtE) (rI0 fun i j=>.bl (decide (i <=j))):=alx fun _ _ _ _ _ _ _ q=> le_int q
theorem a18:OpR X (aK .Gt) (rI0 fun i j=>.bl (decide (j < i))):=alx fun _ _ _ _ _ _ _ q=> gt_int q
theorem a0c:OpR X (aK .GtE) (rI0 fun i j=>.bl (decide (j <=i))):=alx fun _ _ _ _ _ _ _ q=> ge_int q
theorem ao7:OpR X (aK .Lt) (fun x y H Q=> ∃i j,x=.str i/\y=.str j/\Q (.bl (decide (i.cps.toList < j.cps.toList))) H):=by
 (first|refine⟨?_⟩|skip);intro pins s σ H x y v u Q I rx ry h
 obtain⟨i,j,rfl,rfl,q⟩:=h
 obtain⟨t,rfl⟩:=rx
 obtain⟨t',rfl⟩:=ry
 exact lt_str (jn I q rfl)
theorem apo:OpR X (aK .In) (fun x y H Q=> ∃i j,x=.str i/\y=.str j/\Q (.bl (!(dh j i 0 j.length 1).isEmpty)) H):=by
 (first|refine⟨?_⟩|skip);intro pins s σ H x y v u Q I rx ry h
 obtain⟨i,j,rfl,rfl,q⟩:=h
 obtain⟨t,rfl⟩:=rx
 obtain⟨t',rfl⟩:=ry
 exact in_str (jn I q rfl)
theorem ahp:OpR X (aK .NotIn) (fun x y H Q=> ∃i j,x=.str i/\y=.str j/\Q (.bl (!(!(dh j i 0 j.length 1).isEmpty))) H):=by
 (first|refine⟨?_⟩|skip);intro pins s σ H x y v u Q I rx ry h
 obtain⟨i,j,rfl,rfl,q⟩:=h
 obtain⟨t,rfl⟩:=rx
 obtain⟨t',rfl⟩:=ry
 exact notIn_str (jn I q rfl)
theorem aou(b:Expr)(h:op≠ .In:=by decide)(h2:op≠ .NotIn:=by decide):d5 op b=false:=by
 have e1:(op==CmpOp.In)=false:=by cases op <;> first|rfl|exact absurd rfl h
 have e2:(op==CmpOp.NotIn)=false:=by cases op <;> first|rfl|exact absurd rfl h2
 cases b <;> simp [d5,e1,e2]
theorem av8{r:R2}(ho:OpR X (aK op) r)(ha:PE X a ta)(hb:PE X b tb)(hm:d5 op b=false):PE X (.Compare a [op] [b] pos) (tOp r ta tb):=by
 (first|refine⟨?_⟩|skip);intro pins s σ H Q I h
 exact wpAny_Compare1 (ar0 ha hb I h fun v u s2 x y H2 I2 rx ry q=> ho pins s2 σ H2 x y v u Q I2 rx ry q) hm
noncomputable def alz(t:TE):TT:=fun σ H Q=> t σ H fun x H'=> ∃k,x=.bl k/\Q k H'
theorem atz{r:R2}(ho:OpR X (aK op) r)(ha:PE X a ta)(hb:PE X b tb)(hm:d5 op b=false):PT X (.Compare a [op] [b] pos) (alz (tOp r ta tb)):=by
 (first|refine⟨?_⟩|skip);intro pins s σ H Q I h
 refine wpAny_isTrue_Compare1 (thn (ha pins s σ H _ I h) fun v s1 ⟨x,H1,I1,r1,q1⟩=> thn (hb pins s1 σ H1 _ I1 q1) fun u s2 ⟨y,H2,I2,r2,q2⟩=>
  thn (ho pins s2 σ H2 x y v u _ I2 r1 r2 q2) fun c s3 ⟨z,H3,I3,r3,k,e,q3⟩=> ?_) hm
 subst e
 cases r3
 exact bK ⟨H3,I3,q3⟩
noncomputable def ai6(r r':R2)(ta tb tc:TE):TE:=fun σ H Q=> ta σ H fun x H1=> tb σ H1 fun y H2=> r x y H2 fun z H3=> ∃k,z=.bl k/\
 (if k=true then tc σ H3 fun w' H4=> r' y w' H4 Q else Q (.bl false) H3)
theorem ass{op':CmpOp}{r r':R2}(ho:OpR X (aK op) r)(ho':OpR X (aK op') r')(ha:PE X a ta)(hb:PE X b tb)(hc:PE X c tc)(hm:jJ [op,op'] [b,c]=false:=by with_unfolding_all rfl):PE X (.Compare a [op,op'] [b,c] pos) (ai6 r r' ta tb tc):=by
 (first|refine⟨?_⟩|skip);intro pins s σ H Q I h
 refine Compare_chain (thn (ha pins s σ H _ I h) fun v s1 ⟨x,H1,I1,r1,q1⟩=> chain_link (thn (hb pins s1 σ H1 _ I1 q1) fun u s2 ⟨y,H2,I2,r2,q2⟩=>
  thn (ho pins s2 σ H2 x y v u _ I2 r1 r2 q2) fun d s3 ⟨z,H3,I3,r3,k,e,q3⟩=> ?_)) hm
 subst e
 cases r3
 refine bK ?_
 cases k with
 |false=> exact ite_ff ⟨.bl false,H3,I3,rfl,q3⟩
 |true=> exact ite_tt (chain_last (thn (hc pins s3 σ H3 _ I3 q3) fun w' s4 ⟨z',H4,I4,r4,q4⟩=> ho' pins s4 σ H4 y z' u w' Q I4 r2 r4 q4))
theorem asw{op':CmpOp}{r r':R2}(ho:OpR X (aK op) r)(ho':OpR X (aK op') r')(ha:PE X a ta)(hb:PE X b tb)(hc:PE X c tc)(hm:jJ [op,op'] [b,c]=false:=by with_unfolding_all rfl):PT X (.Compare a [op,op'] [b,c] pos) (alz (ai6 r r' ta tb tc)):=by
 (first|refine⟨?_⟩|skip);intro pins s σ H Q I h
 refine isTrue_chain (thn (ha pins s σ H _ I h) fun v s1 ⟨x,H1,I1,r1,q1⟩=> test_link (thn (hb pins s1 σ H1 _ I1 q1) fun u s2 ⟨y,H2,I2,r2,q2⟩=>
  thn (ho pins s2 σ H2 x y v u _ I2 r1 r2 q2) fun d s3 ⟨z,H3,I3,r3,k,e,q3⟩=> ?_)) hm
 subst e
 cases r3
 refine bK ?_
 cases k with
 |false=>
  obtain⟨k',e',q'⟩:=q3
  cases e'
  exact ite_ff ⟨H3,I3,q'⟩
 |true=>
  refine ite_tt (test_last (thn (hc pins s3 σ H3 _ I3 q3) fun w' s4 ⟨z',H4,I4,r4,q4⟩=> thn (ho' pins s4 σ H4 y z' u w' _ I4 r2 r4 q4) fun d' s5 ⟨z2,H5,I5,r5,k2,e2,q5⟩=> ?_))
  subst e2
  cases r5
  exact bK ⟨H5,I5,q5⟩
def axg(K:am)(x:V)(H:Hp)(k:Bool):Prop:=
 match x with
 |.non=> k=false
 |.bl b=> k=b
 |.int i=> k=(i !=0)
 |.str y=> y.length <=sizeLine/\k=((y.length:Int) !=0)
 |.byt y=> y.size <=sizeLine/\k=((y.size:Int) !=0)
 |.ref p=> (∃xs,SqL K H p xs/\k= !xs.isEmpty)\/(∃xs,SqT K H p xs/\k= !xs.isEmpty)\/ ∃kvs,H p=some (.dK kvs)/\k= !kvs.isEmpty
 |_=> False
theorem alr{κ:Type}{kvs:List (κ×V)}{vs:List (κ×ac)}(r:KV kvs vs):(!vs.isEmpty)= !kvs.isEmpty:=by
 cases r <;> rfl
theorem af8(r:jg xs its):(!its.toArray.isEmpty)= !xs.isEmpty:=by
 cases r <;> simp
theorem aaj:(sizeLine:Nat) < 2^63:=by rw [cO];decide
theorem ayx:a34 X (fun x H Q=> ∃k,axg X.K x H k/\Q k H):=by
 (first|refine⟨?_⟩|skip);intro pins s σ H x v Q I rx h
 obtain⟨k,e,q⟩:=h
 have hl:=aaj
 have hs:sizeLine=16777216:=cO
 cases x with
 |non=>
  cases rx
  have e':k=false:=e
  subst e'
  exact truthy_none ⟨H,I,q⟩
 |bl b=>
  cases rx
  have e':k=b:=e
  subst e'
  exact bK ⟨H,I,q⟩
 |int i=>
  obtain⟨t,rfl⟩:=rx
  have e':k=(i !=0):=e
  subst e'
  exact PySem.P.truthy_int ⟨H,I,q⟩
 |str y=>
  obtain⟨t,rfl⟩:=rx
  obtain⟨hy,e'⟩:y.length <=sizeLine/\k=((y.length:Int) !=0):=e
  subst e'
  exact PySem.P.truthy_str (by lia) ⟨H,I.tok _,q⟩
 |byt y=>
  obtain⟨t,rfl⟩:=rx
  obtain⟨hy,e'⟩:y.size <=sizeLine/\k=((y.size:Int) !=0):=e
  subst e'
  exact PySem.W.truthy_bytes (by lia) ⟨H,I.tok _,q⟩
 | ref p=>
  cases rx
  have e':(∃xs,SqL X.K H p xs/\k= !xs.isEmpty)\/(∃xs,SqT X.K H p xs/\k= !xs.isEmpty)\/ ∃kvs,H p=some (.dK kvs)/\k= !kvs.isEmpty:=e
  rcases e' with ⟨xs,hx,e'⟩|⟨xs,hx,e'⟩|⟨kvs,hx,e'⟩
  ·subst e'
   obtain⟨its,r,pl,hz⟩:=I.list hx
   have hlen:=r.length
   exact wpAny_truthy_list pl.isList (by simp only [au];lia) ⟨H,I.tok _,by rw [af8 r];exact q⟩
  ·subst e'
   obtain⟨its,r,pl,hz⟩:=I.tuple hx
   have hlen:=r.length
   exact truthy_tuple pl (by simp only [au];lia) ⟨H,I.tok _,by rw [af8 r];exact q⟩
  ·subst e'
   obtain⟨hz,hS,vs,r,m⟩:kvs.length <=sizeLine/\(p==dQ)=false/\ ∃vs,KV kvs vs/\s.heap.DictOf (abh X.prog X.w) p vs:=I.hok p _ hx
   have hlen:kvs.length=vs.length:=Paired.length r
   exact wpAny_truthy_dict hS m (by lia) ⟨H,I.tok _,by rw [alr r];exact q⟩
 |_=> exact (show False from e).elim
theorem ar8(ha:PE X a ta)(he: ∀whole,isTrue a X.env whole=(do let v←whole;standAt a.pos;holding [v] (truthy v))):
  PT X a (fun σ H Q=> ta σ H fun x H'=> ∃k,axg X.K x H' k/\Q k H'):=by
 (first|refine⟨?_⟩|skip);intro pins s σ H Q I h
 exact isTrue_plain (thn (ha pins s σ H _ I h) fun v s1 ⟨x,H1,I1,r1,q1⟩=> ayx pins s1 σ H1 x v Q I1 r1 q1) (he _)
theorem an3:OpR X (binaryOp .Add) (fun x y H Q=> ∃i j,x=.str i/\y=.str j/\i.length+j.length <=sizeLine/\Q (.str (i++j)) H):=by
 (first|refine⟨?_⟩|skip);intro pins s σ H x y v u Q I rx ry h
 obtain⟨i,j,rfl,rfl,hz,q⟩:=h
 obtain⟨t,rfl⟩:=rx
 obtain⟨t',rfl⟩:=ry
 exact add_str (fun t' tk=> ⟨.str (i++j),H,I.tok _,⟨_,rfl⟩,q⟩) hz
theorem vals1{x:V}(r:jg [x] us): ∃u,us=[u]/\RelV x u:=by
 cases r with
 |cons r1 r2=> cases r2;exact⟨_,rfl,r1⟩
theorem vals2{x y:V}(r:jg [x,y] us): ∃u w',us=[u,w']/\RelV x u/\RelV y w':=by
 cases r with
 |cons r1 r2=>
  cases r2 with
  |cons r3 r4=> cases r4;exact⟨_,_,rfl,r1,r3⟩
end
structure ObjM (h:Heap) (x dx C:Addr) (mA:Str -> Option ac):Prop where
 obj:h.get? x=some (ib C dx)
 ns:h.Ns1 dx mA
 ne:dx≠x
theorem apc{dx:Addr}(n:h.Ns1 dx mA): ∃od,h.get? dx=some od/\ ∀name,iz name od=some (mA name):=by
 obtain⟨o,es,ep,ho,hd,hk,_,hm⟩:=n
 refine⟨o,ho,fun name=> ?_⟩
 have e:=hm name
 unfold nsFind findBy at e
 rw [←Array.find?_toList]at e
 unfold iz
 rw [hd]
 dsimp only
 split
 ·rename_i y q
  rw [q]at e
  exact congrArg some e
 ·rename_i q
  rw [q]at e
  have a:es.toList.any (·.refKey)=false:=by
   rw [gF]
   intro y hy
   obtain⟨z,t,hkey⟩:=hk y (Array.mem_toList_iff.mp hy)
   simp [DictEntry.refKey,hkey]
  have a': ¬es.toList.any (·.refKey)=true:=by rw [a];exact av
  rw [if_neg a']
  exact congrArg some e
theorem ObjM.look{x dx:Addr}(I:ObjM h x dx C mA): ∃od,PySem.W.InstAt h x (ib C dx) C (some od)/\ ∀name,iz name od=some (mA name):=
 let ⟨od,ho,hl⟩:=apc I.ns
 ⟨od,⟨I.obj,rfl,rfl,ho⟩,hl⟩
section
variable{P:aR}{w:aT}{H H':Hp}{h h':Heap}{a C dx:Addr}{fs fs':List (Str×V)}
theorem avu(hok:HOk P w H h)(e:H a=some (.ins C dx fs)): ∃mA,ObjM h a dx C mA/\(∀f,ame (fs.lookup f) (mA f))/\jI mA (fs.map (·.1))/\fs.length <=1000/\H dx=some (.own a):=by
 obtain⟨d,z,ne,ob,mA,n,r,q⟩:=(show j5 P w H h a (.ins C dx fs) from hok a _ e)
 exact⟨mA,⟨ob,n,ne⟩,r,q,z,d⟩
end
structure Cls (K:am) (C:Addr):Prop where
 pg:PySem.W.plainGet K C Str.empty=true
 hd:PySem.W.hasDictIn K C=true
 po:PySem.W.plainOver K C=true
 sa:PySem.W.findIn K (.ref C) "__setattr__"=some (some (.builtin "object.__setattr__"))
theorem Cls.get(c:Cls K C)(f:Str):PySem.W.plainGet K C f=true:=c.pg
section
variable{X:Cx}{pins:List (Addr×Obj)}{σ:St}{H:Hp}{s:ah}{A:aZ}{E:ac -> ah -> Prop}{Q:ac -> ah -> Prop}{c:ac}{b:Bool}
inductive TyOf (K:am) (H:Hp):V -> ac -> Prop where
 |non:TyOf K H .non (.type "NoneType")
 |bl (x:Bool):TyOf K H (.bl x) (.type "bool")
 |int (i:Int):TyOf K H (.int i) (.type "int")
 |str (x:Str):TyOf K H (.str x) (.type "str")
 |flt (x:UInt64):TyOf K H (.flt x) (.type "float")
 |lst {a:Addr} {xs:List V} (e:H a=some (.lst xs)):TyOf K H (.ref a) (.type "list")
 |frz {a:Addr} {o:Obj} {xs:List V} (e:H a=some (.frz o (.lst xs))):TyOf K H (.ref a) (.type "list")
 |tup {a:Addr} {xs:List V} (e:H a=some (.tup xs)):TyOf K H (.ref a) (.type "tuple")
 |dK {a:Addr} {kvs:List (Key×V)} (e:H a=some (.dK kvs)):TyOf K H (.ref a) (.type "dict")
 |dT {a:Addr} {kvs:List (List Key×V)} (e:H a=some (.dT kvs)):TyOf K H (.ref a) (.type "dict")
 | ins {a C dx:Addr} {fs:List (Str×V)} (e:H a=some (.ins C dx fs)) (cl:Cls K C) (ha:PySem.W.findIn K (.ref C) "__class__"=some (some (.builtin "object.__class__")))
   (hn:PySem.W.specialIn K (.builtin "object.__class__") "__get__"=some (some (.builtin "getset_descriptor.__get__"))) (htk:PySem.W.takesIn K (.builtin "object.__class__")=some true)
   (hm:PySem.W.mroIn K C (.type "object")=some true):TyOf K H (.ref a) (.ref C)
theorem agr{x:V}{u t:ac}(I:Inv X pins σ H s)(rx:RelV x u)(ty:TyOf X.K H x t)(e:PySem.W.kitOne X.K t c=some b)(h: ∀tk,Q (.bool b) {s with toks:=tk}):
  wpAny (model X.prog X.w) A (call (.builtin "isinstance") [u,c]) Q E s:=by
 cases ty with
 |non=> cases (show u=aQ from rx);exact bO PySem.W.kitx_none I.kIn gL e (fun z=> nomatch z) h
 |bl y=> cases (show u=dP y from rx);exact bO PySem.W.kitx_bool I.kIn gL e (fun z=> nomatch z) h
 |int i=> obtain⟨t,q⟩:=(show∃t,u=gh i t from rx);cases q;exact bO PySem.W.kitx_int I.kIn gL e (fun z=> nomatch z) h
 |str y=> obtain⟨t,q⟩:=(show∃t,u=gi y t from rx);cases q;exact bO PySem.W.kitx_str I.kIn gL e (fun z=> nomatch z) h
 |flt y=> obtain⟨t,q⟩:=(show∃t,u=Value.float y t from rx);cases q;exact bO PySem.W.kitx_float I.kIn gL e (fun z=> nomatch z) h
 | @lst a xs ea=>
  cases (show u=a8 a from rx)
  obtain⟨_,_,n,_,h1⟩:=(show j5 X.prog X.w H s.heap a (.lst xs) from I.hok a _ ea)
  exact bO PySem.W.kitx_list I.kIn ⟨_,h1,rfl⟩ e (fun z=> nomatch z) h
 | @frz a ob xs ea=>
  cases (show u=a8 a from rx)
  obtain⟨_,_,_,n,_,h1⟩:=(show j5 X.prog X.w H s.heap a (.frz ob (.lst xs)) from I.hok a _ ea)
  exact bO PySem.W.kitx_list I.kIn ⟨_,h1,rfl⟩ e (fun z=> nomatch z) h
 | @tup a xs ea=>
  cases (show u=a8 a from rx)
  obtain⟨_,_,_,p⟩:=(show j5 X.prog X.w H s.heap a (.tup xs) from I.hok a _ ea)
  obtain⟨o,h1,h2,_⟩:=p.tup
  exact bO PySem.W.kitx_tuple I.kIn ⟨o,h1,h2⟩ e (fun z=> nomatch z) h
 | @dK a kvs ea=>
  cases (show u=a8 a from rx)
  obtain⟨_,_,vs,_,p⟩:=(show j5 X.prog X.w H s.heap a (.dK kvs) from I.hok a _ ea)
  obtain⟨o,es,ep,h1,h2,_⟩:=p
  exact bO PySem.W.kitx_dict I.kIn ⟨o,h1,h2.1⟩ e (fun z=> nomatch z) h
 | @dT a kvs ea=>
  cases (show u=a8 a from rx)
  obtain⟨_,_,xs,_,o,es,ep,h1,h2,_⟩:=(show j5 X.prog X.w H s.heap a (.dT kvs) from I.hok a _ ea)
  exact bO PySem.W.kitx_dict I.kIn ⟨o,h1,h2.1⟩ e (fun z=> nomatch z) h
 | @ins a C dx fs ea cl ha hn htk hm=>
  cases (show u=a8 a from rx)
  obtain⟨mA,O,_⟩:=avu I.hok ea
  obtain⟨od,J,_⟩:=O.look
  exact bO (PySem.W.kitx_own (cl.get _) cl.hd ha hn htk hm) I.kIn J e (fun z=> nomatch z) h
end
structure Room (k:Nat) (A:aZ):Prop where
 hd:A.handled=none
 dp:A.depth+3*k+5 < recursionLimit
 un:A.units+16*k+200 < cLine
 gd:A.guards=some []
theorem Room.mono{j:Nat}(r:Room k A)(h:j <=k):Room j A:=⟨r.hd,by have:=r.dp;lia,by have:=r.un;lia,r.gd⟩
theorem Room.deeper(r:Room (k+1) A)(env:Env):Room k (A.deeper env):=
 ⟨r.hd,by have:=r.dp;show A.depth+1+3*k+5 < _;lia,by have:=r.un;show A.units+3+16*k+200 < _;lia,r.gd⟩
theorem Room.depth(r:Room k A):A.depth < recursionLimit:=by have:=r.dp;lia
noncomputable def ayz:TA:=fun _ H Q=> Q [] H
noncomputable def ath(ta:TE)(tr:TA):TA:=fun σ H Q=> ta σ H fun x H1=> tr σ H1 fun xs H2=> Q (x::xs) H2
theorem aip:PA X [] ayz:=.mk <|fun _ _ _ _ H Q I h=> Calls.spliced_nil ⟨[],H,I,.nil,h⟩
theorem afy(ha:PE X e te)(hr:PA X es t)(hs:starEach (e::es) X.env=(false,eval e X.env)::starEach es X.env:=by rfl):PA X (e::es) (ath te t):=by
 (first|refine⟨?_⟩|skip);intro pos pins s σ H Q I h
 rw [hs]
 show wpAny _ _ (spliced ((false,eval e X.env)::backTo pos (starEach es X.env))) _ _ s
 refine Calls.spliced_cons (thn (ha pins s σ H _ I h) fun u s1 ⟨x,H1,I1,r1,q1⟩=> ?_)
 exact thn (hr pos pins s1 σ H1 _ I1 q1) fun us s2 ⟨xs,H2,I2,r2,q2⟩=> ⟨x::xs,H2,I2,.cons r1 r2,q2⟩
abbrev Sp:=List V -> Hp -> VK -> XK -> Prop
abbrev CXT:=List Env -> Hp -> ah -> XK -> ac -> ah -> Prop
structure Env0 (P:aR) (w:aT) (K:am) (mg:Str -> Option ac) (base:Heap) (A:aZ) (outer:List Env) (s:ah) (H:Hp):Prop where
 frames:A.frames=some outer
 mod:Mod K mg base
 bs: ∀b o,base.get? b=some o -> s.heap.get? b=some o/\H b=none
 bsz:base.objs.size <=s.heap.objs.size
 funs:s.heap.FunFrames base outer
 frf: ∀b∈frs outer,H b=none
 hok:HOk P w H s.heap
 bare:fz s.gens
def CE(outer:List Env)(P:aR)(w:aT)(H:Hp)(s:ah)(Q:VK)(u:ac)(s':ah):Prop:=
 ∃v H',s'.os=s.os/\fz s'.gens/\Un (frs outer) [] H H' s.heap s'.heap/\HOk P w H' s'.heap/\RelV v u/\Q v H'
def CR(CX:CXT)(outer:List Env)(P:aR)(w:aT)(H:Hp)(s:ah)(Q:VK)(E:XK)(r:Result)(s':ah):Prop:=
 match r with
 |.ok (.ret u)=> CE outer P w H s Q u s'
 |.ok _=> False
 |.error e=> CX outer H s E e s'
structure FnOk (P:aR) (w:aT) (K:am) (mg:Str -> Option ac) (base:Heap) (CX:CXT) (k:Nat) (f:Addr) (fd:dR) (ps:List Str) (sp:Sp):Prop where
 len: ∀vs H Q E,sp vs H Q E -> vs.length=ps.length
 run: ∀(A:aZ) (outer:List Env) (s:ah) (H:Hp) (args:Args) (us:List ac) (vs:List V) (Q:VK) (E:XK),Room k A -> Env0 P w K mg base A outer s H -> iA s fd args (ps.zip us) -> jg vs us -> sp vs H Q E ->
  codeAny (model P w) A (.call (.ref f) args) (CR CX outer P w H s Q E) s
theorem FnOk.imp{CX:CXT}{sp sp':Sp}(F:FnOk P w K mg base CX k f fd ps sp)(h: ∀vs H Q E,sp' vs H Q E -> sp vs H Q E):FnOk P w K mg base CX k f fd ps sp':=
 ⟨fun vs H Q E q=> F.len vs H Q E (h _ _ _ _ q),fun A outer s H args us vs Q E hr he hb hv hs=> F.run A outer s H args us vs Q E hr he hb hv (h _ _ _ _ hs)⟩
section
variable{X:Cx}{pins:List (Addr×Obj)}{σ:St}{H:Hp}{s s':ah}
theorem Inv.env0(I:Inv X pins σ H s):Env0 X.prog X.w X.K X.mg X.base X.A X.stack s H:=
 ⟨I.ok.frames,I.ok.mod,I.bs,a7 I.ok.bsz I.sz,I.stack,I.stkFree,I.hok,I.bare⟩
theorem Inv.after{Q:VK}{u:ac}(I:Inv X pins σ H s)(h:CE X.stack X.prog X.w H s Q u s'):EP X pins σ Q u s':=by
 obtain⟨v,H',os,bare,un,hok,r,q⟩:=h
 obtain⟨hh,g,d,t,os'⟩:=s'
 obtain rfl:os'=s.os:=os
 exact⟨v,H',I.call (h':=hh) (g':=g) (d':=d) (t':=t) (ch:=[]) un hok bare (fun b z=> absurd z (by simp)),r,q⟩
end
noncomputable def atf(sp:Sp)(dvs:List V)(E:XK)(t:TA):TE:=fun σ H Q=> t σ H fun vs H1=> sp (vs++dvs) H1 Q E
def Binds(K:am)(fd:dR)(ps:List Str)(ds:List ac):Prop:=
 ∀(s:ah) (us:List ac),K.In s.heap -> (us++ds).length=ps.length -> iA s fd ⟨us,[]⟩ (ps.zip (us++ds))
theorem Binds.all(h: ∀us:List ac,us.length=ps.length -> bindArgs fd ⟨us,[]⟩=pure (ps.zip us)):Binds K fd ps []:=fun s us _ hl=> by
 rw [bq]at hl⊢
 exact .of_eq (h us hl)
def aib(CX:CXT)(X:Cx)(E:XK):Prop:= ∀(pins:List (Addr×Obj)) (σ:St) (H:Hp) (s:ah) (e:ac) (s':ah),Inv X pins σ H s -> CX X.stack H s E e s' -> X.xe e s'
section
variable{X:Cx}{CX:CXT}{k:Nat}{f C:Addr}{fd:dR}{ps:List Str}{sp:Sp}{dvs:List V}{ds:List ac}{E:XK}{x m:Str}{p pos apos:Pos}{e o:Expr}{es:List Expr}{ta:TE}{t:TA}
theorem awo{Q:VK}{vs:List V}(F:FnOk X.prog X.w X.K X.mg X.base CX k f fd ps sp)(hr:Room k X.A)(hb:Binds X.K fd ps ds)(hd:jg dvs ds)(hx:aib CX X E)(I:Inv X pins σ H s)(r:jg vs us)(h:sp (vs++dvs) H Q E):wpAny (model X.prog X.w) X.A (call (.ref f) us) (EP X pins σ Q) X.xe s:=by
 have r2:jg (vs++dvs) (us++ds):=r.append hd
 have hl:(us++ds).length=ps.length:=by rw [←r2.length];exact F.len _ _ _ _ h
 refine wpAny_call (dC (F.run X.A X.stack s H ⟨us,[]⟩ (us++ds) (vs++dvs) Q E hr I.env0 (hb s us I.kIn hl) r2 h) fun r s' hq=> ?_)
 cases r with
 |error e=> exact hx pins σ H s e s' I hq
 |ok fl=>
  cases fl with
  |ret u=> exact I.after hq
  |next=> exact c6 hq
  |brk=> exact c6 hq
  |cont=> exact c6 hq
theorem av9(F:FnOk X.prog X.w X.K X.mg X.base CX k f fd ps sp)(hr:Room k X.A)(hg:Gl X x)(hm:X.mg x=some (.ref f))(hk:dE X.K (.ref f)=true)(hb:Binds X.K fd ps ds)(hd:jg dvs ds)(hx:aib CX X E)
  (ha:PA X (e::es) t) (hdb:(x==("__debug__":Str))=false:=by decide) (he:starEach (e::es) X.env=(false,eval e X.env)::starEach es X.env:=by rfl) (hpl:(backTo pos (starEach es X.env)).any (·.1)=false:=by rfl):
  PE X (.Call (.Name x p) (e::es) [] pos) (atf sp dvs E t):=by
 (first|refine⟨?_⟩|skip);intro pins s σ H Q I h
 refine cS (akw I hg hm ?_ hdb)
 refine PySem.W.callWith_K (h₀:=X.base) I.ok.mod.kin hk (thn (ha pos pins s σ H _ I h) fun us s1 ⟨vs,H1,I1,r,q⟩=> ⟨I1.kIn,?_⟩) he hpl
 exact awo F hr hb hd hx I1 r q
end
def PK(X:Cx)(kws:List f6)(t:TA):Prop:=
 ∀(pos:Pos) (pins:List (Addr×Obj)) (s:ah) (σ:St) (H:Hp) (Q:List V -> Hp -> Prop),Inv X pins σ H s -> t σ H Q -> wpAny (model X.prog X.w) X.A (evalAll ((backToKw pos (gc kws X.env)).map (·.2))) (AP X pins σ Q) X.xe s
section
variable{X:Cx}{CX:CXT}{k:Nat}{f C:Addr}{fd:dR}{ps ks:List Str}{sp:Sp}{E:XK}{x m:Str}{p pos apos kpos:Pos}{e o:Expr}{es:List Expr}{kws:List f6}{te ta:TE}{t tk:TA}{nm:Option Str}
theorem axv:PK X [] ayz:=fun _ _ _ _ H Q I h=> wpAny_evalAll_nil ⟨[],H,I,.nil,h⟩
theorem au0(ha:PE X e te)(hr:PK X kws t):PK X (⟨nm,e,kpos⟩::kws) (ath te t):=by
 (first|refine⟨?_⟩|skip);intro pos pins s σ H Q I h
 show wpAny _ _ (evalAll ((do let v←eval e X.env;standAt pos;pure v)::(backToKw pos (gc kws X.env)).map (·.2))) _ _ s
 refine wpAny_evalAll_cons (aa (thn (ha pins s σ H _ I h) fun u s1 ⟨x,H1,I1,r1,q1⟩=> aa (eZ (aj ?_))))
 exact thn (hr pos pins s1 σ H1 _ I1 q1) fun us s2 ⟨xs,H2,I2,r2,q2⟩=> ⟨x::xs,H2,I2,.cons r1 r2,q2⟩
variable{g:List ac -> List ac -> List ac}{gV:List V -> List V -> List V}
end
structure FnScope (N P:List Str) (sc:eE):Prop where
 kind:sc.kind=.function
 co:sc.isCoroutine=false
 gen:sc.isGenerator=false
 nd:N.Nodup
 pre:N.take P.length=P
 par: ∀x∈P,sc.names.lookup x=some .local\/sc.names.lookup x=some .cell
 nofree: ∀y∈sc.names,y.2≠ .free
theorem agc{kindOf:Str -> Option dv}{x:Str}: ∀{binds:List (Str×ac)} {m:Str -> Option ac},(∀v,(x,v)∉binds) -> bindL kindOf binds m x=m x
 |[],_,_=> rfl
 | (n,v)::r,m,h=> by
  unfold bindL
  rw [agc fun w hw=> h w (ay _ hw)]
  split
  ·have:x≠n:=by rintro rfl;exact h v az
   simp [this]
  ·rfl
theorem agp{kindOf:Str -> Option dv}{x:Str}: ∀{binds:List (Str×ac)} {m:Str -> Option ac},(∀v,(x,v)∉binds) -> bindC kindOf binds m x=m x
 |[],_,_=> rfl
 | (n,v)::r,m,h=> by
  unfold bindC
  rw [agp fun w hw=> h w (ay _ hw)]
  split
  ·rfl
  ·have:x≠n:=by rintro rfl;exact h v az
   simp [this]
theorem agy{kindOf:Str -> Option dv}{x:Str}{v:ac}: ∀{P:List Str} {vs:List ac} {i:Nat} {m:Str -> Option ac},P.Nodup -> P[i]?=some x -> vs[i]?=some v -> kindOf x=some .local ->
  bindL kindOf (P.zip vs) m x=some v
 |[],_,_,_,_,h,_,_=> by simp at h
 |_::_,[],_,_,_,_,h,_=> by simp at h
 |p::P,w::vs,0,m,nd,h1,h2,hk=> by
  simp at h1 h2;subst h1;subst h2
  show bindL kindOf ((p,w)::P.zip vs) m p=_
  unfold bindL
  rw [agc fun v hv=> (fH.mp nd).1 (ee hv).1,if_pos hk]
  simp
 |p::P,w::vs,i+1,m,nd,h1,h2,hk=> by
  show bindL kindOf ((p,w)::P.zip vs) m x=_
  unfold bindL
  exact agy (i:=i) (fH.mp nd).2 (by simpa using h1) (by simpa using h2) hk
theorem age{kindOf:Str -> Option dv}{x:Str}{v:ac}: ∀{P:List Str} {vs:List ac} {i:Nat} {m:Str -> Option ac},P.Nodup -> P[i]?=some x -> vs[i]?=some v -> kindOf x≠some .local ->
  bindC kindOf (P.zip vs) m x=some v
 |[],_,_,_,_,h,_,_=> by simp at h
 |_::_,[],_,_,_,_,h,_=> by simp at h
 |p::P,w::vs,0,m,nd,h1,h2,hk=> by
  simp at h1 h2;subst h1;subst h2
  show bindC kindOf ((p,w)::P.zip vs) m p=_
  unfold bindC
  rw [agp fun v hv=> (fH.mp nd).1 (ee hv).1,if_neg hk]
  simp
 |p::P,w::vs,i+1,m,nd,h1,h2,hk=> by
  show bindC kindOf ((p,w)::P.zip vs) m x=_
  unfold bindC
  exact age (i:=i) (fH.mp nd).2 (by simpa using h1) (by simpa using h2) hk
noncomputable def start(N:List Str)(vs:List V):St:=vs.map some++bL (N.length - vs.length) none
noncomputable def ac0(CX:CXT)(P:aR)(w:aT)(K:am)(mg:Str -> Option ac)(base:Heap)(N:List Str)(qual:Str)(scope:eE)(f:Addr)(cd:ac)(A:aZ)(outer:List Env)(s:ah)(H:Hp)(E:XK):Cx where
 prog:=P
 w:=w
 K:=K
 mg:=mg
 base:=base
 A:=A.deeper (envOfC qual scope s.heap.objs.size f cd)
 N:=N
 s₀:=s
 H₀:=H
 env:=envOfC qual scope s.heap.objs.size f cd
 outer:=outer
 stack:=envOfC qual scope s.heap.objs.size f cd::outer
 ex:=[]
 calm:=true
 fn:=fun _=> true
 pn:=[]
 xe:=fun e s'=> wpAny (model P w) (A.deeper (envOfC qual scope s.heap.objs.size f cd)) (leaving (envOfC qual scope s.heap.objs.size f cd) e) (fun _ s''=> CX outer H s E e s'') (fun e' s''=> CX outer H s E e' s'') s'
theorem ajg{sc:eE}(h:sc.names.lookup x=some .cell): ∃c,(cellsFrom n sc.names []).lookup x=some c:=by
 have q:=im sc.names n [] (.inl h)
 exact gR.mp q
theorem anw{CX:CXT}{N:List Str}{cd:ac}{outer:List Env}{s1:ah}{E:XK}{vs:List V}(S:FnScope N ps scope)(hd:A.handled=none)(e0:Env0 P w K mg base A outer s H)(hl:vs.length=ps.length)(r:jg vs us)(x:InCallC s s.heap.objs.size (bindL (envOfC qual scope s.heap.objs.size f cd).kindOf (ps.zip us) fun _=> none) (cellsFrom (s.heap.objs.size+1) scope.names []) (bindC (envOfC qual scope s.heap.objs.size f cd).kindOf (ps.zip us) fun _=> none) s1):
  Inv (ac0 CX P w K mg base N qual scope f cd A outer s H E) [] (start N vs) H s1:=by
 have hpl:ps.length <=N.length:=by have:=congrArg List.length S.pre;rw [dS]at this;lia
 obtain⟨h1,tk,rfl,hk⟩:=x.done
 have noA: ∀b:Addr,b∉(ac0 CX P w K mg base N qual scope f cd A outer s H E).ex:=fun b z=> absurd (show b∈([]:List Addr) from z) (by simp)
 refine⟨⟨e0.mod,S.kind,rfl,rfl,aq _,fun y z c h1 h2=> ?_,fun y hy=> ?_,fun y c _ h=> ?_,fun _=> hd,Around.frames_deeper e0.frames,.inr ⟨rfl,rfl⟩,fun b z=> absurd z (noA b),e0.bs,e0.bsz,fun b _ _=> noA b,fun b z=> absurd z (noA b),e0.funs,e0.frf⟩,
  rfl,e0.bare,Un.kept hk,⟨_,x.toInCall.ns,fun i y v h1 h2 h3=> ?_⟩,fun y c h=> ⟨_,x.cell y c h⟩,e0.hok.fresh (aq _),fun y c h=> ?_,fun p hp=> absurd (show p∈([]:List (Addr×Obj)) from hp) (by simp),e0.hok.kept hk,?_⟩
 ·exact name_of_addr x.apart (cM h1) (cM h2)
 ·have hy:scope.names.lookup y=some .cell\/scope.names.lookup y=some .free:=hy
  rcases hy with hy|hy
  ·exact ajg hy
  ·exact absurd rfl (S.nofree _ (cM hy))
 ·exact gQ (x.above y c (cM h))
 ·have hi:i < vs.length:=by
   unfold start at h2
   by_cases hi:i < vs.length
   ·exact hi
   ·rw [bF (by simpa using hi)]at h2
    rw [di]at h2
    split at h2 <;> cases h2
  have ha:vs[i]?=some v:=by
   unfold start at h2
   rw [aS (by simpa using hi),aV]at h2
   cases e:vs[i]? with
   |none=> rw [e]at h2;cases h2
   |some a=> rw [e]at h2;cases h2;rfl
  obtain⟨u,hu,rv⟩:=r.get ha
  have hp:ps[i]?=some y:=by
   rw [←S.pre,List.getElem?_take_of_lt (by lia)];exact h1
  have ndP:ps.Nodup:=by rw [←S.pre];exact S.nd.sublist (List.take_sublist _ _)
  refine⟨u,rv,?_⟩
  rcases S.par y (bf hp) with k|k
  ·exact .inl ⟨k,agy ndP hp hu k⟩
  ·obtain⟨c,e⟩:=ajg (n:=s.heap.objs.size+1) k
   refine .inr ⟨.inl k,c,e,?_⟩
   have q:=x.cell y c e
   rw [age ndP hp hu (by show scope.names.lookup y≠_;rw [k];decide)]at q
   exact q
 ·exact e0.hok.fresh (gQ (x.above y c (cM h)))
 ·unfold start
  show _=N.length
  rw [aH,ak,iB]
  lia
theorem a1j{CX:CXT}{name:Str}{params:Arguments}{dV kV doc pm cdv ct oc:ac}{an od:Option Addr}{N:List Str}{sp:Sp}(lk:K.lookup f=some ⟨oc,od,.func (cD name qual params body scope dV kV doc pm an cdv ct),osl⟩)(hcd:eF K cdv qual=true)(S:FnScope N ps scope)(len: ∀vs H Q E,sp vs H Q E -> vs.length=ps.length)(hbody: ∀(A:aZ) (outer:List Env) (s:ah) (H:Hp) (vs:List V) (Q:VK) (E:XK),Room k (A.deeper (envOfC qual scope s.heap.objs.size f cdv)) -> sp vs H Q E ->
   ∃t,PSs (ac0 CX P w K mg base N qual scope f cdv A outer s H E) body t/\t {nx:=fun _ H'=> Q .non H',rt:=Q} (start N vs) H):
  FnOk P w K mg base CX (k+1) f (cD name qual params body scope dV kV doc pm an cdv ct) ps sp:=by
 refine⟨len,fun A outer s H args us vs Q E hr e0 hb r hsp=> ?_⟩
 have hl:=len _ _ _ _ hsp
 have KX:K.In s.heap:=e0.mod.kin.keeps fun b o e=> (e0.bs b o e).1
 have lim:s.heap.NoLimit:=e0.mod.nolimit.keeps fun b o e=> (e0.bs b o e).1
 have hkind: ∀y∈ps.zip us,scope.names.lookup y.1=some .local\/(scope.names.lookup y.1=some .cell/\((cellsFrom (s.heap.objs.size+1) scope.names []).lookup y.1).isSome=true):=fun⟨n,v⟩ hy=> by
  rcases S.par n (ee hy).1 with q|q
  ·exact .inl q
  ·exact .inr ⟨q,im _ _ _ (.inl q)⟩
 refine codeAny_call_function hr.depth (KX _ _ lk) rfl S.co S.gen rfl (PySem.W.codeRec_of KX hcd) (hb _ _ _ _ ?_)
 refine wpAny_newFunctionEnv_cells S.kind hkind fun env he s1 x=> ?_
 subst he
 refine⟨lim.keeps x.toInCall.keep,codeAny_func ?_⟩
 obtain⟨t,ht,hq⟩:=hbody A outer s H vs Q E (hr.deeper _) hsp
 have I:Inv (ac0 CX P w K mg base N qual scope f cdv A outer s H E) [] (start N vs) H s1:=anw S hr.hd e0 hl r x
 refine cC (ht [] s1 (start N vs) H _ I hq) (fun fl s' hs=> ?_) fun e s' hs=> hs
 have fin: ∀{σ':St} {H':Hp} {v:V} {u:ac},Inv (ac0 CX P w K mg base N qual scope f cdv A outer s H E) [] σ' H' s' -> RelV v u -> Q v H' -> CE outer P w H s Q u s':=
  fun {σ' H' v u} J rv q=> ⟨v,H',J.os,J.bare,J.base,J.hok,rv,q⟩
 cases fl with
 |ret u=>
  obtain⟨v,σ',H',J,rv,q⟩:=hs
  exact fin J rv q
 |next=>
  obtain⟨σ',H',J,q⟩:=hs
  exact fin (v:=V.non) (u:=aQ) J rfl q
 |brk=>
  obtain⟨_,_,_,q⟩:=hs
  exact c6 q
 |cont=>
  obtain⟨_,_,_,q⟩:=hs
  exact c6 q
section
variable{X:Cx}{x:Str}{p pos:Pos}{e:Expr}{es:List Expr}{t:TA}{id T:String}{r:List V -> Hp -> VK -> Prop}
noncomputable def tCB(r:List V -> Hp -> VK -> Prop)(t:TA):TE:=fun σ H Q=> t σ H fun vs H1=> r vs H1 Q
theorem aiv(hc:vw X (.builtin id) r)(hg:Gl X x)(hm:X.mg x=none)(hv:bc x=some (.builtin id))(ha:PA X (e::es) t)(hn:x≠"__name__":=by decide)(hdb:(x==("__debug__":Str))=false:=by decide)
  (he:starEach (e::es) X.env=(false,eval e X.env)::starEach es X.env:=by rfl) (hpl:(backTo pos (starEach es X.env)).any (·.1)=false:=by rfl):PE X (.Call (.Name x p) (e::es) [] pos) (tCB r t):=by
 (first|refine⟨?_⟩|skip);intro pins s σ H Q I h
 refine cS (zo I hg hm hv ?_ hn hdb)
 exact PyProof.Rows.callWith_builtin1 (thn (ha pos pins s σ H _ I h) fun us s1 ⟨vs,H1,I1,r1,q1⟩=> hc pins s1 σ H1 vs us Q I1 r1 q1) he hpl
theorem agt(hc:vw X (.type T) r)(hg:Gl X x)(hm:X.mg x=none)(hv:bc x=some (.type T))(ha:PA X (e::es) t)(hn:x≠"__name__":=by decide)(hdb:(x==("__debug__":Str))=false:=by decide)
  (he:starEach (e::es) X.env=(false,eval e X.env)::starEach es X.env:=by rfl) (hpl:(backTo pos (starEach es X.env)).any (·.1)=false:=by rfl):PE X (.Call (.Name x p) (e::es) [] pos) (tCB r t):=by
 (first|refine⟨?_⟩|skip);intro pins s σ H Q I h
 refine cS (zo I hg hm hv ?_ hn hdb)
 exact cb (thn (ha pos pins s σ H _ I h) fun us s1 ⟨vs,H1,I1,r1,q1⟩=> hc pins s1 σ H1 vs us Q I1 r1 q1) he hpl
end
end L2
namespace HT
open PySem PyProof.Rows
theorem cat_tup{t b:Addr}{vs ws:List ac}(ht:IsTup s.heap t vs.toArray)(hb:IsTup s.heap b ws.toArray)(hv:vs≠ [])(h1:ws=[] -> Q (.ref t) s)(h2:ws≠ [] -> Q (.ref s.heap.objs.size) {s with heap:=s.heap.push {cls:=.type "tuple",data:=.seq (vs++ws).toArray}})(hsz:vs.length+ws.length <=sizeLine):wpAny (model prog w) A (binaryOp .Add (.ref t) (.ref b)) Q E s:=by
 obtain⟨⟨cls,dd,data,sl⟩,ho,hc,n,hd⟩:=id ht
 obtain⟨⟨cls2,dd2,data2,sl2⟩,ho2,hc2,n2,hd2⟩:=id hb
 simp only at hc hd hc2 hd2
 subst hc hd hc2 hd2
 have e:vs.toArray++ws.toArray=(vs++ws).toArray:=by simp
 by_cases hw:ws=[]
 ·exact jK ⟨_,ho,rfl⟩ ⟨_,ho2,rfl⟩ gT i3 eR eK (eo _ _)
   (tuple_addW1 t b vs.toArray ws.toArray n n2 dd dd2 sl sl2 (by simpa using hv) (by simp [hw])) ⟨ho,ho2,h1 hw⟩
 ·refine jK ⟨_,ho,rfl⟩ ⟨_,ho2,rfl⟩ gT i3 eR eK (eo _ _)
   (tuple_addW2 t b vs.toArray ws.toArray n n2 dd dd2 sl sl2 (by simpa using hv) (by simpa using hw) (by rw [au,au];exact hsz)) ⟨ho,ho2,?_⟩
  rw [e]
  exact h2 hw
noncomputable def sIx(n d:Nat):Option Int -> Nat
 |none=> d
 |some v=> if v < 0 then (v+(n:Int)).toNat else min v.toNat n
theorem sIx_none(n d:Nat):sIx n d none=d:=rfl
theorem sIx_nat(n d k:Nat):sIx n d (some (k:Int))=min k n:=by
 show (if (k:Int) < 0 then ((k:Int)+(n:Int)).toNat else min (k:Int).toNat n)=min k n
 rw [if_neg (by lia),ca]
theorem az7(n d:Nat)(hd:d <=n)(o:Option Int):sIx n d o <=n:=by
 cases o with
 |none=> exact hd
 |some v=>
  show (if v < 0 then (v+(n:Int)).toNat else min v.toNat n) <=n
  by_cases hv:v < 0
  ·rw [if_pos hv];lia
  ·rw [if_neg hv];exact Nat.min_le_right _ _
theorem ald(v:Int)(n d:Nat):(if v < 0 then max (v+(n:Int)) 0 else min v (n:Int))=((sIx n d (some v):Nat):Int):=by
 show (if v < 0 then max (v+(n:Int)) 0 else min v (n:Int))=(((if v < 0 then (v+(n:Int)).toNat else min v.toNat n):Nat):Int)
 by_cases hv:v < 0
 ·simp only [if_pos hv];lia
 ·simp only [if_neg hv];lia
theorem alu(lo hi:Option Int)(n:Nat):ef lo hi 1 (n:Int)=(((sIx n 0 lo:Nat):Int),((sIx n n hi:Nat):Int)):=by
 have h1: ¬((1:Int) < 0):=by lia
 unfold ef
 simp only [h1,if_false]
 refine Prod.ext ?_ ?_
 ·cases lo with
  |none=> rfl
  |some v=> exact ald v n 0
 ·cases hi with
  |none=> rfl
  |some v=> exact ald v n n
theorem amk(i j:Nat):c7 (i:Int) (j:Int) 1=j - i:=by
 unfold c7
 have h1:(1:Int)> 0:=by lia
 simp only [h1,if_true,Int.ediv_one]
 split <;> lia
theorem aer{v:ac}{o:Option Int}{Q:Option Int -> ah -> Prop}(p:eS v o)(h:Q o s):wpAny (model prog w) A (Builtin.Slice.slicePartIndex v) Q E s:=by
 cases p with
 |none=> exact slicePart_none h
 |int i t=> exact slicePart_int h
theorem aar{sl:Addr}{vl vu:ac}{lo hi:Option Int}{Q:Int×Int×Nat -> ah -> Prop}(hs:s.heap.IsSliceOf sl vl vu .none)(pl:eS vl lo)(pu:eS vu hi)(h:Q (((sIx n 0 lo:Nat):Int),1,sIx n n hi - sIx n 0 lo) s):wpAny (model prog w) A (gy (.ref sl) (pure (n:Int))) Q E s:=by
 obtain⟨os,hos,hcs,hds⟩:=id hs
 unfold gy Builtin.Slice.sliceFields
 refine aa (aa (aP hos hds (x:=vl) rfl (aa (aP hos hds (x:=vu) rfl (aa (aP hos hds (x:=.none) rfl (aj ?_)))))))
 refine aa (slicePart_none ?_)
 show wpAny _ _ (if ((1:Int)==0)=true then _ else _) _ _ s
 rw [if_neg (by decide)]
 refine aa (aer pl (aa (aer pu (aa (aj ?_)))))
 show wpAny _ _ (match ef lo hi 1 (n:Int) with|(lo,hi)=> pure (lo,(1:Int),c7 lo hi 1)) _ _ s
 rw [alu lo hi n]
 show wpAny _ _ (pure (((sIx n 0 lo:Nat):Int),(1:Int),c7 ((sIx n 0 lo:Nat):Int) ((sIx n n hi:Nat):Int) 1)) _ _ s
 rw [amk]
 exact aj h
theorem ari(xs:Array ac)(i k:Nat):((aU k).filterMap fun (m:Nat)=> xs[((i:Int)+(m:Int)*1).toNat]?).toArray=((xs.toList.drop i).take k).toArray:=by
 have e:(fun (m:Nat)=> xs[((i:Int)+(m:Int)*1).toNat]?)=fun m=> xs[i+m]?:=by
  funext m
  have:((i:Int)+(m:Int)*1).toNat=i+m:=by lia
  rw [this]
 rw [e]
 have:=pick_run xs i k
 rw [er]at this
 have e2:((fun x=> xs[x]?)∘fun x=> i+x)=fun m=> xs[i+m]?:=rfl
 rw [e2]at this
 rw [this]
theorem getItem_tuple_cut{t sl:Addr}{vl vu:ac}{lo hi:Option Int}(ht:IsTup s.heap t items)(hs:s.heap.IsSliceOf sl vl vu .none)(pl:eS vl lo)(pu:eS vu hi)(hw: ¬(sIx items.size 0 lo=0/\sIx items.size items.size hi=items.size))(h:Q (.ref s.heap.objs.size) {s with heap:=s.heap.push {cls:=.type "tuple",data:=.seq ((items.toList.drop (sIx items.size 0 lo)).take (sIx items.size items.size hi - sIx items.size 0 lo)).toArray}})(hsz:items.size <=sizeLine):wpAny (model prog w) A (getItem (.ref t) (.ref sl)) Q E s:=by
 have htake:sizeOk (.seq ((items.toList.drop (sIx items.size 0 lo)).take (sIx items.size items.size hi - sIx items.size 0 lo)).toArray):=by
  show ((items.toList.drop (sIx items.size 0 lo)).take (sIx items.size items.size hi - sIx items.size 0 lo)).toArray.size <=sizeLine
  rw [au,dS,List.length_drop,aX]
  lia
 have hj:sIx items.size items.size hi <=items.size:=az7 _ _ (aq _) hi
 obtain⟨os,hos,hcs,hds⟩:=id hs
 have hTs:s.TypeIs (.ref sl) "slice":=⟨os,hos,hcs⟩
 unfold getItem
 try with_reducible refine aW ?_
 first|refine aa (aj ?_)|skip
 refine aa (wpAny_sequenceKey ht.typeIs (by decide) ?_)
 refine aa (bp (name:=aA "__getitem__") ht.typeIs bE
  (bz bE ht.typeIs jB ?_ (args_tuple_getitem _ _)))
 show wpAny _ _ (dZ (.ref t)>>=_) _ _ s
 refine aa (tupleItemsOf_ ht ?_)
 refine aa (dF hTs ?_)
 rw [if_pos (by decide)]
 refine aa (aar hs pl pu ?_)
 have hno: ¬((((sIx items.size 0 lo:Nat):Int)==0&&(1:Int)==1&&(sIx items.size items.size hi - sIx items.size 0 lo)==items.size)=true):=by
  intro q
  rw [ao,ao]at q
  have q1:((sIx items.size 0 lo:Nat):Int)=0:=eq_of_beq q.1.1
  have q2:sIx items.size items.size hi - sIx items.size 0 lo=items.size:=eq_of_beq q.2
  exact hw ⟨by lia,by lia⟩
 show wpAny _ _ (if (((sIx items.size 0 lo:Nat):Int)==0&&(1:Int)==1&&(sIx items.size items.size hi - sIx items.size 0 lo)==items.size)=true then _ else _) _ _ s
 rw [if_neg hno,ari]
 first
  |exact aa (m:=b8 _) (cH (aj ⟨_,rfl,aj h⟩) htake)
  |exact aa (m:=b8 _) (cH (aa (aj (aj ⟨_,rfl,aj h⟩))) htake)
  |exact aa (aa (m:=b8 _) (cH (aj (aj ⟨_,rfl,aj h⟩)) htake))
  |exact aa (aa (m:=b8 _) (cH (aj ⟨_,rfl,aj h⟩) htake))
end HT
namespace L2
open PySem PySem.Spec PyProof.Rows
abbrev TO:=St -> Hp -> (Option Int -> Hp -> Prop) -> Prop
def PO(X:Cx)(e:Option Expr)(t:TO):Prop:=
 ∀(pins:List (Addr×Obj)) (s:ah) (σ:St) (H:Hp) (Q:Option Int -> Hp -> Prop),Inv X pins σ H s -> t σ H Q ->
  wpAny (model X.prog X.w) X.A (evalPart e X.env) (fun u s'=> ∃o H',Inv X pins σ H' s'/\eS u o/\Q o H') X.xe s
noncomputable def au7:TO:=fun _ H Q=> Q none H
noncomputable def a05(t:TE):TO:=fun σ H Q=> t σ H fun x H1=> ∃i,x=.int i/\Q (some i) H1
section
variable{X:Cx}{e:Expr}{te:TE}{lo hi:Option Expr}{tl th:TO}{pos p2:Pos}
theorem aw8:PO X none au7:=by
 (first|refine⟨?_⟩|skip);intro pins s σ H Q I h
 rw [i4]
 exact aj ⟨none,H,I,.none,h⟩
theorem avv(h:PE X e te):PO X (some e) (a05 te):=by
 (first|refine⟨?_⟩|skip);intro pins s σ H Q I hw
 rw [evalPart_some]
 refine thn (h pins s σ H _ I hw) fun u s1 ⟨x,H1,I1,r1,q1⟩=> ?_
 obtain⟨i,rfl,q⟩:=q1
 obtain⟨t,rfl⟩:=r1
 exact⟨some i,H1,I1,.int i t,q⟩
def SlR(X:Cx)(r:V -> Option Int -> Option Int -> Hp -> VK -> Prop):Prop:=
 ∀(pins:List (Addr×Obj)) (s:ah) (σ:St) (H:Hp) (x:V) (v vl vu:ac) (lo hi:Option Int) (sl:Addr) (Q:VK),Inv X pins σ H s -> RelV x v -> s.heap.IsSliceOf sl vl vu .none -> eS vl lo -> eS vu hi -> r x lo hi H Q ->
  ∃T id,iQ (.type T) "__getitem__"=pure (some (.builtin id))/\s.TypeIs v T/\wpAny (model X.prog X.w) X.A (getItem v (.ref sl)) (EP X pins σ Q) X.xe s
theorem SlR.or{r r':V -> Option Int -> Option Int -> Hp -> VK -> Prop}(h:SlR X r)(h':SlR X r'):SlR X (fun x lo hi H Q=> r x lo hi H Q\/r' x lo hi H Q):=by
 (first|refine⟨?_⟩|skip);intro pins s σ H x v vl vu lo hi sl Q I rx hs pl pu q
 rcases q with q|q
 ·exact h pins s σ H x v vl vu lo hi sl Q I rx hs pl pu q
 ·exact h' pins s σ H x v vl vu lo hi sl Q I rx hs pl pu q
noncomputable def tSl(r:V -> Option Int -> Option Int -> Hp -> VK -> Prop)(te:TE)(tl th:TO):TE:=fun σ H Q=> te σ H fun x H1=> tl σ H1 fun l H2=> th σ H2 fun u H3=> r x l u H3 Q
theorem arr{r:V -> Option Int -> Option Int -> Hp -> VK -> Prop}(hr:SlR X r)(he:PE X e te)(hl:PO X lo tl)(hu:PO X hi th):PE X (.Subscript e (.Slice lo hi none p2) pos) (tSl r te tl th):=by
 (first|refine⟨?_⟩|skip);intro pins s σ H Q I h
 refine Subscript_ (thn (he pins s σ H _ I h) fun v s1 ⟨x,H1,I1,r1,q1⟩=> ?_)
 refine wpAny_Slice (thn (hl pins s1 σ H1 _ I1 q1) fun vl s2 ⟨l,H2,I2,pl,q2⟩=> thn (hu pins s2 σ H2 _ I2 q2) fun vu s3 ⟨u,H3,I3,pu,q3⟩=> ?_)
 rw [i4]
 refine aj ?_
 have I4:Inv X pins σ H3 {s3 with heap:=s3.heap.push {cls:=.type "slice",data:=.fields #[vl,vu,.none]}}:=I3.kept (t':=s3.toks) fun b ob q=> ag _ q
 obtain⟨T,id,hT,ht,hg⟩:=hr pins {s3 with heap:=s3.heap.push {cls:=.type "slice",data:=.fields #[vl,vu,.none]}} σ H3 x v vl vu l u s3.heap.objs.size Q I4 r1 (Heap.IsSliceOf.new ..) pl pu q3
 show wpAny (model X.prog X.w) X.A (i5 e (.Slice lo hi none p2) v (.ref s3.heap.objs.size)) (EP X pins σ Q) X.xe {s3 with heap:=s3.heap.push {cls:=.type "slice",data:=.fields #[vl,vu,.none]}}
 exact tail_any (ops:=[.ref s3.heap.objs.size,v]) ht hT hg (by with_unfolding_all rfl)
def ya(xs:List V)(lo hi:Option Int):List V:=(xs.drop (HT.sIx xs.length 0 lo)).take (HT.sIx xs.length xs.length hi - HT.sIx xs.length 0 lo)
theorem adt(xs:List V)(lo hi:Option Int):(ya xs lo hi).length <=xs.length:=by
 unfold ya
 rw [dS,List.length_drop]
 lia
def a36(K:am):V -> Option Int -> Option Int -> Hp -> VK -> Prop:=fun x lo hi H Q=> ∃a xs,x=.ref a/\SqT K H a xs/\
 ¬(HT.sIx xs.length 0 lo=0/\HT.sIx xs.length xs.length hi=xs.length)/\ ∀p,H p=none -> Q (.ref p) (upd H p (.tup (ya xs lo hi)))
theorem app:SlR X (a36 X.K):=by
 (first|refine⟨?_⟩|skip);intro pins s σ H x v vl vu lo hi sl Q I rx hs pl pu h
 obtain⟨a,xs,rfl,hx,hw,q⟩:=h
 cases rx
 obtain⟨its,r,ht,hz⟩:=I.tuple hx
 have hlen:its.toArray.size=xs.length:=by rw [au];exact r.length.symm
 refine⟨"tuple",_,bE.lookup,ht.typeIs,?_⟩
 refine HT.getItem_tuple_cut ht hs pl pu (by rw [hlen];exact hw) ?_ (by rw [hlen];exact hz)
 rw [hlen]
 refine⟨.ref s.heap.objs.size,_,I.laid (t':=s.toks) (o:=.tup (ya xs lo hi)) (fun b ob q=> ag _ q) (aq _) ?_,rfl,q _ (I.hok.fresh (aq _))⟩
 exact⟨a7 (adt xs lo hi) hz,_,(r.drop (HT.sIx xs.length 0 lo)).take (HT.sIx xs.length xs.length hi - HT.sIx xs.length 0 lo),acq.new _ _⟩
def a15(K:am):R2:=fun x y H Q=> ∃a b xs ys,x=.ref a/\y=.ref b/\SqT K H a xs/\SqT K H b ys/\xs≠ []/\xs.length+ys.length <=sizeLine/\
 (ys=[] -> Q (.ref a) H)/\(ys≠ [] -> ∀p,H p=none -> Q (.ref p) (upd H p (.tup (xs++ys))))
theorem jg.nil_iff(r:jg xs us):us=[] ↔ xs=[]:=by
 cases r with
 |nil=> simp
 |cons _ _=> simp
theorem aw5:OpR X (binaryOp .Add) (a15 X.K):=by
 (first|refine⟨?_⟩|skip);intro pins s σ H x y v u Q I rx ry h
 obtain⟨a,b,xs,ys,rfl,rfl,ha,hb,hx,hz,q1,q2⟩:=h
 cases rx
 cases ry
 obtain⟨its,r1,p1,_⟩:=I.tuple ha
 obtain⟨its2,r2,p2,_⟩:=I.tuple hb
 refine HT.cat_tup p1 p2 (fun z=> hx (r1.nil_iff.mp z)) (fun z=> ⟨.ref a,H,I,rfl,q1 (r2.nil_iff.mp z)⟩) (fun z=> ?_) (by rw [←r1.length,←r2.length];exact hz)
 refine⟨.ref s.heap.objs.size,_,I.laid (t':=s.toks) (o:=.tup (xs++ys)) (fun b ob q=> ag _ q) (aq _) ?_,rfl,q2 (fun w=> z (r2.nil_iff.mpr w)) _ (I.hok.fresh (aq _))⟩
 exact⟨by rw [aH];exact hz,_,r1.append r2,acq.new _ _⟩
end
noncomputable def ixN(n:Nat)(i:Int):Option Nat:=if 0 <=i then (if i < n then some i.toNat else none) else if -(n:Int) <=i then some (i+n).toNat else none
def atI{α:Type}(xs:List α)(i:Int):Option α:=(ixN xs.length i).bind fun j=> xs[j]?
theorem alb{i:Int}{j:Nat}(h:ixN n i=some j):seqIndex? i n=some j/\j < n/\ -(n:Int) <=i/\i < n:=by
 unfold ixN at h
 by_cases h0:0 <=i
 ·rw [if_pos h0]at h
  by_cases h1:i < n
  ·rw [if_pos h1]at h
   have e:i.toNat=j:=bN h
   exact⟨by rw [jX h0 h1,e],by lia,by lia,h1⟩
  ·rw [if_neg h1]at h;cases h
 ·rw [if_neg h0]at h
  by_cases h1: -(n:Int) <=i
  ·rw [if_pos h1]at h
   have e:(i+n).toNat=j:=bN h
   exact⟨by rw [jL (by lia) h1,e],by lia,h1,by lia⟩
  ·rw [if_neg h1]at h;cases h
theorem aft{α:Type}{xs:List α}{i:Int}{v:α}(h:atI xs i=some v): ∃j,seqIndex? i xs.length=some j/\xs[j]?=some v/\j < xs.length/\ -(xs.length:Int) <=i/\i < xs.length:=by
 unfold atI at h
 cases e:ixN xs.length i with
 |none=> rw [e]at h;cases h
 |some j=>
  rw [e]at h
  obtain⟨h1,h2,h3,h4⟩:=alb e
  exact⟨j,h1,h,h2,h3,h4⟩
theorem afu{α:Type}{xs:List α}{j:Nat}{v:α}(h:xs[j]?=some v):atI xs (j:Int)=some v:=by
 have hj:j < xs.length:=(aF.mp h).1
 have e:ixN xs.length (j:Int)=some j:=by
  unfold ixN
  rw [if_pos (by lia),if_pos (by lia)];simp
 unfold atI;rw [e];exact h
def aln(b:Expr):Prop:= ∀o i,subscripted b false o i=operate [o,i] (getItem o i)
def IxR(X:Cx)(r:R2):Prop:=
 ∀(value slice:Expr) (pins:List (Addr×Obj)) (s:ah) (σ:St) (H:Hp) (x y:V) (v u:ac) (Q:VK),Inv X pins σ H s -> RelV x v -> RelV y u -> r x y H Q ->
  subscripted slice false v u=operate [v,u] (getItem v u) -> wpAny (model X.prog X.w) X.A (i5 value slice v u) (EP X pins σ Q) X.xe s
def MtR(X:Cx)(id:String)(r:V -> List V -> Hp -> VK -> Prop):Prop:=
 ∀(pins:List (Addr×Obj)) (s:ah) (σ:St) (H:Hp) (x:V) (xs:List V) (v:ac) (us:List ac) (Q:VK),Inv X pins σ H s -> RelV x v -> jg xs us -> r x xs H Q ->
  wpAny (model X.prog X.w) X.A (call (.builtin id) (v::us)) (EP X pins σ Q) X.xe s
section
variable{X:Cx}{a b:Expr}{ta tb:TE}{pos:Pos}
theorem IxR.or{r r':R2}(h:IxR X r)(h':IxR X r'):IxR X (fun x y H Q=> r x y H Q\/r' x y H Q):=by
 intro value slice pins s σ H x y v u Q I rx ry q hs
 rcases q with q|q
 ·exact h value slice pins s σ H x y v u Q I rx ry q hs
 ·exact h' value slice pins s σ H x y v u Q I rx ry q hs
theorem MtR.or{id:String}{r r':V -> List V -> Hp -> VK -> Prop}(h:MtR X id r)(h':MtR X id r'):MtR X id (fun x xs H Q=> r x xs H Q\/r' x xs H Q):=by
 (first|refine⟨?_⟩|skip);intro pins s σ H x xs v us Q I rx rs q
 rcases q with q|q
 ·exact h pins s σ H x xs v us Q I rx rs q
 ·exact h' pins s σ H x xs v us Q I rx rs q
theorem a0p{r:R2}(hr:IxR X r)(ha:PE X a ta)(hb:PE X b tb)(hs:aln b):PE X (.Subscript a b pos) (tOp r ta tb):=by
 (first|refine⟨?_⟩|skip);intro pins s σ H Q I h
 exact Subscript_ (ar0 ha hb I h fun v u s2 x y H2 I2 rx ry q=> hr a b pins s2 σ H2 x y v u Q I2 rx ry q (hs _ _))
def azl(K:am):R2:=fun x y H Q=> ∃p xs i v,x=.ref p/\y=.int i/\SqL K H p xs/\atI xs i=some v/\Q v H
def az0(K:am):R2:=fun x y H Q=> ∃p xs i v,x=.ref p/\y=.int i/\SqT K H p xs/\atI xs i=some v/\Q v H
def az3:R2:=fun x y H Q=> ∃z i c,x=.str z/\y=.int i/\z.length <=sizeLine/\atI z.cps.toList i=some c/\Q (.str ⟨#[c]⟩) H
theorem av6:IxR X (azl X.K):=by
 intro value slice pins s σ H x y v u Q I rx ry h hs
 obtain⟨p,xs,i,z,rfl,rfl,hq,he,q⟩:=h
 cases rx
 obtain⟨t,rfl⟩:=ry
 obtain⟨its,r,pl,hz⟩:=I.list hq
 obtain⟨j,h1,h2,h3,h4,h5⟩:=aft he
 obtain⟨w,ew,rw'⟩:=r.get h2
 have hl:=r.length
 have hn:=aaj
 have fin:EP X pins σ Q w s:=⟨z,H,I,rw',q⟩
 by_cases h0:0 <=i
 ·have hj:i.toNat=j:=by
   rw [jX h0 h5]at h1
   exact bN h1
  exact item_listR pl.isList h0 (by lia) (by rw [hj];simpa using ew) fin hs
 ·have hj:(i+(its.toArray.size:Int)).toNat=j:=by
   rw [jL (by lia) h4]at h1
   rw [au,←hl]
   exact bN h1
  exact io (x:=w) pl.isList.typeIs gG.lookup
   (wpAny_getItem_list_neg (Q:=fun r s'=> r=w/\EP X pins σ Q r s') pl.isList (by lia) (by rw [au] <;> lia) (by lia) (by rw [hj];simpa using ew) ⟨rfl,fin⟩) hs
theorem awe:IxR X (az0 X.K):=by
 intro value slice pins s σ H x y v u Q I rx ry h hs
 obtain⟨p,xs,i,z,rfl,rfl,hq,he,q⟩:=h
 cases rx
 obtain⟨t,rfl⟩:=ry
 obtain⟨its,r,pl,hz⟩:=I.tuple hq
 obtain⟨j,h1,h2,h3,h4,h5⟩:=aft he
 obtain⟨w,ew,rw'⟩:=r.get h2
 have hl:=r.length
 have hn:=aaj
 have fin:EP X pins σ Q w s:=⟨z,H,I,rw',q⟩
 exact io (x:=w) pl.typeIs slot_tuple_getitem.lookup
  (getItem_tuple (j:=j) (Q:=fun r s'=> r=w/\EP X pins σ Q r s') pl (by lia) (by lia) (by rw [au,←hl];exact h1) (by simpa using ew) ⟨rfl,fin⟩) hs
theorem azz:IxR X az3:=by
 intro value slice pins s σ H x y v u Q I rx ry h hs
 obtain⟨z,i,c,rfl,rfl,hz,he,q⟩:=h
 obtain⟨t,rfl⟩:=rx
 obtain⟨t',rfl⟩:=ry
 obtain⟨j,h1,h2,h3,h4,h5⟩:=aft he
 have hl:z.cps.toList.length=z.length:=by simp [Str.length]
 rw [hl]at h1 h4 h5
 have hn:=aaj
 exact tail_any (dU s z t) slot_str_getitem.lookup (getItem_str (c:=c) (by
  have e1:decide (i < -(2^63:Int))=false:=decide_eq_false (by lia)
  have e2:decide (i≥2^63)=false:=decide_eq_false (by lia)
  rw [e1,e2,i6]) (by rw [h1];simpa using h2) ⟨.str ⟨#[c]⟩,H,I.tok _,⟨_,rfl⟩,q⟩) hs
def rIx(K:am):R2:=fun x y H Q=> azl K x y H Q\/az0 K x y H Q\/az3 x y H Q
theorem ayt:IxR X (rIx X.K):=av6.or (awe.or azz)
theorem ami(its:List ac)(n j:Nat)(u:ac):bD (·.setIfInBounds j u) {cls:=.type "list",data:=.seq its.toArray n}={cls:=.type "list",data:=.seq (its.set j u).toArray n}:=by
 simp [bD]
theorem Inv.lst(I:Inv X pins σ H s)(h:H p=some (.lst xs)):
  ∃(its:List ac) (n:Nat),jg xs its/\s.heap.get? p=some {cls:=.type "list",data:=.seq its.toArray n}/\xs.length <=sizeLine:=by
 obtain⟨z,its,n,r,e⟩:=I.hok p _ h
 exact⟨its,n,r,e,z⟩
theorem Inv.lstUpd{its':List ac}{n':Nat}{f:Obj -> Obj}(I:Inv X pins σ H s)(h:H p=some (.lst xs))(ho:s.heap.get? p=some {cls:=.type "list",data:=.seq its.toArray n})(hf:f {cls:=.type "list",data:=.seq its.toArray n}={cls:=.type "list",data:=.seq its'.toArray n'})(r:jg ys its')(hz:ys.length <=sizeLine)(t:Nat):
  Inv X pins σ (upd H p (.lst ys)) {s with heap:=s.heap.update p f,toks:=t}:=by
 have e:(s.heap.update p f).get? p=some {cls:=.type "list",data:=.seq its'.toArray n'}:=by
  rw [cq f ho (by rw [hf] <;> rfl),hf]
 refine I.write (x:=p) (e:=p) (by rw [h];trivial) (.inl rfl) (fun b u hb q=> (cP _ _ (cV hb)).trans q) ⟨_,e⟩ ?_
 exact⟨hz,its',n',r,e⟩
def a1q:V -> V -> V -> Hp -> (Hp -> Prop) -> Prop:=fun o i v H Q=> ∃p xs k j,o=.ref p/\i=.int k/\H p=some (.lst xs)/\ixN xs.length k=some j/\Q (upd H p (.lst (xs.set j v)))
theorem ar1:afn X a1q:=by
 (first|refine⟨?_⟩|skip);intro pins s σ H o i v ov iv u Q I ro ri rv h
 obtain⟨p,xs,k,j,rfl,rfl,hp,hj,q⟩:=h
 cases ro
 obtain⟨t,rfl⟩:=ri
 obtain⟨its,n,r,ho,hz⟩:=I.lst hp
 obtain⟨h1,h2,h3,h4⟩:=alb hj
 have hl:=r.length
 have hn:=aaj
 have I':Inv X pins σ (upd H p (.lst (xs.set j v))) {s with heap:=s.heap.update p (bD (·.setIfInBounds j u))}:=
  I.lstUpd hp ho (ami its n j u) (r.set rv j) (by rw [List.length_set];exact hz) s.toks
 by_cases h0:0 <=k
 ·have hk:k.toNat=j:=by
   rw [jX h0 h4]at h1
   exact bN h1
  exact PySem.W.ki_setAt ho h0 (by lia) (by rw [au,←hl];exact h4) (by rw [hk];exact⟨_,I',q⟩)
 ·have hk:(k+(its.toArray.size:Int)).toNat=j:=by
   rw [jL (by lia) h3]at h1
   rw [au,←hl]
   exact bN h1
  exact PySem.W.ki_setBack ho (by lia) (by rw [au,←hl];exact h3) (by lia) (by rw [hk];exact⟨_,I',q⟩)
theorem ais(lo hi:Option Int)(n:Nat):(ci lo hi none n).1=((HT.sIx n 0 lo:Nat):Int)/\(ci lo hi none n).2.1=((HT.sIx n n hi:Nat):Int)/\(ci lo hi none n).2.2=1:=by
 refine⟨?_,?_,rfl⟩
 ·cases lo with
  |none=> simp [ci,HT.sIx]
  |some i=>
   simp only [ci,HT.sIx,Option.getD_none,show (1:Int)> 0 by decide,if_true]
   by_cases h:i < 0
   ·simp only [h,if_true] <;> lia
   ·simp only [h,if_false] <;> lia
 ·cases hi with
  |none=> simp [ci,HT.sIx]
  |some i=>
   simp only [ci,HT.sIx,Option.getD_none,show (1:Int)> 0 by decide,if_true]
   by_cases h:i < 0
   ·simp only [h,if_true] <;> lia
   ·simp only [h,if_false] <;> lia
theorem ah8(its:List ac)(lo hi:Option Int):jM its.toArray lo hi none=((its.drop (HT.sIx its.length 0 lo)).take (HT.sIx its.length its.length hi - HT.sIx its.length 0 lo)).toArray:=by
 obtain⟨h1,h2,h3⟩:=ais lo hi its.toArray.size
 unfold jM
 rw [h1,h2,h3]
 simp only [sliceRange_one,pick_run,au] <;> rfl
def a2z(K:am):V -> Option Int -> Option Int -> Hp -> VK -> Prop:=fun x lo hi H Q=> ∃a xs,x=.ref a/\SqL K H a xs/\ ∀p,H p=none -> Q (.ref p) (upd H p (.lst (ya xs lo hi)))
theorem aub:SlR X (a2z X.K):=by
 (first|refine⟨?_⟩|skip);intro pins s σ H x v vl vu lo hi sl Q I rx hs pl pu h
 obtain⟨a,xs,rfl,hx,q⟩:=h
 cases rx
 obtain⟨its,r,ht,hz⟩:=I.list hx
 have hlen:=r.length
 refine⟨"list",_,gG.lookup,ht.isList.typeIs,?_⟩
 refine gU ht.isList hs pl pu .none (by simp) ?_ (by rw [au] <;> lia)
 rw [ah8,←hlen]
 refine⟨.ref s.heap.objs.size,_,I.laid (t':=s.toks) (o:=.lst (ya xs lo hi)) (fun b ob q=> ag _ q) (aq _) ?_,rfl,q _ (I.hok.fresh (aq _))⟩
 exact⟨a7 (adt xs lo hi) hz,_,0,(r.drop (HT.sIx xs.length 0 lo)).take (HT.sIx xs.length xs.length hi - HT.sIx xs.length 0 lo),aC _ rfl⟩
theorem ai3:vw X (.builtin "len") (fun xs H Q=> ∃p ys,xs=[.ref p]/\(SqL X.K H p ys\/SqT X.K H p ys)/\Q (.int ys.length) H):=by
 (first|refine⟨?_⟩|skip);intro pins s σ H xs us Q I r h
 obtain⟨p,ys,rfl,hq,q⟩:=h
 obtain⟨u,rfl,rx⟩:=vals1 r
 cases rx
 have hn:=aaj
 rcases hq with hq|hq
 ·obtain⟨its,r',pl,hz⟩:=I.list hq
  have hlen:=r'.length
  exact Calls.call_len_list pl.isList (by simp only [au] <;> lia) ⟨.int ys.length,H,I.tok _,⟨s.toks+1,by rw [au,hlen]⟩,q⟩
 ·obtain⟨its,r',pl,hz⟩:=I.tuple hq
  have hlen:=r'.length
  exact len_tuple pl (by simp only [au] <;> lia) ⟨.int ys.length,H,I.tok _,⟨s.toks+1,by rw [au,hlen]⟩,q⟩
theorem ai4:vw X (.builtin "len") (fun xs H Q=> ∃z,xs=[.str z]/\z.length <=sizeLine/\Q (.int z.length) H):=by
 (first|refine⟨?_⟩|skip);intro pins s σ H xs us Q I r h
 obtain⟨z,rfl,hz,q⟩:=h
 obtain⟨u,rfl,t,rfl⟩:=vals1 r
 have hn:=aaj
 exact len_str (by lia) ⟨.int z.length,H,I.tok _,⟨_,rfl⟩,q⟩
theorem aht:vw X (.type "list") (fun xs H Q=> ∃p ys,xs=[.ref p]/\(SqL X.K H p ys\/SqT X.K H p ys)/\ ∀l,H l=none -> Q (.ref l) (upd H l (.lst ys))):=by
 (first|refine⟨?_⟩|skip);intro pins s σ H xs us Q I r h
 obtain⟨p,ys,rfl,hq,q⟩:=h
 obtain⟨u,rfl,rx⟩:=vals1 r
 cases rx
 have fin: ∀(its:List ac),jg ys its -> ys.length <=sizeLine -> ∀(h':Heap) (c':Nat),(∀b o',s.heap.get? b=some o' -> h'.get? b=some o') ->
   h'.get? s.heap.objs.size=some {cls:=.type "list",dict:=none,data:=.seq its.toArray c',slots:= #[]} -> EP X pins σ Q (.ref s.heap.objs.size) {s with heap:=h'}:=fun its r' hz h' c' kp e=>
  ⟨.ref s.heap.objs.size,_,I.laid (t':=s.toks) kp (aq _) (show j5 X.prog X.w _ h' _ (.lst ys) from ⟨hz,its,c',r',e⟩),rfl,q _ (I.hok.fresh (aq _))⟩
 rcases hq with hq|hq
 ·obtain⟨its,r',pl,hz⟩:=I.list hq
  have hlen:=r'.length
  obtain⟨o,ho,hc,n,hd⟩:=pl.isList
  exact call_list_seq p (.inl rfl) ho hc hd (fun h' c' kp e=> fin its r' hz h' c' kp e) (by simp only [au] <;> lia)
 ·obtain⟨its,r',pl,hz⟩:=I.tuple hq
  have hlen:=r'.length
  obtain⟨o,ho,hc,n,hd⟩:=pl
  exact call_list_seq p (.inr rfl) ho hc hd (fun h' c' kp e=> fin its r' hz h' c' kp e) (by simp only [au] <;> lia)
theorem ah7:vw X (.type "tuple") (fun xs H Q=> ∃p ys,xs=[.ref p]/\((SqL X.K H p ys/\ ∀l,H l=none -> Q (.ref l) (upd H l (.tup ys)))\/(SqT X.K H p ys/\Q (.ref p) H))):=by
 (first|refine⟨?_⟩|skip);intro pins s σ H xs us Q I r h
 obtain⟨p,ys,rfl,h⟩:=h
 obtain⟨u,rfl,rx⟩:=vals1 r
 cases rx
 rcases h with ⟨hq,q⟩|⟨hq,q⟩
 ·obtain⟨its,r',pl,hz⟩:=I.list hq
  have hlen:=r'.length
  refine call_tuple_list pl.isList (fun h' kp=> ?_) (by simp only [au] <;> lia)
  have I1:Inv X pins σ H {s with heap:=h'}:=I.kept (t':=s.toks) kp
  have I2:Inv X pins σ (upd H h'.objs.size (.tup ys)) {s with heap:=h'.push {cls:=.type "tuple",data:=.seq its.toArray}}:=
   I1.laid (t':=s.toks) (fun b o e=> ag _ e) (aq _) (show j5 X.prog X.w _ _ _ (.tup ys) from ⟨hz,its,r',acq.new _ _⟩)
  exact⟨.ref h'.objs.size,_,I2,rfl,q _ (I1.hok.fresh (aq _))⟩
 ·obtain⟨its,r',pl,hz⟩:=I.tuple hq
  exact call_tuple_same pl ⟨.ref p,H,I,rfl,q⟩
def tyV(K:am)(T:String)(x:V)(H:Hp):Prop:=match x with
 |.str _=> T="str"
 |.int _=> T="int"
 | .ref p=> (T="list"/\ ∃xs,SqL K H p xs)\/(T="tuple"/\ ∃o,K.lookup p=some o/\o.cls=.type "tuple"/\o.dict=none)\/
   (T="dict"/\((∃kvs,H p=some (.dK kvs))\/ ∃kvs,H p=some (.dT kvs)))\/(T="set"/\ ∃S n,H p=some (.set S n))
 |_=> False
theorem anu{x:V}{v:ac}(I:Inv X pins σ H s)(r:RelV x v)(ty:tyV X.K T x H):
  s.TypeIs v T/\ ∀a,v=.ref a -> ∃ob,s.heap.get? a=some ob/\ob.dict=none:=by
 cases x with
 |str z=>
  obtain⟨t,rfl⟩:=r
  cases (show T="str" from ty)
  exact⟨dU s z t,fun _ e=> nomatch e⟩
 |int i=>
  obtain⟨t,rfl⟩:=r
  cases (show T="int" from ty)
  exact⟨typeIs_int s i t,fun _ e=> nomatch e⟩
 | ref p=>
  cases r
  rcases ty with ⟨rfl,xs,hq⟩|⟨rfl,o,hk,hc,hd⟩|⟨rfl,hk⟩|⟨rfl,S,n,hk⟩
  ·obtain⟨its,_,pl,_⟩:=I.list hq
   refine⟨pl.isList.typeIs,fun a e=> ?_⟩
   cases e
   obtain⟨o,n,e,c,hd,_⟩:=pl
   exact⟨o,e,hd⟩
  ·refine⟨⟨o,I.kIn p o hk,hc⟩,fun a e=> ?_⟩
   cases e
   exact⟨o,I.kIn _ o hk,hd⟩
  ·have z: ∃o,s.heap.get? p=some o/\o.ExactDict:=by
    rcases hk with ⟨kvs,hk⟩|⟨kvs,hk⟩
    ·obtain⟨_,_,_,_,o,_,_,e,ex,_⟩:=I.hok p _ hk
     exact⟨o,e,ex⟩
    ·obtain⟨_,_,_,_,o,_,_,e,ex,_⟩:=I.hok p _ hk
     exact⟨o,e,ex⟩
   obtain⟨o,e,ex⟩:=z
   refine⟨⟨o,e,ex.1⟩,fun a e2=> ?_⟩
   cases e2
   exact⟨o,e,ex.2.1⟩
  ·obtain⟨o,_,_,_,e,ex,_⟩:=I.hok p _ hk
   refine⟨⟨o,e,ex.1⟩,fun a e2=> ?_⟩
   cases e2
   exact⟨o,e,ex.2.1⟩
 |_=> exact c6 ty
noncomputable def a37(K:am)(T:String)(r:V -> List V -> Hp -> VK -> Prop)(to:TE):TE:=fun σ H Q=> to σ H fun x H1=> tyV K T x H1/\r x [] H1 Q
noncomputable def tBM(K:am)(T:String)(r:V -> List V -> Hp -> VK -> Prop)(to:TE)(t:TA):TE:=fun σ H Q=> to σ H fun x H1=> tyV K T x H1/\t σ H1 fun xs H2=> r x xs H2 Q
variable{o e:Expr}{es:List Expr}{to:TE}{t:TA}{name:Str}{apos cpos:Pos}{T id:String}{r:V -> List V -> Hp -> VK -> Prop}
theorem axr(pa:PlainAttrs T)(slot:Slot T name id)(hty:typeOf (.builtin id)=pure (.type "method_descriptor"))(hm:MtR X id r)(ho:PE X o to)
  (hbase:ff o name X.env (eval o X.env)=eval o X.env:=by rfl) (hline:(apos.endLine==cpos.line)=true:=by rfl):PE X (.Call (.Attribute o name apos) [] [] cpos) (a37 X.K T r to):=by
 (first|refine⟨?_⟩|skip);intro pins s σ H Q I h
 refine wpAny_Call_method0_late hbase hline (thn (ho pins s σ H _ I h) fun v s1 ⟨x,H1,I1,r1,ty,q1⟩=> ?_)
 obtain⟨h1,h2⟩:=anu I1 r1 ty
 exact⟨T,id,pa,slot,hty,h1,h2,ip rfl (PySem.evalArgs_none (hm pins s1 σ H1 x [] v [] Q I1 r1 .nil q1))⟩
theorem at0(pa:PlainAttrs T)(slot:Slot T name id)(hty:typeOf (.builtin id)=pure (.type "method_descriptor"))(hm:MtR X id r)(ho:PE X o to)(ha:PA X (e::es) t)
  (hbase:ff o name X.env (eval o X.env)=eval o X.env:=by rfl)
  (hfew:((backTo cpos (starEach (e::es) X.env)).all (fun x=> !x.1)&&(backToKw cpos (gc [] X.env)).all (fun x=> x.1.isSome)
   &&decide ((e::es).length+([]:List f6).length+(if ([]:List f6).isEmpty then 0 else 1) < 30))=true:=by rfl)
  (hline:(apos.endLine==cpos.line)=true:=by rfl) (hs:starEach (e::es) X.env=(false,eval e X.env)::starEach es X.env:=by rfl) (hplain:(backTo cpos (starEach es X.env)).any (·.1)=false:=by rfl):
  PE X (.Call (.Attribute o name apos) (e::es) [] cpos) (tBM X.K T r to t):=by
 (first|refine⟨?_⟩|skip);intro pins s σ H Q I h
 refine wpAny_Call_method_late hbase hfew hline rfl (thn (ho pins s σ H _ I h) fun v s1 ⟨x,H1,I1,r1,ty,q1⟩=> ?_)
 obtain⟨h1,h2⟩:=anu I1 r1 ty
 refine⟨T,id,pa,slot,hty,h1,h2,?_⟩
 have hA:=ha cpos pins s1 σ H1 _ I1 q1
 rw [hs]at hA⊢
 refine ip (by show (false||(backTo cpos (starEach es X.env)).any (·.1))=false;rw [hplain] <;> rfl) (Calls.evalArgs_plain ?_)
 exact thn hA fun us s2 ⟨vs,H2,I2,r2,q2⟩=> hm pins s2 σ H2 x vs v us Q I2 r1 r2 q2
end
def MtM(X:Cx)(id:String)(r:V -> List V -> Hp -> VK -> Prop):Prop:=
 ∀(pins:List (Addr×Obj)) (s:ah) (σ:St) (H:Hp) (x:V) (xs:List V) (v:ac) (us:List ac) (Q:VK),Inv X pins σ H s -> RelV x v -> jg xs us -> r x xs H Q ->
  wpAny (model X.prog X.w) X.A (call (.builtin id) (v::us)) (EP X pins σ Q) X.xe s
theorem jg.one: ∀{x:V} {us:List ac},jg [x] us -> ∃u,us=[u]/\RelV x u
 |_,_,.cons r .nil=> ⟨_,rfl,r⟩
theorem jg.zero: ∀{us:List ac},jg [] us -> us=[]
 |_,.nil=> rfl
theorem jg.reverse(h:jg xs us):jg xs.reverse us.reverse:=by
 induction h with
 |nil=> exact .nil
 |cons r t ih=> rw [eM,eM];exact jg.append ih (.cons r .nil)
section
variable{X:Cx}{pins:List (Addr×Obj)}{σ:St}{H:Hp}{s:ah}{l b:Addr}{xs ys zs:List V}
theorem Inv.lset{its':List ac}{f:Array ac -> Array ac}{t':Nat}(I:Inv X pins σ H s)(hH:H l=some (.lst xs))(e:s.heap.get? l=some {cls:=.type "list",data:=.seq its.toArray n})(hf:f its.toArray=its'.toArray)(hv:jg ys its')(hz:ys.length <=sizeLine):
  Inv X pins σ (upd H l (.lst ys)) {s with heap:=s.heap.update l (bD f),toks:=t'}:=by
 have q:=PySem.IsL.update e f
 rw [hf]at q
 refine I.write (x:=l) (e:=l) (by rw [hH];exact trivial) (.inl rfl) (fun b' u hb hu=> (cP s.heap (bD f) (cV hb)).trans hu) ⟨_,q⟩ ?_
 exact⟨hz,its',_,hv,q⟩
theorem Inv.lnew{t':Nat}(I:Inv X pins σ H s)(hv:jg ys its)(hz:ys.length <=sizeLine):
  Inv X pins σ (upd H s.heap.objs.size (.lst ys)) {s with heap:=s.heap.push {cls:=.type "list",data:=.seq its.toArray},toks:=t'}:=
 I.laid (fun _ _ q=> ag _ q) (aq _) ⟨hz,its,0,hv,aC _ rfl⟩
theorem Inv.fresh(I:Inv X pins σ H s):H s.heap.objs.size=none:=I.hok.fresh (aq _)
theorem Inv.lstM(I:Inv X pins σ H s)(hH:H l=some (.lst xs)):xs.length <=sizeLine/\ ∃(its:List ac) (n:Nat),jg xs its/\xs.length=its.length/\s.heap.get? l=some {cls:=.type "list",data:=.seq its.toArray n}:=by
 obtain⟨z,its,n,r,e⟩:=I.hok l _ hH
 exact⟨z,its,n,r,r.length,e⟩
theorem aj1(h:n <=sizeLine):cE n=false:=by
 unfold cE
 exact decide_eq_false (by lia)
end
def avw:V -> List V -> Hp -> VK -> Prop:=fun x vs H Q=> ∃l xs y,x=.ref l/\vs=[y]/\H l=some (.lst xs)/\xs.length < sizeLine/\Q .non (upd H l (.lst (xs++ [y])))
theorem agq:MtM X "list.append" avw:=by
 (first|refine⟨?_⟩|skip);intro pins s σ H x vs v us Q I rx rv h
 obtain⟨l,xs,y,rfl,rfl,hH,hz,q⟩:=h
 cases rx
 obtain⟨u,rfl,ru⟩:=rv.one
 obtain⟨z,its,n,r,hl,e⟩:=I.lstM hH
 refine cQ F.slot_list_append ⟨_,e,rfl⟩ F.entry_list_append (F.args_list_append_2 _ _) (PySem.list_append l its.toArray n u (by rw [au];lia)) ⟨e,?_⟩
 refine⟨.non,_,I.lset (its':=its++ [u]) hH e (by simp) (r.append (.cons ru .nil)) ?_,rfl,q⟩
 rw [aH,List.length_singleton]
 lia
def au4:V -> List V -> Hp -> VK -> Prop:=fun x vs H Q=> ∃l b xs zs,x=.ref l/\vs=[.ref b]/\H l=some (.lst xs)/\H b=some (.lst zs)/\xs.length+zs.length <=sizeLine/\Q .non (upd H l (.lst (xs++zs)))
theorem ap6:MtM X "list.extend" au4:=by
 (first|refine⟨?_⟩|skip);intro pins s σ H x vs v us Q I rx rv h
 obtain⟨l,b,xs,zs,rfl,rfl,hH,hB,hz,q⟩:=h
 cases rx
 obtain⟨u,rfl,ru⟩:=rv.one
 cases ru
 obtain⟨z,its,n,r,hl,e⟩:=I.lstM hH
 obtain⟨z2,its2,n2,r2,hl2,e2⟩:=I.lstM hB
 have hsz:its.toArray.size+its2.toArray.size <=sizeLine:=by rw [au,au];lia
 have hlong: ¬(!its.toArray.isEmpty&&cE (its.toArray.size+its2.toArray.size))=true:=by
  rw [aj1 hsz,iC]
  exact av
 refine cQ F.slot_list_extend ⟨_,e,rfl⟩ jC (iR _ _)
  (AutoSeq1.list_extend_list_list_0 l its.toArray n b its2.toArray n2 hlong (by rw [au];lia) (by lia)) ⟨e,e2,?_⟩
 refine⟨.non,_,I.lset (its':=its++its2) hH e (by simp) (r.append r2) ?_,rfl,q⟩
 rw [aH]
 lia
def ash:V -> List V -> Hp -> VK -> Prop:=fun x vs H Q=> ∃l xs,x=.ref l/\vs=[]/\H l=some (.lst xs)/\Q .non (upd H l (.lst xs.reverse))
theorem amu:MtM X "list.reverse" ash:=by
 (first|refine⟨?_⟩|skip);intro pins s σ H x vs v us Q I rx rv h
 obtain⟨l,xs,rfl,rfl,hH,q⟩:=h
 cases rx
 have hus:=rv.zero
 subst hus
 obtain⟨z,its,n,r,hl,e⟩:=I.lstM hH
 refine cQ F.slot_list_reverse ⟨_,e,rfl⟩ F.entry_list_reverse (F.args_list_reverse_1 _) (AutoSeq1.list_reverse_list_0 l its.toArray n (by rw [au];lia)) ⟨e,?_⟩
 refine⟨.non,_,I.lset (its':=its.reverse) hH e (by simp) r.reverse ?_,rfl,q⟩
 rw [List.length_reverse]
 lia
def azw:V -> List V -> Hp -> VK -> Prop:=fun x vs H Q=> ∃l xs,x=.ref l/\vs=[]/\H l=some (.lst xs)/\Q .non (upd H l (.lst []))
theorem asf:MtM X "list.clear" azw:=by
 (first|refine⟨?_⟩|skip);intro pins s σ H x vs v us Q I rx rv h
 obtain⟨l,xs,rfl,rfl,hH,q⟩:=h
 cases rx
 have hus:=rv.zero
 subst hus
 obtain⟨z,its,n,r,hl,e⟩:=I.lstM hH
 refine cQ F.slot_list_clear ⟨_,e,rfl⟩ F.entry_list_clear (F.args_list_clear_1 _) (AutoSeq1.list_clear_list_0 l its.toArray n (by rw [au];lia)) ⟨e,?_⟩
 exact⟨.non,_,I.lset (its':=[]) (ys:=[]) hH e rfl .nil (cy _),rfl,q⟩
def a29:R2:=fun x y H Q=> ∃l b xs zs,x=.ref l/\y=.ref b/\H l=some (.lst xs)/\H b=some (.lst zs)/\xs.length+zs.length <=sizeLine/\ ∀p,H p=none -> Q (.ref p) (upd H p (.lst (xs++zs)))
theorem ax1:OpR X (binaryOp .Add) a29:=by
 (first|refine⟨?_⟩|skip);intro pins s σ H x y v u Q I rx ry h
 obtain⟨l,b,xs,zs,rfl,rfl,hH,hB,hz,q⟩:=h
 cases rx
 cases ry
 obtain⟨z,its,n,r,hl,e⟩:=I.lstM hH
 obtain⟨z2,its2,n2,r2,hl2,e2⟩:=I.lstM hB
 refine PySem.P.add_list e e2 ?_ (by rw [au,au];lia)
 have ea:its.toArray++its2.toArray=(its++its2).toArray:=by simp
 rw [ea]
 exact⟨.ref _,_,I.lnew (t':=s.toks) (r.append r2) (by rw [aH];lia),rfl,q _ I.fresh⟩
section
variable{κ:Type}[DecidableEq κ]
end
theorem a1i{u:HO}(ok:HOk P w H h)(e:Rd H a u):j5 P w H h a u:=e.ok ok
theorem a1v{kvs:List (Key×V)}(ok:HOk P w H h)(e:Rd H a (.dK kvs)):kvs.length <=sizeLine/\(a==dQ)=false/\ ∃vs,KV kvs vs/\h.DictOf (abh P w) a vs:=
 show j5 P w H h a (.dK kvs) from a1i ok e
theorem atd{kvs:List (Key×V)}(ok:HOk P w H h)(e:H a=some (.dK kvs)):kvs.length <=sizeLine/\(a==dQ)=false/\ ∃vs,KV kvs vs/\h.DictOf (abh P w) a vs:=a1v ok (.inl e)
end L2
namespace Att
open PySem PySem.W PySem.Calls PyProof.Rows
theorem af4{P:Params}: ∀(ns:List Int) (vs:List ac),WellAll P h vs (ns.map WData.int) -> jU vs ns:=by
 intro ns
 induction ns with
 |nil=>
  intro vs w
  rw [gP]at w
  cases w
  exact .nil
 | cons n ns ih=>
  intro vs w
  rw [aG]at w
  cases w with
  |cons a b=>
   cases a
   exact .cons _ _ (ih _ b)
theorem aoa{l:OpenLaw}(hn:l.most=some n){P:Params}{args:List WData}{vals:List ac}(hpre:l.row.toRowW.claim.pre args=true)(hwl:WellAll P h vals args):
  ∃a vs ns,vals=[a8 a]/\args=[WData.list (ns.map WData.int)]/\h.get? a=some {cls:=.type "list",data:=.seq vs.toArray}/\jU vs ns/\ns.length <=n:=by
 have hsh:WShape.hasAll [] args [.list .int]=true:=(pre_splitW hpre).1
 have hc:l.pre.holds [] {args:=args}=true:=(pre_splitW hpre).2
 obtain⟨d,r,rfl,h1,h2⟩:=hasAllW_cons hsh
 obtain rfl:=hasAllW_nil h2
 obtain⟨xs,rfl,h3⟩:=hasW_list h1
 obtain⟨ns,rfl⟩:=items_int h3
 have hlen:ns.length <=n:=by
  unfold OpenLaw.pre at hc
  have h4:(WTm.not (.lt (.lit (.int (n:Int))) (.len (.arg 0)))).holds [] {args:=[.list (ns.map .int)]}=true:=by
   have h4:=(holds_andW hc).1
   rw [hn]at h4
   exact h4
  have h5:=condW_of h4 (w_not (w_lt w_lit (w_len_list (w_arg rfl))))
  rw [ak]at h5
  refine bR fun q=> ?_
  have q':(n:Int) < ((ns.length:Nat):Int):=by lia
  first
   |(rw [decide_eq_true q']at h5;exact absurd h5 (by decide))
   |(simp at h5;lia)
 cases hwl with
 |cons w1 w2=>
  cases w2
  cases w1 with
  |list ho hall=> exact⟨_,_,ns,rfl,rfl,ho,af4 ns _ hall,hlen⟩
theorem anx(l:OpenLaw)(args:List WData):l.row.toRowW.claim.post args (.bool true) args=true:=
 postW_of (r:=l.row.toRowW) (X:=(true==true))
  (show WShape.has [] (.bool true) .bool=true by first|rfl|decide|simp [WShape.has,WShape.arms,WShape.armsAll])
  (show (WTm.eq .res (.lit (.bool true))).value [] {args:=args,res:=some (.bool true),after:=args}=some (.bool (true==true)) from w_eq_bool (w_res rfl) w_lit) rfl
theorem attach_call{l:OpenLaw}{q:aR}{loose:List Str}{XP:(Str -> Option ac) -> Heap -> Prop}{YP:aT -> Heap -> Prop}{d:DefRec}(hn:l.most=some n)(hdf:d.params.defaults=[])(call: ∀(w:aT) (s₀ s₁:ah) (mg mb:Str -> Option ac) (fa:Addr) (o:Obj) (pm cd doc:ac) (a:Addr) (vs:List ac) (ns:List Int),
   Ground q loose [] XP w s₀ mg mb s₁.heap -> YP w s₁.heap ->
   s₁.heap.get? fa=some o -> o.data=.func (docDef d.name d.params d.body d.scope pm cd doc) -> s₁.heap.CodeRec cd d.name -> mg d.name=some (.ref fa) ->
   s₁.heap.get? a=some {cls:=.type "list",data:=.seq vs.toArray} -> jU vs ns -> ns.length <=n -> s₁.gens= #[] ->
   codeAny (model l.prog w) callerA (.call (.ref fa) ⟨[.ref a],[]⟩) (fun r s'=> r=.ok (.ret (.bool true))/\OldK s₁.heap s'.heap/\s'.os=s₁.os/\fz s'.gens) s₁):
  WalkO q loose XP YP l.row.toRowW d [] (fun f vs=> PySem.call f vs):=by
 intro w s₀ s₁ mg mb G Y fa o pm cd doc dV kV ho hd hcd hD hmg hg args vals as hpre hlay hrd hwl hlo
 obtain rfl:dV=.none:=Dflts.none hD hdf
 obtain rfl:kV=.none:=Dflts.noKw hD
 obtain⟨a,vs,ns,rfl,rfl,hobj,hints,hlen⟩:=aoa hn hpre hwl
 refine enter_call (dC (call w s₀ s₁ mg mb fa o pm cd doc a vs ns G Y ho (fd_plain hd) hcd hmg hobj hints hlen hg) fun r s' hq=> ?_)
 obtain⟨rfl,h2,h3,h4⟩:=hq
 exact⟨.inl ⟨.bool true,.bool true,[],rfl,fun _=> rfl,.bool true,anx l _,fun _=> ⟨gz.nil,fun _ hm=> (nomatch hm)⟩⟩,h2,h3,h4⟩
end Att
namespace L2
open PySem PySem.Spec PyProof.Rows
theorem ah0: ∀{vs:List ac} {ns:List Int},jU vs ns -> jg (ns.map V.int) vs
 |_,_,.nil=>.nil
 |_,_,.cons n t h=>.cons ⟨t,rfl⟩ (ah0 h)
def aqt(H:Hp):Prop:= ∀b,H b=none\/ ∃o xs,H b=some (.frz o (.lst xs))
theorem aqj{mb:Str -> Option ac}{CX:CXT}{fa:Addr}{sp:Sp}{s₁:ah}{vs:List ac}{ns:List Int}(KX:K.In s₁.heap)(hns:s₁.heap.Ns bC mg)(hb:s₁.heap.Ns builtinsNs mb)(hbb: ∀x:Str,x≠"__name__" -> mb x=bc x)(hlim:s₁.heap.NoLimit)(hg:s₁.gens= #[])(ha:s₁.heap.get? a=some {cls:=.type "list",data:=.seq vs.toArray})(hi:jU vs ns)(hl:ns.length <=sizeLine)(hr:Room k callerA)(F: ∀base:Heap,K.In base -> base.Ns bC mg -> FnOk P w K mg base CX k fa fd [x] sp)(hbind: ∀(s:ah) (u:ac),iA s fd ⟨[u],[]⟩ [(x,u)])(hsp: ∀H:Hp,aqt H -> SqL K H a (ns.map V.int) -> sp [.ref a] H (fun v _=> v=.bl true) fun _ _ _=> False)(hCX: ∀H e s',CX [] H s₁ (fun _ _ _=> False) e s' -> False):
  codeAny (model P w) callerA (.call (.ref fa) ⟨[.ref a],[]⟩) (fun r s'=> r=.ok (.ret (.bool true))/\OldK s₁.heap s'.heap/\s'.os=s₁.os/\fz s'.gens) s₁:=by
 have rv:=ah0 hi
 have lenV:=hi.length
 -- from an abstract heap in which nothing but the script may be tracked
 have core: ∀H:Hp,aqt H -> SqL K H a (ns.map V.int) -> HOk P w H s₁.heap -> (∀b,H b≠none -> b=a) -> (H a≠none -> K.lookup a=none) ->
   codeAny (model P w) callerA (.call (.ref fa) ⟨[.ref a],[]⟩) (fun r s'=> r=.ok (.ret (.bool true))/\OldK s₁.heap s'.heap/\s'.os=s₁.os/\fz s'.gens) s₁:=by
  intro H hO hS hok hA hK
  have base_of: ∀{b:Addr} {o:Obj},s₁.heap.get? b=some o -> H b=none -> (abu s₁.heap H).get? b=some o:=fun e n=> aq9 e n
  have noA: ∀{b:Addr} {o:Obj} {es:Array dJ} {ep:Nat},s₁.heap.get? b=some o -> o.data=.dict es ep -> H b=none:=fun {b o es ep} e d=> by
   cases q:H b with
   |none=> rfl
   |some u=>
    have e':b=a:=hA b (by rw [q];simp)
    subst e'
    rw [ha]at e;cases e
    have d':Data.seq vs.toArray _=Data.dict es ep:=d
    cases d'
  have nsK: ∀{b:Addr} {m:Str -> Option ac},s₁.heap.Ns b m -> (abu s₁.heap H).Ns b m:=fun {b m} ⟨o,es,ep,e,d,r⟩=> ⟨o,es,ep,base_of e (noA e d),d,r⟩
  have hKb:K.In (abu s₁.heap H):=fun b o e=> base_of (KX b o e) (by
   cases q:H b with
   |none=> rfl
   |some u=>
    have e':b=a:=hA b (by rw [q];simp)
    subst e'
    rw [hK (by rw [q];simp)]at e;cases e)
  have hM:Mod K mg (abu s₁.heap H):=⟨hKb,nsK hns,⟨mb,nsK hb,hbb⟩,let ⟨mc,h1,h2⟩:=hlim;⟨mc,nsK h1,h2⟩⟩
  have e0:Env0 P w K mg (abu s₁.heap H) callerA [] s₁ H:=⟨rfl,hM,fun b o e=> avh e,fI (ape _ _),trivial,fun b hb=> absurd (show b∈([]:List Addr) from hb) (by simp),hok,.of_eq hg⟩
  refine dC ((F _ hKb (nsK hns)).run callerA [] s₁ H ⟨[.ref a],[]⟩ [.ref a] [.ref a] _ _ hr e0 (hbind s₁ (.ref a)) (.cons rfl .nil) (hsp H hO hS)) fun r s' h=> ?_
  cases r with
  |error e=> exact (hCX H e s' h).elim
  | ok fl=>
   cases fl with
   |next=> exact c6 h
   |brk=> exact c6 h
   |cont=> exact c6 h
   | ret u=>
    obtain⟨v,H',os,bare,un,hok',r',q⟩:=h
    have q':v=.bl true:=q
    subst q'
    obtain rfl:u=dP true:=r'
    refine⟨rfl,OldK.of_keep fun b o e=> ?_,os,bare⟩
    cases q:H b with
    |none=> exact un.keep b o e q (by intro z;exact absurd (show b∈([]:List Addr) from z) (by simp)) (by simp)
    | some u=>
     rcases hO b with z|⟨ob,xs,z⟩
     ·rw [q]at z;cases z
     ·have z2:=un.frzs b ob _ z
      obtain⟨e1,_⟩:=hok b _ z
      obtain⟨e2,_⟩:=hok' b _ z2
      rw [e]at e1;cases e1
      exact e2
 cases hk:K.lookup a with
 |some o=>
  -- the script is one of the module's own objects
  have e:=KX a o hk
  rw [ha]at e
  cases e
  refine core (fun _=> none) (fun _=>.inl rfl) (.inr ⟨_,vs.toArray,_,hk,rfl,rfl,rfl,by rw [au,lenV];exact hl,by simpa using rv⟩) (fun b u z=> by have z':(none:Option HO)=some u:=z;cases z') (fun b z=> absurd rfl z) fun z=> absurd rfl z
 | none=>
  refine core (fun b=> if b=a then some (.frz {cls:=.type "list",data:=.seq vs.toArray} (.lst (ns.map V.int))) else none) (fun b=> ?_) (.inl (.inr ⟨{cls:=.type "list",data:=.seq vs.toArray},if_pos rfl⟩)) (fun b u z=> ?_) (fun b z=> ?_) fun _=> hk
  ·by_cases hb:b=a
   ·exact .inr ⟨_,_,if_pos hb⟩
   ·exact .inl (if_neg hb)
  ·by_cases hb:b=a
   ·have z':=(if_pos hb).symm.trans z
    cases z'
    subst hb
    exact⟨ha,by rw [ak];exact hl,vs,_,rv,ha⟩
   ·have z':=(if_neg hb).symm.trans z
    cases z'
  ·by_cases hb:b=a
   ·exact hb
   ·exact absurd (if_neg hb) z
theorem avr{l:ie}{q:aR}{loose:List Str}{XP:(Str -> Option ac) -> Heap -> Prop}{YP:aT -> Heap -> Prop}{d:DefRec}{K:Params -> am}{CX:aT -> CXT}{sp:aT -> Sp}(hn:l.most=some n)(hn2:n <=sizeLine)(hdf:d.params.defaults=[])(hr:Room k callerA)(hY: ∀(w:aT) (h:Heap),YP w h -> (K w.params).In h)(F: ∀(w:aT) (mg:Str -> Option ac) (fa:Addr) (h:Heap),(K w.params).In h -> h.Ns bC mg -> mg d.name=some (.ref fa) ->
   ∃fd:dR,(∀(s:ah) (u:ac),iA s fd ⟨[u],[]⟩ [(x,u)])/\
    ∀base:Heap,(K w.params).In base -> base.Ns bC mg -> FnOk l.prog w (K w.params) mg base (CX w) k fa fd [x] (sp w)) (hsp: ∀(w:aT) (H:Hp) (a:Addr) (ns:List Int),ns.length <=n -> aqt H -> SqL (K w.params) H a (ns.map V.int) -> sp w [.ref a] H (fun v _=> v=.bl true) fun _ _ _=> False) (hCX: ∀(w:aT) (H:Hp) (s:ah) (e:ac) (s':ah),CX w [] H s (fun _ _ _=> False) e s' -> False):
  PySem.W.WalkO q loose XP YP l.row.toRowW d [] (fun f vs=> PySem.call f vs):=by
 refine Att.attach_call hn hdf fun w s₀ s₁ mg mb fa o pm cd doc a vs ns G Y ho hd hcd hmg hobj hints hlen hg=> ?_
 have KX:=hY w _ Y
 obtain⟨fd,hb,hF⟩:=F w mg fa _ KX G.T.g hmg
 exact aqj KX G.T.g G.T.b G.T.builtins G.T.nolimit hg hobj hints (a7 hlen hn2) hr hF hb (fun H hO hS=> hsp w H a ns hlen hO hS) fun H e s'=> hCX w H s₁ e s'
noncomputable def yh(s:Stmt):Arguments:=match s with
 |.FunctionDef _ a _ _ _ _ _ _ _ _=> a
 |_=> {posonlyargs:=[],args:=[],vararg:=none,kwonlyargs:=[],kw_defaults:=[],kwarg:=none,defaults:=[]}
noncomputable def qp(s:Stmt):List Stmt:=match s with
 |.FunctionDef _ _ b _ _ _ _ _ _ _=> b
 |_=> []
noncomputable def jf(s:Stmt):eE:=match s with
 |.FunctionDef _ _ _ _ _ _ sc _ _ _=> sc
 |_=> {kind:=.function,names:=[],isGenerator:=false,isCoroutine:=false}
abbrev CX0:CXT:=fun _ _ _ _ _ _=> False
abbrev E0:XK:=fun _ _ _=> False
theorem a1w:aib CX0 X E0:=fun _ _ _ _ _ _ _ h=> h.elim
structure Fun (K:am) (x qual:Str) (st:Stmt) (f:Addr) (fd:dR):Prop where
 ex: ∃(oc:ac) (od:Option Addr) (kV doc pm:ac) (an:Option Addr) (cdv ct:ac) (osl:Array (Option ac)),
  fd=cD x qual (yh st) (qp st) (jf st) .none kV doc pm an cdv ct/\K.lookup f=some ⟨oc,od,.func fd,osl⟩/\eF K cdv qual=true
 kp:dE K (.ref f)=true
theorem Fun.ok{st:Stmt}{N:List Str}{sp:Sp}(F:Fun K x qual st f fd)(S:FnScope N ps (jf st))(len: ∀vs H Q E,sp vs H Q E -> vs.length=ps.length)(hbody: ∀(cdv:ac) (A:aZ) (outer:List Env) (s:ah) (H:Hp) (vs:List V) (Q:VK) (E:XK),Room k (A.deeper (envOfC qual (jf st) s.heap.objs.size f cdv)) -> sp vs H Q E ->
   ∃t,PSs (ac0 CX0 P w K mg base N qual (jf st) f cdv A outer s H E).nox (qp st) t/\t {nx:=fun _ H'=> Q .non H',rt:=Q} (start N vs) H):FnOk P w K mg base CX0 (k+1) f fd ps sp:=by
 obtain⟨oc,od,kV,doc,pm,an,cdv,ct,osl,rfl,lk,hcd⟩:=F.ex
 refine a1j lk hcd S len fun A outer s H vs Q E hr hsp=> ?_
 obtain⟨t,h,q⟩:=hbody cdv A outer s H vs Q E hr hsp
 exact⟨t,h.nox,q⟩
theorem Fun.binds{st:Stmt}(F:Fun K x qual st f fd)(h: ∀(kV doc pm:ac) (an:Option Addr) (cdv ct:ac) (us:List ac),us.length=ps.length -> bindArgs (cD x qual (yh st) (qp st) (jf st) .none kV doc pm an cdv ct) ⟨us,[]⟩=pure (ps.zip us)):Binds K fd ps []:=by
 obtain⟨oc,od,kV,doc,pm,an,cdv,ct,osl,rfl,lk,hcd⟩:=F.ex
 exact .all (h kV doc pm an cdv ct)
theorem aig{st:Stmt}{oc:ac}{od an:Option Addr}{kV doc pm cdv ct:ac}(l:K.lookup f=some ⟨oc,od,.func (cD x qual (yh st) (qp st) (jf st) .none kV doc pm an cdv ct),osl⟩)(c:eF K cdv qual=true)(k:dE K (.ref f)=true):Fun K x qual st f (cD x qual (yh st) (qp st) (jf st) .none kV doc pm an cdv ct):=⟨⟨oc,od,kV,doc,pm,an,cdv,ct,osl,rfl,l,c⟩,k⟩
def ke(H H':Hp):Prop:= ∀b o,H b=some o -> H' b=some o
theorem ke.seq(e:ke H H')(h:SqL K H a xs):SqL K H' a xs:=by
 rcases h with (h|⟨o,h⟩)|h
 ·exact .inl (.inl (e _ _ h))
 ·exact .inl (.inr ⟨o,e _ _ h⟩)
 ·exact .inr h
noncomputable def vm(env:Env):List (Str×dv) -> List (Str×Addr) -> List (Str×Addr)
 |[],cs=> cs
 |(n,k)::r,cs=> vm env r (if k==.free then (match env.cells.lookup n with|some c=> (n,c)::cs|none=> cs) else cs)
theorem ajb{env:Env}: ∀{l:List (Str×dv)} {cs:List (Str×Addr)},(∀n c,(n,c)∈cs -> env.cells.lookup n=some c) -> ∀n c,(n,c)∈vm env l cs -> env.cells.lookup n=some c
 |[],cs,h,n,c,m=> h n c m
 | (n',k)::r,cs,h,n,c,m=> by
  unfold vm at m
  refine ajb (l:=r) (fun a b q=> ?_) n c m
  split at q
  ·split at q
   ·rename_i c' hc
    rcases aE.mp q with z|z
    ·cases z;exact hc
    ·exact h a b z
   ·exact h a b q
  ·exact h a b q
theorem agv{env:Env}: ∀{l:List (Str×dv)} {cs:List (Str×Addr)} {p},p∈cs -> p∈vm env l cs
 |[],_,_,h=> h
 | (n,k)::r,cs,p,h=> by
  unfold vm
  refine agv (l:=r) ?_
  split
  ·split
   ·exact ay _ h
   ·exact h
  ·exact h
theorem aj8{env:Env}: ∀{l:List (Str×dv)} {cs:List (Str×Addr)} {n:Str} {c:Addr},(n,bA)∈l -> env.cells.lookup n=some c -> (n,c)∈vm env l cs
 |[],_,_,_,h,_=> by cases h
 | (n',k)::r,cs,n,c,h,e=> by
  unfold vm
  rcases aE.mp h with z|z
  ·cases z
   refine agv ?_
   simp [e]
  ·exact aj8 z e
theorem ac9(h: ∀n,(n,bA)∈scope.names -> ∃c,env.cells.lookup n=some c):closureFor scope env=pure (vm env scope.names []):=by
 have all: ∀(l:List (Str×dv)) (cs:List (Str×Addr)),(∀n,(n,bA)∈l -> ∃c,env.cells.lookup n=some c) ->
   (forIn l cs (fun (x:Str×dv) (r:List (Str×Addr))=> (match x with|(name,kind)=> if (kind==bA)=true then (do let a←cellOf env name;pure (dm ((name,a)::r))) else pure (dm r):Sem (ForInStep (List (Str×Addr))))))=(pure (vm env l cs):Sem (List (Str×Addr))):=by
  intro l
  induction l with
  |nil=> intro cs _;rfl
  | cons p r ih=>
   intro cs hl
   obtain⟨n,k⟩:=p
   have hr: ∀n,(n,bA)∈r -> ∃c,env.cells.lookup n=some c:=fun n m=> hl n (ay _ m)
   rw [eg]
   unfold vm
   by_cases hk:k=.free
   ·subst hk
    obtain⟨c,hc⟩:=hl n az
    have e:cellOf env n=pure c:=by unfold cellOf;rw [hc]
    simp only [beq_self_eq_true,if_true,e,hc]
    exact ih _ hr
   ·have hb:(k==bA)=false:=by simpa using hk
    simp only [hb,bP,if_false];exact ih _ hr
 unfold closureFor
 exact (congrArg (fun (z:Sem (List (Str×Addr)))=> z >>=fun r=> pure r) (all scope.names [] h)).trans rfl
def qa(X:Cx)(own caps:List Str)(scope:eE)(C:Addr)(fp:List Addr)(s:ah)(H:Hp):Cx where
 prog:=X.prog
 w:=X.w
 K:=X.K
 mg:=X.mg
 base:=X.base
 A:=X.A
 N:=own++caps
 s₀:=s
 H₀:=H
 env:=compEnvC scope (vm X.env scope.names []) C X.env
 outer:=X.stack
 stack:=X.stack
 ex:=fp
 fn:=fun _=> false
 calm:=X.calm
 pn:=[]
 xe:=fun _ _=> False
def am8(X:Cx)(scope:eE)(y:Str)(j:Nat):Prop:=X.N[j]?=some y/\Vis X.env.scope y/\(X.env.kindOf y==some .local)=false/\((relabel scope X.env).names.lookup y==some .cell||(relabel scope X.env).names.lookup y==some .free)=true
def xq(X:Cx)(scope:eE):List Str -> List Nat -> Prop
 |[],[]=> True
 |y::ys,j::js=> am8 X scope y j/\xq X scope ys js
 |_,_=> False
noncomputable def yb(σ:St)(js:List Nat):St:=js.map fun j=> (σ[j]?).join
theorem xq.at{X:Cx}{scope:eE}{σ:St}: ∀{ys:List Str} {js:List Nat} {i:Nat} {y:Str} {v:V},xq X scope ys js -> ys[i]?=some y -> (yb σ js)[i]?=some (some v) -> ∃j,am8 X scope y j/\σ[j]?=some (some v)
 |[],[],i,y,v,_,h,_=> by simp at h
 | a::ys,j::js,0,y,v,c,h,e=> by
  simp at h;subst h
  refine⟨j,c.1,?_⟩
  simp [yb]at e
  cases q:σ[j]? with
  |none=>
   rw [q]at e
   cases e
  |some o=>
   rw [q]at e
   simp at e
   rw [e]
 |a::ys,j::js,i+1,y,v,c,h,e=> xq.at (i:=i) c.2 (by simpa using h) (by simpa [yb] using e)
 |[],_::_,_,_,_,c,_,_=> c.elim
 |_::_,[],_,_,_,c,_,_=> c.elim
theorem xq.len{X:Cx}{scope:eE}{σ:St}: ∀{ys:List Str} {js:List Nat},xq X scope ys js -> (yb σ js).length=ys.length
 |[],[],_=> rfl
 |a::ys,j::js,c=> by simp only [yb,aG,aD];exact congrArg (· +1) (xq.len (σ:=σ) c.2)
 |[],_::_,c=> c.elim
 |_::_,[],c=> c.elim
theorem aaq{env:Env}: ∀{names:List (Str×dv)} {x:Str},(∀p∈names,p.2≠ .cell) ->
  ((names.map fun (n,k)=> if (k==bA&&env.scope.kind==.function&&env.kindOf n==some .cell) then (n,d6) else (n,k)).lookup x=some .cell\/
    (names.map fun (n,k)=> if (k==bA&&env.scope.kind==.function&&env.kindOf n==some .cell) then (n,d6) else (n,k)).lookup x=some .free) -> (x,bA)∈names
 |[],_,_,h=> by simp at h
 | (n,k)::r,x,hc,h=> by
  have hr: ∀p∈r,p.2≠ .cell:=fun p hp=> hc p (ay _ hp)
  have hk:k≠ .cell:=hc (n,k) az
  have step: ∀(b:Bool),(List.lookup x ((if b=true then (n,d6) else (n,k))::r.map fun (n,k)=> if (k==bA&&env.scope.kind==.function&&env.kindOf n==some .cell) then (n,d6) else (n,k))=some .cell\/
     List.lookup x ((if b=true then (n,d6) else (n,k))::r.map fun (n,k)=> if (k==bA&&env.scope.kind==.function&&env.kindOf n==some .cell) then (n,d6) else (n,k))=some .free) -> (b=true -> k=.free) -> (x,bA)∈(n,k)::r:=by
   intro b q hb
   cases hx:x==n with
   | true=>
    have e:x=n:=by simpa using hx
    subst e
    cases b with
    |true=> rw [hb rfl];exact az
    |false=>
     simp [List.lookup_cons]at q
     rcases q with q|q
     ·exact absurd q hk
     ·rw [q];exact az
   |false=>
    refine ay _ (aaq (env:=env) hr ?_)
    cases b <;> simpa [List.lookup_cons,hx] using q
  exact step _ h fun q=> by simp at q;exact q.1.1
def afm(X:Cx)(ifs:List Expr)(t:TT):Prop:=
 ∀(pins:List (Addr×Obj)) (s:ah) (σ:St) (H:Hp) (Q:Bool -> Hp -> Prop),Inv X pins σ H s -> t σ H Q ->
  wpAny (model X.prog X.w) X.A (forIn ifs true fun c r=> if r=true then do let ok←isTrue c X.env (eval c X.env);pure (dm ok) else pure (dm r)) (TP X pins σ Q) X.xe s
noncomputable def a3e:TT:=fun _ H Q=> Q true H
theorem ark:afm X [] a3e:=fun _ _ _ H _ I h=> wpAny_tests_nil ⟨H,I,h⟩
theorem aqm{t:TT}(h:PT X c t):afm X [c] t:=fun pins s σ H Q I q=> wpAny_tests_one (h pins s σ H Q I q)
abbrev Wn(P:aR)(w:aT)(A:aZ){α:Type}(m:Sem α)(Q:α -> ah -> Prop)(s:ah):Prop:=wpAny (model P w) A m Q (fun _ _=> False) s
abbrev ax2(env:Env)(l:List Expr):Sem Bool:=forIn l true fun c r=> if r=true then do let b←isTrue c env (eval c env);pure (dm b) else pure (dm r)
def axp (P:aR) (w:aT) (A:aZ) (it acc:ac) (tg elt:Expr) (l:List Expr) (env:Env) (fin:ah -> Prop) (again:ah -> Prop) (s:ah):Prop:=
 Wn P w A (pyNext it) (fun r a=> match r with
  |none=> fin a
  | some v=> Wn P w A (fG tg it v) (fun _ b=> Wn P w A (assign tg env v) (fun _ c=> Wn P w A (ax2 env l) (fun ok d=>
    if ok=true then Wn P w A (eval elt env) (fun x e=> Wn P w A (call (.builtin "list.append") [acc,x]) (fun _ g=> again g) e) d else again d) c) b) a) s
theorem au9{R:Result -> ah -> Prop}{elt:Expr}{l:List Expr}{sc:eE}{it acc:ac}(J:Nat -> ah -> Prop)(turn: ∀n s,J n s -> axp P w A it acc tg elt l env (R (.ok .next)) (fun z=> ∃m,m < n/\J m z) s)(n:Nat)(h:J n s):codeAny (model P w) A (.compLoop (.ListComp elt [⟨tg,iter,l,0⟩] sc pos) 0 it acc env) R s:=by
 refine codeAny_loop rfl J (fun k z hz=> ?_) n h
 have one:=turn k z hz
 show wpAny _ A (Sem.onRaise (compTurn (.ListComp elt [⟨tg,iter,l,0⟩] sc pos) 0 it acc env) fun x=> do noteFrame x env;theTreesLotGoes x) _ _ z
 refine wpAny_noted ?_
 rw [compTurn_list]
 refine aa (eZ (aa (cC one (fun r a ha=> ?_) fun _ _ f=> f.elim)))
 cases r with
 |none=> exact aj ha
 | some v=>
  refine aa (cC ha (fun _ b hb=> aa (cC hb (fun _ c hc=> aa (cC hc (fun ok d hd=> ?_) fun _ _ f=> f.elim)) fun _ _ f=> f.elim)) fun _ _ f=> f.elim)
  cases ok with
  |false=>
   have q: ∃m,m < k/\J m d:=hd
   exact aj ⟨rfl,q⟩
  |true=>
   have q:Wn P w A (eval elt env) (fun x e=> Wn P w A (call (.builtin "list.append") [acc,x]) (fun _ g=> ∃m,m < k/\J m g) e) d:=hd
   exact aa (aa (cC q (fun x e he=> aa (cC he (fun _ g hg=> aj (aj ⟨rfl,hg⟩)) fun _ _ f=> f.elim)) fun _ _ f=> f.elim))
def ard(g:TG)(tt:TT)(te:TE)(k:Nat)(cap:St)(J:It)(H1:Hp)(Q:VK):Prop:=
 ∀ D,H1 D=none -> ∃W:Nat -> Nat -> List V -> Hp -> Prop,(∃m,W 0 m [] (upd H1 D (.lst [])))/\ ∀i m ys H,H D=some (.lst ys) -> W i m ys H ->
  (J.stop i H/\Q (.ref D) H)\/(J.go i H/\ ∀x H',J.yld i H x H' -> ∀vs:St,vs.length=k -> g x (vs++cap) H' fun σ2 H2=> (∃vs':St,vs'.length=k/\σ2=vs'++cap)/\tt σ2 H2 fun b H3=>
   if b=true then te σ2 H3 fun v H4=> H4 D=some (.lst ys)/\ys.length < sizeLine/\ ∃m',m' < m/\W (i+1) m' (ys++ [v]) (upd H4 D (.lst (ys++ [v]))) else H3 D=some (.lst ys)/\ ∃m',m' < m/\W (i+1) m' ys H3)
def tLc(js:List Nat)(k:Nat)(wi:TI)(g:TG)(tt:TT)(te:TE):TE:=fun σ H Q=> wi σ H fun J H1=> ard g tt te k (yb σ js) J H1 Q
section
variable{X:Cx}{own caps:List Str}{js:List Nat}{scope:eE}{tg iter elt:Expr}{ifs:List Expr}{wi:TI}{g:TG}{tt:TT}{te:TE}{pos:Pos}
theorem ao2{H2:Hp}{s2:ah}{it:Addr}{tn:Nat -> Heap -> Prop}{J:It}{Q:VK}{post:ac -> Addr -> Result -> ah -> Prop}(hcalm:X.calm=true)(hkind:scope.kind=.function)(hcell:(scope.names.any fun p=> p.2==.cell)=false)(hk:(scope.names.all fun p=> !(p.2==.free)||(X.env.kindOf p.1==some .cell||X.env.kindOf p.1==some .free))=true)(hcap:xq X scope caps js)(hg: ∀C fp s H,PG (qa X own caps scope C fp s H) tg g)(hi: ∀C fp s H,afm (qa X own caps scope C fp s H) ifs tt)(he: ∀C fp s H,PE (qa X own caps scope C fp s H) elt te)(I2:Inv X pins σ H2 s2)(T:Turn X.prog X.w X.K tg J fp it tn)(st2:tn 0 s2.heap)(f2: ∀b∈fp,v7 X pins H2 b)(hw:ard g tt te own.length (yb σ js) J H2 Q)(hpost: ∀D C s' m H',s'.heap.Ns C m -> s2.heap.objs.size <=C -> v7 X pins H' C -> Inv X pins σ H' s' -> Q (.ref D) H' -> post (.ref D) C (.ok .next) s'):
  wpAny (model X.prog X.w) X.A (newList []) (fun acc s₃=> wpAny (model X.prog X.w) X.A (newFunctionEnv scope X.env.globals (vm X.env scope.names []) [] X.env.qual none .none (some X.env)) (fun cenv s₄=>
   codeAny (model X.prog X.w) X.A (.compStart (.ListComp elt [⟨tg,iter,ifs,0⟩] scope pos) 0 (.ref it) acc {cenv with scope:=relabel scope X.env}) (post acc cenv.locals) s₄) E s₃) E s2:=by
 have hcell': ∀y∈scope.names,y.2≠ .cell:=fun y hy e=> by
  have:=(gF.mp hcell) y hy
  simp [e]at this
 have hfr: ∀n,(n,bA)∈scope.names -> X.env.kindOf n=some .cell\/X.env.kindOf n=some .free:=fun n hn=> by
  have:=(aw.mp hk) _ hn
  simpa using this
 refine cH (wpAny_newFunctionEnv hcell' (by intro y hy;simp at hy) (fun h₁ hns₁ hsb₁=> ?_) hkind)
 dsimp only at hns₁ hsb₁⊢
 generalize hHp:s2.heap.push {cls:=.type "list",dict:=none,data:=.seq ([]:List ac).toArray}=G2 at hns₁ hsb₁⊢
 have hC:G2.objs.size=s2.heap.objs.size+1:=by rw [←hHp,bt]
 obtain⟨D,hDe⟩: ∃D:Nat,s2.heap.objs.size=D:=⟨_,rfl⟩
 obtain⟨C,hCe⟩: ∃C:Nat,G2.objs.size=C:=⟨_,rfl⟩
 rw [hCe]at hns₁ hsb₁
 rw [hDe,hCe]at hC
 show codeAny _ _ (.compStart _ 0 (.ref it) (.ref s2.heap.objs.size) (compEnvC scope (vm X.env scope.names []) G2.objs.size X.env)) (post (.ref s2.heap.objs.size) G2.objs.size) _
 rw [hDe,hCe]
 have hDC:D≠C:=by lia
 have hDCl:D < C:=by lia
 have old: ∀b o,s2.heap.get? b=some o -> h₁.get? b=some o:=fun b o e=> by
  have hlt:b < D:=hDe▸aB e
  exact hsb₁.extBut b o (aM (jN hlt hDCl)) (ag _ (hHp▸ag _ e))
 have hD2:H2 D=none:=I2.hok.fresh (fI hDe)
 have hC2:H2 C=none:=I2.hok.fresh (by rw [hDe];lia)
 have accD:h₁.get? D=some {cls:=.type "list",data:=.seq ([]:List ac).toArray}:=hsb₁.extBut _ _ hDC (ag _ (hHp▸hDe▸aC _ rfl))
 obtain⟨W,⟨m0,w0⟩,turn⟩:=hw D hD2
 -- the block's own state
 have fpn: ∀b∈fp,H2 b=none:=fun b hb=> (f2 b hb).1
 have fplt: ∀b∈fp,b < D:=fun b hb=> by obtain⟨o,e,_⟩:=T.obj _ _ st2 b hb;exact hDe▸aB e
 have clsub: ∀n c,(n,c)∈vm X.env scope.names [] -> X.env.cells.lookup n=some c:=ajb (by intro _ _ z;cases z)
 have cllook: ∀n c,(vm X.env scope.names []).lookup n=some c -> X.env.cells.lookup n=some c:=fun n c e=> clsub n c (cM e)
 have clhas: ∀n,(n,bA)∈scope.names -> ∃c,(vm X.env scope.names []).lookup n=some c/\X.env.cells.lookup n=some c:=fun n hn=> by
  obtain⟨c,e⟩:=I2.ok.has n (hfr n hn)
  have m:=aj8 (cs:=[]) hn e
  cases q:(vm X.env scope.names []).lookup n with
  |none=>
   have:=List.lookup_eq_none_iff.mp q _ m
   simp at this
  |some c'=> exact⟨c',rfl,cllook n c' q⟩
 have clt: ∀x c,(vm X.env scope.names []).lookup x=some c -> c < D:=fun x c e=> by
  obtain⟨v,z⟩:=I2.cell x c (cllook x c e)
  exact hDe▸z.lt
 have ok':(qa X own caps scope C fp s2 H2).Ok:=by
  refine⟨I2.ok.mod,hkind,I2.ok.glob,I2.ok.blt,?_,fun x y c e1 e2=> I2.ok.inj x y c (cllook x c e1) (cllook y c e2),fun x hx=> ?_,fun x c z=> (by cases z),I2.ok.hd,I2.ok.frames,.inl rfl,fun b hb=> ⟨?_,fun x c e=> ?_⟩,I2.bs,a7 I2.ok.bsz I2.sz,fun b o e hb=> ?_,fun b hb hs=> ?_,I2.stack,I2.stkFree⟩
  ·show s2.heap.objs.size <=C
   rw [hDe];lia
  ·have hx':(relabel scope X.env).names.lookup x=some .cell\/(relabel scope X.env).names.lookup x=some .free:=hx
   obtain⟨c,e,_⟩:=clhas x (aaq hcell' hx')
   exact⟨c,e⟩
  ·exact aM (jN (fplt b hb) hDCl)
  ·exact (f2 b hb).2.2.2.2.1 x c (cllook x c e)
  ·rcases (f2 b hb).2.2.2.1 with z|z
   ·exact I2.ok.noex b o e z
   ·exact absurd (aJ (aB (I2.ok.bs b o e).1) z) (bU _)
  ·rcases aE.mp (I2.stkSub b hs) with z|z
   ·exact (f2 b hb).2.1 z
   ·exact (f2 b hb).2.2.1 z
 have I4:Inv (qa X own caps scope C fp s2 H2) [] (bL own.length none++yb σ js) (upd H2 D (.lst [])) {s2 with heap:=h₁,toks:=s2.toks+([]:List (Str×ac)).length}:=by
  refine⟨ok',rfl,I2.bare,Un.laid old (fI hDe) hD2,⟨_,hns₁,fun i x v e1 e2 e3=> ?_⟩,fun x c e=> ?_,?_,fun x c e=> ?_,fun p hp=> absurd (show p∈([]:List (Addr×Obj)) from hp) (by simp),?_,?_⟩
  ·have e1:(own++caps)[i]?=some x:=e1
   by_cases hio:i < own.length
   ·rw [aS (by simpa using hio),di]at e2
    split at e2 <;> cases e2
   ·have hle:own.length <=i:=bR hio
    rw [bF hle]at e1
    rw [bF (by simpa using hle)]at e2
    obtain⟨j,c,e⟩:=xq.at (σ:=σ) hcap e1 (by simpa using e2)
    obtain⟨c1,c2,c3,c4⟩:=c
    obtain⟨m,hn,hl⟩:=I2.loc
    obtain⟨u,r,lk⟩:=hl j x v c1 e c2
    refine⟨u,r,.inr ⟨?_,?_⟩⟩
    ·have c4':(relabel scope X.env).names.lookup x=some .cell\/(relabel scope X.env).names.lookup x=some .free:=by simpa using c4
     exact c4'
    ·have c4':(relabel scope X.env).names.lookup x=some .cell\/(relabel scope X.env).names.lookup x=some .free:=by simpa using c4
     obtain⟨c',q1,q2⟩:=clhas x (aaq hcell' c4')
     rcases lk with ⟨k1,_⟩|⟨_,c'',k2,k3⟩
     ·rw [k1]at c3;simp at c3
     ·rw [q2]at k2;cases k2
      obtain⟨oc,hoc,hod⟩:=k3
      exact⟨c',q1,oc,old _ _ hoc,hod⟩
  ·obtain⟨v,oc,hoc,hod⟩:=I2.cell x c (cllook x c e)
   exact⟨v,oc,old _ _ hoc,hod⟩
  ·show upd H2 D (.lst []) C=none
   rw [j6 (cV hDC)];exact hC2
  ·rw [j6 (aM (clt x c e))];exact I2.freeC x c (cllook x c e)
  ·exact I2.hok.laid old (fI hDe) ⟨cy _,[],0,.nil,accD⟩
  ·show (bL own.length none++yb σ js).length=(own++caps).length
   rw [aH,aH,iB,hcap.len]
 have stat: ∀{H':Hp},(∀b∈fp,H' b=none) -> ∀b∈fp,v7 (qa X own caps scope C fp s2 H2) [] H' b:=fun hn b hb=>
  ⟨hn b hb,(ok'.exf b hb).1,ok'.exfs b hb,.inl hb,(ok'.exf b hb).2,fun p hp=> absurd (show p∈([]:List (Addr×Obj)) from hp) (by simp)⟩
 have loop: ∀s₃:ah,s₃={s2 with heap:=h₁,toks:=s2.toks+([]:List (Str×ac)).length} ->
   codeAny (model X.prog X.w) X.A (.compLoop (.ListComp elt [⟨tg,iter,ifs,0⟩] scope pos) 0 (.ref it) (.ref D) (compEnvC scope (vm X.env scope.names []) C X.env)) (post (.ref D) C) s₃:=by
  rintro s₃ rfl
  refine au9 (fun n s'=> ∃i vs ys H',vs.length=own.length/\Inv (qa X own caps scope C fp s2 H2) [] (vs++yb σ js) H' s'/\tn i s'.heap/\(∀b∈fp,H' b=none)/\H' D=some (.lst ys)/\W i n ys H') ?_ m0
   ⟨0,bL own.length none,[],upd H2 D (.lst []),by simp,I4,T.keep _ _ _ st2 fun b _ o e=> old b o e,fun b hb=> by rw [j6 (aM (fplt b hb))];exact fpn b hb,y7,w0⟩
  rintro n s3 ⟨i,vs,ys,H3,hvs,I3,st3,fr3,hD3,w3⟩
  rcases turn i n ys H3 hD3 w3 with ⟨stop,qn⟩|⟨go,step⟩
  ·refine thn (T.done (qa X own caps scope C fp s2 H2) rfl rfl rfl hcalm i [] s3 _ H3 (fun _ _=> False) I3 (stat fr3) st3 stop) fun r s5 ⟨hr,I5⟩=> ?_
   subst hr
   obtain⟨m5,hn5,_⟩:=id I5.loc
   refine hpost D C s5 m5 H3 hn5 (by rw [hDe];lia) (I2.fpOk (by rw [hDe];lia) I5.free) ?_ qn
   exact I2.call' (ch:=fp) I5.os I5.base I5.hok I5.bare fun b hb=> ⟨(f2 b hb).2.2.2.1,(f2 b hb).2.1,(f2 b hb).2.2.2.2⟩
  ·refine thn (T.item (qa X own caps scope C fp s2 H2) rfl rfl rfl hcalm i [] s3 _ H3 (fun _ _=> False) I3 (stat fr3) st3 go) fun r s4 ⟨u,hr,h4⟩=> ?_
   subst hr
   refine thn h4 fun _ s5 ⟨x,H5,I5,r5,y5,st5,fr5⟩=> ?_
   have I5':=I5.pinned (stat fr5) (T.obj _ _ st5);refine thn (hg C fp s2 H2 _ s5 _ H5 x u _ I5' r5 (step x H5 y5 vs hvs)) fun _ s6 ⟨σ6,H6,I6,⟨vs6,hvs6,e6⟩,q6⟩=> ?_
   subst e6
   refine thn (hi C fp s2 H2 _ s6 _ H6 _ I6 q6) fun b s7 ⟨H7,I7,q7⟩=> ?_
   have again: ∀{H8:Hp} {s8:ah} {ys':List V},Inv (qa X own caps scope C fp s2 H2) ([]++acz fp s5.heap) (vs6++yb σ js) H8 s8 -> H8 D=some (.lst ys') -> (∃m',m' < n/\W (i+1) m' ys' H8) ->
     ∃m,m < n/\ ∃i vs ys H',vs.length=own.length/\Inv (qa X own caps scope C fp s2 H2) [] (vs++yb σ js) H' s8/\tn i s8.heap/\(∀b∈fp,H' b=none)/\H' D=some (.lst ys)/\W i m ys H':=fun {H8 s8 ys'} I8 hD8 w8=> by
    obtain⟨m',hm,w8⟩:=w8
    refine⟨m',hm,i+1,vs6,ys',H8,hvs6,I8.unpinned,T.keep _ _ _ st5 fun b hb o e=> (I8.pin (b,o) (bw _ (bw _ (aa5 hb e)))).1,fun b hb=> ?_,hD8,w8⟩
    obtain⟨o,e,d⟩:=T.obj _ _ st5 b hb
    exact (I8.pin (b,o) (bw _ (bw _ (aa5 hb e)))).2.1
   cases b with
   |false=> exact again I7 q7.1 q7.2
   |true=>
    refine thn (he C fp s2 H2 _ s7 _ H7 _ I7 q7) fun y s8 ⟨v,H8,I8,r8,hD8,hz8,q8⟩=> ?_
    refine thn (agq (X:=qa X own caps scope C fp s2 H2) _ s8 _ H8 (.ref D) [v] (.ref D) [y] (fun z H9=> H9=upd H8 D (.lst (ys++ [v]))) I8 rfl (.cons r8 .nil) ⟨D,ys,v,rfl,rfl,hD8,hz8,rfl⟩) fun _ s9 ⟨z,H9,I9,_,e9⟩=> ?_
    subst e9
    exact again I9 y7 q8
 refine codeAny_compStart_list (loop _ rfl) (T.self _ 0 _ _ _ (T.keep _ _ _ st2 fun b _ o e=> old b o e) (loop _ rfl))
theorem a1x(hcalm:X.calm=true)(hkind:scope.kind=.function)(hnames:(scope.names.all fun p=> !(p.2==.local)||(scope.names.lookup p.1==some .local))=true)(hcell:(scope.names.any fun p=> p.2==.cell)=false)
  (hk:(scope.names.all fun p=> !(p.2==.free)||(X.env.kindOf p.1==some .cell||X.env.kindOf p.1==some .free))=true)
  (hcap:xq X scope caps js) (hi:PI X tg iter wi) (hg: ∀C fp s H,PG (qa X own caps scope C fp s H) tg g) (ht: ∀C fp s H,afm (qa X own caps scope C fp s H) ifs tt) (he: ∀C fp s H,PE (qa X own caps scope C fp s H) elt te)
  (hs: ∀x,cX iter X.env x=pure x:=by intro _;rfl):PE X (.ListComp elt [⟨tg,iter,ifs,0⟩] scope pos) (tLc js own.length wi g tt te):=by
 refine⟨?_⟩
 intro pins s σ H Q I h
 have hfr: ∀n,(n,bA)∈scope.names -> X.env.kindOf n=some .cell\/X.env.kindOf n=some .free:=fun n hn=> by
  have:=(aw.mp hk) _ hn
  simpa using this
 have hn': ∀x∈scope.names,x.2=.local -> scope.names.lookup x.1=some .local:=fun x hx e=> by
  have:=(aw.mp hnames) _ hx
  simpa [e] using this
 rw [eval_ListComp]
 refine gW (use:=none) rfl hs (ac9 fun n hn=> I.ok.has n (hfr n hn)) hkind hn' (thn (hi pins s σ H _ I h) fun v s1 h1=> thn h1 fun itv s2 h2=> ?_)
 obtain⟨it,fp,tn,J,H2,e,I2,T,st2,f2,hw⟩:=h2
 subst e
 refine ao2 (iter:=iter) (pos:=pos) (post:=fun acc C=> compPost (model X.prog X.w) X.A X.xe none (EP X pins σ Q) acc C) hcalm hkind hcell hk hcap hg ht he I2 T st2 f2 hw ?_
 intro D C s' m H' hn _ f hI hq
 exact⟨m,hn,fun h' hs'=> ⟨.ref D,H',hI.turned (t':=s'.toks) (fun b o hb e=> (hs'.2 b hb).trans e) f.1 f.2.1 f.2.2.2.1 f.2.2.2.2.1 f.2.2.2.2.2,rfl,hq⟩⟩
theorem aqh{y:Str}{py:Pos}{spos:Pos}(hsw:gj (.ListComp elt [⟨tg,iter,ifs,0⟩] scope pos) (some (.Name y py)) spos.line X.env=pure true)(hN:X.N.Nodup)(hy:X.N[i]?=some y)(hyl:X.env.scope.names.lookup y=some .local)(hcalm:X.calm=true)(hkind:scope.kind=.function)(hnames:(scope.names.all fun p=> !(p.2==.local)||(scope.names.lookup p.1==some .local))=true)(hcell:(scope.names.any fun p=> p.2==.cell)=false)(hk:(scope.names.all fun p=> !(p.2==.free)||(X.env.kindOf p.1==some .cell||X.env.kindOf p.1==some .free))=true)(hcap:xq X scope caps js)(hi:PI X tg iter wi)(hg: ∀C fp s H,PG (qa X own caps scope C fp s H) tg g)(ht: ∀C fp s H,afm (qa X own caps scope C fp s H) ifs tt)(he: ∀C fp s H,PE (qa X own caps scope C fp s H) elt te)(hs: ∀x,cX iter X.env x=pure x:=by intro _;rfl):PS X (.Assign [.Name y py] (.ListComp elt [⟨tg,iter,ifs,0⟩] scope pos) spos) (fun D σ H=> tLc js own.length wi g tt te σ H fun v H'=> D.nx (σ.set i (some v)) H'):=by
 refine⟨?_⟩
 intro pins s σ H D I h
 have hfr: ∀n,(n,bA)∈scope.names -> X.env.kindOf n=some .cell\/X.env.kindOf n=some .free:=fun n hn=> by
  have:=(aw.mp hk) _ hn
  simpa using this
 have hn': ∀x∈scope.names,x.2=.local -> scope.names.lookup x.1=some .local:=fun x hx e=> by
  have:=(aw.mp hnames) _ hx
  simpa [e] using this
 rw [exec_Assign_Name_used _ _ _ _ hsw];refine aa (eZ (aa ?_))
 show wpAny _ _ (do let _←comprehension (.ListComp elt [⟨tg,iter,ifs,0⟩] scope pos) scope X.env _ (newList []) false (eval iter X.env) (some (assign (.Name y py) X.env))) _ _ s
 refine aa (cC (gW (use:=some (assign (.Name y py) X.env)) (Q:=fun _ s'=> SP X pins D .next s') rfl hs (ac9 fun n hn=> I.ok.has n (hfr n hn)) hkind hn'
  (thn (hi pins s σ H _ I h) fun v s1 h1=> thn h1 fun itv s2 h2=> ?_)) (fun _ s' hq=> aj (aj hq)) fun _ _ e=> e)
 obtain⟨it,fp,tn,J,H2,e,I2,T,st2,f2,hw⟩:=h2
 subst e
 refine ao2 (iter:=iter) (pos:=pos) (post:=fun acc C=> compPost (model X.prog X.w) X.A X.xe (some (assign (.Name y py) X.env)) (fun _ s'=> SP X pins D .next s') acc C) hcalm hkind hcell hk hcap hg ht he I2 T st2 f2 hw ?_
 intro Da C s' m H' hn hCs f I' hq
 show wpAny _ _ (assign (.Name y py) X.env (.ref Da)) _ _ _
 refine wpAny_assign_Name (ah1 (v:=.ref Da) (u:=.ref Da) I' hN hy (.inl hyl) rfl (fun s6 I6 hs6=> ?_) (.inr hyl))
 obtain⟨a,hsb,ha⟩:=hs6
 have haC:a≠C:=by
  rcases ha with z|z
  ·rw [z];exact cV f.2.1
  ·exact f.2.2.2.2.1 y a z
 exact⟨m,hn.sameBut hsb (cV haC),fun h' hs'=> ⟨σ.set i (some (.ref Da)),H',I6.turned (t':=s6.toks) (fun b o hb e=> (hs'.2 b hb).trans e) f.1 f.2.1 f.2.2.2.1 f.2.2.2.2.1 f.2.2.2.2.2,hq⟩⟩
end
def Cal(P:aR)(w:aT)(K:am)(mg:Str -> Option ac)(base:Heap)(x:Str)(k:Nat)(sp:Sp):Prop:=
 ∃(f:Addr) (fd:dR) (ps:List Str),FnOk P w K mg base CX0 k f fd ps sp/\mg x=some (.ref f)/\dE K (.ref f)=true/\Binds K fd ps []
def Has(K:am)(mg:Str -> Option ac)(x:Str)(st:Stmt)(ps:List Str):Prop:=
 ∃(f:Addr) (fd:dR),Fun K x x st f fd/\mg x=some (.ref f)/\Binds K fd ps []
section
variable{P:aR}{w:aT}{K:am}{mg:Str -> Option ac}{base:Heap}{x:Str}{st:Stmt}{N ps:List Str}{k:Nat}{sp:Sp}
theorem Has.cal(h:Has K mg x st ps)(S:FnScope N ps (jf st))(len: ∀vs H Q E,sp vs H Q E -> vs.length=ps.length)
  (hbody: ∀(f:Addr) (cdv:ac) (A:aZ) (outer:List Env) (s:ah) (H:Hp) (vs:List V) (Q:VK) (E:XK),Room k (A.deeper (envOfC x (jf st) s.heap.objs.size f cdv)) -> sp vs H Q E ->
   ∃t,PSs (ac0 CX0 P w K mg base N x (jf st) f cdv A outer s H E).nox (qp st) t/\t {nx:=fun _ H'=> Q .non H',rt:=Q} (start N vs) H):Cal P w K mg base x (k+1) sp:=by
 obtain⟨f,fd,F,m,b⟩:=h
 exact⟨f,fd,ps,F.ok S len (hbody f),m,F.kp,b⟩
end
section
variable{X:Cx}{x:Str}{k:Nat}{sp:Sp}{p pos:Pos}{e:Expr}{es:List Expr}{t:TA}
theorem a23(c:Cal X.prog X.w X.K X.mg X.base x k sp)(hr:Room k X.A)(ha:PA X (e::es) t)(hg:Gl X x:=by rfl)(hdb:(x==("__debug__":Str))=false:=by decide)
  (he:starEach (e::es) X.env=(false,eval e X.env)::starEach es X.env:=by rfl) (hpl:(backTo pos (starEach es X.env)).any (·.1)=false:=by rfl):PE X (.Call (.Name x p) (e::es) [] pos) (atf sp [] E0 t):=by
 obtain⟨f,fd,ps,F,m,kk,b⟩:=c
 exact av9 F hr hg m kk b .nil a1w ha hdb he hpl
end
theorem asz:bc "len"=some (.builtin "len"):=by decide+kernel
theorem ay8:bc "repr"=some (.builtin "repr"):=by decide+kernel
theorem apv:bc "sorted"=some (.builtin "sorted"):=by decide+kernel
theorem aj2:bc "isinstance"=some (.builtin "isinstance"):=by decide+kernel
theorem a0l:bc "all"=some (.builtin "all"):=by decide+kernel
theorem ap3:bc "list"=some (.type "list"):=by decide+kernel
theorem ag5:bc "tuple"=some (.type "tuple"):=by decide+kernel
theorem a1d:bc "set"=some (.type "set"):=by decide+kernel
theorem ati:bc "str"=some (.type "str"):=by decide+kernel
theorem atu:bc "int"=some (.type "int"):=by decide+kernel
theorem ax5:bc "bool"=some (.type "bool"):=by decide+kernel
noncomputable def tyD:ae -> String
 |.none=> "NoneType"
 |.bool _=> "bool"
 |.int _=> "int"
 |.str _=> "str"
 |.list _=> "list"
 |.tuple _=> "tuple"
 |.dict _=> "dict"
noncomputable def xf(d:ae)(n:String):Bool:=match d with
 |.none=> n=="NoneType"
 |.bool _=> n=="bool"||n=="int"
 |.int _=> n=="int"
 |.str _=> n=="str"
 |.list _=> n=="list"
 |.tuple _=> n=="tuple"
 |.dict _=> n=="dict"
theorem ap9(K:am)(d:ae)(n:String)(hn:n="str"\/n="int"\/n="bool"\/n="tuple"\/n="list"):PySem.W.kitOne K (.type (tyD d)) (.type n)=some (xf d n):=by
 rcases hn with rfl|rfl|rfl|rfl|rfl <;> cases d <;> rfl
theorem auq(l:Addr)(its:Array ac)(n:Nat)(b:Addr)(jts:Array ac)(m:Nat)(dd:Option Addr)(sl:Array (Option ac))(z0: ¬(!its.isEmpty&&cE (its.size+jts.size))=true)(z1:its.size <=sizeLine)(z2:its.size+jts.size <=sizeLine+1):
  ig (cf.«list.extend» ⟨[.ref l,.ref b],[]⟩) (fun _ R s=> s.heap.get? l=some {cls:=.type "list",data:=.seq its n}/\s.heap.get? b=some {cls:=.type "tuple",dict:=dd,data:=.seq jts m,slots:=sl}/\
   R (.ok (.ret aQ)) {s with heap:=s.heap.update l (bD fun x=> x++jts),toks:=s.toks}):=
 .of_wp fun pr wo ar re st h=> by
  obtain⟨he,ge,dr,tk,oz⟩:=st
  obtain⟨hl,hb,h⟩:=h
  have f1:=PySem.AutoSeq1.idx_int
  have f2:=PySem.AutoSeq1.sub_tuple_tuple
  have f3:=PySem.AutoSeq1.sub_list_list
  have f4:=PySem.AutoSeq1.sub_tuple_list
  have f5:=PySem.AutoSeq1.sub_list_tuple
  have z3:(its++jts).size <=sizeLine+1:=by
   rw [Array.size_append]
   exact z2
  wp_walk using (fJ hl rfl (hz:=z1) (_hz':=z3)),fK hl,fK hb
  exact⟨_,rfl,h⟩
def aqi(K:am):V -> List V -> Hp -> VK -> Prop:=fun x vs H Q=> ∃l b xs zs,x=.ref l/\vs=[.ref b]/\H l=some (.lst xs)/\SqT K H b zs/\xs.length+zs.length <=sizeLine/\Q .non (upd H l (.lst (xs++zs)))
theorem alo:MtM X "list.extend" (aqi X.K):=by
 intro pins s σ H x vs v us Q I rx rv h
 obtain⟨l,b,xs,zs,rfl,rfl,hH,hB,hz,q⟩:=h
 cases rx
 obtain⟨u,rfl,ru⟩:=rv.one
 cases ru
 obtain⟨z,its,n,r,hl,e⟩:=I.lstM hH
 obtain⟨jts,r2,p2,z2⟩:=I.tuple hB
 have hl2:=r2.length
 obtain⟨⟨c,dd,dt,sl⟩,e2,c2,m,d2⟩:=p2
 simp only at c2 d2
 subst c2 d2
 have hsz:its.toArray.size+jts.toArray.size <=sizeLine:=by rw [au,au];lia
 have hlong: ¬(!its.toArray.isEmpty&&cE (its.toArray.size+jts.toArray.size))=true:=by
  rw [aj1 hsz,iC]
  exact av
 refine cQ F.slot_list_extend ⟨_,e,rfl⟩ jC (iR _ _) (auq l its.toArray n b jts.toArray m dd sl hlong (by rw [au];lia) (by lia)) ⟨e,e2,?_⟩
 refine⟨.non,_,I.lset (its':=its++jts) hH e (by simp) (r.append r2) ?_,rfl,q⟩
 rw [aH]
 lia
noncomputable def ail:Const -> Option V
 |.str x=> some (.str x)
 |.int i=> some (.int i)
 |.bool b=> some (.bl b)
 |.none=> some .non
 |_=> none
def ac8:List Expr -> Option (List V)
 |[]=> some []
 | .Constant c _ _::r=> match ail c with
  |some v=> match ac8 r with
   |some vs=> some (v::vs)
   |none=> none
  |none=> none
 |_=> none
theorem ast{c:Const}{j:Nat}:starEach (.Constant c j pos::es) env=(false,eval (.Constant c j pos) env)::starEach es env:=by rfl
noncomputable def tVs(vs:List V):TA:=fun _ H Q=> Q vs H
theorem aul{c:Const}{j:Nat}(h:ail c=some v):PE X (.Constant c j pos) (tC v):=by
 cases c <;> simp [ail]at h <;> subst h
 all_goals first
  |exact aog
  |exact ahx
  |exact ata
  |exact aph
theorem ag7: ∀{es:List Expr} {vs:List V},ac8 es=some vs -> PA X es (tVs vs)
 |[],vs,h=> by
  cases h
  exact aip
 | e ::es,vs,h=> by
  cases e with
  | Constant c j pos=>
   simp only [ac8]at h
   cases h1:ail c with
   |none=>
    rw [h1]at h
    cases h
   | some v=>
    rw [h1]at h
    cases h2:ac8 es with
    |none=> rw [h2]at h;cases h
    |some ws=>
     rw [h2]at h
     cases h
     have p:=afy (aul (X:=X) (pos:=pos) (j:=j) h1) (ag7 h2) ast
     exact p
  |_=> simp [ac8]at h
structure New (H:Hp) (p:Addr) (o:HO) (H':Hp):Prop where
 no:H p=none
 eq:H'=upd H p o
theorem New.at(n:New H p o H'):H' p=some o:=by rw [n.eq,y7]
theorem New.keep{b:Addr}{u:HO}(n:New H p o H')(e:H b=some u):H' b=some u:=by rw [n.eq,j6 (vj e n.no)];exact e
structure Chg (H:Hp) (p:Addr) (o:HO) (H':Hp):Prop where
 eq:H'=upd H p o
theorem Chg.at(n:Chg H p o H'):H' p=some o:=by rw [n.eq,y7]
theorem Chg.keep{b:Addr}{u:HO}(n:Chg H p o H')(h:b≠p)(e:H b=some u):H' b=some u:=by rw [n.eq,j6 h];exact e
theorem PE.weak{t t':TE}(h:PE X e t)(k: ∀σ H Q,t' σ H Q -> t σ H Q):PE X e t':=.mk <|fun pins s σ H Q I q=> h pins s σ H Q I (k σ H Q q)
theorem OpR.weak{f:ac -> ac -> Sem ac}{r r':R2}(h:OpR X f r)(k: ∀x y H Q,r' x y H Q -> r x y H Q):OpR X f r':=fun pins s σ H x y v u Q I rx ry q=> h pins s σ H x y v u Q I rx ry (k x y H Q q)
theorem vw.weak{f:ac}{r r':List V -> Hp -> VK -> Prop}(h:vw X f r)(k: ∀xs H Q,r' xs H Q -> r xs H Q):vw X f r':=fun pins s σ H xs us Q I rv q=> h pins s σ H xs us Q I rv (k xs H Q q)
theorem MtM.weak{id:String}{r r':V -> List V -> Hp -> VK -> Prop}(h:MtM X id r)(k: ∀x xs H Q,r' x xs H Q -> r x xs H Q):MtM X id r':=fun pins s σ H x xs v us Q I rx rv q=> h pins s σ H x xs v us Q I rx rv (k x xs H Q q)
theorem SlR.weak{r r':V -> Option Int -> Option Int -> Hp -> VK -> Prop}(h:SlR X r)(k: ∀x lo hi H Q,r' x lo hi H Q -> r x lo hi H Q):SlR X r':=by
 intro pins s σ H x v vl vu lo hi sl Q I rx hs pl pu q
 exact h pins s σ H x v vl vu lo hi sl Q I rx hs pl pu (k x lo hi H Q q)
theorem afn.weak{t t':amg}(h:afn X t)(k: ∀o i v H Q,t' o i v H Q -> t o i v H Q):afn X t':=fun pins s σ H o i v ov iv u Q I ro ri rv q=> h pins s σ H o i v ov iv u Q I ro ri rv (k o i v H Q q)
noncomputable def a14(t:TA):TE:=fun σ H Q=> t σ H fun xs H1=> xs.length <=sizeLine/\ ∀p H',New H1 p (.tup xs) H' -> Q (.ref p) H'
noncomputable def a06(t:TA):TE:=fun σ H Q=> t σ H fun xs H1=> xs.length <=sizeLine/\ ∀p H',New H1 p (.lst xs) H' -> Q (.ref p) H'
theorem aum{x1 pos}(h:PA X es t):PE X (.Tuple es x1 pos) (a14 t):=by
 refine⟨?_⟩
 intro pins s σ H Q I hq
 refine wpAny_Tuple_spliced (thn (h pos pins s σ H _ I hq) fun us s1 ⟨xs,H1,I1,r,z,q⟩=> ⟨by rw [←r.length];exact z,?_⟩)
 have hf:H1 s1.heap.objs.size=none:=I1.hok.fresh (aq _)
 refine⟨.ref s1.heap.objs.size,upd H1 s1.heap.objs.size (.tup xs),I1.laid (t':=s1.toks) (fun b u e=> ag _ e) (aq _) ?_,rfl,q _ _ ⟨hf,rfl⟩⟩
 exact⟨z,us,r,⟨_,aC _ rfl⟩⟩
theorem auz{pos}(h:PA X es t):PE X (.List es pos) (a06 t):=by
 refine⟨?_⟩
 intro pins s σ H Q I hq
 refine wpAny_List_spliced (thn (h pos pins s σ H _ I hq) fun us s1 ⟨xs,H1,I1,r,z,q⟩=> ⟨by rw [←r.length];exact z,?_⟩)
 have hf:H1 s1.heap.objs.size=none:=I1.hok.fresh (aq _)
 refine⟨.ref s1.heap.objs.size,upd H1 s1.heap.objs.size (.lst xs),I1.laid (t':=s1.toks) (fun b u e=> ag _ e) (aq _) ?_,rfl,q _ _ ⟨hf,rfl⟩⟩
 exact⟨z,us,0,r,aC _ rfl⟩
def a0u(K:am):V -> Option Int -> Option Int -> Hp -> VK -> Prop:=fun x lo hi H Q=> ∃a xs,x=.ref a/\SqL K H a xs/\ ∀p H',New H p (.lst (ya xs lo hi)) H' -> Q (.ref p) H'
theorem ar5:SlR X (a0u X.K):=aub.weak fun x lo hi H Q ⟨a,xs,e,h,q⟩=> ⟨a,xs,e,h,fun p hp=> q p _ ⟨hp,rfl⟩⟩
def a1s(K:am):V -> Option Int -> Option Int -> Hp -> VK -> Prop:=fun x lo hi H Q=> ∃a xs,x=.ref a/\SqT K H a xs/\ ¬(HT.sIx xs.length 0 lo=0/\HT.sIx xs.length xs.length hi=xs.length)/\ ∀p H',New H p (.tup (ya xs lo hi)) H' -> Q (.ref p) H'
theorem av5:SlR X (a1s X.K):=app.weak fun x lo hi H Q ⟨a,xs,e,h,n,q⟩=> ⟨a,xs,e,h,n,fun p hp=> q p _ ⟨hp,rfl⟩⟩
noncomputable def a00:R2:=fun x y H Q=> ∃l b xs zs,x=.ref l/\y=.ref b/\H l=some (.lst xs)/\H b=some (.lst zs)/\xs.length+zs.length <=sizeLine/\ ∀p H',New H p (.lst (xs++zs)) H' -> Q (.ref p) H'
theorem aun:OpR X (binaryOp .Add) a00:=ax1.weak fun x y H Q ⟨l,b,xs,zs,e1,e2,h1,h2,n,q⟩=> ⟨l,b,xs,zs,e1,e2,h1,h2,n,fun p hp=> q p _ ⟨hp,rfl⟩⟩
theorem alw:vw X (.type "list") (fun xs H Q=> ∃p ys,xs=[.ref p]/\(SqL X.K H p ys\/SqT X.K H p ys)/\ ∀l H',New H l (.lst ys) H' -> Q (.ref l) H'):=
 aht.weak fun xs H Q ⟨p,ys,e,h,q⟩=> ⟨p,ys,e,h,fun l hl=> q l _ ⟨hl,rfl⟩⟩
theorem ab4:vw X (.type "tuple") (fun xs H Q=> ∃p ys,xs=[.ref p]/\((SqL X.K H p ys/\ ∀l H',New H l (.tup ys) H' -> Q (.ref l) H')\/(SqT X.K H p ys/\Q (.ref p) H))):=
 ah7.weak fun xs H Q ⟨p,ys,e,h⟩=> ⟨p,ys,e,h.imp (fun⟨a,q⟩=> ⟨a,fun l hl=> q l _ ⟨hl,rfl⟩⟩) id⟩
def asg:V -> List V -> Hp -> VK -> Prop:=fun x vs H Q=> ∃l xs y,x=.ref l/\vs=[y]/\H l=some (.lst xs)/\xs.length < sizeLine/\ ∀H',Chg H l (.lst (xs++ [y])) H' -> Q .non H'
theorem an0:MtM X "list.append" asg:=agq.weak fun x vs H Q ⟨l,xs,y,e1,e2,h,n,q⟩=> ⟨l,xs,y,e1,e2,h,n,q _ ⟨rfl⟩⟩
def arq:V -> List V -> Hp -> VK -> Prop:=fun x vs H Q=> ∃l b xs zs,x=.ref l/\vs=[.ref b]/\H l=some (.lst xs)/\H b=some (.lst zs)/\xs.length+zs.length <=sizeLine/\ ∀H',Chg H l (.lst (xs++zs)) H' -> Q .non H'
theorem an9:MtM X "list.extend" arq:=ap6.weak fun x vs H Q ⟨l,b,xs,zs,e1,e2,h,hb,n,q⟩=> ⟨l,b,xs,zs,e1,e2,h,hb,n,q _ ⟨rfl⟩⟩
def ans(K:am):V -> List V -> Hp -> VK -> Prop:=fun x vs H Q=> ∃l b xs zs,x=.ref l/\vs=[.ref b]/\H l=some (.lst xs)/\SqT K H b zs/\xs.length+zs.length <=sizeLine/\ ∀H',Chg H l (.lst (xs++zs)) H' -> Q .non H'
theorem ajv:MtM X "list.extend" (ans X.K):=alo.weak fun x vs H Q ⟨l,b,xs,zs,e1,e2,h,hb,n,q⟩=> ⟨l,b,xs,zs,e1,e2,h,hb,n,q _ ⟨rfl⟩⟩
def awy:V -> V -> V -> Hp -> (Hp -> Prop) -> Prop:=fun o i v H Q=> ∃p xs k j,o=.ref p/\i=.int k/\H p=some (.lst xs)/\ixN xs.length k=some j/\ ∀H',Chg H p (.lst (xs.set j v)) H' -> Q H'
theorem ao4:afn X awy:=ar1.weak fun o i v H Q ⟨p,xs,k,j,e1,e2,h,n,q⟩=> ⟨p,xs,k,j,e1,e2,h,n,q _ ⟨rfl⟩⟩
def az5(w:aT)(k:Nat)(t:eA):Prop:=t.led= !(w.params.followText "set-order")/\(k≠0 -> t.plain=false)
def qi(P:aR)(w:aT)(h:Heap)(a:Addr)(S:Str -> Bool)(n:Nat):Prop:=
 ∃o es ep t,h.get? a=some o/\o.ExactSet/\o.data=.set es ep t/\(ElemsOf (bu P w) es.toList/\(∀k,S k=true ↔ ∃e∈es.toList,(bu P w).is k e.2=true)
  /\es.size < cr/\t.fits es.size=true/\es.size=n)/\az5 w es.size t
theorem qi.congr{S S':Str -> Bool}{n':Nat}(z:qi P w h a S n)(hS: ∀k,S' k=S k)(hn:n'=n):qi P w h a S' n':=by
 subst hn
 obtain⟨o,es,ep,t,e,ex,d,⟨q1,q2,q3⟩,q4⟩:=z
 exact⟨o,es,ep,t,e,ex,d,⟨q1,fun k=> by rw [hS k];exact q2 k,q3⟩,q4⟩
theorem aue(t:eA)(es:Array (Int×ac))(h:Int)(x:ac):(layNew t es h x).2.1.led=t.led:=by
 have si: ∀(u:eA) (m:Nat),(u.orStandIn m).led=u.led:=fun u m=> by
  unfold SetTable.orStandIn
  by_cases c:u.fits m=true
  ·rw [if_pos c]
  ·rw [if_neg c];rfl
 unfold layNew
 cases t.freeSlot h with
 |none=> rfl
 |some q=>
  obtain⟨sl,wd⟩:=q
  exact (si _ _).trans rfl
theorem aj5{t t':eA}{hs:Array Int}{wd:Nat}{od:Array Nat}(e:t.relaid hs wd=some (t',od)):t'.led=t.led/\t'.plain=t.plain:=by
 unfold SetTable.relaid SetTable.laid at e
 cases c:SetTable.layClean (SetTable.sizeAbove wd - 1) hs with
 |none=> rw [c]at e;cases e
 |some ow=>
  rw [c]at e
  simp only [Option.bind_eq_bind,Option.bind_some,Option.pure_def,Option.some.injEq,Prod.mk.injEq]at e
  obtain⟨rfl,_⟩:=e
  exact⟨rfl,rfl⟩
theorem ap2(t:eA)(es:Array (Int×ac))(wd:Nat):(relayAll t es wd).2.1.led=t.led/\(t.plain=false -> (relayAll t es wd).2.1.plain=false):=by
 unfold relayAll
 cases c:t.relaid (es.map (·.1)) wd with
 |none=> exact⟨rfl,fun _=> rfl⟩
 |some q=>
  obtain⟨t',od⟩:=q
  obtain⟨k1,k2⟩:=aj5 c
  dsimp only
  split
  ·exact⟨k1,fun z=> k2.trans z⟩
  ·exact⟨rfl,fun _=> rfl⟩
theorem anf{o:Obj}{es:Array (Int×ac)}{ep:Nat}{t:eA}(ho:h.get? a=some o)(hex:o.ExactSet)(hd:o.data=.set es ep t){es':Array (Int×ac)}{t':eA}{S':Str -> Bool}(q:ElemsOf (bu prog w) es'.toList/\(∀k,S' k=true ↔ ∃e∈es'.toList,(bu prog w).is k e.2=true)/\es'.size < cr/\t'.fits es'.size=true)(tx:az5 w es'.size t'):
  (h.update a (Obj.putSet es' t')).get? a=some {o with data:=.set es' (ep+1) t'}/\qi prog w (h.update a (Obj.putSet es' t')) a S' es'.size:=by
 obtain⟨g,_⟩:=SetOf_store (knd:=bu prog w) ho hex hd q.1 q.2.1 q.2.2.1 q.2.2.2
 exact⟨g,_,es',ep+1,t',g,hex,rfl,⟨q.1,q.2.1,q.2.2.1,q.2.2.2,rfl⟩,tx⟩
theorem ate{g:Bool -> Sem Unit}(hg: ∀(b:Bool) (s1:ah) (Q':Unit -> ah -> Prop),Q' () s1 -> wpAny (model prog w) A (g b) Q' E s1){o:Obj}{es:Array (Int×ac)}{ep:Nat}{t:eA}(ho:s.heap.get? a=some o)(hex:o.ExactSet)(hd:o.data=.set es ep t){es1:Array (Int×ac)}{t2:eA}{S':Str -> Bool}(q:ElemsOf (bu prog w) es1.toList/\(∀k,S' k=true ↔ ∃e∈es1.toList,(bu prog w).is k e.2=true)/\es1.size < cr/\t2.fits es1.size=true)(tx:t2.led= !(w.params.followText "set-order")/\t2.plain=false){wasDummy:Bool}{R:Option Bool -> ah -> Prop}(h: ∀h',bh a s.heap h' -> qi prog w h' a S' es1.size -> R (some true) {s with heap:=h'}):
  wpAny (model prog w) A (do
   storeSet a es1 t2
   if (!wasDummy&&t2.tooFull)=true then do g (relayAll t2 es1 (c9 es1.size)).2.2;storeSet a (relayAll t2 es1 (c9 es1.size)).1 (relayAll t2 es1 (c9 es1.size)).2.1;pure (some true) else pure (some true)) R E s:=by
 obtain⟨q1,q2,q3,q4⟩:=q
 refine aa (wpAny_storeSet_of ho hd ?_ (fits_of_scanBound q3))
 obtain⟨g1,x1⟩:=anf (w:=w) (prog:=prog) ho hex hd ⟨q1,q2,q3,q4⟩ ⟨tx.1,fun _=> tx.2⟩
 have b1:=fV s.heap a (Obj.putSet es1 t2)
 split
 ·have p:=relayAll_perm t2 es1 (c9 es1.size)
  have f:=relayAll_fits t2 es1 (c9 es1.size)
  have tt:=ap2 t2 es1 (c9 es1.size)
  revert p f tt
  generalize relayAll t2 es1 (c9 es1.size)=Rl
  obtain⟨es2,t3,gv⟩:=Rl
  intro p f tt
  dsimp only at p f tt⊢
  have z:es2.size=es1.size:=by
   have:=p.length_eq
   rwa [aX,aX]at this
  have b2:es2.size < cr:=z▸q3
  refine aa (hg _ _ _ (aa (wpAny_storeSet_of g1 rfl ?_ (fits_of_scanBound b2))))
  obtain⟨_,x2⟩:=anf (w:=w) (prog:=prog) (S':=S') g1 hex rfl ⟨q1.perm p,fun k=> (q2 k).trans ⟨fun⟨e,m,y⟩=> ⟨e,p.mem_iff.mpr m,y⟩,fun⟨e,m,y⟩=> ⟨e,p.mem_iff.mp m,y⟩⟩,b2,f⟩ ⟨tt.1.trans tx.1,fun _=> tt.2 tx.2⟩
  exact aj (h _ (b1.trans (fV _ a _)) (z▸x2))
 ·exact aj (h _ b1 x1)
theorem a24{S:Str -> Bool}{k:Str}{tk:Tok}{Q:Bool -> ah -> Prop}(hS:qi prog w s.heap a S n)(hroom:n+1 < cr)(h: ∀h',bh a s.heap h' -> qi prog w h' a (fun y=> S y||decide (y=k)) (if S k then n else n+1) -> Q (!S k) {s with heap:=h'}):
  wpAny (model prog w) A (setAddHashed a (.str k tk) ((bu prog w).hash k)) Q E s:=by
 have hkey:(bu prog w).is k (.str k tk)=true:=by show eY k (.str k tk)=true;simp [eY]
 obtain⟨o,es,ep,t,ho,hex,hd,⟨hel,hmem,hb,hf,hn⟩,tx⟩:=hS
 have hgw: ∀(b:Bool) {s1:ah} {Q':Unit -> ah -> Prop},Q' () s1 -> wpAny (model prog w) A (match b with|true=> rule "set.scan.the-table-gave-way"|false=> pure ()) Q' E s1:=by
  intro b s1 Q' z
  cases b
  ·exact aj z
  ·exact ck z
 unfold setAddHashed setAddHashedIn;refine aW (aa (wpAny_setState_of ho hd hf ?_))
 dsimp only
 rw [byScan_of (knd:=bu prog w) rfl hb hel,if_pos rfl]
 unfold setAddByScan
 refine aa (aa (ck (aa (wpAny_setScan_of hkey ho hd hf hel ?_))))
 cases hr:List.findIdx? (fun e=> (bu prog w).is k e.2) es.toList with
 | some j=>
  obtain⟨hj,hpj,_⟩:=List.findIdx?_eq_some_iff_getElem.mp hr;have sk:S k=true:=(hmem k).mpr ⟨es.toList[j],gX hj,hpj⟩
  dsimp only
  refine aj (aj ?_);have z:=h s.heap (bh.refl a s.heap) ⟨o,es,ep,t,ho,hex,hd,⟨hel,fun y=> by
   rw [fL,decide_eq_true_eq,←hmem y]
   exact⟨fun c=> c.elim id (fun e=> e▸sk),.inl⟩,hb,hf,by rw [sk];exact hn⟩,tx⟩
  rw [sk]at z
  exact z
 | none=>
  dsimp only
  have sk:S k=false:=by
   cases c:S k with
   |false=> rfl
   |true=>
    obtain⟨e,m,y⟩:=(hmem k).mp c
    exact Bool.noConfusion (y.symm.trans (List.findIdx?_eq_none_iff.mp hr e m))
  have p:=layNew_perm t es ((bu prog w).hash k) (.str k tk)
  have f:=layNew_fits t es ((bu prog w).hash k) (.str k tk)
  have ld:=aue t es ((bu prog w).hash k) (.str k tk)
  revert p f ld
  generalize layNew t es ((bu prog w).hash k) (.str k tk)=L
  obtain⟨es1,t1,wd,gv⟩:=L
  intro p f ld
  dsimp only at p f ld⊢
  rw [Array.toList_push]at p
  have z1:es1.size=n+1:=by
   have:=p.length_eq
   rw [aX,aH,aX,hn]at this
   exact this
  have b1:es1.size < cr:=z1▸hroom
  have q:ElemsOf (bu prog w) es1.toList/\(∀y,(fun y=> S y||decide (y=k)) y=true ↔ ∃e∈es1.toList,(bu prog w).is y e.2=true)/\es1.size < cr:=
   ⟨(hel.push hkey rfl).perm p,fun y=> mem_push_iff hkey hmem p y,b1⟩
  have fin: ∀h',bh a s.heap h' -> qi prog w h' a (fun y=> S y||decide (y=k)) es1.size -> Q true {s with heap:=h'}:=fun h' u v=> by
   have:=h h' u
   rw [sk,if_neg av,←z1]at this
   exact this v
  refine aa (hgw _ ?_)
  split
  ·refine aa ?_
   rw [hashByValue_scannable 8 rfl]
   refine aj (ate (fun b s1 Q' z=> ?_) ho hex hd ⟨q.1,q.2.1,q.2.2,?_⟩ ⟨?_,?_⟩ fun h' u v=> ?_)
   ·cases b
    ·exact aj z
    ·exact ck z
   ·exact SetTable.fits_plain_off f
   ·exact ld.trans tx.1
   ·rfl
   ·dsimp only;exact aj (fin h' u v)
  ·rename_i hpl
   refine aa (aj ?_);simp only [↓reduceIte]
   refine ate (fun b s1 Q' z=> ?_) ho hex hd ⟨q.1,q.2.1,q.2.2,f⟩ ⟨ld.trans tx.1,?_⟩ fun h' u v=> ?_
   ·cases b
    ·exact aj z
    ·exact ck z
   ·simpa using hpl
   ·dsimp only;exact aj (fin h' u v)
theorem a25(a:ac){Q1:ac -> ah -> Prop}(h:Q1 (.ref s.heap.objs.size) {s with heap:=s.heap.push {cls:=.type "set",dict:=none,data:=.set #[] 0 (.fresh 0 0 (!(w.params.followText "set-order")))}}):
  codeAny (model prog w) A (.call (.builtin "set.__new__") ⟨[.type "set",a],[]⟩) (wants Q1 E) s:=by
 refine fM (show wpAny _ A.in1 (do fk "set.__new__" ⟨[.type "set",a],[]⟩;again (.builtin "set.__new__" ⟨[.type "set",a],[]⟩)) _ _ s from ?_)
 refine aa (gf (PySem.F.newCall_set_1 a) (aj ⟨d7 iD _,b7 PySem.F.entry_set_new ?_⟩))
 rw [bS iD _];unfold cf.«set.__new__» Builtin.Frozenset.newClass
 have sb:=PySem.sub_set_self
 obtain⟨hp,g,d,tk,os⟩:=s;dsimp only
 wp_walk
 refine wpAny_askSetting (aj ?_);dsimp only;simp only [newObj]
 exact aa (wpAny_alloc (aj (aj h)))
noncomputable def vc(l:List Str)(x:Str):List Str:=if x∈l then l else l++ [x]
def ju(xs:List Str):List Str:=xs.foldl vc []
theorem agf(xs:List Str)(x:Str):ju (xs++ [x])=vc (ju xs) x:=by unfold ju;rw [List.foldl_append];rfl
theorem abn{l:List Str}{y:Str}:y∈vc l x ↔ y∈l\/y=x:=by
 unfold vc
 split
 ·constructor
  ·exact gk
  ·rintro (h|rfl)
   ·exact h
   ·assumption
 ·simp
theorem alq{l:List Str}(h:l.Nodup):(vc l x).Nodup:=by
 unfold vc
 split
 ·exact h
 ·rename_i hx
  rw [eN]
  refine⟨h,by simp,fun a ha b hb=> ?_⟩
  rw [bm.mp hb]
  rintro rfl
  exact hx ha
theorem an4(xs:List Str):(ju xs).Nodup/\(∀y,y∈ju xs ↔ y∈xs)/\(ju xs).length <=xs.length:=by
 have all: ∀(ys acc:List Str),acc.Nodup -> (ys.foldl vc acc).Nodup/\(∀y,y∈ys.foldl vc acc ↔ y∈acc\/y∈ys)/\(ys.foldl vc acc).length <=acc.length+ys.length:=by
  intro ys
  induction ys with
  |nil=> intro acc h;exact⟨h,by simp,aq _⟩
  | cons z r ih=>
   intro acc h
   obtain⟨h1,h2,h3⟩:=ih (vc acc z) (alq h)
   refine⟨h1,fun y=> ?_,?_⟩
   ·rw [ii,h2,abn,aE]
    constructor
    ·rintro ((a|a)|a)
     ·exact .inl a
     ·exact .inr (.inl a)
     ·exact .inr (.inr a)
    ·rintro (a|a|a)
     ·exact .inl (.inl a)
     ·exact .inl (.inr a)
     ·exact .inr a
   ·rw [ii,aD]
    have:(vc acc z).length <=acc.length+1:=by unfold vc;split <;> simp
    lia
 have h:=all xs [] List.nodup_nil
 refine⟨h.1,fun y=> ?_,?_⟩
 ·show y∈xs.foldl vc [] ↔ _
  simpa using h.2.1 y
 ·show (xs.foldl vc []).length <=_
  simpa using h.2.2
theorem ama: ∀{xs:List Str},xs.Nodup -> ju xs=xs:=by
 intro xs h
 have all: ∀(ys acc:List Str),(acc++ys).Nodup -> ys.foldl vc acc=acc++ys:=by
  intro ys
  induction ys with
  |nil=> intro acc _;simp
  | cons z r ih=>
   intro acc hn
   have hz:z∉acc:=fun m=> by
    rw [eN]at hn
    exact hn.2.2 z m z az rfl
   rw [ii,show vc acc z=acc++ [z] from by unfold vc;rw [if_neg hz],ih _ (by rw [dw];exact hn),dw]
   rfl
 have:=all xs [] (by simpa using h)
 simpa [ju] using this
section
variable{prog:aR}{w:aT}{A:aZ}{R:Result -> ah -> Prop}{I:Addr}{wr fp:List Addr}{G:Array GenState -> Array GenState -> Prop}{n:Nat}{P:Nat -> ac -> Prop}{St:Nat -> ah -> Prop}
theorem ahu(W:WalksS prog w A.in1 I fp wr G n P St)(p:Addr)(hp:p∉fp)(xs:List Str)(hn:xs.length=n)(hval: ∀i v,P i v -> ∃x t,xs[i]?=some x/\v=.str x t)(hb:n+1 < cr):
  ∀(j i:Nat) (s:ah),i+j=n -> St i s -> qi prog w s.heap p (fun y=> decide (y∈ju (xs.take i))) (ju (xs.take i)).length ->
   (∀s',Moved (p::wr) G s s' -> qi prog w s'.heap p (fun y=> decide (y∈ju xs)) (ju xs).length -> R (.ok (.ret .none)) s') ->
   codeAny (model prog w) A (.builtin "set.update.loop" ⟨[.ref p,.ref I],[]⟩) R s:=by
 have hpw:p∉wr:=fun z=> hp (W.sub _ z)
 have up: ∀b∈wr,b∈p::wr:=fun b z=> ay _ z
 have stays: ∀{s s':ah} {S:Str -> Bool} {m:Nat},Moved wr G s s' -> qi prog w s.heap p S m -> qi prog w s'.heap p S m:=fun mv z=> by
  obtain⟨o,es,ep,t,ho,q⟩:=z
  exact⟨o,es,ep,t,mv.heap p _ hpw ho,q⟩
 intro j
 induction j with
 |zero=>
  intro i s hij hst hS hR
  have ei:i=n:=by lia
  subst ei
  refine b7 eB ?_
  rw [bS cT _]
  refine (show wpAny _ A.in1 (pyNext (.ref I)>>=_) _ _ s from aa (W.done s _ _ hst fun s' mv=> ?_))
  refine aj (hR s' (mv.mono up) ?_)
  have:=stays mv hS
  rw [eT (fI hn)]at this
  exact this
 | succ j ih=>
  intro i s hij hst hS hR
  refine b7 eB ?_
  rw [bS cT _]
  refine (show wpAny _ A.in1 (pyNext (.ref I)>>=_) _ _ s from aa (W.item i s _ _ (by lia) hst fun v s' hP hst' mv=> ?_))
  obtain⟨x,t,hx,rfl⟩:=hval i v hP
  show wpAny _ A.in1 (holding [gi x t] (setAdd p (.str x t))>>=_) _ _ s'
  refine aa (aW ?_);unfold setAdd
  refine aW (aa ((strKind prog w).pyHash (k:=x) (by show eY x (.str x t)=true;simp [eY]) ?_))
  have few:(ju (xs.take i)).length <=i:=a7 (an4 _).2.2 (by rw [dS];lia)
  refine a24 (s:={s' with toks:=s'.toks+1}) (show qi prog w s'.heap p _ _ from stays mv hS) (by lia) fun h' sb hS2=> ?_
  have et:xs.take (i+1)=xs.take i++ [x]:=by rw [List.take_add_one,hx];rfl
  have hS3:qi prog w h' p (fun y=> decide (y∈ju (xs.take (i+1)))) (ju (xs.take (i+1))).length:=by
   refine qi.congr hS2 (fun y=> ?_) ?_
   ·rw [et,agf]
    by_cases h1:y∈ju (xs.take i)
    ·simp [h1,abn]
    ·by_cases h2:y=x
     ·simp [h1,h2,abn]
     ·simp [h1,h2,abn]
   ·rw [et,agf]
    by_cases h1:x∈ju (xs.take i)
    ·rw [show vc (ju (xs.take i)) x=ju (xs.take i) from by unfold vc;rw [if_pos h1]];simp [h1]
    ·rw [show vc (ju (xs.take i)) x=ju (xs.take i)++ [x] from by unfold vc;rw [if_neg h1]];simp [h1]
  refine aj ⟨d7 cT _,ih (i+1) _ (by lia) (W.frame _ s' _ _ hst' (Nat.le_succ _) fun b hbm o e=> ?_) hS3 fun s'' mv2 hS''=> ?_⟩
  ·rw [sb.2 b (fun z:b=p=> hp (by rw [←z];exact hbm))];exact e
  ·refine hR s'' (Moved.trans W.gtrans ((mv.mono up).then_heap (Nat.le_succ _) fun b o hbm e=> ?_) mv2) hS''
   rw [sb.2 b (fun z:b=p=> hbm (by rw [z];exact az))];exact e
end
set_option maxHeartbeats 8000000 in
theorem aid{oc:Obj}(hh:A.handled=none)(hT:T="list"\/T="tuple")(ho:s.heap.get? a=some oc)(hc:oc.cls=.type T){its:Array ac}(hd:oc.data=.seq its k)(xs:List Str)(hx:jg (xs.map V.str) its.toList)(hb:its.size+1 < cr)(h: ∀(h':Heap) (tk:Nat),qi prog w h' s.heap.objs.size (fun y=> decide (y∈ju xs)) (ju xs).length -> (∀b o,b < s.heap.objs.size -> s.heap.get? b=some o -> h'.get? b=some o) -> Q (.ref s.heap.objs.size) {s with heap:=h',toks:=tk}):
  wpAny (model prog w) A (call (.type "set") [.ref a]) Q E s:=by
 obtain⟨cm,mrest,m0⟩:=de.mro
 have m1:=de.made
 have m2:=de.sub
 refine wpAny_call (fM (show wpAny _ _ (callAny (.type "set") _) _ _ _ from aj ⟨Code.quiet_builtin _ (by decide+kernel),b7 F.entry_type_call ?_⟩))
 rw [Around.under_plain (iE "set" [.ref a] []) rfl]
 have m3:=de.notType
 have m4:=de.canCreate
 have m5:=PySem.F.typeCall_set_1 (.ref a)
 repeat any_goals (first|assumption|wp_step)
 refine dC (a25 (.ref a) (E:=E) (Q1:=fun ob s1=> ∃led:Bool,led= !(w.params.followText "set-order")/\ob=.ref s.heap.objs.size/\s1={s with heap:=s.heap.push {cls:=.type "set",dict:=none,data:=.set #[] 0 (.fresh 0 0 led)}}) ⟨_,rfl,rfl,rfl⟩) fun r s1 hr=> ?_
 cases r with
 |error e=> exact hr
 | ok fl=>
  cases fl with
  | ret ob=>
   obtain⟨led,hled,rfl,rfl⟩:=hr
   have g0:(s.heap.push {cls:=.type "set",dict:=none,data:=.set #[] 0 (.fresh 0 0 led)}).get? s.heap.objs.size=some {cls:=.type "set",dict:=none,data:=.set #[] 0 (.fresh 0 0 led)}:=aC _ rfl
   have g1:Shared.TypeIs {s with heap:=s.heap.push {cls:=.type "set",dict:=none,data:=.set #[] 0 (.fresh 0 0 led)}} (.ref s.heap.objs.size) "set":=⟨_,g0,rfl⟩
   have m6:=de.init.lookup
   have m7:=de.init.bind (.ref s.heap.objs.size)
   repeat any_goals (first|assumption|wp_step)
   refine dC (fN (R:=wants (fun r s2=> r=.none/\ ∃h' tk,s2={s with heap:=h',toks:=tk}/\qi prog w h' s.heap.objs.size (fun y=> decide (y∈ju xs)) (ju xs).length/\
     (∀b o,b < s.heap.objs.size -> s.heap.get? b=some o -> h'.get? b=some o)) E) de.init.plain F.entry_set_init (check_set_init_1 g1 ?_)) fun r2 s2 hr2=> ?_
   ·have halt:a < s.heap.objs.size:=aB ho
    obtain⟨o1,o2,o3,o4⟩:=oc
    simp only at hc hd
    subst hc hd
    have g2:(s.heap.push {cls:=.type "set",dict:=none,data:=.set #[] 0 (.fresh 0 0 led)}).get? a=some {cls:=.type T,dict:=o2,data:=.seq its k,slots:=o4}:=ag _ ho
    have h3:A.in1.in1.in1.handled=none:=by simp [hh]
    have neI:a≠(s.heap.push {cls:=.type "set",dict:=none,data:=.set #[] 0 (.fresh 0 0 led)}).objs.size:=by
     rw [bt]
     exact aM (cY halt)
    have nf:s.heap.objs.size∉ [(s.heap.push {cls:=.type "set",dict:=none,data:=.set #[] 0 (.fresh 0 0 led)}).objs.size,a]:=by
     rw [bt]
     simp only [aE,bg,or_false,not_or]
     exact⟨aM (Nat.lt_succ_self _),dB halt⟩
    have hlen:xs.length=its.size:=by
     have:=hx.length
     rw [ak]at this
     simpa using this
    have hval: ∀(i:Nat) (v:ac),its[i]?=some v -> ∃x t,xs[i]?=some x/\v=.str x t:=fun i v hv=> by
     have hi:i < its.size:=(gA.mp hv).1
     have hxi:(xs.map V.str)[i]?=some (.str xs[i]):=by rw [aV,ax (by lia)];rfl
     obtain⟨u,hu,ru⟩:=hx.get hxi
     rw [cW,hv]at hu
     cases hu
     obtain⟨t,e⟩:=(show∃t,v=gi xs[i] t from ru)
     exact⟨xs[i],t,ax (by lia),e⟩
    have s0: ∀{o:Obj},qi prog w ((s.heap.push {cls:=.type "set",dict:=none,data:=.set #[] 0 (.fresh 0 0 led)}).push o) s.heap.objs.size (fun y=> decide (y∈ju (xs.take 0))) (ju (xs.take 0)).length:=fun {o}=> by
     exact⟨_,#[],0,_,ag _ g0,⟨rfl,rfl,rfl⟩,rfl,⟨fun e he=> by simp at he,fun k=> by simp [ju],by decide,rfl,rfl⟩,hled,fun z=> absurd rfl z⟩
    have fin: ∀(o:Obj) (s':ah),Moved [s.heap.objs.size,(s.heap.push {cls:=.type "set",dict:=none,data:=.set #[] 0 (.fresh 0 0 led)}).objs.size] (fun x y=> y=x) {s with heap:=(s.heap.push {cls:=.type "set",dict:=none,data:=.set #[] 0 (.fresh 0 0 led)}).push o} s' ->
      qi prog w s'.heap s.heap.objs.size (fun y=> decide (y∈ju xs)) (ju xs).length ->
      ∃h' tk,s'={s with heap:=h',toks:=tk}/\qi prog w h' s.heap.objs.size (fun y=> decide (y∈ju xs)) (ju xs).length/\(∀b o,b < s.heap.objs.size -> s.heap.get? b=some o -> h'.get? b=some o):=by
     intro o s' mv hS'
     obtain⟨h',ge,dr,tk',oz⟩:=s'
     have e1:ge=s.gens:=mv.gens
     have e2:dr=s.drawn:=mv.drawn
     have e3:oz=s.os:=mv.os
     subst e1 e2 e3
     refine⟨h',tk',rfl,hS',fun b o' hb' e=> mv.heap b o' ?_ (ag _ (ag _ e))⟩
     rw [bt]
     simp only [aE,bg,or_false,not_or]
     exact⟨aM hb',aM (cY hb')⟩
    rcases hT with rfl|rfl
    ·have n1:=PySem.F.sub_list_set
     have n2:=PySem.F.sub_list_frozenset
     have n3:(bd "list"==bd "dict")=false:=by decide
     have l1:(s.heap.push {cls:=.type "set",dict:=none,data:=.set #[] 0 (.fresh 0 0 led)}).IsList a its:=⟨_,g2,rfl,k,rfl⟩
     unfold cf.«set.__init__» noKeywords f7;generalize hPI:pyIter=PI
     wp_walk
     subst hPI
     refine dz l1 (aa (iF ?_))
     refine ahu ((Walks.list h3 _ a neI its).toS) s.heap.objs.size nf xs hlen hval hb its.size 0 _ (by lia) ⟨⟨_,aC _ rfl,rfl,rfl⟩,l1.push _⟩ s0 ?_
     intro s' mv hS'
     obtain⟨h',tk,rfl,z1,z2⟩:=fin _ s' mv hS'
     exact aj (show wpAny _ _ (ret aQ) _ _ _ from aj ⟨rfl,h',tk,rfl,z1,z2⟩)
    ·have n1:=PySem.F.sub_tuple_set
     have n2:=PySem.F.sub_tuple_frozenset
     have n3:(bd "tuple"==bd "dict")=false:=by decide
     have l1:(s.heap.push {cls:=.type "set",dict:=none,data:=.set #[] 0 (.fresh 0 0 led)}).IsTuple a its:=⟨_,g2,rfl,k,rfl⟩
     unfold cf.«set.__init__» noKeywords f7;generalize hPI:pyIter=PI
     wp_walk
     subst hPI
     refine gl l1 (aa (iF ?_))
     refine ahu ((Walks.tuple h3 _ a neI its).toS) s.heap.objs.size nf xs hlen hval hb its.size 0 _ (by lia) ⟨⟨_,aC _ rfl,rfl,rfl⟩,?_⟩ s0 ?_
     ·exact⟨_,ag _ g2,rfl,k,rfl⟩
     intro s' mv hS'
     obtain⟨h',tk,rfl,z1,z2⟩:=fin _ s' mv hS'
     exact aj (show wpAny _ _ (ret aQ) _ _ _ from aj ⟨rfl,h',tk,rfl,z1,z2⟩)
   ·cases r2 with
    |error e=> exact hr2
    | ok f2=>
     cases f2 with
     |ret u=>
      obtain⟨rfl,h',tk,rfl,z1,z2⟩:=hr2
      repeat any_goals (first|assumption|wp_step)
      exact h h' tk z1 z2
     |next=> exact hr2.elim
     |brk=> exact hr2.elim
     |cont=> exact hr2.elim
  |next=> exact hr.elim
  |brk=> exact hr.elim
  |cont=> exact hr.elim
def aj3(P:aR)(w:aT)(p:Addr)(xs:List Str):HO:=.ext fun h=> qi P w h p (fun y=> decide (y∈ju xs)) (ju xs).length
theorem avs{xs:List Str}(hS:qi P w h p (fun y=> decide (y∈ju xs)) (ju xs).length):j5 P w H h p (aj3 P w p xs):=by
 refine⟨hS,?_,fun h1 h2 z k=> ?_⟩
 ·obtain⟨o,_,_,_,e,_⟩:=hS
  exact⟨o,e⟩
 ·obtain⟨o,es,ep,t,e,q⟩:=z
  exact⟨o,es,ep,t,k o e,q⟩
theorem aow(hc:X.calm=true):vw X (.type "set") (fun vs H Q=> ∃a xs,vs=[.ref a]/\(SqL X.K H a (xs.map V.str)\/SqT X.K H a (xs.map V.str))/\xs.length < 4000/\ ∀p H',New H p (aj3 X.prog X.w p xs) H' -> Q (.ref p) H'):=by
 intro pins s σ H vs us Q I r h
 obtain⟨a,xs,rfl,hS,hl,q⟩:=h
 obtain⟨u,rfl,ru⟩:=vals1 r
 cases ru
 have hh:=I.ok.hd hc
 have fin: ∀(h':Heap) (tk:Nat),qi X.prog X.w h' s.heap.objs.size (fun y=> decide (y∈ju xs)) (ju xs).length -> (∀b o,b < s.heap.objs.size -> s.heap.get? b=some o -> h'.get? b=some o) ->
   EP X pins σ Q (.ref s.heap.objs.size) {s with heap:=h',toks:=tk}:=fun h' tk z k=>
  ⟨.ref s.heap.objs.size,upd H s.heap.objs.size (aj3 X.prog X.w s.heap.objs.size xs),I.laid (fun b u e=> k b u (aB e) e) (aq _) (avs z),rfl,q _ _ ⟨I.fresh,rfl⟩⟩
 rcases hS with hS|hS
 ·obtain⟨its,rv,⟨o,n,e,c,dd,d⟩,z⟩:=I.list hS
  have hsz:its.toArray.size+1 < cr:=by
   have:=rv.length
   rw [ak]at this
   rw [au]
   unfold cr
   lia
  exact aid hh (.inl rfl) e c d xs (by simpa using rv) hsz fin
 ·obtain⟨its,rv,⟨o,e,c,n,d⟩,z⟩:=I.tuple hS
  have hsz:its.toArray.size+1 < cr:=by
   have:=rv.length
   rw [ak]at this
   rw [au]
   unfold cr
   lia
  exact aid hh (.inr rfl) e c d xs (by simpa using rv) hsz fin
theorem aoy:vw X (.builtin "len") (fun vs H Q=> ∃a xs,vs=[.ref a]/\H a=some (aj3 X.prog X.w a xs)/\Q (.int (ju xs).length) H):=by
 intro pins s σ H vs us Q I r h
 obtain⟨a,xs,rfl,hS,q⟩:=h
 obtain⟨u,rfl,ru⟩:=vals1 r
 cases ru
 obtain⟨hh,_,_⟩:=(show j5 X.prog X.w H s.heap a (aj3 X.prog X.w a xs) from I.hok a _ hS)
 obtain⟨o,es,ep,t,e,ex,d,⟨_,_,hb,hf,hn⟩,_⟩:=hh
 refine call_len_set e ex d hf (by unfold cr at hb;lia) ⟨.int es.size,H,I.tok _,⟨_,rfl⟩,?_⟩
 rw [hn]
 exact q
theorem Inv.drew(I:Inv X pins σ H s)(d':Drawn):Inv X pins σ H {s with drawn:=d'}:=
 ⟨I.ok,I.os,I.bare,I.base,I.loc,I.cell,I.free,I.freeC,I.pin,I.hok,I.len⟩
def Nx(n:Nat)(Pv:Addr -> Nat -> List V -> Hp -> Prop)(D:Addr)(i:Nat)(ys:List V)(H:Hp):Prop:= ∃m',m' < n - i/\m'=n - (i+1)/\i+1 <=n/\ys.length <=i+1/\Pv D (i+1) ys H
theorem nx{Pv:Addr -> Nat -> List V -> Hp -> Prop}{D:Addr}(hi:i < n)(hl:ys.length <=i+1)(p:Pv D (i+1) ys H):Nx n Pv D i ys H:=⟨n - (i+1),by lia,rfl,hi,hl,p⟩
theorem anm(hc:X.calm=true):vw X (.builtin "all") (fun vs H Q=> ∃(a:Addr) (bs:List Bool),vs=[.ref a]/\SqL X.K H a (bs.map V.bl)/\Q (.bl (bs.all id)) H):=by
 intro pins s σ H vs us Q I r h
 obtain⟨a,bs,rfl,hS,q⟩:=h
 obtain⟨u,rfl,ru⟩:=vals1 r
 cases ru
 have hh:X.A.in1.handled=none:=I.ok.hd hc
 obtain⟨its,rv,⟨o,n,e,c,dd,d⟩,z⟩:=I.list hS
 have l1:s.heap.IsList a its.toArray:=⟨o,e,c,n,d⟩
 have hl:=rv.length
 rw [ak]at hl
 refine call_all_walk (dz l1 ⟨s.heap.objs.size,_,_,_,_,_,fun i=> bs.getD i true,rfl,Walks.list hh _ a (aM (aB e)) its.toArray,⟨⟨_,aC _ rfl,rfl,rfl⟩,l1.push _⟩,?_,fun h' tk k=> ?_⟩)
 ·intro i v s Q E hv hq
  have hi:i < bs.length:=by
   have:=(gA.mp hv).1
   rw [au]at this
   lia
  have e1:(bs.map V.bl)[i]?=some (.bl bs[i]):=by rw [aV,ax hi];rfl
  obtain⟨u,hu,ru⟩:=rv.get e1
  rw [List.getElem?_toArray,hu]at hv
  obtain rfl:u=v:=bN hv
  obtain rfl:u=dP bs[i]:=ru
  have e3:bs.getD i true=bs[i]:=by rw [bn,ax hi];rfl
  refine bK ?_
  rw [←e3];exact hq
 ·have ks: ∀b u,s.heap.get? b=some u -> h'.get? b=some u:=fun b u hb=> k b u (fun m=> absurd (aB hb) (by rw [bm.mp m];exact bU _)) (ag _ hb)
  have e2:(aU its.toArray.size).all (fun i=> bs.getD i true)=bs.all id:=by
   rw [au,←hl]
   rw [br]
   simp only [aw,dA,id_eq]
   constructor
   ·intro h b hb
    (obtain⟨i,hi,rfl⟩:=List.getElem_of_mem hb)
    have:=h i hi
    rw [bn,ax hi]at this
    exact this
   ·intro h i hi
    (rw [bn,ax hi])
    exact h _ (gX hi)
  rw [e2]
  exact⟨.bl (bs.all id),H,I.un (Un.kept ks) (I.hok.kept ks),rfl,q⟩
noncomputable def inD(d:ae)(ss:List Str):Bool:=match d with
 |.str y=> decide (y∈ss)
 |_=> false
theorem Inv.turnedL{h':Heap}{t':Nat}{ch:List Addr}(I:Inv X pins σ H s)(k: ∀b o,b∉ch -> s.heap.get? b=some o -> h'.get? b=some o)(hf: ∀b∈ch,v7 X pins H b):Inv X pins σ H {s with heap:=h',toks:=t'}:=by
 have no: ∀b u,H b=some u -> b∉ch:=fun b u e m=> by rw [(hf b m).1]at e;cases e
 refine I.step (g':=s.gens) (d':=s.drawn) (ch:=ch) (fun b m=> ⟨(hf b m).2.2.2.1,(hf b m).2.1,(hf b m).2.2.2.2.1,(hf b m).2.2.2.2.2⟩) (fun b o _ _ hc e _=> k b o hc e) (fun b o _ _ hc e _=> ⟨o.slots,k b o hc e⟩) (fun _ _ _ _ n=> n)
  (fun b o hc e=> ⟨o,k b o hc e⟩) (fun _ _ e=> e) (fun _ _ _ e=> e) (fun b ps e=> ⟨#[],by rw [e];simp⟩) (fun m hm=> ?_) (fun b u e=> ?_) I.bare
 ·obtain⟨o,es,ep,ho,r⟩:=hm
  exact⟨o,es,ep,k _ o (fun z=> (hf _ z).2.1 rfl) ho,r⟩
 ·refine (I.hok b u e).stay (fun c v hc q=> k c v ?_ q) (fun _ q=> q) fun _ _ q=> q
  rcases hc with z|z
  ·rw [z];exact no b u e
  ·exact no c _ z
theorem atp:bc "zip"=some (.type "zip"):=by decide+kernel
section
open HT
variable{prog:aR}{w:aT}{A:aZ}{E:ac -> ah -> Prop}{s:ah}
theorem ao9{t sl:Addr}{vl vu:ac}{lo hi:Option Int}(ht:IsTup s.heap t items)(hs:s.heap.IsSliceOf sl vl vu .none)(pl:eS vl lo)(pu:eS vu hi)(hw:sIx items.size 0 lo=0/\sIx items.size items.size hi=items.size)(h:Q (.ref t) s):wpAny (model prog w) A (getItem (.ref t) (.ref sl)) Q E s:=by
 obtain⟨os,hos,hcs,hds⟩:=id hs
 have hTs:s.TypeIs (.ref sl) "slice":=⟨os,hos,hcs⟩
 unfold getItem
 try with_reducible refine aW ?_
 first|refine aa (aj ?_)|skip
 refine aa (wpAny_sequenceKey ht.typeIs (by decide) (aa (bp (name:=aA "__getitem__") ht.typeIs bE
  (bz bE ht.typeIs jB ?_ (args_tuple_getitem _ _)))))
 show wpAny _ _ (dZ (.ref t)>>=_) _ _ s
 refine aa (tupleItemsOf_ ht (aa (dF hTs ?_)))
 rw [if_pos (by decide)]
 refine aa (aar hs pl pu ?_)
 have yes:(((sIx items.size 0 lo:Nat):Int)==0&&(1:Int)==1&&(sIx items.size items.size hi - sIx items.size 0 lo)==items.size)=true:=by
  rw [hw.1,hw.2];simp
 show wpAny _ _ (if (((sIx items.size 0 lo:Nat):Int)==0&&(1:Int)==1&&(sIx items.size items.size hi - sIx items.size 0 lo)==items.size)=true then _ else _) _ _ s
 rw [if_pos yes]
 unfold Builtin.Tuple.tupleIsExact
 refine aa (aa (dF ht.typeIs (aj ?_)))
 rw [if_pos (by decide)]
 exact aa (ck (aj ⟨_,rfl,aj h⟩))
end
def a1t(K:am):V -> Option Int -> Option Int -> Hp -> VK -> Prop:=fun x lo hi H Q=> ∃a xs,x=.ref a/\SqT K H a xs/\(ya xs lo hi=xs -> Q (.ref a) H)/\ ∀p H',New H p (.tup (ya xs lo hi)) H' -> Q (.ref p) H'
theorem avb:SlR X (a1t X.K):=by
 intro pins s σ H x v vl vu lo hi sl Q I rx hs pl pu h
 obtain⟨a,xs,rfl,hx,q1,q2⟩:=h
 by_cases c:HT.sIx xs.length 0 lo=0/\HT.sIx xs.length xs.length hi=xs.length
 ·cases rx
  obtain⟨its,r,ht,hz⟩:=I.tuple hx
  have hlen:its.toArray.size=xs.length:=by rw [au];exact r.length.symm
  refine⟨"tuple",_,bE.lookup,ht.typeIs,?_⟩
  refine ao9 ht hs pl pu (by rw [hlen];exact c) ⟨.ref a,H,I,rfl,q1 ?_⟩
  unfold ya
  rw [c.1,c.2];simp
 ·exact av5 pins s σ H (.ref a) v vl vu lo hi sl Q I rx hs pl pu ⟨a,xs,rfl,hx,c,q2⟩
noncomputable def axa(K:am):R2:=fun x y H Q=> ∃a b xs ys,x=.ref a/\y=.ref b/\SqT K H a xs/\SqT K H b ys/\xs.length+ys.length <=sizeLine/\(xs=[] -> Q (.ref b) H)/\(xs≠ [] -> ys=[] -> Q (.ref a) H)/\(xs≠ [] -> ys≠ [] -> ∀p H',New H p (.tup (xs++ys)) H' -> Q (.ref p) H')
theorem aqx:OpR X (binaryOp .Add) (axa X.K):=by
 intro pins s σ H x y v u Q I rx ry h
 obtain⟨a,b,xs,ys,rfl,rfl,ha,hb,hz,q0,q1,q2⟩:=h
 by_cases c:xs=[]
 ·cases rx
  cases ry
  obtain⟨its,r1,p1,_⟩:=I.tuple ha
  obtain⟨its2,r2,p2,_⟩:=I.tuple hb
  have e0:its=[]:=r1.nil_iff.mpr c
  subst e0
  obtain⟨⟨cls,dd,data,sl⟩,ho,hc,n,hd⟩:=id p1
  obtain⟨⟨cls2,dd2,data2,sl2⟩,ho2,hc2,n2,hd2⟩:=id p2
  simp only at hc hd hc2 hd2
  subst hc hd hc2 hd2
  exact jK ⟨_,ho,rfl⟩ ⟨_,ho2,rfl⟩ gT i3 eR eK (eo _ _) (tuple_addW0 a b _ _ n n2 dd dd2 sl sl2 (by simp)) ⟨ho,ho2,⟨.ref b,H,I,rfl,q0 c⟩⟩
 ·exact aw5 pins s σ H (.ref a) (.ref b) v u Q I rx ry ⟨a,b,xs,ys,rfl,rfl,ha,hb,c,hz,q1 c,fun d p hp=> q2 c d p _ ⟨hp,rfl⟩⟩
noncomputable def b01(b:Bool):Int:=if b=true then 1 else 0
def a3a:V -> Option Int
 |.int i=> some i
 |.bl b=> some (b01 b)
 |_=> none
theorem awa:OpR X (binaryOp .Add) (fun x y H Q=> ∃i j,a3a x=some i/\y=.int j/\Q (.int (i+j)) H):=by
 intro pins s σ H x y v u Q I rx ry h
 obtain⟨i,j,hx,rfl,q⟩:=h
 cases x with
 |int k=> cases hx;exact aot pins s σ H _ _ v u Q I rx ry ⟨_,j,rfl,rfl,q⟩
 |bl b=>
  cases hx
  cases rx
  obtain⟨t',rfl⟩:=ry
  exact PySem.IntBool.add_bool_int ⟨.int (b01 b+j),H,I.tok _,⟨_,rfl⟩,q⟩
 |_=> cases hx
theorem part_of{v:ac}{o:Option Int}(p:eS v o): ∃q:Option (Int×Tok),v=partValue q/\q.map (·.1)=o:=by
 cases p with
 |none=> exact⟨none,rfl,rfl⟩
 |int i t=> exact⟨some (i,t),rfl,rfl⟩
end L2
namespace L2
open PySem PySem.Spec PyProof.Rows PyProof.Rows.KTD
structure TabF (K:am) (d:Addr) (D:List (Str×Str)):Prop where
 tab: ∀h:Heap,K.In h -> TabOf (fun y v=> dG K bC y=some (some v)) h d D
 refs: ∀k y,datumAt k D=some y -> ∃f:Addr,dG K bC y=some (some (.ref f))
end L2
namespace PF
open PySem PySem.Spec
open L2
inductive D where
 |da (d:ae)|con (ds:List ae)|frz (ds:List ae)|set (ds:List ae)
 |ref (n:Nat)|fn (x:Str)|tabF (T:List (Str×Str))|ty (n:String)
abbrev D.non:D:=.da .none
abbrev D.bl(b:Bool):D:=.da (.bool b)
abbrev D.int(i:Int):D:=.da (.int i)
abbrev D.str(x:Str):D:=.da (.str x)
abbrev D.tup(ds:List ae):D:=.da (.tuple ds)
abbrev D.lst(ds:List ae):D:=.da (.list ds)
inductive O where
 |lst (ds:List D)|dct (kvs:List (ae×D))|set (ds:List D)|ins (C:Str) (fs:List (Str×D))|exc (C:Str) (fs:List (Str×D))|gone
abbrev S:=List O
inductive R (α:Type) where
 |ok (a:α) (s:S)
 |bad
noncomputable def R.bind{α β:Type}(r:R α)(f:α -> S -> R β):R β:=match r with
 |.ok a s=> f a s
 |.bad=>.bad
theorem R.bind_ok{α β:Type}(a:α)(s:S)(f:α -> S -> R β):(R.ok a s).bind f=f a s:=rfl
def R.W{α:Type}(r:R α)(Q:α -> S -> Prop):Prop:=match r with
 |.ok a s=> Q a s
 |.bad=> False
theorem R.W_ok{α:Type}(a:α)(s:S)(Q:α -> S -> Prop):(R.ok a s).W Q=Q a s:=rfl
theorem R.W_bind{α β:Type}(r:R α)(f:α -> S -> R β)(Q:β -> S -> Prop):(r.bind f).W Q=r.W fun a s=> (f a s).W Q:=by cases r <;> rfl
theorem R.W_mono{α:Type}{r:R α}{Q Q':α -> S -> Prop}(h:r.W Q)(k: ∀a s,Q a s -> Q' a s):r.W Q':=by
 cases r with
 |ok a s=> exact k a s h
 |bad=> exact h
theorem R.W_ex{α:Type}{r:R α}{Q:α -> S -> Prop}(h:r.W Q): ∃a s,r=.ok a s/\Q a s:=by
 cases r with
 |ok a s=> exact⟨a,s,rfl,h⟩
 |bad=> exact h.elim
structure As where
 ix:List (Option Addr)
 hd:List Addr
def As.has(as:As)(p:Addr):Prop:=some p∈as.ix\/p∈as.hd
abbrev As.add(as:As)(p:Addr):As:={as with ix:=as.ix++ [some p]}
abbrev As.cut(as:As)(n:Nat):As:={as with ix:=as.ix.set n none}
abbrev As.hide(as:As)(p:Addr):As:={as with hd:=p::as.hd}
abbrev As.show(as:As)(p:Addr):As:={as with hd:=as.hd.filter fun q=> decide (q≠p)}
structure Step0 (as:As) (H:Hp) (as':As) (H':Hp):Prop where
 len:as.ix.length <=as'.ix.length
 old: ∀n:Nat,n < as.ix.length -> as'.ix[n]?=as.ix[n]?\/as'.ix[n]?=some none
 back: ∀p,as'.has p -> as.has p\/H p=none
 keep: ∀b o,¬as.has b -> H b=some o -> H' b=some o
 dom: ∀b,H b≠none -> H' b≠none
structure Step (as:As) (H:Hp) (as':As) (H':Hp):Prop extends Step0 as H as' H' where
 hk: ∀p∈as.hd,p∈as'.hd
 hh: ∀p∈as.hd,∀o,H p=some o -> H' p=some o
theorem Step.refl(as:As)(H:Hp):Step as H as H where
 len:=aq _
 old _ _:=.inl rfl
 back _ h:=.inl h
 keep _ _ _ e:=e
 dom _ e:=e
 hk _ h:=h
 hh _ _ _ e:=e
theorem qd{as:As}:some p∈as.ix ↔ ∃n:Nat,as.ix[n]?=some (some p):=by
 rw [fA]
theorem Step0.out{as as':As}(st:Step0 as H as' H'){b:Addr}(n: ¬as.has b)(e:H b=some o): ¬as'.has b:=fun m=> by
 rcases st.back b m with q|q
 ·exact n q
 ·rw [e]at q;cases q
theorem Step0.trans{as as1 as2:As}{H1 H2:Hp}(a:Step0 as H as1 H1)(b:Step0 as1 H1 as2 H2):Step0 as H as2 H2 where
 len:=a7 a.len b.len
 old n hn:=by
  rcases b.old n (aJ hn a.len) with q|q
  ·rw [q];exact a.old n hn
  ·exact .inr q
 back p h:=by
  rcases b.back p h with q|q
  ·exact a.back p q
  ·right
   cases z:H p with
   |none=> rfl
   |some o=> exact absurd q (a.dom p (by rw [z];simp))
 keep b' o n e:=b.keep b' o (a.out n e) (a.keep b' o n e)
 dom b' e:=b.dom b' (a.dom b' e)
theorem Step.trans{as as1 as2:As}{H1 H2:Hp}(a:Step as H as1 H1)(b:Step as1 H1 as2 H2):Step as H as2 H2:=⟨a.toStep0.trans b.toStep0,fun p h=> b.hk p (a.hk p h),fun p h o e=> b.hh p (a.hk p h) o (a.hh p h o e)⟩
mutual
inductive TD (as:As) (H:Hp):V -> ae -> Prop
 |non:TD as H .non .none
 |bl (b:Bool):TD as H (.bl b) (.bool b)
 |int (i:Int):TD as H (.int i) (.int i)
 |str (x:Str):TD as H (.str x) (.str x)
 |tup {p:Addr} {xs:List V} {ds:List ae}: ¬as.has p -> H p=some (.tup xs) -> TDs as H xs ds -> TD as H (.ref p) (.tuple ds)
 |lst {p:Addr} {xs:List V} {ds:List ae}: ¬as.has p -> H p=some (.lst xs) -> TDs as H xs ds -> TD as H (.ref p) (.list ds)
 |dct {p:Addr}: ¬as.has p -> H p=some (.dK []) -> TD as H (.ref p) (.dict [])
 |dc1 {p:Addr} {i:Int} {v:V} {d:ae}: ¬as.has p -> H p=some (.dK [(.inl i,v)]) -> TD as H v d -> TD as H (.ref p) (.dict [(.int i,d)])
inductive TDs (as:As) (H:Hp):List V -> List ae -> Prop
 |nil:TDs as H [] []
 |cons {x:V} {xs:List V} {d:ae} {ds:List ae}:TD as H x d -> TDs as H xs ds -> TDs as H (x::xs) (d::ds)
end
inductive RD (K:am) (as:As) (H:Hp):V -> D -> Prop
 |da {v:V} {d:ae}:TD as H v d -> RD K as H v (.da d)
 |ty (n:String):RD K as H (.ty n) (.ty n)
 |fn {f:Addr} {x:Str}:dG K bC x=some (some (.ref f)) -> RD K as H (.ref f) (.fn x)
 |tabF {d:Addr} {T:List (Str×Str)}:TabF K d T -> RD K as H (.ref d) (.tabF T)
 |con {p:Addr} {xs:List V} {ds:List ae}:(∀H',SqT K H' p xs) -> TDs as H xs ds -> RD K as H (.ref p) (.con ds)
 |frz {p:Addr} {xs:List V} {ds:List ae}:(∀as' H',Step0 as H as' H' -> SqL K H' p xs) -> TDs as H xs ds -> RD K as H (.ref p) (.frz ds)
 |ref {p:Addr} {n:Nat}:n < as.ix.length -> (∀q,as.ix[n]?=some (some q) -> q=p) -> RD K as H (.ref p) (.ref n)
inductive RDs (K:am) (as:As) (H:Hp):List V -> List D -> Prop
 |nil:RDs K as H [] []
 |cons {x:V} {xs:List V} {d:D} {ds:List D}:RD K as H x d -> RDs K as H xs ds -> RDs K as H (x::xs) (d::ds)
noncomputable def kP:Key -> ae
 |.inl i=>.int i
 |.inr x=>.str x
def isT:ae -> Bool
 |.tuple xs=> aem (.tuple xs)
 |_=> false
inductive DRs (K:am) (as:As) (H:Hp):List (ae×V) -> List (ae×D) -> Prop
 |nil:DRs K as H [] []
 |cons {k:ae} {v:V} {d:D} {l:List (ae×V)} {kvs:List (ae×D)}:RD K as H v d -> DRs K as H l kvs -> DRs K as H ((k,v)::l) ((k,d)::kvs)
inductive FRs (K:am) (as:As) (H:Hp):List (Str×V) -> List (Str×D) -> Prop
 |nil:FRs K as H [] []
 |cons {f:Str} {v:V} {d:D} {l:List (Str×V)} {fs:List (Str×D)}:RD K as H v d -> FRs K as H l fs -> FRs K as H ((f,v)::l) ((f,d)::fs)
def pvK(l:List (Key×V)):List (ae×V):=l.map fun e=> (kP e.1,e.2)
def RO(K:am)(as:As)(H:Hp)(p:Addr):O -> Prop
 |.lst ds=> ∃xs,H p=some (.lst xs)/\RDs K as H xs ds
 |.dct kvs=> (∃l:List (Key×V),H p=some (.dK l)/\DRs K as H (pvK l) kvs)\/ ∃l:List (ae×V),(l≠ []/\(l.all fun e=> isT e.1)=true)/\H p=some (.dD l)/\DRs K as H l kvs
 |.ins C fs=> ∃(Ca dx:Addr) (gs:List (Str×V)),dG K bC C=some (some (.ref Ca))/\H p=some (.ins Ca dx gs)/\FRs K as H gs fs
 |.exc C fs=> ∃(Ca:Addr) (gs:List (Str×V)),dG K bC C=some (some (.ref Ca))/\H p=some (.exn Ca gs)/\FRs K as H gs fs
 |_=> False
structure Rel (K:am) (as:As) (H:Hp) (s:S):Prop where
 len:as.ix.length=s.length
 nd: ∀(i j:Nat) (p:Addr),as.ix[i]?=some (some p) -> as.ix[j]?=some (some p) -> i=j
 ob: ∀(n:Nat) (p:Addr) (o:O),as.ix[n]?=some (some p) -> s[n]?=some o -> RO K as H p o
 li: ∀(n:Nat) (o:O),s[n]?=some o -> o≠ .gone -> ∃p,as.ix[n]?=some (some p)
 hs: ∀p∈as.hd,∃xs,H p=some (.lst xs)
 hx: ∀p∈as.hd,some p∉as.ix
mutual
theorem TD.mono0{as as':As}{H H':Hp}(st:Step0 as H as' H'): ∀{v:V} {d:ae},TD as H v d -> TD as' H' v d
 |_,_,.non=>.non
 |_,_,.bl b=>.bl b
 |_,_,.int i=>.int i
 |_,_,.str x=>.str x
 |_,_,.tup n e r=>.tup (st.out n e) (st.keep _ _ n e) (TDs.mono0 st r)
 |_,_,.lst n e r=>.lst (st.out n e) (st.keep _ _ n e) (TDs.mono0 st r)
 |_,_,.dct n e=>.dct (st.out n e) (st.keep _ _ n e)
 |_,_,.dc1 n e t=>.dc1 (st.out n e) (st.keep _ _ n e) (TD.mono0 st t)
theorem TDs.mono0{as as':As}{H H':Hp}(st:Step0 as H as' H'): ∀{vs:List V} {ds:List ae},TDs as H vs ds -> TDs as' H' vs ds
 |_,_,.nil=>.nil
 |_,_,.cons a r=>.cons (TD.mono0 st a) (TDs.mono0 st r)
end
theorem RD.mono0{as as':As}(st:Step0 as H as' H'){d:D}(h:RD K as H v d):RD K as' H' v d:=by
 cases h with
 |da t=> exact .da (t.mono0 st)
 |ty n=> exact .ty n
 |fn a=> exact .fn a
 |tabF a=> exact .tabF a
 |con h r=> exact .con h (r.mono0 st)
 |frz h r=> exact .frz (fun as' H' s2=> h as' H' (st.trans s2)) (r.mono0 st)
 |ref l h=>
  refine .ref (aJ l st.len) fun q e=> ?_
  rcases st.old _ l with z|z
  ·rw [z]at e;exact h q e
  ·rw [z]at e;cases e
theorem RDs.mono0{K:am}{as as':As}{H H':Hp}(st:Step0 as H as' H'): ∀{vs:List V} {ds:List D},RDs K as H vs ds -> RDs K as' H' vs ds
 |_,_,.nil=>.nil
 |_,_,.cons a r=>.cons (RD.mono0 st a) (RDs.mono0 st r)
theorem FRs.mono0{K:am}{as as':As}{H H':Hp}(st:Step0 as H as' H'): ∀{l:List (Str×V)} {fs:List (Str×D)},FRs K as H l fs -> FRs K as' H' l fs
 |_,_,.nil=>.nil
 |_,_,.cons a r=>.cons (a.mono0 st) (FRs.mono0 st r)
theorem DRs.mono0{K:am}{as as':As}{H H':Hp}(st:Step0 as H as' H'): ∀{l:List (ae×V)} {kvs:List (ae×D)},DRs K as H l kvs -> DRs K as' H' l kvs
 |_,_,.nil=>.nil
 |_,_,.cons a r=>.cons (RD.mono0 st a) (DRs.mono0 st r)
theorem TD.mono{as as':As}(st:Step as H as' H'){d:ae}(h:TD as H v d):TD as' H' v d:=h.mono0 st.toStep0
theorem TDs.mono{as as':As}(st:Step as H as' H'){v:List V}{d:List ae}(h:TDs as H v d):TDs as' H' v d:=h.mono0 st.toStep0
theorem RD.mono{as as':As}(st:Step as H as' H'){d:D}(h:RD K as H v d):RD K as' H' v d:=h.mono0 st.toStep0
theorem RDs.mono{as as':As}(st:Step as H as' H'){v:List V}{d:List D}(h:RDs K as H v d):RDs K as' H' v d:=h.mono0 st.toStep0
section
variable{K:am}{as:As}{H:Hp}
theorem RDs.length: ∀{vs:List V} {ds:List D},RDs K as H vs ds -> vs.length=ds.length
 |_,_,.nil=> rfl
 |_,_,.cons _ r=> congrArg (· +1) (RDs.length r)
theorem RDs.append: ∀{vs ws:List V} {ds es:List D},RDs K as H vs ds -> RDs K as H ws es -> RDs K as H (vs++ws) (ds++es)
 |_,_,_,_,.nil,s=> s
 |_,_,_,_,.cons a r,s=>.cons a (RDs.append r s)
theorem RDs.get: ∀{vs:List V} {ds:List D} {i:Nat} {d:D},RDs K as H vs ds -> ds[i]?=some d -> ∃v,vs[i]?=some v/\RD K as H v d
 |_,_,_,_,.nil,e=> by simp at e
 |_,_,0,_,.cons a _,e=> by simp at e;subst e;exact⟨_,rfl,a⟩
 |_,_,i+1,d,.cons _ r,e=> by
  obtain⟨v,h1,h2⟩:=RDs.get (i:=i) (d:=d) r (by simpa using e)
  exact⟨v,by simpa using h1,h2⟩
theorem RDs.set: ∀{vs:List V} {ds:List D} (i:Nat) {v:V} {d:D},RD K as H v d -> RDs K as H vs ds -> RDs K as H (vs.set i v) (ds.set i d)
 |_,_,_,_,_,_,.nil=>.nil
 |_,_,0,_,_,r,.cons _ t=>.cons r t
 |_,_,i+1,_,_,r,.cons q t=>.cons q (RDs.set i r t)
theorem RDs.take: ∀{vs:List V} {ds:List D} (n:Nat),RDs K as H vs ds -> RDs K as H (vs.take n) (ds.take n)
 |_,_,0,_=>.nil
 |_,_,_+1,.nil=>.nil
 |_,_,n+1,.cons r t=>.cons r (RDs.take n t)
theorem RDs.drop: ∀{vs:List V} {ds:List D} (n:Nat),RDs K as H vs ds -> RDs K as H (vs.drop n) (ds.drop n)
 |_,_,0,r=> r
 |_,_,_+1,.nil=>.nil
 |_,_,n+1,.cons _ t=> RDs.drop n t
end
section
variable{as:As}{H:Hp}
theorem TDs.length: ∀{vs:List V} {ds:List ae},TDs as H vs ds -> vs.length=ds.length
 |_,_,.nil=> rfl
 |_,_,.cons _ r=> congrArg (· +1) (TDs.length r)
theorem TDs.append: ∀{vs ws:List V} {ds es:List ae},TDs as H vs ds -> TDs as H ws es -> TDs as H (vs++ws) (ds++es)
 |_,_,_,_,.nil,s=> s
 |_,_,_,_,.cons a r,s=>.cons a (TDs.append r s)
theorem TDs.get: ∀{vs:List V} {ds:List ae} {i:Nat} {d:ae},TDs as H vs ds -> ds[i]?=some d -> ∃v,vs[i]?=some v/\TD as H v d
 |_,_,_,_,.nil,e=> by simp at e
 |_,_,0,_,.cons a _,e=> by simp at e;subst e;exact⟨_,rfl,a⟩
 |_,_,i+1,d,.cons _ r,e=> by
  obtain⟨v,h1,h2⟩:=TDs.get (i:=i) (d:=d) r (by simpa using e)
  exact⟨v,by simpa using h1,h2⟩
theorem TDs.take: ∀{vs:List V} {ds:List ae} (n:Nat),TDs as H vs ds -> TDs as H (vs.take n) (ds.take n)
 |_,_,0,_=>.nil
 |_,_,_+1,.nil=>.nil
 |_,_,n+1,.cons r t=>.cons r (TDs.take n t)
theorem TDs.drop: ∀{vs:List V} {ds:List ae} (n:Nat),TDs as H vs ds -> TDs as H (vs.drop n) (ds.drop n)
 |_,_,0,r=> r
 |_,_,_+1,.nil=>.nil
 |_,_,n+1,.cons _ t=> TDs.drop n t
end
theorem TDs.rd{K:am}{as:As}{H:Hp}: ∀{vs:List V} {ds:List ae},TDs as H vs ds -> RDs K as H vs (ds.map D.da)
 |_,_,.nil=>.nil
 |_,_,.cons a r=>.cons (.da a) (TDs.rd r)
noncomputable def jj:List D -> Option (List ae)
 |[]=> some []
 |.da d::r=> match jj r with
  |some ds=> some (d::ds)
  |none=> none
 |_=> none
theorem k6: ∀ds:List ae,jj (ds.map D.da)=some ds
 |[]=> rfl
 |d::r=> by rw [aG,jj,k6 r]
theorem yc: ∀{ds:List D} {xs:List ae},jj ds=some xs -> ds=xs.map D.da
 |[],xs,h=> by cases h;rfl
 |.da d::r,xs,h=> by
  rw [jj]at h
  cases q:jj r with
  |none=> rw [q]at h;cases h
  |some ys=> rw [q]at h;cases h;rw [yc q];rfl
 |.con _::_,_,h=> by cases h
 |.frz _::_,_,h=> by cases h
 |.set _::_,_,h=> by cases h
 |.ref _::_,_,h=> by cases h
 |.fn _::_,_,h=> by cases h
 |.tabF _::_,_,h=> by cases h
 |.ty _::_,_,h=> by cases h
theorem RDs.td{K:am}{as:As}{H:Hp}: ∀{vs:List V} {ds:List ae},RDs K as H vs (ds.map D.da) -> TDs as H vs ds
 |_,[],h=> by cases h;exact .nil
 |_,d::r,h=> by
  cases h with
  |cons a b=> cases a with|da a=> exact .cons a (RDs.td b)
theorem afa{b:Addr}(n:New H p o H')(e:H b≠none):H' b≠none:=by
 cases q:H b with
 |none=> exact absurd q e
 |some u=> rw [n.keep q];simp
theorem jy{as:As}(n:New H p o H'):Step as H as H' where
 len:=aq _
 old _ _:=.inl rfl
 back _ h:=.inl h
 keep _ _ _ e:=n.keep e
 dom _ e:=afa n e
 hk _ h:=h
 hh _ _ _ e:=n.keep e
theorem va{α:Type}{l:List α}{x y:α}(e:(l++ [x])[i]?=some y):(i < l.length/\l[i]?=some y)\/(i=l.length/\y=x):=by
 by_cases h:i < l.length
 ·rw [aS h]at e;exact .inl ⟨h,e⟩
 ·have h2:i - l.length=0\/1 <=i - l.length:=by lia
  rw [bF (bR h)]at e
  rcases h2 with z|z
  ·rw [z]at e
   simp at e
   exact .inr ⟨by lia,e.symm⟩
  ·rw [cw.mpr (by simpa using z)]at e
   cases e
theorem ala{as:As}{q:Addr}(h:(as.add p).has q):as.has q\/q=p:=by
 rcases h with h|h
 ·rcases bH.mp h with z|z
  ·exact .inl (.inl z)
  ·exact .inr (by simpa using z)
 ·exact .inl (.inr h)
theorem acw{as:As}(n:New H p o H'):Step as H (as.add p) H' where
 len:=by simp
 old i h:=.inl (aS h)
 back q h:=by
  rcases ala h with z|z
  ·exact .inl z
  ·subst z;exact .inr n.no
 keep _ _ _ e:=n.keep e
 dom _ e:=afa n e
 hk _ h:=h
 hh _ _ _ e:=n.keep e
theorem zm{as:As}(m:as.has p)(c:Chg H p o H'):Step0 as H as H' where
 len:=aq _
 old _ _:=.inl rfl
 back _ h:=.inl h
 keep b u n e:=c.keep (fun z=> n (z▸m)) e
 dom b e:=by
  by_cases z:b=p
  ·subst z;rw [c.at];simp
  ·cases q:H b with
   |none=> exact absurd q e
   |some u=> rw [c.keep z q];simp
theorem apw{as:As}(m:some p∈as.ix)(nh:p∉as.hd)(c:Chg H p o H'):Step as H as H':=⟨zm (.inl m) c,fun _ h=> h,fun q h u e=> c.keep (fun z=> nh (z▸h)) e⟩
theorem ars{as as2:As}{H1 H2:Hp}(st:Step as H as2 H1)(no:H p=none)(nh:p∉as.hd)(m:p∈as2.hd)(c:Chg H1 p o H2):Step as H as2 H2:=
 ⟨⟨st.len,st.old,st.back,fun b u n e=> c.keep (vj e no) (st.keep b u n e),fun b e=> (zm (.inr m) c).dom b (st.dom b e)⟩,st.hk,fun q h u e=> c.keep (fun z=> nh (z▸h)) (st.hh q h u e)⟩
theorem aes{as:As}{q:Addr}(e:(as.cut n).ix[i]?=some (some q)):as.ix[i]?=some (some q):=by
 by_cases z:n=i
 ·subst z
  rw [cZ]at e
  simp at e
 ·rw [aY z]at e;exact e
theorem ae7{as:As}(n:Nat):Step as H (as.cut n) H where
 len:=by simp
 old i h:=by
  by_cases z:n=i
  ·subst z;right;simp [h]
  ·left;rw [aY z]
 back p h:=by
  rcases h with h|h
  ·obtain⟨i,hi⟩:=qd.mp h
   exact .inl (.inl (qd.mpr ⟨i,aes hi⟩))
  ·exact .inl (.inr h)
 keep _ _ _ e:=e
 dom _ e:=e
 hk _ h:=h
 hh _ _ _ e:=e
theorem agh{as:As}(n:New H p o H'):Step as H (as.hide p) H' where
 len:=aq _
 old _ _:=.inl rfl
 back q h:=by
  rcases h with h|h
  ·exact .inl (.inl h)
  ·rcases aE.mp h with z|z
   ·subst z;exact .inr n.no
   ·exact .inl (.inr z)
 keep _ _ _ e:=n.keep e
 dom _ e:=afa n e
 hk _ h:=ay _ h
 hh _ _ _ e:=n.keep e
theorem aje{as:As}{q:Addr}(h:(as.show p).has q):as.has q:=by
 rcases h with h|h
 ·exact .inl h
 ·exact .inr (bG.mp h).1
theorem acl{as:As}:Step0 as H (as.show p) H where
 len:=aq _
 old _ _:=.inl rfl
 back q h:=.inl (aje h)
 keep _ _ _ e:=e
 dom _ e:=e
theorem ack{as:As}(m:p∈as.hd):Step0 as H ((as.show p).add p) H where
 len:=by simp
 old i h:=.inl (aS h)
 back q h:=by
  rcases ala h with z|z
  ·exact .inl (aje z)
  ·subst z;exact .inl (.inr m)
 keep _ _ _ e:=e
 dom _ e:=e
theorem aq2{as as2:As}{H2:Hp}(st:Step as H as2 H2)(nh:p∉as.hd)(st2:Step0 as2 H2 (as2.show p) H2):Step as H (as2.show p) H2:=
 ⟨st.toStep0.trans st2,fun q h=> bG.mpr ⟨st.hk q h,by
  have:q≠p:=fun z=> nh (z▸h)
  simp [this]⟩,st.hh⟩
theorem aop{as as2:As}{H2:Hp}(st:Step as H as2 H2)(nh:p∉as.hd)(m:p∈as2.hd):Step as H ((as2.show p).add p) H2:=
 ⟨st.toStep0.trans (ack m),fun q h=> bG.mpr ⟨st.hk q h,by
  have:q≠p:=fun z=> nh (z▸h)
  simp [this]⟩,st.hh⟩
section
variable{K:am}{as as':As}{H H':Hp}{s:S}{p:Addr}
theorem RO.mono0(st:Step0 as H as' H'){o:O}(e:H' p=H p)(h:RO K as H p o):RO K as' H' p o:=by
 cases o with
 |lst ds=>
  obtain⟨xs,e1,r⟩:=h
  exact⟨xs,e.trans e1,r.mono0 st⟩
 |dct kvs=>
  rcases h with ⟨l,e1,r⟩|⟨l,e0,e1,r⟩
  ·exact .inl ⟨l,e.trans e1,r.mono0 st⟩
  ·exact .inr ⟨l,e0,e.trans e1,r.mono0 st⟩
 |ins C fs=>
  obtain⟨Ca,dx,gs,e0,e1,r⟩:=h
  exact⟨Ca,dx,gs,e0,e.trans e1,r.mono0 st⟩
 |exc C fs=>
  obtain⟨Ca,gs,e0,e1,r⟩:=h
  exact⟨Ca,gs,e0,e.trans e1,r.mono0 st⟩
 |_=> exact h.elim
theorem RO.some{o:O}(h:RO K as H p o):H p≠none:=by
 cases o with
 |lst ds=>
  obtain⟨xs,e1,r⟩:=h
  rw [e1];simp
 |dct kvs=>
  rcases h with ⟨l,e1,r⟩|⟨l,e0,e1,r⟩ <;> (rw [e1];simp)
 |ins C fs=>
  obtain⟨Ca,dx,gs,e0,e1,r⟩:=h
  rw [e1];simp
 |exc C fs=>
  obtain⟨Ca,gs,e0,e1,r⟩:=h
  rw [e1];simp
 |_=> exact h.elim
theorem Rel.at(r:Rel K as H s)(e:as.ix[n]?=some (some p)):H p≠none:=by
 have hl:n < s.length:=by
  rw [←r.len]
  exact (aF.mp e).1
 exact (r.ob n p _ e (ax hl)).some
theorem Rel.has(r:Rel K as H s)(h:as.has p):H p≠none:=by
 rcases h with h|h
 ·obtain⟨i,hi⟩:=qd.mp h
  exact r.at hi
 ·obtain⟨xs,e⟩:=r.hs p h
  rw [e];simp
theorem abc{q:Addr}(k: ∀o,H q=some o -> H' q=some o)(h:H q≠none):H' q=H q:=by
 cases z:H q with
 |none=> exact absurd z h
 |some x=> rw [k x z]
theorem Rel.new(r:Rel K as H s)(n:New H p o H'):Rel K as H' s where
 len:=r.len
 nd:=r.nd
 ob i q u e1 e2:=(r.ob i q u e1 e2).mono0 (jy n).toStep0 (abc (fun _=> n.keep) (r.at e1))
 li:=r.li
 hs q h:=let ⟨xs,e⟩:=r.hs q h;⟨xs,n.keep e⟩
 hx:=r.hx
theorem Rel.laid{u:O}(r:Rel K as H s)(n:New H p o H')(h:RO K (as.add p) H' p u):Rel K (as.add p) H' (s++ [u]) where
 len:=by simp [r.len]
 nd i j q e1 e2:=by
  rcases va e1 with ⟨l1,z1⟩|⟨l1,z1⟩ <;> rcases va e2 with ⟨l2,z2⟩|⟨l2,z2⟩
  ·exact r.nd i j q z1 z2
  ·cases z2;exact absurd n.no (r.at z1)
  ·cases z1;exact absurd n.no (r.at z2)
  ·rw [l1,l2]
 ob i q x e1 e2:=by
  rcases va e1 with ⟨l1,z1⟩|⟨l1,z1⟩ <;> rcases va e2 with ⟨l2,z2⟩|⟨l2,z2⟩
  ·exact (r.ob i q x z1 z2).mono0 (acw n).toStep0 (abc (fun _=> n.keep) (r.at z1))
  ·rw [l2,←r.len]at l1;exact absurd l1 (bU _)
  ·rw [l1,r.len]at l2;exact absurd l2 (bU _)
  ·cases z1;subst z2;exact h
 li i x e g:=by
  rcases va e with ⟨l1,z1⟩|⟨l1,z1⟩
  ·obtain⟨q,hq⟩:=r.li i x z1 g
   exact⟨q,by rw [aS (by rw [r.len];exact l1)];exact hq⟩
  ·exact⟨p,by rw [l1,←r.len];simp⟩
 hs q h:=let ⟨xs,e⟩:=r.hs q h;⟨xs,n.keep e⟩
 hx q h m:=by
  rcases bH.mp m with z|z
  ·exact r.hx q h z
  ·have:q=p:=by simpa using z
   subst this
   obtain⟨xs,e⟩:=r.hs q h
   rw [n.no]at e;cases e
theorem Rel.chg{u:O}(r:Rel K as H s)(e:as.ix[n]?=some (some p))(c:Chg H p o H')(h:RO K as H' p u):Rel K as H' (s.set n u) where
 len:=by simp [r.len]
 nd:=r.nd
 ob i q x e1 e2:=by
  by_cases z:n=i
  ·subst z
   rw [e]at e1;cases e1
   have hl:n < s.length:=by rw [←r.len];exact (aF.mp e).1
   rw [bj hl]at e2
   cases e2;exact h
  ·rw [aY z]at e2
   have ne:q≠p:=fun w=> z (r.nd n i p e (w▸e1))
   exact (r.ob i q x e1 e2).mono0 (zm (.inl (qd.mpr ⟨n,e⟩)) c) (abc (fun _=> c.keep ne) (r.at e1))
 li i x e2 g:=by
  by_cases z:n=i
  ·subst z;exact⟨p,e⟩
  ·rw [aY z]at e2
   exact r.li i x e2 g
 hs q h:=let ⟨xs,e'⟩:=r.hs q h;⟨xs,c.keep (fun z=> r.hx q h (qd.mpr ⟨n,z▸e⟩)) e'⟩
 hx:=r.hx
theorem Rel.chgH(r:Rel K as H s)(m:p∈as.hd)(c:Chg H p (.lst ys) H'):Rel K as H' s where
 len:=r.len
 nd:=r.nd
 ob i q x e1 e2:=by
  have ne:q≠p:=fun w=> r.hx p m (qd.mpr ⟨i,w▸e1⟩)
  exact (r.ob i q x e1 e2).mono0 (zm (.inr m) c) (abc (fun _=> c.keep ne) (r.at e1))
 li:=r.li
 hs q h:=by
  by_cases z:q=p
  ·subst z;exact⟨ys,c.at⟩
  ·obtain⟨xs,e⟩:=r.hs q h
   exact⟨xs,c.keep z e⟩
 hx:=r.hx
theorem Rel.hide(r:Rel K as H s)(n:New H p (.lst ys) H'):Rel K (as.hide p) H' s where
 len:=r.len
 nd:=r.nd
 ob i q u e1 e2:=(r.ob i q u e1 e2).mono0 (agh n).toStep0 (abc (fun _=> n.keep) (r.at e1))
 li:=r.li
 hs q h:=by
  rcases aE.mp h with z|z
  ·subst z;exact⟨ys,n.at⟩
  ·obtain⟨xs,e⟩:=r.hs q z
   exact⟨xs,n.keep e⟩
 hx q h m:=by
  rcases aE.mp h with z|z
  ·subst z
   obtain⟨i,hi⟩:=qd.mp m
   exact r.at hi n.no
  ·exact r.hx q z m
theorem Rel.show(r:Rel K as H s):Rel K (as.show p) H s where
 len:=r.len
 nd:=r.nd
 ob i q u e1 e2:=(r.ob i q u e1 e2).mono0 acl rfl
 li:=r.li
 hs q h:=r.hs q (bG.mp h).1
 hx q h:=r.hx q (bG.mp h).1
theorem Rel.take{u:O}(r:Rel K as H s)(m:p∈as.hd)(h:RO K ((as.show p).add p) H p u):Rel K ((as.show p).add p) H (s++ [u]) where
 len:=by simp [r.len]
 nd i j q e1 e2:=by
  rcases va e1 with ⟨l1,z1⟩|⟨l1,z1⟩ <;> rcases va e2 with ⟨l2,z2⟩|⟨l2,z2⟩
  ·exact r.nd i j q z1 z2
  ·cases z2;exact absurd (qd.mpr ⟨i,z1⟩) (r.hx p m)
  ·cases z1;exact absurd (qd.mpr ⟨j,z2⟩) (r.hx p m)
  ·rw [l1,l2]
 ob i q x e1 e2:=by
  rcases va e1 with ⟨l1,z1⟩|⟨l1,z1⟩ <;> rcases va e2 with ⟨l2,z2⟩|⟨l2,z2⟩
  ·exact (r.ob i q x z1 z2).mono0 (ack m) rfl
  ·rw [l2,←r.len]at l1;exact absurd l1 (bU _)
  ·rw [l1]at l2
   have:as.ix.length < s.length:=l2
   rw [r.len]at this;exact absurd this (bU _)
  ·cases z1;subst z2;exact h
 li i x e g:=by
  rcases va e with ⟨l1,z1⟩|⟨l1,z1⟩
  ·obtain⟨q,hq⟩:=r.li i x z1 g
   exact⟨q,by rw [aS (by rw [r.len];exact l1)];exact hq⟩
  ·exact⟨p,by rw [l1,←r.len];simp⟩
 hs q h:=r.hs q (bG.mp h).1
 hx q h m2:=by
  obtain⟨h1,h2⟩:=bG.mp h
  rcases bH.mp m2 with z|z
  ·exact r.hx q h1 z
  ·have:q=p:=by simpa using z
   exact absurd this (of_decide_eq_true h2)
theorem Rel.frz(r:Rel K as H s):Rel K (as.cut n) H (s.set n .gone) where
 len:=by simp [r.len]
 nd i j q e1 e2:=by
  exact r.nd i j q (aes e1) (aes e2)
 ob i q x e1 e2:=by
  by_cases z:n=i
  ·subst z
   rw [cZ]at e1
   simp at e1
  ·rw [aY z]at e1 e2
   exact (r.ob i q x e1 e2).mono0 (ae7 n).toStep0 rfl
 li i x e2 g:=by
  by_cases z:n=i
  ·subst z
   rw [cZ]at e2
   simp at e2
   exact absurd e2.2.symm g
  ·rw [aY z]at e2⊢
   exact r.li i x e2 g
 hs:=r.hs
 hx q h m:=by
  obtain⟨i,hi⟩:=qd.mp m
  by_cases z:n=i
  ·subst z
   rw [cZ]at hi
   simp at hi
  ·rw [aY z]at hi
   exact r.hx q h (qd.mpr ⟨i,hi⟩)
end
abbrev En:=List (Option D)
structure Envs (K:am) (as:As) (H:Hp) (ρ:En) (σ:St):Prop where
 len:ρ.length=σ.length
 get: ∀(i:Nat) (d:D),ρ[i]?=some (some d) -> ∃v,σ[i]?=some (some v)/\RD K as H v d
theorem Envs.mono{as as':As}{ρ:En}(e:Envs K as H ρ σ)(st:Step as H as' H'):Envs K as' H' ρ σ:=⟨e.len,fun i d h=> let ⟨v,a,b⟩:=e.get i d h;⟨v,a,b.mono st⟩⟩
theorem Envs.set{as:As}{ρ:En}(e:Envs K as H ρ σ)(i:Nat){d:D}(r:RD K as H v d):Envs K as H (ρ.set i (some d)) (σ.set i (some v)):=by
 refine⟨by simp [e.len],fun j x h=> ?_⟩
 by_cases z:i=j
 ·subst z
  rw [cZ]at h⊢
  by_cases hl:i < ρ.length
  ·simp [hl]at h
   subst h
   exact⟨v,by simp [←e.len,hl],r⟩
  ·simp [hl]at h
 ·rw [aY z]at h⊢
  exact e.get j x h
def Dn{α β:Type}(K:am)(rel:As -> Hp -> β -> α -> Prop)(as:As)(H:Hp)(r:R α)(Q:β -> Hp -> Prop):Prop:=match r with
 |.ok a s=> ∀b as' H',Step as H as' H' -> Rel K as' H' s -> rel as' H' b a -> Q b H'
 |.bad=> False
theorem Dn.step{α β:Type}{rel:As -> Hp -> β -> α -> Prop}{as as1:As}{H1:Hp}{r:R α}{Q:β -> Hp -> Prop}(h:Dn K rel as H r Q)(st:Step as H as1 H1):Dn K rel as1 H1 r Q:=by
 cases r with
 |ok a s=> exact fun b as' H' s2 rl rb=> h b as' H' (st.trans s2) rl rb
 |bad=> exact h
theorem Dn.bind{α β γ δ:Type}{r1:As -> Hp -> β -> α -> Prop}{r2:As -> Hp -> δ -> γ -> Prop}{as:As}{r:R α}{f:α -> S -> R γ}{Q:δ -> Hp -> Prop}{Q':β -> Hp -> Prop}(h:Dn K r2 as H (r.bind f) Q)(k: ∀a s as1 H1 b,Step as H as1 H1 -> Rel K as1 H1 s -> r1 as1 H1 b a -> Dn K r2 as1 H1 (f a s) Q -> Q' b H1):Dn K r1 as H r Q':=by
 cases r with
 |ok a s=> exact fun b as' H' st rl rb=> k a s as' H' b st rl rb (Dn.step (r:=f a s) h st)
 |bad=> exact h
theorem Dn.now{α β:Type}{rel:As -> Hp -> β -> α -> Prop}{as:As}{a:α}{s:S}{Q:β -> Hp -> Prop}{b:β}(h:Dn K rel as H (.ok a s) Q)(rl:Rel K as H s)(rb:rel as H b a):Q b H:=h b as H (Step.refl _ _) rl rb
abbrev rD(K:am):As -> Hp -> V -> D -> Prop:=fun as H v d=> RD K as H v d
abbrev rB:As -> Hp -> Bool -> Bool -> Prop:=fun _ _ b a=> b=a
abbrev rL(K:am):As -> Hp -> List V -> List D -> Prop:=fun as H v d=> RDs K as H v d
inductive Fl where
 |nx (ρ:En)|rt (d:D)|bk (ρ:En)|ct (ρ:En)
inductive FV where
 |nx (σ:St)|rt (v:V)|bk (σ:St)|ct (σ:St)
inductive rF (K:am) (as:As) (H:Hp):FV -> Fl -> Prop
 |nx {σ:St} {ρ:En}:Envs K as H ρ σ -> rF K as H (.nx σ) (.nx ρ)
 |rt {v:V} {d:D}:RD K as H v d -> rF K as H (.rt v) (.rt d)
 |bk {σ:St} {ρ:En}:Envs K as H ρ σ -> rF K as H (.bk σ) (.bk ρ)
 |ct {σ:St} {ρ:En}:Envs K as H ρ σ -> rF K as H (.ct σ) (.ct ρ)
def zb(D:Ends)(f:FV)(H:Hp):Prop:=match f with
 |.nx σ=> D.nx σ H
 |.rt v=> D.rt v H
 |.bk σ=> D.bk σ H
 |.ct σ=> D.ct σ H
abbrev FE:=En -> S -> R D
abbrev FT:=En -> S -> R Bool
abbrev FA:=En -> S -> R (List D)
abbrev FS:=En -> S -> R Fl
def zd(K:am)(t:TE)(f:FE):Prop:= ∀as σ H ρ s Q,Rel K as H s -> Envs K as H ρ σ -> Dn K (rD K) as H (f ρ s) Q -> t σ H Q
def aap(K:am)(t:TT)(f:FT):Prop:= ∀as σ H ρ s Q,Rel K as H s -> Envs K as H ρ σ -> Dn K rB as H (f ρ s) Q -> t σ H Q
def ayk(K:am)(t:TA)(f:FA):Prop:= ∀as σ H ρ s Q,Rel K as H s -> Envs K as H ρ σ -> Dn K (rL K) as H (f ρ s) Q -> t σ H Q
def aif(K:am)(t:TS)(f:FS):Prop:= ∀as σ H ρ s D,Rel K as H s -> Envs K as H ρ σ -> Dn K (rF K) as H (f ρ s) (zb D) -> t D σ H
structure RE (X:Cx) (e:Expr) (f:FE):Prop where
 ex: ∃t,PE X e t/\zd X.K t f
structure RT (X:Cx) (e:Expr) (f:FT):Prop where
 ex: ∃t,PT X e t/\aap X.K t f
structure RW (X:Cx) (e:Expr) (f:FT):Prop where
 ex: ∃t,PW X e t/\aap X.K t f
structure RA (X:Cx) (es:List Expr) (f:FA):Prop where
 ex: ∃t,PA X es t/\ayk X.K t f
structure RS (X:Cx) (st:Stmt) (f:FS):Prop where
 ex: ∃t,PS X st t/\aif X.K t f
structure RSs (X:Cx) (st:List Stmt) (f:FS):Prop where
 ex: ∃t,PSs X st t/\aif X.K t f
section
variable{X:Cx}{a b:Expr}{fa fb:FE}{pos:Pos}
noncomputable def jb(i:Nat):FE:=fun ρ s=> match ρ[i]? with
 |some (some d)=>.ok d s
 |_=>.bad
noncomputable def fC(d:D):FE:=fun _ s=>.ok d s
theorem avj(i:Nat):zd K (azk i) (jb i):=by
 intro as σ H ρ s Q rl en h
 unfold jb at h
 cases q:ρ[i]? with
 |none=> rw [q]at h;exact h.elim
 | some o=>
  cases o with
  |none=> rw [q]at h;exact h.elim
  |some d=>
   rw [q]at h
   obtain⟨v,e,r⟩:=en.get i d q
   exact⟨v,e,Dn.now h rl r⟩
theorem a61(i:Nat)(hN:X.N[i]?=some x:=by rfl)(hv:Vis X.env.scope x:=by first|exact gk rfl|exact gm (gk rfl)|exact gm (gm rfl))(hd:(x==("__debug__":Str))=false:=by decide)(hcd:(x==("__classdict__":Str))=false:=by decide):RE X (.Name x pos) (jb i):=⟨_,ax6 hN hv hd hcd,avj i⟩
theorem ad9{d:D}(r: ∀as H,RD K as H v d):zd K (tC v) (fC d):=fun as σ H ρ s Q rl en h=> Dn.now (K:=K) (rel:=rD K) h rl (r as H)
theorem a4y{i j pos}:RE X (.Constant (.int i) j pos) (fC (.int i)):=⟨_,ahx,ad9 fun _ _=>.da (.int i)⟩
theorem a4o{x j pos}:RE X (.Constant (.str x) j pos) (fC (.str x)):=⟨_,aog,ad9 fun _ _=>.da (.str x)⟩
theorem a6y{b j pos}:RE X (.Constant (.bool b) j pos) (fC (.bl b)):=⟨_,ata,ad9 fun _ _=>.da (.bl b)⟩
theorem a51{j pos}:RE X (.Constant .none j pos) (fC .non):=⟨_,aph,ad9 fun _ _=>.da .non⟩
theorem akp{u:ac}{d:D}(r: ∀as H,RD X.K as H v d)(hm:X.mg x=some u)(rv:RelV v u)(hg:Gl X x:=by rfl)(hd:(x==("__debug__":Str))=false:=by decide):RE X (.Name x pos) (fC d):=⟨_,auf hg hm rv hd,ad9 r⟩
theorem adn{n:String}(hm:X.mg x=none)(hv:bc x=some (.type n))(hg:Gl X x:=by rfl)(hn:x≠"__name__":=by decide)(hd:(x==("__debug__":Str))=false:=by decide):RE X (.Name x pos) (fC (.ty n)):=
 ⟨_,aud (v:=.ty n) hg hm hv rfl hn hd,ad9 fun _ _=>.ty n⟩
def fOp(g:D -> D -> S -> R D)(fa fb:FE):FE:=fun ρ s=> (fa ρ s).bind fun x s1=> (fb ρ s1).bind fun y s2=> g x y s2
def ait(K:am)(r:R2)(g:D -> D -> S -> R D):Prop:= ∀as H s x y dx dy Q,Rel K as H s -> RD K as H x dx -> RD K as H y dy -> Dn K (rD K) as H (g dx dy s) Q -> r x y H Q
theorem aeq{r:R2}{g:D -> D -> S -> R D}(hr:ait K r g)(ha:zd K ta fa)(hb:zd K tb fb):zd K (tOp r ta tb) (fOp g fa fb):=by
 intro as σ H ρ s Q rl en h
 refine ha as σ H ρ s _ rl en (Dn.bind h fun d1 s1 as1 H1 x st1 rl1 r1 h1=> ?_)
 refine hb as1 σ H1 ρ s1 _ rl1 (en.mono st1) (Dn.bind h1 fun d2 s2 as2 H2 y st2 rl2 r2 h2=> ?_)
 exact hr as2 H2 s2 x y d1 d2 Q rl2 (r1.mono st2) r2 h2
structure Op2 (X:Cx) (f:ac -> ac -> Sem ac) (g:D -> D -> S -> R D):Prop where
 ex: ∃r,OpR X f r/\ait X.K r g
theorem a6v{op:Operator}{g:D -> D -> S -> R D}(o:Op2 X (binaryOp op) g)(ha:RE X a fa)(hb:RE X b fb):RE X (.BinOp a op b pos) (fOp g fa fb):=by
 obtain⟨r,ho,hr⟩:=o.ex
 obtain⟨ta,pa,ra⟩:=ha.ex
 obtain⟨tb,pb,rb⟩:=hb.ex
 exact⟨_,a1r ho pa pb,aeq hr ra rb⟩
theorem a50{g:D -> D -> S -> R D}(o:Op2 X (aK op) g)(ha:RE X a fa)(hb:RE X b fb)(hm:d5 op b=false:=by first|exact aou _|with_unfolding_all rfl):RE X (.Compare a [op] [b] pos) (fOp g fa fb):=by
 obtain⟨r,ho,hr⟩:=o.ex
 obtain⟨ta,pa,ra⟩:=ha.ex
 obtain⟨tb,pb,rb⟩:=hb.ex
 exact⟨_,av8 ho pa pb hm,aeq hr ra rb⟩
def ji(f:FE):FT:=fun ρ s=> (f ρ s).bind fun d s1=> match d with
 |.bl k=>.ok k s1
 |_=>.bad
theorem ahm{t:TE}{f:FE}(h:zd K t f):aap K (alz t) (ji f):=by
 intro as σ H ρ s Q rl en q
 refine h as σ H ρ s _ rl en (Dn.bind q fun d1 s1 as1 H1 x st1 rl1 r1 h1=> ?_)
 cases r1 with
 |da t=>
  cases t with
  |bl k=> exact⟨k,rfl,Dn.now h1 rl1 rfl⟩
  |_=> exact h1.elim
 |_=> exact h1.elim
theorem a53{g:D -> D -> S -> R D}(o:Op2 X (aK op) g)(ha:RE X a fa)(hb:RE X b fb)(hm:d5 op b=false:=by first|exact aou _|with_unfolding_all rfl):RT X (.Compare a [op] [b] pos) (ji (fOp g fa fb)):=by
 obtain⟨r,ho,hr⟩:=o.ex
 obtain⟨ta,pa,ra⟩:=ha.ex
 obtain⟨tb,pb,rb⟩:=hb.ex
 exact⟨_,atz ho pa pb hm,ahm (aeq hr ra rb)⟩
def zw(g g':D -> D -> S -> R D)(fa fb fc:FE):FE:=fun ρ s=> (fa ρ s).bind fun x s1=> (fb ρ s1).bind fun y s2=> (g x y s2).bind fun z s3=> match z with
 |.bl true=> (fc ρ s3).bind fun w s4=> g' y w s4
 |.bl false=>.ok (.bl false) s3
 |_=>.bad
theorem ags{r r':R2}{g g':D -> D -> S -> R D}{tc:TE}{fc:FE}(hr:ait K r g)(hr':ait K r' g')(ha:zd K ta fa)(hb:zd K tb fb)(hc:zd K tc fc):zd K (ai6 r r' ta tb tc) (zw g g' fa fb fc):=by
 intro as σ H ρ s Q rl en h
 refine ha as σ H ρ s _ rl en (Dn.bind h fun d1 s1 as1 H1 x st1 rl1 r1 h1=> ?_)
 refine hb as1 σ H1 ρ s1 _ rl1 (en.mono st1) (Dn.bind h1 fun d2 s2 as2 H2 y st2 rl2 r2 h2=> ?_)
 refine hr as2 H2 s2 x y d1 d2 _ rl2 (r1.mono st2) r2 (Dn.bind h2 fun d3 s3 as3 H3 z st3 rl3 r3 h3=> ?_)
 cases r3 with
 | da t=>
  cases t with
  | bl k=>
   cases k with
   |false=> exact⟨false,rfl,Dn.now h3 rl3 (.da (.bl false))⟩
   |true=>
    refine⟨true,rfl,?_⟩
    rw [if_pos rfl]
    refine hc as3 σ H3 ρ s3 _ rl3 (((en.mono st1).mono st2).mono st3) (Dn.bind h3 fun d4 s4 as4 H4 w st4 rl4 r4 h4=> ?_)
    exact hr' as4 H4 s4 y w d2 d4 Q rl4 ((r2.mono st3).mono st4) r4 h4
  |_=> exact h3.elim
 |_=> exact h3.elim
theorem a2w{op':CmpOp}{g g':D -> D -> S -> R D}{fc:FE}(o:Op2 X (aK op) g)(o':Op2 X (aK op') g')(ha:RE X a fa)(hb:RE X b fb)(hc:RE X c fc)(hm:jJ [op,op'] [b,c]=false:=by with_unfolding_all rfl):RE X (.Compare a [op,op'] [b,c] pos) (zw g g' fa fb fc):=by
 obtain⟨r,ho,hr⟩:=o.ex
 obtain⟨r',ho',hr'⟩:=o'.ex
 obtain⟨ta,pa,ra⟩:=ha.ex
 obtain⟨tb,pb,rb⟩:=hb.ex
 obtain⟨tc,pc,rc⟩:=hc.ex
 exact⟨_,ass ho ho' pa pb pc hm,ags hr hr' ra rb rc⟩
theorem a33{op':CmpOp}{g g':D -> D -> S -> R D}{fc:FE}(o:Op2 X (aK op) g)(o':Op2 X (aK op') g')(ha:RE X a fa)(hb:RE X b fb)(hc:RE X c fc)(hm:jJ [op,op'] [b,c]=false:=by with_unfolding_all rfl):RT X (.Compare a [op,op'] [b,c] pos) (ji (zw g g' fa fb fc)):=by
 obtain⟨r,ho,hr⟩:=o.ex
 obtain⟨r',ho',hr'⟩:=o'.ex
 obtain⟨ta,pa,ra⟩:=ha.ex
 obtain⟨tb,pb,rb⟩:=hb.ex
 obtain⟨tc,pc,rc⟩:=hc.ex
 exact⟨_,asw ho ho' pa pb pc hm,ahm (ags hr hr' ra rb rc)⟩
def adk(f g:FT):FT:=fun ρ s=> (f ρ s).bind fun c s1=> if c=true then g ρ s1 else .ok false s1
def qo(f g:FT):FT:=fun ρ s=> (f ρ s).bind fun c s1=> if c=true then .ok true s1 else g ρ s1
def ki(f:FT):FT:=fun ρ s=> (f ρ s).bind fun c s1=>.ok (!c) s1
theorem avx{t u:TT}{f g:FT}(h1:aap K t f)(h2:aap K u g):aap K (awg t u) (adk f g):=by
 intro as σ H ρ s Q rl en h
 refine h1 as σ H ρ s _ rl en (Dn.bind h fun c s1 as1 H1 b st1 rl1 r1 q1=> ?_)
 have e1:b=c:=r1
 subst e1
 cases b with
 |true=> rw [if_pos rfl]at q1⊢;exact h2 as1 σ H1 ρ s1 Q rl1 (en.mono st1) q1
 |false=> rw [if_neg av]at q1⊢;exact Dn.now q1 rl1 rfl
theorem ayn{t u:TT}{f g:FT}(h1:aap K t f)(h2:aap K u g):aap K (tOr t u) (qo f g):=by
 intro as σ H ρ s Q rl en h
 refine h1 as σ H ρ s _ rl en (Dn.bind h fun c s1 as1 H1 b st1 rl1 r1 q1=> ?_)
 have e1:b=c:=r1
 subst e1
 cases b with
 |false=> rw [if_neg av]at q1⊢;exact h2 as1 σ H1 ρ s1 Q rl1 (en.mono st1) q1
 |true=> rw [if_pos rfl]at q1⊢;exact Dn.now q1 rl1 rfl
theorem auj{t:TT}{f:FT}(h1:aap K t f):aap K (ayd t) (ki f):=by
 intro as σ H ρ s Q rl en h
 refine h1 as σ H ρ s _ rl en (Dn.bind h fun c s1 as1 H1 b st1 rl1 r1 q1=> ?_)
 have e1:b=c:=r1
 subst e1
 exact Dn.now q1 rl1 rfl
theorem RW.rt{f:FT}(h:RW X e f):RT X e f:=let ⟨t,p,r⟩:=h.ex;⟨t,p.pt,r⟩
theorem a4c{f:FT}(h:RT X a f):RW X (.BoolOp .And [a] pos) f:=let ⟨t,p,r⟩:=h.ex;⟨t,auc p,r⟩
theorem a5k{f:FT}(h:RT X a f):RW X (.BoolOp .Or [a] pos) f:=let ⟨t,p,r⟩:=h.ex;⟨t,awz p,r⟩
theorem a4m{f g:FT}{jx:List Expr}(h:RT X a f)(k:RW X (.BoolOp .And (b::jx) pos) g):RW X (.BoolOp .And (a::b::jx) pos) (adk f g):=let ⟨t,p,r⟩:=h.ex;let ⟨t',p',r'⟩:=k.ex;⟨_,ayq p p',avx r r'⟩
theorem a69{f g:FT}{jx:List Expr}(h:RT X a f)(k:RW X (.BoolOp .Or (b::jx) pos) g):RW X (.BoolOp .Or (a::b::jx) pos) (qo f g):=let ⟨t,p,r⟩:=h.ex;let ⟨t',p',r'⟩:=k.ex;⟨_,a0b p p',ayn r r'⟩
theorem a5y{f:FT}(h:RT X a f):RT X (.UnaryOp .Not a pos) (ki f):=let ⟨t,p,r⟩:=h.ex;⟨_,ay9 p,auj r⟩
def ad7(fa fb:FE):FE:=fun ρ s=> (fa ρ s).bind fun d s1=> match d with
 |.bl true=> fb ρ s1
 |.bl false=>.ok (.bl false) s1
 |_=>.bad
def azv(fa:FE):FE:=fun ρ s=> (fa ρ s).bind fun d s1=> match d with
 |.bl k=>.ok (.bl (!k)) s1
 |_=>.bad
theorem a5c{op}(h:RE X a fa):RE X (.BoolOp op [a] pos) fa:=let ⟨t,p,r⟩:=h.ex;⟨_,aze p,r⟩
theorem a4w{jx:List Expr}(h:RE X a fa)(k:RE X (.BoolOp .And (b::jx) pos) fb):RE X (.BoolOp .And (a::b::jx) pos) (ad7 fa fb):=by
 obtain⟨ta,pa,ra⟩:=h.ex
 obtain⟨tb,pb,rb⟩:=k.ex
 refine⟨_,azx pa pb,fun as σ H ρ s Q rl en h=> ?_⟩
 refine ra as σ H ρ s _ rl en (Dn.bind h fun d1 s1 as1 H1 x st1 rl1 r1 h1=> ?_)
 cases r1 with
 | da t=>
  cases t with
  |bl k=>
   refine⟨k,rfl,?_⟩
   cases k with
   |false=> rw [if_neg av];exact Dn.now h1 rl1 (.da (.bl false))
   |true=> rw [if_pos rfl];exact rb as1 σ H1 ρ s1 Q rl1 (en.mono st1) h1
  |_=> exact h1.elim
 |_=> exact h1.elim
theorem a55(h:RE X a fa):RE X (.UnaryOp .Not a pos) (azv fa):=by
 obtain⟨ta,pa,ra⟩:=h.ex
 refine⟨_,ax0 pa,fun as σ H ρ s Q rl en h=> ?_⟩
 refine ra as σ H ρ s _ rl en (Dn.bind h fun d1 s1 as1 H1 x st1 rl1 r1 h1=> ?_)
 cases r1 with
 |da t=>
  cases t with
  |bl k=> exact⟨k,rfl,Dn.now h1 rl1 (.da (.bl (!k)))⟩
  |_=> exact h1.elim
 |_=> exact h1.elim
noncomputable def jc:FA:=fun _ s=>.ok [] s
def ja(f:FE)(g:FA):FA:=fun ρ s=> (f ρ s).bind fun x s1=> (g ρ s1).bind fun xs s2=>.ok (x::xs) s2
noncomputable def fVs(ds:List D):FA:=fun _ s=>.ok ds s
theorem a4f:RA X [] jc:=⟨_,aip,fun as σ H ρ s Q rl en h=> Dn.now h rl .nil⟩
theorem a3n{f:FE}{g:FA}(h:RE X e f)(k:RA X es g)(hs:starEach (e::es) X.env=(false,eval e X.env)::starEach es X.env:=by rfl):RA X (e::es) (ja f g):=by
 obtain⟨t,p,r⟩:=h.ex
 obtain⟨t',p',r'⟩:=k.ex
 refine⟨_,afy p p' hs,fun as σ H ρ s Q rl en h=> ?_⟩
 refine r as σ H ρ s _ rl en (Dn.bind h fun d1 s1 as1 H1 x st1 rl1 r1 h1=> ?_)
 refine r' as1 σ H1 ρ s1 _ rl1 (en.mono st1) (Dn.bind h1 fun d2 s2 as2 H2 xs st2 rl2 r2 h2=> ?_)
 exact Dn.now h2 rl2 (.cons (r1.mono st2) r2)
noncomputable def alt:Const -> Option ae
 |.str x=> some (.str x)
 |.int i=> some (.int i)
 |.bool b=> some (.bool b)
 |.none=> some .none
 |_=> none
def adf:List Expr -> Option (List ae)
 |[]=> some []
 | .Constant c _ _::r=> match alt c with
  |some v=> match adf r with
   |some vs=> some (v::vs)
   |none=> none
  |none=> none
 |_=> none
noncomputable def pV:ae -> V
 |.none=>.non
 |.bool b=>.bl b
 |.int i=>.int i
 |.str x=>.str x
 |_=>.non
theorem awf{c:Const}{d:ae}(h:alt c=some d):ail c=some (pV d)/\ ∀as H,TD as H (pV d) d:=by
 cases c <;> simp [alt]at h <;> subst h
 all_goals first
  |exact⟨rfl,fun _ _=>.str _⟩
  |exact⟨rfl,fun _ _=>.int _⟩
  |exact⟨rfl,fun _ _=>.bl _⟩
  |exact⟨rfl,fun _ _=>.non⟩
theorem ak8: ∀{es:List Expr} {ds:List ae},adf es=some ds -> ac8 es=some (ds.map pV)/\ ∀as H,TDs as H (ds.map pV) ds
 |[],ds,h=> by cases h;exact⟨rfl,fun _ _=>.nil⟩
 | e ::es,ds,h=> by
  cases e with
  | Constant c j pos=>
   simp only [adf]at h
   cases h1:alt c with
   |none=> (rw [h1]at h;cases h)
   | some v=>
    rw [h1]at h
    cases h2:adf es with
    |none=> rw [h2]at h;cases h
    |some ws=>
     rw [h2]at h
     cases h
     obtain⟨a1,a2⟩:=awf h1
     obtain⟨b1,b2⟩:=ak8 h2
     exact⟨by simp only [ac8,a1,b1,aG],fun as H=>.cons (a2 as H) (b2 as H)⟩
  |_=> simp [adf]at h
theorem aoz{ds:List ae}(h:adf es=some ds):RA X es (fVs (ds.map D.da)):=by
 obtain⟨a,b⟩:=ak8 h
 exact⟨_,ag7 a,fun as σ H ρ s Q rl en h=> Dn.now h rl (b as H).rd⟩
def kc(m:Bool)(ds:List D)(s:S):R D:=if m=true then .ok (.ref s.length) (s++ [.lst ds]) else match jj ds with
 |some xs=>.ok (.lst xs) s
 |none=>.bad
def afb(ds:List D)(s:S):R D:=match jj ds with
 |some xs=>.ok (.tup xs) s
 |none=>.bad
theorem yk{as:As}{s:S}{m:Bool}{ds:List D}{Q:VK}(h:Dn K (rD K) as H (kc m ds s) Q)(rl:Rel K as H s)(r:RDs K as H xs ds)(n:New H p (.lst xs) H'):Q (.ref p) H':=by
 unfold kc at h
 cases m with
 |true=>
  rw [if_pos rfl]at h
  refine h (.ref p) (as.add p) H' (acw n) (rl.laid n ⟨xs,n.at,r.mono (acw n)⟩) (.ref (by simp [rl.len]) fun q e=> ?_)
  rw [←rl.len]at e
  simp at e
  exact e.symm
 | false=>
  rw [if_neg av]at h
  cases q:jj ds with
  |none=> rw [q]at h;exact h.elim
  |some ys=>
   rw [q]at h
   have e:=yc q
   subst e
   exact h (.ref p) as H' (jy n) (rl.new n) (.da (.lst (fun z=> rl.has z n.no) n.at (r.td.mono (jy n))))
theorem akq{as:As}{s:S}{ds:List D}{Q:VK}(h:Dn K (rD K) as H (afb ds s) Q)(rl:Rel K as H s)(r:RDs K as H xs ds)(n:New H p (.tup xs) H'):Q (.ref p) H':=by
 unfold afb at h
 cases q:jj ds with
 |none=> rw [q]at h;exact h.elim
 |some ys=>
  rw [q]at h
  have e:=yc q
  subst e
  exact h (.ref p) as H' (jy n) (rl.new n) (.da (.tup (fun z=> rl.has z n.no) n.at (r.td.mono (jy n))))
def vx(m:Bool)(f:FA):FE:=fun ρ s=> (f ρ s).bind fun ds s1=> if ds.length <=sizeLine then kc m ds s1 else .bad
def qf(f:FA):FE:=fun ρ s=> (f ρ s).bind fun ds s1=> if ds.length <=sizeLine then afb ds s1 else .bad
theorem a5x{f:FA}(m:Bool)(h:RA X es f):RE X (.List es pos) (vx m f):=by
 obtain⟨t,p,r⟩:=h.ex
 refine⟨_,auz p,fun as σ H ρ s Q rl en h=> ?_⟩
 refine r as σ H ρ s _ rl en (Dn.bind h fun ds s1 as1 H1 xs st1 rl1 r1 h1=> ?_)
 split at h1
 ·rename_i hz
  exact⟨by rw [r1.length];exact hz,fun p H' n=> yk h1 rl1 r1 n⟩
 ·exact h1.elim
theorem a5a{f:FA}{x1:Nat}(h:RA X es f):RE X (.Tuple es x1 pos) (qf f):=by
 obtain⟨t,p,r⟩:=h.ex
 refine⟨_,aum p,fun as σ H ρ s Q rl en h=> ?_⟩
 refine r as σ H ρ s _ rl en (Dn.bind h fun ds s1 as1 H1 xs st1 rl1 r1 h1=> ?_)
 split at h1
 ·rename_i hz
  exact⟨by rw [r1.length];exact hz,fun p H' n=> akq h1 rl1 r1 n⟩
 ·exact h1.elim
end
end PF
namespace L2
open PySem PySem.Spec PyProof.Rows
theorem ah4{it t:Addr}{items:Array ac}(hne:t≠it): ∀(n i:Nat) (s:ah) (Q:List ac -> ah -> Prop),s.heap.IsListIter it t i -> s.heap.IsList t items -> i+n <=items.size ->
  (∀h',h'.IsListIter it t (i+n) -> bh it s.heap h' -> Q ((items.toList.drop i).take n) {s with heap:=h'}) -> wpAny (model prog w) A (draw (.ref it) n) Q E s
 |0,i,s,Q,hit,_,_,hQ=> by --
  show wpAny _ _ (pure []) Q E s --
  (exact aj (by simpa using hQ s.heap hit (bh.refl ..)))
 | n+1,i,s,Q,hit,ht,hle,hQ=> by --
  (have hlt:i < items.size:=by lia)
  show wpAny _ _ (pyNext (.ref it)>>=_) Q E s --
  refine aa (il hit ht (x:=items[i]) (by simp [hlt]) fun h₁ hit₁ hs₁=> ?_)
  have ht₁:h₁.IsList t items:=by
   obtain⟨o,ho,c⟩:=ht
   exact⟨o,hs₁.extBut t o hne ho,c⟩
  refine aa (aW (ah4 hne n (i+1) _ _ hit₁ ht₁ (by lia) fun h₂ hit₂ hs₂=> aj ?_))
  (have hd:items.toList.drop i=items[i]::items.toList.drop (i+1):=by simp [eh,hlt])
  (have:=hQ h₂ (by rw [show i+(n+1)=i+1+n by lia];exact hit₂) (hs₁.trans hs₂))
  (rw [hd,fW]at this)
  exact this
theorem ae9{t:Addr}{Q:List ac -> ah -> Prop}(hh:A.handled=none)(ht:s.heap.IsList t items)(hQ: ∀h',eU s.heap.objs.size s.heap h' -> Q items.toList {s with heap:=h'}):wpAny (model prog w) A (unpackItems (.ref t) items.size none) Q E s:=by
 (have hlt:t≠s.heap.objs.size:=by obtain⟨o,ho,_⟩:=ht;exact aM (aB ho))
 have up: ∀h':Heap,eU s.heap.objs.size s.heap h' -> h'.IsList t items:=fun h' x=> by
  obtain⟨o,ho,c⟩:=ht
  exact⟨o,x t o hlt ho,c⟩
 unfold unpackItems
 refine aa ?_
 unfold notIterableAtAll
 refine aa (cA ht.typeIs slot_list_iter.lookup ?_)
 refine aj ?_
 (simp only [bP,if_false])
 refine aa (aW (dz ht ?_))
 refine aa (aW (ah4 hlt items.size 0 _ _ ⟨_,aC _ rfl,rfl,rfl⟩ (up _ fun b o hb e=> ag _ e) (by lia) fun h₁ hit₁ hs₁=> ?_))
 have hall:List.take items.size (List.drop 0 items.toList)=items.toList:=by --
  (rw [iG];exact eT (by simp))
 rw [hall]
 rw [if_neg (by simp)]
 have x₁:eU s.heap.objs.size s.heap h₁:=fun b o hb e=> hs₁.extBut b o hb (ag _ e)
 refine aa (aW (iy hh (by simpa using hit₁) (up _ x₁) (by simp) fun h₂ he₂=> ?_))
 (simp only [Option.isSome_none,bP,if_false])
 refine aj (hQ h₂ fun b o hb e=> he₂ b o hb (x₁ b o hb e))
theorem adq{elts:List Expr}{x1}{t:Addr}{Q:Unit -> ah -> Prop}(hh:A.handled=none)(ht:s.heap.IsList t items)(hn:(a9 elts env).length=items.size)(hstar:(a9 elts env).findIdx? (·.1)=none) --
  (h: ∀h',eU s.heap.objs.size s.heap h' -> wpAny (model prog w) A (assignInOrder ((a9 elts env).map (·.2)) items.toList) Q E {s with heap:=h'}):
  wpAny (model prog w) A (assign (.Tuple elts x1 pos) env (.ref t)) Q E s:=by --
 rw [assign_Tuple]
 refine aa (eZ ?_)
 unfold unpack
 rw [hn,hstar]
 exact aa (aW (ae9 hh ht h))
noncomputable def ahc(K:am)(n:Nat)(t:TGs):TG:=fun v σ H Q=> ∃a xs,v=.ref a/\(SqT K H a xs\/SqL K H a xs)/\xs.length=n/\t xs σ H Q
theorem ak4{t:TGs}(hc:X.calm=true)(h:PGs X es t)(hn:(a9 es X.env).length=n:=by rfl)(hst:(a9 es X.env).findIdx? (·.1)=none:=by rfl):PG X (.Tuple es k pos) (ahc X.K n t):=by
 intro pins s σ H v u Q I r hw
 obtain⟨a,xs,e1,hq,hl,hw⟩:=hw
 rcases hq with hq|hq
 ·exact axq hc h hn hst pins s σ H v u Q I r ⟨a,xs,e1,hq,hl,hw⟩
 ·subst e1
  cases r
  obtain⟨its,rv,⟨o,m,ho,hcl,_,hd⟩,hz⟩:=I.list hq
  refine adq (I.ok.hd hc) ⟨o,ho,hcl,m,hd⟩ (by simp [hn,←hl,rv.length]) hst fun h' hx=> ?_
  have I1:Inv X pins σ H {s with heap:=h'}:=I.kept (t':=s.toks) fun b o e=> hx b o (aM (aB e)) e
  exact h pins _ σ H xs _ Q I1 (by simpa using rv) hw
end L2
namespace PF
open PySem PySem.Spec
open L2
noncomputable def tOf(K:am)(f:FE):TE:=fun σ H Q=> ∃as ρ s,Rel K as H s/\Envs K as H ρ σ/\Dn K (rD K) as H (f ρ s) Q
noncomputable def ahv(K:am)(f:FT):TT:=fun σ H Q=> ∃as ρ s,Rel K as H s/\Envs K as H ρ σ/\Dn K rB as H (f ρ s) Q
theorem RE.pe{f:FE}(h:RE X e f):PE X e (tOf X.K f):=by
 obtain⟨t,p,r⟩:=h.ex
 exact p.weak fun σ H Q ⟨as,ρ,s,a,b,c⟩=> r as σ H ρ s Q a b c
theorem RT.pt{f:FT}(h:RT X e f):PT X e (ahv X.K f):=by
 obtain⟨t,p,r⟩:=h.ex
 exact⟨fun pins s σ H Q I ⟨as,ρ,s',a,b,c⟩=> p pins s σ H Q I (r as σ H ρ s' Q a b c)⟩
inductive Tg where
 |nm (i:Nat)|t2 (a b:Tg)|t3 (a b c:Tg)|tn (is:List Nat)
def gNs:List Nat -> TGs
 |[]=> aly
 |i::r=> abq (ahg i) (gNs r)
def gOf(K:am):Tg -> TG
 |.nm i=> ahg i
 |.t2 a b=> ahc K 2 (abq (gOf K a) (abq (gOf K b) aly))
 |.t3 a b c=> ahc K 3 (abq (gOf K a) (abq (gOf K b) (abq (gOf K c) aly)))
 |.tn is=> ahc K is.length (gNs is)
noncomputable def an2:D -> Option (List D)
 |.tup ds=> some (ds.map D.da)
 |.lst ds=> some (ds.map D.da)
 |.con ds=> some (ds.map D.da)
 |_=> none
noncomputable def asy:List Nat -> List D -> En -> Option En
 |[],[],ρ=> some ρ
 |i::r,d::ds,ρ=> asy r ds (ρ.set i (some d))
 |_,_,_=> none
def km:Tg -> D -> En -> Option En
 |.nm i,d,ρ=> some (ρ.set i (some d))
 | .t2 a b,d,ρ=> match an2 d with
  |some [x,y]=> match km a x ρ with
   |some ρ1=> km b y ρ1
   |none=> none
  |_=> none
 | .t3 a b c,d,ρ=> match an2 d with
  | some [x,y,z]=> match km a x ρ with
   |some ρ1=> match km b y ρ1 with
    |some ρ2=> km c z ρ2
    |none=> none
   |none=> none
  |_=> none
 |.tn is,d,ρ=> match an2 d with
  |some xs=> asy is xs ρ
  |none=> none
noncomputable def zz(k:Nat):Tg -> Bool
 |.nm i=> decide (i < k)
 |.t2 a b=> zz k a&&zz k b
 |.t3 a b c=> zz k a&&zz k b&&zz k c
 |.tn is=> is.all fun i=> decide (i < k)
def Fra(k:Nat)(σ σ':St):Prop:= ∀vs cap:St,vs.length=k -> σ=vs++cap -> ∃vs':St,vs'.length=k/\σ'=vs'++cap
theorem Fra.refl(k:Nat)(σ:St):Fra k σ σ:=fun vs cap h e=> ⟨vs,h,e⟩
theorem Fra.trans{a b c:St}(h1:Fra k a b)(h2:Fra k b c):Fra k a c:=fun vs cap h e=> by
 obtain⟨v1,l1,e1⟩:=h1 vs cap h e
 exact h2 v1 cap l1 e1
theorem afe{as:As}{d:D}{ds:List D}(r:RD K as H v d)(h:an2 d=some ds): ∃p xs,v=.ref p/\(SqT K H p xs\/SqL K H p xs)/\RDs K as H xs ds:=by
 cases r with
 |da t=>
  cases t with
  |tup n e r=> cases h;exact⟨_,_,rfl,.inl (SqT.of e),r.rd⟩
  |lst n e r=> cases h;exact⟨_,_,rfl,.inr (SqL.of e),r.rd⟩
  |_=> cases h
 |con q r=> cases h;exact⟨_,_,rfl,.inl (q H),r.rd⟩
 |_=> cases h
theorem ann{K:am}{as:As}{H:Hp}{ρ':En}{Q:St -> Hp -> Prop}: ∀(is:List Nat) {xs:List V} {ds:List D} {σ:St} {ρ:En},Envs K as H ρ σ -> RDs K as H xs ds -> asy is ds ρ=some ρ' ->
  (∀σ',Envs K as H ρ' σ' -> (∀k,(is.all fun i=> decide (i < k))=true -> Fra k σ σ') -> Q σ' H) -> xs.length=is.length/\gNs is xs σ H Q
 |[],_,_,σ,ρ,en,rs,e,h=> by
  cases rs with
  |nil=> cases e;exact⟨rfl,rfl,h σ en fun k _=> Fra.refl k σ⟩
  |cons _ _=> cases e
 | i::r,_,_,σ,ρ,en,rs,e,h=> by
  cases rs with
  |nil=> cases e
  | @cons v _ d _ r1 rs=>
   obtain⟨hl,hg⟩:=ann r (en.set i r1) rs e (Q:=Q) fun σ' en' f=> h σ' en' fun k hk=> by
    rw [dY,ao]at hk
    refine Fra.trans (fun vs cap hl z=> ?_) (f k hk.2)
    have hi:i < k:=of_decide_eq_true hk.1
    subst z
    exact⟨vs.set i (some v),by simpa using hl,by rw [iS _ _ (by lia)]⟩
   exact⟨by rw [aD,aD,hl],_,_,rfl,hg⟩
theorem zu{K:am}: ∀(tg:Tg) {as:As} {σ:St} {H:Hp} {ρ ρ':En} {v:V} {d:D} {Q:St -> Hp -> Prop},Envs K as H ρ σ -> RD K as H v d -> km tg d ρ=some ρ' ->
  (∀σ',Envs K as H ρ' σ' -> (∀k,zz k tg=true -> Fra k σ σ') -> Q σ' H) -> gOf K tg v σ H Q
 |.nm i,as,σ,H,ρ,ρ',v,d,Q,en,r,e,h=> by
  cases e
  refine h (σ.set i (some v)) (en.set i r) fun k hk vs cap hl z=> ?_
  have hi:i < k:=of_decide_eq_true hk
  subst z
  exact⟨vs.set i (some v),by simpa using hl,by rw [iS _ _ (by lia)]⟩
 | .t2 a b,as,σ,H,ρ,ρ',v,d,Q,en,r,e,h=> by
  unfold km at e
  split at e
  ·rename_i x y q
   obtain⟨p,xs,rfl,sq,rs⟩:=afe r q
   cases rs with
   |cons r1 rs=>
   cases rs with
   |cons r2 rs=>
   cases rs
   split at e
   ·rename_i ρ1 q1
    refine⟨p,_,rfl,sq,rfl,_,_,rfl,zu a en r1 q1 fun σ1 en1 f1=> ⟨_,_,rfl,zu b en1 r2 e fun σ2 en2 f2=> ⟨rfl,h σ2 en2 fun k hk=> ?_⟩⟩⟩
    simp only [zz,ao]at hk
    exact (f1 k hk.1).trans (f2 k hk.2)
   ·cases e
  ·cases e
 | .t3 a b c,as,σ,H,ρ,ρ',v,d,Q,en,r,e,h=> by
  unfold km at e
  split at e
  ·rename_i x y z q
   obtain⟨p,xs,rfl,sq,rs⟩:=afe r q
   cases rs with
   |cons r1 rs=>
   cases rs with
   |cons r2 rs=>
   cases rs with
   |cons r3 rs=>
   cases rs
   split at e
   ·rename_i ρ1 q1
    split at e
    ·rename_i ρ2 q2
     refine⟨p,_,rfl,sq,rfl,_,_,rfl,zu a en r1 q1 fun σ1 en1 f1=> ⟨_,_,rfl,zu b en1 r2 q2 fun σ2 en2 f2=> ⟨_,_,rfl,zu c en2 r3 e fun σ3 en3 f3=> ⟨rfl,h σ3 en3 fun k hk=> ?_⟩⟩⟩⟩
     simp only [zz,ao]at hk
     exact ((f1 k hk.1.1).trans (f2 k hk.1.2)).trans (f3 k hk.2)
    ·cases e
   ·cases e
  ·cases e
 | .tn is,as,σ,H,ρ,ρ',v,d,Q,en,r,e,h=> by
  unfold km at e
  split at e
  ·rename_i ys q
   obtain⟨p,xs,rfl,sq,rs⟩:=afe r q
   obtain⟨hl,hg⟩:=ann is en rs e (Q:=Q) h
   exact⟨p,xs,rfl,sq,hl,hg⟩
  ·cases e
abbrev Wk:=List D×Option Nat
abbrev FI:=En -> S -> R Wk
def vo(p:Wk)(s:S):Prop:=match p.2 with
 |none=> True
 |some n=> s[n]?=some (.lst p.1)
open Classical in
noncomputable def chk{α:Type}(p:Wk)(s:S)(k:R α):R α:=if vo p s then k else .bad
theorem y4{α:Type}{ds:List D}{s:S}{k:R α}:chk (ds,none) s k=k:=if_pos trivial
theorem aa7{α:Type}{p:Wk}{s:S}{k:R α}(h:vo p s):chk p s k=k:=if_pos h
theorem Dn.chk{α β:Type}{rel:As -> Hp -> β -> α -> Prop}{as:As}{p:Wk}{s:S}{r:R α}{Q:β -> Hp -> Prop}(h:Dn K rel as H (chk p s r) Q):vo p s/\Dn K rel as H r Q:=by
 by_cases c:vo p s
 ·rw [aa7 c]at h;exact⟨c,h⟩
 ·have e:PF.chk p s r=.bad:=if_neg c
  rw [e]at h;exact h.elim
def ad3(K:am)(as:As)(H:Hp)(J:It)(p:Wk):Prop:= ∀as2 H2 s2,Step0 as H as2 H2 -> Rel K as2 H2 s2 -> vo p s2 -> ∀i:Nat,
 (p.1.length <=i -> J.stop i H2)/\ ∀d,p.1[i]?=some d -> J.go i H2/\ ∀x H3,J.yld i H2 x H3 -> Step as2 H2 as2 H3/\Rel K as2 H3 s2/\RD K as2 H3 x d
def ayb(K:am)(wi:TI)(f:FI):Prop:= ∀as σ H ρ s Q,Rel K as H s -> Envs K as H ρ σ -> Dn K (ad3 K) as H (f ρ s) Q -> wi σ H Q
structure RI (X:Cx) (tg iter:Expr) (f:FI):Prop where
 ex: ∃t,PI X tg iter t/\ayb X.K t f
structure RG (X:Cx) (tg:Expr) (g:Tg):Prop where
 pg:PG X tg (gOf X.K g)
section
variable{X:Cx}{a b:Expr}{fa fb:FE}{pos:Pos}
theorem a46(hN:X.N.Nodup)(hi:X.N[i]?=some x)(hx:Loc X.env.scope x)(hf:X.fn x=true\/X.env.scope.names.lookup x=some .local:=by first|exact .inl rfl|exact .inr rfl|assumption):RG X (.Name x pos) (.nm i):=⟨av7 hN hi hx hf⟩
theorem a0j{e1 e2:Expr}{g1 g2:Tg}(hc:X.calm=true)(h1:RG X e1 g1)(h2:RG X e2 g2)(hn:(a9 [e1,e2] X.env).length=2:=by rfl)(hst:(a9 [e1,e2] X.env).findIdx? (·.1)=none:=by rfl)(s1:(a9 [e1,e2] X.env).map (·.2)=assign e1 X.env::(a9 [e2] X.env).map (·.2):=by rfl)(s2:(a9 [e2] X.env).map (·.2)=assign e2 X.env::(a9 [] X.env).map (·.2):=by rfl):RG X (.Tuple [e1,e2] k pos) (.t2 g1 g2):=
 ⟨ak4 hc (aad h1.pg (aad h2.pg al5 s2) s1) hn hst⟩
theorem a13{e1 e2 e3:Expr}{g1 g2 g3:Tg}(hc:X.calm=true)(h1:RG X e1 g1)(h2:RG X e2 g2)(h3:RG X e3 g3)(hn:(a9 [e1,e2,e3] X.env).length=3:=by rfl)(hst:(a9 [e1,e2,e3] X.env).findIdx? (·.1)=none:=by rfl)(s1:(a9 [e1,e2,e3] X.env).map (·.2)=assign e1 X.env::(a9 [e2,e3] X.env).map (·.2):=by rfl)(s2:(a9 [e2,e3] X.env).map (·.2)=assign e2 X.env::(a9 [e3] X.env).map (·.2):=by rfl)(s3:(a9 [e3] X.env).map (·.2)=assign e3 X.env::(a9 [] X.env).map (·.2):=by rfl):RG X (.Tuple [e1,e2,e3] k pos) (.t3 g1 g2 g3):=
 ⟨ak4 hc (aad h1.pg (aad h2.pg (aad h3.pg al5 s3) s2) s1) hn hst⟩
def jk(f:FE):FS:=fun ρ s=> (f ρ s).bind fun d s1=>.ok (.rt d) s1
def ql(f:FE):FS:=fun ρ s=> (f ρ s).bind fun _ s1=>.ok (.nx ρ) s1
noncomputable def jt:FS:=fun ρ s=>.ok (.nx ρ) s
def jp(i:Nat)(f:FE):FS:=fun ρ s=> (f ρ s).bind fun d s1=>.ok (.nx (ρ.set i (some d))) s1
def acx(g:Tg)(f:FE):FS:=fun ρ s=> (f ρ s).bind fun d s1=> match km g d ρ with
 |some ρ1=>.ok (.nx ρ1) s1
 |none=>.bad
def j4(c:FT)(f g:FS):FS:=fun ρ s=> (c ρ s).bind fun k s1=> if k=true then f ρ s1 else g ρ s1
def jd(f g:FS):FS:=fun ρ s=> (f ρ s).bind fun fl s1=> match fl with
 |.nx ρ1=> g ρ1 s1
 |fl=>.ok fl s1
theorem a4e(h:RE X a fa):RS X (.Return (some a) pos) (jk fa):=by
 obtain⟨t,p,r⟩:=h.ex
 refine⟨_,azu p,fun as σ H ρ s D rl en h=> ?_⟩
 exact r as σ H ρ s _ rl en (Dn.bind h fun d s1 as1 H1 v st1 rl1 r1 h1=> Dn.now (b:=FV.rt v) h1 rl1 (.rt r1))
theorem a3w(h:RE X a fa)(hs:gj a none pos.line X.env=pure false:=by rfl):RS X (.Expr a pos) (ql fa):=by
 obtain⟨t,p,r⟩:=h.ex
 refine⟨_,av2 p hs,fun as σ H ρ s D rl en h=> ?_⟩
 exact r as σ H ρ s _ rl en (Dn.bind h fun d s1 as1 H1 v st1 rl1 r1 h1=> Dn.now (b:=FV.nx σ) h1 rl1 (.nx (en.mono st1)))
theorem az4{pos':Pos}(hN:X.N.Nodup)(hi:X.N[i]?=some x)(hx:Loc X.env.scope x)(h:RE X a fa)(hs:gj a (some (.Name x pos')) pos.line X.env=pure false:=by rfl)(hf:X.fn x=true\/X.env.scope.names.lookup x=some .local:=by first|exact .inl rfl|exact .inr rfl|assumption):RS X (.Assign [.Name x pos'] a pos) (jp i fa):=by
 obtain⟨t,p,r⟩:=h.ex
 refine⟨_,awl hN hi hx p hs hf,fun as σ H ρ s D rl en h=> ?_⟩
 exact r as σ H ρ s _ rl en (Dn.bind h fun d s1 as1 H1 v st1 rl1 r1 h1=> Dn.now (b:=FV.nx (σ.set i (some v))) h1 rl1 (.nx ((en.mono st1).set i r1)))
theorem a5p{g:Tg}(h:RE X a fa)(hg:RG X tg g)(hs:iY [tg] a pos.line X.env=pure false:=by rfl)(hw:iZ [tg] a X.env=pure none:=by rfl)(h1:(a9 [tg] X.env).map (·.2)=[assign tg X.env]:=by rfl):RS X (.Assign [tg] a pos) (acx g fa):=by
 obtain⟨t,p,r⟩:=h.ex
 refine⟨_,api p hg.pg hs hw h1,fun as σ H ρ s D rl en h=> ?_⟩
 refine r as σ H ρ s _ rl en (Dn.bind h fun d s1 as1 H1 v st1 rl1 r1 h1=> ?_)
 split at h1
 ·rename_i ρ1 q
  exact zu g (en.mono st1) r1 q fun σ' en' _=> Dn.now (b:=FV.nx σ') h1 rl1 (.nx en')
 ·exact h1.elim
theorem a6d{st su:List Stmt}{fc:FT}{f g:FS}(hc:RT X c fc)(h1:RSs X st f)(h2:RSs X su g):RS X (.If c st su pos) (j4 fc f g):=by
 obtain⟨tc,pc,rc⟩:=hc.ex
 obtain⟨t,p,r⟩:=h1.ex
 obtain⟨t',p',r'⟩:=h2.ex
 refine⟨_,a1e pc p p',fun as σ H ρ s D rl en h=> ?_⟩
 refine rc as σ H ρ s _ rl en (Dn.bind h fun k s1 as1 H1 x st1 rl1 r1 h1=> ?_)
 have e1:x=k:=r1
 subst e1
 cases x with
 |true=> rw [if_pos rfl]at h1⊢;exact r as1 σ H1 ρ s1 D rl1 (en.mono st1) h1
 |false=> rw [if_neg av]at h1⊢;exact r' as1 σ H1 ρ s1 D rl1 (en.mono st1) h1
theorem a3h:RSs X [] jt:=⟨_,avd,fun as σ H ρ s D rl en h=> Dn.now (b:=FV.nx σ) h rl (.nx en)⟩
theorem a48{st:Stmt}{f:FS}(h:RS X st f):RSs X [st] f:=let ⟨t,p,r⟩:=h.ex;⟨_,avf p,r⟩
theorem auy{t u:TS}{f g:FS}(h1:aif K t f)(h2:aif K u g):aif K (axo t u) (jd f g):=by
 intro as σ H ρ s D rl en h
 refine h1 as σ H ρ s _ rl en (Dn.bind h fun fl s1 as1 H1 fv st1 rl1 r1 h1=> ?_)
 cases r1 with
 |nx e=> exact h2 as1 _ H1 _ s1 D rl1 e h1
 |rt e=> exact (show zb D (.rt _) H1 from Dn.now (K:=K) (rel:=rF K) (Q:=zb D) (b:=FV.rt _) h1 rl1 (rF.rt e))
 |bk e=> exact (show zb D (.bk _) H1 from Dn.now (K:=K) (rel:=rF K) (Q:=zb D) (b:=FV.bk _) h1 rl1 (rF.bk e))
 |ct e=> exact (show zb D (.ct _) H1 from Dn.now (K:=K) (rel:=rF K) (Q:=zb D) (b:=FV.ct _) h1 rl1 (rF.ct e))
theorem a2l{st:Stmt}{jx:List Stmt}{f g:FS}(h:RS X st f)(k:RSs X jx g):RSs X (st::jx) (jd f g):=by
 obtain⟨t,p,r⟩:=h.ex
 obtain⟨t',p',r'⟩:=k.ex
 exact⟨_,arj p p',auy r r'⟩
def k8(g:Tg)(fb:FS)(p:Wk):List D -> En -> S -> R Fl
 |[],ρ,s=>.ok (.nx ρ) s
 | d::r,ρ,s=> match km g d ρ with
  |none=>.bad
  |some ρ1=> (fb ρ1 s).bind fun fl s2=> match fl with
   |.nx ρ2=> chk p s2 (k8 g fb p r ρ2 s2)
   |.ct ρ2=> chk p s2 (k8 g fb p r ρ2 s2)
   |.bk ρ2=>.ok (.nx ρ2) s2
   |.rt d=>.ok (.rt d) s2
def ye(fi:FI)(g:Tg)(fb:FS):FS:=fun ρ s=> (fi ρ s).bind fun p s1=> chk p s1 (k8 g fb p p.1 ρ s1)
theorem awv{fi:FI}{g:Tg}{fb:FS}(hc:X.calm=true)(hi:RI X tg iter fi)(hg:RG X tg g)(hb:RSs X body fb)(hp:PassesOwn (model X.prog X.w) X.A X.env X.xe:=by exact PassesOwn.never)(hs: ∀x,cX iter X.env x=pure x:=by intro _;rfl):RS X (.For tg iter body [] pos) (ye fi g fb):=by
 obtain⟨wi,pi,ri⟩:=hi.ex
 obtain⟨tb,pb,rb⟩:=hb.ex
 refine⟨_,ayc hp hc pi hg.pg pb hs,fun as σ H ρ s D rl en h=> ?_⟩
 refine ri as σ H ρ s _ rl en (Dn.bind h fun p s1 as1 H1 J st1 rl1 r1 h1=> ?_)
 obtain⟨so,h1⟩:=Dn.chk h1
 refine⟨fun i m σ' H'=> ∃as2 ρ2 s2,m=p.1.length - i/\i <=p.1.length/\Step as1 H1 as2 H'/\Rel X.K as2 H' s2/\Envs X.K as2 H' ρ2 σ'/\vo p s2/\Dn X.K (rF X.K) as2 H' (k8 g fb p (p.1.drop i) ρ2 s2) (zb D),
  ⟨_,as1,ρ,s1,rfl,cy _,Step.refl _ _,rl1,en.mono st1,so,h1⟩,?_⟩
 rintro i m σ' H' ⟨as2,ρ2,s2,hm,hi,st2,rl2,en2,so2,h2⟩
 have tn:=r1 as2 H' s2 st2.toStep0 rl2 so2 i
 by_cases hl:i < p.1.length
 ·obtain⟨d,hd⟩: ∃d,p.1[i]?=some d:=⟨_,ax hl⟩
  have hdr:p.1.drop i=d::p.1.drop (i+1):=by
   rw [eh hl]
   rw [ax hl]at hd
   cases hd;rfl
  rw [hdr]at h2
  obtain⟨go,yl⟩:=tn.2 d hd
  unfold k8 at h2
  split at h2
  ·exact h2.elim
  ·rename_i ρ3 q3
   refine .inr ⟨go,fun σ4 H4=> ∃as4 ρ4 s4,Step as1 H1 as4 H4/\Rel X.K as4 H4 s4/\Envs X.K as4 H4 ρ4 σ4/\vo p s4/\Dn X.K (rF X.K) as4 H4 (k8 g fb p (p.1.drop (i+1)) ρ4 s4) (zb D),?_,fun x H3 hy=> ?_⟩
   ·rintro σ4 H4 ⟨as4,ρ4,s4,a1,a2,a3,a4,a5⟩
    exact⟨p.1.length - (i+1),by lia,as4,ρ4,s4,rfl,hl,a1,a2,a3,a4,a5⟩
   ·obtain⟨st3,rl3,rx⟩:=yl x H3 hy
    refine zu g (en2.mono st3) rx q3 fun σ3 en3 _=> ?_
    refine rb as2 σ3 H3 ρ3 s2 _ rl3 en3 (Dn.bind (Dn.step h2 st3) fun fl s5 as5 H5 fv st5 rl5 r5 h5=> ?_)
    cases r5 with
    |nx e=>
     obtain⟨so5,h5⟩:=Dn.chk h5
     exact⟨as5,_,s5,(st2.trans st3).trans st5,rl5,e,so5,h5⟩
    |ct e=>
     obtain⟨so5,h5⟩:=Dn.chk h5
     exact⟨as5,_,s5,(st2.trans st3).trans st5,rl5,e,so5,h5⟩
    |rt e=> exact (show zb D (.rt _) H5 from Dn.now (K:=X.K) (rel:=rF X.K) (Q:=zb D) (b:=FV.rt _) h5 rl5 (rF.rt e))
    |bk e=> exact (show zb D (.nx _) H5 from Dn.now (K:=X.K) (rel:=rF X.K) (Q:=zb D) (b:=FV.nx _) h5 rl5 (rF.nx e))
 ·refine .inl ⟨tn.1 (bR hl),?_⟩
  rw [eV (bR hl)]at h2
  exact Dn.now (b:=FV.nx σ') h2 rl2 (.nx en2)
end
end PF
variable{l i1 i2 l1 l2:dM}{K:am}{as:PF.As}{H:L2.Hp}{p d a:jF}{xs:Array cx}{w:jW}{s:PF.S}{n k c:Nat}{ds ys:List jF}{v:L2.V}{i m j many:Int}{x y:fx}{vs:List L2.V}{e tg:gK}{f:PF.FA}{ρ r:PF.En}{σ:L2.St}{g:PF.Tg}{ft:PF.FT}{fe fa fo:PF.FE}{N ws ss ls ps:List fx}{fb:PF.FS}{A:jG}{op:PySem.CmpOp}{pos:PySem.Pos}{b b1 b2:Bool}{o:PF.O}{es:List gK}{x0 x1 x2 x3 x4 x5:Option PF.D}{js:List Nat}{a0 a1:PF.D}{fd:PySem.FuncData}{P prog:iX}{Q E:cx -> em -> Prop}{h base:PySem.Heap}{X:L2.Cx}{pins:List (dM×PySem.Obj)}{scope:PySem.Scope}{ns:List Int}{mg:fx -> Option cx}{sl:Array (Option cx)}
namespace PF
open PySem PySem.Spec
open L2
noncomputable def ael(d:D)(s:S):R Wk:=match d with
 |.lst ds=>.ok (ds.map D.da,none) s
 |.tup ds=>.ok (ds.map D.da,none) s
 |.con ds=>.ok (ds.map D.da,none) s
 |.frz ds=>.ok (ds.map D.da,none) s
 |.ref n=> match s[n]? with
  |some (.lst ds)=>.ok (ds,some n) s
  |_=>.bad
 |_=>.bad
def fIt(f:FE):FI:=fun ρ s=> (f ρ s).bind ael
section
variable{X:Cx}{tg a b:Expr}{fa fb:FE}{pos:Pos}
def a2j(K:am)(tl:TE):TI:=fun σ H R=> tl σ H fun x H1=> ∃a,x=.ref a/\(((∃xs,SqL K H1 a xs)/\R (Itl K a) H1)\/((∃xs,SqT K H1 a xs)/\R (Itt K a) H1))
theorem ay3{l:Expr}{tl:TE}(hl:PE X l tl):PI X tg l (a2j X.K tl):=by
 intro pins s σ H R I h
 refine thn (hl pins s σ H _ I h) fun v s1 ⟨x,H1,I1,r1,q1⟩=> ?_
 obtain⟨a,e,q1⟩:=q1
 subst e
 cases r1
 have fp: ∀b∈ [s1.heap.objs.size],v7 X pins H1 b:=fun b hb=> by
  have e:b=s1.heap.objs.size:=by simpa using hb
  subst e
  exact I1.fpOk (aq _) (I1.hok.fresh (aq _))
 rcases q1 with ⟨⟨xs,hq⟩,q⟩|⟨⟨xs,hq⟩,q⟩
 ·obtain⟨its,rv,p,hz⟩:=I1.list hq
  refine dz p.isList ?_
  exact⟨s1.heap.objs.size,[s1.heap.objs.size],_,_,H1,rfl,I1.kept (t':=s1.toks) fun b o e=> ag _ e,ao1 a _,⟨_,aC _ rfl,rfl,rfl⟩,fp,q⟩
 ·obtain⟨its,rv,p,hz⟩:=I1.tuple hq
  refine gl (show s1.heap.IsTuple a its.toArray from p) ?_
  exact⟨s1.heap.objs.size,[s1.heap.objs.size],_,_,H1,rfl,I1.kept (t':=s1.toks) fun b o e=> ag _ e,amf a _,⟨_,aC _ rfl,rfl,rfl⟩,fp,q⟩
theorem aii{p:Addr}{xs:List V}{w:Wk}(h: ∀as2 H2 s2,Step0 as H as2 H2 -> Rel K as2 H2 s2 -> vo w s2 -> ∃ys,SqL K H2 p ys/\RDs K as2 H2 ys w.1):ad3 K as H (Itl K p) w:=by
 intro as2 H2 s2 st rl so i
 obtain⟨ys,sq,rs⟩:=h as2 H2 s2 st rl so
 refine⟨fun hl=> ⟨ys,sq,by rw [rs.length];exact hl⟩,fun d hd=> ?_⟩
 obtain⟨v,hv,r⟩:=rs.get hd
 refine⟨⟨ys,v,sq,hv⟩,fun x H3 hy=> ?_⟩
 obtain⟨rfl,hx⟩:=hy
 have:=hx ys sq
 rw [hv]at this
 cases this
 exact⟨Step.refl _ _,rl,r⟩
theorem aoc{p:Addr}{xs:List V}{w:Wk}(h: ∀as2 H2 s2,Step0 as H as2 H2 -> Rel K as2 H2 s2 -> vo w s2 -> ∃ys,SqT K H2 p ys/\RDs K as2 H2 ys w.1):ad3 K as H (Itt K p) w:=by
 intro as2 H2 s2 st rl so i
 obtain⟨ys,sq,rs⟩:=h as2 H2 s2 st rl so
 refine⟨fun hl=> ⟨ys,sq,by rw [rs.length];exact hl⟩,fun d hd=> ?_⟩
 obtain⟨v,hv,r⟩:=rs.get hd
 refine⟨⟨ys,v,sq,hv⟩,fun x H3 hy=> ?_⟩
 obtain⟨rfl,hx⟩:=hy
 have:=hx ys sq
 rw [hv]at this
 cases this
 exact⟨Step.refl _ _,rl,r⟩
theorem x9{p:Addr}{ds:List D}(rl:Rel K as H s)(hr: ∀q,as.ix[n]?=some (some q) -> q=p)(e:s[n]?=some (.lst ds)):as.ix[n]?=some (some p)/\ ∃xs,H p=some (.lst xs)/\RDs K as H xs ds:=by
 obtain⟨q,hq⟩:=rl.li n _ e (by intro z;cases z)
 cases hr q hq
 exact⟨hq,rl.ob n p _ hq e⟩
theorem a64(h:RE X a fa):RI X tg a (fIt fa):=by
 obtain⟨t,p,r⟩:=h.ex
 refine⟨_,ay3 p,fun as σ H ρ s Q rl en h=> ?_⟩
 refine r as σ H ρ s _ rl en (Dn.bind h fun d s1 as1 H1 v st1 rl1 r1 h1=> ?_)
 cases r1 with
 |da t=>
  cases t with
  |tup n e rs=> exact⟨_,rfl,.inr ⟨⟨_,SqT.of e⟩,Dn.now (Q:=Q) h1 rl1 (aoc (xs:=[]) fun as2 H2 s2 st rl so=> ⟨_,SqT.of (st.keep _ _ n e),(rs.mono0 st).rd⟩)⟩⟩
  |lst n e rs=> exact⟨_,rfl,.inl ⟨⟨_,SqL.of e⟩,Dn.now (Q:=Q) h1 rl1 (aii (xs:=[]) fun as2 H2 s2 st rl so=> ⟨_,SqL.of (st.keep _ _ n e),(rs.mono0 st).rd⟩)⟩⟩
  |_=> exact h1.elim
 |con q rs=> exact⟨_,rfl,.inr ⟨⟨_,q H1⟩,Dn.now (Q:=Q) h1 rl1 (aoc (xs:=[]) fun as2 H2 s2 st rl so=> ⟨_,q H2,(rs.mono0 st).rd⟩)⟩⟩
 |frz q rs=> exact⟨_,rfl,.inl ⟨⟨_,q as1 H1 (Step.refl _ _).toStep0⟩,Dn.now (Q:=Q) h1 rl1 (aii (xs:=[]) fun as2 H2 s2 st rl so=> ⟨_,q as2 H2 st,(rs.mono0 st).rd⟩)⟩⟩
 | @ref pp n l hr=>
  have h1:Dn X.K (ad3 X.K) as1 H1 (match s1[n]? with|some (O.lst ds)=> R.ok (ds,some n) s1|_=> R.bad) Q:=h1
  split at h1
  ·rename_i ds e
   obtain⟨ha,xs,hx,rs⟩:=x9 rl1 hr e
   refine⟨_,rfl,.inl ⟨⟨_,SqL.of hx⟩,Dn.now (Q:=Q) h1 rl1 (aii (xs:=[]) fun as2 H2 s2 st rl so=> ?_)⟩⟩
   have so':s2[_]?=some (O.lst ds):=so
   obtain⟨q,hq⟩:=rl.li _ _ so' (by intro z;cases z)
   have e2:=hq
   rcases st.old _ l with z|z
   ·rw [z]at e2
    cases hr q e2
    obtain⟨ys,hy,rs2⟩:=rl.ob _ _ _ hq so'
    exact⟨ys,SqL.of hy,rs2⟩
   ·rw [z]at e2;cases e2
  ·exact h1.elim
 |_=> exact h1.elim
noncomputable def ac4(lo:Int):Nat -> List D
 |0=> []
 |n+1=>.int lo::ac4 (lo+1) n
theorem qr: ∀(n:Nat) (lo:Int),(ac4 lo n).length=n
 |0,_=> rfl
 |n+1,lo=> congrArg (· +1) (qr n (lo+1))
theorem afj: ∀(n:Nat) (lo:Int) (i:Nat),i < n -> (ac4 lo n)[i]?=some (.int (lo+i))
 |n+1,lo,0,_=> by simp [ac4]
 |n+1,lo,i+1,h=> by
  rw [ac4,aN,afj n (lo+1) i (by lia)]
  have:lo+1+(i:Int)=lo+((i+1:Nat):Int):=by lia
  rw [this]
theorem azb(lo:Int)(n:Nat):ad3 K as H (Itr lo n) (ac4 lo n,none):=by
 intro as2 H2 s2 st rl so i
 refine⟨fun hl=> by rw [qr]at hl;exact hl,fun d hd=> ?_⟩
 have hl:i < n:=by
  have:=(aF.mp hd).1
  rw [qr]at this;exact this
 rw [afj n lo i hl]at hd
 cases hd
 refine⟨hl,fun x H3 hy=> ?_⟩
 obtain⟨rfl,rfl⟩:=hy
 exact⟨Step.refl _ _,rl,.da (.int _)⟩
def am7(ds:List D)(s:S):R Wk:=match ds with
 |[.int j]=> if -(2^62) <=j/\j < 2^62 then .ok (ac4 0 j.toNat,none) s else .bad
 |_=>.bad
def aai(f:FA):FI:=fun ρ s=> (f ρ s).bind am7
theorem RD.int_inv(h:RD K as H v (.int i)):v=.int i:=by
 cases h with|da t=> cases t;rfl
theorem RD.str_inv(h:RD K as H v (.str x)):v=.str x:=by
 cases h with|da t=> cases t;rfl
theorem RD.bl_inv{x:Bool}(h:RD K as H v (.bl x)):v=.bl x:=by
 cases h with|da t=> cases t;rfl
theorem RDs.one{d:D}(h:RDs K as H vs [d]): ∃v,vs=[v]/\RD K as H v d:=by
 cases h with|cons a b=> cases b;exact⟨_,rfl,a⟩
theorem RDs.two{d e:D}(h:RDs K as H vs [d,e]): ∃v w,vs=[v,w]/\RD K as H v d/\RD K as H w e:=by
 cases h with|cons a b=> cases b with|cons b c=> cases c;exact⟨_,_,rfl,a,b⟩
theorem aww{p:Pos}(hm:X.mg "range"=none)(h:RA X [a] f)(hg:Gl X "range":=by rfl)(hs:starEach [a] X.env=[(false,eval a X.env)]:=by rfl):RI X tg (.Call (.Name "range" p) [a] [] pos) (aai f):=by
 obtain⟨t,p,r⟩:=h.ex
 refine⟨_,aor hg hm p hs,fun as σ H ρ s Q rl en h=> ?_⟩
 refine r as σ H ρ s _ rl en (Dn.bind h fun ds s1 as1 H1 vs st1 rl1 r1 h1=> ?_)
 unfold am7 at h1
 split at h1
 ·rename_i j
  obtain⟨v,rfl,rv⟩:=r1.one
  cases rv.int_inv
  split at h1
  ·rename_i hb
   exact⟨j,rfl,hb.1,hb.2,Dn.now (Q:=Q) h1 rl1 (azb 0 _)⟩
  ·exact h1.elim
 ·exact h1.elim
def kh(g:Tg)(ft:FT)(fe:FE)(ρ0:En)(p:Wk):List D -> S -> R (List D)
 |[],s=>.ok [] s
 |d::r,s=> match km g d ρ0 with
  |none=>.bad
  |some ρ1=> (ft ρ1 s).bind fun b s2=> if b=true then (fe ρ1 s2).bind fun x s3=> chk p s3 ((kh g ft fe ρ0 p r s3).bind fun xs s4=>.ok (x::xs) s4) else chk p s2 (kh g ft fe ρ0 p r s2)
noncomputable def afx(ρ:En)(js:List Nat):En:=js.map fun j=> (ρ[j]?).join
def fLc(m:Bool)(js:List Nat)(k:Nat)(fi:FI)(g:Tg)(ft:FT)(fe:FE):FE:=fun ρ s=> (fi ρ s).bind fun p s1=> if p.1.length <=sizeLine then chk p s1 ((kh g ft fe (bL k none++afx ρ js) p p.1 s1).bind fun ds s2=> kc m ds s2) else .bad
noncomputable def yg:FT:=fun _ s=>.ok true s
structure RIfs (X:Cx) (ifs:List Expr) (f:FT):Prop where
 run:afm X ifs (ahv X.K f)
theorem a2n:RIfs X [] yg:=⟨fun pins s σ H Q I ⟨as,ρ,s',rl,en,h⟩=> ark pins s σ H Q I (show Q true H from Dn.now h rl rfl)⟩
theorem a2s{f:FT}(h:RT X a f):RIfs X [a] f:=⟨aqm h.pt⟩
theorem Envs.caps(e:Envs K as H ρ σ)(js:List Nat):Envs K as H (afx ρ js) (yb σ js):=by
 refine⟨by simp [afx,yb],fun i d h=> ?_⟩
 unfold afx at h
 unfold yb
 rw [aV]at h⊢
 cases q:js[i]? with
 |none=> rw [q]at h;cases h
 | some j=>
  rw [q]at h
  have h:(ρ[j]?).join=some d:=by simpa using h
  cases z:ρ[j]? with
  |none=> rw [z]at h;cases h
  | some o=>
   rw [z]at h
   cases o with
   |none=> cases h
   |some x=>
    cases h
    obtain⟨v,e1,r⟩:=e.get j d z
    exact⟨v,by simp [e1],r⟩
theorem Envs.own{vs:St}(e:Envs K as H ρ σ)(hl:vs.length=k):Envs K as H (bL k none++ρ) (vs++σ):=by
 refine⟨by simp [hl,e.len],fun i d h=> ?_⟩
 by_cases z:i < k
 ·rw [aS (by simpa using z),di]at h
  simp [z]at h
 ·rw [bF (by simpa using bR z)]at h
  rw [bF (by rw [hl];exact bR z)]
  rw [hl]
  exact e.get _ d (by simpa using h)
theorem lcB {J:It} {p:Wk} {ρ0:En} {cap:St} {m:Bool} {Q:VK} (hg:zz k g=true) (hz:p.1.length <=sizeLine) (rl:Rel K as H s) (ri:ad3 K as H J p) (so:vo p s) (en: ∀vs:St,vs.length=k -> Envs K as H ρ0 (vs++cap)) (h:Dn K (rD K) as H ((kh g ft fe ρ0 p p.1 s).bind fun ds s2=> kc m ds s2) Q):ard (gOf K g) (ahv K ft) (tOf K fe) k cap J H Q:=by
 intro D hD
 have n0:New H D (.lst []) (upd H D (.lst [])):=⟨hD,rfl⟩
 have nh:D∉as.hd:=fun z=> by obtain⟨_,e⟩:=rl.hs D z;rw [hD]at e;cases e
 have s0:=agh (as:=as) n0
 refine⟨fun i mm ys H'=> ∃as2 s2 ds,mm=p.1.length - i/\i <=p.1.length/\ys.length <=i/\Step as H as2 H'/\D∈as2.hd/\Rel K as2 H' s2/\vo p s2/\RDs K as2 H' ys ds/\
   Dn K (rD K) as H ((kh g ft fe ρ0 p (p.1.drop i) s2).bind fun xs s3=> kc m (ds++xs) s3) Q,
  ⟨_,as.hide D,s,[],rfl,cy _,aq _,s0,az,rl.hide n0,so,.nil,h⟩,?_⟩
 rintro i mm ys H' hDi ⟨as2,s2,ds,hm,hi,hys,st2,mD2,rl2,so2,rs,h2⟩
 have tn:=ri as2 H' s2 st2.toStep0 rl2 so2 i
 by_cases hl:i < p.1.length
 ·obtain⟨d,hd⟩: ∃d,p.1[i]?=some d:=⟨_,ax hl⟩
  have hdr:p.1.drop i=d::p.1.drop (i+1):=by
   rw [eh hl]
   rw [ax hl]at hd
   cases hd;rfl
  rw [hdr]at h2
  obtain⟨go,yl⟩:=tn.2 d hd
  unfold kh at h2
  split at h2
  ·exact h2.elim
  ·rename_i ρ3 q3
   refine .inr ⟨go,fun x H3 hy vs hv=> ?_⟩
   obtain⟨st3,rl3,rx⟩:=yl x H3 hy
   refine zu g ((en vs hv).mono (st2.trans st3)) rx q3 fun σ3 en3 fr=> ?_
   refine⟨fr k hg vs cap hv rfl,as2,ρ3,s2,rl3,en3,?_⟩
   have eD3:H3 D=some (.lst ys):=st3.hh D mD2 _ hDi
   cases qt:ft ρ3 s2 with
   |bad=> rw [qt]at h2;exact h2.elim
   | ok b s4=>
    rw [qt]at h2
    intro b' as4 H4 st4 rl4 eb
    have eb':b'=b:=eb
    subst eb'
    have mD4:D∈as4.hd:=st4.hk D mD2
    have eD4:H4 D=some (.lst ys):=st4.hh D mD2 _ eD3
    have st24:=(st2.trans st3).trans st4
    rw [R.bind_ok]at h2
    cases b' with
    | false=>
     rw [if_neg av]at h2⊢
     by_cases c:vo p s4
     ·rw [aa7 c]at h2
      exact⟨eD4,_,by lia,as4,s4,ds,rfl,hl,by lia,st24,mD4,rl4,c,(rs.mono st3).mono st4,h2⟩
     ·have e:chk p s4 (kh g ft fe ρ0 p (p.1.drop (i+1)) s4)=.bad:=if_neg c
      rw [e]at h2;exact h2.elim
    | true=>
     rw [if_pos rfl]at h2⊢
     refine⟨as4,ρ3,s4,rl4,en3.mono st4,?_⟩
     cases qe:fe ρ3 s4 with
     |bad=> rw [qe]at h2;exact h2.elim
     | ok x5 s5=>
      rw [qe]at h2
      intro v5 as5 H5 st5 rl5 r5
      rw [R.bind_ok]at h2
      have mD5:D∈as5.hd:=st5.hk D mD4
      have eD5:H5 D=some (.lst ys):=st5.hh D mD4 _ eD4
      have st25:=st24.trans st5
      by_cases c:vo p s5
      ·rw [aa7 c]at h2
       have cg:Chg H5 D (.lst (ys++ [v5])) (upd H5 D (.lst (ys++ [v5]))):=⟨rfl⟩
       have s05:=zm (.inr mD5) cg
       refine⟨eD5,by lia,_,by lia,as5,s5,ds++ [x5],rfl,hl,by simp;lia,ars st25 hD nh mD5 cg,mD5,rl5.chgH mD5 cg,c,((((rs.mono st3).mono st4).mono st5).append (.cons r5 .nil)).mono0 s05,?_⟩
       cases qc:kh g ft fe ρ0 p (p.1.drop (i+1)) s5 with
       |bad=> rw [qc]at h2;exact h2.elim
       |ok xs s6=>
        rw [qc]at h2
        show Dn K (rD K) as H (kc m ((ds++ [x5])++xs) s6) Q
        rw [dw]
        exact h2
      ·have e:chk p s5 ((kh g ft fe ρ0 p (p.1.drop (i+1)) s5).bind fun xs s4=>.ok (x5::xs) s4)=.bad:=if_neg c
       rw [e]at h2;exact h2.elim
 ·refine .inl ⟨tn.1 (bR hl),?_⟩
  rw [eV (bR hl)]at h2
  replace h2:Dn K (rD K) as H (kc m (ds++ []) s2) Q:=h2
  rw [bq]at h2
  unfold kc at h2
  cases m with
  |true=>
   rw [if_pos rfl]at h2
   refine h2 (.ref D) _ H' (aop st2 nh mD2) (rl2.take mD2 ⟨ys,hDi,rs.mono0 (ack mD2)⟩) (.ref (by simp [rl2.len]) fun q e=> ?_)
   rw [←rl2.len]at e
   simp at e
   exact e.symm
  | false=>
   rw [if_neg av]at h2
   cases q:jj ds with
   |none=> rw [q]at h2;exact h2.elim
   |some zs=>
    rw [q]at h2
    have e:=yc q
    subst e
    have h2:Dn K (rD K) as H (R.ok (.lst zs) s2) Q:=h2
    refine h2 (.ref D) _ H' (aq2 st2 nh acl) rl2.show (.da (.lst (fun z=> ?_) hDi (rs.td.mono0 acl)))
    rcases z with z|z
    ·exact rl2.hx D mD2 z
    ·exact absurd rfl (of_decide_eq_true (bG.mp z).2)
end
end PF
namespace PF
open PySem PySem.Spec
open L2
open PyProof.Rows (envOfC)
section
variable{X:Cx}{own caps:List Str}{js:List Nat}{scope:eE}{tg iter elt a:Expr}{ifs:List Expr}{fi:FI}{g:Tg}{ft:FT}{fe fa:FE}{pos:Pos}
theorem apr{wi:TI}{m:Bool}(ri:ayb K wi fi)(hl:zz k g=true):zd K (tLc js k wi (gOf K g) (ahv K ft) (tOf K fe)) (fLc m js k fi g ft fe):=by
 intro as σ H ρ s Q rl en h
 refine ri as σ H ρ s _ rl en (Dn.bind h fun p s1 as1 H1 J st1 rl1 r1 h1=> ?_)
 split at h1
 ·rename_i hz
  obtain⟨so,h1⟩:=Dn.chk h1
  exact lcB hl hz rl1 r1 so (fun vs hv=> ((en.mono st1).caps js).own hv) h1
 ·exact h1.elim
theorem atc(m:Bool)(hcalm:X.calm=true)(hkind:scope.kind=.function)(hnames:(scope.names.all fun p=> !(p.2==.local)||(scope.names.lookup p.1==some .local))=true)(hcell:(scope.names.any fun p=> p.2==.cell)=false)
  (hk:(scope.names.all fun p=> !(p.2==.free)||(X.env.kindOf p.1==some .cell||X.env.kindOf p.1==some .free))=true)
  (hcap:xq X scope caps js) (hl:zz own.length g=true) (hi:RI X tg iter fi) (hg: ∀C fp s H,RG (qa X own caps scope C fp s H) tg g) (ht: ∀C fp s H,RIfs (qa X own caps scope C fp s H) ifs ft) (he: ∀C fp s H,RE (qa X own caps scope C fp s H) elt fe)
  (hs: ∀x,cX iter X.env x=pure x:=by intro _;rfl):RE X (.ListComp elt [⟨tg,iter,ifs,0⟩] scope pos) (fLc m js own.length fi g ft fe):=by
 obtain⟨wi,pi,ri⟩:=hi.ex
 exact⟨_,a1x hcalm hkind hnames hcell hk hcap pi (fun C fp s H=> (hg C fp s H).pg) (fun C fp s H=> (ht C fp s H).run) (fun C fp s H=> (he C fp s H).pe) hs,apr ri hl⟩
theorem aij(m:Bool){i:Nat}{py:Pos}{spos:Pos}(hsw:gj (.ListComp elt [⟨tg,iter,ifs,0⟩] scope pos) (some (.Name y py)) spos.line X.env=pure true)(hN:X.N.Nodup)(hy:X.N[i]?=some y)(hyl:X.env.scope.names.lookup y=some .local)(hcalm:X.calm=true)(hkind:scope.kind=.function)(hnames:(scope.names.all fun p=> !(p.2==.local)||(scope.names.lookup p.1==some .local))=true)(hcell:(scope.names.any fun p=> p.2==.cell)=false)(hk:(scope.names.all fun p=> !(p.2==.free)||(X.env.kindOf p.1==some .cell||X.env.kindOf p.1==some .free))=true)(hcap:xq X scope caps js)(hl:zz own.length g=true)(hi:RI X tg iter fi)(hg: ∀C fp s H,RG (qa X own caps scope C fp s H) tg g)(ht: ∀C fp s H,RIfs (qa X own caps scope C fp s H) ifs ft)(he: ∀C fp s H,RE (qa X own caps scope C fp s H) elt fe)(hs: ∀x,cX iter X.env x=pure x:=by intro _;rfl):RS X (.Assign [.Name y py] (.ListComp elt [⟨tg,iter,ifs,0⟩] scope pos) spos) (jp i (fLc m js own.length fi g ft fe)):=by
 obtain⟨wi,pi,ri⟩:=hi.ex
 refine⟨_,aqh (own:=own) (te:=tOf X.K fe) (tt:=ahv X.K ft) (g:=gOf X.K g) hsw hN hy hyl hcalm hkind hnames hcell hk hcap pi (fun C fp s H=> (hg C fp s H).pg) (fun C fp s H=> (ht C fp s H).run) (fun C fp s H=> (he C fp s H).pe) hs,fun as σ H ρ s D rl en h=> ?_⟩
 exact apr (m:=m) ri hl as σ H ρ s _ rl en (Dn.bind h fun d s1 as1 H1 v st1 rl1 r1 h1=> Dn.now (b:=FV.nx (σ.set i (some v))) h1 rl1 (.nx ((en.mono st1).set i r1)))
def arw(d:D)(s:S):R D:=match d with
 | .ref n=> match s[n]? with
  |some (.lst ds)=> match jj ds with
   |some xs=>.ok (.lst xs) (s.set n .gone)
   |none=>.bad
  |_=>.bad
 |d=>.ok d s
def as9(f:FE):FE:=fun ρ s=> (f ρ s).bind arw
theorem axc{d:D}{Q:VK}(rl:Rel K as H s)(r:RD K as H v d)(h:Dn K (rD K) as H (arw d s) Q):Q v H:=by
 cases r with
 | @ref p n l hr=>
  have h1:Dn K (rD K) as H (match s[n]? with|some (O.lst ds)=> (match jj ds with|some xs=> R.ok (D.lst xs) (s.set n .gone)|none=>.bad)|_=> R.bad) Q:=h
  split at h1
  ·rename_i ds e
   split at h1
   ·rename_i xs q
    obtain⟨ha,vs,hv,rs⟩:=x9 rl hr e
    have e2:=yc q
    subst e2
    refine h1 (.ref p) (as.cut n) H (ae7 n) rl.frz (.da (.lst ?_ hv (rs.td.mono (ae7 n))))
    rintro (z|z)
    ·obtain⟨i,hi⟩:=qd.mp z
     have hi':=aes hi
     have:n=i:=rl.nd n i p ha hi'
     subst this
     rw [cZ]at hi
     simp at hi
    ·exact rl.hx p z (qd.mpr ⟨n,ha⟩)
   ·exact h1.elim
  ·exact h1.elim
 |da t=> exact Dn.now (Q:=Q) h rl (.da t)
 |ty n=> exact Dn.now (Q:=Q) h rl (.ty n)
 |fn a=> exact Dn.now (Q:=Q) h rl (.fn a)
 |tabF a=> exact Dn.now (Q:=Q) h rl (.tabF a)
 |con q r=> exact Dn.now (Q:=Q) h rl (.con q r)
 |frz q r=> exact Dn.now (Q:=Q) h rl (.frz q r)
theorem a54(h:RE X a fa):RE X a (as9 fa):=by
 obtain⟨t,p,r⟩:=h.ex
 refine⟨_,p,fun as σ H ρ s Q rl en h=> ?_⟩
 exact r as σ H ρ s _ rl en (Dn.bind h fun d s1 as1 H1 v st1 rl1 r1 h1=> axc rl1 r1 h1)
end
abbrev FF:=List D -> S -> R D
noncomputable def spF(K:am)(n:Nat)(F:FF):Sp:=fun vs H Q _=> vs.length=n/\ ∃as ds s,Rel K as H s/\RDs K as H vs ds/\Dn K (rD K) as H (F ds s) Q
structure CalF (P:aR) (w:aT) (K:am) (mg:Str -> Option ac) (base:Heap) (x:Str) (k n:Nat) (F:FF):Prop where
 cal:Cal P w K mg base x k (spF K n F)
def je(n:Nat)(F:FF)(f:FA):FE:=fun ρ s=> (f ρ s).bind fun ds s1=> if ds.length=n then F ds s1 else .bad
section
variable{X:Cx}{x:Str}{k n:Nat}{F:FF}{p pos:Pos}{e:Expr}{es:List Expr}{f:FA}
theorem a2m(c:CalF X.prog X.w X.K X.mg X.base x k n F)(hr:Room k X.A)(ha:RA X (e::es) f)(hg:Gl X x:=by rfl)(hdb:(x==("__debug__":Str))=false:=by decide)
  (he:starEach (e::es) X.env=(false,eval e X.env)::starEach es X.env:=by rfl) (hpl:(backTo pos (starEach es X.env)).any (·.1)=false:=by rfl):RE X (.Call (.Name x p) (e::es) [] pos) (je n F f):=by
 obtain⟨t,p,r⟩:=ha.ex
 refine⟨_,a23 c.cal hr p hg hdb he hpl,fun as σ H ρ s Q rl en h=> ?_⟩
 refine r as σ H ρ s _ rl en (Dn.bind h fun ds s1 as1 H1 vs st1 rl1 r1 h1=> ?_)
 split at h1
 ·rename_i hn
  refine⟨by rw [bq,r1.length];exact hn,as1,ds,s1,rl1,?_,h1⟩
  rw [bq];exact r1
 ·exact h1.elim
end
def j8(m:Nat)(fb:FS):FF:=fun ds s=> (fb (ds.map some++bL (m - ds.length) none) s).bind fun fl s1=> match fl with
 |.rt d=>.ok d s1
 |.nx _=>.ok .non s1
 |_=>.bad
theorem af1{ds:List D}(r:RDs K as H vs ds):Envs K as H (ds.map some++bL (N.length - ds.length) none) (L2.start N vs):=by
 unfold L2.start
 refine⟨by simp [r.length],fun i d h=> ?_⟩
 by_cases z:i < ds.length
 ·rw [aS (by simpa using z),aV]at h
  cases q:ds[i]? with
  |none=> rw [q]at h;cases h
  |some x=>
   rw [q]at h
   cases h
   obtain⟨v,hv,rv⟩:=r.get q
   exact⟨v,by rw [aS (by rw [ak,r.length];exact z),aV,hv];rfl,rv⟩
 ·rw [bF (by simpa using bR z),di]at h
  split at h
  ·cases h
  ·cases h
section
variable{P:aR}{w:aT}{K:am}{mg:Str -> Option ac}{base:Heap}{x:Str}{st:Stmt}{N ps:List Str}{k:Nat}
theorem a2c(h:Has K mg x st ps)(S:FnScope N ps (jf st)){m:Nat}(hm:N.length=m)(hn:ps.length=n)(hbody: ∀(f:Addr) (cdv:ac) (A:aZ) (outer:List Env) (s:ah) (H:Hp) (E:XK),Room k (A.deeper (envOfC x (jf st) s.heap.objs.size f cdv)) ->
   RSs (ac0 CX0 P w K mg base N x (jf st) f cdv A outer s H E).nox (qp st) fb):CalF P w K mg base x (k+1) n (j8 m fb):=by
 refine⟨h.cal S (fun vs H Q E h=> by rw [hn];exact h.1) fun f cdv A outer s H vs Q E hr h=> ?_⟩
 obtain⟨hv,as,ds,s',rl,rs,h⟩:=h
 obtain⟨t,p,r⟩:=(hbody f cdv A outer s H E hr).ex
 refine⟨t,p,?_⟩
 have en:Envs K as H (ds.map some++bL (m - ds.length) none) (L2.start N vs):=by rw [←hm];exact af1 rs
 refine r as _ H _ s' _ rl en (Dn.bind h fun fl s1 as1 H1 fv st1 rl1 r1 h1=> ?_)
 cases r1 with
 |nx e=> exact Dn.now (Q:=Q) h1 rl1 (.da .non)
 |rt e=> exact Dn.now (Q:=Q) h1 rl1 e
 |bk e=> exact h1.elim
 |ct e=> exact h1.elim
end
noncomputable def ahf(K:am):Sp:=fun vs H Q _=> ∃(a:Addr) (ns:List Int),vs=[.ref a]/\SqL K H a (ns.map V.int)/\ns.length <=63/\ ∀H',Q (.bl true) H'
theorem TDs.ints{as:As}{H:Hp}: ∀ns:List Int,TDs as H (ns.map V.int) (ns.map bT)
 |[]=>.nil
 |n::r=>.cons (.int n) (TDs.ints r)
end PF
namespace PF
open PySem PySem.Spec
open L2
section
variable{X:Cx}{pins:List (Addr×Obj)}{σ:St}{H:Hp}{s:ah}{as:As}
theorem agu{a:Addr}(I:Inv X pins σ H s)(e:H a=some (.dK [])):(a==dQ)=false/\ ∃(o:Obj) (es:Array dJ) (ep:Nat),s.heap.get? a=some o/\o.cls=.type "dict"/\o.data=.dict es ep/\es.toList=[]:=by
 obtain⟨_,hd,vs,rel,dd⟩:=atd I.hok e
 cases rel
 obtain⟨o,es,ep,h1,h2,h3,h4,h5⟩:=dd
 refine⟨hd,o,es,ep,h1,h2.1,h3,?_⟩
 cases h6:es.toList with
 |nil=> rfl
 |cons x r=> rw [h6]at h5;obtain⟨h5,_⟩:=h5;cases h5
theorem akk{a:Addr}(I:Inv X pins σ H s)(e:H a=some (.dK [(.inl i,v)])):(a==dQ)=false/\ ∃(o:Obj) (es:Array dJ) (ep:Nat) (hs:Int) (t:Tok) (u:ac),RelV v u/\s.heap.get? a=some o/\o.cls=.type "dict"/\o.data=.dict es ep/\es.toList=[⟨hs,.int i t,u⟩]:=by
 obtain⟨_,hd,vs,rel,dd⟩:=atd I.hok e
 cases rel with
 | @cons _ b _ _ r1 r2=>
  cases r2
  obtain⟨k,u⟩:=b
  obtain⟨r0,r1⟩:=r1
  obtain rfl:fy i=k:=r0
  obtain⟨o,es,ep,h1,h2,h3,h4,h5,_⟩:=dd
  refine⟨hd,o,es,ep,?_⟩
  cases h6:es.toList with
  |nil=> rw [h6]at h5;cases h5
  | cons x r=>
   rw [h6]at h5
   cases h5 with
   | cons k1 k2 k3=>
    cases k3
    obtain⟨hs,key,val⟩:=x
    rcases kg (k:=.inl i) (v:=key) k1 with ⟨j,t,e1,e2⟩|⟨y,t,e1,_⟩
    ·cases e1
     obtain rfl:key=gh i t:=e2
     obtain rfl:val=u:=k2
     exact⟨hs,t,val,r1,h1,h2.1,h3,rfl⟩
    ·cases e1
mutual
theorem TD.reads(I:Inv X pins σ H s): ∀{v:V} {d:ae} {u:ac},TD as H v d -> RelV v u -> ∃bs,cj s.heap u d bs
 |_,_,u,.non,r=> by cases (show u=aQ from r);exact⟨_,.none⟩
 |_,_,u,.bl b,r=> by cases (show u=dP b from r);exact⟨_,.bool b⟩
 |_,_,u,.int i,r=> by obtain⟨t,e⟩:=(show∃t,u=gh i t from r);subst e;exact⟨_,.int i t⟩
 |_,_,u,.str x,r=> by obtain⟨t,e⟩:=(show∃t,u=gi x t from r);subst e;exact⟨_,.str x t⟩
 |_,_,u,.tup (p:=a) (xs:=xs) n e q,r=> by
  cases (show u=a8 a from r)
  obtain⟨z,its,rv,p⟩:=(show j5 X.prog X.w H s.heap a (.tup xs) from I.hok a _ e)
  obtain⟨o,h1,h2,k,h3⟩:=p.tup
  obtain⟨bs,ra⟩:=TDs.reads I q rv
  exact⟨_,.tuple h1 h2 h3 ra⟩
 |_,_,u,.lst (p:=a) (xs:=xs) n e q,r=> by
  cases (show u=a8 a from r)
  obtain⟨z,its,k,rv,h1⟩:=(show j5 X.prog X.w H s.heap a (.lst xs) from I.hok a _ e)
  obtain⟨bs,ra⟩:=TDs.reads I q rv
  exact⟨_,.list h1 rfl rfl ra⟩
 |_,_,u,.dct (p:=a) n e,r=> by
  cases (show u=a8 a from r)
  obtain⟨_,o,es,ep,h1,h2,h3,h4⟩:=agu I e
  exact⟨_,.dict (kvs:=[]) h1 h2 h3 (by rw [h4];exact .nil) (by rw [h4];exact .nil)⟩
 |_,_,u,.dc1 (p:=a) (i:=i) (d:=d) n e q,r=> by
  cases (show u=a8 a from r)
  obtain⟨_,o,es,ep,hs,t,y,ry,h1,h2,h3,h4⟩:=akk I e
  obtain⟨bs,ra⟩:=TD.reads I q ry
  exact⟨_,.dict (kvs:=[(.int i,d)]) h1 h2 h3 (by rw [h4];exact .cons (.int i t) .nil) (by rw [h4];exact .cons ra .nil)⟩
theorem TDs.reads(I:Inv X pins σ H s): ∀{vs:List V} {ds:List ae} {us:List ac},TDs as H vs ds -> jg vs us -> ∃bs,bQ s.heap us ds bs
 |_,_,_,.nil,r=> by cases r;exact⟨_,.nil⟩
 | _,_,_,.cons a b,r=> by
  cases r with
  |cons r1 r2=>
   obtain⟨as,h1⟩:=TD.reads I a r1
   obtain⟨bs,h2⟩:=TDs.reads I b r2
   exact⟨_,.cons h1 h2⟩
end
def toP(s:S):D -> Option ae
 |.da d=> some d
 |.con ds=> some (.tuple ds)
 |.frz ds=> some (.list ds)
 |.ref n=> match s[n]? with
  |some (.lst ds)=> (jj ds).map cz
  |_=> none
 |_=> none
noncomputable def toL(s:S):D -> Option (List D)
 |.lst ds=> some (ds.map D.da)
 |.ref n=> match s[n]? with
  |some (.lst ds)=> some ds
  |_=> none
 |_=> none
theorem yv{st:S}{d:D}{ds:List D}(rl:Rel K as H st)(r:RD K as H v d)(h:toL st d=some ds): ∃p xs,v=.ref p/\H p=some (.lst xs)/\RDs K as H xs ds:=by
 cases r with
 |da t=>
  cases t with
  |lst n e q=> cases h;exact⟨_,_,rfl,e,q.rd⟩
  |_=> cases h
 | @ref p n l hr=>
  have h:(match st[n]? with|some (O.lst ds)=> some ds|_=> none)=some ds:=h
  split at h
  ·rename_i ys e
   cases h
   obtain⟨_,xs,hx,rs⟩:=x9 rl hr e
   exact⟨p,xs,rfl,hx,rs⟩
  ·cases h
 |_=> cases h
theorem RD.reads{st:S}{d:D}{pd:ae}{u:ac}(I:Inv X pins σ H s)(rl:Rel X.K as H st)(r:RD X.K as H v d)(h:toP st d=some pd)(ru:RelV v u): ∃bs,cj s.heap u pd bs:=by
 cases r with
 |da t=> cases h;exact t.reads I ru
 |con q rs=>
  cases h
  obtain⟨its,rv,⟨o,h1,h2,k,h3⟩,z⟩:=I.tuple (q H)
  obtain⟨bs,ra⟩:=rs.reads I rv
  cases ru
  exact⟨_,.tuple h1 h2 h3 ra⟩
 |frz q rs=>
  cases h
  obtain⟨its,rv,⟨o,k,h1,h2,h3,h4⟩,z⟩:=I.list (q as H (Step.refl _ _).toStep0)
  obtain⟨bs,ra⟩:=rs.reads I rv
  cases ru
  exact⟨_,.list h1 h2 h4 ra⟩
 | @ref p n l hr=>
  have h:(match st[n]? with|some (O.lst ds)=> (jj ds).map cz|_=> none)=some pd:=h
  split at h
  ·rename_i ds e
   cases q:jj ds with
   |none=> rw [q]at h;cases h
   |some xs=>
    rw [q]at h
    cases h
    have e2:=yc q
    subst e2
    obtain⟨_,vs,hv,rs⟩:=x9 rl hr e
    obtain⟨z,its,k,rv,h1⟩:=(show j5 X.prog X.w H s.heap p (.lst vs) from I.hok p _ hv)
    obtain⟨bs,ra⟩:=rs.td.reads I rv
    cases ru
    exact⟨_,.list h1 rfl rfl ra⟩
  ·cases h
 |_=> cases h
end
noncomputable def okD(d:ae):Bool:=d.canLay0&&decide (d.depth <=64)
theorem k7{f:ac -> ac -> Sem ac}{g:D -> D -> S -> R D}(h: ∀(pins:List (Addr×Obj)) (sh:ah) (σ:St) (H:Hp) (as:As) (s:S) (x y:V) (dx dy:D) (v u:ac) (Q:VK),Inv X pins σ H sh -> Rel X.K as H s -> RD X.K as H x dx -> RD X.K as H y dy -> RelV x v -> RelV y u ->
  Dn X.K (rD X.K) as H (g dx dy s) Q -> wpAny (model X.prog X.w) X.A (f v u) (EP X pins σ Q) X.xe sh):Op2 X f g:=
 ⟨fun x y H Q=> ∃as s dx dy,Rel X.K as H s/\RD X.K as H x dx/\RD X.K as H y dy/\Dn X.K (rD X.K) as H (g dx dy s) Q,
  fun pins sh σ H x y v u Q I rx ry ⟨as,s,dx,dy,rl,r1,r2,q⟩=> h pins sh σ H as s x y dx dy v u Q I rl r1 r2 rx ry q,
  fun as H s x y dx dy Q rl r1 r2 q=> ⟨as,s,dx,dy,rl,r1,r2,q⟩⟩
def am1(dx dy:D)(s:S):R D:=match toP s dx,toP s dy with
 |some a,some b=> if okD a=true/\okD b=true then .ok (.bl (aI a b)) s else .bad
 |_,_=>.bad
def amh(dx dy:D)(s:S):R D:=match toP s dx,toP s dy with
 |some a,some b=> if okD a=true/\okD b=true then .ok (.bl (!PyData.eqv a b)) s else .bad
 |_,_=>.bad
def gEq(dx dy:D)(s:S):R D:=match dx,dy with
 |.str x,.str y=>.ok (.bl (decide (x=y))) s
 |dx,dy=> am1 dx dy s
def gNe(dx dy:D)(s:S):R D:=match dx,dy with
 |.str x,.str y=>.ok (.bl (!decide (x=y))) s
 |dx,dy=> amh dx dy s
theorem v0(h:okD d=true):d.canLay0=true/\d.depth <=64:=by
 unfold okD at h
 rw [ao]at h
 exact⟨h.1,of_decide_eq_true h.2⟩
theorem a03(hu:X.A.units+64 < cLine):Op2 X (aK .Eq) am1:=k7 fun pins sh σ H as s x y dx dy v u Q I rl r1 r2 rx ry h=> by
 unfold am1 at h
 split at h
 ·rename_i a b ea eb
  split at h
  ·rename_i hok
   obtain⟨bs1,q1⟩:=r1.reads I rl ea rx
   obtain⟨bs2,q2⟩:=r2.reads I rl eb ry
   obtain⟨c1,d1⟩:=v0 hok.1
   obtain⟨c2,d2⟩:=v0 hok.2
   exact SeqAt.compareEq_reads q1 q2 c1 c2 (by lia) ⟨.bl _,H,I,rfl,Dn.now (Q:=Q) h rl (.da (.bl _))⟩
  ·exact h.elim
 ·exact h.elim
theorem a1a(hu:X.A.units+64 < cLine):Op2 X (aK .NotEq) amh:=k7 fun pins sh σ H as s x y dx dy v u Q I rl r1 r2 rx ry h=> by
 unfold amh at h
 split at h
 ·rename_i a b ea eb
  split at h
  ·rename_i hok
   obtain⟨bs1,q1⟩:=r1.reads I rl ea rx
   obtain⟨bs2,q2⟩:=r2.reads I rl eb ry
   obtain⟨c1,d1⟩:=v0 hok.1
   obtain⟨c2,d2⟩:=v0 hok.2
   exact SeqAt.compareNe_reads q1 q2 c1 c2 (by lia) ⟨.bl _,H,I,rfl,Dn.now (Q:=Q) h rl (.da (.bl _))⟩
  ·exact h.elim
 ·exact h.elim
theorem al6(x y:Str):decide (V.str x=V.str y)=decide (x=y):=by
 rw [br,decide_eq_true_eq,decide_eq_true_eq,V.str.injEq]
theorem ac7(h:RD K as H v (.str x)):v=.str x:=by
 cases h with|da t=> cases t;rfl
theorem a2y(hu:X.A.units+64 < cLine):Op2 X (aK .Eq) gEq:=k7 fun pins sh σ H as s x y dx dy v u Q I rl r1 r2 rx ry h=> by
 unfold gEq at h
 split at h
 ·cases ac7 r1;cases ac7 r2
  exact a17 pins sh σ H _ _ v u Q I rx ry ⟨rfl,by rw [al6];exact Dn.now (Q:=Q) h rl (.da (.bl _))⟩
 ·obtain⟨r,ho,hr⟩:=(a03 (X:=X) hu).ex
  exact ho pins sh σ H x y v u Q I rx ry (hr as H s x y _ _ Q rl r1 r2 h)
theorem a2q(hu:X.A.units+64 < cLine):Op2 X (aK .NotEq) gNe:=k7 fun pins sh σ H as s x y dx dy v u Q I rl r1 r2 rx ry h=> by
 unfold gNe at h
 split at h
 ·cases ac7 r1;cases ac7 r2
  exact a10 pins sh σ H _ _ v u Q I rx ry ⟨rfl,by rw [al6];exact Dn.now (Q:=Q) h rl (.da (.bl _))⟩
 ·obtain⟨r,ho,hr⟩:=(a1a (X:=X) hu).ex
  exact ho pins sh σ H x y v u Q I rx ry (hr as H s x y _ _ Q rl r1 r2 h)
noncomputable def ank:ae -> Option (List ae)
 |.list ds=> some ds
 |.tuple ds=> some ds
 |_=> none
noncomputable def nb(n b:Bool):Bool:=match n with
 |true=> !b
 |false=> b
def afo(neg:Bool)(dx dy:D)(s:S):R D:=match toP s dx,(toP s dy).bind ank with
 |some a,some ds=> if okD a=true/\ds.all okD=true then .ok (.bl (nb neg (ds.any fun d=> aI d a))) s else .bad
 |_,_=>.bad
def afi(neg:Bool)(dx dy:D)(s:S):R D:=match dx,dy with
 |.str a,.str b=>.ok (.bl (nb neg (!(dh b a 0 b.length 1).isEmpty))) s
 |dx,dy=> afo neg dx dy s
open Classical in
theorem at2{sh:ah}{v:ac}{bs:List Addr}(ra:cj sh.heap v a bs)(ha:okD a=true)(hu:A.units+64 < cLine){us:List ac}{cs:List Addr}(h:bQ sh.heap us ds cs)(hd:ds.all okD=true):
  ∃e:ac -> Bool,(∀y∈us,cB A sh y v (e y))/\us.any e=ds.any fun d=> aI d a:=by
 refine⟨fun y=> decide (∃d cs,cj sh.heap y d cs/\aI d a=true),?_⟩
 have one: ∀{y:ac} {d:ae} {cs:List Addr},cj sh.heap y d cs -> decide (∃d cs,cj sh.heap y d cs/\aI d a=true)=aI d a:=fun {y d cs} r=> by
  (rw [br,decide_eq_true_eq])
  constructor
  ·rintro⟨d',cs',r',e⟩
   obtain⟨q,_⟩:=PyProof.Rows.reads_det (fun _ _ e _=> e) r r'
   subst q;exact e
  ·exact fun e=> ⟨d,cs,r,e⟩
 induction us generalizing ds cs with
 |nil=>
  cases h
  exact⟨fun _ z=> (by cases z),rfl⟩
 | cons u us ih=>
  cases h with
  | cons r rs=>
   rw [dY,ao]at hd
   obtain⟨i1,i2⟩:=ih rs hd.2
   obtain⟨l1,m1⟩:=v0 hd.1
   obtain⟨l2,m2⟩:=v0 ha
   refine⟨fun y hy=> ?_,?_⟩
   ·rcases aE.mp hy with z|z
    ·subst z
     show cB A sh y v (decide (∃d cs,cj sh.heap y d cs/\aI d a=true))
     rw [one r]
     exact SeqAt.eqAt_reads _ _ A sh _ _ _ _ r ra l1 l2 (by lia)
    ·exact i1 y z
   ·rw [i7,i7,i2,one r]
theorem aat(A:aZ):A.in1.units <=A.units+1:=by
 show (A.in1).units <=A.units+1
 first|exact aq _|(unfold Around.in1;simp)|simp [Around.in1]
theorem ayj(neg:Bool)(hop:(neg=false/\op=.In)\/(neg=true/\op=.NotIn))(hu:X.A.units+65 < cLine):Op2 X (aK op) (afo neg):=k7 fun pins sh σ H as s x y dx dy v u Q I rl r1 r2 rx ry h=> by
 unfold afo at h
 split at h
 ·rename_i a ds ea ed
  split at h
  ·rename_i hok
   obtain⟨bs1,q1⟩:=r1.reads I rl ea rx
   cases e2:toP s dy with
   |none=> rw [e2]at ed;cases ed
   | some pd=>
    rw [e2]at ed
    have ed:ank pd=some ds:=ed
    obtain⟨bs2,q2⟩:=r2.reads I rl e2 ry
    have hin:=aat X.A
    cases q2 with
    | list k1 k2 k3 k4=>
     cases ed
     obtain⟨e,he,ha⟩:=at2 (A:=X.A.in1) q1 hok.1 (by lia) k4 hok.2
     rcases hop with ⟨rfl,rfl⟩|⟨rfl,rfl⟩
     ·refine SeqAt.in_listAt e ⟨_,k1,k2,_,k3⟩ (fun y hy=> he y (by simpa using hy)) ⟨.bl _,H,I,rfl,?_⟩
      rw [←fm,ha]
      exact Dn.now (Q:=Q) h rl (.da (.bl _))
     ·refine SeqAt.notIn_listAt e ⟨_,k1,k2,_,k3⟩ (fun y hy=> he y (by simpa using hy)) ⟨.bl _,H,I,rfl,?_⟩
      rw [←fm,ha]
      exact Dn.now (Q:=Q) h rl (.da (.bl _))
    | tuple k1 k2 k3 k4=>
     cases ed
     obtain⟨e,he,ha⟩:=at2 (A:=X.A.in1) q1 hok.1 (by lia) k4 hok.2
     rcases hop with ⟨rfl,rfl⟩|⟨rfl,rfl⟩
     ·refine SeqAt.in_tupleAt e ⟨_,k1,k2,_,k3⟩ (fun y hy=> he y (by simpa using hy)) ⟨.bl _,H,I,rfl,?_⟩
      rw [←fm,ha]
      exact Dn.now (Q:=Q) h rl (.da (.bl _))
     ·refine jD e ⟨_,k1,k2,_,k3⟩ (fun y hy=> he y (by simpa using hy)) ⟨.bl _,H,I,rfl,?_⟩
      rw [←fm,ha]
      exact Dn.now (Q:=Q) h rl (.da (.bl _))
    |_=> cases ed
  ·exact h.elim
 ·exact h.elim
theorem amb(neg:Bool)(hop:(neg=false/\op=.In)\/(neg=true/\op=.NotIn))(hu:X.A.units+65 < cLine):Op2 X (aK op) (afi neg):=k7 fun pins sh σ H as s x y dx dy v u Q I rl r1 r2 rx ry h=> by
 unfold afi at h
 split at h
 ·rename_i a b
  cases r2.str_inv
  cases r1.str_inv
  rcases hop with ⟨rfl,rfl⟩|⟨rfl,rfl⟩
  ·exact apo pins sh σ H _ _ v u Q I rx ry ⟨a,b,rfl,rfl,Dn.now (Q:=Q) h rl (.da (.bl _))⟩
  ·exact ahp pins sh σ H _ _ v u Q I rx ry ⟨a,b,rfl,rfl,Dn.now (Q:=Q) h rl (.da (.bl _))⟩
 ·obtain⟨r,ho,hr⟩:=(ayj (X:=X) neg hop hu).ex
  exact ho pins sh σ H x y v u Q I rx ry (hr as H s x y _ _ Q rl r1 r2 h)
abbrev gIn:=afi false
abbrev aan:=afi true
theorem avm(hu:X.A.units+65 < cLine):Op2 X (aK .NotIn) aan:=amb true (.inr ⟨rfl,rfl⟩) hu
def j7(m:Bool)(dx dy:D)(s:S):R D:=match dx,dy with
 |.int i,.int j=>.ok (.int (i+j)) s
 |.bl b,.int j=>.ok (.int (b01 b+j)) s
 |.str a,.str b=> if a.length+b.length <=sizeLine then .ok (.str (a++b)) s else .bad
 |.tup xs,.tup ys=> if xs.length+ys.length <=sizeLine then .ok (.tup (xs++ys)) s else .bad
 |dx,dy=> match toL s dx,toL s dy with
  |some xs,some ys=> if xs.length+ys.length <=sizeLine then kc m (xs++ys) s else .bad
  |_,_=>.bad
theorem RD.tup_inv(h:RD K as H v (.tup ds)): ∃p xs,v=.ref p/\ ¬as.has p/\H p=some (.tup xs)/\TDs as H xs ds:=by
 cases h with|da t=> cases t with|tup n e r=> exact⟨_,_,rfl,n,e,r⟩
theorem RD.lst_inv(h:RD K as H v (.lst ds)): ∃p xs,v=.ref p/\ ¬as.has p/\H p=some (.lst xs)/\TDs as H xs ds:=by
 cases h with|da t=> cases t with|lst n e r=> exact⟨_,_,rfl,n,e,r⟩
theorem a1f(m:Bool):Op2 X (binaryOp .Add) (j7 m):=k7 fun pins sh σ H as s x y dx dy v u Q I rl r1 r2 rx ry h=> by
 unfold j7 at h
 split at h
 ·rename_i i j
  cases r1.int_inv;cases r2.int_inv
  exact aot pins sh σ H _ _ v u Q I rx ry ⟨i,j,rfl,rfl,Dn.now (Q:=Q) h rl (.da (.int _))⟩
 ·rename_i b j
  cases r1.bl_inv;cases r2.int_inv
  exact awa pins sh σ H _ _ v u Q I rx ry ⟨b01 b,j,rfl,rfl,Dn.now (Q:=Q) h rl (.da (.int _))⟩
 ·rename_i a b
  split at h
  ·rename_i hz
   cases r1.str_inv;cases r2.str_inv
   exact an3 pins sh σ H _ _ v u Q I rx ry ⟨a,b,rfl,rfl,hz,Dn.now (Q:=Q) h rl (.da (.str _))⟩
  ·exact h.elim
 ·rename_i xs ys
  split at h
  ·rename_i hz
   obtain⟨p,vs,rfl,n1,e1,t1⟩:=r1.tup_inv
   obtain⟨q,ws,rfl,n2,e2,t2⟩:=r2.tup_inv
   refine aqx pins sh σ H _ _ v u Q I rx ry ⟨p,q,vs,ws,rfl,rfl,SqT.of e1,SqT.of e2,by rw [t1.length,t2.length];exact hz,fun e=> ?_,fun _ e=> ?_,fun _ _ r H' n=> ?_⟩
   ·subst e
    cases t1
    exact Dn.now (Q:=Q) h rl (.da (.tup n2 e2 t2))
   ·subst e
    cases t2
    rw [bq]at h
    exact Dn.now (Q:=Q) h rl (.da (.tup n1 e1 t1))
   ·exact h (.ref r) as H' (jy n) (rl.new n) (.da (.tup (fun z=> rl.has z n.no) n.at ((t1.append t2).mono (jy n))))
  ·exact h.elim
 ·split at h
  ·rename_i xs ys e1 e2
   split at h
   ·rename_i hz
    obtain⟨p,vs,rfl,h1,t1⟩:=yv rl r1 e1
    obtain⟨q,ws,rfl,h2,t2⟩:=yv rl r2 e2
    exact aun pins sh σ H _ _ v u Q I rx ry ⟨p,q,vs,ws,rfl,rfl,h1,h2,by rw [t1.length,t2.length];exact hz,fun r H' n=> yk h rl (t1.append t2) n⟩
   ·exact h.elim
  ·exact h.elim
instance (i j:Int):Decidable (afd i j):=by unfold afd;infer_instance
instance (i j:Int):Decidable (am5 i j):=by unfold am5;infer_instance
instance (i j:Int):Decidable (ams i j):=by unfold ams;infer_instance
noncomputable def gI2(C:Int -> Int -> Prop)[∀i j,Decidable (C i j)](f:Int -> Int -> Int)(dx dy:D)(s:S):R D:=match dx,dy with
 |.int i,.int j=> if C i j then .ok (.int (f i j)) s else .bad
 |_,_=>.bad
theorem ahi{op:Operator}{C:Int -> Int -> Prop}[∀i j,Decidable (C i j)]{f:Int -> Int -> Int}(o:OpR X (binaryOp op) (rI C fun i j=>.int (f i j))):Op2 X (binaryOp op) (gI2 C f):=k7 fun pins sh σ H as s x y dx dy v u Q I rl r1 r2 rx ry h=> by
 unfold gI2 at h
 split at h
 ·rename_i i j
  split at h
  ·rename_i hc
   cases r1.int_inv;cases r2.int_inv
   exact o pins sh σ H _ _ v u Q I rx ry ⟨i,j,rfl,rfl,hc,Dn.now (Q:=Q) h rl (.da (.int _))⟩
  ·exact h.elim
 ·exact h.elim
def xp:D -> D -> S -> R D:=gI2 afd fun i j=> i*j
def afg:D -> D -> S -> R D:=gI2 am5 fun i j=> i/j
def yf:D -> D -> S -> R D:=gI2 (fun _ j=> 0 < j) fun i j=> i % j
def aml:D -> D -> S -> R D:=gI2 ams fun i j=> i^j.toNat
theorem a0x:Op2 X (binaryOp .Mult) xp:=ahi awp
theorem a19:Op2 X (binaryOp .FloorDiv) afg:=ahi auo
theorem a0h:Op2 X (binaryOp .Mod) yf:=ahi aws
theorem a1p:Op2 X (binaryOp .Pow) aml:=ahi azr
noncomputable def gC2(f:Int -> Int -> Bool)(dx dy:D)(s:S):R D:=match dx,dy with
 |.int i,.int j=>.ok (.bl (f i j)) s
 |_,_=>.bad
theorem an1{f:Int -> Int -> Bool}(o:OpR X (aK op) (rI0 fun i j=>.bl (f i j))):Op2 X (aK op) (gC2 f):=k7 fun pins sh σ H as s x y dx dy v u Q I rl r1 r2 rx ry h=> by
 unfold gC2 at h
 split at h
 ·rename_i i j
  cases r1.int_inv;cases r2.int_inv
  exact o pins sh σ H _ _ v u Q I rx ry ⟨i,j,rfl,rfl,Dn.now (Q:=Q) h rl (.da (.bl _))⟩
 ·exact h.elim
def gLe:D -> D -> S -> R D:=gC2 fun i j=> decide (i <=j)
def gGt:D -> D -> S -> R D:=gC2 fun i j=> decide (j < i)
def gGe:D -> D -> S -> R D:=gC2 fun i j=> decide (j <=i)
noncomputable def gLt(dx dy:D)(s:S):R D:=match dx,dy with
 |.int i,.int j=>.ok (.bl (decide (i < j))) s
 |.str a,.str b=>.ok (.bl (decide (a.cps.toList < b.cps.toList))) s
 |_,_=>.bad
theorem a30:Op2 X (aK .LtE) gLe:=an1 at1
theorem a3b:Op2 X (aK .Gt) gGt:=an1 a18
theorem a38:Op2 X (aK .GtE) gGe:=an1 a0c
theorem a2d:Op2 X (aK .Lt) gLt:=k7 fun pins sh σ H as s x y dx dy v u Q I rl r1 r2 rx ry h=> by
 unfold gLt at h
 split at h
 ·rename_i i j
  cases r1.int_inv;cases r2.int_inv
  exact a0k pins sh σ H _ _ v u Q I rx ry ⟨i,j,rfl,rfl,Dn.now (Q:=Q) h rl (.da (.bl _))⟩
 ·rename_i a b
  cases r1.str_inv;cases r2.str_inv
  exact ao7 pins sh σ H _ _ v u Q I rx ry ⟨a,b,rfl,rfl,Dn.now (Q:=Q) h rl (.da (.bl _))⟩
 ·exact h.elim
theorem RD.non_inv(h:RD K as H v .non):v=.non:=by
 cases h with|da t=> cases t;rfl
def ab1(f:FE):FE:=fun ρ s=> (f ρ s).bind fun d s1=> match d with
 |.int i=>.ok (.int (-i)) s1
 |_=>.bad
theorem a59{a:Expr}(h:RE X a fa):RE X (.UnaryOp .USub a pos) (ab1 fa):=by
 obtain⟨t,p,r⟩:=h.ex
 refine⟨_,a1h axs p,fun as σ H ρ s Q rl en h=> ?_⟩
 refine r as σ H ρ s _ rl en (Dn.bind h fun d s1 as1 H1 v st1 rl1 r1 h1=> ?_)
 split at h1
 ·cases r1.int_inv
  exact⟨_,rfl,Dn.now (Q:=Q) h1 rl1 (.da (.int _))⟩
 ·exact h1.elim
noncomputable def abr(s:S):D -> Option (List D)
 |.lst ds=> some (ds.map D.da)
 |.tup ds=> some (ds.map D.da)
 |.con ds=> some (ds.map D.da)
 |.frz ds=> some (ds.map D.da)
 |.ref n=> match s[n]? with
  |some (.lst ds)=> some ds
  |_=> none
 |_=> none
theorem abg{d:D}{ds:List D}(rl:Rel K as H s)(r:RD K as H v d)(h:abr s d=some ds): ∃p xs,v=.ref p/\(SqL K H p xs\/SqT K H p xs)/\RDs K as H xs ds:=by
 cases r with
 |da t=>
  cases t with
  |lst n e q=> cases h;exact⟨_,_,rfl,.inl (SqL.of e),q.rd⟩
  |tup n e q=> cases h;exact⟨_,_,rfl,.inr (SqT.of e),q.rd⟩
  |_=> cases h
 |con q r=> cases h;exact⟨_,_,rfl,.inr (q H),r.rd⟩
 |frz q r=> cases h;exact⟨_,_,rfl,.inl (q as H (Step.refl _ _).toStep0),r.rd⟩
 | @ref p n l hr=>
  have h:(match s[n]? with|some (O.lst ds)=> some ds|_=> none)=some ds:=h
  split at h
  ·rename_i ys e
   cases h
   obtain⟨_,xs,hx,rs⟩:=x9 rl hr e
   exact⟨p,xs,rfl,.inl (SqL.of hx),rs⟩
  ·cases h
 |_=> cases h
theorem RDs.atI{xs:List V}{ds:List D}{d:D}(r:RDs K as H xs ds)(h:atI ds i=some d): ∃v,atI xs i=some v/\RD K as H v d:=by
 unfold L2.atI at h⊢
 rw [r.length]
 cases q:ixN ds.length i with
 |none=> rw [q]at h;cases h
 |some j=>
  rw [q]at h
  obtain⟨v,hv,rv⟩:=r.get (show ds[j]?=some d from h)
  exact⟨v,hv,rv⟩
def gIx(dx dy:D)(s:S):R D:=match dx,dy with
 | .str z,.int i=> if z.length <=sizeLine then match atI z.cps.toList i with
   |some c=>.ok (.str ⟨#[c]⟩) s
   |none=>.bad
  else .bad
 | dx,.int i=> match abr s dx with
  |some ds=> match atI ds i with
   |some d=>.ok d s
   |none=>.bad
  |none=>.bad
 |_,_=>.bad
theorem axt:ait K (rIx K) gIx:=by
 intro as H s x y dx dy Q rl r1 r2 h
 unfold gIx at h
 split at h
 ·rename_i z i
  cases r1.str_inv;cases r2.int_inv
  split at h
  ·rename_i hz
   split at h
   ·rename_i c e
    exact .inr (.inr ⟨z,i,c,rfl,rfl,hz,e,Dn.now (Q:=Q) h rl (.da (.str _))⟩)
   ·exact h.elim
  ·exact h.elim
 ·rename_i i _
  cases r2.int_inv
  split at h
  ·rename_i ds e
   split at h
   ·rename_i d e2
    obtain⟨p,xs,rfl,sq,rs⟩:=abg rl r1 e
    obtain⟨v,hv,rv⟩:=rs.atI e2
    rcases sq with sq|sq
    ·exact .inl ⟨p,xs,i,v,rfl,rfl,sq,hv,Dn.now (Q:=Q) h rl rv⟩
    ·exact .inr (.inl ⟨p,xs,i,v,rfl,rfl,sq,hv,Dn.now (Q:=Q) h rl rv⟩)
   ·exact h.elim
  ·exact h.elim
 ·exact h.elim
theorem a6j{a b:Expr}{fb:FE}(ha:RE X a fa)(hb:RE X b fb)(hs:aln b:=by exact fun _ _=> rfl):RE X (.Subscript a b pos) (fOp gIx fa fb):=by
 obtain⟨ta,pa,ra⟩:=ha.ex
 obtain⟨tb,pb,rb⟩:=hb.ex
 exact⟨_,a0p ayt pa pb hs,aeq axt ra rb⟩
def kl{α:Type}(xs:List α)(lo hi:Option Int):List α:=(xs.drop (HT.sIx xs.length 0 lo)).take (HT.sIx xs.length xs.length hi - HT.sIx xs.length 0 lo)
theorem RDs.cut{xs:List V}{ds:List D}(r:RDs K as H xs ds)(lo hi:Option Int):RDs K as H (ya xs lo hi) (kl ds lo hi):=by
 unfold ya kl
 rw [r.length]
 exact (r.drop _).take _
theorem TDs.cut{xs:List V}(r:TDs as H xs ds)(lo hi:Option Int):TDs as H (ya xs lo hi) (kl ds lo hi):=by
 unfold ya kl
 rw [r.length]
 exact (r.drop _).take _
noncomputable def aqw(z:Str)(lo hi:Option Int):Str:=if ((dL lo hi 1 z.length).length==z.length)=true then z else ⟨((dL lo hi 1 z.length).filterMap (z.cps[·]?)).toArray⟩
def a32:V -> Option Int -> Option Int -> Hp -> VK -> Prop:=fun x lo hi H Q=> ∃z,x=.str z/\z.length <=sizeLine/\Q (.str (aqw z lo hi)) H
theorem avl:SlR X a32:=by
 intro pins s σ H x v vl vu lo hi sl Q I rx hs pl pu h
 obtain⟨z,rfl,hz,q⟩:=h
 obtain⟨t,rfl⟩:=rx
 obtain⟨l,rfl,el⟩:=part_of pl
 obtain⟨u,rfl,eu⟩:=part_of pu
 refine⟨"str",_,PySem.F.slot_str_getitem.lookup,rfl,?_⟩
 have hs':s.heap.IsSlice sl l u none:=by
  obtain⟨o,ho,hc,hd⟩:=hs
  exact⟨o,ho,hc,hd⟩
 refine wpAny_getItem_str_slice hs' rfl ?_
 have ep:eW z l u none=dL lo hi 1 z.length:=by
  unfold eW
  rw [el,eu];rfl
 have hlen:(eW z l u none).length <=z.length:=sliceIndices_le _ _ _
 have hfl:((eW z l u none).filterMap (z.cps[·]?)).length <=z.length:=a7 (List.length_filterMap_le _ _) hlen
 unfold aqw at q
 rw [←ep]at q
 unfold sliceMade
 split
 ·rename_i c
  rw [if_pos (by simpa using c)]at q
  exact⟨.str z,H,I,⟨t,rfl⟩,q⟩
 ·rename_i c
  rw [if_neg (by simpa using c)]at q
  have len:(⟨((eW z l u none).filterMap (z.cps[·]?)).toArray⟩:Str).length <=z.length:=by
   show (((eW z l u none).filterMap (z.cps[·]?)).toArray).size <=z.length
   rw [au];exact hfl
  exact⟨a7 len hz,.str _,H,I.tok _,⟨_,rfl⟩,q⟩
def gSl(m:Bool)(d:D)(lo hi:Option Int)(s:S):R D:=match d with
 |.str z=> if z.length <=sizeLine then .ok (.str (aqw z lo hi)) s else .bad
 |.tup ds=>.ok (.tup (kl ds lo hi)) s
 |.frz ds=> kc m (kl (ds.map D.da) lo hi) s
 |d=> match toL s d with
  |some ds=> kc m (kl ds lo hi) s
  |none=>.bad
abbrev FO:=En -> S -> R (Option Int)
noncomputable def fNo:FO:=fun _ s=>.ok none s
def aa3(f:FE):FO:=fun ρ s=> (f ρ s).bind fun d s1=> match d with
 |.int i=>.ok (some i) s1
 |_=>.bad
def a3f(K:am)(t:TO)(f:FO):Prop:= ∀as σ H ρ s Q,Rel K as H s -> Envs K as H ρ σ -> Dn K (fun _ _ (b a:Option Int)=> b=a) as H (f ρ s) Q -> t σ H Q
structure ROp (X:Cx) (e:Option Expr) (f:FO):Prop where
 ex: ∃t,PO X e t/\a3f X.K t f
theorem a3g:ROp X none fNo:=⟨_,aw8,fun as σ H ρ s Q rl en h=> Dn.now (Q:=Q) h rl rfl⟩
theorem a3k{a:Expr}(h:RE X a fa):ROp X (some a) (aa3 fa):=by
 obtain⟨t,p,r⟩:=h.ex
 refine⟨_,avv p,fun as σ H ρ s Q rl en h=> ?_⟩
 refine r as σ H ρ s _ rl en (Dn.bind h fun d s1 as1 H1 v st1 rl1 r1 h1=> ?_)
 split at h1
 ·cases r1.int_inv
  exact⟨_,rfl,Dn.now (Q:=Q) h1 rl1 rfl⟩
 ·exact h1.elim
def fSl(m:Bool)(f:FE)(lo hi:FO):FE:=fun ρ s=> (f ρ s).bind fun d s1=> (lo ρ s1).bind fun l s2=> (hi ρ s2).bind fun u s3=> gSl m d l u s3
theorem a2u(m:Bool){a:Expr}{lo hi:Option Expr}{fl fu:FO}{p2:Pos}(ha:RE X a fa)(hl:ROp X lo fl)(hu:ROp X hi fu):RE X (.Subscript a (.Slice lo hi none p2) pos) (fSl m fa fl fu):=by
 obtain⟨ta,pa,ra⟩:=ha.ex
 obtain⟨tl,pl,rl'⟩:=hl.ex
 obtain⟨tu,pu,ru⟩:=hu.ex
 refine⟨_,arr (avl.or (avb.or ar5)) pa pl pu,fun as σ H ρ s Q rl en h=> ?_⟩
 refine ra as σ H ρ s _ rl en (Dn.bind h fun d s1 as1 H1 v st1 rl1 r1 h1=> ?_)
 refine rl' as1 σ H1 ρ s1 _ rl1 (en.mono st1) (Dn.bind h1 fun l s2 as2 H2 l' st2 rl2 e2 h2=> ?_)
 have e2:l'=l:=e2
 subst e2
 refine ru as2 σ H2 ρ s2 _ rl2 ((en.mono st1).mono st2) (Dn.bind h2 fun u s3 as3 H3 u' st3 rl3 e3 h3=> ?_)
 have e3:u'=u:=e3
 subst e3
 have r1:=(r1.mono st2).mono st3
 unfold gSl at h3
 split at h3
 ·cases r1.str_inv
  split at h3
  ·rename_i hz
   exact .inl ⟨_,rfl,hz,Dn.now (Q:=Q) h3 rl3 (.da (.str _))⟩
  ·exact h3.elim
 ·obtain⟨p,xs,rfl,n,e,t⟩:=r1.tup_inv
  refine .inr (.inl ⟨p,xs,rfl,SqT.of e,fun c=> ?_,fun q H' nw=> ?_⟩)
  ·have t2:=t.cut l' u'
   rw [c]at t2
   exact Dn.now (Q:=Q) h3 rl3 (.da (.tup n e t2))
  ·exact h3 (.ref q) as3 H' (jy nw) (rl3.new nw) (.da (.tup (fun z=> rl3.has z nw.no) nw.at ((t.cut l' u').mono (jy nw))))
 ·cases r1 with
  |frz q t=> exact .inr (.inr ⟨_,_,rfl,q as3 H3 (Step.refl _ _).toStep0,fun r H' nw=> yk h3 rl3 (t.rd.cut l' u') nw⟩)
 ·split at h3
  ·rename_i ds e
   obtain⟨p,xs,rfl,hx,rs⟩:=yv rl3 r1 e
   exact .inr (.inr ⟨p,xs,rfl,SqL.of hx,fun r H' nw=> yk h3 rl3 (rs.cut l' u') nw⟩)
  ·exact h3.elim
def aee(d:D)(s:S):R Bool:=match d with
 |.non=>.ok false s
 |.bl b=>.ok b s
 |.int i=>.ok (i !=0) s
 |.str z=> if z.length <=sizeLine then .ok ((z.length:Int) !=0) s else .bad
 |d=> match abr s d with
  |some ds=>.ok (!ds.isEmpty) s
  |none=>.bad
def qw(f:FE):FT:=fun ρ s=> (f ρ s).bind aee
theorem RDs.empty{xs:List V}{ds:List D}(r:RDs K as H xs ds):xs.isEmpty=ds.isEmpty:=by cases r <;> rfl
theorem a66{a:Expr}(h:RE X a fa)(he: ∀whole,isTrue a X.env whole=(do let v←whole;standAt a.pos;holding [v] (truthy v)):=by exact fun _=> rfl):RT X a (qw fa):=by
 obtain⟨t,p,r⟩:=h.ex
 refine⟨_,ar8 p he,fun as σ H ρ s Q rl en h=> ?_⟩
 refine r as σ H ρ s _ rl en (Dn.bind h fun d s1 as1 H1 v st1 rl1 r1 h1=> ?_)
 unfold aee at h1
 split at h1
 ·cases r1.non_inv;exact⟨false,rfl,Dn.now (Q:=Q) h1 rl1 rfl⟩
 ·cases r1.bl_inv;exact⟨_,rfl,Dn.now (Q:=Q) h1 rl1 rfl⟩
 ·cases r1.int_inv;exact⟨_,rfl,Dn.now (Q:=Q) h1 rl1 rfl⟩
 ·cases r1.str_inv
  split at h1
  ·rename_i hz
   exact⟨_,⟨hz,rfl⟩,Dn.now (Q:=Q) h1 rl1 rfl⟩
  ·exact h1.elim
 ·split at h1
  ·rename_i ds e
   obtain⟨p,xs,rfl,sq,rs⟩:=abg rl1 r1 e
   refine⟨!xs.isEmpty,?_,?_⟩
   ·rcases sq with sq|sq
    ·exact .inl ⟨xs,sq,rfl⟩
    ·exact .inr (.inl ⟨xs,sq,rfl⟩)
   ·rw [rs.empty];exact Dn.now (Q:=Q) h1 rl1 rfl
  ·exact h1.elim
structure CB (X:Cx) (f:ac) (g:FF):Prop where
 ex: ∃r,vw X f r/\ ∀as H s xs ds Q,Rel X.K as H s -> RDs X.K as H xs ds -> Dn X.K (rD X.K) as H (g ds s) Q -> r xs H Q
theorem aa4{f:ac}{g:FF}(h: ∀(pins:List (Addr×Obj)) (sh:ah) (σ:St) (H:Hp) (as:As) (s:S) (xs:List V) (ds:List D) (us:List ac) (Q:VK),Inv X pins σ H sh -> Rel X.K as H s -> RDs X.K as H xs ds -> jg xs us ->
  Dn X.K (rD X.K) as H (g ds s) Q -> wpAny (model X.prog X.w) X.A (call f us) (EP X pins σ Q) X.xe sh):CB X f g:=
 ⟨fun xs H Q=> ∃as s ds,Rel X.K as H s/\RDs X.K as H xs ds/\Dn X.K (rD X.K) as H (g ds s) Q,fun pins sh σ H xs us Q I r ⟨as,s,ds,rl,rs,q⟩=> h pins sh σ H as s xs ds us Q I rl rs r q,fun as H s xs ds Q rl rs q=> ⟨as,s,ds,rl,rs,q⟩⟩
def fCB(g:FF)(f:FA):FE:=fun ρ s=> (f ρ s).bind g
section
variable{x:Str}{id:String}{g:FF}{f:FA}{e:Expr}{es:List Expr}{p pos:Pos}
theorem anb{r:List V -> Hp -> VK -> Prop}{t:TA}(hr: ∀as H s xs ds Q,Rel K as H s -> RDs K as H xs ds -> Dn K (rD K) as H (g ds s) Q -> r xs H Q)(h:ayk K t f):zd K (tCB r t) (fCB g f):=by
 intro as σ H ρ s Q rl en q
 exact h as σ H ρ s _ rl en (Dn.bind q fun ds s1 as1 H1 vs st1 rl1 r1 h1=> hr as1 H1 s1 vs ds Q rl1 r1 h1)
theorem aek(c:CB X (.builtin id) g)(hm:X.mg x=none)(hv:bc x=some (.builtin id))(ha:RA X (e::es) f)(hg:Gl X x:=by rfl)(hn:x≠"__name__":=by decide)(hdb:(x==("__debug__":Str))=false:=by decide)
  (hs:starEach (e::es) X.env=(false,eval e X.env)::starEach es X.env:=by rfl) (hpl:(backTo pos (starEach es X.env)).any (·.1)=false:=by rfl):RE X (.Call (.Name x p) (e::es) [] pos) (fCB g f):=by
 obtain⟨r,hc,hr⟩:=c.ex
 obtain⟨t,pa,ra⟩:=ha.ex
 exact⟨_,aiv hc hg hm hv pa hn hdb hs hpl,anb hr ra⟩
theorem aev(c:CB X (.type id) g)(hm:X.mg x=none)(hv:bc x=some (.type id))(ha:RA X (e::es) f)(hg:Gl X x:=by rfl)(hn:x≠"__name__":=by decide)(hdb:(x==("__debug__":Str))=false:=by decide)
  (hs:starEach (e::es) X.env=(false,eval e X.env)::starEach es X.env:=by rfl) (hpl:(backTo pos (starEach es X.env)).any (·.1)=false:=by rfl):RE X (.Call (.Name x p) (e::es) [] pos) (fCB g f):=by
 obtain⟨r,hc,hr⟩:=c.ex
 obtain⟨t,pa,ra⟩:=ha.ex
 exact⟨_,agt hc hg hm hv pa hn hdb hs hpl,anb hr ra⟩
end
def v4(ds:List D)(s:S):R D:=match ds with
 |[.str z]=> if z.length <=sizeLine then .ok (.int z.length) s else .bad
 |[d]=> match abr s d with
  |some xs=>.ok (.int xs.length) s
  |none=>.bad
 |_=>.bad
theorem a1o:CB X (.builtin "len") v4:=aa4 fun pins sh σ H as s xs ds us Q I rl rs ru h=> by
 unfold v4 at h
 split at h
 ·obtain⟨v,rfl,rv⟩:=rs.one
  cases rv.str_inv
  split at h
  ·rename_i hz
   exact ai4 pins sh σ H _ us Q I ru ⟨_,rfl,hz,Dn.now (Q:=Q) h rl (.da (.int _))⟩
  ·exact h.elim
 ·obtain⟨v,rfl,rv⟩:=rs.one
  split at h
  ·rename_i ys e
   obtain⟨p,zs,rfl,sq,rz⟩:=abg rl rv e
   refine ai3 pins sh σ H _ us Q I ru ⟨p,zs,rfl,sq,?_⟩
   rw [rz.length]
   exact Dn.now (Q:=Q) h rl (.da (.int _))
  ·exact h.elim
 ·exact h.elim
def abx(m:Bool)(ds:List D)(s:S):R D:=match ds with
 |[d]=> match abr s d with
  |some xs=> kc m xs s
  |none=>.bad
 |_=>.bad
theorem apf(m:Bool):CB X (.type "list") (abx m):=aa4 fun pins sh σ H as s xs ds us Q I rl rs ru h=> by
 unfold abx at h
 split at h
 ·obtain⟨v,rfl,rv⟩:=rs.one
  split at h
  ·rename_i ys e
   obtain⟨p,zs,rfl,sq,rz⟩:=abg rl rv e
   exact alw pins sh σ H _ us Q I ru ⟨p,zs,rfl,sq,fun r H' nw=> yk h rl rz nw⟩
  ·exact h.elim
 ·exact h.elim
def vf(ds:List D)(s:S):R D:=match ds with
 |[.tup xs]=>.ok (.tup xs) s
 |[.frz xs]=>.ok (.tup xs) s
 |[d]=> match toL s d with
  |some xs=> afb xs s
  |none=>.bad
 |_=>.bad
theorem au1:CB X (.type "tuple") vf:=aa4 fun pins sh σ H as s xs ds us Q I rl rs ru h=> by
 unfold vf at h
 split at h
 ·obtain⟨v,rfl,rv⟩:=rs.one
  obtain⟨p,zs,rfl,n,e,t⟩:=rv.tup_inv
  exact ab4 pins sh σ H _ us Q I ru ⟨p,zs,rfl,.inr ⟨SqT.of e,Dn.now (Q:=Q) h rl (.da (.tup n e t))⟩⟩
 ·obtain⟨v,rfl,rv⟩:=rs.one
  cases rv with
  |frz q t=> exact ab4 pins sh σ H _ us Q I ru ⟨_,_,rfl,.inl ⟨q as H (Step.refl _ _).toStep0,fun r H' nw=> h (.ref r) as H' (jy nw) (rl.new nw) (.da (.tup (fun z=> rl.has z nw.no) nw.at (t.mono (jy nw))))⟩⟩
 ·obtain⟨v,rfl,rv⟩:=rs.one
  split at h
  ·rename_i ys e
   obtain⟨p,zs,rfl,hx,rz⟩:=yv rl rv e
   exact ab4 pins sh σ H _ us Q I ru ⟨p,zs,rfl,.inl ⟨SqL.of hx,fun r H' nw=> akq h rl rz nw⟩⟩
  ·exact h.elim
 ·exact h.elim
def yp (ds:List D) (s:S):R D:=match ds with
 | [d,.ty n]=> if n="str"\/n="int"\/n="bool"\/n="tuple"\/n="list" then match d with
   |.da d=>.ok (.bl (xf d n)) s
   |.ref k=> match s[k]? with
    |some (.lst _)=>.ok (.bl (n=="list")) s
    |_=>.bad
   |_=>.bad
  else .bad
 |_=>.bad
theorem TD.ty(t:TD as H v d):TyOf K H v (.type (tyD d)):=by
 cases t with
 |non=> exact .non
 |bl b=> exact .bl b
 |int i=> exact .int i
 |str x=> exact .str x
 |tup n e w=> exact .tup e
 |lst n e w=> exact .lst e
 |dct n e=> exact .dK e
 |dc1 n e q=> exact .dK e
theorem a0n:CB X (.builtin "isinstance") yp:=aa4 fun pins sh σ H as s xs ds us Q I rl rs ru h=> by
 unfold yp at h
 split at h
 ·rename_i d n
  obtain⟨v,w,rfl,rv,rw⟩:=rs.two
  obtain⟨u,u2,rfl,ru1,ru2⟩:=vals2 ru
  cases rw
  cases (show u2=bd n from ru2)
  split at h
  ·rename_i hn
   split at h
   ·rename_i d
    cases rv with
    |da t=> exact agr I ru1 t.ty (ap9 X.K d n hn) fun tk=> ⟨.bl _,H,I.tok _,rfl,Dn.now (Q:=Q) h rl (.da (.bl _))⟩
   ·rename_i k
    split at h
    ·rename_i ys e
     cases rv with
     |ref l hr=>
      obtain⟨_,zs,hz,_⟩:=x9 rl hr e
      exact agr I ru1 (.lst hz) (ap9 X.K (.list []) n hn) fun tk=> ⟨.bl _,H,I.tok _,rfl,Dn.now (Q:=Q) h rl (.da (.bl _))⟩
    ·exact h.elim
   ·exact h.elim
  ·exact h.elim
 ·exact h.elim
noncomputable def okS(d:ae):Bool:=d.canLay0&&d.showable&&decide (d.depth <=64)&&decide (d.shown.length <=sizeLine)
def kx(ds:List D)(s:S):R D:=match ds with
 |[d]=> match toP s d with
  |some a=> if okS a=true then .ok (.str a.shown) s else .bad
  |none=>.bad
 |_=>.bad
theorem ay2(hr:Room k X.A):CB X (.builtin "repr") kx:=aa4 fun pins sh σ H as s xs ds us Q I rl rs ru h=> by
 unfold kx at h
 split at h
 ·obtain⟨v,rfl,rv⟩:=rs.one
  obtain⟨u,rfl,ru1⟩:=vals1 ru
  split at h
  ·rename_i a e
   split at h
   ·rename_i ok
    unfold okS at ok
    (simp only [ao,decide_eq_true_eq]at ok)
    obtain⟨⟨⟨ok1,ok2⟩,ok3⟩,ok4⟩:=ok
    have hun:=hr.un
    obtain⟨bs,q⟩:=rv.reads I rl e ru1
    have fin:Q (.str a.shown) H:=Dn.now (Q:=Q) h rl (.da (.str _))
    have nd:=PyData.hasDict_of_canLay a ok1
    cases q with
    |none=> exact PySem.P.repr_of_none ⟨.str "None",H,I.tok _,⟨_,rfl⟩,fin⟩
    |bool b=> exact PySem.P.repr_of_bool ⟨.str (if b then "True" else "False"),H,I.tok _,⟨_,rfl⟩,fin⟩
    |int i t=> exact PySem.P.repr_of_int (by simpa [fO] using ok2) ⟨.str (toString i),H,I.tok _,⟨_,rfl⟩,fin⟩
    |str x t=> exact PySem.P.repr_of_str ⟨.str (reprText x),H,I.tok _,⟨_,rfl⟩,fin⟩ (by simpa [PyData.shown] using ok4)
    |tuple k1 k2 k3 k4=> exact repr_of_reads' (.tuple k1 k2 k3 k4) ok2 (fun z=> by rw [nd]at z;cases z) hr.gd (by lia) (fun _ _ e=> e) (fun h' u tk hk=> ⟨.str _,H,I.kept hk,⟨u,rfl⟩,fin⟩) ok4
    |list k1 k2 k3 k4=> exact repr_of_reads' (.list k1 k2 k3 k4) ok2 (fun z=> by rw [nd]at z;cases z) hr.gd (by lia) (fun _ _ e=> e) (fun h' u tk hk=> ⟨.str _,H,I.kept hk,⟨u,rfl⟩,fin⟩) ok4
    |dict=> cases ok1
   ·exact h.elim
  ·exact h.elim
 ·exact h.elim
abbrev GM:=D -> List D -> S -> R D
def fMt(g:GM)(fo:FE)(fa:FA):FE:=fun ρ s=> (fo ρ s).bind fun d s1=> if (toL s1 d).isSome=true then (fa ρ s1).bind fun ds s2=> g d ds s2 else .bad
structure MB (X:Cx) (id:String) (g:GM):Prop where
 ex: ∃r,MtR X id r/\ ∀as H s x xs d ds Q,Rel X.K as H s -> RD X.K as H x d -> RDs X.K as H xs ds -> Dn X.K (rD X.K) as H (g d ds s) Q -> r x xs H Q
theorem al9{d:D}(rl:Rel K as H s)(r:RD K as H v d)(h:(toL s d).isSome=true):tyV K "list" v H:=by
 cases e:toL s d with
 |none=> rw [e]at h;cases h
 |some ds=>
  obtain⟨p,xs,rfl,hx,_⟩:=yv rl r e
  exact .inl ⟨rfl,xs,SqL.of hx⟩
theorem atb{o:Expr}{fa:FA}{name:Str}{id:String}{g:GM}{apos cpos:Pos}(slot:Slot "list" name id)(hty:typeOf (.builtin id)=pure (.type "method_descriptor"))(hm:MB X id g)(ho:RE X o fo)(ha:RA X (e::es) fa)(hbase:ff o name X.env (eval o X.env)=eval o X.env:=by rfl)(hfew:((backTo cpos (starEach (e::es) X.env)).all (fun x=> !x.1)&&(backToKw cpos (gc [] X.env)).all (fun x=> x.1.isSome)
   &&decide ((e::es).length+([]:List f6).length+(if ([]:List f6).isEmpty then 0 else 1) < 30))=true:=by rfl) (hline:(apos.endLine==cpos.line)=true:=by rfl) (hs:starEach (e::es) X.env=(false,eval e X.env)::starEach es X.env:=by rfl) (hplain:(backTo cpos (starEach es X.env)).any (·.1)=false:=by rfl):
  RE X (.Call (.Attribute o name apos) (e::es) [] cpos) (fMt g fo fa):=by
 obtain⟨r,hr,hg⟩:=hm.ex
 obtain⟨to,po,ro⟩:=ho.ex
 obtain⟨ta,pa,ra⟩:=ha.ex
 refine⟨_,at0 hW slot hty hr po pa hbase hfew hline hs hplain,fun as σ H ρ s Q rl en h=> ?_⟩
 refine ro as σ H ρ s _ rl en (Dn.bind h fun d s1 as1 H1 v st1 rl1 r1 h1=> ?_)
 split at h1
 ·rename_i hl
  refine⟨al9 rl1 r1 hl,ra as1 σ H1 ρ s1 _ rl1 (en.mono st1) (Dn.bind h1 fun ds s2 as2 H2 vs st2 rl2 r2 h2=> ?_)⟩
  exact hg as2 H2 s2 v vs d ds Q rl2 (r1.mono st2) r2 h2
 ·exact h1.elim
theorem ap4{o:Expr}{name:Str}{id:String}{g:GM}{apos cpos:Pos}(slot:Slot "list" name id)(hty:typeOf (.builtin id)=pure (.type "method_descriptor"))(hm:MB X id g)(ho:RE X o fo)(hbase:ff o name X.env (eval o X.env)=eval o X.env:=by rfl)(hline:(apos.endLine==cpos.line)=true:=by rfl):RE X (.Call (.Attribute o name apos) [] [] cpos) (fMt g fo jc):=by
 obtain⟨r,hr,hg⟩:=hm.ex
 obtain⟨to,po,ro⟩:=ho.ex
 refine⟨_,axr hW slot hty hr po hbase hline,fun as σ H ρ s Q rl en h=> ?_⟩
 refine ro as σ H ρ s _ rl en (Dn.bind h fun d s1 as1 H1 v st1 rl1 r1 h1=> ?_)
 split at h1
 ·rename_i hl
  exact⟨al9 rl1 r1 hl,hg as1 H1 s1 v [] d [] Q rl1 r1 .nil h1⟩
 ·exact h1.elim
theorem abi{p:Addr}{o:HO}{H':Hp}{d:D}{ys:List V}{es:List D}{Q:VK}(rl:Rel K as H s)(ha:as.ix[n]?=some (some p))(c:Chg H p (.lst ys) H')(rs:RDs K as H ys es)(rv:RD K as H v d)(h:Dn K (rD K) as H (.ok d (s.set n (.lst es))) Q):Q v H':=by
 have st:=apw (qd.mpr ⟨n,ha⟩) (fun z=> rl.hx p z (qd.mpr ⟨n,ha⟩)) c
 exact h v as H' st (rl.chg ha c ⟨ys,c.at,rs.mono st⟩) (rv.mono st)
noncomputable def onL(d:D)(s:S)(k:Nat -> List D -> R D):R D:=match d with
 |.ref n=> match s[n]? with
  |some (.lst ds)=> k n ds
  |_=>.bad
 |_=>.bad
theorem abb{d:D}{k:Nat -> List D -> R D}{Q:VK}(rl:Rel K as H s)(r:RD K as H v d)(h:Dn K (rD K) as H (onL d s k) Q): ∃p n xs ds,v=.ref p/\as.ix[n]?=some (some p)/\H p=some (.lst xs)/\RDs K as H xs ds/\Dn K (rD K) as H (k n ds) Q:=by
 cases r with
 | @ref p n l hr=>
  have h:Dn K (rD K) as H (match s[n]? with|some (O.lst ds)=> k n ds|_=>.bad) Q:=h
  split at h
  ·rename_i ds e
   obtain⟨ha,xs,hx,rs⟩:=x9 rl hr e
   exact⟨p,n,xs,ds,rfl,ha,hx,rs,h⟩
  ·exact h.elim
 |_=> exact h.elim
def ky:GM:=fun d ds s=> match ds with
 |[x]=> onL d s fun n xs=> if xs.length < sizeLine then .ok .non (s.set n (.lst (xs++ [x]))) else .bad
 |_=>.bad
theorem aqg:MB X "list.append" ky:=⟨_,an0,fun as H s x xs d ds Q rl r rs h=> by
 unfold ky at h
 split at h
 ·obtain⟨v,rfl,rv⟩:=rs.one
  obtain⟨p,n,ys,es,rfl,ha,hy,re,h⟩:=abb rl r h
  split at h
  ·rename_i hz
   exact⟨p,ys,v,rfl,rfl,hy,by rw [re.length];exact hz,fun H' c=> abi (o:=.lst []) rl ha c (re.append (.cons rv .nil)) (.da .non) h⟩
  ·exact h.elim
 ·exact h.elim⟩
def adp:GM:=fun d ds s=> match ds with
 |[.tup ys]=> onL d s fun n xs=> if xs.length+ys.length <=sizeLine then .ok .non (s.set n (.lst (xs++ys.map D.da))) else .bad
 |[e]=> match toL s e with
  |some ys=> onL d s fun n xs=> if xs.length+ys.length <=sizeLine then .ok .non (s.set n (.lst (xs++ys))) else .bad
  |none=>.bad
 |_=>.bad
theorem a01{id:String}{r r':V -> List V -> Hp -> VK -> Prop}(h:MtM X id r)(h':MtM X id r'):MtR X id (fun x xs H Q=> r x xs H Q\/r' x xs H Q):=MtR.or h h'
theorem arm:MB X "list.extend" adp:=⟨_,a01 an9 ajv,fun as H s x xs d ds Q rl r rs h=> by
 unfold adp at h
 split at h
 ·obtain⟨v,rfl,rv⟩:=rs.one
  obtain⟨p,n,ys,es,rfl,ha,hy,re,h⟩:=abb rl r h
  split at h
  ·rename_i hz
   obtain⟨q,zs,rfl,_,e,t⟩:=rv.tup_inv
   exact .inr ⟨p,q,ys,zs,rfl,rfl,hy,SqT.of e,by rw [re.length,t.length];exact hz,fun H' c=> abi (o:=.lst []) rl ha c (re.append t.rd) (.da .non) h⟩
  ·exact h.elim
 ·obtain⟨v,rfl,rv⟩:=rs.one
  split at h
  ·rename_i zs e
   obtain⟨q,ws,rfl,hq,rz⟩:=yv rl rv e
   obtain⟨p,n,ys,es,rfl,ha,hy,re,h⟩:=abb rl r h
   split at h
   ·rename_i hz
    exact .inl ⟨p,q,ys,ws,rfl,rfl,hy,hq,by rw [re.length,rz.length];exact hz,fun H' c=> abi (o:=.lst []) rl ha c (re.append rz) (.da .non) h⟩
   ·exact h.elim
  ·exact h.elim
 ·exact h.elim⟩
def zy(o i v:D)(s:S):R D:=match i with
 |.int k=> onL o s fun n xs=> match ixN xs.length k with
  |some j=>.ok .non (s.set n (.lst (xs.set j v)))
  |none=>.bad
 |_=>.bad
def ab8(fv fo fi:FE):FS:=fun ρ s=> (fv ρ s).bind fun v s1=> (fo ρ s1).bind fun o s2=> (fi ρ s2).bind fun i s3=> (zy o i v s3).bind fun _ s4=>.ok (.nx ρ) s4
theorem a4p{o i:Expr}{fi fv:FE}{pos':Pos}(he:RE X e fv)(ho:RE X o fo)(hi:RE X i fi)(ha: ∀v,assign (.Subscript o i pos') X.env v=(do
   let ov←holding [v] (eval o X.env)
   let iv←holding [v,ov] (eval i X.env)
   standAt pos'
   holding [v,ov,iv] (setItem ov iv v)
   release [v,ov,iv] []):=by intro _;rfl) (hs:iY [.Subscript o i pos'] e pos.line X.env=pure false:=by rfl) (hw:iZ [.Subscript o i pos'] e X.env=pure none:=by rfl) (h1:(a9 [.Subscript o i pos'] X.env).map (·.2)=[assign (.Subscript o i pos') X.env]:=by rfl):RS X (.Assign [.Subscript o i pos'] e pos) (ab8 fv fo fi):=by
 obtain⟨te,pe,re⟩:=he.ex
 obtain⟨to,po,ro⟩:=ho.ex
 obtain⟨ti,pi,ri⟩:=hi.ex
 refine⟨_,api pe (azj po pi ao4 ha) hs hw h1,fun as σ H ρ s D rl en h=> ?_⟩
 refine re as σ H ρ s _ rl en (Dn.bind h fun v s1 as1 H1 vv st1 rl1 r1 h1=> ?_)
 refine ro as1 σ H1 ρ s1 _ rl1 (en.mono st1) (Dn.bind h1 fun o s2 as2 H2 ov st2 rl2 r2 h2=> ?_)
 refine ri as2 σ H2 ρ s2 _ rl2 ((en.mono st1).mono st2) (Dn.bind h2 fun i s3 as3 H3 iv st3 rl3 r3 h3=> ?_)
 have en3:=((en.mono st1).mono st2).mono st3
 have h3:Dn X.K (rD X.K) as3 H3 (zy o i v s3) (fun _ H'=> D.nx σ H'):=Dn.bind h3 fun d s4 as4 H4 vv st4 rl4 r4 h4=> Dn.now (b:=FV.nx σ) h4 rl4 (.nx (en3.mono st4))
 unfold zy at h3
 split at h3
 ·cases r3.int_inv
  obtain⟨p,n,xs,ds,rfl,ha,hx,rs,h3⟩:=abb rl3 (r2.mono st3) h3
  split at h3
  ·rename_i j e
   refine⟨p,xs,_,j,rfl,rfl,hx,by rw [rs.length];exact e,fun H' c=> ?_⟩
   exact abi (v:=.non) (o:=.lst []) rl3 ha c (rs.set j ((r1.mono st2).mono st3)) (.da .non) h3
  ·exact h3.elim
 ·exact h3.elim
noncomputable def v8:List D -> Option (List Str)
 |[]=> some []
 |.str x::r=> match v8 r with
  |some xs=> some (x::xs)
  |none=> none
 |_=> none
theorem afp: ∀{xs:List V} {ds:List D} {ss:List Str},RDs K as H xs ds -> v8 ds=some ss -> xs=ss.map V.str/\ds=ss.map D.str
 |_,[],ss,r,h=> by cases r;cases h;exact⟨rfl,rfl⟩
 | _,d::ds,ss,r,h=> by
  cases r with
  | cons r rs=>
   unfold v8 at h
   split at h
   ·rename_i e;cases e
   ·rename_i x rr e
    cases e
    split at h
    ·rename_i ys e2
     cases h
     obtain⟨h1,h2⟩:=afp rs e2
     cases r.str_inv
     rw [h1,h2];exact⟨rfl,rfl⟩
    ·cases h
   ·cases h
theorem aau: ∀ss:List Str,v8 (ss.map D.str)=some ss
 |[]=> rfl
 |s::r=> by rw [aG,v8,aau r]
noncomputable def abw:List D -> Option (List Bool)
 |[]=> some []
 |.bl x::r=> match abw r with
  |some xs=> some (x::xs)
  |none=> none
 |_=> none
theorem aoq: ∀{xs:List V} {ds:List D} {bs:List Bool},RDs K as H xs ds -> abw ds=some bs -> xs=bs.map V.bl
 |_,[],ss,r,h=> by cases r;cases h;rfl
 | _,d::ds,ss,r,h=> by
  cases r with
  | cons r rs=>
   unfold abw at h
   split at h
   ·rename_i e;cases e
   ·rename_i x rr e
    cases e
    split at h
    ·rename_i ys e2
     cases h
     have h1:=aoq rs e2
     cases r.bl_inv
     rw [h1];rfl
    ·cases h
   ·cases h
def abv(ds:List D)(s:S):R D:=match ds with
 |[d]=> match (toL s d).bind abw with
  |some bs=>.ok (.bl (bs.all id)) s
  |none=>.bad
 |_=>.bad
theorem a07(hc:X.calm=true):CB X (.builtin "all") abv:=aa4 fun pins sh σ H as s xs ds us Q I rl rs ru h=> by
 unfold abv at h
 split at h
 ·obtain⟨v,rfl,rv⟩:=rs.one
  split at h
  ·rename_i bs e
   cases e2:toL s _ with
   |none=> rw [e2]at e;cases e
   |some ys=>
    rw [e2]at e
    obtain⟨p,zs,rfl,hx,rz⟩:=yv rl rv e2
    have ez:=aoq rz (show abw ys=some bs from e)
    subst ez
    exact anm hc pins sh σ H _ us Q I ru ⟨p,bs,rfl,SqL.of hx,Dn.now (Q:=Q) h rl (.da (.bl _))⟩
  ·exact h.elim
 ·exact h.elim
theorem u64(hr:Room k A):A.units+64 < cLine:=by have:=hr.un;lia
theorem u65(hr:Room k A):A.units+65 < cLine:=by have:=hr.un;lia
def R.Wk{α β:Type}(f:α -> S -> R β)(Q:β -> S -> Prop)(a:α)(s:S):Prop:=(f a s).W Q
theorem R.W_bindk{α β:Type}(r:R α)(f:α -> S -> R β)(Q:β -> S -> Prop):(r.bind f).W Q=r.W (R.Wk f Q):=R.W_bind r f Q
@[simp] theorem R.Wk_app{α β:Type}(f:α -> S -> R β)(Q:β -> S -> Prop)(a:α)(s:S):R.Wk f Q a s=(f a s).W Q:=(rfl)
section
variable{s:S}{m:Bool}{n:Nat}{i j:Int}{x y:Str}{b:Bool}{xs ys:List ae}{ds es:List D}{d e:D}{ρ:En}{Q:D -> S -> Prop}
theorem jv:sizeLine=16777216:=cO
@[simp] theorem a27:j7 m (.int i) (.int j) s=.ok (.int (i+j)) s:=(rfl)
theorem vb(h:x.length+y.length <=16777216):j7 m (.str x) (.str y) s=.ok (.str (x++y)) s:=if_pos (by rw [jv];exact h)
theorem ain(h:xs.length+ys.length <=16777216):j7 false (.lst xs) (.lst ys) s=.ok (.lst (xs++ys)) s:=by
 show (if (xs.map D.da).length+(ys.map D.da).length <=sizeLine then kc false (xs.map D.da++ys.map D.da) s else .bad)=_
 rw [if_pos (by rw [jv,ak,ak];exact h),←ij]
 show (match jj _ with|some xs=> R.ok (D.lst xs) s|none=>.bad)=_
 rw [k6]
theorem xh(h:(-(2^64) < i/\i < 2^64)\/(-(2^64) < j/\j < 2^64)):xp (.int i) (.int j) s=.ok (.int (i*j)) s:=if_pos h
theorem aal(h:0 < j)(h2:j < 1073741824):afg (.int i) (.int j) s=.ok (.int (i/j)) s:=if_pos ⟨h,h2⟩
theorem qv(h:0 < j):yf (.int i) (.int j) s=.ok (.int (i % j)) s:=if_pos h
theorem ar3(h:0 <=j)(h1:j <=1000000)(h2:i.natAbs < 2^64):aml (.int i) (.int j) s=.ok (.int (i^j.toNat)) s:=if_pos ⟨h,h1,h2⟩
@[simp] theorem a3v:gLt (.int i) (.int j) s=.ok (.bl (decide (i < j))) s:=(rfl)
@[simp] theorem a3q:gLe (.int i) (.int j) s=.ok (.bl (decide (i <=j))) s:=(rfl)
@[simp] theorem a3z:gGt (.int i) (.int j) s=.ok (.bl (decide (j < i))) s:=(rfl)
@[simp] theorem a49:gGe (.int i) (.int j) s=.ok (.bl (decide (j <=i))) s:=(rfl)
theorem ajn(x y:Str):aI (.str x) (.str y)=decide (x=y):=by
 show (x==y)=_
 (rw [br,beq_iff_eq,decide_eq_true_eq])
theorem aoo{q:ae}(h1:okD p=true)(h2:okD q=true):gEq (.da p) (.da q) s=.ok (.bl (aI p q)) s:=by
 have e:am1 (.da p) (.da q) s=.ok (.bl (aI p q)) s:=if_pos ⟨h1,h2⟩
 cases p <;> cases q <;> first|exact e|(rw [ajn];rfl)
theorem awk{q:ae}(h1:okD p=true)(h2:okD q=true):gNe (.da p) (.da q) s=.ok (.bl (!PyData.eqv p q)) s:=by
 have e:amh (.da p) (.da q) s=.ok (.bl (!PyData.eqv p q)) s:=if_pos ⟨h1,h2⟩
 cases p <;> cases q <;> first|exact e|(rw [ajn];rfl)
theorem adb(h:s[n]?=some (.lst ds))(h2:ds[k]?=some d):gIx (.ref n) (.int (k:Int)) s=.ok d s:=by
 show (match (match s[n]? with|some (O.lst ds)=> some ds|_=> none) with|some ds=> (match atI ds (k:Int) with|some d=> R.ok d s|none=>.bad)|none=>.bad)=_
 rw [h]
 show (match atI ds (k:Int) with|some d=> R.ok d s|none=>.bad)=_
 rw [afu h2]
theorem akd(h2:xs[k]?=some p):gIx (.tup xs) (.int (k:Int)) s=.ok (.da p) s:=by
 show (match atI (xs.map D.da) (k:Int) with|some d=> R.ok d s|none=>.bad)=_
 rw [afu (v:=D.da p) (by rw [aV,h2];rfl)]
theorem ym(h2:xs[k]?=some p):gIx (.lst xs) (.int (k:Int)) s=.ok (.da p) s:=by
 show (match atI (xs.map D.da) (k:Int) with|some d=> R.ok d s|none=>.bad)=_
 rw [afu (v:=D.da p) (by rw [aV,h2];rfl)]
theorem ar2(h:s[n]?=some (.lst ds))(h2:k < ds.length):zy (.ref n) (.int (k:Int)) d s=.ok .non (s.set n (.lst (ds.set k d))):=by
 show (match s[n]? with|some (O.lst xs)=> (match ixN xs.length (k:Int) with|some j=> R.ok D.non (s.set n (.lst (xs.set j d)))|none=>.bad)|_=>.bad)=_
 rw [h]
 have:ixN ds.length (k:Int)=some k:=by
  unfold ixN
  rw [if_pos (by lia),if_pos (by lia)]
  rfl
 show (match ixN ds.length (k:Int) with|some j=> R.ok D.non (s.set n (.lst (ds.set j d)))|none=>.bad)=_
 rw [this]
def axf(g:D -> D -> S -> R D)(fb:FE)(ρ:En)(x:D)(s:S):R D:=(fb ρ s).bind fun y s2=> g x y s2
noncomputable def aqa(g:D -> D -> S -> R D)(x y:D)(s:S):R D:=g x y s
@[simp] theorem a77{g:D -> D -> S -> R D}{fb:FE}:fOp g fa fb ρ s=(fa ρ s).bind (axf g fb ρ):=(rfl)
@[simp] theorem a76{g:D -> D -> S -> R D}{fb:FE}:axf g fb ρ d s=(fb ρ s).bind (aqa g d):=(rfl)
@[simp] theorem a6r{g:D -> D -> S -> R D}:aqa g d e s=g d e s:=(rfl)
@[simp] theorem e_c:fC d ρ s=.ok d s:=(rfl)
@[simp] theorem a57:jb 0 (some d::r) s=.ok d s:=(rfl)
@[simp] theorem a4r:jb 1 (x0::some d::r) s=.ok d s:=(rfl)
@[simp] theorem a4i:jb 2 (x0::x1::some d::r) s=.ok d s:=(rfl)
@[simp] theorem a4x:jb 3 (x0::x1::x2::some d::r) s=.ok d s:=(rfl)
@[simp] theorem a5e:jb 4 (x0::x1::x2::x3::some d::r) s=.ok d s:=(rfl)
@[simp] theorem a5w:jb 5 (x0::x1::x2::x3::x4::some d::r) s=.ok d s:=(rfl)
@[simp] theorem a5j:jb 6 (x0::x1::x2::x3::x4::x5::some d::r) s=.ok d s:=(rfl)
@[simp] theorem a4z{x6:Option D}:jb 7 (x0::x1::x2::x3::x4::x5::x6::some d::r) s=.ok d s:=(rfl)
@[simp] theorem a4k{x6 x7:Option D}:jb 8 (x0::x1::x2::x3::x4::x5::x6::x7::some d::r) s=.ok d s:=(rfl)
@[simp] theorem a65{x6 x7 x8:Option D}:jb 9 (x0::x1::x2::x3::x4::x5::x6::x7::x8::some d::r) s=.ok d s:=(rfl)
noncomputable def amv(g:FS)(fl:Fl)(s:S):R Fl:=match fl with
 |.nx ρ1=> g ρ1 s
 |fl=>.ok fl s
@[simp] theorem a08{f g:FS}:jd f g ρ s=(f ρ s).bind (amv g):=(rfl)
@[simp] theorem azd{g:FS}:amv g (.nx ρ) s=g ρ s:=(rfl)
@[simp] theorem a4s{g:FS}:amv g (.rt d) s=.ok (.rt d) s:=(rfl)
noncomputable def axj(d:D)(s:S):R Fl:=.ok (.rt d) s
@[simp] theorem a6h{f:FE}:jk f ρ s=(f ρ s).bind axj:=(rfl)
@[simp] theorem a56:axj d s=.ok (.rt d) s:=(rfl)
@[simp] theorem a4v:jt ρ s=.ok (.nx ρ) s:=(rfl)
noncomputable def amt(ρ:En)(_:D)(s:S):R Fl:=.ok (.nx ρ) s
@[simp] theorem a4l{f:FE}:ql f ρ s=(f ρ s).bind (amt ρ):=(rfl)
@[simp] theorem a42:amt ρ d s=.ok (.nx ρ) s:=(rfl)
noncomputable def aam(i:Nat)(ρ:En)(d:D)(s:S):R Fl:=.ok (.nx (ρ.set i (some d))) s
@[simp] theorem a73{i:Nat}{f:FE}:jp i f ρ s=(f ρ s).bind (aam i ρ):=(rfl)
@[simp] theorem a5i{i:Nat}:aam i ρ d s=.ok (.nx (ρ.set i (some d))) s:=(rfl)
noncomputable def asl(f g:FS)(ρ:En)(k:Bool)(s:S):R Fl:=if k=true then f ρ s else g ρ s
@[simp] theorem a6q{c:FT}{f g:FS}:j4 c f g ρ s=(c ρ s).bind (asl f g ρ):=(rfl)
@[simp] theorem a6a{f g:FS}:asl f g ρ true s=f ρ s:=(rfl)
@[simp] theorem a6l{f g:FS}:asl f g ρ false s=g ρ s:=(rfl)
noncomputable def ats(d:D)(s:S):R Bool:=match d with
 |.bl k=>.ok k s
 |_=>.bad
@[simp] theorem a58{f:FE}:ji f ρ s=(f ρ s).bind ats:=(rfl)
@[simp] theorem a3o:ats (.bl b) s=.ok b s:=(rfl)
noncomputable def amd(g:FT)(ρ:En)(c:Bool)(s:S):R Bool:=if c=true then g ρ s else .ok false s
noncomputable def asv(g:FT)(ρ:En)(c:Bool)(s:S):R Bool:=if c=true then .ok true s else g ρ s
noncomputable def atg(c:Bool)(s:S):R Bool:=.ok (!c) s
@[simp] theorem a4u{f g:FT}:adk f g ρ s=(f ρ s).bind (amd g ρ):=(rfl)
@[simp] theorem a6g{f g:FT}:qo f g ρ s=(f ρ s).bind (asv g ρ):=(rfl)
@[simp] theorem a4q{f:FT}:ki f ρ s=(f ρ s).bind atg:=(rfl)
@[simp] theorem a44{g:FT}:amd g ρ true s=g ρ s:=(rfl)
@[simp] theorem a43{g:FT}:amd g ρ false s=.ok false s:=(rfl)
@[simp] theorem a4h{g:FT}:asv g ρ true s=.ok true s:=(rfl)
@[simp] theorem a52{g:FT}:asv g ρ false s=g ρ s:=(rfl)
@[simp] theorem a3m:atg b s=.ok (!b) s:=(rfl)
noncomputable def asu(g:FE)(ρ:En)(d:D)(s:S):R D:=match d with
 |.bl true=> g ρ s
 |.bl false=>.ok (.bl false) s
 |_=>.bad
@[simp] theorem a6x{f g:FE}:ad7 f g ρ s=(f ρ s).bind (asu g ρ):=(rfl)
@[simp] theorem a5u{g:FE}:asu g ρ (.bl true) s=g ρ s:=(rfl)
@[simp] theorem a5o{g:FE}:asu g ρ (.bl false) s=.ok (.bl false) s:=(rfl)
def alc(g g':D -> D -> S -> R D)(fb fc:FE)(ρ:En)(x:D)(s:S):R D:=(fb ρ s).bind fun y s2=> (g x y s2).bind fun z s3=> match z with
 |.bl true=> (fc ρ s3).bind fun w s4=> g' y w s4
 |.bl false=>.ok (.bl false) s3
 |_=>.bad
def akx(g g':D -> D -> S -> R D)(fc:FE)(ρ:En)(x y:D)(s:S):R D:=(g x y s).bind fun z s3=> match z with
 |.bl true=> (fc ρ s3).bind fun w s4=> g' y w s4
 |.bl false=>.ok (.bl false) s3
 |_=>.bad
def afr(g':D -> D -> S -> R D)(fc:FE)(ρ:En)(y z:D)(s:S):R D:=match z with
 |.bl true=> (fc ρ s).bind fun w s4=> g' y w s4
 |.bl false=>.ok (.bl false) s
 |_=>.bad
@[simp] theorem a4b{g g':D -> D -> S -> R D}{fb fc:FE}:zw g g' fa fb fc ρ s=(fa ρ s).bind (alc g g' fb fc ρ):=(rfl)
@[simp] theorem a35{g g':D -> D -> S -> R D}{fb fc:FE}:alc g g' fb fc ρ d s=(fb ρ s).bind (akx g g' fc ρ d):=(rfl)
@[simp] theorem a2p{g g':D -> D -> S -> R D}{fc:FE}:akx g g' fc ρ d e s=(g d e s).bind (afr g' fc ρ e):=(rfl)
@[simp] theorem a28{g':D -> D -> S -> R D}{fc:FE}:afr g' fc ρ e (.bl true) s=(fc ρ s).bind (aqa g' e):=(rfl)
@[simp] theorem a2v{g':D -> D -> S -> R D}{fc:FE}:afr g' fc ρ e (.bl false) s=.ok (.bl false) s:=(rfl)
def ano(g:FA)(ρ:En)(x:D)(s:S):R (List D):=(g ρ s).bind fun xs s2=>.ok (x::xs) s2
noncomputable def aia(x:D)(xs:List D)(s:S):R (List D):=.ok (x::xs) s
@[simp] theorem a6w:jc ρ s=.ok [] s:=(rfl)
@[simp] theorem a7d:fVs ds ρ s=.ok ds s:=(rfl)
@[simp] theorem a5s{f:FE}{g:FA}:ja f g ρ s=(f ρ s).bind (ano g ρ):=(rfl)
@[simp] theorem a3l{g:FA}:ano g ρ d s=(g ρ s).bind (aia d):=(rfl)
@[simp] theorem afc:aia d ds s=.ok (d::ds) s:=(rfl)
def alp(ds:List D)(s:S):R D:=if ds.length <=sizeLine then afb ds s else .bad
def ad1(m:Bool)(ds:List D)(s:S):R D:=if ds.length <=sizeLine then kc m ds s else .bad
@[simp] theorem a6f:qf f ρ s=(f ρ s).bind alp:=(rfl)
@[simp] theorem a72:vx m f ρ s=(f ρ s).bind (ad1 m):=(rfl)
theorem aw2(h:jj ds=some xs)(hl:ds.length <=16777216):ad1 false ds s=.ok (.lst xs) s:=by
 unfold ad1 kc
 rw [if_pos (by rw [jv];exact hl),if_neg av,h]
@[simp] theorem a7a:alp [] s=.ok (.tup []) s:=(rfl)
@[simp] theorem a6c:ad1 true [] s=.ok (.ref s.length) (s++ [.lst []]):=(rfl)
@[simp] theorem a7j{b:ae}:alp [.da a,.da b] s=.ok (.tup [a,b]) s:=(rfl)
@[simp] theorem a7i{b c:ae}:alp [.da a,.da b,.da c] s=.ok (.tup [a,b,c]) s:=(rfl)
@[simp] theorem a7b{b:ae}:ad1 false [.da a,.da b] s=.ok (.lst [a,b]) s:=(rfl)
def ayr(m:Bool)(lo hi:FO)(ρ:En)(d:D)(s:S):R D:=(lo ρ s).bind fun l s2=> (hi ρ s2).bind fun u s3=> gSl m d l u s3
def aye(m:Bool)(hi:FO)(ρ:En)(d:D)(l:Option Int)(s:S):R D:=(hi ρ s).bind fun u s3=> gSl m d l u s3
def az9(m:Bool)(d:D)(l u:Option Int)(s:S):R D:=gSl m d l u s
@[simp] theorem a7h{f:FE}{lo hi:FO}:fSl m f lo hi ρ s=(f ρ s).bind (ayr m lo hi ρ):=(rfl)
@[simp] theorem a6t{lo hi:FO}:ayr m lo hi ρ d s=(lo ρ s).bind (aye m hi ρ d):=(rfl)
@[simp] theorem a6k{hi:FO}{l:Option Int}:aye m hi ρ d l s=(hi ρ s).bind (az9 m d l):=(rfl)
@[simp] theorem a6p{l u:Option Int}:az9 m d l u s=gSl m d l u s:=(rfl)
@[simp] theorem a7f:fNo ρ s=.ok none s:=(rfl)
noncomputable def atv(d:D)(s:S):R (Option Int):=match d with
 |.int i=>.ok (some i) s
 |_=>.bad
@[simp] theorem a5v{f:FE}:aa3 f ρ s=(f ρ s).bind atv:=(rfl)
@[simp] theorem a3u:atv (.int i) s=.ok (some i) s:=(rfl)
noncomputable def azo(d:D)(s:S):R D:=match d with
 |.int i=>.ok (.int (-i)) s
 |_=>.bad
@[simp] theorem a70{f:FE}:ab1 f ρ s=(f ρ s).bind azo:=(rfl)
@[simp] theorem a5d:azo (.int i) s=.ok (.int (-i)) s:=(rfl)
@[simp] theorem a6n{f:FE}:qw f ρ s=(f ρ s).bind aee:=(rfl)
@[simp] theorem a62:aee (.bl b) s=.ok b s:=(rfl)
@[simp] theorem atx:aee (.lst xs) s=.ok (!xs.isEmpty) s:=by show R.ok (!(xs.map D.da).isEmpty) s=_;cases xs <;> rfl
@[simp] theorem a7e{g:FF}:fCB g f ρ s=(f ρ s).bind g:=(rfl)
noncomputable def aeh(n:Nat)(F:FF)(ds:List D)(s:S):R D:=if ds.length=n then F ds s else .bad
@[simp] theorem a4g{F:FF}:je n F f ρ s=(f ρ s).bind (aeh n F):=(rfl)
@[simp] theorem a47{F:FF}:aeh 1 F [d] s=F [d] s:=(rfl)
@[simp] theorem a3p{F:FF}:aeh 2 F [d,e] s=F [d,e] s:=(rfl)
@[simp] theorem a41{F:FF}{d3:D}:aeh 3 F [d,e,d3] s=F [d,e,d3] s:=(rfl)
@[simp] theorem a40{F:FF}{d3 d4:D}:aeh 4 F [d,e,d3,d4] s=F [d,e,d3,d4] s:=(rfl)
@[simp] theorem a3i:v4 [.tup xs] s=.ok (.int xs.length) s:=by show R.ok (D.int (xs.map D.da).length) s=_;rw [ak]
@[simp] theorem a3x:v4 [.lst xs] s=.ok (.int xs.length) s:=by show R.ok (D.int (xs.map D.da).length) s=_;rw [ak]
theorem len_str(h:x.length <=16777216):v4 [.str x] s=.ok (.int x.length) s:=if_pos (by rw [jv];exact h)
@[simp] theorem a2t:abx false [.tup xs] s=.ok (.lst xs) s:=by
 show (match jj (xs.map D.da) with|some xs=> R.ok (D.lst xs) s|none=>.bad)=_
 rw [k6]
@[simp] theorem a1z:abx true [.lst xs] s=.ok (.ref s.length) (s++ [.lst (xs.map D.da)]):=(rfl)
@[simp] theorem a1y:vf [.lst xs] s=.ok (.tup xs) s:=by
 show (match jj (xs.map D.da) with|some xs=> R.ok (D.tup xs) s|none=>.bad)=_
 rw [k6]
@[simp] theorem a3s:yp [.da p,.ty "tuple"] s=.ok (.bl (xf p "tuple")) s:=(rfl)
@[simp] theorem a45:yp [.da p,.ty "int"] s=.ok (.bl (xf p "int")) s:=(rfl)
@[simp] theorem a3t:yp [.da p,.ty "str"] s=.ok (.bl (xf p "str")) s:=(rfl)
theorem y2(h:okS p=true):kx [.da p] s=.ok (.str p.shown) s:=if_pos h
@[simp] theorem app{lo hi:Option Int}:gSl m (.tup xs) lo hi s=.ok (.tup (kl xs lo hi)) s:=(rfl)
theorem ae6{α β:Type}(f:α -> β)(l:List α)(lo hi:Option Int):kl (l.map f) lo hi=(kl l lo hi).map f:=by
 unfold kl
 rw [ak,List.map_take,List.map_drop]
@[simp] theorem axz{lo hi:Option Int}:gSl false (.lst xs) lo hi s=.ok (.lst (kl xs lo hi)) s:=by
 show (match jj (kl (xs.map D.da) lo hi) with|some xs=> R.ok (D.lst xs) s|none=>.bad)=_
 rw [ae6,k6]
@[simp] theorem a5r{lo hi:Option Int}:gSl false (.frz xs) lo hi s=.ok (.lst (kl xs lo hi)) s:=by
 show (match jj (kl (xs.map D.da) lo hi) with|some xs=> R.ok (D.lst xs) s|none=>.bad)=_
 rw [ae6,k6]
noncomputable def jw(fl:Fl)(s:S):R D:=match fl with
 |.rt d=>.ok d s
 |.nx _=>.ok .non s
 |_=>.bad
@[simp] theorem a4a:jw (.rt d) s=.ok d s:=(rfl)
def akh(fo fi:FE)(ρ:En)(v:D)(s:S):R Fl:=(fo ρ s).bind fun o s2=> (fi ρ s2).bind fun i s3=> (zy o i v s3).bind fun _ s4=>.ok (.nx ρ) s4
def akn(fi:FE)(ρ:En)(v o:D)(s:S):R Fl:=(fi ρ s).bind fun i s3=> (zy o i v s3).bind fun _ s4=>.ok (.nx ρ) s4
def al0(ρ:En)(v o i:D)(s:S):R Fl:=(zy o i v s).bind fun _ s4=>.ok (.nx ρ) s4
@[simp] theorem a3y{fv fi:FE}:ab8 fv fo fi ρ s=(fv ρ s).bind (akh fo fi ρ):=(rfl)
@[simp] theorem a3c{fi:FE}:akh fo fi ρ d s=(fo ρ s).bind (akn fi ρ d):=(rfl)
@[simp] theorem a39{fi:FE}:akn fi ρ d e s=(fi ρ s).bind (al0 ρ d e):=(rfl)
@[simp] theorem a26{o:D}:al0 ρ d e o s=(zy e o d s).bind (amt ρ):=(rfl)
def arn(g:GM)(fa:FA)(ρ:En)(d:D)(s:S):R D:=if (toL s d).isSome=true then (fa ρ s).bind fun ds s2=> g d ds s2 else .bad
noncomputable def asx(g:GM)(d:D)(ds:List D)(s:S):R D:=g d ds s
@[simp] theorem a7c{g:GM}{fa:FA}:fMt g fo fa ρ s=(fo ρ s).bind (arn g fa ρ):=(rfl)
theorem ze{g:GM}{fa:FA}(h:s[n]?=some (.lst ds)):arn g fa ρ (.ref n) s=(fa ρ s).bind (asx g (.ref n)):=by
 unfold arn
 rw [if_pos]
 ·rfl
 ·show ((match s[n]? with|some (O.lst ds)=> some ds|_=> none):Option (List D)).isSome=true
  rw [h];rfl
@[simp] theorem a75{g:GM}:asx g d ds s=g d ds s:=(rfl)
theorem xg(h:s[n]?=some (.lst ds))(hl:ds.length < 16777216):ky (.ref n) [d] s=.ok .non (s.set n (.lst (ds++ [d]))):=by
 show (match s[n]? with|some (O.lst xs)=> (if xs.length < sizeLine then R.ok D.non (s.set n (.lst (xs++ [d]))) else .bad)|_=>.bad)=_
 rw [h]
 show (if ds.length < sizeLine then _ else _)=_
 rw [if_pos (by rw [jv];exact hl)]
theorem amy(h:s[n]?=some (.lst ds))(hl:ds.length+xs.length <=16777216):adp (.ref n) [.lst xs] s=.ok .non (s.set n (.lst (ds++xs.map D.da))):=by
 show (match s[n]? with|some (O.lst ys)=> (if ys.length+(xs.map D.da).length <=sizeLine then R.ok D.non (s.set n (.lst (ys++xs.map D.da))) else .bad)|_=>.bad)=_
 rw [h]
 exact if_pos (by rw [jv,ak];exact hl)
def awq(d:D)(s:S):R D:=arw d s
@[simp] theorem a71{f:FE}:as9 f ρ s=(f ρ s).bind awq:=(rfl)
theorem aui(h:s[n]?=some (.lst ds))(h2:jj ds=some xs):awq (.ref n) s=.ok (.lst xs) (s.set n .gone):=by
 show (match s[n]? with|some (O.lst ds)=> (match jj ds with|some xs=> R.ok (D.lst xs) (s.set n .gone)|none=>.bad)|_=>.bad)=_
 rw [h]
 show (match jj ds with|some xs=> R.ok (D.lst xs) (s.set n .gone)|none=>.bad)=_
 rw [h2]
def ae5(g:Tg)(ρ:En)(d:D)(s:S):R Fl:=match km g d ρ with
 |some ρ1=>.ok (.nx ρ1) s
 |none=>.bad
@[simp] theorem a6o{f:FE}:acx g f ρ s=(f ρ s).bind (ae5 g ρ):=(rfl)
def kFor(g:Tg)(fb:FS)(ρ:En)(p:Wk)(s:S):R Fl:=chk p s (k8 g fb p p.1 ρ s)
@[simp] theorem a6b{fi:FI}:ye fi g fb ρ s=(fi ρ s).bind (kFor g fb ρ):=(rfl)
@[simp] theorem a5z:kFor g fb ρ (ds,none) s=k8 g fb (ds,none) ds ρ s:=y4
@[simp] theorem a79{f:FE}:fIt f ρ s=(f ρ s).bind ael:=(rfl)
@[simp] theorem a68:ael (.lst xs) s=.ok (xs.map D.da,none) s:=(rfl)
@[simp] theorem a5n:ael (.tup xs) s=.ok (xs.map D.da,none) s:=(rfl)
@[simp] theorem a6z:aai f ρ s=(f ρ s).bind am7:=(rfl)
theorem ab9(h: -(2^62) <=j)(h2:j < 2^62):am7 [.int j] s=.ok (ac4 0 j.toNat,none) s:=if_pos ⟨h,h2⟩
def abp(g:Tg)(fb:FS)(p:Wk)(r:List D)(fl:Fl)(s:S):R Fl:=match fl with
 |.nx ρ2=> chk p s (k8 g fb p r ρ2 s)
 |.ct ρ2=> chk p s (k8 g fb p r ρ2 s)
 |.bk ρ2=>.ok (.nx ρ2) s
 |.rt d=>.ok (.rt d) s
theorem ah3{p:Wk}{r:List D}{ρ1:En}(h:km g d ρ=some ρ1):k8 g fb p (d::r) ρ s=(fb ρ1 s).bind (abp g fb p r):=by
 rw [k8,h];rfl
@[simp] theorem avt{r:List D}:abp g fb (ds,none) r (.nx ρ) s=k8 g fb (ds,none) r ρ s:=y4
@[simp] theorem au8{r:List D}:abp g fb (ds,none) r (.ct ρ) s=k8 g fb (ds,none) r ρ s:=y4
@[simp] theorem aki{p:Wk}{r:List D}:abp g fb p r (.bk ρ) s=.ok (.nx ρ) s:=(rfl)
@[simp] theorem ak6{p:Wk}{r:List D}:abp g fb p r (.rt d) s=.ok (.rt d) s:=(rfl)
def kLc(m:Bool)(js:List Nat)(k:Nat)(g:Tg)(ft:FT)(fe:FE)(ρ:En)(p:Wk)(s:S):R D:=if p.1.length <=sizeLine then chk p s ((kh g ft fe (bL k none++afx ρ js) p p.1 s).bind fun ds s2=> kc m ds s2) else .bad
@[simp] theorem a78{fi:FI}:fLc m js k fi g ft fe ρ s=(fi ρ s).bind (kLc m js k g ft fe ρ):=(rfl)
def ato(m:Bool)(ds:List D)(s:S):R D:=kc m ds s
theorem xk{ρ0:En}(h:ds.length <=16777216)(e:bL k none++afx ρ js=ρ0):kLc m js k g ft fe ρ (ds,none) s=(kh g ft fe ρ0 (ds,none) ds s).bind (ato m):=by
 subst e
 unfold kLc
 rw [if_pos (by rw [jv];exact h),y4];rfl
@[simp] theorem apq:ato false (xs.map D.da) s=.ok (.lst xs) s:=by
 show (match jj _ with|some xs=> R.ok (D.lst xs) s|none=>.bad)=_
 rw [k6]
@[simp] theorem aqu{p:Wk}:kh g ft fe ρ p [] s=.ok [] s:=(rfl)
def ajc(g:Tg)(ft:FT)(fe:FE)(ρ0:En)(p:Wk)(r:List D)(ρ1:En)(b:Bool)(s2:S):R (List D):=if b=true then (fe ρ1 s2).bind fun x s3=> chk p s3 ((kh g ft fe ρ0 p r s3).bind fun xs s4=>.ok (x::xs) s4) else chk p s2 (kh g ft fe ρ0 p r s2)
def aob(g:Tg)(ft:FT)(fe:FE)(ρ0:En)(p:Wk)(r:List D)(x:D)(s3:S):R (List D):=chk p s3 ((kh g ft fe ρ0 p r s3).bind fun xs s4=>.ok (x::xs) s4)
theorem ad4{p:Wk}{r:List D}{ρ1:En}(h:km g d ρ=some ρ1):kh g ft fe ρ p (d::r) s=(ft ρ1 s).bind (ajc g ft fe ρ p r ρ1):=by
 rw [kh,h];rfl
@[simp] theorem aja{p:Wk}{r:List D}{ρ1:En}:ajc g ft fe ρ p r ρ1 true s=(fe ρ1 s).bind (aob g ft fe ρ p r):=(rfl)
@[simp] theorem aiu{r:List D}{ρ1:En}:ajc g ft fe ρ (ds,none) r ρ1 false s=kh g ft fe ρ (ds,none) r s:=y4
@[simp] theorem ajh{r:List D}:aob g ft fe ρ (ds,none) r d s=(kh g ft fe ρ (ds,none) r s).bind (aia d):=y4
@[simp] theorem a6m:yg ρ s=.ok true s:=(rfl)
theorem a6s:ad1 true [a0] s=.ok (.ref s.length) (s++ [.lst [a0]]):=(rfl)
theorem a6e{a2:D}:ad1 true [a0,a1,a2] s=.ok (.ref s.length) (s++ [.lst [a0,a1,a2]]):=(rfl)
theorem a3j(h:xs.length <=16777216):ad1 false (xs.map D.da) s=.ok (.lst xs) s:=aw2 (k6 xs) (by rw [ak];exact h)
theorem it0{a0:ae}{r:List ae}:gIx (.tup (a0::r)) (.int 0) s=.ok (.da a0) s:=akd (k:=0) rfl
theorem it1{a0 a1:ae}{r:List ae}:gIx (.tup (a0::a1::r)) (.int 1) s=.ok (.da a1) s:=akd (k:=1) rfl
theorem a0s{y:Option D}:km (.nm 0) d (y::r)=some (some d::r):=(rfl)
theorem a5g{y:Option D}:aam 1 (x0::y::r) d s=.ok (.nx (x0::some d::r)) s:=(rfl)
theorem a63{y:Option D}:aam 2 (x0::x1::y::r) d s=.ok (.nx (x0::x1::some d::r)) s:=(rfl)
theorem a5l{y:Option D}:aam 3 (x0::x1::x2::y::r) d s=.ok (.nx (x0::x1::x2::some d::r)) s:=(rfl)
theorem a1u{y:Option D}:km (.nm 3) d (x0::x1::x2::y::r)=some (x0::x1::x2::some d::r):=(rfl)
theorem a5q{y:Option D}:aam 4 (x0::x1::x2::x3::y::r) d s=.ok (.nx (x0::x1::x2::x3::some d::r)) s:=(rfl)
theorem a04{y:Option D}:km (.nm 4) d (x0::x1::x2::x3::y::r)=some (x0::x1::x2::x3::some d::r):=(rfl)
theorem a60{y:Option D}:aam 5 (x0::x1::x2::x3::x4::y::r) d s=.ok (.nx (x0::x1::x2::x3::x4::some d::r)) s:=(rfl)
theorem a5t{y:Option D}:aam 6 (x0::x1::x2::x3::x4::x5::y::r) d s=.ok (.nx (x0::x1::x2::x3::x4::x5::some d::r)) s:=(rfl)
theorem atr{y:Option D}:km (.nm 6) d (x0::x1::x2::x3::x4::x5::y::r)=some (x0::x1::x2::x3::x4::x5::some d::r):=(rfl)
theorem a5f{x6 y:Option D}:aam 7 (x0::x1::x2::x3::x4::x5::x6::y::r) d s=.ok (.nx (x0::x1::x2::x3::x4::x5::x6::some d::r)) s:=(rfl)
theorem a0w{x6 y:Option D}:km (.nm 7) d (x0::x1::x2::x3::x4::x5::x6::y::r)=some (x0::x1::x2::x3::x4::x5::x6::some d::r):=(rfl)
theorem a4t{x6 x7 y:Option D}:aam 8 (x0::x1::x2::x3::x4::x5::x6::x7::y::r) d s=.ok (.nx (x0::x1::x2::x3::x4::x5::x6::x7::some d::r)) s:=(rfl)
theorem a4n{x6 x7 x8 y:Option D}:aam 9 (x0::x1::x2::x3::x4::x5::x6::x7::x8::y::r) d s=.ok (.nx (x0::x1::x2::x3::x4::x5::x6::x7::x8::some d::r)) s:=(rfl)
theorem a0q{x6 x7 x8 y:Option D}:km (.nm 9) d (x0::x1::x2::x3::x4::x5::x6::x7::x8::y::r)=some (x0::x1::x2::x3::x4::x5::x6::x7::x8::some d::r):=(rfl)
end
@[simp] theorem R.bind_ok'{α β:Type}(a:α)(s:S)(f:α -> S -> R β):(R.ok a s).bind f=f a s:=(rfl)
@[simp] theorem R.W_ok'{α:Type}(a:α)(s:S)(Q:α -> S -> Prop):(R.ok a s).W Q=Q a s:=(rfl)
def flW(J:En -> S -> Prop)(Q:Fl -> S -> Prop)(fl:Fl)(s:S):Prop:=match fl with
 |.nx ρ=> J ρ s
 |.ct ρ=> J ρ s
 |.bk ρ=> Q (.nx ρ) s
 |.rt d=> Q (.rt d) s
theorem qg{g:Tg}{fb:FS}{all:List D}{Q:Fl -> S -> Prop}(J:List D -> En -> S -> Prop)
  (step: ∀d r ρ s,J (d::r) ρ s -> ∃ρ1,km g d ρ=some ρ1/\(fb ρ1 s).W (flW (J r) Q)) (fin: ∀ρ s,J [] ρ s -> Q (.nx ρ) s):
  ∀(ds:List D) (ρ:En) (s:S),J ds ρ s -> (k8 g fb (all,none) ds ρ s).W Q
 |[],ρ,s,h=> fin ρ s h
 |d::r,ρ,s,h=> by
  obtain⟨ρ1,e,w⟩:=step d r ρ s h
  rw [ah3 e,R.W_bind]
  refine R.W_mono w fun fl s1 q=> ?_
  cases fl with
  |nx ρ2=> rw [avt];exact qg J step fin r ρ2 s1 q
  |ct ρ2=> rw [au8];exact qg J step fin r ρ2 s1 q
  |bk ρ2=> rw [aki];exact q
  |rt d=> rw [ak6];exact q
theorem aao{g:Tg}{ft:FT}{fe:FE}{ρ0:En}{all:List D}{Q:List D -> S -> Prop}(J:List D -> List D -> S -> Prop)
  (step: ∀d r acc s,J (d::r) acc s -> ∃ρ1,km g d ρ0=some ρ1/\(ft ρ1 s).W fun b s2=> if b=true then (fe ρ1 s2).W fun x s3=> J r (acc++ [x]) s3 else J r acc s2) (fin: ∀acc s,J [] acc s -> Q acc s):
  ∀(ds acc:List D) (s:S),J ds acc s -> (kh g ft fe ρ0 (all,none) ds s).W fun xs s'=> Q (acc++xs) s'
 |[],acc,s,h=> by
  rw [aqu,R.W_ok,bq]
  exact fin acc s h
 | d::r,acc,s,h=> by
  obtain⟨ρ1,e,w⟩:=step d r acc s h
  rw [ad4 e,R.W_bind]
  refine R.W_mono w fun b s1 q=> ?_
  cases b with
  |false=>
   rw [aiu]
   rw [if_neg av]at q
   exact aao J step fin r acc s1 q
  |true=>
   rw [aja,R.W_bind]
   rw [if_pos rfl]at q
   refine R.W_mono q fun x s2 q2=> ?_
   rw [ajh,R.W_bind]
   refine R.W_mono (aao J step fin r (acc++ [x]) s2 q2) fun xs s3 q3=> ?_
   rw [afc,R.W_ok]
   rw [dw]at q3
   exact q3
structure Ext (s s':S):Prop where
 ex: ∃g,s'=s++g
theorem Ext.refl(s:S):Ext s s:=⟨[],by simp⟩
theorem Ext.trans{a b c:S}(h1:Ext a b)(h2:Ext b c):Ext a c:=by
 obtain⟨g,rfl⟩:=h1.ex
 obtain⟨k,rfl⟩:=h2.ex
 exact⟨g++k,by rw [dw]⟩
theorem Ext.add(s g:S):Ext s (s++g):=⟨g,rfl⟩
theorem Ext.len{s':S}(h:Ext s s'):s.length <=s'.length:=by obtain⟨g,rfl⟩:=h.ex;simp
theorem Ext.get{s':S}(h:Ext s s')(e:s[k]?=some o):s'[k]?=some o:=by
 obtain⟨g,rfl⟩:=h.ex
 rw [aS (aF.mp e).1];exact e
theorem Ext.getE{s':S}(h:Ext s s')(e:k < s.length):s'[k]?=s[k]?:=by
 obtain⟨g,rfl⟩:=h.ex
 rw [aS e]
structure ke (n:Nat) (s s':S):Prop where
 len:s.length <=s'.length
 get: ∀k,k≠n -> k < s.length -> s'[k]?=s[k]?
theorem ke.refl(n:Nat)(s:S):ke n s s:=⟨aq _,fun _ _ _=> rfl⟩
theorem ke.trans{a b c:S}(h1:ke n a b)(h2:ke n b c):ke n a c:=⟨a7 h1.len h2.len,fun k hk hl=> (h2.get k hk (aJ hl h1.len)).trans (h1.get k hk hl)⟩
theorem Ext.same{s':S}(h:Ext s s')(n:Nat):ke n s s':=⟨h.len,fun _ _ hl=> h.getE hl⟩
theorem aby:ke n s (s.set n o):=⟨by simp,fun k hk hl=> aY (cV hk)⟩
theorem ke.own{s':S}(h:ke n s s')(hk:s.length <=k):ke n s (s'.set k o):=⟨by simpa using h.len,fun j hj hl=> by rw [aY (by lia)];exact h.get j hj hl⟩
theorem ar6{α:Type}{s:List α}{o:α}(e:s[n]?=some o):s.set n o=s:=by
 apply eO
 intro i
 by_cases z:n=i
 ·subst z
  have hl:=(aF.mp e).1
  rw [bj hl,e]
 ·rw [aY z]
structure Nice (B D:Nat) (d:ae):Prop where
 ls:d.leavesShort 13=true
 sh:d.showable=true
 cl:d.canLay0=true
 bk:d.bulk <=B
 dp:d.depth <=D
structure Nices (B D:Nat) (ds:List ae):Prop where
 ls:iH 13 ds=true
 sh:PyData.showableAll ds=true
 cl:aO ds=true
 bk:PyData.bulkAll ds <=B
 dp:bM ds <=D
theorem Nice.mono{B D B' D':Nat}(h:Nice B D d)(hb:B <=B')(hd:D <=D'):Nice B' D' d:=⟨h.ls,h.sh,h.cl,a7 h.bk hb,a7 h.dp hd⟩
theorem Nices.mono{B D B' D':Nat}(h:Nices B D ds)(hb:B <=B')(hd:D <=D'):Nices B' D' ds:=⟨h.ls,h.sh,h.cl,a7 h.bk hb,a7 h.dp hd⟩
theorem Nices.nil{D:Nat}:Nices 0 D []:=⟨rfl,rfl,rfl,aq _,cy _⟩
theorem Nices.cons{B B' D:Nat}(h:Nice B D d)(t:Nices B' D ds):Nices (B+1+B') D (d::ds):=by
 obtain⟨a1,a2,a5,a3,a4⟩:=h
 obtain⟨b1,b2,b5,b3,b4⟩:=t
 refine⟨?_,?_,?_,?_,?_⟩
 ·simp only [iH,a1,b1,i8]
 ·simp only [PyData.showableAll,a2,b2,i8]
 ·simp only [aO,a5,b5,i8]
 ·simp only [PyData.bulkAll];lia
 ·simp only [bM];lia
theorem Nices.tup{B D:Nat}(h:Nices B D ds):Nice B (D+1) (.tuple ds):=by
 obtain⟨b1,b2,b5,b3,b4⟩:=h
 refine⟨?_,?_,?_,?_,?_⟩
 ·simpa only [dq] using b1
 ·simpa only [fO] using b2
 ·simpa only [eG] using b5
 ·simpa only [PyData.bulk] using b3
 ·simp only [cR];lia
theorem Nices.lst{B D:Nat}(h:Nices B D ds):Nice B (D+1) (.list ds):=by
 obtain⟨b1,b2,b5,b3,b4⟩:=h
 refine⟨?_,?_,?_,?_,?_⟩
 ·simpa only [dq] using b1
 ·simpa only [fO] using b2
 ·simpa only [eG] using b5
 ·simpa only [PyData.bulk] using b3
 ·simp only [cR];lia
theorem Nice.okS{B D:Nat}(h:Nice B D d)(hb:B <=1048576)(hd:D <=64):okS d=true:=by
 unfold PF.okS
 (simp only [ao,decide_eq_true_eq])
 exact⟨⟨⟨h.cl,h.sh⟩,a7 h.dp hd⟩,PyData.shown_fits_bulk (by decide) (by decide) h.ls (a7 h.bk hb)⟩
theorem Nice.okD{B D:Nat}(h:Nice B D d)(hd:D <=64):okD d=true:=by
 unfold PF.okD
 rw [ao]
 exact⟨h.cl,decide_eq_true (a7 h.dp hd)⟩
theorem zk{B D:Nat}: ∀(ds:List ae),(∀d∈ds,Nice B D d) -> Nices ((B+1)*ds.length) D ds
 |[],_=> Nices.nil
 |d::r,h=> by
  refine (Nices.cons (h d az) (zk r fun y hy=> h y (ay _ hy))).mono ?_ (aq _)
  rw [aD,Nat.mul_add];lia
theorem y9(h0:i.natAbs < 10^12):Nice 0 0 (.int i):=by
 refine⟨?_,?_,rfl,aq _,by simp [cR]⟩
 ·simp only [dq,decide_eq_true_eq]
  exact PyData.shown_int_le h0
 ·simp only [fO,decide_eq_true_eq]
  have:i.natAbs.log2 <=i.natAbs:=Nat.log2_le_self _
  by_cases z:i.natAbs=0
  ·rw [z];decide
  ·have h2:i.natAbs < 2^40:=by lia
   have:=(Nat.log2_lt z).mpr h2
   lia
noncomputable def yy(x:Str):Bool:=(decide (0 < x.length)&&decide (x.length <=20))&&x.cps.toList.all fun c=> decide (32 <=c)&&decide (c < 127)
theorem aeb(h:yy x=true):Nice 20 0 (.str x):=by
 unfold yy at h
 simp only [ao,decide_eq_true_eq,aw]at h
 refine⟨?_,rfl,?_,h.1.2,by simp [cR]⟩
 ·simp only [dq,aw,decide_eq_true_eq]
  intro c hc
  have:=(h.2 c hc).2
  have e16:(16:Nat)^8=4294967296:=by decide
  lia
 ·simp only [eG]
  unfold jO
  (rw [←df,aw])
  intro c hc
  have:=(h.2 c hc).2
  (exact decide_eq_true (by lia))
theorem aqb(h:yy x=true):0 < x.length:=by
 unfold yy at h
 simp only [ao,decide_eq_true_eq]at h
 exact h.1.1
theorem aen: ∀(xs:List Str),(∀x∈xs,yy x=true) -> Nices (21*xs.length) 0 (xs.map .str)
 |[],_=> Nices.nil
 |x::r,h=> by
  refine (Nices.cons (aeb (h x az)) (aen r fun y hy=> h y (ay _ hy))).mono ?_ (aq _)
  rw [aD];lia
end PF
namespace PF
open PySem PySem.Spec
open L2
open PyProof.Rows (envOfC)
section
variable{P:aR}{w:aT}{K:am}{mg:Str -> Option ac}{base:Heap}{x:Str}{st:Stmt}{N ps:List Str}{k:Nat}
theorem fnF{f:Addr}(F:Fun K x x st f fd)(S:FnScope N ps (jf st)){m:Nat}(hm:N.length=m)(hn:ps.length=n)(hbody: ∀(f:Addr) (cdv:ac) (A:aZ) (outer:List Env) (s:ah) (H:Hp) (E:XK),Room k (A.deeper (envOfC x (jf st) s.heap.objs.size f cdv)) ->
   RSs (ac0 CX0 P w K mg base N x (jf st) f cdv A outer s H E).nox (qp st) fb):FnOk P w K mg base CX0 (k+1) f fd ps (spF K n (j8 m fb)):=by
 refine F.ok S (fun vs H Q E h=> by rw [hn];exact h.1) fun cdv A outer s H vs Q E hr h=> ?_
 obtain⟨hv,as,ds,s',rl,rs,h⟩:=h
 obtain⟨t,p,r⟩:=(hbody f cdv A outer s H E hr).ex
 refine⟨t,p,?_⟩
 have en:Envs K as H (ds.map some++bL (m - ds.length) none) (L2.start N vs):=by rw [←hm];exact af1 rs
 refine r as _ H _ s' _ rl en (Dn.bind h fun fl s1 as1 H1 fv st1 rl1 r1 h1=> ?_)
 cases r1 with
 |nx e=> exact Dn.now (Q:=Q) h1 rl1 (.da .non)
 |rt e=> exact Dn.now (Q:=Q) h1 rl1 e
 |bk e=> exact h1.elim
 |ct e=> exact h1.elim
theorem ay6{f:Addr}{F:FF}(h:FnOk P w K mg base CX0 k f fd ps (spF K 1 F))(ht: ∀ns:List Int,ns.length <=63 -> (F [.frz (ns.map bT)] []).W fun d _=> d=.bl true):FnOk P w K mg base CX0 k f fd ps (ahf K):=by
 refine h.imp fun vs H Q E q=> ?_
 obtain⟨a,ns,rfl,hS,hl,hq⟩:=q
 have R0:Rel K ⟨[],[]⟩ H []:=⟨rfl,fun i j p e=> by simp at e,fun n p o e=> by simp at e,fun n o e=> by simp at e,fun p hp=> by simp at hp,fun p hp=> by simp at hp⟩
 refine⟨rfl,⟨[],[]⟩,[.frz (ns.map bT)],[],R0,.cons (.frz (fun as' H' st=> ?_) (TDs.ints ns)) .nil,?_⟩
 ·exact L2.ke.seq (fun b o hb=> st.keep b o (by simp [As.has]) hb) hS
 ·have t:=ht ns hl
  cases hr:F [.frz (ns.map bT)] []with
  |ok d s=>
   rw [hr]at t
   intro b as' H' st rl rb
   have:d=.bl true:=t
   subst this
   cases rb with
   |da z=> cases z;exact hq _
  |bad=> rw [hr]at t;exact t
end
end PF
namespace PF
open PySem PySem.Spec
open L2
theorem aab(c: ∃t,X.mg x=some (.int i t))(hg:Gl X x:=by rfl)(hd:(x==("__debug__":Str))=false:=by decide):RE X (.Name x pos) (fC (.da (.int i))):=by
 obtain⟨t,hm⟩:=c
 exact akp (v:=.int i) (fun as H=>.da (.int i)) hm ⟨_,rfl⟩ hg hd
theorem ak9{z:Str}(c: ∃t,X.mg x=some (.str z t))(hg:Gl X x:=by rfl)(hd:(x==("__debug__":Str))=false:=by decide):RE X (.Name x pos) (fC (.da (.str z))):=by
 obtain⟨t,hm⟩:=c
 exact akp (v:=.str z) (fun as H=>.da (.str z)) hm ⟨_,rfl⟩ hg hd
end PF
namespace PF
open PySem PySem.Spec
open L2
open PyProof.Rows (is_bool isnot_bool)
theorem RD.bl_inv'(h:RD K as H v (.bl b)):v=.bl b:=by
 cases h with|da t=> cases t;rfl
noncomputable def ab6(dx dy:D)(s:S):R D:=match dx,dy with
 |.da (.bool c),.da (.bool d)=>.ok (.bl (c !=d)) s
 |_,_=>.bad
theorem arh:Op2 X (aK .IsNot) ab6:=k7 fun pins sh σ H as s x y dx dy v u Q I rl r1 r2 rx ry h=> by
 unfold ab6 at h
 split at h
 ·cases r1.bl_inv';cases r2.bl_inv';cases rx;cases ry
  exact isnot_bool (jn I (Dn.now (Q:=Q) h rl (.da (.bl _))) rfl)
 ·exact h.elim
end PF
namespace PF
open PySem PySem.Spec
open PySem.SeqAt
open AutoSeq1 (wpAny_loadPart') --
open MeetsSeq MeetsSeq2 MeetsSeq3 SeqRoads2 --
def afz(A:aZ)(s:ah)(x y:ac)(b:Bool):Prop:= ∀(prog:aR) (w:aT) (E:ac -> ah -> Prop) (Q:ac -> ah -> Prop),Q (.bool b) s -> wpAny (model prog w) A (eX .Lt x y) Q E s
inductive LexAt (A:aZ) (s:ah) (fin:Bool):List (ac×ac) -> Bool -> Prop
 |nil:LexAt A s fin [] fin
 |same {x y:ac} {r:List (ac×ac)} {b:Bool}:EqAt A s x y true -> LexAt A s fin r b -> LexAt A s fin ((x,y)::r) b
 |diff {x y:ac} {r:List (ac×ac)} {b:Bool}:EqAt A s x y false -> afz A s x y b -> LexAt A s fin ((x,y)::r) b
theorem apj(l b:Addr)(us ws:Array ac)(n n2:Nat)(dd dd2:Option Addr)(sl sl2:Array (Option ac))(r:Bool):
  ig (cf.«tuple.__lt__» ⟨[.ref l,.ref b],[]⟩)
   (fun A R s=> s.heap.get? l=some {cls:=.type "tuple",dict:=dd,data:=.seq us n,slots:=sl}/\s.heap.get? b=some {cls:=.type "tuple",dict:=dd2,data:=.seq ws n2,slots:=sl2}/\
    LexAt A.in1 s (decide (us.size < ws.size)) (us.toList.zip ws.toList) r/\R (.ok (.ret (.bool r))) s):=
 .of_wp fun prog w A R s h=> by
  (obtain⟨hp,g,d,tk,os⟩:=s)
  obtain⟨hl,hb,lx,hR⟩:=h
  have sub:=gY
  wp_walk using du hl,du hb,fh _ (fun jx b s'=> b.1=none/\s'=⟨hp,g,d,tk,os⟩/\LexAt A.in1 ⟨hp,g,d,tk,os⟩ (decide (us.size < ws.size)) jx r) _
  case turn=>
   rintro⟨y,x⟩ jx b s' ⟨hb',rfl,lx⟩
   cases lx with
   |same e t=>
    refine aa (e prog w _ _ ?_)
    wp_walk
    exact⟨rfl,rfl,t⟩
   |diff e t=>
    refine aa (e prog w _ _ ?_)
    have t': ∀(E:ac -> ah -> Prop) (Q:ac -> ah -> Prop),Q (.bool r) ⟨hp,g,d,tk,os⟩ -> wpAny (model prog w) A.in1 (eX .Lt y x) Q E ⟨hp,g,d,tk,os⟩:=fun E Q=> t prog w E Q
    generalize eX .Lt y x=m at t'⊢
    wp_walk
    refine t' _ _ ?_
    wp_walk
    exact⟨_,rfl,hR⟩
  case fin=>
   rintro⟨b1,b2⟩ s' ⟨hb',rfl,lx⟩
   simp only at hb'
   subst hb'
   cases lx
   wp_walk
   exact⟨_,rfl,by simpa [fE] using hR⟩
  case h=> exact⟨rfl,rfl,lx⟩
section
variable{A:aZ}{s:ah} --
theorem afz.tuples{b:Addr}{us ws:Array ac}{r:Bool}(hl:s.heap.IsTuple l us)(hb:s.heap.IsTuple b ws)(hu:A.units < cLine)(lx:LexAt A.in1 s (decide (us.size < ws.size)) (us.toList.zip ws.toList) r):afz A s (.ref l) (.ref b) r:=fun prog w E Q h=> by
 obtain⟨⟨c1,d1,e1,s1⟩,o1,k1,n1,q1⟩:=id hl
 obtain⟨⟨c2,d2,e2,s2⟩,o2,k2,n2,q2⟩:=id hb
 simp only at k1 q1 k2 q2
 subst k1 q1 k2 q2
 exact iq (op:=.Lt) ⟨_,o1,rfl⟩ ⟨_,o2,rfl⟩ ik F.entry_tuple_lt (F.args_tuple_lt_2 _ _) (apj l b us ws n1 n2 d1 d2 s1 s2 r) ⟨o1,o2,lx,show dP r≠iT/\Q (.bool r) s from ⟨nofun,h⟩⟩ hu
end
mutual
noncomputable def ltP:ae -> ae -> Option Bool
 |.int i,.int j=> some (decide (i < j))
 |.str a,.str b=> some (decide (a.cps.toList < b.cps.toList))
 |.tuple xs,.tuple ys=> kn xs ys
 |_,_=> none
noncomputable def kn:List ae -> List ae -> Option Bool
 |[],[]=> some false
 |[],_::_=> some true
 |_::_,[]=> some false
 |x::xs,y::ys=> if aI x y=true then kn xs ys else ltP x y
end
theorem qh:kn [] []=some false:=by simp only [kn]
theorem qq{y:ae}:kn [] (y::ys)=some true:=by simp only [kn]
theorem kd{y:ae}:kn (y::ys) []=some false:=by simp only [kn]
theorem qu{x y:ae}{xs:List ae}:kn (x::xs) (y::ys)=if aI x y=true then kn xs ys else ltP x y:=by simp only [kn]
theorem aac:ltP (.int i) (.int j)=some (decide (i < j)):=by simp only [ltP]
theorem aa8{a b:Str}:ltP (.str a) (.str b)=some (decide (a.cps.toList < b.cps.toList)):=by simp only [ltP]
theorem vi{xs:List ae}:ltP (.tuple xs) (.tuple ys)=kn xs ys:=by simp only [ltP]
end PF
namespace PF
open PySem PySem.Spec
open PySem.SeqAt
mutual
theorem aa2: ∀(da db:ae) (A:aZ) (s:ah) (a b:ac) (as bs:List Addr) (r:Bool),cj s.heap a da as -> cj s.heap b db bs -> da.canLay0=true -> db.canLay0=true -> A.units+min da.depth db.depth < cLine -> ltP da db=some r -> afz A s a b r
 | .int i,db,A,s,_,_,_,_,r,ra,rb,_,_,_,h=> by
  cases db with
  |int j=>
   rw [aac]at h
   cases h
   cases ra;cases rb
   exact fun prog w E Q q=> PyProof.Rows.lt_int q
  |none=> simp [ltP]at h
  |bool _=> simp [ltP]at h
  |str _=> simp [ltP]at h
  |list _=> simp [ltP]at h
  |tuple _=> simp [ltP]at h
  |dict _=> simp [ltP]at h
 | .str x,db,A,s,_,_,_,_,r,ra,rb,_,_,_,h=> by
  cases db with
  |str j=>
   rw [aa8]at h
   cases h
   cases ra;cases rb
   exact fun prog w E Q q=> PyProof.Rows.lt_str q
  |none=> simp [ltP]at h
  |bool _=> simp [ltP]at h
  |int _=> simp [ltP]at h
  |list _=> simp [ltP]at h
  |tuple _=> simp [ltP]at h
  |dict _=> simp [ltP]at h
 | .tuple xs,db,A,s,_,_,_,_,r,ra,rb,ha,hb,hu,h=> by
  cases db with
  | tuple ys=>
   rw [vi]at h
   cases ra with
   | tuple h1 h2 h3 h4=>
    cases rb with
    |tuple k1 k2 k3 k4=>
     refine afz.tuples ⟨_,h1,h2,_,h3⟩ ⟨_,k1,k2,_,k3⟩ (room_here hu) ?_
     have t:=ab2 xs ys A.in1 s _ _ _ _ r h4 k4 ha hb (room_in hu) h
     simpa using t
  |none=> simp [ltP]at h
  |bool _=> simp [ltP]at h
  |int _=> simp [ltP]at h
  |list _=> simp [ltP]at h
  |str _=> simp [ltP]at h
  |dict _=> simp [ltP]at h
 |.none,_,_,_,_,_,_,_,_,_,_,_,_,_,h=> by simp [ltP]at h
 |.bool _,_,_,_,_,_,_,_,_,_,_,_,_,_,h=> by simp [ltP]at h
 |.list _,_,_,_,_,_,_,_,_,_,_,_,_,_,h=> by simp [ltP]at h
 |.dict _,_,_,_,_,_,_,_,_,_,_,ha,_,_,_=> nomatch ha
theorem ab2: ∀(xs ys:List ae) (A:aZ) (s:ah) (vs ws:List ac) (as bs:List Addr) (r:Bool),bQ s.heap vs xs as -> bQ s.heap ws ys bs -> aO xs=true -> aO ys=true -> A.units+min (bM xs) (bM ys) < cLine -> kn xs ys=some r -> LexAt A s (decide (vs.length < ws.length)) (vs.zip ws) r
 |[],[],A,s,_,_,_,_,r,ra,rb,_,_,_,h=> by
  cases ra;cases rb
  rw [qh]at h
  cases h
  exact .nil
 |[],_::_,A,s,_,_,_,_,r,ra,rb,_,_,_,h=> by
  cases ra;cases rb
  rw [qq]at h
  cases h
  simpa using LexAt.nil (A:=A) (s:=s) (fin:=true)
 |_::_,[],A,s,_,_,_,_,r,ra,rb,_,_,_,h=> by
  cases ra;cases rb
  rw [kd]at h
  cases h
  simpa using LexAt.nil (A:=A) (s:=s) (fin:=false)
 | x ::xs,y::ys,A,s,_,_,_,_,r,ra,rb,ha,hb,hu,h=> by
  have ha':x.canLay0=true/\aO xs=true:=by simpa [aO] using ha
  have hb':y.canLay0=true/\aO ys=true:=by simpa [aO] using hb
  rw [qu]at h
  cases ra with
  | cons r1 rs=>
   cases rb with
   | cons r2 rs2=>
    have e:=iO x y A s _ _ _ _ r1 r2 ha'.1 hb'.1 (gn hu)
    rw [cU,aD,aD]
    by_cases q:aI x y=true
    ·rw [if_pos q]at h
     rw [q]at e
     have t:=ab2 xs ys A s _ _ _ _ r rs rs2 ha'.2 hb'.2 (room_tail hu) h
     refine .same e ?_
     simpa using t
    ·rw [if_neg q]at h
     rw [dW]at q
     rw [q]at e
     exact .diff e (aa2 x y A s _ _ _ _ r r1 r2 ha'.1 hb'.1 (gn hu) h)
end
end PF
namespace PF
open PySem PySem.Spec
open L2
def ana(dx dy:D)(s:S):R D:=match toP s dx,toP s dy with
 |some a,some b=> match ltP a b with
  |some r=> if okD a=true/\okD b=true then .ok (.bl r) s else .bad
  |none=>.bad
 |_,_=>.bad
theorem a0g(hu:X.A.units+64 < cLine):Op2 X (aK .Lt) ana:=k7 fun pins sh σ H as s x y dx dy v u Q I rl r1 r2 rx ry h=> by
 unfold ana at h
 split at h
 ·rename_i a b ea eb
  split at h
  ·rename_i r hr
   split at h
   ·rename_i hok
    obtain⟨bs1,q1⟩:=r1.reads I rl ea rx
    obtain⟨bs2,q2⟩:=r2.reads I rl eb ry
    obtain⟨c1,d1⟩:=v0 hok.1
    obtain⟨c2,d2⟩:=v0 hok.2
    exact aa2 a b _ _ _ _ _ _ r q1 q2 c1 c2 (by lia) hr _ _ _ _ ⟨.bl _,H,I,rfl,Dn.now (Q:=Q) h rl (.da (.bl _))⟩
   ·exact h.elim
  ·exact h.elim
 ·exact h.elim
def adl(ds:List D)(s:S):R D:=match ds with
 |[d]=> match (abr s d).bind v8 with
  |some ss=> if ss.length < 4000 then .ok (.int (ju ss).length) s else .bad
  |none=>.bad
 |_=>.bad
theorem ap8{p1 p2 pos2:Pos}(hc:X.calm=true)(hm1:X.mg "len"=none)(hm2:X.mg "set"=none)(ha:RA X [e] f)(hg1:Gl X "len":=by rfl)(hg2:Gl X "set":=by rfl)(hs:starEach [e] X.env=(false,eval e X.env)::starEach [] X.env:=by rfl)(hs2:starEach [.Call (.Name "set" p2) [e] [] pos2] X.env=(false,eval (.Call (.Name "set" p2) [e] [] pos2) X.env)::starEach [] X.env:=by rfl)(hpl:(backTo pos (starEach [] X.env)).any (·.1)=false:=by rfl)(hpl2:(backTo pos2 (starEach [] X.env)).any (·.1)=false:=by rfl):
  RE X (.Call (.Name "len" p1) [.Call (.Name "set" p2) [e] [] pos2] [] pos) (fCB adl f):=by
 obtain⟨t,pa,ra⟩:=ha.ex
 have pset:=agt (X:=X) (aow hc) hg2 hm2 a1d pa (pos:=pos2) (p:=p2) (by decide) (by decide) hs hpl2
 have plen:=aiv (X:=X) aoy hg1 hm1 asz (afy pset aip hs2) (pos:=pos) (p:=p1) (by decide) (by decide) hs2 hpl
 refine⟨_,plen,fun as σ H ρ s Q rl en h=> ?_⟩
 refine ra as σ H ρ s _ rl en (Dn.bind h fun ds s1 as1 H1 vs st1 rl1 r1 h1=> ?_)
 unfold adl at h1
 split at h1
 ·obtain⟨v,rfl,rv⟩:=r1.one
  split at h1
  ·rename_i ss e
   split at h1
   ·rename_i hz
    cases e2:abr s1 _ with
    |none=> rw [e2]at e;cases e
    |some xs=>
     rw [e2]at e
     obtain⟨p,zs,rfl,sq,rz⟩:=abg rl1 rv e2
     obtain⟨ez,ex⟩:=afp rz (show v8 xs=some ss from e)
     subst ez
     refine⟨p,ss,rfl,sq,hz,fun q H2 n2=> ⟨q,ss,rfl,n2.at,?_⟩⟩
     exact Dn.now (Q:=Q) (Dn.step h1 (jy n2)) (rl1.new n2) (.da (.int _))
   ·exact h1.elim
  ·exact h1.elim
 ·exact h1.elim
noncomputable def Its(x:Str):It:=⟨fun i _=> i < x.length,fun i H v H'=> H'=H/\ ∃c,x.cps.toList[i]?=some c/\v=.str ⟨#[c]⟩,fun i _=> x.length <=i⟩
theorem amq(x:Str)(t:Tok)(it:Addr):Turn P w K tg (Its x) [it] it (fun i h=> h.IsStrIter it "str_ascii_iterator" x t i) where
 mem:=by simp
 obj:=fun i h st b hb=> by
  cases bm.mp hb
  obtain⟨o,e,c,d⟩:=st
  exact⟨o,e,fun v z=> by rw [d]at z;cases z⟩
 keep:=fun i h h' st k=> by
  obtain⟨o,e,c,d⟩:=st
  exact⟨o,k it (by simp) o e,c,d⟩
 item:=by
  intro X hP hw hK hc i pins s σ H E I hf st hg
  subst hP hw hK
  have hl:i < x.cps.size:=hg
  have hx:x.cps[i]?=some x.cps[i]:=Array.getElem?_eq_getElem hl
  obtain⟨f0,f1,f2,f3,f4,f5⟩:=hf it (by simp)
  refine wpAny_pyNext_ascii_item st hx fun h' st' sb=> ?_
  have I1:Inv X pins σ H {s with heap:=h',toks:=s.toks+1}:=I.turned (t':=s.toks+1) (fun b o hb e=> (sb.2 b hb).trans e) f0 f1 f3 f4 f5
  obtain⟨o,e,c,d⟩:=id st'
  exact⟨_,rfl,ahd (s:={s with heap:=h',toks:=s.toks+1}) e c d (by decide) ⟨.str ⟨#[x.cps[i]]⟩,H,I1,⟨_,rfl⟩,⟨rfl,x.cps[i],by rw [←hx,cW],rfl⟩,st',fun b hb=> (hf b hb).1⟩⟩
 done:=by
  intro X hP hw hK hc i pins s σ H E I hf st hg
  subst hP hw hK
  have hl:x.cps.size <=i:=hg
  obtain⟨f0,f1,f2,f3,f4,f5⟩:=hf it (by simp)
  exact wpAny_pyNext_ascii_end (I.ok.hd hc) st (Array.getElem?_eq_none hl) fun h' eb=> ⟨rfl,I.turned (t':=s.toks) (fun b o hb e=> eb b o hb e) f0 f1 f3 f4 f5⟩
 self:=fun _ _ _ _ _ st h=> wpAny_pyIter_striter_ascii st h
section
variable{X:Cx}{tg a:Expr}{fa:FE}
def a2b(tl:TE):TI:=fun σ H R=> tl σ H fun v H1=> ∃x,v=.str x/\x.cps.all (· < 128)=true/\R (Its x) H1
theorem azm{l:Expr}{tl:TE}(hl:PE X l tl):PI X tg l (a2b tl):=by
 intro pins s σ H R I h
 refine thn (hl pins s σ H _ I h) fun v s1 ⟨z,H1,I1,r1,q1⟩=> ?_
 obtain⟨x,rfl,hx,q⟩:=q1
 obtain⟨t,rfl⟩:=r1
 refine wpAny_pyIter_ascii hx ?_
 exact⟨s1.heap.objs.size,[s1.heap.objs.size],_,_,H1,rfl,I1.kept (t':=s1.toks) fun b o e=> ag _ e,amq x t _,⟨_,aC _ rfl,rfl,rfl⟩,fun b hb=> by
  cases bm.mp hb
  exact I1.fpOk (aq _) (I1.hok.fresh (aq _)),q⟩
noncomputable def zv(x:Str):List D:=x.cps.toList.map fun c=>.str ⟨#[c]⟩
theorem awj(x:Str):ad3 K as H (Its x) (zv x,none):=by
 intro as2 H2 s2 st rl so i
 have ln:(zv x).length=x.length:=by unfold zv;rw [ak,aX];rfl
 refine⟨fun hl=> by rw [ln]at hl;exact hl,fun d hd=> ?_⟩
 have hl:i < x.length:=by
  have:=(aF.mp hd).1
  rw [ln]at this;exact this
 unfold zv at hd
 rw [aV]at hd
 cases e:x.cps.toList[i]? with
 |none=> rw [e]at hd;cases hd
 |some c=>
  rw [e]at hd
  cases hd
  refine⟨hl,fun v H3 hy=> ?_⟩
  obtain⟨rfl,c',ec,rfl⟩:=hy
  rw [e]at ec
  cases ec
  exact⟨Step.refl _ _,rl,.da (.str _)⟩
def aeo(d:D)(s:S):R Wk:=match d with
 |.da (.str x)=> if x.cps.all (· < 128)=true then .ok (zv x,none) s else .bad
 |_=>.bad
def am6(f:FE):FI:=fun ρ s=> (f ρ s).bind aeo
theorem a5b(h:RE X a fa):RI X tg a (am6 fa):=by
 obtain⟨t,p,r⟩:=h.ex
 refine⟨_,azm p,fun as σ H ρ s Q rl en h=> ?_⟩
 refine r as σ H ρ s _ rl en (Dn.bind h fun d s1 as1 H1 v st1 rl1 r1 h1=> ?_)
 unfold aeo at h1
 split at h1
 ·rename_i x
  cases r1.str_inv
  split at h1
  ·rename_i hx
   exact⟨x,rfl,hx,Dn.now (Q:=Q) h1 rl1 (awj x)⟩
  ·exact h1.elim
 ·exact h1.elim
end
noncomputable def ajm(x y:Str):Bool:= !(dh x y 0 x.length 1).isEmpty
def ajo(dx dy:D)(s:S):R D:=match dx,dy with
 |.da (.str y),.da (.str x)=>.ok (.bl (ajm x y)) s
 |_,_=>.bad
theorem a0v:Op2 X (aK .In) ajo:=k7 fun pins sh σ H as s x y dx dy v u Q I rl r1 r2 rx ry h=> by
 unfold ajo at h
 split at h
 ·cases r1.str_inv;cases r2.str_inv
  obtain⟨t,rfl⟩:=rx
  obtain⟨t',rfl⟩:=ry
  exact PyProof.Rows.in_str (jn I (Dn.now (Q:=Q) h rl (.da (.bl _))) rfl)
 ·exact h.elim
theorem ajy: ∀c:Nat,c < 128 -> ajm (aA "abcdefghijklmnopqrstuvwxyz") ⟨#[c]⟩=(decide (97 <=c)&&decide (c <=122)):=by decide+kernel
section
variable{s:S}{a b:ae}{r c d:Bool}{x y:Str}{ρ:En}
theorem avk(h:ltP a b=some r)(h1:okD a=true)(h2:okD b=true):ana (.da a) (.da b) s=.ok (.bl r) s:=by
 show (match ltP a b with|some r=> if okD a=true/\okD b=true then R.ok (D.bl r) s else .bad|none=>.bad)=_
 rw [h]
 exact if_pos ⟨h1,h2⟩
theorem ao8:ajo (.str y) (.str x) s=.ok (.bl (ajm x y)) s:=(rfl)
theorem amc(h:ss.length < 4000):adl [.tup (ss.map af)] s=.ok (.int (ju ss).length) s:=by
 show (match v8 ((ss.map af).map D.da) with|some ss=> if ss.length < 4000 then R.ok (D.int (ju ss).length) s else .bad|none=>.bad)=_
 rw [show (ss.map af).map D.da=ss.map D.str by rw [aL];rfl,aau]
 exact if_pos h
theorem ale(h:x.cps.all (· < 128)=true):aeo (.str x) s=.ok (zv x,none) s:=if_pos h
theorem at6{f:FE}:am6 f ρ s=(f ρ s).bind aeo:=(rfl)
end
theorem aso(h:x.cps.all (· < 128)=true): ∀c∈x.cps.toList,ajm (aA "abcdefghijklmnopqrstuvwxyz") ⟨#[c]⟩=(decide (97 <=c)&&decide (c <=122)):=by
 intro c hc
 refine ajy c ?_
 rw [←df,aw]at h
 exact of_decide_eq_true (h c hc)
noncomputable def aaf(ds:List D)(s:S):R D:=match ds with
 |[.da (.int i)]=> if i.natAbs.log2 < 1920 then .ok (.str (toString i)) s else .bad
 |[.da (.bool b)]=>.ok (.str (if b then "True" else "False")) s
 |_=>.bad
theorem a0f:CB X (.type "str") aaf:=aa4 fun pins sh σ H as s xs ds us Q I rl rs ru h=> by
 unfold aaf at h
 split at h
 ·obtain⟨v,rfl,rv⟩:=rs.one
  cases rv.int_inv
  obtain⟨u,rfl,r9⟩:=vals1 ru
  obtain⟨t,rfl⟩:=r9
  split at h
  ·rename_i hz
   exact PySem.P.str_of_int hz (show EP X pins σ Q _ _ from ⟨.str _,H,I.tok _,⟨_,rfl⟩,Dn.now (Q:=Q) h rl (.da (.str _))⟩)
  ·exact h.elim
 ·obtain⟨v,rfl,rv⟩:=rs.one
  cases rv.bl_inv
  obtain⟨u,rfl,r9⟩:=vals1 ru
  cases r9
  exact PySem.P.str_of_bool (show EP X pins σ Q _ _ from ⟨.str _,H,I.tok _,⟨_,rfl⟩,Dn.now (Q:=Q) h rl (.da (.str _))⟩)
 ·exact h.elim
noncomputable def isStr:D -> Bool
 |.da (.str _)=> true
 |_=> false
def fMs(g:GM)(fo:FE)(fa:FA):FE:=fun ρ s=> (fo ρ s).bind fun d s1=> if isStr d=true then (fa ρ s1).bind fun ds s2=> g d ds s2 else .bad
theorem aza{d:D}(r:RD K as H v d)(h:isStr d=true):tyV K "str" v H:=by
 cases r with
 |da t=>
  cases t with
  |str x=> exact rfl
  |_=> cases h
 |_=> cases h
theorem at4{id:String}{g:GM}(h: ∀(pins:List (Addr×Obj)) (sh:ah) (σ:St) (H:Hp) (as:As) (s:S) (x:V) (xs:List V) (d:D) (ds:List D) (v:ac) (us:List ac) (Q:VK),Inv X pins σ H sh -> Rel X.K as H s -> RD X.K as H x d -> RDs X.K as H xs ds -> RelV x v -> jg xs us ->
  Dn X.K (rD X.K) as H (g d ds s) Q -> wpAny (model X.prog X.w) X.A (call (.builtin id) (v::us)) (EP X pins σ Q) X.xe sh):MB X id g:=
 ⟨fun x xs H Q=> ∃as s d ds,Rel X.K as H s/\RD X.K as H x d/\RDs X.K as H xs ds/\Dn X.K (rD X.K) as H (g d ds s) Q,fun pins sh σ H x xs v us Q I r rs ⟨as,s,d,ds,rl,r1,r2,q⟩=> h pins sh σ H as s x xs d ds v us Q I rl r1 r2 r rs q,fun as H s x xs d ds Q rl r1 r2 q=> ⟨as,s,d,ds,rl,r1,r2,q⟩⟩
theorem at9{o:Expr}{fa:FA}{name:Str}{id:String}{g:GM}{apos cpos:Pos}(slot:Slot "str" name id)(hty:typeOf (.builtin id)=pure (.type "method_descriptor"))(hm:MB X id g)(ho:RE X o fo)(ha:RA X (e::es) fa)(hbase:ff o name X.env (eval o X.env)=eval o X.env:=by rfl)(hfew:((backTo cpos (starEach (e::es) X.env)).all (fun x=> !x.1)&&(backToKw cpos (gc [] X.env)).all (fun x=> x.1.isSome)
   &&decide ((e::es).length+([]:List f6).length+(if ([]:List f6).isEmpty then 0 else 1) < 30))=true:=by rfl) (hline:(apos.endLine==cpos.line)=true:=by rfl) (hs:starEach (e::es) X.env=(false,eval e X.env)::starEach es X.env:=by rfl) (hplain:(backTo cpos (starEach es X.env)).any (·.1)=false:=by rfl):
  RE X (.Call (.Attribute o name apos) (e::es) [] cpos) (fMs g fo fa):=by
 obtain⟨r,hr,hg⟩:=hm.ex
 obtain⟨to,po,ro⟩:=ho.ex
 obtain⟨ta,pa,ra⟩:=ha.ex
 refine⟨_,at0 PySem.F.plainAttrs_str slot hty hr po pa hbase hfew hline hs hplain,fun as σ H ρ s Q rl en h=> ?_⟩
 refine ro as σ H ρ s _ rl en (Dn.bind h fun d s1 as1 H1 v st1 rl1 r1 h1=> ?_)
 split at h1
 ·rename_i hl
  refine⟨aza r1 hl,ra as1 σ H1 ρ s1 _ rl1 (en.mono st1) (Dn.bind h1 fun ds s2 as2 H2 vs st2 rl2 r2 h2=> ?_)⟩
  exact hg as2 H2 s2 v vs d ds Q rl2 (r1.mono st2) r2 h2
 ·exact h1.elim
end PF
namespace L2
open PySem PySem.Spec
open Builtin Builtin.Str
section
variable{prog:aR}{w:aT}{A:aZ}{E:ac -> ah -> Prop}{s:ah}{x y:Str}{t u:Tok}{Q:ac -> ah -> Prop}
theorem aox(hy:(y.length==0)=false)(hx:x.length <=sizeLine)(hn:(bX x y).length <=sizeLine)
  (h: ∀l k,l.map (·.1)=bX x y -> Q (.ref s.heap.objs.size) {s with toks:=k,heap:=s.heap.push {cls:=.type "list",data:=.seq (gp l).toArray}}):
  wpAny (model prog w) A (call (.builtin "str.split") [.str x t,.str y u]) Q E s:=by --
 (cases h1:(decide (x.length < y.length)||decide (strKind x < strKind y)))
 ·cases hf:(occurrences x y 0 x.length (x.length+1)).isEmpty
  ·have e:bX x y=partsBetween x (occurrences x y 0 x.length (x.length+1)) y.length:=(if_neg (ne_true_of_eq_false h1)).trans (if_neg (ne_true_of_eq_false hf))
   refine cQ gZ (dU _ _ _) gH (gq _ _) (meets_str_split_sep x y t u h1 hy hf hx (by rw [←e];exact hn)) ?_
   show wants Q E _ {s with toks:=_,heap:=s.heap.push {cls:=.type "list",data:=.seq (strsFrom s.toks (partsBetween x (occurrences x y 0 x.length (x.length+1)) y.length)).toArray}} --
   rw [strsFrom_eq]
   exact h (numbered s.toks _) _ ((numbered_texts _ _).trans e.symm)
  ·exact cQ gZ (dU _ _ _) gH (gq _ _) (meets_str_split_not_found x y t u h1 hy hf) (h [(x,t)] s.toks ((if_neg (ne_true_of_eq_false h1)).trans (if_pos hf)).symm)
 ·exact cQ gZ (dU _ _ _) gH (gq _ _) (meets_str_split_cannot_occur x y t u h1) (h [(x,t)] s.toks (if_pos h1).symm)
end
end L2
namespace PF
open PySem PySem.Spec
theorem xu{x y:ae}{xs:List ae}(hx:plD x=true)(hy:plD y=true)(h:x≠y):kn (x::xs) (y::ys)=ltP x y:=by
 rw [qu,if_neg (fun z=> h ((yz x y hx hy).mp z))]
theorem acy{x:ae}{xs:List ae}(hx:plD x=true):kn (x::xs) (x::ys)=kn xs ys:=by
 rw [qu,if_pos (aji hx)]
mutual
theorem aya: ∀a:ae,plD a=true -> ltP a a≠some true
 |.none,_=> by simp [ltP]
 |.int i,_=> by simp [ltP]
 |.str i,_=> by rw [aa8];simp [List.lt_irrefl]
 |.tuple xs,h=> by rw [vi];exact alj xs (by rw [←kb];exact h)
 |.bool _,h=> by simp [plD]at h
 |.list _,h=> by simp [plD]at h
 |.dict _,h=> by simp [plD]at h
theorem alj: ∀xs:List ae,kf xs=true -> kn xs xs≠some true
 |[],_=> by rw [qh];simp
 |x::xs,h=> by
  rw [j3,ao]at h
  rw [acy h.1]
  exact alj xs h.2
end
mutual
theorem att: ∀a b:ae,plD a=true -> plD b=true -> ltP a b=some true -> ltP b a=some false
 |.int i,b,_,hb,h=> by
  cases b <;> simp [ltP]at h⊢
  lia
 |.str i,b,_,hb,h=> by
  cases b <;> simp [ltP]at h⊢
  exact List.le_of_lt h
 |.tuple xs,.tuple ys,ha,hb,h=> by
  rw [vi]at h⊢
  exact ao3 xs ys (by rw [←kb];exact ha) (by rw [←kb];exact hb) h
 |.tuple xs,.none,_,_,h=> by simp [ltP]at h
 |.tuple xs,.int _,_,_,h=> by simp [ltP]at h
 |.tuple xs,.str _,_,_,h=> by simp [ltP]at h
 |.tuple xs,.bool _,_,hb,_=> by simp [plD]at hb
 |.tuple xs,.list _,_,hb,_=> by simp [plD]at hb
 |.tuple xs,.dict _,_,hb,_=> by simp [plD]at hb
 |.none,_,_,_,h=> by simp [ltP]at h
 |.bool _,_,ha,_,_=> by simp [plD]at ha
 |.list _,_,ha,_,_=> by simp [plD]at ha
 |.dict _,_,ha,_,_=> by simp [plD]at ha
theorem ao3: ∀xs ys:List ae,kf xs=true -> kf ys=true -> kn xs ys=some true -> kn ys xs=some false
 |[],[],_,_,h=> by rw [qh]at h;cases h
 |[],_::_,_,_,h=> by rw [kd]
 |_::_,[],_,_,h=> by rw [kd]at h;cases h
 | x::xs,y::ys,ha,hb,h=> by
  rw [j3,ao]at ha hb
  by_cases e:x=y
  ·subst e
   rw [acy ha.1]at h⊢
   exact ao3 xs ys ha.2 hb.2 h
  ·rw [xu ha.1 hb.1 e]at h
   rw [xu hb.1 ha.1 (cV e)]
   exact att x y ha.1 hb.1 h
end
theorem a0z{b:ae}(ha:plD a=true)(h:ltP a b=some true):a≠b:=fun e=> by subst e;exact aya a ha h
mutual
theorem apd: ∀a b:ae,plD a=true -> plD b=true -> ltP a b=some false -> a=b\/ltP b a=some true
 |.int i,b,_,hb,h=> by
  cases b <;> simp [ltP]at h⊢
  lia
 | .str i,b,_,hb,h=> by
  cases b with
  | str j=>
   simp [ltP]at h⊢
   rcases List.le_iff_lt_or_eq.mp h with z|z
   ·exact .inr z
   ·refine .inl ?_
    cases i;cases j
    simp at z
    simp [z]
  |_=> simp [ltP]at h
 |.tuple xs,.tuple ys,ha,hb,h=> by
  rw [vi]at h⊢
  rcases akt xs ys (by rw [←kb];exact ha) (by rw [←kb];exact hb) h with z|z
  ·exact .inl (by rw [z])
  ·exact .inr z
 |.tuple xs,.none,_,_,h=> by simp [ltP]at h
 |.tuple xs,.int _,_,_,h=> by simp [ltP]at h
 |.tuple xs,.str _,_,_,h=> by simp [ltP]at h
 |.tuple xs,.bool _,_,hb,_=> by simp [plD]at hb
 |.tuple xs,.list _,_,hb,_=> by simp [plD]at hb
 |.tuple xs,.dict _,_,hb,_=> by simp [plD]at hb
 |.none,_,_,_,h=> by simp [ltP]at h
 |.bool _,_,ha,_,_=> by simp [plD]at ha
 |.list _,_,ha,_,_=> by simp [plD]at ha
 |.dict _,_,ha,_,_=> by simp [plD]at ha
theorem akt: ∀xs ys:List ae,kf xs=true -> kf ys=true -> kn xs ys=some false -> xs=ys\/kn ys xs=some true
 |[],[],_,_,h=>.inl rfl
 |[],_::_,_,_,h=> by rw [qq]at h;cases h
 |_::_,[],_,_,h=>.inr qq
 | x::xs,y::ys,ha,hb,h=> by
  rw [j3,ao]at ha hb
  by_cases e:x=y
  ·subst e
   rw [acy ha.1]at h⊢
   rcases akt xs ys ha.2 hb.2 h with z|z
   ·exact .inl (by rw [z])
   ·exact .inr z
  ·rw [xu ha.1 hb.1 e]at h
   rw [xu hb.1 ha.1 (cV e)]
   rcases apd x y ha.1 hb.1 h with z|z
   ·exact absurd z e
   ·exact .inr z
end
mutual
theorem at3: ∀a b c:ae,plD a=true -> plD b=true -> plD c=true -> ltP a b=some true -> ltP b c=some true -> ltP a c=some true
 |.int i,b,c,_,_,_,h,k=> by
  cases b <;> simp [ltP]at h
  cases c <;> simp [ltP]at k⊢
  lia
 |.str i,b,c,_,_,_,h,k=> by
  cases b <;> simp [ltP]at h
  cases c <;> simp [ltP]at k⊢
  exact List.lt_trans h k
 |.tuple xs,.tuple ys,.tuple zs,ha,hb,hc,h,k=> by
  rw [vi]at h k⊢
  exact apm xs ys zs (by rw [←kb];exact ha) (by rw [←kb];exact hb) (by rw [←kb];exact hc) h k
 |.tuple xs,.tuple ys,.none,_,_,_,_,h=> by simp [ltP]at h
 |.tuple xs,.tuple ys,.int _,_,_,_,_,h=> by simp [ltP]at h
 |.tuple xs,.tuple ys,.str _,_,_,_,_,h=> by simp [ltP]at h
 |.tuple xs,.tuple ys,.bool _,_,_,hb,_,_=> by simp [plD]at hb
 |.tuple xs,.tuple ys,.list _,_,_,hb,_,_=> by simp [plD]at hb
 |.tuple xs,.tuple ys,.dict _,_,_,hb,_,_=> by simp [plD]at hb
 |.tuple xs,.none,_,_,_,_,h,_=> by simp [ltP]at h
 |.tuple xs,.int _,_,_,_,_,h,_=> by simp [ltP]at h
 |.tuple xs,.str _,_,_,_,_,h,_=> by simp [ltP]at h
 |.tuple xs,.bool _,_,_,hb,_,_,_=> by simp [plD]at hb
 |.tuple xs,.list _,_,_,hb,_,_,_=> by simp [plD]at hb
 |.tuple xs,.dict _,_,_,hb,_,_,_=> by simp [plD]at hb
 |.none,_,_,_,_,_,h,_=> by simp [ltP]at h
 |.bool _,_,_,ha,_,_,_,_=> by simp [plD]at ha
 |.list _,_,_,ha,_,_,_,_=> by simp [plD]at ha
 |.dict _,_,_,ha,_,_,_,_=> by simp [plD]at ha
theorem apm: ∀xs ys zs:List ae,kf xs=true -> kf ys=true -> kf zs=true -> kn xs ys=some true -> kn ys zs=some true -> kn xs zs=some true
 |[],ys,[],_,_,_,h,k=> by
  cases ys with
  |nil=> rw [qh]at h;cases h
  |cons y ys=> rw [kd]at k;cases k
 |[],_,_::_,_,_,_,_,_=> qq
 |_::_,[],_,_,_,_,h,_=> by rw [kd]at h;cases h
 |_::_,_::_,[],_,_,_,_,k=> by rw [kd]at k;cases k
 | x::xs,y::ys,z::zs,ha,hb,hc,h,k=> by
  rw [j3,ao]at ha hb hc
  by_cases e:x=y
  ·subst e
   rw [acy ha.1]at h
   by_cases e2:x=z
   ·subst e2
    rw [acy ha.1]at k⊢
    exact apm xs ys zs ha.2 hb.2 hc.2 h k
   ·rw [xu ha.1 hc.1 e2]at k⊢
    exact k
  ·rw [xu ha.1 hb.1 e]at h
   by_cases e2:y=z
   ·subst e2
    rw [xu ha.1 hb.1 e]
    exact h
   ·rw [xu hb.1 hc.1 e2]at k
    have t:=at3 x y z ha.1 hb.1 hc.1 h k
    rw [xu ha.1 hc.1 (a0z ha.1 t)]
    exact t
end
def ltb(a b:ae):Bool:=match ltP a b with
 |some true=> true
 |_=> false
theorem xm{b:ae}:ltb a b=true ↔ ltP a b=some true:=by
 unfold ltb
 split
 ·rename_i h;simp [h]
 ·rename_i h
  constructor
  ·intro z;cases z
  ·intro z;exact absurd z h
def ko(ds:List ae):Bool:=ds.all fun a=> plD a&&ds.all fun b=> (ltP a b).isSome
theorem zc(h:ko ds=true)(m:a∈ds):plD a=true:=by
 have:=aw.mp h a m
 rw [ao]at this
 exact this.1
theorem ad5(h:ko ds=true){b:ae}(m:a∈ds)(k:b∈ds): ∃r,ltP a b=some r:=by
 have:=aw.mp h a m
 rw [ao]at this
 have:=aw.mp this.2 b k
 exact gR.mp this
theorem af3(h:ko ds=true){b:ae}(m:a∈ds)(k:b∈ds)(e:ltb a b=false):a=b\/ltb b a=true:=by
 obtain⟨r,hr⟩:=ad5 h m k
 cases r with
 |true=> rw [xm.mpr hr]at e;cases e
 |false=>
  rcases apd a b (zc h m) (zc h k) hr with z|z
  ·exact .inl z
  ·exact .inr (xm.mpr z)
theorem ahr(h:ko ds=true){b:ae}(m:a∈ds)(k:b∈ds)(e:ltb a b=true):ltb b a=false:=by
 have:=att a b (zc h m) (zc h k) (xm.mp e)
 cases q:ltb b a with
 |false=> rfl
 |true=> rw [xm.mp q]at this;cases this
theorem axl(h:ko ds=true){b c:ae}(m:a∈ds)(k:b∈ds)(l:c∈ds)(e:ltb a b=true)(e2:ltb b c=true):ltb a c=true:=
 xm.mpr (at3 a b c (zc h m) (zc h k) (zc h l) (xm.mp e) (xm.mp e2))
theorem aky(h:ko ds=true){b c:ae}(m:a∈ds)(k:b∈ds)(l:c∈ds)(e:ltb a b=false)(e2:ltb b c=false):ltb a c=false:=by
 rcases af3 h m k e with rfl|z
 ·exact e2
 ·rcases af3 h k l e2 with rfl|z2
  ·exact e
  ·exact ahr h l m (axl h l k m z2 z)
abbrev zh(ds:List ae):Prop:=ds.Pairwise fun a b=> ltb b a=false
def afs(x:ae):List ae -> List ae
 |[]=> [x]
 |y::r=> if ltb y x=true then y::afs x r else x::y::r
def qj:List ae -> List ae
 |[]=> []
 |x::r=> afs x (qj r)
theorem aef(x:ae): ∀l:List ae,(afs x l).Perm (x::l)
 |[]=>.refl _
 |y::r=> by
  unfold afs
  split
  ·exact ((aef x r).cons y).trans (.swap x y r)
  ·exact .refl _
theorem xa: ∀l:List ae,(qj l).Perm l
 |[]=>.refl _
 |x::r=> (aef x _).trans ((xa r).cons x)
theorem aho{ds:List ae}(h:ko ds=true){x:ae}(hx:x∈ds): ∀l:List ae,(∀y∈l,y∈ds) -> zh l -> zh (afs x l)
 |[],_,_=> dj _ _
 | y::r,hl,hr=> by
  obtain⟨h1,h2⟩:=cu.mp hr
  have hy:=hl y az
  unfold afs
  split
  ·rename_i c
   refine cu.mpr ⟨fun z hz=> ?_,aho h hx r (fun z hz=> hl z (ay _ hz)) h2⟩
   rcases aE.mp ((aef x r).mem_iff.mp hz) with rfl|hz
   ·exact ahr h hy hx c
   ·exact h1 z hz
  ·rename_i c
   have c':ltb y x=false:=by simpa using c
   refine cu.mpr ⟨fun z hz=> ?_,hr⟩
   (rcases aE.mp hz with rfl|hz)
   ·exact c'
   ·exact aky h (hl z (ay _ hz)) hy hx (h1 z hz) c'
theorem af7{ds:List ae}(h:ko ds=true): ∀l:List ae,(∀y∈l,y∈ds) -> zh (qj l)
 |[],_=> gz.nil
 |x::r,hl=> aho h (hl x az) _ (fun y hy=> hl y (ay _ ((xa r).mem_iff.mp hy))) (af7 h r fun y hy=> hl y (ay _ hy))
theorem acp(h:ko ds=true):zh (qj ds):=af7 h ds fun _ y=> y
theorem aql{l m:List ae}(h:ko ds=true)(pl:l.Perm ds)(pm:m.Perm ds)(hl:zh l)(hm:zh m):l=m:=by
 refine List.Perm.eq_of_pairwise (le:=fun a b=> ltb b a=false) ?_ hl hm (pl.trans pm.symm)
 intro a b ha hb e1 e2
 rcases af3 h (pm.mem_iff.mp hb) (pl.mem_iff.mp ha) e1 with z|z
 ·exact z.symm
 ·rw [e2]at z;cases z
theorem apz{l:List ae}(h:ko ds=true)(pl:l.Perm ds)(hl:zh l):l=qj ds:=aql h pl (xa ds) hl (acp h)
end PF
namespace KS
open PySem PySem.W PyProof.Rows
noncomputable def run{α:Type}(lt:Nat -> Nat -> Bool):KasT α -> α
 |.ret a=> a
 |.ask i j k=> run lt (k (lt i j))
section
variable{lt:Nat -> Nat -> Bool}
theorem y8{α β:Type}(f:α -> KasT β): ∀t:KasT α,run lt (t.bind f)=run lt (f (run lt t))
 |.ret a=> rfl
 |.ask i j k=> y8 f (k (lt i j))
theorem xl{α:Type}(a:α):run lt (.ret a)=a:=rfl
theorem ab7{α:Type}(i j:Nat)(k:Bool -> KasT α):run lt (.ask i j k)=run lt (k (lt i j)):=rfl
theorem aaa{α:Type}(c:Prop)[Decidable c](a b:KasT α):run lt (if c then a else b)=if c then run lt a else run lt b:=by split <;> rfl
structure Swo (lt:Nat -> Nat -> Bool):Prop where
 tr: ∀{a b c},lt a b=false -> lt b c=false -> lt a c=false
 as: ∀{a b},lt a b=true -> lt b a=false
theorem Swo.irr(w:Swo lt)(a:Nat):lt a a=false:=by
 cases h:lt a a with
 |false=> rfl
 |true=> have:=w.as h;rw [h]at this;exact this
def Up(lt:Nat -> Nat -> Bool)(p:Array Nat)(m:Nat):Prop:= ∀k,0 < k -> k < m -> lt (p.getD k 0) (p.getD (k - 1) 0)=false
def xc(lt:Nat -> Nat -> Bool)(p:Array Nat)(m:Nat):Prop:= ∀k,0 < k -> k < m -> lt (p.getD (k - 1) 0) (p.getD k 0)=false
theorem Up.all(w:Swo lt){p:Array Nat}{m:Nat}(h:Up lt p m): ∀(d i:Nat),i+d < m -> lt (p.getD (i+d) 0) (p.getD i 0)=false
 |0,i,_=> w.irr _
 |d+1,i,hl=> by
  have a:=h (i+(d+1)) (by lia) hl
  rw [show i+(d+1) - 1=i+d by lia]at a
  exact w.tr a (Up.all w h d i (by lia))
theorem Up.le(w:Swo lt){p:Array Nat}{m:Nat}(h:Up lt p m){i j:Nat}(hij:i <=j)(hj:j < m):lt (p.getD j 0) (p.getD i 0)=false:=by
 have:=Up.all w h (j - i) i (by lia)
 rwa [show i+(j - i)=j by lia]at this
theorem xc.all(w:Swo lt){p:Array Nat}{m:Nat}(h:xc lt p m): ∀(d i:Nat),i+d < m -> lt (p.getD i 0) (p.getD (i+d) 0)=false
 |0,i,_=> w.irr _
 |d+1,i,hl=> by
  have a:=h (i+(d+1)) (by lia) hl
  rw [show i+(d+1) - 1=i+d by lia]at a
  exact w.tr (xc.all w h d i (by lia)) a
theorem xc.le(w:Swo lt){p:Array Nat}{m:Nat}(h:xc lt p m){i j:Nat}(hij:i <=j)(hj:j < m):lt (p.getD i 0) (p.getD j 0)=false:=by
 have:=xc.all w h (j - i) i (by lia)
 rwa [show i+(j - i)=j by lia]at this
theorem ai8{p:Array Nat}: ∀(f n:Nat),0 < n -> Up lt p n -> n <=run lt (eI p f n)/\run lt (eI p f n) <=n+f/\Up lt p (run lt (eI p f n))/\(run lt (eI p f n) < n+f -> lt (p.getD (run lt (eI p f n)) 0) (p.getD (run lt (eI p f n) - 1) 0)=true)
 |0,n,_,h=> by
  rw [eI,xl]
  exact⟨aq _,aq _,h,fun z=> absurd z (by lia)⟩
 | f +1,n,h0,h=> by
  rw [eI,ab7]
  cases e:lt (p.getD n 0) (p.getD (n - 1) 0) with
  |true=>
   rw [if_pos rfl,xl]
   exact⟨aq _,by lia,h,fun _=> e⟩
  | false=>
   rw [if_neg av]
   have up:Up lt p (n+1):=fun k k0 k1=> by
    by_cases z:k < n
    ·exact h k k0 z
    ·have:k=n:=by lia
     subst this;exact e
   obtain⟨a,b,c,d⟩:=ai8 f (n+1) (by lia) up
   exact⟨by lia,by lia,c,fun z=> d (by lia)⟩
theorem ae8(w:Swo lt){p:Array Nat}{k:Nat}(up:Up lt p k): ∀(f l r:Nat),l <=r -> r <=k -> r - l <=f -> (∀i,i < l -> lt (p.getD k 0) (p.getD i 0)=false) -> (∀i,r <=i -> i < k -> lt (p.getD k 0) (p.getD i 0)=true) ->
  run lt (eC p k f l r) <=k/\(∀i,i < run lt (eC p k f l r) -> lt (p.getD k 0) (p.getD i 0)=false)/\ ∀i,run lt (eC p k f l r) <=i -> i < k -> lt (p.getD k 0) (p.getD i 0)=true
 |0,l,r,hlr,hrk,hf,h1,h2=> by
  have:l=r:=by lia
  subst this
  rw [eC,xl]
  exact⟨hrk,h1,h2⟩
 | f +1,l,r,hlr,hrk,hf,h1,h2=> by
  rw [eC,aaa]
  by_cases z:l≥r
  ·rw [if_pos z,xl]
   have:l=r:=by lia
   subst this
   exact⟨hrk,h1,h2⟩
  ·rw [if_neg z,ab7]
   have m1:l <=(l+r)/2:=by lia
   have m2:(l+r)/2 < r:=by lia
   generalize (l+r)/2=m at m1 m2
   cases e:lt (p.getD k 0) (p.getD m 0) with
   | true=>
    rw [if_pos rfl]
    refine ae8 w up f l m m1 (by lia) (by lia) h1 fun i i0 i1=> ?_
    by_cases q:r <=i
    ·exact h2 i q i1
    ·cases e2:lt (p.getD k 0) (p.getD i 0) with
     |true=> rfl
     |false=>
      have:=w.tr e2 (up.le w (i:=m) (j:=i) i0 i1)
      rw [e]at this;cases this
   |false=>
    rw [if_neg av]
    refine ae8 w up f (m+1) r (by lia) hrk (by lia) (fun i i0=> ?_) h2
    exact w.tr e (up.le w (i:=i) (j:=m) (by lia) (by lia))
end
section
variable{lt:Nat -> Nat -> Bool}
theorem gd(p:Array Nat)(k:Nat):p.getD k 0=(p[k]?).getD 0:=Array.getD_eq_getD_getElem? ..
theorem alf{p:Array Nat}{d:Nat}(hk:k < p.size)(hd:d <=k)(i:Nat):(bubble p k d).getD i 0=if i=k - d then p.getD k 0 else if k - d < i/\i <=k then p.getD (i - 1) 0 else p.getD i 0:=by
 rw [gd,getElem?_bubble hk d hd]
 by_cases c1:i=k - d
 ·rw [if_pos c1,if_pos c1];exact (gd p k).symm
 ·rw [if_neg c1,if_neg c1]
  by_cases c2:k - d < i/\i <=k
  ·rw [if_pos c2,if_pos c2];exact (gd p _).symm
  ·rw [if_neg c2,if_neg c2];exact (gd p _).symm
theorem v3{p:Array Nat}{i j:Nat}(hj:j <=p.size)(k:Nat):(fB p i j).getD k 0=if i <=k/\k < j then p.getD (i+j - 1 - k) 0 else p.getD k 0:=by
 unfold fB
 rw [gd,getElem?_mirror_all hj]
 split <;> rw [gd]
theorem vn(p:Array Nat)(i j:Nat):(fB p i j).Perm p:=mirror_perm _ _ _ _
theorem ajl(p:Array Nat)(i j:Nat):(fB p i j).size=p.size:=mirror_size _ _ _ _
theorem ap7(w:Swo lt): ∀(f:Nat) (p:Array Nat) (k:Nat),k+f=p.size -> Up lt p k -> (run lt (jV f p k)).Perm p/\Up lt (run lt (jV f p k)) p.size
 |0,p,k,hs,up=> by
  rw [jV,xl]
  have:k=p.size:=by lia
  subst this
  exact⟨.refl _,up⟩
 | f +1,p,k,hs,up=> by
  rw [jV,y8]
  obtain⟨l1,l2,l3⟩:=ae8 w up k 0 k (cy _) (aq _) (by lia) (fun i h=> absurd h (Nat.not_lt_zero _)) (fun i h1 h2=> absurd h2 (by lia))
  generalize run lt (eC p k k 0 k)=l at l1 l2 l3
  have hk:k < p.size:=by lia
  have up1:Up lt (bubble p k (k - l)) (k+1):=fun i i0 i1=> by
   rw [alf hk (by lia),alf hk (by lia),show k - (k - l)=l by lia]
   by_cases c1:i < l
   ·rw [if_neg (by lia),if_neg (by lia),if_neg (by lia),if_neg (by lia)]
    exact up i i0 (by lia)
   ·by_cases c2:i=l
    ·subst c2
     rw [if_pos rfl,if_neg (by lia),if_neg (by lia)]
     exact l2 (i - 1) (by lia)
    ·by_cases c3:i=l+1
     ·subst c3
      rw [if_neg (by lia),if_pos (by lia),if_pos (by lia)]
      exact w.as (l3 _ (by lia) (by lia))
     ·rw [if_neg (by lia),if_pos (by lia),if_neg (by lia),if_pos (by lia)]
      exact up (i - 1) (by lia) (by lia)
  obtain⟨a,b⟩:=ap7 w f (bubble p k (k - l)) (k+1) (by rw [bubble_size];lia) up1
  exact⟨a.trans (bubble_perm _ _ _),by rw [bubble_size]at b;exact b⟩
def Seg(lt:Nat -> Nat -> Bool)(p:Array Nat)(n q:Nat):Prop:= ∀k,n - 1 - q < k -> k < n -> lt (p.getD k 0) (p.getD (k - 1) 0)=false
theorem aie(w:Swo lt){p:Array Nat}{q:Nat}(hn:n <=p.size)(hq:q < n)(d:xc lt p n)(s:Seg lt p n q):xc lt (fB p (n - (q+1)) n) n:=fun k k0 k1=> by
 rw [v3 hn,v3 hn]
 by_cases c1:k < n - (q+1)
 ·rw [if_neg (by lia),if_neg (by lia)]
  exact d k k0 k1
 ·by_cases c2:k=n - (q+1)
  ·rw [if_neg (by lia),if_pos (by lia)]
   exact d.le w (by lia) (by lia)
  ·rw [if_pos (by lia),if_pos (by lia)]
   have:=s (n - (q+1)+n - 1 - (k - 1)) (by lia) (by lia)
   rwa [show n - (q+1)+n - 1 - (k - 1) - 1=n - (q+1)+n - 1 - k by lia]at this
theorem azg{p:Array Nat}(hn:n <=p.size)(d:xc lt p n):Up lt (fB p 0 n) n:=fun k k0 k1=> by
 rw [v3 hn,v3 hn,if_pos (by lia),if_pos (by lia)]
 have:=d (0+n - 1 - (k - 1)) (by lia) (by lia)
 rwa [show 0+n - 1 - (k - 1) - 1=0+n - 1 - k by lia]at this
theorem ayv{p:Array Nat}(hn:n <=p.size)(d:Up lt p n):xc lt (fB p 0 n) n:=fun k k0 k1=> by
 rw [v3 hn,v3 hn,if_pos (by lia),if_pos (by lia)]
 have:=d (0+n - 1 - (k - 1)) (by lia) (by lia)
 rwa [show 0+n - 1 - (k - 1) - 1=0+n - 1 - k by lia]at this
theorem zt{p:Array Nat}(d:xc lt p n)(h:lt (p.getD (n - 1) 0) (p.getD n 0)=false):xc lt p (n+1):=fun k k0 k1=> by
 by_cases z:k < n
 ·exact d k k0 z
 ·have:k=n:=by lia
  subst this;exact h
structure DescOk (lt:Nat -> Nat -> Bool) (p:Array Nat) (n f:Nat) (r:Array Nat×Nat×Nat):Prop where
 pm:r.1.Perm p
 n1:n <=r.2.1
 n2:r.2.1 <=n+f
 q1:r.2.2 < r.2.1
 dn:xc lt r.1 r.2.1
 sg:Seg lt r.1 r.2.1 r.2.2
theorem adh(w:Swo lt): ∀(f:Nat) (p:Array Nat) (n q:Nat),n+f <=p.size -> q < n -> xc lt p n -> Seg lt p n q -> DescOk lt p n f (run lt (iU f p n q))
 |0,p,n,q,hs,hq,d,s=> by
  rw [iU,xl]
  exact⟨.refl _,aq _,aq _,hq,d,s⟩
 | f +1,p,n,q,hs,hq,d,s=> by
  rw [iU,ab7]
  cases e:lt (p.getD n 0) (p.getD (n - 1) 0) with
  | true=>
   rw [if_pos rfl,aaa]
   have sg0: ∀p:Array Nat,Seg lt p (n+1) 0:=fun p k k0 k1=> absurd k1 (by lia)
   by_cases z:q > 0
   ·rw [if_pos z]
    have hn:n <=p.size:=by lia
    have d1:xc lt (fB p (n - (q+1)) n) (n+1):=by
     refine zt (aie w hn hq d s) ?_
     rw [v3 hn,v3 hn,if_pos (by lia),if_neg (by lia),show n - (q+1)+n - 1 - (n - 1)=n - (q+1) by lia]
     exact w.tr (d.le w (i:=n - (q+1)) (j:=n - 1) (by lia) (by lia)) (w.as e)
    obtain⟨a1,a2,a3,a4,a5,a6⟩:=adh w f _ (n+1) 0 (by rw [ajl];lia) (by lia) d1 (sg0 _)
    exact⟨a1.trans (vn _ _ _),by lia,by lia,a4,a5,a6⟩
   ·rw [if_neg z]
    obtain⟨a1,a2,a3,a4,a5,a6⟩:=adh w f p (n+1) 0 (by lia) (by lia) (zt d (w.as e)) (sg0 _)
    exact⟨a1,by lia,by lia,a4,a5,a6⟩
  | false=>
   rw [if_neg av,ab7]
   cases e2:lt (p.getD (n - 1) 0) (p.getD n 0) with
   |true=>
    rw [if_pos rfl,xl]
    exact⟨.refl _,aq _,by simp,hq,d,s⟩
   | false=>
    rw [if_neg av]
    have s1:Seg lt p (n+1) (q+1):=fun k k0 k1=> by
     by_cases z:k < n
     ·exact s k (by lia) z
     ·have:k=n:=by lia
      subst this;exact e
    obtain⟨a1,a2,a3,a4,a5,a6⟩:=adh w f p (n+1) (q+1) (by lia) (by lia) (zt d e2) s1
    exact⟨a1,by lia,by lia,a4,a5,a6⟩
structure CountOk (lt:Nat -> Nat -> Bool) (p:Array Nat) (nrem:Nat) (r:Nat×Array Nat):Prop where
 pm:r.2.Perm p
 n1:1 <=r.1
 n2:r.1 <=nrem
 up:Up lt r.2 r.1
theorem ajk{p p0:Array Nat}{nrem:Nat}(h0:0 < n)(hn:n <=nrem)(hz:nrem <=p.size)(pm:p.Perm p0)(d:xc lt p n):CountOk lt p0 nrem (run lt (jP n nrem p)):=by
 unfold jP
 rw [y8,xl]
 obtain⟨a,b,c,_⟩:=ai8 (lt:=lt) (p:=fB p 0 n) (nrem - n) n h0 (azg (by lia) d)
 exact⟨(vn _ _ _).trans pm,by show 1 <=_;lia,by show _ <=nrem;lia,c⟩
theorem adw(w:Swo lt){p p0:Array Nat}{nrem:Nat}(h0:0 < n)(hn:n+1 <=nrem)(hz:nrem <=p.size)(pm:p.Perm p0)(d:xc lt p (n+1)):CountOk lt p0 nrem (run lt (jQ n nrem p)):=by
 unfold jQ
 rw [y8]
 have D:=adh w (nrem - (n+1)) p (n+1) 0 (by lia) (by lia) d (fun k k0 k1=> absurd k1 (by lia))
 generalize run lt (iU (nrem - (n+1)) p (n+1) 0)=r at D
 obtain⟨a1,a2,a3,a4,a5,a6⟩:=D
 have sz:r.1.size=p.size:=a1.size_eq
 rw [aaa]
 split
 ·exact ajk (by lia) (by lia) (by rw [ajl];lia) ((vn _ _ _).trans (a1.trans pm)) (aie w (by lia) a4 a5 a6)
 ·exact ajk (by lia) (by lia) (by lia) (a1.trans pm) a5
theorem aqk(w:Swo lt){p:Array Nat}{nrem:Nat}(h1:1 <=nrem)(hz:nrem=p.size):CountOk lt p nrem (run lt (jR nrem p)):=by
 unfold jR
 rw [y8]
 obtain⟨a,b,c,d⟩:=ai8 (lt:=lt) (p:=p) (nrem - 1) 1 (by lia) (fun k k0 k1=> absurd k1 (by lia))
 generalize run lt (eI p (nrem - 1) 1)=n at a b c d
 rw [aaa]
 split
 ·rename_i e
  exact⟨.refl _,a,by show n <=nrem;lia,c⟩
 ·rename_i e
  have hne:n≠nrem:=fun z=> e (by subst z;exact beq_self_eq_true n)
  have d':=d (by lia)
  rw [aaa]
  split
  ·rename_i h
   rw [ab7]
   cases e2:lt (p.getD 0 0) (p.getD (n - 1) 0) with
   |true=>
    rw [if_pos rfl,xl]
    exact⟨.refl _,a,by show n <=nrem;lia,c⟩
   |false=>
    rw [if_neg av]
    refine adw w (by lia) (by lia) (by rw [ajl];lia) (vn _ _ _) (zt (ayv (by lia) c) ?_)
    rw [v3 (by lia),v3 (by lia),if_pos (by lia),if_neg (by lia),show 0+n - 1 - (n - 1)=0 by lia]
    exact w.tr e2 (w.as d')
  ·rename_i h
   have:n=1:=by lia
   subst this
   exact adw w (by lia) (by lia) (by lia) (.refl _) (zt (fun k k0 k1=> absurd k1 (by lia)) (w.as d'))
theorem avg(w:Swo lt)(h1:1 <=n):(run lt (g6 n)).Perm (dH (aU n))/\Up lt (run lt (g6 n)) n:=by
 unfold g6
 rw [y8]
 have hz:n=(dH (aU n)).size:=by simp
 obtain⟨a,b,c,d⟩:=aqk w (p:=dH (aU n)) h1 hz
 generalize run lt (jR n (dH (aU n)))=r at a b c d
 have sz:r.2.size=n:=by rw [a.size_eq];exact hz.symm
 rw [aaa]
 split
 ·rw [show max r.1 1=r.1 by lia]
  obtain⟨e,f⟩:=ap7 w (n - r.1) r.2 r.1 (by lia) d
  exact⟨e.trans a,by rw [sz]at f;exact f⟩
 ·rename_i h
  have:r.1=n:=by lia
  rw [this]at d
  exact⟨a,d⟩
end
def y3{α:Type}(n:Nat):KasT α -> (α -> Prop) -> Prop
 |.ret a,P=> P a
 |.ask i j k,P=> i < n/\j < n/\ ∀b,y3 n (k b) P
section
variable{lt:Nat -> Nat -> Bool}{n:Nat}
theorem yj{α β:Type}{f:α -> KasT β}{P:α -> Prop}{P':β -> Prop}(h: ∀a,P a -> y3 n (f a) P'): ∀t:KasT α,y3 n t P -> y3 n (t.bind f) P'
 |.ret a,q=> h a q
 |.ask i j k,q=> ⟨q.1,q.2.1,fun b=> yj h (k b) (q.2.2 b)⟩
theorem ani{α:Type}{cmp:Nat -> Nat -> (Bool -> ah -> Prop) -> ah -> Prop}{s:ah}{P:α -> Prop}{Q:α -> ah -> Prop}(hc: ∀i j (C:Bool -> ah -> Prop),i < n -> j < n -> C (lt i j) s -> cmp i j C s): ∀t:KasT α,y3 n t P -> Q (run lt t) s -> t.kasWp cmp Q s
 |.ret a,_,q=> q
 |.ask i j k,a,q=> hc i j _ a.1 a.2.1 (ani hc (k (lt i j)) (a.2.2 _) q)
def All(n:Nat)(p:Array Nat):Prop:= ∀x∈p.toList,x < n
theorem All.get{p:Array Nat}(h:All n p)(h0:0 < n)(k:Nat):p.getD k 0 < n:=by
 rw [gd]
 cases e:p[k]? with
 |none=> exact h0
 |some x=> exact h x (by rw [←cW]at e;exact bf e)
theorem All.perm{p q:Array Nat}(h:All n p)(e:q.Perm p):All n q:=fun x hx=> h x ((gB.mp e).mem_iff.mp hx)
theorem aed{p:Array Nat}(h:All n p)(h0:0 < n): ∀f m:Nat,y3 n (eI p f m) fun _=> True
 |0,m=> trivial
 |f+1,m=> ⟨h.get h0 _,h.get h0 _,fun b=> by
  cases b with
  |true=> dsimp only;rw [if_pos rfl];trivial
  |false=> dsimp only;rw [if_neg av];exact aed h h0 f (m+1)⟩
theorem aax(h0:0 < n): ∀(f:Nat) (p:Array Nat) (m q:Nat),All n p -> y3 n (iU f p m q) fun r=> All n r.1
 |0,p,m,q,h=> h
 | f+1,p,m,q,h=> ⟨h.get h0 _,h.get h0 _,fun b=> by
  cases b with
  |true=>
   dsimp only;rw [if_pos rfl]
   split
   ·exact aax h0 f _ _ _ (h.perm (vn _ _ _))
   ·exact aax h0 f _ _ _ h
  | false=>
   dsimp only;rw [if_neg av]
   exact⟨h.get h0 _,h.get h0 _,fun b=> by
    cases b with
    |true=> dsimp only;rw [if_pos rfl];exact h
    |false=> dsimp only;rw [if_neg av];exact aax h0 f _ _ _ h⟩⟩
theorem aet(h0:0 < n){p:Array Nat}(h:All n p)(m r:Nat):y3 n (jP m r p) fun x=> All n x.2:=by
 unfold jP
 refine yj (P:=fun _=> True) (fun a _=> ?_) _ (aed (h.perm (vn _ _ _)) h0 _ _)
 exact h.perm (vn _ _ _)
theorem aca(h0:0 < n){p:Array Nat}(h:All n p)(m r:Nat):y3 n (jQ m r p) fun x=> All n x.2:=
 yj (fun a ha=> by
  split
  ·exact aet h0 (All.perm ha (vn _ _ _)) _ _
  ·exact aet h0 ha _ _) _ (aax h0 _ _ _ _ h)
theorem alv(h0:0 < n){p:Array Nat}(h:All n p)(r:Nat):y3 n (jR r p) fun x=> All n x.2:=
 yj (fun a _=> by
  split
  ·exact h
  ·split
   ·exact⟨h.get h0 _,h.get h0 _,fun b=> by
     cases b with
     |true=> dsimp only;rw [if_pos rfl];exact h
     |false=> dsimp only;rw [if_neg av];exact aca h0 (h.perm (vn _ _ _)) _ _⟩
   ·exact aca h0 h _ _) _ (aed h h0 _ _)
theorem abm(h0:0 < n){p:Array Nat}(h:All n p)(k:Nat): ∀f l r:Nat,y3 n (eC p k f l r) fun _=> True
 |0,l,r=> trivial
 |f+1,l,r=> by
  rw [eC]
  split
  ·trivial
  ·exact⟨h.get h0 _,h.get h0 _,fun b=> by
    cases b with
    |true=> dsimp only;rw [if_pos rfl];exact abm h0 h k f _ _
    |false=> dsimp only;rw [if_neg av];exact abm h0 h k f _ _⟩
theorem ai2(h0:0 < n): ∀(f:Nat) (p:Array Nat) (k:Nat),All n p -> y3 n (jV f p k) fun _=> True
 |0,p,k,h=> trivial
 |f+1,p,k,h=> yj (fun l _=> ai2 h0 f _ _ (h.perm (bubble_perm _ _ _))) _ (abm h0 h k _ _ _)
theorem aoi(h0:0 < n):y3 n (g6 n) fun _=> True:=
 yj (fun r hr=> by
  split
  ·exact ai2 h0 _ _ _ hr
  ·trivial) _ (alv h0 (fun x hx=> by simpa using hx) n)
end
section
variable{prog:aR}{w:aT}{A:aZ}{E:ac -> ah -> Prop}{s:ah}
theorem aqq(vs:List ac):(vs.toArray.zip vs.toArray).map (·.2)=vs.toArray:=by
 apply Array.toList_inj.mp
 rw [Array.toList_map,ksk_zip]
 show (vs.zip vs).map Prod.snd=vs
 rw [List.map_snd_zip (aq _)]
theorem am4(vs:List ac):(aU vs.length).map (fun i=> vs.getD i aQ)=vs:=by
 apply eO
 intro i
 rw [aV]
 by_cases h:i < vs.length
 ·rw [fX h,ax h]
  simp [h]
 ·rw [cw.mpr (by simpa using h),cw.mpr (by simpa using h)];rfl
theorem arz{a:Addr}{vs:List ac}{lt:Nat -> Nat -> Bool}{P:cc -> ah -> Prop}(ho:s.heap.get? a=some (seqObj "list" vs.toArray n))(h64:vs.length < 64)(wo:Swo lt)(hk:2 <=vs.length -> ∀s':ah,(∀b o,b≠a -> s.heap.get? b=some o -> s'.heap.get? b=some o) ->
   wpAny (model prog w) A (keyKind' vs.toArray) (fun κ s''=> s''=s'/\ ∀(i j:Nat) (C:Bool -> ah -> Prop),i < vs.length -> j < vs.length -> C (lt i j) s' -> wpAny (model prog w) A (keyLt' κ (vs.getD i aQ) (vs.getD j aQ)) C (fun _ _=> False) s') (fun _ _=> False) s') (h: ∀p:List Nat,p.Perm (aU vs.length) -> p.Pairwise (fun i j=> lt j i=false) -> P (.done (.ret .none)) {s with heap:=sortedHeap s.heap a vs (p.map fun i=> vs.getD i aQ).toArray}):
  wpAny (model prog w) A (cf.«list.sort» ⟨[.ref a],[]⟩) P E s:=by --
 rw [list_sort_plain]
 (have ha:a < s.heap.objs.size:=aB ho)
 (refine aa (listItems_at ho rfl ?_))
 (refine aa (i9 ho rfl ?_ (by rw [au,cO];lia) (cy _)))
 obtain⟨e1,ho1⟩: ∃e1,(s.heap.update a (bD fun _=> (#[]:Array ac))).get? a=some (seqObj "list" #[] e1):=⟨_,get?_update_seq ho (fun _=> #[])⟩
 (refine aa (jY ho1 rfl ?_))
 (refine aa (f8 ?_ (by show vs.length <=_;rw [cO];lia)))
 (refine aa (wpAny_newList ?_ (cy _)))
 (refine aW ?_)
 generalize hh:((s.heap.update a (bD fun _=> (#[]:Array ac))).push (seqObj "tuple" vs.toArray 0)).push (seqObj "list" #[] 0)=h6
 have ho6:h6.get? a=some (seqObj "list" #[] e1):=by
  rw [←hh,cI _ _ _ (by rw [size_push',cN];exact aM (cY ha)),cI _ _ _ (by rw [cN];exact aM ha)]
  exact ho1
 have kp: ∀b o,b≠a -> s.heap.get? b=some o -> h6.get? b=some o:=fun b o hb e=> by
  have hlt:b < s.heap.objs.size:=aB e
  rw [←hh,cI _ _ _ (by rw [size_push',cN];exact aM (cY hlt)),cI _ _ _ (by rw [cN];exact aM hlt),Heap.get?_update_ne _ _ _ _ hb]
  exact e
 show wpAny (model prog w) A _ P E {s with heap:=h6}
 have hz: ∀out:Array ac,sortedHeap s.heap a vs out=h6.update a (bD fun _=> out):=fun out=> by rw [←hh];rfl
 dsimp only
 by_cases h2:vs.toArray.size < 2 --
 ·rw [if_pos h2,if_pos h2]
  refine aa (aj ?_)
  rw [StateT.run_pure]
  refine aa (aj ?_)
  dsimp only
  (refine aa (jY ho6 rfl ?_))
  have e0:(arrOf (SortSt.mk' general' (vs.toArray.zip vs.toArray) #[] 7 none)).map (·.2)=vs.toArray:=aqq vs
  rw [e0]
  refine aa (i9 ho6 rfl ?_ (cy _) (by rw [au,cO];lia))
  (simp only [bne_self_eq_false,bP,if_false])
  have t:=h (aU vs.length) (List.Perm.refl _) (by
   rw [au]at h2
   match hv:vs.length with
   |0=> simp
   |1=> simp
   |k+2=> lia)
  rw [am4,hz]at t
  exact aj t
 ·rw [if_neg h2,if_neg h2]
  have h2':2 <=vs.length:=by rw [au]at h2;lia
  refine aa (cC (hk h2' {s with heap:=h6} kp) ?_ fun _ _ x=> x.elim)
  rintro κ _ ⟨rfl,ask⟩
  have hw:(g6 vs.length).kasWp (kas_ask prog w A κ vs) (fun p s'=> s'={s with heap:=h6}/\p.Perm (dH (aU vs.length))/\Up lt p vs.length) {s with heap:=h6}:=
   ani (lt:=lt) (n:=vs.length) (fun i j C hi hj hC=> ask i j C hi hj hC) (g6 vs.length) (aoi (by lia)) ⟨rfl,avg wo (by lia)⟩
  refine aa (cC (kat_run (Q:=fun st' s'=> ∃p:Array Nat,p.size=vs.length/\arrOf st'=p.map (kas_item (vs.toArray.zip vs.toArray))/\failedOf st'=none/\s'={s with heap:=h6}/\p.Perm (dH (aU vs.length))/\Up lt p vs.length)
   rfl h2' h64 (fun p' st' s' a1 a2 a3 a4=> ⟨p',a1,a2,a3,a4⟩) hw) ?_ fun _ _ e=> e)
  rintro⟨⟨⟩,st'⟩ s' ⟨p,hp,har,hf,rfl,pm,up⟩
  dsimp only
  have hout:=kat_snds rfl har
  rw [hout]
  (refine aa (jY ho6 rfl ?_))
  have hsz:(dH (p.toList.map fun i=> vs.getD i aQ)).size <=sizeLine:=by rw [au,ak,aX,hp,cO];lia
  refine aa (i9 ho6 rfl ?_ (cy _) (Nat.le_succ_of_le hsz))
  rw [hf]
  (simp only [bne_self_eq_false,bP,if_false])
  have t:=h p.toList (by have:=gB.mp pm;simpa using this) (by
   (rw [gM])
   intro i j hi hj hij
   rw [aX]at hi hj
   have u:=Up.le wo up (gQ hij) (by lia)
   simpa [Array.getD,hi,hj] using u)
  rw [hz]at t
  exact aj t
end
end KS
namespace PF
open PySem PySem.Spec PySem.W PyProof.Rows
open PySem.SeqAt
noncomputable def tyD:ae -> String
 |.none=> "NoneType"
 |.bool _=> "bool"
 |.int _=> "int"
 |.str _=> "str"
 |.list _=> "list"
 |.tuple _=> "tuple"
 |.dict _=> "dict"
section
variable{prog:aR}{w:aT}{A:aZ}{E:ac -> ah -> Prop}{s:ah}
theorem anl{v:ac}{bs:List Addr}(h:cj s.heap v d bs):s.TypeIs v (tyD d):=by
 cases h with
 |none=> exact gb s
 |bool b=> exact PySem.typeIs_bool s b
 |int i t=> exact typeIs_int s i t
 |str x t=> exact dU s x t
 |list h1 h2 h3 h4=> exact⟨_,h1,h2⟩
 |tuple h1 h2 h3 h4=> exact⟨_,h1,h2⟩
 |dict h1 h2 h3 h4 h5=> exact⟨_,h1,h2⟩
theorem ah2{x y:ac}{Q:Bool -> ah -> Prop}(h:afz A s x y b)(q:Q b s):wpAny (model prog w) A (oneLt' false x y) Q E s:=
 kat_one x y (h prog w E _ (show PySem.W.BoolBack Q (.bool b) s from q))
theorem asi{b:Addr}{us ws:Array ac}{r:Bool}{Q:Bool -> ah -> Prop}(hl:s.heap.IsTuple l us)(hb:s.heap.IsTuple b ws)(hu:A.units < cLine)(lx:LexAt A.in1 s (decide (us.size < ws.size)) (us.toList.zip ws.toList) r)(q:Q r s):wpAny (model prog w) A (oneLt' true (.ref l) (.ref b)) Q E s:=by
 obtain⟨⟨c1,d1,e1,s1⟩,o1,k1,n1,q1⟩:=id hl
 obtain⟨⟨c2,d2,e2,s2⟩,o2,k2,n2,q2⟩:=id hb
 simp only at k1 q1 k2 q2
 subst k1 q1 k2 q2
 rw [oneLt'_eq]
 simp only [if_true]
 (refine aa (wpAny_cRoomFor hu ?_))
 refine aa (wpAny_callSpecialIfBound?_slot (T:="tuple") (id:="tuple.__lt__") ⟨_,o1,rfl⟩ ik ?_)
 refine cQ ik ⟨_,o1,rfl⟩ F.entry_tuple_lt (F.args_tuple_lt_2 _ _) (apj l b us ws n1 n2 d1 d2 s1 s2 r) ⟨o1,o2,lx,?_⟩
 show wpAny (model prog w) A (truthOfDropped (.bool r)>>=fun x=> pure x) Q E s
 exact aa (bK (aj q))
theorem ac3: ∀{vs:List ac} {ds:List ae} {bs:List Addr} {Q:List ac -> ah -> Prop},bQ s.heap vs ds bs -> Q (ds.map fun d=> bd (tyD d)) s -> wpAny (model prog w) A (vs.mapM typeOf) Q E s
 |_,_,_,_,.nil,h=> by rw [List.mapM_nil];exact aj h
 |_,_,_,_,.cons r rs,h=> by
  rw [List.mapM_cons]
  exact aa (dF (anl r) (aa (ac3 rs (aj h))))
inductive Fsts (h:Heap):List ae -> List (Option ac) -> Prop
 |nil:Fsts h [] []
 |no {ds:List ae} {fs:List (Option ac)}:Fsts h ds fs -> Fsts h (.tuple []::ds) (none::fs)
 |yes {ds xs:List ae} {x:ae} {u:ac} {bs:List Addr} {fs:List (Option ac)}:cj h u x bs -> Fsts h ds fs -> Fsts h (.tuple (x::xs)::ds) (some u::fs)
theorem agl: ∀{vs:List ac} {ds:List ae} {bs:List Addr},bQ s.heap vs ds bs -> (∀d∈ds,∃xs,d=.tuple xs) -> ∃fs,Fsts s.heap ds fs/\ ∀{Q:List (Option ac) -> ah -> Prop},Q fs s -> wpAny (model prog w) A (vs.mapM firstOfTuple') Q E s
 |_,_,_,.nil,_=> ⟨[],.nil,fun h=> by rw [List.mapM_nil];exact aj h⟩
 | _, _,_,.cons (v:=v) r rs,ht=> by
  obtain⟨fs,F,k⟩:=agl rs fun d hd=> ht d (ay _ hd)
  obtain⟨xs,e⟩:=ht _ az
  subst e
  cases r with
  | @tuple a o us n _ _ h1 h2 h3 h4=>
   have go: ∀f:Option ac,us[0]?=f -> ∀{Q:List (Option ac) -> ah -> Prop},Q (f::fs) s -> wpAny (model prog w) A ((a8 a::_).mapM firstOfTuple') Q E s:=fun f hf Q h=> by
    rw [List.mapM_cons,kas_first_eq]
    refine aa (aa (dF (T:="tuple") ⟨_,h1,h2⟩ ?_))
    rw [if_neg (by simp)]
    refine aa (listItems_at h1 h3 (aj ?_))
    rw [hf]
    exact aa (k (aj h))
   cases xs with
   | nil=>
    have:us[0]?=none:=by
     have e:us.toList=[]:=by cases h5:us.toList with
      |nil=> rfl
      |cons a b=> rw [h5]at h4;cases h4
     rw [←cW,e];rfl
    exact⟨_,.no F,go _ this⟩
   | cons x xs=>
    cases h5:us.toList with
    |nil=> rw [h5]at h4;cases h4
    |cons u t=>
     rw [h5]at h4
     cases h4 with
     |cons r1 r2=> exact⟨_,.yes r1 F,go _ (by rw [←cW,h5];rfl)⟩
theorem ajp: ∀{ds:List ae} {fs:List (Option ac)},Fsts s.heap ds fs -> fs.all (·.isSome)=true -> ∃xs us bs,fs=us.map some/\bQ s.heap us xs bs/\xs.length=ds.length/\ ∀(i:Nat) (d:ae),ds[i]?=some d -> ∃x r,xs[i]?=some x/\d=.tuple (x::r)
 |_,_,.nil,_=> ⟨[],[],_,rfl,.nil,rfl,fun i d e=> by simp at e⟩
 |_,_,.no F,h=> by simp at h
 |_,_,.yes r F,h=> by
  obtain⟨xs,us,bs,e,ra,hl,k⟩:=ajp F (by simpa using h)
  refine⟨_::xs,_::us,_,by rw [e];rfl,.cons r ra,by simp [hl],fun i d e=> ?_⟩
  cases i with
  |zero=> simp at e;subst e;exact⟨_,_,rfl,rfl⟩
  |succ i=> simpa using k i d (by simpa using e)
def atn(ds:List ae)(κ:iV):Prop:=κ=general'\/κ=oneType'\/ ∃b,κ=tuples' b/\(b=true -> ∃T:String,T≠"tuple"/\ ∀d∈ds,∃x r,d=.tuple (x::r)/\tyD x=T)
theorem asj{vs:List ac}{bs:List Addr}(ra:bQ s.heap vs ds bs)(ht: ∀d∈ds,∃xs,d=.tuple xs)(hn:ds≠ []): ∃κ,atn ds κ/\ ∀{Q:iV -> ah -> Prop},Q κ s -> wpAny (model prog w) A (keyKind' vs.toArray) Q E s:=by
 obtain⟨fs,F,k⟩:=agl (prog:=prog) (w:=w) (A:=A) (E:=E) ra ht
 have hk: ∀{Q:iV -> ah -> Prop},wpAny (model prog w) A (do
   if fs.toArray.all (·.isSome) then
    rule "list.sort.keys-are-tuples" --
    return tuples' ((←oneTypeOnly' (fs.toArray.filterMap id)).any (· !=.type "tuple"))
   if (fs.toArray[0]?.bind id).isSome then return general'
   return if (←oneTypeOnly' vs.toArray).isSome then oneType' else general') Q E s -> wpAny (model prog w) A (keyKind' vs.toArray) Q E s:=fun {Q} h=> by
  (rw [keyKind'_eq,eP,map_eq_pure_bind])
  exact aa (aa (k (aj h)))
 by_cases ha:fs.all (·.isSome)=true
 ·obtain⟨xs,us,cs,e,ru,hl,kk⟩:=ajp F ha
  have e1:fs.toArray.all (·.isSome)=true:=by simpa using ha
  have e2:fs.toArray.filterMap id=us.toArray:=by rw [e];simp
  obtain⟨x0,xr,hx⟩: ∃x0 xr,xs=x0::xr:=by
   cases xs with
   |nil=> rw [ej]at hl;exact absurd (List.length_eq_zero_iff.mp hl.symm) hn
   |cons a b=> exact⟨a,b,rfl⟩
  by_cases hT:xs.all (fun x=> decide (tyD x=tyD x0))=true
  ·refine⟨tuples' (bd (tyD x0) !=bd "tuple"),.inr (.inr ⟨_,rfl,fun hb=> ⟨tyD x0,fun z=> ?_,fun d hd=> ?_⟩⟩),fun {Q} h=> hk ?_⟩
   ·rw [z]at hb;simp at hb
   ·obtain⟨i,hi⟩:=fA.mp hd
    obtain⟨x,r,h1,h2⟩:=kk i d hi
    exact⟨x,r,h2,of_decide_eq_true (aw.mp hT x (bf h1))⟩
   ·rw [if_pos e1,e2]
    refine aa (ck ?_)
    (rw [oneTypeOnly'_eq,eP,map_eq_pure_bind])
    refine aa (aa (aa (ac3 ru (aj ?_))))
    rw [hx]
    have h0:(dX (fun d=> bd (tyD d)) (x0::xr)).toArray[0]?=some (bd (tyD x0)):=by simp
    have hall:((dX (fun d=> bd (tyD d)) (x0::xr)).toArray.all fun x=> x==bd (tyD x0))=true:=by
     (simp only [g9,cF,aw])
     intro y hy
     have:=of_decide_eq_true (aw.mp hT y (by rw [hx];exact hy))
     simp [this]
    rw [h0]
    simp only [hall,if_true]
    (exact aj (aj h))
  ·refine⟨tuples' false,.inr (.inr ⟨_,rfl,fun hb=> by cases hb⟩),fun {Q} h=> hk ?_⟩
   rw [if_pos e1,e2]
   refine aa (ck ?_)
   (rw [oneTypeOnly'_eq,eP,map_eq_pure_bind])
   refine aa (aa (aa (ac3 ru (aj ?_))))
   rw [hx]
   have h0:(dX (fun d=> bd (tyD d)) (x0::xr)).toArray[0]?=some (bd (tyD x0)):=by simp
   have hall:((dX (fun d=> bd (tyD d)) (x0::xr)).toArray.all fun x=> x==bd (tyD x0))=false:=by
    rw [←hx]
    rw [dW,gI]at hT
    obtain⟨y,hy,hne⟩:=hT
    simp only [g9,cF,gI]
    refine⟨y,hy,?_⟩
    simpa using hne
   rw [h0]
   simp only [hall,bP,if_false]
   (exact aj (aj h))
 ·have e1: ¬fs.toArray.all (·.isSome)=true:=by simpa using ha
  by_cases hf:(fs.toArray[0]?.bind id).isSome=true
  ·exact⟨general',.inl rfl,fun {Q} h=> hk (by rw [if_neg e1,if_pos hf];exact aj h)⟩
  ·refine⟨oneType',.inr (.inl rfl),fun {Q} h=> hk ?_⟩
   rw [if_neg e1,if_neg hf,oneTypeOnly'_eq,eP,map_eq_pure_bind]
   refine aa (aa (aa (ac3 ra (aj ?_))))
   obtain⟨d0,dr,rfl⟩: ∃d0 dr,ds=d0::dr:=by
    cases ds with
    |nil=> exact absurd rfl hn
    |cons a b=> exact⟨a,b,rfl⟩
   have h0:(dX (fun d=> bd (tyD d)) (d0::dr)).toArray[0]?=some (bd (tyD d0)):=by simp
   have hall:((dX (fun d=> bd (tyD d)) (d0::dr)).toArray.all fun x=> x==bd (tyD d0))=true:=by
    (simp only [g9,cF,aw])
    intro y hy
    obtain⟨z,rfl⟩:=ht y hy
    obtain⟨z0,rfl⟩:=ht d0 az
    simp [tyD]
   rw [h0]
   simp only [hall,if_true]
   (exact aj (aj h))
def a2i(b:Bool)(i:Nat)(xs ys:List ae):Prop:=b=true -> i=0 -> ∀x y xr yr,xs=x::xr -> ys=y::yr -> ltP x y≠none -> aI x y=false -> (∃i j,x=.int i/\y=.int j)\/ ∃i j,x=.str i/\y=.str j
theorem agx{b:Bool}: ∀(xs ys:List ae) (vs ws:List ac) (as bs:List Addr) (i:Nat) (r:Bool) (Q:Bool -> ah -> Prop),bQ s.heap vs xs as -> bQ s.heap ws ys bs -> aO xs=true -> aO ys=true -> A.units+min (bM xs) (bM ys) < cLine -> kn xs ys=some r -> a2i b i xs ys -> Q r s ->
  KatLex prog w A b (decide (vs.length < ws.length)) Q (vs.zip ws) i s
 |[],[],_,_,_,_,i,r,Q,ra,rb,_,_,_,h,_,q=> by
  cases ra;cases rb
  rw [qh]at h
  cases h
  exact kat_nil q
 |[],_::_,_,_,_,_,i,r,Q,ra,rb,_,_,_,h,_,q=> by
  cases ra;cases rb
  rw [qq]at h
  cases h
  exact kat_nil (by simpa using q)
 |_::_,[],_,_,_,_,i,r,Q,ra,rb,_,_,_,h,_,q=> by
  cases ra;cases rb
  rw [kd]at h
  cases h
  exact kat_nil (by simpa using q)
 | x ::xs,y::ys,_,_,_,_,i,r,Q,ra,rb,ha,hb,hu,h,f2,q=> by
  have ha':x.canLay0=true/\aO xs=true:=by simpa [aO] using ha
  have hb':y.canLay0=true/\aO ys=true:=by simpa [aO] using hb
  rw [qu]at h
  cases ra with
  | cons r1 rs=>
   cases rb with
   | cons r2 rs2=>
    have e:=iO x y A s _ _ _ _ r1 r2 ha'.1 hb'.1 (gn hu)
    rw [cU,aD,aD]
    refine kat_cons (e prog w _ _ ?_)
    by_cases c:aI x y=true
    ·rw [if_pos c]at h
     rw [c]
     have t:=agx (b:=b) xs ys _ _ _ _ (i+1) r Q rs rs2 ha'.2 hb'.2 (room_tail hu) h (fun _ z=> by lia) q
     refine kat_yes ?_
     simpa using t
    ·rw [if_neg c]at h
     rw [dW]at c
     rw [c]
     refine kat_no ?_
     by_cases z:(b&&i==0)=true
     ·rw [z]
      rw [ao]at z
      rcases f2 z.1 (by simpa using z.2) x y xs ys rfl rfl (by rw [h];simp) c with ⟨p,p',rfl,rfl⟩|⟨p,p',rfl,rfl⟩
      ·rw [aac]at h
       cases h
       cases r1;cases r2
       exact oneLt_int q
      ·rw [aa8]at h
       cases h
       cases r1;cases r2
       exact oneLt_str q
     ·rw [dW]at z
      rw [z]
      exact ah2 (aa2 x y A s _ _ _ _ r r1 r2 ha'.1 hb'.1 (gn hu) h) q
theorem avi{κ:iV}(hκ:atn ds κ){xs:List ae}{v u:ac}{as bs:List Addr}{r:Bool}{Q:Bool -> ah -> Prop}(mx:bV xs∈ds)(my:bV ys∈ds)(ra:cj s.heap v (.tuple xs) as)(rb:cj s.heap u (.tuple ys) bs)(hx:(bV xs).canLay0=true)(hy:(bV ys).canLay0=true)(hu:A.units+66 < cLine)(dx:(bV xs).depth <=64)(h:ltP (.tuple xs) (.tuple ys)=some r)(q:Q r s):wpAny (model prog w) A (keyLt' κ v u) Q E s:=by
 have hu':A.units+min (bV xs).depth (bV ys).depth < cLine:=by lia
 rcases hκ with rfl|rfl|⟨b,rfl,hb⟩
 ·exact ah2 (aa2 _ _ A s _ _ _ _ r ra rb hx hy hu' h) q
 ·rw [keyLt'_oneType]
  cases ra with
  | tuple h1 h2 h3 h4=>
   cases rb with
   |tuple k1 k2 k3 k4=>
    rw [vi]at h
    refine asi ⟨_,h1,h2,_,h3⟩ ⟨_,k1,k2,_,k3⟩ (room_here hu') ?_ q
    have t:=ab2 xs ys A.in1 s _ _ _ _ r h4 k4 hx hy (room_in hu') h
    simpa using t
 ·cases ra with
  | tuple h1 h2 h3 h4=>
   cases rb with
   | tuple k1 k2 k3 k4=>
    rw [vi]at h
    refine kat_lt h1 h3 k1 k3 ?_
    have hd:bM xs < (bV xs).depth:=by simp only [cR];lia
    have t:=agx (prog:=prog) (w:=w) (A:=A) (b:=b) xs ys _ _ _ _ 0 r Q h4 k4 hx hy (by lia) h (fun hb' _ x y xr yr e1 e2 hn ne=> ?_) q
    ·simpa using t
    ·obtain⟨T,hT,al⟩:=hb hb'
     obtain⟨x',r',e3,t3⟩:=al _ mx
     obtain⟨y',r'',e4,t4⟩:=al _ my
     rw [e1]at e3
     rw [e2]at e4
     cases e3;cases e4
     cases x <;> cases y <;> simp [ltP,tyD]at hn t3 t4⊢
     all_goals (subst t3;simp at hT t4)
end
def ltN(ds:List ae)(i j:Nat):Bool:=match ds[i]?,ds[j]? with
 |some a,some b=> ltb a b
 |some _,none=> true
 |none,_=> false
theorem aw6(h:ko ds=true):KS.Swo (ltN ds) where
 tr {a b c} h1 h2:=by
  unfold ltN at h1 h2⊢
  cases ha:ds[a]? with
  |none=> rfl
  | some x=>
   rw [ha]at h1
   cases hb:ds[b]? with
   |none=> rw [hb]at h1;cases h1
   | some y=>
    rw [hb]at h1 h2
    cases hc:ds[c]? with
    |none=> rw [hc]at h2;cases h2
    |some z=>
     rw [hc]at h2
     exact aky h (bf ha) (bf hb) (bf hc) h1 h2
 as {a b} h1:=by
  unfold ltN at h1⊢
  cases ha:ds[a]? with
  |none=> rw [ha]at h1;cases h1
  | some x=>
   rw [ha]at h1
   cases hb:ds[b]? with
   |none=> rfl
   |some y=>
    rw [hb]at h1
    exact ahr h (bf ha) (bf hb) h1
section
variable{prog:aR}{w:aT}{A:aZ}{E:ac -> ah -> Prop}{s:ah}
theorem ab0{h:Heap}: ∀{vs:List ac} {ds:List ae} {bs:List Addr} {i:Nat},bQ h vs ds bs -> i < ds.length -> ∃d cs,ds[i]?=some d/\cj h (vs.getD i aQ) d cs
 |_,_,_,_,.nil,hi=> by simp at hi
 |_,_,_,0,.cons r rs,_=> ⟨_,_,rfl,r⟩
 |_,_,_,i+1,.cons r rs,hi=> by
  obtain⟨d,cs,e,q⟩:=ab0 (i:=i) rs (by simpa using hi)
  exact⟨d,cs,by simpa using e,by simpa using q⟩
theorem axb{vs:List ac}{bs:List Addr}(ra:bQ s.heap vs ds bs)(hc:ko ds=true)(hok:ds.all okD=true)(h2:2 <=vs.length)(hu:A.units+66 < cLine):
  wpAny (model prog w) A (keyKind' vs.toArray) (fun κ s''=> s''=s/\ ∀(i j:Nat) (C:Bool -> ah -> Prop),i < vs.length -> j < vs.length -> C (ltN ds i j) s -> wpAny (model prog w) A (keyLt' κ (vs.getD i aQ) (vs.getD j aQ)) C (fun _ _=> False) s) (fun _ _=> False) s:=by
 have hl:vs.length=ds.length:=ReadsAll.length ds vs bs ra
 have ask: ∀(κ:iV),(∀(x y:ae) (v u:ac) (as cs:List Addr) (r:Bool) (C:Bool -> ah -> Prop),x∈ds -> y∈ds -> cj s.heap v x as -> cj s.heap u y cs -> ltP x y=some r -> C r s -> wpAny (model prog w) A (keyLt' κ v u) C (fun _ _=> False) s) ->
   s=s/\ ∀(i j:Nat) (C:Bool -> ah -> Prop),i < vs.length -> j < vs.length -> C (ltN ds i j) s -> wpAny (model prog w) A (keyLt' κ (vs.getD i aQ) (vs.getD j aQ)) C (fun _ _=> False) s:=fun κ k=> by
  refine⟨rfl,fun i j C hi hj hC=> ?_⟩
  obtain⟨x,as,ex,rx⟩:=ab0 (i:=i) ra (by lia)
  obtain⟨y,cs,ey,ry⟩:=ab0 (i:=j) ra (by lia)
  have mx:=bf ex
  have my:=bf ey
  obtain⟨r,hr⟩:=ad5 hc mx my
  refine k x y _ _ as cs r C mx my rx ry hr ?_
  have:ltN ds i j=r:=by
   unfold ltN
   rw [ex,ey]
   show ltb x y=r
   unfold ltb
   rw [hr]
   cases r <;> rfl
  rw [←this];exact hC
 obtain⟨d0,dr,hd⟩: ∃d0 dr,ds=d0::dr:=by
  cases ds with
  |nil=> rw [ej]at hl;lia
  |cons a b=> exact⟨a,b,rfl⟩
 have m0:d0∈ds:=by rw [hd];exact az
 have cmp0: ∀d∈ds,∃r,ltP d0 d=some r:=fun d hm=> ad5 hc m0 hm
 have lay: ∀d∈ds,d.canLay0=true/\d.depth <=64:=fun d hm=> by
  have:=aw.mp hok d hm
  unfold okD at this
  rw [ao,decide_eq_true_eq]at this
  exact this
 have typ: ∀v∈vs,∃d cs,d∈ds/\cj s.heap v d cs:=fun v hv=> by
  obtain⟨i,hi⟩:=fA.mp hv
  have hil:=(aF.mp hi).1
  obtain⟨x,as,ex,rx⟩:=ab0 (i:=i) ra (by lia)
  have:vs.getD i aQ=v:=by simp [hi]
  rw [this]at rx
  exact⟨x,as,bf ex,rx⟩
 cases d0 with
 | int i0=>
  have ai: ∀d∈ds,∃i,d=.int i:=fun d hm=> by
   obtain⟨r,hr⟩:=cmp0 d hm
   cases d <;> simp [ltP]at hr
   exact⟨_,rfl⟩
  refine kas_kind (T:=.type "int") h2 (fun v hv=> ?_) (by decide) (by decide) (ask oneType' fun x y v u as cs r C mx my rx ry hr hC=> ?_)
  ·obtain⟨d,cs,hm,rd⟩:=typ v hv
   obtain⟨i,rfl⟩:=ai d hm
   cases rd
   exact Looks.of_pure rfl
  ·obtain⟨i,rfl⟩:=ai x mx
   obtain⟨j,rfl⟩:=ai y my
   rw [aac]at hr
   cases hr
   cases rx;cases ry
   exact kat_lt_int hC
 | str i0=>
  have ai: ∀d∈ds,∃i,d=.str i:=fun d hm=> by
   obtain⟨r,hr⟩:=cmp0 d hm
   cases d <;> simp [ltP]at hr
   exact⟨_,rfl⟩
  refine kas_kind (T:=.type "str") h2 (fun v hv=> ?_) (by decide) (by decide) (ask oneType' fun x y v u as cs r C mx my rx ry hr hC=> ?_)
  ·obtain⟨d,cs,hm,rd⟩:=typ v hv
   obtain⟨i,rfl⟩:=ai d hm
   cases rd
   exact Looks.of_pure rfl
  ·obtain⟨i,rfl⟩:=ai x mx
   obtain⟨j,rfl⟩:=ai y my
   rw [aa8]at hr
   cases hr
   cases rx;cases ry
   exact kas_lt_str hC
 | tuple t0=>
  have ai: ∀d∈ds,∃i,d=.tuple i:=fun d hm=> by
   obtain⟨r,hr⟩:=cmp0 d hm
   cases d <;> simp [ltP]at hr
   exact⟨_,rfl⟩
  obtain⟨κ,hκ,k⟩:=asj (prog:=prog) (w:=w) (A:=A) (E:=fun _ _=> False) ra ai (by rw [hd];simp)
  refine k (ask κ fun x y v u as cs r C mx my rx ry hr hC=> ?_)
  obtain⟨i,rfl⟩:=ai x mx
  obtain⟨j,rfl⟩:=ai y my
  exact avi hκ mx my rx ry (lay _ mx).1 (lay _ my).1 hu (lay _ mx).2 hr hC
 |none=> obtain⟨r,hr⟩:=cmp0 _ m0;simp [ltP]at hr
 |bool _=> obtain⟨r,hr⟩:=cmp0 _ m0;simp [ltP]at hr
 |list _=> obtain⟨r,hr⟩:=cmp0 _ m0;simp [ltP]at hr
 |dict _=> obtain⟨r,hr⟩:=cmp0 _ m0;simp [ltP]at hr
theorem an7{r:Addr}(h64:ds.length < 64)(hc:ko ds=true)(hok:ds.all okD=true)(hu:A.units+70 < cLine)(coll: ∀(R:List ac -> ah -> Prop),(∀h' d' tk (vs:List ac) (bs:List Addr),bQ h' vs ds bs -> (∀b u,s.heap.get? b=some u -> h'.get? b=some u) ->
    (∀(h1 h2:Heap) (d2:Drawn) (tk2 e:Nat) (p:List Nat),p.Perm (aU vs.length) -> (p.map fun i=> ds.getD i .none)=qj ds -> (∀b u,s.heap.get? b=some u -> h1.get? b=some u) -> (∀b u,h'.get? b=some u -> h1.get? b=some u) -> h2.get? h1.objs.size=some (seqObj "list" (p.map fun i=> vs.getD i aQ).toArray e) -> (∀b u,h1.get? b=some u -> h2.get? b=some u) ->
     Q (.ref h1.objs.size) {s with heap:=h2,drawn:=d2,toks:=tk2}) -> R vs {s with heap:=h',drawn:=d',toks:=tk}) -> wpAny (model prog w) A.in1 (collect (.ref r)) R E s):
  wpAny (model prog w) A (call (.builtin "sorted") [.ref r]) Q E s:=by --
 refine Calls.call_function_entry kind_sorted plain_sorted entry_sorted (args_sorted1 _) ?_;unfold cf.«sorted»
 refine aa (m:=checkCount "sorted" 1 1 _) (aj (aa (coll _ fun h' d' tk vs bs ra kp q=> ?_)))
 have hl:vs.length=ds.length:=ReadsAll.length ds vs bs ra
 refine aa (wpAny_newList ?_ (by rw [cO];lia));have g:(h'.push {cls:=.type "list",data:=.seq vs.toArray}).get? h'.objs.size=some (seqObj "list" vs.toArray 0):=aC _ rfl
 have hin1:=aat A
 have hin2:=aat A.in1
 refine aa (aW (bz slot_list_sort ⟨_,g,rfl⟩ entry_list_sort (KS.arz g (by lia) (aw6 hc) (fun h2 s' k'=> axb (ds:=ds) (bs:=bs) ?_ hc hok h2 (by lia)) fun p pm pw=> ⟨_,rfl,?_⟩) (args_list_sort _)))
 ·refine gt (fun b o eb=> k' b o (aM (aB eb)) (ag _ eb)) ra
 ·obtain⟨e,ge⟩:=sortedHeap_at (out:=(p.map fun i=> vs.getD i aQ).toArray) g
  have es:(p.map fun i=> ds.getD i .none)=qj ds:=by
   have e0:(aU vs.length).map (fun i=> ds.getD i .none)=ds:=by
    rw [hl]
    apply eO
    intro i
    rw [aV]
    by_cases z:i < ds.length
    ·rw [fX z,ax z]
     simp [z]
    ·rw [cw.mpr (by simpa using z),cw.mpr (by simpa using z)];rfl
   refine apz hc ?_ ?_
   ·have:=pm.map fun i=> ds.getD i .none
    rwa [e0]at this
   ·rw [zh,c0]
    refine gz.imp_of_mem ?_ pw
    intro a b ma mb h
    have la:a < ds.length:=by have:=dA.mp (pm.mem_iff.mp ma);lia
    have lb:b < ds.length:=by have:=dA.mp (pm.mem_iff.mp mb);lia
    unfold ltN at h
    rw [ax la,ax lb]at h
    simpa [la,lb] using h
  refine aj ⟨_,rfl,q h' _ d' tk e p pm es kp (fun b u z=> z) ge fun b u eb=> ?_⟩
  have lb:=aB eb
  rw [sortedHeap_old (aM lb) (by rw [bt];exact cY lb)]
  exact ag _ eb
end
end PF
namespace PF
open PySem PySem.Spec
open L2
theorem TDs.pick{as:As}{H:Hp}{vs:List V}{ds:List ae}(t:TDs as H vs ds): ∀p:List Nat,(∀i∈p,i < ds.length) -> TDs as H (p.map fun i=> vs.getD i .non) (p.map fun i=> ds.getD i .none)
 |[],_=>.nil
 |i::r,h=> by
  have hi:=h i az
  obtain⟨v,e,td⟩:=t.get (i:=i) (d:=ds[i]) (ax hi)
  refine .cons ?_ (TDs.pick t r fun j hj=> h j (ay _ hj))
  show TD as H (vs.getD i .non) (ds.getD i .none)
  rw [show vs.getD i .non=v by simp [e],show ds.getD i .none=ds[i] by simp [hi]]
  exact td
theorem arc{us:List ac}(r:jg vs us){i:Nat}(e:vs[i]?=some v): ∃u,us[i]?=some u/\RelV v u:=by
 induction r generalizing i with
 |nil=> simp at e
 |cons a b ih=>
  cases i with
  |zero=> simp at e;subst e;exact⟨_,rfl,a⟩
  |succ i=> simpa using ih (by simpa using e)
theorem ag8{vs:List V}{us:List ac}(r:jg vs us): ∀p:List Nat,(∀i∈p,i < vs.length) -> jg (p.map fun i=> vs.getD i .non) (p.map fun i=> us.getD i aQ)
 |[],_=>.nil
 |i::q,h=> by
  have hi:=h i az
  obtain⟨u,e,rv⟩:=arc r (i:=i) (ax hi)
  refine .cons ?_ (ag8 r q fun j hj=> h j (ay _ hj))
  show RelV (vs.getD i .non) (us.getD i aQ)
  rw [show vs.getD i .non=vs[i] by simp [hi],show us.getD i aQ=u by simp [e]]
  exact rv
def xn(m:Bool)(ds:List D)(s:S):R D:=match ds with
 |[d]=> match (abr s d).bind jj with
  |some xs=> if xs.length < 64/\ko xs=true/\xs.all okD=true then kc m ((qj xs).map D.da) s else .bad
  |none=>.bad
 |_=>.bad
theorem as7(m:Bool)(hu:X.A.units+70 < cLine):CB X (.builtin "sorted") (xn m):=aa4 fun pins sh σ H as s xs ds us Q I rl rs ru h=> by
 unfold xn at h
 split at h
 ·rename_i d
  split at h
  ·rename_i es he
   split at h
   ·rename_i hcond
    obtain⟨h64,hc,hok⟩:=hcond
    obtain⟨v,rfl,rv⟩:=rs.one
    cases e1:abr s d with
    |none=> rw [e1]at he;cases he
    | some ys=>
     rw [e1]at he
     have hp:jj ys=some es:=he
     have e2:=yc hp
     subst e2
     obtain⟨p,zs,rfl,sq,rz⟩:=abg rl rv e1
     obtain⟨u,rfl,ruv⟩:=vals1 ru
     cases ruv
     have td:=rz.td
     have fin: ∀(its:List ac),jg zs its -> (∃(T:String) (o:Obj) (n:Nat),(T="list"\/T="tuple")/\sh.heap.get? p=some o/\o.cls=.type T/\o.data=.seq its.toArray n) -> wpAny (model X.prog X.w) X.A (call (.builtin "sorted") [.ref p]) (EP X pins σ Q) X.xe sh:=fun its rv ⟨T,o,n,hT,ho,hcl,hd⟩=> by
      obtain⟨bs,ra⟩:=td.reads I rv
      have hl2:its.length=es.length:=PySem.SeqAt.ReadsAll.length es its bs ra
      refine an7 (ds:=es) h64 hc hok hu fun R k=> PySem.wpAny_collect_seq p hT ho hcl hd (fun h' kp=> ?_) (by rw [au,cO];lia)
      have k1:=k h' sh.drawn sh.toks its bs (gt kp ra) kp
      refine k1 fun h1 h2 d2 tk2 e p' pm es' kp1 kp1' g kp2=> ?_
      have I1:Inv X pins σ H {sh with heap:=h1,toks:=sh.toks}:=I.un (Un.kept kp1) (I.hok.kept kp1)
      have hz:zs.length=es.length:=td.length
      have hlt: ∀i∈p',i < es.length:=fun i hi=> by have:=dA.mp (pm.mem_iff.mp hi);lia
      have vp:=ag8 rv p' (fun i hi=> by rw [hz];exact hlt i hi)
      have hlen:p'.length=es.length:=by rw [pm.length_eq,gJ,hl2]
      have I2:Inv X pins σ (upd H h1.objs.size (.lst (p'.map fun i=> zs.getD i .non))) {sh with heap:=h2,toks:=tk2}:=I1.laid (t':=tk2) kp2 (aq _) ⟨by rw [ak,hlen,cO];lia,_,e,vp,by simpa [PyProof.Rows.seqObj] using g⟩
      have nw:New H h1.objs.size (.lst (p'.map fun i=> zs.getD i .non)) (upd H h1.objs.size (.lst (p'.map fun i=> zs.getD i .non))):=⟨I1.hok.fresh (aq _),rfl⟩
      have tp:=(td.pick p' hlt).rd (K:=X.K)
      rw [es']at tp
      exact⟨.ref h1.objs.size,_,I2.drew d2,rfl,yk h rl tp nw⟩
     rcases sq with sq|sq
     ·obtain⟨its,rv,⟨o,k,h1,h2,h3,h4⟩,z⟩:=I.list sq
      exact fin its rv ⟨"list",o,_,.inl rfl,h1,h2,h4⟩
     ·obtain⟨its,rv,⟨o,h1,h2,k,h3⟩,z⟩:=I.tuple sq
      exact fin its rv ⟨"tuple",o,_,.inr rfl,h1,h2,h3⟩
   ·exact h.elim
  ·exact h.elim
 ·exact h.elim
theorem agk: ∀(l:List (Str×Tok)),jg ((l.map (·.1)).map V.str) (gp l)
 |[]=>.nil
 |(x,t)::r=>.cons ⟨t,rfl⟩ (agk r)
theorem ago: ∀{ss:List Str} {us:List ac},jg (ss.map V.str) us -> ∃l:List (Str×Tok),us=gp l/\l.map (·.1)=ss
 |[],_,r=> by cases r;exact⟨[],rfl,rfl⟩
 | x::ss,_,r=> by
  cases r with
  |cons a b=>
   obtain⟨t,rfl⟩:=a
   obtain⟨l,rfl,e⟩:=ago b
   exact⟨(x,t)::l,rfl,by rw [aG,e]⟩
theorem ai0{K:am}{as:As}{H:Hp}: ∀ss:List Str,RDs K as H (ss.map V.str) (ss.map D.str)
 |[]=>.nil
 |x::r=>.cons (.da (.str x)) (ai0 r)
def yx(m:Bool):GM:=fun d ds s=> match d,ds with
 |.da (.str x),[.da (.str y)]=> if (y.length==0)=false/\x.length <=sizeLine/\(bX x y).length <=sizeLine then kc m ((bX x y).map D.str) s else .bad
 |_,_=>.bad
theorem m_split(m:Bool):MB X "str.split" (yx m):=at4 fun pins sh σ H as s x xs d ds v us Q I rl r1 r2 rv rs h=> by
 unfold yx at h
 split at h
 ·rename_i x0 y0
  split at h
  ·rename_i hc
   obtain⟨hy,hx,hn⟩:=hc
   cases r1.str_inv
   obtain⟨v2,rfl,rv2⟩:=r2.one
   cases rv2.str_inv
   obtain⟨t,rfl⟩:=rv
   obtain⟨u,rfl,ru⟩:=vals1 rs
   obtain⟨t2,rfl⟩:=ru
   refine aox hy hx hn fun l k e=> ?_
   have kp: ∀b o,sh.heap.get? b=some o -> (sh.heap.push {cls:=.type "list",data:=.seq (gp l).toArray}).get? b=some o:=fun b o q=> ag _ q
   have I2:Inv X pins σ (upd H sh.heap.objs.size (.lst ((bX x0 y0).map V.str))) {sh with heap:=sh.heap.push {cls:=.type "list",data:=.seq (gp l).toArray},toks:=k}:=
    I.laid (t':=k) kp (aq _) ⟨by rw [ak];exact hn,gp l,_,by rw [←e];exact agk l,aC _ rfl⟩
   have nw:New H sh.heap.objs.size (.lst ((bX x0 y0).map V.str)) (upd H sh.heap.objs.size (.lst ((bX x0 y0).map V.str))):=⟨I.hok.fresh (aq _),rfl⟩
   exact⟨.ref sh.heap.objs.size,_,I2,rfl,yk h rl (ai0 _) nw⟩
  ·exact h.elim
 ·exact h.elim
def zj:GM:=fun d ds s=> match d,ds with
 |.da (.str x),[l]=> match (toL s l).bind v8 with
  |some ss=> if fP x ss=true then .ok (.str (fq x ss)) s else .bad
  |none=>.bad
 |_,_=>.bad
theorem axx:MB X "str.join" zj:=at4 fun pins sh σ H as s x xs d ds v us Q I rl r1 r2 rv rs h=> by
 unfold zj at h
 split at h
 ·rename_i x0 l0
  split at h
  ·rename_i ss he
   split at h
   ·rename_i hj
    cases r1.str_inv
    obtain⟨v2,rfl,rv2⟩:=r2.one
    obtain⟨t,rfl⟩:=rv
    cases e2:toL s l0 with
    |none=> rw [e2]at he;cases he
    |some ys=>
     rw [e2]at he
     obtain⟨p,zs,rfl,hx,rz⟩:=yv rl rv2 e2
     obtain⟨ez,_⟩:=afp rz (show v8 ys=some ss from he)
     subst ez
     obtain⟨u,rfl,ru⟩:=vals1 rs
     cases ru
     obtain⟨its,rvs,pl,_⟩:=I.list (SqL.of hx)
     obtain⟨l,rfl,el⟩:=ago rvs
     refine SC.join (l:=l) pl.isList el hj fun t' k=> ?_
     exact⟨.str _,H,I.tok _,⟨_,rfl⟩,Dn.now (Q:=Q) h rl (.da (.str _))⟩
   ·exact h.elim
  ·exact h.elim
 ·exact h.elim
noncomputable def ahe(ds:List D)(s:S):R D:=match ds with
 |[.da (.str x)]=> if x.length <=640 then match f9 x with
  |some n=>.ok (.int n) s
  |none=>.bad
  else .bad
 |_=>.bad
theorem ay1:CB X (.type "int") ahe:=aa4 fun pins sh σ H as s xs ds us Q I rl rs ru h=> by
 unfold ahe at h
 split at h
 ·obtain⟨v,rfl,rv⟩:=rs.one
  cases rv.str_inv
  obtain⟨u,rfl,ruv⟩:=vals1 ru
  obtain⟨t,rfl⟩:=ruv
  split at h
  ·rename_i hl
   split at h
   ·rename_i n hn
    exact PySem.W.KIN.call_text hn hl ⟨.int n,H,I.tok _,⟨_,rfl⟩,Dn.now (Q:=Q) h rl (.da (.int _))⟩
   ·exact h.elim
  ·exact h.elim
 ·exact h.elim
end PF
namespace L2
open PySem PySem.Spec PyProof.Rows
section
variable{P:aR}{w:aT}{H:Hp}{h:Heap}{a:Addr}
end
abbrev TBd:=Addr -> St -> Hp -> (St -> Hp -> Prop) -> Prop
def jq(b:Bool)(h:Heap)(l:Addr)(xs:Array ac):Prop:=if b=true then h.IsList l xs else h.IsTuple l xs
def j9(b:Bool)(h:Heap)(i l:Addr)(k:Nat):Prop:=if b=true then h.IsListIter i l k else h.IsTupleIter i l k
theorem jq.to{h':Heap}(x:jq b h l xs)(k: ∀o,h.get? l=some o -> h'.get? l=some o):jq b h' l xs:=by
 cases b with
 |true=> obtain⟨o,e,r⟩:=x;exact⟨o,k o e,r⟩
 |false=> obtain⟨o,e,r⟩:=x;exact⟨o,k o e,r⟩
theorem j9.to{h':Heap}{i:Addr}(x:j9 b h i l n)(k: ∀o,h.get? i=some o -> h'.get? i=some o):j9 b h' i l n:=by
 cases b with
 |true=> obtain⟨o,e,r⟩:=x;exact⟨o,k o e,r⟩
 |false=> obtain⟨o,e,r⟩:=x;exact⟨o,k o e,r⟩
theorem j9.obj{i:Addr}(x:j9 b h i l n): ∃o,h.get? i=some o/\ ∃vs,o.data=.fields vs:=by
 cases b with
 |true=> obtain⟨o,e,_,r⟩:=x;exact⟨o,e,_,r⟩
 |false=> obtain⟨o,e,_,r⟩:=x;exact⟨o,e,_,r⟩
theorem jq.lt(x:jq b h l xs):l < h.objs.size:=by
 cases b with
 |true=> obtain⟨o,e,r⟩:=x;exact aB e
 |false=> obtain⟨o,e,r⟩:=x;exact aB e
section
variable{P:aR}{w:aT}{A:aZ}{E:ac -> ah -> Prop}{s:ah}
open PySem.F in
theorem qy{i:Addr}{x:ac}(hi:j9 b s.heap i l k)(hl:jq b s.heap l xs)(hx:xs[k]?=some x)(hQ: ∀h',j9 b h' i l (k+1) -> bh i s.heap h' -> Q x {s with heap:=h'}):wpAny (model P w) A (bB (.ref i)) Q E s:=by
 cases b with
 |true=> exact wpAny_nextOf_list_item hi hl hx hQ
 |false=>
  have hi:s.heap.IsTupleIter i l k:=hi
  have hl:s.heap.IsTuple l xs:=hl
  obtain⟨o,ho,hc,hd⟩:=id hi
  (obtain⟨ol,hol,_,nl,hdl⟩:=hl)
  refine aa (bp (name:=aA "__next__") hi.typeIs slot_tuple_iterator_next (bz slot_tuple_iterator_next hi.typeIs entry_tuple_iterator_next ?_ (args_tuple_iterator_next_1 _)))
  wp_walk using aP ho hd (x:=.ref l) rfl,aP ho hd (x:=.int k 0) rfl,bW hol hdl
  (simp only [ca,hx])
  refine aa (wpAny_setField ho hd (by simp) (aj ⟨_,rfl,aj (hQ _ ?_ (.update ..))⟩))
  exact⟨_,cq _ ho (Obj.isFreed_of_fields (Obj.data_mapFields hd _)),by rw [Obj.cls_mapFields];exact hc,by rw [Obj.data_mapFields hd];simp [rawInt]⟩
open PySem.F in
theorem y1{i:Addr}(hh:A.handled=none)(hi:j9 b s.heap i l k)(hl:jq b s.heap l xs)(hx:xs[k]?=none)(hE: ∀h' e,eU i s.heap h' -> (∃o,h'.get? e=some o/\o.cls=.type "StopIteration") -> E (.ref e) {s with heap:=h'}):wpAny (model P w) A (bB (.ref i)) Q E s:=by
 cases b with
 |true=> exact wpAny_nextOf_list_end hh hi hl hx hE
 |false=>
  have hi:s.heap.IsTupleIter i l k:=hi
  have hl:s.heap.IsTuple l xs:=hl
  obtain⟨o,ho,hc,hd⟩:=id hi
  (obtain⟨ol,hol,_,nl,hdl⟩:=hl)
  refine aa (bp (name:=aA "__next__") hi.typeIs slot_tuple_iterator_next (bz slot_tuple_iterator_next hi.typeIs entry_tuple_iterator_next ?_ (args_tuple_iterator_next_1 _)))
  (have hh1:A.in1.handled=none:=hh)
  wp_walk using aP ho hd (x:=.ref l) rfl,aP ho hd (x:=.int k 0) rfl,bW hol hdl
  (simp only [ca,hx])
  (refine aa (ck (aa (wpAny_setField ho hd (by simp) ?_))))
  wp_walk
  simp only [raiseNew]
  (refine aa (wpAny_handled ?_))
  rw [hh1]
  refine aa (aj (wpAny_throw (hE _ _ (((fV ..).extBut.push _).push _) ?_)))
  exact⟨_,aC _ rfl,rfl⟩
end
section
variable{P:aR}{w:aT}{A:aZ}{E:ac -> ah -> Prop}{s:ah}
structure ZAt (b1 b2:Bool) (l1 l2 z TI TO i1 i2:Addr) (f0:ac) (k1 k2:Nat) (h:Heap):Prop where
 ap:ZipApart z TI TO i1 i2 l1 l2
 oz:gg h z TI TO f0
 oi:c5 h TI (.ref i1) (.ref i2)
 oo: ∃a b,c5 h TO a b
 c1:j9 b1 h i1 l1 k1
 c2:j9 b2 h i2 l2 k2
theorem ax7{z TI TO:Addr}{k1 k2:Nat}{ys:Array ac}{x y:ac}(Z:ZAt b1 b2 l1 l2 z TI TO i1 i2 .none k1 k2 s.heap)(hl1:jq b1 s.heap l1 xs)(hl2:jq b2 s.heap l2 ys)(hx:xs[k1]?=some x)(hy:ys[k2]?=some y)(hQ: ∀h',ZAt b1 b2 l1 l2 z TI TO i1 i2 (rawInt s.heap.objs.size) (k1+1) (k2+1) h' -> c5 h' s.heap.objs.size x y ->
   (∀c o,c≠z -> c≠TO -> c≠i1 -> c≠i2 -> s.heap.get? c=some o -> h'.get? c=some o) -> Q (.ref s.heap.objs.size) {s with heap:=h'}):
  wpAny (model P w) A (cf.«zip.__next__» ⟨[.ref z],[]⟩) (fun fin s'=> ∃v,fin=.done (.ret v)/\Q v s') E s:=by
 obtain⟨ap,oz,oi,⟨a,b,oo⟩,c1,c2⟩:=Z
 (show wpAny _ _ (field (.ref z) 2 >>=_) _ _ _);refine aa (aP oz rfl (x:=.bool false) rfl ?_)
 (show wpAny _ _ (field (.ref z) 3 >>=_) _ _ _);refine aa (aP oz rfl (x:=.ref TI) rfl (aa (bW oi rfl ?_)))
 (show wpAny _ _ (bJ (.ref z)>>=_) _ _ _);refine aa (aa (aP oz rfl (x:=.none) rfl (aj ?_)))
 simp only [if_true]
 refine aa (ck (aa (aP oz rfl (x:=.ref TO) rfl (aa (bo oz (by simp) fun g1 z1 e1=> aa ?_)))))
 have z1:gg g1 z TI TO .ellipsis:=z1
 (simp only [List.zipIdx_cons,List.zipIdx_nil,eg,ga])
 (refine aa (aa (gC ?_)))
 (show wpAny _ _ (bB (.ref i1)>>=_) _ _ _);refine aa (qy (c1.to fun o=> e1.extBut _ _ ap.i1z) (hl1.to fun o=> e1.extBut _ _ ap.l1z) hx fun g2 c1' e2=> aj ?_)
 have o2:c5 g2 TO a b:=e2.extBut _ _ ap.TOi1 (e1.extBut _ _ ap.TOz oo)
 refine aa (bW o2 rfl (aa (fQ o2 fun g3 o3 e3=> aa (ir (aj (aa (aa (gC ?_))))))))
 have o3:c5 g3 TO x b:=o3
 have k3: ∀c o,c≠z -> c≠i1 -> c≠TO -> s.heap.get? c=some o -> g3.get? c=some o:=fun c o a1 a2 a3 e=> e3.extBut _ _ a3 (e2.extBut _ _ a2 (e1.extBut _ _ a1 e))
 (show wpAny _ _ (bB (.ref i2)>>=_) _ _ _);refine aa (qy (c2.to fun o=> k3 _ o ap.i2z ap.i12.symm ap.TOi2.symm) (hl2.to fun o=> k3 _ o ap.l2z ap.l2i1 ap.l2TO) hy fun g4 c2' e4=> aj ?_)
 have o4:c5 g4 TO x b:=e4.extBut _ _ ap.TOi2 o3
 refine aa (bW o4 rfl (aa (fQ o4 fun g5 o5 e5=> aa (ir (aj (aj ?_))))))
 have o5:c5 g5 TO x y:=o5
 refine aa (bW o5 rfl (aa (f8 ?_)))
 have sz:g5.objs.size=s.heap.objs.size:=by rw [e5.1,e4.1,e3.1,e2.1,e1.1]
 have z5:gg g5 z TI TO .ellipsis:=e5.extBut _ _ ap.TOz.symm (e4.extBut _ _ ap.i2z.symm (e3.extBut _ _ ap.TOz.symm (e2.extBut _ _ ap.i1z.symm z1)))
 have k5: ∀c o,c≠z -> c≠TO -> c≠i1 -> c≠i2 -> s.heap.get? c=some o -> g5.get? c=some o:=fun c o a1 a2 a3 a4 e=> e5.extBut _ _ a2 (e4.extBut _ _ a4 (k3 c o a1 a3 a2 e))
 have c15:j9 b1 g5 i1 l1 (k1+1):=c1'.to fun o e=> e5.extBut _ _ ap.TOi1.symm (e4.extBut _ _ ap.i12 (e3.extBut _ _ ap.TOi1.symm e))
 have c25:j9 b2 g5 i2 l2 (k2+1):=c2'.to fun o e=> e5.extBut _ _ ap.TOi2.symm e
 (show wpAny _ _ (eD (.ref z) (.ref g5.objs.size)>>=_) _ _ _);refine aa ?_
 have z6:gg (g5.push {cls:=.type "tuple",data:=.seq #[x,y]}) z TI TO .ellipsis:=ag _ z5
 refine aa (bo z6 (by simp) fun g7 z7 e7=> ?_)
 have z7:gg g7 z TI TO (rawInt g5.objs.size):=z7
 refine bo z7 (by simp) fun g8 z8 e8=> ?_
 have z8:gg g8 z TI TO (rawInt g5.objs.size):=z8
 have up: ∀c o,c≠z -> g5.get? c=some o -> g8.get? c=some o:=fun c o a1 e=> e8.extBut _ _ a1 (e7.extBut _ _ a1 (ag _ e))
 have nz:g5.objs.size≠z:=dB (aB z5)
 have t8:c5 g8 g5.objs.size x y:=e8.extBut _ _ nz (e7.extBut _ _ nz (aC _ rfl))
 rw [sz]at z8 t8
 (refine aj ⟨_,rfl,?_⟩)
 show Q (.ref g5.objs.size) _
 rw [sz]
 exact hQ g8 ⟨ap,z8,up _ _ ap.TIz (k5 _ _ ap.TIz ap.TITO ap.TIi1 ap.TIi2 oi),⟨_,_,up _ _ ap.TOz o5⟩,c15.to fun o=> up _ o ap.i1z,c25.to fun o=> up _ o ap.i2z⟩ t8 fun c o a1 a2 a3 a4 e=> up c o a1 (k5 c o a1 a2 a3 a4 e)
theorem au5{z TI TO:Addr}{k1 k2:Nat}{ys:Array ac}{Q:Fin -> ah -> Prop}(hh:A.handled=none)(Z:ZAt b1 b2 l1 l2 z TI TO i1 i2 .none k1 k2 s.heap)(hl1:jq b1 s.heap l1 xs)(hl2:jq b2 s.heap l2 ys)(hend:xs[k1]?=none\/ys[k2]?=none)(hE: ∀h' e,(∀c o,c≠z -> c≠TO -> c≠i1 -> c≠i2 -> s.heap.get? c=some o -> h'.get? c=some o) -> (∃o,h'.get? e=some o/\o.cls=.type "StopIteration") -> E (.ref e) {s with heap:=h'}):
  wpAny (model P w) A (cf.«zip.__next__» ⟨[.ref z],[]⟩) Q E s:=by
 obtain⟨ap,oz,oi,⟨a,b,oo⟩,c1,c2⟩:=Z
 (show wpAny _ _ (field (.ref z) 2 >>=_) _ _ _);refine aa (aP oz rfl (x:=.bool false) rfl ?_)
 (show wpAny _ _ (field (.ref z) 3 >>=_) _ _ _);refine aa (aP oz rfl (x:=.ref TI) rfl (aa (bW oi rfl ?_)))
 (show wpAny _ _ (bJ (.ref z)>>=_) _ _ _);refine aa (aa (aP oz rfl (x:=.none) rfl (aj ?_)))
 simp only [if_true]
 refine aa (ck (aa (aP oz rfl (x:=.ref TO) rfl (aa (bo oz (by simp) fun g1 z1 e1=> aa ?_)))))
 have z1:gg g1 z TI TO .ellipsis:=z1
 have stop: ∀(g:Heap) (o:Obj) (e:Addr),gg g z TI TO .ellipsis -> g.get? e=some o -> o.cls=.type "StopIteration" -> e≠z:=fun g o e hz ho hc q=> by
  subst q;rw [hz]at ho;cases ho;simp at hc
 (simp only [List.zipIdx_cons,List.zipIdx_nil,eg,ga])
 (refine aa (aa (gC ?_)))
 (show wpAny _ _ (bB (.ref i1)>>=_) _ _ _);cases hx:xs[k1]? with
 |none=>
  refine aa (y1 hh (c1.to fun o=> e1.extBut _ _ ap.i1z) (hl1.to fun o=> e1.extBut _ _ ap.l1z) hx fun g2 e e2 ⟨oe,he,ce⟩=> ?_)
  have z2:gg g2 z TI TO .ellipsis:=e2 _ _ ap.i1z.symm z1
  exact bo z2 (by simp) fun g3 _ e3=> hE g3 e (fun c o a1 _ a3 _ q=> e3.extBut _ _ a1 (e2 _ _ a3 (e1.extBut _ _ a1 q))) ⟨oe,e3.extBut _ _ (stop _ _ _ z2 he ce) he,ce⟩
 |some x=>
  have hy:ys[k2]?=none:=hend.elim (fun h=> by rw [hx]at h;cases h) id
  refine aa (qy (c1.to fun o=> e1.extBut _ _ ap.i1z) (hl1.to fun o=> e1.extBut _ _ ap.l1z) hx fun g2 c1' e2=> aj ?_)
  have o2:c5 g2 TO a b:=e2.extBut _ _ ap.TOi1 (e1.extBut _ _ ap.TOz oo)
  refine aa (bW o2 rfl (aa (fQ o2 fun g3 o3 e3=> aa (ir (aj (aa (aa (gC ?_))))))))
  have k3: ∀c o,c≠z -> c≠i1 -> c≠TO -> s.heap.get? c=some o -> g3.get? c=some o:=fun c o a1 a2 a3 e=> e3.extBut _ _ a3 (e2.extBut _ _ a2 (e1.extBut _ _ a1 e))
  (show wpAny _ _ (bB (.ref i2)>>=_) _ _ _);refine aa (y1 hh (c2.to fun o=> k3 _ o ap.i2z ap.i12.symm ap.TOi2.symm) (hl2.to fun o=> k3 _ o ap.l2z ap.l2i1 ap.l2TO) hy fun g4 e e4 ⟨oe,he,ce⟩=> ?_)
  have z4:gg g4 z TI TO .ellipsis:=e4 _ _ ap.i2z.symm (e3.extBut _ _ ap.TOz.symm (e2.extBut _ _ ap.i1z.symm z1))
  exact bo z4 (by simp) fun g5 _ e5=> hE g5 e (fun c o a1 a2 a3 a4 q=> e5.extBut _ _ a1 (e4 _ _ a4 (k3 c o a1 a3 a2 q))) ⟨oe,e5.extBut _ _ (stop _ _ _ z4 he ce) he,ce⟩
theorem ali{z TI TO:Addr}{k1 k2:Nat}{ys:Array ac}{x y:ac}{Q:Option ac -> ah -> Prop}(Z:ZAt b1 b2 l1 l2 z TI TO i1 i2 .none k1 k2 s.heap)(hl1:jq b1 s.heap l1 xs)(hl2:jq b2 s.heap l2 ys)(hx:xs[k1]?=some x)(hy:ys[k2]?=some y)(hQ: ∀h',ZAt b1 b2 l1 l2 z TI TO i1 i2 (rawInt s.heap.objs.size) (k1+1) (k2+1) h' -> c5 h' s.heap.objs.size x y ->
   (∀c o,c≠z -> c≠TO -> c≠i1 -> c≠i2 -> s.heap.get? c=some o -> h'.get? c=some o) -> Q (some (.ref s.heap.objs.size)) {s with heap:=h'}):
  wpAny (model P w) A (pyNext (.ref z)) Q E s:=
 have hT:s.TypeIs (.ref z) "zip":=⟨_,Z.oz,rfl⟩
 aa (d8 (bp (name:=aA "__next__") hT cG (bz cG hT fw (ax7 Z hl1 hl2 hx hy fun h' a1 a2 a3=> aj (hQ h' a1 a2 a3)) (eQ _))))
theorem aj9{z TI TO:Addr}{k1 k2:Nat}{ys:Array ac}{Q:Option ac -> ah -> Prop}(hh:A.handled=none)(Z:ZAt b1 b2 l1 l2 z TI TO i1 i2 .none k1 k2 s.heap)(hl1:jq b1 s.heap l1 xs)(hl2:jq b2 s.heap l2 ys)(hend:xs[k1]?=none\/ys[k2]?=none)(hQ: ∀h',(∀c o,c≠z -> c≠TO -> c≠i1 -> c≠i2 -> s.heap.get? c=some o -> h'.get? c=some o) -> Q none {s with heap:=h'}):wpAny (model P w) A (pyNext (.ref z)) Q E s:=
 have hT:s.TypeIs (.ref z) "zip":=⟨_,Z.oz,rfl⟩
 aa (d8 (bp (name:=aA "__next__") hT cG (bz cG hT fw (au5 hh Z hl1 hl2 hend fun h' e hk ⟨o,ho,hc⟩=>
  aa (fj (T:="StopIteration") (b:=true) ⟨o,ho,hc⟩ iI (aj (hQ _ hk)))) (eQ _))))
end
def SqB(K:am)(b:Bool)(H:Hp)(l:Addr)(xs:List V):Prop:=if b=true then SqL K H l xs else SqT K H l xs
theorem Inv.seqB{s:ah}{xs:List V}(I:Inv X pins σ H s)(q:SqB X.K b H l xs): ∃its,jg xs its/\jq b s.heap l its.toArray:=by
 cases b with
 |true=> obtain⟨its,rv,p,_⟩:=I.list q;exact⟨its,rv,p.isList⟩
 |false=> obtain⟨its,rv,p,_⟩:=I.tuple q;exact⟨its,rv,p⟩
noncomputable def axn(K:am)(b1 b2:Bool)(l1 l2:Addr):It:=
 ⟨fun i H=> ∃xs ys x y,SqB K b1 H l1 xs/\SqB K b2 H l2 ys/\xs[i]?=some x/\ys[i]?=some y,
   fun i H v H'=> ∃T,v=.ref T/\ ∀xs ys,SqB K b1 H l1 xs -> SqB K b2 H l2 ys -> ∃x y,xs[i]?=some x/\ys[i]?=some y/\New H T (.tup [x,y]) H',
   fun i H=> ∃xs ys,SqB K b1 H l1 xs/\SqB K b2 H l2 ys/\(xs.length <=i\/ys.length <=i)⟩
theorem Inv.seqB_inj{s:ah}{xs ys:List V}(I:Inv X pins σ H s)(p:SqB X.K b H l xs)(q:SqB X.K b H l ys):xs=ys:=by
 cases b with
 |true=> exact I.list_inj p q
 |false=> exact I.tuple_inj p q
theorem apu{x1:Nat}(l1 l2 z TI TO i1 i2:Addr):Turn P w K (.Tuple es x1 pos) (axn K b1 b2 l1 l2) [z,TI,TO,i1,i2] z (fun i h=> ZAt b1 b2 l1 l2 z TI TO i1 i2 .none i i h) where
 mem:=by simp
 obj:=fun i h ⟨_,hz,hTI,⟨a,c,hTO⟩,q1,q2⟩ b hb=> by
  obtain⟨o1,e1,v1,d1⟩:=q1.obj
  obtain⟨o2,e2,v2,d2⟩:=q2.obj
  (simp only [aE,bg,or_false]at hb)
  rcases hb with rfl|rfl|rfl|rfl|rfl
  ·exact⟨_,hz,fun v y=> by cases y⟩
  ·exact⟨_,hTI,fun v y=> by cases y⟩
  ·exact⟨_,hTO,fun v y=> by cases y⟩
  ·exact⟨_,e1,fun v y=> by rw [d1]at y;cases y⟩
  ·exact⟨_,e2,fun v y=> by rw [d2]at y;cases y⟩
 keep:=fun i h h' ⟨D,hz,hTI,⟨a,c,hTO⟩,q1,q2⟩ k=>
  ⟨D,k z (by simp) _ hz,k TI (by simp) _ hTI,⟨a,c,k TO (by simp) _ hTO⟩,q1.to fun o e=> k i1 (by simp) o e,q2.to fun o e=> k i2 (by simp) o e⟩
 item:=by
  intro X hP hw hK hc i pins s σ H E I hf st hg
  subst hP hw hK
  obtain⟨xs,ys,x,y,q1,q2,hx,hy⟩:=hg
  obtain⟨its1,rv1,p1⟩:=I.seqB q1
  obtain⟨its2,rv2,p2⟩:=I.seqB q2
  obtain⟨u1,hu1,ru1⟩:=rv1.get hx
  obtain⟨u2,hu2,ru2⟩:=rv2.get hy
  refine ali st p1 p2 (x:=u1) (y:=u2) (by simpa using hu1) (by simpa using hu2) fun h' Z a5 k=> ?_
  refine⟨_,rfl,wpAny_letOwnedTupleGo_zip (s:={s with heap:=h'}) Z.oz fun h2' hz' sb=> ?_⟩
  have lt: ∀b∈ [z,TI,TO,i1,i2],b < s.heap.objs.size:=fun b hb=> by
   obtain⟨_,hz,hTI,⟨_,_,hTO⟩,q1,q2⟩:=st
   obtain⟨o1,e1,_⟩:=q1.obj
   obtain⟨o2,e2,_⟩:=q2.obj
   (simp only [aE,bg,or_false]at hb)
   rcases hb with rfl|rfl|rfl|rfl|rfl
   ·exact aB hz
   ·exact aB hTI
   ·exact aB hTO
   ·exact aB e1
   ·exact aB e2
  have I1:Inv X pins σ (upd H s.heap.objs.size (.tup [x,y])) {s with heap:=s.heap.push {cls:=.type "tuple",data:=.seq #[u1,u2]},toks:=s.toks}:=
   I.laid (fun b u e=> ag _ e) (aq _) ⟨by show 2 <=sizeLine;decide,[u1,u2],.cons ru1 (.cons ru2 .nil),⟨_,aC _ rfl⟩⟩
  have nT: ∀b∈ [z,TI,TO,i1,i2],upd H s.heap.objs.size (.tup [x,y]) b=none:=fun b hb=> by
   rw [j6 (aM (lt b hb))];exact (hf b hb).1
  have D:=Z.ap
  have I2:=I1.turnedL (h':=h2') (t':=s.toks) (ch:=[z,TI,TO,i1,i2]) (fun b o hb e=> by
   have hbz:b≠z:=fun y=> hb (by simp [y])
   rw [sb.2 b hbz]
   by_cases hT:b=s.heap.objs.size
   ·subst hT
    rw [aC _ rfl]at e
    cases e
    exact a5
   ·rw [cI _ _ _ hT]at e
    exact k b o hbz (fun y=> hb (by simp [y])) (fun y=> hb (by simp [y])) (fun y=> hb (by simp [y])) e) fun b hb=> ⟨nT b hb,(hf b hb).2⟩
  obtain⟨_,_,oi,⟨_,_,oo⟩,c1,c2⟩:=Z
  refine⟨.ref s.heap.objs.size,_,I2,rfl,⟨_,rfl,fun xs' ys' q1' q2'=> ?_⟩,⟨D,hz',sb.extBut _ _ D.TIz oi,⟨_,_,sb.extBut _ _ D.TOz oo⟩,c1.to fun o=> sb.extBut _ _ D.i1z,c2.to fun o=> sb.extBut _ _ D.i2z⟩,nT⟩
  rw [I.seqB_inj q1' q1,I.seqB_inj q2' q2]
  exact⟨x,y,hx,hy,I.fresh,rfl⟩
 done:=by
  intro X hP hw hK hc i pins s σ H E I hf st hg
  subst hP hw hK
  obtain⟨xs,ys,q1,q2,hx⟩:=hg
  obtain⟨its1,rv1,p1⟩:=I.seqB q1
  obtain⟨its2,rv2,p2⟩:=I.seqB q2
  have l1':=rv1.length
  have l2':=rv2.length
  refine aj9 (I.ok.hd hc) st p1 p2 ?_ fun h' k=> ⟨rfl,I.turnedL (t':=s.toks) (ch:=[z,TI,TO,i1,i2]) (fun b o hb e=> k b o (fun y=> hb (by simp [y])) (fun y=> hb (by simp [y])) (fun y=> hb (by simp [y])) (fun y=> hb (by simp [y])) e) hf⟩
  rcases hx with hx|hx
  ·exact .inl (by simp;lia)
  ·exact .inr (by simp;lia)
 self:=fun _ _ _ _ _ st h=> hJ st.oz h
noncomputable def abo(b:Bool):String:=if b=true then "list_iterator" else "tuple_iterator"
section
variable{P:aR}{w:aT}{A:aZ}{E:ac -> ah -> Prop}{s:ah}
theorem aep(h:jq b s.heap l xs)(hQ:Q (.ref s.heap.objs.size) {s with heap:=s.heap.push {cls:=.type (abo b),data:=.fields #[.ref l,.int 0 0]}}):wpAny (model P w) A (pyIter (.ref l)) Q E s:=by
 cases b with
 |true=> exact dz h hQ
 |false=> exact gl h hQ
theorem asr{i:Addr}(e:h.get? i=some {cls:=.type (abo b),data:=.fields #[.ref l,.int 0 0]}):j9 b h i l 0:=by
 cases b with
 |true=> exact⟨_,e,rfl,rfl⟩
 |false=> exact⟨_,e,rfl,rfl⟩
def zH(h:Heap)(b1 b2:Bool)(l1 l2:Addr):Heap:=
 ((((h.push {cls:=.type (abo b1),data:=.fields #[.ref l1,.int 0 0]}).push {cls:=.type (abo b2),data:=.fields #[.ref l2,.int 0 0]}).push {cls:=.type "tuple",data:=.seq #[.ref h.objs.size,.ref (h.objs.size+1)]}).push {cls:=.type "tuple",data:=.seq #[.none,.none]}).push
  {cls:=.type "zip",data:=.fields #[.none,.bool false,.bool false,.ref (h.objs.size+2),.ref (h.objs.size+3)]}
theorem amx(b1 b2:Bool)(l1 l2:Addr)(xs ys:Array ac):
  ig (cf.«zip.__new__» ⟨[.type "zip",.ref l1,.ref l2],[]⟩) (fun _ R s=> jq b1 s.heap l1 xs/\jq b2 s.heap l2 ys/\R (.ok (.ret (.ref (s.heap.objs.size+4)))) {s with heap:=zH s.heap b1 b2 l1 l2}):=
 .of_wp fun prog w A R s h=> by
  obtain⟨hp,g,d,tk,os⟩:=s;obtain⟨h1,h2,h⟩:=h
  have hsub:=sub_zip
  have L1:jq b1 (jZ ⟨hp,g,d,tk,os⟩) l1 xs:=h1
  have L2:jq b2 (jZ ⟨hp.push {cls:=.type (abo b1),data:=.fields #[.ref l1,.int 0 0]},g,d,tk,os⟩) l2 ys:=h2.to fun o=> ag _
  wp_walk using aep L1,aep L2
  refine⟨_,rfl,?_⟩
  simp only [bt]
  exact h
theorem aga{ys:Array ac}(h1:jq b1 s.heap l1 xs)(h2:jq b2 s.heap l2 ys)(h: ∀h',ZAt b1 b2 l1 l2 (s.heap.objs.size+4) (s.heap.objs.size+2) (s.heap.objs.size+3) s.heap.objs.size (s.heap.objs.size+1) .none 0 0 h' -> (∀c o,s.heap.get? c=some o -> h'.get? c=some o) -> Q (.ref (s.heap.objs.size+4)) {s with heap:=h'}):
  wpAny (model P w) A (call (.type "zip") [.ref l1,.ref l2]) Q E s:=by
 refine callType_new F.called_zip (by decide) (F.typeCall_zip_2 _ _) (F.newCall_zip_2 _ _) (fun obj=> F.args_object_init_3 obj _ _) F.entry_zip_new (amx b1 b2 l1 l2 xs ys) ⟨h1,h2,?_⟩
 have q1:=h1.lt
 have q2:=h2.lt
 have up: ∀(g:Heap) (o:Obj) (n:Nat),n=g.objs.size -> o.isFreed=false -> (g.push o).get? n=some o:=fun g o n e hf=> by subst e;exact aC _ hf
 have sz: ∀(g:Heap) (o:Obj) (n:Nat),g.objs.size=n -> (g.push o).objs.size=n+1:=fun g o n e=> by rw [bt,e]
 have g5:gg (zH s.heap b1 b2 l1 l2) (s.heap.objs.size+4) (s.heap.objs.size+2) (s.heap.objs.size+3) .none:=up _ _ _ (by simp only [bt]) rfl
 have g4:c5 (zH s.heap b1 b2 l1 l2) (s.heap.objs.size+3) .none .none:=ag _ (up _ _ _ (by simp only [bt]) rfl)
 have g3:c5 (zH s.heap b1 b2 l1 l2) (s.heap.objs.size+2) (.ref s.heap.objs.size) (.ref (s.heap.objs.size+1)):=ag _ (ag _ (up _ _ _ (by simp only [bt]) rfl))
 have g2:(zH s.heap b1 b2 l1 l2).get? (s.heap.objs.size+1)=some {cls:=.type (abo b2),data:=.fields #[.ref l2,.int 0 0]}:=ag _ (ag _ (ag _ (up _ _ _ (by simp only [bt]) rfl)))
 have g1:(zH s.heap b1 b2 l1 l2).get? s.heap.objs.size=some {cls:=.type (abo b1),data:=.fields #[.ref l1,.int 0 0]}:=ag _ (ag _ (ag _ (ag _ (up _ _ _ rfl rfl))))
 refine⟨⟨_,g5,rfl⟩,h _ ⟨?_,g5,g3,⟨_,_,g4⟩,asr g1,asr g2⟩ fun c o x=> ag _ (ag _ (ag _ (ag _ (ag _ x))))⟩
 constructor <;> (unfold Addr at*;lia)
end
def a1k(K:am)(ta:TA):TI:=fun σ H R=> ta σ H fun vs H1=> ∃l1 l2 xs ys b1 b2,vs=[.ref l1,.ref l2]/\SqB K b1 H1 l1 xs/\SqB K b2 H1 l2 ys/\R (axn K b1 b2 l1 l2) H1
theorem av0{x1:Nat}{tp:Pos}{a b:Expr}{ta:TA}{p:Pos}(hg:Gl X "zip")(hm:X.mg "zip"=none)(ha:PA X [a,b] ta)(hs:starEach [a,b] X.env=[(false,eval a X.env),(false,eval b X.env)]:=by rfl)(hs2:starEach [b] X.env=[(false,eval b X.env)]:=by rfl):
  PI X (.Tuple es x1 tp) (.Call (.Name "zip" p) [a,b] [] pos) (a1k X.K ta):=by
 intro pins s σ H R I h
 refine Call_ (zo I hg hm atp (cb (thn (ha pos pins s σ H _ I h) fun us s1 ⟨vs,H1,I1,r1,q1⟩=> ?_) (by rw [hs,hs2]) (by rw [hs2];rfl)))
 obtain⟨l1,l2,xs,ys,b1,b2,e,q1,q2,q⟩:=q1
 subst e
 cases r1 with
 | cons r rr=>
  cases rr with
  | cons r' rr=>
   cases rr
   cases r
   cases r'
   obtain⟨its1,rv1,p1⟩:=I1.seqB q1
   obtain⟨its2,rv2,p2⟩:=I1.seqB q2
   refine aga p1 p2 fun h' Z k=> hJ (s:={s1 with heap:=h'}) Z.oz ?_
   refine⟨s1.heap.objs.size+4,_,_,_,H1,rfl,I1.kept (t':=s1.toks) k,apu l1 l2 _ _ _ _ _,Z,fun b hb=> ?_,q⟩
   have hb':s1.heap.objs.size <=b:=by
    (simp only [aE,bg,or_false]at hb)
    rcases hb with rfl|rfl|rfl|rfl|rfl <;> (unfold Addr at*;lia)
   exact I1.fpOk hb' (I1.hok.fresh hb')
end L2
namespace PF
open PySem PySem.Spec
open L2
noncomputable def sqD:D -> Option (Bool×List ae)
 |.lst xs=> some (true,xs)
 |.tup xs=> some (false,xs)
 |_=> none
def ahh(ds:List D)(s:S):R Wk:=match ds with
 |[a,b]=> match sqD a,sqD b with
  |some (_,xs),some (_,ys)=>.ok ((xs.zip ys).map fun p=> D.tup [p.1,p.2],none) s
  |_,_=>.bad
 |_=>.bad
def an5(f:FA):FI:=fun ρ s=> (f ρ s).bind ahh
theorem aba{d:D}{xs:List ae}(r:RD K as H v d)(e:sqD d=some (b,xs)): ∃l vs,v=.ref l/\(∀as2 H2,Step0 as H as2 H2 -> SqB K b H2 l vs)/\TDs as H vs xs:=by
 cases d with
 | da d=>
  cases d with
  |list zs=>
   cases e
   obtain⟨l,vs,rfl,n,q,t⟩:=r.lst_inv
   exact⟨l,vs,rfl,fun as2 H2 st=> SqL.of (st.keep _ _ n q),t⟩
  | tuple zs=>
   cases e
   cases r with
   |da t=> cases t with
    |tup n q t=> exact⟨_,_,rfl,fun as2 H2 st=> SqT.of (st.keep _ _ n q),t⟩
  |_=> cases e
 |_=> cases e
theorem avq{x1:Nat}{tp:Pos}{a b:Expr}{p:Pos}(hm:X.mg "zip"=none)(h:RA X [a,b] f)(hg:Gl X "zip":=by rfl)(hs:starEach [a,b] X.env=[(false,eval a X.env),(false,eval b X.env)]:=by rfl)(hs2:starEach [b] X.env=[(false,eval b X.env)]:=by rfl):
  RI X (.Tuple es x1 tp) (.Call (.Name "zip" p) [a,b] [] pos) (an5 f):=by
 obtain⟨t,pa,ra⟩:=h.ex
 refine⟨_,av0 hg hm pa hs hs2,fun as σ H ρ s Q rl en h=> ?_⟩
 refine ra as σ H ρ s _ rl en (Dn.bind h fun ds s1 as1 H1 vs st1 rl1 r1 h1=> ?_)
 unfold ahh at h1
 split at h1
 ·split at h1
  ·rename_i da db _ xd bx _ yd ea eb
   obtain⟨v,w,rfl,rv,rw⟩:=r1.two
   obtain⟨l1,xs,rfl,k1,t1⟩:=aba rv ea
   obtain⟨l2,ys,rfl,k2,t2⟩:=aba rw eb
   refine⟨l1,l2,xs,ys,_,_,rfl,k1 as1 H1 (Step.refl _ _).toStep0,k2 as1 H1 (Step.refl _ _).toStep0,Dn.now (Q:=Q) h1 rl1 ?_⟩
   intro as2 H2 s2 st2 rl2 _ i
   have sq1:=k1 as2 H2 st2
   have sq2:=k2 as2 H2 st2
   have u1:=t1.mono0 st2
   have u2:=t2.mono0 st2
   refine⟨fun hl=> ⟨xs,ys,sq1,sq2,?_⟩,fun d hd=> ?_⟩
   ·simp only [ak,List.length_zip]at hl
    rw [u1.length,u2.length]
    lia
   ·rw [aV]at hd
    cases q:(List.zip _ _)[i]? with
    |none=> rw [q]at hd;cases hd
    |some pr=>
     rw [q]at hd
     cases hd
     rw [List.getElem?_zip_eq_some]at q
     obtain⟨x,hx,rx⟩:=u1.get q.1
     obtain⟨y,hy,ry⟩:=u2.get q.2
     refine⟨⟨xs,ys,x,y,sq1,sq2,hx,hy⟩,fun vv H3 hv=> ?_⟩
     obtain⟨T,rfl,hT⟩:=hv
     obtain⟨x',y',hx',hy',nw⟩:=hT xs ys sq1 sq2
     rw [hx]at hx';cases hx'
     rw [hy]at hy';cases hy'
     exact⟨jy nw,rl2.new nw,.da (.tup (fun z=> rl2.has z nw.no) nw.at (.cons (rx.mono (jy nw)) (.cons (ry.mono (jy nw)) .nil)))⟩
  ·exact h1.elim
 ·exact h1.elim
def aag:GM:=fun d ds s=> match ds with
 |[]=> onL d s fun n xs=>.ok .non (s.set n (.lst xs.reverse))
 |_=>.bad
theorem RDs.rev{K:am}{as:As}{H:Hp}: ∀{vs:List V} {ds:List D},RDs K as H vs ds -> RDs K as H vs.reverse ds.reverse
 |_,_,.nil=>.nil
 |_,_,.cons a r=> by
  (rw [eM,eM])
  exact (RDs.rev r).append (.cons a .nil)
theorem ap5:MB X "list.reverse" aag:=⟨_,amu,fun as H s x xs d ds Q rl r rs h=> by
 unfold aag at h
 split at h
 ·cases rs
  obtain⟨p,n,ys,es,rfl,ha,hy,re,h⟩:=abb rl r h
  exact⟨p,ys,rfl,rfl,hy,abi (o:=.lst []) rl ha ⟨rfl⟩ re.rev (.da .non) h⟩
 ·exact h.elim⟩
def ad0:GM:=fun d ds s=> match ds with
 |[]=> onL d s fun n _=>.ok .non (s.set n (.lst []))
 |_=>.bad
theorem aw7:MB X "list.clear" ad0:=⟨_,asf,fun as H s x xs d ds Q rl r rs h=> by
 unfold ad0 at h
 split at h
 ·cases rs
  obtain⟨p,n,ys,es,rfl,ha,hy,re,h⟩:=abb rl r h
  exact⟨p,ys,rfl,rfl,hy,abi (o:=.lst []) rl ha ⟨rfl⟩ RDs.nil (.da .non) h⟩
 ·exact h.elim⟩
end PF
namespace L2
open PySem PySem.Spec PyProof.Rows
noncomputable def kq{α:Type}(xs:List α)(lo st:Int):List α:=
 (sliceRange (ci (some lo) none (some st) xs.length).1 (ci (some lo) none (some st) xs.length).2.1 (ci (some lo) none (some st) xs.length).2.2).filterMap (xs[·]?)
theorem ad6{xs:List V}{us:List ac}(r:jg xs us): ∀is:List Nat,jg (is.filterMap (xs[·]?)) (is.filterMap (us[·]?))
 |[]=>.nil
 | i::is=> by
  rw [bY,bY]
  have hl:=r.length
  by_cases c:i < xs.length
  ·have e1:xs[i]?=some xs[i]:=ax c
   obtain⟨u,hu,ru⟩:=r.get e1
   rw [e1,hu]
   exact .cons ru (ad6 r is)
  ·rw [cv (by lia),cv (by lia)]
   exact ad6 r is
theorem ai5(us:List ac)(lo st:Int):jM us.toArray (some lo) none (some st)=(kq us lo st).toArray:=by
 unfold jM kq
 rw [au]
 simp
section
variable{X:Cx}{e lo st:Expr}{te tl ts:TE}{p2 pos:Pos}
def a21(K:am)(te tl ts:TE):TE:=fun σ H Q=> te σ H fun x H1=> tl σ H1 fun y H2=> ts σ H2 fun z H3=> ∃a xs i k,x=.ref a/\y=.int i/\z=.int k/\k≠0/\SqL K H3 a xs/\ ∀p H',New H3 p (.lst (kq xs i k)) H' -> Q (.ref p) H'
theorem axe(he:PE X e te)(hl:PE X lo tl)(hst:PE X st ts):PE X (.Subscript e (.Slice (some lo) none (some st) p2) pos) (a21 X.K te tl ts):=by
 refine⟨?_⟩
 intro pins s σ H Q I h
 refine Subscript_ (thn (he pins s σ H _ I h) fun v s1 ⟨x,H1,I1,r1,q1⟩=> ?_)
 refine wpAny_Slice ?_
 refine thn (hl pins s1 σ H1 _ I1 q1) fun lv s2 ⟨y,H2,I2,r2,q2⟩=> ?_
 rw [i4]
 refine aj ?_
 refine thn (hst pins s2 σ H2 _ I2 q2) fun sv s3 ⟨z,H3,I3,r3,a,xs,i,k,ex,ey,ez,hk,hq,q⟩=> ?_
 subst ex ey ez
 cases r1
 obtain⟨tk,rfl⟩:=r2
 obtain⟨tk2,rfl⟩:=r3
 have I4:Inv X pins σ H3 {s3 with heap:=s3.heap.push {cls:=.type "slice",data:=.fields #[.int i tk,.none,.int k tk2]}}:=I3.kept (t':=s3.toks) fun b ob q=> ag _ q
 obtain⟨its,rv,ht,hz⟩:=I4.list hq
 have hlen:=rv.length
 show wpAny (model X.prog X.w) X.A (i5 e (.Slice (some lo) none (some st) p2) (.ref a) (.ref s3.heap.objs.size)) (EP X pins σ Q) X.xe {s3 with heap:=s3.heap.push {cls:=.type "slice",data:=.fields #[.int i tk,.none,.int k tk2]}}
 refine tail_any (ops:=[.ref a,.ref s3.heap.objs.size]) ht.isList.typeIs gG.lookup ?_ (by with_unfolding_all rfl)
 refine gU (lo:=some i) (hi:=none) (st:=some k) ht.isList (Heap.IsSliceOf.new ..) (.int ..) .none (.int ..) (by simpa using hk) ?_ (by rw [au];lia)
 rw [ai5]
 have hle:(kq its i k).length <=its.length:=by
  have:=slicePick_size_le its.toArray (some i) none (some k)
  rw [ai5]at this
  simpa using this
 have rp:jg (kq xs i k) (kq its i k):=by
  unfold kq
  rw [hlen]
  exact ad6 rv _
 refine⟨.ref _,_,I4.laid (t':=s3.toks) (o:=.lst (kq xs i k)) (fun b ob q=> ag _ q) (aq _) ?_,rfl,q _ _ ⟨I4.hok.fresh (aq _),rfl⟩⟩
 have:=rp.length
 exact⟨by lia,_,0,rp,aC _ rfl⟩
end
end L2
namespace PF
open PySem PySem.Spec
open L2
def ae4(m:Bool)(d l k:D)(s:S):R D:=match l,k with
 |.int i,.int j=> match toL s d with
  |some ds=> if j≠0 then kc m (kq ds i j) s else .bad
  |none=>.bad
 |_,_=>.bad
def amr(m:Bool)(fa fl fs:FE):FE:=fun ρ s=> (fa ρ s).bind fun d s1=> (fl ρ s1).bind fun l s2=> (fs ρ s2).bind fun k s3=> ae4 m d l k s3
theorem RDs.pick{K:am}{as:As}{H:Hp}{xs:List V}{ds:List D}(r:RDs K as H xs ds): ∀is:List Nat,RDs K as H (is.filterMap (xs[·]?)) (is.filterMap (ds[·]?))
 |[]=>.nil
 | i::is=> by
  rw [bY,bY]
  have hl:=r.length
  by_cases c:i < ds.length
  ·have e1:ds[i]?=some ds[i]:=ax c
   obtain⟨u,hu,ru⟩:=r.get e1
   rw [e1,hu]
   exact .cons ru (RDs.pick r is)
  ·rw [cv (by lia),cv (by lia)]
   exact RDs.pick r is
theorem ayo(m:Bool){a lo st:Expr}{fl fs:FE}{p2:Pos}(ha:RE X a fa)(hl:RE X lo fl)(hs:RE X st fs):RE X (.Subscript a (.Slice (some lo) none (some st) p2) pos) (amr m fa fl fs):=by
 obtain⟨ta,pa,ra⟩:=ha.ex
 obtain⟨tl,pl,rl0⟩:=hl.ex
 obtain⟨tb,pb,rb⟩:=hs.ex
 refine⟨_,axe pa pl pb,fun as σ H ρ s Q rl en h=> ?_⟩
 refine ra as σ H ρ s _ rl en (Dn.bind h fun d s1 as1 H1 v st1 rl1 r1 h1=> ?_)
 refine rl0 as1 σ H1 ρ s1 _ rl1 (en.mono st1) (Dn.bind h1 fun l s2 as2 H2 w st2 rl2 r2 h2=> ?_)
 refine rb as2 σ H2 ρ s2 _ rl2 ((en.mono st1).mono st2) (Dn.bind h2 fun k s3 as3 H3 w' st3 rl3 r3 h3=> ?_)
 unfold ae4 at h3
 split at h3
 ·split at h3
  ·rename_i ds e
   split at h3
   ·rename_i hj
    cases (r2.mono st3).int_inv
    cases r3.int_inv
    obtain⟨p,xs,rfl,hx,rs⟩:=yv rl3 ((r1.mono st2).mono st3) e
    refine⟨p,xs,_,_,rfl,rfl,rfl,hj,SqL.of hx,fun q H' nw=> ?_⟩
    refine yk h3 rl3 ?_ nw
    unfold kq
    rw [rs.length]
    exact rs.pick _
   ·exact h3.elim
  ·exact h3.elim
 ·exact h3.elim
end PF
namespace L2
open PySem PySem.Spec PyProof.Rows
open Sem (wp)
abbrev az1(h:Heap)(z TI TO T:Addr)(f:Bool):Prop:=h.get? z=some {cls:=.type "zip",dict:=none,data:=.fields #[rawInt T,.bool f,.bool false,.ref TI,.ref TO],slots:= #[]}
structure ZB (b1 b2:Bool) (l1 l2 z TI TO i1 i2 T:Addr) (k:Nat) (h:Heap):Prop where
 ap:ZipApart z TI TO i1 i2 l1 l2
 oz: ∃f,az1 h z TI TO T f
 oi:c5 h TI (.ref i1) (.ref i2)
 al: ∃o,h.get? T=some o
 tz:T≠z/\T≠i1/\T≠i2
 c1:j9 b1 h i1 l1 k
 c2:j9 b2 h i2 l2 k
section
variable{P:aR}{w:aT}{A:aZ}{E:ac -> ah -> Prop}{s:ah}
theorem alive{a:Addr}{o:Obj}{Q:Option Obj -> ah -> Prop}(h:s.heap.get? a=some o)(q:Q (some o) s):wpAny (model P w) A (iu a) Q E s:=by
 refine fun Γ p _=> ?_
 unfold iu
 rw [Sem.wp_loadIfAlive,h]
 simpa using q
theorem aks{ys:Array ac}{x y:ac}{F:ac -> Option cc×Array ac -> Sem (ForInStep (Option cc×Array ac))}{G:Option cc×Array ac -> Sem cc}{dr:ac -> Sem (Option ac)}{H:Option cc×Array ac -> Option ac -> Sem (ForInStep (Option cc×Array ac))}(n12:i1≠i2)(c1:j9 b1 s.heap i1 l1 k)(c2:j9 b2 s.heap i2 l2 k)(hl1:jq b1 s.heap l1 xs)(hl2: ∀h',bh i1 s.heap h' -> jq b2 h' l2 ys)(hx:xs[k]?=some x)(hy:ys[k]?=some y)(hQ: ∀h',j9 b1 h' i1 l1 (k+1) -> j9 b2 h' i2 l2 (k+1) -> c5 h' s.heap.objs.size x y -> (∀c o,c≠i1 -> c≠i2 -> s.heap.get? c=some o -> h'.get? c=some o) -> Q (.ref s.heap.objs.size) {s with heap:=h'})(hF: ∀it p,F it p=holding p.2.toList (dr it)>>=H p)(hd: ∀it,dr it=do let u←bB it;pure (some u))(hH: ∀p x,H p (some x)=pure (.yield (none,p.2.push x)))(hG: ∀a,G (none,a)=do let t←newTuple a.toList;ret t):
  wpAny (model P w) A (forIn #[a8 i1,a8 i2] (none,#[]) F >>=G) (fun fin s'=> ∃v,fin=.done (.ret v)/\Q v s') E s:=by
 rw [show (#[a8 i1,a8 i2]:Array ac)=[a8 i1,a8 i2].toArray from rfl,List.forIn_toArray]
 simp only [eg,ga,hF,hd]
 refine aa (aa (aa (aW (aa (qy c1 hl1 hx fun g1 d1 e1=> aj ?_)))))
 rw [hH]
 refine aj ?_
 refine aa (aa (aW (aa (qy (s:={s with heap:=g1}) (c2.to fun o=> e1.extBut _ _ n12.symm) (hl2 g1 e1) hy fun g2 d2 e2=> aj ?_))))
 rw [hH]
 (refine aj (aj ?_))
 rw [hG]
 have e2:bh i2 g1 g2:=e2
 refine aa (f8 (aj ⟨_,rfl,?_⟩) (by show 2 <=sizeLine;decide))
 have sz:g2.objs.size=s.heap.objs.size:=by rw [e2.1,e1.1]
 show Q (.ref g2.objs.size) _
 rw [sz]
 refine hQ _ (d1.to fun o q=> ag _ (e2.extBut _ _ n12 q)) (d2.to fun o q=> ag _ q) ?_ fun c o a1 a2 q=> ag _ (e2.extBut _ _ a2 (e1.extBut _ _ a1 q))
 rw [←sz];exact aC _ rfl
theorem auu{z TI TO T:Addr}{ys:Array ac}{x y:ac}(Z:ZB b1 b2 l1 l2 z TI TO i1 i2 T k s.heap)(hl1:jq b1 s.heap l1 xs)(hl2:jq b2 s.heap l2 ys)(hx:xs[k]?=some x)(hy:ys[k]?=some y)(hQ: ∀h',ZB b1 b2 l1 l2 z TI TO i1 i2 T (k+1) h' -> c5 h' s.heap.objs.size x y ->
   (∀c o,c≠z -> c≠i1 -> c≠i2 -> s.heap.get? c=some o -> h'.get? c=some o) -> Q (.ref s.heap.objs.size) {s with heap:=h'}):
  wpAny (model P w) A (cf.«zip.__next__» ⟨[.ref z],[]⟩) (fun fin s'=> ∃v,fin=.done (.ret v)/\Q v s') E s:=by
 obtain⟨ap,⟨f,oz⟩,oi,⟨oT,al⟩,⟨tz,t1,t2⟩,c1,c2⟩:=Z
 (show wpAny _ _ (field (.ref z) 2 >>=_) _ _ _);refine aa (aP oz rfl (x:=.bool false) rfl ?_)
 (show wpAny _ _ (field (.ref z) 3 >>=_) _ _ _);refine aa (aP oz rfl (x:=.ref TI) rfl (aa (bW oi rfl ?_)))
 (show wpAny _ _ (bJ (.ref z)>>=_) _ _ _);refine aa (aa (aP oz rfl (x:=rawInt T) rfl ?_))
 (show wpAny _ _ (iu (T:Int).toNat >>=_) _ _ _);refine aa ?_
 rw [ca]
 refine alive al ?_
 refine aa (aP oz rfl (x:=.bool f) rfl ?_)
 have key: ∀g0:Heap,az1 g0 z TI TO T true -> bh z s.heap g0 -> ∀g2:Heap,j9 b1 g2 i1 l1 (k+1) -> j9 b2 g2 i2 l2 (k+1) -> c5 g2 g0.objs.size x y -> (∀c o,c≠i1 -> c≠i2 -> g0.get? c=some o -> g2.get? c=some o) -> Q (.ref g0.objs.size) {s with heap:=g2}:=by
  intro g0 oz0 e0 g2 d1 d2 pr kp
  rw [e0.1]at pr⊢
  exact hQ g2 ⟨ap,⟨true,kp _ _ ap.i1z.symm ap.i2z.symm oz0⟩,kp _ _ ap.TIi1 ap.TIi2 (e0.extBut _ _ ap.TIz oi),⟨oT,kp _ _ t1 t2 (e0.extBut _ _ tz al)⟩,⟨tz,t1,t2⟩,d1,d2⟩ pr fun c o a1 a2 a3 q=> kp c o a2 a3 (e0.extBut _ _ a1 q)
 cases f
 ·refine aa (bo oz (by simp) fun g0 oz0 e0=> aj ?_)
  refine aks (s:={s with heap:=g0}) ap.i12 (c1.to fun o=> e0.extBut _ _ ap.i1z) (c2.to fun o=> e0.extBut _ _ ap.i2z) (hl1.to fun o=> e0.extBut _ _ ap.l1z) (fun h' q=> hl2.to fun o z=> q.extBut _ _ ap.l2i1 (e0.extBut _ _ ap.l2z z)) hx hy (key g0 oz0 e0) (fun _ _=> rfl) (fun _=> rfl) (fun _ _=> rfl) (fun _=> rfl)
 ·refine aj ?_
  refine aks ap.i12 c1 c2 hl1 (fun h' q=> hl2.to fun o z=> q.extBut _ _ ap.l2i1 z) hx hy (key s.heap oz ⟨rfl,fun _ _=> rfl⟩) (fun _ _=> rfl) (fun _=> rfl) (fun _ _=> rfl) (fun _=> rfl)
theorem adu{ys:Array ac}{Q:cc -> ah -> Prop}{F:ac -> Option cc×Array ac -> Sem (ForInStep (Option cc×Array ac))}{G:Option cc×Array ac -> Sem cc}{dr:ac -> Sem (Option ac)}{H:Option cc×Array ac -> Option ac -> Sem (ForInStep (Option cc×Array ac))}(hh:A.handled=none)(n12:i1≠i2)(c1:j9 b1 s.heap i1 l1 k)(c2:j9 b2 s.heap i2 l2 k)(hl1:jq b1 s.heap l1 xs)(hl2: ∀h',bh i1 s.heap h' -> jq b2 h' l2 ys)(hx:xs[k]?=none\/ys[k]?=none)(hE: ∀h' e,(∀c o,c≠i1 -> c≠i2 -> s.heap.get? c=some o -> h'.get? c=some o) -> (∃o,h'.get? e=some o/\o.cls=.type "StopIteration") -> E (.ref e) {s with heap:=h'})(hF: ∀it p,F it p=holding p.2.toList (dr it)>>=H p)(hd: ∀it,dr it=do let u←bB it;pure (some u))(hH: ∀p x,H p (some x)=pure (.yield (none,p.2.push x))):
  wpAny (model P w) A (forIn #[a8 i1,a8 i2] (none,#[]) F >>=G) Q E s:=by
 rw [show (#[a8 i1,a8 i2]:Array ac)=[a8 i1,a8 i2].toArray from rfl,List.forIn_toArray]
 simp only [eg,ga,hF,hd]
 cases q:xs[k]? with
 |none=> exact aa (aa (aa (aW (aa (y1 hh c1 hl1 q fun h' e kp z=> hE h' e (fun c o a1 _=> kp c o a1) z)))))
 |some x=>
  have hy:ys[k]?=none:=hx.elim (fun h=> by rw [q]at h;cases h) id
  refine aa (aa (aa (aW (aa (qy c1 hl1 q fun g1 d1 e1=> aj ?_)))))
  rw [hH]
  refine aj ?_
  exact aa (aa (aW (aa (y1 (s:={s with heap:=g1}) hh (c2.to fun o=> e1.extBut _ _ n12.symm) (hl2 g1 e1) hy fun h' e kp z=> hE h' e (fun c o a1 a2 r=> kp c o a2 (e1.extBut _ _ a1 r)) z))))
theorem asp{z TI TO T:Addr}{ys:Array ac}{Q:cc -> ah -> Prop}(hh:A.handled=none)(Z:ZB b1 b2 l1 l2 z TI TO i1 i2 T k s.heap)(hl1:jq b1 s.heap l1 xs)(hl2:jq b2 s.heap l2 ys)(hx:xs[k]?=none\/ys[k]?=none)(hE: ∀h' e,(∀c o,c≠z -> c≠i1 -> c≠i2 -> s.heap.get? c=some o -> h'.get? c=some o) -> (∃o,h'.get? e=some o/\o.cls=.type "StopIteration") -> E (.ref e) {s with heap:=h'}):
  wpAny (model P w) A (cf.«zip.__next__» ⟨[.ref z],[]⟩) Q E s:=by
 obtain⟨ap,⟨f,oz⟩,oi,⟨oT,al⟩,⟨tz,t1,t2⟩,c1,c2⟩:=Z
 (show wpAny _ _ (field (.ref z) 2 >>=_) _ _ _);refine aa (aP oz rfl (x:=.bool false) rfl ?_)
 (show wpAny _ _ (field (.ref z) 3 >>=_) _ _ _);refine aa (aP oz rfl (x:=.ref TI) rfl (aa (bW oi rfl ?_)))
 (show wpAny _ _ (bJ (.ref z)>>=_) _ _ _);refine aa (aa (aP oz rfl (x:=rawInt T) rfl ?_))
 (show wpAny _ _ (iu (T:Int).toNat >>=_) _ _ _);refine aa ?_
 rw [ca]
 refine alive al ?_
 refine aa (aP oz rfl (x:=.bool f) rfl ?_)
 cases f
 ·refine aa (bo oz (by simp) fun g0 oz0 e0=> aj ?_)
  exact adu (s:={s with heap:=g0}) hh ap.i12 (c1.to fun o=> e0.extBut _ _ ap.i1z) (c2.to fun o=> e0.extBut _ _ ap.i2z) (hl1.to fun o=> e0.extBut _ _ ap.l1z) (fun h' q=> hl2.to fun o z=> q.extBut _ _ ap.l2i1 (e0.extBut _ _ ap.l2z z)) hx (fun h' e kp q=> hE h' e (fun c o a1 a2 a3 r=> kp c o a2 a3 (e0.extBut _ _ a1 r)) q) (fun _ _=> rfl) (fun _=> rfl) (fun _ _=> rfl)
 ·refine aj ?_
  exact adu hh ap.i12 c1 c2 hl1 (fun h' q=> hl2.to fun o z=> q.extBut _ _ ap.l2i1 z) hx (fun h' e kp q=> hE h' e (fun c o a1 a2 a3 r=> kp c o a2 a3 r) q) (fun _ _=> rfl) (fun _=> rfl) (fun _ _=> rfl)
def ZN(b1 b2:Bool)(l1 l2 z TI TO i1 i2:Addr)(k:Nat)(h:Heap):Prop:=ZAt b1 b2 l1 l2 z TI TO i1 i2 .none k k h\/ ∃T,ZB b1 b2 l1 l2 z TI TO i1 i2 T k h
theorem a02{z TI TO:Addr}{ys:Array ac}{x y:ac}{Q:Option ac -> ah -> Prop}(Z:ZN b1 b2 l1 l2 z TI TO i1 i2 k s.heap)(hl1:jq b1 s.heap l1 xs)(hl2:jq b2 s.heap l2 ys)(hx:xs[k]?=some x)(hy:ys[k]?=some y)(hQ: ∀h',ZN b1 b2 l1 l2 z TI TO i1 i2 (k+1) h' -> c5 h' s.heap.objs.size x y -> (∀c o,c≠z -> c≠TO -> c≠i1 -> c≠i2 -> s.heap.get? c=some o -> h'.get? c=some o) -> Q (some (.ref s.heap.objs.size)) {s with heap:=h'}):
  wpAny (model P w) A (pyNext (.ref z)) Q E s:=by
 rcases Z with Z|⟨T,Z⟩
 ·refine ali Z hl1 hl2 hx hy fun h' Z' pr kp=> hQ h' (.inr ⟨_,Z'.ap,⟨false,Z'.oz⟩,Z'.oi,⟨_,pr⟩,⟨?_,?_,?_⟩,Z'.c1,Z'.c2⟩) pr kp
  ·exact dB (aB Z.oz)
  ·obtain⟨_,e,_⟩:=Z.c1.obj;exact dB (aB e)
  ·obtain⟨_,e,_⟩:=Z.c2.obj;exact dB (aB e)
 ·have hT:s.TypeIs (.ref z) "zip":=let ⟨_,h⟩:=Z.oz;⟨_,h,rfl⟩
  exact aa (d8 (bp (name:=aA "__next__") hT cG (bz cG hT fw (auu Z hl1 hl2 hx hy fun h' a1 a2 a3=> aj (hQ h' (.inr ⟨_,a1⟩) a2 fun c o b1 b2 b3 b4=> a3 c o b1 b3 b4)) (eQ _))))
theorem anv{z TI TO:Addr}{ys:Array ac}{Q:Option ac -> ah -> Prop}(hh:A.handled=none)(Z:ZN b1 b2 l1 l2 z TI TO i1 i2 k s.heap)(hl1:jq b1 s.heap l1 xs)(hl2:jq b2 s.heap l2 ys)(hx:xs[k]?=none\/ys[k]?=none)(hQ: ∀h',(∀c o,c≠z -> c≠TO -> c≠i1 -> c≠i2 -> s.heap.get? c=some o -> h'.get? c=some o) -> Q none {s with heap:=h'}):wpAny (model P w) A (pyNext (.ref z)) Q E s:=by
 rcases Z with Z|⟨T,Z⟩
 ·exact aj9 hh Z hl1 hl2 hx hQ
 ·have hT:s.TypeIs (.ref z) "zip":=let ⟨_,h⟩:=Z.oz;⟨_,h,rfl⟩
  exact aa (d8 (bp (name:=aA "__next__") hT cG (bz cG hT fw (asp hh Z hl1 hl2 hx fun h' e hk ⟨o,ho,hc⟩=>
   aa (fj (T:="StopIteration") (b:=true) ⟨o,ho,hc⟩ iI (aj (hQ _ fun c o b1 b2 b3 b4=> hk c o b1 b3 b4)))) (eQ _))))
end
inductive ZipN:Hp -> List V -> List V -> List V -> Hp -> Prop
 |nil {H:Hp}:ZipN H [] [] [] H
 |snoc {H H1 H2:Hp} {xs ys vs:List V} {x y:V} {T:Addr}:ZipN H xs ys vs H1 -> New H1 T (.tup [x,y]) H2 -> ZipN H (xs++ [x]) (ys++ [y]) (vs++ [.ref T]) H2
theorem take_snoc{α:Type}{l:List α}{x:α}(h:l[k]?=some x):l.take (k+1)=l.take k++ [x]:=by
 rw [List.take_succ,h];rfl
noncomputable def zL(a:Array ac)(c:Nat):Obj:={cls:=.type "list",dict:=none,data:=.seq a c,slots:= #[]}
theorem SqB.grow{H':Hp}{a:Addr}{xs:List V}(q:SqB K b H a xs)(k: ∀o,H a=some o -> H' a=some o):SqB K b H' a xs:=by
 cases b with
 |true=>
  rcases (show SqL K H a xs from q) with (h|h)|h
  ·exact .inl (.inl (k _ h))
  ·obtain⟨o,h⟩:=h;exact .inl (.inr ⟨o,k _ h⟩)
  ·exact .inr h
 |false=>
  rcases (show SqT K H a xs from q) with (h|h)|h
  ·exact .inl (.inl (k _ h))
  ·obtain⟨o,h⟩:=h;exact .inl (.inr ⟨o,k _ h⟩)
  ·exact .inr h
theorem avp{R:Result -> ah -> Prop}{z TI TO S:Addr}{xs ys:List V}{H0:Hp}(hh:A.handled=none)(hn1:n <=xs.length)(hn2:n <=ys.length)(hn:n=xs.length\/n=ys.length)(hz:n <=sizeLine)(hS1:S∉ [z,TI,TO,i1,i2])(res:ac)(hR: ∀(s':ah) (H':Hp) (vs:List V) (acc:Array ac) (c:Nat),Inv X pins σ H' s' -> ZipN H0 (xs.take n) (ys.take n) vs H' -> s'.heap.get? S=some (zL acc c) -> jg vs acc.toList -> R (.ok (.ret res)) s'):
  ∀(m k:Nat) (s:ah) (H:Hp) (vs:List V) (acc:Array ac) (c:Nat),n - k=m -> k <=n -> Inv X pins σ H s -> (∀b∈ [S,z,TI,TO,i1,i2],v7 X pins H b/\b < s.heap.objs.size) -> ZN b1 b2 l1 l2 z TI TO i1 i2 k s.heap -> SqB X.K b1 H l1 xs -> SqB X.K b2 H l2 ys -> s.heap.get? S=some (zL acc c) -> jg vs acc.toList -> vs.length=k -> ZipN H0 (xs.take k) (ys.take k) vs H ->
   codeAny (model P w) A (.builtin "list.extend.loop" ⟨[.ref S,.ref z,res],[]⟩) R s:=by
 intro m
 induction m with
 | zero=>
  intro k s H vs acc c hm hk I hf Z q1 q2 hS ra hl zn
  have hkn:k=n:=by lia
  subst hkn
  (refine b7 gN ?_)
  (rw [bS c8 _])
  (show wpAny _ A.in1 (pyNext (.ref z)>>=_) _ _ s);refine aa ?_
  obtain⟨its1,rv1,p1⟩:=I.seqB q1
  obtain⟨its2,rv2,p2⟩:=I.seqB q2
  have e1:=rv1.length
  have e2:=rv2.length
  refine anv (by exact hh) Z p1 p2 ?_ fun h' kp=> aj ?_
  ·rcases hn with q|q
   ·exact .inl (by simp;lia)
   ·exact .inr (by simp;lia)
  ·have I2:=I.turnedL (h':=h') (t':=s.toks) (ch:=[z,TO,i1,i2]) (fun b o hb e=> kp b o (fun y=> hb (by simp [y])) (fun y=> hb (by simp [y])) (fun y=> hb (by simp [y])) (fun y=> hb (by simp [y])) e) fun b hb=> (hf b (by simp only [aE,bg,or_false]at hb⊢;rcases hb with h|h|h|h <;> simp [h])).1
   refine hR _ H vs acc c I2 zn (kp S _ ?_ ?_ ?_ ?_ hS) ra <;> (intro e;exact hS1 (by simp [e]))
 | succ m ih=>
  intro k s H vs acc c hm hk I hf Z q1 q2 hS ra hl zn
  have hlt:k < n:=by lia
  (refine b7 gN ?_)
  (rw [bS c8 _])
  (show wpAny _ A.in1 (pyNext (.ref z)>>=_) _ _ s);refine aa ?_
  obtain⟨its1,rv1,p1⟩:=I.seqB q1
  obtain⟨its2,rv2,p2⟩:=I.seqB q2
  obtain⟨x,hx⟩: ∃x,xs[k]?=some x:=⟨_,ax (by lia)⟩
  obtain⟨y,hy⟩: ∃y,ys[k]?=some y:=⟨_,ax (by lia)⟩
  obtain⟨u1,hu1,ru1⟩:=rv1.get hx
  obtain⟨u2,hu2,ru2⟩:=rv2.get hy
  refine a02 Z p1 p2 (x:=u1) (y:=u2) (by simpa using hu1) (by simpa using hu2) fun h' Z' pr kp=> ?_
  have I1:Inv X pins σ (upd H s.heap.objs.size (.tup [x,y])) {s with heap:=s.heap.push {cls:=.type "tuple",data:=.seq #[u1,u2]},toks:=s.toks}:=
   I.laid (fun b u e=> ag _ e) (aq _) ⟨by show 2 <=sizeLine;decide,[u1,u2],.cons ru1 (.cons ru2 .nil),⟨_,aC _ rfl⟩⟩
  have nT: ∀b∈ [S,z,TI,TO,i1,i2],v7 X pins (upd H s.heap.objs.size (.tup [x,y])) b:=fun b hb=> by
   refine⟨?_,(hf b hb).1.2⟩
   rw [j6 (aM (hf b hb).2)];exact (hf b hb).1.1
  have sub: ∀b∈ [z,TO,i1,i2],b∈ [S,z,TI,TO,i1,i2]:=fun b hb=> by
   simp only [aE,bg,or_false]at hb⊢
   rcases hb with h|h|h|h <;> simp [h]
  have I2:=I1.turnedL (h':=h') (t':=s.toks) (ch:=[z,TO,i1,i2]) (fun b o hb e=> by
   by_cases hT:b=s.heap.objs.size
   ·subst hT
    rw [aC _ rfl]at e
    cases e
    exact pr
   ·rw [cI _ _ _ hT]at e
    exact kp b o (fun y=> hb (by simp [y])) (fun y=> hb (by simp [y])) (fun y=> hb (by simp [y])) (fun y=> hb (by simp [y])) e) fun b hb=> nT b (sub b hb)
  have hS':h'.get? S=some (zL acc c):=by
   refine kp S _ ?_ ?_ ?_ ?_ hS <;> (intro e;exact hS1 (by simp [e]))
  have lacc:acc.size=k:=by have:=ra.length;rw [hl,aX]at this;exact this.symm
  have gr:s.heap.objs.size < h'.objs.size:=aB pr
  (show wpAny _ A.in1 (updateSeq S (·.push (.ref s.heap.objs.size))>>=_) _ _ _);refine aa ?_
  refine fJ hS' rfl (aj ⟨d7 c8 _,?_⟩) (by rw [lacc];lia) (by show (acc.push _).size <=sizeLine+1;rw [Array.size_push,lacc];lia)
  have up: ∀b,b≠S -> (h'.update S (bD fun x=> x.push (.ref s.heap.objs.size))).get? b=h'.get? b:=fun b hb=> cP _ _ (cV hb)
  have I3:=I2.turnedL (h':=h'.update S (bD fun x=> x.push (.ref s.heap.objs.size))) (t':=s.toks) (ch:=[S]) (fun b o hb e=> (up b fun y=> hb (by simp [y])).trans e) fun b hb=> nT b (by simp only [aE,bg,or_false]at hb;simp [hb])
  refine ih (k+1) _ _ (vs++ [.ref s.heap.objs.size]) (acc.push (.ref s.heap.objs.size)) _ (by lia) hlt I3 (fun b hb=> ⟨nT b hb,?_⟩) ?_ (SqB.grow q1 ?_) (SqB.grow q2 ?_) (cq _ hS' rfl) ?_ (by rw [aH,hl];rfl) ?_
  ·show b < (h'.update S _).objs.size
   rw [cN]
   exact jN (hf b hb).2 gr
  ·rcases Z' with Z'|⟨T,Z'⟩
   ·refine .inl ⟨Z'.ap,?_,?_,?_,Z'.c1.to fun o e=> ?_,Z'.c2.to fun o e=> ?_⟩
    ·exact (up z fun e=> hS1 (by simp [e])).trans Z'.oz
    ·exact (up TI fun e=> hS1 (by simp [e])).trans Z'.oi
    ·obtain⟨a,b,e⟩:=Z'.oo
     exact⟨a,b,(up TO fun e=> hS1 (by simp [e])).trans e⟩
    ·exact (up i1 fun e=> hS1 (by simp [e])).trans e
    ·exact (up i2 fun e=> hS1 (by simp [e])).trans e
   ·refine .inr ⟨T,Z'.ap,?_,?_,?_,Z'.tz,Z'.c1.to fun o e=> ?_,Z'.c2.to fun o e=> ?_⟩
    ·obtain⟨f,e⟩:=Z'.oz
     exact⟨f,(up z fun e=> hS1 (by simp [e])).trans e⟩
    ·exact (up TI fun e=> hS1 (by simp [e])).trans Z'.oi
    ·obtain⟨o,e⟩:=Z'.al
     by_cases hTS:T=S
     ·subst hTS;exact⟨_,cq _ hS' rfl⟩
     ·exact⟨o,(up T hTS).trans e⟩
    ·exact (up i1 fun e=> hS1 (by simp [e])).trans e
    ·exact (up i2 fun e=> hS1 (by simp [e])).trans e
  ·exact fun o e=> by rw [j6 (fun z=> by subst z;rw [I.fresh]at e;cases e)];exact e
  ·exact fun o e=> by rw [j6 (fun z=> by subst z;rw [I.fresh]at e;cases e)];exact e
  ·rw [Array.toList_push]
   exact ra.append (.cons rfl .nil)
  ·rw [take_snoc hx,take_snoc hy]
   exact .snoc zn ⟨I.fresh,rfl⟩
theorem amz:iQ (.type "zip") "__len__"=pure none:=by rw [typeLookup_type,iJ];kernel_rfl
theorem ajw:iQ (.type "zip") "__length_hint__"=pure none:=by rw [typeLookup_type,iJ];kernel_rfl
theorem arf{s:ah}{Q:List ac -> ah -> Prop}{z TI TO:Addr}{xs ys:List V}(hh:A.handled=none)(hn1:n <=xs.length)(hn2:n <=ys.length)(hn:n=xs.length\/n=ys.length)(hz:n <=sizeLine)(I:Inv X pins σ H s)(hf: ∀b∈ [z,TI,TO,i1,i2],v7 X pins H b/\b < s.heap.objs.size)(Z:ZAt b1 b2 l1 l2 z TI TO i1 i2 .none 0 0 s.heap)(q1:SqB X.K b1 H l1 xs)(q2:SqB X.K b2 H l2 ys)(hQ: ∀(s':ah) (H':Hp) (vs:List V) (acc:Array ac),Inv X pins σ H' s' -> ZipN H (xs.take n) (ys.take n) vs H' -> jg vs acc.toList -> Q acc.toList s'):wpAny (model P w) A (collect (.ref z)) Q E s:=by
 have hSf:s.heap.objs.size∉ [z,TI,TO,i1,i2]:=fun hm=> bU _ (hf _ hm).2
 unfold collect
 refine aa (iF (b7 PySem.F.entry_proto_collect ?_))
 (rw [bS PySem.F.plain_proto_collect _])
 (show wpAny _ A.in1 (newList []>>=fun l=> again (.builtin "list.__iadd__" ⟨[l,.ref z],[]⟩)) _ _ s);refine aa (cH ?_)
 refine aj ⟨d7 hX _,b7 PySem.F.entry_list_iadd ?_⟩
 (rw [bS hX _])
 have Z1:ZAt b1 b2 l1 l2 z TI TO i1 i2 .none 0 0 (s.heap.push {cls:=.type "list",data:=.seq ([]:List ac).toArray}):=by
  obtain⟨ap,oz,oi,⟨a,b,oo⟩,c1,c2⟩:=Z
  exact⟨ap,ag _ oz,ag _ oi,⟨a,b,ag _ oo⟩,c1.to fun o=> ag _,c2.to fun o=> ag _⟩
 have I1:Inv X pins σ H {s with heap:=s.heap.push {cls:=.type "list",data:=.seq ([]:List ac).toArray}}:=I.kept (t':=s.toks) fun b o e=> ag _ e
 (show wpAny _ A.in1 (gu (.ref s.heap.objs.size) (.ref z) (.ref s.heap.objs.size)) _ _ _);unfold gu
 have hT:Shared.TypeIs {s with heap:=s.heap.push {cls:=.type "list",data:=.seq ([]:List ac).toArray}} (.ref z) "zip":=⟨_,Z1.oz,rfl⟩
 (refine aa (dF hT ?_))
 have h1:hU (.ref s.heap.objs.size) (.ref z)=false:=by
  have:s.heap.objs.size≠z:=fun e=> hSf (by simp [e])
  simp [hU,this]
 have h2:(bd "zip"==bd "list")=false:=by decide
 have h3:(bd "zip"==bd "tuple")=false:=by decide
 (simp only [h1,h2,h3,i6,bP,if_false])
 refine aa (hJ Z1.oz (aa (aW ?_)))
 (unfold Builtin.List.listLengthHint)
 refine aa (cA hT amz ?_)
 (show wpAny _ A.in1 (specialOf (a8 z) (aA "__length_hint__")>>=_) _ _ _);refine aa (cA hT ajw (aj ?_))
 (show wpAny _ A.in1 (rule "list.extend.makes-room" >>=fun _=> Builtin.List.listTouch (.ref s.heap.objs.size)>>=fun _=> again (.builtin "list.extend.loop" ⟨[.ref s.heap.objs.size,.ref z,.ref s.heap.objs.size],[]⟩)) _ _ _);refine aa (ck (aa ?_))
 have g1:(s.heap.push {cls:=.type "list",data:=.seq ([]:List ac).toArray}).get? s.heap.objs.size=some {cls:=.type "list",data:=.seq ([]:List ac).toArray}:=aC _ rfl
 (show wpAny _ A.in1 (updateSeq s.heap.objs.size (·.push .none)>>=fun _=> updateSeq s.heap.objs.size (·.pop)) _ _ _);refine aa (fJ g1 rfl ?_)
 have g2:=cq (bD (·.push aQ)) g1 rfl
 refine fJ g2 rfl ?_
 have g3:=cq (bD (·.pop)) g2 rfl
 have oth: ∀b o,b≠s.heap.objs.size -> (s.heap.push {cls:=.type "list",data:=.seq ([]:List ac).toArray}).get? b=some o -> (((s.heap.push {cls:=.type "list",data:=.seq ([]:List ac).toArray}).update s.heap.objs.size (bD (·.push aQ))).update s.heap.objs.size (bD (·.pop))).get? b=some o:=
  fun b o hb e=> (cP _ _ (cV hb)).trans ((cP _ _ (cV hb)).trans e) --
 have fS:v7 X pins H s.heap.objs.size:=I.fpOk (aq _) (I.hok.fresh (aq _))
 have I2:=I1.turnedL (h':=((s.heap.push {cls:=.type "list",data:=.seq ([]:List ac).toArray}).update s.heap.objs.size (bD (·.push aQ))).update s.heap.objs.size (bD (·.pop))) (t':=s.toks) (ch:=[s.heap.objs.size]) (fun b o hb e=> oth b o (fun y=> hb (by simp [y])) e) fun b hb=> by
  rw [bm.mp hb];exact fS
 have ne: ∀b∈ [z,TI,TO,i1,i2],b≠s.heap.objs.size:=fun b hb e=> hSf (e▸hb)
 refine aj ⟨d7 c8 _,avp (H0:=H) (n:=n) hh hn1 hn2 hn hz hSf _ ?_ n 0 _ H [] #[] _ rfl (cy _) I2 ?_ ?_ q1 q2 g3 .nil rfl .nil⟩
 ·intro s' H' vs acc c I' zn gS ra
  (show wpAny _ A (load s.heap.objs.size >>=_) _ _ s');exact aa (iP gS (aj (hQ s' H' vs acc I' zn ra)))
 ·intro b hb
  have sz:(((s.heap.push {cls:=.type "list",data:=.seq ([]:List ac).toArray}).update s.heap.objs.size (bD (·.push aQ))).update s.heap.objs.size (bD (·.pop))).objs.size=s.heap.objs.size+1:=by rw [cN,cN,bt]
  (rcases aE.mp hb with e|hb)
  ·subst e;exact⟨fS,by show _ < Array.size _;rw [sz];exact Nat.lt_succ_self _⟩
  ·exact⟨(hf b hb).1,by show _ < Array.size _;rw [sz];exact cY (hf b hb).2⟩
 ·obtain⟨ap,oz,oi,⟨a,b,oo⟩,c1,c2⟩:=Z1
  exact .inl ⟨ap,oth _ _ (ne z (by simp)) oz,oth _ _ (ne TI (by simp)) oi,⟨a,b,oth _ _ (ne TO (by simp)) oo⟩,c1.to fun o=> oth _ o (ne i1 (by simp)),c2.to fun o=> oth _ o (ne i2 (by simp))⟩
section
variable{P:aR}{w:aT}{A:aZ}{E:ac -> ah -> Prop}{s:ah}
theorem air{z TI TO:Addr}{xs ys:List V}(hh:A.handled=none)(hn1:n <=xs.length)(hn2:n <=ys.length)(hn:n=xs.length\/n=ys.length)(hz:n <=sizeLine)(I:Inv X pins σ H s)(hf: ∀b∈ [z,TI,TO,i1,i2],v7 X pins H b/\b < s.heap.objs.size)(Z:ZAt b1 b2 l1 l2 z TI TO i1 i2 .none 0 0 s.heap)(q1:SqB X.K b1 H l1 xs)(q2:SqB X.K b2 H l2 ys)(hQ: ∀(s':ah) (H':Hp) (vs:List V) (acc:Array ac),Inv X pins σ H' s' -> ZipN H (xs.take n) (ys.take n) vs H' -> jg vs acc.toList -> acc.size <=sizeLine -> Q (.ref s'.heap.objs.size) {s' with heap:=s'.heap.push {cls:=.type "tuple",data:=.seq acc}}):
  codeAny (model P w) A (.call (.builtin "tuple.__new__") ⟨[.type "tuple",.ref z],[]⟩) (wants Q E) s:=by
 refine fM ?_
 (show wpAny _ A.in1 (do fk "tuple.__new__" ⟨[.type "tuple",.ref z],[]⟩;again (.builtin "tuple.__new__" ⟨[.type "tuple",.ref z],[]⟩)) _ _ s);refine aa (gf (PySem.F.newCall_tuple_1 _) (aj ⟨d7 hZ _,b7 PySem.F.entry_tuple_new ?_⟩))
 rw [bS hZ _]
 have hsub:=sub_tuple_self
 (have hinit:=init_tuple_lookup)
 have hmh:=madeHere_tuple
 have hTI:s.TypeIs (.ref z) "zip":=⟨_,Z.oz,rfl⟩
 wp_walk using dF hTI,arf (by exact hh) hn1 hn2 hn hz I hf Z q1 q2
 intro s' H' vs acc I' zn ra
 have la:acc.size <=sizeLine:=by
  have e:vs.length=acc.size:=by rw [ra.length];simp
  have g: ∀{H H':Hp} {xs ys vs:List V},ZipN H xs ys vs H' -> vs.length=xs.length:=fun h=> by
   induction h with
   |nil=> rfl
   |snoc _ _ ih=> rw [aH,aH,ih];rfl
  have:=g zn
  rw [dS]at this
  lia
 (show wpAny _ _ (b8 acc.toList.toArray >>=fun v=> ret v) _ _ _);unfold b8
 (have e:acc.toList.toArray=acc:=by simp)
 rw [e]
 exact aa (cH (aj (hQ s' H' vs acc I' zn ra la)) la)
theorem ahk{z TI TO:Addr}{xs ys:List V}(hh:A.handled=none)(hn1:n <=xs.length)(hn2:n <=ys.length)(hn:n=xs.length\/n=ys.length)(hz:n <=sizeLine)(I:Inv X pins σ H s)(hf: ∀b∈ [z,TI,TO,i1,i2],v7 X pins H b/\b < s.heap.objs.size)(Z:ZAt b1 b2 l1 l2 z TI TO i1 i2 .none 0 0 s.heap)(q1:SqB X.K b1 H l1 xs)(q2:SqB X.K b2 H l2 ys)(hQ: ∀(s':ah) (H':Hp) (vs:List V) (acc:Array ac),Inv X pins σ H' s' -> ZipN H (xs.take n) (ys.take n) vs H' -> jg vs acc.toList -> acc.size <=sizeLine -> Q (.ref s'.heap.objs.size) {s' with heap:=s'.heap.push {cls:=.type "tuple",data:=.seq acc}}):
  wpAny (model P w) A (call (.type "tuple") [.ref z]) Q E s:=by
 refine callType_codes (Q₁:=fun obj s₁=> s₁.TypeIs obj "tuple"/\Q obj s₁) fR (PySem.F.typeCall_tuple_1 _) PySem.F.entry_object_init
  (air (by exact hh) hn1 hn2 hn hz I hf Z q1 q2 fun s' H' vs acc I' zn ra la=> ⟨⟨_,aC _ rfl,rfl⟩,hQ s' H' vs acc I' zn ra la⟩) fun obj s₁ h₁=> ?_
 exact⟨h₁.1,PySem.F.args_object_init_2 obj _,object_init_meets fR.init.lookup fR.made (by decide) P w A.in1 _ s₁ ⟨h₁.1,rfl,h₁.2⟩⟩
end
noncomputable def a0y(K:am)(ta:TA):TE:=fun σ H Q=> ta σ H fun vs H1=> ∃l1 l2 xs ys b1 b2,vs=[.ref l1,.ref l2]/\SqB K b1 H1 l1 xs/\SqB K b2 H1 l2 ys/\xs.length <=sizeLine/\ys.length <=sizeLine/\
 ∀vs' H2 T H3,ZipN H1 (xs.take (min xs.length ys.length)) (ys.take (min xs.length ys.length)) vs' H2 -> New H2 T (.tup vs') H3 -> Q (.ref T) H3
theorem aug{a b:Expr}{ta:TA}{p p1 pos1:Pos}(hc:X.calm=true)(g1:Gl X "tuple")(m1:X.mg "tuple"=none)(g2:Gl X "zip")(m2:X.mg "zip"=none)(ha:PA X [a,b] ta)(hs:starEach [a,b] X.env=[(false,eval a X.env),(false,eval b X.env)]:=by rfl)(hs2:starEach [b] X.env=[(false,eval b X.env)]:=by rfl)(hs3:starEach [.Call (.Name "zip" p1) [a,b] [] pos1] X.env=[(false,eval (.Call (.Name "zip" p1) [a,b] [] pos1) X.env)]:=by rfl):
  PE X (.Call (.Name "tuple" p) [.Call (.Name "zip" p1) [a,b] [] pos1] [] pos) (a0y X.K ta):=by
 refine⟨?_⟩
 intro pins s σ H Q I h
 refine cS (zo I g1 m1 ag5 ?_)
 refine cb ?_ hs3 rfl
 rw [hs3]
 (show wpAny _ _ (spliced ((false,eval (.Call (.Name "zip" p1) [a,b] [] pos1) X.env)::backTo pos (starEach [] X.env))) _ _ s);refine Calls.spliced_cons ?_
 refine cS (zo I g2 m2 atp (cb (thn (ha pos1 pins s σ H _ I h) fun us s1 ⟨vs,H1,I1,r1,q1⟩=> ?_) (by rw [hs,hs2]) (by rw [hs2];rfl)))
 obtain⟨l1,l2,xs,ys,b1,b2,e,q1,q2,z1,z2,q⟩:=q1
 subst e
 cases r1 with
 | cons r rr=>
  cases rr with
  | cons r' rr=>
   cases rr
   cases r
   cases r'
   obtain⟨its1,rv1,p1⟩:=I1.seqB q1
   obtain⟨its2,rv2,p2⟩:=I1.seqB q2
   refine aga p1 p2 fun h' Z k=> Calls.spliced_nil ?_
   have hb: ∀c∈ [s1.heap.objs.size+4,s1.heap.objs.size+2,s1.heap.objs.size+3,s1.heap.objs.size,s1.heap.objs.size+1],v7 X pins H1 c/\c < h'.objs.size:=fun c hb=> by
    have hb':s1.heap.objs.size <=c/\c <=s1.heap.objs.size+4:=by
     (simp only [aE,bg,or_false]at hb)
     rcases hb with rfl|rfl|rfl|rfl|rfl <;> (unfold Addr at*;lia)
    exact⟨I1.fpOk hb'.1 (I1.hok.fresh hb'.1),Nat.lt_of_le_of_lt hb'.2 (aB Z.oz)⟩
   refine ahk (s:={s1 with heap:=h'}) (n:=min xs.length ys.length) (I1.ok.hd hc) (Nat.min_le_left _ _) (Nat.min_le_right _ _) (by lia) (by lia) (I1.kept (t':=s1.toks) k) hb Z q1 q2 fun s' H' vs' acc I' zn ra la=> ?_
   exact⟨.ref s'.heap.objs.size,upd H' s'.heap.objs.size (.tup vs'),I'.laid (t':=s'.toks) (fun b o e=> ag _ e) (aq _) ⟨by rw [ra.length];simpa using la,acc.toList,ra,⟨_,by simpa using aC _ rfl⟩⟩,rfl,q _ _ _ _ zn ⟨I'.fresh,rfl⟩⟩
end L2
namespace PF
open PySem PySem.Spec
open L2
def ahj(ds:List D)(s:S):R D:=match ds with
 |[a,b]=> match sqD a,sqD b with
  |some (_,xs),some (_,ys)=> if xs.length <=sizeLine/\ys.length <=sizeLine then .ok (.tup ((xs.zip ys).map fun p=>.tuple [p.1,p.2])) s else .bad
  |_,_=>.bad
 |_=>.bad
theorem TDs.last{as:As}{H:Hp}{x:V}: ∀{xs:List V} {ds:List ae},TDs as H (xs++ [x]) ds -> ∃d0 a,ds=d0++ [a]/\TDs as H xs d0/\TD as H x a
 |[],_,.cons a .nil=> ⟨[],_,rfl,.nil,a⟩
 |_::xs,_,.cons a r=> by
  obtain⟨d0,b,e,t,u⟩:=TDs.last (xs:=xs) r
  exact⟨_::d0,b,by rw [e];rfl,.cons a t,u⟩
theorem aqp{H':Hp}{xs ys:List V}(zn:ZipN H xs ys vs H'):xs.length=ys.length:=by
 induction zn with
 |nil=> rfl
 |snoc _ _ ih=> rw [aH,aH,ih];rfl
theorem au3{H':Hp}{xs ys:List V}(zn:ZipN H xs ys vs H')(rl:Rel K as H s): ∀{xd yd:List ae},TDs as H xs xd -> TDs as H ys yd -> Step as H as H'/\Rel K as H' s/\TDs as H' vs ((xd.zip yd).map fun p=>.tuple [p.1,p.2]):=by
 induction zn with
 |nil=> intro xd yd t1 t2;cases t1;cases t2;exact⟨Step.refl _ _,rl,.nil⟩
 | @snoc H1 H2 xs ys vs x y T zn nw ih=>
  intro xd yd t1 t2
  obtain⟨x0,a,rfl,t1,u1⟩:=t1.last
  obtain⟨y0,b,rfl,t2,u2⟩:=t2.last
  obtain⟨st,r2,t3⟩:=ih t1 t2
  have e:x0.length=y0.length:=by rw [←t1.length,←t2.length,aqp zn]
  rw [List.zip_append e,ij]
  have s2:=jy (as:=as) nw
  exact⟨st.trans s2,r2.new nw,(t3.mono s2).append (.cons (.tup (fun z=> r2.has z nw.no) nw.at (.cons ((u1.mono st).mono s2) (.cons ((u2.mono st).mono s2) .nil))) .nil)⟩
theorem ahy{α β:Type}: ∀(xs:List α) (ys:List β),(xs.take (min xs.length ys.length)).zip (ys.take (min xs.length ys.length))=xs.zip ys
 |[],ys=> by simp
 |_::_,[]=> by simp
 |x::xs,y::ys=> by
  rw [aD,aD,Nat.succ_min_succ,fW,fW,cU,cU,ahy xs ys]
theorem aus{a b:Expr}{p p1 pos1:Pos}(hc:X.calm=true)(n1:X.mg "tuple"=none)(n2:X.mg "zip"=none)(h:RA X [a,b] f)(g1:Gl X "tuple":=by rfl)(g2:Gl X "zip":=by rfl)(hs:starEach [a,b] X.env=[(false,eval a X.env),(false,eval b X.env)]:=by rfl)(hs2:starEach [b] X.env=[(false,eval b X.env)]:=by rfl)(hs3:starEach [.Call (.Name "zip" p1) [a,b] [] pos1] X.env=[(false,eval (.Call (.Name "zip" p1) [a,b] [] pos1) X.env)]:=by rfl):RE X (.Call (.Name "tuple" p) [.Call (.Name "zip" p1) [a,b] [] pos1] [] pos) (fCB ahj f):=by
 obtain⟨t,pa,ra⟩:=h.ex
 refine⟨_,aug hc g1 n1 g2 n2 pa hs hs2 hs3,fun as σ H ρ s Q rl en h=> ?_⟩
 refine ra as σ H ρ s _ rl en (Dn.bind h fun ds s1 as1 H1 vs st1 rl1 r1 h1=> ?_)
 unfold ahj at h1
 split at h1
 ·split at h1
  ·rename_i da db _ xd bx _ yd ea eb
   split at h1
   ·rename_i hz
    obtain⟨v,w,rfl,rv,rw⟩:=r1.two
    obtain⟨l1,xs,rfl,k1,t1⟩:=aba rv ea
    obtain⟨l2,ys,rfl,k2,t2⟩:=aba rw eb
    refine⟨l1,l2,xs,ys,_,_,rfl,k1 as1 H1 (Step.refl _ _).toStep0,k2 as1 H1 (Step.refl _ _).toStep0,by rw [t1.length];exact hz.1,by rw [t2.length];exact hz.2,fun vs' H2 T H3 zn nw=> ?_⟩
    obtain⟨st,r2,t3⟩:=au3 zn rl1 (t1.take _) (t2.take _)
    rw [t1.length,t2.length,ahy]at t3
    have s2:=jy (as:=as1) nw
    exact h1 _ as1 H3 (st.trans s2) (r2.new nw) (.da (.tup (fun z=> r2.has z nw.no) nw.at (t3.mono s2)))
   ·exact h1.elim
  ·exact h1.elim
 ·exact h1.elim
end PF
namespace L2
open PySem PySem.Spec PyProof.Rows
section
variable{P:aR}{w:aT}{A:aZ}{E:ac -> ah -> Prop}{s:ah}
structure NAt (b:Bool) (l e i:Addr) (n:Int) (k:Nat) (h:Heap):Prop where
 ne:e≠i
 oe: ∃old,iK h e i n old
 c:j9 b h i l k
theorem ayy{e i:Addr}{n:Int}{x:ac}(N:NAt b l e i n k s.heap)(hl:jq b s.heap l xs)(hx:xs[k]?=some x)(hQ: ∀h' t,jS h' e i (n+1) x s.heap.objs.size -> j9 b h' i l (k+1) -> h'.get? s.heap.objs.size=some {cls:=.type "tuple",data:=.seq #[.int n s.toks,x]} ->
   (∀c o,c≠e -> c≠i -> s.heap.get? c=some o -> h'.get? c=some o) -> Q (.ref s.heap.objs.size) {s with heap:=h',toks:=t}):
  wpAny (model P w) A (cf.«enumerate.__next__» ⟨[.ref e],[]⟩) (fun fin s'=> ∃v,fin=.done (.ret v)/\Q v s') E s:=by
 (obtain⟨hp,g,d,tk,os⟩:=s)
 obtain⟨ne,⟨old,he⟩,hc⟩:=N
 (show wpAny _ _ (field (.ref e) 2 >>=_) _ _ _);refine aa (aP he rfl (x:=.ref i) rfl (aa (qy hc hl hx fun h1 c1 e1=> ?_)))
 have e1:bh i hp h1:=e1
 have he1:iK h1 e i n old:=(e1.2 e ne).trans he
 (show wpAny _ _ (field (.ref e) 3 >>=_) _ _ _);refine aa (aP he1 rfl (x:=rawInt n) rfl ?_)
 (show wpAny _ _ (field (.ref e) 4 >>=_) _ _ _);refine aa (aP he1 rfl (x:=.none) rfl ?_)
 (show wpAny _ _ (mkInt n >>=_) _ _ _);refine aa (wpAny_mkInt ?_)
 (show wpAny _ _ (setField (.ref e) 3 (rawInt (n+1))>>=_) _ _ _);refine aa (bo he1 (by simp) fun h2 he2 e2=> ?_)
 have e2:bh e h1 h2:=e2
 have he2:iK h2 e i (n+1) old:=he2
 (show wpAny _ _ (setField (.ref e) 4 .none >>=_) _ _ _);refine aa (bo he2 (by simp) fun h3 he3 e3=> ?_)
 have e3:bh e h2 h3:=e3
 have he3:iK h3 e i (n+1) old:=he3
 (show wpAny _ _ (newTuple [.int n tk,x]>>=_) _ _ _);refine aa (f8 ?_)
 have he4:iK (h3.push {cls:=.type "tuple",data:=.seq #[.int n tk,x]}) e i (n+1) old:=ag _ he3
 have sz:h3.objs.size=hp.objs.size:=by rw [e3.1,e2.1,e1.1]
 have lt:e < hp.objs.size:=aB he
 have ht4:(h3.push {cls:=.type "tuple",data:=.seq #[.int n tk,x]}).get? hp.objs.size=some {cls:=.type "tuple",data:=.seq #[.int n tk,x]}:=by rw [←sz];exact aC _ rfl
 have k4: ∀c o,c≠e -> c≠i -> hp.get? c=some o -> (h3.push {cls:=.type "tuple",data:=.seq #[.int n tk,x]}).get? c=some o:=fun c o a1 a2 q=> ag _ (e3.extBut _ _ a1 (e2.extBut _ _ a1 (e1.extBut _ _ a2 q)))
 have c4:j9 b (h3.push {cls:=.type "tuple",data:=.seq #[.int n tk,x]}) i l (k+1):=c1.to fun o q=> ag _ (e3.extBut _ _ ne.symm (e2.extBut _ _ ne.symm q))
 generalize (h3.push {cls:=.type "tuple",data:=.seq #[.int n tk,x]})=h4 at he4 ht4 k4 c4⊢
 (show wpAny _ _ (bJ (.ref e)>>=_) _ _ ⟨h4,g,d,tk+1,os⟩);rw [sz]
 refine aa (aa (aP he4 rfl (x:=.none) rfl (aj ?_)))
 simp only [if_true]
 refine aa (ck (aa (aP he4 rfl (x:=old) rfl (aa (bo he4 (by simp) fun h5 he5 e5=> ?_)))))
 have e5:bh e h4 h5:=e5
 have he5:iK h5 e i (n+1) x:=he5
 (show wpAny _ _ (eD (.ref e) (.ref hp.objs.size)>>=_) _ _ ⟨h5,g,d,tk+1,os⟩);refine aa (aa (bo he5 (by simp) fun h6 he6 e6=> ?_))
 have e6:bh e h5 h6:=e6
 have he6:jS h6 e i (n+1) x hp.objs.size:=he6
 refine bo he6 (by simp) fun h7 he7 e7=> ?_
 have e7:bh e h6 h7:=e7
 have he7:jS h7 e i (n+1) x hp.objs.size:=he7
 have up: ∀c o,c≠e -> h4.get? c=some o -> h7.get? c=some o:=fun c o a1 q=> e7.extBut _ _ a1 (e6.extBut _ _ a1 (e5.extBut _ _ a1 q))
 exact aa (ir (aj ⟨_,rfl,hQ h7 _ he7 (c4.to fun o=> up _ o ne.symm) (up _ _ (dB lt) ht4) fun c o a1 a2 q=> up c o a1 (k4 c o a1 a2 q)⟩))
theorem ar4{e i:Addr}{n:Int}{x:ac}{Q:Option ac -> ah -> Prop}(N:NAt b l e i n k s.heap)(hl:jq b s.heap l xs)(hx:xs[k]?=some x)(hQ: ∀h' t,jS h' e i (n+1) x s.heap.objs.size -> j9 b h' i l (k+1) -> h'.get? s.heap.objs.size=some {cls:=.type "tuple",data:=.seq #[.int n s.toks,x]} ->
   (∀c o,c≠e -> c≠i -> s.heap.get? c=some o -> h'.get? c=some o) -> Q (some (.ref s.heap.objs.size)) {s with heap:=h',toks:=t}):wpAny (model P w) A (pyNext (.ref e)) Q E s:=
 have hT:s.TypeIs (.ref e) "enumerate":=let ⟨_,h⟩:=N.oe;⟨_,h,rfl⟩
 aa (d8 (bp (name:=aA "__next__") hT dI (bz dI hT iw (ayy N hl hx fun h' t a1 a2 a3 a4=> aj (hQ h' t a1 a2 a3 a4)) (h8 _))))
theorem aw3{e i:Addr}{n:Int}{Q:Option ac -> ah -> Prop}(hh:A.handled=none)(N:NAt b l e i n k s.heap)(hl:jq b s.heap l xs)(hx:xs[k]?=none)(hQ: ∀h',eU i s.heap h' -> Q none {s with heap:=h'}):wpAny (model P w) A (pyNext (.ref e)) Q E s:=by
 obtain⟨ne,⟨old,he⟩,hc⟩:=N
 (have hT:s.TypeIs (.ref e) "enumerate":=⟨_,he,rfl⟩)
 refine aa (d8 (bp (name:=aA "__next__") hT dI (bz dI hT iw ?_ (h8 _))))
 (show wpAny _ _ (field (.ref e) 2 >>=_) _ _ _);refine aa (aP he rfl (x:=.ref i) rfl ?_)
 exact aa (y1 hh hc hl hx fun h' x e1 ⟨o,ho,hcl⟩=> aa (fj (T:="StopIteration") (b:=true) ⟨o,ho,hcl⟩ iI (aj (hQ _ e1))))
end
noncomputable def Itn(K:am)(b:Bool)(l:Addr)(n:Int):It:=
 ⟨fun i H=> ∃xs x,SqB K b H l xs/\xs[i]?=some x,
   fun i H v H'=> ∃T,v=.ref T/\ ∀xs,SqB K b H l xs -> ∃x,xs[i]?=some x/\New H T (.tup [.int (n+i),x]) H',
   fun i H=> ∃xs,SqB K b H l xs/\xs.length <=i⟩
theorem aq8{x1:Nat}{n:Int}(l e i:Addr):Turn P w K (.Tuple es x1 pos) (Itn K b l n) [e,i] e (fun k h=> NAt b l e i (n+k) k h) where
 mem:=by simp
 obj:=fun k h ⟨_,⟨old,he⟩,q⟩ c hb=> by
  obtain⟨o1,e1,v1,d1⟩:=q.obj
  (simp only [aE,bg,or_false]at hb)
  rcases hb with rfl|rfl
  ·exact⟨_,he,fun v y=> by cases y⟩
  ·exact⟨_,e1,fun v y=> by rw [d1]at y;cases y⟩
 keep:=fun k h h' ⟨ne,⟨old,he⟩,q⟩ kp=> ⟨ne,⟨old,kp e (by simp) _ he⟩,q.to fun o z=> kp i (by simp) o z⟩
 item:=by
  intro X hP hw hK hc k pins s σ H E I hf st hg
  subst hP hw hK
  obtain⟨xs,x,q1,hx⟩:=hg
  obtain⟨its1,rv1,p1⟩:=I.seqB q1
  obtain⟨u1,hu1,ru1⟩:=rv1.get hx
  have lt: ∀c∈ [e,i],c < s.heap.objs.size:=fun c hb=> by
   obtain⟨_,⟨old,he⟩,q⟩:=st
   obtain⟨o1,e1,_⟩:=q.obj
   (simp only [aE,bg,or_false]at hb)
   rcases hb with rfl|rfl
   ·exact aB he
   ·exact aB e1
  refine ar4 st p1 (x:=u1) (by simpa using hu1) fun h' t a1 a2 a3 kp=> ?_
  refine⟨_,rfl,wpAny_letOwnedTupleGo_enum (s:={s with heap:=h',toks:=t}) a1 fun h2 he2 sb=> ?_⟩
  have I1:Inv X pins σ (upd H s.heap.objs.size (.tup [.int (n+k),x])) {s with heap:=s.heap.push {cls:=.type "tuple",data:=.seq #[.int (n+k) s.toks,u1]},toks:=t}:=
   I.laid (t':=t) (fun c u q=> ag _ q) (aq _) ⟨by show 2 <=sizeLine;decide,[.int (n+k) s.toks,u1],.cons ⟨_,rfl⟩ (.cons ru1 .nil),⟨_,aC _ rfl⟩⟩
  have nT: ∀c∈ [e,i],upd H s.heap.objs.size (.tup [.int (n+k),x]) c=none:=fun c hb=> by
   rw [j6 (aM (lt c hb))];exact (hf c hb).1
  have I2:=I1.turnedL (h':=h2) (t':=t) (ch:=[e,i]) (fun c o hb q=> by
   have hbe:c≠e:=fun y=> hb (by simp [y])
   rw [sb.2 c hbe]
   by_cases hT:c=s.heap.objs.size
   ·subst hT
    rw [aC _ rfl]at q
    cases q
    exact a3
   ·rw [cI _ _ _ hT]at q
    exact kp c o hbe (fun y=> hb (by simp [y])) q) fun c hb=> ⟨nT c hb,(hf c hb).2⟩
  refine⟨.ref s.heap.objs.size,_,I2,rfl,⟨_,rfl,fun xs' q1'=> ?_⟩,⟨st.ne,⟨u1,?_⟩,a2.to fun o=> sb.extBut _ _ st.ne.symm⟩,nT⟩
  ·rw [I.seqB_inj q1' q1]
   exact⟨x,hx,I.fresh,rfl⟩
  ·have:n+((k+1:Nat):Int)=n+k+1:=by lia
   rw [this];exact he2
 done:=by
  intro X hP hw hK hc k pins s σ H E I hf st hg
  subst hP hw hK
  obtain⟨xs,q1,hx⟩:=hg
  obtain⟨its1,rv1,p1⟩:=I.seqB q1
  have l1':=rv1.length
  exact aw3 (I.ok.hd hc) st p1 (by simp;lia) fun h' kp=> ⟨rfl,I.turnedL (t':=s.toks) (ch:=[e,i]) (fun c o hb q=> kp c o (fun y=> hb (by simp [y])) q) hf⟩
 self:=fun _ _ _ _ _ st h=> let ⟨_,he⟩:=st.oe;wpAny_pyIter_enum he h
section
variable{P:aR}{w:aT}{A:aZ}{E:ac -> ah -> Prop}{s:ah}
def nH(h:Heap)(b:Bool)(l:Addr)(n:Int):Heap:=(h.push {cls:=.type (abo b),data:=.fields #[.ref l,.int 0 0]}).push {cls:=.type "enumerate",data:=.fields #[.none,.bool false,.ref h.objs.size,rawInt n,.none,.none]}
theorem aro{n:Int}:NAt b l (h.objs.size+1) h.objs.size n 0 (nH h b l n):=by
 have g2:iK (nH h b l n) (h.objs.size+1) h.objs.size n .none:=by
  have:=aC (h.push {cls:=.type (abo b),data:=.fields #[.ref l,.int 0 0]}) (o:={cls:=.type "enumerate",data:=.fields #[.none,.bool false,.ref h.objs.size,rawInt n,.none,.none]}) rfl
  rw [bt]at this;exact this
 exact⟨by unfold Addr at*;lia,⟨_,g2⟩,asr (ag _ (aC _ rfl))⟩
end
theorem ajz:bc "enumerate"=some (.type "enumerate"):=by decide+kernel
end L2
namespace L2
open PySem PySem.Spec PyProof.Rows
open Sem (wp)
section
variable{P:aR}{w:aT}{A:aZ}{E:ac -> ah -> Prop}{s:ah}
theorem aqo{T newId:String}{self:ac}{jx:List ac}{kw:List (Str×ac)}(hl:iQ (.type T) "__init__"=pure (some (.builtin "object.__init__")))(hm:Bind.madeBy (.type T)=pure (some newId))(hne:(some newId !=some "object.__new__")=true):
  ig (cf.«object.__init__» ⟨self::jx,kw⟩) (fun _ R s=> s.TypeIs self T/\R (.ok (.ret .none)) s):=by
 refine Meets.of_wp fun prog w A R s ⟨hT,hq⟩=> ?_
 cases jx <;> cases kw <;> first
  |exact aj ⟨_,rfl,hq⟩ --
  | (repeat (any_goals (first|assumption|wp_step))
     exact⟨_,rfl,hq⟩)
theorem amn{T newId:String}{Bn:cf}{args:List ac}{kw:List (Str×ac)}{S:PySem.Spec}(ft:TypeCalled T newId "object.__init__")(hne:(some newId !=some "object.__new__")=true)(hct:checkTypeCall T ⟨args,kw⟩=pure ())(hcn:fk newId ⟨.type T::args,kw⟩=pure ())(hok: ∀obj,argsOk "object.__init__" ⟨obj::args,kw⟩)(entryN:entryFor table newId=some Bn)(g:ig (Bn ⟨.type T::args,kw⟩) S)(h:S A.in1 (wants (fun obj s₁=> s₁.TypeIs obj T/\Q obj s₁) E) s):wpAny (model P w) A (call (.type T) args kw) Q E s:=by
 (obtain⟨c,tl,hmro⟩:=ft.mro)
 have hmade:=ft.made
 have hsub:=ft.sub
 (refine wpAny_call (fM ?_))
 (show wpAny _ _ (callAny (.type T) _) _ _ _);refine aj ⟨Code.quiet_builtin _ (by decide+kernel),b7 F.entry_type_call ?_⟩
 rw [Around.under_plain (iE T args kw) (units_type_call_type T args kw)]
 have h1:=ft.notType
 have h2:=ft.canCreate
 repeat (any_goals (first|assumption|wp_step)) --
 refine dC (fN ft.plain entryN (gf hcn (g P w A.in1 _ s h))) fun r s₁ hr=> ?_
 cases r with
 |error e=> exact hr
 | ok fl=>
  cases fl with
  | ret obj=>
   obtain⟨hT,hq⟩:=hr
   have hli:=ft.init.lookup
   have hbi:=ft.init.bind obj
   repeat (any_goals (first|assumption|wp_step)) --
   have hsi:s₁.TypeIs obj T/\wants (fun r s₂=> r=.none/\Q obj s₂) E (.ok (.ret .none)) s₁:=⟨hT,rfl,hq⟩
   refine dC (fN ft.init.plain F.entry_object_init (ft.init.check _ _ _ _ _ _ _ _ hT (hok obj) (aqo (kw:=kw) ft.init.lookup ft.made hne P w A.in1 _ s₁ hsi))) fun r₂ s₂ hr₂=> ?_
   cases r₂ with
   |error e=> exact hr₂
   | ok fl₂=>
    cases fl₂ with
    |ret r=>
     obtain⟨rfl,hq⟩:=hr₂
     repeat (any_goals (first|assumption|wp_step)) --
    |_=> exact hr₂.elim
  |_=> exact hr.elim
theorem awr(a b:ac):checkTypeCall "enumerate" ⟨[a],[("start",b)]⟩=pure ():=by kernel_rfl
theorem ay0(a b:ac):fk "enumerate.__new__" ⟨[.type "enumerate",a],[("start",b)]⟩=pure ():=by kernel_rfl
theorem amo(b:Bool)(l:Addr)(xs:Array ac)(t:Tok):
  ig (cf.«enumerate.__new__» ⟨[.type "enumerate",.ref l],[("start",.int 1 t)]⟩) (fun _ R s=> jq b s.heap l xs/\R (.ok (.ret (.ref (s.heap.objs.size+1)))) {s with heap:=nH s.heap b l 1}):=
 .of_wp fun prog w A R s h=> by
  obtain⟨hp,g,d,tk,os⟩:=s;obtain⟨h1,h⟩:=h
  have hsub:=sub_enumerate
  have L1:jq b (jZ ⟨hp,g,d,tk,os⟩) l xs:=h1
  wp_walk
  (refine wpAny_stack_any fun st=> aj ?_)
  split
  ·rename_i c _ _ _ _ _
   (cases (c==bd "enumerate"))
   ·wp_walk using aep L1
    refine⟨_,rfl,?_⟩
    simp only [bt];exact h
   ·wp_walk using aep L1
    refine⟨_,rfl,?_⟩
    simp only [bt];exact h
  ·wp_walk using aep L1
   refine⟨_,rfl,?_⟩
   simp only [bt];exact h
theorem a09(obj a b:ac):argsOk "object.__init__" ⟨[obj,a],[("start",b)]⟩:=by
 unfold argsOk;(rw [signature?_of (id:="object.__init__") (n:=['_','_','t','i','n','i','_','_']) (o:=['t','c','e','j','b','o']) (by kernel_rfl) F.owner_object]);kernel_rfl
theorem apl{t:Tok}(h1:jq b s.heap l xs)(h: ∀h',NAt b l (s.heap.objs.size+1) s.heap.objs.size 1 0 h' -> (∀c o,s.heap.get? c=some o -> h'.get? c=some o) -> Q (.ref (s.heap.objs.size+1)) {s with heap:=h'}):
  wpAny (model P w) A (call (.type "enumerate") [.ref l] [("start",.int 1 t)]) Q E s:=by
 refine amn F.called_enumerate (by decide) (awr _ _) (ay0 _ _) (fun obj=> a09 obj _ _) F.entry_enumerate_new (amo b l xs t) ⟨h1,?_⟩
 have z:=aro (b:=b) (l:=l) (n:=1) (h:=s.heap)
 refine⟨?_,h _ z fun c o x=> ag _ (ag _ x)⟩
 obtain⟨_,⟨o,q⟩,_⟩:=z
 exact⟨_,q,rfl⟩
end
def a16(K:am)(ta:TA):TI:=fun σ H R=> ta σ H fun vs H1=> ∃l xs b,vs=[.ref l]/\SqB K b H1 l xs/\R (Itn K b l 1) H1
theorem avz{x1:Nat}{tp:Pos}{a:Expr}{ta:TA}{p kp cp:Pos}{j:Nat}(hg:Gl X "enumerate")(hm:X.mg "enumerate"=none)(ha:PA X [a] ta)(hs:starEach [a] X.env=[(false,eval a X.env)]:=by rfl):
  PI X (.Tuple es x1 tp) (.Call (.Name "enumerate" p) [a] [⟨some "start",.Constant (.int 1) j cp,kp⟩] pos) (a16 X.K ta):=by
 intro pins s σ H R I h
 refine cS (zo I hg hm ajz ?_)
 refine PySem.W.callWith_of (P:=fun _=> True) (by rw [hs];rfl) (fun _ _=> ⟨.machine,.inr (.inl rfl),.now⟩) (evalArgs_kw2 rfl (thn (ha pos pins s σ H _ I h) fun us s1 ⟨vs,H1,I1,r1,q1⟩=> ?_) hs)
 refine thn (au0 (X:=X) (nm:=some "start") (kpos:=kp) (e:=.Constant (.int 1) j cp) ahx axv pos pins s1 σ H1 (fun zs H2=> zs=[.int 1]/\H2=H1) I1 ⟨rfl,rfl⟩) fun ws s2 ⟨zs,H2,I2,rz,ez,eH⟩=> ⟨trivial,?_⟩
 subst ez eH
 obtain⟨u2,rfl,r2⟩:=vals1 rz
 obtain⟨t,rfl⟩:=r2
 obtain⟨l,xs,b,e,q1,q⟩:=q1
 subst e
 obtain⟨u,rfl,r⟩:=vals1 r1
 cases r
 obtain⟨its1,rv1,p1⟩:=I2.seqB q1
 refine apl p1 fun h' Z k=> ?_
 obtain⟨old,he⟩:=Z.oe
 refine wpAny_pyIter_enum (s:={s2 with heap:=h'}) he ?_
 refine⟨s2.heap.objs.size+1,_,_,_,H2,rfl,I2.kept (t':=s2.toks) k,aq8 (n:=1) l _ _,Z,fun b hb=> ?_,q⟩
 have hb':s2.heap.objs.size <=b:=by
  (simp only [aE,bg,or_false]at hb)
  rcases hb with rfl|rfl <;> (unfold Addr at*;lia)
 exact I2.fpOk hb' (I2.hok.fresh hb')
end L2
namespace PF
open PySem PySem.Spec
open L2
noncomputable def enD:Int -> List ae -> List D
 |_,[]=> []
 |n,x::r=>.tup [.int n,x]::enD (n+1) r
theorem akc: ∀(xs:List ae) (n:Int) (i:Nat),(enD n xs)[i]?=xs[i]?.map fun x=> D.tup [.int (n+i),x]
 |[],n,i=> by simp [enD]
 |x::r,n,0=> by simp [enD]
 |x::r,n,i+1=> by
  have e:n+1+(i:Int)=n+((i+1:Nat):Int):=by lia
  rw [enD,aN,aN,akc r (n+1) i,e]
theorem ak7: ∀(xs:List ae) (n:Int),(enD n xs).length=xs.length
 |[],_=> rfl
 |x::r,n=> by rw [enD,aD,aD,ak7 r]
def aj4(n:Int)(ds:List D)(s:S):R Wk:=match ds with
 |[a]=> match sqD a with
  |some (_,xs)=>.ok (enD n xs,none) s
  |_=>.bad
 |_=>.bad
def aq5(n:Int)(f:FA):FI:=fun ρ s=> (f ρ s).bind (aj4 n)
theorem axd{n:Int}{ds:List D}{Q:It -> Hp -> Prop}(rl:Rel K as H s)(r:RDs K as H vs ds)(h:Dn K (ad3 K) as H (aj4 n ds s) Q): ∃l xs b,vs=[.ref l]/\SqB K b H l xs/\Q (Itn K b l n) H:=by
 unfold aj4 at h
 split at h
 ·split at h
  ·rename_i d _ b xd ea
   obtain⟨v,rfl,rv⟩:=r.one
   obtain⟨l,xs,rfl,k1,t1⟩:=aba rv ea
   refine⟨l,xs,_,rfl,k1 as H (Step.refl _ _).toStep0,Dn.now (Q:=Q) h rl ?_⟩
   intro as2 H2 s2 st2 rl2 _ i
   have sq1:=k1 as2 H2 st2
   have u1:=t1.mono0 st2
   refine⟨fun hl=> ⟨xs,sq1,by rw [u1.length];rw [ak7]at hl;exact hl⟩,fun d hd=> ?_⟩
   rw [akc]at hd
   cases q:xd[i]? with
   |none=> rw [q]at hd;cases hd
   |some pr=>
    rw [q]at hd
    cases hd
    obtain⟨x,hx,rx⟩:=u1.get q
    refine⟨⟨xs,x,sq1,hx⟩,fun vv H3 hv=> ?_⟩
    obtain⟨T,rfl,hT⟩:=hv
    obtain⟨x',hx',nw⟩:=hT xs sq1
    rw [hx]at hx';cases hx'
    exact⟨jy nw,rl2.new nw,.da (.tup (fun z=> rl2.has z nw.no) nw.at (.cons (.int _) (.cons (rx.mono (jy nw)) .nil)))⟩
  ·exact h.elim
 ·exact h.elim
theorem avn{x1:Nat}{tp:Pos}{a:Expr}{p kp cp:Pos}{j:Nat}(hm:X.mg "enumerate"=none)(h:RA X [a] f)(hg:Gl X "enumerate":=by rfl)(hs:starEach [a] X.env=[(false,eval a X.env)]:=by rfl):
  RI X (.Tuple es x1 tp) (.Call (.Name "enumerate" p) [a] [⟨some "start",.Constant (.int 1) j cp,kp⟩] pos) (aq5 1 f):=by
 obtain⟨t,pa,ra⟩:=h.ex
 refine⟨_,avz hg hm pa hs,fun as σ H ρ s Q rl en h=> ?_⟩
 exact ra as σ H ρ s _ rl en (Dn.bind h fun ds s1 as1 H1 vs st1 rl1 r1 h1=> axd rl1 r1 h1)
end PF
namespace PF
open PySem PySem.Spec
open PySem.SeqAt
mutual
noncomputable def leP:ae -> ae -> Option Bool
 |.int i,.int j=> some (decide (i <=j))
 |.str x,.str y=> some (!decide (y.cps.toList < x.cps.toList))
 |.tuple xs,.tuple ys=> yw xs ys
 |_,_=> none
noncomputable def yw:List ae -> List ae -> Option Bool
 |[],[]=> some true
 |[],_::_=> some true
 |_::_,[]=> some false
 |x::xs,y::ys=> if aI x y=true then yw xs ys else leP x y
end
theorem aim:yw [] []=some true:=by simp only [yw]
theorem ahb{y:ae}:yw [] (y::ys)=some true:=by simp only [yw]
theorem acf{y:ae}:yw (y::ys) []=some false:=by simp only [yw]
theorem agd{x y:ae}{xs:List ae}:yw (x::xs) (y::ys)=if aI x y=true then yw xs ys else leP x y:=by simp only [yw]
theorem akv:leP (.int i) (.int j)=some (decide (i <=j)):=by simp only [leP]
theorem aka{a b:Str}:leP (.str a) (.str b)=some (!decide (b.cps.toList < a.cps.toList)):=by simp only [leP]
theorem aku{xs:List ae}:leP (.tuple xs) (.tuple ys)=yw xs ys:=by simp only [leP]
section
open AutoSeq1 (wpAny_loadPart') --
open MeetsSeq MeetsSeq2 MeetsSeq3 SeqRoads2 --
def ahn(A:aZ)(s:ah)(x y:ac)(b:Bool):Prop:= ∀(prog:aR) (w:aT) (E:ac -> ah -> Prop) (Q:ac -> ah -> Prop),Q (.bool b) s -> wpAny (model prog w) A (eX .LtE x y) Q E s
inductive LexLe (A:aZ) (s:ah) (fin:Bool):List (ac×ac) -> Bool -> Prop
 |nil:LexLe A s fin [] fin
 |same {x y:ac} {r:List (ac×ac)} {b:Bool}:EqAt A s x y true -> LexLe A s fin r b -> LexLe A s fin ((x,y)::r) b
 |diff {x y:ac} {r:List (ac×ac)} {b:Bool}:EqAt A s x y false -> ahn A s x y b -> LexLe A s fin ((x,y)::r) b
theorem awc(l b:Addr)(us ws:Array ac)(n n2:Nat)(dd dd2:Option Addr)(sl sl2:Array (Option ac))(r:Bool):
  ig (cf.«tuple.__le__» ⟨[.ref l,.ref b],[]⟩)
   (fun A R s=> s.heap.get? l=some {cls:=.type "tuple",dict:=dd,data:=.seq us n,slots:=sl}/\s.heap.get? b=some {cls:=.type "tuple",dict:=dd2,data:=.seq ws n2,slots:=sl2}/\
    LexLe A.in1 s (decide (us.size <=ws.size)) (us.toList.zip ws.toList) r/\R (.ok (.ret (.bool r))) s):=
 .of_wp fun prog w A R s h=> by
  (obtain⟨hp,g,d,tk,os⟩:=s)
  obtain⟨hl,hb,lx,hR⟩:=h
  have sub:=gY
  wp_walk using du hl,du hb,fh _ (fun jx b s'=> b.1=none/\s'=⟨hp,g,d,tk,os⟩/\LexLe A.in1 ⟨hp,g,d,tk,os⟩ (decide (us.size <=ws.size)) jx r) _
  case turn=>
   rintro⟨y,x⟩ jx b s' ⟨hb',rfl,lx⟩
   cases lx with
   |same e t=>
    refine aa (e prog w _ _ ?_)
    wp_walk
    exact⟨rfl,rfl,t⟩
   |diff e t=>
    refine aa (e prog w _ _ ?_)
    have t': ∀(E:ac -> ah -> Prop) (Q:ac -> ah -> Prop),Q (.bool r) ⟨hp,g,d,tk,os⟩ -> wpAny (model prog w) A.in1 (eX .LtE y x) Q E ⟨hp,g,d,tk,os⟩:=fun E Q=> t prog w E Q
    generalize eX .LtE y x=m at t'⊢
    wp_walk
    refine t' _ _ ?_
    wp_walk
    exact⟨_,rfl,hR⟩
  case fin=>
   rintro⟨b1,b2⟩ s' ⟨hb',rfl,lx⟩
   simp only at hb'
   subst hb'
   cases lx
   wp_walk
   exact⟨_,rfl,by simpa [fE] using hR⟩
  case h=> exact⟨rfl,rfl,lx⟩
section
variable{A:aZ}{s:ah} --
theorem ahn.tuples{b:Addr}{us ws:Array ac}{r:Bool}(hl:s.heap.IsTuple l us)(hb:s.heap.IsTuple b ws)(hu:A.units < cLine)(lx:LexLe A.in1 s (decide (us.size <=ws.size)) (us.toList.zip ws.toList) r):ahn A s (.ref l) (.ref b) r:=fun prog w E Q h=> by
 obtain⟨⟨c1,d1,e1,s1⟩,o1,k1,n1,q1⟩:=id hl
 obtain⟨⟨c2,d2,e2,s2⟩,o2,k2,n2,q2⟩:=id hb
 simp only at k1 q1 k2 q2
 subst k1 q1 k2 q2
 exact iq (op:=.LtE) ⟨_,o1,rfl⟩ ⟨_,o2,rfl⟩ F.slot_tuple_le F.entry_tuple_le (F.args_tuple_le_2 _ _) (awc l b us ws n1 n2 d1 d2 s1 s2 r) ⟨o1,o2,lx,show dP r≠iT/\Q (.bool r) s from ⟨nofun,h⟩⟩ hu
end
end
mutual
theorem aez: ∀(da db:ae) (A:aZ) (s:ah) (a b:ac) (as bs:List Addr) (r:Bool),cj s.heap a da as -> cj s.heap b db bs -> da.canLay0=true -> db.canLay0=true -> A.units+min da.depth db.depth < cLine -> leP da db=some r -> ahn A s a b r
 | .int i,db,A,s,_,_,_,_,r,ra,rb,_,_,_,h=> by
  cases db with
  |int j=>
   rw [akv]at h
   cases h
   cases ra;cases rb
   exact fun prog w E Q q=> PyProof.Rows.le_int q
  |none=> simp [leP]at h
  |bool _=> simp [leP]at h
  |str _=> simp [leP]at h
  |list _=> simp [leP]at h
  |tuple _=> simp [leP]at h
  |dict _=> simp [leP]at h
 | .str x,db,A,s,_,_,_,_,r,ra,rb,_,_,_,h=> by
  cases db with
  |str j=>
   rw [aka]at h
   cases h
   cases ra;cases rb
   exact fun prog w E Q q=> PySem.P.le_str q
  |none=> simp [leP]at h
  |bool _=> simp [leP]at h
  |int _=> simp [leP]at h
  |list _=> simp [leP]at h
  |tuple _=> simp [leP]at h
  |dict _=> simp [leP]at h
 | .tuple xs,db,A,s,_,_,_,_,r,ra,rb,ha,hb,hu,h=> by
  cases db with
  | tuple ys=>
   rw [aku]at h
   cases ra with
   | tuple h1 h2 h3 h4=>
    cases rb with
    |tuple k1 k2 k3 k4=>
     refine ahn.tuples ⟨_,h1,h2,_,h3⟩ ⟨_,k1,k2,_,k3⟩ (room_here hu) ?_
     have t:=adz xs ys A.in1 s _ _ _ _ r h4 k4 ha hb (room_in hu) h
     simpa using t
  |none=> simp [leP]at h
  |bool _=> simp [leP]at h
  |int _=> simp [leP]at h
  |list _=> simp [leP]at h
  |str _=> simp [leP]at h
  |dict _=> simp [leP]at h
 |.none,_,_,_,_,_,_,_,_,_,_,_,_,_,h=> by simp [leP]at h
 |.bool _,_,_,_,_,_,_,_,_,_,_,_,_,_,h=> by simp [leP]at h
 |.list _,_,_,_,_,_,_,_,_,_,_,_,_,_,h=> by simp [leP]at h
 |.dict _,_,_,_,_,_,_,_,_,_,_,ha,_,_,_=> nomatch ha
theorem adz: ∀(xs ys:List ae) (A:aZ) (s:ah) (vs ws:List ac) (as bs:List Addr) (r:Bool),bQ s.heap vs xs as -> bQ s.heap ws ys bs -> aO xs=true -> aO ys=true -> A.units+min (bM xs) (bM ys) < cLine -> yw xs ys=some r -> LexLe A s (decide (vs.length <=ws.length)) (vs.zip ws) r
 |[],[],A,s,_,_,_,_,r,ra,rb,_,_,_,h=> by
  cases ra;cases rb
  rw [aim]at h
  cases h
  exact .nil
 |[],_::_,A,s,_,_,_,_,r,ra,rb,_,_,_,h=> by
  cases ra;cases rb
  rw [ahb]at h
  cases h
  simpa using LexLe.nil (A:=A) (s:=s) (fin:=true)
 |_::_,[],A,s,_,_,_,_,r,ra,rb,_,_,_,h=> by
  cases ra;cases rb
  rw [acf]at h
  cases h
  simpa using LexLe.nil (A:=A) (s:=s) (fin:=false)
 | x ::xs,y::ys,A,s,_,_,_,_,r,ra,rb,ha,hb,hu,h=> by
  have ha':x.canLay0=true/\aO xs=true:=by simpa [aO] using ha
  have hb':y.canLay0=true/\aO ys=true:=by simpa [aO] using hb
  rw [agd]at h
  cases ra with
  | cons r1 rs=>
   cases rb with
   | cons r2 rs2=>
    have e:=iO x y A s _ _ _ _ r1 r2 ha'.1 hb'.1 (gn hu)
    rw [cU,aD,aD]
    by_cases q:aI x y=true
    ·rw [if_pos q]at h
     rw [q]at e
     have t:=adz xs ys A s _ _ _ _ r rs rs2 ha'.2 hb'.2 (room_tail hu) h
     refine .same e ?_
     simpa using t
    ·rw [if_neg q]at h
     rw [dW]at q
     rw [q]at e
     exact .diff e (aez x y A s _ _ _ _ r r1 r2 ha'.1 hb'.1 (gn hu) h)
end
section
open L2
variable{X:Cx}
def ai1(dx dy:D)(s:S):R D:=match toP s dx,toP s dy with
 |some a,some b=> match leP a b with
  |some r=> if okD a=true/\okD b=true then .ok (.bl r) s else .bad
  |none=>.bad
 |_,_=>.bad
theorem a0m(hu:X.A.units+64 < cLine):Op2 X (aK .LtE) ai1:=k7 fun pins sh σ H as s x y dx dy v u Q I rl r1 r2 rx ry h=> by
 unfold ai1 at h
 split at h
 ·rename_i a b ea eb
  split at h
  ·rename_i r hr
   split at h
   ·rename_i hok
    obtain⟨bs1,q1⟩:=r1.reads I rl ea rx
    obtain⟨bs2,q2⟩:=r2.reads I rl eb ry
    obtain⟨c1,d1⟩:=v0 hok.1
    obtain⟨c2,d2⟩:=v0 hok.2
    exact aez a b _ _ _ _ _ _ r q1 q2 c1 c2 (by lia) hr _ _ _ _ ⟨.bl _,H,I,rfl,Dn.now (Q:=Q) h rl (.da (.bl _))⟩
   ·exact h.elim
  ·exact h.elim
 ·exact h.elim
end
end PF
namespace PF
open PySem PySem.Spec
open L2
noncomputable def am9(dx dy:D)(s:S):R D:=match dx,dy with
 |.int i,.int j=>.ok (.bl (decide (i <=j))) s
 |.str a,.str b=>.ok (.bl (!decide (b.cps.toList < a.cps.toList))) s
 |_,_=>.bad
theorem a0i:Op2 X (aK .LtE) am9:=k7 fun pins sh σ H as s x y dx dy v u Q I rl r1 r2 rx ry h=> by
 unfold am9 at h
 split at h
 ·rename_i i j
  cases r1.int_inv;cases r2.int_inv
  exact at1 pins sh σ H _ _ v u Q I rx ry ⟨i,j,rfl,rfl,Dn.now (Q:=Q) h rl (.da (.bl _))⟩
 ·rename_i a b
  cases r1.str_inv;cases r2.str_inv
  obtain⟨t,rfl⟩:=rx
  obtain⟨t',rfl⟩:=ry
  exact PySem.P.le_str ⟨.bl _,H,I,rfl,Dn.now (Q:=Q) h rl (.da (.bl _))⟩
 ·exact h.elim
theorem arx{i j:Str}:am9 (.str i) (.str j) s=.ok (.bl (!decide (j.cps.toList < i.cps.toList))) s:=(rfl)
theorem u70(hr:Room k A):A.units+70 < cLine:=by have:=hr.un;lia
section
variable{s:S}{m:Bool}{n:Nat}{x y:Str}{b:Bool}{xs ys:List ae}{ds es:List D}{d e v o:D}{ρ:En}{kvs:List (ae×D)}{k:ae}
theorem a67:an5 f ρ s=(f ρ s).bind ahh:=(rfl)
theorem a3r:ahh [.tup xs,.tup ys] s=.ok ((xs.zip ys).map fun p=> D.tup [p.1,p.2],none) s:=(rfl)
theorem af6(h1:xs.length < 64)(h2:ko xs=true)(h3:xs.all okD=true):xn false [.lst xs] s=.ok (.lst (qj xs)) s:=by
 show (match (some (xs.map D.da)).bind jj with|some xs=> if xs.length < 64/\ko xs=true/\xs.all okD=true then kc false ((qj xs).map D.da) s else .bad|none=>.bad)=_
 show (match jj (xs.map D.da) with|some xs=> if xs.length < 64/\ko xs=true/\xs.all okD=true then kc false ((qj xs).map D.da) s else .bad|none=>.bad)=_
 rw [k6]
 show (if xs.length < 64/\ko xs=true/\xs.all okD=true then kc false ((qj xs).map D.da) s else .bad)=_
 rw [if_pos ⟨h1,h2,h3⟩]
 exact apq
theorem amp(h:s[n]?=some (.lst (xs.map D.da)))(h1:xs.length < 64)(h2:ko xs=true)(h3:xs.all okD=true):xn false [.ref n] s=.ok (.lst (qj xs)) s:=by
 show (match (match s[n]? with|some (O.lst ds)=> some ds|_=> none).bind jj with|some xs=> if xs.length < 64/\ko xs=true/\xs.all okD=true then kc false ((qj xs).map D.da) s else .bad|none=>.bad)=_
 rw [h]
 show (match jj (xs.map D.da) with|some xs=> if xs.length < 64/\ko xs=true/\xs.all okD=true then kc false ((qj xs).map D.da) s else .bad|none=>.bad)=_
 rw [k6]
 show (if xs.length < 64/\ko xs=true/\xs.all okD=true then kc false ((qj xs).map D.da) s else .bad)=_
 rw [if_pos ⟨h1,h2,h3⟩]
 exact apq
theorem aoh(h:s[n]?=some (.lst (xs.map D.da))):vf [.ref n] s=.ok (.tup xs) s:=by
 show (match (match s[n]? with|some (O.lst ds)=> some ds|_=> none) with|some xs=> afb xs s|none=>.bad)=_
 rw [h]
 show (match jj (xs.map D.da) with|some xs=> R.ok (D.tup xs) s|none=>.bad)=_
 rw [k6]
theorem azp(h:s[n]?=some (.lst ds)):ael (.ref n) s=.ok (ds,some n) s:=by
 show (match s[n]? with|some (O.lst ds)=> R.ok (ds,some n) s|_=>.bad)=_
 rw [h]
theorem avc(h:s[n]?=some (.lst (xs.map D.da))):toP s (.ref n)=some (.list xs):=by
 show (match s[n]? with|some (O.lst ds)=> (jj ds).map cz|_=> none)=_
 rw [h]
 show (jj (xs.map D.da)).map cz=_
 rw [k6];rfl
end
theorem xo{g:Tg}{ft:FT}{fe:FE}{ρ0:En}{all:List D}{s:S}{α:Type}(c:α -> D)(p:α -> Bool)(f:α -> ae): ∀(l:List α),(∀a∈l,∃ρ1,km g (c a) ρ0=some ρ1/\ft ρ1 s=.ok (p a) s/\(p a=true -> fe ρ1 s=.ok (.da (f a)) s)) ->
  kh g ft fe ρ0 (all,none) (l.map c) s=.ok (((l.filter p).map f).map D.da) s
 |[],_=> rfl
 | a::r,h=> by
  obtain⟨ρ1,e,e1,e2⟩:=h a az
  have ih:=xo (all:=all) c p f r fun b hb=> h b (ay _ hb)
  rw [aG,ad4 e,e1,R.bind_ok]
  cases hp:p a with
  |false=>
   rw [aiu,ih,h9 (by simp [hp])]
  |true=>
   rw [aja,e2 hp,R.bind_ok,ajh,ih,R.bind_ok,afc,ia hp]
   rfl
end PF
namespace L2
open PySem PySem.Spec PySem.SeqAt --
theorem aju(b:Str)(u:Tok)(l:Addr)(es:Array dJ)(n:Nat)(dd:Option Addr)(sl:Array (Option ac)):
  ig (cf.«str.__eq__» ⟨[.str b u,.ref l],[]⟩) (fun _ R s=> s.heap.get? l=some {cls:=.type "dict",dict:=dd,data:=.dict es n,slots:=sl}/\R (.ok (.ret .notImplemented)) s):=
 .of_wp fun prog w A R s h=> by obtain⟨hp,g,d,tk,os⟩:=s;obtain⟨hl,h⟩:=h;wp_walk using du hl,iP hl;exact⟨_,rfl,h⟩ --
theorem ak0(b:Str)(u:Tok)(l:Addr)(es:Array dJ)(n:Nat)(dd:Option Addr)(sl:Array (Option ac)):
  ig (cf.«dict.__eq__» ⟨[.ref l,.str b u],[]⟩) (fun _ R s=> s.heap.get? l=some {cls:=.type "dict",dict:=dd,data:=.dict es n,slots:=sl}/\R (.ok (.ret .notImplemented)) s):=
 .of_wp fun prog w A R s h=> by obtain⟨hp,g,d,tk,os⟩:=s;obtain⟨hl,h⟩:=h;wp_walk using du hl,iP hl;refine gf F.sub_str_dict ?_;wp_walk;exact⟨_,rfl,h⟩
section
variable{A:aZ}{s:ah} --
theorem ajr{o:Obj}{es:Array dJ}(b:Str)(u:Tok)(ho:s.heap.get? l=some o)(hc:o.cls=.type "dict")(hd:o.data=.dict es n)(hu:A.units < cLine):RcAt A s (.str b u) (.ref l) false:=fun prog w E Q h=> by
 obtain⟨cls,dd,data,sl⟩:=o
 simp only at hc hd
 subst hc hd
 exact rc_eq_decline_or (k:=false) (dU s b u) ⟨_,ho,rfl⟩ (by decide) F.sub_dict_str F.slot_str_eq jE
  (fun _ hq=> cQ F.slot_str_eq (dU s b u) F.entry_str_eq (F.args_str_eq_2 _ _) (aju b u l es n dd sl) ⟨ho,hq⟩)
  (fun _ hq=> cQ jE ⟨_,ho,rfl⟩ F.entry_dict_eq (F.args_dict_eq_2 _ _) (ak0 b u l es n dd sl) ⟨ho,hq⟩)
  (fun _ hq=> gf (rfl:isSame (.str b u) (.ref l)=pure false) hq) (.inr hu) h --
theorem ae0{o:Obj}{es:Array dJ}(b:Str)(u:Tok)(ho:s.heap.get? l=some o)(hc:o.cls=.type "dict")(hd:o.data=.dict es n)(hu:A.units < cLine):EqAt A s (.str b u) (.ref l) false:=fun prog w E Q h=> by
 unfold eqBool
 refine aW ?_
 (refine wpAny_ite_split (fun hab=> absurd (eq_of_beq hab) nofun) (fun _=> ?_))
 exact aa (ajr b u ho hc hd hu prog w E _ (bK h))
end
end L2
namespace PF
open PySem PySem.Spec
open L2
section
variable{X:Cx}{pins:List (Addr×Obj)}{σ:St}{H:Hp}{s:ah}{as:As}
noncomputable def afw:List ae -> Bool
 |[]=> true
 |.str _::r=> afw r
 |_=> false
noncomputable def ang:ae -> Bool
 |.str _=> true
 |_=> false
def amj(neg:Bool)(dx dy:D)(s:S):R D:=match dx,dy with
 |.da d,.tup ds=> if ang d=false then (if afw ds=true then .ok (.bl (nb neg false)) s else .bad) else afi neg (.da d) (.tup ds) s
 |dx,dy=> afi neg dx dy s
theorem TD.noStr{sh:ah}(I:Inv X pins σ H sh)(hu:A.units < cLine){u:ac}(t:TD as H v d)(r:RelV v u)(h:ang d=false)(b:Str)(tk:Tok):cB A sh (.str b tk) u false:=by
 cases t with
 |non=> cases (show u=aQ from r);exact cB.str_none b tk
 |bl c=> cases (show u=dP c from r);exact cB.str_bool b tk c
 |int i=> obtain⟨t,e⟩:=(show∃t,u=gh i t from r);subst e;exact cB.str_int b tk i t
 |str x=> cases h
 | @tup p xs ds n e q=>
  cases (show u=a8 p from r)
  obtain⟨z,its,rv,pp⟩:=(show j5 X.prog X.w H sh.heap p (.tup xs) from I.hok p _ e)
  exact cB.str_tuple b tk pp.tup hu
 | @lst p xs ds n e q=>
  cases (show u=a8 p from r)
  obtain⟨z,its,k,rv,h1⟩:=(show j5 X.prog X.w H sh.heap p (.lst xs) from I.hok p _ e)
  exact cB.str_list (items:=its.toArray) b tk ⟨_,h1,rfl,k,rfl⟩ hu
 | @dct p n e=>
  cases (show u=a8 p from r)
  obtain⟨hsys,o,es,ep,h1,h2,h3,h4⟩:=agu I e
  exact ae0 b tk h1 h2 h3 hu
 | @dc1 p i v d n e q=>
  cases (show u=a8 p from r)
  obtain⟨hsys,o,es,ep,hh,t,y,ry,h1,h2,h3,h4⟩:=akk I e
  exact ae0 b tk h1 h2 h3 hu
theorem apk{sh:ah}{A:aZ}{v:ac}(hv: ∀b tk,cB A sh (.str b tk) v false): ∀{us:List ac} {ds:List ae} {cs:List Addr},bQ sh.heap us ds cs -> afw ds=true -> ∀y∈us,cB A sh y v false
 |_,_,_,.nil,_,y,hy=> by cases hy
 | _,_,_,.cons (d:=d) r rs,h,y,hy=> by
  cases r with
  |str x t=>
   rcases aE.mp hy with z|z
   ·subst z;exact hv x t
   ·exact apk hv rs h y z
  |_=> simp [afw]at h
theorem azh (neg:Bool) (hop:(neg=false/\op=.In)\/(neg=true/\op=.NotIn)) (hu:X.A.units+65 < cLine):Op2 X (aK op) (amj neg):=k7 fun pins sh σ H as s x y dx dy v u Q I rl r1 r2 rx ry h=> by
 unfold amj at h
 split at h
 ·rename_i d ds
  split at h
  ·rename_i hd
   split at h
   ·rename_i hs
    have hin:=aat X.A
    cases r1 with
    | da t=>
     have hv:=fun b tk=> TD.noStr I (A:=X.A.in1) (by lia) t rx hd b tk
     cases r2 with
     | da t2=>
      obtain⟨cs,rd⟩:=TD.reads I t2 ry
      cases rd with
      | @tuple q oq vs nq _ bs k1 k2 k3 k4=>
       have he:=apk (A:=X.A.in1) hv k4 hs
       rcases hop with ⟨rfl,rfl⟩|⟨rfl,rfl⟩
       ·refine SeqAt.in_tupleAt (fun _=> false) ⟨_,k1,k2,_,k3⟩ (fun y hy=> he y (by simpa using hy)) ⟨.bl _,H,I,rfl,?_⟩
        have:(vs.any fun _=> false)=false:=by simp
        rw [this]
        exact Dn.now (Q:=Q) h rl (.da (.bl _))
       ·refine jD (fun _=> false) ⟨_,k1,k2,_,k3⟩ (fun y hy=> he y (by simpa using hy)) ⟨.bl _,H,I,rfl,?_⟩
        have:(vs.any fun _=> false)=false:=by simp
        rw [this]
        exact Dn.now (Q:=Q) h rl (.da (.bl _))
   ·exact h.elim
  ·obtain⟨r,ho,hr⟩:=(amb (X:=X) neg hop hu).ex
   exact ho pins sh σ H x y v u Q I rx ry (hr as H s x y _ _ Q rl r1 r2 h)
 ·obtain⟨r,ho,hr⟩:=(amb (X:=X) neg hop hu).ex
  exact ho pins sh σ H x y v u Q I rx ry (hr as H s x y _ _ Q rl r1 r2 h)
end
theorem u66(hr:Room k X.A):X.A.units+66 < cLine:=by have:=u70 hr;lia
noncomputable def acu:FS:=fun _ _=>.bad
theorem a2a{st:Stmt}:RS X st acu:=⟨_,aq6,fun as σ H ρ s D rl en h=> h.elim⟩
end PF
namespace Ln
open PySem L2 PF
def top(i:Nat):Stmt:=PySem.Challenge.pw_mannerports_k43_tables_written_and_read.main.body.getD i (.Pass ⟨0,0,0,0⟩)
abbrev adv:Stmt:=top 7
noncomputable abbrev af9:Stmt:=top 9
noncomputable abbrev af0:Stmt:=top 10
noncomputable abbrev ady:Stmt:=top 11
noncomputable abbrev agj:Stmt:=top 15
abbrev zp:Stmt:=top 16
noncomputable abbrev agg:Stmt:=top 20
noncomputable abbrev aej:Stmt:=top 21
noncomputable abbrev abj:Stmt:=top 23
noncomputable abbrev acs:Stmt:=top 24
noncomputable abbrev aeu:Stmt:=top 27
noncomputable abbrev aaw:Stmt:=top 28
abbrev acd:Stmt:=top 30
abbrev adx:Stmt:=top 31
abbrev aco:Stmt:=top 32
abbrev acb:Stmt:=top 33
abbrev agb:Stmt:=top 34
abbrev ads:Stmt:=top 36
abbrev ae1:Stmt:=top 37
abbrev ad2:Stmt:=top 38
abbrev ace:Stmt:=top 39
abbrev acr:Stmt:=top 40
abbrev ach:Stmt:=top 41
abbrev act:Stmt:=top 42
abbrev zf:Stmt:=top 43
structure Txt0 (K:am) (mg:Str -> Option ac):Prop where
 h_number_by:Has K mg "number_by" adv ["word"]
 h_is_whole:Has K mg "is_whole" af9 ["thing"]
 h_is_below:Has K mg "is_below" af0 ["many","thing"]
 h_is_rising:Has K mg "is_rising" ady ["things"]
 h_is_port:Has K mg "is_port" agj ["thing"]
 h_are_unlike_ports:Has K mg "are_unlike_ports" zp ["thing"]
 h_is_seen:Has K mg "is_seen" agg ["thing"]
 h_is_thing:Has K mg "is_thing" aej ["things","thing"]
 h_is_moment_of:Has K mg "is_moment_of" abj ["things","ports","thing"]
 h_is_passing:Has K mg "is_passing" acs ["things","ports","pair"]
 h_is_table:Has K mg "is_table" aeu ["thing"]
 h_is_table_step:Has K mg "is_table_step" aaw ["seen","many","thing"]
 h_table_lines:Has K mg "table_lines" acd ["table"]
 h_step_line:Has K mg "step_line" adx ["step"]
 h_read_table:Has K mg "read_table" aco ["lines"]
 h_table_begun:Has K mg "table_begun" acb ["words"]
 h_step_by:Has K mg "step_by" agb ["words"]
 h__law_tape:Has K mg "_law_tape" ads ["_law_script"]
 h__law_draw:Has K mg "_law_draw" ae1 ["_law_tape_here","_law_many"]
 h__law_names:Has K mg "_law_names" ad2 ["_law_tape_here","_law_many"]
 h__law_moment:Has K mg "_law_moment" ace ["_law_tape_here","_law_seen","_law_few"]
 h__law_table:Has K mg "_law_table" acr ["_law_tape_here","_law_seen","_law_most","_law_steps"]
 h__law_great:Has K mg "_law_great" ach ["_law_tape_here","_law_table_here"]
 h__law_lines:Has K mg "_law_lines" act ["_law_table_here"]
 h_law:Has K mg "law" zf ["_law_script"]
 c_FIGURES: ∃t,mg "FIGURES"=some (.str "0123456789" t)
 c_MOST_FIGURES: ∃t,mg "MOST_FIGURES"=some (.int 4 t)
 c_NO_NUMBER: ∃t,mg "NO_NUMBER"=some (.int (-1) t)
 c_SMALL_LETTERS: ∃t,mg "SMALL_LETTERS"=some (.str "abcdefghijklmnopqrstuvwxyz" t)
 c_MOST_LETTERS: ∃t,mg "MOST_LETTERS"=some (.int 8 t)
 c_MOST_THINGS: ∃t,mg "MOST_THINGS"=some (.int 3 t)
 c_MOST_SEEN: ∃t,mg "MOST_SEEN"=some (.int 6 t)
 c_MOST_TABLE_STANDS: ∃t,mg "MOST_TABLE_STANDS"=some (.int 2000 t)
 n_len:mg "len"=none
 n_repr:mg "repr"=none
 n_sorted:mg "sorted"=none
 n_list:mg "list"=none
 n_tuple:mg "tuple"=none
 n_set:mg "set"=none
 n_range:mg "range"=none
 n_isinstance:mg "isinstance"=none
 n_str:mg "str"=none
 n_int:mg "int"=none
 n_bool:mg "bool"=none
 n_all:mg "all"=none
 n_zip:mg "zip"=none
 n_enumerate:mg "enumerate"=none
 n_ValueError:mg "ValueError"=none
local macro_rules | `(tactic| walk_at $s:str) => do
 let n := s.getString
 unless n.startsWith "ok" do Lean.Macro.throwUnsupported
 let x := (n.drop 2).toString
 let i (p : String) := b9 (p ++ x).toName
 let sc := b9 `sc
 let hr := b9 `hr
 `(tactic| (have $sc:ident := $(i "sc"); exact a2c $(i "T.h_") $sc rfl rfl fun f cdv A outer s H E $hr => by unfold $(i "B"):ident; walk_at "dr"))
local macro_rules | `(tactic| walk_at "cl") => do
 let T := b9 `T
 let ns := "oknumber_by okis_whole okis_below okis_rising okis_port okare_unlike_ports okis_seen okis_thing okis_passing okis_moment_of okis_table_step okis_table okstep_line oktable_lines oktable_begun okstep_by okread_table ok_law_tape ok_law_draw ok_law_names ok_law_moment ok_law_table ok_law_great ok_law_lines"
 let a : fT `tactic ← `(tactic| first | assumption)
 let r ← (ns.splitOn " ").foldrM (init := a) fun n (acc : fT `tactic) => `(tactic| first | exact $(b9 n.toName) $T | $acc:tactic)
 return r
theorem ar9:xq X scope [] []:=trivial
theorem aof{ys:List Str}{j:Nat}(h:am8 X scope y j)(k:xq X scope ys js):xq X scope (y::ys) (j::js):=⟨h,k⟩
local macro_rules | `(tactic| walk_at "dr") => do
 let T := b9 `T
 let hr := b9 `hr
 let sc := b9 `sc
 let ns := "a61:_ a4y: a6v:??? a6j:?? a4o: a6y: a5x:_? a5a:? a50:??? a4w:?? a2u:_??? a5c:? a59:? a51: a55:? a2w:????? a54:?|a3n:?? a4f:|a2l:?? a48:? a3h:|a4e:? a6d:??? a3w:? a5p:?? a4p:??? a2a:|a53:??? a5y:? a66:? a33:?????|a69:?? a5k:? a4c:? a4m:??|a64:? a5b:?|a46:????|a3k:? a3g:|a2n: a2s:?"
 let q ← `(?_)
 let u ← `(_)
 let gs ← (ns.splitOn "|").mapM fun l => do
  let e ← `(tactic| fail)
  (l.splitOn " ").foldrM (init := e) fun x (acc : fT `tactic) => do
   let p := x.splitOn ":"
   let f := b9 p.head!.toName
   let as := (p.getLast!.toList.map fun c => if c == '?' then q else u).toArray
   if as.isEmpty then `(tactic| first | exact $f | $acc:tactic) else `(tactic| first | refine $f $as* | $acc:tactic)
 let g (i : Nat) : fT `tactic := gs.getD i ⟨.missing⟩
 `(tactic|
  ((repeat' first
 | (show RE _ _ _; first
  | $(g 0):tactic
  | refine a2m (by walk_at "cl") (($hr).mono (by first | decide | lia)) ?_
  | refine aek a1o ($T).n_len asz ?_
  | refine aek a0n ($T).n_isinstance aj2 ?_
  | refine aev a0f ($T).n_str ati ?_
  | refine aek (ay2 $hr) ($T).n_repr ay8 ?_
  | exact adn ($T).n_tuple ag5
  | refine aev au1 ($T).n_tuple ag5 ?_
  | refine atb PySem.F.slot_list_append PySem.F.type_list_append aqg ?_ ?_
  | refine aek (a07 rfl) ($T).n_all a0l ?_
  | refine at9 PySem.F.slot_str_join PySem.F.type_str_join axx ?_ ?_
  | refine aek (as7 _ (u70 $hr)) ($T).n_sorted apv ?_
  | exact aab ($T).c_NO_NUMBER
  | refine ayo false ?_ ?_ ?_
  | refine at9 PySem.F.slot_str_split PySem.F.type_str_split (m_split false) ?_ ?_
  | exact aab ($T).c_MOST_FIGURES
  | exact ak9 ($T).c_FIGURES
  | refine aev ay1 ($T).n_int atu ?_
  | exact adn ($T).n_int atu
  | exact adn ($T).n_bool ax5
  | exact adn ($T).n_str ati
  | exact aab ($T).c_MOST_LETTERS
  | exact ak9 ($T).c_SMALL_LETTERS
  | refine ap8 rfl ($T).n_len ($T).n_set ?_
  | exact aab ($T).c_MOST_SEEN
  | exact aab ($T).c_MOST_THINGS
  | exact aab ($T).c_MOST_TABLE_STANDS
  | refine atb PySem.F.slot_list_extend PySem.F.type_list_extend arm ?_ ?_
  | refine aev (apf _) ($T).n_list ap3 ?_
  | refine aus rfl ($T).n_tuple ($T).n_zip ?_
  | refine ap4 PySem.F.slot_list_reverse PySem.F.type_list_reverse ap5 ?_
  | refine aev (apf true) ($T).n_list ap3 ?_
  | refine ap4 PySem.F.slot_list_clear PySem.F.type_list_clear aw7 ?_
  | refine' atc _ (own := [_]) (caps := _) _ _ _ _ _ _ _ _ _ _ _
  | refine' atc _ (own := [_, _]) (caps := _) _ _ _ _ _ _ _ _ _ _ _)
 | (show RA _ _ _; first
  | $(g 1):tactic
  | exact aoz rfl)
 | (show RSs _ _ _; first
  | $(g 2):tactic)
 | (show RS _ _ _; first
  | refine' aij _ (own := [_]) (caps := _) _ _ _ _ _ _ _ _ _ _ _ _ _ _ _
  | refine' aij _ (own := [_, _, _]) (caps := _) _ _ _ _ _ _ _ _ _ _ _ _ _ _ _
  | $(g 3):tactic
  | refine az4 ?_ rfl (by first | exact gk rfl | exact gm rfl) ?_
  | refine awv rfl ?_ ?_ ?_)
 | (show RT _ _ _; first
  | $(g 4):tactic
  | refine RW.rt ?_)
 | (show RW _ _ _; first
  | $(g 5):tactic)
 | (show RI _ _ _ _; first
  | $(g 6):tactic
  | refine aww ($T).n_range ?_
  | refine avq ($T).n_zip ?_
  | refine avn ($T).n_enumerate ?_)
 | (show RG _ _ _; first
  | $(g 7):tactic
  | refine a13 rfl ?_ ?_ ?_
  | refine a0j rfl ?_ ?_)
 | (show ROp _ _ _; first
  | $(g 8):tactic)
 | (show RIfs _ _ _; first
  | $(g 9):tactic)
 | (show Op2 _ _ _; with_reducible first | refine azh false ?_ ?_ | refine a2y ?_ | refine a0m ?_ | refine a0g ?_ | refine a2q ?_ | refine avm ?_ | exact a1f _ | exact a19 | exact a38 | exact a3b | exact a0v | exact arh | exact a30 | exact a0i | exact a2d | exact a0h | exact a0x | exact a1p)
 | (show _ < cLine; first | exact u64 $hr | exact u65 $hr | exact u66 $hr | exact u70 $hr)
 | exact gk ⟨rfl, rfl⟩
 | exact ar9
 | refine' aof ⟨rfl, by first | exact gm (gk rfl) | exact gk rfl | exact gm (gm rfl), rfl, rfl⟩ _
 | (show _ = _; exact rfl)
 | (show Loc _ _; first | exact gk rfl | exact gm rfl)
 | (show _ \/ _; first | exact gk rfl | exact gm rfl)
 | (intro _ _ _ _; show RE _ _ _)
 | (intro _ _ _ _; show RG _ _ _)
 | (intro _ _ _ _; show RIfs _ _ _)
 | (intro _ _ _ _; show RI _ _ _ _)); all_goals first | exact ($sc).nd | exact (show (_ ++ _ : List Str).Nodup by decide +kernel)))
variable{P:aR}{w:aT}{K:am}{mg:Str -> Option ac}{base:Heap}
def Bnumber_by:FS:=
  (jd (j4 (qo (ki (ji (zw gLe gLe (fC (.da (.int 1))) (fCB v4 (ja (jb 0) jc)) (fC (.da (.int 4)))))) (ki (qw (fCB abv (ja (fLc false [] 1 (am6 (jb 0)) (.nm 0) yg (fOp ajo (jb 0) (fC (.da (.str "0123456789"))))) jc))))) (jk (fC (.da (.int (-1))))) jt)
  (jd (j4 (adk (ji (fOp gEq (fOp gIx (jb 0) (fC (.da (.int 0)))) (fC (.da (.str "0"))))) (ji (fOp gGt (fCB v4 (ja (jb 0) jc)) (fC (.da (.int 1)))))) (jk (fC (.da (.int (-1))))) jt)
  (jk (fCB ahe (ja (jb 0) jc)))))
def vk:FF:=j8 1 Bnumber_by
theorem am3:vk [a0] s=(Bnumber_by [some a0] s).bind jw:=rfl
theorem scnumber_by:FnScope ["word"] ["word"] (jf adv):=⟨rfl,rfl,rfl,by decide+kernel,rfl,by decide+kernel,by decide+kernel⟩
theorem oknumber_by(T:Txt0 K mg):CalF P w K mg base "number_by" 1 1 vk:=by walk_at "oknumber_by"
def Bis_whole:FS:=
  (jk (ad7 (fCB yp (ja (jb 0) (ja (fC (.ty "int")) jc))) (azv (fCB yp (ja (jb 0) (ja (fC (.ty "bool")) jc))))))
def zq:FF:=j8 1 Bis_whole
theorem apt:zq [a0] s=(Bis_whole [some a0] s).bind jw:=rfl
theorem scis_whole:FnScope ["thing"] ["thing"] (jf af9):=⟨rfl,rfl,rfl,by decide+kernel,rfl,by decide+kernel,by decide+kernel⟩
theorem okis_whole(T:Txt0 K mg):CalF P w K mg base "is_whole" 1 1 zq:=by walk_at "okis_whole"
def Bis_below:FS:=
  (jk (ad7 (je 1 zq (ja (jb 1) jc)) (zw gLe gLt (fC (.da (.int 0))) (jb 1) (jb 0))))
def yn:FF:=j8 2 Bis_below
theorem aps:yn [a0,a1] s=(Bis_below [some a0,some a1] s).bind jw:=rfl
theorem scis_below:FnScope ["many","thing"] ["many","thing"] (jf af0):=⟨rfl,rfl,rfl,by decide+kernel,rfl,by decide+kernel,by decide+kernel⟩
theorem okis_below(T:Txt0 K mg):CalF P w K mg base "is_below" 2 2 yn:=by walk_at "okis_below"
def Bis_rising:FS:=
  (jk (fCB abv (ja (fLc false [] 2 (an5 (ja (jb 0) (ja (fSl false (jb 0) (aa3 (fC (.da (.int 1)))) fNo) jc))) (.t2 (.nm 0) (.nm 1)) yg (fOp ana (jb 0) (jb 1))) jc)))
def aa0:FF:=j8 1 Bis_rising
theorem an6:aa0 [a0] s=(Bis_rising [some a0] s).bind jw:=rfl
theorem scis_rising:FnScope ["things"] ["things"] (jf ady):=⟨rfl,rfl,rfl,by decide+kernel,rfl,by decide+kernel,by decide+kernel⟩
theorem okis_rising(T:Txt0 K mg):CalF P w K mg base "is_rising" 1 1 aa0:=by walk_at "okis_rising"
def Bis_port:FS:=
  (jd (j4 (qo (ki (qw (fCB yp (ja (jb 0) (ja (fC (.ty "str")) jc))))) (ki (ji (zw gLe gLe (fC (.da (.int 1))) (fCB v4 (ja (jb 0) jc)) (fC (.da (.int 8))))))) (jk (fC (.da (.bool false)))) jt)
  (jk (fCB abv (ja (fLc false [] 1 (am6 (jb 0)) (.nm 0) yg (fOp ajo (jb 0) (fC (.da (.str "abcdefghijklmnopqrstuvwxyz"))))) jc))))
def abk:FF:=j8 1 Bis_port
theorem ary:abk [a0] s=(Bis_port [some a0] s).bind jw:=rfl
theorem scis_port:FnScope ["thing"] ["thing"] (jf agj):=⟨rfl,rfl,rfl,by decide+kernel,rfl,by decide+kernel,by decide+kernel⟩
theorem okis_port(T:Txt0 K mg):CalF P w K mg base "is_port" 1 1 abk:=by walk_at "okis_port"
def Bare_unlike_ports:FS:=
  (jd (j4 (qo (ki (qw (fCB yp (ja (jb 0) (ja (fC (.ty "tuple")) jc))))) (ki (qw (fCB abv (ja (fLc false [] 1 (fIt (jb 0)) (.nm 0) yg (je 1 abk (ja (jb 0) jc))) jc))))) (jk (fC (.da (.bool false)))) jt)
  (jk (fOp gEq (fCB adl (ja (jb 0) jc)) (fCB v4 (ja (jb 0) jc)))))
def vd:FF:=j8 1 Bare_unlike_ports
theorem adr:vd [a0] s=(Bare_unlike_ports [some a0] s).bind jw:=rfl
theorem scare_unlike_ports:FnScope ["thing"] ["thing"] (jf zp):=⟨rfl,rfl,rfl,by decide+kernel,rfl,by decide+kernel,by decide+kernel⟩
theorem okare_unlike_ports(T:Txt0 K mg):CalF P w K mg base "are_unlike_ports" 2 1 vd:=by walk_at "okare_unlike_ports"
def Bis_seen:FS:=
  (jk (ad7 (je 1 vd (ja (jb 0) jc)) (fOp gLe (fCB v4 (ja (jb 0) jc)) (fC (.da (.int 6))))))
def ac1:FF:=j8 1 Bis_seen
theorem ar7:ac1 [a0] s=(Bis_seen [some a0] s).bind jw:=rfl
theorem scis_seen:FnScope ["thing"] ["thing"] (jf agg):=⟨rfl,rfl,rfl,by decide+kernel,rfl,by decide+kernel,by decide+kernel⟩
theorem okis_seen(T:Txt0 K mg):CalF P w K mg base "is_seen" 3 1 ac1:=by walk_at "okis_seen"
def Bis_thing:FS:=
  (jk (je 2 yn (ja (jb 0) (ja (jb 1) jc))))
def aav:FF:=j8 2 Bis_thing
theorem anz:aav [a0,a1] s=(Bis_thing [some a0,some a1] s).bind jw:=rfl
theorem scis_thing:FnScope ["things","thing"] ["things","thing"] (jf aej):=⟨rfl,rfl,rfl,by decide+kernel,rfl,by decide+kernel,by decide+kernel⟩
theorem okis_thing(T:Txt0 K mg):CalF P w K mg base "is_thing" 3 2 aav:=by walk_at "okis_thing"
def Bis_passing:FS:=
  (jd (j4 (qo (ki (qw (fCB yp (ja (jb 2) (ja (fC (.ty "tuple")) jc))))) (ji (fOp gNe (fCB v4 (ja (jb 2) jc)) (fC (.da (.int 2)))))) (jk (fC (.da (.bool false)))) jt)
  (jk (ad7 (fOp (amj false) (fOp gIx (jb 2) (fC (.da (.int 0)))) (jb 1)) (je 2 aav (ja (jb 0) (ja (fOp gIx (jb 2) (fC (.da (.int 1)))) jc))))))
def zi:FF:=j8 3 Bis_passing
theorem ak2{a2:D}:zi [a0,a1,a2] s=(Bis_passing [some a0,some a1,some a2] s).bind jw:=rfl
theorem scis_passing:FnScope ["things","ports","pair"] ["things","ports","pair"] (jf acs):=⟨rfl,rfl,rfl,by decide+kernel,rfl,by decide+kernel,by decide+kernel⟩
theorem okis_passing(T:Txt0 K mg):CalF P w K mg base "is_passing" 4 3 zi:=by walk_at "okis_passing"
def Bis_moment_of:FS:=
  (jd (j4 (ki (qw (fCB yp (ja (jb 2) (ja (fC (.ty "tuple")) jc))))) (jk (fC (.da (.bool false)))) jt)
  (jd (jp 3 (fC (.da (.str ""))))
  (jd (ye (fIt (jb 2)) (.nm 4) (jd (j4 (qo (ki (qw (je 3 zi (ja (jb 0) (ja (jb 1) (ja (jb 4) jc)))))) (ji (fOp am9 (fOp gIx (jb 4) (fC (.da (.int 0)))) (jb 3)))) (jk (fC (.da (.bool false)))) jt)
  (jp 3 (fOp gIx (jb 4) (fC (.da (.int 0)))))))
  (jk (fC (.da (.bool true)))))))
def vy:FF:=j8 5 Bis_moment_of
theorem aha{a2:D}:vy [a0,a1,a2] s=(Bis_moment_of [some a0,some a1,some a2,none,none] s).bind jw:=rfl
theorem scis_moment_of:FnScope ["things","ports","thing","ahead","pair"] ["things","ports","thing"] (jf abj):=⟨rfl,rfl,rfl,by decide+kernel,rfl,by decide+kernel,by decide+kernel⟩
theorem okis_moment_of(T:Txt0 K mg):CalF P w K mg base "is_moment_of" 5 3 vy:=by walk_at "okis_moment_of"
def Bis_table_step:FS:=
  (jd (j4 (qo (ki (qw (fCB yp (ja (jb 2) (ja (fC (.ty "tuple")) jc))))) (ji (fOp gNe (fCB v4 (ja (jb 2) jc)) (fC (.da (.int 3)))))) (jk (fC (.da (.bool false)))) jt)
  (jd (acx (.t3 (.nm 3) (.nm 4) (.nm 5)) (jb 2))
  (jk (ad7 (je 2 yn (ja (jb 1) (ja (jb 3) jc))) (ad7 (je 2 yn (ja (jb 1) (ja (jb 5) jc))) (je 3 vy (ja (fC (.da (.int 3))) (ja (jb 0) (ja (jb 4) jc)))))))))
def kt:FF:=j8 6 Bis_table_step
theorem ag0{a2:D}:kt [a0,a1,a2] s=(Bis_table_step [some a0,some a1,some a2,none,none,none] s).bind jw:=rfl
theorem scis_table_step:FnScope ["seen","many","thing","begin","moment","end"] ["seen","many","thing"] (jf aaw):=⟨rfl,rfl,rfl,by decide+kernel,rfl,by decide+kernel,by decide+kernel⟩
theorem okis_table_step(T:Txt0 K mg):CalF P w K mg base "is_table_step" 6 3 kt:=by walk_at "okis_table_step"
def Bis_table:FS:=
  (jd (j4 (qo (ki (qw (fCB yp (ja (jb 0) (ja (fC (.ty "tuple")) jc))))) (ji (fOp gNe (fCB v4 (ja (jb 0) jc)) (fC (.da (.int 3)))))) (jk (fC (.da (.bool false)))) jt)
  (jd (acx (.t3 (.nm 1) (.nm 2) (.nm 3)) (jb 0))
  (jd (j4 (qo (ki (qw (je 1 ac1 (ja (jb 1) jc)))) (qo (ki (qw (je 1 zq (ja (jb 2) jc)))) (ki (ji (zw gLe gLe (fC (.da (.int 1))) (jb 2) (fC (.da (.int 2000)))))))) (jk (fC (.da (.bool false)))) jt)
  (jd (j4 (qo (ki (qw (fCB yp (ja (jb 3) (ja (fC (.ty "tuple")) jc))))) (ki (qw (fCB abv (ja (fLc false [1,2] 1 (fIt (jb 3)) (.nm 0) yg (je 3 kt (ja (jb 1) (ja (jb 2) (ja (jb 0) jc))))) jc))))) (jk (fC (.da (.bool false)))) jt)
  (jk (je 1 aa0 (ja (jb 3) jc)))))))
def xb:FF:=j8 4 Bis_table
theorem apg:xb [a0] s=(Bis_table [some a0,none,none,none] s).bind jw:=rfl
theorem scis_table:FnScope ["thing","seen","many","steps"] ["thing"] (jf aeu):=⟨rfl,rfl,rfl,by decide+kernel,rfl,by decide+kernel,by decide+kernel⟩
theorem okis_table(T:Txt0 K mg):CalF P w K mg base "is_table" 7 1 xb:=by walk_at "okis_table"
def Bstep_line:FS:=
  (jd (acx (.t3 (.nm 1) (.nm 2) (.nm 3)) (jb 0))
  (jd (jp 4 (vx true (ja (fC (.da (.str "step"))) (ja (fCB aaf (ja (jb 1) jc)) (ja (fCB aaf (ja (jb 3) jc)) jc)))))
  (jd (ye (fIt (jb 2)) (.t2 (.nm 5) (.nm 6)) (ql (fMt adp (jb 4) (ja (vx false (ja (jb 5) (ja (fCB aaf (ja (jb 6) jc)) jc))) jc))))
  (jk (fMs zj (fC (.da (.str " "))) (ja (jb 4) jc))))))
def z9:FF:=j8 7 Bstep_line
theorem am0:z9 [a0] s=(Bstep_line [some a0,none,none,none,none,none,none] s).bind jw:=rfl
theorem scstep_line:FnScope ["step","begin","moment","end","words","port","thing"] ["step"] (jf adx):=⟨rfl,rfl,rfl,by decide+kernel,rfl,by decide+kernel,by decide+kernel⟩
theorem okstep_line(T:Txt0 K mg):CalF P w K mg base "step_line" 1 1 z9:=by walk_at "okstep_line"
def Btable_lines:FS:=
  (jd (acx (.t3 (.nm 1) (.nm 2) (.nm 3)) (jb 0))
  (jk (fOp (j7 true) (vx true (ja (fMs zj (fC (.da (.str " "))) (ja (fOp (j7 false) (vx false (ja (fC (.da (.str "table"))) (ja (fCB aaf (ja (jb 2) jc)) jc))) (fCB (abx false) (ja (jb 1) jc))) jc)) jc)) (fLc false [] 1 (fIt (jb 3)) (.nm 0) yg (je 1 z9 (ja (jb 0) jc))))))
def ku:FF:=j8 4 Btable_lines
theorem ajf:ku [a0] s=(Btable_lines [some a0,none,none,none] s).bind jw:=rfl
theorem sctable_lines:FnScope ["table","seen","many","steps"] ["table"] (jf acd):=⟨rfl,rfl,rfl,by decide+kernel,rfl,by decide+kernel,by decide+kernel⟩
theorem oktable_lines(T:Txt0 K mg):CalF P w K mg base "table_lines" 2 1 ku:=by walk_at "oktable_lines"
def Btable_begun:FS:=
  (jd (j4 (qo (ji (fOp gLt (fCB v4 (ja (jb 0) jc)) (fC (.da (.int 2))))) (ji (fOp gNe (fOp gIx (jb 0) (fC (.da (.int 0)))) (fC (.da (.str "table")))))) (jk (fC (.da (.none)))) jt)
  (jk (qf (ja (fCB vf (ja (fSl false (jb 0) (aa3 (fC (.da (.int 2)))) fNo) jc)) (ja (je 1 vk (ja (fOp gIx (jb 0) (fC (.da (.int 1)))) jc)) (ja (qf jc) jc))))))
def yt:FF:=j8 1 Btable_begun
theorem aix:yt [a0] s=(Btable_begun [some a0] s).bind jw:=rfl
theorem sctable_begun:FnScope ["words"] ["words"] (jf acb):=⟨rfl,rfl,rfl,by decide+kernel,rfl,by decide+kernel,by decide+kernel⟩
theorem oktable_begun(T:Txt0 K mg):CalF P w K mg base "table_begun" 2 1 yt:=by walk_at "oktable_begun"
def Bstep_by:FS:=
  (jd (j4 (qo (ji (fOp gLt (fCB v4 (ja (jb 0) jc)) (fC (.da (.int 3))))) (qo (ji (fOp gEq (fOp yf (fCB v4 (ja (jb 0) jc)) (fC (.da (.int 2)))) (fC (.da (.int 0))))) (ji (fOp gNe (fOp gIx (jb 0) (fC (.da (.int 0)))) (fC (.da (.str "step"))))))) (jk (fC (.da (.none)))) jt)
  (jd (jp 1 (fLc false [] 1 (fIt (amr false (jb 0) (fC (.da (.int 4))) (fC (.da (.int 2))))) (.nm 0) yg (je 1 vk (ja (jb 0) jc))))
  (jk (qf (ja (je 1 vk (ja (fOp gIx (jb 0) (fC (.da (.int 1)))) jc)) (ja (fCB ahj (ja (amr false (jb 0) (fC (.da (.int 3))) (fC (.da (.int 2)))) (ja (jb 1) jc))) (ja (je 1 vk (ja (fOp gIx (jb 0) (fC (.da (.int 2)))) jc)) jc)))))))
def aak:FF:=j8 2 Bstep_by
theorem aqd:aak [a0] s=(Bstep_by [some a0,none] s).bind jw:=rfl
theorem scstep_by:FnScope ["words","things"] ["words"] (jf agb):=⟨rfl,rfl,rfl,by decide+kernel,rfl,by decide+kernel,by decide+kernel⟩
theorem okstep_by(T:Txt0 K mg):CalF P w K mg base "step_by" 2 1 aak:=by walk_at "okstep_by"
def Bread_table:FS:=
  (jd (j4 (ki (qw (jb 0))) acu jt)
  (jd (jp 1 (je 1 yt (ja (fMs (yx false) (fOp gIx (jb 0) (fC (.da (.int 0)))) (ja (fC (.da (.str " "))) jc)) jc)))
  (jd (j4 (ki (qw (je 1 xb (ja (jb 1) jc)))) acu jt)
  (jd (acx (.t2 (.nm 2) (.nm 3)) (fSl false (jb 1) fNo (aa3 (fC (.da (.int 2))))))
  (jd (jp 4 (vx true jc))
  (jd (ye (aq5 1 (ja (fSl false (jb 0) (aa3 (fC (.da (.int 1)))) fNo) jc)) (.t2 (.nm 5) (.nm 6)) (jd (jp 7 (je 1 aak (ja (fMs (yx false) (jb 6) (ja (fC (.da (.str " "))) jc)) jc)))
  (jd (j4 (qo (ki (qw (je 3 kt (ja (jb 2) (ja (jb 3) (ja (jb 7) jc)))))) (adk (qw (jb 4)) (ji (fOp ai1 (jb 7) (fOp gIx (jb 4) (ab1 (fC (.da (.int 1))))))))) acu jt)
  (ql (fMt ky (jb 4) (ja (jb 7) jc))))))
  (jk (qf (ja (jb 2) (ja (jb 3) (ja (fCB vf (ja (jb 4) jc)) jc)))))))))))
def qb:FF:=j8 8 Bread_table
theorem ajx:qb [a0] s=(Bread_table [some a0,none,none,none,none,none,none,none] s).bind jw:=rfl
theorem scread_table:FnScope ["lines","table","seen","many","steps","row","line","step"] ["lines"] (jf aco):=⟨rfl,rfl,rfl,by decide+kernel,rfl,by decide+kernel,by decide+kernel⟩
theorem okread_table(T:Txt0 K mg):CalF P w K mg base "read_table" 8 1 qb:=by walk_at "okread_table"
def B_law_tape:FS:=
  (jk (vx true (ja (fSl false (jb 0) fNo (aa3 (fC (.da (.int 63))))) (ja (fC (.da (.int 0))) (ja (fC (.da (.int 0))) jc)))))
def yo:FF:=j8 1 B_law_tape
theorem amw:yo [a0] s=(B_law_tape [some a0] s).bind jw:=rfl
theorem sc_law_tape:FnScope ["_law_script"] ["_law_script"] (jf ads):=⟨rfl,rfl,rfl,by decide+kernel,rfl,by decide+kernel,by decide+kernel⟩
theorem ok_law_tape(T:Txt0 K mg):CalF P w K mg base "_law_tape" 1 1 yo:=by walk_at "ok_law_tape"
def B_law_draw:FS:=
  (jd (j4 (ji (fOp gGt (fOp gIx (jb 0) (fC (.da (.int 2)))) (fC (.da (.int 0))))) (jd (jp 2 (fOp yf (fOp gIx (jb 0) (fC (.da (.int 2)))) (jb 1)))
  (jd (ab8 (fOp afg (fOp gIx (jb 0) (fC (.da (.int 2)))) (jb 1)) (jb 0) (fC (.da (.int 2))))
  (jk (jb 2)))) jt)
  (jd (jp 3 (fOp gIx (jb 0) (fC (.da (.int 1)))))
  (jd (ab8 (fOp (j7 false) (jb 3) (fC (.da (.int 1)))) (jb 0) (fC (.da (.int 1))))
  (jd (jp 4 (fC (.da (.int 0))))
  (jd (j4 (ji (fOp gGt (fCB v4 (ja (fOp gIx (jb 0) (fC (.da (.int 0)))) jc)) (fC (.da (.int 0))))) (jp 4 (fOp gIx (fOp gIx (jb 0) (fC (.da (.int 0)))) (fOp yf (jb 3) (fCB v4 (ja (fOp gIx (jb 0) (fC (.da (.int 0)))) jc))))) jt)
  (jd (j4 (ji (fOp gGe (jb 4) (fOp aml (fC (.da (.int 10))) (fC (.da (.int 18)))))) (jd (ab8 (fOp afg (jb 4) (jb 1)) (jb 0) (fC (.da (.int 2))))
  (jk (fOp yf (jb 4) (jb 1)))) jt)
  (jd (jp 5 (fOp yf (fOp xp (fOp (j7 false) (fOp (j7 false) (fOp (j7 false) (fOp yf (jb 4) (fC (.da (.int 1000003)))) (fOp xp (fOp xp (fC (.da (.int 37))) (jb 3)) (jb 3))) (fOp xp (fC (.da (.int 101))) (jb 3))) (fC (.da (.int 7)))) (fC (.da (.int 48271)))) (fC (.da (.int 2147483587)))))
  (jd (jp 5 (fOp yf (fOp (j7 false) (fOp xp (jb 5) (fC (.da (.int 69621)))) (fOp xp (fC (.da (.int 7919))) (jb 3))) (fC (.da (.int 2147483549)))))
  (jk (fOp yf (fOp afg (jb 5) (fC (.da (.int 64)))) (jb 1)))))))))))
def jh:FF:=j8 6 B_law_draw
theorem amm:jh [a0,a1] s=(B_law_draw [some a0,some a1,none,none,none,none] s).bind jw:=rfl
theorem sc_law_draw:FnScope ["_law_tape_here","_law_many","_law_found","_law_spot","_law_cell","_law_mixed"] ["_law_tape_here","_law_many"] (jf ae1):=⟨rfl,rfl,rfl,by decide+kernel,rfl,by decide+kernel,by decide+kernel⟩
theorem ok_law_draw(T:Txt0 K mg):CalF P w K mg base "_law_draw" 1 2 jh:=by walk_at "ok_law_draw"
def B_law_names:FS:=
  (jd (jp 2 (vx false (fVs (dX D.da [.str "a",.str "ab",.str "abc",.str "net",.str "end",.str "within",.str "to",.str "table",.str "step",.str "box",.str "port",.str "next",.str "b",.str "zzzzzzzz"]))))
  (jd (jp 2 (fOp (j7 false) (jb 2) (vx false (fVs (dX D.da [.str "both",.str "place",.str "ba"])))))
  (jd (jp 3 (je 2 jh (ja (jb 0) (ja (fC (.da (.int 17))) jc))))
  (jd (jp 4 (fOp (j7 false) (fC (.da (.int 1))) (je 2 jh (ja (jb 0) (ja (fC (.da (.int 16))) jc)))))
  (jk (fLc false [2,3,4] 1 (aai (ja (jb 1) jc)) (.nm 0) yg (fOp gIx (jb 1) (fOp yf (fOp (j7 false) (jb 2) (fOp xp (jb 3) (jb 0))) (fC (.da (.int 17)))))))))))
def xw:FF:=j8 5 B_law_names
theorem ajs:xw [a0,a1] s=(B_law_names [some a0,some a1,none,none,none] s).bind jw:=rfl
theorem sc_law_names:FnScope ["_law_tape_here","_law_many","_law_some","_law_first","_law_step"] ["_law_tape_here","_law_many"] (jf ad2):=⟨rfl,rfl,rfl,by decide+kernel,rfl,by decide+kernel,by decide+kernel⟩
theorem ok_law_names(T:Txt0 K mg):CalF P w K mg base "_law_names" 2 2 xw:=by walk_at "ok_law_names"
def B_law_moment:FS:=
  (jd (jp 3 (fLc false [2,0] 1 (fIt (jb 1)) (.nm 0) (ji (fOp gLt (je 2 jh (ja (jb 2) (ja (fC (.da (.int 3))) jc))) (jb 1))) (jb 0)))
  (jk (fCB vf (ja (fCB (xn false) (ja (fLc false [0] 1 (fIt (jb 3)) (.nm 0) yg (qf (ja (jb 0) (ja (fOp xp (je 2 jh (ja (jb 1) (ja (fC (.da (.int 3))) jc))) (je 2 jh (ja (jb 1) (ja (fC (.da (.int 2))) jc)))) jc)))) jc)) jc))))
def xi:FF:=j8 4 B_law_moment
theorem ajd{a2:D}:xi [a0,a1,a2] s=(B_law_moment [some a0,some a1,some a2,none] s).bind jw:=rfl
theorem sc_law_moment:FnScope ["_law_tape_here","_law_seen","_law_few","_law_some"] ["_law_tape_here","_law_seen","_law_few"] (jf ace):=⟨rfl,rfl,rfl,by decide+kernel,rfl,by decide+kernel,by decide+kernel⟩
theorem ok_law_moment(T:Txt0 K mg):CalF P w K mg base "_law_moment" 2 3 xi:=by walk_at "ok_law_moment"
def B_law_table:FS:=
  (jd (jp 4 (fOp (j7 false) (fC (.da (.int 1))) (je 2 jh (ja (jb 0) (ja (jb 2) jc)))))
  (jd (jp 5 (vx true jc))
  (jd (jp 6 (fOp (j7 false) (fC (.da (.int 1))) (je 2 jh (ja (jb 0) (ja (fC (.da (.int 2))) jc)))))
  (jd (ye (aai (ja (je 2 jh (ja (jb 0) (ja (fOp (j7 false) (jb 3) (fC (.da (.int 1)))) jc))) jc)) (.nm 7) (jd (jp 8 (je 2 jh (ja (jb 0) (ja (jb 4) jc))))
  (jd (jp 9 (qf (ja (jb 8) (ja (je 3 xi (ja (jb 0) (ja (jb 1) (ja (jb 6) jc)))) (ja (je 2 jh (ja (jb 0) (ja (jb 4) jc))) jc)))))
  (j4 (ji (fOp aan (jb 9) (jb 5))) (ql (fMt ky (jb 5) (ja (jb 9) jc))) jt))))
  (jd (j4 (ji (fOp gEq (je 2 jh (ja (jb 0) (ja (fC (.da (.int 2))) jc))) (fC (.da (.int 0))))) (jp 5 (fOp (j7 true) (jb 5) (fLc false [5] 1 (aai (ja (jb 4) jc)) (.nm 0) (ji (fOp aan (qf (ja (jb 0) (ja (qf jc) (ja (jb 0) jc)))) (jb 1))) (qf (ja (jb 0) (ja (qf jc) (ja (jb 0) jc))))))) jt)
  (jk (qf (ja (fCB vf (ja (jb 1) jc)) (ja (jb 4) (ja (fCB vf (ja (fCB (xn false) (ja (jb 5) jc)) jc)) jc))))))))))
def xt:FF:=j8 10 B_law_table
theorem ajq{a2 a3:D}:xt [a0,a1,a2,a3] s=(B_law_table [some a0,some a1,some a2,some a3,none,none,none,none,none,none] s).bind jw:=rfl
theorem sc_law_table:FnScope ["_law_tape_here","_law_seen","_law_most","_law_steps","_law_many","_law_found","_law_few","_law_k","_law_start","_law_step"] ["_law_tape_here","_law_seen","_law_most","_law_steps"] (jf acr):=⟨rfl,rfl,rfl,by decide+kernel,rfl,by decide+kernel,by decide+kernel⟩
theorem ok_law_table(T:Txt0 K mg):CalF P w K mg base "_law_table" 3 4 xt:=by walk_at "ok_law_table"
def B_law_great:FS:=
  (jd (acx (.t3 (.nm 2) (.nm 3) (.nm 4)) (jb 1))
  (jd (jp 5 (vx true (ja (fC (.da (.int 0))) jc)))
  (jd (ye (aai (ja (jb 3) jc)) (.nm 6) (ql (fMt ky (jb 5) (ja (fOp (j7 false) (fOp (j7 false) (fOp gIx (jb 5) (ab1 (fC (.da (.int 1))))) (fC (.da (.int 1)))) (je 2 jh (ja (jb 0) (ja (fOp gIx (vx false (fVs (dX D.da [.int 2,.int 12,.int 120]))) (je 2 jh (ja (jb 0) (ja (fC (.da (.int 3))) jc)))) jc)))) jc))))
  (jd (jp 7 (fLc false [5] 3 (fIt (jb 4)) (.t3 (.nm 0) (.nm 1) (.nm 2)) yg (qf (ja (fOp gIx (jb 3) (jb 0)) (ja (jb 1) (ja (fOp gIx (jb 3) (jb 2)) jc))))))
  (jk (qf (ja (jb 2) (ja (fOp gIx (vx false (ja (fOp gIx (jb 5) (ab1 (fC (.da (.int 1))))) (ja (fC (.da (.int 2000))) jc))) (je 2 jh (ja (jb 0) (ja (fC (.da (.int 2))) jc)))) (ja (fCB vf (ja (fCB (xn false) (ja (jb 7) jc)) jc)) jc)))))))))
def xv:FF:=j8 8 B_law_great
theorem ak3:xv [a0,a1] s=(B_law_great [some a0,some a1,none,none,none,none,none,none] s).bind jw:=rfl
theorem sc_law_great:FnScope ["_law_tape_here","_law_table_here","_law_seen","_law_many","_law_steps","_law_numbers","_law_k","_law_moved"] ["_law_tape_here","_law_table_here"] (jf ach):=⟨rfl,rfl,rfl,by decide+kernel,rfl,by decide+kernel,by decide+kernel⟩
theorem ok_law_great(T:Txt0 K mg):CalF P w K mg base "_law_great" 2 2 xv:=by walk_at "ok_law_great"
def B_law_lines:FS:=
  (jd (jp 1 (vx true (ja (fOp (j7 false) (fOp (j7 false) (fC (.da (.str "table "))) (fCB aaf (ja (fOp gIx (jb 0) (fC (.da (.int 1)))) jc))) (fMs zj (fC (.da (.str ""))) (ja (fLc false [] 1 (fIt (fOp gIx (jb 0) (fC (.da (.int 0))))) (.nm 0) yg (fOp (j7 false) (fC (.da (.str " "))) (jb 0))) jc))) jc)))
  (jd (ye (fIt (fOp gIx (jb 0) (fC (.da (.int 2))))) (.t3 (.nm 2) (.nm 3) (.nm 4)) (jd (ql (fMt ky (jb 1) (ja (fOp (j7 false) (fOp (j7 false) (fOp (j7 false) (fC (.da (.str "step "))) (fCB aaf (ja (jb 2) jc))) (fC (.da (.str " ")))) (fCB aaf (ja (jb 4) jc))) jc)))
  (ye (fIt (jb 3)) (.t2 (.nm 5) (.nm 6)) (ab8 (fOp (j7 false) (fOp (j7 false) (fOp (j7 false) (fOp (j7 false) (fOp gIx (jb 1) (ab1 (fC (.da (.int 1))))) (fC (.da (.str " ")))) (jb 5)) (fC (.da (.str " ")))) (fCB aaf (ja (jb 6) jc))) (jb 1) (ab1 (fC (.da (.int 1))))))))
  (jk (as9 (jb 1)))))
def qz:FF:=j8 7 B_law_lines
theorem ak1:qz [a0] s=(B_law_lines [some a0,none,none,none,none,none,none] s).bind jw:=rfl
theorem sc_law_lines:FnScope ["_law_table_here","_law_found","_law_start","_law_moment_here","_law_to","_law_port","_law_thing"] ["_law_table_here"] (jf act):=⟨rfl,rfl,rfl,by decide+kernel,rfl,by decide+kernel,by decide+kernel⟩
theorem ok_law_lines(T:Txt0 K mg):CalF P w K mg base "_law_lines" 1 1 qz:=by walk_at "ok_law_lines"
def Blaw:FS:=
  (jd (jp 1 (je 1 yo (ja (jb 0) jc)))
  (jd (jp 2 (vx true jc))
  (jd (ye (aai (ja (fC (.da (.int 5))) jc)) (.nm 3) (jd (jp 4 (je 4 xt (ja (jb 1) (ja (fSl false (je 2 xw (ja (jb 1) (ja (fC (.da (.int 6))) jc))) fNo (aa3 (je 2 jh (ja (jb 1) (ja (fC (.da (.int 7))) jc))))) (ja (fC (.da (.int 5))) (ja (fC (.da (.int 12))) jc))))))
  (jd (j4 (ji (fOp gEq (je 2 jh (ja (jb 1) (ja (fC (.da (.int 2))) jc))) (fC (.da (.int 0))))) (jp 4 (je 2 xv (ja (jb 1) (ja (jb 4) jc)))) jt)
  (jd (jp 5 (je 1 qz (ja (jb 4) jc)))
  (jd (j4 (ji (fOp ab6 (je 1 xb (ja (jb 4) jc)) (fC (.da (.bool true))))) (jk (fC (.da (.bool false)))) jt)
  (jd (ye (aai (ja (fC (.da (.int 2))) jc)) (.nm 6) (jd (jp 7 (je 1 ku (ja (jb 4) jc)))
  (jd (j4 (ji (fOp gNe (fCB kx (ja (jb 7) jc)) (fCB kx (ja (jb 5) jc)))) (jk (fC (.da (.bool false)))) jt)
  (jd (ql (fMt ky (jb 7) (ja (fC (.da (.str "step 0 0"))) jc)))
  (ql (fMt aag (jb 7) jc))))))
  (jd (jp 8 (fCB (abx true) (ja (jb 5) jc)))
  (jd (jp 7 (je 1 qb (ja (jb 8) jc)))
  (jd (j4 (qo (ji (fOp gNe (fCB kx (ja (jb 7) jc)) (fCB kx (ja (jb 4) jc)))) (ji (fOp gNe (jb 8) (jb 5)))) (jk (fC (.da (.bool false)))) jt)
  (jd (ql (fMt ad0 (jb 8) jc))
  (jd (j4 (qo (ji (fOp gNe (fCB kx (ja (jb 7) jc)) (fCB kx (ja (jb 4) jc)))) (ji (fOp gNe (fCB kx (ja (je 1 qb (ja (jb 5) jc)) jc)) (fCB kx (ja (jb 4) jc))))) (jk (fC (.da (.bool false)))) jt)
  (jd (ye (fIt (jb 2)) (.nm 9) (j4 (ji (fOp gNe (fOp gEq (je 1 ku (ja (jb 9) jc)) (jb 5)) (fOp gEq (jb 9) (jb 4)))) (jk (fC (.da (.bool false)))) jt))
  (ql (fMt ky (jb 2) (ja (jb 4) jc)))))))))))))))
  (jk (fC (.da (.bool true)))))))
def aqc:FF:=j8 10 Blaw
theorem a22:aqc [a0] s=(Blaw [some a0,none,none,none,none,none,none,none,none,none] s).bind jw:=rfl
theorem sclaw:FnScope ["_law_script","_law_tape_here","_law_former","_law_k","_law_table_here","_law_lines_here","_law_turn","_law_found","_law_handed","_law_other"] ["_law_script"] (jf zf):=⟨rfl,rfl,rfl,by decide+kernel,rfl,by decide+kernel,by decide+kernel⟩
theorem a11{f:Addr}(F:Fun K "law" "law" zf f fd)(T:Txt0 K mg):FnOk P w K mg base CX0 9 f fd ["_law_script"] (spF K 1 aqc):=by
 have sc:=sclaw
 exact fnF (k:=8) F sc rfl rfl fun f cdv A outer s H E hr=> by
  unfold Blaw
  walk_at "dr"
end Ln
namespace PF
open PySem
noncomputable def jl(c:Nat)(ws:List Str):List Nat:=ws.flatMap fun x=> c::x.cps.toList
theorem afk(c:Nat): ∀(w:Str) (ws:List Str),(bi ⟨#[c]⟩ (w::ws)).cps.toList=w.cps.toList++jl c ws
 |w,[]=> by simp [bi,jl]
 |w,v::r=> by
  have ih:=afk c v r
  show (w++⟨#[c]⟩++bi ⟨#[c]⟩ (v::r)).cps.toList=_
  simp only [eJ,dg,ih]
  simp [jl]
theorem al2(c:Nat)(ws:List Str):jl c ws=[]\/ ∃r,jl c ws=c::r:=by
 cases ws with
 |nil=> exact .inl rfl
 |cons w r=> exact .inr ⟨_,rfl⟩
theorem alg{c:Nat}: ∀{a b R R':List Nat},c∉a -> c∉b -> (R=[]\/ ∃r,R=c::r) -> (R'=[]\/ ∃r,R'=c::r) -> a++R=b++R' -> a=b/\R=R'
 |[],[],_,_,_,_,_,_,e=> ⟨rfl,e⟩
 | [],y::b,R,R',_,hb,hR,_,e=> by
  rw [ek]at e
  rcases hR with rfl|⟨r,rfl⟩
  ·cases e
  ·injection e with e1 e2
   exact absurd (by rw [e1];exact az) hb
 | x::a,[],R,R',ha,_,_,hR',e=> by
  rw [ek]at e
  rcases hR' with rfl|⟨r,rfl⟩
  ·cases e
  ·injection e with e1 e2
   exact absurd (by rw [e1];exact az) ha
 |x::a,y::b,R,R',ha,hb,hR,hR',e=> by
  rw [fg,fg]at e
  injection e with e1 e2
  obtain⟨p,q⟩:=alg (fun m=> ha (ay _ m)) (fun m=> hb (ay _ m)) hR hR' e2
  exact⟨by rw [e1,p],q⟩
theorem str_of_list{a b:Str}(h:a.cps.toList=b.cps.toList):a=b:=by
 obtain⟨⟨x⟩⟩:=a
 obtain⟨⟨y⟩⟩:=b
 simp only at h
 rw [h]
theorem apa{c:Nat}: ∀{ws vs:List Str} {w v:Str},(∀x∈w::ws,c∉x.cps.toList) -> (∀x∈v::vs,c∉x.cps.toList) -> w.cps.toList++jl c ws=v.cps.toList++jl c vs -> w::ws=v::vs
 | ws,vs,w,v,h1,h2,e=> by
  obtain⟨p,q⟩:=alg (h1 w az) (h2 v az) (al2 c ws) (al2 c vs) e
  rw [str_of_list p]
  congr 1
  match ws,vs,q with
  |[],[],_=> rfl
  |[],_::_,q=> cases q
  |_::_,[],q=> cases q
  |a::r,b::r',q=>
   have q':c::(a.cps.toList++jl c r)=c::(b.cps.toList++jl c r'):=q
   injection q' with _ q'
   exact apa (fun x hx=> h1 x (ay _ hx)) (fun x hx=> h2 x (ay _ hx)) q'
theorem ae2(y:Str)(ws:List Str):fq y ws=bi y ws:=StrLaws.glued_eq_join y ws
theorem art(x y:Str): ∃p r,bX x y=p::r:=by
 unfold bX
 split
 ·exact⟨_,_,rfl⟩
 ·split
  ·exact⟨_,_,rfl⟩
  ·rw [StrLaws.partsBetween_eq];exact StrLaws.partsFrom_ne _ _ _ _
theorem ac5{w:Str}(h: ∀x∈w::ws,c∉x.cps.toList):bX (bi ⟨#[c]⟩ (w::ws)) ⟨#[c]⟩=w::ws:=by
 obtain⟨p,r,e⟩:=art (bi ⟨#[c]⟩ (w::ws)) ⟨#[c]⟩
 have f:=StrLaws.split_free (bi ⟨#[c]⟩ (w::ws)) c
 have j:=StrLaws.join_split (bi ⟨#[c]⟩ (w::ws)) ⟨#[c]⟩
 rw [e]at f j⊢
 have j2:=congrArg (fun z:Str=> z.cps.toList) j
 simp only [afk]at j2
 exact apa f h j2
noncomputable def jm(i:Int):Str:=aA (toString i)
noncomputable def ag4(x:Str):Bool:=(decide (1 <=x.length)&&decide (x.length <=4))&&((x.cps.toList.all fun c=> decide (48 <=c)&&decide (c <=57))&&(decide (x.cps.toList.head?≠some 48)||decide (x.length=1)))
theorem av4: ∀n:Nat,n < 2001 -> ag4 (jm (n:Int))=true:=by decide+kernel
end PF
namespace PF
open PySem L2
def awb(g:GM)(fa:FA)(ρ:En)(d:D)(s:S):R D:=if isStr d=true then (fa ρ s).bind fun ds s2=> g d ds s2 else .bad
theorem a7g{g:GM}{fa:FA}:fMs g fo fa ρ s=(fo ρ s).bind (awb g fa ρ):=(rfl)
theorem a74{g:GM}{fa:FA}:awb g fa ρ (.str x) s=(fa ρ s).bind (asx g (.str x)):=(rfl)
theorem vt: ∀ws:List Str,jj (ws.map D.str)=some (ws.map af)
 |[]=> rfl
 |x::r=> by rw [aG,jj,vt r];rfl
theorem abd(ws:List Str):(ws.map af).map D.da=ws.map D.str:=by rw [aL];rfl
theorem as0(hy:(y.length==0)=false)(hx:x.length <=sizeLine)(hn:(bX x y).length <=sizeLine):yx false (.str x) [.str y] s=.ok (.lst ((bX x y).map af)) s:=by
 show (if (y.length==0)=false/\x.length <=sizeLine/\(bX x y).length <=sizeLine then kc false ((bX x y).map D.str) s else .bad)=_
 rw [if_pos ⟨hy,hx,hn⟩]
 show (match jj ((bX x y).map D.str) with|some xs=> R.ok (D.lst xs) s|none=>.bad)=_
 rw [vt]
theorem ahl(h:fP y ws=true):zj (.str y) [.lst (ws.map af)] s=.ok (.str (fq y ws)) s:=by
 show (match (some ((ws.map af).map D.da)).bind v8 with|some ss=> if fP y ss=true then R.ok (D.str (fq y ss)) s else .bad|none=>.bad)=_
 rw [abd]
 show (match v8 (ws.map D.str) with|some ss=> if fP y ss=true then R.ok (D.str (fq y ss)) s else .bad|none=>.bad)=_
 rw [aau]
 exact if_pos h
theorem aq1(e:s[n]?=some (.lst (ws.map D.str)))(h:fP y ws=true):zj (.str y) [.ref n] s=.ok (.str (fq y ws)) s:=by
 have e1:toL s (.ref n)=some (ws.map D.str):=by
  show (match s[n]? with|some (O.lst ds)=> some ds|_=> none)=_
  rw [e]
 show (match (toL s (.ref n)).bind v8 with|some ss=> if fP y ss=true then R.ok (D.str (fq y ss)) s else .bad|none=>.bad)=_
 rw [e1]
 show (match v8 (ws.map D.str) with|some ss=> if fP y ss=true then R.ok (D.str (fq y ss)) s else .bad|none=>.bad)=_
 rw [aau]
 exact if_pos h
theorem aiz(hy:y.length <=1)(hl:ws.length <=200)(hw: ∀w∈ws,w.length <=100):fP y ws=true:=by
 have e:(ws.map (·.length)).sum <=100*ws.length:=by
  clear hl
  induction ws with
  |nil=> simp
  |cons w r ih=>
   have:=ih fun x hx=> hw x (ay _ hx)
   have h1:=hw w az
   (simp only [aG,List.sum_cons,aD])
   lia
 have e2:ws.length*y.length <=200*1:=Nat.mul_le_mul hl hy
 unfold fP Builtin.Str.tooLong
 rw [StrLaws.joinTotal]
 simp
 rw [jv]
 lia
theorem a6u{k:Int}:aq5 k f ρ s=(f ρ s).bind (aj4 k):=(rfl)
theorem a4d{k:Int}{xs:List ae}:aj4 k [.lst xs] s=.ok (enD k xs,none) s:=(rfl)
def atk(m:Bool)(fl fs:FE)(ρ:En)(d:D)(s:S):R D:=(fl ρ s).bind fun l s2=> (fs ρ s2).bind fun k s3=> ae4 m d l k s3
def atq(m:Bool)(fs:FE)(ρ:En)(d l:D)(s:S):R D:=(fs ρ s).bind fun k s3=> ae4 m d l k s3
def at8(m:Bool)(d l k:D)(s:S):R D:=ae4 m d l k s
theorem a6i{m:Bool}{fl fs:FE}:amr m fa fl fs ρ s=(fa ρ s).bind (atk m fl fs ρ):=(rfl)
theorem a4j{m:Bool}{fl fs:FE}{d:D}:atk m fl fs ρ d s=(fl ρ s).bind (atq m fs ρ d):=(rfl)
theorem a5h{m:Bool}{fs:FE}{d l:D}:atq m fs ρ d l s=(fs ρ s).bind (at8 m d l):=(rfl)
theorem a5m{m:Bool}{d l k:D}:at8 m d l k s=ae4 m d l k s:=(rfl)
theorem aqz{α β:Type}(f:α -> β)(xs:List α)(i j:Int):kq (xs.map f) i j=(kq xs i j).map f:=by
 unfold kq
 rw [ak,List.map_filterMap]
 congr 1
 funext k
 simp
theorem akj(hj:j≠0):ae4 false (.lst (ws.map af)) (.int i) (.int j) s=.ok (.lst ((kq ws i j).map af)) s:=by
 show (if j≠0 then kc false (kq ((ws.map af).map D.da) i j) s else .bad)=_
 rw [if_pos hj,abd,aqz]
 show (match jj ((kq ws i j).map D.str) with|some xs=> R.ok (D.lst xs) s|none=>.bad)=_
 rw [vt]
theorem avo{xs:List ae}(h1:xs.length <=1000)(h2:ys.length <=1000):ahj [.lst xs,.lst ys] s=.ok (.tup ((xs.zip ys).map fun p=>.tuple [p.1,p.2])) s:=if_pos ⟨by rw [jv];lia,by rw [jv];lia⟩
theorem ako{k:Int}(h:f9 x=some k)(hl:x.length <=640):ahe [.str x] s=.ok (.int k) s:=by
 show (if x.length <=640 then (match f9 x with|some n=> R.ok (D.int n) s|none=>.bad) else .bad)=_
 rw [if_pos hl,h]
theorem str_int(h:i.natAbs <=1000000):aaf [.int i] s=.ok (.str (jm i)) s:=by
 show (if i.natAbs.log2 < 1920 then R.ok (D.str (toString i)) s else .bad)=_
 rw [if_pos]
 ·rfl
 ·by_cases z:i.natAbs=0
  ·rw [z];decide
  ·have:=(Nat.log2_lt z).mpr (show i.natAbs < 2^20 by lia)
   lia
theorem Ext.own{s':S}(h:Ext s s')(hk:s.length <=k):Ext s (s'.set k o):=by
 obtain⟨g,rfl⟩:=h.ex
 exact⟨g.set (k - s.length) o,by rw [iL _ _ hk]⟩
end PF
local macro_rules | `(tactic| walk_at "ev") => do
  let ns := "PF.a7g PF.a74 PF.a6u PF.a4d PF.a6i PF.a4j PF.a5h PF.a5m PF.a67 PF.a3r PF.a27 PF.a3v PF.a3q PF.a3z PF.a49 PF.a77 PF.a76 PF.a6r PF.e_c PF.a57 PF.a4r PF.a4i PF.a4x PF.a5e PF.a5w PF.a5j PF.a4z PF.a4k PF.a65 PF.a08 PF.azd PF.a4s PF.a6h PF.a56 PF.a4v PF.a4l PF.a42 PF.a73 PF.a6q PF.a6a PF.a6l PF.a58 PF.a3o PF.a4u PF.a6g PF.a4q PF.a44 PF.a43 PF.a4h PF.a52 PF.a3m PF.a6x PF.a5u PF.a5o PF.a4b PF.a35 PF.a2p PF.a28 PF.a2v PF.a6w PF.a7d PF.a5s PF.a3l PF.afc PF.a6f PF.a72 PF.a7a PF.a6c PF.a7j PF.a7i PF.a7b PF.a7h PF.a6t PF.a6k PF.a6p PF.a7f PF.a5v PF.a3u PF.a70 PF.a5d PF.a6n PF.a62 PF.atx PF.a7e PF.a4g PF.a47 PF.a3p PF.a41 PF.a40 PF.a3i PF.a3x PF.a2t PF.a1z PF.a1y PF.a3s PF.a45 PF.a3t PF.app PF.axz PF.a5r PF.a4a PF.a3y PF.a3c PF.a39 PF.a26 PF.a7c PF.a75 PF.a71 PF.a6o PF.a6b PF.a5z PF.a79 PF.a68 PF.a5n PF.a6z PF.avt PF.au8 PF.aki PF.ak6 PF.a78 PF.apq PF.aqu PF.aja PF.aiu PF.ajh PF.a6m PF.R.bind_ok' PF.R.W_ok' PF.R.Wk_app PF.a5g PF.a63 PF.a5l PF.a5q PF.a60 PF.a5t PF.a5f PF.a4t PF.a4n PF.a0s PF.a1u PF.a04 PF.atr PF.a0w PF.a0q Bool.not_true Bool.not_false decide_true decide_false Bool.and_true Bool.and_false Bool.true_and Bool.false_and List.length_append List.length_cons List.length_nil List.append_assoc List.cons_append List.nil_append Nat.zero_add Nat.reduceAdd PF.a6s PF.a6e PF.a3j Nat.reduceLeDiff PF.it0 PF.it1 if_true if_false Bool.false_eq_true".splitOn " "
  let ids : Array (fT `term) := ns.toArray.map fun n => b9 n.toName
  `(tactic| try simp only [$[$ids:term],*])
local macro_rules | `(tactic| walk_at "go") => `(tactic| (walk_at "ev"; (try simp only [PF.R.W_bindk])))
namespace Ln
open PySem L2 PF
section
variable{s:S}{n:Nat}{a b c v:D}
theorem ix4(k:Nat){ds:List D}{x:D}(hl:n < s.length)(h:ds[k]?=some x):gIx (.ref n) (.int (k:Int)) (s.set n (.lst ds))=.ok x (s.set n (.lst ds)):=adb (bj hl) h
theorem st4(k:Nat){ds:List D}(hl:n < s.length)(h:k < ds.length):zy (.ref n) (.int (k:Int)) v (s.set n (.lst ds))=.ok .non (s.set n (.lst (ds.set k v))):=by
 rw [ar2 (bj hl) h,List.set_set]
theorem ix0(hl:n < s.length):gIx (.ref n) (.int 0) (s.set n (.lst [a,b,c]))=.ok a (s.set n (.lst [a,b,c])):=ix4 0 hl rfl
theorem ix1(hl:n < s.length):gIx (.ref n) (.int 1) (s.set n (.lst [a,b,c]))=.ok b (s.set n (.lst [a,b,c])):=ix4 1 hl rfl
theorem ix2(hl:n < s.length):gIx (.ref n) (.int 2) (s.set n (.lst [a,b,c]))=.ok c (s.set n (.lst [a,b,c])):=ix4 2 hl rfl
theorem st1(hl:n < s.length):zy (.ref n) (.int 1) v (s.set n (.lst [a,b,c]))=.ok .non (s.set n (.lst [a,v,c])):=st4 1 hl (by simp)
theorem st2(hl:n < s.length):zy (.ref n) (.int 2) v (s.set n (.lst [a,b,c]))=.ok .non (s.set n (.lst [a,b,v])):=st4 2 hl (by simp)
end
structure Fd (s:S) (n c:Nat):Prop where
 ex: ∃(xs:List Int) (i j:Int),s[n]?=some (.lst [.lst (xs.map bT),.int i,.int j])/\xs.length <=63/\0 <=i/\i <=c
theorem Fd.lt(h:Fd s n c):n < s.length:=by
 obtain⟨xs,i,j,e,_⟩:=h.ex
 exact (aF.mp e).1
theorem af5{xs:List Int}(hl:n < s.length)(hx:xs.length <=63)(hi:0 <=i)(hc:i <=c):Fd (s.set n (.lst [.lst (xs.map bT),.int i,.int j])) n c:=⟨xs,i,j,bj hl,hx,hi,hc⟩
theorem kj(h:Fd s n c)(hm:0 < m)(hm2:m < 1073741824)(hc:c < 2^40):(jh [.ref n,.int m] s).W fun d s'=> ∃i,d=.int i/\0 <=i/\i < m/\Fd s' n (c+1)/\ke n s s':=by
 obtain⟨xs,i,j,e,hx,hi,hkc⟩:=h.ex
 have hl:n < s.length:=(aF.mp e).1
 have e0:jh [.ref n,.int m] s=jh [.ref n,.int m] (s.set n (.lst [.lst (xs.map bT),.int i,.int j])):=by rw [ar6 e]
 rw [e0,amm];unfold B_law_draw
 have fin: ∀x:Int,0 <=x % m/\x % m < m:=fun x=> ⟨Int.emod_nonneg _ (by lia),Int.emod_lt_of_pos _ hm⟩
 have p18: ∀s:S,aml (.int 10) (.int 18) s=.ok (.int 1000000000000000000) s:=fun s=> ar3 (by decide) (by decide) (by decide)
 by_cases hj:0 < j
 ·simp [ix0 hl,ix1 hl,ix2 hl,st1 hl,st2 hl,hj,qv hm,aal hm hm2]
  exact⟨(fin _).1,(fin _).2,af5 hl hx hi (by lia),aby⟩
 ·have q1: ∀(x:Int) (s:S),yf (.int x) (.int 1000003) s=.ok (.int (x % 1000003)) s:=fun x s=> qv (by decide)
  have q2: ∀(x:Int) (s:S),xp (.int 37) (.int x) s=.ok (.int (37*x)) s:=fun x s=> xh (.inl (by decide))
  have q3: ∀(x:Int) (s:S),xp (.int x) (.int 69621) s=.ok (.int (x*69621)) s:=fun x s=> xh (.inr (by decide))
  have q4: ∀(x:Int) (s:S),yf (.int x) (.int 2147483549) s=.ok (.int (x % 2147483549)) s:=fun x s=> qv (by decide)
  have q5: ∀(x:Int) (s:S),xp (.int 101) (.int x) s=.ok (.int (101*x)) s:=fun x s=> xh (.inl (by decide))
  have q6: ∀(x:Int) (s:S),xp (.int 7919) (.int x) s=.ok (.int (7919*x)) s:=fun x s=> xh (.inl (by decide))
  have q7: ∀(x:Int) (s:S),xp (.int x) (.int i) s=.ok (.int (x*i)) s:=fun x s=> xh (.inr (by lia))
  have q8: ∀(x:Int) (s:S),xp (.int x) (.int 48271) s=.ok (.int (x*48271)) s:=fun x s=> xh (.inr (by decide))
  have q9: ∀(x:Int) (s:S),yf (.int x) (.int 2147483587) s=.ok (.int (x % 2147483587)) s:=fun x s=> qv (by decide)
  have q10: ∀(x:Int) (s:S),afg (.int x) (.int 64) s=.ok (.int (x/64)) s:=fun x s=> aal (by decide) (by decide)
  cases hxs:xs with
  |nil=>
   subst hxs
   simp [ix0 hl,ix1 hl,ix2 hl,st1 hl,st2 hl,hj,qv hm,aal hm hm2,p18,q1,q2,q3,q4,q5,q6,q7,q8,q9,q10]
   exact⟨(fin _).1,(fin _).2,af5 (xs:=[]) hl (by simp) (by lia) (by lia),aby⟩
  | cons y ys=>
   have hne:xs≠ []:=by rw [hxs];simp
   have hlen:0 < (xs.length:Int):=by rw [hxs];simp
   have hlen2:0 < xs.length:=by rw [hxs];simp
   rw [←hxs]
   have ixx: ∀s:S,gIx (.lst (xs.map bT)) (.int (i % (xs.length:Int))) s=.ok (.int (xs.getD (i % (xs.length:Int)).toNat 0)) s:=fun s=> by
    have h0:=Int.emod_nonneg i (show (xs.length:Int)≠0 by lia)
    have h1:=Int.emod_lt_of_pos i hlen
    obtain⟨q,hq⟩: ∃q:Nat,i % (xs.length:Int)=q:=⟨(i % (xs.length:Int)).toNat,by lia⟩
    rw [hq]
    have hlt:q < xs.length:=by lia
    rw [ym (p:=.int (xs.getD q 0)) (by rw [aV,ax hlt,bn,ax hlt];rfl)]
    rfl
   generalize hcell:xs.getD (i % (xs.length:Int)).toNat 0=cell at ixx
   have qm: ∀s:S,yf (.int i) (.int (xs.length:Int)) s=.ok (.int (i % (xs.length:Int))) s:=fun s=> qv hlen
   by_cases hb:1000000000000000000 <=cell
   ·simp [ix0 hl,ix1 hl,ix2 hl,st1 hl,st2 hl,hj,hlen2,qv hm,aal hm hm2,p18,q1,q2,q3,q4,q5,q6,q7,q8,q9,q10,ixx,qm,hb]
    exact⟨(fin _).1,(fin _).2,af5 hl hx (by lia) (by lia),aby⟩
   ·simp [ix0 hl,ix1 hl,ix2 hl,st1 hl,st2 hl,hj,hlen2,qv hm,aal hm hm2,p18,q1,q2,q3,q4,q5,q6,q7,q8,q9,q10,ixx,qm,hb]
    exact⟨(fin _).1,(fin _).2,af5 hl hx (by lia) (by lia),aby⟩
theorem Fd.le{c':Nat}(h:Fd s n c)(hc:c <=c'):Fd s n c':=by
 obtain⟨xs,i,j,e,hx,hi,hkc⟩:=h.ex
 exact⟨xs,i,j,e,hx,hi,by lia⟩
theorem Fd.ext{s':S}(h:Fd s n c)(x:Ext s s'):Fd s' n c:=by
 obtain⟨xs,i,j,e,r⟩:=h.ex
 exact⟨xs,i,j,x.get e,r⟩
theorem Fd.set(h:Fd s n c)(hk:k≠n):Fd (s.set k o) n c:=by
 obtain⟨xs,i,j,e,r⟩:=h.ex
 exact⟨xs,i,j,by rw [aY hk];exact e,r⟩
theorem av1{xs:List Int}:(yo [.frz (xs.map bT)] s).W fun d s'=> d=.ref s.length/\Fd s' s.length 0/\Ext s s':=by
 rw [amw];unfold B_law_tape
 walk_at "go"
 have e:kl (xs.map bT) none (some 63)=(kl xs none (some 63)).map bT:=ae6 _ _ _ _
 rw [e]
 refine⟨trivial,⟨⟨kl xs none (some 63),0,0,by simp,?_,by decide,by decide⟩⟩,Ext.add _ _⟩
 unfold kl
 rw [show (63:Int)=((63:Nat):Int) from rfl,HT.sIx_nat]
 simp
 lia
end Ln
namespace PF
open PySem L2
theorem acn{s:S}{ft:FT}{fe:FE}{jx:En}{all:List D}(pr:ae -> Bool)(f:ae -> D): ∀(xs:List ae),(∀x∈xs,ft (some (.da x)::jx) s=.ok (pr x) s) -> (∀x∈xs,pr x=true -> fe (some (.da x)::jx) s=.ok (f x) s) ->
  kh (.nm 0) ft fe (none::jx) (all,none) (xs.map D.da) s=.ok ((xs.filter pr).map f) s
 |[],_,_=> rfl
 |x::r,h1,h2=> by
  have ih:=acn (all:=all) pr f r (fun y hy=> h1 y (ay _ hy)) (fun y hy=> h2 y (ay _ hy))
  rw [aG,ad4 a0s,h1 x az,R.bind_ok']
  cases q:pr x with
  |false=> rw [aiu,ih,h9 (by rw [q];exact av)]
  |true=> rw [aja,h2 x az q,R.bind_ok',ajh,ih,R.bind_ok',afc,ia q,aG]
theorem al8: ∀bs:List Bool,abw (bs.map D.bl)=some bs
 |[]=> rfl
 |b::r=> by rw [aG,abw,al8 r]
theorem adj{bs:List Bool}:abv [.lst (bs.map bI)] s=.ok (.bl (bs.all id)) s:=by
 show (match (some ((bs.map bI).map D.da)).bind abw with|some bs=> R.ok (D.bl (bs.all id)) s|none=>.bad)=_
 rw [show (bs.map bI).map D.da=bs.map D.bl by rw [aL];rfl]
 show (match abw (bs.map D.bl) with|some bs=> R.ok (D.bl (bs.all id)) s|none=>.bad)=_
 rw [al8]
theorem all_map{xs:List ae}{f:ae -> Bool}:abv [.lst (xs.map fun x=>.bool (f x))] s=.ok (.bl (xs.all f)) s:=by
 have:xs.map (fun x=> bI (f x))=(xs.map f).map bI:=by rw [aL];rfl
 rw [this,adj,cF];rfl
theorem akr(i j:Int):aI (.int i) (.int j)=decide (i=j):=by
 show (i==j)=_
 (rw [br,beq_iff_eq,decide_eq_true_eq])
theorem ag3:gNe (.int i) (.int j) s=.ok (.bl (!decide (i=j))) s:=by rw [awk rfl rfl,akr]
theorem adc:gEq (.int i) (.int j) s=.ok (.bl (decide (i=j))) s:=by rw [aoo rfl rfl,akr]
end PF
namespace Ln
open PySem L2 PF
theorem aqr{α:Type}(l:List α)(t:Nat)(h:t <=l.length):kl l (some (t:Int)) none=l.drop t:=by
 unfold kl
 rw [HT.sIx_nat,HT.sIx_none,Nat.min_eq_left h,eT (by simp)]
theorem awm{α:Type}(l:List α)(t:Nat):kl l none (some (t:Int))=l.take t:=by
 unfold kl
 rw [HT.sIx_nat,HT.sIx_none,iG,Nat.sub_zero,List.take_eq_take_iff]
 lia
theorem aay{α:Type}(l:List α)(t:Nat):kl l (some (t:Int)) none=l.drop t:=by
 by_cases h:t <=l.length
 ·exact aqr l t h
 ·unfold kl
  rw [HT.sIx_nat,HT.sIx_none,Nat.min_eq_right (by lia),List.drop_length,eV (by lia)]
  simp
theorem ai7{w:Str}: ∀ss:List Str,((ss.map af).any fun d=> aI d (.str w))=decide (w∈ss)
 |[]=> by simp
 | x::r=> by
  rw [aG,i7,ai7 r]
  have:aI (.str x) (.str w)=decide (x=w):=by
   show (x==w)=_
   (rw [br,beq_iff_eq,decide_eq_true_eq])
  rw [this,br,fL,decide_eq_true_eq,decide_eq_true_eq,decide_eq_true_eq,aE]
  exact⟨fun h=> h.imp Eq.symm id,fun h=> h.imp Eq.symm id⟩
theorem all_strs(h: ∀x∈ss,okD (.str x)=true):(ss.map af).all okD=true:=by
 rw [aw]
 intro d hd
 obtain⟨x,hx,rfl⟩:=bv.mp hd
 exact h x hx
theorem as8(h:yy x=true):okD (.str x)=true:=(aeb h).okD (by decide)
theorem aj0{α β:Type}{f:α -> β}{l:List α}: ∀{ys:List β},ys.Perm (l.map f) -> ∃qs:List α,qs.Perm l/\qs.map f=ys:=by
 intro ys h
 generalize hz:l.map f=zs at h
 induction h generalizing l with
 |nil=>
  cases l with
  |nil=> exact⟨[],.refl _,rfl⟩
  |cons a b=> cases hz
 | cons x h ih=>
  cases l with
  |nil=> cases hz
  |cons a b=>
   cases hz
   obtain⟨qs,p,e⟩:=ih rfl
   exact⟨a::qs,p.cons a,by rw [aG,e]⟩
 | swap x y r=>
  match l,hz with
  |a::b::c,hz=>
   cases hz
   exact⟨b::a::c,.swap _ _ _,rfl⟩
 |trans h1 h2 ih1 ih2=>
  obtain⟨q2,p2,e2⟩:=ih2 hz
  obtain⟨q1,p1,e1⟩:=ih1 e2
  exact⟨q1,p1.trans p2,e1⟩
theorem ka{g:S}:(s++o::g)[s.length]?=some o:=by simp
theorem aa9{g:S}{o':O}:(s++o::g).set s.length o'=s++o'::g:=by simp
structure DW {α:Type} (r:R α) (Q:α -> S -> Prop):Prop where
 w:r.W Q
theorem DW.mono{α:Type}{r:R α}{Q Q':α -> S -> Prop}(h:DW r Q)(k: ∀a s,Q a s -> Q' a s):r.W Q':=R.W_mono h.w k
noncomputable def aex:ae -> Bool
 |.int _=> true
 |_=> false
noncomputable def kr(m:Int):ae -> Bool
 |.int i=> decide (0 <=i)&&decide (i < m)
 |_=> false
theorem al7:zq [.da d] s=.ok (.bl (aex d)) s:=by
 rw [apt];unfold Bis_whole
 walk_at "ev"
 cases d <;> simp only [xf] <;> rfl
theorem afl:yn [.int m,.da d] s=.ok (.bl (kr m d)) s:=by
 rw [aps];unfold Bis_below
 walk_at "ev"
 rw [al7]
 cases d with
 | int i=>
  simp only [aex]
  walk_at "ev"
  by_cases h0:0 <=i
  ·simp only [h0,decide_true,kr]
   walk_at "ev"
  ·simp only [h0,decide_false,kr]
   walk_at "ev"
 |_=> rfl
theorem ave:aav [.int m,.da d] s=.ok (.bl (kr m d)) s:=by
 rw [anz];unfold Bis_thing
 walk_at "ev"
 rw [afl];rfl
noncomputable def abl(c:Nat):Bool:=decide (97 <=c)&&decide (c <=122)
def jr(x:Str):Bool:=(decide (1 <=x.length)&&decide (x.length <=8))&&x.cps.toList.all abl
def v9:ae -> Bool
 |.str x=> jr x
 |_=> false
noncomputable def asc(x:Str):Bool:=x.cps.toList.all fun c=> decide (32 <=c)&&decide (c < 127)
theorem akg(h:asc x=true):x.cps.all (· < 128)=true:=by
 unfold asc at h
 simp only [aw,ao,decide_eq_true_eq]at h
 (rw [←df,aw])
 intro c hc
 have:=h c hc
 (exact decide_eq_true (by lia))
theorem ah5(x:Str):zv x=x.cps.toList.map fun c=> D.str ⟨#[c]⟩:=by first|rfl|(unfold zv;rfl)
theorem awx(h: ∀x,d=.str x -> asc x=true/\x.length <=100000):abk [.da d] s=.ok (.bl (v9 d)) s:=by
 rw [ary];unfold Bis_port
 walk_at "ev"
 cases d with
 | str x=>
  obtain⟨ha,hl⟩:=h x rfl
  rw [show xf (.str x) "str"=true from rfl]
  walk_at "ev"
  rw [len_str (by lia)]
  walk_at "ev"
  show _=R.ok (D.bl (jr x)) s
  unfold jr
  by_cases h1:1 <=x.length
  ·rw [decide_eq_true (show (1:Int) <=(x.length:Int) by lia),decide_eq_true h1]
   walk_at "ev"
   by_cases h2:x.length <=8
   ·rw [decide_eq_true (show (x.length:Int) <=8 by lia),decide_eq_true h2]
    walk_at "ev"
    rw [at6]
    walk_at "ev"
    rw [ale (akg ha)]
    walk_at "ev"
    rw [ah5,xk (ρ0:=[none]) (by rw [ak,aX];show x.length <=_;lia) rfl]
    rw [xo (fun c:Nat=> D.str ⟨#[c]⟩) (fun _=> true) (fun c=> bI (abl c)) x.cps.toList (fun c hc=> ⟨[some (.str ⟨#[c]⟩)],rfl,rfl,fun _=> by
     walk_at "ev"
     rw [ao8,aso (akg ha) c hc];rfl⟩)]
    (rw [bZ.mpr (fun _ _=> rfl)])
    walk_at "ev"
    rw [show x.cps.toList.map (fun c=> bI (abl c))=(x.cps.toList.map abl).map bI by rw [aL];rfl,adj,cF]
    rfl
   ·rw [decide_eq_false (show¬(x.length:Int) <=8 by lia),decide_eq_false h2]
    walk_at "ev"
  ·rw [decide_eq_false (show¬(1:Int) <=(x.length:Int) by lia),decide_eq_false h1]
   walk_at "ev"
 |_=> rfl
inductive Lf (n:Nat):ae -> Prop
 |none:Lf n .none
 |bool (b:Bool):Lf n (.bool b)
 |int {i:Int}:i.natAbs <=1000000000000000000000000000000+2*n -> Lf n (.int i)
 |str {x:Str}:asc x=true -> x.length <=40*4^n -> Lf n (.str x)
 |tup {ds:List ae}:ds.length <=30+n -> (∀x∈ds,Lf n x) -> Lf n (.tuple ds)
 |lst {ds:List ae}:ds.length <=30+n -> (∀x∈ds,Lf n x) -> Lf n (.list ds)
 |dct:Lf n (.dict [])
noncomputable def abt(ds:List ae):List Str:=ds.filterMap fun d=> match d with
 |.str x=> some x
 |_=> none
theorem aaz(xs:List Str):abt (xs.map af)=xs:=by
 induction xs with
 |nil=> rfl
 |cons x r ih=>
  show x::abt (r.map af)=_
  rw [ih]
theorem acm: ∀{ds:List ae},ds.all v9=true -> ∃ss:List Str,ds=ss.map .str/\ ∀x∈ss,jr x=true
 |[],_=> ⟨[],rfl,fun _ h=> by cases h⟩
 |d::r,h=> by
  (rw [dY,ao]at h)
  obtain⟨ss,rfl,hs⟩:=acm h.2
  cases d with
  | str x=> exact⟨x::ss,rfl,fun y hy=> by
    rcases aE.mp hy with z|z
    ·subst z;exact h.1
    ·exact hs y z⟩
  |_=> exact absurd h.1 av
theorem za(h:jr x=true):yy x=true:=by
 unfold jr at h
 unfold yy
 simp only [ao,decide_eq_true_eq,aw,abl]at h⊢
 exact⟨⟨by lia,by lia⟩,fun c hc=> by have:=h.2 c hc;lia⟩
def ab5(ds:List ae):Bool:=decide ((ju (abt ds)).length=ds.length)
def akz:ae -> Bool
 |.tuple ds=> ds.all v9&&ab5 ds
 |_=> false
def aa1:ae -> Bool
 |.tuple ds=> (ds.all v9&&ab5 ds)&&decide (ds.length <=6)
 |_=> false
theorem ayl(h:Lf n d)(hn:n <=5): ∀x,d=.str x -> asc x=true/\x.length <=100000:=by
 rintro x rfl
 cases h with
 |str a b=> exact⟨a,a7 b (a7 (Nat.mul_le_mul_left _ (Nat.pow_le_pow_right (by decide) hn)) (by decide))⟩
theorem asn(h:Lf n d)(hn:n <=5):vd [.da d] s=.ok (.bl (akz d)) s:=by
 rw [adr];unfold Bare_unlike_ports
 walk_at "ev"
 cases h with
 | @tup ds hl hx=>
  rw [show xf (.tuple ds) "tuple"=true from rfl]
  walk_at "ev"
  rw [xk (ρ0:=[none]) (by rw [ak];lia) rfl]
  rw [acn (fun _=> true) (fun x=> D.bl (v9 x)) ds (fun x _=> rfl) (fun x hm _=> by
   walk_at "ev"
   rw [awx (ayl (hx x hm) hn)]),bZ.mpr (fun _ _=> rfl)]
  rw [show ds.map (fun x=> D.bl (v9 x))=(ds.map fun x=> bI (v9 x)).map D.da by rw [aL];rfl]
  walk_at "ev"
  rw [all_map]
  show _=R.ok (D.bl (ds.all v9&&ab5 ds)) s
  cases hp:ds.all v9 with
  |false=> walk_at "ev"
  |true=>
   walk_at "ev"
   obtain⟨ss,rfl,hs⟩:=acm hp
   rw [ak]at hl
   rw [amc (by lia)]
   walk_at "ev"
   rw [adc]
   walk_at "ev"
   unfold ab5
   rw [aaz]
   have e:(((ju ss).length:Int)=((ss.map af).length:Int))=((ju ss).length=(ss.map af).length):=propext (by lia)
   congr 3
 |_=> rfl
theorem azn(h:Lf n d)(hn:n <=5):ac1 [.da d] s=.ok (.bl (aa1 d)) s:=by
 rw [ar7];unfold Bis_seen
 walk_at "ev"
 rw [asn h hn]
 cases h with
 | @tup ds hl hx=>
  show _=R.ok (D.bl ((ds.all v9&&ab5 ds)&&decide (ds.length <=6))) s
  rw [show akz (.tuple ds)=(ds.all v9&&ab5 ds) from rfl]
  cases ds.all v9&&ab5 ds with
  |false=> walk_at "ev"
  |true=>
   walk_at "ev"
   have e:((ds.length:Int) <=6)=(ds.length <=6):=propext (by lia)
   congr 3
 |_=> rfl
noncomputable def ltS(a b:Str):Bool:=decide (a.cps.toList < b.cps.toList)
def k9(ss:List Str):Bool:=((ss.zip (ss.drop 1)).map fun p=> ltS p.1 p.2).all id
def xz(m:Int)(ss:List Str):ae -> Bool
 |.tuple [a,b]=> inD a ss&&kr m b
 |_=> false
noncomputable def qx:ae -> Str
 |.tuple (.str x::_)=> x
 |_=> ""
def v6(m:Int)(ss:List Str):ae -> Bool
 |.tuple ds=> ds.all (xz m ss)&&k9 (ds.map qx)
 |_=> false
theorem aj7(h:xz m ss d=true): ∃x b,d=.tuple [.str x,b]:=by
 match d,h with
 |.tuple [a,b],h=>
  have h':(inD a ss&&kr m b)=true:=h
  rw [ao]at h'
  match a,h'.1 with
  |.str x,_=> exact⟨x,b,rfl⟩
theorem zl(x y:Str)(r:List Str):k9 (x::y::r)=(ltS x y&&k9 (y::r)):=by
 simp [k9]
theorem azq{a b c:Str}(h1:ltS a b=true)(h2:ltS b c=true):ltS a c=true:=by
 unfold ltS at h1 h2⊢
 exact decide_eq_true (List.lt_trans (of_decide_eq_true h1) (of_decide_eq_true h2))
theorem alh: ∀(l:List Str),k9 l=true -> l.Pairwise fun a b=> ltS a b=true
 |[],_=>.nil
 |[_],_=> (dj _ _)
 |x::y::r,h=> by
  rw [zl,ao]at h
  have ih:=alh (y::r) h.2
  rw [cu]
  refine⟨fun z hz=> ?_,ih⟩
  (rcases aE.mp hz with rfl|hz)
  ·exact h.1
  ·exact azq h.1 ((cu.mp ih).1 z hz)
theorem afh: ∀(l:List Str),(l.Pairwise fun a b=> ltS a b=true) -> k9 l=true
 |[],_=> rfl
 |[_],_=> rfl
 |x::y::r,h=> by
  rw [zl,ao]
  rw [cu]at h
  exact⟨h.1 y az,afh (y::r) h.2⟩
theorem auw(a:ae): ∀ss:List Str,((ss.map af).any fun d=> aI d a)=inD a ss:=by
 intro ss
 cases a with
 |str w=> rw [ai7];rfl
 |_=>
  rw [show∀x:ae,inD x ss=inD x ss from fun _=> rfl]
  rw [gF.mpr (by intro d hd;obtain⟨x,_,rfl⟩:=bv.mp hd;exact av)]
  rfl
theorem arp(h1:okD a=true)(h2: ∀x∈ss,okD (.str x)=true):gIn (.da a) (.tup (ss.map af)) s=.ok (.bl (inD a ss)) s:=by
 have e:gIn (.da a) (.tup (ss.map af)) s=afo false (.da a) (.tup (ss.map af)) s:=by cases a <;> rfl
 rw [e]
 show (if okD a=true/\(ss.map af).all okD=true then R.ok (D.bl (nb false ((ss.map af).any fun d=> aI d a))) s else .bad)=_
 rw [if_pos ⟨h1,all_strs h2⟩,auw];rfl
structure OkT (y:ae):Prop where
 ok: ∀x,y=.str x -> okD (.str x)=true
theorem aw1(h:asc x=true):okD (.str x)=true:=by
 unfold PF.okD
 rw [ao]
 unfold asc at h
 simp only [aw,ao,decide_eq_true_eq]at h
 refine⟨?_,decide_eq_true (by simp [cR])⟩
 simp only [eG]
 unfold jO
 (rw [←df,aw])
 intro c hc
 have:=(h c hc).2
 (exact decide_eq_true (by lia))
theorem Lf.okT(h:Lf n d):OkT d:=⟨fun x e=> by
 subst e
 cases h with
 |str a _=> exact aw1 a⟩
theorem aiw: ∀ss:List Str,afw (ss.map af)=true
 |[]=> rfl
 |_::r=> aiw r
theorem aov(h1:OkT a)(h2: ∀x∈ss,okD (.str x)=true):amj false (.da a) (.tup (ss.map af)) s=.ok (.bl (inD a ss)) s:=by
 cases a with
 |str x=> exact arp (h1.ok x rfl) h2
 |_=>
  show (if afw (ss.map af)=true then R.ok (D.bl (nb false false)) s else .bad)=_
  rw [if_pos (aiw ss)]
  rfl
theorem ap0(h2: ∀x∈ss,okD (.str x)=true)(h1: ∀ds,d=.tuple ds -> ∀x∈ds,OkT x):zi [.int m,.tup (ss.map af),.da d] s=.ok (.bl (xz m ss d)) s:=by
 rw [ak2];unfold Bis_passing
 walk_at "ev"
 by_cases ht: ∃ds,d=.tuple ds
 ·obtain⟨ds,rfl⟩:=ht
  rw [show xf (.tuple ds) "tuple"=true from rfl]
  walk_at "ev"
  rw [ag3]
  match ds with
  | [a,b]=>
   rw [show (!decide ((([a,b]:List ae).length:Int)=2))=false by simp]
   walk_at "ev"
   rw [aov (h1 _ rfl a (by simp)) h2]
   show _=R.ok (D.bl (inD a ss&&kr m b)) s
   cases inD a ss with
   |false=> walk_at "ev"
   |true=>
    walk_at "ev"
    rw [ave]
    walk_at "ev"
  |[]=> rfl
  |[a]=> rfl
  |a::b::c::r=>
   rw [show (!decide (((a::b::c::r).length:Int)=2))=true by simp;lia]
   walk_at "ev"
   rfl
 ·have e:xf d "tuple"=false:=by cases d <;> first|rfl|exact absurd ⟨_,rfl⟩ ht
  rw [e]
  walk_at "ev"
  have e2:xz m ss d=false:=by cases d <;> first|rfl|exact absurd ⟨_,rfl⟩ ht
  rw [e2]
def yu(done:List ae):Str:=done.foldl (fun _ d=> qx d) ""
theorem agz(x:ae): ∀done:List ae,k9 ((done++ [x]).map qx)=(k9 (done.map qx)&&(done.isEmpty||ltS (yu done) (qx x)))
 |[]=> by simp [k9]
 |[y]=> by
  show k9 [qx y,qx x]=(k9 [qx y]&&(false||ltS (qx y) (qx x)))
  rw [zl]
  simp [k9]
 |y::z::r=> by
  have ih:=agz x (z::r)
  have e:yu (y::z::r)=yu (z::r):=rfl
  rw [e]
  simp only [fg,aG,List.isEmpty_cons,Bool.false_or]at ih⊢
  rw [zl,zl,ih,Bool.and_assoc]
theorem ara{done left:List ae}{x:ae}(h:k9 ((done++x::left).map qx)=true):k9 ((done++ [x]).map qx)=true:=by
 have pw:=alh _ h
 refine afh _ (pw.sublist ?_)
 refine jT.map _ ?_
 exact hV (jT.cons₂ _ (List.nil_sublist _)) _
theorem az8(h:0 < x.length):ltS "" x=true:=by
 refine decide_eq_true ?_
 have:0 < x.cps.toList.length:=by rw [aX];exact h
 match hx:x.cps.toList with
 |[]=> rw [hx]at this;simp at this
 |c::r=> exact List.nil_lt_cons _ _
structure MfJ (s0:S) (m:Int) (ss:List Str) (ds:List ae) (r:List D) (ρ:En) (s:S):Prop where
 ex: ∃(done left:List ae) (u:Option D),ds=done++left/\r=left.map D.da/\ρ=[some (.int m),some (.tup (ss.map af)),some (.tup ds),some (.str (yu done)),u]/\s=s0/\done.all (xz m ss)=true/\k9 (done.map qx)=true
structure MfQ (s0:S) (m:Int) (ss:List Str) (ds:List ae) (fl:Fl) (s:S):Prop where
 ex:s=s0/\((∃ρ,fl=.nx ρ/\v6 m ss (.tuple ds)=true)\/(fl=.rt (.bl false)/\v6 m ss (.tuple ds)=false))
theorem am2 (hp: ∀x∈ss,0 < x.length) (h2: ∀x∈ss,okD (.str x)=true) (h1: ∀ds,d=.tuple ds -> ds.length <=1000/\ ∀x∈ds,∀es,x=.tuple es -> ∀y∈es,OkT y):(vy [.int m,.tup (ss.map af),.da d] s).W fun r s'=> r=.bl (v6 m ss d)/\s'=s:=by
 rw [aha];unfold Bis_moment_of
 walk_at "go"
 by_cases ht: ∃ds,d=.tuple ds
 ·obtain⟨ds,rfl⟩:=ht
  obtain⟨hl,hok⟩:=h1 ds rfl
  rw [show xf (.tuple ds) "tuple"=true from rfl]
  walk_at "go"
  refine R.W_mono (qg (Q:=MfQ s m ss ds) (MfJ s m ss ds) ?_ ?_ _ _ _ ⟨[],ds,none,rfl,rfl,rfl,rfl,rfl,rfl⟩) ?_
  ·rintro _ r ρ s2 ⟨done,left,u,e1,e2,rfl,rfl,hd,hr⟩
   cases left with
   |nil=> cases e2
   | cons x left=>
    cases e2
    refine⟨_,a04,?_⟩
    have hxm:x∈ds:=by rw [e1];simp
    have stop:v6 m ss (.tuple ds)=false -> flW (MfJ s2 m ss ds (left.map D.da)) (MfQ s2 m ss ds) (.rt (.bl false)) s2:=fun h=> ⟨rfl,.inr ⟨rfl,h⟩⟩
    walk_at "go"
    rw [ap0 h2 (fun es e y hy=> hok x hxm es e y hy)]
    cases hb:xz m ss x with
    |false=>
     walk_at "go"
     refine stop ?_
     show (ds.all (xz m ss)&&_)=false
     rw [show ds.all (xz m ss)=false by rw [gI];exact⟨x,hxm,by rw [hb];simp⟩,Bool.false_and]
    | true=>
     walk_at "go"
     obtain⟨y,b,rfl⟩:=aj7 hb
     have hy:0 < y.length:=by
      have hb':(decide (y∈ss)&&kr m b)=true:=hb
      rw [ao,decide_eq_true_eq]at hb'
      exact hp y hb'.1
     walk_at "go"
     rw [arx]
     walk_at "go"
     have sn:=agz (.tuple [.str y,b]) done
     rw [hr,jA]at sn
     cases hlt:decide ((yu done).cps.toList < y.cps.toList) with
     | false=>
      walk_at "go"
      refine stop ?_
      show (_&&k9 (ds.map qx))=false
      cases hz:k9 (ds.map qx) with
      |false=> rw [iC]
      | true=>
       rw [e1]at hz
       have:=ara hz
       rw [sn]at this
       have l2:ltS (yu done) (qx (.tuple [.str y,b]))=false:=hlt
       rw [l2,i6]at this
       cases done with
       |nil=>
        have:=az8 hy
        rw [show yu []="" from rfl]at l2
        rw [show qx (.tuple [.str y,b])=y from rfl,this]at l2
        cases l2
       |cons _ _=> cases this
     | true=>
      walk_at "go"
      refine⟨done++ [.tuple [.str y,b]],left,some (.tup [.str y,b]),by rw [e1];simp,rfl,?_,rfl,?_,?_⟩
      ·show _=[some (D.int m),some (D.tup (ss.map af)),some (D.tup ds),some (D.str (yu (done++ [.tuple [.str y,b]]))),_]
       rw [show yu (done++ [.tuple [.str y,b]])=y by unfold yu;rw [List.foldl_append];rfl]
      ·rw [List.all_append,hd];simp [hb]
      ·rw [sn]
       have l2:ltS (yu done) (qx (.tuple [.str y,b]))=true:=hlt
       rw [l2,Bool.or_true]
  ·rintro ρ s2 ⟨done,left,u,e1,e2,rfl,rfl,hd,hr⟩
   cases left with
   |cons p left=> cases e2
   |nil=>
    rw [bq]at e1
    subst e1
    refine⟨rfl,.inl ⟨_,rfl,?_⟩⟩
    show (_&&_)=true
    rw [hd,hr];rfl
  ·rintro fl s2 ⟨rfl,⟨ρ,rfl,hA⟩|⟨rfl,hA⟩⟩
   ·walk_at "go"
    exact⟨by rw [hA],by first|rfl|trivial⟩
   ·walk_at "go"
    exact⟨by rw [hA],by first|rfl|trivial⟩
 ·have e:xf d "tuple"=false:=by cases d <;> first|rfl|exact absurd ⟨_,rfl⟩ ht
  rw [e]
  walk_at "go"
  have e2:v6 m ss d=false:=by cases d <;> first|rfl|exact absurd ⟨_,rfl⟩ ht
  rw [e2]
  exact⟨by first|rfl|trivial,by first|rfl|trivial⟩
def xy(many:Int)(ss:List Str):ae -> Bool
 |.tuple [b,m,e]=> kr many b&&(kr many e&&v6 3 ss m)
 |_=> false
def ve:List ae -> Bool
 |x::y::r=> ltb x y&&ve (y::r)
 |_=> true
def ac2:ae -> Bool
 |.tuple [.tuple ds,.int many,.tuple sts]=> aa1 (.tuple ds)&&(decide (1 <=many)&&decide (many <=2000))&&sts.all (xy many (abt ds))&&ve sts
 |_=> false
theorem aec(h:Lf n (.tuple ds)):ds.length <=30+n/\ ∀x∈ds,Lf n x:=by
 cases h with
 |tup a b=> exact⟨a,b⟩
theorem aqy(hn:n <=5)(hp: ∀x∈ss,jr x=true)(h:Lf n d):(vy [.int 3,.tup (ss.map af),.da d] s).W fun r s'=> r=.bl (v6 3 ss d)/\s'=s:=by
 refine am2 (fun x hx=> aqb (za (hp x hx))) (fun x hx=> as8 (za (hp x hx))) ?_
 rintro ds rfl
 obtain⟨a,b⟩:=aec h
 exact⟨by lia,fun x hx es e y hy=> by subst e;exact ((aec (b _ hx)).2 y hy).okT⟩
theorem ax8{A B C u v w:Option D}{b m e:ae}:ae5 (.t3 (.nm 3) (.nm 4) (.nm 5)) [A,B,C,u,v,w] (.da (.tuple [b,m,e])) s=.ok (.nx [A,B,C,some (.da b),some (.da m),some (.da e)]) s:=rfl
theorem anq(hn:n <=5)(hp: ∀x∈ss,jr x=true)(h:Lf n d):(kt [.tup (ss.map af),.int many,.da d] s).W fun r s'=> r=.bl (xy many ss d)/\s'=s:=by
 rw [ag0];unfold Bis_table_step
 walk_at "go"
 cases h with
 | @tup ds hl hx=>
  rw [show xf (.tuple ds) "tuple"=true from rfl]
  walk_at "go"
  rw [ag3]
  match ds,hx with
  | [b,m,e],hx=>
   rw [show (!decide ((([b,m,e]:List ae).length:Int)=3))=false by simp]
   walk_at "go"
   rw [ax8]
   walk_at "go"
   rw [afl]
   show R.W _ fun r s'=> r=D.bl (kr many b&&(kr many e&&v6 3 ss m))/\s'=s
   cases kr many b with
   |false=>
    walk_at "go"
    exact⟨by first|rfl|trivial,by first|rfl|trivial⟩
   | true=>
    walk_at "go"
    rw [afl]
    cases kr many e with
    |false=>
     walk_at "go"
     exact⟨by first|rfl|trivial,by first|rfl|trivial⟩
    |true=>
     walk_at "go"
     refine R.W_mono (aqy hn hp (hx m (by simp))) ?_
     rintro _ s1 ⟨rfl,rfl⟩
     walk_at "go"
     exact⟨by first|rfl|trivial,by first|rfl|trivial⟩
  |[],_=> exact⟨rfl,rfl⟩
  |[a],_=> exact⟨rfl,rfl⟩
  |[a,b],_=> exact⟨rfl,rfl⟩
  |a::b::c::d::r,_=>
   rw [show (!decide (((a::b::c::d::r).length:Int)=3))=true by simp;lia]
   walk_at "go"
   exact⟨by first|rfl|trivial,by first|rfl|trivial⟩
 |_=> exact⟨rfl,rfl⟩
noncomputable def pr(p:Str×Int):ae:=.tuple [.str p.1,.int p.2]
theorem atl(p q:Str×Int):(ltP (pr p) (pr q)).isSome=true:=by
 unfold pr
 simp only [ltP,kn]
 repeat (first|rfl|split)
theorem anj: ∀ps qs:List (Str×Int),(kn (ps.map pr) (qs.map pr)).isSome=true
 |[],[]=> rfl
 |[],_::_=> by rw [gP,aG,qq];rfl
 |_::_,[]=> by rw [gP,aG,kd];rfl
 |p::ps,q::qs=> by
  rw [aG,aG,qu]
  split
  ·exact anj ps qs
  ·exact atl p q
structure StK (many:Int) (ss:List Str) (d:ae):Prop where
 ex: ∃(i:Int) (ps:List (Str×Int)) (j:Int),d=.tuple [.int i,.tuple (ps.map pr),.int j]/\(0 <=i/\i < many)/\(0 <=j/\j < many)/\ ∀p∈ps,p.1∈ss/\0 <=p.2/\p.2 < 3
theorem acg(h:kr m d=true): ∃i,d=.int i/\0 <=i/\i < m:=by
 cases d with
 |int i=>
  have h':(decide (0 <=i)&&decide (i < m))=true:=h
  (simp only [ao,decide_eq_true_eq]at h')
  exact⟨i,rfl,h'⟩
 |_=> exact absurd h av
theorem alm{m:Int}{ss:List Str}: ∀{ds:List ae},ds.all (xz m ss)=true -> ∃ps:List (Str×Int),ds=ps.map pr/\ ∀p∈ps,p.1∈ss/\0 <=p.2/\p.2 < m
 |[],_=> ⟨[],rfl,fun _ h=> by cases h⟩
 |d::r,h=> by
  (rw [dY,ao]at h)
  obtain⟨ps,rfl,hs⟩:=alm h.2
  obtain⟨x,b,rfl⟩:=aj7 h.1
  have h':(decide (x∈ss)&&kr m b)=true:=h.1
  (rw [ao,decide_eq_true_eq]at h')
  obtain⟨i,rfl,hi⟩:=acg h'.2
  refine⟨(x,i)::ps,rfl,fun p hp=> ?_⟩
  rcases aE.mp hp with rfl|z
  ·exact⟨h'.1,hi⟩
  ·exact hs p z
theorem aea(h:xy many ss d=true):StK many ss d:=by
 match d,h with
 | .tuple [b,m,e],h=>
  have h':(kr many b&&(kr many e&&v6 3 ss m))=true:=h
  (simp only [ao]at h')
  obtain⟨h1,h2,h3⟩:=h'
  obtain⟨i,rfl,hi⟩:=acg h1
  obtain⟨j,rfl,hj⟩:=acg h2
  match m,h3 with
  |.tuple ds,h3=>
   have h4:(ds.all (xz 3 ss)&&k9 (ds.map qx))=true:=h3
   rw [ao]at h4
   obtain⟨ps,rfl,hs⟩:=alm h4.1
   exact⟨i,ps,j,rfl,hi,hj,hs⟩
theorem StK.lt{m':Int}{ss':List Str}{b:ae}(h:StK many ss a)(k:StK m' ss' b):(ltP a b).isSome=true:=by
 obtain⟨i,ps,j,rfl,_⟩:=h.ex
 obtain⟨i2,qs,j2,rfl,_⟩:=k.ex
 rw [vi,qu]
 split
 ·rw [qu]
  split
  ·rw [qu]
   split
   ·rw [qh];rfl
   ·rw [aac];rfl
  ·rw [vi];exact anj ps qs
 ·rw [aac];rfl
theorem ag6{p:Str×Int}(h:yy p.1=true)(h0:0 <=p.2)(h1:p.2 < 3):Nice 22 1 (pr p):=
 (Nices.cons (aeb h) (Nices.cons (y9 (by lia)) Nices.nil)).tup.mono (by lia) (by lia)
theorem at5(p:Str×Int):plD (pr p)=true:=by unfold pr;simp [plD,kf]
theorem ao0: ∀ps:List (Str×Int),kf (ps.map pr)=true
 |[]=> by simp [kf]
 |p::r=> by rw [aG,j3,at5 p,ao0 r];rfl
theorem StK.pl(h:StK many ss a):plD a=true:=by
 obtain⟨i,ps,j,rfl,_⟩:=h.ex
 rw [kb,j3,j3,kb,ao0 ps]
 simp [plD,kf]
theorem StK.nice(h:StK many ss a)(hp: ∀x∈ss,jr x=true)(hm:many <=2001): ∃B,Nice B 3 a:=by
 obtain⟨i,ps,j,rfl,hi,hj,hs⟩:=h.ex
 have n1:=zk (B:=22) (D:=1) (ps.map pr) (by
  intro d hd
  obtain⟨p,hp',rfl⟩:=bv.mp hd
  obtain⟨a,b,c⟩:=hs p hp'
  exact ag6 (za (hp _ a)) b c)
 exact⟨_,(Nices.cons ((y9 (by lia)).mono (aq _) (by decide)) (Nices.cons n1.tup (Nices.cons ((y9 (by lia)).mono (aq _) (by decide)) Nices.nil))).tup⟩
theorem StK.okD(h:StK many ss a)(hp: ∀x∈ss,jr x=true)(hm:many <=2001):okD a=true:=by
 obtain⟨B,n⟩:=h.nice hp hm
 exact n.okD (by decide)
theorem aqv{b:ae}(h:(ltP a b).isSome=true):ltP a b=some (ltb a b):=by
 unfold ltb
 match ltP a b,h with
 |some true,_=> rfl
 |some false,_=> rfl
theorem aiq: ∀xs:List ae,((xs.zip (xs.drop 1)).map fun p=> ltb p.1 p.2).all id=ve xs
 |[]=> rfl
 |[_]=> rfl
 |x::y::r=> by
  have ih:=aiq (y::r)
  simp only [List.drop_succ_cons,iG,cU,aG,dY,id]at ih⊢
  rw [ih];rfl
theorem aw0{xs:List ae}{p:ae×ae}(h:p∈xs.zip (xs.drop 1)):p.1∈xs/\p.2∈xs:=⟨(ee h).1,List.mem_of_mem_drop (ee h).2⟩
structure CmpR (xs:List ae):Prop where
 lt: ∀a∈xs,∀b∈xs,(ltP a b).isSome=true
 ok: ∀a∈xs,okD a=true
theorem aqe{xs:List ae}(h:CmpR xs)(hl:xs.length <=1000):aa0 [.tup xs] s=.ok (.bl (ve xs)) s:=by
 rw [an6];unfold Bis_rising
 walk_at "ev"
 rw [show kl xs (some 1) none=xs.drop 1 from aay xs 1]
 rw [xk (ρ0:=[none,none]) (by rw [ak,List.length_zip];lia) rfl]
 rw [xo (fun p:ae×ae=> D.tup [p.1,p.2]) (fun _=> true) (fun p=> bI (ltb p.1 p.2)) (xs.zip (xs.drop 1)) (fun p hp=> ⟨[some (.da p.1),some (.da p.2)],rfl,rfl,fun _=> by
  obtain⟨m1,m2⟩:=aw0 hp
  walk_at "ev"
  rw [avk (aqv (h.lt _ m1 _ m2)) (h.ok _ m1) (h.ok _ m2)]⟩),bZ.mpr (fun _ _=> rfl)]
 walk_at "ev"
 rw [show (xs.zip (xs.drop 1)).map (fun p=> bI (ltb p.1 p.2))=((xs.zip (xs.drop 1)).map fun p=> ltb p.1 p.2).map bI by rw [aL];rfl,adj,aiq]
 rfl
theorem aol{sts:List ae}(hp: ∀x∈ss,jr x=true)(hm:many <=2001)(h:sts.all (xy many ss)=true):CmpR sts:=by
 rw [aw]at h
 exact⟨fun a ha b hb=> (aea (h a ha)).lt (aea (h b hb)),fun a ha=> (aea (h a ha)).okD hp hm⟩
theorem az2{A u v w:Option D}{b m e:ae}:ae5 (.t3 (.nm 1) (.nm 2) (.nm 3)) [A,u,v,w] (.da (.tuple [b,m,e])) s=.ok (.nx [A,some (.da b),some (.da m),some (.da e)]) s:=rfl
theorem apy(h:aa1 d=true): ∃ss:List Str,d=.tuple (ss.map .str)/\(∀x∈ss,jr x=true)/\ss.length <=6:=by
 cases d with
 |tuple ds=>
  have h':((ds.all v9&&ab5 ds)&&decide (ds.length <=6))=true:=h
  (simp only [ao,decide_eq_true_eq]at h')
  obtain⟨ss,rfl,hs⟩:=acm h'.1.1
  exact⟨ss,rfl,hs,by rw [ak]at h';exact h'.2⟩
 |_=> exact absurd h av
theorem aty{all:List D}(hn:n <=5)(hp: ∀x∈ss,jr x=true)(h: ∀x∈ds,Lf n x):
  kh (.nm 0) yg (je 3 kt (ja (jb 1) (ja (jb 2) (ja (jb 0) jc)))) [none,some (.tup (ss.map .str)),some (.int many)] (all,none) (ds.map D.da) s=.ok ((ds.map fun x=> bI (xy many ss x)).map D.da) s:=by
 rw [acn (fun _=> true) (fun x=> D.bl (xy many ss x)) ds (fun x _=> rfl) (fun x hm _=> by
  walk_at "ev"
  obtain⟨_,_,e,rfl,rfl⟩:=R.W_ex (anq (many:=many) (s:=s) hn hp (h x hm))
  exact e),bZ.mpr (fun _ _=> rfl)]
 rw [aL];rfl
theorem adi(a b c:ae):ac2 (.tuple [a,b,c])=(match a,b,c with
  |.tuple ds,.int many,.tuple sts=> aa1 (.tuple ds)&&(decide (1 <=many)&&decide (many <=2000))&&sts.all (xy many (abt ds))&&ve sts
  |_,_,_=> false):=by
 (cases a <;> cases b <;> cases c <;> rfl)
theorem ay5{b c:ae}(h:aa1 a=false):ac2 (.tuple [a,b,c])=false:=by
 rw [adi]
 split
 ·rw [h];rfl
 ·rfl
theorem ayw{b c:ae}(h:aex b=false):ac2 (.tuple [a,b,c])=false:=by
 rw [adi]
 split
 ·cases h
 ·rfl
theorem aon{c:ae}(h:(decide (1 <=m)&&decide (m <=2000))=false):ac2 (.tuple [a,.int m,c])=false:=by
 rw [adi]
 split
 ·rename_i h'
  cases h'
  rw [h];simp
 ·rfl
theorem azt{b c:ae}(h:xf c "tuple"=false):ac2 (.tuple [a,b,c])=false:=by
 rw [adi]
 split
 ·cases h
 ·rfl
theorem ag1(h:ds.length≠3):ac2 (.tuple ds)=false:=by
 match ds,h with
 |[],_=> rfl
 |[a],_=> cases a <;> rfl
 |[a,b],_=> cases a <;> cases b <;> rfl
 |[_,_,_],h=> exact absurd rfl h
 |a::b::c::d::r,_=> cases a <;> cases b <;> cases c <;> rfl
theorem alk (hn:n <=5) (h:Lf n d):xb [.da d] s=.ok (.bl (ac2 d)) s:=by
 rw [apg];unfold Bis_table
 walk_at "ev"
 cases h with
 | @tup ds hl hx=>
  rw [show xf (.tuple ds) "tuple"=true from rfl]
  walk_at "ev"
  rw [ag3]
  match ds,hx with
  | [a, b,c],hx=>
   rw [show (!decide ((([a,b,c]:List ae).length:Int)=3))=false by simp]
   walk_at "ev"
   rw [az2]
   walk_at "ev"
   rw [azn (hx a (by simp)) (by lia)]
   cases hs:aa1 a with
   |false=>
    walk_at "ev"
    rw [ay5 hs]
   | true=>
    walk_at "ev"
    rw [al7]
    cases hb:aex b with
    |false=>
     walk_at "ev"
     rw [ayw hb]
    | true=>
     obtain⟨m,rfl⟩: ∃m,b=.int m:=by
      cases b with
      |int m=> exact⟨m,rfl⟩
      |_=> cases hb
     walk_at "ev"
     by_cases h1:1 <=m
     ·rw [decide_eq_true h1]
      walk_at "ev"
      by_cases h2:m <=2000
      ·rw [decide_eq_true h2]
       walk_at "ev"
       by_cases hc: ∃sts,c=.tuple sts
       ·obtain⟨sts,rfl⟩:=hc
        obtain⟨ss,rfl,hp,hl6⟩:=apy hs
        obtain⟨hsl,hsx⟩:=aec (hx (.tuple sts) (by simp))
        rw [show xf (.tuple sts) "tuple"=true from rfl]
        walk_at "ev"
        rw [xk (ρ0:=[none,some (.tup (ss.map .str)),some (.int m)]) (by rw [ak];lia) rfl]
        rw [aty hn hp hsx]
        walk_at "ev"
        rw [all_map]
        have ht:ac2 (.tuple [.tuple (ss.map .str),.int m,.tuple sts])=(sts.all (xy m ss)&&ve sts):=by
         show (aa1 (.tuple (ss.map .str))&&(decide (1 <=m)&&decide (m <=2000))&&sts.all (xy m (abt (ss.map .str)))&&ve sts)=_
         rw [hs,decide_eq_true h1,decide_eq_true h2,aaz]
         simp
        rw [ht]
        cases hA:sts.all (xy m ss) with
        |false=> walk_at "ev"
        |true=>
         walk_at "ev"
         rw [aqe (aol hp (by lia) hA) (by lia)]
         walk_at "ev"
       ·have e:xf c "tuple"=false:=by cases c <;> first|rfl|exact absurd ⟨_,rfl⟩ hc
        rw [e]
        walk_at "ev"
        rw [azt e]
      ·rw [decide_eq_false h2]
       walk_at "ev"
       rw [aon (by simp [h2])]
     ·rw [decide_eq_false h1]
      walk_at "ev"
      rw [aon (by simp [h1])]
  |[],_=> rfl
  |[a],_=> rw [ag1 (by simp)];rfl
  |[a,b],_=> rw [ag1 (by simp)];rfl
  |a::b::c::d::r,_=>
   rw [show (!decide (((a::b::c::d::r).length:Int)=3))=true by simp;lia]
   walk_at "ev"
   rw [ag1 (by simp)]
 |_=> rfl
noncomputable def aae:List Str:=["a","ab","abc","net","end","within","to","table","step","box","port","next","b","zzzzzzzz","both","place","ba"]
theorem aux: ∀x∈aae,jr x=true:=by decide+kernel
theorem aqs: ∀a:Nat,a < 17 -> ∀b:Nat,b < 17 -> a≠b -> aae.getD a "a"≠aae.getD b "a":=by decide+kernel
theorem azi: ∀f:Nat,f < 17 -> ∀g:Nat,g < 16 -> ((aU 6).map fun i=> (f+(1+g)*i) % 17).Nodup:=by decide+kernel
theorem agn(n:Nat):ac4 0 n=(aU n).map fun i:Nat=> D.int (i:Int):=by
 apply eO
 intro i
 by_cases hi:i < n
 ·rw [afj _ _ _ hi,aV,fX hi];simp
 ·rw [cv (by rw [qr];lia),cv (by simp;lia)]
theorem aq4(h:Fd s n c)(hc:c+2 < 2^40):DW (xw [.ref n,.int 6] s) fun d s'=> ∃ps:List Str,d=.lst (ps.map af)/\ps.length=6/\(∀x∈ps,jr x=true)/\ps.Nodup/\Fd s' n (c+2)/\ke n s s':=by
 refine⟨?_⟩
 rw [ajs];unfold B_law_names
 walk_at "go"
 rw [ain (by decide)]
 walk_at "go"
 generalize hL:D.lst ([af "a",af "ab",af "abc",af "net",af "end",af "within",af "to",af "table",af "step",af "box",af "port",af "next",af "b",af "zzzzzzzz",af "both",af "place",af "ba"])=L
 have hL:L=.lst (aae.map af):=hL.symm
 subst hL
 refine R.W_mono (kj h (by decide) (by decide) (by lia)) ?_
 rintro _ s1 ⟨f,rfl,f0,f1,fd1,sm1⟩
 walk_at "go"
 refine R.W_mono (kj fd1 (by decide) (by decide) (by lia)) fun dd s2 q=> ?_
 obtain⟨g,e,g0,g1,fd2,sm2⟩:=q
 rw [e];clear e
 walk_at "go"
 obtain⟨f',rfl⟩: ∃q:Nat,f=(q:Int):=⟨f.toNat,by lia⟩
 obtain⟨g',rfl⟩: ∃q:Nat,g=(q:Int):=⟨g.toNat,by lia⟩
 rw [ab9 (by decide) (by decide),show ((6:Int)).toNat=6 from rfl]
 walk_at "go"
 rw [xk (ρ0:=[none,some (.lst (aae.map af)),some (.int (f':Int)),some (.int (1+(g':Int)))]) (by rw [qr];lia) rfl]
 rw [agn]
 have idx: ∀i:Nat,((f':Int)+(1+(g':Int))*(i:Int)) % 17=(((f'+(1+g')*i) % 17:Nat):Int):=fun i=> by
  rw [show (f':Int)+(1+(g':Int))*(i:Int)=((f'+(1+g')*i:Nat):Int) by push_cast;rfl]
  rfl
 have lt: ∀i:Nat,(f'+(1+g')*i) % 17 < 17:=fun i=> Nat.mod_lt _ (by decide)
 rw [xo (fun i:Nat=> D.int (i:Int)) (fun _=> true) (fun i=>.str (aae.getD ((f'+(1+g')*i) % 17) "a")) (aU 6) fun i hi=> ⟨[some (.int (i:Int)),some (.lst (aae.map af)),some (.int (f':Int)),some (.int (1+(g':Int)))],rfl,rfl,fun _=> by
  walk_at "ev"
  rw [xh (.inl (by lia))]
  walk_at "ev"
  rw [qv (by decide)]
  walk_at "ev"
  rw [idx]
  have hl:(f'+(1+g')*i) % 17 < aae.length:=lt i
  rw [ym (p:=.str (aae.getD ((f'+(1+g')*i) % 17) "a")) (by rw [aV,ax hl,bn,ax hl];rfl)]⟩]
 rw [show (aU 6).filter (fun _=> true)=aU 6 from rfl]
 walk_at "go"
 refine⟨(aU 6).map fun i:Nat=> aae.getD ((f'+(1+g')*i) % 17) "a",by rw [aL];rfl,by simp,fun x hx=> ?_,?_,fd2,sm1.trans sm2⟩
 ·obtain⟨i,_,rfl⟩:=bv.mp hx
  have hl:(f'+(1+g')*i) % 17 < aae.length:=lt i
  rw [bn,ax hl]
  exact aux _ (gX hl)
 ·have nd:=azi f' (by lia) g' (by lia)
  unfold gO at nd⊢
  rw [c0]at nd⊢
  exact nd.imp fun {a b} h=> aqs _ (lt a) _ (lt b) h
structure SomeJ (s:S) (n c:Nat) (seen:List Str) (r acc:List D) (s':S):Prop where
 ex: ∃(got left:List Str) (c':Nat),acc=got.map (fun x=> D.str x)/\r=left.map (fun x=> D.str x)/\(got++left).Sublist seen/\Fd s' n c'/\c'+left.length <=c+seen.length/\ke n s s'
structure PairJ (s:S) (n c:Nat) (seen:List Str) (r acc:List D) (s':S):Prop where
 ex: ∃(got:List (Str×Int)) (left:List Str) (c':Nat),acc=got.map (fun p=> D.da (pr p))/\r=left.map (fun x=> D.str x)/\got.map (fun p=> p.1)++left=seen/\(∀p∈got,0 <=p.2/\p.2 < 3)/\Fd s' n c'/\c'+2*left.length <=c+2*seen.length/\ke n s s'
theorem afv(l:List (Str×Int)):ko (l.map pr)=true:=by
 unfold ko
 rw [aw]
 intro a ha
 obtain⟨p,_,rfl⟩:=bv.mp ha
 rw [ao,aw]
 refine⟨at5 p,fun b hb=> ?_⟩
 obtain⟨q,_,rfl⟩:=bv.mp hb
 exact atl p q
theorem awh{p q:Str×Int}(h:p.1≠q.1)(k:ltb (pr p) (pr q)=true):ltS p.1 q.1=true:=by
 rw [xm]at k
 unfold pr at k
 rw [vi,xu (by simp [plD]) (by simp [plD]) (fun e=> h (by injection e)),aa8]at k
 unfold ltS
 injection k
theorem asb{ps:List (Str×Int)}(h: ∀p∈ps,p.1∈ss/\0 <=p.2/\p.2 < m):(ps.map pr).all (xz m ss)=true:=by
 rw [cF,aw]
 intro p hp
 obtain⟨a,b,c⟩:=h p hp
 show (decide (p.1∈ss)&&(decide (0 <=p.2)&&decide (p.2 < m)))=true
 rw [decide_eq_true a,decide_eq_true b,decide_eq_true c];rfl
theorem ayh{ps:List (Str×Int)}(h: ∀p∈ps,p.1∈ss/\0 <=p.2/\p.2 < m)(nd:(ps.map fun p=> p.1).Nodup): ∃qs:List (Str×Int),qj (ps.map pr)=qs.map pr/\qs.Perm ps/\v6 m ss (.tuple (qj (ps.map pr)))=true:=by
 obtain⟨qs,pm,e⟩:=aj0 (xa (ps.map pr))
 refine⟨qs,e.symm,pm,?_⟩
 have rs:=acp (afv ps)
 rw [←e]at rs⊢
 show ((qs.map pr).all (xz m ss)&&k9 ((qs.map pr).map qx))=true
 rw [asb (fun p hp=> h p (pm.mem_iff.mp hp)),jA,aL]
 refine afh _ ?_
 have nd2:(qs.map fun p=> p.1).Nodup:=(pm.map _).nodup_iff.mpr nd
 unfold gO at nd2
 unfold zh at rs
 rw [c0]at nd2 rs⊢
 have both:=iM.mpr ⟨rs,nd2⟩
 refine both.imp_of_mem fun {a b} ha hb hab=> ?_
 have c:=afv qs
 rcases af3 c (fY hb) (fY ha) hab.1 with z|z
 ·exact absurd (congrArg qx z).symm hab.2
 ·exact awh hab.2 z
theorem aod{few:Int}{seen:List Str}(h:Fd s n c)(hl:seen.length <=6)(hp: ∀x∈seen,jr x=true)(nd:seen.Nodup)(hc:c+20 < 2^40):
  (xi [.ref n,.lst (seen.map af),.int few] s).W fun d s'=> ∃ps:List (Str×Int),d=.tup (ps.map pr)/\ps.length <=6/\(∀p∈ps,p.1∈seen/\0 <=p.2/\p.2 < 3)/\v6 3 seen (.tuple (ps.map pr))=true/\Fd s' n (c+18)/\ke n s s':=by
 rw [ajd];unfold B_law_moment
 walk_at "go"
 rw [xk (ρ0:=[none,some (.int few),some (.ref n)]) (by rw [ak,ak];lia) rfl,R.W_bindk]
 refine R.W_mono (aao (Q:=fun xs s'=> ∃got:List Str,xs=got.map (fun x=> D.str x)/\got.Sublist seen/\Fd s' n (c+6)/\ke n s s') (SomeJ s n c seen) ?_ ?_ _ [] s ⟨[],seen,c,rfl,by rw [aL];rfl,jT.refl _,h,by lia,ke.refl _ _⟩) ?_
 ·rintro d r acc s' ⟨got,left,c',rfl,hr,sb,fd,hcc,sm⟩
  cases left with
  |nil=> cases hr
  | cons x left=>
   cases hr
   have hsl:=sb.length_le
   simp only [aH,aD]at hsl hcc
   refine⟨[some (.str x),some (.int few),some (.ref n)],rfl,?_⟩
   walk_at "go"
   refine R.W_mono (kj fd (by decide) (by decide) (by lia)) ?_
   rintro _ s1 ⟨i,rfl,i0,i1,fd1,sm1⟩
   walk_at "go"
   by_cases e:i < few
   ·rw [decide_eq_true e]
    walk_at "go"
    exact⟨got++ [x],left,c'+1,by simp,rfl,by simpa using sb,fd1,by lia,sm.trans sm1⟩
   ·rw [decide_eq_false e]
    walk_at "go"
    exact⟨got,left,c'+1,rfl,rfl,(hV (List.sublist_cons_self x left) got).trans sb,fd1,by lia,sm.trans sm1⟩
 ·rintro acc s' ⟨got,left,c',rfl,hr,sb,fd,hcc,sm⟩
  cases left with
  |cons x left=> cases hr
  |nil=>
   rw [bq]at sb
   exact⟨got,rfl,sb,fd.le (by simp at hcc;lia),sm⟩
 ·rintro xs s1 ⟨got,e,sb,fd,sm⟩
  rw [ek]at e
  subst e
  have hgl:=sb.length_le
  walk_at "go"
  rw [show got.map (fun x=> D.str x)=(got.map af).map D.da by rw [aL];rfl]
  walk_at "go"
  rw [show (got.map af).map D.da=got.map (fun x=> D.str x) by rw [aL];rfl]
  rw [xk (ρ0:=[none,some (.ref n)]) (by rw [ak];lia) rfl,R.W_bindk]
  refine R.W_mono (aao (Q:=fun xs s'=> ∃ps:List (Str×Int),xs=ps.map (fun p=> D.da (pr p))/\ps.map (fun p=> p.1)=got/\(∀p∈ps,0 <=p.2/\p.2 < 3)/\Fd s' n (c+18)/\ke n s s') (PairJ s n (c+6) got) ?_ ?_ _ [] s1 ⟨[],got,c+6,rfl,rfl,rfl,(fun _ h=> by cases h),fd,by lia,sm⟩) ?_
  ·rintro d r acc s' ⟨ps,left,c',rfl,hr,sb2,hb,fd,hcc,sm⟩
   cases left with
   |nil=> cases hr
   | cons x left=>
    cases hr
    have hsl:=congrArg List.length sb2
    simp only [aH,aD,ak]at hsl hcc
    refine⟨[some (.str x),some (.ref n)],rfl,?_⟩
    walk_at "go"
    refine R.W_mono (kj fd (by decide) (by decide) (by lia)) ?_
    rintro _ s2 ⟨i,rfl,i0,i1,fd1,sm1⟩
    walk_at "go"
    refine R.W_mono (kj fd1 (by decide) (by decide) (by lia)) ?_
    rintro _ s3 ⟨j,rfl,j0,j1,fd2,sm2⟩
    walk_at "go"
    rw [xh (.inl (by lia))]
    walk_at "go"
    have hj:j=0\/j=1:=by lia
    refine⟨ps++ [(x,i*j)],left,c'+2,by simp [pr],rfl,by simpa using sb2,fun p hp'=> ?_,fd2,by lia,sm.trans (sm1.trans sm2)⟩
    rcases bH.mp hp' with z|z
    ·exact hb p z
    ·rw [bm.mp z]
     rcases hj with rfl|rfl
     ·simp
     ·simp;lia
  ·rintro acc s' ⟨ps,left,c',rfl,hr,sb2,hb,fd,hcc,sm⟩
   cases left with
   |cons x left=> cases hr
   |nil=>
    rw [bq]at sb2
    exact⟨ps,rfl,sb2,hb,fd.le (by simp at hcc;lia),sm⟩
  ·rintro xs s2 ⟨ps,e,e1,hb,fd2,sm2⟩
   rw [ek]at e
   subst e
   walk_at "go"
   have hpl:ps.length=got.length:=by rw [←e1,ak]
   have mem: ∀p∈ps,p.1∈seen/\0 <=p.2/\p.2 < 3:=fun p hp'=> ⟨sb.subset (by rw [←e1];exact fY (f:=fun p:Str×Int=> p.1) hp'),hb p hp'⟩
   rw [show ps.map (fun p=> D.da (pr p))=(ps.map pr).map D.da by rw [aL];rfl]
   walk_at "go"
   rw [af6 (by rw [ak];lia) (afv ps) (by
    rw [cF,aw]
    intro p hp'
    obtain⟨a,b,c⟩:=mem p hp'
    exact (ag6 (za (hp _ a)) b c).okD (by decide))]
   walk_at "go"
   obtain⟨qs,e2,pm,mo⟩:=ayh mem (by rw [e1];exact nd.sublist sb)
   rw [e2]at mo⊢
   exact⟨qs,rfl,by rw [pm.length_eq];lia,fun p hp'=> mem p (pm.mem_iff.mp hp'),mo,fd2,sm2⟩
structure DsK (many:Int) (ss:List Str) (d:ae):Prop where
 ex: ∃(i:Int) (ps:List (Str×Int)) (j:Int),d=.tuple [.int i,.tuple (ps.map pr),.int j]/\(0 <=i/\i < many)/\(0 <=j/\j < many)/\ps.length <=6/\(∀p∈ps,p.1∈ss/\0 <=p.2/\p.2 < 3)/\v6 3 ss (.tuple (ps.map pr))=true
theorem DsK.st(h:DsK many ss d):StK many ss d:=by
 obtain⟨i,ps,j,e,hi,hj,_,hm,_⟩:=h.ex
 exact⟨i,ps,j,e,hi,hj,hm⟩
theorem DsK.nice(h:DsK many ss d)(hp: ∀x∈ss,jr x=true)(hm:many <=2001):Nice 150 3 d:=by
 obtain⟨i,ps,j,rfl,hi,hj,hl,hs,_⟩:=h.ex
 have n1:=zk (B:=22) (D:=1) (ps.map pr) (by
  intro d hd
  obtain⟨p,hp',rfl⟩:=bv.mp hd
  obtain⟨a,b,c⟩:=hs p hp'
  exact ag6 (za (hp _ a)) b c)
 rw [ak]at n1
 exact (Nices.cons ((y9 (by lia)).mono (aq _) (by decide)) (Nices.cons n1.tup (Nices.cons ((y9 (by lia)).mono (aq _) (by decide)) Nices.nil))).tup.mono (by lia) (aq _)
theorem agi{a:Nat}{xs:List ae}(h:s[a]?=some (.lst (xs.map D.da)))(hd:okD d=true)(hx: ∀x∈xs,okD x=true)(p1:plD d=true)(p2: ∀x∈xs,plD x=true):aan (.da d) (.ref a) s=.ok (.bl (decide (d∉xs))) s:=by
 have e0:aan (.da d) (.ref a) s=afo true (.da d) (.ref a) s:=by cases d <;> rfl
 rw [e0]
 unfold afo
 rw [avc h,show toP s (.da d)=some d from rfl]
 show (if okD d=true/\xs.all okD=true then R.ok (D.bl (nb true (xs.any fun x=> aI x d))) s else .bad)=_
 rw [if_pos ⟨hd,aw.mpr hx⟩]
 have:(xs.any fun x=> aI x d)=decide (d∈xs):=by
  (rw [br,List.any_eq_true,decide_eq_true_eq])
  constructor
  ·rintro⟨x,hm,e⟩
   rw [yz x d (p2 x hm) p1]at e
   exact e▸hm
  ·exact fun hm=> ⟨d,hm,(yz d d p1 p1).mpr rfl⟩
 rw [this]
 show R.ok (D.bl (!decide (d∈xs))) s=_
 congr 2
 simp
theorem agm{a:Nat}{xs:List ae}(h:s[a]?=some (.lst (xs.map D.da)))(hl:xs.length+ys.length <=1000):j7 true (.ref a) (.lst ys) s=.ok (.ref s.length) (s++ [.lst ((xs++ys).map D.da)]):=by
 show (match toL s (.ref a),toL s (.lst ys) with|some xs,some ys=> if xs.length+ys.length <=sizeLine then kc true (xs++ys) s else .bad|_,_=>.bad)=_
 have e1:toL s (.ref a)=some (xs.map D.da):=by
  show (match s[a]? with|some (O.lst ds)=> some ds|_=> none)=_
  rw [h]
 have e2:toL s (.lst ys)=some (ys.map D.da):=rfl
 rw [e1,e2]
 show (if (xs.map D.da).length+(ys.map D.da).length <=sizeLine then kc true (xs.map D.da++ys.map D.da) s else .bad)=_
 rw [if_pos (by rw [ak,ak,jv];lia),←ij]
 rfl
theorem ahz{xs:List ae}(h:ko xs=true)(nd:xs.Nodup):ve (qj xs)=true:=by
 have pm:=xa xs
 have rs:=acp h
 have nd2:(qj xs).Nodup:=pm.nodup_iff.mpr nd
 unfold zh at rs
 unfold gO at nd2
 have both:=iM.mpr ⟨rs,nd2⟩
 have pw:(qj xs).Pairwise fun a b=> ltb a b=true:=both.imp_of_mem fun {a b} ha hb hab=> by
  rcases af3 h (pm.mem_iff.mp hb) (pm.mem_iff.mp ha) hab.1 with z|z
  ·exact absurd z.symm hab.2
  ·exact z
 generalize qj xs=l at pw
 clear both nd2 rs pm nd h
 induction l with
 |nil=> rfl
 | cons x r ih=>
  cases r with
  |nil=> rfl
  |cons y r=>
   show (ltb x y&&ve (y::r))=true
   rw [cu]at pw
   rw [pw.1 y az,ih pw.2];rfl
theorem ada{xs:List ae}(h: ∀x∈xs,DsK many ss x):ko xs=true:=by
 unfold ko
 rw [aw]
 intro a ha
 rw [ao,aw]
 exact⟨(h a ha).st.pl,fun b hb=> (h a ha).st.lt (h b hb).st⟩
noncomputable def xx(k:Nat):ae:=.tuple [.int (k:Int),.tuple [],.int (k:Int)]
theorem arl(h:(k:Int) < many):DsK many ss (xx k):=⟨(k:Int),[],(k:Int),rfl,⟨by lia,h⟩,⟨by lia,h⟩,by simp,(fun _ h=> by cases h),rfl⟩
structure TbJ (s0:S) (n a c:Nat) (many few:Int) (ss:List Str) (r:List D) (ρ:En) (s:S):Prop where
 ex: ∃(fs:List ae) (c':Nat) (u7 u8 u9:Option D),ρ=[some (.ref n),some (.lst (ss.map af)),some (.int 5),some (.int 12),some (.int many),some (.ref a),some (.int few),u7,u8,u9]/\
  s[a]?=some (.lst (fs.map D.da))/\(∀x∈fs,DsK many ss x)/\fs.Nodup/\fs.length+r.length <=12/\Fd s n c'/\c'+20*r.length <=c+240/\ke n s0 s/\s0.length <=a
structure TbQ (s0:S) (n c:Nat) (ss:List Str) (d:D) (s:S):Prop where
 ex: ∃(many:Int) (sts:List ae),d=.da (.tuple [.tuple (ss.map af),.int many,.tuple sts])/\1 <=many/\many <=5/\sts.length <=17/\(∀x∈sts,DsK many ss x)/\ve sts=true/\sts.Nodup/\Fd s n c/\ke n s0 s
def tbL:FS:=(jd (jp 8 (je 2 jh (ja (jb 0) (ja (jb 4) jc))))
  (jd (jp 9 (qf (ja (jb 8) (ja (je 3 xi (ja (jb 0) (ja (jb 1) (ja (jb 6) jc)))) (ja (je 2 jh (ja (jb 0) (ja (jb 4) jc))) jc)))))
  (j4 (ji (fOp aan (jb 9) (jb 5))) (ql (fMt ky (jb 5) (ja (jb 9) jc))) jt)))
theorem aur{s0:S}{a:Nat}{few:Int}{d:D}{r:List D}(h1:1 <=many)(h5:many <=5)(hl:ss.length <=6)(hp: ∀x∈ss,jr x=true)(nd:ss.Nodup)(hc:c+500 < 2^40)(hn:n < s0.length)(J:TbJ s0 n a c many few ss (d::r) ρ s):
  ∃ρ1,km (.nm 7) d ρ=some ρ1/\(tbL ρ1 s).W fun fl s'=> ∃ρ2,fl=.nx ρ2/\TbJ s0 n a c many few ss r ρ2 s':=by
 obtain⟨fs,c',u7,u8,u9,rfl,ha,hf,hnd,hlen,fd,hcc,sm,hs0⟩:=J.ex
 simp only [aD]at hlen hcc
 refine⟨_,a0w,?_⟩
 unfold tbL
 walk_at "go"
 refine R.W_mono (kj fd (by lia) (by lia) (by lia)) ?_
 rintro _ s1 ⟨i,rfl,i0,i1,fd1,sm1⟩
 walk_at "go"
 refine R.W_mono (aod fd1 hl hp nd (by lia)) ?_
 rintro _ s2 ⟨ps,rfl,psl,hps,mo,fd2,sm2⟩
 walk_at "go"
 refine R.W_mono (kj fd2 (by lia) (by lia) (by lia)) ?_
 rintro _ s3 ⟨j,rfl,j0,j1,fd3,sm3⟩
 walk_at "go"
 have dk:DsK many ss (.tuple [.int i,.tuple (ps.map pr),.int j]):=⟨i,ps,j,rfl,⟨i0,i1⟩,⟨j0,j1⟩,psl,hps,mo⟩
 have sm':=sm1.trans (sm2.trans sm3)
 have la:a < s.length:=(aF.mp ha).1
 have ha3:s3[a]?=some (.lst (fs.map D.da)):=by rw [sm'.get _ (by lia) la];exact ha
 have okd: ∀x,DsK many ss x -> okD x=true:=fun x hx=> (hx.nice hp (by lia)).okD (by decide)
 rw [show (D.tup [.int i,.tuple (ps.map pr),.int j])=.da (.tuple [.int i,.tuple (ps.map pr),.int j]) from rfl]
 rw [agi ha3 (okd _ dk) (fun x hx=> okd x (hf x hx)) dk.st.pl (fun x hx=> (hf x hx).st.pl)]
 by_cases hin:bV [.int i,.tuple (ps.map pr),.int j]∈fs
 ·rw [decide_eq_false (by simpa using hin)]
  walk_at "go"
  exact⟨_,rfl,fs,_,_,_,_,rfl,ha3,hf,hnd,by lia,fd3.le (aq _),by lia,sm.trans sm',hs0⟩
 ·rw [decide_eq_true hin]
  walk_at "go"
  rw [ze ha3]
  walk_at "go"
  rw [xg (d:=.da (.tuple [.int i,.tuple (ps.map pr),.int j])) ha3 (by rw [ak];lia)]
  walk_at "go"
  refine⟨_,rfl,fs++ [.tuple [.int i,.tuple (ps.map pr),.int j]],_,_,_,_,rfl,?_,?_,?_,by simp;lia,(fd3.set (by lia)).le (aq _),by lia,(sm.trans sm').own (by lia),hs0⟩
  ·rw [bj (aJ la sm'.len)];simp
  ·intro x hx
   rcases bH.mp hx with z|z
   ·exact hf x z
   ·rw [bm.mp z];exact dk
  ·rw [eN]
   refine⟨hnd,by simp,fun x hx y hy e=> ?_⟩
   rw [bm.mp hy]at e
   exact hin (e▸hx)
def tbA:FS:=(jp 5 (fOp (j7 true) (jb 5) (fLc false [5] 1 (aai (ja (jb 4) jc)) (.nm 0) (ji (fOp aan (qf (ja (jb 0) (ja (qf jc) (ja (jb 0) jc)))) (jb 1))) (qf (ja (jb 0) (ja (qf jc) (ja (jb 0) jc)))))))
def tbZ:FS:=(jk (qf (ja (fCB vf (ja (jb 1) jc)) (ja (jb 4) (ja (fCB vf (ja (fCB (xn false) (ja (jb 5) jc)) jc)) jc)))))
theorem ant{s0:S}{a:Nat}{few:Int}{fs:List ae}{u2 u3 u7 u8 u9:Option D}(h1:1 <=many)(h5:many <=5)(hp: ∀x∈ss,jr x=true)(ha:s[a]?=some (.lst (fs.map D.da)))(hf: ∀x∈fs,DsK many ss x)(nd:fs.Nodup)(hl:fs.length <=17)(fd:Fd s n c)(sm:ke n s0 s):
  (tbZ [some (.ref n),some (.lst (ss.map af)),u2,u3,some (.int many),some (.ref a),some (.int few),u7,u8,u9] s).W fun fl s'=> (jw fl s').W (TbQ s0 n c ss):=by
 unfold tbZ
 walk_at "go"
 rw [amp ha (by lia) (ada hf) (by
  rw [aw]
  exact fun x hx=> ((hf x hx).nice hp (by lia)).okD (by decide))]
 walk_at "go"
 have pm:=xa fs
 exact⟨many,qj fs,rfl,h1,h5,by rw [pm.length_eq];lia,fun x hx=> hf x (pm.mem_iff.mp hx),ahz (ada hf) nd,pm.nodup_iff.mpr nd,fd,sm⟩
theorem azs{a:Nat}{few:Int}{fs:List ae}{u2 u3 u7 u8 u9:Option D}(h1:1 <=many)(h5:many <=5)(hp: ∀x∈ss,jr x=true)(ha:s[a]?=some (.lst (fs.map D.da)))(hf: ∀x∈fs,DsK many ss x)(nd:fs.Nodup)(hl:fs.length <=12):
  ∃gs:List ae,tbA [some (.ref n),some (.lst (ss.map af)),u2,u3,some (.int many),some (.ref a),some (.int few),u7,u8,u9] s=.ok (.nx [some (.ref n),some (.lst (ss.map af)),u2,u3,some (.int many),some (.ref s.length),some (.int few),u7,u8,u9]) (s++ [.lst (gs.map D.da)])/\(∀x∈gs,DsK many ss x)/\gs.Nodup/\gs.length <=17:=by
 obtain⟨m,rfl⟩: ∃m:Nat,many=(m:Int):=⟨many.toNat,by lia⟩
 have okd: ∀x,DsK (m:Int) ss x -> okD x=true:=fun x hx=> (hx.nice hp (by lia)).okD (by decide)
 have stk: ∀k,k∈aU m -> DsK (m:Int) ss (xx k):=fun k hk=> arl (by have:=dA.mp hk;lia)
 refine⟨fs++((aU m).filter fun k=> decide (xx k∉fs)).map xx,?_,?_,?_,?_⟩
 ·unfold tbA
  walk_at "ev"
  rw [ab9 (by lia) (by lia),show ((m:Int)).toNat=m from ca _]
  walk_at "ev"
  rw [xk (ρ0:=[none,some (.ref a)]) (by rw [qr];lia) rfl,agn]
  rw [xo (fun i:Nat=> D.int (i:Int)) (fun k=> decide (xx k∉fs)) xx (aU m) (fun k hk=> ⟨[some (.int (k:Int)),some (.ref a)],rfl,by
   walk_at "ev"
   rw [show (D.tup [.int (k:Int),.tuple [],.int (k:Int)])=.da (xx k) from rfl]
   rw [agi ha (okd _ (stk k hk)) (fun x hx=> okd x (hf x hx)) (stk k hk).st.pl (fun x hx=> (hf x hx).st.pl)]
   walk_at "ev",fun _=> by
   walk_at "ev"
   rfl⟩)]
  walk_at "ev"
  rw [agm ha (by
   have:=iN (fun k=> decide (xx k∉fs)) (aU m)
   rw [gJ]at this
   rw [ak];lia)]
  walk_at "ev"
 ·intro x hx
  rcases bH.mp hx with z|z
  ·exact hf x z
  ·obtain⟨k,hk,rfl⟩:=bv.mp z
   exact stk k (bG.mp hk).1
 ·rw [eN]
  refine⟨nd,?_,fun x hx y hy e=> ?_⟩
  ·unfold gO
   rw [c0]
   refine gz.imp ?_ ((List.nodup_range (n:=m)).filter _)
   intro a b hab e
   unfold xx at e
   injection e with e
   injection e with e _
   injection e with e
   exact hab (by lia)
  ·obtain⟨k,hk,rfl⟩:=bv.mp hy
   have:=(bG.mp hk).2
   simp only [decide_eq_true_eq]at this
   exact this (e▸hx)
 ·rw [aH,ak]
  have:=iN (fun k=> decide (xx k∉fs)) (aU m)
  rw [gJ]at this
  lia
theorem aq0(h:Fd s n c)(hl:ss.length <=6)(hp: ∀x∈ss,jr x=true)(nd:ss.Nodup)(hc:c+700 < 2^40):
  DW (xt [.ref n,.lst (ss.map af),.int 5,.int 12] s) (TbQ s n (c+300) ss):=by
 refine⟨?_⟩
 rw [ajq]
 show ((B_law_table [some (.ref n),some (.lst (ss.map af)),some (.int 5),some (.int 12),none,none,none,none,none,none] s).bind jw).W _
 unfold B_law_table
 walk_at "go"
 refine R.W_mono (kj h (by decide) (by decide) (by lia)) ?_
 rintro _ s1 ⟨m,rfl,m0,m1,fd1,sm1⟩
 walk_at "go"
 refine R.W_mono (kj (fd1.ext (Ext.add _ _)) (by decide) (by decide) (by lia)) ?_
 rintro _ s2 ⟨few,rfl,f0,f1,fd2,sm2⟩
 walk_at "go"
 refine R.W_mono (kj fd2 (by decide) (by decide) (by lia)) ?_
 rintro _ s3 ⟨k,rfl,k0,k1,fd3,sm3⟩
 walk_at "go"
 have hn1:n < s1.length:=fd1.lt
 have hs1:=sm1.len
 have sm:ke n s s3:=sm1.trans (((Ext.add s1 [O.lst []]).same n).trans (sm2.trans sm3))
 have ha:s3[s1.length]?=some (.lst (([]:List ae).map D.da)):=by
  have l:s1.length < (s1++ [O.lst []]).length:=by simp
  rw [(sm2.trans sm3).get _ (by lia) l];simp
 rw [ab9 (by lia) (by lia)]
 walk_at "go"
 refine R.W_mono (qg (Q:=fun fl s'=> ∃ρ,fl=.nx ρ/\TbJ s n s1.length (c+3) (1+m) (1+few) ss [] ρ s') (TbJ s n s1.length (c+3) (1+m) (1+few) ss) ?_ ?_ _ _ _ ⟨[],c+3,none,none,none,rfl,ha,(fun _ h=> by cases h),List.nodup_nil,by rw [qr];simp;lia,fd3,by rw [qr];lia,sm,hs1⟩) ?_
 ·intro d r ρ s' J
  obtain⟨ρ1,e,w⟩:=aur (by lia) (by lia) hl hp nd (by lia) h.lt J
  refine⟨ρ1,e,R.W_mono w ?_⟩
  rintro _ s4 ⟨ρ2,rfl,J2⟩
  exact J2
 ·intro ρ s' J
  exact⟨ρ,rfl,J⟩
 ·rintro _ s4 ⟨ρ,rfl,fs,c',u7,u8,u9,rfl,ha4,hf,hnd,hlen,fd4,hcc,sm4,hs0⟩
  simp only [ej]at hlen hcc
  walk_at "go"
  refine R.W_mono (kj fd4 (by decide) (by decide) (by lia)) ?_
  rintro _ s5 ⟨q,rfl,q0,q1,fd5,sm5⟩
  walk_at "go"
  rw [adc]
  have la:s1.length < s4.length:=(aF.mp ha4).1
  have ha5:s5[s1.length]?=some (.lst (fs.map D.da)):=by rw [sm5.get _ (by lia) la];exact ha4
  by_cases hq:q=0
  ·rw [decide_eq_true hq]
   obtain⟨gs,e,g1,g2,g3⟩:=azs (n:=n) (few:=1+few) (u2:=some (.int 5)) (u3:=some (.int 12)) (u7:=u7) (u8:=u8) (u9:=u9) (show 1 <=1+m by lia) (show 1+m <=5 by lia) hp ha5 hf hnd (by lia)
   show (tbA [some (.ref n),some (.lst (ss.map af)),some (.int 5),some (.int 12),some (.int (1+m)),some (.ref s1.length),some (.int (1+few)),u7,u8,u9] s5).W (R.Wk (amv tbZ) (R.Wk jw (TbQ s n (c+300) ss)))
   rw [e]
   show (tbZ [some (.ref n),some (.lst (ss.map af)),some (.int 5),some (.int 12),some (.int (1+m)),some (.ref s5.length),some (.int (1+few)),u7,u8,u9] (s5++ [.lst (gs.map D.da)])).W (R.Wk jw (TbQ s n (c+300) ss))
   have:=ant (s0:=s) (n:=n) (a:=s5.length) (c:=c+300) (few:=1+few) (u2:=some (.int 5)) (u3:=some (.int 12)) (u7:=u7) (u8:=u8) (u9:=u9) (s:=s5++ [.lst (gs.map D.da)]) (show 1 <=1+m by lia) (show 1+m <=5 by lia) hp (by simp) g1 g2 g3 ((fd5.ext (Ext.add _ _)).le (by lia)) (sm4.trans (sm5.trans ((Ext.add _ _).same n)))
   exact this
  ·rw [decide_eq_false hq]
   show (tbZ [some (.ref n),some (.lst (ss.map af)),some (.int 5),some (.int 12),some (.int (1+m)),some (.ref s1.length),some (.int (1+few)),u7,u8,u9] s5).W (R.Wk jw (TbQ s n (c+300) ss))
   have:=ant (s0:=s) (n:=n) (a:=s1.length) (c:=c+300) (few:=1+few) (u2:=some (.int 5)) (u3:=some (.int 12)) (u7:=u7) (u8:=u8) (u9:=u9) (s:=s5) (show 1 <=1+m by lia) (show 1+m <=5 by lia) hp ha5 hf hnd (by lia) (fd5.le (by lia)) (sm4.trans sm5)
   exact this
theorem al4(h0:0 <=i)(h1:i <=2000):ag4 (jm i)=true:=by
 obtain⟨n,rfl⟩: ∃n:Nat,i=(n:Int):=⟨i.toNat,by lia⟩
 exact av4 n (by lia)
theorem auh(h:ag4 x=true):1 <=x.length/\x.length <=4:=by
 unfold ag4 at h
 simp only [ao,decide_eq_true_eq]at h
 exact h.1
theorem ade(h0:0 <=i)(h1:i <=2000)(h2:0 <=j)(h3:j <=2000)(e:jm i=jm j):i=j:=by
 have a:=fD h0 (show i < 10^10 by lia)
 have b:=fD h2 (show j < 10^10 by lia)
 have e':aA (toString i)=aA (toString j):=e
 rw [e',b]at a
 exact (bN a).symm
theorem an8: ∀c:Nat,c < 58 -> 48 <=c -> ajm (aA "0123456789") ⟨#[c]⟩=true:=by decide+kernel
theorem asq: ∀c:Nat,c < 58 -> 48 <=c -> c≠48 -> (⟨#[c]⟩:Str)≠aA "0":=by decide+kernel
theorem arb{r:List Nat}(h:x.cps.toList=c::r)(hl:x.length <=1000):gIx (.str x) (.int 0) s=.ok (.str ⟨#[c]⟩) s:=by
 show (if x.length <=sizeLine then (match atI x.cps.toList 0 with|some c=> R.ok (D.str ⟨#[c]⟩) s|none=>.bad) else .bad)=_
 rw [if_pos (by rw [jv];lia),h]
 have:atI (c::r) 0=some c:=by
  unfold atI ixN
  rw [if_pos (by decide),if_pos (by simp)]
  rfl
 rw [this]
theorem ac6(h0:0 <=i)(h1:i <=2000):vk [.str (jm i)] s=.ok (.int i) s:=by
 have hd:=al4 h0 h1
 have rd:f9 (jm i)=some i:=fD h0 (by lia)
 obtain⟨l1,l4⟩:=auh hd
 generalize jm i=x at hd rd l1 l4⊢
 unfold ag4 at hd
 simp only [ao,fL,decide_eq_true_eq,aw]at hd
 obtain⟨_,hs,hz⟩:=hd
 have a128:x.cps.all (· < 128)=true:=by
  (rw [←df,aw])
  intro c hc
  have:=(hs c hc).2
  (exact decide_eq_true (by lia))
 rw [am3];unfold Bnumber_by
 walk_at "ev"
 rw [len_str (by lia)]
 walk_at "ev"
 rw [decide_eq_true (show (1:Int) <=(x.length:Int) by lia)]
 walk_at "ev"
 rw [decide_eq_true (show (x.length:Int) <=4 by lia)]
 walk_at "ev"
 rw [at6]
 walk_at "ev"
 rw [ale a128]
 walk_at "ev"
 rw [ah5,xk (ρ0:=[none]) (by rw [ak,aX];show x.length <=_;lia) rfl]
 rw [xo (fun c:Nat=> D.str ⟨#[c]⟩) (fun _=> true) (fun _=> bI true) x.cps.toList (fun c hc=> ⟨[some (.str ⟨#[c]⟩)],rfl,rfl,fun _=> by
  walk_at "ev"
  rw [ao8,an8 c (by have:=(hs c hc).2;lia) (hs c hc).1]⟩)]
 (rw [bZ.mpr (fun _ _=> rfl)])
 walk_at "ev"
 rw [show x.cps.toList.map (fun _=> bI true)=(x.cps.toList.map fun _=> true).map bI by rw [aL];rfl,adj,cF]
 rw [show x.cps.toList.all (id∘fun _=> true)=true from aw.mpr fun _ _=> rfl]
 walk_at "ev"
 obtain⟨c,r,hx⟩: ∃c r,x.cps.toList=c::r:=by
  match q:x.cps.toList with
  |[]=>
   have:x.cps.toList.length=x.length:=aX
   rw [q]at this
   simp at this
   lia
  |c::r=> exact⟨c,r,rfl⟩
 rw [arb hx (by lia)]
 walk_at "ev"
 have hc:=hs c (by rw [hx];exact az)
 have ge: ∀s:S,gEq (.str ⟨#[c]⟩) (.da (.str "0")) s=.ok (.bl (decide ((⟨#[c]⟩:Str)="0"))) s:=fun s=> rfl
 rw [ge]
 by_cases h48:c=48
 ·subst h48
  rw [hx]at hz
  have hl1:x.length=1:=hz.elim (fun h=> absurd rfl h) id
  rw [show decide ((⟨#[48]⟩:Str)="0")=true by decide]
  walk_at "ev"
  rw [len_str (by lia)]
  walk_at "ev"
  rw [hl1,show decide ((1:Int) < ((1:Nat):Int))=false from rfl]
  walk_at "ev"
  rw [ako rd (by lia)]
  walk_at "ev"
 ·rw [decide_eq_false (asq c (by lia) hc.1 h48)]
  walk_at "ev"
  rw [ako rd (by lia)]
  walk_at "ev"
theorem adg:gNe (.da (.str x)) (.da (.str y)) s=.ok (.bl (!decide (x=y))) s:=(rfl)
abbrev Sp:=Int×List (Str×Int)×Int
def stp(p:Sp):ae:=.tuple [.int p.1,.tuple (p.2.1.map pr),.int p.2.2]
noncomputable def two(f g:Str×Int -> Str)(qs:List (Str×Int)):List Str:=qs.flatMap fun q=> [f q,g q]
theorem aff(f g:Str×Int -> Str): ∀qs,(two f g qs).length=2*qs.length
 |[]=> rfl
 |q::r=> by
  have:=aff f g r
  show ([f q,g q]++two f g r).length=_
  rw [aH,this,aD]
  simp;lia
theorem ahw(f g:Str×Int -> Str): ∀(qs:List (Str×Int)) (i:Nat),(two f g qs)[2*i]?=qs[i]?.map f
 |[],i=> by simp [two]
 |q::r,0=> rfl
 |q::r,i+1=> by
  have:=ahw f g r i
  show (f q::g q::two f g r)[2*(i+1)]?=_
  rw [show 2*(i+1)=2*i+1+1 by lia,aN,aN,this,aN]
theorem akb(f g:Str×Int -> Str): ∀(qs:List (Str×Int)) (i:Nat),(two f g qs)[2*i+1]?=qs[i]?.map g
 |[],i=> by simp [two]
 |q::r,0=> rfl
 |q::r,i+1=> by
  have:=akb f g r i
  show (f q::g q::two f g r)[2*(i+1)+1]?=_
  rw [show 2*(i+1)+1=2*i+1+1+1 by lia,aN,aN,this,aN]
theorem aci{α β:Type}(f:α -> β): ∀(qs:List α),(aU qs.length).filterMap (fun i=> qs[i]?.map f)=qs.map f
 |[]=> rfl
 |q::r=> by
  rw [aD,List.range_succ_eq_map,bY]
  simp only [List.getElem?_cons_zero,Option.map_some,er,aG]
  congr 1
  have:=aci f r
  rw [←this]
  congr 1
theorem a0a{α:Type}{xs:List α}(h:xs.length=3+2*k):kq xs 3 2=(aU k).filterMap fun i=> xs[3+2*i]?:=by
 unfold kq ci sliceRange
 simp only [h,Option.getD_some]
 rw [show (if (3:Int) < 0 then (3:Int)+((3+2*k:Nat):Int) else 3)=3 from rfl]
 simp only [show (2:Int)> 0 by decide,if_true]
 rw [show max (0:Int) (min 3 ((3+2*k:Nat):Int))=3 by lia]
 have:(if (3:Int) < ((3+2*k:Nat):Int) then (((3+2*k:Nat):Int) - 3+2 - 1)/2 else 0).toNat=k:=by split <;> lia
 rw [this,er]
 congr 1
theorem a1l{α:Type}{xs:List α}(h:xs.length=3+2*k):kq xs 4 2=(aU k).filterMap fun i=> xs[4+2*i]?:=by
 unfold kq ci sliceRange
 simp only [h,Option.getD_some]
 rw [show (if (4:Int) < 0 then (4:Int)+((3+2*k:Nat):Int) else 4)=4 from rfl]
 simp only [show (2:Int)> 0 by decide,if_true]
 cases k with
 |zero=> rfl
 |succ k=>
  rw [show max (0:Int) (min 4 ((3+2*(k+1):Nat):Int))=4 by lia]
  have:(if (4:Int) < ((3+2*(k+1):Nat):Int) then (((3+2*(k+1):Nat):Int) - 4+2 - 1)/2 else 0).toNat=k+1:=by split <;> lia
  rw [this,er]
  congr 1
def kv(p:Sp):List Str:="step"::jm p.1::jm p.2.2::two (fun q=> q.1) (fun q=> jm q.2) p.2.1
theorem xj(p:Sp):(kv p).length=3+2*p.2.1.length:=by
 unfold kv
 rw [aD,aD,aD,aff];lia
theorem axm(p:Sp):kq (kv p) 3 2=p.2.1.map fun q=> q.1:=by
 rw [a0a (xj p),←aci]
 congr 1
 funext i
 rw [←ahw (fun q=> q.1) (fun q=> jm q.2),show 3+2*i=2*i+1+1+1 by lia]
 unfold kv
 rw [aN,aN,aN]
theorem aym(p:Sp):kq (kv p) 4 2=p.2.1.map fun q=> jm q.2:=by
 rw [a1l (xj p),←aci]
 congr 1
 funext i
 rw [←akb (fun q=> q.1) (fun q=> jm q.2),show 4+2*i=2*i+1+1+1+1 by lia]
 unfold kv
 rw [aN,aN,aN]
structure SpK (many:Int) (ss:List Str) (p:Sp):Prop where
 a:0 <=p.1/\p.1 < many
 b:0 <=p.2.2/\p.2.2 < many
 l:p.2.1.length <=6
 m: ∀q∈p.2.1,q.1∈ss/\0 <=q.2/\q.2 < 3
theorem aom{p:Sp}(h:SpK many ss p)(hm:many <=2000):aak [.lst ((kv p).map af)] s=.ok (.da (stp p)) s:=by
 obtain⟨ha,hb,hl,hq⟩:=h
 have wl:=xj p
 rw [aqd];unfold Bstep_by
 walk_at "ev"
 rw [decide_eq_false (show¬(((kv p).map af).length:Int) < 3 by rw [ak];lia)]
 walk_at "ev"
 rw [qv (by decide)]
 walk_at "ev"
 rw [adc,decide_eq_false (show¬(((kv p).map af).length:Int) % 2=0 by rw [ak];lia)]
 walk_at "ev"
 rw [show (0:Int)=((0:Nat):Int) from rfl,ym (p:=.str "step") rfl]
 walk_at "ev"
 rw [adg,decide_eq_true (rfl:(aA "step")=aA "step"),cK]
 walk_at "ev"
 rw [akj (by decide),aym]
 walk_at "ev"
 rw [xk (ρ0:=[none]) (by rw [ak,ak,ak];lia) rfl]
 rw [show ((p.2.1.map fun q=> jm q.2).map af).map D.da=p.2.1.map (fun q=> D.str (jm q.2)) by rw [aL,aL];rfl,xo (fun q:Str×Int=> D.str (jm q.2)) (fun _=> true) (fun q=> bT q.2) p.2.1 (fun q hq'=> ⟨[some (.str (jm q.2))],rfl,rfl,fun _=> by
  obtain⟨_,q0,q3⟩:=hq q hq'
  walk_at "ev"
  exact ac6 q0 (by lia)⟩)]
 (rw [bZ.mpr (fun _ _=> rfl)])
 walk_at "ev"
 rw [show (1:Int)=((1:Nat):Int) from rfl,ym (p:=.str (jm p.1)) rfl]
 walk_at "ev"
 rw [ac6 ha.1 (by lia)]
 walk_at "ev"
 rw [akj (by decide),axm]
 walk_at "ev"
 rw [avo (by rw [ak,ak];lia) (by rw [ak];lia)]
 walk_at "ev"
 rw [show (2:Int)=((2:Nat):Int) from rfl,ym (p:=.str (jm p.2.2)) rfl]
 walk_at "ev"
 rw [ac6 hb.1 (by lia)]
 walk_at "ev"
 have e:(((p.2.1.map fun q=> q.1).map af).zip (p.2.1.map fun q=> bT q.2)).map (fun x=> bV [x.1,x.2])=p.2.1.map pr:=by
  rw [aL,List.zip_map',aL]
  rfl
 rw [e]
 rfl
def qk(many:Int)(ss:List Str):List Str:="table"::jm many::ss
theorem auv(h0:0 <=many)(h1:many <=2000)(hl:ss.length <=6):yt [.lst ((qk many ss).map af)] s=.ok (.da (.tuple [.tuple (ss.map af),.int many,.tuple []])) s:=by
 rw [aix];unfold Btable_begun
 walk_at "ev"
 rw [decide_eq_false (show¬(((qk many ss).map af).length:Int) < 2 by rw [ak];unfold qk;rw [aD,aD];lia)]
 walk_at "ev"
 rw [show (0:Int)=((0:Nat):Int) from rfl,ym (p:=.str "table") rfl]
 walk_at "ev"
 rw [adg,decide_eq_true (rfl:(aA "table")=aA "table"),cK]
 walk_at "ev"
 rw [show (1:Int)=((1:Nat):Int) from rfl,ym (p:=.str (jm many)) rfl]
 walk_at "ev"
 rw [ac6 h0 h1]
 walk_at "ev"
 rw [show (2:Int)=((2:Nat):Int) from rfl,aay]
 rfl
theorem ae3:aA " "=⟨#[32]⟩:=by decide
def kz(p:Sp):Str:=bi " " (kv p)
def vq(many:Int)(ss:List Str):Str:=bi " " (qk many ss)
structure WdK (w:Str):Prop where
 l:w.length <=8
 f:32∉w.cps.toList
 a: ∀c∈w.cps.toList,c < 128
theorem abf(h:jr x=true):WdK x:=by
 unfold jr at h
 simp only [ao,decide_eq_true_eq,aw,abl]at h
 exact⟨h.1.2,fun m=> by have:=(h.2 32 m).1;lia,fun c hc=> by have:=(h.2 c hc).2;lia⟩
theorem zx(h0:0 <=i)(h1:i <=2000):WdK (jm i):=by
 have hd:=al4 h0 h1
 unfold ag4 at hd
 simp only [ao,fL,decide_eq_true_eq,aw]at hd
 exact⟨by lia,fun m=> by have:=(hd.2.1 32 m).1;lia,fun c hc=> by have:=(hd.2.1 c hc).2;lia⟩
theorem axi{qs:List (Str×Int)}(h: ∀q∈qs,WdK q.1/\WdK (jm q.2)): ∀w∈two (fun q=> q.1) (fun q=> jm q.2) qs,WdK w:=by
 intro w hw
 obtain⟨q,hq,hw⟩:=List.mem_flatMap.mp hw
 simp only [aE,bg,or_false]at hw
 rcases hw with rfl|rfl
 ·exact (h q hq).1
 ·exact (h q hq).2
theorem av3:WdK "step":=⟨by decide,by decide,by decide⟩
theorem asm:WdK "table":=⟨by decide,by decide,by decide⟩
theorem y6{p:Sp}(h:SpK many ss p)(hm:many <=2000)(hp: ∀x∈ss,jr x=true): ∀w∈kv p,WdK w:=by
 intro w hw
 unfold kv at hw
 rcases aE.mp hw with rfl|hw
 ·exact av3
 rcases aE.mp hw with rfl|hw
 ·exact zx h.a.1 (by have:=h.a.2;lia)
 rcases aE.mp hw with rfl|hw
 ·exact zx h.b.1 (by have:=h.b.2;lia)
 exact axi (fun q hq=> ⟨abf (hp _ (h.m q hq).1),zx (h.m q hq).2.1 (by have:=(h.m q hq).2.2;lia)⟩) w hw
theorem aa6(h0:0 <=many)(hm:many <=2000)(hp: ∀x∈ss,jr x=true): ∀w∈qk many ss,WdK w:=by
 intro w hw
 unfold qk at hw
 rcases aE.mp hw with rfl|hw
 ·exact asm
 rcases aE.mp hw with rfl|hw
 ·exact zx h0 hm
 exact abf (hp w hw)
theorem axu(h: ∀w∈ws,WdK w):(ws.map (·.length)).sum <=8*ws.length:=by
 induction ws with
 |nil=> simp
 |cons w r ih=>
  have:=ih fun x hx=> h x (ay _ hx)
  have h1:=(h w az).l
  (simp only [aG,List.sum_cons,aD])
  lia
theorem abe(h: ∀w∈ws,WdK w):(bi " " ws).length <=9*ws.length:=by
 have:=StrLaws.join_length_le " " ws
 have s8:=axu h
 rw [show (aA " ").length=1 from rfl]at this
 lia
theorem aj6{w:Str}(h: ∀x∈w::ws,WdK x)(hl:(w::ws).length <=100):yx false (.str (bi " " (w::ws))) [.str " "] s=.ok (.lst ((w::ws).map af)) s:=by
 have e:bX (bi " " (w::ws)) " "=w::ws:=by
  rw [ae3];exact ac5 fun x hx=> (h x hx).f
 have jl:=abe h
 rw [as0 rfl (by rw [jv];lia) (by rw [e,jv];lia),e]
theorem axy{a:Nat}(e:s[a]?=some (.lst (ws.map D.str)))(h: ∀x∈ws,WdK x)(hl:ws.length <=100):zj (.str " ") [.ref a] s=.ok (.str (bi " " ws)) s:=by
 rw [aq1 e (aiz (by decide) (by lia) fun w hw=> by have:=(h w hw).l;lia),ae2]
theorem ayi(h: ∀x∈ws,WdK x)(hl:ws.length <=100):zj (.str " ") [.lst (ws.map af)] s=.ok (.str (bi " " ws)) s:=by
 rw [ahl (aiz (by decide) (by lia) fun w hw=> by have:=(h w hw).l;lia),ae2]
def w0(p:Sp)(qs:List (Str×Int)):List Str:="step"::jm p.1::jm p.2.2::two (fun q=> q.1) (fun q=> jm q.2) qs
structure SlJ (s0:S) (p:Sp) (r:List D) (ρ:En) (s:S):Prop where
 ex: ∃(done left:List (Str×Int)) (u v:Option D),p.2.1=done++left/\r=left.map (fun q=> D.da (pr q))/\ρ=[some (.da (stp p)),some (.int p.1),some (.tup (p.2.1.map pr)),some (.int p.2.2),some (.ref s0.length),u,v]/\s=s0++ [.lst ((w0 p done).map D.str)]
theorem ajt{p:Sp}(h:SpK many ss p)(hm:many <=2000)(hp: ∀x∈ss,jr x=true):(z9 [.da (stp p)] s).W fun d s'=> d=.str (kz p)/\Ext s s':=by
 rw [am0];unfold Bstep_line
 walk_at "go"
 rw [show ae5 (.t3 (.nm 1) (.nm 2) (.nm 3)) [some (.da (stp p)),none,none,none,none,none,none] (.da (stp p)) s=.ok (.nx [some (.da (stp p)),some (.int p.1),some (.tup (p.2.1.map pr)),some (.int p.2.2),none,none,none]) s from rfl]
 walk_at "go"
 rw [str_int (by have:=h.a;lia)]
 walk_at "go"
 rw [str_int (by have:=h.b;lia)]
 walk_at "go"
 refine R.W_mono (qg (Q:=fun fl s'=> ∃ρ,fl=.nx ρ/\SlJ s p [] ρ s') (SlJ s p) ?_ ?_ _ _ _ ⟨[],p.2.1,none,none,rfl,by rw [aL];rfl,rfl,rfl⟩) ?_
 ·rintro _ r ρ s2 ⟨done,left,u,v,e1,e2,rfl,rfl⟩
  cases left with
  |nil=> cases e2
  |cons q left=>
   cases e2
   have hq:=h.m q (by rw [e1];simp)
   have hdl:done.length <=6:=by have:=h.l;rw [e1]at this;simp at this;lia
   refine⟨[some (.da (stp p)),some (.int p.1),some (.tup (p.2.1.map pr)),some (.int p.2.2),some (.ref s.length),some (.str q.1),some (.int q.2)],rfl,?_⟩
   walk_at "go"
   rw [ze ka]
   walk_at "go"
   rw [str_int (by lia)]
   walk_at "go"
   rw [amy ka (by rw [ak];unfold w0;simp only [aD,aff,ej];lia),aa9]
   walk_at "go"
   refine⟨done++ [q],left,_,_,by rw [e1];simp,rfl,rfl,?_⟩
   congr 3
   unfold w0 two
   simp
 ·intro ρ s2 J
  exact⟨ρ,rfl,J⟩
 ·rintro _ s2 ⟨ρ,rfl,done,left,u,v,e1,e2,rfl,rfl⟩
  cases left with
  |cons q left=> cases e2
  |nil=>
   rw [bq]at e1
   walk_at "go"
   rw [axy ka (by rw [←e1];exact y6 h hm hp) (by rw [←e1];have:=xj p;have:=h.l;show (kv p).length <=100;lia)]
   walk_at "go"
   exact⟨by rw [←e1];rfl,Ext.add _ _⟩
def jz(many:Int)(ss:List Str)(ps:List Sp):ae:=.tuple [.tuple (ss.map af),.int many,.tuple (ps.map stp)]
def vz(many:Int)(ss:List Str)(ps:List Sp):List Str:=vq many ss::ps.map kz
structure TaK (many:Int) (ss:List Str) (ps:List Sp):Prop where
 m:1 <=many/\many <=2000
 s:ss.length <=6/\(∀x∈ss,jr x=true)/\ss.Nodup
 l:ps.length <=17
 p: ∀p∈ps,SpK many ss p/\v6 3 ss (.tuple (p.2.1.map pr))=true
 r:ve (ps.map stp)=true
structure TlJ (s0:S) (ps:List Sp) (r acc:List D) (s:S):Prop where
 ex: ∃done left:List Sp,ps=done++left/\r=left.map (fun p=> D.da (stp p))/\acc=done.map (fun p=> D.str (kz p))/\Ext s0 s
theorem ah9{ps:List Sp}(h:TaK many ss ps):(ku [.da (jz many ss ps)] s).W fun d s'=> ∃a,d=.ref a/\s'[a]?=some (.lst ((vz many ss ps).map D.str))/\s.length <=a/\Ext s s':=by
 rw [ajf];unfold Btable_lines
 walk_at "go"
 rw [show ae5 (.t3 (.nm 1) (.nm 2) (.nm 3)) [some (.da (jz many ss ps)),none,none,none] (.da (jz many ss ps)) s=.ok (.nx [some (.da (jz many ss ps)),some (.tup (ss.map af)),some (.int many),some (.tup (ps.map stp))]) s from rfl]
 walk_at "go"
 rw [str_int (by have:=h.m;lia)]
 walk_at "go"
 rw [ain (by rw [ak];have:=h.s.1;simp;lia)]
 walk_at "go"
 rw [show (af "table"::af (jm many)::ss.map af)=(qk many ss).map af from rfl]
 rw [ayi (aa6 (by have:=h.m;lia) h.m.2 h.s.2.1) (by unfold qk;rw [aD,aD];have:=h.s.1;lia)]
 walk_at "go"
 rw [xk (ρ0:=[none]) (by rw [ak,ak];have:=h.l;lia) rfl,R.W_bindk]
 refine R.W_mono (aao (Q:=fun xs s'=> xs=ps.map (fun p=> D.str (kz p))/\Ext (s++ [.lst [.str (vq many ss)]]) s') (TlJ (s++ [.lst [.str (vq many ss)]]) ps) ?_ ?_ _ [] _ ⟨[],ps,rfl,by rw [aL];rfl,rfl,Ext.refl _⟩) ?_
 ·rintro d r acc s' ⟨done,left,e1,hr,rfl,ex⟩
  cases left with
  |nil=> cases hr
  |cons p left=>
   cases hr
   refine⟨[some (.da (stp p))],rfl,?_⟩
   walk_at "go"
   refine R.W_mono (ajt (h.p p (by rw [e1];simp)).1 h.m.2 h.s.2.1) ?_
   rintro _ s1 ⟨rfl,ex1⟩
   exact⟨done++ [p],left,by rw [e1];simp,rfl,by simp,ex.trans ex1⟩
 ·rintro acc s' ⟨done,left,e1,hr,rfl,ex⟩
  cases left with
  |cons p left=> cases hr
  |nil=>
   rw [bq]at e1
   exact⟨by rw [e1],ex⟩
 ·rintro xs s1 ⟨e,ex⟩
  rw [ek]at e
  subst e
  walk_at "go"
  rw [show ps.map (fun p=> D.str (kz p))=((ps.map kz).map af).map D.da by rw [aL,aL];rfl]
  walk_at "go"
  rw [agm (xs:=[.str (vq many ss)]) (ex.get ka) (by rw [ak,ak];have:=h.l;simp;lia)]
  walk_at "go"
  refine⟨_,rfl,?_,by have:=ex.len;simp at this;lia,((Ext.add _ _).trans ex).trans (Ext.add _ _)⟩
  rw [ka]
  congr 2
  show _=(vq many ss::ps.map kz).map D.str
  rw [aG,aG,abd]
end Ln
namespace PF
open PySem L2
mutual
theorem at7: ∀a b:ae,plD a=true -> plD b=true -> ltP b a=some true -> leP a b=some false
 | .int i,b,_,_,h=> by
  cases b with
  |int j=>
   rw [aac]at h
   rw [akv]
   simp at h⊢
   lia
  |_=> simp [ltP]at h
 | .str x,b,_,_,h=> by
  cases b with
  |str y=>
   rw [aa8]at h
   rw [aka]
   simpa using h
  |_=> simp [ltP]at h
 | .tuple xs,b,ha,hb,h=> by
  cases b with
  |tuple ys=>
   rw [vi]at h
   rw [aku]
   rw [kb]at ha hb
   exact ap1 xs ys ha hb h
  |_=> simp [ltP]at h
 |.none,b,_,_,h=> by cases b <;> simp [ltP]at h
 |.bool _,b,_,_,h=> by cases b <;> simp [ltP]at h
 |.list _,b,_,_,h=> by cases b <;> simp [ltP]at h
 |.dict _,b,_,_,h=> by cases b <;> simp [ltP]at h
theorem ap1: ∀xs ys:List ae,kf xs=true -> kf ys=true -> kn ys xs=some true -> yw xs ys=some false
 |[],[],_,_,h=> by rw [qh]at h;cases h
 |[],_::_,_,_,h=> by rw [kd]at h;cases h
 |_::_,[],_,_,_=> acf
 | x::xs,y::ys,ha,hb,h=> by
  rw [j3,ao]at ha hb
  rw [qu]at h
  rw [agd]
  by_cases q:x=y
  ·subst q
   rw [if_pos (aji ha.1)]at h⊢
   exact ap1 xs ys ha.2 hb.2 h
  ·rw [if_neg (fun z=> q ((yz _ _ hb.1 ha.1).mp z).symm)]at h
   rw [if_neg (fun z=> q ((yz _ _ ha.1 hb.1).mp z))]
   exact at7 x y ha.1 hb.1 h
end
theorem au2{b:ae}{r:Bool}(h:leP a b=some r)(h1:okD a=true)(h2:okD b=true):ai1 (.da a) (.da b) s=.ok (.bl r) s:=by
 show (match leP a b with|some r=> if okD a=true/\okD b=true then R.ok (D.bl r) s else .bad|none=>.bad)=_
 rw [h]
 exact if_pos ⟨h1,h2⟩
end PF
namespace Ln
open PySem L2 PF
structure LdK (ld:D) (s:S) (l0:Str) (ls:List Str):Prop where
 tru: ∀s',Ext s s' -> aee ld s'=.ok true s'
 ix: ∀s',Ext s s' -> gIx ld (.int 0) s'=.ok (.str l0) s'
 sl: ∀s',Ext s s' -> gSl false ld (some 1) none s'=.ok (.lst (ls.map af)) s'
theorem az6(s:S)(l0:Str)(ls:List Str):LdK (.lst ((l0::ls).map af)) s l0 ls where
 tru s' _:=by rw [atx];rfl
 ix s' _:=by rw [show (0:Int)=((0:Nat):Int) from rfl];exact ym (p:=.str l0) rfl
 sl s' _:=by
  rw [axz,show (1:Int)=((1:Nat):Int) from rfl,aay];rfl
theorem ayf{a:Nat}{l0:Str}(h:s[a]?=some (.lst ((l0::ls).map D.str))):LdK (.ref a) s l0 ls where
 tru s' ex:=by
  show (match (match s'[a]? with|some (O.lst ds)=> some ds|_=> none) with|some ds=> R.ok (!ds.isEmpty) s'|none=>.bad)=_
  rw [ex.get h];rfl
 ix s' ex:=by rw [show (0:Int)=((0:Nat):Int) from rfl];exact adb (ex.get h) rfl
 sl s' ex:=by
  show (match (match s'[a]? with|some (O.lst ds)=> some ds|_=> none) with|some ds=> kc false (kl ds (some 1) none) s'|none=>.bad)=_
  rw [ex.get h]
  show kc false (kl ((l0::ls).map D.str) (some 1) none) s'=_
  rw [show (1:Int)=((1:Nat):Int) from rfl,aay]
  show (match jj (ls.map D.str) with|some xs=> R.ok (D.lst xs) s'|none=>.bad)=_
  rw [vt]
theorem akm(h:jr x=true):Lf 0 (.str x):=by
 unfold jr at h
 simp only [ao,decide_eq_true_eq,aw,abl]at h
 refine .str ?_ (by lia)
 unfold asc
 rw [aw]
 intro c hc
 have:=h.2 c hc
 (simp only [ao,decide_eq_true_eq])
 lia
theorem arv(h: ∀x∈ss,jr x=true)(hl:ss.length <=6):Lf 0 (.tuple (ss.map af)):=.tup (by rw [ak];lia) fun d hd=> by
 obtain⟨x,hx,rfl⟩:=bv.mp hd
 exact akm (h x hx)
theorem ao5{p:Sp}(h:SpK many ss p)(hm:many <=2000)(hp: ∀x∈ss,jr x=true):Lf 0 (stp p):=by
 refine .tup (by simp) fun d hd=> ?_
 simp only [aE,bg,or_false]at hd
 rcases hd with rfl|rfl|rfl
 ·exact .int (by have:=h.a;lia)
 ·refine .tup (by rw [ak];have:=h.l;lia) fun d hd=> ?_
  (obtain⟨q,hq,rfl⟩:=bv.mp hd)
  refine .tup (by simp) fun e he=> ?_
  simp only [aE,bg,or_false]at he
  rcases he with rfl|rfl
  ·exact akm (hp _ (h.m q hq).1)
  ·exact .int (by have:=(h.m q hq).2;lia)
 ·exact .int (by have:=h.b;lia)
theorem aoj{ps:List Sp}(h:TaK many ss ps):Lf 0 (jz many ss ps):=by
 refine .tup (by simp) fun d hd=> ?_
 simp only [aE,bg,or_false]at hd
 rcases hd with rfl|rfl|rfl
 ·exact arv h.s.2.1 h.s.1
 ·exact .int (by have:=h.m;lia)
 ·refine .tup (by rw [ak];have:=h.l;lia) fun d hd=> ?_
  obtain⟨p,hp,rfl⟩:=bv.mp hd
  exact ao5 (h.p p hp).1 h.m.2 h.s.2.1
theorem aw4(hl:ss.length <=6)(hp: ∀x∈ss,jr x=true)(nd:ss.Nodup):aa1 (.tuple (ss.map af))=true:=by
 show (((ss.map af).all v9&&ab5 (ss.map af))&&decide ((ss.map af).length <=6))=true
 rw [decide_eq_true (by rw [ak];exact hl),Bool.and_true,ao]
 refine⟨?_,?_⟩
 ·rw [cF,aw];exact fun x hx=> hp x hx
 ·unfold ab5
  rw [aaz,ak]
  exact decide_eq_true (by rw [ama nd])
theorem anh{p:Sp}(h:SpK many ss p)(mo:v6 3 ss (.tuple (p.2.1.map pr))=true):xy many ss (stp p)=true:=by
 show ((decide (0 <=p.1)&&decide (p.1 < many))&&((decide (0 <=p.2.2)&&decide (p.2.2 < many))&&v6 3 ss (.tuple (p.2.1.map pr))))=true
 rw [mo,decide_eq_true h.a.1,decide_eq_true h.a.2,decide_eq_true h.b.1,decide_eq_true h.b.2];rfl
theorem aok{ps:List Sp}(h:TaK many ss ps):ac2 (jz many ss ps)=true:=by
 show (aa1 (.tuple (ss.map af))&&(decide (1 <=many)&&decide (many <=2000))&&(ps.map stp).all (xy many (abt (ss.map af)))&&ve (ps.map stp))=true
 rw [aw4 h.s.1 h.s.2.1 h.s.2.2,decide_eq_true h.m.1,decide_eq_true h.m.2,h.r,aaz]
 simp only [jA,Bool.and_true]
 rw [cF,aw]
 exact fun p hp=> anh (h.p p hp).1 (h.p p hp).2
theorem abz{a:Nat}{xs:List D}{x:D}(h:s[a]?=some (.lst (xs++ [x]))):gIx (.ref a) (.int (-1)) s=.ok x s:=by
 show (match (match s[a]? with|some (O.lst ds)=> some ds|_=> none) with|some ds=> (match atI ds (-1) with|some d=> R.ok d s|none=>.bad)|none=>.bad)=_
 rw [h]
 show (match atI (xs++ [x]) (-1) with|some d=> R.ok d s|none=>.bad)=_
 have:atI (xs++ [x]) (-1)=some x:=by
  unfold atI ixN
  rw [if_neg (by decide),if_pos (by simp;lia)]
  rw [show ((-1:Int)+((xs++ [x]).length:Int)).toNat=xs.length by simp;lia]
  simp
 rw [this]
theorem ava{a:Nat}{ds:List D}(h:s[a]?=some (.lst ds)):aee (.ref a) s=.ok (!ds.isEmpty) s:=by
 show (match (match s[a]? with|some (O.lst ds)=> some ds|_=> none) with|some ds=> R.ok (!ds.isEmpty) s|none=>.bad)=_
 rw [h]
theorem afq: ∀(xs:List ae) {x y:ae} {r:List ae},ve (xs++x::y::r)=true -> ltb x y=true
 |[],x,y,r,h=> by
  have h':(ltb x y&&ve (y::r))=true:=h
  rw [ao]at h';exact h'.1
 |[z],x,y,r,h=> by
  have h':(ltb z x&&ve (x::y::r))=true:=h
  rw [ao]at h';exact afq [] h'.2
 |z::u::xs,x,y,r,h=> by
  have h':(ltb z u&&ve ((u::xs)++x::y::r))=true:=h
  rw [ao]at h';exact afq (u::xs) h'.2
theorem acv{p:Sp}(h:SpK many ss p):StK many ss (stp p):=⟨p.1,p.2.1,p.2.2,rfl,h.a,h.b,h.m⟩
def rdB:FS:=(jd (jp 7 (je 1 aak (ja (fMs (yx false) (jb 6) (ja (fC (.da (.str " "))) jc)) jc)))
  (jd (j4 (qo (ki (qw (je 3 kt (ja (jb 2) (ja (jb 3) (ja (jb 7) jc)))))) (adk (qw (jb 4)) (ji (fOp ai1 (jb 7) (fOp gIx (jb 4) (ab1 (fC (.da (.int 1))))))))) acu jt)
  (ql (fMt ky (jb 4) (ja (jb 7) jc)))))
structure RdJ (s0:S) (ld:D) (t:D) (many:Int) (ss:List Str) (ps:List Sp) (r:List D) (ρ:En) (s:S):Prop where
 ex: ∃(done left:List Sp) (k:Int) (u v w:Option D),ps=done++left/\r=enD k (left.map fun p=>.str (kz p))/\ρ=[some ld,some t,some (.tup (ss.map af)),some (.int many),some (.ref s0.length),u,v,w]/\s=s0++ [.lst ((done.map stp).map D.da)]
theorem avy{s0:S}{ld t:D}{ps:List Sp}{d:D}{r:List D}(h:TaK many ss ps)(J:RdJ s0 ld t many ss ps (d::r) ρ s):
  ∃ρ1,km (.t2 (.nm 5) (.nm 6)) d ρ=some ρ1/\(rdB ρ1 s).W fun fl s'=> ∃ρ2,fl=.nx ρ2/\RdJ s0 ld t many ss ps r ρ2 s':=by
 obtain⟨done,left,k,u,v,w,e1,e2,rfl,rfl⟩:=J.ex
 cases left with
 |nil=> cases e2
 | cons p left=>
  cases e2
  have hp:=h.p p (by rw [e1];simp)
  have hl:done.length <=17:=by have:=h.l;rw [e1]at this;simp at this;lia
  refine⟨[some ld,some t,some (.tup (ss.map af)),some (.int many),some (.ref s0.length),some (.int k),some (.str (kz p)),w],rfl,?_⟩
  unfold rdB
  walk_at "go"
  rw [show yx false (.str (kz p)) [.da (.str " ")] (s0++ [.lst ((done.map stp).map D.da)])=.ok (.lst ((kv p).map af)) (s0++ [.lst ((done.map stp).map D.da)]) from aj6 (y6 hp.1 h.m.2 h.s.2.1) (by have:=xj p;have:=hp.1.l;show (kv p).length <=100;lia)]
  walk_at "go"
  rw [aom hp.1 h.m.2]
  walk_at "go"
  refine R.W_mono (anq (n:=0) (by decide) h.s.2.1 (ao5 hp.1 h.m.2 h.s.2.1)) ?_
  rintro _ s1 ⟨rfl,rfl⟩
  rw [anh hp.1 hp.2]
  walk_at "go"
  rw [ava ka]
  rcases List.eq_nil_or_concat done with rfl|⟨d0,q,rfl⟩
  ·rw [show (!(([]:List Sp).map stp|>.map D.da).isEmpty)=false from rfl]
   walk_at "go"
   rw [ze ka]
   walk_at "go"
   rw [xg ka (by simp),aa9]
   walk_at "go"
   exact⟨_,rfl,[p],left,k+1,_,_,_,by rw [e1];simp,rfl,rfl,by simp⟩
  ·rw [List.concat_eq_append]at e1 hl⊢
   rw [show (((d0++ [q]).map stp).map D.da)=(d0.map stp).map D.da++ [D.da (stp q)] by simp]
   rw [show (!((d0.map stp).map D.da++ [D.da (stp q)]).isEmpty)=true by simp]
   walk_at "go"
   rw [abz ka]
   walk_at "go"
   have hq:=h.p q (by rw [e1];simp)
   have lt:ltb (stp q) (stp p)=true:=by
    have hr:=h.r
    rw [e1]at hr
    refine afq (d0.map stp) (r:=left.map stp) ?_
    simpa using hr
   have le:leP (stp p) (stp q)=some false:=at7 _ _ (acv hp.1).pl (acv hq.1).pl ((xm).mp lt)
   rw [au2 le ((acv hp.1).okD h.s.2.1 (by have:=h.m;lia)) ((acv hq.1).okD h.s.2.1 (by have:=h.m;lia))]
   walk_at "go"
   rw [ze ka]
   walk_at "go"
   rw [xg ka (by simp at hl⊢;lia),aa9]
   walk_at "go"
   exact⟨_,rfl,d0++ [q]++ [p],left,k+1,_,_,_,by rw [e1];simp,rfl,rfl,by simp⟩
theorem axh{ps:List Sp}{ld:D}(h:TaK many ss ps)(hd:LdK ld s (vq many ss) (ps.map kz)):(qb [ld] s).W fun d s'=> d=.da (jz many ss ps)/\Ext s s':=by
 rw [ajx];unfold Bread_table
 walk_at "go"
 rw [hd.tru s (Ext.refl _)]
 walk_at "go"
 rw [hd.ix s (Ext.refl _)]
 walk_at "go"
 rw [show yx false (.str (vq many ss)) [.da (.str " ")] s=.ok (.lst ((qk many ss).map af)) s from aj6 (aa6 (by have:=h.m;lia) h.m.2 h.s.2.1) (by show (qk many ss).length <=100;unfold qk;rw [aD,aD];have:=h.s.1;lia)]
 walk_at "go"
 rw [auv (by have:=h.m;lia) h.m.2 h.s.1]
 walk_at "go"
 have h0:TaK many ss []:=⟨h.m,h.s,by simp,(fun _ h=> by cases h),rfl⟩
 rw [show (bV [.tuple (ss.map af),.int many,.tuple []])=jz many ss [] from rfl]
 rw [alk (n:=0) (by decide) (aoj h0),aok h0]
 walk_at "go"
 rw [show gSl false (.da (jz many ss [])) none (some 2) s=.ok (.da (.tuple [.tuple (ss.map af),.int many])) s from rfl]
 walk_at "go"
 rw [show ae5 (.t2 (.nm 2) (.nm 3)) [some ld,some (.da (jz many ss [])),none,none,none,none,none,none] (.da (.tuple [.tuple (ss.map af),.int many])) s=.ok (.nx [some ld,some (.da (jz many ss [])),some (.tup (ss.map af)),some (.int many),none,none,none,none]) s from rfl]
 walk_at "go"
 rw [hd.sl _ (Ext.add _ _)]
 walk_at "go"
 refine R.W_mono (qg (Q:=fun fl s'=> ∃ρ,fl=.nx ρ/\RdJ s ld (.da (jz many ss [])) many ss ps [] ρ s') (RdJ s ld (.da (jz many ss [])) many ss ps) ?_ ?_ _ _ _ ⟨[],ps,1,none,none,none,rfl,by rw [aL];rfl,rfl,rfl⟩) ?_
 ·intro d r ρ s' J
  obtain⟨ρ1,e,w⟩:=avy h J
  refine⟨ρ1,e,R.W_mono w ?_⟩
  rintro _ s4 ⟨ρ2,rfl,J2⟩
  exact J2
 ·intro ρ s' J
  exact⟨ρ,rfl,J⟩
 ·rintro _ s4 ⟨ρ,rfl,done,left,k,u,v,w,e1,e2,rfl,rfl⟩
  cases left with
  |cons p left=> cases e2
  |nil=>
   rw [bq]at e1
   subst e1
   walk_at "go"
   rw [aoh ka]
   walk_at "go"
   exact⟨rfl,Ext.add _ _⟩
theorem aah(w:Str)(ws:List Str):(bi " " (w::ws)).cps.toList=w.cps.toList++jl 32 ws:=by rw [ae3];exact afk 32 w ws
theorem axk(c:Nat)(a b:List Str):jl c (a++b)=jl c a++jl c b:=by unfold jl;rw [List.flatMap_append]
theorem apn: ∀ws:List Str,(bi "" ws).cps.toList=ws.flatMap fun x=> x.cps.toList
 |[]=> rfl
 |[w]=> by simp [bi]
 |w::v::r=> by
  have ih:=apn (v::r)
  show (w++""++bi "" (v::r)).cps.toList=_
  simp only [eJ,dg,ih]
  rw [show (aA "").cps.toList=[] from rfl]
  simp
theorem aq7(many:Int)(ss:List Str):aA "table "++jm many++bi "" (ss.map fun x=> aA " "++x)=vq many ss:=by
 apply str_of_list
 unfold vq qk
 rw [aah]
 simp only [eJ,dg,apn,List.flatMap_map]
 rw [show (aA "table ").cps.toList=(aA "table").cps.toList++ [32] by decide,show (aA " ").cps.toList=[32] from rfl]
 unfold jl
 simp
theorem aru(i j:Int):aA "step "++jm i++aA " "++jm j=bi " " ["step",jm i,jm j]:=by
 apply str_of_list
 rw [aah]
 (simp only [eJ,dg])
 rw [show (aA "step ").cps.toList=(aA "step").cps.toList++ [32] by decide,show (aA " ").cps.toList=[32] from rfl]
 unfold jl
 simp
theorem aq3(p:Sp)(done:List (Str×Int))(q:Str×Int):bi " " (w0 p done)++aA " "++q.1++aA " "++jm q.2=bi " " (w0 p (done++ [q])):=by
 apply str_of_list
 have e:w0 p (done++ [q])=aA "step"::((jm p.1::jm p.2.2::two (fun q=> q.1) (fun q=> jm q.2) done)++ [q.1,jm q.2]):=by
  unfold w0 two
  simp
 have e0:w0 p done=aA "step"::(jm p.1::jm p.2.2::two (fun q=> q.1) (fun q=> jm q.2) done):=rfl
 rw [e,e0,aah]
 (simp only [eJ,dg])
 rw [aah,axk,show (aA " ").cps.toList=[32] from rfl]
 simp [jl]
theorem ane{a:Nat}{xs:List D}{x v:D}(h:s[a]?=some (.lst (xs++ [x]))):zy (.ref a) (.int (-1)) v s=.ok .non (s.set a (.lst (xs++ [v]))):=by
 show (match s[a]? with|some (O.lst ds)=> (match ixN ds.length (-1) with|some j=> R.ok D.non (s.set a (.lst (ds.set j v)))|none=>.bad)|_=>.bad)=_
 rw [h]
 show (match ixN (xs++ [x]).length (-1) with|some j=> R.ok D.non (s.set a (.lst ((xs++ [x]).set j v)))|none=>.bad)=_
 have:ixN (xs++ [x]).length (-1)=some xs.length:=by
  unfold ixN
  rw [if_neg (by decide),if_pos (by simp;lia)]
  rw [show ((-1:Int)+((xs++ [x]).length:Int)).toNat=xs.length by simp;lia]
 rw [this]
 show R.ok D.non (s.set a (.lst ((xs++ [x]).set xs.length v)))=_
 rw [iL _ _ (aq _),Nat.sub_self]
 rfl
theorem vg(x y:Str):(x++y).length=x.length+y.length:=Str.length_append x y
theorem a0d{p:Sp}{done left:List (Str×Int)}(h:SpK many ss p)(hm:many <=2000)(hp: ∀x∈ss,jr x=true)(e:p.2.1=done++left):(∀w∈w0 p done,WdK w)/\(w0 p done).length <=15:=by
 have hk:SpK many ss (p.1,done,p.2.2):=⟨h.a,h.b,by have:=h.l;rw [e]at this;simp at this⊢;lia,fun q hq=> h.m q (by rw [e];exact fF _ hq)⟩
 have:=xj (p.1,done,p.2.2)
 have l:=hk.l
 refine⟨y6 hk hm hp,?_⟩
 show (kv (p.1,done,p.2.2)).length <=15
 simp only at this l
 lia
structure LnI (s0:S) (p:Sp) (pre:List Str) (A a3:D) (u2 u4:Option D) (r:List D) (ρ:En) (s:S):Prop where
 ex: ∃(done left:List (Str×Int)) (u v:Option D),p.2.1=done++left/\r=left.map (fun q=> D.da (pr q))/\ρ=[some A,some (.ref s0.length),u2,some a3,u4,u,v]/\s=s0++ [.lst (pre.map D.str++ [.str (bi " " (w0 p done))])]
structure LnJ (s0:S) (many:Int) (ss:List Str) (ps:List Sp) (r:List D) (ρ:En) (s:S):Prop where
 ex: ∃(done left:List Sp) (u2 u3 u4 u5 u6:Option D),ps=done++left/\r=left.map (fun p=> D.da (stp p))/\ρ=[some (.da (jz many ss ps)),some (.ref s0.length),u2,u3,u4,u5,u6]/\s=s0++ [.lst ((vq many ss::done.map kz).map D.str)]
theorem aut{ps:List Sp}(h:TaK many ss ps):(qz [.da (jz many ss ps)] s).W fun d s'=> d=.lst ((vz many ss ps).map af)/\Ext s s':=by
 have hn:=zx (by have:=h.m;lia) h.m.2
 rw [ak1];unfold B_law_lines
 walk_at "go"
 rw [show gIx (.da (jz many ss ps)) (.da (.int 1)) s=.ok (.int many) s from rfl]
 walk_at "go"
 rw [str_int (by have:=h.m;lia)]
 walk_at "go"
 rw [vb (by rw [show (aA "table ").length=6 from rfl];have:=hn.l;lia)]
 walk_at "go"
 rw [show gIx (.da (jz many ss ps)) (.da (.int 0)) s=.ok (.tup (ss.map af)) s from rfl]
 walk_at "go"
 rw [xk (ρ0:=[none]) (by rw [ak,ak];have:=h.s.1;lia) rfl]
 rw [abd,xo (fun x:Str=> D.str x) (fun _=> true) (fun x=> af (aA " "++x)) ss (fun x hx=> ⟨[some (.str x)],rfl,rfl,fun _=> by
  walk_at "ev"
  rw [vb (by rw [show (aA " ").length=1 from rfl];have:=(abf (h.s.2.1 x hx)).l;lia)]⟩),bZ.mpr (fun _ _=> rfl)]
 walk_at "go"
 rw [show ss.map (fun x=> af (aA " "++x))=(ss.map fun x=> aA " "++x).map af by rw [aL];rfl]
 have jo:fP "" (ss.map fun x=> aA " "++x)=true:=aiz (by decide) (by rw [ak];have:=h.s.1;lia) fun w hw=> by
  obtain⟨x,hx,rfl⟩:=bv.mp hw
  rw [vg,show (aA " ").length=1 from rfl]
  have:=(abf (h.s.2.1 x hx)).l
  lia
 rw [show zj (.str "") [.lst ((ss.map fun x=> aA " "++x).map af)] s=.ok (.str (bi "" (ss.map fun x=> aA " "++x))) s by rw [ahl jo,ae2]]
 walk_at "go"
 have hl:(vq many ss).length <=100:=by
  have:=abe (aa6 (by have:=h.m;lia) h.m.2 h.s.2.1)
  have l:=h.s.1
  unfold qk at this
  (simp only [aD]at this)
  show (bi " " (qk many ss)).length <=100
  unfold qk
  lia
 have hc:=aq7 many ss
 have hlc:=congrArg Str.length hc
 rw [vg]at hlc
 rw [vb (by lia),hc]
 walk_at "go"
 rw [show∀s:S,gIx (.da (jz many ss ps)) (.da (.int 2)) s=.ok (.tup (ps.map stp)) s from fun s=> rfl]
 walk_at "go"
 refine R.W_mono (qg (Q:=fun fl s'=> ∃ρ,fl=.nx ρ/\LnJ s many ss ps [] ρ s') (LnJ s many ss ps) ?_ ?_ _ _ _ ⟨[],ps,none,none,none,none,none,rfl,by rw [aL];rfl,rfl,rfl⟩) ?_
 ·rintro _ r ρ s2 ⟨done,left,u2,u3,u4,u5,u6,e1,e2,rfl,rfl⟩
  cases left with
  |nil=> cases e2
  | cons p left=>
   cases e2
   have hp:=(h.p p (by rw [e1];simp)).1
   have hdl:done.length <=17:=by have:=h.l;rw [e1]at this;simp at this;lia
   refine⟨[some (.da (jz many ss ps)),some (.ref s.length),some (.int p.1),some (.tup (p.2.1.map pr)),some (.int p.2.2),u5,u6],rfl,?_⟩
   have n1:=zx hp.a.1 (by have:=hp.a.2;have:=h.m;lia)
   have n2:=zx hp.b.1 (by have:=hp.b.2;have:=h.m;lia)
   walk_at "go"
   rw [ze ka]
   walk_at "go"
   rw [str_int (by have:=hp.a;have:=h.m;lia)]
   walk_at "go"
   rw [vb (by rw [show (aA "step ").length=5 from rfl];have:=n1.l;lia)]
   walk_at "go"
   rw [vb (by rw [vg,show (aA "step ").length=5 from rfl,show (aA " ").length=1 from rfl];have:=n1.l;lia)]
   walk_at "go"
   rw [str_int (by have:=hp.b;have:=h.m;lia)]
   walk_at "go"
   rw [vb (by rw [vg,vg,show (aA "step ").length=5 from rfl,show (aA " ").length=1 from rfl];have:=n1.l;have:=n2.l;lia)]
   walk_at "go"
   rw [aru,xg ka (by rw [ak,aD,ak];lia),aa9]
   walk_at "go"
   refine R.W_mono (qg (Q:=fun fl s'=> ∃ρ,fl=.nx ρ/\LnI s p (vq many ss::done.map kz) (.da (jz many ss ps)) (.tup (p.2.1.map pr)) (some (.int p.1)) (some (.int p.2.2)) [] ρ s') (LnI s p (vq many ss::done.map kz) (.da (jz many ss ps)) (.tup (p.2.1.map pr)) (some (.int p.1)) (some (.int p.2.2))) ?_ ?_ _ _ _ ⟨[],p.2.1,u5,u6,rfl,by rw [aL];rfl,rfl,rfl⟩) ?_
   ·rintro _ r ρ s2 ⟨d2,l2,u,v,e3,e4,rfl,rfl⟩
    cases l2 with
    |nil=> cases e4
    |cons q l2=>
     cases e4
     have hq:=hp.m q (by rw [e3];simp)
     obtain⟨ww,wl⟩:=a0d hp h.m.2 h.s.2.1 e3
     have jl0:=abe ww
     have q1:=(abf (h.s.2.1 _ hq.1)).l
     have q2:=(zx hq.2.1 (by lia)).l
     refine⟨[some (.da (jz many ss ps)),some (.ref s.length),some (.int p.1),some (.tup (p.2.1.map pr)),some (.int p.2.2),some (.str q.1),some (.int q.2)],rfl,?_⟩
     walk_at "go"
     rw [abz ka]
     walk_at "go"
     rw [vb (by rw [show (aA " ").length=1 from rfl];lia)]
     walk_at "go"
     rw [vb (by rw [vg,show (aA " ").length=1 from rfl];lia)]
     walk_at "go"
     rw [vb (by rw [vg,vg,show (aA " ").length=1 from rfl];lia)]
     walk_at "go"
     rw [str_int (by lia)]
     walk_at "go"
     rw [vb (by rw [vg,vg,vg,show (aA " ").length=1 from rfl];lia),aq3]
     walk_at "go"
     rw [ane ka,aa9]
     walk_at "go"
     exact⟨d2++ [q],l2,_,_,by rw [e3];simp,rfl,rfl,rfl⟩
   ·intro ρ s2 J
    exact⟨ρ,rfl,J⟩
   ·rintro _ s2 ⟨ρ,rfl,d2,l2,u,v,e3,e4,rfl,rfl⟩
    cases l2 with
    |cons q l2=> cases e4
    |nil=>
     rw [bq]at e3
     refine⟨done++ [p],left,_,_,_,_,_,by rw [e1];simp,rfl,rfl,?_⟩
     rw [←e3]
     simp
     rfl
 ·intro ρ s2 J
  exact⟨ρ,rfl,J⟩
 ·rintro _ s2 ⟨ρ,rfl,done,left,u2,u3,u4,u5,u6,e1,e2,rfl,rfl⟩
  cases left with
  |cons p left=> cases e2
  |nil=>
   rw [bq]at e1
   subst e1
   walk_at "go"
   rw [aui ka (vt _),aa9]
   walk_at "go"
   exact⟨rfl,Ext.add _ _⟩
theorem atm{many:Int}{ss:List Str}: ∀{sts:List ae},(∀x∈sts,DsK many ss x) -> ∃ps:List Sp,sts=ps.map stp/\ ∀p∈ps,SpK many ss p/\v6 3 ss (.tuple (p.2.1.map pr))=true
 |[],_=> ⟨[],rfl,fun _ h=> by cases h⟩
 |d::r,h=> by
  obtain⟨ps,rfl,hs⟩:=atm fun x hx=> h x (ay _ hx)
  obtain⟨i,qs,j,rfl,hi,hj,hl,hq,mo⟩:=(h _ az).ex
  refine⟨(i,qs,j)::ps,rfl,fun p hp=> ?_⟩
  rcases aE.mp hp with rfl|z
  ·exact⟨⟨hi,hj,hl,hq⟩,mo⟩
  ·exact hs p z
theorem atj{p:Sp}(h:SpK many ss p)(mo:v6 3 ss (.tuple (p.2.1.map pr))=true):DsK many ss (stp p):=⟨p.1,p.2.1,p.2.2,rfl,h.a,h.b,h.l,h.m,mo⟩
theorem aos: ∀{a b:List (Str×Int)},a.map pr=b.map pr -> a=b
 |[],[],_=> rfl
 |[],_::_,h=> by cases h
 |_::_,[],h=> by cases h
 |(x,i)::r,(y,j)::r',h=> by
  rw [aG,aG]at h
  injection h with h1 h2
  have h1':bV [.str x,.int i]=.tuple [.str y,.int j]:=h1
  injection h1' with h1'
  injection h1' with e1 e2
  injection e2 with e2 _
  injection e1 with e1
  injection e2 with e2
  rw [e1,e2,aos h2]
theorem al1{p q:Sp}(h:stp p=stp q):p=q:=by
 obtain⟨a,b,c⟩:=p
 obtain⟨a',b',c'⟩:=q
 have h':bV [.int a,.tuple (b.map pr),.int c]=.tuple [.int a',.tuple (b'.map pr),.int c']:=h
 injection h' with h'
 injection h' with e1 h'
 injection h' with e2 h'
 injection h' with e3 _
 injection e1 with e1
 injection e2 with e2
 injection e3 with e3
 rw [e1,e3,aos e2]
structure NmK (ns:List Int) (B:Int):Prop where
 pw:ns.Pairwise (· < ·)
 b: ∀x∈ns,0 <=x/\x <=B
theorem NmK.snoc{x y B B':Int}(h:NmK (ns++ [x]) B)(hy:x < y)(hb:y <=B')(hB:B <=B'):NmK (ns++ [x]++ [y]) B':=by
 refine⟨?_,fun z hz=> ?_⟩
 ·rw [iW]
  refine⟨h.pw,dj _ _,fun a ha b hb=> ?_⟩
  rw [bm.mp hb]
  rcases bH.mp ha with z|z
  ·have:=(iW.mp h.pw).2.2 a z x (by simp)
   lia
  ·rw [bm.mp z];exact hy
 ·rcases bH.mp hz with z'|z'
  ·have:=h.b z z';lia
  ·rw [bm.mp z']
   have:=h.b x (by simp)
   lia
theorem NmK.lt{B:Int}(h:NmK ns B){i j:Nat}{x y:Int}(hx:ns[i]?=some x)(hy:ns[j]?=some y)(hij:i < j):x < y:=by
 obtain⟨hi,rfl⟩:=aF.mp hx
 obtain⟨hj,rfl⟩:=aF.mp hy
 exact gM.mp h.pw i j hi hj hij
structure GrJ (s0:S) (n a c:Nat) (A1 A2 A3 A4:D) (tot:Nat) (r:List D) (ρ:En) (s:S):Prop where
 ex: ∃(ns:List Int) (x:Int) (c':Nat) (u6 u7:Option D),ρ=[some (.ref n),some A1,some A2,some A3,some A4,some (.ref a),u6,u7]/\s[a]?=some (.lst ((ns++ [x]).map D.int))/\ns.length+r.length=tot/\NmK (ns++ [x]) (120*(ns.length:Int))/\Fd s n c'/\c'+2*r.length <=c+2*tot/\ke n s0 s/\s0.length <=a
def grL:FS:=(ql (fMt ky (jb 5) (ja (fOp (j7 false) (fOp (j7 false) (fOp gIx (jb 5) (ab1 (fC (.da (.int 1))))) (fC (.da (.int 1)))) (je 2 jh (ja (jb 0) (ja (fOp gIx (vx false (fVs (dX D.da [.int 2,.int 12,.int 120]))) (je 2 jh (ja (jb 0) (ja (fC (.da (.int 3))) jc)))) jc)))) jc)))
theorem aup{s0:S}{a tot:Nat}{A1 A2 A3 A4 d:D}{r:List D}(hn:n < s0.length)(ht:tot <=5)(hc:c+100 < 2^40)(J:GrJ s0 n a c A1 A2 A3 A4 tot (d::r) ρ s):
  ∃ρ1,km (.nm 6) d ρ=some ρ1/\(grL ρ1 s).W fun fl s'=> ∃ρ2,fl=.nx ρ2/\GrJ s0 n a c A1 A2 A3 A4 tot r ρ2 s':=by
 obtain⟨ns,x,c',u6,u7,rfl,ha,hl,hk,fd,hcc,sm,hs0⟩:=J.ex
 simp only [aD]at hl hcc
 refine⟨_,atr,?_⟩
 unfold grL
 walk_at "go"
 rw [ze ha]
 walk_at "go"
 rw [abz (xs:=ns.map D.int) (x:=.int x) (by rw [ha];simp)]
 walk_at "go"
 refine R.W_mono (kj fd (by decide) (by decide) (by lia)) ?_
 rintro _ s1 ⟨i,rfl,i0,i1,fd1,sm1⟩
 walk_at "go"
 obtain⟨m,hm,hm1,hm2⟩: ∃m:Int,(∀s:S,gIx (.lst [.int 2,.int 12,.int 120]) (.int i) s=.ok (.int m) s)/\0 < m/\m <=120:=by
  have:i=0\/i=1\/i=2:=by lia
  rcases this with rfl|rfl|rfl
  ·exact⟨2,fun s=> rfl,by decide,by decide⟩
  ·exact⟨12,fun s=> rfl,by decide,by decide⟩
  ·exact⟨120,fun s=> rfl,by decide,by decide⟩
 rw [hm]
 walk_at "go"
 refine R.W_mono (kj fd1 hm1 (by lia) (by lia)) ?_
 rintro _ s2 ⟨j,rfl,j0,j1,fd2,sm2⟩
 walk_at "go"
 have sm':=sm1.trans sm2
 have la:a < s.length:=(aF.mp ha).1
 have ha2:s2[a]?=some (.lst ((ns++ [x]).map D.int)):=by rw [sm'.get _ (by lia) la];exact ha
 rw [xg ha2 (by rw [ak,aH];simp;lia)]
 walk_at "go"
 refine⟨_,rfl,ns++ [x],x+1+j,c'+2,_,_,rfl,?_,by simp;lia,?_,(fd2.set (by lia)).le (aq _),by lia,(sm.trans sm').own (by lia),hs0⟩
 ·rw [bj (aJ la sm'.len)];simp
 ·have hx:=hk.b x (by simp)
  refine hk.snoc (by lia) ?_ ?_
  ·rw [aH];simp;lia
  ·rw [aH];simp;lia
def grC:FS:=(jp 7 (fLc false [5] 3 (fIt (jb 4)) (.t3 (.nm 0) (.nm 1) (.nm 2)) yg (qf (ja (fOp gIx (jb 3) (jb 0)) (ja (jb 1) (ja (fOp gIx (jb 3) (jb 2)) jc))))))
def grZ:FS:=(jk (qf (ja (jb 2) (ja (fOp gIx (vx false (ja (fOp gIx (jb 5) (ab1 (fC (.da (.int 1))))) (ja (fC (.da (.int 2000))) jc))) (je 2 jh (ja (jb 0) (ja (fC (.da (.int 2))) jc)))) (ja (fCB vf (ja (fCB (xn false) (ja (jb 7) jc)) jc)) jc)))))
noncomputable def mv(ns:List Int)(p:Sp):Sp:=(ns.getD p.1.toNat 0,p.2.1,ns.getD p.2.2.toNat 0)
theorem au6{a:Nat}{ps:List Sp}{A1 A2 A3:D}{u6 u7:Option D}(ha:s[a]?=some (.lst (ns.map D.int)))(hl:(ns.length:Int)=many+1)(hp: ∀p∈ps,SpK many ss p)(hps:ps.length <=17):
  grC [some (.ref n),some A1,some A2,some A3,some (.tup (ps.map stp)),some (.ref a),u6,u7] s=.ok (.nx [some (.ref n),some A1,some A2,some A3,some (.tup (ps.map stp)),some (.ref a),u6,some (.lst ((ps.map (mv ns)).map stp))]) s:=by
 unfold grC
 walk_at "ev"
 rw [xk (ρ0:=[none,none,none,some (.ref a)]) (by rw [ak,ak];lia) rfl]
 rw [show (ps.map stp).map D.da=ps.map (fun p=> D.da (stp p)) by rw [aL];rfl]
 rw [xo (fun p:Sp=> D.da (stp p)) (fun _=> true) (fun p=> stp (mv ns p)) ps (fun p hp'=> ⟨[some (.int p.1),some (.tup (p.2.1.map pr)),some (.int p.2.2),some (.ref a)],rfl,rfl,fun _=> by
  have hk:=hp p hp'
  obtain⟨i,hi⟩: ∃i:Nat,p.1=(i:Int):=⟨p.1.toNat,by have:=hk.a;lia⟩
  obtain⟨j,hj⟩: ∃j:Nat,p.2.2=(j:Int):=⟨p.2.2.toNat,by have:=hk.b;lia⟩
  have li:i < ns.length:=by have:=hk.a;lia
  have lj:j < ns.length:=by have:=hk.b;lia
  walk_at "ev"
  rw [hi,hj,adb (d:=.int (ns.getD i 0)) ha (by rw [aV,ax li,bn,ax li];rfl)]
  walk_at "ev"
  rw [adb (d:=.int (ns.getD j 0)) ha (by rw [aV,ax lj,bn,ax lj];rfl)]
  walk_at "ev"
  unfold mv stp
  rw [hi,hj,ca,ca]⟩),bZ.mpr (fun _ _=> rfl)]
 walk_at "ev"
 rw [aL]
 rfl
theorem getD_some{i:Nat}(h:i < ns.length):ns[i]?=some (ns.getD i 0):=by rw [bn,ax h];rfl
theorem a0e{M B:Int}{p:Sp}(hk:NmK ns B)(hl:(ns.length:Int)=many+1)(hM: ∀x,ns[many.toNat]?=some x -> x <=M)(h:SpK many ss p):SpK M ss (mv ns p):=by
 have go: ∀i:Int,0 <=i/\i < many -> 0 <=ns.getD i.toNat 0/\ns.getD i.toNat 0 < M:=fun i hi=> by
  have l1:i.toNat < ns.length:=by lia
  have l2:many.toNat < ns.length:=by lia
  have e1:=getD_some l1
  have e2:=getD_some l2
  have:=hk.lt e1 e2 (by lia)
  have:=hM _ e2
  have:=hk.b _ (bf e1)
  lia
 exact⟨go _ h.a,go _ h.b,h.l,h.m⟩
theorem ay7{B:Int}{p q:Sp}(hk:NmK ns B)(hl:(ns.length:Int)=many+1)(h:SpK many ss p)(h':SpK many ss q)(e:mv ns p=mv ns q):p=q:=by
 have go: ∀i j:Int,(0 <=i/\i < many) -> (0 <=j/\j < many) -> ns.getD i.toNat 0=ns.getD j.toNat 0 -> i=j:=fun i j hi hj e=> by
  have l1:i.toNat < ns.length:=by lia
  have l2:j.toNat < ns.length:=by lia
  have e1:=getD_some l1
  have e2:=getD_some l2
  rcases Nat.lt_trichotomy i.toNat j.toNat with z|z|z
  ·have:=hk.lt e1 e2 z;lia
  ·lia
  ·have:=hk.lt e2 e1 z;lia
 obtain⟨a,b,c⟩:=p
 obtain⟨a',b',c'⟩:=q
 unfold mv at e
 injection e with e1 e2
 injection e2 with e2 e3
 have e2':b=b':=e2
 rw [go a a' h.a h'.a e1,go c c' h.b h'.b e3,e2']
theorem a1c{B:Int}{ps:List Sp}(hk:NmK ns B)(hl:(ns.length:Int)=many+1)(hp: ∀p∈ps,SpK many ss p)(nd:(ps.map stp).Nodup):((ps.map (mv ns)).map stp).Nodup:=by
 unfold gO at nd⊢
 rw [aL,c0]
 rw [c0]at nd
 refine nd.imp_of_mem fun {a b} ha hb hab e=> hab ?_
 rw [ay7 hk hl (hp a ha) (hp b hb) (al1 e)]
structure GtQ (s0:S) (n c:Nat) (ss:List Str) (d:D) (s:S):Prop where
 ex: ∃(M:Int) (qs:List Sp),d=.da (jz M ss qs)/\TaK M ss qs/\Fd s n c/\ke n s0 s
theorem azf{s0:S}{a:Nat}{x:Int}{ps:List Sp}{A1 A3 A4:D}{u6:Option D}(fd:Fd s n c)(hc:c+10 < 2^40)(sm:ke n s0 s)(hk:TaK many ss ps)(h5:many <=5)(nd:(ps.map stp).Nodup)(ha:s[a]?=some (.lst ((ns++ [x]).map D.int)))(hl:(ns.length:Int)=many)(hn:NmK (ns++ [x]) (120*(ns.length:Int))):
  (grZ [some (.ref n),some A1,some (.tup (ss.map af)),some A3,some A4,some (.ref a),u6,some (.lst ((ps.map (mv (ns++ [x]))).map stp))] s).W fun fl s'=> (jw fl s').W (GtQ s0 n (c+1) ss):=by
 unfold grZ
 walk_at "go"
 rw [abz (xs:=ns.map D.int) (x:=.int x) (by rw [ha];simp)]
 walk_at "go"
 refine R.W_mono (kj fd (by decide) (by decide) (by lia)) ?_
 rintro _ s1 ⟨i,rfl,i0,i1,fd1,sm1⟩
 walk_at "go"
 have hx:=hn.b x (by simp)
 have hm:=hk.m
 obtain⟨M,hM,hM1,hM2⟩: ∃M:Int,(∀s:S,gIx (.lst [.int x,.int 2000]) (.int i) s=.ok (.int M) s)/\x <=M/\M <=2000:=by
  have:i=0\/i=1:=by lia
  rcases this with rfl|rfl
  ·exact⟨x,fun s=> rfl,Int.le_refl _,by lia⟩
  ·exact⟨2000,fun s=> rfl,by lia,by lia⟩
 rw [hM]
 walk_at "go"
 have hl1:((ns++ [x]).length:Int)=many+1:=by rw [aH];simp;lia
 have hlast: ∀y,(ns++ [x])[many.toNat]?=some y -> y <=M:=fun y hy=> by
  rw [show many.toNat=ns.length by lia]at hy
  simp at hy
  lia
 have hp: ∀q∈ps.map (mv (ns++ [x])),SpK M ss q/\v6 3 ss (.tuple (q.2.1.map pr))=true:=fun q hq=> by
  (obtain⟨p,hp,rfl⟩:=bv.mp hq)
  exact⟨a0e hn hl1 hlast (hk.p p hp).1,(hk.p p hp).2⟩
 have hds: ∀d∈(ps.map (mv (ns++ [x]))).map stp,DsK M ss d:=fun d hd=> by
  (obtain⟨q,hq,rfl⟩:=bv.mp hd)
  exact atj (hp q hq).1 (hp q hq).2
 have nd2:=a1c hn hl1 (fun p h=> (hk.p p h).1) nd
 rw [af6 (by rw [ak,ak];have:=hk.l;lia) (ada hds) (by
  rw [aw]
  exact fun d hd=> ((hds d hd).nice hk.s.2.1 (by lia)).okD (by decide))]
 walk_at "go"
 have pm:=xa ((ps.map (mv (ns++ [x]))).map stp)
 obtain⟨qs,pq,eq⟩:=aj0 pm
 have pl:=pq.length_eq
 rw [ak]at pl
 have x0:1 <=x:=by
  have l0:0 < (ns++ [x]).length:=by rw [aH];simp
  have e1:(ns++ [x])[ns.length]?=some x:=by simp
  have e0:=getD_some l0
  have b0:=hn.b _ (bf e0)
  have:=hn.lt e0 e1 (by lia)
  lia
 refine⟨M,qs,?_,⟨⟨by lia,hM2⟩,hk.s,by have:=hk.l;lia,fun q hq=> hp q (pq.mem_iff.mp hq),?_⟩,fd1,sm.trans sm1⟩
 ·rw [←eq];rfl
 ·rw [eq];exact ahz (ada hds) nd2
theorem as6{ps:List Sp}(h:Fd s n c)(hk:TaK many ss ps)(h5:many <=5)(nd:(ps.map stp).Nodup)(hc:c+300 < 2^40):DW (xv [.ref n,.da (jz many ss ps)] s) (GtQ s n (c+20) ss):=by
 refine⟨?_⟩
 have hm:=hk.m
 rw [ak3];unfold B_law_great
 walk_at "go"
 rw [show ae5 (.t3 (.nm 2) (.nm 3) (.nm 4)) [some (.ref n),some (.da (jz many ss ps)),none,none,none,none,none,none] (.da (jz many ss ps)) s=.ok (.nx [some (.ref n),some (.da (jz many ss ps)),some (.tup (ss.map af)),some (.int many),some (.tup (ps.map stp)),none,none,none]) s from rfl]
 walk_at "go"
 rw [ab9 (by lia) (by lia)]
 walk_at "go"
 refine R.W_mono (qg (Q:=fun fl s'=> ∃ρ,fl=.nx ρ/\GrJ s n s.length c (.da (jz many ss ps)) (.tup (ss.map af)) (.int many) (.tup (ps.map stp)) many.toNat [] ρ s') (GrJ s n s.length c (.da (jz many ss ps)) (.tup (ss.map af)) (.int many) (.tup (ps.map stp)) many.toNat) ?_ ?_ _ _ _ ⟨[],0,c,none,none,rfl,by simp,by rw [qr];simp,⟨dj _ _,fun x hx=> by rw [bm.mp hx];simp⟩,h.ext (Ext.add _ _),by rw [qr];lia,(Ext.add _ _).same n,aq _⟩) ?_
 ·intro d r ρ s' J
  obtain⟨ρ1,e,w⟩:=aup h.lt (by lia) (by lia) J
  refine⟨ρ1,e,R.W_mono w ?_⟩
  rintro _ s4 ⟨ρ2,rfl,J2⟩
  exact J2
 ·intro ρ s' J
  exact⟨ρ,rfl,J⟩
 ·rintro _ s4 ⟨ρ,rfl,ns,x,c',u6,u7,rfl,ha,hl,hn,fd,hcc,sm,hs0⟩
  simp only [ej]at hl hcc
  have hl2:(ns.length:Int)=many:=by lia
  have e:=au6 (n:=n) (A1:=.da (jz many ss ps)) (A2:=.tup (ss.map af)) (A3:=.int many) (u6:=u6) (u7:=u7) (ps:=ps) ha (show ((ns++ [x]).length:Int)=many+1 by rw [aH];simp;lia) (fun p h=> (hk.p p h).1) hk.l
  show (jd grC grZ [some (.ref n),some (.da (jz many ss ps)),some (.tup (ss.map af)),some (.int many),some (.tup (ps.map stp)),some (.ref s.length),u6,u7] s4).W (R.Wk jw (GtQ s n (c+20) ss))
  rw [a08,e,R.bind_ok',azd]
  refine R.W_mono (azf (fd.le (show c' <=c+19 by lia)) (by lia) sm hk h5 nd ha hl2 hn) fun fl s' w=> w
theorem ahq{a b:Str}{as bs:List Str}(h1: ∀w∈a::as,WdK w)(h2: ∀w∈b::bs,WdK w)(e:bi " " (a::as)=bi " " (b::bs)):a::as=b::bs:=by
 rw [ae3]at e
 rw [←ac5 (c:=32) fun x hx=> (h1 x hx).f,←ac5 (c:=32) (w:=b) (ws:=bs) fun x hx=> (h2 x hx).f,e]
theorem ake: ∀{xs ys:List (Str×Int)},(∀q∈xs,0 <=q.2/\q.2 < 3) -> (∀q∈ys,0 <=q.2/\q.2 < 3) -> two (fun q=> q.1) (fun q=> jm q.2) xs=two (fun q=> q.1) (fun q=> jm q.2) ys -> xs=ys
 |[],[],_,_,_=> rfl
 |[],_::_,_,_,h=> by cases h
 |_::_,[],_,_,h=> by cases h
 |(x,i)::r,(y,j)::r',h1,h2,h=> by
  have h':x::jm i::two (fun q=> q.1) (fun q=> jm q.2) r=y::jm j::two (fun q=> q.1) (fun q=> jm q.2) r':=h
  injection h' with e1 h'
  injection h' with e2 h'
  have a:=h1 (x,i) az
  have b:=h2 (y,j) az
  simp only at a b
  rw [e1,ade a.1 (by lia) b.1 (by lia) e2,ake (fun q hq=> h1 q (ay _ hq)) (fun q hq=> h2 q (ay _ hq)) h']
theorem apx{m':Int}{ss':List Str}{p q:Sp}(hm:m <=2000)(hm':m' <=2000)(hs: ∀x∈ss,jr x=true)(hs': ∀x∈ss',jr x=true)(hp:SpK m ss p)(hq:SpK m' ss' q)(e:kz p=kz q):p=q:=by
 have w:=ahq (y6 hp hm hs) (y6 hq hm' hs') e
 obtain⟨a,b,c⟩:=p
 obtain⟨a',b',c'⟩:=q
 have w':aA "step"::jm a::jm c::two (fun q=> q.1) (fun q=> jm q.2) b=aA "step"::jm a'::jm c'::two (fun q=> q.1) (fun q=> jm q.2) b':=w
 injection w' with _ w'
 injection w' with e1 w'
 injection w' with e2 w'
 have ha:=hp.a
 have hb:=hp.b
 have ha':=hq.a
 have hb':=hq.b
 simp only at ha hb ha' hb'
 have e3:b=b':=ake (fun q h=> (hp.m q h).2) (fun q h=> (hq.m q h).2) w'
 rw [ade ha.1 (by lia) ha'.1 (by lia) e1,ade hb.1 (by lia) hb'.1 (by lia) e2,e3]
theorem ahs{m m':Int}{ss ss':List Str}(hm:m <=2000)(hm':m' <=2000)(hs: ∀x∈ss,jr x=true)(hs': ∀x∈ss',jr x=true): ∀{ps qs:List Sp},(∀p∈ps,SpK m ss p) -> (∀p∈qs,SpK m' ss' p) -> ps.map kz=qs.map kz -> ps=qs
 |[],[],_,_,_=> rfl
 |[],_::_,_,_,h=> by cases h
 |_::_,[],_,_,h=> by cases h
 |p::ps,q::qs,h1,h2,h=> by
  rw [aG,aG]at h
  injection h with e h
  rw [apx hm hm' hs hs' (h1 p az) (h2 q az) e,ahs hm hm' hs hs' (fun x hx=> h1 x (ay _ hx)) (fun x hx=> h2 x (ay _ hx)) h]
theorem aoe{m':Int}{ss':List Str}{ps qs:List Sp}(h:TaK m ss ps)(h':TaK m' ss' qs)(e:vz m ss ps=vz m' ss' qs):m=m'/\ss=ss'/\ps=qs:=by
 unfold vz at e
 injection e with e1 e2
 have a:=h.m
 have b:=h'.m
 have w:=ahq (aa6 (by lia) a.2 h.s.2.1) (aa6 (by lia) b.2 h'.s.2.1) e1
 injection w with _ w
 injection w with w1 w2
 exact⟨ade (by lia) a.2 (by lia) b.2 w1,w2,ahs a.2 b.2 h.s.2.1 h'.s.2.1 (fun p hp=> (h.p p hp).1) (fun p hp=> (h'.p p hp).1) e2⟩
theorem adm{α:Type}{f:α -> ae}(hf: ∀a b,f a=f b -> a=b): ∀{xs ys:List α},xs.map f=ys.map f -> xs=ys
 |[],[],_=> rfl
 |[],_::_,h=> by cases h
 |_::_,[],h=> by cases h
 |x::r,y::r',h=> by
  rw [aG,aG]at h
  injection h with e h
  rw [hf _ _ e,adm hf h]
theorem aua{m':Int}{ss':List Str}{ps qs:List Sp}(e:jz m ss ps=jz m' ss' qs):m=m'/\ss=ss'/\ps=qs:=by
 unfold jz at e
 injection e with e
 injection e with e1 e
 injection e with e2 e
 injection e with e3 _
 injection e1 with e1
 injection e2 with e2
 injection e3 with e3
 exact⟨e2,adm (fun a b h=> by injection h) e1,adm (fun a b h=> al1 h) e3⟩
theorem ado: ∀ss:List Str,kf (ss.map af)=true
 |[]=> by simp [kf]
 |x::r=> by rw [aG,j3,ado r];simp [plD]
theorem anc{ps:List Sp}(h:TaK m ss ps):plD (jz m ss ps)=true:=by
 have e:kf (ps.map stp)=true:=by
  have: ∀l:List Sp,(∀p∈l,SpK m ss p) -> kf (l.map stp)=true:=fun l=> by
   induction l with
   |nil=> intro _;simp [kf]
   |cons p r ih=>
    intro hl
    rw [aG,j3,(acv (hl p az)).pl,ih fun x hx=> hl x (ay _ hx)];rfl
  exact this ps fun p hp=> (h.p p hp).1
 unfold jz
 rw [kb,j3,j3,j3,kb,kb,ado,e]
 simp [plD,kf]
theorem aih{ps:List Sp}(h:TaK m ss ps):Nice 5000 5 (jz m ss ps):=by
 have n1:=aen ss fun x hx=> za (h.s.2.1 x hx)
 have n3:=zk (B:=150) (D:=3) (ps.map stp) (by
  intro d hd
  obtain⟨p,hp,rfl⟩:=bv.mp hd
  exact (atj (h.p p hp).1 (h.p p hp).2).nice h.s.2.1 (by have:=h.m;lia))
 rw [ak]at n3
 have l1:=h.s.1
 have l3:=h.l
 exact (Nices.cons (n1.tup.mono (aq _) (show 0+1 <=4 by decide)) (Nices.cons ((y9 (by have:=h.m;lia)).mono (aq _) (by decide)) (Nices.cons n3.tup Nices.nil))).tup.mono (by lia) (aq _)
theorem ao6(h: ∀w∈ws,WdK w): ∀c∈(bi " " ws).cps.toList,c < 128:=by
 cases ws with
 |nil=> intro c hc;cases hc
 | cons w ws=>
  intro c hc
  rw [aah]at hc
  rcases bH.mp hc with z|z
  ·exact (h w az).a c z
  ·obtain⟨x,hx,hc⟩:=List.mem_flatMap.mp z
   (rcases aE.mp hc with rfl|hc)
   ·decide
   ·exact (h x (ay _ hx)).a c hc
theorem aiy(h: ∀c∈x.cps.toList,c < 128)(hl:x.length <=200):Nice 200 0 (.str x):=by
 refine⟨?_,rfl,?_,hl,by simp [cR]⟩
 ·simp only [dq,aw,decide_eq_true_eq]
  intro c hc
  have:=h c hc
  have e16:(16:Nat)^8=4294967296:=by decide
  lia
 ·simp only [eG]
  unfold jO
  (rw [←df,aw])
  intro c hc
  have:=h c hc
  (exact decide_eq_true (by lia))
theorem aew{ps:List Sp}(h:TaK m ss ps):Nice 5000 1 (.list ((vz m ss ps).map af)):=by
 have n:=zk (B:=200) (D:=0) ((vz m ss ps).map af) (by
  intro d hd
  obtain⟨x,hx,rfl⟩:=bv.mp hd
  unfold vz at hx
  have hm:=h.m
  (rcases aE.mp hx with rfl|hx)
  ·have w:=aa6 (by lia) hm.2 h.s.2.1
   have l:=abe w
   have l6:=h.s.1
   unfold qk at l
   simp only [aD]at l
   exact aiy (ao6 w) (by show (bi " " (qk m ss)).length <=200;unfold qk;lia)
  ·obtain⟨p,hp,rfl⟩:=bv.mp hx
   have w:=y6 (h.p p hp).1 hm.2 h.s.2.1
   have l:=abe w
   have:=xj p
   have:=(h.p p hp).1.l
   exact aiy (ao6 w) (by show (bi " " (kv p)).length <=200;lia))
 have e:(vz m ss ps).length <=18:=by unfold vz;rw [aD,ak];have:=h.l;lia
 rw [ak]at n
 exact n.lst.mono (by lia) (aq _)
theorem ase{a:Nat}(h:s[a]?=some (.lst (ls.map D.str)))(ok:okS (.list (ls.map af))=true):kx [.ref a] s=.ok (.str (cz (ls.map af)).shown) s:=by
 have e:toP s (.ref a)=some (.list (ls.map af)):=by
  show (match s[a]? with|some (O.lst ds)=> (jj ds).map cz|_=> none)=_
  rw [h]
  show (jj (ls.map D.str)).map cz=_
  rw [vt];rfl
 show (match toP s (.ref a) with|some a=> if okS a=true then R.ok (D.str a.shown) s else .bad|none=>.bad)=_
 rw [e]
 exact if_pos ok
theorem ai9{a:Nat}(h:s[a]?=some (.lst (ls.map D.str))):toP s (.ref a)=some (.list (ls.map af)):=by
 show (match s[a]? with|some (O.lst ds)=> (jj ds).map cz|_=> none)=_
 rw [h]
 show (jj (ls.map D.str)).map cz=_
 rw [vt];rfl
theorem aio(a b:List Str):aI (.list (a.map af)) (.list (b.map af))=decide (a=b):=by
 have e:aI (.list (a.map af)) (.list (b.map af))=cJ (a.map af) (b.map af):=by first|rfl|simp [aI]
 rw [e,br,ag2 _ _ (ado a) (ado b),decide_eq_true_eq]
 exact⟨fun h=> adm (fun a b h=> by injection h) h,fun h=> by rw [h]⟩
theorem axw{a:Nat}{ms:List Str}(h:s[a]?=some (.lst (ls.map D.str)))(o1:okD (.list (ls.map af))=true)(o2:okD (.list (ms.map af))=true):gNe (.ref a) (.lst (ms.map af)) s=.ok (.bl (!decide (ls=ms))) s:=by
 show (match toP s (.ref a),some (cz (ms.map af)) with|some a,some b=> if okD a=true/\okD b=true then R.ok (D.bl (!PyData.eqv a b)) s else .bad|_,_=>.bad)=_
 rw [ai9 h]
 show (if okD (.list (ls.map af))=true/\okD (.list (ms.map af))=true then R.ok (D.bl (!PyData.eqv (.list (ls.map af)) (.list (ms.map af)))) s else .bad)=_
 rw [if_pos ⟨o1,o2⟩,aio]
theorem ayp{a:Nat}{ms:List Str}(h:s[a]?=some (.lst (ls.map D.str)))(o1:okD (.list (ls.map af))=true)(o2:okD (.list (ms.map af))=true):gEq (.ref a) (.lst (ms.map af)) s=.ok (.bl (decide (ls=ms))) s:=by
 show (match toP s (.ref a),some (cz (ms.map af)) with|some a,some b=> if okD a=true/\okD b=true then R.ok (D.bl (aI a b)) s else .bad|_,_=>.bad)=_
 rw [ai9 h]
 show (if okD (.list (ls.map af))=true/\okD (.list (ms.map af))=true then R.ok (D.bl (aI (.list (ls.map af)) (.list (ms.map af)))) s else .bad)=_
 rw [if_pos ⟨o1,o2⟩,aio]
theorem ad8{g:Tg}{fb:FS}{p:Wk}{Q:Fl -> S -> Prop}(J:List D -> En -> S -> Prop)(src: ∀r ρ s,J r ρ s -> vo p s)
  (step: ∀d r ρ s,J (d::r) ρ s -> ∃ρ1,km g d ρ=some ρ1/\(fb ρ1 s).W (flW (J r) Q)) (fin: ∀ρ s,J [] ρ s -> Q (.nx ρ) s):
  ∀(ds:List D) (ρ:En) (s:S),J ds ρ s -> (k8 g fb p ds ρ s).W Q
 |[],ρ,s,h=> fin ρ s h
 | d::r,ρ,s,h=> by
  obtain⟨ρ1,e,w⟩:=step d r ρ s h
  rw [ah3 e,R.W_bind]
  refine R.W_mono w fun fl s1 q=> ?_
  cases fl with
  |nx ρ2=>
   have q:J r ρ2 s1:=q
   rw [show abp g fb p r (.nx ρ2) s1=k8 g fb p r ρ2 s1 from aa7 (src _ _ _ q)];exact ad8 J src step fin r ρ2 s1 q
  |ct ρ2=>
   have q:J r ρ2 s1:=q
   rw [show abp g fb p r (.ct ρ2) s1=k8 g fb p r ρ2 s1 from aa7 (src _ _ _ q)];exact ad8 J src step fin r ρ2 s1 q
  |bk ρ2=> rw [aki];exact q
  |rt d=> rw [ak6];exact q
theorem ax4{a:Nat}{ds:List D}(h:s[a]?=some (.lst ds)):aag (.ref a) [] s=.ok .non (s.set a (.lst ds.reverse)):=by
 show (match s[a]? with|some (O.lst xs)=> R.ok D.non (s.set a (.lst xs.reverse))|_=>.bad)=_
 rw [h]
theorem ax9{a:Nat}{ds:List D}(h:s[a]?=some (.lst ds)):ad0 (.ref a) [] s=.ok .non (s.set a (.lst [])):=by
 show (match s[a]? with|some (O.lst xs)=> R.ok D.non (s.set a (.lst []))|_=>.bad)=_
 rw [h]
abbrev Tb:=Int×List Str×List Sp
def tbP(t:Tb):ae:=jz t.1 t.2.1 t.2.2
def lnP(t:Tb):List Str:=vz t.1 t.2.1 t.2.2
def TbK(t:Tb):Prop:=TaK t.1 t.2.1 t.2.2
theorem awd{t:Tb}(h:TbK t):(ku [.da (tbP t)] s).W fun d s'=> ∃a,d=.ref a/\s'[a]?=some (.lst ((lnP t).map D.str))/\s.length <=a/\Ext s s':=ah9 h
theorem ayu{t:Tb}{ld:D}(h:TbK t)(hd:LdK ld s (vq t.1 t.2.1) (t.2.2.map kz)):(qb [ld] s).W fun d s'=> d=.da (tbP t)/\Ext s s':=axh h hd
theorem a2r{t:Tb}(h:TbK t):(qz [.da (tbP t)] s).W fun d s'=> d=.lst ((lnP t).map af)/\Ext s s':=aut h
theorem auk{t:Tb}(h:TbK t):(lnP t).length <=18:=by unfold lnP vz;rw [aD,ak];have:=h.l;lia
theorem aei{t:Tb}(h:TbK t):okS (.list ((lnP t).map af))=true/\okD (.list ((lnP t).map af))=true:=⟨(aew h).okS (by decide) (by decide),(aew h).okD (by decide)⟩
theorem aas{t:Tb}(h:TbK t):okS (tbP t)=true/\okD (tbP t)=true:=⟨(aih h).okS (by decide) (by decide),(aih h).okD (by decide)⟩
def lwN:FS:=(ye (aai (ja (fC (.da (.int 2))) jc)) (.nm 6) (jd (jp 7 (je 1 ku (ja (jb 4) jc)))
  (jd (j4 (ji (fOp gNe (fCB kx (ja (jb 7) jc)) (fCB kx (ja (jb 5) jc)))) (jk (fC (.da (.bool false)))) jt)
  (jd (ql (fMt ky (jb 7) (ja (fC (.da (.str "step 0 0"))) jc)))
  (ql (fMt aag (jb 7) jc))))))
structure NnJ (s0:S) (A0 A1 A2:Option D) (t:Tb) (A8 A9:Option D) (ρ:En) (s:S):Prop where
 ex: ∃u3 u6 u7:Option D,ρ=[A0,A1,A2,u3,some (.da (tbP t)),some (.lst ((lnP t).map af)),u6,u7,A8,A9]/\Ext s0 s
theorem a1g{A0 A1 A2 u3 u6 u7 A8 A9:Option D}{t:Tb}(h:TbK t):(lwN [A0,A1,A2,u3,some (.da (tbP t)),some (.lst ((lnP t).map af)),u6,u7,A8,A9] s).W fun fl s'=> ∃ρ,fl=.nx ρ/\NnJ s A0 A1 A2 t A8 A9 ρ s':=by
 have ok:=(aei h).1
 unfold lwN
 walk_at "go"
 rw [ab9 (by decide) (by decide)]
 walk_at "go"
 refine qg (fun r ρ s'=> NnJ s A0 A1 A2 t A8 A9 ρ s') ?_ ?_ _ _ _ ⟨u3,u6,u7,rfl,Ext.refl _⟩
 ·rintro d r ρ s2 ⟨u3,u6,u7,rfl,ex⟩
  refine⟨_,atr,?_⟩
  walk_at "go"
  refine R.W_mono (awd h) ?_
  rintro _ s3 ⟨a,rfl,ha,hla,ex3⟩
  walk_at "go"
  rw [ase ha ok]
  walk_at "go"
  rw [y2 ok]
  walk_at "go"
  rw [adg,decide_eq_true rfl,cK]
  walk_at "go"
  rw [ze ha]
  walk_at "go"
  have l18:=auk h
  rw [xg ha (by rw [ak];lia)]
  walk_at "go"
  have la:a < s3.length:=(aF.mp ha).1
  have hb:=bj (a:=O.lst ((lnP t).map D.str++ [D.da (.str "step 0 0")])) la
  rw [ze hb]
  walk_at "go"
  rw [ax4 hb]
  walk_at "go"
  have hl:=ex.len
  exact⟨_,_,_,rfl,((ex.trans ex3).own (by lia)).own (by lia)⟩
 ·intro ρ s2 J
  exact⟨ρ,rfl,J⟩
def lwF:FS:=(ye (fIt (jb 2)) (.nm 9) (j4 (ji (fOp gNe (fOp gEq (je 1 ku (ja (jb 9) jc)) (jb 5)) (fOp gEq (jb 9) (jb 4)))) (jk (fC (.da (.bool false)))) jt))
structure FfJ (s0:S) (f:Nat) (all:List Tb) (A0 A1 A3:Option D) (t:Tb) (A6 A7 A8:Option D) (r:List D) (ρ:En) (s:S):Prop where
 ex: ∃(left:List Tb) (u9:Option D),r=left.map (fun t=> D.da (tbP t))/\(∀x∈left,x∈all)/\ρ=[A0,A1,some (.ref f),A3,some (.da (tbP t)),some (.lst ((lnP t).map af)),A6,A7,A8,u9]/\Ext s0 s
theorem awu{t u:Tb}(h:TbK t)(k:TbK u):decide (lnP t=lnP u)=aI (tbP t) (tbP u):=by
 rw [br,decide_eq_true_eq,yz (tbP t) (tbP u) (anc h) (anc k)]
 constructor
 ·intro e
  obtain⟨a,b,c⟩:=aoe h k e
  unfold tbP
  rw [a,b,c]
 ·intro e
  obtain⟨a,b,c⟩:=aua e
  unfold lnP
  rw [a,b,c]
theorem a1n{f:Nat}{all:List Tb}{A0 A1 A3 A6 A7 A8 A9:Option D}{t:Tb}(h:TbK t)(hall: ∀x∈all,TbK x)(hf:s[f]?=some (.lst (all.map fun t=> D.da (tbP t)))):(lwF [A0,A1,some (.ref f),A3,some (.da (tbP t)),some (.lst ((lnP t).map af)),A6,A7,A8,A9] s).W fun fl s'=> ∃ρ,fl=.nx ρ/\FfJ s f all A0 A1 A3 t A6 A7 A8 [] ρ s':=by
 unfold lwF
 walk_at "go"
 rw [azp hf]
 walk_at "go"
 show (chk (all.map (fun t=> D.da (tbP t)),some f) s (k8 (.nm 9) _ (all.map (fun t=> D.da (tbP t)),some f) (all.map fun t=> D.da (tbP t)) _ s)).W _
 rw [aa7 (show vo (all.map (fun t=> D.da (tbP t)),some f) s from hf)]
 refine ad8 (FfJ s f all A0 A1 A3 t A6 A7 A8) (fun r ρ s' J=> ?_) ?_ ?_ _ _ _ ⟨all,A9,rfl,fun _ h=> h,rfl,Ext.refl _⟩
 ·obtain⟨_,_,_,_,_,ex⟩:=J.ex
  exact ex.get hf
 ·rintro d r ρ s2 ⟨left,u9,e2,hin,rfl,ex⟩
  cases left with
  |nil=> cases e2
  |cons u left=>
   cases e2
   have hu:=hall u (hin u az)
   refine⟨_,a0q,?_⟩
   walk_at "go"
   refine R.W_mono (awd hu) ?_
   rintro _ s3 ⟨a,rfl,ha,hla,ex3⟩
   walk_at "go"
   rw [ayp ha (aei hu).2 (aei h).2]
   walk_at "go"
   rw [aoo (aas hu).2 (aas h).2]
   walk_at "go"
   rw [awu hu h]
   rw [show∀(b:Bool) (s:S),gNe (.bl b) (.bl b) s=.ok (.bl false) s from fun b s=> by cases b <;> rfl]
   walk_at "go"
   exact⟨left,_,rfl,fun x hx=> hin x (ay _ hx),rfl,ex.trans ex3⟩
 ·intro ρ s2 J
  exact⟨ρ,rfl,J⟩
def lwA:FS:=(jd (j4 (ji (fOp ab6 (je 1 xb (ja (jb 4) jc)) (fC (.da (.bool true))))) (jk (fC (.da (.bool false)))) jt)
  (jd lwN
  (jd (jp 8 (fCB (abx true) (ja (jb 5) jc)))
  (jd (jp 7 (je 1 qb (ja (jb 8) jc)))
  (jd (j4 (qo (ji (fOp gNe (fCB kx (ja (jb 7) jc)) (fCB kx (ja (jb 4) jc)))) (ji (fOp gNe (jb 8) (jb 5)))) (jk (fC (.da (.bool false)))) jt)
  (jd (ql (fMt ad0 (jb 8) jc))
  (jd (j4 (qo (ji (fOp gNe (fCB kx (ja (jb 7) jc)) (fCB kx (ja (jb 4) jc)))) (ji (fOp gNe (fCB kx (ja (je 1 qb (ja (jb 5) jc)) jc)) (fCB kx (ja (jb 4) jc))))) (jk (fC (.da (.bool false)))) jt)
  (jd lwF
  (ql (fMt ky (jb 2) (ja (jb 4) jc)))))))))))
structure AaQ (n f c:Nat) (all:List Tb) (A0:Option D) (fl:Fl) (s:S):Prop where
 ex: ∃u3 u4 u5 u6 u7 u8 u9:Option D,fl=.nx [A0,some (.ref n),some (.ref f),u3,u4,u5,u6,u7,u8,u9]/\Fd s n c/\s[f]?=some (.lst (all.map fun t=> D.da (tbP t)))
theorem a12{f:Nat}{all:List Tb}{A0 u3 u6 u7 u8 u9:Option D}{t:Tb}(h:TbK t)(hall: ∀x∈all,TbK x)(hal:all.length <=10)(fd:Fd s n c)(hf:s[f]?=some (.lst (all.map fun t=> D.da (tbP t))))(hnf:f≠n):
  (lwA [A0,some (.ref n),some (.ref f),u3,some (.da (tbP t)),some (.lst ((lnP t).map af)),u6,u7,u8,u9] s).W (AaQ n f c (all++ [t]) A0):=by
 unfold lwA
 walk_at "go"
 rw [show∀s:S,xb [.da (tbP t)] s=.ok (.bl true) s from fun s=> (alk (n:=0) (by decide) (aoj h)).trans (by rw [aok h])]
 walk_at "go"
 rw [show∀s:S,ab6 (.bl true) (.da (.bool true)) s=.ok (.bl false) s from fun s=> rfl]
 walk_at "go"
 refine R.W_mono (a1g h) ?_
 rintro _ s1 ⟨ρ,rfl,u3',u6',u7',rfl,ex1⟩
 walk_at "go"
 rw [abd]
 refine R.W_mono (ayu h (ayf (a:=s1.length) ka)) ?_
 rintro _ s2 ⟨rfl,ex2⟩
 have hh:s2[s1.length]?=some (.lst ((lnP t).map D.str)):=ex2.get ka
 have e12:Ext s1 s2:=(Ext.add _ _).trans ex2
 walk_at "go"
 rw [y2 (aas h).1]
 walk_at "go"
 rw [y2 (aas h).1]
 walk_at "go"
 rw [adg,decide_eq_true rfl,cK]
 walk_at "go"
 rw [axw hh (aei h).2 (aei h).2,decide_eq_true rfl,cK]
 walk_at "go"
 rw [ze hh]
 walk_at "go"
 rw [ax9 hh]
 walk_at "go"
 rw [y2 (aas h).1]
 walk_at "go"
 rw [y2 (aas h).1]
 walk_at "go"
 rw [adg,decide_eq_true rfl,cK]
 walk_at "go"
 have e3:Ext s (s2.set s1.length (.lst [])):=(ex1.trans e12).own (by have:=ex1.len;lia)
 refine R.W_mono (ayu h (az6 (s2.set s1.length (.lst [])) (vq t.1 t.2.1) (t.2.2.map kz))) ?_
 rintro _ s4 ⟨rfl,ex4⟩
 walk_at "go"
 rw [y2 (aas h).1]
 walk_at "go"
 rw [y2 (aas h).1]
 walk_at "go"
 rw [adg,decide_eq_true rfl,cK]
 walk_at "go"
 have e5:=e3.trans ex4
 refine R.W_mono (a1n h hall (e5.get hf)) ?_
 rintro _ s5 ⟨ρ,rfl,left,u9',_,_,rfl,ex5⟩
 have e6:=e5.trans ex5
 have hf6:=e6.get hf
 walk_at "go"
 rw [ze hf6]
 walk_at "go"
 rw [xg hf6 (by rw [ak];lia)]
 walk_at "go"
 refine⟨_,_,_,_,_,_,_,rfl,(fd.ext e6).set hnf,?_⟩
 rw [bj (aF.mp hf6).1]
 simp
def lwB:FS:=(jd (jp 4 (je 4 xt (ja (jb 1) (ja (fSl false (je 2 xw (ja (jb 1) (ja (fC (.da (.int 6))) jc))) fNo (aa3 (je 2 jh (ja (jb 1) (ja (fC (.da (.int 7))) jc))))) (ja (fC (.da (.int 5))) (ja (fC (.da (.int 12))) jc))))))
  (jd (j4 (ji (fOp gEq (je 2 jh (ja (jb 1) (ja (fC (.da (.int 2))) jc))) (fC (.da (.int 0))))) (jp 4 (je 2 xv (ja (jb 1) (ja (jb 4) jc)))) jt)
  (jd (jp 5 (je 1 qz (ja (jb 4) jc)))
  lwA)))
theorem Blaw_eq:Blaw=(jd (jp 1 (je 1 yo (ja (jb 0) jc)))
  (jd (jp 2 (vx true jc))
  (jd (ye (aai (ja (fC (.da (.int 5))) jc)) (.nm 3) lwB)
  (jk (fC (.da (.bool true))))))):=rfl
theorem asa{f:Nat}{all:List Tb}{A0 u3 u4 u5 u6 u7 u8 u9:Option D}(hall: ∀x∈all,TbK x)(hal:all.length <=10)(fd:Fd s n c)(hf:s[f]?=some (.lst (all.map fun t=> D.da (tbP t))))(hnf:f≠n)(hc:c+1500 < 2^40):
  (lwB [A0,some (.ref n),some (.ref f),u3,u4,u5,u6,u7,u8,u9] s).W fun fl s'=> ∃t,TbK t/\AaQ n f (c+500) (all++ [t]) A0 fl s':=by
 unfold lwB
 walk_at "go"
 refine (aq4 fd (by lia)).mono fun dd s1 q=> ?_
 obtain⟨ps,e,pl,hp,nd,fd1,sm1⟩:=q
 rw [e];clear e
 walk_at "go"
 refine R.W_mono (kj fd1 (by decide) (by decide) (by lia)) ?_
 rintro _ s2 ⟨k,rfl,k0,k1,fd2,sm2⟩
 walk_at "go"
 obtain⟨k',rfl⟩: ∃q:Nat,k=(q:Int):=⟨k.toNat,by lia⟩
 rw [awm,←List.map_take]
 have sub:=List.take_sublist k' ps
 have hss:(ps.take k').length <=6/\(∀x∈ps.take k',jr x=true)/\(ps.take k').Nodup:=⟨by have:=sub.length_le;lia,fun x hx=> hp x (sub.subset hx),nd.sublist sub⟩
 generalize ps.take k'=ss at hss⊢
 refine (aq0 fd2 hss.1 hss.2.1 hss.2.2 (by lia)).mono fun dd s3 q=> ?_
 obtain⟨many,sts,e,m1,m5,sl,hds,hr,snd,fd3,sm3⟩:=q.ex
 rw [e];clear e
 obtain⟨qs,rfl,hq⟩:=atm hds
 rw [ak]at sl
 have tk:TbK (many,ss,qs):=⟨⟨m1,by lia⟩,hss,sl,hq,hr⟩
 walk_at "go"
 refine R.W_mono (kj fd3 (by decide) (by decide) (by lia)) ?_
 rintro _ s4 ⟨g,rfl,g0,g1,fd4,sm4⟩
 walk_at "go"
 rw [adc]
 have fin: ∀(t:Tb) (s5:S),TbK t -> Fd s5 n (c+500) -> ke n s s5 -> ((jd (jp 5 (je 1 qz (ja (jb 4) jc))) lwA) [A0,some (.ref n),some (.ref f),u3,some (.da (tbP t)),u5,u6,u7,u8,u9] s5).W fun fl s'=> ∃t,TbK t/\AaQ n f (c+500) (all++ [t]) A0 fl s':=by
  intro t s5 ht fd5 sm5
  walk_at "go"
  refine R.W_mono (a2r ht) ?_
  rintro _ s6 ⟨rfl,ex6⟩
  walk_at "go"
  have lf:f < s.length:=(aF.mp hf).1
  refine R.W_mono (a12 ht hall hal (fd5.ext ex6) (ex6.get ((sm5.get f hnf lf).trans hf)) hnf) ?_
  exact fun fl s' q=> ⟨t,ht,q⟩
 have sm:=sm1.trans (sm2.trans (sm3.trans sm4))
 by_cases hg:g=0
 ·rw [decide_eq_true hg]
  walk_at "go"
  refine (as6 fd4 tk m5 snd (by lia)).mono fun dd s5 q=> ?_
  obtain⟨M,rs,e,hk,fd5,sm5⟩:=q.ex
  rw [e];clear e
  have:=fin (M,ss,rs) s5 hk (fd5.le (by lia)) (sm.trans sm5)
  exact this
 ·rw [decide_eq_false hg]
  exact fin (many,ss,qs) s4 tk (fd4.le (by lia)) sm
structure LwJ (A0:Option D) (n f:Nat) (r:List D) (ρ:En) (s:S):Prop where
 ex: ∃(all:List Tb) (c:Nat) (u3 u4 u5 u6 u7 u8 u9:Option D),ρ=[A0,some (.ref n),some (.ref f),u3,u4,u5,u6,u7,u8,u9]/\(∀x∈all,TbK x)/\all.length+r.length <=5/\Fd s n c/\s[f]?=some (.lst (all.map fun t=> D.da (tbP t)))/\c+500*r.length <=2500
theorem asd(ns:List Int):(aqc [.frz (ns.map bT)] []).W fun d _=> d=.bl true:=by
 rw [a22,Blaw_eq]
 walk_at "go"
 refine R.W_mono av1 ?_
 rintro _ s1 ⟨rfl,fd,ex⟩
 walk_at "go"
 rw [ab9 (by decide) (by decide)]
 walk_at "go"
 have hn:=fd.lt
 refine R.W_mono (qg (Q:=fun fl s'=> ∃ρ,fl=.nx ρ/\LwJ (some (.frz (ns.map bT))) ([]:S).length s1.length [] ρ s') (LwJ (some (.frz (ns.map bT))) ([]:S).length s1.length) ?_ ?_ _ _ _ ⟨[],0,_,_,_,_,_,_,_,rfl,(fun _ h=> by cases h),by rw [qr];decide,fd.ext (Ext.add _ _),by simp,by rw [qr];decide⟩) ?_
 ·rintro d r ρ s ⟨all,c,u3,u4,u5,u6,u7,u8,u9,rfl,ha,hl,fd,hf,hcc⟩
  simp only [aD]at hcc hl
  refine⟨_,a1u,R.W_mono (asa ha (by lia) fd hf (by lia) (by lia)) ?_⟩
  rintro _ s2 ⟨t,ht,u3,u4,u5,u6,u7,u8,u9,rfl,fd2,hf2⟩
  refine⟨all++ [t],_,u3,u4,u5,u6,u7,u8,u9,rfl,fun x hx=> ?_,by simp;lia,fd2,hf2,by lia⟩
  rcases bH.mp hx with z|z
  ·exact ha x z
  ·rw [bm.mp z];exact ht
 ·intro ρ s J
  exact⟨ρ,rfl,J⟩
 ·rintro _ s2 ⟨ρ,rfl,all,c,u3,u4,u5,u6,u7,u8,u9,rfl,_⟩
  walk_at "go"
def BN(x:Str)(st:Stmt)(ps:List Str)(us:List ac):Prop:= ∀(kV doc pm:ac) (an:Option Addr) (cdv ct:ac),bindArgs (cD x x (yh st) (qp st) (jf st) .none kV doc pm an cdv ct) ⟨us,[]⟩=pure (ps.zip us)
theorem bd1{st:Stmt}{p0:Str}(h: ∀a0,BN x st [p0] [a0]): ∀us,us.length=1 -> BN x st [p0] us|[a0],_=> h a0
theorem bd2{st:Stmt}{p0 p1:Str}(h: ∀a0 a1,BN x st [p0,p1] [a0,a1]): ∀us,us.length=2 -> BN x st [p0,p1] us|[a0,a1],_=> h a0 a1
theorem bd3{st:Stmt}{p0 p1 p2:Str}(h: ∀a0 a1 a2,BN x st [p0,p1,p2] [a0,a1,a2]): ∀us,us.length=3 -> BN x st [p0,p1,p2] us|[a0,a1,a2],_=> h a0 a1 a2
theorem bd4{st:Stmt}{p0 p1 p2 p3:Str}(h: ∀a0 a1 a2 a3,BN x st [p0,p1,p2,p3] [a0,a1,a2,a3]): ∀us,us.length=4 -> BN x st [p0,p1,p2,p3] us|[a0,a1,a2,a3],_=> h a0 a1 a2 a3
theorem ay4(X:K.In h)(G:h.Ns bC mg){st:Stmt}{f:Addr}{od an:Option Addr}{oc kV dc pm cd ct:ac}(a:dG K bC x=some (some (.ref f)))(l:K.lookup f=some ⟨oc,od,.func (cD x x (yh st) (qp st) (jf st) .none kV dc pm an cd ct),sl⟩)(c:eF K cd x=true)(k:dE K (.ref f)=true)(b: ∀us,us.length=ps.length -> BN x st ps us):Has K mg x st ps:=
 ⟨f,_,aig (st:=st) l c k,cn X G a,(aig (st:=st) l c k).binds fun kV doc pm an cdv ct us hl=> b us hl kV doc pm an cdv ct⟩
theorem awt{l:ie}{fa f:Addr}{od an:Option Addr}{oc kV dc pm cd ct:ac}(X:K.In h)(G:h.Ns bC mg)(hfa:mg "law"=some (.ref fa))(a:dG K bC "law"=some (some (.ref f)))(l0:K.lookup f=some ⟨oc,od,.func (cD "law" "law" (yh zf) (qp zf) (jf zf) .none kV dc pm an cd ct),sl⟩)(c:eF K cd "law"=true)(k:dE K (.ref f)=true)(T:Txt0 K mg):
  ∃fd:dR,(∀(s:ah) (v:ac),iA s fd ⟨[v],[]⟩ [("_law_script",v)])/\ ∀base:Heap,K.In base -> base.Ns bC mg -> FnOk l.prog w K mg base CX0 9 fa fd ["_law_script"] (ahf K):=by
 have e:=hfa.symm.trans (cn X G a)
 cases e
 exact⟨cD "law" "law" (yh zf) (qp zf) (jf zf) .none kV dc pm an cd ct,fun s v=>.of_eq rfl,fun base _ _=> ay6 (a11 (aig (st:=zf) l0 c k) T) fun ns _=> asd ns⟩
theorem a3d{l:ie}{q:aR}{loose:List Str}{XP:(Str -> Option ac) -> Heap -> Prop}{YP:aT -> Heap -> Prop}{d:DefRec}{K:Params -> am}(hn:l.most=some 63)(hdf:d.params.defaults=[])
  (hY: ∀(w:aT) (h:Heap),YP w h -> (K w.params).In h)
  (F: ∀(w:aT) (mg:Str -> Option ac) (fa:Addr) (h:Heap),(K w.params).In h -> h.Ns bC mg -> mg d.name=some (.ref fa) ->
   ∃fd:dR,(∀(s:ah) (u:ac),iA s fd ⟨[u],[]⟩ [("_law_script",u)])/\ ∀base:Heap,(K w.params).In base -> base.Ns bC mg -> FnOk l.prog w (K w.params) mg base CX0 9 fa fd ["_law_script"] (ahf (K w.params))):
  PySem.W.WalkO q loose XP YP l.row.toRowW d [] (fun f vs=> PySem.call f vs):=
 L2.avr (n:=63) (k:=9) (x:="_law_script") (CX:=fun _=> CX0) (sp:=fun w=> ahf (K w.params)) hn (by decide) hdf ⟨rfl,by decide,by decide,rfl⟩ hY F (fun _ _ a ns hl _ hS=> ⟨a,ns,rfl,hS,hl,fun _=> rfl⟩) fun _ _ _ _ _ z=> z
end Ln
open PySem PySem.W PyProof.Rows
local macro_rules | `(tactic| walk_at "hm") => do
 let X := b9 `KX
 let G := b9 `G
 `(tactic| refine Ln.ay4 $X $G (by k_is) (by k_is) (by k_is) (by k_is) ?_)
namespace PySem.W.Fast
def tw17488548810582116515:=()
def tw10638193633773454229:=()
def tw11177341158313399783:=()
def tw6717949066687622494:=()
def tw16508688945601291972:=()
def tw3859396741873514141:=()
def tw9574799352040409466:=()
def tw16311066037734054942:=()
def tw10455951296416018132:=()
def tw1010762862198384817:=()
def tw292184090485223133:=()
def tw7028731828638620007:=()
def tw3541735976638589970:=()
def tw5395752736127123156:=()
def tw7922175291524173944:=()
def tw8046628688122321148:=()
def tw7632849405557322867:=()
def tw3570497195453712636:=()
def tw12181073704405452174:=()
def tw5980015707920983198:=()
def tw16504209012675296944:=()
def tw1743305226154355834:=()
def tw13753003963555523444:=()
def tw16668151419070008119:=()
def tw16349838995792780814:=()
def tw11752144354525180230:=()
def tw1854748341451550321:=()
def tw2129086780479634694:=()
def tw11070110442183798699:=()
def tw15990601778542495762:=()
def tw948531756690949352:=()
def tw5979244682285295006:=()
def tw12108240967920098969:=()
def tw17705424785509063696:=()
def tw5489273326016102171:=()
def tw2709143398982628905:=()
def tw673555977730403729:=()
def tw18130864331922158374:=()
def tw7755852845571509862:=()
def tw13699636477079999153:=()
def tw11980452327155588160:=()
def tw17161188143653899345:=()
def tw15155451030353227393:=()
def tw17895332598624798764:=()
def tw7834195305043685360:=()
def tw14166163490411142203:=()
def tw11657965100659909376:=()
def tw14980877234379242479:=()
def tw9149434415203592110:=()
def tw5994616788276732171:=()
def tw6563032568792228321:=()
def tw2021326926559601692:=()
def tw3764696876144534143:=()
def tw14340850630705170992:=()
def tw4424787364006336717:=()
def tw7212443888650097731:=()
def tw13669086382166029372:=()
def tw6988039015259736198:=()
def tw15428302513049710092:=()
def tw7747178288107851706:=()
def tw3533583170555981937:=()
def tw13803559850413203818:=()
def tw10487019586577874163:=()
def tw1640298347684209770:=()
def tw12781805112875058304:=()
def tw7828594231144459287:=()
def tw16594019452965128655:=()
def tw6910208131935660613:=()
def tw14150956966877187969:=()
def tw6346297453986600523:=()
def tw10039940523268937287:=()
end PySem.W.Fast
set_option maxRecDepth 100000 in
set_option maxHeartbeats 0 in
theorem PySem.Challenge.cw_mannerports_k43_tables_written_and_read_holds : PySem.Challenge.rw_mannerports_k43_tables_written_and_read.Holds := by
 w_on;o_law;k_head;(case hw=> w_witness2)
 k_fill
 refine Ln.a3d (l:=cL) rfl rfl (fun w h Y=> PySem.W.kIn_of Y) ?F
 case F=>
  intro w mg fa h KX G hmg
  refine Ln.awt KX G hmg (by k_is) (by k_is) (by k_is) (by k_is) ?_
  constructor
  ·walk_at "hm";exact Ln.bd1 fun _ _ _ _ _ _ _=> rfl
  ·walk_at "hm";exact Ln.bd1 fun _ _ _ _ _ _ _=> rfl
  ·walk_at "hm";exact Ln.bd2 fun _ _ _ _ _ _ _ _=> rfl
  ·walk_at "hm";exact Ln.bd1 fun _ _ _ _ _ _ _=> rfl
  ·walk_at "hm";exact Ln.bd1 fun _ _ _ _ _ _ _=> rfl
  ·walk_at "hm";exact Ln.bd1 fun _ _ _ _ _ _ _=> rfl
  ·walk_at "hm";exact Ln.bd1 fun _ _ _ _ _ _ _=> rfl
  ·walk_at "hm";exact Ln.bd2 fun _ _ _ _ _ _ _ _=> rfl
  ·walk_at "hm";exact Ln.bd3 fun _ _ _ _ _ _ _ _ _=> rfl
  ·walk_at "hm";exact Ln.bd3 fun _ _ _ _ _ _ _ _ _=> rfl
  ·walk_at "hm";exact Ln.bd1 fun _ _ _ _ _ _ _=> rfl
  ·walk_at "hm";exact Ln.bd3 fun _ _ _ _ _ _ _ _ _=> rfl
  ·walk_at "hm";exact Ln.bd1 fun _ _ _ _ _ _ _=> rfl
  ·walk_at "hm";exact Ln.bd1 fun _ _ _ _ _ _ _=> rfl
  ·walk_at "hm";exact Ln.bd1 fun _ _ _ _ _ _ _=> rfl
  ·walk_at "hm";exact Ln.bd1 fun _ _ _ _ _ _ _=> rfl
  ·walk_at "hm";exact Ln.bd1 fun _ _ _ _ _ _ _=> rfl
  ·walk_at "hm";exact Ln.bd1 fun _ _ _ _ _ _ _=> rfl
  ·walk_at "hm";exact Ln.bd2 fun _ _ _ _ _ _ _ _=> rfl
  ·walk_at "hm";exact Ln.bd2 fun _ _ _ _ _ _ _ _=> rfl
  ·walk_at "hm";exact Ln.bd3 fun _ _ _ _ _ _ _ _ _=> rfl
  ·walk_at "hm";exact Ln.bd4 fun _ _ _ _ _ _ _ _ _ _=> rfl
  ·walk_at "hm";exact Ln.bd2 fun _ _ _ _ _ _ _ _=> rfl
  ·walk_at "hm";exact Ln.bd1 fun _ _ _ _ _ _ _=> rfl
  ·walk_at "hm";exact Ln.bd1 fun _ _ _ _ _ _ _=> rfl
  ·exact⟨_,cn KX G (by k_is)⟩
  ·exact⟨_,cn KX G (by k_is)⟩
  ·exact⟨_,cn KX G (by k_is)⟩
  ·exact⟨_,cn KX G (by k_is)⟩
  ·exact⟨_,cn KX G (by k_is)⟩
  ·exact⟨_,cn KX G (by k_is)⟩
  ·exact⟨_,cn KX G (by k_is)⟩
  ·exact⟨_,cn KX G (by k_is)⟩
  ·exact bb KX G (by k_is)
  ·exact bb KX G (by k_is)
  ·exact bb KX G (by k_is)
  ·exact bb KX G (by k_is)
  ·exact bb KX G (by k_is)
  ·exact bb KX G (by k_is)
  ·exact bb KX G (by k_is)
  ·exact bb KX G (by k_is)
  ·exact bb KX G (by k_is)
  ·exact bb KX G (by k_is)
  ·exact bb KX G (by k_is)
  ·exact bb KX G (by k_is)
  ·exact bb KX G (by k_is)
  ·exact bb KX G (by k_is)
  ·exact bb KX G (by k_is)
