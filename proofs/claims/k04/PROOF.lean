import PyProof.Rows.All
import Wide.All
import OpenK.AllK
import Wide.FinOn
import Lean
import PyProof.EqAt
import PyProof.EqKinds
import PyProof.TupleCall
import PyProof.NeKinds
import PyProof.Rows.SetFrom
import PyProof.WalksMore
import KE.KDictSum
import PyProof.AttrMissHeap
import PyProof.P3Eq
import PyProof.NeData
import PyProof.ConsumeWalk
import PyProof.ZipIter
import PyProof.Rows.TupAdd
import PyProof.Rows.IntBool
import PyProof.SliceStr2
import PyProof.StrBlockI
import KE.KTab
import PyProof.FString5
import PyProof.StrWalks
import PyProof.CallStr
import PyProof.Conv_int_bool
import PyProof.StrCalls
import PyProof.StrBlockG
import PyProof.StrCalls2
import KE.KSortAsk
import KE.KSortTup
import PyProof.TupleOfSeq
import KE.KIntText
import PyProof.DictWalks
import PyProof.Rows.TupDisplay
import PyProof.DictTruth
import PyProof.CollectWalk
import PyProof.TupleOfGen
import PyProof.EnumMake
import PyProof.ListMulAny
import PyProof.FactsAll.tuple_2
import PyProof.ListRange
import KE.KxMul
import PyProof.FactsAll.dict_1
import PyProof.FactsAll.subtypes_4
import PyProof.FactsAll.subtypes_3
import PyProof.FactsAll.tuple_0
import PyProof.StrLawsReplace
import PyProof.Rows.ReprOcc
import PySem.Challenge.RW_mannerports_k04_nets_written_and_read_ag
import KE.KTabLook
set_option Elab.async false
set_option linter.all false
set_option bootstrap.genMatcherCode false
set_option genSizeOfSpec false
set_option maxRecDepth 100000
set_option maxHeartbeats 4000001
variable{xs:List ib}{x:fB}{A:ic}{E:ca -> dJ -> Prop}{s:dJ}{a b:cT}{h h':PySem.Heap}{P:hJ}{w:ir}{t' i:Nat}{ch:List cT}{e tg:fU}{M:PySem.Model}{u:ca}{Q:Unit -> dJ -> Prop}{pos:PySem.Pos}{pins:List (cT×PySem.Obj)}{K:ah}
noncomputable section
open PySem.PyData renaming str -> ac,eqv -> aJ,int -> aP,canLayAll0 -> bw,depthAll -> bE,bool -> bH,depth -> bX,eqvAll -> cC,canLay0 -> cN,leavesShort -> dS,showable -> eW,list -> fz,leavesShortAll -> gS
open PySem renaming wpAny_bind -> ae,Value -> af,PyData -> ag,Shared -> ak,wpAny_pure -> al,mainGlobals -> aI,compareOp -> aN,Program -> aW,bootBuiltins -> aX,World -> aY,assignEach -> a6,wpAny_field -> bc,Around -> bd,strKind -> bg,wpAny_setField_rec -> bz,wpAny_callSpecial?_slot -> bC,wpAny_holding -> bI,wpAny_call_entry -> bM,wpAny_truthy_bool -> b0,wpAny_seqItems -> b8,scanBound -> b9,Value -> ca,mem_of_lookup -> cq,FuncData -> cv,attributeBase -> cD,foldedSetIterable -> cF,wpAny_rule -> cH,wpAny_mono -> cI,Addr -> cT,wpAny_specialOf -> cU,wpAny_Call_Name_kw -> cW,NameKind -> cZ,wpAny_newObj_type -> c6,wpAny_pyIter_list -> c7,wpAny_callSpecialIfBoundUnlessNone?_slot -> dh,Reads -> di,sysModules -> dk,call_meets -> dn,behindInMarks -> dz,sliceBounds -> dB,keywordEach -> dC,wpAny_passesOwn -> dE,Shared -> dJ,swapsWith -> dM,codeAny_mono -> dO,SetTable -> dQ,IsPair -> dU,Scope -> dY,Builtin -> d0,IsPart -> eh,slicePicked -> eo,ReadsAll -> eE,Within -> eO,letOwnedTupleGo -> eP,codeAny_builtin -> eU,wpAny_updateSeq_pair -> eX,callSpecialIfBoundUnlessNone? -> ff,intText? -> fy,IsZip -> fA,Str -> fB,getMethod -> fD,seqIndex? -> fF,wpAny_pyIter_tuple -> fG,strValues -> fH,wpAny_standAt -> fL,wpAny_onRaise -> fO,wpAny_attempt -> fP,eqIsQuiet_byValue -> fQ,Expr -> fU,typeIs_str -> fV,wpAny_forIn_list -> fW,wpAny_isInstance -> fX,Operator -> f6,noFill_tuple_add -> f9,wpAny_comprehension_free -> ga,DictEntry -> gp,wpAny_execs_nil -> gq,typeIs_none -> gy,wpAny_pyNext_list_item -> gz,sizeLine_eq -> gA,wpAny_letGo -> gG,wpAny_pyNext_list_end -> gK,BindsTo -> gL,Keyword -> gO,IsEnum -> gT,Program -> hJ,swapsWithSole -> hU,swappedStores -> hV,seq_tuple_add -> hW,PyData -> ib,Around -> ic,Paired -> ie,lastMarks -> ig,concat_meets -> ij,wpAny_typeOf -> ik,seqIndex_neg -> il,IsEnumOut -> im,CmpOp -> ip,World -> ir,seqIndex_of -> iw,richCompare -> iy,wpAny_loadPart' -> iA
open PySem.W renaming Frag -> ah,mg_none_of -> aV,nsIn -> a8,findIn -> bn,mg_of -> bA,kia_one -> bL,keepIn -> bO,emptyDict -> bQ,fnOf -> bY,instObj -> cc,codeIn -> cL,plainGet -> cO,hasDictIn -> c5,plainOver -> d8,isFn -> eQ,plainGet_of -> fh,lookIn -> fq,callWith_K -> fE,methodObj -> fR,takerIn -> gr,makesIn -> gt,OpenLaw -> gu,cellsFrom_some -> gC,methodCall_KW -> gU,callWith_K0 -> h8
open PySem.Heap renaming get?_push_of_some -> ai,lt_size -> ay,get?_push_size -> aB,size_push -> bf,SameBut -> bh,ExtBut -> ek,get?_update_other -> gE,get?_update_self -> gN
open List renaming length_map -> aj,getElem?_set_ne -> am,getElem?_eq_some_iff -> aq,size_toArray -> au,length_cons -> av,mem_cons -> aw,mem_cons_of_mem -> az,map_cons -> aA,mem_cons_self -> aC,getElem?_set_self -> aE,getElem?_eq_getElem -> aG,all_eq_true -> aH,length_append -> aO,getElem?_append_left -> aR,map_append -> aS,map_map -> aU,getElem?_map -> aZ,mem_append -> a7,mem_append_right -> bb,append_nil -> bj,getElem?_append_right -> bq,not_mem_nil -> bt,map_nil -> bv,replicate -> bD,mem_singleton -> bF,lookup_cons -> bG,filter_eq_self -> bS,mem_filter -> bU,mem_map -> b6,mem_append_left -> cf,map -> cj,length_nil -> ck,append_assoc -> cn,flatMap_append -> cu,length_take -> cw,drop_eq_nil_of_le -> cy,getD_eq_getElem?_getD -> cE,getElem?_set -> cG,lookup -> cK,getElem?_replicate -> cS,nodup_cons -> cX,range -> dm,mem_of_mem_take -> du,map_eq_cons_iff -> dv,of_mem_zip -> dF,drop_eq_getElem_cons -> dH,nil_append -> dI,getElem?_cons_succ -> d6,take_sublist -> d9,nodup_append -> ef,take_of_length_le -> ej,all_cons -> er,cons_append -> eD,getElem_mem -> eF,mem_flatMap -> eH,eraseIdxIfInBounds_toArray -> eN,mem_of_mem_drop -> eZ,filterMap_cons -> fg,map_eq_nil_iff -> fk,all_map -> gg,eraseIdx_cons_succ -> gh,filter_cons_of_neg -> gk,filter_cons_of_pos -> gm,forIn_cons -> gw,foldl_cons -> gx,map_eq_append_iff -> gI,mem_range -> gJ,length_replicate -> gM,dropLast_eq_take -> gQ,drop_zero -> gR,getElem?_eq_none -> gV,eq_nil_or_concat -> gW,concat_eq_append -> gX,set_append_left -> g6,any_cons -> hX,map_take -> hZ
open Nat renaming le_refl -> ao,lt_of_lt_of_le -> aD,le_trans -> aQ,ne_of_lt -> aT,le_of_not_lt -> bN,zero_le -> bP,lt_irrefl -> bZ,le_of_eq -> dN,add_assoc -> eA,le_of_lt -> fY,ne_of_gt -> fZ,lt_succ_self -> f7,le_succ -> gB,mul_le_mul_right -> hG
open Bool renaming false_ne_true -> ax,and_eq_true -> aF,eq_iff_iff -> bm,false_eq_true -> cV,and_self -> eC,or_eq_true -> eT,not_true -> fJ
open PySem.F renaming slot_list_append -> aK,type_list_append -> aL,slot_str_join -> bJ,type_str_join -> bK,called_set -> cQ,slot_enumerate_next -> de,slot_NoneType_hash -> dg,args_tuple_add_2 -> dP,entry_tuple_add -> d5,slot_tuple_hash -> d7,slot_tuple_add -> eg,slot_list_pop -> eL,type_list_pop -> eM,slot_zip_next -> eY,args_str_split_2 -> fI,entry_str_split -> fT,slot_str_split -> gb,slot_list_extend -> gc,type_list_extend -> gf,plainAttrs_list -> gi,args_enumerate_next_1 -> gj,entry_enumerate_next -> gH,plain_set_new -> gP,args_list_extend_2 -> gZ,entry_list_extend -> ia
open Or renaming inl -> aM,inr -> cr
open PySem.Str renaming join -> a9,ofString -> bi
open Array renaming length_toList -> bo,getElem?_toList -> c9,all_toList -> dq,any_toList -> eG,getElem?_eq_some_iff -> fN
open PySem.NameKind renaming free -> br,cell -> dA
open PySem.Value renaming ref -> bu,none -> cx,type -> dj,int -> dL,bool -> dX,isStrOf -> eB,str -> eJ,float -> iu
open PyProof.Rows renaming slot_tuple_getitem -> bB,callWith_type1 -> cz,AllBare -> eK,subscriptTail_builtinR -> gD,entry_tuple_getitem -> h9,IntsAre -> iq
open PySem.Txt renaming split -> bR,join -> g9
open PySem.Builtin.Tuple renaming tupleHashOf -> bT,tupleExact -> cP,tupleItemsOf -> dw
open Option.some renaming inj -> bV
open PySem.Builtin.SmallTypes renaming nextOf -> bW,ownedTupleIsFree -> cB,ownedTupleHandOut -> dW
open False renaming elim -> b7
open PySem.Builtin.List renaming listTooLong -> ci
open PySem.Challenge renaming rw_mannerports_k04_nets_written_and_read_ag -> cp
open PyProof.Rows.F renaming plain_set_update_loop -> cA,entry_set_update_loop -> dR
open PySem.Builtin.Slice renaming slicePlaces -> cJ,sliceAdjust -> dG,sliceApplied -> fM
open PySem.SetTable renaming grown -> cM
open PySem.Builtin.Str renaming occurrences -> cR,strSliceIndices -> df
open ForInStep renaming yield -> cY
open Ne renaming symm -> c8
open True renaming intro -> dZ
open Int renaming toNat_natCast -> ee
open Sum renaming inl -> eI,inr -> fm
open PySem.Obj renaming mapSeq -> eR
open PySem.AutoSeq1 renaming wpAny_loadPart' -> eS
open PySem.Around renaming under_plainId -> eV,under -> f8
open PySem.Heap.SameBut renaming update -> fj
open PySem.Builtin.Frozenset renaming updateFrom -> fx
open PySem.Calls renaming Name_function_global -> fK,callWith_builtin -> gF
open List.Pairwise renaming nil -> fS
open List.cons renaming injEq -> gn
open PySem.SeqAt renaming EqAt -> gY
open PySem.Code renaming isFrame -> ii
open Lean renaming mkIdent -> io
open PySem.Shared renaming heap -> iz
namespace PF
open PySem PySem.Spec PySem.SeqAt --
mutual
noncomputable def plD:ag -> Bool
 |.none=> true
 |.int _=> true
 |.str _=> true
 |.tuple xs=> acj xs
 |_=> false
noncomputable def acj:List ag -> Bool
 |[]=> true
 |x::xs=> plD x&&acj xs
end
theorem adv:plD (.tuple xs)=acj xs:=by simp only [plD]
theorem afr{x:ag}:acj (x::xs)=(plD x&&acj xs):=by simp only [acj]
theorem agw: ∀xs:List ag,acj xs=xs.all plD
 |[]=> by simp only [acj,List.all_nil]
 |x::r=> by rw [afr,er,agw r]
theorem evt{ys:List ag}:aJ (.tuple xs) (.tuple ys)=cC xs ys:=by simp only [aJ]
theorem evs{x y:ag}{ys:List ag}:cC (x::xs) (y::ys)=(aJ x y&&cC xs ys):=by simp only [cC]
mutual
theorem arm: ∀a b:ag,plD a=true -> plD b=true -> (aJ a b=true ↔ a=b)
 |.none,b,_,hb=> by cases b <;> simp [plD]at hb <;> simp [aJ]
 |.int i,b,_,hb=> by cases b <;> simp [plD]at hb <;> simp [aJ]
 |.str i,b,_,hb=> by cases b <;> simp [plD]at hb <;> simp [aJ]
 |.tuple xs,.tuple ys,ha,hb=> by
  rw [evt,anm xs ys (by rw [←adv];exact ha) (by rw [←adv];exact hb)]
  simp
 |.tuple xs,.none,_,_=> by simp [aJ]
 |.tuple xs,.int _,_,_=> by simp [aJ]
 |.tuple xs,.str _,_,_=> by simp [aJ]
 |.tuple xs,.bool _,_,hb=> by simp [plD]at hb
 |.tuple xs,.list _,_,hb=> by simp [plD]at hb
 |.tuple xs,.dict _,_,hb=> by simp [plD]at hb
 |.bool _,_,ha,_=> by simp [plD]at ha
 |.list _,_,ha,_=> by simp [plD]at ha
 |.dict _,_,ha,_=> by simp [plD]at ha
theorem anm: ∀xs ys:List ag,acj xs=true -> acj ys=true -> (cC xs ys=true ↔ xs=ys)
 |[],[],_,_=> by simp [cC]
 |[],_::_,_,_=> by simp [cC]
 |_::_,[],_,_=> by simp [cC]
 |x::xs,y::ys,ha,hb=> by
  rw [afr,aF]at ha hb
  rw [evs,aF,arm x y ha.1 hb.1,anm xs ys ha.2 hb.2,gn]
end
mutual
noncomputable def aat(w:aY):ag -> Int
 |.none=> 0xFCA86420
 |.int i=> hashInt i
 |.str x=> hashStr w x
 |.tuple xs=> reduceHash (bT (zl w xs))
 |_=> 0
noncomputable def zl(w:aY):List ag -> List Int
 |[]=> []
 |x::xs=> aat w x::zl w xs
end
mutual
noncomputable def aaz:ag -> Nat
 |.tuple xs=> xx xs+1
 |_=> 1
noncomputable def xx:List ag -> Nat
 |[]=> 0
 |x::xs=> aaz x+xx xs
end
theorem ahs(w:aY): ∀xs:List ag,zl w xs=xs.map (aat w)
 |[]=> by simp only [zl,bv]
 |x::r=> by simp only [zl,aA,ahs w r]
theorem ad5: ∀xs ys:List ag,xx (xs++ys)=xx xs+xx ys
 |[],ys=> by simp [xx]
 |x::r,ys=> by simp only [eD,xx,ad5 r ys];lia
theorem af3: ∀{xs:List ag} {x:ag},x∈xs -> x.depth <=bE xs
 |[],x,h=> by cases h
 |y::r,x,h=> by
  simp only [bE]
  (rcases aw.mp h with rfl|h)
  ·lia
  ·have:=af3 h;lia
section
variable{prog:aW}{w:aY} --
theorem asr{Q:Int -> ak -> Prop}(h:Q 0xFCA86420 {s with toks:=s.toks+1}):wpAny (model prog w) A (pyHash .none) Q E s:=by
 unfold pyHash
 have hv:[cx].any Value.onHeap=false:=rfl
 refine ae ?_
 (rw [cRoomFor,if_neg (by rw [hv];exact ax)];refine al ?_)
 refine ae (cU (gy s) dg.lookup ?_)
 show wpAny _ _ (if (some (Value.builtin "NoneType.__hash__")==some cx)=true then _ else _) Q E s
 (rw [if_neg (by rw [beq_builtin_none];exact ax)])
 refine ae (cU (gy s) dg.lookup ?_)
 show wpAny _ _ (ff .none "__hash__" _ >>=_) Q E s
 refine ae (dh (gy s) dg
  (bM dg (gy s) F.entry_NoneType_hash
   (show wpAny _ _ (do ret (←mkInt 0xFCA86420)) _ _ s from wpAny_ret_mkInt ?_) (F.args_NoneType_hash_1 _)))
 show wpAny _ _ (if (decide (-(2:Int)^63 <=0xFCA86420)&&decide ((0xFCA86420:Int) < 2^63))=true then _ else _) Q E _
 rw [if_pos (by decide)]
 exact al h
mutual
theorem aog: ∀(d:ag) {A:bd} {E:af -> ak -> Prop} {s:ak} {v:af} {bs:List Addr} {Q:Int -> ak -> Prop},plD d=true -> di s.heap v d bs -> A.units+d.depth < cLine -> Q (aat w d) {s with toks:=s.toks+aaz d} -> wpAny (model prog w) A (pyHash v) Q E s
 |.none,A,E,s,v,bs,Q,_,r,_,h=> by cases r;simp only [aat,aaz]at h;exact asr h
 |.int i,A,E,s,v,bs,Q,_,r,_,h=> by cases r;simp only [aat,aaz]at h;exact wpAny_pyHash_int h
 |.str x,A,E,s,v,bs,Q,_,r,_,h=> by cases r;simp only [aat,aaz]at h;exact wpAny_pyHash_str h
 | .tuple xs,A,E,s,v,bs,Q,hp,r,hu,h=> by
  have ih:=aj9 xs
  rw [adv,agw,aH]at hp
  (simp only [bX]at hu)
  cases r with
  | @tuple a o items n _ _ ho hc hd hi=>
  have hT:s.TypeIs (.ref a) "tuple":=⟨o,ho,hc⟩
  unfold pyHash pyHashByItsType
  refine ae (wpAny_cRoomFor_or (.inr (by lia)) ?_)
  (refine ae (cU hT d7.lookup ?_))
  show wpAny _ _ (if (some (Value.builtin "tuple.__hash__")==some cx)=true then _ else _) Q E s --
  (rw [if_neg (by rw [beq_builtin_none];exact ax)])
  (refine ae (cU hT d7.lookup ?_))
  show wpAny _ _ (ff (.ref a) "__hash__" _ >>=_) Q E s --
  (refine ae (dh hT d7 (bM d7 hT F.entry_tuple_hash ?_ (F.args_tuple_hash_1 _))))
  show wpAny _ _ (dw (.ref a)>>=_) _ _ s --
  (refine ae (wpAny_tupleItemsOf ho hd ?_))
  refine ae ?_
  rw [←Array.forIn_toList]
  refine fW _
   (fun jp (b:Array Int) s'=> ∃done left cs,xs=done++left/\eE s.heap jp left cs/\b.toList=done.map (aat w)/\s'={s with toks:=s.toks+xx done})
   _ ?_ ?_ _ _ ⟨[],xs,_,rfl,hi,rfl,rfl⟩
  ·rintro x jp b s' ⟨done,left,cs,e,hl,hb,rfl⟩
   cases hl with
   | @cons _ _ k ks' _ _ h1 hl'=>
    have hm:k∈xs:=by rw [e];simp
    have hdk:=af3 hm
    have e1: ∀A:bd,A.in1.units <=A.units+1:=fun A=> by first|exact ao _|(unfold Around.in1;simp)
    have e1A:=e1 A
    refine ae (ih k hm (s:={s with toks:=s.toks+xx done}) (hp k hm) h1 (by lia) ?_)
    first
     |exact al ⟨done++ [k],ks',_,by rw [e];simp,hl',by simp [hb],by simp [ad5,xx,eA]⟩
     |exact ae (al (al ⟨done++ [k],ks',_,by rw [e];simp,hl',by simp [hb],by simp [ad5,xx,eA]⟩))
  ·rintro b s' ⟨done,left,cs,e,hl,hb,rfl⟩
   cases hl
   rw [bj]at e
   subst e
   show wpAny _ _ (retInt (bT b.toList)) _ _ _ --
   rw [hb,←ahs]
   refine wpAny_ret_mkInt ?_
   show wpAny _ _ (if (decide (-(2:Int)^63 <=bT (zl w xs))&&decide (bT (zl w xs) < 2^63))=true then _ else _) Q E _
   simp only [aat,aaz]at h
   unfold reduceHash at h
   by_cases hr:(decide (-(2:Int)^63 <=bT (zl w xs))&&decide (bT (zl w xs) < 2^63))=true
   ·rw [if_pos hr]
    rw [if_pos hr]at h
    (exact al (by simpa [eA] using h))
   ·rw [if_neg hr]
    rw [if_neg hr]at h
    (exact ae (cH (al (by simpa [eA] using h))))
 |.bool _,_,_,_,_,_,_,hp,_,_,_=> by simp [plD]at hp
 |.list _,_,_,_,_,_,_,hp,_,_,_=> by simp [plD]at hp
 |.dict _,_,_,_,_,_,_,hp,_,_,_=> by simp [plD]at hp
theorem aj9: ∀(xs:List ag),∀d∈xs,∀{A:bd} {E:af -> ak -> Prop} {s:ak} {v:af} {bs:List Addr} {Q:Int -> ak -> Prop},plD d=true -> di s.heap v d bs -> A.units+d.depth < cLine -> Q (aat w d) {s with toks:=s.toks+aaz d} -> wpAny (model prog w) A (pyHash v) Q E s
 |[],d,m=> by cases m
 | x::r,d,m=> by
  intro h1 h2 h3 h4
  rcases aw.mp m with e|m
  ·rw [e]at h1 h2 h3 h4
   exact aog x h1 h2 h3 h4
  ·exact aj9 r d m h1 h2 h3 h4
end
mutual
theorem am4: ∀(d:ag) {n:Nat} {A:bd} {E:af -> ak -> Prop} {s:ak} {v:af} {bs:List Addr} {Q:Bool -> ak -> Prop},plD d=true -> di s.heap v d bs -> d.depth <=n -> Q true s -> wpAny (model prog w) A (eqIsQuiet n v) Q E s
 |.none,n,A,E,s,v,bs,Q,_,r,_,h=> by cases r;rw [fQ n rfl];exact al h
 |.int i,n,A,E,s,v,bs,Q,_,r,_,h=> by cases r;rw [fQ n rfl];exact al h
 |.str x,n,A,E,s,v,bs,Q,_,r,_,h=> by cases r;rw [fQ n rfl];exact al h
 | .tuple xs,n,A,E,s,v,bs,Q,hp,r,hu,h=> by
  have ih:=ajz xs
  rw [adv,agw,aH]at hp
  (simp only [bX]at hu)
  obtain⟨m,rfl⟩: ∃m,n=m+1:=⟨n - 1,by lia⟩
  cases r with
  | @tuple a o items n _ _ ho hc hd hi=>
  have hT:s.TypeIs (.ref a) "tuple":=⟨o,ho,hc⟩
  unfold eqIsQuiet
  (refine ae (cU hT F.slot_tuple_eq.lookup ?_))
  show wpAny _ _ (isInstance (.ref a) (.type "tuple")>>=_) _ _ s --
  (refine ae (fX hT isSubtype_tuple_tuple ?_))
  (simp only [fJ,cV,if_false])
  (refine ae (b8 ho hd ?_))
  refine ae ?_
  show wpAny _ _ (forIn items _ _) _ _ s --
  rw [←Array.forIn_toList]
  refine fW _ (fun jp r s'=> r.1=none/\s'=s/\ ∃left cs,(∀x∈left,x∈xs)/\eE s.heap jp left cs) _ ?_ ?_ _ _ ⟨rfl,rfl,xs,_,fun _ m=> m,hi⟩
  ·rintro v jp r s' ⟨hr,rfl,left,cs,sub,hl⟩
   cases hl with
   | @cons _ _ k ks' _ _ h1 hl'=>
    have hm:=sub k aC
    have hdk:=af3 hm
    refine ae (ih k hm (hp k hm) h1 (by lia) ?_)
    (simp only [fJ,cV,if_false])
    exact al ⟨rfl,rfl,ks',_,fun x m=> sub x (az _ m),hl'⟩
  ·rintro⟨r1,r2⟩ s' ⟨hr,rfl,_⟩
   simp only at hr
   subst hr
   exact al h
 |.bool _,_,_,_,_,_,_,_,hp,_,_,_=> by simp [plD]at hp
 |.list _,_,_,_,_,_,_,_,hp,_,_,_=> by simp [plD]at hp
 |.dict _,_,_,_,_,_,_,_,hp,_,_,_=> by simp [plD]at hp
theorem ajz: ∀(xs:List ag),∀d∈xs,∀{n:Nat} {A:bd} {E:af -> ak -> Prop} {s:ak} {v:af} {bs:List Addr} {Q:Bool -> ak -> Prop},plD d=true -> di s.heap v d bs -> d.depth <=n -> Q true s -> wpAny (model prog w) A (eqIsQuiet n v) Q E s
 |[],d,m=> by cases m
 | x::r,d,m=> by
  intro h1 h2 h3 h4
  rcases aw.mp m with e|m
  ·rw [e]at h1 h2 h3
   exact am4 x h1 h2 h3 h4
  ·exact ajz r d m h1 h2 h3 h4
end
mutual
theorem ajo: ∀(d:ag) {h h':Heap} {v:af} {bs:List Addr} {a:Addr} {o:Obj} {es:Array gp} {ep:Nat},plD d=true -> di h v d bs -> h.get? a=some o -> o.data=.dict es ep -> bh a h h' -> di h' v d bs
 |.none,_,_,_,_,_,_,_,_,_,r,_,_,_=> by cases r;exact .none
 |.int i,_,_,_,_,_,_,_,_,_,r,_,_,_=> by cases r;exact .int _ _
 |.str x,_,_,_,_,_,_,_,_,_,r,_,_,_=> by cases r;exact .str _ _
 | .tuple xs,h,h',v,bs,a,o,es,ep,hp,r,ho,hd,hs=> by
  rw [adv]at hp
  cases r with
  | @tuple b ob items n _ _ h1 h2 h3 h4=>
   have ne:b≠a:=by
    rintro rfl
    rw [h1]at ho
    cases ho
    rw [hd]at h3;cases h3
   exact .tuple ((hs.2 b ne).trans h1) h2 h3 (ahv xs hp h4 ho hd hs)
 |.bool _,_,_,_,_,_,_,_,_,hp,_,_,_,_=> by simp [plD]at hp
 |.list _,_,_,_,_,_,_,_,_,hp,_,_,_,_=> by simp [plD]at hp
 |.dict _,_,_,_,_,_,_,_,_,hp,_,_,_,_=> by simp [plD]at hp
theorem ahv: ∀(xs:List ag) {h h':Heap} {vs:List af} {bs:List Addr} {a:Addr} {o:Obj} {es:Array gp} {ep:Nat},acj xs=true -> eE h vs xs bs -> h.get? a=some o -> o.data=.dict es ep -> bh a h h' -> eE h' vs xs bs
 |[],_,_,_,_,_,_,_,_,_,r,_,_,_=> by cases r;exact .nil
 |x::xs,_,_,_,_,_,_,_,_,hp,r,ho,hd,hs=> by
  rw [afr,aF]at hp
  cases r with
  |cons r1 r2=> exact .cons (ajo x hp.1 r1 ho hd hs) (ahv xs hp.2 r2 ho hd hs)
end
def ahk(d:ag):Bool:=plD d&&d.canLay0&&decide (d.depth <=8)
theorem zg{d:ag}:ahk d=true ↔ plD d=true/\d.canLay0=true/\d.depth <=8:=by
 unfold ahk
 simp only [aF,decide_eq_true_eq,and_assoc]
noncomputable instance:DecidableEq ag:=fun a b=> Classical.propDecidable (a=b)
def aub(prog:aW)(w:aY):HeapKind prog w ag where
 is h k a:=ahk k=true/\ ∃bs,di h (.ref a) k bs
 hash:=aat w
 draws:=aaz
 room A:=A.units+10 < cLine
 inj:=by
  rintro h a x y ⟨k1,b1,r1⟩ ⟨k2,b2,r2⟩
  exact Reads.unique x y _ _ _ (zg.mp k1).2.1 r1 r2
 keeps:=by
  rintro h h' k a d o es ep ⟨k1,b1,r1⟩ ho hd hs
  exact⟨k1,b1,ajo k (zg.mp k1).1 r1 ho hd hs⟩
 pyHash:=by
  rintro A E s k a Q hu ⟨k1,b1,r1⟩ h
  obtain⟨p,c,d⟩:=zg.mp k1
  exact aog k p r1 (by lia) h
 eqBool:=by
  rintro A E s x y a b Q hu ⟨k1,b1,r1⟩ ⟨k2,b2,r2⟩ h
  obtain⟨p,c,d⟩:=zg.mp k1
  obtain⟨p',c',d'⟩:=zg.mp k2
  refine eqAt_reads x y A s _ _ _ _ r1 r2 c c' (by lia) prog w E Q ?_
  have:aJ x y=decide (x=y):=by
   (rw [bm,decide_eq_true_eq])
   exact arm x y p p'
  rw [this];exact h
 quiet:=by
  rintro A E s k a Q ⟨k1,b1,r1⟩ h
  obtain⟨p,c,d⟩:=zg.mp k1
  exact am4 k p r1 (by lia) h
end
end PF
namespace L2
open PySem PySem.Spec PyProof.Rows
abbrev Key:=Sum Int Str
noncomputable def axi:Key -> af -> Bool
 |.inl k,v=> Value.isInt k v
 |.inr x,v=> eB x v
noncomputable def a62(w:aY):Key -> Int
 |.inl k=> hashInt k
 |.inr x=> hashStr w x
theorem vf: ∀{k:Key} {v:af},axi k v=true -> (∃i t,k=eI i/\v=dL i t)\/(∃x t,k=fm x/\v=eJ x t)
 |.inl i,v,h=> by
  obtain⟨t,e⟩:=Value.isInt_shape (k:=i) (v:=v) h
  exact .inl ⟨i,t,rfl,e⟩
 |.inr x,v,h=> by
  obtain⟨t,e⟩:=Value.isStrOf_shape (x:=x) (v:=v) h
  exact .inr ⟨x,t,rfl,e⟩
theorem a3z(a b:Int):decide ((eI a:Key)=eI b)=(a==b):=by
 by_cases e:a=b
 ·subst e;simp
 ·have h: ¬(eI a:Key)=eI b:=fun q=> e (eI.inj q)
  rw [decide_eq_false h]
  exact (beq_eq_false_iff_ne.mpr e).symm
theorem a13(a b:Str):decide ((fm a:Key)=fm b)=decide (a=b):=by
 by_cases e:a=b
 ·subst e;simp
 ·have h: ¬(fm a:Key)=fm b:=fun q=> e (fm.inj q)
  rw [decide_eq_false h,decide_eq_false e]
theorem a30(a:Int)(b:Str):decide ((eI a:Key)=fm b)=false:=decide_eq_false (fun q=> nomatch q)
theorem a36(a:Str)(b:Int):decide ((fm a:Key)=eI b)=false:=decide_eq_false (fun q=> nomatch q)
def adf(prog:aW)(w:aY):PySem.KeyKind prog w Key where
 is:=axi
 hash:=a62 w
 inj:=fun v a b ha hb=> by
  rcases vf ha with ⟨i,t,rfl,rfl⟩|⟨x,t,rfl,rfl⟩
  ·rcases vf hb with ⟨j,u,rfl,e⟩|⟨y,u,rfl,e⟩
   ·injection e with e1 _;rw [e1]
   ·exact nomatch e
  ·rcases vf hb with ⟨j,u,rfl,e⟩|⟨y,u,rfl,e⟩
   ·exact nomatch e
   ·injection e with e1 _;rw [e1]
 byValue:=fun k v h=> by
  rcases vf h with ⟨i,t,rfl,rfl⟩|⟨x,t,rfl,rfl⟩ <;> rfl
 pyHash:=fun hv h=> by
  rcases vf hv with ⟨i,t,rfl,rfl⟩|⟨x,t,rfl,rfl⟩
  ·exact wpAny_pyHash_int h
  ·exact wpAny_pyHash_str h
 eqBool:=fun hu hv h=> by
  rcases vf hu with ⟨i,t,rfl,rfl⟩|⟨x,t,rfl,rfl⟩
  ·rcases vf hv with ⟨j,u,rfl,rfl⟩|⟨y,u,rfl,rfl⟩
   ·rw [a3z]at h;exact wpAny_eqBool_int h
   ·rw [a30]at h;exact gY.int_str i t y u _ _ _ _ h
  ·rcases vf hv with ⟨j,u,rfl,rfl⟩|⟨y,u,rfl,rfl⟩
   ·rw [a36]at h;exact gY.str_int x t j u _ _ _ _ h
   ·rw [a13]at h;exact wpAny_eqBool_str h
 «strs»:=fun k x t v h=> by
  rcases vf h with ⟨i,u,rfl,e⟩|⟨y,u,rfl,e⟩
  ·exact nomatch e
  ·injection e with e1 _
   subst e1
   cases v <;> rfl
inductive V where
 |non|bl (b:Bool)|int (i:Int)|str (x:Str)|byt (b:Array UInt8)|flt (b:UInt64)|ref (a:Addr)|ty (n:String)
 deriving DecidableEq
def RelV:V -> af -> Prop
 |.non,u=> u=cx
 |.bl b,u=> u=dX b
 |.int i,u=> ∃t,u=dL i t
 |.str x,u=> ∃t,u=eJ x t
 |.byt b,u=> ∃t,u=Value.bytes b t
 |.flt b,u=> ∃t,u=iu b t
 |.ref a,u=> u=bu a
 |.ty n,u=> u=dj n
abbrev ju:List V -> List af -> Prop:=ie RelV
theorem ju.length{xs:List V}{us:List af}(r:ju xs us):xs.length=us.length:=Paired.length r
theorem ju.get: ∀{xs:List V} {us:List af} {i:Nat} {x:V},ju xs us -> xs[i]?=some x -> ∃u,us[i]?=some u/\RelV x u
 |_,_,_,_,.nil,e=> by simp at e
 |_,_,0,_,.cons r _,e=> by simp at e;subst e;exact⟨_,rfl,r⟩
 |_,_,i+1,x,.cons _ t,e=> by
  obtain⟨u,h1,h2⟩:=ju.get (i:=i) (x:=x) t (by simpa using e)
  exact⟨u,by simpa using h1,h2⟩
theorem ju.set{x:V}{u:af}(r:RelV x u): ∀{xs:List V} {us:List af} (i:Nat),ju xs us -> ju (xs.set i x) (us.set i u)
 |_,_,_,.nil=>.nil
 |_,_,0,.cons _ t=>.cons r t
 |_,_,i+1,.cons q t=>.cons q (ju.set r i t)
theorem ju.append: ∀{xs ys:List V} {us ws:List af},ju xs us -> ju ys ws -> ju (xs++ys) (us++ws)
 |_,_,_,_,.nil,s=> s
 |_,_,_,_,.cons r t,s=>.cons r (ju.append t s)
theorem ju.take: ∀{xs:List V} {us:List af} (n:Nat),ju xs us -> ju (xs.take n) (us.take n)
 |_,_,0,_=>.nil
 |_,_,_+1,.nil=>.nil
 |_,_,n+1,.cons r t=>.cons r (ju.take n t)
theorem ju.drop: ∀{xs:List V} {us:List af} (n:Nat),ju xs us -> ju (xs.drop n) (us.drop n)
 |_,_,0,r=> r
 |_,_,_+1,.nil=>.nil
 |_,_,n+1,.cons _ t=> ju.drop n t
def aca:Option V -> Option af -> Prop
 |some v,some u=> RelV v u
 |none,none=> True
 |_,_=> False
def KV{κ:Type}:List (κ×V) -> List (κ×af) -> Prop:=ie fun (p:κ×V) (q:κ×af)=> p.1=q.1/\RelV p.2 q.2
noncomputable def kV:Key -> V
 |.inl i=>.int i
 |.inr x=>.str x
inductive HO where
 /-- a list -/
 |lst (xs:List V)
 /-- a tuple (never changes) -/
 |tup (xs:List V)
 /-- a dict whose keys are ints and texts;one whose keys are tuples of ints and texts (the empty one is both) -/
 |dK (kvs:List (Key×V))|dT (kvs:List (List Key×V))
 /-- one whose keys are plain tuples -/
 |dD (kvs:List (ag×V))
 /-- a set of ints:its members,its size -/
 |set (S:Int -> Bool) (n:Nat)
 /-- an instance of the class at C,its dict at dx,its attributes -/
 |ins (C dx:Addr) (fs:List (Str×V))
 /-- the dict of the instance at x -/
 |own (x:Addr)
 /-- the dict of an exception -/
 |xd (fs:List (Str×V))
 /-- a bound method,f of x -/
 |met (f x:Addr)
 /-- a range object lo,lo+1,.. below hi -/
 |rng (lo hi:Int)
 /-- a thing that is known to the object (the script;a dict while a loop walks it):read,never written while it is so -/
 |frz (o:Obj) (u:HO)
 /-- a code object's table -/
 |tbl (ps:Array af)
 /-- an exception of the class at C,its attributes -/
 |exn (C:Addr) (fs:List (Str×V))
 /-- any other thing,by what is true of its one object (a def of one's own:SetO a S n:=HO.ext fun h=>..) -/
 |ext (φ:Heap -> Prop)
abbrev Hp:=Addr -> Option HO
mutual
inductive KD (H:Hp):V -> ag -> Prop
 |non:KD H .non .none
 |int (i:Int):KD H (.int i) (.int i)
 |str (x:Str):KD H (.str x) (.str x)
 |tup {p:Addr} {xs:List V} {ds:List ag}:H p=some (.tup xs) -> KDs H xs ds -> KD H (.ref p) (.tuple ds)
inductive KDs (H:Hp):List V -> List ag -> Prop
 |nil:KDs H [] []
 |cons {x:V} {xs:List V} {d:ag} {ds:List ag}:KD H x d -> KDs H xs ds -> KDs H (x::xs) (d::ds)
end
mutual
theorem KD.mono{H H':Hp}(ht: ∀b xs,H b=some (.tup xs) -> H' b=some (.tup xs)): ∀{v:V} {d:ag},KD H v d -> KD H' v d
 |_,_,.non=>.non
 |_,_,.int i=>.int i
 |_,_,.str x=>.str x
 |_,_,.tup e r=>.tup (ht _ _ e) (KDs.mono ht r)
theorem KDs.mono{H H':Hp}(ht: ∀b xs,H b=some (.tup xs) -> H' b=some (.tup xs)): ∀{v:List V} {d:List ag},KDs H v d -> KDs H' v d
 |_,_,.nil=>.nil
 |_,_,.cons a r=>.cons (KD.mono ht a) (KDs.mono ht r)
end
noncomputable def upd(H:Hp)(a:Addr)(o:HO):Hp:=fun b=> if b=a then some o else H b
theorem y7{H:Hp}{o:HO}:upd H a o a=some o:=by unfold upd;rw [if_pos rfl]
theorem k8{H:Hp}{o:HO}(h:b≠a):upd H a o b=H b:=by unfold upd;rw [if_neg h]
theorem yb{H:Hp}{o:HO}(h:H a=some o)(h':H b=none):a≠b:=by
 intro e;subst e;rw [h]at h';cases h'
def afe(h:Heap)(a:Addr)(its:Array af):Prop:= ∃n,h.get? a=some {cls:=.type "tuple",data:=.seq its n}
theorem afe.tup{its:Array af}(x:afe h a its):IsTup h a its:=let ⟨n,e⟩:=x;⟨_,e,rfl,n,rfl⟩
theorem afe.new(h:Heap)(its:Array af):afe (h.push {cls:=.type "tuple",data:=.seq its}) h.objs.size its:=⟨_,aB _ rfl⟩
abbrev a6u(C:Addr)(dx:Option Addr)(t:Addr):Obj:={cls:=.ref C,dict:=dx,data:=.fields #[.ref t,.none,.none,.none,.bool false,.none]}
section
variable(P:aW)(w:aY)
def qi(H:Hp)(h:Heap)(a:Addr):HO -> Prop
 |.lst xs=> xs.length <=sizeLine/\ ∃(its:List af) (n:Nat),ju xs its/\h.get? a=some {cls:=.type "list",data:=.seq its.toArray n}
 |.tup xs=> xs.length <=sizeLine/\ ∃its:List af,ju xs its/\afe h a its.toArray
 |.dK kvs=> kvs.length <=sizeLine/\(a==dk)=false/\ ∃vs,KV kvs vs/\h.DictOf (adf P w) a vs
 | .dT kvs=> kvs.length <=sizeLine/\(a==dk)=false/\ ∃xs:List (List Key×Addr×af),
   ie (fun (p:List Key×V) (q:List Key×Addr×af)=> p.1=q.1/\H q.2.1=some (.tup (p.1.map kV))/\RelV p.2 q.2.2) kvs xs/\
   ∃o es ep,h.get? a=some o/\o.ExactDict/\o.data=.dict es ep/\es.toList=xs.map (entryOfKey (tupleKind (adf P w)))/\(xs.map (·.1)).Nodup
 | .dD kvs=> kvs.length <=sizeLine/\(a==dk)=false/\ ∃xs:List (ag×Addr×af),
   ie (fun (p:ag×V) (q:ag×Addr×af)=> p.1=q.1/\(PF.ahk p.1=true/\KD H (.ref q.2.1) p.1)/\RelV p.2 q.2.2) kvs xs/\
   ∃o es ep,h.get? a=some o/\o.ExactDict/\o.data=.dict es ep/\es.toList=xs.map (entryOfKey (PF.aub P w))/\(xs.map (·.1)).Nodup
 |.set S n=> h.SetOf (intKind P w) a S n
 | .ins C dx fs=> H dx=some (.own a)/\fs.length <=1000/\dx≠a/\h.get? a=some (cc C dx)/\
   ∃mA,h.Ns1 dx mA/\(∀f,aca (fs.lookup f) (mA f))/\eO mA (fs.map (·.1))
 | .exn C fs=> fs.length <=1000/\ ∃(t:Addr) (dxo:Option Addr),h.get? a=some (a6u C dxo t)/\((dxo=none/\fs=[])\/ ∃dx,dxo=some dx/\H dx=some (.own a)/\dx≠a/\
   ∃mA,h.Ns1 dx mA/\(∀f,aca (fs.lookup f) (mA f))/\eO mA (fs.map (·.1)))
 |.own _=> ∃o,h.get? a=some o
 |.xd fs=> ∃mA,h.Ns1 a mA/\ ∀f,aca (fs.lookup f) (mA f)
 |.rng lo hi=> ∃t u v,h.get? a=some {cls:=.type "range",data:=.fields #[.int lo t,.int hi u,.int 1 v]}
 |.frz o u=> h.get? a=some o/\qi H h a u
 |.tbl ps=> h.get? a=some {cls:=.none,data:=.fields ps}
 |.met f x=> h.get? a=some (fR (.ref f) (.ref x))
 |.ext φ=> φ h/\(∃o,h.get? a=some o)/\ ∀h1 h2:Heap,φ h1 -> (∀o,h1.get? a=some o -> h2.get? a=some o) -> φ h2
def HOk(H:Hp)(h:Heap):Prop:= ∀a o,H a=some o -> qi P w H h a o
end
section
variable{P:aW}{w:aY}{H H':Hp}{h h':Heap}{a:Addr}{o:HO}
theorem qi.lt(x:qi P w H h a o):a < h.objs.size:=by
 cases o with
 |lst xs=> obtain⟨_,_,_,_,e⟩:=x;exact ay e
 |tup xs=> obtain⟨_,_,_,p⟩:=x;exact p.tup.lt
 |dK kvs=> obtain⟨_,_,_,_,o,_,_,e,_⟩:=x;exact ay e
 |dT kvs=> obtain⟨_,_,_,_,o,_,_,e,_⟩:=x;exact ay e
 |dD kvs=> obtain⟨_,_,_,_,o,_,_,e,_⟩:=x;exact ay e
 |set S n=> obtain⟨o,_,_,_,e,_⟩:=x;exact ay e
 |ins C dx fs=> obtain⟨_,_,_,e,_⟩:=x;exact ay e
 |exn C fs=> obtain⟨_,_,_,e,_⟩:=x;exact ay e
 |own y=> obtain⟨_,e⟩:=x;exact ay e
 |xd fs=> obtain⟨_,⟨_,_,_,e,_⟩,_⟩:=x;exact ay e
 |rng lo hi=> obtain⟨_,_,_,e⟩:=x;exact ay e
 |frz ob u=> obtain⟨e,_⟩:=x;exact ay e
 |tbl ps=> exact ay (show h.get? a=some _ from x)
 |met f y=> exact ay (show h.get? a=some _ from x)
 |ext φ=> obtain⟨_,⟨_,e⟩,_⟩:=x;exact ay e
theorem Paired.mapP{α β:Type}{F G:α -> β -> Prop}: ∀{l₁:List α} {l₂:List β},ie F l₁ l₂ -> (∀a b,F a b -> G a b) -> ie G l₁ l₂
 |_,_,.nil,_=>.nil
 |_,_,.cons r t,f=>.cons (f _ _ r) (Paired.mapP t f)
theorem qi.stay(x:qi P w H h a o)(k: ∀b u,(b=a\/H b=some (.own a)) -> h.get? b=some u -> h'.get? b=some u)
  (ho: ∀b,H b=some (.own a) -> H' b=some (.own a)) (ht: ∀b xs,H b=some (.tup xs) -> H' b=some (.tup xs)):qi P w H' h' a o:=by
 induction o with
 |lst xs=> obtain⟨z,its,n,r,e⟩:=x;exact⟨z,its,n,r,k _ _ (.inl rfl) e⟩
 |tup xs=> obtain⟨z,its,r,n,e⟩:=x;exact⟨z,its,r,n,k _ _ (.inl rfl) e⟩
 |dK kvs=> obtain⟨z,y,vs,r,ob,es,ep,e,c⟩:=x;exact⟨z,y,vs,r,ob,es,ep,k _ _ (.inl rfl) e,c⟩
 |dT kvs=>
  obtain⟨z,y,xs,r,ob,es,ep,e,c⟩:=x
  exact⟨z,y,xs,Paired.mapP r fun p q z=> ⟨z.1,ht _ _ z.2.1,z.2.2⟩,ob,es,ep,k _ _ (.inl rfl) e,c⟩
 |dD kvs=>
  obtain⟨z,y,xs,r,ob,es,ep,e,c⟩:=x
  exact⟨z,y,xs,Paired.mapP r fun p q z=> ⟨z.1,⟨z.2.1.1,z.2.1.2.mono ht⟩,z.2.2⟩,ob,es,ep,k _ _ (.inl rfl) e,c⟩
 |set S n=> obtain⟨ob,es,ep,t,e,c⟩:=x;exact⟨ob,es,ep,t,k _ _ (.inl rfl) e,c⟩
 |ins C dx fs=>
  obtain⟨d,z,ne,e,mA,⟨od,es,ep,e2,c⟩,r⟩:=x
  exact⟨ho _ d,z,ne,k _ _ (.inl rfl) e,mA,⟨od,es,ep,k _ _ (.inr d) e2,c⟩,r⟩
 |exn C fs=>
  obtain⟨z,t,dxo,e,q⟩:=x
  refine⟨z,t,dxo,k _ _ (.inl rfl) e,?_⟩
  rcases q with q|⟨dx,q,d,ne,mA,⟨od,es,ep,e2,c⟩,r⟩
  ·exact .inl q
  ·exact .inr ⟨dx,q,ho _ d,ne,mA,⟨od,es,ep,k _ _ (.inr d) e2,c⟩,r⟩
 |own y=> obtain⟨ob,e⟩:=x;exact⟨ob,k _ _ (.inl rfl) e⟩
 |xd fs=> obtain⟨mA,⟨od,es,ep,e,c⟩,r⟩:=x;exact⟨mA,⟨od,es,ep,k _ _ (.inl rfl) e,c⟩,r⟩
 |rng lo hi=> obtain⟨t,u,v,e⟩:=x;exact⟨t,u,v,k _ _ (.inl rfl) e⟩
 |frz ob u ih=> obtain⟨e,q⟩:=x;exact⟨k _ _ (.inl rfl) e,ih q⟩
 |tbl ps=>
  have e:h.get? a=some {cls:=.none,data:=.fields ps}:=x
  show h'.get? a=some {cls:=.none,data:=.fields ps}
  exact k a _ (.inl rfl) e
 |met f y=>
  have e:h.get? a=some (fR (.ref f) (.ref y)):=x
  show h'.get? a=some (fR (.ref f) (.ref y))
  exact k a _ (.inl rfl) e
 |ext φ=> obtain⟨p,⟨o,e⟩,st⟩:=x;exact⟨st _ _ p fun o q=> k _ _ (.inl rfl) q,⟨o,k _ _ (.inl rfl) e⟩,st⟩
theorem HOk.lt(x:HOk P w H h)(e:H a=some o):a < h.objs.size:=(x a o e).lt
theorem HOk.fresh(x:HOk P w H h)(e:h.objs.size <=a):H a=none:=by
 cases q:H a with
 |none=> rfl
 |some u=> exact absurd (aD (x.lt q) e) (bZ _)
theorem HOk.kept(x:HOk P w H h)(k: ∀b u,h.get? b=some u -> h'.get? b=some u):HOk P w H h':=fun a o e=>
 (x a o e).stay (fun b u _ q=> k b u q) (fun _ q=> q) fun _ _ q=> q
theorem HOk.laid(x:HOk P w H h)(k: ∀b u,h.get? b=some u -> h'.get? b=some u)(hp:h.objs.size <=a)(new:qi P w (upd H a o) h' a o):HOk P w (upd H a o) h':=fun b u e=> by
 have hn:=x.fresh hp
 by_cases hb:b=a
 ·subst hb;rw [y7]at e;cases e;exact new
 ·rw [k8 hb]at e
  exact (x b u e).stay (fun c v _ q=> k c v q) (fun c q=> by rw [k8 (yb q hn)];exact q) fun c xs q=> by rw [k8 (yb q hn)];exact q
end
def Rd(H:Hp)(a:Addr)(u:HO):Prop:=H a=some u\/ ∃o,H a=some (.frz o u)
theorem Rd.ok{H:Hp}{u:HO}(r:Rd H a u)(x:HOk P w H h):qi P w H h a u:=by
 rcases r with r|⟨o,r⟩
 ·exact x a u r
 ·obtain⟨_,q⟩:=x a _ r
  exact q
def Mut:Option HO -> Prop
 |some (.lst _)=> True
 |some (.dK _)=> True
 |some (.dT _)=> True
 |some (.dD _)=> True
 |some (.set _ _)=> True
 |some (.ins _ _ _)=> True
 |some (.ext _)=> True
 |some (.exn _ _)=> True
 |_=> False
section
variable{P:aW}{w:aY}{H:Hp}{h h':Heap}{x e:Addr}{o':HO}
theorem HOk.write(ok:HOk P w H h)(mu:Mut (H x))(he:e=x\/H e=some (.own x))(k: ∀b u,b≠e -> h.get? b=some u -> h'.get? b=some u)(heo: ∃u,h'.get? e=some u)
  (new:qi P w (upd H x o') h' x o'):HOk P w (upd H x o') h':=fun b u q=> by
 have nown: ∀c y,H c=some (.own y) -> c≠x:=fun c y r z=> by subst z;rw [r]at mu;exact mu
 have ntup: ∀c xs,H c=some (.tup xs) -> c≠x:=fun c xs r z=> by subst z;rw [r]at mu;exact mu
 by_cases hb:b=x
 ·subst hb;rw [y7]at q;cases q;exact new
 ·rw [k8 hb]at q
  by_cases hbe:b=e
  ·have q':H b=some (.own x):=by
    rcases he with z|z
    ·exact absurd (hbe.trans z) hb
    ·rw [hbe];exact z
   rw [q]at q';cases q'
   obtain⟨v,hv⟩:=heo
   exact⟨v,by rw [hbe];exact hv⟩
  ·refine (ok b u q).stay (fun c v hc r=> k c v ?_ r) (fun c r=> by rw [k8 (nown c b r)];exact r) fun c xs r=> by rw [k8 (ntup c xs r)];exact r
   rcases hc with rfl|hc
   ·exact hbe
   ·rintro rfl
    rcases he with z|z
    ·exact nown c b hc z
    ·rw [hc]at z;cases z;exact hb rfl
end
structure Un (fs ex:List Addr) (H H':Hp) (h h':Heap):Prop where
 keep: ∀b o,h.get? b=some o -> H b=none -> b∉fs -> b∉ex -> h'.get? b=some o
 slot: ∀b o,h.get? b=some o -> H b=none -> b∈fs -> b∉ex -> ∃sl,h'.get? b=some {o with slots:=sl}
 free: ∀b o,h.get? b=some o -> H b=none -> b∉ex -> H' b=none
 there: ∀b o,h.get? b=some o -> b∉ex -> ∃o',h'.get? b=some o'
 tups: ∀b xs,H b=some (.tup xs) -> H' b=some (.tup xs)
 frzs: ∀b o u,H b=some (.frz o u) -> H' b=some (.frz o u)
 tbls: ∀b ps,H b=some (.tbl ps) -> ∃more,H' b=some (.tbl (ps++more))
section
variable{fs fs' ex ex':List Addr}{H H1 H2:Hp}{h h1 h2 h':Heap}{a x e:Addr}{o:HO}
theorem Un.any(u:Un fs ex H H1 h h1){ob:Obj}(q:h.get? b=some ob)(n:H b=none)(hx:b∉ex): ∃sl,h1.get? b=some {ob with slots:=sl}:=by
 by_cases hb:b∈fs
 ·exact u.slot b ob q n hb hx
 ·exact⟨ob.slots,u.keep b ob q n hb hx⟩
theorem Un.kept(k: ∀b u,h.get? b=some u -> h'.get? b=some u):Un fs ex H H h h':=
 ⟨fun b ob q _ _ _=> k b ob q,fun b ob q _ _ _=> ⟨ob.slots,k b ob q⟩,fun _ _ _ n _=> n,fun b ob q _=> ⟨ob,k b ob q⟩,fun _ _ q=> q,fun _ _ _ q=> q,fun _ ps q=> ⟨#[],by rw [q];simp⟩⟩
theorem Un.refl:Un fs ex H H h h:=Un.kept fun _ _ q=> q
theorem Un.laid(k: ∀b u,h.get? b=some u -> h'.get? b=some u)(hp:h.objs.size <=a)(hn:H a=none):Un fs ex H (upd H a o) h h' where
 keep:=fun b u q _ _ _=> k b u q
 slot:=fun b u q _ _ _=> ⟨u.slots,k b u q⟩
 free:=fun b u q n _=> by rw [k8 (aT (aD (ay q) hp))];exact n
 there:=fun b u q _=> ⟨u,k b u q⟩
 tups:=fun b xs q=> by rw [k8 (yb q hn)];exact q
 frzs:=fun b u xs q=> by rw [k8 (yb q hn)];exact q
 tbls:=fun b ps q=> ⟨#[],by rw [k8 (yb q hn),q];simp⟩
theorem Un.write(mu:Mut (H x))(he:e=x\/H e=some (.own x))(k: ∀b u,b≠e -> h.get? b=some u -> h'.get? b=some u)(heo: ∃u,h'.get? e=some u):Un fs ex H (upd H x o) h h':=by
 have hx: ∀b,H b=none -> b≠x:=fun b n z=> by subst z;rw [n]at mu;exact mu
 have hb: ∀b,H b=none -> b≠e:=fun b n z=> by
  subst z
  rcases he with r|r
  ·exact hx b n r
  ·rw [n]at r;cases r
 have hm: ∀b u,H b=some u -> ¬Mut (some u) -> b≠x:=fun b u q nm z=> by subst z;rw [q]at mu;exact nm mu
 refine⟨fun b u q n _ _=> k b u (hb b n) q,fun b u q n _ _=> ⟨u.slots,k b u (hb b n) q⟩,fun b u q n _=> by rw [k8 (hx b n)];exact n,fun b u q _=> ?_,
  fun b xs q=> by rw [k8 (hm b _ q fun z=> z)];exact q,fun b u xs q=> by rw [k8 (hm b _ q fun z=> z)];exact q,fun b ps q=> ⟨#[],by rw [k8 (hm b _ q fun z=> z),q];simp⟩⟩
 by_cases hbe:b=e
 ·subst hbe;exact heo
 ·exact⟨u,k b u hbe q⟩
end
noncomputable def trk(h:Heap)(H:Hp):List Addr:=(dm h.objs.size).filter fun a=> (H a).isSome
def aep(h:Heap)(H:Hp):Heap:=PySem.W.hideAll h (trk h H)
theorem asy(h:Heap)(H:Hp):(aep h H).objs.size=h.objs.size:=PySem.W.hideAll_size _ _
theorem aty{H:Hp}{o:Obj}(e:h.get? b=some o)(n:H b=none):(aep h H).get? b=some o:=
 PySem.W.hideAll_get _ e fun hm=> by
  have q:(H b).isSome=true:=(bU.mp hm).2
  rw [n]at q;simp at q
theorem azw{H:Hp}{o:Obj}(e:(aep h H).get? b=some o):h.get? b=some o/\H b=none:=by
 have e':h.get? b=some o:=PySem.W.of_hideAll (trk h H) e
 refine⟨e',?_⟩
 cases q:H b with
 |none=> rfl
 |some x=>
  have hm:b∈trk h H:=bU.mpr ⟨gJ.mpr (ay e'),by simp [q]⟩
  have z:(aep h H).get? b=none:=PySem.W.hideAll_none (trk h H) hm
  rw [z]at e;cases e
noncomputable def axo(g h:Heap)(L:Addr):List (Addr×Obj):=(dm h.objs.size).filterMap fun a=> if a=L\/(g.get? a).isSome=true then none else (h.get? a).map fun o=> (a,o)
def jp(g h:Heap)(L d:Addr):List (Addr×Obj):=(axo g h L).filter fun p=> decide (p.1≠d)
structure Mod (K:ah) (mg:Str -> Option af) (base:Heap):Prop where
 kin:K.In base
 glob:base.Ns aI mg
 blt: ∃mb,base.Ns builtinsNs mb/\ ∀x:Str,x≠"__name__" -> mb x=aX x
 nolimit:base.NoLimit
structure Cx where
 prog:aW
 w:aY
 K:ah
 mg:Str -> Option af
 base:Heap
 A:bd
 N:List Str
 s₀:ak
 H₀:Hp
 env:Env
 outer:List Env
 stack:List Env
 ex:List Addr
 fn:Str -> Bool
 calm:Bool
 pn:List (Addr×Obj)
 xe:af -> ak -> Prop
noncomputable def frs(l:List Env):List Addr:=l.filterMap (·.frame)
abbrev Cx.fs(X:Cx):List Addr:=frs X.outer
def Vis(sc:dY)(x:Str):Prop:=sc.names.lookup x=some .local\/sc.names.lookup x=some .cell\/sc.names.lookup x=some .free
def Loc(sc:dY)(x:Str):Prop:=sc.names.lookup x=some .local\/sc.names.lookup x=some .cell
def Look(env:Env)(h:Heap)(m:Str -> Option af)(x:Str)(u:af):Prop:=
 (env.kindOf x=some .local/\m x=some u)\/((env.kindOf x=some .cell\/env.kindOf x=some .free)/\ ∃c,env.cells.lookup x=some c/\h.IsCell c (some u))
structure Cx.Ok (X:Cx):Prop where
 mod:Mod X.K X.mg X.base
 kind:X.env.scope.kind=.function
 glob:X.env.globals=aI
 blt:X.env.builtins=builtinsNs
 above:X.s₀.heap.objs.size <=X.env.locals
 inj: ∀x y c,X.env.cells.lookup x=some c -> X.env.cells.lookup y=some c -> x=y
 has: ∀x,(X.env.kindOf x=some .cell\/X.env.kindOf x=some .free) -> ∃c,X.env.cells.lookup x=some c
 cab: ∀x c,X.fn x=true -> X.env.cells.lookup x=some c -> X.s₀.heap.objs.size <=c
 hd:X.calm=true -> X.A.handled=none
 frames:X.A.frames=some X.stack
 stk:X.stack=X.outer\/(X.stack=X.env::X.outer/\X.env.frame=some X.env.locals)
 exf: ∀b∈X.ex,b≠X.env.locals/\ ∀x c,X.env.cells.lookup x=some c -> c≠b
 bs: ∀b o,X.base.get? b=some o -> X.s₀.heap.get? b=some o/\X.H₀ b=none
 bsz:X.base.objs.size <=X.s₀.heap.objs.size
 noex: ∀b o,X.base.get? b=some o -> b∉X.ex
 exfs: ∀b∈X.ex,b∉X.fs
 funs:X.s₀.heap.FunFrames X.base X.outer
 frf: ∀b∈X.fs,X.H₀ b=none
structure Inv (X:Cx) (pins:List (Addr×Obj)) (σ:List (Option V)) (H:Hp) (s:ak):Prop where
 ok:X.Ok
 os:s.os=X.s₀.os
 bare:eK s.gens
 base:Un X.fs X.ex X.H₀ H X.s₀.heap s.heap
 loc: ∃m,s.heap.Ns X.env.locals m/\ ∀(i:Nat) (x:Str) (v:V),X.N[i]?=some x -> σ[i]?=some (some v) -> Vis X.env.scope x -> ∃u,RelV v u/\Look X.env s.heap m x u
 cell: ∀x c,X.env.cells.lookup x=some c -> ∃v,s.heap.IsCell c v
 free:H X.env.locals=none
 freeC: ∀x c,X.env.cells.lookup x=some c -> H c=none
 pin: ∀p∈X.pn++pins,s.heap.get? p.1=some p.2/\H p.1=none/\p.1≠X.env.locals/\p.1∉X.fs/\ ∀v,p.2.data≠ .cell v
 hok:HOk X.prog X.w H s.heap
 len:σ.length=X.N.length
section
variable{X:Cx}{pins:List (Addr×Obj)}{σ:List (Option V)}{H H':Hp}{s:ak}{h':Heap}
theorem Cx.Ok.nofr(ok:X.Ok){o:Obj}(e:X.base.get? b=some o):b∉X.fs:=fun hb=> by
 have:=(ok.funs.mem hb).1
 rw [e]at this;cases this
theorem Inv.bs(I:Inv X pins σ H s): ∀b o,X.base.get? b=some o -> s.heap.get? b=some o/\H b=none:=fun b o e=>
 ⟨I.base.keep b o (I.ok.bs b o e).1 (I.ok.bs b o e).2 (I.ok.nofr e) (I.ok.noex b o e),I.base.free b o (I.ok.bs b o e).1 (I.ok.bs b o e).2 (I.ok.noex b o e)⟩
theorem Inv.bk(I:Inv X pins σ H s): ∀b o,X.base.get? b=some o -> s.heap.get? b=some o:=fun b o e=> (I.bs b o e).1
theorem Inv.mod(I:Inv X pins σ H s):Mod X.K X.mg X.base:=I.ok.mod
theorem Inv.kIn(I:Inv X pins σ H s):X.K.In s.heap:=I.ok.mod.kin.keeps I.bk
theorem Inv.lt(I:Inv X pins σ H s):X.env.locals < s.heap.objs.size:=let ⟨_,hn,_⟩:=I.loc;hn.lt
theorem Inv.sz(I:Inv X pins σ H s):X.s₀.heap.objs.size <=s.heap.objs.size:=aQ I.ok.above (fY I.lt)
theorem Inv.nofs(I:Inv X pins σ H s)(h:s.heap.objs.size <=a):a∉X.fs:=fun hb=> by
 obtain⟨_,o,ho,_⟩:=I.ok.funs.mem hb
 exact absurd (aD (ay ho) (aQ I.sz h)) (bZ _)
theorem Inv.cne(I:Inv X pins σ H s): ∀x c,X.env.cells.lookup x=some c -> c≠X.env.locals:=fun x c e z=> by
 obtain⟨v,o,ho,hd⟩:=I.cell x c e
 obtain⟨m,⟨o',es,ep,ho',hd',_⟩,_⟩:=I.loc
 rw [z,ho']at ho;cases ho;rw [hd']at hd;cases hd
theorem Inv.funs(I:Inv X pins σ H s):s.heap.FunFrames X.base X.outer:=by
 have all: ∀(l:List Env),(∀b∈frs l,b∈X.fs) -> X.s₀.heap.FunFrames X.base l -> s.heap.FunFrames X.base l:=by
  intro l
  induction l with
  |nil=> intro _ _;trivial
  |cons env r ih=>
   intro hs hl
   obtain⟨hk,⟨L,o,hf,hn,ho,hd⟩,hr⟩:=hl
   have hL:L∈X.fs:=hs L (by unfold frs;rw [fg,hf];exact aC)
   obtain⟨sl,e⟩:=I.base.slot L o ho (I.ok.frf L hL) hL fun z=> I.ok.exfs L z hL
   exact⟨hk,⟨L,_,hf,hn,e,hd⟩,ih (fun b hb=> hs b (by unfold frs;rw [fg,hf];exact az _ hb)) hr⟩
 exact all X.outer (fun _ hb=> hb) I.ok.funs
theorem Inv.stack(I:Inv X pins σ H s):s.heap.FunFrames X.base X.stack:=by
 rcases I.ok.stk with e|⟨e,hf⟩
 ·rw [e];exact I.funs
 ·rw [e]
  obtain⟨m,hn,_⟩:=I.loc
  refine .cons (by rw [I.ok.kind];decide) hf hn ?_ I.funs
  exact Heap.get?_none_of_le (aQ I.ok.bsz I.ok.above)
theorem Inv.stkSub(I:Inv X pins σ H s): ∀b∈frs X.stack,b∈X.env.locals::X.fs:=fun b hb=> by
 rcases I.ok.stk with e|⟨e,hf⟩
 ·rw [e]at hb;exact az _ hb
 ·rw [e]at hb
  unfold frs at hb
  rw [fg,hf]at hb
  exact hb
theorem Inv.stkFree(I:Inv X pins σ H s): ∀b∈frs X.stack,H b=none:=fun b hb=> by
 rcases aw.mp (I.stkSub b hb) with e|hb
 ·rw [e];exact I.free
 ·obtain⟨_,o,ho,_⟩:=I.ok.funs.mem hb
  exact I.base.free b o ho (I.ok.frf b hb) fun z=> I.ok.exfs b z hb
theorem Inv.step{g':Array GenState}{d':Drawn}(I:Inv X pins σ H s)(hch: ∀b∈ch,(b∈X.ex\/X.s₀.heap.objs.size <=b)/\b≠X.env.locals/\(∀x c,X.env.cells.lookup x=some c -> c≠b)/\ ∀p∈X.pn++pins,p.1≠b)(keep: ∀b o,b≠X.env.locals -> b∉X.fs -> b∉ch -> s.heap.get? b=some o -> H b=none -> h'.get? b=some o)(slot: ∀b o,b≠X.env.locals -> b∈X.fs -> b∉ch -> s.heap.get? b=some o -> H b=none -> ∃sl,h'.get? b=some {o with slots:=sl})(free: ∀b o,b∉ch -> s.heap.get? b=some o -> H b=none -> H' b=none)(there: ∀b o,b∉ch -> s.heap.get? b=some o -> ∃o',h'.get? b=some o')(tups: ∀b xs,H b=some (.tup xs) -> H' b=some (.tup xs))(frzs: ∀b o u,H b=some (.frz o u) -> H' b=some (.frz o u))(tbls: ∀b ps,H b=some (.tbl ps) -> ∃more,H' b=some (.tbl (ps++more)))(ns: ∀m,s.heap.Ns X.env.locals m -> h'.Ns X.env.locals m)(hok:HOk X.prog X.w H' h')(hg:eK g'):
  Inv X pins σ H' {s with heap:=h',gens:=g',drawn:=d',toks:=t'}:=by
 have neL: ∀b o,X.s₀.heap.get? b=some o -> b≠X.env.locals:=fun b o e=> aT (aD (ay e) I.ok.above)
 have neC: ∀b o,X.s₀.heap.get? b=some o -> b∉X.ex -> b∉ch:=fun b o e hx hb=> by
  rcases (hch b hb).1 with z|z
  ·exact hx z
  ·exact absurd (aD (ay e) z) (bZ _)
 have cellK: ∀x c,X.env.cells.lookup x=some c -> ∀v,s.heap.IsCell c v -> h'.IsCell c v:=fun x c e v ⟨o,ho,hd⟩=> by
  have nch:c∉ch:=fun z=> (hch c z).2.2.1 x c e rfl
  by_cases hc:c∈X.fs
  ·obtain⟨sl,q⟩:=slot c o (I.cne x c e) hc nch ho (I.freeC x c e)
   exact⟨_,q,hd⟩
  ·exact⟨o,keep c o (I.cne x c e) hc nch ho (I.freeC x c e),hd⟩
 refine⟨I.ok,I.os,hg,⟨fun b o e n hb hx=> ?_,fun b o e n hb hx=> ?_,fun b o e n hx=> ?_,fun b o e hx=> ?_,fun b xs e=> tups b xs (I.base.tups b xs e),fun b o xs e=> frzs b o xs (I.base.frzs b o xs e),fun b ps e=> ?_⟩,?_,fun x c e=> ?_,?_,fun x c e=> ?_,fun p hp=> ?_,hok,I.len⟩
 ·exact keep b o (neL b o e) hb (neC b o e hx) (I.base.keep b o e n hb hx) (I.base.free b o e n hx)
 ·obtain⟨sl,e1⟩:=I.base.slot b o e n hb hx
  obtain⟨sl',e2⟩:=slot b _ (neL b o e) hb (neC b o e hx) e1 (I.base.free b o e n hx)
  exact⟨sl',e2⟩
 ·obtain⟨o',e1⟩:=I.base.there b o e hx
  exact free b o' (neC b o e hx) e1 (I.base.free b o e n hx)
 ·obtain⟨o',e1⟩:=I.base.there b o e hx
  exact there b o' (neC b o e hx) e1
 ·obtain⟨m1,e1⟩:=I.base.tbls b ps e
  obtain⟨m2,e2⟩:=tbls b _ e1
  exact⟨m1++m2,by rw [e2,Array.append_assoc]⟩
 ·obtain⟨m,hn,hl⟩:=I.loc
  refine⟨m,ns m hn,fun i x v e1 e2 e3=> ?_⟩
  obtain⟨u,r,l⟩:=hl i x v e1 e2 e3
  refine⟨u,r,?_⟩
  rcases l with l|⟨k,c,e,z⟩
  ·exact .inl l
  ·exact .inr ⟨k,c,e,cellK x c e _ z⟩
 ·obtain⟨v,z⟩:=I.cell x c e
  exact⟨v,cellK x c e v z⟩
 ·obtain⟨m,⟨o,_,_,ho,_⟩,_⟩:=I.loc
  exact free _ o (fun z=> (hch _ z).2.1 rfl) ho I.free
 ·obtain⟨v,o,ho,hd⟩:=I.cell x c e
  exact free c o (fun z=> (hch c z).2.2.1 x c e rfl) ho (I.freeC x c e)
 ·obtain⟨e,n,ne,nf,d⟩:=I.pin p hp
  have nch:p.1∉ch:=fun z=> (hch p.1 z).2.2.2 p hp rfl
  exact⟨keep p.1 p.2 ne nf nch e n,free p.1 p.2 nch e n,ne,nf,d⟩
theorem Inv.un(I:Inv X pins σ H s)(u:Un X.fs [] H H' s.heap h')(hok:HOk X.prog X.w H' h'):Inv X pins σ H' {s with heap:=h',toks:=t'}:=by
 obtain⟨m,⟨o,es,ep,ho,r⟩,_⟩:=id I.loc
 obtain⟨sl,hL⟩:=u.any ho I.free (by simp)
 exact I.step (g':=s.gens) (d':=s.drawn) (ch:=[]) (fun _ z=> nomatch z) (fun b o _ hb _ e n=> u.keep b o e n hb (by simp)) (fun b o _ hb _ e n=> u.slot b o e n hb (by simp)) (fun b o _ e n=> u.free b o e n (by simp)) (fun b o _ e=> u.there b o e (by simp)) u.tups u.frzs u.tbls (fun m' hm=> by
  obtain⟨o',es',ep',ho',r'⟩:=hm
  rw [ho]at ho';cases ho'
  exact⟨_,es',ep',hL,r'⟩) hok I.bare
theorem Inv.call{g':Array GenState}{d':Drawn}(I:Inv X pins σ H s)(u:Un (frs X.stack) ch H H' s.heap h')(hok:HOk X.prog X.w H' h')(hg:eK g')(hch: ∀b∈ch,(b∈X.ex\/X.s₀.heap.objs.size <=b)/\b≠X.env.locals/\(∀x c,X.env.cells.lookup x=some c -> c≠b)/\ ∀p∈X.pn++pins,p.1≠b):
  Inv X pins σ H' {s with heap:=h',gens:=g',drawn:=d',toks:=t'}:=by
 obtain⟨m,⟨o,es,ep,ho,r⟩,_⟩:=id I.loc
 obtain⟨sl,hL⟩:=u.any ho I.free fun z=> (hch _ z).2.1 rfl
 exact I.step (ch:=ch) hch (fun b o hL hb hc e n=> u.keep b o e n (fun z=> (aw.mp (I.stkSub b z)).elim hL hb) hc) (fun b o _ _ hc e n=> u.any e n hc) (fun b o hc e n=> u.free b o e n hc) (fun b o hc e=> u.there b o e hc) u.tups u.frzs u.tbls (fun m' hm=> by
  obtain⟨o',es',ep',ho',r'⟩:=hm
  rw [ho]at ho';cases ho'
  exact⟨_,es',ep',hL,r'⟩) hok hg
theorem Inv.turned{it:Addr}(I:Inv X pins σ H s)(k: ∀b o,b≠it -> s.heap.get? b=some o -> h'.get? b=some o)(hn:H it=none)(hL:it≠X.env.locals)(h1:it∈X.ex\/X.s₀.heap.objs.size <=it)(h2: ∀x c,X.env.cells.lookup x=some c -> c≠it)(h3: ∀p∈X.pn++pins,p.1≠it):Inv X pins σ H {s with heap:=h',toks:=t'}:=by
 have nit: ∀b u,H b=some u -> b≠it:=fun b u e z=> by rw [z,hn]at e;cases e
 refine I.step (g':=s.gens) (d':=s.drawn) (ch:=[it]) (fun b hb=> ?_) (fun b o _ _ hc e _=> k b o (fun z=> hc (by simp [z])) e) (fun b o _ _ hc e _=> ⟨o.slots,k b o (fun z=> hc (by simp [z])) e⟩) (fun _ _ _ _ n=> n)
  (fun b o hc e=> ⟨o,k b o (fun z=> hc (by simp [z])) e⟩) (fun _ _ e=> e) (fun _ _ _ e=> e) (fun b ps e=> ⟨#[],by rw [e];simp⟩) (fun m hm=> ?_) (fun b u e=> ?_) I.bare
 ·have e:b=it:=by simpa using hb
  subst e
  exact⟨h1,hL,h2,h3⟩
 ·obtain⟨o,es,ep,ho,r⟩:=hm
  exact⟨o,es,ep,k _ o (c8 hL) ho,r⟩
 ·refine (I.hok b u e).stay (fun c v hc q=> k c v ?_ q) (fun _ q=> q) fun _ _ q=> q
  rcases hc with z|z
  ·rw [z];exact nit b u e
  ·exact nit c _ z
theorem Inv.tok(I:Inv X pins σ H s)(t:Nat):Inv X pins σ H {s with toks:=t}:=I.un (h':=s.heap) (t':=t) Un.refl I.hok
theorem Inv.kept(I:Inv X pins σ H s)(k: ∀b u,s.heap.get? b=some u -> h'.get? b=some u):Inv X pins σ H {s with heap:=h',toks:=t'}:=I.un (Un.kept k) (I.hok.kept k)
theorem Inv.laid{o:HO}(I:Inv X pins σ H s)(k: ∀b u,s.heap.get? b=some u -> h'.get? b=some u)(hp:s.heap.objs.size <=a)(new:qi X.prog X.w (upd H a o) h' a o):
  Inv X pins σ (upd H a o) {s with heap:=h',toks:=t'}:=I.un (Un.laid k hp (I.hok.fresh hp)) (I.hok.laid k hp new)
theorem Inv.write{x e:Addr}{o:HO}(I:Inv X pins σ H s)(mu:Mut (H x))(he:e=x\/H e=some (.own x))(k: ∀b u,b≠e -> s.heap.get? b=some u -> h'.get? b=some u)(heo: ∃u,h'.get? e=some u)(new:qi X.prog X.w (upd H x o) h' x o):Inv X pins σ (upd H x o) {s with heap:=h',toks:=t'}:=I.un (Un.write mu he k heo) (I.hok.write mu he k heo new)
theorem Inv.pins_of{pins':List (Addr×Obj)}(I:Inv X pins σ H s)(h: ∀p∈pins',s.heap.get? p.1=some p.2/\H p.1=none/\p.1≠X.env.locals/\p.1∉X.fs/\ ∀v,p.2.data≠ .cell v):Inv X pins' σ H s:=
 ⟨I.ok,I.os,I.bare,I.base,I.loc,I.cell,I.free,I.freeC,fun p hp=> (a7.mp hp).elim (fun z=> I.pin p (cf _ z)) (h p),I.hok,I.len⟩
theorem an8{N:List Str}(hN:N.Nodup){j:Nat}(a:N[i]?=some x)(b:N[j]?=some x):i=j:=by
 obtain⟨h1,e1⟩:=aq.mp a
 obtain⟨h2,e2⟩:=aq.mp b
 exact (List.getElem_inj hN).mp (e1.trans e2.symm)
theorem ak2{v:V}(I:Inv X pins σ H s)(hN:X.N.Nodup)(hi:X.N[i]?=some x)(hx:Loc X.env.scope x)(r:RelV v u)(h: ∀s',Inv X pins (σ.set i (some v)) H s' -> (∃a,bh a s.heap s'.heap/\(a=X.env.locals\/X.env.cells.lookup x=some a)) -> Q () s')(hf:X.fn x=true\/X.env.scope.names.lookup x=some .local:=by first|exact .inl rfl|exact .inr rfl|assumption):wpAny M A (storeName X.env x u) Q E s:=by
 obtain⟨m,hn,hl⟩:=id I.loc
 have hcls:(X.env.scope.kind==.class||(X.env.scope.kind==.module&&X.env.locals !=X.env.globals))=false:=by rw [I.ok.kind];rfl
 have hiσ:i < σ.length:=by rw [I.len];exact (aq.mp hi).1
 have cne:=I.cne
 have tracked: ∀{a:Addr} {h':Heap},(∃o,s.heap.get? a=some o/\H a=none) -> bh a s.heap h' -> HOk X.prog X.w H h':=fun {a h'} ha hs b ob e=> by
  obtain⟨_,_,hfree⟩:=ha
  refine (I.hok b ob e).stay (fun c w' hc q=> (hs.2 c ?_).trans q) (fun _ q=> q) fun _ _ q=> q
  rintro rfl
  rcases hc with rfl|hc
  ·rw [hfree]at e;cases e
  ·rw [hfree]at hc;cases hc
 rcases hx with hk|hk
 ·refine wpAny_storeName_local hk hn (fun h' hn' hs=> ?_) hcls
  obtain⟨oL,_,_,hoL,_⟩:=id hn
  refine h _ ⟨I.ok,I.os,I.bare,⟨fun b o e n hb hx=> ?_,fun b o e n hb hx=> ?_,I.base.free,fun b o e hx=> ?_,I.base.tups,I.base.frzs,I.base.tbls⟩,⟨_,hn',fun j y v' e1 e2 e3=> ?_⟩,fun y c e=> ?_,I.free,I.freeC,fun p hp=> ?_,tracked ⟨oL,hoL,I.free⟩ hs,by simpa using I.len⟩ ⟨_,hs,.inl rfl⟩
  ·exact (hs.2 b (aT (aD (ay e) I.ok.above))).trans (I.base.keep b o e n hb hx)
  ·obtain⟨sl,e1⟩:=I.base.slot b o e n hb hx
   exact⟨sl,(hs.2 b (aT (aD (ay e) I.ok.above))).trans e1⟩
  ·obtain⟨o',e1⟩:=I.base.there b o e hx
   exact⟨o',(hs.2 b (aT (aD (ay e) I.ok.above))).trans e1⟩
  ·by_cases hj:j=i
   ·subst hj
    rw [hi]at e1;cases e1
    rw [aE hiσ]at e2
    cases e2
    exact⟨u,r,.inl ⟨hk,by simp⟩⟩
   ·rw [am (c8 hj)]at e2
    obtain⟨u',r',q⟩:=hl j y v' e1 e2 e3
    refine⟨u',r',?_⟩
    rcases q with ⟨k,e⟩|⟨k,c,e,z⟩
    ·refine .inl ⟨k,?_⟩
     have:y≠x:=fun e=> hj (an8 hN e1 (e▸hi))
     simp [this,e]
    ·exact .inr ⟨k,c,e,z.sameBut hs (cne y c e)⟩
  ·obtain⟨w',z⟩:=I.cell y c e
   exact⟨w',z.sameBut hs (cne y c e)⟩
  ·obtain⟨e,n,ne,nf,d⟩:=I.pin p hp
   exact⟨(hs.2 p.1 ne).trans e,n,ne,nf,d⟩
 ·have hfn:X.fn x=true:=by
   rcases hf with z|z
   ·exact z
   ·rw [z]at hk;cases hk
  obtain⟨c,hc⟩:=I.ok.has x (.inl hk)
  obtain⟨w',z⟩:=I.cell x c hc
  refine wpAny_storeName_cell I.ok.kind hk hc z (fun h' hc' hs=> ?_)
  obtain⟨oc,hoc,hocd⟩:=id z
  refine h {s with heap:=h'} ⟨I.ok,I.os,I.bare,⟨fun b o e n hb hx=> ?_,fun b o e n hb hx=> ?_,I.base.free,fun b o e hx=> ?_,I.base.tups,I.base.frzs,I.base.tbls⟩,⟨m,hn.sameBut hs (c8 (cne x c hc)),fun j y v' e1 e2 e3=> ?_⟩,fun y c' e=> ?_,I.free,I.freeC,fun p hp=> ?_,tracked ⟨oc,hoc,I.freeC x c hc⟩ hs,by simpa using I.len⟩ ⟨c,hs,.inr hc⟩
  ·exact (hs.2 b (aT (aD (ay e) (I.ok.cab x c hfn hc)))).trans (I.base.keep b o e n hb hx)
  ·obtain⟨sl,e1⟩:=I.base.slot b o e n hb hx
   exact⟨sl,(hs.2 b (aT (aD (ay e) (I.ok.cab x c hfn hc)))).trans e1⟩
  ·obtain⟨o',e1⟩:=I.base.there b o e hx
   exact⟨o',(hs.2 b (aT (aD (ay e) (I.ok.cab x c hfn hc)))).trans e1⟩
  ·by_cases hj:j=i
   ·subst hj
    rw [hi]at e1;cases e1
    rw [aE hiσ]at e2
    cases e2
    exact⟨u,r,.inr ⟨.inl hk,c,hc,hc'⟩⟩
   ·rw [am (c8 hj)]at e2
    obtain⟨u',r',q⟩:=hl j y v' e1 e2 e3
    refine⟨u',r',?_⟩
    rcases q with q|⟨k,c',e,z'⟩
    ·exact .inl q
    ·refine .inr ⟨k,c',e,z'.sameBut hs ?_⟩
     rintro rfl
     exact hj (an8 hN e1 (I.ok.inj _ _ _ e hc▸hi))
  ·by_cases hcc:c'=c
   ·subst hcc;exact⟨_,hc'⟩
   ·obtain⟨w2,z2⟩:=I.cell y c' e
    exact⟨w2,z2.sameBut hs hcc⟩
  ·obtain⟨e,n,ne,nf,d⟩:=I.pin p hp
   refine⟨(hs.2 p.1 ?_).trans e,n,ne,nf,d⟩
   intro q
   rw [q,hoc]at e
   have q':oc=p.2:=bV e
   exact d w' (by rw [←q'];exact hocd)
theorem al7{v:V}(I:Inv X pins σ H s)(hN:X.N.Nodup)(hi:X.N[i]?=some x)(hx:Loc X.env.scope x)(r:RelV v u)(h: ∀s',Inv X pins (σ.set i (some v)) H s' -> Q () s')(hf:X.fn x=true\/X.env.scope.names.lookup x=some .local:=by first|exact .inl rfl|exact .inr rfl|assumption):wpAny M A (storeName X.env x u) Q E s:=
 ak2 I hN hi hx r (fun s' I' _=> h s' I') hf
theorem Inv.call'{s':ak}(I:Inv X pins σ H s)(ho:s'.os=s.os)(u:Un (frs X.stack) ch H H' s.heap s'.heap)(hok:HOk X.prog X.w H' s'.heap)(hg:eK s'.gens)(hch: ∀b∈ch,(b∈X.ex\/X.s₀.heap.objs.size <=b)/\b≠X.env.locals/\(∀x c,X.env.cells.lookup x=some c -> c≠b)/\ ∀p∈X.pn++pins,p.1≠b):Inv X pins σ H' s':=by
 obtain⟨h',g',d',t',o'⟩:=s'
 have e:o'=s.os:=ho
 subst e
 exact I.call (g':=g') (t':=t') (d':=d') u hok hg hch
end
abbrev XK:=af -> Option Addr -> Hp -> Prop
abbrev St:=List (Option V)
abbrev VK:=V -> Hp -> Prop
abbrev TE:=St -> Hp -> VK -> Prop
abbrev TT:=St -> Hp -> (Bool -> Hp -> Prop) -> Prop
abbrev TA:=St -> Hp -> (List V -> Hp -> Prop) -> Prop
structure Ends where
 nx:St -> Hp -> Prop
 rt:VK
 bk:St -> Hp -> Prop:=fun _ _=> False
 ct:St -> Hp -> Prop:=fun _ _=> False
abbrev TS:=Ends -> St -> Hp -> Prop
def EP(X:Cx)(pins:List (Addr×Obj))(σ:St)(Q:VK)(u:af)(s':ak):Prop:= ∃v H',Inv X pins σ H' s'/\RelV v u/\Q v H'
def TP(X:Cx)(pins:List (Addr×Obj))(σ:St)(Q:Bool -> Hp -> Prop)(b:Bool)(s':ak):Prop:= ∃H',Inv X pins σ H' s'/\Q b H'
def AP(X:Cx)(pins:List (Addr×Obj))(σ:St)(Q:List V -> Hp -> Prop)(us:List af)(s':ak):Prop:= ∃vs H',Inv X pins σ H' s'/\ju vs us/\Q vs H'
def SP(X:Cx)(pins:List (Addr×Obj))(D:Ends)(f:Flow)(s':ak):Prop:=
 match f with
 |.next=> ∃σ' H',Inv X pins σ' H' s'/\D.nx σ' H'
 |.brk=> ∃σ' H',Inv X pins σ' H' s'/\D.bk σ' H'
 |.cont=> ∃σ' H',Inv X pins σ' H' s'/\D.ct σ' H'
 |.ret u=> ∃v σ' H',Inv X pins σ' H' s'/\RelV v u/\D.rt v H'
structure PE (X:Cx) (e:Expr) (t:TE):Prop where
 run: ∀(pins:List (Addr×Obj)) (s:ak) (σ:St) (H:Hp) (Q:VK),Inv X pins σ H s -> t σ H Q -> wpAny (model X.prog X.w) X.A (eval e X.env) (EP X pins σ Q) X.xe s
instance {X:Cx} {e:Expr} {t:TE}:CoeFun (PE X e t) fun _=> ∀(pins:List (Addr×Obj)) (s:ak) (σ:St) (H:Hp) (Q:VK),Inv X pins σ H s -> t σ H Q -> wpAny (model X.prog X.w) X.A (eval e X.env) (EP X pins σ Q) X.xe s:=⟨PE.run⟩
structure PT (X:Cx) (e:Expr) (t:TT):Prop where
 run: ∀(pins:List (Addr×Obj)) (s:ak) (σ:St) (H:Hp) (Q:Bool -> Hp -> Prop),Inv X pins σ H s -> t σ H Q -> wpAny (model X.prog X.w) X.A (isTrue e X.env (eval e X.env)) (TP X pins σ Q) X.xe s
instance {X:Cx} {e:Expr} {t:TT}:CoeFun (PT X e t) fun _=> ∀(pins:List (Addr×Obj)) (s:ak) (σ:St) (H:Hp) (Q:Bool -> Hp -> Prop),Inv X pins σ H s -> t σ H Q -> wpAny (model X.prog X.w) X.A (isTrue e X.env (eval e X.env)) (TP X pins σ Q) X.xe s:=⟨PT.run⟩
structure PW (X:Cx) (e:Expr) (t:TT):Prop where
 run: ∀(whole:Sem af) (pins:List (Addr×Obj)) (s:ak) (σ:St) (H:Hp) (Q:Bool -> Hp -> Prop),Inv X pins σ H s -> t σ H Q -> wpAny (model X.prog X.w) X.A (isTrue e X.env whole) (TP X pins σ Q) X.xe s
instance {X:Cx} {e:Expr} {t:TT}:CoeFun (PW X e t) fun _=> ∀(whole:Sem af) (pins:List (Addr×Obj)) (s:ak) (σ:St) (H:Hp) (Q:Bool -> Hp -> Prop),Inv X pins σ H s -> t σ H Q -> wpAny (model X.prog X.w) X.A (isTrue e X.env whole) (TP X pins σ Q) X.xe s:=⟨PW.run⟩
theorem PW.pt{X:Cx}{t:TT}(h:PW X e t):PT X e t:=⟨h _⟩
structure PA (X:Cx) (es:List Expr) (t:TA):Prop where
 run: ∀(pos:Pos) (pins:List (Addr×Obj)) (s:ak) (σ:St) (H:Hp) (Q:List V -> Hp -> Prop),Inv X pins σ H s -> t σ H Q -> wpAny (model X.prog X.w) X.A (spliced (backTo pos (starEach es X.env))) (AP X pins σ Q) X.xe s
instance {X:Cx} {es:List Expr} {t:TA}:CoeFun (PA X es t) fun _=> ∀(pos:Pos) (pins:List (Addr×Obj)) (s:ak) (σ:St) (H:Hp) (Q:List V -> Hp -> Prop),Inv X pins σ H s -> t σ H Q -> wpAny (model X.prog X.w) X.A (spliced (backTo pos (starEach es X.env))) (AP X pins σ Q) X.xe s:=⟨PA.run⟩
structure PS (X:Cx) (st:Stmt) (t:TS):Prop where
 run: ∀(pins:List (Addr×Obj)) (s:ak) (σ:St) (H:Hp) (D:Ends),Inv X pins σ H s -> t D σ H -> wpAny (model X.prog X.w) X.A (exec st X.env) (SP X pins D) X.xe s
instance {X:Cx} {st:Stmt} {t:TS}:CoeFun (PS X st t) fun _=> ∀(pins:List (Addr×Obj)) (s:ak) (σ:St) (H:Hp) (D:Ends),Inv X pins σ H s -> t D σ H -> wpAny (model X.prog X.w) X.A (exec st X.env) (SP X pins D) X.xe s:=⟨PS.run⟩
structure PSs (X:Cx) (st:List Stmt) (t:TS):Prop where
 run: ∀(pins:List (Addr×Obj)) (s:ak) (σ:St) (H:Hp) (D:Ends),Inv X pins σ H s -> t D σ H -> wpAny (model X.prog X.w) X.A (execs st X.env) (SP X pins D) X.xe s
instance {X:Cx} {st:List Stmt} {t:TS}:CoeFun (PSs X st t) fun _=> ∀(pins:List (Addr×Obj)) (s:ak) (σ:St) (H:Hp) (D:Ends),Inv X pins σ H s -> t D σ H -> wpAny (model X.prog X.w) X.A (execs st X.env) (SP X pins D) X.xe s:=⟨PSs.run⟩
theorem thn{α:Type}{t:Sem α}{Q Q':α -> ak -> Prop}(h:wpAny M A t Q E s)(hQ: ∀a s,Q a s -> Q' a s):wpAny M A t Q' E s:=cI h hQ fun _ _ x=> x
section
variable{X:Cx}
noncomputable def auv(i:Nat):TE:=fun σ H Q=> ∃v,σ[i]?=some (some v)/\Q v H
noncomputable def tC(v:V):TE:=fun _ H Q=> Q v H
theorem aro(hN:X.N[i]?=some x)(hv:Vis X.env.scope x)(hd:(x==("__debug__":Str))=false:=by decide)(hcd:(x==("__classdict__":Str))=false:=by decide):PE X (.Name x pos) (auv i):=by
 (first|refine⟨?_⟩|skip);intro pins s σ H Q I h
 obtain⟨v,e,h⟩:=h
 obtain⟨m,hn,hl⟩:=I.loc
 obtain⟨u,r,l⟩:=hl i x v hN e hv
 have fin:EP X pins σ Q u s:=⟨v,H,I,r,h⟩
 rcases l with ⟨hk,hm⟩|⟨hk,c,hc,hcell⟩
 ·exact wpAny_Name (wpAny_loadName_local I.ok.kind hk hn hm fin) hd
 ·rcases hk with hk|hk
  ·exact wpAny_Name (wpAny_loadName_cell I.ok.kind hk hc hcell fin) hd
  ·exact wpAny_Name (wpAny_loadName_free I.ok.kind hk hc hcell fin hcd) hd
theorem asv{i j pos}:PE X (.Constant (.int i) j pos) (tC (.int i)):=.mk <|fun _ _ _ H _ I h=> wpAny_Constant_int ⟨.int i,H,I.tok _,⟨_,rfl⟩,h⟩
theorem axf{b j pos}:PE X (.Constant (.bool b) j pos) (tC (.bl b)):=.mk <|fun _ _ _ H _ I h=> Constant_bool ⟨.bl b,H,I,rfl,h⟩
theorem asb{j pos}:PE X (.Constant .none j pos) (tC .non):=.mk <|fun _ _ _ H _ I h=> Constant_none ⟨.non,H,I,rfl,h⟩
theorem arp{x j pos}:PE X (.Constant (.str x) j pos) (tC (.str x)):=.mk <|fun _ _ _ H _ I h=> Calls.Constant_str ⟨.str x,H,I.tok _,⟨_,rfl⟩,h⟩
def Gl(X:Cx)(x:Str):Prop:=X.env.kindOf x=some .globalImplicit
theorem afx{σ:St}{H:Hp}{Q:af -> ak -> Prop}(I:Inv X pins σ H s)(hg:Gl X x)(hm:X.mg x=some u)(h:Q u s)(hd:(x==("__debug__":Str))=false:=by decide):wpAny (model X.prog X.w) X.A (eval (.Name x pos) X.env) Q E s:=
 fK I.ok.kind hg (Calls.loadGlobal_global (by rw [I.ok.glob];exact I.mod.glob.keeps I.bk) hm h) hd
theorem adc{σ:St}{H:Hp}{Q:af -> ak -> Prop}(I:Inv X pins σ H s)(hg:Gl X x)(hm:X.mg x=none)(hv:aX x=some u)(h:Q u s)(hn:x≠"__name__":=by decide)(hd:(x==("__debug__":Str))=false:=by decide):wpAny (model X.prog X.w) X.A (eval (.Name x pos) X.env) Q E s:=by
 obtain⟨mb,h1,h2⟩:=I.mod.blt
 exact fK I.ok.kind hg (Calls.loadGlobal_builtin (by rw [I.ok.glob];exact I.mod.glob.keeps I.bk) hm (by rw [I.ok.blt];exact h1.keeps I.bk) ((h2 x hn).trans hv) h) hd
theorem axx{v:V}(hg:Gl X x)(hm:X.mg x=some u)(r:RelV v u)(hd:(x==("__debug__":Str))=false:=by decide):PE X (.Name x pos) (tC v):=
 .mk <|fun _ _ _ H _ I h=> afx I hg hm ⟨v,H,I,r,h⟩ hd
theorem a04{v:V}(hg:Gl X x)(hm:X.mg x=none)(hv:aX x=some u)(r:RelV v u)(hn:x≠"__name__":=by decide)(hd:(x==("__debug__":Str))=false:=by decide):PE X (.Name x pos) (tC v):=
 .mk <|fun _ _ _ H _ I h=> adc I hg hm hv ⟨v,H,I,r,h⟩ hn hd
variable{a b:Expr}{ta tb:TE}{pos:Pos}
variable{tA tB':TT}{jp:List Expr}
noncomputable def a1o(t u:TT):TT:=fun σ H Q=> t σ H fun c H1=> if c=true then u σ H1 Q else Q false H1
noncomputable def tOr(t u:TT):TT:=fun σ H Q=> t σ H fun c H1=> if c=true then Q true H1 else u σ H1 Q
noncomputable def a1m(t:TT):TT:=fun σ H Q=> t σ H fun c H1=> Q (!c) H1
theorem ayx(ha:PT X a tA):PW X (.BoolOp .And [a] pos) tA:=by
 (first|refine⟨?_⟩|skip);intro wh pins s σ H Q I h
 refine isTrue_and (thn (ha pins s σ H Q I h) fun c s1 e=> ?_)
 cases c with
 |true=> exact isTrue_and_nil e
 |false=> exact e
theorem a2d(ha:PT X a tA):PW X (.BoolOp .Or [a] pos) tA:=by
 (first|refine⟨?_⟩|skip);intro wh pins s σ H Q I h
 refine isTrue_or (thn (ha pins s σ H Q I h) fun c s1 e=> ?_)
 cases c with
 |false=> exact isTrue_or_nil e
 |true=> exact e
theorem a1g(ha:PT X a tA)(hb:PW X (.BoolOp .And (b::jp) pos) tB'):PW X (.BoolOp .And (a::b::jp) pos) (a1o tA tB'):=by
 (first|refine⟨?_⟩|skip);intro wh pins s σ H Q I h
 refine isTrue_and (thn (ha pins s σ H _ I h) fun c s1 ⟨H1,I1,q1⟩=> ?_)
 cases c with
 |true=> exact hb wh pins s1 σ H1 Q I1 q1
 |false=> exact⟨H1,I1,q1⟩
theorem a5c(ha:PT X a tA)(hb:PW X (.BoolOp .Or (b::jp) pos) tB'):PW X (.BoolOp .Or (a::b::jp) pos) (tOr tA tB'):=by
 (first|refine⟨?_⟩|skip);intro wh pins s σ H Q I h
 refine isTrue_or (thn (ha pins s σ H _ I h) fun c s1 ⟨H1,I1,q1⟩=> ?_)
 cases c with
 |true=> exact⟨H1,I1,q1⟩
 |false=> exact hb wh pins s1 σ H1 Q I1 q1
theorem a31(ha:PT X a tA):PT X (.UnaryOp .Not a pos) (a1m tA):=by
 (first|refine⟨?_⟩|skip);intro pins s σ H Q I h
 exact isTrue_not (ha pins s σ H (fun c H1=> Q (!c) H1) I h)
noncomputable def a5e(ta tb:TE):TE:=fun σ H Q=> ta σ H fun x H1=> ∃c,x=.bl c/\if c=true then tb σ H1 Q else Q (.bl false) H1
noncomputable def a6g(ta tb:TE):TE:=fun σ H Q=> ta σ H fun x H1=> ∃c,x=.bl c/\if c=true then Q (.bl true) H1 else tb σ H1 Q
theorem a3j{op}{t:TE}(h:PE X a t):PE X (.BoolOp op [a] pos) t:=.mk <|fun pins s σ H Q I hw=> BoolOp_one (h pins s σ H Q I hw)
theorem a2h(ha:PE X a ta)(hb:PE X (.BoolOp .And (b::jp) pos) tb):PE X (.BoolOp .And (a::b::jp) pos) (a5e ta tb):=by
 (first|refine⟨?_⟩|skip);intro pins s σ H Q I h
 refine BoolOp_and (thn (ha pins s σ H _ I h) fun v s1 ⟨x,H1,I1,r1,q1⟩=> ?_)
 obtain⟨c,rfl,q1⟩:=q1
 cases r1
 refine b0 ?_
 cases c with
 |true=> exact hb pins s1 σ H1 Q I1 q1
 |false=> exact⟨.bl false,H1,I1,rfl,q1⟩
theorem a5f(ha:PE X a ta)(hb:PE X (.BoolOp .Or (b::jp) pos) tb):PE X (.BoolOp .Or (a::b::jp) pos) (a6g ta tb):=by
 (first|refine⟨?_⟩|skip);intro pins s σ H Q I h
 refine BoolOp_or (thn (ha pins s σ H _ I h) fun v s1 ⟨x,H1,I1,r1,q1⟩=> ?_)
 obtain⟨c,rfl,q1⟩:=q1
 cases r1
 refine b0 ?_
 cases c with
 |false=> exact hb pins s1 σ H1 Q I1 q1
 |true=> exact⟨.bl true,H1,I1,rfl,q1⟩
noncomputable def tIf(t:TT)(ta tb:TE):TE:=fun σ H Q=> t σ H fun c H1=> if c=true then ta σ H1 Q else tb σ H1 Q
theorem aw4{c:Expr}(hc:PT X c tA)(ha:PE X a ta)(hb:PE X b tb):PE X (.IfExp c a b pos) (tIf tA ta tb):=by
 (first|refine⟨?_⟩|skip);intro pins s σ H Q I h
 refine wpAny_IfExp (thn (hc pins s σ H _ I h) fun d s1 ⟨H1,I1,q1⟩=> ?_)
 cases d with
 |true=> exact ha pins s1 σ H1 Q I1 q1
 |false=> exact hb pins s1 σ H1 Q I1 q1
end
def SqL(K:ah)(H:Hp)(a:Addr)(xs:List V):Prop:=
 Rd H a (.lst xs)\/
  ∃(o:Obj) (its:Array af) (n:Nat),K.lookup a=some o/\o.cls=.type "list"/\o.dict=none/\o.data=.seq its n/\its.size <=sizeLine/\ju xs its.toList
def SqT(K:ah)(H:Hp)(a:Addr)(xs:List V):Prop:=
 Rd H a (.tup xs)\/
  ∃(o:Obj) (its:Array af) (n:Nat),K.lookup a=some o/\o.cls=.type "tuple"/\o.data=.seq its n/\its.size <=sizeLine/\ju xs its.toList
noncomputable def a6s:af -> Option V
 |.none=> some .non
 |.bool b=> some (.bl b)
 |.int i _=> some (.int i)
 |.str x _=> some (.str x)
 |.bytes b _=> some (.byt b)
 |.float b _=> some (.flt b)
 |.ref a=> some (.ref a)
 |.type n=> some (.ty n)
 |_=> none
theorem RelV.abs{x:V}(r:RelV x u):a6s u=some x:=by
 cases x with
 |non=> cases r;rfl
 |bl _=> cases r;rfl
 |int _=> obtain⟨t,rfl⟩:=r;rfl
 |str _=> obtain⟨t,rfl⟩:=r;rfl
 |byt _=> obtain⟨t,rfl⟩:=r;rfl
 |flt _=> obtain⟨t,rfl⟩:=r;rfl
 |ref _=> cases r;rfl
 |ty _=> cases r;rfl
theorem RelV.inj{x y:V}(r:RelV x u)(q:RelV y u):x=y:=bV (r.abs.symm.trans q.abs)
theorem ju.inj: ∀{xs ys:List V} {us:List af},ju xs us -> ju ys us -> xs=ys
 |_,_,_,.nil,.nil=> rfl
 |_,_,_,.cons r t,.cons r' t'=> by rw [r.inj r',ju.inj t t']
section
variable{X:Cx}{pins:List (Addr×Obj)}{σ:St}{H:Hp}{s:ak}{a:Addr}{xs ys:List V}
theorem SqL.of(h:H a=some (.lst xs)):SqL K H a xs:=.inl (.inl h)
theorem SqT.of(h:H a=some (.tup xs)):SqT K H a xs:=.inl (.inl h)
theorem Inv.list(I:Inv X pins σ H s)(h:SqL X.K H a xs): ∃its:List af,ju xs its/\PlainL s.heap a its.toArray/\xs.length <=sizeLine:=by
 rcases h with h|⟨o,its,n,hk,hc,hd,hs,hz,r⟩
 ·obtain⟨z,its,n,r,e⟩:=h.ok I.hok
  exact⟨its,r,⟨_,n,e,rfl,rfl,rfl⟩,z⟩
 ·refine⟨its.toList,r,⟨o,n,I.kIn a o hk,hc,hd,by simpa using hs⟩,?_⟩
  have e:=r.length
  simp only [bo]at e
  lia
theorem Inv.tuple(I:Inv X pins σ H s)(h:SqT X.K H a xs): ∃its:List af,ju xs its/\IsTup s.heap a its.toArray/\xs.length <=sizeLine:=by
 rcases h with h|⟨o,its,n,hk,hc,hs,hz,r⟩
 ·obtain⟨z,its,r,p⟩:=h.ok I.hok
  exact⟨its,r,p.tup,z⟩
 ·refine⟨its.toList,r,⟨o,I.kIn a o hk,hc,n,by simpa using hs⟩,?_⟩
  have e:=r.length
  simp only [bo]at e
  lia
theorem Inv.list_inj(I:Inv X pins σ H s)(h:SqL X.K H a xs)(h':SqL X.K H a ys):xs=ys:=by
 obtain⟨its,r,⟨o,n,e,_,_,d⟩,_⟩:=I.list h
 obtain⟨its',r',⟨o',n',e',_,_,d'⟩,_⟩:=I.list h'
 rw [e]at e';cases e'
 rw [d]at d'
 injection d' with d1 _
 have:its=its':=by simpa using congrArg Array.toList d1
 subst this
 exact r.inj r'
theorem Inv.tuple_inj(I:Inv X pins σ H s)(h:SqT X.K H a xs)(h':SqT X.K H a ys):xs=ys:=by
 obtain⟨its,r,⟨o,e,_,n,d⟩,_⟩:=I.tuple h
 obtain⟨its',r',⟨o',e',_,n',d'⟩,_⟩:=I.tuple h'
 rw [e]at e';cases e'
 rw [d]at d'
 injection d' with d1 _
 have:its=its':=by simpa using congrArg Array.toList d1
 subst this
 exact r.inj r'
end
abbrev Cx.wish(X:Cx)(E:af -> ak -> Prop):Cx:={X with xe:=E}
abbrev Cx.nox(X:Cx):Cx:=X.wish fun _ _=> False
theorem Cx.Ok.wish{X:Cx}(ok:X.Ok)(E:af -> ak -> Prop):(X.wish E).Ok:=
 ⟨ok.mod,ok.kind,ok.glob,ok.blt,ok.above,ok.inj,ok.has,ok.cab,ok.hd,ok.frames,ok.stk,ok.exf,ok.bs,ok.bsz,ok.noex,ok.exfs,ok.funs,ok.frf⟩
theorem Cx.Ok.unwish{X:Cx}(ok:(X.wish E).Ok):X.Ok:=
 ⟨ok.mod,ok.kind,ok.glob,ok.blt,ok.above,ok.inj,ok.has,ok.cab,ok.hd,ok.frames,ok.stk,ok.exf,ok.bs,ok.bsz,ok.noex,ok.exfs,ok.funs,ok.frf⟩
section
variable{X:Cx}{pins:List (Addr×Obj)}{σ:St}{H:Hp}{s:ak}{E:af -> ak -> Prop}
theorem Inv.wish(I:Inv X pins σ H s)(E:af -> ak -> Prop):Inv (X.wish E) pins σ H s:=⟨I.ok.wish E,I.os,I.bare,I.base,I.loc,I.cell,I.free,I.freeC,I.pin,I.hok,I.len⟩
theorem Inv.unwish(I:Inv (X.wish E) pins σ H s):Inv X pins σ H s:=⟨I.ok.unwish,I.os,I.bare,I.base,I.loc,I.cell,I.free,I.freeC,I.pin,I.hok,I.len⟩
theorem SP.unwish{D:Ends}{f:Flow}{s':ak}(h:SP (X.wish E) pins D f s'):SP X pins D f s':=by
 cases f with
 |next=> obtain⟨σ',H',I,q⟩:=h;exact⟨σ',H',I.unwish,q⟩
 |brk=> obtain⟨σ',H',I,q⟩:=h;exact⟨σ',H',I.unwish,q⟩
 |cont=> obtain⟨σ',H',I,q⟩:=h;exact⟨σ',H',I.unwish,q⟩
 |ret u=> obtain⟨v,σ',H',I,r,q⟩:=h;exact⟨v,σ',H',I.unwish,r,q⟩
theorem PSs.nox{st:List Stmt}{t:TS}(h:PSs X.nox st t):PSs X st t:=.mk <|fun pins s σ H D I hw=>
 cI (h pins s σ H D (I.wish _) hw) (fun _ _ q=> q.unwish) fun _ _ z=> b7 z
end
section
variable{X:Cx}{st:Stmt}{jp:List Stmt}{t u:TS}{e:Expr}{te:TE}{pos:Pos}
noncomputable def a4w:TS:=fun D σ H=> D.nx σ H
noncomputable def a0z(t u:TS):TS:=fun D σ H=> t {D with nx:=u D} σ H
theorem ayf:PSs X [] a4w:=.mk <|fun _ _ σ H _ I h=> gq ⟨σ,H,I,h⟩
theorem avu(h1:PS X st t)(h2:PSs X jp u):PSs X (st::jp) (a0z t u):=by
 (first|refine⟨?_⟩|skip);intro pins s σ H D I h
 refine wpAny_execs_cons (thn (h1 pins s σ H {D with nx:=u D} I h) fun f s1 q=> ?_)
 cases f with
 |next=>
  obtain⟨σ',H',I',q⟩:=q
  exact h2 pins s1 σ' H' D I' q
 |ret v=> exact q
 |brk=> exact q
 |cont=> exact q
theorem ayl(h1:PS X st t):PSs X [st] t:=by
 (first|refine⟨?_⟩|skip);intro pins s σ H D I h
 refine wpAny_execs_cons (thn (h1 pins s σ H D I h) fun f s1 q=> ?_)
 cases f with
 |next=> exact gq q
 |ret v=> exact q
 |brk=> exact q
 |cont=> exact q
theorem Inv.quiet{σ:St}{H:Hp}(I:Inv X pins σ H s):interactive X.env=false:=by simp [interactive,I.ok.kind]
noncomputable def a59(te:TE):TS:=fun D σ H=> te σ H fun _ H1=> D.nx σ H1
theorem az3(he:PE X e te)(hs:dM e none pos.line X.env=pure false:=by rfl):PS X (.Expr e pos) (a59 te):=by
 (first|refine⟨?_⟩|skip);intro pins s σ H D I h
 exact wpAny_Expr_any (thn (he pins s σ H _ I h) fun v s1 ⟨x,H1,I1,r1,q1⟩=> ⟨σ,H1,I1,q1⟩) I.quiet hs
noncomputable def a66(te:TE):TS:=fun D σ H=> te σ H D.rt
theorem a1t(he:PE X e te):PS X (.Return (some e) pos) (a66 te):=by
 (first|refine⟨?_⟩|skip);intro pins s σ H D I h
 exact wpAny_Return_some (thn (he pins s σ H _ I h) fun v s1 ⟨x,H1,I1,r1,q1⟩=> ⟨x,σ,H1,I1,r1,q1⟩)
noncomputable def a67(c:TT)(t u:TS):TS:=fun D σ H=> c σ H fun b H1=> if b=true then t D σ H1 else u D σ H1
theorem a4j{c:Expr}{a b:List Stmt}{tc:TT}(hc:PT X c tc)(ha:PSs X a t)(hb:PSs X b u):PS X (.If c a b pos) (a67 tc t u):=by
 (first|refine⟨?_⟩|skip);intro pins s σ H D I h
 refine wpAny_If (thn (hc pins s σ H _ I h) fun d s1 ⟨H1,I1,q1⟩=> ?_)
 cases d with
 |true=> exact ha pins s1 σ H1 D I1 q1
 |false=> exact hb pins s1 σ H1 D I1 q1
noncomputable def a32:TS:=fun _ _ _=> False
theorem aud:PS X st a32:=.mk <|fun _ _ _ _ _ _ h=> h.elim
end
abbrev TG:=V -> St -> Hp -> (St -> Hp -> Prop) -> Prop
abbrev TGs:=List V -> St -> Hp -> (St -> Hp -> Prop) -> Prop
def PG(X:Cx)(target:Expr)(t:TG):Prop:=
 ∀(pins:List (Addr×Obj)) (s:ak) (σ:St) (H:Hp) (v:V) (u:af) (Q:St -> Hp -> Prop),Inv X pins σ H s -> RelV v u -> t v σ H Q ->
  wpAny (model X.prog X.w) X.A (assign target X.env u) (fun _ s'=> ∃σ' H',Inv X pins σ' H' s'/\Q σ' H') X.xe s
def PGs(X:Cx)(ts:List Expr)(t:TGs):Prop:=
 ∀(pins:List (Addr×Obj)) (s:ak) (σ:St) (H:Hp) (vs:List V) (us:List af) (Q:St -> Hp -> Prop),Inv X pins σ H s -> ju vs us -> t vs σ H Q ->
  wpAny (model X.prog X.w) X.A (assignInOrder ((a6 ts X.env).map (·.2)) us) (fun _ s'=> ∃σ' H',Inv X pins σ' H' s'/\Q σ' H') X.xe s
abbrev apt:=V -> V -> V -> Hp -> (Hp -> Prop) -> Prop
def ait(X:Cx)(t:apt):Prop:=
 ∀(pins:List (Addr×Obj)) (s:ak) (σ:St) (H:Hp) (o i v:V) (ov iv u:af) (Q:Hp -> Prop),Inv X pins σ H s -> RelV o ov -> RelV i iv -> RelV v u -> t o i v H Q ->
  wpAny (model X.prog X.w) X.A (setItem ov iv u) (fun _ s'=> ∃H',Inv X pins σ H' s'/\Q H') X.xe s
section
variable{X:Cx}{pos:Pos}
noncomputable def akx(i:Nat):TG:=fun v σ H Q=> Q (σ.set i (some v)) H
theorem azr(hN:X.N.Nodup)(hi:X.N[i]?=some x)(hx:Loc X.env.scope x)(hf:X.fn x=true\/X.env.scope.names.lookup x=some .local:=by first|exact .inl rfl|exact .inr rfl|assumption):PG X (.Name x pos) (akx i):=by
 (first|refine⟨?_⟩|skip);intro pins s σ H v u Q I r h
 exact wpAny_assign_Name (al7 I hN hi hx r (fun s' I'=> ⟨_,H,I',h⟩) hf)
noncomputable def ap0:TGs:=fun vs σ H Q=> vs=[]/\Q σ H
noncomputable def ae0(t:TG)(u:TGs):TGs:=fun vs σ H Q=> ∃v r,vs=v::r/\t v σ H fun σ' H'=> u r σ' H' Q
theorem aoc:PGs X [] ap0:=by
 (first|refine⟨?_⟩|skip);intro pins s σ H vs us Q I r h
 obtain⟨e,h⟩:=h
 subst e
 cases r
 exact assignInOrder_nil ⟨σ,H,I,h⟩
theorem ac0{es:List Expr}{t:TG}{u:TGs}(h1:PG X e t)(h2:PGs X es u)(hs:(a6 (e::es) X.env).map (·.2)=assign e X.env::(a6 es X.env).map (·.2):=by rfl):PGs X (e::es) (ae0 t u):=by
 (first|refine⟨?_⟩|skip);intro pins s σ H vs us Q I r h
 obtain⟨v,vr,e1,h⟩:=h
 subst e1
 cases r with
 |cons r rr=>
  rw [hs]
  refine assignInOrder_cons (thn (h1 pins s σ H _ _ _ I r h) fun _ s1 ⟨σ1,H1,I1,q1⟩=> ?_)
  exact h2 pins s1 σ1 H1 _ _ Q I1 rr q1
noncomputable def a6q(K:ah)(n:Nat)(t:TGs):TG:=fun v σ H Q=> ∃a xs,v=.ref a/\SqT K H a xs/\xs.length=n/\t xs σ H Q
theorem a1h{es:List Expr}{k:Nat}{t:TGs}{n:Nat}(hc:X.calm=true)(h:PGs X es t)
  (hn:(a6 es X.env).length=n:=by rfl) (hst:(a6 es X.env).findIdx? (·.1)=none:=by rfl):PG X (.Tuple es k pos) (a6q X.K n t):=by
 (first|refine⟨?_⟩|skip);intro pins s σ H v u Q I r hw
 obtain⟨a,xs,e1,hq,hl,hw⟩:=hw
 subst e1
 cases r
 obtain⟨its,rv,ht,hz⟩:=I.tuple hq
 refine assign_Tuple_tuple (I.ok.hd hc) ht (by simp [hn,←hl,rv.length]) hst fun h' hx=> ?_
 have I1:Inv X pins σ H {s with heap:=h'}:=I.kept (t':=s.toks) fun b o e=> hx b o (aT (ay e)) e
 exact h pins _ σ H xs _ Q I1 (by simpa using rv) hw
noncomputable def ad3(to ti:TE)(t:apt):TG:=fun v σ H Q=> to σ H fun o H1=> ti σ H1 fun i H2=> t o i v H2 fun H3=> Q σ H3
theorem a1k{o i:Expr}{to ti:TE}{t:apt}(ho:PE X o to)(hi:PE X i ti)(hs:ait X t)
  (ha: ∀v,assign (.Subscript o i pos) X.env v=(do
   let ov←holding [v] (eval o X.env)
   let iv←holding [v,ov] (eval i X.env)
   standAt pos
   holding [v,ov,iv] (setItem ov iv v)
   release [v,ov,iv] []):=by intro _;rfl):PG X (.Subscript o i pos) (ad3 to ti t):=by
 (first|refine⟨?_⟩|skip);intro pins s σ H v u Q I r h
 rw [ha]
 refine ae (bI (thn (ho pins s σ H _ I h) fun ov s1 ⟨x,H1,I1,r1,q1⟩=> ?_))
 refine ae (bI (thn (hi pins s1 σ H1 _ I1 q1) fun iv s2 ⟨y,H2,I2,r2,q2⟩=> ?_))
 refine ae (fL (ae (bI (thn (hs pins s2 σ H2 x y v ov iv u _ I2 r1 r2 r q2) fun _ s3 ⟨H3,I3,q3⟩=> ?_))))
 exact wpAny_release ⟨σ,H3,I3,q3⟩
noncomputable def a3s(te:TE)(g:TG):TS:=fun D σ H=> te σ H fun x H1=> g x σ H1 D.nx
theorem asn{te:TE}{g:TG}(he:PE X e te)(hg:PG X tg g)(hs:hU [tg] e pos.line X.env=pure false:=by rfl)(hw:hV [tg] e X.env=pure none:=by rfl)(h1:(a6 [tg] X.env).map (·.2)=[assign tg X.env]:=by rfl):PS X (.Assign [tg] e pos) (a3s te g):=by
 (first|refine⟨?_⟩|skip);intro pins s σ H D I h
 refine wpAny_Assign_stores (thn (he pins s σ H _ I h) fun v s1 ⟨x,H1,I1,r1,q1⟩=> ?_) hs hw
 rw [h1]
 exact thn (hg pins s1 σ H1 x v _ I1 r1 q1) fun _ s2 q=> q
theorem a2a{te:TE}{pos':Pos}(hN:X.N.Nodup)(hi:X.N[i]?=some x)(hx:Loc X.env.scope x)(he:PE X e te)(hs:dM e (some (.Name x pos')) pos.line X.env=pure false:=by rfl)(hf:X.fn x=true\/X.env.scope.names.lookup x=some .local:=by first|exact .inl rfl|exact .inr rfl|assumption):
  PS X (.Assign [.Name x pos'] e pos) (a3s te (akx i)):=by
 (first|refine⟨?_⟩|skip);intro pins s σ H D I h
 refine wpAny_Assign_Name (thn (he pins s σ H _ I h) fun v s1 ⟨y,H1,I1,r1,q1⟩=> ?_) hs
 exact al7 I1 hN hi hx r1 (fun s2 I2=> ⟨_,H1,I2,q1⟩) hf
end
structure It where
 go:Nat -> Hp -> Prop
 yld:Nat -> Hp -> V -> Hp -> Prop
 stop:Nat -> Hp -> Prop
def ac3(X:Cx)(pins:List (Addr×Obj))(H:Hp)(b:Addr):Prop:=
 H b=none/\b≠X.env.locals/\b∉X.fs/\(b∈X.ex\/X.s₀.heap.objs.size <=b)/\(∀x c,X.env.cells.lookup x=some c -> c≠b)/\ ∀p∈X.pn++pins,p.1≠b
theorem Inv.fpOk{X:Cx}{σ:St}{H H':Hp}(I:Inv X pins σ H s)(hb:s.heap.objs.size <=b)(hn:H' b=none):ac3 X pins H' b:=by
 refine⟨hn,fZ (aD I.lt hb),I.nofs hb,.inr (aQ I.sz hb),fun x c e z=> ?_,fun p hp z=> ?_⟩
 ·obtain⟨v,q⟩:=I.cell x c e
  exact absurd (aD q.lt (by rw [z];exact hb)) (bZ _)
 ·exact absurd (aD (ay (I.pin p hp).1) (by rw [z];exact hb)) (bZ _)
structure Turn (P:aW) (w:aY) (K:ah) (tg:Expr) (J:It) (fp:List Addr) (it:Addr) (tn:Nat -> Heap -> Prop):Prop where
 mem:it∈fp
 obj: ∀i h,tn i h -> ∀b∈fp,∃o,h.get? b=some o/\ ∀v,o.data≠ .cell v
 keep: ∀i h h',tn i h -> (∀b∈fp,∀o,h.get? b=some o -> h'.get? b=some o) -> tn i h'
 item: ∀(X:Cx),X.prog=P -> X.w=w -> X.K=K -> X.calm=true -> ∀(i:Nat) (pins:List (Addr×Obj)) (s:ak) (σ:St) (H:Hp) (E:af -> ak -> Prop),Inv X pins σ H s -> (∀b∈fp,ac3 X pins H b) -> tn i s.heap -> J.go i H ->
  wpAny (model P w) X.A (pyNext (.ref it)) (fun r s1=> ∃u,r=some u/\
   wpAny (model P w) X.A (eP tg (.ref it) u) (fun _ s2=> ∃x H',Inv X pins σ H' s2/\RelV x u/\J.yld i H x H'/\tn (i+1) s2.heap/\ ∀b∈fp,H' b=none) E s1) E s
 done: ∀(X:Cx),X.prog=P -> X.w=w -> X.K=K -> X.calm=true -> ∀(i:Nat) (pins:List (Addr×Obj)) (s:ak) (σ:St) (H:Hp) (E:af -> ak -> Prop),Inv X pins σ H s -> (∀b∈fp,ac3 X pins H b) -> tn i s.heap -> J.stop i H ->
  wpAny (model P w) X.A (pyNext (.ref it)) (fun r s1=> r=none/\Inv X pins σ H s1) E s
 self: ∀(A:bd) (i:Nat) (s:ak) (Q:af -> ak -> Prop) (E:af -> ak -> Prop),tn i s.heap -> Q (.ref it) s -> wpAny (model P w) A (pyIter (.ref it)) Q E s
abbrev TI:=St -> Hp -> (It -> Hp -> Prop) -> Prop
def PIE(X:Cx)(pins:List (Addr×Obj))(σ:St)(tg:Expr)(R:It -> Hp -> Prop)(itv:af)(s2:ak):Prop:=
 ∃(it:Addr) (fp:List Addr) (tn:Nat -> Heap -> Prop) (J:It) (H':Hp),itv=.ref it/\Inv X pins σ H' s2/\Turn X.prog X.w X.K tg J fp it tn/\tn 0 s2.heap/\(∀b∈fp,ac3 X pins H' b)/\R J H'
def PI(X:Cx)(tg iter:Expr)(wi:TI):Prop:=
 ∀(pins:List (Addr×Obj)) (s:ak) (σ:St) (H:Hp) (R:It -> Hp -> Prop),Inv X pins σ H s -> wi σ H R ->
  wpAny (model X.prog X.w) X.A (eval iter X.env) (fun v s1=> wpAny (model X.prog X.w) X.A (pyIter v) (PIE X pins σ tg R) X.xe s1) X.xe s
theorem ako{it:Addr}{o:Obj}{n:String}{vs:Array af}(ho:s.heap.get? it=some o)(hc:o.cls=.type n)(hd:o.data=.fields vs)(hn:["enumerate","zip","dict_itemiterator","dict_reverseitemiterator","odict_iterator","itertools.zip_longest","itertools.pairwise"].contains n=false)(hQ:Q () s):wpAny M A (eP tg (.ref it) u) Q E s:=by
 unfold eP
 cases tg <;> first
  |exact al hQ
  | (cases u <;> first
    |exact al hQ
    | (refine ae (wpAny_load ho ?_)
       rw [hc,hd]
       show wpAny M A (if (["enumerate","zip","dict_itemiterator","dict_reverseitemiterator","odict_iterator","itertools.zip_longest","itertools.pairwise"].contains n&&vs[0]?==some (rawInt _))=true then _ else _) Q E s
       rw [if_neg (by intro h;rw [hn,Bool.false_and]at h;cases h)]
       exact al hQ))
noncomputable def Itl(K:ah)(a:Addr):It:=
 ⟨fun i H=> ∃xs x,SqL K H a xs/\xs[i]?=some x,fun i H x H'=> H'=H/\ ∀xs,SqL K H a xs -> xs[i]?=some x,fun i H=> ∃xs,SqL K H a xs/\xs.length <=i⟩
noncomputable def Itt(K:ah)(a:Addr):It:=
 ⟨fun i H=> ∃xs x,SqT K H a xs/\xs[i]?=some x,fun i H x H'=> H'=H/\ ∀xs,SqT K H a xs -> xs[i]?=some x,fun i H=> ∃xs,SqT K H a xs/\xs.length <=i⟩
noncomputable def Itr(lo:Int)(n:Nat):It:=⟨fun i _=> i < n,fun i H x H'=> H'=H/\x=.int (lo+i),fun i _=> n <=i⟩
theorem ari(a it:Addr):Turn P w K tg (Itl K a) [it] it (fun i h=> h.IsListIter it a i) where
 mem:=by simp
 obj:=fun i h st b hb=> by
  have e:b=it:=by simpa using hb
  subst e
  obtain⟨o,e,c,d⟩:=st
  exact⟨o,e,fun v z=> by rw [d]at z;cases z⟩
 keep:=fun i h h' st k=> st.at fun o e=> k it (by simp) o e
 item:=by
  intro X hP hw hK hc i pins s σ H E I hf st hg
  subst hP hw hK
  obtain⟨xs,x,hq,hx⟩:=hg
  obtain⟨its,rv,p,hz⟩:=I.list hq
  obtain⟨u,hu,ru⟩:=rv.get hx
  obtain⟨f0,f1,f2,f3,f4,f5⟩:=hf it (by simp)
  refine gz st p.isList (x:=u) (by simpa using hu) fun h' st' sb=> ?_
  have I1:Inv X pins σ H {s with heap:=h'}:=I.turned (t':=s.toks) (fun b o hb e=> (sb.2 b hb).trans e) f0 f1 f3 f4 f5
  obtain⟨o,e,c,d⟩:=id st'
  exact⟨u,rfl,ako (s:={s with heap:=h'}) e c d (by decide) ⟨x,H,I1,ru,⟨rfl,fun ys hy=> by rw [I.list_inj hy hq];exact hx⟩,st',fun b hb=> (hf b hb).1⟩⟩
 done:=by
  intro X hP hw hK hc i pins s σ H E I hf st hg
  subst hP hw hK
  obtain⟨xs,hq,hx⟩:=hg
  obtain⟨its,rv,p,hz⟩:=I.list hq
  obtain⟨f0,f1,f2,f3,f4,f5⟩:=hf it (by simp)
  have hl:=rv.length
  exact gK (I.ok.hd hc) st p.isList (by simp;lia) fun h' eb=> ⟨rfl,I.turned (t':=s.toks) (fun b o hb e=> eb b o hb e) f0 f1 f3 f4 f5⟩
 self:=fun _ _ _ _ _ st h=> wpAny_pyIter_listiter st h
theorem aqb(a it:Addr):Turn P w K tg (Itt K a) [it] it (fun i h=> h.IsTupleIter it a i) where
 mem:=by simp
 obj:=fun i h st b hb=> by
  have e:b=it:=by simpa using hb
  subst e
  obtain⟨o,e,c,d⟩:=st
  exact⟨o,e,fun v z=> by rw [d]at z;cases z⟩
 keep:=fun i h h' st k=> st.at fun o e=> k it (by simp) o e
 item:=by
  intro X hP hw hK hc i pins s σ H E I hf st hg
  subst hP hw hK
  obtain⟨xs,x,hq,hx⟩:=hg
  obtain⟨its,rv,p,hz⟩:=I.tuple hq
  obtain⟨u,hu,ru⟩:=rv.get hx
  obtain⟨f0,f1,f2,f3,f4,f5⟩:=hf it (by simp)
  refine wpAny_pyNext_tuple_item st (show s.heap.IsTuple a its.toArray from p) (x:=u) (by simpa using hu) fun h' st' sb=> ?_
  have I1:Inv X pins σ H {s with heap:=h'}:=I.turned (t':=s.toks) (fun b o hb e=> (sb.2 b hb).trans e) f0 f1 f3 f4 f5
  obtain⟨o,e,c,d⟩:=id st'
  exact⟨u,rfl,ako (s:={s with heap:=h'}) e c d (by decide) ⟨x,H,I1,ru,⟨rfl,fun ys hy=> by rw [I.tuple_inj hy hq];exact hx⟩,st',fun b hb=> (hf b hb).1⟩⟩
 done:=by
  intro X hP hw hK hc i pins s σ H E I hf st hg
  subst hP hw hK
  obtain⟨xs,hq,hx⟩:=hg
  obtain⟨its,rv,p,hz⟩:=I.tuple hq
  obtain⟨f0,f1,f2,f3,f4,f5⟩:=hf it (by simp)
  have hl:=rv.length
  exact wpAny_pyNext_tuple_end (I.ok.hd hc) st (show s.heap.IsTuple a its.toArray from p) (by simp;lia) fun h' eb=> ⟨rfl,I.turned (t':=s.toks) (fun b o hb e=> eb b o hb e) f0 f1 f3 f4 f5⟩
 self:=fun _ _ _ _ _ st h=> wpAny_pyIter_tupleiter st h
theorem ap1(it:Addr)(lo:Int)(n:Nat):Turn P w K tg (Itr lo n) [it] it (fun i h=> IsRangeIter h it (lo+(i:Nat)*1) ((n:Int) - (i:Nat)) 1) where
 mem:=by simp
 obj:=fun i h st b hb=> by
  have e:b=it:=by simpa using hb
  subst e
  exact⟨_,st,fun v z=> by
   have z':Data.fields _=Data.cell v:=z
   cases z'⟩
 keep:=fun i h h' st k=> k it (by simp) _ st
 item:=by
  intro X hP hw hK hc i pins s σ H E I hf st hg
  subst hP hw hK
  obtain⟨f0,f1,f2,f3,f4,f5⟩:=hf it (by simp)
  have W:=Walks.range (prog:=X.prog) (w:=X.w) (I.ok.hd hc) it lo 1 n
  refine W.item i s _ _ hg st fun v h' tk hv st' kk=> ?_
  obtain⟨t,rfl⟩:=hv
  have I1:Inv X pins σ H {s with heap:=h',toks:=tk}:=I.turned (fun b o hb e=> kk b o (by simpa using hb) e) f0 f1 f3 f4 f5
  refine⟨_,rfl,ako (s:={s with heap:=h',toks:=tk}) (n:="range_iterator") st' rfl rfl (by decide) ⟨.int (lo+i),H,I1,⟨t,?_⟩,⟨rfl,rfl⟩,st',fun b hb=> (hf b hb).1⟩⟩
  rw [Int.mul_one]
 done:=by
  intro X hP hw hK hc i pins s σ H E I hf st hg
  subst hP hw hK
  obtain⟨f0,f1,f2,f3,f4,f5⟩:=hf it (by simp)
  exact wpAny_pyNext_range_end (I.ok.hd hc) st (by have:n <=i:=hg;lia) fun h' eb=> ⟨rfl,I.turned (t':=s.toks) (fun b o hb e=> eb b o hb e) f0 f1 f3 f4 f5⟩
 self:=fun _ _ _ _ _ st h=> wpAny_pyIter_rangeiter st h
end L2
variable{pins:List (cT×PySem.Obj)}{σ:L2.St}{H H':L2.Hp}{s:dJ}{E Q:ca -> dJ -> Prop}{t:L2.TA}{u:ca}{v:L2.V}{a p dx C f:cT}{ta tb te:L2.TE}{pos:PySem.Pos}{fp:List cT}{h base:PySem.Heap}{b iter e c tg:fU}{o:L2.HO}{body:List PySem.Stmt}{op:PySem.CmpOp}{i k n:Nat}{xs vs ys:List L2.V}{x qual name:fB}{us:List ca}{mA mg:fB -> Option ca}{K:ah}{prog P:hJ}{w:ir}{env:PySem.Env}{A:ic}{fd:PySem.FuncData}{scope:PySem.Scope}{osl:Array (Option ca)}{items:Array ca}{T:String}{X:L2.Cx}{st:PySem.Stmt}{es:List fU}
namespace L2
open PySem PySem.Spec PyProof.Rows
theorem ava{R:It -> Hp -> Prop}{lo hi:Int}{t u v:Tok}{tk:Nat}(I:Inv X pins σ H s)(h1: -(2^62) <=lo)(h2:lo < 2^62)(h3: -(2^62) <=hi)(h4:hi < 2^62)(q:R (Itr lo (hi - lo).toNat) H):wpAny (model X.prog X.w) X.A (pyIter (.ref s.heap.objs.size)) (PIE X pins σ tg R) E {s with heap:=s.heap.push {cls:=.type "range",data:=.fields #[.int lo t,.int hi u,.int 1 v]},toks:=tk}:=by
 refine wpAny_pyIter_range (IsRange.new ..) (small_one h1 h2 h3 h4) ?_
 have I1:Inv X pins σ H {s with heap:=s.heap.push {cls:=.type "range",data:=.fields #[.int lo t,.int hi u,.int 1 v]},toks:=tk}:=I.kept fun b o e=> ai _ e
 refine⟨(s.heap.push {cls:=.type "range",data:=.fields #[.int lo t,.int hi u,.int 1 v]}).objs.size,[(s.heap.push {cls:=.type "range",data:=.fields #[.int lo t,.int hi u,.int 1 v]}).objs.size],_,_,H,rfl,
  I1.kept (t':=tk) fun b o e=> ai _ e,ap1 _ lo (hi - lo).toNat,?_,fun b hb=> ?_,q⟩
 ·have e1:lo+((0:Nat):Int)*1=lo:=by simp
  have e2:(((hi - lo).toNat:Nat):Int) - ((0:Nat):Int)=Builtin.Range.rangeSize lo hi 1:=by rw [rangeSize_one];split <;> lia
  show IsRangeIter _ _ (lo+((0:Nat):Int)*1) ((((hi - lo).toNat:Nat):Int) - ((0:Nat):Int)) 1
  rw [e1,e2]
  exact aB _ rfl
 ·have e:b=(s.heap.push {cls:=.type "range",data:=.fields #[.int lo t,.int hi u,.int 1 v]}).objs.size:=by simpa using hb
  subst e
  exact I1.fpOk (ao _) (I1.hok.fresh (ao _))
def a4g(ta:TA):TI:=fun σ H R=> ta σ H fun vs H1=> ∃j:Int,vs=[.int j]/\ -(2^62) <=j/\j < 2^62/\R (Itr 0 j.toNat) H1
theorem at8{a:Expr}{ta:TA}{p:Pos}(hg:Gl X "range")(hm:X.mg "range"=none)(ha:PA X [a] ta)(hs:starEach [a] X.env=[(false,eval a X.env)]:=by rfl):PI X tg (.Call (.Name "range" p) [a] [] pos) (a4g ta):=by
 (first|refine⟨?_⟩|skip);intro pins s σ H R I h
 refine Call_ (adc I hg hm boot_range (cz (thn (ha pos pins s σ H _ I h) fun us s1 ⟨vs,H1,I1,r1,q1⟩=> ?_) hs rfl))
 obtain⟨j,e,q1,q2,q⟩:=q1
 subst e
 cases r1 with
 |cons r rr=>
  cases rr
  obtain⟨t,rfl⟩:=r
  exact call_range_1 (ava I1 (by lia) (by lia) q1 q2 (by simpa using q))
noncomputable def a6f(wi:TI)(g:TG)(tb:TS):TS:=fun D σ H=> wi σ H fun J H1=> ∃W:Nat -> Nat -> St -> Hp -> Prop,(∃m,W 0 m σ H1)/\ ∀i m σ H,W i m σ H ->
 (J.stop i H/\D.nx σ H)\/(J.go i H/\ ∃N:St -> Hp -> Prop,(∀σ' H',N σ' H' -> ∃m',m' < m/\W (i+1) m' σ' H')/\ ∀x H',J.yld i H x H' -> g x σ H' fun σ2 H2=> tb {D with nx:=N,ct:=N,bk:=D.nx} σ2 H2)
noncomputable def afv(fp:List Addr)(h:Heap):List (Addr×Obj):=fp.filterMap fun b=> (h.get? b).map fun o=> (b,o)
theorem abk{b:Addr}{o:Obj}(hb:b∈fp)(e:h.get? b=some o):(b,o)∈afv fp h:=List.mem_filterMap.mpr ⟨b,hb,by rw [e];rfl⟩
theorem ata{p:Addr×Obj}(hp:p∈afv fp h):p.1∈fp/\h.get? p.1=some p.2:=by
 obtain⟨b,hb,e⟩:=List.mem_filterMap.mp hp
 cases q:h.get? b with
 |none=> rw [q]at e;cases e
 |some o=>
  rw [q]at e
  have e':(b,o)=p:=bV e
  subst e'
  exact⟨hb,q⟩
theorem Inv.pinned(I:Inv X pins σ H s)(hf: ∀b∈fp,ac3 X pins H b)(ho: ∀b∈fp,∃o,s.heap.get? b=some o/\ ∀v,o.data≠ .cell v):Inv X (pins++afv fp s.heap) σ H s:=
 I.pins_of fun p hp=> (a7.mp hp).elim (fun z=> I.pin p (bb _ z)) fun z=> by
  obtain⟨hb,e⟩:=ata z
  obtain⟨f0,f1,f2,_⟩:=hf p.1 hb
  obtain⟨o,e',d⟩:=ho p.1 hb
  rw [e]at e';cases e'
  exact⟨e,f0,f1,f2,d⟩
theorem Inv.unpinned{pl:List (Addr×Obj)}(I:Inv X (pins++pl) σ H s):Inv X pins σ H s:=I.pins_of fun p hp=> I.pin p (bb _ (cf _ hp))
theorem a2c{wi:TI}{g:TG}{tb:TS}(hp:PassesOwn (model X.prog X.w) X.A X.env X.xe)(hc:X.calm=true)(hi:PI X tg iter wi)(hg:PG X tg g)(hb:PSs X body tb)(hs: ∀x,cF iter X.env x=pure x:=by intro _;rfl):PS X (.For tg iter body [] pos) (a6f wi g tb):=by
 (first|refine⟨?_⟩|skip);intro pins s σ H D I h
 refine wpAny_For (thn (hi pins s σ H _ I h) fun v s1 h1=> thn h1 fun itv s2 h2=> ?_) hs
 obtain⟨it,fp,tn,J,H2,e,I2,T,st2,f2,W,⟨m0,w0⟩,turn⟩:=h2
 subst e
 -- what stays true of the iterator's objects through the loop
 have stat: ∀{H':Hp},(∀b∈fp,H' b=none) -> ∀b∈fp,ac3 X pins H' b:=fun hn b hb=> ⟨hn b hb,(f2 b hb).2⟩
 refine codeAny_forLoop_any (fun n s'=> ∃i σ' H',Inv X pins σ' H' s'/\tn i s'.heap/\(∀b∈fp,H' b=none)/\W i n σ' H') ?_ m0 ⟨0,σ,H2,I2,st2,fun b hb=> (f2 b hb).1,w0⟩
 rintro n s3 ⟨i,σ3,H3,I3,st3,fr3,w3⟩
 rcases turn i n σ3 H3 w3 with ⟨stop,qn⟩|⟨go,N,hN,step⟩
 ·refine dE hp (thn (T.done X rfl rfl rfl hc i pins s3 σ3 H3 X.xe I3 (stat fr3) st3 stop) fun r s4 ⟨hr,I4⟩=> ?_)
  subst hr
  exact gq ⟨σ3,H3,I4,qn⟩
 ·refine dE hp (thn (T.item X rfl rfl rfl hc i pins s3 σ3 H3 X.xe I3 (stat fr3) st3 go) fun r s4 ⟨u,hr,h4⟩=> ?_)
  subst hr
  refine dE hp (thn h4 fun _ s5 ⟨x,H5,I5,r5,y5,st5,fr5⟩=> ?_)
  have I5':=I5.pinned (stat fr5) (T.obj _ _ st5)
  refine dE hp (thn (hg _ s5 σ3 H5 x u _ I5' r5 (step x H5 y5)) fun _ s6 ⟨σ6,H6,I6,q6⟩=> ?_)
  refine dE hp (thn (hb _ s6 σ6 H6 _ I6 q6) fun f s7 q7=> ?_)
  have again: ∀{σ7:St} {H7:Hp},Inv X (pins++afv fp s5.heap) σ7 H7 s7 -> N σ7 H7 -> ∃m,m < n/\ ∃i σ' H',Inv X pins σ' H' s7/\tn i s7.heap/\(∀b∈fp,H' b=none)/\W i m σ' H':=fun {σ7 H7} I7 n7=> by
   obtain⟨m',hm,w7⟩:=hN σ7 H7 n7
   refine⟨m',hm,i+1,σ7,H7,I7.unpinned,T.keep _ _ _ st5 fun b hb o e=> (I7.pin (b,o) (bb _ (bb _ (abk hb e)))).1,fun b hb=> ?_,w7⟩
   obtain⟨o,e,d⟩:=T.obj _ _ st5 b hb
   exact (I7.pin (b,o) (bb _ (bb _ (abk hb e)))).2.1
  cases f with
  |next=> obtain⟨σ7,H7,I7,n7⟩:=q7;exact again I7 n7
  |cont=> obtain⟨σ7,H7,I7,n7⟩:=q7;exact again I7 n7
  |brk=> obtain⟨σ7,H7,I7,q7⟩:=q7;exact⟨σ7,H7,I7.unpinned,q7⟩
  |ret v=> obtain⟨x7,σ7,H7,I7,r7,q7⟩:=q7;exact⟨x7,σ7,H7,I7.unpinned,r7,q7⟩
abbrev R2:=V -> V -> Hp -> VK -> Prop
def OpR(X:Cx)(f:af -> af -> Sem af)(r:R2):Prop:=
 ∀(pins:List (Addr×Obj)) (s:ak) (σ:St) (H:Hp) (x y:V) (v u:af) (Q:VK),Inv X pins σ H s -> RelV x v -> RelV y u -> r x y H Q ->
  wpAny (model X.prog X.w) X.A (f v u) (EP X pins σ Q) X.xe s
def UnR(X:Cx)(f:af -> Sem af)(r:V -> Hp -> VK -> Prop):Prop:=
 ∀(pins:List (Addr×Obj)) (s:ak) (σ:St) (H:Hp) (x:V) (v:af) (Q:VK),Inv X pins σ H s -> RelV x v -> r x H Q ->
  wpAny (model X.prog X.w) X.A (f v) (EP X pins σ Q) X.xe s
def xi(X:Cx)(f:af)(r:List V -> Hp -> VK -> Prop):Prop:=
 ∀(pins:List (Addr×Obj)) (s:ak) (σ:St) (H:Hp) (xs:List V) (us:List af) (Q:VK),Inv X pins σ H s -> ju xs us -> r xs H Q ->
  wpAny (model X.prog X.w) X.A (call f us) (EP X pins σ Q) X.xe s
def a6o(X:Cx)(r:V -> Hp -> (Bool -> Hp -> Prop) -> Prop):Prop:=
 ∀(pins:List (Addr×Obj)) (s:ak) (σ:St) (H:Hp) (x:V) (v:af) (Q:Bool -> Hp -> Prop),Inv X pins σ H s -> RelV x v -> r x H Q ->
  wpAny (model X.prog X.w) X.A (truthy v) (TP X pins σ Q) X.xe s
noncomputable def tOp(r:R2)(ta tb:TE):TE:=fun σ H Q=> ta σ H fun x H1=> tb σ H1 fun y H2=> r x y H2 Q
noncomputable def tUn(r:V -> Hp -> VK -> Prop)(ta:TE):TE:=fun σ H Q=> ta σ H fun x H1=> r x H1 Q
noncomputable def rI(C:Int -> Int -> Prop)(g:Int -> Int -> V):R2:=fun x y H Q=> ∃i j,x=.int i/\y=.int j/\C i j/\Q (g i j) H
noncomputable def rI0(g:Int -> Int -> V):R2:=fun x y H Q=> ∃i j,x=.int i/\y=.int j/\Q (g i j) H
def rU(g:Int -> V):V -> Hp -> VK -> Prop:=fun x H Q=> ∃i,x=.int i/\Q (g i) H
section
variable{X:Cx}{a b c:Expr}{ta tb tc:TE}{pos:Pos}
theorem avo(ha:PE X a ta)(hb:PE X b tb){R:V -> V -> Hp -> Prop}(I:Inv X pins σ H s)(h:ta σ H fun x H1=> tb σ H1 fun y H2=> R x y H2){f:af -> af -> Sem af}(hf: ∀v u s2 x y H2,Inv X pins σ H2 s2 -> RelV x v -> RelV y u -> R x y H2 -> wpAny (model X.prog X.w) X.A (f v u) Q X.xe s2):
  wpAny (model X.prog X.w) X.A (eval a X.env) (fun v s₁=> wpAny (model X.prog X.w) X.A (eval b X.env) (fun u s₂=> wpAny (model X.prog X.w) X.A (f v u) Q X.xe s₂) X.xe s₁) X.xe s:=by
 refine thn (ha pins s σ H _ I h) fun v s1 ⟨x,H1,I1,r1,q1⟩=> ?_
 refine thn (hb pins s1 σ H1 _ I1 q1) fun u s2 ⟨y,H2,I2,r2,q2⟩=> ?_
 exact hf v u s2 x y H2 I2 r1 r2 q2
theorem a58{op:f6}{r:R2}(ho:OpR X (binaryOp op) r)(ha:PE X a ta)(hb:PE X b tb):PE X (.BinOp a op b pos) (tOp r ta tb):=by
 (first|refine⟨?_⟩|skip);intro pins s σ H Q I h
 exact wpAny_BinOp (avo ha hb I h fun v u s2 x y H2 I2 rx ry q=> ho pins s2 σ H2 x y v u Q I2 rx ry q)
theorem a4m{op:UnaryOp}{r:V -> Hp -> VK -> Prop}(ho:UnR X (unaryOp op) r)(ha:PE X a ta):PE X (.UnaryOp op a pos) (tUn r ta):=by
 (first|refine⟨?_⟩|skip);intro pins s σ H Q I h
 exact UnaryOp_ (thn (ha pins s σ H _ I h) fun v s1 ⟨x,H1,I1,r1,q1⟩=> ho pins s1 σ H1 x v Q I1 r1 q1)
theorem opI{f:af -> af -> Sem af}{C:Int -> Int -> Prop}{g:Int -> Int -> Int}
  (rule: ∀(i j:Int) (t u:Tok) (s:ak) (Q:af -> ak -> Prop) (E:af -> ak -> Prop),C i j -> Q (.int (g i j) s.toks) {s with toks:=s.toks+1} -> wpAny (model X.prog X.w) X.A (f (.int i t) (.int j u)) Q E s):
  OpR X f (rI C fun i j=>.int (g i j)):=by
 (first|refine⟨?_⟩|skip);intro pins s σ H x y v u Q I rx ry h
 obtain⟨i,j,rfl,rfl,hc,q⟩:=h
 obtain⟨t,rfl⟩:=rx
 obtain⟨t',rfl⟩:=ry
 exact rule i j t t' s _ _ hc ⟨.int (g i j),H,I.tok _,⟨_,rfl⟩,q⟩
theorem a33{f:af -> af -> Sem af}{g:Int -> Int -> Int}
  (rule: ∀(i j:Int) (t u:Tok) (s:ak) (Q:af -> ak -> Prop) (E:af -> ak -> Prop),Q (.int (g i j) s.toks) {s with toks:=s.toks+1} -> wpAny (model X.prog X.w) X.A (f (.int i t) (.int j u)) Q E s):
  OpR X f (rI0 fun i j=>.int (g i j)):=by
 (first|refine⟨?_⟩|skip);intro pins s σ H x y v u Q I rx ry h
 obtain⟨i,j,rfl,rfl,q⟩:=h
 obtain⟨t,rfl⟩:=rx
 obtain⟨t',rfl⟩:=ry
 exact rule i j t t' s _ _ ⟨.int (g i j),H,I.tok _,⟨_,rfl⟩,q⟩
theorem aqc{f:af -> af -> Sem af}{g:Int -> Int -> Bool}
  (rule: ∀(i j:Int) (t u:Tok) (s:ak) (Q:af -> ak -> Prop) (E:af -> ak -> Prop),Q (.bool (g i j)) s -> wpAny (model X.prog X.w) X.A (f (.int i t) (.int j u)) Q E s):
  OpR X f (rI0 fun i j=>.bl (g i j)):=by
 (first|refine⟨?_⟩|skip);intro pins s σ H x y v u Q I rx ry h
 obtain⟨i,j,rfl,rfl,q⟩:=h
 obtain⟨t,rfl⟩:=rx
 obtain⟨t',rfl⟩:=ry
 exact rule i j t t' s _ _ ⟨.bl (g i j),H,I,rfl,q⟩
def aqs(i j:Int):Prop:=0 < j/\j < 1073741824
def apr(i j:Int):Prop:=0 <=j/\j <=1000000/\i.natAbs < 2^64
def aie(i j:Int):Prop:=(-(2^64) < i/\i < 2^64)\/(-(2^64) < j/\j < 2^64)
theorem aie.ok{i j:Int}(h:aie i j):IntMulOk i j:=by
 rcases h with ⟨h1,h2⟩|⟨h1,h2⟩
 ·exact .of_left (intBits_le_64 h1 h2)
 ·exact .of_right (intBits_le_64 h1 h2)
theorem ar3:OpR X (binaryOp .Add) (rI0 fun i j=>.int (i+j)):=a33 fun _ _ _ _ _ _ _ q=> add_int q
theorem alc:OpR X (binaryOp .Sub) (rI0 fun i j=>.int (i - j)):=a33 fun _ _ _ _ _ _ _ q=> sub_int q
theorem a1l:OpR X (binaryOp .Mult) (rI aie fun i j=>.int (i*j)):=opI fun _ _ _ _ _ _ _ hc q=> mul_int q hc.ok
theorem ayk:OpR X (binaryOp .FloorDiv) (rI aqs fun i j=>.int (i/j)):=opI fun i j _ _ _ _ _ hc q=> by
 have h1:(0:Int) < j:=hc.1
 have h2:j < 1073741824:=hc.2
 exact floordiv_int (by lia) (by rw [Int.fdiv_eq_ediv_of_nonneg i (by lia)];exact q) (.inl (PyProof.noPylong_small (by lia)))
theorem a14:OpR X (binaryOp .Mod) (rI (fun _ j=> 0 < j) fun i j=>.int (i % j)):=opI fun i j _ _ _ _ _ hc q=> by
 have h1:(0:Int) < j:=hc
 exact mod_int' (by lia) (by rw [Int.fmod_eq_emod_of_nonneg i (by lia)];exact q)
theorem a1s:OpR X (binaryOp .Pow) (rI apr fun i j=>.int (i^j.toNat)):=opI fun _ _ _ _ _ _ _ hc q=> pow_int_small hc.1 hc.2.1 hc.2.2 q
theorem unI{f:af -> Sem af}{g:Int -> Int}
  (rule: ∀(i:Int) (t:Tok) (s:ak) (Q:af -> ak -> Prop) (E:af -> ak -> Prop),Q (.int (g i) s.toks) {s with toks:=s.toks+1} -> wpAny (model X.prog X.w) X.A (f (.int i t)) Q E s):
  UnR X f (rU fun i=>.int (g i)):=by
 (first|refine⟨?_⟩|skip);intro pins s σ H x v Q I rx h
 obtain⟨i,rfl,q⟩:=h
 obtain⟨t,rfl⟩:=rx
 exact rule i t s _ _ ⟨.int (g i),H,I.tok _,⟨_,rfl⟩,q⟩
theorem a2g:UnR X (unaryOp .USub) (rU fun i=>.int (-i)):=unI fun _ _ _ _ _ q=> neg_int q
end
noncomputable def a2b:V -> V -> Bool
 |.non,.non=> true|.non,.int _=> true|.int _,.non=> true|.non,.bl _=> true|.bl _,.non=> true|.non,.str _=> true|.str _,.non=> true
 |.int _,.int _=> true|.bl _,.bl _=> true|.str _,.str _=> true|.byt _,.byt _=> true
 |.int _,.str _=> true|.str _,.int _=> true|.bl _,.str _=> true|.str _,.bl _=> true
 |_,_=> false
def rEq:R2:=fun x y H Q=> a2b x y=true/\Q (.bl (decide (x=y))) H
def rNe:R2:=fun x y H Q=> a2b x y=true/\Q (.bl (!decide (x=y))) H
theorem anv{i j:Int}:decide (V.int i=V.int j)=(i==j):=by
 rw [bm]
 simp
theorem aqz{i j:Bool}:decide (V.bl i=V.bl j)=(i==j):=by
 rw [bm]
 simp
theorem ao9{i j:Str}:decide (V.str i=V.str j)=(i==j):=by
 rw [bm]
 simp
theorem ao1{i j:Array UInt8}:decide (V.byt i=V.byt j)=(i.toList==j.toList):=by
 rw [bm]
 cases i
 cases j
 simp
section
variable{X:Cx}{a b c:Expr}{ta tb tc:TE}{pos:Pos}
theorem ka{Q:VK}{k k':Bool}(I:Inv X pins σ H s)(q:Q (.bl k) H)(e:k=k'):EP X pins σ Q (.bool k') s:=by
 subst e
 exact⟨.bl k,H,I,rfl,q⟩
theorem a4e:OpR X (aN .Eq) rEq:=by
 (first|refine⟨?_⟩|skip);intro pins s σ H x y v u Q I rx ry h
 obtain⟨hs,q⟩:=h
 cases x with
 |non=>
  cases rx
  cases y with
  |non=> cases ry;exact PySem.EqNone.eq_none_none (ka I q (by simp))
  |bl j=> cases ry;exact PySem.EqNone.eq_none_bool (ka I q (by simp))
  |int j=> obtain⟨t',rfl⟩:=ry;exact PySem.EqNone.eq_none_int (ka I q (by simp))
  |str j=> obtain⟨t',rfl⟩:=ry;exact PySem.EqNone.eq_none_str (ka I q (by simp))
  |_=> exact absurd (show false=true from hs) ax
 |bl i=>
  cases rx
  cases y with
  |non=> cases ry;exact PySem.EqNone.eq_bool_none (ka I q (by simp))
  |bl j=> cases ry;exact eq_bool (ka I q aqz)
  |str j=> obtain⟨t',rfl⟩:=ry;exact PySem.EqMixed.eq_bool_str (ka I q (by simp))
  |_=> exact absurd (show false=true from hs) ax
 |int i=>
  obtain⟨t,rfl⟩:=rx
  cases y with
  |non=> cases ry;exact PySem.EqNone.eq_int_none (ka I q (by simp))
  |int j=> obtain⟨t',rfl⟩:=ry;exact eq_int (ka I q anv)
  |str j=> obtain⟨t',rfl⟩:=ry;exact PySem.EqMixed.eq_int_str (ka I q (by simp))
  |_=> exact absurd (show false=true from hs) ax
 |str i=>
  obtain⟨t,rfl⟩:=rx
  cases y with
  |non=> cases ry;exact PySem.EqNone.eq_str_none (ka I q (by simp))
  |bl j=> cases ry;exact PySem.EqMixed.eq_str_bool (ka I q (by simp))
  |int j=> obtain⟨t',rfl⟩:=ry;exact PySem.EqMixed.eq_str_int (ka I q (by simp))
  |str j=> obtain⟨t',rfl⟩:=ry;exact eq_str (ka I q ao9)
  |_=> exact absurd (show false=true from hs) ax
 |byt i=>
  obtain⟨t,rfl⟩:=rx
  cases y with
  |byt j=> obtain⟨t',rfl⟩:=ry;exact PySem.W.eq_bytes (ka I q ao1)
  |_=> exact absurd (show false=true from hs) ax
 |_=> cases y <;> exact absurd (show false=true from hs) ax
theorem a4x:OpR X (aN .NotEq) rNe:=by
 (first|refine⟨?_⟩|skip);intro pins s σ H x y v u Q I rx ry h
 obtain⟨hs,q⟩:=h
 cases x with
 |non=>
  cases rx
  cases y with
  |non=> cases ry;exact PySem.EqNone.ne_none_none (ka I q (by simp))
  |bl j=> cases ry;exact PySem.EqNone.ne_none_bool (ka I q (by simp))
  |int j=> obtain⟨t',rfl⟩:=ry;exact PySem.EqNone.ne_none_int (ka I q (by simp))
  |str j=> obtain⟨t',rfl⟩:=ry;exact PySem.EqNone.ne_none_str (ka I q (by simp))
  |_=> exact absurd (show false=true from hs) ax
 |bl i=>
  cases rx
  cases y with
  |non=> cases ry;exact PySem.EqNone.ne_bool_none (ka I q (by simp))
  |bl j=> cases ry;exact ne_bool (ka I q (congrArg not aqz))
  |str j=> obtain⟨t',rfl⟩:=ry;exact PySem.EqMixed.ne_bool_str (ka I q (by simp))
  |_=> exact absurd (show false=true from hs) ax
 |int i=>
  obtain⟨t,rfl⟩:=rx
  cases y with
  |non=> cases ry;exact PySem.EqNone.ne_int_none (ka I q (by simp))
  |int j=> obtain⟨t',rfl⟩:=ry;exact ne_int (ka I q (congrArg not anv))
  |str j=> obtain⟨t',rfl⟩:=ry;exact PySem.EqMixed.ne_int_str (ka I q (by simp))
  |_=> exact absurd (show false=true from hs) ax
 |str i=>
  obtain⟨t,rfl⟩:=rx
  cases y with
  |non=> cases ry;exact PySem.EqNone.ne_str_none (ka I q (by simp))
  |bl j=> cases ry;exact PySem.EqMixed.ne_str_bool (ka I q (by simp))
  |int j=> obtain⟨t',rfl⟩:=ry;exact PySem.EqMixed.ne_str_int (ka I q (by simp))
  |str j=> obtain⟨t',rfl⟩:=ry;exact ne_str (ka I q (congrArg not ao9))
  |_=> exact absurd (show false=true from hs) ax
 |byt i=>
  obtain⟨t,rfl⟩:=rx
  cases y with
  |byt j=> obtain⟨t',rfl⟩:=ry;exact PySem.W.ne_bytes (ka I q (congrArg not ao1))
  |_=> exact absurd (show false=true from hs) ax
 |_=> cases y <;> exact absurd (show false=true from hs) ax
theorem a4s:OpR X (aN .Lt) (rI0 fun i j=>.bl (decide (i < j))):=aqc fun _ _ _ _ _ _ _ q=> lt_int q
theorem a4o:OpR X (aN .LtE) (rI0 fun i j=>.bl (decide (i <=j))):=aqc fun _ _ _ _ _ _ _ q=> le_int q
theorem a5d:OpR X (aN .Gt) (rI0 fun i j=>.bl (decide (j < i))):=aqc fun _ _ _ _ _ _ _ q=> gt_int q
theorem a5a:OpR X (aN .GtE) (rI0 fun i j=>.bl (decide (j <=i))):=aqc fun _ _ _ _ _ _ _ q=> ge_int q
theorem ary:OpR X (aN .Lt) (fun x y H Q=> ∃i j,x=.str i/\y=.str j/\Q (.bl (decide (i.cps.toList < j.cps.toList))) H):=by
 (first|refine⟨?_⟩|skip);intro pins s σ H x y v u Q I rx ry h
 obtain⟨i,j,rfl,rfl,q⟩:=h
 obtain⟨t,rfl⟩:=rx
 obtain⟨t',rfl⟩:=ry
 exact lt_str (ka I q rfl)
theorem asx:OpR X (aN .In) (fun x y H Q=> ∃i j,x=.str i/\y=.str j/\Q (.bl (!(cR j i 0 j.length 1).isEmpty)) H):=by
 (first|refine⟨?_⟩|skip);intro pins s σ H x y v u Q I rx ry h
 obtain⟨i,j,rfl,rfl,q⟩:=h
 obtain⟨t,rfl⟩:=rx
 obtain⟨t',rfl⟩:=ry
 exact in_str (ka I q rfl)
theorem a34:OpR X (aN .Is) (fun x y H Q=> y=.non/\Q (.bl (decide (x=.non))) H):=by
 (first|refine⟨?_⟩|skip);intro pins s σ H x y v u Q I rx ry h
 obtain⟨rfl,q⟩:=h
 cases ry
 refine is_none_gen (ka I q ?_)
 cases x <;> first
  |(cases rx;rfl)
  |(obtain⟨t,rfl⟩:=rx;rfl)
theorem amw:OpR X (aN .NotIn) (fun x y H Q=> ∃i j,x=.str i/\y=.str j/\Q (.bl (!(!(cR j i 0 j.length 1).isEmpty))) H):=by
 (first|refine⟨?_⟩|skip);intro pins s σ H x y v u Q I rx ry h
 obtain⟨i,j,rfl,rfl,q⟩:=h
 obtain⟨t,rfl⟩:=rx
 obtain⟨t',rfl⟩:=ry
 exact notIn_str (ka I q rfl)
theorem asj(b:Expr)(h:op≠ .In:=by decide)(h2:op≠ .NotIn:=by decide):dz op b=false:=by
 have e1:(op==CmpOp.In)=false:=by cases op <;> first|rfl|exact absurd rfl h
 have e2:(op==CmpOp.NotIn)=false:=by cases op <;> first|rfl|exact absurd rfl h2
 cases b <;> simp [dz,e1,e2]
theorem axt{r:R2}(ho:OpR X (aN op) r)(ha:PE X a ta)(hb:PE X b tb)(hm:dz op b=false):PE X (.Compare a [op] [b] pos) (tOp r ta tb):=by
 (first|refine⟨?_⟩|skip);intro pins s σ H Q I h
 exact wpAny_Compare1 (avo ha hb I h fun v u s2 x y H2 I2 rx ry q=> ho pins s2 σ H2 x y v u Q I2 rx ry q) hm
noncomputable def aq7(t:TE):TT:=fun σ H Q=> t σ H fun x H'=> ∃k,x=.bl k/\Q k H'
theorem a0h{r:R2}(ho:OpR X (aN op) r)(ha:PE X a ta)(hb:PE X b tb)(hm:dz op b=false):PT X (.Compare a [op] [b] pos) (aq7 (tOp r ta tb)):=by
 (first|refine⟨?_⟩|skip);intro pins s σ H Q I h
 refine wpAny_isTrue_Compare1 (thn (ha pins s σ H _ I h) fun v s1 ⟨x,H1,I1,r1,q1⟩=> thn (hb pins s1 σ H1 _ I1 q1) fun u s2 ⟨y,H2,I2,r2,q2⟩=>
  thn (ho pins s2 σ H2 x y v u _ I2 r1 r2 q2) fun c s3 ⟨z,H3,I3,r3,k,e,q3⟩=> ?_) hm
 subst e
 cases r3
 exact b0 ⟨H3,I3,q3⟩
noncomputable def am7(r r':R2)(ta tb tc:TE):TE:=fun σ H Q=> ta σ H fun x H1=> tb σ H1 fun y H2=> r x y H2 fun z H3=> ∃k,z=.bl k/\
 (if k=true then tc σ H3 fun w' H4=> r' y w' H4 Q else Q (.bl false) H3)
theorem avz{op':ip}{r r':R2}(ho:OpR X (aN op) r)(ho':OpR X (aN op') r')(ha:PE X a ta)(hb:PE X b tb)(hc:PE X c tc)(hm:ig [op,op'] [b,c]=false:=by with_unfolding_all rfl):PE X (.Compare a [op,op'] [b,c] pos) (am7 r r' ta tb tc):=by
 (first|refine⟨?_⟩|skip);intro pins s σ H Q I h
 refine Compare_chain (thn (ha pins s σ H _ I h) fun v s1 ⟨x,H1,I1,r1,q1⟩=> chain_link (thn (hb pins s1 σ H1 _ I1 q1) fun u s2 ⟨y,H2,I2,r2,q2⟩=>
  thn (ho pins s2 σ H2 x y v u _ I2 r1 r2 q2) fun d s3 ⟨z,H3,I3,r3,k,e,q3⟩=> ?_)) hm
 subst e
 cases r3
 refine b0 ?_
 cases k with
 |false=> exact ite_ff ⟨.bl false,H3,I3,rfl,q3⟩
 |true=> exact ite_tt (chain_last (thn (hc pins s3 σ H3 _ I3 q3) fun w' s4 ⟨z',H4,I4,r4,q4⟩=> ho' pins s4 σ H4 y z' u w' Q I4 r2 r4 q4))
theorem avv{op':ip}{r r':R2}(ho:OpR X (aN op) r)(ho':OpR X (aN op') r')(ha:PE X a ta)(hb:PE X b tb)(hc:PE X c tc)(hm:ig [op,op'] [b,c]=false:=by with_unfolding_all rfl):PT X (.Compare a [op,op'] [b,c] pos) (aq7 (am7 r r' ta tb tc)):=by
 (first|refine⟨?_⟩|skip);intro pins s σ H Q I h
 refine isTrue_chain (thn (ha pins s σ H _ I h) fun v s1 ⟨x,H1,I1,r1,q1⟩=> test_link (thn (hb pins s1 σ H1 _ I1 q1) fun u s2 ⟨y,H2,I2,r2,q2⟩=>
  thn (ho pins s2 σ H2 x y v u _ I2 r1 r2 q2) fun d s3 ⟨z,H3,I3,r3,k,e,q3⟩=> ?_)) hm
 subst e
 cases r3
 refine b0 ?_
 cases k with
 |false=>
  obtain⟨k',e',q'⟩:=q3
  cases e'
  exact ite_ff ⟨H3,I3,q'⟩
 |true=>
  refine ite_tt (test_last (thn (hc pins s3 σ H3 _ I3 q3) fun w' s4 ⟨z',H4,I4,r4,q4⟩=> thn (ho' pins s4 σ H4 y z' u w' _ I4 r2 r4 q4) fun d' s5 ⟨z2,H5,I5,r5,k2,e2,q5⟩=> ?_))
  subst e2
  cases r5
  exact b0 ⟨H5,I5,q5⟩
def apl(K:ah)(x:V)(H:Hp)(k:Bool):Prop:=
 match x with
 |.non=> k=false
 |.bl b=> k=b
 |.int i=> k=(i !=0)
 |.str y=> y.length <=sizeLine/\k=((y.length:Int) !=0)
 |.byt y=> y.size <=sizeLine/\k=((y.size:Int) !=0)
 |.ref p=> (∃xs,SqL K H p xs/\k= !xs.isEmpty)\/(∃xs,SqT K H p xs/\k= !xs.isEmpty)\/ ∃kvs,H p=some (.dK kvs)/\k= !kvs.isEmpty
 |_=> False
theorem apf{κ:Type}{kvs:List (κ×V)}{vs:List (κ×af)}(r:KV kvs vs):(!vs.isEmpty)= !kvs.isEmpty:=by
 cases r <;> rfl
theorem ahm{its:List af}(r:ju xs its):(!its.toArray.isEmpty)= !xs.isEmpty:=by
 cases r <;> simp
theorem ac9:(sizeLine:Nat) < 2^63:=by rw [gA];decide
theorem aso:a6o X (fun x H Q=> ∃k,apl X.K x H k/\Q k H):=by
 (first|refine⟨?_⟩|skip);intro pins s σ H x v Q I rx h
 obtain⟨k,e,q⟩:=h
 have hl:=ac9
 have hs:sizeLine=16777216:=gA
 cases x with
 |non=>
  cases rx
  have e':k=false:=e
  subst e'
  exact truthy_none ⟨H,I,q⟩
 |bl b=>
  cases rx
  have e':k=b:=e
  subst e'
  exact b0 ⟨H,I,q⟩
 |int i=>
  obtain⟨t,rfl⟩:=rx
  have e':k=(i !=0):=e
  subst e'
  exact PySem.P.truthy_int ⟨H,I,q⟩
 |str y=>
  obtain⟨t,rfl⟩:=rx
  obtain⟨hy,e'⟩:y.length <=sizeLine/\k=((y.length:Int) !=0):=e
  subst e'
  exact PySem.P.truthy_str (by lia) ⟨H,I.tok _,q⟩
 |byt y=>
  obtain⟨t,rfl⟩:=rx
  obtain⟨hy,e'⟩:y.size <=sizeLine/\k=((y.size:Int) !=0):=e
  subst e'
  exact PySem.W.truthy_bytes (by lia) ⟨H,I.tok _,q⟩
 | ref p=>
  cases rx
  have e':(∃xs,SqL X.K H p xs/\k= !xs.isEmpty)\/(∃xs,SqT X.K H p xs/\k= !xs.isEmpty)\/ ∃kvs,H p=some (.dK kvs)/\k= !kvs.isEmpty:=e
  rcases e' with ⟨xs,hx,e'⟩|⟨xs,hx,e'⟩|⟨kvs,hx,e'⟩
  ·subst e'
   obtain⟨its,r,pl,hz⟩:=I.list hx
   have hlen:=r.length
   exact wpAny_truthy_list pl.isList (by simp only [au];lia) ⟨H,I.tok _,by rw [ahm r];exact q⟩
  ·subst e'
   obtain⟨its,r,pl,hz⟩:=I.tuple hx
   have hlen:=r.length
   exact truthy_tuple pl (by simp only [au];lia) ⟨H,I.tok _,by rw [ahm r];exact q⟩
  ·subst e'
   obtain⟨hz,hS,vs,r,m⟩:kvs.length <=sizeLine/\(p==dk)=false/\ ∃vs,KV kvs vs/\s.heap.DictOf (adf X.prog X.w) p vs:=I.hok p _ hx
   have hlen:kvs.length=vs.length:=Paired.length r
   exact wpAny_truthy_dict hS m (by lia) ⟨H,I.tok _,by rw [apf r];exact q⟩
 |_=> exact (show False from e).elim
theorem av9(ha:PE X a ta)(he: ∀whole,isTrue a X.env whole=(do let v←whole;standAt a.pos;holding [v] (truthy v))):
  PT X a (fun σ H Q=> ta σ H fun x H'=> ∃k,apl X.K x H' k/\Q k H'):=by
 (first|refine⟨?_⟩|skip);intro pins s σ H Q I h
 exact isTrue_plain (thn (ha pins s σ H _ I h) fun v s1 ⟨x,H1,I1,r1,q1⟩=> aso pins s1 σ H1 x v Q I1 r1 q1) (he _)
theorem ap6:OpR X (binaryOp .Add) (fun x y H Q=> ∃i j,x=.str i/\y=.str j/\i.length+j.length <=sizeLine/\Q (.str (i++j)) H):=by
 (first|refine⟨?_⟩|skip);intro pins s σ H x y v u Q I rx ry h
 obtain⟨i,j,rfl,rfl,hz,q⟩:=h
 obtain⟨t,rfl⟩:=rx
 obtain⟨t',rfl⟩:=ry
 exact add_str (fun t' tk=> ⟨.str (i++j),H,I.tok _,⟨_,rfl⟩,q⟩) hz
theorem vals1{x:V}(r:ju [x] us): ∃u,us=[u]/\RelV x u:=by
 cases r with
 |cons r1 r2=> cases r2;exact⟨_,rfl,r1⟩
theorem vals2{x y:V}(r:ju [x,y] us): ∃u w',us=[u,w']/\RelV x u/\RelV y w':=by
 cases r with
 |cons r1 r2=>
  cases r2 with
  |cons r3 r4=> cases r4;exact⟨_,_,rfl,r1,r3⟩
theorem at4(hc:X.calm=true):xi X (.builtin "max") (fun xs H Q=> ∃i j,xs=[.int i,.int j]/\Q (.int (if j > i then j else i)) H):=by
 (first|refine⟨?_⟩|skip);intro pins s σ H xs us Q I r h
 obtain⟨i,j,rfl,q⟩:=h
 obtain⟨u,w',rfl,⟨t,rfl⟩,⟨t',rfl⟩⟩:=vals2 r
 refine max_two_ints (I.ok.hd hc) fun h' tk k=> ⟨_,H,I.kept k,?_,q⟩
 by_cases hj:j > i
 ·rw [if_pos hj,if_pos hj];exact⟨_,rfl⟩
 ·rw [if_neg hj,if_neg hj];exact⟨_,rfl⟩
theorem arr(hc:X.calm=true):xi X (.builtin "min") (fun xs H Q=> ∃i j,xs=[.int i,.int j]/\Q (.int (if j < i then j else i)) H):=by
 (first|refine⟨?_⟩|skip);intro pins s σ H xs us Q I r h
 obtain⟨i,j,rfl,q⟩:=h
 obtain⟨u,w',rfl,⟨t,rfl⟩,⟨t',rfl⟩⟩:=vals2 r
 refine min_two_ints (I.ok.hd hc) fun h' tk k=> ⟨_,H,I.kept k,?_,q⟩
 by_cases hj:j < i
 ·rw [if_pos hj,if_pos hj];exact⟨_,rfl⟩
 ·rw [if_neg hj,if_neg hj];exact⟨_,rfl⟩
end
structure ObjM (h:Heap) (x dx C:Addr) (mA:Str -> Option af):Prop where
 obj:h.get? x=some (cc C dx)
 ns:h.Ns1 dx mA
 ne:dx≠x
theorem arf(n:h.Ns1 dx mA): ∃od,h.get? dx=some od/\ ∀name,fq name od=some (mA name):=by
 obtain⟨o,es,ep,ho,hd,hk,_,hm⟩:=n
 refine⟨o,ho,fun name=> ?_⟩
 have e:=hm name
 unfold nsFind findBy at e
 rw [←Array.find?_toList]at e
 unfold fq
 rw [hd]
 dsimp only
 split
 ·rename_i y q
  rw [q]at e
  exact congrArg some e
 ·rename_i q
  rw [q]at e
  have a:es.toList.any (·.refKey)=false:=by
   rw [List.any_eq_false]
   intro y hy
   obtain⟨z,t,hkey⟩:=hk y (Array.mem_toList_iff.mp hy)
   simp [DictEntry.refKey,hkey]
  have a': ¬es.toList.any (·.refKey)=true:=by rw [a];exact ax
  rw [if_neg a']
  exact congrArg some e
theorem ObjM.look{x:Addr}(I:ObjM h x dx C mA): ∃od,PySem.W.InstAt h x (cc C dx) C (some od)/\ ∀name,fq name od=some (mA name):=
 let ⟨od,ho,hl⟩:=arf I.ns
 ⟨od,⟨I.obj,rfl,rfl,ho⟩,hl⟩
section
variable{prog:aW}{w:aY}{A:bd}{E:af -> ak -> Prop}{s:ak}{K:ah}{x dx C f:Addr}{mA:Str -> Option af}{name:Str}{v:af}
theorem axy{expr:Bool}(X:K.In s.heap)(I:ObjM s.heap x dx C mA)(hg:cO K C name=true)(hh:c5 K C=true)(ha:bn K (.ref C) name=some none)(hv:mA name=some v)(hv':PySem.W.handedIn v=true)(h:Q v {s with toks:=s.toks+1}):
  wpAny (model prog w) A (getAttr (.ref x) name expr) Q E s:=by
 obtain⟨od,J,hl⟩:=I.look
 exact PySem.W.get_value X J (fh hg).1 (PySem.W.findObj_own hh ha rfl (by rw [hl,hv])) hv' h
theorem aw2{pl:Sem Bool}{Q:af×List af -> ak -> Prop}(X:K.In s.heap)(I:ObjM s.heap x dx C mA)(hg:cO K C name=true)
  (hf:bn K (.ref C) name=some (some (.ref f))) (ht:eQ K (.ref f)=true) (hv:mA name=none) (h:Q (.ref f,[.ref x]) s):
  wpAny (model prog w) A (fD (.ref x) name pl) Q E s:=by
 obtain⟨od,J,hl⟩:=I.look
 exact PySem.W.method_fn X J (fh hg).1 (fh hg).2 hf (beq_iff_eq.mp ht) (by show (fq name od).map (·.isSome)=some false;rw [hl,hv];rfl) h
theorem ay8{ns:List Str}{Q:Unit -> ak -> Prop}(X:K.In s.heap)(I:ObjM s.heap x dx C mA)
  (hs:bn K (.ref C) "__setattr__"=some (some (.builtin "object.__setattr__"))) (hp:d8 K C=true) (ht:gr K C name=some none) (hh:c5 K C=true)
  (hw:eO mA ns) (hsz:ns.length <=sizeLine)
  (h: ∀h',ObjM h' x dx C (fun y=> if y=name then some v else mA y) -> bh dx s.heap h' -> Q () {s with heap:=h',toks:=s.toks+2}):
  wpAny (model prog w) A (setAttr (.ref x) name v) Q E s:=by
 obtain⟨od,J,hl⟩:=I.look
 refine PySem.W.set_plain X J hs (PySem.W.osa_open (s:={s with toks:=s.toks+1}) (r:=none) X J hp ht fun b=> ?_)
 obtain⟨cd,hc,hd'⟩:=PySem.W.any_some hh
 have hx:s.heap.get? x=some ⟨.ref C,some dx,.plain,#[]⟩:=I.obj
 refine ae (al (ae (ae (wpAny_loadPart hx (ae (PySem.W.Looks.here (s:={s with toks:=s.toks+1}) (PySem.W.looks_clsIn X hc) ?_))))))
 rw [hd']
 refine al (a:=some dx) (ae (al (ae ?_)))
 refine wpAny_nsSet1 (s:={s with toks:=s.toks+1}) I.ns fun h' hn2 hs2=> ?_
 obtain⟨oD,esD,epD,hoD,hdD,hcD⟩:=hn2.count (eO.cons name v hw)
 refine ae (wpAny_lookBehind hoD (by rw [hdD];exact pastItsLine_dict (aQ hcD (by rw [av];lia))) ?_)
 exact al (h _ ⟨(hs2.2 _ (c8 I.ne)).trans I.obj,hn2,I.ne⟩ hs2)
theorem avx{R:Result -> ak -> Prop}{vs:List af}{kw:List (Str×af)}(X:K.In s.heap)(hm:gt K C=true)
  (hi:bn K (.ref C) "__init__"=some (some (.ref f))) (hf:PySem.W.typeIn K (.ref f)=some (.type "function"))
  (h:codeAny (model prog w) (A.under (.builtin "type.__call__" ⟨.ref C::vs,kw⟩)) (.call (.ref f) ⟨.ref (s.heap.objs.size+1)::vs,kw⟩) (PySem.W.InitBack (s.heap.objs.size+1) R)
   {s with heap:=(s.heap.push bQ).push (cc C s.heap.objs.size)}):
  codeAny (model prog w) A (.call (.ref C) ⟨vs,kw⟩) R s:=by
 obtain⟨hh,g,d,t,os⟩:=s
 exact PySem.W.make_core (PySem.W.makes_of X hm) (PySem.W.looks_findIn X hi) (fun self=> PySem.W.bind_fn X self hf) (.inl rfl) h
end
noncomputable def v8(f:Str)(v:V):List (Str×V) -> List (Str×V)
 |[]=> [(f,v)]
 |(g,x)::r=> if g=f then (g,v)::r else (g,x)::v8 f v r
theorem agl(f g:Str)(v:V): ∀fs:List (Str×V),(v8 f v fs).lookup g=if g=f then some v else fs.lookup g
 | []=> by
  show cK g [(f,v)]=_
  by_cases h:g=f
  ·have hb:(g==f)=true:=beq_iff_eq.mpr h
   simp only [cK,hb,if_pos h]
  ·have hb:(g==f)=false:=beq_eq_false_iff_ne.mpr h
   simp only [cK,hb,if_neg h]
 | (k,x)::r=> by
  have ih:=agl f g v r
  rw [show v8 f v ((k,x)::r)=(if k=f then (k,v)::r else (k,x)::v8 f v r) from rfl]
  by_cases hk:k=f
  ·rw [if_pos hk]
   by_cases h:g=k
   ·have hb:(g==k)=true:=beq_iff_eq.mpr h
    simp only [cK,hb,if_pos (h.trans hk)]
   ·have hb:(g==k)=false:=beq_eq_false_iff_ne.mpr h
    simp only [cK,hb,if_neg (fun e:g=f=> h (e.trans hk.symm))]
  ·rw [if_neg hk]
   by_cases h:g=k
   ·have hb:(g==k)=true:=beq_iff_eq.mpr h
    simp only [cK,hb,if_neg (fun e:g=f=> hk (h.symm.trans e))]
   ·have hb:(g==k)=false:=beq_eq_false_iff_ne.mpr h
    simp only [cK,hb]
    exact ih
theorem afn(f:Str)(v:V): ∀fs:List (Str×V),f∈(v8 f v fs).map (·.1)/\ ∀g,g∈fs.map (·.1) -> g∈(v8 f v fs).map (·.1)
 |[]=> ⟨by simp [v8],fun g h=> by simp at h⟩
 | (k,x)::r=> by
  obtain⟨i1,i2⟩:=afn f v r
  rw [show v8 f v ((k,x)::r)=(if k=f then (k,v)::r else (k,x)::v8 f v r) from rfl]
  by_cases hk:k=f
  ·rw [if_pos hk]
   subst hk
   exact⟨by simp,fun g h=> by simpa using h⟩
  ·rw [if_neg hk]
   refine⟨?_,fun g h=> ?_⟩
   ·rw [aA]
    exact az _ i1
   ·rw [aA]at h⊢
    rcases aw.mp h with e|e
    ·exact aw.mpr (.inl e)
    ·exact az _ (i2 g e)
theorem agi(f:Str)(v:V): ∀fs:List (Str×V),(v8 f v fs).length <=fs.length+1
 |[]=> by simp [v8]
 |(k,x)::r=> by
  have ih:=agi f v r
  rw [show v8 f v ((k,x)::r)=(if k=f then (k,v)::r else (k,x)::v8 f v r) from rfl]
  by_cases hk:k=f
  ·rw [if_pos hk,av,av];lia
  ·rw [if_neg hk,av,av];lia
theorem aca.some_of{o:Option af}(r:aca (some v) o): ∃u,o=some u/\RelV v u:=by
 cases o with
 |none=> exact (show False from r).elim
 |some u=> exact⟨u,rfl,r⟩
theorem aca.none_of{o:Option af}(r:aca none o):o=none:=by
 cases o with
 |none=> rfl
 |some u=> exact (show False from r).elim
theorem ars(r:RelV v u):PySem.W.handedIn u=true:=by
 cases v with
 |non=> cases (show u=cx from r);rfl
 |bl b=> cases (show u=dX b from r);rfl
 |int i=> obtain⟨t,e⟩:=(show∃t,u=dL i t from r);cases e;rfl
 |str x=> obtain⟨t,e⟩:=(show∃t,u=eJ x t from r);cases e;rfl
 |byt b=> obtain⟨t,e⟩:=(show∃t,u=Value.bytes b t from r);cases e;rfl
 |flt b=> obtain⟨t,e⟩:=(show∃t,u=iu b t from r);cases e;rfl
 |ref a=> cases (show u=bu a from r);rfl
 |ty n=> cases (show u=dj n from r);rfl
section
variable{P:aW}{w:aY}{H H':Hp}{h h':Heap}{a C dx:Addr}{fs fs':List (Str×V)}
theorem afz(hok:HOk P w H h)(e:H a=some (.ins C dx fs)): ∃mA,ObjM h a dx C mA/\(∀f,aca (fs.lookup f) (mA f))/\eO mA (fs.map (·.1))/\fs.length <=1000/\H dx=some (.own a):=by
 obtain⟨d,z,ne,ob,mA,n,r,q⟩:=(show qi P w H h a (.ins C dx fs) from hok a _ e)
 exact⟨mA,⟨ob,n,ne⟩,r,q,z,d⟩
end
structure Cls (K:ah) (C:Addr):Prop where
 pg:cO K C Str.empty=true
 hd:c5 K C=true
 po:d8 K C=true
 sa:bn K (.ref C) "__setattr__"=some (some (.builtin "object.__setattr__"))
theorem Cls.get(c:Cls K C)(f:Str):cO K C f=true:=c.pg
def xn(K:ah)(C:Addr)(f:Str):Prop:=bn K (.ref C) f=some none
theorem xn.taker{f:Str}(n:xn K C f):gr K C f=some none:=by
 unfold gr
 rw [show bn K (.ref C) f=some none from n]
 rfl
structure Meth (K:ah) (C:Addr) (m:Str) (f:Addr):Prop where
 at_:bn K (.ref C) m=some (some (.ref f))
 fn:eQ K (.ref f)=true
 kp:bO K (.ref f)=true
section
variable{X:Cx}{pins:List (Addr×Obj)}{σ:St}{H:Hp}{s:ak}{a C dx:Addr}{fs:List (Str×V)}{f:Str}{v:V}{A:bd}{E:af -> ak -> Prop}
theorem ai5{b:Bool}(I:Inv X pins σ H s)(e:H a=some (.ins C dx fs))(c:Cls X.K C)(n:xn X.K C f)(l:fs.lookup f=some v)(h: ∀u s',Inv X pins σ H s' -> RelV v u -> Q u s'):wpAny (model X.prog X.w) A (getAttr (.ref a) f b) Q E s:=by
 obtain⟨mA,O,r,_,_,_⟩:=afz I.hok e
 obtain⟨u,hu,ru⟩:=aca.some_of (v:=v) (o:=mA f) (by rw [←l];exact r f)
 exact axy I.kIn O (c.get f) c.hd n hu (ars ru) (h u _ (I.tok _) ru)
theorem ai2{m:Str}{g:Addr}{pl:Sem Bool}{Q:af×List af -> ak -> Prop}(I:Inv X pins σ H s)(e:H a=some (.ins C dx fs))(c:Cls X.K C)(k:Meth X.K C m g)(l:fs.lookup m=none)
  (h:Q (.ref g,[.ref a]) s):wpAny (model X.prog X.w) A (fD (.ref a) m pl) Q E s:=by
 obtain⟨mA,O,r,_,_,_⟩:=afz I.hok e
 have hn:mA m=none:=aca.none_of (by rw [←l];exact r m)
 exact aw2 I.kIn O (c.get m) k.at_ k.fn hn h
theorem ahy{y:V}{Q:Unit -> ak -> Prop}(I:Inv X pins σ H s)(e:H a=some (.ins C dx fs))(c:Cls X.K C)(n:xn X.K C f)(hl:fs.length < 1000)(ry:RelV y u)(h: ∀s',Inv X pins σ (upd H a (.ins C dx (v8 f y fs))) s' -> Q () s'):wpAny (model X.prog X.w) A (setAttr (.ref a) f u) Q E s:=by
 obtain⟨mA,O,r,wi,_,ho⟩:=afz I.hok e
 have hz:(fs.map (·.1)).length <=sizeLine:=by rw [aj,gA];lia
 refine ay8 I.kIn O c.sa c.po n.taker c.hd wi hz fun h' O' sb=> h _ ?_
 have hd: ∃o,h'.get? dx=some o:=let ⟨o,_,_,e',_⟩:=O'.ns;⟨o,e'⟩
 refine I.write (x:=a) (e:=dx) (by rw [e];exact dZ) (.inr ho) (fun b q hb z=> (sb.2 b hb).trans z) hd ?_
 refine⟨by rw [k8 O.ne];exact ho,?_,O.ne,O'.obj,_,O'.ns,fun g=> ?_,fun g hg=> ?_⟩
 ·have:=agi f y fs;lia
 ·show aca ((v8 f y fs).lookup g) (if g=f then some u else mA g)
  rw [agl]
  by_cases q:g=f
  ·rw [if_pos q,if_pos q];exact ry
  ·rw [if_neg q,if_neg q];exact r g
 ·by_cases q:g=f
  ·rw [q];exact (afn f y fs).1
  ·refine (afn f y fs).2 g (wi g fun z=> hg ?_)
   show (if g=f then some u else mA g)=none
   rw [if_neg q];exact z
theorem Inv.made(I:Inv X pins σ H s):Inv X pins σ (upd (upd H s.heap.objs.size (.own (s.heap.objs.size+1))) (s.heap.objs.size+1) (.ins C s.heap.objs.size []))
  {s with heap:=(s.heap.push bQ).push (cc C s.heap.objs.size)}:=by
 have e1:(s.heap.push bQ).get? s.heap.objs.size=some bQ:=aB s.heap rfl
 have e2:((s.heap.push bQ).push (cc C s.heap.objs.size)).get? (s.heap.objs.size+1)=some (cc C s.heap.objs.size):=by
  have:=aB (s.heap.push bQ) (o:=cc C s.heap.objs.size) rfl
  rwa [bf]at this
 have e3:(s.heap.push bQ).Ns s.heap.objs.size (fun _=> none):=⟨bQ,#[],_,e1,rfl,(fun e he=> absurd he (by simp)),fun _=> rfl⟩
 have I1:=I.laid (a:=s.heap.objs.size) (o:=.own (s.heap.objs.size+1)) (h':=s.heap.push bQ) (t':=s.toks) (fun b u q=> ai _ q) (ao _) ⟨_,e1⟩
 refine I1.laid (a:=s.heap.objs.size+1) (o:=.ins C s.heap.objs.size []) (t':=s.toks) (fun b u q=> ai _ q) (dN (bf _ _)) ?_
 have ne:s.heap.objs.size≠s.heap.objs.size+1:=aT (f7 _)
 refine⟨by rw [k8 ne,y7],bP _,ne,e2,fun _=> none,(Heap.Ns1.of_empty e3).at fun o q=> ai _ q,fun _=> dZ,fun y hy=> absurd rfl hy⟩
theorem aza{f:Str}(hb:cD e f env (eval e env)=eval e env)(h:wpAny (model prog w) A (eval e env) (fun o s₁=> wpAny (model prog w) A (getAttr o f true) Q E s₁) E s):wpAny (model prog w) A (eval (.Attribute e f pos) env) Q E s:=
 Attribute_any_ h (by rw [arm_eval_Attribute,hb])
end
def a69(K:ah)(ta:TE)(f:Str):TE:=fun σ H Q=> ta σ H fun x H1=> ∃a C dx fs v,x=.ref a/\H1 a=some (.ins C dx fs)/\Cls K C/\xn K C f/\fs.lookup f=some v/\Q v H1
def a6i(K:ah)(ta tv:TE)(f:Str):TS:=fun D σ H=> tv σ H fun y H1=> ta σ H1 fun x H2=> ∃a C dx fs,x=.ref a/\H2 a=some (.ins C dx fs)/\Cls K C/\xn K C f/\fs.length < 1000/\
 D.nx σ (upd H2 a (.ins C dx (v8 f y fs)))
def avl(X:Cx)(op:f6)(rd:V -> V -> Hp -> VK -> Prop):Prop:=
 ∀(pins:List (Addr×Obj)) (s:ak) (σ:St) (H:Hp) (x y:V) (u v:af) (Q:VK),Inv X pins σ H s -> RelV x u -> RelV y v -> rd x y H Q -> wpAny (model X.prog X.w) X.A (inplaceOp op u v) (EP X pins σ Q) X.xe s
def azx(K:ah)(ta tv:TE)(rd:V -> V -> Hp -> VK -> Prop)(f:Str):TS:=fun D σ H=> ta σ H fun x H1=> ∃a C dx fs v,x=.ref a/\H1 a=some (.ins C dx fs)/\Cls K C/\xn K C f/\fs.lookup f=some v/\
 tv σ H1 fun y H2=> rd v y H2 fun z H3=> ∃dx' fs',H3 a=some (.ins C dx' fs')/\fs'.length < 1000/\D.nx σ (upd H3 a (.ins C dx' (v8 f z fs')))
section
variable{X:Cx}{o e value:Expr}{f:Str}{pos pos' tpos:Pos}{ta tv:TE}
theorem a3k(he:PE X e ta)(hb:cD e f X.env (eval e X.env)=eval e X.env):PE X (.Attribute e f pos) (a69 X.K ta f):=by
 (first|refine⟨?_⟩|skip);intro pins s σ H Q I h
 refine aza hb (thn (he pins s σ H _ I h) fun u s1 ⟨x,H1,I1,rx,a,C,dx,fs,v,ex,ea,c,n,l,q⟩=> ?_)
 subst ex
 obtain rfl:u=bu a:=rx
 exact ai5 I1 ea c n l fun u' s2 I2 ru=> ⟨v,H1,I2,ru,q⟩
theorem a1b(ha:PE X o ta)(hv:PE X value tv)(hs:dM value (some (.Attribute o f pos')) pos.line X.env=pure false):PS X (.Assign [.Attribute o f pos'] value pos) (a6i X.K ta tv f):=by
 (first|refine⟨?_⟩|skip);intro pins s σ H D I h
 refine plainObj_wpAny_Assign_Attribute (thn (hv pins s σ H _ I h) fun u s1 ⟨y,H1,I1,ry,q⟩=> thn (ha pins s1 σ H1 _ I1 q) fun ov s2 ⟨x,H2,I2,rx,a,C,dx,fs,ex,ea,c,n,l,q2⟩=> ?_) hs
 subst ex
 obtain rfl:ov=bu a:=rx
 exact ahy I2 ea c n l ry fun s3 I3=> ⟨σ,_,I3,q2⟩
theorem aqw{op:f6}{rd:V -> V -> Hp -> VK -> Prop}(ha:PE X o ta)(hv:PE X value tv)(hop:avl X op rd):PS X (.AugAssign (.Attribute o f tpos) op value pos) (azx X.K ta tv rd f):=by
 (first|refine⟨?_⟩|skip);intro pins s σ H D I h
 refine wpAny_AugAssign_AttributeAny (thn (ha pins s σ H _ I h) fun ov s1 ⟨x,H1,I1,rx,a,C,dx,fs,v,ex,ea,c,n,l,q⟩=> ?_)
 subst ex
 obtain rfl:ov=bu a:=rx
 refine ai5 I1 ea c n l fun u s2 I2 ru=> thn (hv pins s2 σ H1 _ I2 q) fun w3 s3 ⟨y,H2,I3,ry,q3⟩=> thn (hop pins s3 σ H2 v y u w3 _ I3 ru ry q3) fun w4 s4 ⟨z,H3,I4,rz,dx',fs',ea',l',q4⟩=> ?_
 exact ahy I4 ea' c n l' rz fun s5 I5=> ⟨σ,_,I5,q4⟩
def a2m:V -> V -> Hp -> VK -> Prop:=fun x y H Q=> ∃i j,x=.int i/\y=.int j/\Q (.int (i+j)) H
theorem ar2:avl X .Add a2m:=by
 rintro pins s σ H x y u v Q I rx ry ⟨i,j,rfl,rfl,q⟩
 obtain⟨t,rfl⟩:=(show∃t,u=dL i t from rx)
 obtain⟨t',rfl⟩:=(show∃t',v=dL j t' from ry)
 exact PyProof.Rows.iadd_int ⟨.int (i+j),H,I.tok _,⟨_,rfl⟩,q⟩
end
section
variable{X:Cx}{pins:List (Addr×Obj)}{σ:St}{H:Hp}{s:ak}{A:bd}{E:af -> ak -> Prop}{Q:af -> ak -> Prop}{c:af}{b:Bool}
inductive TyOf (K:ah) (H:Hp):V -> af -> Prop where
 |non:TyOf K H .non (.type "NoneType")
 |bl (x:Bool):TyOf K H (.bl x) (.type "bool")
 |int (i:Int):TyOf K H (.int i) (.type "int")
 |str (x:Str):TyOf K H (.str x) (.type "str")
 |flt (x:UInt64):TyOf K H (.flt x) (.type "float")
 |lst {a:Addr} {xs:List V} (e:H a=some (.lst xs)):TyOf K H (.ref a) (.type "list")
 |frz {a:Addr} {o:Obj} {xs:List V} (e:H a=some (.frz o (.lst xs))):TyOf K H (.ref a) (.type "list")
 |tup {a:Addr} {xs:List V} (e:H a=some (.tup xs)):TyOf K H (.ref a) (.type "tuple")
 |dK {a:Addr} {kvs:List (Key×V)} (e:H a=some (.dK kvs)):TyOf K H (.ref a) (.type "dict")
 |dT {a:Addr} {kvs:List (List Key×V)} (e:H a=some (.dT kvs)):TyOf K H (.ref a) (.type "dict")
 | ins {a C dx:Addr} {fs:List (Str×V)} (e:H a=some (.ins C dx fs)) (cl:Cls K C) (ha:bn K (.ref C) "__class__"=some (some (.builtin "object.__class__")))
   (hn:PySem.W.specialIn K (.builtin "object.__class__") "__get__"=some (some (.builtin "getset_descriptor.__get__"))) (htk:PySem.W.takesIn K (.builtin "object.__class__")=some true)
   (hm:PySem.W.mroIn K C (.type "object")=some true):TyOf K H (.ref a) (.ref C)
theorem ajc{x:V}{t:af}(I:Inv X pins σ H s)(rx:RelV x u)(ty:TyOf X.K H x t)(e:PySem.W.kitOne X.K t c=some b)(h: ∀tk,Q (.bool b) {s with toks:=tk}):
  wpAny (model X.prog X.w) A (call (.builtin "isinstance") [u,c]) Q E s:=by
 cases ty with
 |non=> cases (show u=cx from rx);exact bL PySem.W.kitx_none I.kIn dZ e (fun z=> nomatch z) h
 |bl y=> cases (show u=dX y from rx);exact bL PySem.W.kitx_bool I.kIn dZ e (fun z=> nomatch z) h
 |int i=> obtain⟨t,q⟩:=(show∃t,u=dL i t from rx);cases q;exact bL PySem.W.kitx_int I.kIn dZ e (fun z=> nomatch z) h
 |str y=> obtain⟨t,q⟩:=(show∃t,u=eJ y t from rx);cases q;exact bL PySem.W.kitx_str I.kIn dZ e (fun z=> nomatch z) h
 |flt y=> obtain⟨t,q⟩:=(show∃t,u=iu y t from rx);cases q;exact bL PySem.W.kitx_float I.kIn dZ e (fun z=> nomatch z) h
 | @lst a xs ea=>
  cases (show u=bu a from rx)
  obtain⟨_,_,n,_,h1⟩:=(show qi X.prog X.w H s.heap a (.lst xs) from I.hok a _ ea)
  exact bL PySem.W.kitx_list I.kIn ⟨_,h1,rfl⟩ e (fun z=> nomatch z) h
 | @frz a ob xs ea=>
  cases (show u=bu a from rx)
  obtain⟨_,_,_,n,_,h1⟩:=(show qi X.prog X.w H s.heap a (.frz ob (.lst xs)) from I.hok a _ ea)
  exact bL PySem.W.kitx_list I.kIn ⟨_,h1,rfl⟩ e (fun z=> nomatch z) h
 | @tup a xs ea=>
  cases (show u=bu a from rx)
  obtain⟨_,_,_,p⟩:=(show qi X.prog X.w H s.heap a (.tup xs) from I.hok a _ ea)
  obtain⟨o,h1,h2,_⟩:=p.tup
  exact bL PySem.W.kitx_tuple I.kIn ⟨o,h1,h2⟩ e (fun z=> nomatch z) h
 | @dK a kvs ea=>
  cases (show u=bu a from rx)
  obtain⟨_,_,vs,_,p⟩:=(show qi X.prog X.w H s.heap a (.dK kvs) from I.hok a _ ea)
  obtain⟨o,es,ep,h1,h2,_⟩:=p
  exact bL PySem.W.kitx_dict I.kIn ⟨o,h1,h2.1⟩ e (fun z=> nomatch z) h
 | @dT a kvs ea=>
  cases (show u=bu a from rx)
  obtain⟨_,_,xs,_,o,es,ep,h1,h2,_⟩:=(show qi X.prog X.w H s.heap a (.dT kvs) from I.hok a _ ea)
  exact bL PySem.W.kitx_dict I.kIn ⟨o,h1,h2.1⟩ e (fun z=> nomatch z) h
 | @ins a C dx fs ea cl ha hn htk hm=>
  cases (show u=bu a from rx)
  obtain⟨mA,O,_⟩:=afz I.hok ea
  obtain⟨od,J,_⟩:=O.look
  exact bL (PySem.W.kitx_own (cl.get _) cl.hd ha hn htk hm) I.kIn J e (fun z=> nomatch z) h
end
structure Room (k:Nat) (A:bd):Prop where
 hd:A.handled=none
 dp:A.depth+3*k+5 < recursionLimit
 un:A.units+16*k+200 < cLine
 gd:A.guards=some []
theorem Room.mono{j:Nat}(r:Room k A)(h:j <=k):Room j A:=⟨r.hd,by have:=r.dp;lia,by have:=r.un;lia,r.gd⟩
theorem Room.deeper(r:Room (k+1) A)(env:Env):Room k (A.deeper env):=
 ⟨r.hd,by have:=r.dp;show A.depth+1+3*k+5 < _;lia,by have:=r.un;show A.units+3+16*k+200 < _;lia,r.gd⟩
theorem apv{kw:List (Str×af)}:(A.under (.builtin "type.__call__" ⟨.ref C::us,kw⟩)).depth=A.depth+1:=by
 first|rfl|simp [f8,Code.weight,Code.isCreation,Code.isGuard,Code.isCaller,Code.frames,ii,guardIds]
theorem ape{kw:List (Str×af)}:(A.under (.builtin "type.__call__" ⟨.ref C::us,kw⟩)).units=A.units+1:=by
 first|rfl|simp [f8,Code.cUnits,Code.frames,ii]
theorem Room.make(r:Room (k+1) A)(C:Addr)(us:List af)(kw:List (Str×af)):Room k (A.under (.builtin "type.__call__" ⟨.ref C::us,kw⟩)):=
 ⟨r.hd,by have:=r.dp;rw [apv];lia,by have:=r.un;rw [ape];lia,by first|exact r.gd|(simpa [f8,Code.isGuard,guardIds] using r.gd)⟩
theorem Room.depth(r:Room k A):A.depth < recursionLimit:=by have:=r.dp;lia
noncomputable def auo:TA:=fun _ H Q=> Q [] H
noncomputable def a5i(ta:TE)(tr:TA):TA:=fun σ H Q=> ta σ H fun x H1=> tr σ H1 fun xs H2=> Q (x::xs) H2
theorem amb:PA X [] auo:=.mk <|fun _ _ _ _ H Q I h=> Calls.spliced_nil ⟨[],H,I,.nil,h⟩
theorem aig(ha:PE X e te)(hr:PA X es t)(hs:starEach (e::es) X.env=(false,eval e X.env)::starEach es X.env:=by rfl):PA X (e::es) (a5i te t):=by
 (first|refine⟨?_⟩|skip);intro pos pins s σ H Q I h
 rw [hs]
 show wpAny _ _ (spliced ((false,eval e X.env)::backTo pos (starEach es X.env))) _ _ s
 refine Calls.spliced_cons (thn (ha pins s σ H _ I h) fun u s1 ⟨x,H1,I1,r1,q1⟩=> ?_)
 exact thn (hr pos pins s1 σ H1 _ I1 q1) fun us s2 ⟨xs,H2,I2,r2,q2⟩=> ⟨x::xs,H2,I2,.cons r1 r2,q2⟩
abbrev Sp:=List V -> Hp -> VK -> XK -> Prop
abbrev CXT:=List Env -> Hp -> ak -> XK -> af -> ak -> Prop
structure Env0 (P:aW) (w:aY) (K:ah) (mg:Str -> Option af) (base:Heap) (A:bd) (outer:List Env) (s:ak) (H:Hp):Prop where
 frames:A.frames=some outer
 mod:Mod K mg base
 bs: ∀b o,base.get? b=some o -> s.heap.get? b=some o/\H b=none
 bsz:base.objs.size <=s.heap.objs.size
 funs:s.heap.FunFrames base outer
 frf: ∀b∈frs outer,H b=none
 hok:HOk P w H s.heap
 bare:eK s.gens
def CE(outer:List Env)(P:aW)(w:aY)(H:Hp)(s:ak)(Q:VK)(u:af)(s':ak):Prop:=
 ∃v H',s'.os=s.os/\eK s'.gens/\Un (frs outer) [] H H' s.heap s'.heap/\HOk P w H' s'.heap/\RelV v u/\Q v H'
def CR(CX:CXT)(outer:List Env)(P:aW)(w:aY)(H:Hp)(s:ak)(Q:VK)(E:XK)(r:Result)(s':ak):Prop:=
 match r with
 |.ok (.ret u)=> CE outer P w H s Q u s'
 |.ok _=> False
 |.error e=> CX outer H s E e s'
structure FnOk (P:aW) (w:aY) (K:ah) (mg:Str -> Option af) (base:Heap) (CX:CXT) (k:Nat) (f:Addr) (fd:cv) (ps:List Str) (sp:Sp):Prop where
 len: ∀vs H Q E,sp vs H Q E -> vs.length=ps.length
 run: ∀(A:bd) (outer:List Env) (s:ak) (H:Hp) (args:Args) (us:List af) (vs:List V) (Q:VK) (E:XK),Room k A -> Env0 P w K mg base A outer s H -> gL s fd args (ps.zip us) -> ju vs us -> sp vs H Q E ->
  codeAny (model P w) A (.call (.ref f) args) (CR CX outer P w H s Q E) s
theorem FnOk.imp{CX:CXT}{ps:List Str}{sp sp':Sp}(F:FnOk P w K mg base CX k f fd ps sp)(h: ∀vs H Q E,sp' vs H Q E -> sp vs H Q E):FnOk P w K mg base CX k f fd ps sp':=
 ⟨fun vs H Q E q=> F.len vs H Q E (h _ _ _ _ q),fun A outer s H args us vs Q E hr he hb hv hs=> F.run A outer s H args us vs Q E hr he hb hv (h _ _ _ _ hs)⟩
theorem Env0.make{outer:List Env}(e:Env0 P w K mg base A outer s H)(C:Addr)(us:List af)(kw:List (Str×af)):
  Env0 P w K mg base (A.under (.builtin "type.__call__" ⟨.ref C::us,kw⟩)) outer s H:=⟨by first|exact e.frames|(simpa [f8,Code.envs,ii,pushEnvs] using e.frames),e.mod,e.bs,e.bsz,e.funs,e.frf,e.hok,e.bare⟩
section
variable{X:Cx}{pins:List (Addr×Obj)}{σ:St}{H:Hp}{s s':ak}
theorem Inv.env0(I:Inv X pins σ H s):Env0 X.prog X.w X.K X.mg X.base X.A X.stack s H:=
 ⟨I.ok.frames,I.ok.mod,I.bs,aQ I.ok.bsz I.sz,I.stack,I.stkFree,I.hok,I.bare⟩
theorem Inv.after{Q:VK}(I:Inv X pins σ H s)(h:CE X.stack X.prog X.w H s Q u s'):EP X pins σ Q u s':=by
 obtain⟨v,H',os,bare,un,hok,r,q⟩:=h
 obtain⟨hh,g,d,t,os'⟩:=s'
 obtain rfl:os'=s.os:=os
 exact⟨v,H',I.call (h':=hh) (g':=g) (d':=d) (t':=t) (ch:=[]) un hok bare (fun b z=> absurd z (by simp)),r,q⟩
end
noncomputable def awl(sp:Sp)(dvs:List V)(E:XK)(t:TA):TE:=fun σ H Q=> t σ H fun vs H1=> sp (vs++dvs) H1 Q E
def aq1(C:Addr)(sp:Sp)(dvs:List V)(E:XK)(t:TA):TE:=fun σ H Q=> t σ H fun vs H1=> ∀x dx,H1 x=none -> H1 dx=none -> dx≠x ->
 sp (.ref x::(vs++dvs)) (upd (upd H1 dx (.own x)) x (.ins C dx [])) (fun v H2=> v=.non/\Q (.ref x) H2) E
def Binds(K:ah)(fd:cv)(ps:List Str)(ds:List af):Prop:=
 ∀(s:ak) (us:List af),K.In s.heap -> (us++ds).length=ps.length -> gL s fd ⟨us,[]⟩ (ps.zip (us++ds))
theorem Binds.all{ps:List Str}(h: ∀us:List af,us.length=ps.length -> bindArgs fd ⟨us,[]⟩=pure (ps.zip us)):Binds K fd ps []:=fun s us _ hl=> by
 rw [bj]at hl⊢
 exact .of_eq (h us hl)
def adl(CX:CXT)(X:Cx)(E:XK):Prop:= ∀(pins:List (Addr×Obj)) (σ:St) (H:Hp) (s:ak) (e:af) (s':ak),Inv X pins σ H s -> CX X.stack H s E e s' -> X.xe e s'
section
variable{X:Cx}{CX:CXT}{k:Nat}{f C:Addr}{fd:cv}{ps:List Str}{sp:Sp}{dvs:List V}{ds:List af}{E:XK}{x m:Str}{p pos apos:Pos}{e o:Expr}{es:List Expr}{ta:TE}{t:TA}
theorem ate{Q:VK}(F:FnOk X.prog X.w X.K X.mg X.base CX k f fd ps sp)(hr:Room k X.A)(hb:Binds X.K fd ps ds)(hd:ju dvs ds)(hx:adl CX X E)(I:Inv X pins σ H s)(r:ju vs us)(h:sp (vs++dvs) H Q E):wpAny (model X.prog X.w) X.A (call (.ref f) us) (EP X pins σ Q) X.xe s:=by
 have r2:ju (vs++dvs) (us++ds):=r.append hd
 have hl:(us++ds).length=ps.length:=by rw [←r2.length];exact F.len _ _ _ _ h
 refine wpAny_call (dO (F.run X.A X.stack s H ⟨us,[]⟩ (us++ds) (vs++dvs) Q E hr I.env0 (hb s us I.kIn hl) r2 h) fun r s' hq=> ?_)
 cases r with
 |error e=> exact hx pins σ H s e s' I hq
 |ok fl=>
  cases fl with
  |ret u=> exact I.after hq
  |next=> exact b7 hq
  |brk=> exact b7 hq
  |cont=> exact b7 hq
theorem a0d(F:FnOk X.prog X.w X.K X.mg X.base CX k f fd ps sp)(hr:Room k X.A)(hg:Gl X x)(hm:X.mg x=some (.ref f))(hk:bO X.K (.ref f)=true)(hb:Binds X.K fd ps ds)(hd:ju dvs ds)(hx:adl CX X E)
  (ha:PA X (e::es) t) (hdb:(x==("__debug__":Str))=false:=by decide) (he:starEach (e::es) X.env=(false,eval e X.env)::starEach es X.env:=by rfl) (hpl:(backTo pos (starEach es X.env)).any (·.1)=false:=by rfl):
  PE X (.Call (.Name x p) (e::es) [] pos) (awl sp dvs E t):=by
 (first|refine⟨?_⟩|skip);intro pins s σ H Q I h
 refine cW (afx I hg hm ?_ hdb)
 refine fE (h₀:=X.base) I.ok.mod.kin hk (thn (ha pos pins s σ H _ I h) fun us s1 ⟨vs,H1,I1,r,q⟩=> ⟨I1.kIn,?_⟩) he hpl
 exact ate F hr hb hd hx I1 r q
structure Mk (K:ah) (C f:Addr):Prop where
 makes:gt K C=true
 init:bn K (.ref C) "__init__"=some (some (.ref f))
 fn:eQ K (.ref f)=true
 kp:bO K (.ref C)=true
theorem amo{Q:VK}(M:Mk X.K C f)(F:FnOk X.prog X.w X.K X.mg X.base CX k f fd ps sp)(hr:Room (k+1) X.A)(hb:Binds X.K fd ps ds)(hd:ju dvs ds)(hx:adl CX X E)(I:Inv X pins σ H s)(r:ju vs us)(h: ∀x dx,H x=none -> H dx=none -> dx≠x -> sp (.ref x::(vs++dvs)) (upd (upd H dx (.own x)) x (.ins C dx [])) (fun v H2=> v=.non/\Q (.ref x) H2) E):
  wpAny (model X.prog X.w) X.A (call (.ref C) us) (EP X pins σ Q) X.xe s:=by
 have hq:=h (s.heap.objs.size+1) s.heap.objs.size (I.hok.fresh (gB _)) (I.hok.fresh (ao _)) (aT (f7 _))
 have I2:=Inv.made (C:=C) I
 have r2:ju (V.ref (s.heap.objs.size+1)::(vs++dvs)) (bu (s.heap.objs.size+1)::(us++ds)):=.cons rfl (r.append hd)
 have hl:(bu (s.heap.objs.size+1)::us++ds).length=ps.length:=by
  have e:=r2.length
  rw [F.len _ _ _ _ hq]at e
  exact e.symm
 refine wpAny_call (avx (f:=f) I.kIn M.makes M.init (beq_iff_eq.mp M.fn) (dO (F.run _ X.stack _ _ ⟨bu (s.heap.objs.size+1)::us,[]⟩ (bu (s.heap.objs.size+1)::(us++ds)) _ _ E (hr.make C us [])
  (I2.env0.make C us []) (hb _ (bu (s.heap.objs.size+1)::us) I2.kIn hl) r2 hq) fun r s' hq'=> ?_))
 cases r with
 |error e=> exact hx pins σ _ _ e s' I2 hq'
 | ok fl=>
  cases fl with
  |ret u=>
   obtain⟨v,H',I3,rv,ev,q3⟩:=I2.after hq'
   subst ev
   exact⟨rv,⟨V.ref (s.heap.objs.size+1),H',I3,rfl,q3⟩⟩
  |next=> exact b7 hq'
  |brk=> exact b7 hq'
  |cont=> exact b7 hq'
theorem aym(M:Mk X.K C f)(F:FnOk X.prog X.w X.K X.mg X.base CX k f fd ps sp)(hr:Room (k+1) X.A)(hg:Gl X x)(hm:X.mg x=some (.ref C))(hb:Binds X.K fd ps ds)(hd:ju dvs ds)(hx:adl CX X E)
  (ha:PA X (e::es) t) (hdb:(x==("__debug__":Str))=false:=by decide) (he:starEach (e::es) X.env=(false,eval e X.env)::starEach es X.env:=by rfl) (hpl:(backTo pos (starEach es X.env)).any (·.1)=false:=by rfl):
  PE X (.Call (.Name x p) (e::es) [] pos) (aq1 C sp dvs E t):=by
 (first|refine⟨?_⟩|skip);intro pins s σ H Q I h
 refine cW (afx I hg hm ?_ hdb)
 refine fE (h₀:=X.base) I.ok.mod.kin M.kp (thn (ha pos pins s σ H _ I h) fun us s1 ⟨vs,H1,I1,r,q⟩=> ⟨I1.kIn,?_⟩) he hpl
 exact amo M F hr hb hd hx I1 r q
theorem av5(M:Mk X.K C f)(F:FnOk X.prog X.w X.K X.mg X.base CX k f fd ps sp)(hr:Room (k+1) X.A)(hg:Gl X x)(hm:X.mg x=some (.ref C))(hb:Binds X.K fd ps ds)(hd:ju dvs ds)(hx:adl CX X E)
  (hdb:(x==("__debug__":Str))=false:=by decide):PE X (.Call (.Name x p) [] [] pos) (aq1 C sp dvs E auo):=by
 (first|refine⟨?_⟩|skip);intro pins s σ H Q I h
 refine cW (afx I hg hm ?_ hdb)
 exact h8 I.kIn M.kp (amo (us:=[]) M F hr hb hd hx I .nil h)
end
structure FnScope (N P:List Str) (sc:dY):Prop where
 kind:sc.kind=.function
 co:sc.isCoroutine=false
 gen:sc.isGenerator=false
 nd:N.Nodup
 pre:N.take P.length=P
 par: ∀x∈P,sc.names.lookup x=some .local\/sc.names.lookup x=some .cell
 nofree: ∀y∈sc.names,y.2≠ .free
theorem aka{kindOf:Str -> Option cZ}{x:Str}: ∀{binds:List (Str×af)} {m:Str -> Option af},(∀v,(x,v)∉binds) -> bindL kindOf binds m x=m x
 |[],_,_=> rfl
 | (n,v)::r,m,h=> by
  unfold bindL
  rw [aka fun w hw=> h w (az _ hw)]
  split
  ·have:x≠n:=by rintro rfl;exact h v aC
   simp [this]
  ·rfl
theorem ajd{kindOf:Str -> Option cZ}{x:Str}: ∀{binds:List (Str×af)} {m:Str -> Option af},(∀v,(x,v)∉binds) -> bindC kindOf binds m x=m x
 |[],_,_=> rfl
 | (n,v)::r,m,h=> by
  unfold bindC
  rw [ajd fun w hw=> h w (az _ hw)]
  split
  ·rfl
  ·have:x≠n:=by rintro rfl;exact h v aC
   simp [this]
theorem ajp{kindOf:Str -> Option cZ}{x:Str}{v:af}: ∀{P:List Str} {vs:List af} {i:Nat} {m:Str -> Option af},P.Nodup -> P[i]?=some x -> vs[i]?=some v -> kindOf x=some .local ->
  bindL kindOf (P.zip vs) m x=some v
 |[],_,_,_,_,h,_,_=> by simp at h
 |_::_,[],_,_,_,_,h,_=> by simp at h
 |p::P,w::vs,0,m,nd,h1,h2,hk=> by
  simp at h1 h2;subst h1;subst h2
  show bindL kindOf ((p,w)::P.zip vs) m p=_
  unfold bindL
  rw [aka fun v hv=> (cX.mp nd).1 (dF hv).1,if_pos hk]
  simp
 |p::P,w::vs,i+1,m,nd,h1,h2,hk=> by
  show bindL kindOf ((p,w)::P.zip vs) m x=_
  unfold bindL
  exact ajp (i:=i) (cX.mp nd).2 (by simpa using h1) (by simpa using h2) hk
theorem ajk{kindOf:Str -> Option cZ}{x:Str}{v:af}: ∀{P:List Str} {vs:List af} {i:Nat} {m:Str -> Option af},P.Nodup -> P[i]?=some x -> vs[i]?=some v -> kindOf x≠some .local ->
  bindC kindOf (P.zip vs) m x=some v
 |[],_,_,_,_,h,_,_=> by simp at h
 |_::_,[],_,_,_,_,h,_=> by simp at h
 |p::P,w::vs,0,m,nd,h1,h2,hk=> by
  simp at h1 h2;subst h1;subst h2
  show bindC kindOf ((p,w)::P.zip vs) m p=_
  unfold bindC
  rw [ajd fun v hv=> (cX.mp nd).1 (dF hv).1,if_neg hk]
  simp
 |p::P,w::vs,i+1,m,nd,h1,h2,hk=> by
  show bindC kindOf ((p,w)::P.zip vs) m x=_
  unfold bindC
  exact ajk (i:=i) (cX.mp nd).2 (by simpa using h1) (by simpa using h2) hk
noncomputable def start(N:List Str)(vs:List V):St:=vs.map some++bD (N.length - vs.length) none
noncomputable def ab7(CX:CXT)(P:aW)(w:aY)(K:ah)(mg:Str -> Option af)(base:Heap)(N:List Str)(qual:Str)(scope:dY)(f:Addr)(cd:af)(A:bd)(outer:List Env)(s:ak)(H:Hp)(E:XK):Cx where
 prog:=P
 w:=w
 K:=K
 mg:=mg
 base:=base
 A:=A.deeper (envOfC qual scope s.heap.objs.size f cd)
 N:=N
 s₀:=s
 H₀:=H
 env:=envOfC qual scope s.heap.objs.size f cd
 outer:=outer
 stack:=envOfC qual scope s.heap.objs.size f cd::outer
 ex:=[]
 calm:=true
 fn:=fun _=> true
 pn:=[]
 xe:=fun e s'=> wpAny (model P w) (A.deeper (envOfC qual scope s.heap.objs.size f cd)) (leaving (envOfC qual scope s.heap.objs.size f cd) e) (fun _ s''=> CX outer H s E e s'') (fun e' s''=> CX outer H s E e' s'') s'
theorem al8{sc:dY}(h:sc.names.lookup x=some .cell): ∃c,(cellsFrom n sc.names []).lookup x=some c:=by
 have q:=gC sc.names n [] (.inl h)
 exact Option.isSome_iff_exists.mp q
theorem as6{CX:CXT}{N ps:List Str}{cd:af}{outer:List Env}{s1:ak}{E:XK}(S:FnScope N ps scope)(hd:A.handled=none)(e0:Env0 P w K mg base A outer s H)(hl:vs.length=ps.length)(r:ju vs us)(x:InCallC s s.heap.objs.size (bindL (envOfC qual scope s.heap.objs.size f cd).kindOf (ps.zip us) fun _=> none) (cellsFrom (s.heap.objs.size+1) scope.names []) (bindC (envOfC qual scope s.heap.objs.size f cd).kindOf (ps.zip us) fun _=> none) s1):
  Inv (ab7 CX P w K mg base N qual scope f cd A outer s H E) [] (start N vs) H s1:=by
 have hpl:ps.length <=N.length:=by have:=congrArg List.length S.pre;rw [cw]at this;lia
 obtain⟨h1,tk,rfl,hk⟩:=x.done
 have noA: ∀b:Addr,b∉(ab7 CX P w K mg base N qual scope f cd A outer s H E).ex:=fun b z=> absurd (show b∈([]:List Addr) from z) (by simp)
 refine⟨⟨e0.mod,S.kind,rfl,rfl,ao _,fun y z c h1 h2=> ?_,fun y hy=> ?_,fun y c _ h=> ?_,fun _=> hd,Around.frames_deeper e0.frames,.inr ⟨rfl,rfl⟩,fun b z=> absurd z (noA b),e0.bs,e0.bsz,fun b _ _=> noA b,fun b z=> absurd z (noA b),e0.funs,e0.frf⟩,
  rfl,e0.bare,Un.kept hk,⟨_,x.toInCall.ns,fun i y v h1 h2 h3=> ?_⟩,fun y c h=> ⟨_,x.cell y c h⟩,e0.hok.fresh (ao _),fun y c h=> ?_,fun p hp=> absurd (show p∈([]:List (Addr×Obj)) from hp) (by simp),e0.hok.kept hk,?_⟩
 ·exact name_of_addr x.apart (cq h1) (cq h2)
 ·have hy:scope.names.lookup y=some .cell\/scope.names.lookup y=some .free:=hy
  rcases hy with hy|hy
  ·exact al8 hy
  ·exact absurd rfl (S.nofree _ (cq hy))
 ·exact fY (x.above y c (cq h))
 ·have hi:i < vs.length:=by
   unfold start at h2
   by_cases hi:i < vs.length
   ·exact hi
   ·rw [bq (by simpa using hi)]at h2
    rw [cS]at h2
    split at h2 <;> cases h2
  have ha:vs[i]?=some v:=by
   unfold start at h2
   rw [aR (by simpa using hi),aZ]at h2
   cases e:vs[i]? with
   |none=> rw [e]at h2;cases h2
   |some a=> rw [e]at h2;cases h2;rfl
  obtain⟨u,hu,rv⟩:=r.get ha
  have hp:ps[i]?=some y:=by
   rw [←S.pre,List.getElem?_take_of_lt (by lia)];exact h1
  have ndP:ps.Nodup:=by rw [←S.pre];exact S.nd.sublist (d9 _ _)
  refine⟨u,rv,?_⟩
  rcases S.par y (List.mem_of_getElem? hp) with k|k
  ·exact .inl ⟨k,ajp ndP hp hu k⟩
  ·obtain⟨c,e⟩:=al8 (n:=s.heap.objs.size+1) k
   refine .inr ⟨.inl k,c,e,?_⟩
   have q:=x.cell y c e
   rw [ajk ndP hp hu (by show scope.names.lookup y≠_;rw [k];decide)]at q
   exact q
 ·exact e0.hok.fresh (fY (x.above y c (cq h)))
 ·unfold start
  show _=N.length
  rw [aO,aj,gM]
  lia
theorem a4n{CX:CXT}{params:Arguments}{dV kV doc pm cdv ct oc:af}{an od:Option Addr}{N ps:List Str}{sp:Sp}(lk:K.lookup f=some ⟨oc,od,.func (bY name qual params body scope dV kV doc pm an cdv ct),osl⟩)(hcd:cL K cdv qual=true)(S:FnScope N ps scope)(len: ∀vs H Q E,sp vs H Q E -> vs.length=ps.length)(hbody: ∀(A:bd) (outer:List Env) (s:ak) (H:Hp) (vs:List V) (Q:VK) (E:XK),Room k (A.deeper (envOfC qual scope s.heap.objs.size f cdv)) -> sp vs H Q E ->
   ∃t,PSs (ab7 CX P w K mg base N qual scope f cdv A outer s H E) body t/\t {nx:=fun _ H'=> Q .non H',rt:=Q} (start N vs) H):
  FnOk P w K mg base CX (k+1) f (bY name qual params body scope dV kV doc pm an cdv ct) ps sp:=by
 refine⟨len,fun A outer s H args us vs Q E hr e0 hb r hsp=> ?_⟩
 have hl:=len _ _ _ _ hsp
 have KX:K.In s.heap:=e0.mod.kin.keeps fun b o e=> (e0.bs b o e).1
 have lim:s.heap.NoLimit:=e0.mod.nolimit.keeps fun b o e=> (e0.bs b o e).1
 have hkind: ∀y∈ps.zip us,scope.names.lookup y.1=some .local\/(scope.names.lookup y.1=some .cell/\((cellsFrom (s.heap.objs.size+1) scope.names []).lookup y.1).isSome=true):=fun⟨n,v⟩ hy=> by
  rcases S.par n (dF hy).1 with q|q
  ·exact .inl q
  ·exact .inr ⟨q,gC _ _ _ (.inl q)⟩
 refine codeAny_call_function hr.depth (KX _ _ lk) rfl S.co S.gen rfl (PySem.W.codeRec_of KX hcd) (hb _ _ _ _ ?_)
 refine wpAny_newFunctionEnv_cells S.kind hkind fun env he s1 x=> ?_
 subst he
 refine⟨lim.keeps x.toInCall.keep,codeAny_func ?_⟩
 obtain⟨t,ht,hq⟩:=hbody A outer s H vs Q E (hr.deeper _) hsp
 have I:Inv (ab7 CX P w K mg base N qual scope f cdv A outer s H E) [] (start N vs) H s1:=as6 S hr.hd e0 hl r x
 refine cI (ht [] s1 (start N vs) H _ I hq) (fun fl s' hs=> ?_) fun e s' hs=> hs
 have fin: ∀{σ':St} {H':Hp} {v:V} {u:af},Inv (ab7 CX P w K mg base N qual scope f cdv A outer s H E) [] σ' H' s' -> RelV v u -> Q v H' -> CE outer P w H s Q u s':=
  fun {σ' H' v u} J rv q=> ⟨v,H',J.os,J.bare,J.base,J.hok,rv,q⟩
 cases fl with
 |ret u=>
  obtain⟨v,σ',H',J,rv,q⟩:=hs
  exact fin J rv q
 |next=>
  obtain⟨σ',H',J,q⟩:=hs
  exact fin (v:=V.non) (u:=cx) J rfl q
 |brk=>
  obtain⟨_,_,_,q⟩:=hs
  exact b7 q
 |cont=>
  obtain⟨_,_,_,q⟩:=hs
  exact b7 q
section
variable{X:Cx}{x:Str}{p pos:Pos}{e:Expr}{es:List Expr}{t:TA}{id T:String}{r:List V -> Hp -> VK -> Prop}
noncomputable def tCB(r:List V -> Hp -> VK -> Prop)(t:TA):TE:=fun σ H Q=> t σ H fun vs H1=> r vs H1 Q
theorem al9(hc:xi X (.builtin id) r)(hg:Gl X x)(hm:X.mg x=none)(hv:aX x=some (.builtin id))(ha:PA X (e::es) t)(hn:x≠"__name__":=by decide)(hdb:(x==("__debug__":Str))=false:=by decide)
  (he:starEach (e::es) X.env=(false,eval e X.env)::starEach es X.env:=by rfl) (hpl:(backTo pos (starEach es X.env)).any (·.1)=false:=by rfl):PE X (.Call (.Name x p) (e::es) [] pos) (tCB r t):=by
 (first|refine⟨?_⟩|skip);intro pins s σ H Q I h
 refine cW (adc I hg hm hv ?_ hn hdb)
 exact PyProof.Rows.callWith_builtin1 (thn (ha pos pins s σ H _ I h) fun us s1 ⟨vs,H1,I1,r1,q1⟩=> hc pins s1 σ H1 vs us Q I1 r1 q1) he hpl
theorem ak3(hc:xi X (.type T) r)(hg:Gl X x)(hm:X.mg x=none)(hv:aX x=some (.type T))(ha:PA X (e::es) t)(hn:x≠"__name__":=by decide)(hdb:(x==("__debug__":Str))=false:=by decide)
  (he:starEach (e::es) X.env=(false,eval e X.env)::starEach es X.env:=by rfl) (hpl:(backTo pos (starEach es X.env)).any (·.1)=false:=by rfl):PE X (.Call (.Name x p) (e::es) [] pos) (tCB r t):=by
 (first|refine⟨?_⟩|skip);intro pins s σ H Q I h
 refine cW (adc I hg hm hv ?_ hn hdb)
 exact cz (thn (ha pos pins s σ H _ I h) fun us s1 ⟨vs,H1,I1,r1,q1⟩=> hc pins s1 σ H1 vs us Q I1 r1 q1) he hpl
end
end L2
namespace HT
open PySem PyProof.Rows
theorem cat_tup{t b:Addr}{vs ws:List af}(ht:IsTup s.heap t vs.toArray)(hb:IsTup s.heap b ws.toArray)(hv:vs≠ [])(h1:ws=[] -> Q (.ref t) s)(h2:ws≠ [] -> Q (.ref s.heap.objs.size) {s with heap:=s.heap.push {cls:=.type "tuple",data:=.seq (vs++ws).toArray}})(hsz:vs.length+ws.length <=sizeLine):wpAny (model prog w) A (binaryOp .Add (.ref t) (.ref b)) Q E s:=by
 obtain⟨⟨cls,dd,data,sl⟩,ho,hc,n,hd⟩:=id ht
 obtain⟨⟨cls2,dd2,data2,sl2⟩,ho2,hc2,n2,hd2⟩:=id hb
 simp only at hc hd hc2 hd2
 subst hc hd hc2 hd2
 have e:vs.toArray++ws.toArray=(vs++ws).toArray:=by simp
 by_cases hw:ws=[]
 ·exact ij ⟨_,ho,rfl⟩ ⟨_,ho2,rfl⟩ f9 hW eg d5 (dP _ _)
   (tuple_addW1 t b vs.toArray ws.toArray n n2 dd dd2 sl sl2 (by simpa using hv) (by simp [hw])) ⟨ho,ho2,h1 hw⟩
 ·refine ij ⟨_,ho,rfl⟩ ⟨_,ho2,rfl⟩ f9 hW eg d5 (dP _ _)
   (tuple_addW2 t b vs.toArray ws.toArray n n2 dd dd2 sl sl2 (by simpa using hv) (by simpa using hw) (by rw [au,au];exact hsz)) ⟨ho,ho2,?_⟩
  rw [e]
  exact h2 hw
noncomputable def sIx(n d:Nat):Option Int -> Nat
 |none=> d
 |some v=> if v < 0 then (v+(n:Int)).toNat else min v.toNat n
theorem sIx_none(n d:Nat):sIx n d none=d:=rfl
theorem sIx_nat(n d k:Nat):sIx n d (some (k:Int))=min k n:=by
 show (if (k:Int) < 0 then ((k:Int)+(n:Int)).toNat else min (k:Int).toNat n)=min k n
 rw [if_neg (by lia),ee]
theorem a1a(n d:Nat)(hd:d <=n)(o:Option Int):sIx n d o <=n:=by
 cases o with
 |none=> exact hd
 |some v=>
  show (if v < 0 then (v+(n:Int)).toNat else min v.toNat n) <=n
  by_cases hv:v < 0
  ·rw [if_pos hv];lia
  ·rw [if_neg hv];exact Nat.min_le_right _ _
theorem aot(v:Int)(n d:Nat):(if v < 0 then max (v+(n:Int)) 0 else min v (n:Int))=((sIx n d (some v):Nat):Int):=by
 show (if v < 0 then max (v+(n:Int)) 0 else min v (n:Int))=(((if v < 0 then (v+(n:Int)).toNat else min v.toNat n):Nat):Int)
 by_cases hv:v < 0
 ·simp only [if_pos hv];lia
 ·simp only [if_neg hv];lia
theorem aqg(lo hi:Option Int)(n:Nat):dG lo hi 1 (n:Int)=(((sIx n 0 lo:Nat):Int),((sIx n n hi:Nat):Int)):=by
 have h1: ¬((1:Int) < 0):=by lia
 unfold dG
 simp only [h1,if_false]
 refine Prod.ext ?_ ?_
 ·cases lo with
  |none=> rfl
  |some v=> exact aot v n 0
 ·cases hi with
  |none=> rfl
  |some v=> exact aot v n n
theorem apq(i j:Nat):cJ (i:Int) (j:Int) 1=j - i:=by
 unfold cJ
 have h1:(1:Int)> 0:=by lia
 simp only [h1,if_true,Int.ediv_one]
 split <;> lia
theorem ai4{v:af}{o:Option Int}{Q:Option Int -> ak -> Prop}(p:eh v o)(h:Q o s):wpAny (model prog w) A (Builtin.Slice.slicePartIndex v) Q E s:=by
 cases p with
 |none=> exact slicePart_none h
 |int i t=> exact slicePart_int h
theorem acf{sl:Addr}{vl vu:af}{lo hi:Option Int}{Q:Int×Int×Nat -> ak -> Prop}(hs:s.heap.IsSliceOf sl vl vu .none)(pl:eh vl lo)(pu:eh vu hi)(h:Q (((sIx n 0 lo:Nat):Int),1,sIx n n hi - sIx n 0 lo) s):wpAny (model prog w) A (fM (.ref sl) (pure (n:Int))) Q E s:=by
 obtain⟨os,hos,hcs,hds⟩:=id hs
 unfold fM Builtin.Slice.sliceFields
 refine ae (ae (bc hos hds (x:=vl) rfl (ae (bc hos hds (x:=vu) rfl (ae (bc hos hds (x:=.none) rfl (al ?_)))))))
 refine ae (slicePart_none ?_)
 show wpAny _ _ (if ((1:Int)==0)=true then _ else _) _ _ s
 rw [if_neg (by decide)]
 refine ae (ai4 pl (ae (ai4 pu (ae (al ?_)))))
 show wpAny _ _ (match dG lo hi 1 (n:Int) with|(lo,hi)=> pure (lo,(1:Int),cJ lo hi 1)) _ _ s
 rw [aqg lo hi n]
 show wpAny _ _ (pure (((sIx n 0 lo:Nat):Int),(1:Int),cJ ((sIx n 0 lo:Nat):Int) ((sIx n n hi:Nat):Int) 1)) _ _ s
 rw [apq]
 exact al h
theorem aw7(xs:Array af)(i k:Nat):((dm k).filterMap fun (m:Nat)=> xs[((i:Int)+(m:Int)*1).toNat]?).toArray=((xs.toList.drop i).take k).toArray:=by
 have e:(fun (m:Nat)=> xs[((i:Int)+(m:Int)*1).toNat]?)=fun m=> xs[i+m]?:=by
  funext m
  have:((i:Int)+(m:Int)*1).toNat=i+m:=by lia
  rw [this]
 rw [e]
 have:=pick_run xs i k
 rw [List.filterMap_map]at this
 have e2:((fun x=> xs[x]?)∘fun x=> i+x)=fun m=> xs[i+m]?:=rfl
 rw [e2]at this
 rw [this]
theorem getItem_tuple_cut{t sl:Addr}{vl vu:af}{lo hi:Option Int}(ht:IsTup s.heap t items)(hs:s.heap.IsSliceOf sl vl vu .none)(pl:eh vl lo)(pu:eh vu hi)(hw: ¬(sIx items.size 0 lo=0/\sIx items.size items.size hi=items.size))(h:Q (.ref s.heap.objs.size) {s with heap:=s.heap.push {cls:=.type "tuple",data:=.seq ((items.toList.drop (sIx items.size 0 lo)).take (sIx items.size items.size hi - sIx items.size 0 lo)).toArray}})(hsz:items.size <=sizeLine):wpAny (model prog w) A (getItem (.ref t) (.ref sl)) Q E s:=by
 have htake:sizeOk (.seq ((items.toList.drop (sIx items.size 0 lo)).take (sIx items.size items.size hi - sIx items.size 0 lo)).toArray):=by
  show ((items.toList.drop (sIx items.size 0 lo)).take (sIx items.size items.size hi - sIx items.size 0 lo)).toArray.size <=sizeLine
  rw [au,cw,List.length_drop,bo]
  lia
 have hj:sIx items.size items.size hi <=items.size:=a1a _ _ (ao _) hi
 obtain⟨os,hos,hcs,hds⟩:=id hs
 have hTs:s.TypeIs (.ref sl) "slice":=⟨os,hos,hcs⟩
 unfold getItem
 try with_reducible refine bI ?_
 first|refine ae (al ?_)|skip
 refine ae (wpAny_sequenceKey ht.typeIs (by decide) ?_)
 refine ae (bC (name:=bi "__getitem__") ht.typeIs bB
  (bM bB ht.typeIs h9 ?_ (args_tuple_getitem _ _)))
 show wpAny _ _ (dw (.ref t)>>=_) _ _ s
 refine ae (tupleItemsOf_ ht ?_)
 refine ae (ik hTs ?_)
 rw [if_pos (by decide)]
 refine ae (acf hs pl pu ?_)
 have hno: ¬((((sIx items.size 0 lo:Nat):Int)==0&&(1:Int)==1&&(sIx items.size items.size hi - sIx items.size 0 lo)==items.size)=true):=by
  intro q
  rw [aF,aF]at q
  have q1:((sIx items.size 0 lo:Nat):Int)=0:=eq_of_beq q.1.1
  have q2:sIx items.size items.size hi - sIx items.size 0 lo=items.size:=eq_of_beq q.2
  exact hw ⟨by lia,by lia⟩
 show wpAny _ _ (if (((sIx items.size 0 lo:Nat):Int)==0&&(1:Int)==1&&(sIx items.size items.size hi - sIx items.size 0 lo)==items.size)=true then _ else _) _ _ s
 rw [if_neg hno,aw7]
 first
  |exact ae (m:=cP _) (c6 (al ⟨_,rfl,al h⟩) htake)
  |exact ae (m:=cP _) (c6 (ae (al (al ⟨_,rfl,al h⟩))) htake)
  |exact ae (ae (m:=cP _) (c6 (al (al ⟨_,rfl,al h⟩)) htake))
  |exact ae (ae (m:=cP _) (c6 (al ⟨_,rfl,al h⟩) htake))
end HT
namespace L2
open PySem PySem.Spec PyProof.Rows
abbrev TO:=St -> Hp -> (Option Int -> Hp -> Prop) -> Prop
def PO(X:Cx)(e:Option Expr)(t:TO):Prop:=
 ∀(pins:List (Addr×Obj)) (s:ak) (σ:St) (H:Hp) (Q:Option Int -> Hp -> Prop),Inv X pins σ H s -> t σ H Q ->
  wpAny (model X.prog X.w) X.A (evalPart e X.env) (fun u s'=> ∃o H',Inv X pins σ H' s'/\eh u o/\Q o H') X.xe s
noncomputable def azv:TO:=fun _ H Q=> Q none H
noncomputable def a5n(t:TE):TO:=fun σ H Q=> t σ H fun x H1=> ∃i,x=.int i/\Q (some i) H1
section
variable{X:Cx}{e:Expr}{te:TE}{lo hi:Option Expr}{tl th:TO}{pos p2:Pos}
theorem a0e:PO X none azv:=by
 (first|refine⟨?_⟩|skip);intro pins s σ H Q I h
 rw [evalPart_none]
 exact al ⟨none,H,I,.none,h⟩
theorem azz(h:PE X e te):PO X (some e) (a5n te):=by
 (first|refine⟨?_⟩|skip);intro pins s σ H Q I hw
 rw [evalPart_some]
 refine thn (h pins s σ H _ I hw) fun u s1 ⟨x,H1,I1,r1,q1⟩=> ?_
 obtain⟨i,rfl,q⟩:=q1
 obtain⟨t,rfl⟩:=r1
 exact⟨some i,H1,I1,.int i t,q⟩
def SlR(X:Cx)(r:V -> Option Int -> Option Int -> Hp -> VK -> Prop):Prop:=
 ∀(pins:List (Addr×Obj)) (s:ak) (σ:St) (H:Hp) (x:V) (v vl vu:af) (lo hi:Option Int) (sl:Addr) (Q:VK),Inv X pins σ H s -> RelV x v -> s.heap.IsSliceOf sl vl vu .none -> eh vl lo -> eh vu hi -> r x lo hi H Q ->
  ∃T id,typeLookup (.type T) "__getitem__"=pure (some (.builtin id))/\s.TypeIs v T/\wpAny (model X.prog X.w) X.A (getItem v (.ref sl)) (EP X pins σ Q) X.xe s
theorem SlR.or{r r':V -> Option Int -> Option Int -> Hp -> VK -> Prop}(h:SlR X r)(h':SlR X r'):SlR X (fun x lo hi H Q=> r x lo hi H Q\/r' x lo hi H Q):=by
 (first|refine⟨?_⟩|skip);intro pins s σ H x v vl vu lo hi sl Q I rx hs pl pu q
 rcases q with q|q
 ·exact h pins s σ H x v vl vu lo hi sl Q I rx hs pl pu q
 ·exact h' pins s σ H x v vl vu lo hi sl Q I rx hs pl pu q
noncomputable def tSl(r:V -> Option Int -> Option Int -> Hp -> VK -> Prop)(te:TE)(tl th:TO):TE:=fun σ H Q=> te σ H fun x H1=> tl σ H1 fun l H2=> th σ H2 fun u H3=> r x l u H3 Q
theorem av2{r:V -> Option Int -> Option Int -> Hp -> VK -> Prop}(hr:SlR X r)(he:PE X e te)(hl:PO X lo tl)(hu:PO X hi th):PE X (.Subscript e (.Slice lo hi none p2) pos) (tSl r te tl th):=by
 (first|refine⟨?_⟩|skip);intro pins s σ H Q I h
 refine Subscript_ (thn (he pins s σ H _ I h) fun v s1 ⟨x,H1,I1,r1,q1⟩=> ?_)
 refine wpAny_Slice (thn (hl pins s1 σ H1 _ I1 q1) fun vl s2 ⟨l,H2,I2,pl,q2⟩=> thn (hu pins s2 σ H2 _ I2 q2) fun vu s3 ⟨u,H3,I3,pu,q3⟩=> ?_)
 rw [evalPart_none]
 refine al ?_
 have I4:Inv X pins σ H3 {s3 with heap:=s3.heap.push {cls:=.type "slice",data:=.fields #[vl,vu,.none]}}:=I3.kept (t':=s3.toks) fun b ob q=> ai _ q
 obtain⟨T,id,hT,ht,hg⟩:=hr pins {s3 with heap:=s3.heap.push {cls:=.type "slice",data:=.fields #[vl,vu,.none]}} σ H3 x v vl vu l u s3.heap.objs.size Q I4 r1 (Heap.IsSliceOf.new ..) pl pu q3
 show wpAny (model X.prog X.w) X.A (subscriptTail e (.Slice lo hi none p2) v (.ref s3.heap.objs.size)) (EP X pins σ Q) X.xe {s3 with heap:=s3.heap.push {cls:=.type "slice",data:=.fields #[vl,vu,.none]}}
 exact tail_any (ops:=[.ref s3.heap.objs.size,v]) ht hT hg (by with_unfolding_all rfl)
def y6(xs:List V)(lo hi:Option Int):List V:=(xs.drop (HT.sIx xs.length 0 lo)).take (HT.sIx xs.length xs.length hi - HT.sIx xs.length 0 lo)
theorem agt(xs:List V)(lo hi:Option Int):(y6 xs lo hi).length <=xs.length:=by
 unfold y6
 rw [cw,List.length_drop]
 lia
def a6d(K:ah):V -> Option Int -> Option Int -> Hp -> VK -> Prop:=fun x lo hi H Q=> ∃a xs,x=.ref a/\SqT K H a xs/\
 ¬(HT.sIx xs.length 0 lo=0/\HT.sIx xs.length xs.length hi=xs.length)/\ ∀p,H p=none -> Q (.ref p) (upd H p (.tup (y6 xs lo hi)))
theorem arz:SlR X (a6d X.K):=by
 (first|refine⟨?_⟩|skip);intro pins s σ H x v vl vu lo hi sl Q I rx hs pl pu h
 obtain⟨a,xs,rfl,hx,hw,q⟩:=h
 cases rx
 obtain⟨its,r,ht,hz⟩:=I.tuple hx
 have hlen:its.toArray.size=xs.length:=by rw [au];exact r.length.symm
 refine⟨"tuple",_,bB.lookup,ht.typeIs,?_⟩
 refine HT.getItem_tuple_cut ht hs pl pu (by rw [hlen];exact hw) ?_ (by rw [hlen];exact hz)
 rw [hlen]
 refine⟨.ref s.heap.objs.size,_,I.laid (t':=s.toks) (o:=.tup (y6 xs lo hi)) (fun b ob q=> ai _ q) (ao _) ?_,rfl,q _ (I.hok.fresh (ao _))⟩
 exact⟨aQ (agt xs lo hi) hz,_,(r.drop (HT.sIx xs.length 0 lo)).take (HT.sIx xs.length xs.length hi - HT.sIx xs.length 0 lo),afe.new _ _⟩
def a4r(K:ah):R2:=fun x y H Q=> ∃a b xs ys,x=.ref a/\y=.ref b/\SqT K H a xs/\SqT K H b ys/\xs≠ []/\xs.length+ys.length <=sizeLine/\
 (ys=[] -> Q (.ref a) H)/\(ys≠ [] -> ∀p,H p=none -> Q (.ref p) (upd H p (.tup (xs++ys))))
theorem ju.nil_iff(r:ju xs us):us=[] ↔ xs=[]:=by
 cases r with
 |nil=> simp
 |cons _ _=> simp
theorem axq:OpR X (binaryOp .Add) (a4r X.K):=by
 (first|refine⟨?_⟩|skip);intro pins s σ H x y v u Q I rx ry h
 obtain⟨a,b,xs,ys,rfl,rfl,ha,hb,hx,hz,q1,q2⟩:=h
 cases rx
 cases ry
 obtain⟨its,r1,p1,_⟩:=I.tuple ha
 obtain⟨its2,r2,p2,_⟩:=I.tuple hb
 refine HT.cat_tup p1 p2 (fun z=> hx (r1.nil_iff.mp z)) (fun z=> ⟨.ref a,H,I,rfl,q1 (r2.nil_iff.mp z)⟩) (fun z=> ?_) (by rw [←r1.length,←r2.length];exact hz)
 refine⟨.ref s.heap.objs.size,_,I.laid (t':=s.toks) (o:=.tup (xs++ys)) (fun b ob q=> ai _ q) (ao _) ?_,rfl,q2 (fun w=> z (r2.nil_iff.mpr w)) _ (I.hok.fresh (ao _))⟩
 exact⟨by rw [aO];exact hz,_,r1.append r2,afe.new _ _⟩
end
noncomputable def ixN(n:Nat)(i:Int):Option Nat:=if 0 <=i then (if i < n then some i.toNat else none) else if -(n:Int) <=i then some (i+n).toNat else none
def atI{α:Type}(xs:List α)(i:Int):Option α:=(ixN xs.length i).bind fun j=> xs[j]?
theorem aoh{i:Int}{j:Nat}(h:ixN n i=some j):fF i n=some j/\j < n/\ -(n:Int) <=i/\i < n:=by
 unfold ixN at h
 by_cases h0:0 <=i
 ·rw [if_pos h0]at h
  by_cases h1:i < n
  ·rw [if_pos h1]at h
   have e:i.toNat=j:=bV h
   exact⟨by rw [iw h0 h1,e],by lia,by lia,h1⟩
  ·rw [if_neg h1]at h;cases h
 ·rw [if_neg h0]at h
  by_cases h1: -(n:Int) <=i
  ·rw [if_pos h1]at h
   have e:(i+n).toNat=j:=bV h
   exact⟨by rw [il (by lia) h1,e],by lia,h1,by lia⟩
  ·rw [if_neg h1]at h;cases h
theorem aiz{α:Type}{xs:List α}{i:Int}{v:α}(h:atI xs i=some v): ∃j,fF i xs.length=some j/\xs[j]?=some v/\j < xs.length/\ -(xs.length:Int) <=i/\i < xs.length:=by
 unfold atI at h
 cases e:ixN xs.length i with
 |none=> rw [e]at h;cases h
 |some j=>
  rw [e]at h
  obtain⟨h1,h2,h3,h4⟩:=aoh e
  exact⟨j,h1,h,h2,h3,h4⟩
theorem ag7{α:Type}{xs:List α}{j:Nat}{v:α}(h:xs[j]?=some v):atI xs (j:Int)=some v:=by
 have hj:j < xs.length:=(aq.mp h).1
 have e:ixN xs.length (j:Int)=some j:=by
  unfold ixN
  rw [if_pos (by lia),if_pos (by lia)];simp
 unfold atI;rw [e];exact h
def aov(b:Expr):Prop:= ∀o i,subscripted b false o i=operate [o,i] (getItem o i)
def IxR(X:Cx)(r:R2):Prop:=
 ∀(value slice:Expr) (pins:List (Addr×Obj)) (s:ak) (σ:St) (H:Hp) (x y:V) (v u:af) (Q:VK),Inv X pins σ H s -> RelV x v -> RelV y u -> r x y H Q ->
  subscripted slice false v u=operate [v,u] (getItem v u) -> wpAny (model X.prog X.w) X.A (subscriptTail value slice v u) (EP X pins σ Q) X.xe s
def MtR(X:Cx)(id:String)(r:V -> List V -> Hp -> VK -> Prop):Prop:=
 ∀(pins:List (Addr×Obj)) (s:ak) (σ:St) (H:Hp) (x:V) (xs:List V) (v:af) (us:List af) (Q:VK),Inv X pins σ H s -> RelV x v -> ju xs us -> r x xs H Q ->
  wpAny (model X.prog X.w) X.A (call (.builtin id) (v::us)) (EP X pins σ Q) X.xe s
section
variable{X:Cx}{a b:Expr}{ta tb:TE}{pos:Pos}
theorem IxR.or{r r':R2}(h:IxR X r)(h':IxR X r'):IxR X (fun x y H Q=> r x y H Q\/r' x y H Q):=by
 intro value slice pins s σ H x y v u Q I rx ry q hs
 rcases q with q|q
 ·exact h value slice pins s σ H x y v u Q I rx ry q hs
 ·exact h' value slice pins s σ H x y v u Q I rx ry q hs
theorem MtR.or{id:String}{r r':V -> List V -> Hp -> VK -> Prop}(h:MtR X id r)(h':MtR X id r'):MtR X id (fun x xs H Q=> r x xs H Q\/r' x xs H Q):=by
 (first|refine⟨?_⟩|skip);intro pins s σ H x xs v us Q I rx rs q
 rcases q with q|q
 ·exact h pins s σ H x xs v us Q I rx rs q
 ·exact h' pins s σ H x xs v us Q I rx rs q
theorem a5m{r:R2}(hr:IxR X r)(ha:PE X a ta)(hb:PE X b tb)(hs:aov b):PE X (.Subscript a b pos) (tOp r ta tb):=by
 (first|refine⟨?_⟩|skip);intro pins s σ H Q I h
 exact Subscript_ (avo ha hb I h fun v u s2 x y H2 I2 rx ry q=> hr a b pins s2 σ H2 x y v u Q I2 rx ry q (hs _ _))
def a3t(K:ah):R2:=fun x y H Q=> ∃p xs i v,x=.ref p/\y=.int i/\SqL K H p xs/\atI xs i=some v/\Q v H
def a1n(K:ah):R2:=fun x y H Q=> ∃p xs i v,x=.ref p/\y=.int i/\SqT K H p xs/\atI xs i=some v/\Q v H
def a27:R2:=fun x y H Q=> ∃z i c,x=.str z/\y=.int i/\z.length <=sizeLine/\atI z.cps.toList i=some c/\Q (.str ⟨#[c]⟩) H
theorem a0a:IxR X (a3t X.K):=by
 intro value slice pins s σ H x y v u Q I rx ry h hs
 obtain⟨p,xs,i,z,rfl,rfl,hq,he,q⟩:=h
 cases rx
 obtain⟨t,rfl⟩:=ry
 obtain⟨its,r,pl,hz⟩:=I.list hq
 obtain⟨j,h1,h2,h3,h4,h5⟩:=aiz he
 obtain⟨w,ew,rw'⟩:=r.get h2
 have hl:=r.length
 have hn:=ac9
 have fin:EP X pins σ Q w s:=⟨z,H,I,rw',q⟩
 by_cases h0:0 <=i
 ·have hj:i.toNat=j:=by
   rw [iw h0 h5]at h1
   exact bV h1
  exact item_listR pl.isList h0 (by lia) (by rw [hj];simpa using ew) fin hs
 ·have hj:(i+(its.toArray.size:Int)).toNat=j:=by
   rw [il (by lia) h4]at h1
   rw [au,←hl]
   exact bV h1
  exact gD (x:=w) pl.isList.typeIs slot_list_getitem.lookup
   (wpAny_getItem_list_neg (Q:=fun r s'=> r=w/\EP X pins σ Q r s') pl.isList (by lia) (by rw [au] <;> lia) (by lia) (by rw [hj];simpa using ew) ⟨rfl,fin⟩) hs
theorem a2f:IxR X (a1n X.K):=by
 intro value slice pins s σ H x y v u Q I rx ry h hs
 obtain⟨p,xs,i,z,rfl,rfl,hq,he,q⟩:=h
 cases rx
 obtain⟨t,rfl⟩:=ry
 obtain⟨its,r,pl,hz⟩:=I.tuple hq
 obtain⟨j,h1,h2,h3,h4,h5⟩:=aiz he
 obtain⟨w,ew,rw'⟩:=r.get h2
 have hl:=r.length
 have hn:=ac9
 have fin:EP X pins σ Q w s:=⟨z,H,I,rw',q⟩
 exact gD (x:=w) pl.typeIs slot_tuple_getitem.lookup
  (getItem_tuple (j:=j) (Q:=fun r s'=> r=w/\EP X pins σ Q r s') pl (by lia) (by lia) (by rw [au,←hl];exact h1) (by simpa using ew) ⟨rfl,fin⟩) hs
theorem aln:IxR X a27:=by
 intro value slice pins s σ H x y v u Q I rx ry h hs
 obtain⟨z,i,c,rfl,rfl,hz,he,q⟩:=h
 obtain⟨t,rfl⟩:=rx
 obtain⟨t',rfl⟩:=ry
 obtain⟨j,h1,h2,h3,h4,h5⟩:=aiz he
 have hl:z.cps.toList.length=z.length:=by simp [Str.length]
 rw [hl]at h1 h4 h5
 have hn:=ac9
 exact tail_any (fV s z t) slot_str_getitem.lookup (getItem_str (c:=c) (by
  have e1:decide (i < -(2^63:Int))=false:=decide_eq_false (by lia)
  have e2:decide (i≥2^63)=false:=decide_eq_false (by lia)
  rw [e1,e2,Bool.or_false]) (by rw [h1];simpa using h2) ⟨.str ⟨#[c]⟩,H,I.tok _,⟨_,rfl⟩,q⟩) hs
def rIx(K:ah):R2:=fun x y H Q=> a3t K x y H Q\/a1n K x y H Q\/a27 x y H Q
theorem a19:IxR X (rIx X.K):=a0a.or (a2f.or aln)
theorem aqp(its:List af)(n j:Nat)(u:af):eR (·.setIfInBounds j u) {cls:=.type "list",data:=.seq its.toArray n}={cls:=.type "list",data:=.seq (its.set j u).toArray n}:=by
 simp [eR]
theorem Inv.lst(I:Inv X pins σ H s)(h:H p=some (.lst xs)):
  ∃(its:List af) (n:Nat),ju xs its/\s.heap.get? p=some {cls:=.type "list",data:=.seq its.toArray n}/\xs.length <=sizeLine:=by
 obtain⟨z,its,n,r,e⟩:=I.hok p _ h
 exact⟨its,n,r,e,z⟩
theorem Inv.lstUpd{its its':List af}{n':Nat}{f:Obj -> Obj}(I:Inv X pins σ H s)(h:H p=some (.lst xs))(ho:s.heap.get? p=some {cls:=.type "list",data:=.seq its.toArray n})(hf:f {cls:=.type "list",data:=.seq its.toArray n}={cls:=.type "list",data:=.seq its'.toArray n'})(r:ju ys its')(hz:ys.length <=sizeLine)(t:Nat):
  Inv X pins σ (upd H p (.lst ys)) {s with heap:=s.heap.update p f,toks:=t}:=by
 have e:(s.heap.update p f).get? p=some {cls:=.type "list",data:=.seq its'.toArray n'}:=by
  rw [gN f ho (by rw [hf] <;> rfl),hf]
 refine I.write (x:=p) (e:=p) (by rw [h];trivial) (.inl rfl) (fun b u hb q=> (gE _ _ (c8 hb)).trans q) ⟨_,e⟩ ?_
 exact⟨hz,its',n',r,e⟩
def a5o:V -> V -> V -> Hp -> (Hp -> Prop) -> Prop:=fun o i v H Q=> ∃p xs k j,o=.ref p/\i=.int k/\H p=some (.lst xs)/\ixN xs.length k=some j/\Q (upd H p (.lst (xs.set j v)))
theorem awf:ait X a5o:=by
 (first|refine⟨?_⟩|skip);intro pins s σ H o i v ov iv u Q I ro ri rv h
 obtain⟨p,xs,k,j,rfl,rfl,hp,hj,q⟩:=h
 cases ro
 obtain⟨t,rfl⟩:=ri
 obtain⟨its,n,r,ho,hz⟩:=I.lst hp
 obtain⟨h1,h2,h3,h4⟩:=aoh hj
 have hl:=r.length
 have hn:=ac9
 have I':Inv X pins σ (upd H p (.lst (xs.set j v))) {s with heap:=s.heap.update p (eR (·.setIfInBounds j u))}:=
  I.lstUpd hp ho (aqp its n j u) (r.set rv j) (by rw [List.length_set];exact hz) s.toks
 by_cases h0:0 <=k
 ·have hk:k.toNat=j:=by
   rw [iw h0 h4]at h1
   exact bV h1
  exact PySem.W.ki_setAt ho h0 (by lia) (by rw [au,←hl];exact h4) (by rw [hk];exact⟨_,I',q⟩)
 ·have hk:(k+(its.toArray.size:Int)).toNat=j:=by
   rw [il (by lia) h3]at h1
   rw [au,←hl]
   exact bV h1
  exact PySem.W.ki_setBack ho (by lia) (by rw [au,←hl];exact h3) (by lia) (by rw [hk];exact⟨_,I',q⟩)
theorem am0(lo hi:Option Int)(n:Nat):(dB lo hi none n).1=((HT.sIx n 0 lo:Nat):Int)/\(dB lo hi none n).2.1=((HT.sIx n n hi:Nat):Int)/\(dB lo hi none n).2.2=1:=by
 refine⟨?_,?_,rfl⟩
 ·cases lo with
  |none=> simp [dB,HT.sIx]
  |some i=>
   simp only [dB,HT.sIx,Option.getD_none,show (1:Int)> 0 by decide,if_true]
   by_cases h:i < 0
   ·simp only [h,if_true] <;> lia
   ·simp only [h,if_false] <;> lia
 ·cases hi with
  |none=> simp [dB,HT.sIx]
  |some i=>
   simp only [dB,HT.sIx,Option.getD_none,show (1:Int)> 0 by decide,if_true]
   by_cases h:i < 0
   ·simp only [h,if_true] <;> lia
   ·simp only [h,if_false] <;> lia
theorem akf(its:List af)(lo hi:Option Int):slicePick its.toArray lo hi none=((its.drop (HT.sIx its.length 0 lo)).take (HT.sIx its.length its.length hi - HT.sIx its.length 0 lo)).toArray:=by
 obtain⟨h1,h2,h3⟩:=am0 lo hi its.toArray.size
 unfold slicePick
 rw [h1,h2,h3]
 simp only [sliceRange_one,pick_run,au] <;> rfl
def a6r(K:ah):V -> Option Int -> Option Int -> Hp -> VK -> Prop:=fun x lo hi H Q=> ∃a xs,x=.ref a/\SqL K H a xs/\ ∀p,H p=none -> Q (.ref p) (upd H p (.lst (y6 xs lo hi)))
theorem ayc:SlR X (a6r X.K):=by
 (first|refine⟨?_⟩|skip);intro pins s σ H x v vl vu lo hi sl Q I rx hs pl pu h
 obtain⟨a,xs,rfl,hx,q⟩:=h
 cases rx
 obtain⟨its,r,ht,hz⟩:=I.list hx
 have hlen:=r.length
 refine⟨"list",_,slot_list_getitem.lookup,ht.isList.typeIs,?_⟩
 refine wpAny_getItem_list_slice ht.isList hs pl pu .none (by simp) ?_ (by rw [au] <;> lia)
 rw [akf,←hlen]
 refine⟨.ref s.heap.objs.size,_,I.laid (t':=s.toks) (o:=.lst (y6 xs lo hi)) (fun b ob q=> ai _ q) (ao _) ?_,rfl,q _ (I.hok.fresh (ao _))⟩
 exact⟨aQ (agt xs lo hi) hz,_,0,(r.drop (HT.sIx xs.length 0 lo)).take (HT.sIx xs.length xs.length hi - HT.sIx xs.length 0 lo),aB _ rfl⟩
theorem aml:xi X (.builtin "len") (fun xs H Q=> ∃p ys,xs=[.ref p]/\(SqL X.K H p ys\/SqT X.K H p ys)/\Q (.int ys.length) H):=by
 (first|refine⟨?_⟩|skip);intro pins s σ H xs us Q I r h
 obtain⟨p,ys,rfl,hq,q⟩:=h
 obtain⟨u,rfl,rx⟩:=vals1 r
 cases rx
 have hn:=ac9
 rcases hq with hq|hq
 ·obtain⟨its,r',pl,hz⟩:=I.list hq
  have hlen:=r'.length
  exact Calls.call_len_list pl.isList (by simp only [au] <;> lia) ⟨.int ys.length,H,I.tok _,⟨s.toks+1,by rw [au,hlen]⟩,q⟩
 ·obtain⟨its,r',pl,hz⟩:=I.tuple hq
  have hlen:=r'.length
  exact len_tuple pl (by simp only [au] <;> lia) ⟨.int ys.length,H,I.tok _,⟨s.toks+1,by rw [au,hlen]⟩,q⟩
theorem alf:xi X (.builtin "len") (fun xs H Q=> ∃z,xs=[.str z]/\z.length <=sizeLine/\Q (.int z.length) H):=by
 (first|refine⟨?_⟩|skip);intro pins s σ H xs us Q I r h
 obtain⟨z,rfl,hz,q⟩:=h
 obtain⟨u,rfl,t,rfl⟩:=vals1 r
 have hn:=ac9
 exact len_str (by lia) ⟨.int z.length,H,I.tok _,⟨_,rfl⟩,q⟩
theorem amq:xi X (.type "list") (fun xs H Q=> ∃p ys,xs=[.ref p]/\(SqL X.K H p ys\/SqT X.K H p ys)/\ ∀l,H l=none -> Q (.ref l) (upd H l (.lst ys))):=by
 (first|refine⟨?_⟩|skip);intro pins s σ H xs us Q I r h
 obtain⟨p,ys,rfl,hq,q⟩:=h
 obtain⟨u,rfl,rx⟩:=vals1 r
 cases rx
 have fin: ∀(its:List af),ju ys its -> ys.length <=sizeLine -> ∀(h':Heap) (c':Nat),(∀b o',s.heap.get? b=some o' -> h'.get? b=some o') ->
   h'.get? s.heap.objs.size=some {cls:=.type "list",dict:=none,data:=.seq its.toArray c',slots:= #[]} -> EP X pins σ Q (.ref s.heap.objs.size) {s with heap:=h'}:=fun its r' hz h' c' kp e=>
  ⟨.ref s.heap.objs.size,_,I.laid (t':=s.toks) kp (ao _) (show qi X.prog X.w _ h' _ (.lst ys) from ⟨hz,its,c',r',e⟩),rfl,q _ (I.hok.fresh (ao _))⟩
 rcases hq with hq|hq
 ·obtain⟨its,r',pl,hz⟩:=I.list hq
  have hlen:=r'.length
  obtain⟨o,ho,hc,n,hd⟩:=pl.isList
  exact call_list_seq p (.inl rfl) ho hc hd (fun h' c' kp e=> fin its r' hz h' c' kp e) (by simp only [au] <;> lia)
 ·obtain⟨its,r',pl,hz⟩:=I.tuple hq
  have hlen:=r'.length
  obtain⟨o,ho,hc,n,hd⟩:=pl
  exact call_list_seq p (.inr rfl) ho hc hd (fun h' c' kp e=> fin its r' hz h' c' kp e) (by simp only [au] <;> lia)
theorem akn:xi X (.type "tuple") (fun xs H Q=> ∃p ys,xs=[.ref p]/\((SqL X.K H p ys/\ ∀l,H l=none -> Q (.ref l) (upd H l (.tup ys)))\/(SqT X.K H p ys/\Q (.ref p) H))):=by
 (first|refine⟨?_⟩|skip);intro pins s σ H xs us Q I r h
 obtain⟨p,ys,rfl,h⟩:=h
 obtain⟨u,rfl,rx⟩:=vals1 r
 cases rx
 rcases h with ⟨hq,q⟩|⟨hq,q⟩
 ·obtain⟨its,r',pl,hz⟩:=I.list hq
  have hlen:=r'.length
  refine call_tuple_list pl.isList (fun h' kp=> ?_) (by simp only [au] <;> lia)
  have I1:Inv X pins σ H {s with heap:=h'}:=I.kept (t':=s.toks) kp
  have I2:Inv X pins σ (upd H h'.objs.size (.tup ys)) {s with heap:=h'.push {cls:=.type "tuple",data:=.seq its.toArray}}:=
   I1.laid (t':=s.toks) (fun b o e=> ai _ e) (ao _) (show qi X.prog X.w _ _ _ (.tup ys) from ⟨hz,its,r',afe.new _ _⟩)
  exact⟨.ref h'.objs.size,_,I2,rfl,q _ (I1.hok.fresh (ao _))⟩
 ·obtain⟨its,r',pl,hz⟩:=I.tuple hq
  exact call_tuple_same pl ⟨.ref p,H,I,rfl,q⟩
def tyV(K:ah)(T:String)(x:V)(H:Hp):Prop:=match x with
 |.str _=> T="str"
 |.int _=> T="int"
 | .ref p=> (T="list"/\ ∃xs,SqL K H p xs)\/(T="tuple"/\ ∃o,K.lookup p=some o/\o.cls=.type "tuple"/\o.dict=none)\/
   (T="dict"/\((∃kvs,H p=some (.dK kvs))\/ ∃kvs,H p=some (.dT kvs)))\/(T="set"/\ ∃S n,H p=some (.set S n))
 |_=> False
theorem aru{x:V}{v:af}(I:Inv X pins σ H s)(r:RelV x v)(ty:tyV X.K T x H):
  s.TypeIs v T/\ ∀a,v=.ref a -> ∃ob,s.heap.get? a=some ob/\ob.dict=none:=by
 cases x with
 |str z=>
  obtain⟨t,rfl⟩:=r
  cases (show T="str" from ty)
  exact⟨fV s z t,fun _ e=> nomatch e⟩
 |int i=>
  obtain⟨t,rfl⟩:=r
  cases (show T="int" from ty)
  exact⟨typeIs_int s i t,fun _ e=> nomatch e⟩
 | ref p=>
  cases r
  rcases ty with ⟨rfl,xs,hq⟩|⟨rfl,o,hk,hc,hd⟩|⟨rfl,hk⟩|⟨rfl,S,n,hk⟩
  ·obtain⟨its,_,pl,_⟩:=I.list hq
   refine⟨pl.isList.typeIs,fun a e=> ?_⟩
   cases e
   obtain⟨o,n,e,c,hd,_⟩:=pl
   exact⟨o,e,hd⟩
  ·refine⟨⟨o,I.kIn p o hk,hc⟩,fun a e=> ?_⟩
   cases e
   exact⟨o,I.kIn _ o hk,hd⟩
  ·have z: ∃o,s.heap.get? p=some o/\o.ExactDict:=by
    rcases hk with ⟨kvs,hk⟩|⟨kvs,hk⟩
    ·obtain⟨_,_,_,_,o,_,_,e,ex,_⟩:=I.hok p _ hk
     exact⟨o,e,ex⟩
    ·obtain⟨_,_,_,_,o,_,_,e,ex,_⟩:=I.hok p _ hk
     exact⟨o,e,ex⟩
   obtain⟨o,e,ex⟩:=z
   refine⟨⟨o,e,ex.1⟩,fun a e2=> ?_⟩
   cases e2
   exact⟨o,e,ex.2.1⟩
  ·obtain⟨o,_,_,_,e,ex,_⟩:=I.hok p _ hk
   refine⟨⟨o,e,ex.1⟩,fun a e2=> ?_⟩
   cases e2
   exact⟨o,e,ex.2.1⟩
 |_=> exact b7 ty
noncomputable def a6w(K:ah)(T:String)(r:V -> List V -> Hp -> VK -> Prop)(to:TE):TE:=fun σ H Q=> to σ H fun x H1=> tyV K T x H1/\r x [] H1 Q
noncomputable def tBM(K:ah)(T:String)(r:V -> List V -> Hp -> VK -> Prop)(to:TE)(t:TA):TE:=fun σ H Q=> to σ H fun x H1=> tyV K T x H1/\t σ H1 fun xs H2=> r x xs H2 Q
variable{o e:Expr}{es:List Expr}{to:TE}{t:TA}{name:Str}{apos cpos:Pos}{T id:String}{r:V -> List V -> Hp -> VK -> Prop}
theorem a1v(pa:PlainAttrs T)(slot:Slot T name id)(hty:typeOf (.builtin id)=pure (.type "method_descriptor"))(hm:MtR X id r)(ho:PE X o to)
  (hbase:cD o name X.env (eval o X.env)=eval o X.env:=by rfl) (hline:(apos.endLine==cpos.line)=true:=by rfl):PE X (.Call (.Attribute o name apos) [] [] cpos) (a6w X.K T r to):=by
 (first|refine⟨?_⟩|skip);intro pins s σ H Q I h
 refine wpAny_Call_method0_late hbase hline (thn (ho pins s σ H _ I h) fun v s1 ⟨x,H1,I1,r1,ty,q1⟩=> ?_)
 obtain⟨h1,h2⟩:=aru I1 r1 ty
 exact⟨T,id,pa,slot,hty,h1,h2,gF rfl (PySem.evalArgs_none (hm pins s1 σ H1 x [] v [] Q I1 r1 .nil q1))⟩
theorem axd(pa:PlainAttrs T)(slot:Slot T name id)(hty:typeOf (.builtin id)=pure (.type "method_descriptor"))(hm:MtR X id r)(ho:PE X o to)(ha:PA X (e::es) t)
  (hbase:cD o name X.env (eval o X.env)=eval o X.env:=by rfl)
  (hfew:((backTo cpos (starEach (e::es) X.env)).all (fun x=> !x.1)&&(backToKw cpos (dC [] X.env)).all (fun x=> x.1.isSome)
   &&decide ((e::es).length+([]:List gO).length+(if ([]:List gO).isEmpty then 0 else 1) < 30))=true:=by rfl)
  (hline:(apos.endLine==cpos.line)=true:=by rfl) (hs:starEach (e::es) X.env=(false,eval e X.env)::starEach es X.env:=by rfl) (hplain:(backTo cpos (starEach es X.env)).any (·.1)=false:=by rfl):
  PE X (.Call (.Attribute o name apos) (e::es) [] cpos) (tBM X.K T r to t):=by
 (first|refine⟨?_⟩|skip);intro pins s σ H Q I h
 refine wpAny_Call_method_late hbase hfew hline rfl (thn (ho pins s σ H _ I h) fun v s1 ⟨x,H1,I1,r1,ty,q1⟩=> ?_)
 obtain⟨h1,h2⟩:=aru I1 r1 ty
 refine⟨T,id,pa,slot,hty,h1,h2,?_⟩
 have hA:=ha cpos pins s1 σ H1 _ I1 q1
 rw [hs]at hA⊢
 refine gF (by show (false||(backTo cpos (starEach es X.env)).any (·.1))=false;rw [hplain] <;> rfl) (Calls.evalArgs_plain ?_)
 exact thn hA fun us s2 ⟨vs,H2,I2,r2,q2⟩=> hm pins s2 σ H2 x vs v us Q I2 r1 r2 q2
end
def MtM(X:Cx)(id:String)(r:V -> List V -> Hp -> VK -> Prop):Prop:=
 ∀(pins:List (Addr×Obj)) (s:ak) (σ:St) (H:Hp) (x:V) (xs:List V) (v:af) (us:List af) (Q:VK),Inv X pins σ H s -> RelV x v -> ju xs us -> r x xs H Q ->
  wpAny (model X.prog X.w) X.A (call (.builtin id) (v::us)) (EP X pins σ Q) X.xe s
theorem ju.one: ∀{x:V} {us:List af},ju [x] us -> ∃u,us=[u]/\RelV x u
 |_,_,.cons r .nil=> ⟨_,rfl,r⟩
theorem ju.zero: ∀{us:List af},ju [] us -> us=[]
 |_,.nil=> rfl
theorem ju.dropLast(h:ju xs us):ju xs.dropLast us.dropLast:=by
 induction h with
 |nil=> exact .nil
 |cons r t ih=>
  cases t with
  |nil=> exact .nil
  |cons q t'=> exact .cons r ih
theorem ju.eraseIdx: ∀{xs:List V} {us:List af} (i:Nat),ju xs us -> ju (xs.eraseIdx i) (us.eraseIdx i)
 |_,_,_,.nil=>.nil
 |_,_,0,.cons _ t=> t
 |_,_,i+1,.cons r t=>.cons r (ju.eraseIdx i t)
theorem aqm{α:Type}(l:List α):l.eraseIdx (l.length - 1)=l.dropLast:=by
 induction l with
 |nil=> rfl
 | cons a r ih=>
  cases r with
  |nil=> rfl
  | cons b r=>
   have e:(a::b::r).length - 1=((b::r).length - 1)+1:=by
    have h1:(a::b::r).length=r.length+2:=rfl
    have h2:(b::r).length=r.length+1:=rfl
    lia
   rw [e,gh,ih]
   all_goals rfl
theorem ak7{α:Type}: ∀(l:List α) (i:Nat),(l.eraseIdx i).length <=l.length
 |[],_=> ao _
 |_::_,0=> gB _
 |_::r,i+1=> Nat.succ_le_succ (ak7 r i)
section
variable{X:Cx}{pins:List (Addr×Obj)}{σ:St}{H:Hp}{s:ak}{l b:Addr}{xs ys zs:List V}
theorem Inv.lset{its its':List af}{f:Array af -> Array af}{t':Nat}(I:Inv X pins σ H s)(hH:H l=some (.lst xs))(e:s.heap.get? l=some {cls:=.type "list",data:=.seq its.toArray n})(hf:f its.toArray=its'.toArray)(hv:ju ys its')(hz:ys.length <=sizeLine):
  Inv X pins σ (upd H l (.lst ys)) {s with heap:=s.heap.update l (eR f),toks:=t'}:=by
 have q:=PySem.IsL.update e f
 rw [hf]at q
 refine I.write (x:=l) (e:=l) (by rw [hH];exact trivial) (.inl rfl) (fun b' u hb hu=> (gE s.heap (eR f) (c8 hb)).trans hu) ⟨_,q⟩ ?_
 exact⟨hz,its',_,hv,q⟩
theorem Inv.lnew{its:List af}{t':Nat}(I:Inv X pins σ H s)(hv:ju ys its)(hz:ys.length <=sizeLine):
  Inv X pins σ (upd H s.heap.objs.size (.lst ys)) {s with heap:=s.heap.push {cls:=.type "list",data:=.seq its.toArray},toks:=t'}:=
 I.laid (fun _ _ q=> ai _ q) (ao _) ⟨hz,its,0,hv,aB _ rfl⟩
theorem Inv.fresh(I:Inv X pins σ H s):H s.heap.objs.size=none:=I.hok.fresh (ao _)
theorem Inv.lstM(I:Inv X pins σ H s)(hH:H l=some (.lst xs)):xs.length <=sizeLine/\ ∃(its:List af) (n:Nat),ju xs its/\xs.length=its.length/\s.heap.get? l=some {cls:=.type "list",data:=.seq its.toArray n}:=by
 obtain⟨z,its,n,r,e⟩:=I.hok l _ hH
 exact⟨z,its,n,r,r.length,e⟩
theorem aly(h:n <=sizeLine):ci n=false:=by
 unfold ci
 exact decide_eq_false (by lia)
end
def azb:V -> List V -> Hp -> VK -> Prop:=fun x vs H Q=> ∃l xs y,x=.ref l/\vs=[y]/\H l=some (.lst xs)/\xs.length < sizeLine/\Q .non (upd H l (.lst (xs++ [y])))
theorem ajr:MtM X "list.append" azb:=by
 (first|refine⟨?_⟩|skip);intro pins s σ H x vs v us Q I rx rv h
 obtain⟨l,xs,y,rfl,rfl,hH,hz,q⟩:=h
 cases rx
 obtain⟨u,rfl,ru⟩:=rv.one
 obtain⟨z,its,n,r,hl,e⟩:=I.lstM hH
 refine dn F.slot_list_append ⟨_,e,rfl⟩ F.entry_list_append (F.args_list_append_2 _ _) (PySem.list_append l its.toArray n u (by rw [au];lia)) ⟨e,?_⟩
 refine⟨.non,_,I.lset (its':=its++ [u]) hH e (by simp) (r.append (.cons ru .nil)) ?_,rfl,q⟩
 rw [aO,List.length_singleton]
 lia
def azg:V -> List V -> Hp -> VK -> Prop:=fun x vs H Q=> ∃l b xs zs,x=.ref l/\vs=[.ref b]/\H l=some (.lst xs)/\H b=some (.lst zs)/\xs.length+zs.length <=sizeLine/\Q .non (upd H l (.lst (xs++zs)))
theorem atc:MtM X "list.extend" azg:=by
 (first|refine⟨?_⟩|skip);intro pins s σ H x vs v us Q I rx rv h
 obtain⟨l,b,xs,zs,rfl,rfl,hH,hB,hz,q⟩:=h
 cases rx
 obtain⟨u,rfl,ru⟩:=rv.one
 cases ru
 obtain⟨z,its,n,r,hl,e⟩:=I.lstM hH
 obtain⟨z2,its2,n2,r2,hl2,e2⟩:=I.lstM hB
 have hsz:its.toArray.size+its2.toArray.size <=sizeLine:=by rw [au,au];lia
 have hlong: ¬(!its.toArray.isEmpty&&ci (its.toArray.size+its2.toArray.size))=true:=by
  rw [aly hsz,Bool.and_false]
  exact ax
 refine dn F.slot_list_extend ⟨_,e,rfl⟩ ia (gZ _ _)
  (AutoSeq1.list_extend_list_list_0 l its.toArray n b its2.toArray n2 hlong (by rw [au];lia) (by lia)) ⟨e,e2,?_⟩
 refine⟨.non,_,I.lset (its':=its++its2) hH e (by simp) (r.append r2) ?_,rfl,q⟩
 rw [aO]
 lia
def a71:V -> List V -> Hp -> VK -> Prop:=fun x vs H Q=> ∃l xs y,x=.ref l/\vs=[]/\H l=some (.lst xs)/\xs[xs.length - 1]?=some y/\Q y (upd H l (.lst xs.dropLast))
theorem a48:MtM X "list.pop" a71:=by
 (first|refine⟨?_⟩|skip);intro pins s σ H x vs v us Q I rx rv h
 obtain⟨l,xs,y,rfl,rfl,hH,hy,q⟩:=h
 cases rx
 have hus:=rv.zero
 subst hus
 obtain⟨z,its,n,r,hl,e⟩:=I.lstM hH
 obtain⟨u,hu,ru⟩:=r.get hy
 have hy':its.toArray[its.toArray.size - 1]?=some u:=by
  show its.toArray[its.length - 1]?=some u
  rw [←c9,←hl]
  exact hu
 refine dn F.slot_list_pop ⟨_,e,rfl⟩ F.entry_list_pop (F.args_list_pop_1 _) (MeetsSeq.list_pop_last l its.toArray n u hy' (by rw [au];lia)) ⟨e,?_⟩
 refine⟨y,_,I.lset (its':=its.dropLast) hH e ?_ r.dropLast ?_,ru,q⟩
 ·show its.toArray.eraseIdxIfInBounds (its.toArray.size - 1)=its.dropLast.toArray
  rw [au,eN,aqm]
 ·rw [List.length_dropLast]
  lia
def a17:V -> List V -> Hp -> VK -> Prop:=fun x vs H Q=> ∃l xs i k y,x=.ref l/\vs=[.int i]/\H l=some (.lst xs)/\ -(2^63) <=i/\i < 2^63/\fF i xs.length=some k/\xs[k]?=some y/\Q y (upd H l (.lst (xs.eraseIdx k)))
theorem av7:MtM X "list.pop" a17:=by
 (first|refine⟨?_⟩|skip);intro pins s σ H x vs v us Q I rx rv h
 obtain⟨l,xs,i,k,y,rfl,rfl,hH,h1,h2,hk,hy,q⟩:=h
 cases rx
 obtain⟨u,rfl,ru⟩:=rv.one
 obtain⟨t,rfl⟩:=ru
 obtain⟨z,its,n,r,hl,e⟩:=I.lstM hH
 obtain⟨w,hw,rw'⟩:=r.get hy
 refine dn F.slot_list_pop ⟨_,e,rfl⟩ F.entry_list_pop (F.args_list_pop_2 _ _)
  (MeetsSeq.list_pop_at l its.toArray n i t k w (fitsIndex_both h1 h2) (by rw [au,←hl];exact hk) (by rw [←c9];exact hw) (by rw [au];lia)) ⟨e,?_⟩
 refine⟨y,_,I.lset (its':=its.eraseIdx k) hH e ?_ (r.eraseIdx k) ?_,rw',q⟩
 ·show its.toArray.eraseIdxIfInBounds k=(its.eraseIdx k).toArray
  rw [eN]
 ·have:=ak7 xs k
  lia
def a6a:R2:=fun x y H Q=> ∃l b xs zs,x=.ref l/\y=.ref b/\H l=some (.lst xs)/\H b=some (.lst zs)/\xs.length+zs.length <=sizeLine/\ ∀p,H p=none -> Q (.ref p) (upd H p (.lst (xs++zs)))
theorem a0v:OpR X (binaryOp .Add) a6a:=by
 (first|refine⟨?_⟩|skip);intro pins s σ H x y v u Q I rx ry h
 obtain⟨l,b,xs,zs,rfl,rfl,hH,hB,hz,q⟩:=h
 cases rx
 cases ry
 obtain⟨z,its,n,r,hl,e⟩:=I.lstM hH
 obtain⟨z2,its2,n2,r2,hl2,e2⟩:=I.lstM hB
 refine PySem.P.add_list e e2 ?_ (by rw [au,au];lia)
 have ea:its.toArray++its2.toArray=(its++its2).toArray:=by simp
 rw [ea]
 exact⟨.ref _,_,I.lnew (t':=s.toks) (r.append r2) (by rw [aO];lia),rfl,q _ I.fresh⟩
section
variable{κ:Type}[DecidableEq κ]
end
theorem a5h{u:HO}(ok:HOk P w H h)(e:Rd H a u):qi P w H h a u:=e.ok ok
theorem a57{kvs:List (Key×V)}(ok:HOk P w H h)(e:Rd H a (.dK kvs)):kvs.length <=sizeLine/\(a==dk)=false/\ ∃vs,KV kvs vs/\h.DictOf (adf P w) a vs:=
 show qi P w H h a (.dK kvs) from a5h ok e
theorem aww{kvs:List (Key×V)}(ok:HOk P w H h)(e:H a=some (.dK kvs)):kvs.length <=sizeLine/\(a==dk)=false/\ ∃vs,KV kvs vs/\h.DictOf (adf P w) a vs:=a57 ok (.inl e)
end L2
namespace Att
open PySem PySem.W PySem.Calls PyProof.Rows
theorem ahu{P:Params}: ∀(ns:List Int) (vs:List af),WellAll P h vs (ns.map WData.int) -> iq vs ns:=by
 intro ns
 induction ns with
 |nil=>
  intro vs w
  rw [bv]at w
  cases w
  exact .nil
 | cons n ns ih=>
  intro vs w
  rw [aA]at w
  cases w with
  |cons a b=>
   cases a
   exact .cons _ _ (ih _ b)
theorem at7{l:OpenLaw}(hn:l.most=some n){P:Params}{args:List WData}{vals:List af}(hpre:l.row.toRowW.claim.pre args=true)(hwl:WellAll P h vals args):
  ∃a vs ns,vals=[bu a]/\args=[WData.list (ns.map WData.int)]/\h.get? a=some {cls:=.type "list",data:=.seq vs.toArray}/\iq vs ns/\ns.length <=n:=by
 have hsh:WShape.hasAll [] args [.list .int]=true:=(pre_splitW hpre).1
 have hc:l.pre.holds [] {args:=args}=true:=(pre_splitW hpre).2
 obtain⟨d,r,rfl,h1,h2⟩:=hasAllW_cons hsh
 obtain rfl:=hasAllW_nil h2
 obtain⟨xs,rfl,h3⟩:=hasW_list h1
 obtain⟨ns,rfl⟩:=items_int h3
 have hlen:ns.length <=n:=by
  unfold OpenLaw.pre at hc
  have h4:(WTm.not (.lt (.lit (.int (n:Int))) (.len (.arg 0)))).holds [] {args:=[.list (ns.map .int)]}=true:=by
   have h4:=(holds_andW hc).1
   rw [hn]at h4
   exact h4
  have h5:=condW_of h4 (w_not (w_lt w_lit (w_len_list (w_arg rfl))))
  rw [aj]at h5
  refine bN fun q=> ?_
  have q':(n:Int) < ((ns.length:Nat):Int):=by lia
  first
   |(rw [decide_eq_true q']at h5;exact absurd h5 (by decide))
   |(simp at h5;lia)
 cases hwl with
 |cons w1 w2=>
  cases w2
  cases w1 with
  |list ho hall=> exact⟨_,_,ns,rfl,rfl,ho,ahu ns _ hall,hlen⟩
theorem ard(l:OpenLaw)(args:List WData):l.row.toRowW.claim.post args (.bool true) args=true:=
 postW_of (r:=l.row.toRowW) (X:=(true==true))
  (show WShape.has [] (.bool true) .bool=true by first|rfl|decide|simp [WShape.has,WShape.arms,WShape.armsAll])
  (show (WTm.eq .res (.lit (.bool true))).value [] {args:=args,res:=some (.bool true),after:=args}=some (.bool (true==true)) from w_eq_bool (w_res rfl) w_lit) rfl
theorem attach_call{l:OpenLaw}{q:aW}{loose:List Str}{XP:(Str -> Option af) -> Heap -> Prop}{YP:aY -> Heap -> Prop}{d:DefRec}(hn:l.most=some n)(hdf:d.params.defaults=[])(call: ∀(w:aY) (s₀ s₁:ak) (mg mb:Str -> Option af) (fa:Addr) (o:Obj) (pm cd doc:af) (a:Addr) (vs:List af) (ns:List Int),
   Ground q loose [] XP w s₀ mg mb s₁.heap -> YP w s₁.heap ->
   s₁.heap.get? fa=some o -> o.data=.func (docDef d.name d.params d.body d.scope pm cd doc) -> s₁.heap.CodeRec cd d.name -> mg d.name=some (.ref fa) ->
   s₁.heap.get? a=some {cls:=.type "list",data:=.seq vs.toArray} -> iq vs ns -> ns.length <=n -> s₁.gens= #[] ->
   codeAny (model l.prog w) callerA (.call (.ref fa) ⟨[.ref a],[]⟩) (fun r s'=> r=.ok (.ret (.bool true))/\OldK s₁.heap s'.heap/\s'.os=s₁.os/\eK s'.gens) s₁):
  WalkO q loose XP YP l.row.toRowW d [] (fun f vs=> PySem.call f vs):=by
 intro w s₀ s₁ mg mb G Y fa o pm cd doc dV kV ho hd hcd hD hmg hg args vals as hpre hlay hrd hwl hlo
 obtain rfl:dV=.none:=Dflts.none hD hdf
 obtain rfl:kV=.none:=Dflts.noKw hD
 obtain⟨a,vs,ns,rfl,rfl,hobj,hints,hlen⟩:=at7 hn hpre hwl
 refine enter_call (dO (call w s₀ s₁ mg mb fa o pm cd doc a vs ns G Y ho (fd_plain hd) hcd hmg hobj hints hlen hg) fun r s' hq=> ?_)
 obtain⟨rfl,h2,h3,h4⟩:=hq
 exact⟨.inl ⟨.bool true,.bool true,[],rfl,fun _=> rfl,.bool true,ard l _,fun _=> ⟨fS,fun _ hm=> (nomatch hm)⟩⟩,h2,h3,h4⟩
end Att
namespace L2
open PySem PySem.Spec PyProof.Rows
theorem ajq: ∀{vs:List af} {ns:List Int},iq vs ns -> ju (ns.map V.int) vs
 |_,_,.nil=>.nil
 |_,_,.cons n t h=>.cons ⟨t,rfl⟩ (ajq h)
def avi(H:Hp):Prop:= ∀b,H b=none\/ ∃o xs,H b=some (.frz o (.lst xs))
theorem awe{mb:Str -> Option af}{CX:CXT}{fa:Addr}{sp:Sp}{s₁:ak}{vs:List af}{ns:List Int}(KX:K.In s₁.heap)(hns:s₁.heap.Ns aI mg)(hb:s₁.heap.Ns builtinsNs mb)(hbb: ∀x:Str,x≠"__name__" -> mb x=aX x)(hlim:s₁.heap.NoLimit)(hg:s₁.gens= #[])(ha:s₁.heap.get? a=some {cls:=.type "list",data:=.seq vs.toArray})(hi:iq vs ns)(hl:ns.length <=sizeLine)(hr:Room k callerA)(F: ∀base:Heap,K.In base -> base.Ns aI mg -> FnOk P w K mg base CX k fa fd [x] sp)(hbind: ∀(s:ak) (u:af),gL s fd ⟨[u],[]⟩ [(x,u)])(hsp: ∀H:Hp,avi H -> SqL K H a (ns.map V.int) -> sp [.ref a] H (fun v _=> v=.bl true) fun _ _ _=> False)(hCX: ∀H e s',CX [] H s₁ (fun _ _ _=> False) e s' -> False):
  codeAny (model P w) callerA (.call (.ref fa) ⟨[.ref a],[]⟩) (fun r s'=> r=.ok (.ret (.bool true))/\OldK s₁.heap s'.heap/\s'.os=s₁.os/\eK s'.gens) s₁:=by
 have rv:=ajq hi
 have lenV:=hi.length
 -- from an abstract heap in which nothing but the script may be tracked
 have core: ∀H:Hp,avi H -> SqL K H a (ns.map V.int) -> HOk P w H s₁.heap -> (∀b,H b≠none -> b=a) -> (H a≠none -> K.lookup a=none) ->
   codeAny (model P w) callerA (.call (.ref fa) ⟨[.ref a],[]⟩) (fun r s'=> r=.ok (.ret (.bool true))/\OldK s₁.heap s'.heap/\s'.os=s₁.os/\eK s'.gens) s₁:=by
  intro H hO hS hok hA hK
  have base_of: ∀{b:Addr} {o:Obj},s₁.heap.get? b=some o -> H b=none -> (aep s₁.heap H).get? b=some o:=fun e n=> aty e n
  have noA: ∀{b:Addr} {o:Obj} {es:Array gp} {ep:Nat},s₁.heap.get? b=some o -> o.data=.dict es ep -> H b=none:=fun {b o es ep} e d=> by
   cases q:H b with
   |none=> rfl
   |some u=>
    have e':b=a:=hA b (by rw [q];simp)
    subst e'
    rw [ha]at e;cases e
    have d':Data.seq vs.toArray _=Data.dict es ep:=d
    cases d'
  have nsK: ∀{b:Addr} {m:Str -> Option af},s₁.heap.Ns b m -> (aep s₁.heap H).Ns b m:=fun {b m} ⟨o,es,ep,e,d,r⟩=> ⟨o,es,ep,base_of e (noA e d),d,r⟩
  have hKb:K.In (aep s₁.heap H):=fun b o e=> base_of (KX b o e) (by
   cases q:H b with
   |none=> rfl
   |some u=>
    have e':b=a:=hA b (by rw [q];simp)
    subst e'
    rw [hK (by rw [q];simp)]at e;cases e)
  have hM:Mod K mg (aep s₁.heap H):=⟨hKb,nsK hns,⟨mb,nsK hb,hbb⟩,let ⟨mc,h1,h2⟩:=hlim;⟨mc,nsK h1,h2⟩⟩
  have e0:Env0 P w K mg (aep s₁.heap H) callerA [] s₁ H:=⟨rfl,hM,fun b o e=> azw e,dN (asy _ _),trivial,fun b hb=> absurd (show b∈([]:List Addr) from hb) (by simp),hok,.of_eq hg⟩
  refine dO ((F _ hKb (nsK hns)).run callerA [] s₁ H ⟨[.ref a],[]⟩ [.ref a] [.ref a] _ _ hr e0 (hbind s₁ (.ref a)) (.cons rfl .nil) (hsp H hO hS)) fun r s' h=> ?_
  cases r with
  |error e=> exact (hCX H e s' h).elim
  | ok fl=>
   cases fl with
   |next=> exact b7 h
   |brk=> exact b7 h
   |cont=> exact b7 h
   | ret u=>
    obtain⟨v,H',os,bare,un,hok',r',q⟩:=h
    have q':v=.bl true:=q
    subst q'
    obtain rfl:u=dX true:=r'
    refine⟨rfl,OldK.of_keep fun b o e=> ?_,os,bare⟩
    cases q:H b with
    |none=> exact un.keep b o e q (by intro z;exact absurd (show b∈([]:List Addr) from z) (by simp)) (by simp)
    | some u=>
     rcases hO b with z|⟨ob,xs,z⟩
     ·rw [q]at z;cases z
     ·have z2:=un.frzs b ob _ z
      obtain⟨e1,_⟩:=hok b _ z
      obtain⟨e2,_⟩:=hok' b _ z2
      rw [e]at e1;cases e1
      exact e2
 cases hk:K.lookup a with
 |some o=>
  -- the script is one of the module's own objects
  have e:=KX a o hk
  rw [ha]at e
  cases e
  refine core (fun _=> none) (fun _=>.inl rfl) (.inr ⟨_,vs.toArray,_,hk,rfl,rfl,rfl,by rw [au,lenV];exact hl,by simpa using rv⟩) (fun b u z=> by have z':(none:Option HO)=some u:=z;cases z') (fun b z=> absurd rfl z) fun z=> absurd rfl z
 | none=>
  refine core (fun b=> if b=a then some (.frz {cls:=.type "list",data:=.seq vs.toArray} (.lst (ns.map V.int))) else none) (fun b=> ?_) (.inl (.inr ⟨{cls:=.type "list",data:=.seq vs.toArray},if_pos rfl⟩)) (fun b u z=> ?_) (fun b z=> ?_) fun _=> hk
  ·by_cases hb:b=a
   ·exact .inr ⟨_,_,if_pos hb⟩
   ·exact .inl (if_neg hb)
  ·by_cases hb:b=a
   ·have z':=(if_pos hb).symm.trans z
    cases z'
    subst hb
    exact⟨ha,by rw [aj];exact hl,vs,_,rv,ha⟩
   ·have z':=(if_neg hb).symm.trans z
    cases z'
  ·by_cases hb:b=a
   ·exact hb
   ·exact absurd (if_neg hb) z
theorem az5{l:gu}{q:aW}{loose:List Str}{XP:(Str -> Option af) -> Heap -> Prop}{YP:aY -> Heap -> Prop}{d:DefRec}{K:Params -> ah}{CX:aY -> CXT}{sp:aY -> Sp}(hn:l.most=some n)(hn2:n <=sizeLine)(hdf:d.params.defaults=[])(hr:Room k callerA)(hY: ∀(w:aY) (h:Heap),YP w h -> (K w.params).In h)(F: ∀(w:aY) (mg:Str -> Option af) (fa:Addr) (h:Heap),(K w.params).In h -> h.Ns aI mg -> mg d.name=some (.ref fa) ->
   ∃fd:cv,(∀(s:ak) (u:af),gL s fd ⟨[u],[]⟩ [(x,u)])/\
    ∀base:Heap,(K w.params).In base -> base.Ns aI mg -> FnOk l.prog w (K w.params) mg base (CX w) k fa fd [x] (sp w)) (hsp: ∀(w:aY) (H:Hp) (a:Addr) (ns:List Int),ns.length <=n -> avi H -> SqL (K w.params) H a (ns.map V.int) -> sp w [.ref a] H (fun v _=> v=.bl true) fun _ _ _=> False) (hCX: ∀(w:aY) (H:Hp) (s:ak) (e:af) (s':ak),CX w [] H s (fun _ _ _=> False) e s' -> False):
  PySem.W.WalkO q loose XP YP l.row.toRowW d [] (fun f vs=> PySem.call f vs):=by
 refine Att.attach_call hn hdf fun w s₀ s₁ mg mb fa o pm cd doc a vs ns G Y ho hd hcd hmg hobj hints hlen hg=> ?_
 have KX:=hY w _ Y
 obtain⟨fd,hb,hF⟩:=F w mg fa _ KX G.T.g hmg
 exact awe KX G.T.g G.T.b G.T.builtins G.T.nolimit hg hobj hints (aQ hlen hn2) hr hF hb (fun H hO hS=> hsp w H a ns hlen hO hS) fun H e s'=> hCX w H s₁ e s'
noncomputable def yg(s:Stmt):Arguments:=match s with
 |.FunctionDef _ a _ _ _ _ _ _ _ _=> a
 |_=> {posonlyargs:=[],args:=[],vararg:=none,kwonlyargs:=[],kw_defaults:=[],kwarg:=none,defaults:=[]}
noncomputable def va(s:Stmt):List Stmt:=match s with
 |.FunctionDef _ _ b _ _ _ _ _ _ _=> b
 |_=> []
noncomputable def jj(s:Stmt):dY:=match s with
 |.FunctionDef _ _ _ _ _ _ sc _ _ _=> sc
 |_=> {kind:=.function,names:=[],isGenerator:=false,isCoroutine:=false}
abbrev CX0:CXT:=fun _ _ _ _ _ _=> False
abbrev E0:XK:=fun _ _ _=> False
theorem aku:adl CX0 X E0:=fun _ _ _ _ _ _ _ h=> h.elim
structure Fun (K:ah) (x qual:Str) (st:Stmt) (f:Addr) (fd:cv):Prop where
 ex: ∃(oc:af) (od:Option Addr) (kV doc pm:af) (an:Option Addr) (cdv ct:af) (osl:Array (Option af)),
  fd=bY x qual (yg st) (va st) (jj st) .none kV doc pm an cdv ct/\K.lookup f=some ⟨oc,od,.func fd,osl⟩/\cL K cdv qual=true
 kp:bO K (.ref f)=true
theorem Fun.ok{N ps:List Str}{sp:Sp}(F:Fun K x qual st f fd)(S:FnScope N ps (jj st))(len: ∀vs H Q E,sp vs H Q E -> vs.length=ps.length)(hbody: ∀(cdv:af) (A:bd) (outer:List Env) (s:ak) (H:Hp) (vs:List V) (Q:VK) (E:XK),Room k (A.deeper (envOfC qual (jj st) s.heap.objs.size f cdv)) -> sp vs H Q E ->
   ∃t,PSs (ab7 CX0 P w K mg base N qual (jj st) f cdv A outer s H E).nox (va st) t/\t {nx:=fun _ H'=> Q .non H',rt:=Q} (start N vs) H):FnOk P w K mg base CX0 (k+1) f fd ps sp:=by
 obtain⟨oc,od,kV,doc,pm,an,cdv,ct,osl,rfl,lk,hcd⟩:=F.ex
 refine a4n lk hcd S len fun A outer s H vs Q E hr hsp=> ?_
 obtain⟨t,h,q⟩:=hbody cdv A outer s H vs Q E hr hsp
 exact⟨t,h.nox,q⟩
theorem Fun.binds{ps:List Str}(F:Fun K x qual st f fd)(h: ∀(kV doc pm:af) (an:Option Addr) (cdv ct:af) (us:List af),us.length=ps.length -> bindArgs (bY x qual (yg st) (va st) (jj st) .none kV doc pm an cdv ct) ⟨us,[]⟩=pure (ps.zip us)):Binds K fd ps []:=by
 obtain⟨oc,od,kV,doc,pm,an,cdv,ct,osl,rfl,lk,hcd⟩:=F.ex
 exact .all (h kV doc pm an cdv ct)
theorem abz{oc:af}{od an:Option Addr}{kV doc pm cdv ct:af}(l:K.lookup f=some ⟨oc,od,.func (bY x qual (yg st) (va st) (jj st) .none kV doc pm an cdv ct),osl⟩)(c:cL K cdv qual=true)(k:bO K (.ref f)=true):Fun K x qual st f (bY x qual (yg st) (va st) (jj st) .none kV doc pm an cdv ct):=⟨⟨oc,od,kV,doc,pm,an,cdv,ct,osl,rfl,l,c⟩,k⟩
theorem ara(h:n <=1000):n < sizeLine:=Nat.lt_of_le_of_lt h (by decide)
theorem pv(i:Nat)(hN:X.N[i]?=some x:=by rfl)(hv:Vis X.env.scope x:=by first|exact aM rfl|exact cr (aM rfl)|exact cr (cr rfl))(hd:(x==("__debug__":Str))=false:=by decide)(hcd:(x==("__classdict__":Str))=false:=by decide):PE X (.Name x pos) (auv i):=aro hN hv hd hcd
def qj(H H':Hp):Prop:= ∀b o,H b=some o -> H' b=some o
theorem qj.seq(e:qj H H')(h:SqL K H a xs):SqL K H' a xs:=by
 rcases h with (h|⟨o,h⟩)|h
 ·exact .inl (.inl (e _ _ h))
 ·exact .inl (.inr ⟨o,e _ _ h⟩)
 ·exact .inr h
noncomputable def x9(env:Env):List (Str×cZ) -> List (Str×Addr) -> List (Str×Addr)
 |[],cs=> cs
 |(n,k)::r,cs=> x9 env r (if k==.free then (match env.cells.lookup n with|some c=> (n,c)::cs|none=> cs) else cs)
theorem ald{env:Env}: ∀{l:List (Str×cZ)} {cs:List (Str×Addr)},(∀n c,(n,c)∈cs -> env.cells.lookup n=some c) -> ∀n c,(n,c)∈x9 env l cs -> env.cells.lookup n=some c
 |[],cs,h,n,c,m=> h n c m
 | (n',k)::r,cs,h,n,c,m=> by
  unfold x9 at m
  refine ald (l:=r) (fun a b q=> ?_) n c m
  split at q
  ·split at q
   ·rename_i c' hc
    rcases aw.mp q with z|z
    ·cases z;exact hc
    ·exact h a b z
   ·exact h a b q
  ·exact h a b q
theorem ak4{env:Env}: ∀{l:List (Str×cZ)} {cs:List (Str×Addr)} {p},p∈cs -> p∈x9 env l cs
 |[],_,_,h=> h
 | (n,k)::r,cs,p,h=> by
  unfold x9
  refine ak4 (l:=r) ?_
  split
  ·split
   ·exact az _ h
   ·exact h
  ·exact h
theorem am8{env:Env}: ∀{l:List (Str×cZ)} {cs:List (Str×Addr)} {n:Str} {c:Addr},(n,br)∈l -> env.cells.lookup n=some c -> (n,c)∈x9 env l cs
 |[],_,_,_,h,_=> by cases h
 | (n',k)::r,cs,n,c,h,e=> by
  unfold x9
  rcases aw.mp h with z|z
  ·cases z
   refine ak4 ?_
   simp [e]
  ·exact am8 z e
theorem aeq(h: ∀n,(n,br)∈scope.names -> ∃c,env.cells.lookup n=some c):closureFor scope env=pure (x9 env scope.names []):=by
 have all: ∀(l:List (Str×cZ)) (cs:List (Str×Addr)),(∀n,(n,br)∈l -> ∃c,env.cells.lookup n=some c) ->
   (forIn l cs (fun (x:Str×cZ) (r:List (Str×Addr))=> (match x with|(name,kind)=> if (kind==br)=true then (do let a←cellOf env name;pure (cY ((name,a)::r))) else pure (cY r):Sem (ForInStep (List (Str×Addr))))))=(pure (x9 env l cs):Sem (List (Str×Addr))):=by
  intro l
  induction l with
  |nil=> intro cs _;rfl
  | cons p r ih=>
   intro cs hl
   obtain⟨n,k⟩:=p
   have hr: ∀n,(n,br)∈r -> ∃c,env.cells.lookup n=some c:=fun n m=> hl n (az _ m)
   rw [gw]
   unfold x9
   by_cases hk:k=.free
   ·subst hk
    obtain⟨c,hc⟩:=hl n aC
    have e:cellOf env n=pure c:=by unfold cellOf;rw [hc]
    simp only [beq_self_eq_true,if_true,e,hc]
    exact ih _ hr
   ·have hb:(k==br)=false:=by simpa using hk
    simp only [hb,cV,if_false];exact ih _ hr
 unfold closureFor
 exact (congrArg (fun (z:Sem (List (Str×Addr)))=> z >>=fun r=> pure r) (all scope.names [] h)).trans rfl
def vz(X:Cx)(own caps:List Str)(scope:dY)(C:Addr)(fp:List Addr)(s:ak)(H:Hp):Cx where
 prog:=X.prog
 w:=X.w
 K:=X.K
 mg:=X.mg
 base:=X.base
 A:=X.A
 N:=own++caps
 s₀:=s
 H₀:=H
 env:=compEnvC scope (x9 X.env scope.names []) C X.env
 outer:=X.stack
 stack:=X.stack
 ex:=fp
 fn:=fun _=> false
 calm:=X.calm
 pn:=[]
 xe:=fun _ _=> False
def axk(X:Cx)(scope:dY)(y:Str)(j:Nat):Prop:=X.N[j]?=some y/\Vis X.env.scope y/\(X.env.kindOf y==some .local)=false/\((relabel scope X.env).names.lookup y==some .cell||(relabel scope X.env).names.lookup y==some .free)=true
def aa3(X:Cx)(scope:dY):List Str -> List Nat -> Prop
 |[],[]=> True
 |y::ys,j::js=> axk X scope y j/\aa3 X scope ys js
 |_,_=> False
noncomputable def zc(σ:St)(js:List Nat):St:=js.map fun j=> (σ[j]?).join
theorem aa3.at{X:Cx}{scope:dY}{σ:St}: ∀{ys:List Str} {js:List Nat} {i:Nat} {y:Str} {v:V},aa3 X scope ys js -> ys[i]?=some y -> (zc σ js)[i]?=some (some v) -> ∃j,axk X scope y j/\σ[j]?=some (some v)
 |[],[],i,y,v,_,h,_=> by simp at h
 | a::ys,j::js,0,y,v,c,h,e=> by
  simp at h;subst h
  refine⟨j,c.1,?_⟩
  simp [zc]at e
  cases q:σ[j]? with
  |none=>
   rw [q]at e
   cases e
  |some o=>
   rw [q]at e
   simp at e
   rw [e]
 |a::ys,j::js,i+1,y,v,c,h,e=> aa3.at (i:=i) c.2 (by simpa using h) (by simpa [zc] using e)
 |[],_::_,_,_,_,c,_,_=> c.elim
 |_::_,[],_,_,_,c,_,_=> c.elim
theorem aa3.len{X:Cx}{scope:dY}{σ:St}: ∀{ys:List Str} {js:List Nat},aa3 X scope ys js -> (zc σ js).length=ys.length
 |[],[],_=> rfl
 |a::ys,j::js,c=> by simp only [zc,aA,av];exact congrArg (· +1) (aa3.len (σ:=σ) c.2)
 |[],_::_,c=> c.elim
 |_::_,[],c=> c.elim
theorem ac2{env:Env}: ∀{names:List (Str×cZ)} {x:Str},(∀p∈names,p.2≠ .cell) ->
  ((names.map fun (n,k)=> if (k==br&&env.scope.kind==.function&&env.kindOf n==some .cell) then (n,dA) else (n,k)).lookup x=some .cell\/
    (names.map fun (n,k)=> if (k==br&&env.scope.kind==.function&&env.kindOf n==some .cell) then (n,dA) else (n,k)).lookup x=some .free) -> (x,br)∈names
 |[],_,_,h=> by simp at h
 | (n,k)::r,x,hc,h=> by
  have hr: ∀p∈r,p.2≠ .cell:=fun p hp=> hc p (az _ hp)
  have hk:k≠ .cell:=hc (n,k) aC
  have step: ∀(b:Bool),(cK x ((if b=true then (n,dA) else (n,k))::r.map fun (n,k)=> if (k==br&&env.scope.kind==.function&&env.kindOf n==some .cell) then (n,dA) else (n,k))=some .cell\/
     cK x ((if b=true then (n,dA) else (n,k))::r.map fun (n,k)=> if (k==br&&env.scope.kind==.function&&env.kindOf n==some .cell) then (n,dA) else (n,k))=some .free) -> (b=true -> k=.free) -> (x,br)∈(n,k)::r:=by
   intro b q hb
   cases hx:x==n with
   | true=>
    have e:x=n:=by simpa using hx
    subst e
    cases b with
    |true=> rw [hb rfl];exact aC
    |false=>
     simp [bG]at q
     rcases q with q|q
     ·exact absurd q hk
     ·rw [q];exact aC
   |false=>
    refine az _ (ac2 (env:=env) hr ?_)
    cases b <;> simpa [bG,hx] using q
  exact step _ h fun q=> by simp at q;exact q.1.1
def aj0(X:Cx)(ifs:List Expr)(t:TT):Prop:=
 ∀(pins:List (Addr×Obj)) (s:ak) (σ:St) (H:Hp) (Q:Bool -> Hp -> Prop),Inv X pins σ H s -> t σ H Q ->
  wpAny (model X.prog X.w) X.A (forIn ifs true fun c r=> if r=true then do let ok←isTrue c X.env (eval c X.env);pure (cY ok) else pure (cY r)) (TP X pins σ Q) X.xe s
noncomputable def a70:TT:=fun _ H Q=> Q true H
theorem awh:aj0 X [] a70:=fun _ _ _ H _ I h=> wpAny_tests_nil ⟨H,I,h⟩
theorem aw0{t:TT}(h:PT X c t):aj0 X [c] t:=fun pins s σ H Q I q=> wpAny_tests_one (h pins s σ H Q I q)
abbrev Wn(P:aW)(w:aY)(A:bd){α:Type}(m:Sem α)(Q:α -> ak -> Prop)(s:ak):Prop:=wpAny (model P w) A m Q (fun _ _=> False) s
abbrev a41(env:Env)(l:List Expr):Sem Bool:=forIn l true fun c r=> if r=true then do let b←isTrue c env (eval c env);pure (cY b) else pure (cY r)
def a3f (P:aW) (w:aY) (A:bd) (it acc:af) (tg elt:Expr) (l:List Expr) (env:Env) (fin:ak -> Prop) (again:ak -> Prop) (s:ak):Prop:=
 Wn P w A (pyNext it) (fun r a=> match r with
  |none=> fin a
  | some v=> Wn P w A (eP tg it v) (fun _ b=> Wn P w A (assign tg env v) (fun _ c=> Wn P w A (a41 env l) (fun ok d=>
    if ok=true then Wn P w A (eval elt env) (fun x e=> Wn P w A (call (.builtin "list.append") [acc,x]) (fun _ g=> again g) e) d else again d) c) b) a) s
theorem azi{R:Result -> ak -> Prop}{elt:Expr}{l:List Expr}{sc:dY}{it acc:af}(J:Nat -> ak -> Prop)(turn: ∀n s,J n s -> a3f P w A it acc tg elt l env (R (.ok .next)) (fun z=> ∃m,m < n/\J m z) s)(n:Nat)(h:J n s):codeAny (model P w) A (.compLoop (.ListComp elt [⟨tg,iter,l,0⟩] sc pos) 0 it acc env) R s:=by
 refine codeAny_loop rfl J (fun k z hz=> ?_) n h
 have one:=turn k z hz
 show wpAny _ A (Sem.onRaise (compTurn (.ListComp elt [⟨tg,iter,l,0⟩] sc pos) 0 it acc env) fun x=> do noteFrame x env;theTreesLotGoes x) _ _ z
 refine wpAny_noted ?_
 rw [compTurn_list]
 refine ae (fL (ae (cI one (fun r a ha=> ?_) fun _ _ f=> f.elim)))
 cases r with
 |none=> exact al ha
 | some v=>
  refine ae (cI ha (fun _ b hb=> ae (cI hb (fun _ c hc=> ae (cI hc (fun ok d hd=> ?_) fun _ _ f=> f.elim)) fun _ _ f=> f.elim)) fun _ _ f=> f.elim)
  cases ok with
  |false=>
   have q: ∃m,m < k/\J m d:=hd
   exact al ⟨rfl,q⟩
  |true=>
   have q:Wn P w A (eval elt env) (fun x e=> Wn P w A (call (.builtin "list.append") [acc,x]) (fun _ g=> ∃m,m < k/\J m g) e) d:=hd
   exact ae (ae (cI q (fun x e he=> ae (cI he (fun _ g hg=> al (al ⟨rfl,hg⟩)) fun _ _ f=> f.elim)) fun _ _ f=> f.elim))
def avr(g:TG)(tt:TT)(te:TE)(k:Nat)(cap:St)(J:It)(H1:Hp)(Q:VK):Prop:=
 ∀ D,H1 D=none -> ∃W:Nat -> Nat -> List V -> Hp -> Prop,(∃m,W 0 m [] (upd H1 D (.lst [])))/\ ∀i m ys H,H D=some (.lst ys) -> W i m ys H ->
  (J.stop i H/\Q (.ref D) H)\/(J.go i H/\ ∀x H',J.yld i H x H' -> ∀vs:St,vs.length=k -> g x (vs++cap) H' fun σ2 H2=> (∃vs':St,vs'.length=k/\σ2=vs'++cap)/\tt σ2 H2 fun b H3=>
   if b=true then te σ2 H3 fun v H4=> H4 D=some (.lst ys)/\ys.length < sizeLine/\ ∃m',m' < m/\W (i+1) m' (ys++ [v]) (upd H4 D (.lst (ys++ [v]))) else H3 D=some (.lst ys)/\ ∃m',m' < m/\W (i+1) m' ys H3)
def tLc(js:List Nat)(k:Nat)(wi:TI)(g:TG)(tt:TT)(te:TE):TE:=fun σ H Q=> wi σ H fun J H1=> avr g tt te k (zc σ js) J H1 Q
section
variable{X:Cx}{own caps:List Str}{js:List Nat}{scope:dY}{tg iter elt:Expr}{ifs:List Expr}{wi:TI}{g:TG}{tt:TT}{te:TE}{pos:Pos}
theorem atg{H2:Hp}{s2:ak}{it:Addr}{tn:Nat -> Heap -> Prop}{J:It}{Q:VK}{post:af -> Addr -> Result -> ak -> Prop}(hcalm:X.calm=true)(hkind:scope.kind=.function)(hcell:(scope.names.any fun p=> p.2==.cell)=false)(hk:(scope.names.all fun p=> !(p.2==.free)||(X.env.kindOf p.1==some .cell||X.env.kindOf p.1==some .free))=true)(hcap:aa3 X scope caps js)(hg: ∀C fp s H,PG (vz X own caps scope C fp s H) tg g)(hi: ∀C fp s H,aj0 (vz X own caps scope C fp s H) ifs tt)(he: ∀C fp s H,PE (vz X own caps scope C fp s H) elt te)(I2:Inv X pins σ H2 s2)(T:Turn X.prog X.w X.K tg J fp it tn)(st2:tn 0 s2.heap)(f2: ∀b∈fp,ac3 X pins H2 b)(hw:avr g tt te own.length (zc σ js) J H2 Q)(hpost: ∀D C s' m H',s'.heap.Ns C m -> s2.heap.objs.size <=C -> ac3 X pins H' C -> Inv X pins σ H' s' -> Q (.ref D) H' -> post (.ref D) C (.ok .next) s'):
  wpAny (model X.prog X.w) X.A (newList []) (fun acc s₃=> wpAny (model X.prog X.w) X.A (newFunctionEnv scope X.env.globals (x9 X.env scope.names []) [] X.env.qual none .none (some X.env)) (fun cenv s₄=>
   codeAny (model X.prog X.w) X.A (.compStart (.ListComp elt [⟨tg,iter,ifs,0⟩] scope pos) 0 (.ref it) acc {cenv with scope:=relabel scope X.env}) (post acc cenv.locals) s₄) E s₃) E s2:=by
 have hcell': ∀y∈scope.names,y.2≠ .cell:=fun y hy e=> by
  have:=(List.any_eq_false.mp hcell) y hy
  simp [e]at this
 have hfr: ∀n,(n,br)∈scope.names -> X.env.kindOf n=some .cell\/X.env.kindOf n=some .free:=fun n hn=> by
  have:=(aH.mp hk) _ hn
  simpa using this
 refine c6 (wpAny_newFunctionEnv hcell' (by intro y hy;simp at hy) (fun h₁ hns₁ hsb₁=> ?_) hkind)
 dsimp only at hns₁ hsb₁⊢
 generalize hHp:s2.heap.push {cls:=.type "list",dict:=none,data:=.seq ([]:List af).toArray}=G2 at hns₁ hsb₁⊢
 have hC:G2.objs.size=s2.heap.objs.size+1:=by rw [←hHp,bf]
 obtain⟨D,hDe⟩: ∃D:Nat,s2.heap.objs.size=D:=⟨_,rfl⟩
 obtain⟨C,hCe⟩: ∃C:Nat,G2.objs.size=C:=⟨_,rfl⟩
 rw [hCe]at hns₁ hsb₁
 rw [hDe,hCe]at hC
 show codeAny _ _ (.compStart _ 0 (.ref it) (.ref s2.heap.objs.size) (compEnvC scope (x9 X.env scope.names []) G2.objs.size X.env)) (post (.ref s2.heap.objs.size) G2.objs.size) _
 rw [hDe,hCe]
 have hDC:D≠C:=by lia
 have hDCl:D < C:=by lia
 have old: ∀b o,s2.heap.get? b=some o -> h₁.get? b=some o:=fun b o e=> by
  have hlt:b < D:=hDe▸ay e
  exact hsb₁.extBut b o (aT (Nat.lt_trans hlt hDCl)) (ai _ (hHp▸ai _ e))
 have hD2:H2 D=none:=I2.hok.fresh (dN hDe)
 have hC2:H2 C=none:=I2.hok.fresh (by rw [hDe];lia)
 have accD:h₁.get? D=some {cls:=.type "list",data:=.seq ([]:List af).toArray}:=hsb₁.extBut _ _ hDC (ai _ (hHp▸hDe▸aB _ rfl))
 obtain⟨W,⟨m0,w0⟩,turn⟩:=hw D hD2
 -- the block's own state
 have fpn: ∀b∈fp,H2 b=none:=fun b hb=> (f2 b hb).1
 have fplt: ∀b∈fp,b < D:=fun b hb=> by obtain⟨o,e,_⟩:=T.obj _ _ st2 b hb;exact hDe▸ay e
 have clsub: ∀n c,(n,c)∈x9 X.env scope.names [] -> X.env.cells.lookup n=some c:=ald (by intro _ _ z;cases z)
 have cllook: ∀n c,(x9 X.env scope.names []).lookup n=some c -> X.env.cells.lookup n=some c:=fun n c e=> clsub n c (cq e)
 have clhas: ∀n,(n,br)∈scope.names -> ∃c,(x9 X.env scope.names []).lookup n=some c/\X.env.cells.lookup n=some c:=fun n hn=> by
  obtain⟨c,e⟩:=I2.ok.has n (hfr n hn)
  have m:=am8 (cs:=[]) hn e
  cases q:(x9 X.env scope.names []).lookup n with
  |none=>
   have:=List.lookup_eq_none_iff.mp q _ m
   simp at this
  |some c'=> exact⟨c',rfl,cllook n c' q⟩
 have clt: ∀x c,(x9 X.env scope.names []).lookup x=some c -> c < D:=fun x c e=> by
  obtain⟨v,z⟩:=I2.cell x c (cllook x c e)
  exact hDe▸z.lt
 have ok':(vz X own caps scope C fp s2 H2).Ok:=by
  refine⟨I2.ok.mod,hkind,I2.ok.glob,I2.ok.blt,?_,fun x y c e1 e2=> I2.ok.inj x y c (cllook x c e1) (cllook y c e2),fun x hx=> ?_,fun x c z=> (by cases z),I2.ok.hd,I2.ok.frames,.inl rfl,fun b hb=> ⟨?_,fun x c e=> ?_⟩,I2.bs,aQ I2.ok.bsz I2.sz,fun b o e hb=> ?_,fun b hb hs=> ?_,I2.stack,I2.stkFree⟩
  ·show s2.heap.objs.size <=C
   rw [hDe];lia
  ·have hx':(relabel scope X.env).names.lookup x=some .cell\/(relabel scope X.env).names.lookup x=some .free:=hx
   obtain⟨c,e,_⟩:=clhas x (ac2 hcell' hx')
   exact⟨c,e⟩
  ·exact aT (Nat.lt_trans (fplt b hb) hDCl)
  ·exact (f2 b hb).2.2.2.2.1 x c (cllook x c e)
  ·rcases (f2 b hb).2.2.2.1 with z|z
   ·exact I2.ok.noex b o e z
   ·exact absurd (aD (ay (I2.ok.bs b o e).1) z) (bZ _)
  ·rcases aw.mp (I2.stkSub b hs) with z|z
   ·exact (f2 b hb).2.1 z
   ·exact (f2 b hb).2.2.1 z
 have I4:Inv (vz X own caps scope C fp s2 H2) [] (bD own.length none++zc σ js) (upd H2 D (.lst [])) {s2 with heap:=h₁,toks:=s2.toks+([]:List (Str×af)).length}:=by
  refine⟨ok',rfl,I2.bare,Un.laid old (dN hDe) hD2,⟨_,hns₁,fun i x v e1 e2 e3=> ?_⟩,fun x c e=> ?_,?_,fun x c e=> ?_,fun p hp=> absurd (show p∈([]:List (Addr×Obj)) from hp) (by simp),?_,?_⟩
  ·have e1:(own++caps)[i]?=some x:=e1
   by_cases hio:i < own.length
   ·rw [aR (by simpa using hio),cS]at e2
    split at e2 <;> cases e2
   ·have hle:own.length <=i:=bN hio
    rw [bq hle]at e1
    rw [bq (by simpa using hle)]at e2
    obtain⟨j,c,e⟩:=aa3.at (σ:=σ) hcap e1 (by simpa using e2)
    obtain⟨c1,c2,c3,c4⟩:=c
    obtain⟨m,hn,hl⟩:=I2.loc
    obtain⟨u,r,lk⟩:=hl j x v c1 e c2
    refine⟨u,r,.inr ⟨?_,?_⟩⟩
    ·have c4':(relabel scope X.env).names.lookup x=some .cell\/(relabel scope X.env).names.lookup x=some .free:=by simpa using c4
     exact c4'
    ·have c4':(relabel scope X.env).names.lookup x=some .cell\/(relabel scope X.env).names.lookup x=some .free:=by simpa using c4
     obtain⟨c',q1,q2⟩:=clhas x (ac2 hcell' c4')
     rcases lk with ⟨k1,_⟩|⟨_,c'',k2,k3⟩
     ·rw [k1]at c3;simp at c3
     ·rw [q2]at k2;cases k2
      obtain⟨oc,hoc,hod⟩:=k3
      exact⟨c',q1,oc,old _ _ hoc,hod⟩
  ·obtain⟨v,oc,hoc,hod⟩:=I2.cell x c (cllook x c e)
   exact⟨v,oc,old _ _ hoc,hod⟩
  ·show upd H2 D (.lst []) C=none
   rw [k8 (c8 hDC)];exact hC2
  ·rw [k8 (aT (clt x c e))];exact I2.freeC x c (cllook x c e)
  ·exact I2.hok.laid old (dN hDe) ⟨bP _,[],0,.nil,accD⟩
  ·show (bD own.length none++zc σ js).length=(own++caps).length
   rw [aO,aO,gM,hcap.len]
 have stat: ∀{H':Hp},(∀b∈fp,H' b=none) -> ∀b∈fp,ac3 (vz X own caps scope C fp s2 H2) [] H' b:=fun hn b hb=>
  ⟨hn b hb,(ok'.exf b hb).1,ok'.exfs b hb,.inl hb,(ok'.exf b hb).2,fun p hp=> absurd (show p∈([]:List (Addr×Obj)) from hp) (by simp)⟩
 have loop: ∀s₃:ak,s₃={s2 with heap:=h₁,toks:=s2.toks+([]:List (Str×af)).length} ->
   codeAny (model X.prog X.w) X.A (.compLoop (.ListComp elt [⟨tg,iter,ifs,0⟩] scope pos) 0 (.ref it) (.ref D) (compEnvC scope (x9 X.env scope.names []) C X.env)) (post (.ref D) C) s₃:=by
  rintro s₃ rfl
  refine azi (fun n s'=> ∃i vs ys H',vs.length=own.length/\Inv (vz X own caps scope C fp s2 H2) [] (vs++zc σ js) H' s'/\tn i s'.heap/\(∀b∈fp,H' b=none)/\H' D=some (.lst ys)/\W i n ys H') ?_ m0
   ⟨0,bD own.length none,[],upd H2 D (.lst []),by simp,I4,T.keep _ _ _ st2 fun b _ o e=> old b o e,fun b hb=> by rw [k8 (aT (fplt b hb))];exact fpn b hb,y7,w0⟩
  rintro n s3 ⟨i,vs,ys,H3,hvs,I3,st3,fr3,hD3,w3⟩
  rcases turn i n ys H3 hD3 w3 with ⟨stop,qn⟩|⟨go,step⟩
  ·refine thn (T.done (vz X own caps scope C fp s2 H2) rfl rfl rfl hcalm i [] s3 _ H3 (fun _ _=> False) I3 (stat fr3) st3 stop) fun r s5 ⟨hr,I5⟩=> ?_
   subst hr
   obtain⟨m5,hn5,_⟩:=id I5.loc
   refine hpost D C s5 m5 H3 hn5 (by rw [hDe];lia) (I2.fpOk (by rw [hDe];lia) I5.free) ?_ qn
   exact I2.call' (ch:=fp) I5.os I5.base I5.hok I5.bare fun b hb=> ⟨(f2 b hb).2.2.2.1,(f2 b hb).2.1,(f2 b hb).2.2.2.2⟩
  ·refine thn (T.item (vz X own caps scope C fp s2 H2) rfl rfl rfl hcalm i [] s3 _ H3 (fun _ _=> False) I3 (stat fr3) st3 go) fun r s4 ⟨u,hr,h4⟩=> ?_
   subst hr
   refine thn h4 fun _ s5 ⟨x,H5,I5,r5,y5,st5,fr5⟩=> ?_
   have I5':=I5.pinned (stat fr5) (T.obj _ _ st5);refine thn (hg C fp s2 H2 _ s5 _ H5 x u _ I5' r5 (step x H5 y5 vs hvs)) fun _ s6 ⟨σ6,H6,I6,⟨vs6,hvs6,e6⟩,q6⟩=> ?_
   subst e6
   refine thn (hi C fp s2 H2 _ s6 _ H6 _ I6 q6) fun b s7 ⟨H7,I7,q7⟩=> ?_
   have again: ∀{H8:Hp} {s8:ak} {ys':List V},Inv (vz X own caps scope C fp s2 H2) ([]++afv fp s5.heap) (vs6++zc σ js) H8 s8 -> H8 D=some (.lst ys') -> (∃m',m' < n/\W (i+1) m' ys' H8) ->
     ∃m,m < n/\ ∃i vs ys H',vs.length=own.length/\Inv (vz X own caps scope C fp s2 H2) [] (vs++zc σ js) H' s8/\tn i s8.heap/\(∀b∈fp,H' b=none)/\H' D=some (.lst ys)/\W i m ys H':=fun {H8 s8 ys'} I8 hD8 w8=> by
    obtain⟨m',hm,w8⟩:=w8
    refine⟨m',hm,i+1,vs6,ys',H8,hvs6,I8.unpinned,T.keep _ _ _ st5 fun b hb o e=> (I8.pin (b,o) (bb _ (bb _ (abk hb e)))).1,fun b hb=> ?_,hD8,w8⟩
    obtain⟨o,e,d⟩:=T.obj _ _ st5 b hb
    exact (I8.pin (b,o) (bb _ (bb _ (abk hb e)))).2.1
   cases b with
   |false=> exact again I7 q7.1 q7.2
   |true=>
    refine thn (he C fp s2 H2 _ s7 _ H7 _ I7 q7) fun y s8 ⟨v,H8,I8,r8,hD8,hz8,q8⟩=> ?_
    refine thn (ajr (X:=vz X own caps scope C fp s2 H2) _ s8 _ H8 (.ref D) [v] (.ref D) [y] (fun z H9=> H9=upd H8 D (.lst (ys++ [v]))) I8 rfl (.cons r8 .nil) ⟨D,ys,v,rfl,rfl,hD8,hz8,rfl⟩) fun _ s9 ⟨z,H9,I9,_,e9⟩=> ?_
    subst e9
    exact again I9 y7 q8
 refine codeAny_compStart_list (loop _ rfl) (T.self _ 0 _ _ _ (T.keep _ _ _ st2 fun b _ o e=> old b o e) (loop _ rfl))
theorem a4a(hcalm:X.calm=true)(hkind:scope.kind=.function)(hnames:(scope.names.all fun p=> !(p.2==.local)||(scope.names.lookup p.1==some .local))=true)(hcell:(scope.names.any fun p=> p.2==.cell)=false)
  (hk:(scope.names.all fun p=> !(p.2==.free)||(X.env.kindOf p.1==some .cell||X.env.kindOf p.1==some .free))=true)
  (hcap:aa3 X scope caps js) (hi:PI X tg iter wi) (hg: ∀C fp s H,PG (vz X own caps scope C fp s H) tg g) (ht: ∀C fp s H,aj0 (vz X own caps scope C fp s H) ifs tt) (he: ∀C fp s H,PE (vz X own caps scope C fp s H) elt te)
  (hs: ∀x,cF iter X.env x=pure x:=by intro _;rfl):PE X (.ListComp elt [⟨tg,iter,ifs,0⟩] scope pos) (tLc js own.length wi g tt te):=by
 refine⟨?_⟩
 intro pins s σ H Q I h
 have hfr: ∀n,(n,br)∈scope.names -> X.env.kindOf n=some .cell\/X.env.kindOf n=some .free:=fun n hn=> by
  have:=(aH.mp hk) _ hn
  simpa using this
 have hn': ∀x∈scope.names,x.2=.local -> scope.names.lookup x.1=some .local:=fun x hx e=> by
  have:=(aH.mp hnames) _ hx
  simpa [e] using this
 rw [eval_ListComp]
 refine ga (use:=none) rfl hs (aeq fun n hn=> I.ok.has n (hfr n hn)) hkind hn' (thn (hi pins s σ H _ I h) fun v s1 h1=> thn h1 fun itv s2 h2=> ?_)
 obtain⟨it,fp,tn,J,H2,e,I2,T,st2,f2,hw⟩:=h2
 subst e
 refine atg (iter:=iter) (pos:=pos) (post:=fun acc C=> compPost (model X.prog X.w) X.A X.xe none (EP X pins σ Q) acc C) hcalm hkind hcell hk hcap hg ht he I2 T st2 f2 hw ?_
 intro D C s' m H' hn _ f hI hq
 exact⟨m,hn,fun h' hs'=> ⟨.ref D,H',hI.turned (t':=s'.toks) (fun b o hb e=> (hs'.2 b hb).trans e) f.1 f.2.1 f.2.2.2.1 f.2.2.2.2.1 f.2.2.2.2.2,rfl,hq⟩⟩
theorem avb{y:Str}{py:Pos}{spos:Pos}(hsw:dM (.ListComp elt [⟨tg,iter,ifs,0⟩] scope pos) (some (.Name y py)) spos.line X.env=pure true)(hN:X.N.Nodup)(hy:X.N[i]?=some y)(hyl:X.env.scope.names.lookup y=some .local)(hcalm:X.calm=true)(hkind:scope.kind=.function)(hnames:(scope.names.all fun p=> !(p.2==.local)||(scope.names.lookup p.1==some .local))=true)(hcell:(scope.names.any fun p=> p.2==.cell)=false)(hk:(scope.names.all fun p=> !(p.2==.free)||(X.env.kindOf p.1==some .cell||X.env.kindOf p.1==some .free))=true)(hcap:aa3 X scope caps js)(hi:PI X tg iter wi)(hg: ∀C fp s H,PG (vz X own caps scope C fp s H) tg g)(ht: ∀C fp s H,aj0 (vz X own caps scope C fp s H) ifs tt)(he: ∀C fp s H,PE (vz X own caps scope C fp s H) elt te)(hs: ∀x,cF iter X.env x=pure x:=by intro _;rfl):PS X (.Assign [.Name y py] (.ListComp elt [⟨tg,iter,ifs,0⟩] scope pos) spos) (fun D σ H=> tLc js own.length wi g tt te σ H fun v H'=> D.nx (σ.set i (some v)) H'):=by
 refine⟨?_⟩
 intro pins s σ H D I h
 have hfr: ∀n,(n,br)∈scope.names -> X.env.kindOf n=some .cell\/X.env.kindOf n=some .free:=fun n hn=> by
  have:=(aH.mp hk) _ hn
  simpa using this
 have hn': ∀x∈scope.names,x.2=.local -> scope.names.lookup x.1=some .local:=fun x hx e=> by
  have:=(aH.mp hnames) _ hx
  simpa [e] using this
 rw [exec_Assign_Name_used _ _ _ _ hsw];refine ae (fL (ae ?_))
 show wpAny _ _ (do let _←comprehension (.ListComp elt [⟨tg,iter,ifs,0⟩] scope pos) scope X.env _ (newList []) false (eval iter X.env) (some (assign (.Name y py) X.env))) _ _ s
 refine ae (cI (ga (use:=some (assign (.Name y py) X.env)) (Q:=fun _ s'=> SP X pins D .next s') rfl hs (aeq fun n hn=> I.ok.has n (hfr n hn)) hkind hn'
  (thn (hi pins s σ H _ I h) fun v s1 h1=> thn h1 fun itv s2 h2=> ?_)) (fun _ s' hq=> al (al hq)) fun _ _ e=> e)
 obtain⟨it,fp,tn,J,H2,e,I2,T,st2,f2,hw⟩:=h2
 subst e
 refine atg (iter:=iter) (pos:=pos) (post:=fun acc C=> compPost (model X.prog X.w) X.A X.xe (some (assign (.Name y py) X.env)) (fun _ s'=> SP X pins D .next s') acc C) hcalm hkind hcell hk hcap hg ht he I2 T st2 f2 hw ?_
 intro Da C s' m H' hn hCs f I' hq
 show wpAny _ _ (assign (.Name y py) X.env (.ref Da)) _ _ _
 refine wpAny_assign_Name (ak2 (v:=.ref Da) (u:=.ref Da) I' hN hy (.inl hyl) rfl (fun s6 I6 hs6=> ?_) (.inr hyl))
 obtain⟨a,hsb,ha⟩:=hs6
 have haC:a≠C:=by
  rcases ha with z|z
  ·rw [z];exact c8 f.2.1
  ·exact f.2.2.2.2.1 y a z
 exact⟨m,hn.sameBut hsb (c8 haC),fun h' hs'=> ⟨σ.set i (some (.ref Da)),H',I6.turned (t':=s6.toks) (fun b o hb e=> (hs'.2 b hb).trans e) f.1 f.2.1 f.2.2.2.1 f.2.2.2.2.1 f.2.2.2.2.2,hq⟩⟩
end
def Cal(P:aW)(w:aY)(K:ah)(mg:Str -> Option af)(base:Heap)(x:Str)(k:Nat)(sp:Sp):Prop:=
 ∃(f:Addr) (fd:cv) (ps:List Str),FnOk P w K mg base CX0 k f fd ps sp/\mg x=some (.ref f)/\bO K (.ref f)=true/\Binds K fd ps []
def Has(K:ah)(mg:Str -> Option af)(x:Str)(st:Stmt)(ps:List Str):Prop:=
 ∃(f:Addr) (fd:cv),Fun K x x st f fd/\mg x=some (.ref f)/\Binds K fd ps []
section
variable{P:aW}{w:aY}{K:ah}{mg:Str -> Option af}{base:Heap}{x:Str}{st:Stmt}{N ps:List Str}{k:Nat}{sp:Sp}
theorem Has.cal(h:Has K mg x st ps)(S:FnScope N ps (jj st))(len: ∀vs H Q E,sp vs H Q E -> vs.length=ps.length)
  (hbody: ∀(f:Addr) (cdv:af) (A:bd) (outer:List Env) (s:ak) (H:Hp) (vs:List V) (Q:VK) (E:XK),Room k (A.deeper (envOfC x (jj st) s.heap.objs.size f cdv)) -> sp vs H Q E ->
   ∃t,PSs (ab7 CX0 P w K mg base N x (jj st) f cdv A outer s H E).nox (va st) t/\t {nx:=fun _ H'=> Q .non H',rt:=Q} (start N vs) H):Cal P w K mg base x (k+1) sp:=by
 obtain⟨f,fd,F,m,b⟩:=h
 exact⟨f,fd,ps,F.ok S len (hbody f),m,F.kp,b⟩
end
section
variable{X:Cx}{x:Str}{k:Nat}{sp:Sp}{p pos:Pos}{e:Expr}{es:List Expr}{t:TA}
theorem a6j(c:Cal X.prog X.w X.K X.mg X.base x k sp)(hr:Room k X.A)(ha:PA X (e::es) t)(hg:Gl X x:=by rfl)(hdb:(x==("__debug__":Str))=false:=by decide)
  (he:starEach (e::es) X.env=(false,eval e X.env)::starEach es X.env:=by rfl) (hpl:(backTo pos (starEach es X.env)).any (·.1)=false:=by rfl):PE X (.Call (.Name x p) (e::es) [] pos) (awl sp [] E0 t):=by
 obtain⟨f,fd,ps,F,m,kk,b⟩:=c
 exact a0d F hr hg m kk b .nil aku ha hdb he hpl
end
theorem qp:aX "len"=some (.builtin "len"):=by decide+kernel
theorem ax6:aX "min"=some (.builtin "min"):=by decide+kernel
theorem a5s:aX "max"=some (.builtin "max"):=by decide+kernel
theorem ach:aX "repr"=some (.builtin "repr"):=by decide+kernel
theorem v9:aX "isinstance"=some (.builtin "isinstance"):=by decide+kernel
theorem ahl:aX "all"=some (.builtin "all"):=by decide+kernel
theorem zw:aX "list"=some (.type "list"):=by decide+kernel
theorem qu:aX "tuple"=some (.type "tuple"):=by decide+kernel
theorem a4b:aX "set"=some (.type "set"):=by decide+kernel
theorem agb:aX "str"=some (.type "str"):=by decide+kernel
theorem awx:aX "int"=some (.type "int"):=by decide+kernel
theorem a3m:aX "bool"=some (.type "bool"):=by decide+kernel
noncomputable def tyD:ag -> String
 |.none=> "NoneType"
 |.bool _=> "bool"
 |.int _=> "int"
 |.str _=> "str"
 |.list _=> "list"
 |.tuple _=> "tuple"
 |.dict _=> "dict"
noncomputable def aah(d:ag)(n:String):Bool:=match d with
 |.none=> n=="NoneType"
 |.bool _=> n=="bool"||n=="int"
 |.int _=> n=="int"
 |.str _=> n=="str"
 |.list _=> n=="list"
 |.tuple _=> n=="tuple"
 |.dict _=> n=="dict"
theorem atj(K:ah)(d:ag)(n:String)(hn:n="str"\/n="int"\/n="bool"\/n="tuple"\/n="list"):PySem.W.kitOne K (.type (tyD d)) (.type n)=some (aah d n):=by
 rcases hn with rfl|rfl|rfl|rfl|rfl <;> cases d <;> rfl
theorem ayb(l:Addr)(its:Array af)(n:Nat)(b:Addr)(jts:Array af)(m:Nat)(dd:Option Addr)(sl:Array (Option af))(z0: ¬(!its.isEmpty&&ci (its.size+jts.size))=true)(z1:its.size <=sizeLine)(z2:its.size+jts.size <=sizeLine+1):
  Meets (d0.«list.extend» ⟨[.ref l,.ref b],[]⟩) (fun _ R s=> s.heap.get? l=some {cls:=.type "list",data:=.seq its n}/\s.heap.get? b=some {cls:=.type "tuple",dict:=dd,data:=.seq jts m,slots:=sl}/\
   R (.ok (.ret cx)) {s with heap:=s.heap.update l (eR fun x=> x++jts),toks:=s.toks}):=
 .of_wp fun pr wo ar re st h=> by
  obtain⟨he,ge,dr,tk,oz⟩:=st
  obtain⟨hl,hb,h⟩:=h
  have f1:=PySem.AutoSeq1.idx_int
  have f2:=PySem.AutoSeq1.sub_tuple_tuple
  have f3:=PySem.AutoSeq1.sub_list_list
  have f4:=PySem.AutoSeq1.sub_tuple_list
  have f5:=PySem.AutoSeq1.sub_list_tuple
  have z3:(its++jts).size <=sizeLine+1:=by
   rw [Array.size_append]
   exact z2
  wp_walk using (wpAny_updateSeq hl rfl (hz:=z1) (_hz':=z3)),eS hl,eS hb
  exact⟨_,rfl,h⟩
def atz(K:ah):V -> List V -> Hp -> VK -> Prop:=fun x vs H Q=> ∃l b xs zs,x=.ref l/\vs=[.ref b]/\H l=some (.lst xs)/\SqT K H b zs/\xs.length+zs.length <=sizeLine/\Q .non (upd H l (.lst (xs++zs)))
theorem aqr:MtM X "list.extend" (atz X.K):=by
 intro pins s σ H x vs v us Q I rx rv h
 obtain⟨l,b,xs,zs,rfl,rfl,hH,hB,hz,q⟩:=h
 cases rx
 obtain⟨u,rfl,ru⟩:=rv.one
 cases ru
 obtain⟨z,its,n,r,hl,e⟩:=I.lstM hH
 obtain⟨jts,r2,p2,z2⟩:=I.tuple hB
 have hl2:=r2.length
 obtain⟨⟨c,dd,dt,sl⟩,e2,c2,m,d2⟩:=p2
 simp only at c2 d2
 subst c2 d2
 have hsz:its.toArray.size+jts.toArray.size <=sizeLine:=by rw [au,au];lia
 have hlong: ¬(!its.toArray.isEmpty&&ci (its.toArray.size+jts.toArray.size))=true:=by
  rw [aly hsz,Bool.and_false]
  exact ax
 refine dn F.slot_list_extend ⟨_,e,rfl⟩ ia (gZ _ _) (ayb l its.toArray n b jts.toArray m dd sl hlong (by rw [au];lia) (by lia)) ⟨e,e2,?_⟩
 refine⟨.non,_,I.lset (its':=its++jts) hH e (by simp) (r.append r2) ?_,rfl,q⟩
 rw [aO]
 lia
noncomputable def alq:Const -> Option V
 |.str x=> some (.str x)
 |.int i=> some (.int i)
 |.bool b=> some (.bl b)
 |.none=> some .non
 |_=> none
def aei:List Expr -> Option (List V)
 |[]=> some []
 | .Constant c _ _::r=> match alq c with
  |some v=> match aei r with
   |some vs=> some (v::vs)
   |none=> none
  |none=> none
 |_=> none
theorem au1{c:Const}{j:Nat}:starEach (.Constant c j pos::es) env=(false,eval (.Constant c j pos) env)::starEach es env:=by rfl
noncomputable def tVs(vs:List V):TA:=fun _ H Q=> Q vs H
theorem azl{c:Const}{j:Nat}(h:alq c=some v):PE X (.Constant c j pos) (tC v):=by
 cases c <;> simp [alq]at h <;> subst h
 all_goals first
  |exact arp
  |exact asv
  |exact axf
  |exact asb
theorem ak6: ∀{es:List Expr} {vs:List V},aei es=some vs -> PA X es (tVs vs)
 |[],vs,h=> by
  cases h
  exact amb
 | e ::es,vs,h=> by
  cases e with
  | Constant c j pos=>
   simp only [aei]at h
   cases h1:alq c with
   |none=>
    rw [h1]at h
    cases h
   | some v=>
    rw [h1]at h
    cases h2:aei es with
    |none=> rw [h2]at h;cases h
    |some ws=>
     rw [h2]at h
     cases h
     have p:=aig (azl (X:=X) (pos:=pos) (j:=j) h1) (ak6 h2) au1
     exact p
  |_=> simp [aei]at h
structure New (H:Hp) (p:Addr) (o:HO) (H':Hp):Prop where
 no:H p=none
 eq:H'=upd H p o
theorem New.at(n:New H p o H'):H' p=some o:=by rw [n.eq,y7]
theorem New.keep{b:Addr}{u:HO}(n:New H p o H')(e:H b=some u):H' b=some u:=by rw [n.eq,k8 (yb e n.no)];exact e
structure Chg (H:Hp) (p:Addr) (o:HO) (H':Hp):Prop where
 eq:H'=upd H p o
theorem Chg.at(n:Chg H p o H'):H' p=some o:=by rw [n.eq,y7]
theorem Chg.keep{b:Addr}{u:HO}(n:Chg H p o H')(h:b≠p)(e:H b=some u):H' b=some u:=by rw [n.eq,k8 h];exact e
theorem PE.weak{t t':TE}(h:PE X e t)(k: ∀σ H Q,t' σ H Q -> t σ H Q):PE X e t':=.mk <|fun pins s σ H Q I q=> h pins s σ H Q I (k σ H Q q)
theorem OpR.weak{f:af -> af -> Sem af}{r r':R2}(h:OpR X f r)(k: ∀x y H Q,r' x y H Q -> r x y H Q):OpR X f r':=fun pins s σ H x y v u Q I rx ry q=> h pins s σ H x y v u Q I rx ry (k x y H Q q)
theorem xi.weak{f:af}{r r':List V -> Hp -> VK -> Prop}(h:xi X f r)(k: ∀xs H Q,r' xs H Q -> r xs H Q):xi X f r':=fun pins s σ H xs us Q I rv q=> h pins s σ H xs us Q I rv (k xs H Q q)
theorem MtM.weak{id:String}{r r':V -> List V -> Hp -> VK -> Prop}(h:MtM X id r)(k: ∀x xs H Q,r' x xs H Q -> r x xs H Q):MtM X id r':=fun pins s σ H x xs v us Q I rx rv q=> h pins s σ H x xs v us Q I rx rv (k x xs H Q q)
theorem SlR.weak{r r':V -> Option Int -> Option Int -> Hp -> VK -> Prop}(h:SlR X r)(k: ∀x lo hi H Q,r' x lo hi H Q -> r x lo hi H Q):SlR X r':=by
 intro pins s σ H x v vl vu lo hi sl Q I rx hs pl pu q
 exact h pins s σ H x v vl vu lo hi sl Q I rx hs pl pu (k x lo hi H Q q)
theorem ait.weak{t t':apt}(h:ait X t)(k: ∀o i v H Q,t' o i v H Q -> t o i v H Q):ait X t':=fun pins s σ H o i v ov iv u Q I ro ri rv q=> h pins s σ H o i v ov iv u Q I ro ri rv (k o i v H Q q)
noncomputable def a51(t:TA):TE:=fun σ H Q=> t σ H fun xs H1=> xs.length <=sizeLine/\ ∀p H',New H1 p (.tup xs) H' -> Q (.ref p) H'
noncomputable def a4f(t:TA):TE:=fun σ H Q=> t σ H fun xs H1=> xs.length <=sizeLine/\ ∀p H',New H1 p (.lst xs) H' -> Q (.ref p) H'
theorem az0{x1 pos}(h:PA X es t):PE X (.Tuple es x1 pos) (a51 t):=by
 refine⟨?_⟩
 intro pins s σ H Q I hq
 refine wpAny_Tuple_spliced (thn (h pos pins s σ H _ I hq) fun us s1 ⟨xs,H1,I1,r,z,q⟩=> ⟨by rw [←r.length];exact z,?_⟩)
 have hf:H1 s1.heap.objs.size=none:=I1.hok.fresh (ao _)
 refine⟨.ref s1.heap.objs.size,upd H1 s1.heap.objs.size (.tup xs),I1.laid (t':=s1.toks) (fun b u e=> ai _ e) (ao _) ?_,rfl,q _ _ ⟨hf,rfl⟩⟩
 exact⟨z,us,r,⟨_,aB _ rfl⟩⟩
theorem a0p{pos}(h:PA X es t):PE X (.List es pos) (a4f t):=by
 refine⟨?_⟩
 intro pins s σ H Q I hq
 refine wpAny_List_spliced (thn (h pos pins s σ H _ I hq) fun us s1 ⟨xs,H1,I1,r,z,q⟩=> ⟨by rw [←r.length];exact z,?_⟩)
 have hf:H1 s1.heap.objs.size=none:=I1.hok.fresh (ao _)
 refine⟨.ref s1.heap.objs.size,upd H1 s1.heap.objs.size (.lst xs),I1.laid (t':=s1.toks) (fun b u e=> ai _ e) (ao _) ?_,rfl,q _ _ ⟨hf,rfl⟩⟩
 exact⟨z,us,0,r,aB _ rfl⟩
def a5k(K:ah):V -> Option Int -> Option Int -> Hp -> VK -> Prop:=fun x lo hi H Q=> ∃a xs,x=.ref a/\SqL K H a xs/\ ∀p H',New H p (.lst (y6 xs lo hi)) H' -> Q (.ref p) H'
theorem auz:SlR X (a5k X.K):=ayc.weak fun x lo hi H Q ⟨a,xs,e,h,q⟩=> ⟨a,xs,e,h,fun p hp=> q p _ ⟨hp,rfl⟩⟩
def a56(K:ah):V -> Option Int -> Option Int -> Hp -> VK -> Prop:=fun x lo hi H Q=> ∃a xs,x=.ref a/\SqT K H a xs/\ ¬(HT.sIx xs.length 0 lo=0/\HT.sIx xs.length xs.length hi=xs.length)/\ ∀p H',New H p (.tup (y6 xs lo hi)) H' -> Q (.ref p) H'
theorem a0i:SlR X (a56 X.K):=arz.weak fun x lo hi H Q ⟨a,xs,e,h,n,q⟩=> ⟨a,xs,e,h,n,fun p hp=> q p _ ⟨hp,rfl⟩⟩
noncomputable def a4d:R2:=fun x y H Q=> ∃l b xs zs,x=.ref l/\y=.ref b/\H l=some (.lst xs)/\H b=some (.lst zs)/\xs.length+zs.length <=sizeLine/\ ∀p H',New H p (.lst (xs++zs)) H' -> Q (.ref p) H'
theorem az6:OpR X (binaryOp .Add) a4d:=a0v.weak fun x y H Q ⟨l,b,xs,zs,e1,e2,h1,h2,n,q⟩=> ⟨l,b,xs,zs,e1,e2,h1,h2,n,fun p hp=> q p _ ⟨hp,rfl⟩⟩
theorem aqi:xi X (.type "list") (fun xs H Q=> ∃p ys,xs=[.ref p]/\(SqL X.K H p ys\/SqT X.K H p ys)/\ ∀l H',New H l (.lst ys) H' -> Q (.ref l) H'):=
 amq.weak fun xs H Q ⟨p,ys,e,h,q⟩=> ⟨p,ys,e,h,fun l hl=> q l _ ⟨hl,rfl⟩⟩
theorem ad1:xi X (.type "tuple") (fun xs H Q=> ∃p ys,xs=[.ref p]/\((SqL X.K H p ys/\ ∀l H',New H l (.tup ys) H' -> Q (.ref l) H')\/(SqT X.K H p ys/\Q (.ref p) H))):=
 akn.weak fun xs H Q ⟨p,ys,e,h⟩=> ⟨p,ys,e,h.imp (fun⟨a,q⟩=> ⟨a,fun l hl=> q l _ ⟨hl,rfl⟩⟩) id⟩
def atx:V -> List V -> Hp -> VK -> Prop:=fun x vs H Q=> ∃l xs y,x=.ref l/\vs=[y]/\H l=some (.lst xs)/\xs.length < sizeLine/\ ∀H',Chg H l (.lst (xs++ [y])) H' -> Q .non H'
theorem apx:MtM X "list.append" atx:=ajr.weak fun x vs H Q ⟨l,xs,y,e1,e2,h,n,q⟩=> ⟨l,xs,y,e1,e2,h,n,q _ ⟨rfl⟩⟩
def avw:V -> List V -> Hp -> VK -> Prop:=fun x vs H Q=> ∃l b xs zs,x=.ref l/\vs=[.ref b]/\H l=some (.lst xs)/\H b=some (.lst zs)/\xs.length+zs.length <=sizeLine/\ ∀H',Chg H l (.lst (xs++zs)) H' -> Q .non H'
theorem apn:MtM X "list.extend" avw:=atc.weak fun x vs H Q ⟨l,b,xs,zs,e1,e2,h,hb,n,q⟩=> ⟨l,b,xs,zs,e1,e2,h,hb,n,q _ ⟨rfl⟩⟩
def atl(K:ah):V -> List V -> Hp -> VK -> Prop:=fun x vs H Q=> ∃l b xs zs,x=.ref l/\vs=[.ref b]/\H l=some (.lst xs)/\SqT K H b zs/\xs.length+zs.length <=sizeLine/\ ∀H',Chg H l (.lst (xs++zs)) H' -> Q .non H'
theorem anc:MtM X "list.extend" (atl X.K):=aqr.weak fun x vs H Q ⟨l,b,xs,zs,e1,e2,h,hb,n,q⟩=> ⟨l,b,xs,zs,e1,e2,h,hb,n,q _ ⟨rfl⟩⟩
def a06:V -> List V -> Hp -> VK -> Prop:=fun x vs H Q=> ∃l xs i k y,x=.ref l/\vs=[.int i]/\H l=some (.lst xs)/\ -(2^63) <=i/\i < 2^63/\fF i xs.length=some k/\xs[k]?=some y/\ ∀H',Chg H l (.lst (xs.eraseIdx k)) H' -> Q y H'
theorem aqy:MtM X "list.pop" a06:=av7.weak fun x vs H Q ⟨l,xs,i,k,y,e1,e2,h,n1,n2,n3,n4,q⟩=> ⟨l,xs,i,k,y,e1,e2,h,n1,n2,n3,n4,q _ ⟨rfl⟩⟩
def a2t:V -> V -> V -> Hp -> (Hp -> Prop) -> Prop:=fun o i v H Q=> ∃p xs k j,o=.ref p/\i=.int k/\H p=some (.lst xs)/\ixN xs.length k=some j/\ ∀H',Chg H p (.lst (xs.set j v)) H' -> Q H'
theorem at3:ait X a2t:=awf.weak fun o i v H Q ⟨p,xs,k,j,e1,e2,h,n,q⟩=> ⟨p,xs,k,j,e1,e2,h,n,q _ ⟨rfl⟩⟩
def a3b(w:aY)(k:Nat)(t:dQ):Prop:=t.led= !(w.params.followText "set-order")/\(k≠0 -> t.plain=false)
def xa(P:aW)(w:aY)(h:Heap)(a:Addr)(S:Str -> Bool)(n:Nat):Prop:=
 ∃o es ep t,h.get? a=some o/\o.ExactSet/\o.data=.set es ep t/\(ElemsOf (bg P w) es.toList/\(∀k,S k=true ↔ ∃e∈es.toList,(bg P w).is k e.2=true)
  /\es.size < b9/\t.fits es.size=true/\es.size=n)/\a3b w es.size t
theorem xa.congr{S S':Str -> Bool}{n':Nat}(z:xa P w h a S n)(hS: ∀k,S' k=S k)(hn:n'=n):xa P w h a S' n':=by
 subst hn
 obtain⟨o,es,ep,t,e,ex,d,⟨q1,q2,q3⟩,q4⟩:=z
 exact⟨o,es,ep,t,e,ex,d,⟨q1,fun k=> by rw [hS k];exact q2 k,q3⟩,q4⟩
theorem a07(t:dQ)(es:Array (Int×af))(h:Int)(x:af):(layNew t es h x).2.1.led=t.led:=by
 have si: ∀(u:dQ) (m:Nat),(u.orStandIn m).led=u.led:=fun u m=> by
  unfold SetTable.orStandIn
  by_cases c:u.fits m=true
  ·rw [if_pos c]
  ·rw [if_neg c];rfl
 unfold layNew
 cases t.freeSlot h with
 |none=> rfl
 |some q=>
  obtain⟨sl,wd⟩:=q
  exact (si _ _).trans rfl
theorem ame{t t':dQ}{hs:Array Int}{wd:Nat}{od:Array Nat}(e:t.relaid hs wd=some (t',od)):t'.led=t.led/\t'.plain=t.plain:=by
 unfold SetTable.relaid SetTable.laid at e
 cases c:SetTable.layClean (SetTable.sizeAbove wd - 1) hs with
 |none=> rw [c]at e;cases e
 |some ow=>
  rw [c]at e
  simp only [Option.bind_eq_bind,Option.bind_some,Option.pure_def,Option.some.injEq,Prod.mk.injEq]at e
  obtain⟨rfl,_⟩:=e
  exact⟨rfl,rfl⟩
theorem as8(t:dQ)(es:Array (Int×af))(wd:Nat):(relayAll t es wd).2.1.led=t.led/\(t.plain=false -> (relayAll t es wd).2.1.plain=false):=by
 unfold relayAll
 cases c:t.relaid (es.map (·.1)) wd with
 |none=> exact⟨rfl,fun _=> rfl⟩
 |some q=>
  obtain⟨t',od⟩:=q
  obtain⟨k1,k2⟩:=ame c
  dsimp only
  split
  ·exact⟨k1,fun z=> k2.trans z⟩
  ·exact⟨rfl,fun _=> rfl⟩
theorem arb{o:Obj}{es:Array (Int×af)}{ep:Nat}{t:dQ}(ho:h.get? a=some o)(hex:o.ExactSet)(hd:o.data=.set es ep t){es':Array (Int×af)}{t':dQ}{S':Str -> Bool}(q:ElemsOf (bg prog w) es'.toList/\(∀k,S' k=true ↔ ∃e∈es'.toList,(bg prog w).is k e.2=true)/\es'.size < b9/\t'.fits es'.size=true)(tx:a3b w es'.size t'):
  (h.update a (Obj.putSet es' t')).get? a=some {o with data:=.set es' (ep+1) t'}/\xa prog w (h.update a (Obj.putSet es' t')) a S' es'.size:=by
 obtain⟨g,_⟩:=SetOf_store (knd:=bg prog w) ho hex hd q.1 q.2.1 q.2.2.1 q.2.2.2
 exact⟨g,_,es',ep+1,t',g,hex,rfl,⟨q.1,q.2.1,q.2.2.1,q.2.2.2,rfl⟩,tx⟩
theorem awq{g:Bool -> Sem Unit}(hg: ∀(b:Bool) (s1:ak) (Q':Unit -> ak -> Prop),Q' () s1 -> wpAny (model prog w) A (g b) Q' E s1){o:Obj}{es:Array (Int×af)}{ep:Nat}{t:dQ}(ho:s.heap.get? a=some o)(hex:o.ExactSet)(hd:o.data=.set es ep t){es1:Array (Int×af)}{t2:dQ}{S':Str -> Bool}(q:ElemsOf (bg prog w) es1.toList/\(∀k,S' k=true ↔ ∃e∈es1.toList,(bg prog w).is k e.2=true)/\es1.size < b9/\t2.fits es1.size=true)(tx:t2.led= !(w.params.followText "set-order")/\t2.plain=false){wasDummy:Bool}{R:Option Bool -> ak -> Prop}(h: ∀h',bh a s.heap h' -> xa prog w h' a S' es1.size -> R (some true) {s with heap:=h'}):
  wpAny (model prog w) A (do
   storeSet a es1 t2
   if (!wasDummy&&t2.tooFull)=true then do g (relayAll t2 es1 (cM es1.size)).2.2;storeSet a (relayAll t2 es1 (cM es1.size)).1 (relayAll t2 es1 (cM es1.size)).2.1;pure (some true) else pure (some true)) R E s:=by
 obtain⟨q1,q2,q3,q4⟩:=q
 refine ae (wpAny_storeSet_of ho hd ?_ (fits_of_scanBound q3))
 obtain⟨g1,x1⟩:=arb (w:=w) (prog:=prog) ho hex hd ⟨q1,q2,q3,q4⟩ ⟨tx.1,fun _=> tx.2⟩
 have b1:=fj s.heap a (Obj.putSet es1 t2)
 split
 ·have p:=relayAll_perm t2 es1 (cM es1.size)
  have f:=relayAll_fits t2 es1 (cM es1.size)
  have tt:=as8 t2 es1 (cM es1.size)
  revert p f tt
  generalize relayAll t2 es1 (cM es1.size)=Rl
  obtain⟨es2,t3,gv⟩:=Rl
  intro p f tt
  dsimp only at p f tt⊢
  have z:es2.size=es1.size:=by
   have:=p.length_eq
   rwa [bo,bo]at this
  have b2:es2.size < b9:=z▸q3
  refine ae (hg _ _ _ (ae (wpAny_storeSet_of g1 rfl ?_ (fits_of_scanBound b2))))
  obtain⟨_,x2⟩:=arb (w:=w) (prog:=prog) (S':=S') g1 hex rfl ⟨q1.perm p,fun k=> (q2 k).trans ⟨fun⟨e,m,y⟩=> ⟨e,p.mem_iff.mpr m,y⟩,fun⟨e,m,y⟩=> ⟨e,p.mem_iff.mp m,y⟩⟩,b2,f⟩ ⟨tt.1.trans tx.1,fun _=> tt.2 tx.2⟩
  exact al (h _ (b1.trans (fj _ a _)) (z▸x2))
 ·exact al (h _ b1 x1)
theorem a61{S:Str -> Bool}{k:Str}{tk:Tok}{Q:Bool -> ak -> Prop}(hS:xa prog w s.heap a S n)(hroom:n+1 < b9)(h: ∀h',bh a s.heap h' -> xa prog w h' a (fun y=> S y||decide (y=k)) (if S k then n else n+1) -> Q (!S k) {s with heap:=h'}):
  wpAny (model prog w) A (setAddHashed a (.str k tk) ((bg prog w).hash k)) Q E s:=by
 have hkey:(bg prog w).is k (.str k tk)=true:=by show eB k (.str k tk)=true;simp [eB]
 obtain⟨o,es,ep,t,ho,hex,hd,⟨hel,hmem,hb,hf,hn⟩,tx⟩:=hS
 have hgw: ∀(b:Bool) {s1:ak} {Q':Unit -> ak -> Prop},Q' () s1 -> wpAny (model prog w) A (match b with|true=> rule "set.scan.the-table-gave-way"|false=> pure ()) Q' E s1:=by
  intro b s1 Q' z
  cases b
  ·exact al z
  ·exact cH z
 unfold setAddHashed setAddHashedIn;refine bI (ae (wpAny_setState_of ho hd hf ?_))
 dsimp only
 rw [byScan_of (knd:=bg prog w) rfl hb hel,if_pos rfl]
 unfold setAddByScan
 refine ae (ae (cH (ae (wpAny_setScan_of hkey ho hd hf hel ?_))))
 cases hr:List.findIdx? (fun e=> (bg prog w).is k e.2) es.toList with
 | some j=>
  obtain⟨hj,hpj,_⟩:=List.findIdx?_eq_some_iff_getElem.mp hr;have sk:S k=true:=(hmem k).mpr ⟨es.toList[j],eF hj,hpj⟩
  dsimp only
  refine al (al ?_);have z:=h s.heap (bh.refl a s.heap) ⟨o,es,ep,t,ho,hex,hd,⟨hel,fun y=> by
   rw [eT,decide_eq_true_eq,←hmem y]
   exact⟨fun c=> c.elim id (fun e=> e▸sk),.inl⟩,hb,hf,by rw [sk];exact hn⟩,tx⟩
  rw [sk]at z
  exact z
 | none=>
  dsimp only
  have sk:S k=false:=by
   cases c:S k with
   |false=> rfl
   |true=>
    obtain⟨e,m,y⟩:=(hmem k).mp c
    exact Bool.noConfusion (y.symm.trans (List.findIdx?_eq_none_iff.mp hr e m))
  have p:=layNew_perm t es ((bg prog w).hash k) (.str k tk)
  have f:=layNew_fits t es ((bg prog w).hash k) (.str k tk)
  have ld:=a07 t es ((bg prog w).hash k) (.str k tk)
  revert p f ld
  generalize layNew t es ((bg prog w).hash k) (.str k tk)=L
  obtain⟨es1,t1,wd,gv⟩:=L
  intro p f ld
  dsimp only at p f ld⊢
  rw [Array.toList_push]at p
  have z1:es1.size=n+1:=by
   have:=p.length_eq
   rw [bo,aO,bo,hn]at this
   exact this
  have b1:es1.size < b9:=z1▸hroom
  have q:ElemsOf (bg prog w) es1.toList/\(∀y,(fun y=> S y||decide (y=k)) y=true ↔ ∃e∈es1.toList,(bg prog w).is y e.2=true)/\es1.size < b9:=
   ⟨(hel.push hkey rfl).perm p,fun y=> mem_push_iff hkey hmem p y,b1⟩
  have fin: ∀h',bh a s.heap h' -> xa prog w h' a (fun y=> S y||decide (y=k)) es1.size -> Q true {s with heap:=h'}:=fun h' u v=> by
   have:=h h' u
   rw [sk,if_neg ax,←z1]at this
   exact this v
  refine ae (hgw _ ?_)
  split
  ·refine ae ?_
   rw [hashByValue_scannable 8 rfl]
   refine al (awq (fun b s1 Q' z=> ?_) ho hex hd ⟨q.1,q.2.1,q.2.2,?_⟩ ⟨?_,?_⟩ fun h' u v=> ?_)
   ·cases b
    ·exact al z
    ·exact cH z
   ·exact SetTable.fits_plain_off f
   ·exact ld.trans tx.1
   ·rfl
   ·dsimp only;exact al (fin h' u v)
  ·rename_i hpl
   refine ae (al ?_);simp only [↓reduceIte]
   refine awq (fun b s1 Q' z=> ?_) ho hex hd ⟨q.1,q.2.1,q.2.2,f⟩ ⟨ld.trans tx.1,?_⟩ fun h' u v=> ?_
   ·cases b
    ·exact al z
    ·exact cH z
   ·simpa using hpl
   ·dsimp only;exact al (fin h' u v)
theorem a6x(a:af){Q1:af -> ak -> Prop}(h:Q1 (.ref s.heap.objs.size) {s with heap:=s.heap.push {cls:=.type "set",dict:=none,data:=.set #[] 0 (.fresh 0 0 (!(w.params.followText "set-order")))}}):
  codeAny (model prog w) A (.call (.builtin "set.__new__") ⟨[.type "set",a],[]⟩) (wants Q1 E) s:=by
 refine codeAny_of_tree (show wpAny _ A.in1 (do checkBuiltinCall "set.__new__" ⟨[.type "set",a],[]⟩;again (.builtin "set.__new__" ⟨[.type "set",a],[]⟩)) _ _ s from ?_)
 refine ae (wpAny_of_eq (PySem.F.newCall_set_1 a) (al ⟨plainId_quiet gP _,eU PySem.F.entry_set_new ?_⟩))
 rw [eV gP _];unfold d0.«set.__new__» Builtin.Frozenset.newClass
 have sb:=PySem.sub_set_self
 obtain⟨hp,g,d,tk,os⟩:=s;dsimp only
 wp_walk
 refine wpAny_askSetting (al ?_);dsimp only;simp only [newObj]
 exact ae (wpAny_alloc (al (al h)))
noncomputable def xt(l:List Str)(x:Str):List Str:=if x∈l then l else l++ [x]
def kg(xs:List Str):List Str:=xs.foldl xt []
theorem ajm(xs:List Str)(x:Str):kg (xs++ [x])=xt (kg xs) x:=by unfold kg;rw [List.foldl_append];rfl
theorem aed{l:List Str}{y:Str}:y∈xt l x ↔ y∈l\/y=x:=by
 unfold xt
 split
 ·constructor
  ·exact aM
  ·rintro (h|rfl)
   ·exact h
   ·assumption
 ·simp
theorem aqf{l:List Str}(h:l.Nodup):(xt l x).Nodup:=by
 unfold xt
 split
 ·exact h
 ·rename_i hx
  rw [ef]
  refine⟨h,by simp,fun a ha b hb=> ?_⟩
  rw [bF.mp hb]
  rintro rfl
  exact hx ha
theorem ap9(xs:List Str):(kg xs).Nodup/\(∀y,y∈kg xs ↔ y∈xs)/\(kg xs).length <=xs.length:=by
 have all: ∀(ys acc:List Str),acc.Nodup -> (ys.foldl xt acc).Nodup/\(∀y,y∈ys.foldl xt acc ↔ y∈acc\/y∈ys)/\(ys.foldl xt acc).length <=acc.length+ys.length:=by
  intro ys
  induction ys with
  |nil=> intro acc h;exact⟨h,by simp,ao _⟩
  | cons z r ih=>
   intro acc h
   obtain⟨h1,h2,h3⟩:=ih (xt acc z) (aqf h)
   refine⟨h1,fun y=> ?_,?_⟩
   ·rw [gx,h2,aed,aw]
    constructor
    ·rintro ((a|a)|a)
     ·exact .inl a
     ·exact .inr (.inl a)
     ·exact .inr (.inr a)
    ·rintro (a|a|a)
     ·exact .inl (.inl a)
     ·exact .inl (.inr a)
     ·exact .inr a
   ·rw [gx,av]
    have:(xt acc z).length <=acc.length+1:=by unfold xt;split <;> simp
    lia
 have h:=all xs [] List.nodup_nil
 refine⟨h.1,fun y=> ?_,?_⟩
 ·show y∈xs.foldl xt [] ↔ _
  simpa using h.2.1 y
 ·show (xs.foldl xt []).length <=_
  simpa using h.2.2
theorem ap3: ∀{xs:List Str},xs.Nodup -> kg xs=xs:=by
 intro xs h
 have all: ∀(ys acc:List Str),(acc++ys).Nodup -> ys.foldl xt acc=acc++ys:=by
  intro ys
  induction ys with
  |nil=> intro acc _;simp
  | cons z r ih=>
   intro acc hn
   have hz:z∉acc:=fun m=> by
    rw [ef]at hn
    exact hn.2.2 z m z aC rfl
   rw [gx,show xt acc z=acc++ [z] from by unfold xt;rw [if_neg hz],ih _ (by rw [cn];exact hn),cn]
   rfl
 have:=all xs [] (by simpa using h)
 simpa [kg] using this
section
variable{prog:aW}{w:aY}{A:bd}{R:Result -> ak -> Prop}{I:Addr}{wr fp:List Addr}{G:Array GenState -> Array GenState -> Prop}{n:Nat}{P:Nat -> af -> Prop}{St:Nat -> ak -> Prop}
theorem ali(W:WalksS prog w A.in1 I fp wr G n P St)(p:Addr)(hp:p∉fp)(xs:List Str)(hn:xs.length=n)(hval: ∀i v,P i v -> ∃x t,xs[i]?=some x/\v=.str x t)(hb:n+1 < b9):
  ∀(j i:Nat) (s:ak),i+j=n -> St i s -> xa prog w s.heap p (fun y=> decide (y∈kg (xs.take i))) (kg (xs.take i)).length ->
   (∀s',Moved (p::wr) G s s' -> xa prog w s'.heap p (fun y=> decide (y∈kg xs)) (kg xs).length -> R (.ok (.ret .none)) s') ->
   codeAny (model prog w) A (.builtin "set.update.loop" ⟨[.ref p,.ref I],[]⟩) R s:=by
 have hpw:p∉wr:=fun z=> hp (W.sub _ z)
 have up: ∀b∈wr,b∈p::wr:=fun b z=> az _ z
 have stays: ∀{s s':ak} {S:Str -> Bool} {m:Nat},Moved wr G s s' -> xa prog w s.heap p S m -> xa prog w s'.heap p S m:=fun mv z=> by
  obtain⟨o,es,ep,t,ho,q⟩:=z
  exact⟨o,es,ep,t,mv.heap p _ hpw ho,q⟩
 intro j
 induction j with
 |zero=>
  intro i s hij hst hS hR
  have ei:i=n:=by lia
  subst ei
  refine eU dR ?_
  rw [eV cA _]
  refine (show wpAny _ A.in1 (pyNext (.ref I)>>=_) _ _ s from ae (W.done s _ _ hst fun s' mv=> ?_))
  refine al (hR s' (mv.mono up) ?_)
  have:=stays mv hS
  rw [ej (dN hn)]at this
  exact this
 | succ j ih=>
  intro i s hij hst hS hR
  refine eU dR ?_
  rw [eV cA _]
  refine (show wpAny _ A.in1 (pyNext (.ref I)>>=_) _ _ s from ae (W.item i s _ _ (by lia) hst fun v s' hP hst' mv=> ?_))
  obtain⟨x,t,hx,rfl⟩:=hval i v hP
  show wpAny _ A.in1 (holding [eJ x t] (setAdd p (.str x t))>>=_) _ _ s'
  refine ae (bI ?_);unfold setAdd
  refine bI (ae ((strKind prog w).pyHash (k:=x) (by show eB x (.str x t)=true;simp [eB]) ?_))
  have few:(kg (xs.take i)).length <=i:=aQ (ap9 _).2.2 (by rw [cw];lia)
  refine a61 (s:={s' with toks:=s'.toks+1}) (show xa prog w s'.heap p _ _ from stays mv hS) (by lia) fun h' sb hS2=> ?_
  have et:xs.take (i+1)=xs.take i++ [x]:=by rw [List.take_add_one,hx];rfl
  have hS3:xa prog w h' p (fun y=> decide (y∈kg (xs.take (i+1)))) (kg (xs.take (i+1))).length:=by
   refine xa.congr hS2 (fun y=> ?_) ?_
   ·rw [et,ajm]
    by_cases h1:y∈kg (xs.take i)
    ·simp [h1,aed]
    ·by_cases h2:y=x
     ·simp [h1,h2,aed]
     ·simp [h1,h2,aed]
   ·rw [et,ajm]
    by_cases h1:x∈kg (xs.take i)
    ·rw [show xt (kg (xs.take i)) x=kg (xs.take i) from by unfold xt;rw [if_pos h1]];simp [h1]
    ·rw [show xt (kg (xs.take i)) x=kg (xs.take i)++ [x] from by unfold xt;rw [if_neg h1]];simp [h1]
  refine al ⟨plainId_quiet cA _,ih (i+1) _ (by lia) (W.frame _ s' _ _ hst' (gB _) fun b hbm o e=> ?_) hS3 fun s'' mv2 hS''=> ?_⟩
  ·rw [sb.2 b (fun z:b=p=> hp (by rw [←z];exact hbm))];exact e
  ·refine hR s'' (Moved.trans W.gtrans ((mv.mono up).then_heap (gB _) fun b o hbm e=> ?_) mv2) hS''
   rw [sb.2 b (fun z:b=p=> hbm (by rw [z];exact aC))];exact e
end
set_option maxHeartbeats 8000000 in
theorem amg{oc:Obj}(hh:A.handled=none)(hT:T="list"\/T="tuple")(ho:s.heap.get? a=some oc)(hc:oc.cls=.type T){its:Array af}(hd:oc.data=.seq its k)(xs:List Str)(hx:ju (xs.map V.str) its.toList)(hb:its.size+1 < b9)(h: ∀(h':Heap) (tk:Nat),xa prog w h' s.heap.objs.size (fun y=> decide (y∈kg xs)) (kg xs).length -> (∀b o,b < s.heap.objs.size -> s.heap.get? b=some o -> h'.get? b=some o) -> Q (.ref s.heap.objs.size) {s with heap:=h',toks:=tk}):
  wpAny (model prog w) A (call (.type "set") [.ref a]) Q E s:=by
 obtain⟨cm,mrest,m0⟩:=cQ.mro
 have m1:=cQ.made
 have m2:=cQ.sub
 refine wpAny_call (codeAny_of_tree (show wpAny _ _ (callAny (.type "set") _) _ _ _ from al ⟨Code.quiet_builtin _ (by decide+kernel),eU F.entry_type_call ?_⟩))
 rw [Around.under_plain (weight_type_call_type "set" [.ref a] []) rfl]
 have m3:=cQ.notType
 have m4:=cQ.canCreate
 have m5:=PySem.F.typeCall_set_1 (.ref a)
 repeat any_goals (first|assumption|wp_step)
 refine dO (a6x (.ref a) (E:=E) (Q1:=fun ob s1=> ∃led:Bool,led= !(w.params.followText "set-order")/\ob=.ref s.heap.objs.size/\s1={s with heap:=s.heap.push {cls:=.type "set",dict:=none,data:=.set #[] 0 (.fresh 0 0 led)}}) ⟨_,rfl,rfl,rfl⟩) fun r s1 hr=> ?_
 cases r with
 |error e=> exact hr
 | ok fl=>
  cases fl with
  | ret ob=>
   obtain⟨led,hled,rfl,rfl⟩:=hr
   have g0:(s.heap.push {cls:=.type "set",dict:=none,data:=.set #[] 0 (.fresh 0 0 led)}).get? s.heap.objs.size=some {cls:=.type "set",dict:=none,data:=.set #[] 0 (.fresh 0 0 led)}:=aB _ rfl
   have g1:Shared.TypeIs {s with heap:=s.heap.push {cls:=.type "set",dict:=none,data:=.set #[] 0 (.fresh 0 0 led)}} (.ref s.heap.objs.size) "set":=⟨_,g0,rfl⟩
   have m6:=cQ.init.lookup
   have m7:=cQ.init.bind (.ref s.heap.objs.size)
   repeat any_goals (first|assumption|wp_step)
   refine dO (codeAny_call_builtin (R:=wants (fun r s2=> r=.none/\ ∃h' tk,s2={s with heap:=h',toks:=tk}/\xa prog w h' s.heap.objs.size (fun y=> decide (y∈kg xs)) (kg xs).length/\
     (∀b o,b < s.heap.objs.size -> s.heap.get? b=some o -> h'.get? b=some o)) E) cQ.init.plain F.entry_set_init (check_set_init_1 g1 ?_)) fun r2 s2 hr2=> ?_
   ·have halt:a < s.heap.objs.size:=ay ho
    obtain⟨o1,o2,o3,o4⟩:=oc
    simp only at hc hd
    subst hc hd
    have g2:(s.heap.push {cls:=.type "set",dict:=none,data:=.set #[] 0 (.fresh 0 0 led)}).get? a=some {cls:=.type T,dict:=o2,data:=.seq its k,slots:=o4}:=ai _ ho
    have h3:A.in1.in1.in1.handled=none:=by simp [hh]
    have neI:a≠(s.heap.push {cls:=.type "set",dict:=none,data:=.set #[] 0 (.fresh 0 0 led)}).objs.size:=by
     rw [bf]
     exact aT (Nat.lt_succ_of_lt halt)
    have nf:s.heap.objs.size∉ [(s.heap.push {cls:=.type "set",dict:=none,data:=.set #[] 0 (.fresh 0 0 led)}).objs.size,a]:=by
     rw [bf]
     simp only [aw,bt,or_false,not_or]
     exact⟨aT (f7 _),fZ halt⟩
    have hlen:xs.length=its.size:=by
     have:=hx.length
     rw [aj]at this
     simpa using this
    have hval: ∀(i:Nat) (v:af),its[i]?=some v -> ∃x t,xs[i]?=some x/\v=.str x t:=fun i v hv=> by
     have hi:i < its.size:=(fN.mp hv).1
     have hxi:(xs.map V.str)[i]?=some (.str xs[i]):=by rw [aZ,aG (by lia)];rfl
     obtain⟨u,hu,ru⟩:=hx.get hxi
     rw [c9,hv]at hu
     cases hu
     obtain⟨t,e⟩:=(show∃t,v=eJ xs[i] t from ru)
     exact⟨xs[i],t,aG (by lia),e⟩
    have s0: ∀{o:Obj},xa prog w ((s.heap.push {cls:=.type "set",dict:=none,data:=.set #[] 0 (.fresh 0 0 led)}).push o) s.heap.objs.size (fun y=> decide (y∈kg (xs.take 0))) (kg (xs.take 0)).length:=fun {o}=> by
     exact⟨_,#[],0,_,ai _ g0,⟨rfl,rfl,rfl⟩,rfl,⟨fun e he=> by simp at he,fun k=> by simp [kg],by decide,rfl,rfl⟩,hled,fun z=> absurd rfl z⟩
    have fin: ∀(o:Obj) (s':ak),Moved [s.heap.objs.size,(s.heap.push {cls:=.type "set",dict:=none,data:=.set #[] 0 (.fresh 0 0 led)}).objs.size] (fun x y=> y=x) {s with heap:=(s.heap.push {cls:=.type "set",dict:=none,data:=.set #[] 0 (.fresh 0 0 led)}).push o} s' ->
      xa prog w s'.heap s.heap.objs.size (fun y=> decide (y∈kg xs)) (kg xs).length ->
      ∃h' tk,s'={s with heap:=h',toks:=tk}/\xa prog w h' s.heap.objs.size (fun y=> decide (y∈kg xs)) (kg xs).length/\(∀b o,b < s.heap.objs.size -> s.heap.get? b=some o -> h'.get? b=some o):=by
     intro o s' mv hS'
     obtain⟨h',ge,dr,tk',oz⟩:=s'
     have e1:ge=s.gens:=mv.gens
     have e2:dr=s.drawn:=mv.drawn
     have e3:oz=s.os:=mv.os
     subst e1 e2 e3
     refine⟨h',tk',rfl,hS',fun b o' hb' e=> mv.heap b o' ?_ (ai _ (ai _ e))⟩
     rw [bf]
     simp only [aw,bt,or_false,not_or]
     exact⟨aT hb',aT (Nat.lt_succ_of_lt hb')⟩
    rcases hT with rfl|rfl
    ·have n1:=PySem.F.sub_list_set
     have n2:=PySem.F.sub_list_frozenset
     have n3:(dj "list"==dj "dict")=false:=by decide
     have l1:(s.heap.push {cls:=.type "set",dict:=none,data:=.set #[] 0 (.fresh 0 0 led)}).IsList a its:=⟨_,g2,rfl,k,rfl⟩
     unfold d0.«set.__init__» noKeywords fx;generalize hPI:pyIter=PI
     wp_walk
     subst hPI
     refine c7 l1 (ae (wpAny_runValue ?_))
     refine ali ((Walks.list h3 _ a neI its).toS) s.heap.objs.size nf xs hlen hval hb its.size 0 _ (by lia) ⟨⟨_,aB _ rfl,rfl,rfl⟩,l1.push _⟩ s0 ?_
     intro s' mv hS'
     obtain⟨h',tk,rfl,z1,z2⟩:=fin _ s' mv hS'
     exact al (show wpAny _ _ (ret cx) _ _ _ from al ⟨rfl,h',tk,rfl,z1,z2⟩)
    ·have n1:=PySem.F.sub_tuple_set
     have n2:=PySem.F.sub_tuple_frozenset
     have n3:(dj "tuple"==dj "dict")=false:=by decide
     have l1:(s.heap.push {cls:=.type "set",dict:=none,data:=.set #[] 0 (.fresh 0 0 led)}).IsTuple a its:=⟨_,g2,rfl,k,rfl⟩
     unfold d0.«set.__init__» noKeywords fx;generalize hPI:pyIter=PI
     wp_walk
     subst hPI
     refine fG l1 (ae (wpAny_runValue ?_))
     refine ali ((Walks.tuple h3 _ a neI its).toS) s.heap.objs.size nf xs hlen hval hb its.size 0 _ (by lia) ⟨⟨_,aB _ rfl,rfl,rfl⟩,?_⟩ s0 ?_
     ·exact⟨_,ai _ g2,rfl,k,rfl⟩
     intro s' mv hS'
     obtain⟨h',tk,rfl,z1,z2⟩:=fin _ s' mv hS'
     exact al (show wpAny _ _ (ret cx) _ _ _ from al ⟨rfl,h',tk,rfl,z1,z2⟩)
   ·cases r2 with
    |error e=> exact hr2
    | ok f2=>
     cases f2 with
     |ret u=>
      obtain⟨rfl,h',tk,rfl,z1,z2⟩:=hr2
      repeat any_goals (first|assumption|wp_step)
      exact h h' tk z1 z2
     |next=> exact hr2.elim
     |brk=> exact hr2.elim
     |cont=> exact hr2.elim
  |next=> exact hr.elim
  |brk=> exact hr.elim
  |cont=> exact hr.elim
def am1(P:aW)(w:aY)(p:Addr)(xs:List Str):HO:=.ext fun h=> xa P w h p (fun y=> decide (y∈kg xs)) (kg xs).length
theorem ays{xs:List Str}(hS:xa P w h p (fun y=> decide (y∈kg xs)) (kg xs).length):qi P w H h p (am1 P w p xs):=by
 refine⟨hS,?_,fun h1 h2 z k=> ?_⟩
 ·obtain⟨o,_,_,_,e,_⟩:=hS
  exact⟨o,e⟩
 ·obtain⟨o,es,ep,t,e,q⟩:=z
  exact⟨o,es,ep,t,k o e,q⟩
theorem atu(hc:X.calm=true):xi X (.type "set") (fun vs H Q=> ∃a xs,vs=[.ref a]/\(SqL X.K H a (xs.map V.str)\/SqT X.K H a (xs.map V.str))/\xs.length < 4000/\ ∀p H',New H p (am1 X.prog X.w p xs) H' -> Q (.ref p) H'):=by
 intro pins s σ H vs us Q I r h
 obtain⟨a,xs,rfl,hS,hl,q⟩:=h
 obtain⟨u,rfl,ru⟩:=vals1 r
 cases ru
 have hh:=I.ok.hd hc
 have fin: ∀(h':Heap) (tk:Nat),xa X.prog X.w h' s.heap.objs.size (fun y=> decide (y∈kg xs)) (kg xs).length -> (∀b o,b < s.heap.objs.size -> s.heap.get? b=some o -> h'.get? b=some o) ->
   EP X pins σ Q (.ref s.heap.objs.size) {s with heap:=h',toks:=tk}:=fun h' tk z k=>
  ⟨.ref s.heap.objs.size,upd H s.heap.objs.size (am1 X.prog X.w s.heap.objs.size xs),I.laid (fun b u e=> k b u (ay e) e) (ao _) (ays z),rfl,q _ _ ⟨I.fresh,rfl⟩⟩
 rcases hS with hS|hS
 ·obtain⟨its,rv,⟨o,n,e,c,dd,d⟩,z⟩:=I.list hS
  have hsz:its.toArray.size+1 < b9:=by
   have:=rv.length
   rw [aj]at this
   rw [au]
   unfold b9
   lia
  exact amg hh (.inl rfl) e c d xs (by simpa using rv) hsz fin
 ·obtain⟨its,rv,⟨o,e,c,n,d⟩,z⟩:=I.tuple hS
  have hsz:its.toArray.size+1 < b9:=by
   have:=rv.length
   rw [aj]at this
   rw [au]
   unfold b9
   lia
  exact amg hh (.inr rfl) e c d xs (by simpa using rv) hsz fin
theorem atd:xi X (.builtin "len") (fun vs H Q=> ∃a xs,vs=[.ref a]/\H a=some (am1 X.prog X.w a xs)/\Q (.int (kg xs).length) H):=by
 intro pins s σ H vs us Q I r h
 obtain⟨a,xs,rfl,hS,q⟩:=h
 obtain⟨u,rfl,ru⟩:=vals1 r
 cases ru
 obtain⟨hh,_,_⟩:=(show qi X.prog X.w H s.heap a (am1 X.prog X.w a xs) from I.hok a _ hS)
 obtain⟨o,es,ep,t,e,ex,d,⟨_,_,hb,hf,hn⟩,_⟩:=hh
 refine call_len_set e ex d hf (by unfold b9 at hb;lia) ⟨.int es.size,H,I.tok _,⟨_,rfl⟩,?_⟩
 rw [hn]
 exact q
def Nx(n:Nat)(Pv:Addr -> Nat -> List V -> Hp -> Prop)(D:Addr)(i:Nat)(ys:List V)(H:Hp):Prop:= ∃m',m' < n - i/\m'=n - (i+1)/\i+1 <=n/\ys.length <=i+1/\Pv D (i+1) ys H
theorem nx{Pv:Addr -> Nat -> List V -> Hp -> Prop}{D:Addr}(hi:i < n)(hl:ys.length <=i+1)(p:Pv D (i+1) ys H):Nx n Pv D i ys H:=⟨n - (i+1),by lia,rfl,hi,hl,p⟩
def ap4(K:ah)(mg:Str -> Option af)(x:Str)(vs:List V):Prop:= ∃a,mg x=some (.ref a)/\ ∀H,SqT K H a vs
theorem ass(hc:X.calm=true):xi X (.builtin "all") (fun vs H Q=> ∃(a:Addr) (bs:List Bool),vs=[.ref a]/\SqL X.K H a (bs.map V.bl)/\Q (.bl (bs.all id)) H):=by
 intro pins s σ H vs us Q I r h
 obtain⟨a,bs,rfl,hS,q⟩:=h
 obtain⟨u,rfl,ru⟩:=vals1 r
 cases ru
 have hh:X.A.in1.handled=none:=I.ok.hd hc
 obtain⟨its,rv,⟨o,n,e,c,dd,d⟩,z⟩:=I.list hS
 have l1:s.heap.IsList a its.toArray:=⟨o,e,c,n,d⟩
 have hl:=rv.length
 rw [aj]at hl
 refine call_all_walk (c7 l1 ⟨s.heap.objs.size,_,_,_,_,_,fun i=> bs.getD i true,rfl,Walks.list hh _ a (aT (ay e)) its.toArray,⟨⟨_,aB _ rfl,rfl,rfl⟩,l1.push _⟩,?_,fun h' tk k=> ?_⟩)
 ·intro i v s Q E hv hq
  have hi:i < bs.length:=by
   have:=(fN.mp hv).1
   rw [au]at this
   lia
  have e1:(bs.map V.bl)[i]?=some (.bl bs[i]):=by rw [aZ,aG hi];rfl
  obtain⟨u,hu,ru⟩:=rv.get e1
  rw [List.getElem?_toArray,hu]at hv
  obtain rfl:u=v:=bV hv
  obtain rfl:u=dX bs[i]:=ru
  have e3:bs.getD i true=bs[i]:=by rw [cE,aG hi];rfl
  refine b0 ?_
  rw [←e3];exact hq
 ·have ks: ∀b u,s.heap.get? b=some u -> h'.get? b=some u:=fun b u hb=> k b u (fun m=> absurd (ay hb) (by rw [bF.mp m];exact bZ _)) (ai _ hb)
  have e2:(dm its.toArray.size).all (fun i=> bs.getD i true)=bs.all id:=by
   rw [au,←hl]
   rw [bm]
   simp only [aH,gJ,id_eq]
   constructor
   ·intro h b hb
    (obtain⟨i,hi,rfl⟩:=List.getElem_of_mem hb)
    have:=h i hi
    rw [cE,aG hi]at this
    exact this
   ·intro h i hi
    (rw [cE,aG hi])
    exact h _ (eF hi)
  rw [e2]
  exact⟨.bl (bs.all id),H,I.un (Un.kept ks) (I.hok.kept ks),rfl,q⟩
theorem Inv.turnedL{h':Heap}{t':Nat}{ch:List Addr}(I:Inv X pins σ H s)(k: ∀b o,b∉ch -> s.heap.get? b=some o -> h'.get? b=some o)(hf: ∀b∈ch,ac3 X pins H b):Inv X pins σ H {s with heap:=h',toks:=t'}:=by
 have no: ∀b u,H b=some u -> b∉ch:=fun b u e m=> by rw [(hf b m).1]at e;cases e
 refine I.step (g':=s.gens) (d':=s.drawn) (ch:=ch) (fun b m=> ⟨(hf b m).2.2.2.1,(hf b m).2.1,(hf b m).2.2.2.2.1,(hf b m).2.2.2.2.2⟩) (fun b o _ _ hc e _=> k b o hc e) (fun b o _ _ hc e _=> ⟨o.slots,k b o hc e⟩) (fun _ _ _ _ n=> n)
  (fun b o hc e=> ⟨o,k b o hc e⟩) (fun _ _ e=> e) (fun _ _ _ e=> e) (fun b ps e=> ⟨#[],by rw [e];simp⟩) (fun m hm=> ?_) (fun b u e=> ?_) I.bare
 ·obtain⟨o,es,ep,ho,r⟩:=hm
  exact⟨o,es,ep,k _ o (fun z=> (hf _ z).2.1 rfl) ho,r⟩
 ·refine (I.hok b u e).stay (fun c v hc q=> k c v ?_ q) (fun _ q=> q) fun _ _ q=> q
  rcases hc with z|z
  ·rw [z];exact no b u e
  ·exact no c _ z
theorem a5g:aX "zip"=some (.type "zip"):=by decide+kernel
section
open HT
variable{prog:aW}{w:aY}{A:bd}{E:af -> ak -> Prop}{s:ak}
theorem ar0{t sl:Addr}{vl vu:af}{lo hi:Option Int}(ht:IsTup s.heap t items)(hs:s.heap.IsSliceOf sl vl vu .none)(pl:eh vl lo)(pu:eh vu hi)(hw:sIx items.size 0 lo=0/\sIx items.size items.size hi=items.size)(h:Q (.ref t) s):wpAny (model prog w) A (getItem (.ref t) (.ref sl)) Q E s:=by
 obtain⟨os,hos,hcs,hds⟩:=id hs
 have hTs:s.TypeIs (.ref sl) "slice":=⟨os,hos,hcs⟩
 unfold getItem
 try with_reducible refine bI ?_
 first|refine ae (al ?_)|skip
 refine ae (wpAny_sequenceKey ht.typeIs (by decide) (ae (bC (name:=bi "__getitem__") ht.typeIs bB
  (bM bB ht.typeIs h9 ?_ (args_tuple_getitem _ _)))))
 show wpAny _ _ (dw (.ref t)>>=_) _ _ s
 refine ae (tupleItemsOf_ ht (ae (ik hTs ?_)))
 rw [if_pos (by decide)]
 refine ae (acf hs pl pu ?_)
 have yes:(((sIx items.size 0 lo:Nat):Int)==0&&(1:Int)==1&&(sIx items.size items.size hi - sIx items.size 0 lo)==items.size)=true:=by
  rw [hw.1,hw.2];simp
 show wpAny _ _ (if (((sIx items.size 0 lo:Nat):Int)==0&&(1:Int)==1&&(sIx items.size items.size hi - sIx items.size 0 lo)==items.size)=true then _ else _) _ _ s
 rw [if_pos yes]
 unfold Builtin.Tuple.tupleIsExact
 refine ae (ae (ik ht.typeIs (al ?_)))
 rw [if_pos (by decide)]
 exact ae (cH (al ⟨_,rfl,al h⟩))
end
def a4c(K:ah):V -> Option Int -> Option Int -> Hp -> VK -> Prop:=fun x lo hi H Q=> ∃a xs,x=.ref a/\SqT K H a xs/\(y6 xs lo hi=xs -> Q (.ref a) H)/\ ∀p H',New H p (.tup (y6 xs lo hi)) H' -> Q (.ref p) H'
theorem az4:SlR X (a4c X.K):=by
 intro pins s σ H x v vl vu lo hi sl Q I rx hs pl pu h
 obtain⟨a,xs,rfl,hx,q1,q2⟩:=h
 by_cases c:HT.sIx xs.length 0 lo=0/\HT.sIx xs.length xs.length hi=xs.length
 ·cases rx
  obtain⟨its,r,ht,hz⟩:=I.tuple hx
  have hlen:its.toArray.size=xs.length:=by rw [au];exact r.length.symm
  refine⟨"tuple",_,bB.lookup,ht.typeIs,?_⟩
  refine ar0 ht hs pl pu (by rw [hlen];exact c) ⟨.ref a,H,I,rfl,q1 ?_⟩
  unfold y6
  rw [c.1,c.2];simp
 ·exact a0i pins s σ H (.ref a) v vl vu lo hi sl Q I rx hs pl pu ⟨a,xs,rfl,hx,c,q2⟩
noncomputable def a3r(K:ah):R2:=fun x y H Q=> ∃a b xs ys,x=.ref a/\y=.ref b/\SqT K H a xs/\SqT K H b ys/\xs.length+ys.length <=sizeLine/\(xs=[] -> Q (.ref b) H)/\(xs≠ [] -> ys=[] -> Q (.ref a) H)/\(xs≠ [] -> ys≠ [] -> ∀p H',New H p (.tup (xs++ys)) H' -> Q (.ref p) H')
theorem avj:OpR X (binaryOp .Add) (a3r X.K):=by
 intro pins s σ H x y v u Q I rx ry h
 obtain⟨a,b,xs,ys,rfl,rfl,ha,hb,hz,q0,q1,q2⟩:=h
 by_cases c:xs=[]
 ·cases rx
  cases ry
  obtain⟨its,r1,p1,_⟩:=I.tuple ha
  obtain⟨its2,r2,p2,_⟩:=I.tuple hb
  have e0:its=[]:=r1.nil_iff.mpr c
  subst e0
  obtain⟨⟨cls,dd,data,sl⟩,ho,hc,n,hd⟩:=id p1
  obtain⟨⟨cls2,dd2,data2,sl2⟩,ho2,hc2,n2,hd2⟩:=id p2
  simp only at hc hd hc2 hd2
  subst hc hd hc2 hd2
  exact ij ⟨_,ho,rfl⟩ ⟨_,ho2,rfl⟩ f9 hW eg d5 (dP _ _) (tuple_addW0 a b _ _ n n2 dd dd2 sl sl2 (by simp)) ⟨ho,ho2,⟨.ref b,H,I,rfl,q0 c⟩⟩
 ·exact axq pins s σ H (.ref a) (.ref b) v u Q I rx ry ⟨a,b,xs,ys,rfl,rfl,ha,hb,c,hz,q1 c,fun d p hp=> q2 c d p _ ⟨hp,rfl⟩⟩
noncomputable def b01(b:Bool):Int:=if b=true then 1 else 0
def aur:V -> Option Int
 |.int i=> some i
 |.bl b=> some (b01 b)
 |_=> none
theorem azy:OpR X (binaryOp .Add) (fun x y H Q=> ∃i j,aur x=some i/\y=.int j/\Q (.int (i+j)) H):=by
 intro pins s σ H x y v u Q I rx ry h
 obtain⟨i,j,hx,rfl,q⟩:=h
 cases x with
 |int k=> cases hx;exact ar3 pins s σ H _ _ v u Q I rx ry ⟨_,j,rfl,rfl,q⟩
 |bl b=>
  cases hx
  cases rx
  obtain⟨t',rfl⟩:=ry
  exact PySem.IntBool.add_bool_int ⟨.int (b01 b+j),H,I.tok _,⟨_,rfl⟩,q⟩
 |_=> cases hx
theorem a02:OpR X (binaryOp .Sub) (fun x y H Q=> ∃i j,aur x=some i/\y=.int j/\Q (.int (i - j)) H):=by
 intro pins s σ H x y v u Q I rx ry h
 obtain⟨i,j,hx,rfl,q⟩:=h
 cases x with
 |int k=> cases hx;exact alc pins s σ H _ _ v u Q I rx ry ⟨_,j,rfl,rfl,q⟩
 |bl b=>
  cases hx
  cases rx
  obtain⟨t',rfl⟩:=ry
  exact PySem.IntBool.sub_bool_int ⟨.int (b01 b - j),H,I.tok _,⟨_,rfl⟩,q⟩
 |_=> cases hx
theorem azo:OpR X (binaryOp .Sub) (fun x y H Q=> ∃i j,x=.int i/\aur y=some j/\Q (.int (i - j)) H):=by
 intro pins s σ H x y v u Q I rx ry h
 obtain⟨i,j,rfl,hy,q⟩:=h
 cases y with
 |int k=> cases hy;exact alc pins s σ H _ _ v u Q I rx ry ⟨i,_,rfl,rfl,q⟩
 |bl b=>
  cases hy
  cases ry
  obtain⟨t',rfl⟩:=rx
  exact PySem.IntBool.sub_int_bool ⟨.int (i - b01 b),H,I.tok _,⟨_,rfl⟩,q⟩
 |_=> cases hy
theorem part_of{v:af}{o:Option Int}(p:eh v o): ∃q:Option (Int×Tok),v=partValue q/\q.map (·.1)=o:=by
 cases p with
 |none=> exact⟨none,rfl,rfl⟩
 |int i t=> exact⟨some (i,t),rfl,rfl⟩
end L2
namespace L2
open PySem PySem.Spec PyProof.Rows PyProof.Rows.KTD
structure TabF (K:ah) (d:Addr) (D:List (Str×Str)):Prop where
 tab: ∀h:Heap,K.In h -> TabOf (fun y v=> a8 K aI y=some (some v)) h d D
 refs: ∀k y,datumAt k D=some y -> ∃f:Addr,a8 K aI y=some (some (.ref f))
def a60(X:Cx)(f:Addr)(vs:List V)(H:Hp)(Q:VK):Prop:= ∀(pins:List (Addr×Obj)) (σ:St) (s:ak) (us:List af),Inv X pins σ H s -> ju vs us -> wpAny (model X.prog X.w) X.A (call (.ref f) us) (EP X pins σ Q) X.xe s
end L2
namespace PF
open PySem PySem.Spec
open L2
inductive D where
 |da (d:ag)|con (ds:List ag)|frz (ds:List ag)|set (ds:List ag)
 |ref (n:Nat)|fn (x:Str)|tabF (T:List (Str×Str))|ty (n:String)
abbrev D.non:D:=.da .none
abbrev D.bl(b:Bool):D:=.da (.bool b)
abbrev D.int(i:Int):D:=.da (.int i)
abbrev D.str(x:Str):D:=.da (.str x)
abbrev D.tup(ds:List ag):D:=.da (.tuple ds)
abbrev D.lst(ds:List ag):D:=.da (.list ds)
inductive O where
 |lst (ds:List D)|dct (kvs:List (ag×D))|set (ds:List D)|ins (C:Str) (fs:List (Str×D))|exc (C:Str) (fs:List (Str×D))|gone
abbrev S:=List O
inductive R (α:Type) where
 |ok (a:α) (s:S)
 |bad
noncomputable def R.bind{α β:Type}(r:R α)(f:α -> S -> R β):R β:=match r with
 |.ok a s=> f a s
 |.bad=>.bad
theorem R.bind_ok{α β:Type}(a:α)(s:S)(f:α -> S -> R β):(R.ok a s).bind f=f a s:=rfl
def R.W{α:Type}(r:R α)(Q:α -> S -> Prop):Prop:=match r with
 |.ok a s=> Q a s
 |.bad=> False
theorem R.W_ok{α:Type}(a:α)(s:S)(Q:α -> S -> Prop):(R.ok a s).W Q=Q a s:=rfl
theorem R.W_bind{α β:Type}(r:R α)(f:α -> S -> R β)(Q:β -> S -> Prop):(r.bind f).W Q=r.W fun a s=> (f a s).W Q:=by cases r <;> rfl
theorem R.W_mono{α:Type}{r:R α}{Q Q':α -> S -> Prop}(h:r.W Q)(k: ∀a s,Q a s -> Q' a s):r.W Q':=by
 cases r with
 |ok a s=> exact k a s h
 |bad=> exact h
structure As where
 ix:List (Option Addr)
 hd:List Addr
def As.has(as:As)(p:Addr):Prop:=some p∈as.ix\/p∈as.hd
abbrev As.add(as:As)(p:Addr):As:={as with ix:=as.ix++ [some p]}
abbrev As.cut(as:As)(n:Nat):As:={as with ix:=as.ix.set n none}
abbrev As.hide(as:As)(p:Addr):As:={as with hd:=p::as.hd}
abbrev As.show(as:As)(p:Addr):As:={as with hd:=as.hd.filter fun q=> decide (q≠p)}
structure Step0 (as:As) (H:Hp) (as':As) (H':Hp):Prop where
 len:as.ix.length <=as'.ix.length
 old: ∀n:Nat,n < as.ix.length -> as'.ix[n]?=as.ix[n]?\/as'.ix[n]?=some none
 back: ∀p,as'.has p -> as.has p\/H p=none
 keep: ∀b o,¬as.has b -> H b=some o -> H' b=some o
 dom: ∀b,H b≠none -> H' b≠none
structure Step (as:As) (H:Hp) (as':As) (H':Hp):Prop extends Step0 as H as' H' where
 hk: ∀p∈as.hd,p∈as'.hd
 hh: ∀p∈as.hd,∀o,H p=some o -> H' p=some o
theorem Step.refl(as:As)(H:Hp):Step as H as H where
 len:=ao _
 old _ _:=.inl rfl
 back _ h:=.inl h
 keep _ _ _ e:=e
 dom _ e:=e
 hk _ h:=h
 hh _ _ _ e:=e
theorem vp{as:As}:some p∈as.ix ↔ ∃n:Nat,as.ix[n]?=some (some p):=by
 rw [List.mem_iff_getElem?]
theorem Step0.out{as as':As}(st:Step0 as H as' H'){b:Addr}(n: ¬as.has b)(e:H b=some o): ¬as'.has b:=fun m=> by
 rcases st.back b m with q|q
 ·exact n q
 ·rw [e]at q;cases q
theorem Step0.trans{as as1 as2:As}{H1 H2:Hp}(a:Step0 as H as1 H1)(b:Step0 as1 H1 as2 H2):Step0 as H as2 H2 where
 len:=aQ a.len b.len
 old n hn:=by
  rcases b.old n (aD hn a.len) with q|q
  ·rw [q];exact a.old n hn
  ·exact .inr q
 back p h:=by
  rcases b.back p h with q|q
  ·exact a.back p q
  ·right
   cases z:H p with
   |none=> rfl
   |some o=> exact absurd q (a.dom p (by rw [z];simp))
 keep b' o n e:=b.keep b' o (a.out n e) (a.keep b' o n e)
 dom b' e:=b.dom b' (a.dom b' e)
theorem Step.trans{as as1 as2:As}{H1 H2:Hp}(a:Step as H as1 H1)(b:Step as1 H1 as2 H2):Step as H as2 H2:=⟨a.toStep0.trans b.toStep0,fun p h=> b.hk p (a.hk p h),fun p h o e=> b.hh p (a.hk p h) o (a.hh p h o e)⟩
mutual
inductive TD (as:As) (H:Hp):V -> ag -> Prop
 |non:TD as H .non .none
 |bl (b:Bool):TD as H (.bl b) (.bool b)
 |int (i:Int):TD as H (.int i) (.int i)
 |str (x:Str):TD as H (.str x) (.str x)
 |tup {p:Addr} {xs:List V} {ds:List ag}: ¬as.has p -> H p=some (.tup xs) -> TDs as H xs ds -> TD as H (.ref p) (.tuple ds)
 |lst {p:Addr} {xs:List V} {ds:List ag}: ¬as.has p -> H p=some (.lst xs) -> TDs as H xs ds -> TD as H (.ref p) (.list ds)
 |dct {p:Addr}: ¬as.has p -> H p=some (.dK []) -> TD as H (.ref p) (.dict [])
 |dc1 {p:Addr} {i:Int} {v:V} {d:ag}: ¬as.has p -> H p=some (.dK [(.inl i,v)]) -> TD as H v d -> TD as H (.ref p) (.dict [(.int i,d)])
inductive TDs (as:As) (H:Hp):List V -> List ag -> Prop
 |nil:TDs as H [] []
 |cons {x:V} {xs:List V} {d:ag} {ds:List ag}:TD as H x d -> TDs as H xs ds -> TDs as H (x::xs) (d::ds)
end
inductive RD (K:ah) (as:As) (H:Hp):V -> D -> Prop
 |da {v:V} {d:ag}:TD as H v d -> RD K as H v (.da d)
 |ty (n:String):RD K as H (.ty n) (.ty n)
 |fn {f:Addr} {x:Str}:a8 K aI x=some (some (.ref f)) -> RD K as H (.ref f) (.fn x)
 |tabF {d:Addr} {T:List (Str×Str)}:TabF K d T -> RD K as H (.ref d) (.tabF T)
 |con {p:Addr} {xs:List V} {ds:List ag}:(∀H',SqT K H' p xs) -> TDs as H xs ds -> RD K as H (.ref p) (.con ds)
 |frz {p:Addr} {xs:List V} {ds:List ag}:(∀as' H',Step0 as H as' H' -> SqL K H' p xs) -> TDs as H xs ds -> RD K as H (.ref p) (.frz ds)
 |ref {p:Addr} {n:Nat}:n < as.ix.length -> (∀q,as.ix[n]?=some (some q) -> q=p) -> RD K as H (.ref p) (.ref n)
inductive RDs (K:ah) (as:As) (H:Hp):List V -> List D -> Prop
 |nil:RDs K as H [] []
 |cons {x:V} {xs:List V} {d:D} {ds:List D}:RD K as H x d -> RDs K as H xs ds -> RDs K as H (x::xs) (d::ds)
noncomputable def kP:Key -> ag
 |.inl i=>.int i
 |.inr x=>.str x
def isT:ag -> Bool
 |.tuple xs=> ahk (.tuple xs)
 |_=> false
inductive DRs (K:ah) (as:As) (H:Hp):List (ag×V) -> List (ag×D) -> Prop
 |nil:DRs K as H [] []
 |cons {k:ag} {v:V} {d:D} {l:List (ag×V)} {kvs:List (ag×D)}:RD K as H v d -> DRs K as H l kvs -> DRs K as H ((k,v)::l) ((k,d)::kvs)
inductive FRs (K:ah) (as:As) (H:Hp):List (Str×V) -> List (Str×D) -> Prop
 |nil:FRs K as H [] []
 |cons {f:Str} {v:V} {d:D} {l:List (Str×V)} {fs:List (Str×D)}:RD K as H v d -> FRs K as H l fs -> FRs K as H ((f,v)::l) ((f,d)::fs)
def pvK(l:List (Key×V)):List (ag×V):=l.map fun e=> (kP e.1,e.2)
def RO(K:ah)(as:As)(H:Hp)(p:Addr):O -> Prop
 |.lst ds=> ∃xs,H p=some (.lst xs)/\RDs K as H xs ds
 |.dct kvs=> (∃l:List (Key×V),H p=some (.dK l)/\DRs K as H (pvK l) kvs)\/ ∃l:List (ag×V),(l≠ []/\(l.all fun e=> isT e.1)=true)/\H p=some (.dD l)/\DRs K as H l kvs
 |.ins C fs=> ∃(Ca dx:Addr) (gs:List (Str×V)),a8 K aI C=some (some (.ref Ca))/\H p=some (.ins Ca dx gs)/\FRs K as H gs fs
 |.exc C fs=> ∃(Ca:Addr) (gs:List (Str×V)),a8 K aI C=some (some (.ref Ca))/\H p=some (.exn Ca gs)/\FRs K as H gs fs
 |_=> False
structure Rel (K:ah) (as:As) (H:Hp) (s:S):Prop where
 len:as.ix.length=s.length
 nd: ∀(i j:Nat) (p:Addr),as.ix[i]?=some (some p) -> as.ix[j]?=some (some p) -> i=j
 ob: ∀(n:Nat) (p:Addr) (o:O),as.ix[n]?=some (some p) -> s[n]?=some o -> RO K as H p o
 li: ∀(n:Nat) (o:O),s[n]?=some o -> o≠ .gone -> ∃p,as.ix[n]?=some (some p)
 hs: ∀p∈as.hd,∃xs,H p=some (.lst xs)
 hx: ∀p∈as.hd,some p∉as.ix
mutual
theorem TD.mono0{as as':As}{H H':Hp}(st:Step0 as H as' H'): ∀{v:V} {d:ag},TD as H v d -> TD as' H' v d
 |_,_,.non=>.non
 |_,_,.bl b=>.bl b
 |_,_,.int i=>.int i
 |_,_,.str x=>.str x
 |_,_,.tup n e r=>.tup (st.out n e) (st.keep _ _ n e) (TDs.mono0 st r)
 |_,_,.lst n e r=>.lst (st.out n e) (st.keep _ _ n e) (TDs.mono0 st r)
 |_,_,.dct n e=>.dct (st.out n e) (st.keep _ _ n e)
 |_,_,.dc1 n e t=>.dc1 (st.out n e) (st.keep _ _ n e) (TD.mono0 st t)
theorem TDs.mono0{as as':As}{H H':Hp}(st:Step0 as H as' H'): ∀{vs:List V} {ds:List ag},TDs as H vs ds -> TDs as' H' vs ds
 |_,_,.nil=>.nil
 |_,_,.cons a r=>.cons (TD.mono0 st a) (TDs.mono0 st r)
end
theorem RD.mono0{as as':As}(st:Step0 as H as' H'){d:D}(h:RD K as H v d):RD K as' H' v d:=by
 cases h with
 |da t=> exact .da (t.mono0 st)
 |ty n=> exact .ty n
 |fn a=> exact .fn a
 |tabF a=> exact .tabF a
 |con h r=> exact .con h (r.mono0 st)
 |frz h r=> exact .frz (fun as' H' s2=> h as' H' (st.trans s2)) (r.mono0 st)
 |ref l h=>
  refine .ref (aD l st.len) fun q e=> ?_
  rcases st.old _ l with z|z
  ·rw [z]at e;exact h q e
  ·rw [z]at e;cases e
theorem RDs.mono0{K:ah}{as as':As}{H H':Hp}(st:Step0 as H as' H'): ∀{vs:List V} {ds:List D},RDs K as H vs ds -> RDs K as' H' vs ds
 |_,_,.nil=>.nil
 |_,_,.cons a r=>.cons (RD.mono0 st a) (RDs.mono0 st r)
theorem FRs.mono0{K:ah}{as as':As}{H H':Hp}(st:Step0 as H as' H'): ∀{l:List (Str×V)} {fs:List (Str×D)},FRs K as H l fs -> FRs K as' H' l fs
 |_,_,.nil=>.nil
 |_,_,.cons a r=>.cons (a.mono0 st) (FRs.mono0 st r)
theorem DRs.mono0{K:ah}{as as':As}{H H':Hp}(st:Step0 as H as' H'): ∀{l:List (ag×V)} {kvs:List (ag×D)},DRs K as H l kvs -> DRs K as' H' l kvs
 |_,_,.nil=>.nil
 |_,_,.cons a r=>.cons (RD.mono0 st a) (DRs.mono0 st r)
theorem TD.mono{as as':As}(st:Step as H as' H'){d:ag}(h:TD as H v d):TD as' H' v d:=h.mono0 st.toStep0
theorem TDs.mono{as as':As}(st:Step as H as' H'){v:List V}{d:List ag}(h:TDs as H v d):TDs as' H' v d:=h.mono0 st.toStep0
theorem RD.mono{as as':As}(st:Step as H as' H'){d:D}(h:RD K as H v d):RD K as' H' v d:=h.mono0 st.toStep0
theorem RDs.mono{as as':As}(st:Step as H as' H'){v:List V}{d:List D}(h:RDs K as H v d):RDs K as' H' v d:=h.mono0 st.toStep0
section
variable{K:ah}{as:As}{H:Hp}
theorem RDs.length: ∀{vs:List V} {ds:List D},RDs K as H vs ds -> vs.length=ds.length
 |_,_,.nil=> rfl
 |_,_,.cons _ r=> congrArg (· +1) (RDs.length r)
theorem RDs.append: ∀{vs ws:List V} {ds es:List D},RDs K as H vs ds -> RDs K as H ws es -> RDs K as H (vs++ws) (ds++es)
 |_,_,_,_,.nil,s=> s
 |_,_,_,_,.cons a r,s=>.cons a (RDs.append r s)
theorem RDs.get: ∀{vs:List V} {ds:List D} {i:Nat} {d:D},RDs K as H vs ds -> ds[i]?=some d -> ∃v,vs[i]?=some v/\RD K as H v d
 |_,_,_,_,.nil,e=> by simp at e
 |_,_,0,_,.cons a _,e=> by simp at e;subst e;exact⟨_,rfl,a⟩
 |_,_,i+1,d,.cons _ r,e=> by
  obtain⟨v,h1,h2⟩:=RDs.get (i:=i) (d:=d) r (by simpa using e)
  exact⟨v,by simpa using h1,h2⟩
theorem RDs.set: ∀{vs:List V} {ds:List D} (i:Nat) {v:V} {d:D},RD K as H v d -> RDs K as H vs ds -> RDs K as H (vs.set i v) (ds.set i d)
 |_,_,_,_,_,_,.nil=>.nil
 |_,_,0,_,_,r,.cons _ t=>.cons r t
 |_,_,i+1,_,_,r,.cons q t=>.cons q (RDs.set i r t)
theorem RDs.take: ∀{vs:List V} {ds:List D} (n:Nat),RDs K as H vs ds -> RDs K as H (vs.take n) (ds.take n)
 |_,_,0,_=>.nil
 |_,_,_+1,.nil=>.nil
 |_,_,n+1,.cons r t=>.cons r (RDs.take n t)
theorem RDs.drop: ∀{vs:List V} {ds:List D} (n:Nat),RDs K as H vs ds -> RDs K as H (vs.drop n) (ds.drop n)
 |_,_,0,r=> r
 |_,_,_+1,.nil=>.nil
 |_,_,n+1,.cons _ t=> RDs.drop n t
theorem RDs.eraseIdx: ∀{vs:List V} {ds:List D} (n:Nat),RDs K as H vs ds -> RDs K as H (vs.eraseIdx n) (ds.eraseIdx n)
 |_,_,_,.nil=>.nil
 |_,_,0,.cons _ t=> t
 |_,_,n+1,.cons r t=>.cons r (RDs.eraseIdx n t)
theorem RDs.dropLast{ds:List D}(r:RDs K as H vs ds):RDs K as H vs.dropLast ds.dropLast:=by
 rw [gQ,gQ,r.length];exact r.take _
end
section
variable{as:As}{H:Hp}
theorem TDs.length: ∀{vs:List V} {ds:List ag},TDs as H vs ds -> vs.length=ds.length
 |_,_,.nil=> rfl
 |_,_,.cons _ r=> congrArg (· +1) (TDs.length r)
theorem TDs.append: ∀{vs ws:List V} {ds es:List ag},TDs as H vs ds -> TDs as H ws es -> TDs as H (vs++ws) (ds++es)
 |_,_,_,_,.nil,s=> s
 |_,_,_,_,.cons a r,s=>.cons a (TDs.append r s)
theorem TDs.get: ∀{vs:List V} {ds:List ag} {i:Nat} {d:ag},TDs as H vs ds -> ds[i]?=some d -> ∃v,vs[i]?=some v/\TD as H v d
 |_,_,_,_,.nil,e=> by simp at e
 |_,_,0,_,.cons a _,e=> by simp at e;subst e;exact⟨_,rfl,a⟩
 |_,_,i+1,d,.cons _ r,e=> by
  obtain⟨v,h1,h2⟩:=TDs.get (i:=i) (d:=d) r (by simpa using e)
  exact⟨v,by simpa using h1,h2⟩
theorem TDs.take: ∀{vs:List V} {ds:List ag} (n:Nat),TDs as H vs ds -> TDs as H (vs.take n) (ds.take n)
 |_,_,0,_=>.nil
 |_,_,_+1,.nil=>.nil
 |_,_,n+1,.cons r t=>.cons r (TDs.take n t)
theorem TDs.drop: ∀{vs:List V} {ds:List ag} (n:Nat),TDs as H vs ds -> TDs as H (vs.drop n) (ds.drop n)
 |_,_,0,r=> r
 |_,_,_+1,.nil=>.nil
 |_,_,n+1,.cons _ t=> TDs.drop n t
end
theorem TDs.rd{K:ah}{as:As}{H:Hp}: ∀{vs:List V} {ds:List ag},TDs as H vs ds -> RDs K as H vs (ds.map D.da)
 |_,_,.nil=>.nil
 |_,_,.cons a r=>.cons (.da a) (TDs.rd r)
noncomputable def kd:List D -> Option (List ag)
 |[]=> some []
 |.da d::r=> match kd r with
  |some ds=> some (d::ds)
  |none=> none
 |_=> none
theorem qy: ∀ds:List ag,kd (ds.map D.da)=some ds
 |[]=> rfl
 |d::r=> by rw [aA,kd,qy r]
theorem zb: ∀{ds:List D} {xs:List ag},kd ds=some xs -> ds=xs.map D.da
 |[],xs,h=> by cases h;rfl
 |.da d::r,xs,h=> by
  rw [kd]at h
  cases q:kd r with
  |none=> rw [q]at h;cases h
  |some ys=> rw [q]at h;cases h;rw [zb q];rfl
 |.con _::_,_,h=> by cases h
 |.frz _::_,_,h=> by cases h
 |.set _::_,_,h=> by cases h
 |.ref _::_,_,h=> by cases h
 |.fn _::_,_,h=> by cases h
 |.tabF _::_,_,h=> by cases h
 |.ty _::_,_,h=> by cases h
theorem RDs.td{K:ah}{as:As}{H:Hp}: ∀{vs:List V} {ds:List ag},RDs K as H vs (ds.map D.da) -> TDs as H vs ds
 |_,[],h=> by cases h;exact .nil
 |_,d::r,h=> by
  cases h with
  |cons a b=> cases a with|da a=> exact .cons a (RDs.td b)
theorem aj1{b:Addr}(n:New H p o H')(e:H b≠none):H' b≠none:=by
 cases q:H b with
 |none=> exact absurd q e
 |some u=> rw [n.keep q];simp
theorem km{as:As}(n:New H p o H'):Step as H as H' where
 len:=ao _
 old _ _:=.inl rfl
 back _ h:=.inl h
 keep _ _ _ e:=n.keep e
 dom _ e:=aj1 n e
 hk _ h:=h
 hh _ _ _ e:=n.keep e
theorem xq{α:Type}{l:List α}{x y:α}(e:(l++ [x])[i]?=some y):(i < l.length/\l[i]?=some y)\/(i=l.length/\y=x):=by
 by_cases h:i < l.length
 ·rw [aR h]at e;exact .inl ⟨h,e⟩
 ·have h2:i - l.length=0\/1 <=i - l.length:=by lia
  rw [bq (bN h)]at e
  rcases h2 with z|z
  ·rw [z]at e
   simp at e
   exact .inr ⟨by lia,e.symm⟩
  ·rw [List.getElem?_eq_none_iff.mpr (by simpa using z)]at e
   cases e
theorem ao2{as:As}{q:Addr}(h:(as.add p).has q):as.has q\/q=p:=by
 rcases h with h|h
 ·rcases a7.mp h with z|z
  ·exact .inl (.inl z)
  ·exact .inr (by simpa using z)
 ·exact .inl (.inr h)
theorem ad0{as:As}(n:New H p o H'):Step as H (as.add p) H' where
 len:=by simp
 old i h:=.inl (aR h)
 back q h:=by
  rcases ao2 h with z|z
  ·exact .inl z
  ·subst z;exact .inr n.no
 keep _ _ _ e:=n.keep e
 dom _ e:=aj1 n e
 hk _ h:=h
 hh _ _ _ e:=n.keep e
theorem ab5{as:As}(m:as.has p)(c:Chg H p o H'):Step0 as H as H' where
 len:=ao _
 old _ _:=.inl rfl
 back _ h:=.inl h
 keep b u n e:=c.keep (fun z=> n (z▸m)) e
 dom b e:=by
  by_cases z:b=p
  ·subst z;rw [c.at];simp
  ·cases q:H b with
   |none=> exact absurd q e
   |some u=> rw [c.keep z q];simp
theorem an3{as:As}(m:some p∈as.ix)(nh:p∉as.hd)(c:Chg H p o H'):Step as H as H':=⟨ab5 (.inl m) c,fun _ h=> h,fun q h u e=> c.keep (fun z=> nh (z▸h)) e⟩
theorem avg{as as2:As}{H1 H2:Hp}(st:Step as H as2 H1)(no:H p=none)(nh:p∉as.hd)(m:p∈as2.hd)(c:Chg H1 p o H2):Step as H as2 H2:=
 ⟨⟨st.len,st.old,st.back,fun b u n e=> c.keep (yb e no) (st.keep b u n e),fun b e=> (ab5 (.inr m) c).dom b (st.dom b e)⟩,st.hk,fun q h u e=> c.keep (fun z=> nh (z▸h)) (st.hh q h u e)⟩
theorem ai9{as:As}{q:Addr}(e:(as.cut n).ix[i]?=some (some q)):as.ix[i]?=some (some q):=by
 by_cases z:n=i
 ·subst z
  rw [cG]at e
  simp at e
 ·rw [am z]at e;exact e
theorem ahb{as:As}(n:Nat):Step as H (as.cut n) H where
 len:=by simp
 old i h:=by
  by_cases z:n=i
  ·subst z;right;simp [h]
  ·left;rw [am z]
 back p h:=by
  rcases h with h|h
  ·obtain⟨i,hi⟩:=vp.mp h
   exact .inl (.inl (vp.mpr ⟨i,ai9 hi⟩))
  ·exact .inl (.inr h)
 keep _ _ _ e:=e
 dom _ e:=e
 hk _ h:=h
 hh _ _ _ e:=e
theorem akb{as:As}(n:New H p o H'):Step as H (as.hide p) H' where
 len:=ao _
 old _ _:=.inl rfl
 back q h:=by
  rcases h with h|h
  ·exact .inl (.inl h)
  ·rcases aw.mp h with z|z
   ·subst z;exact .inr n.no
   ·exact .inl (.inr z)
 keep _ _ _ e:=n.keep e
 dom _ e:=aj1 n e
 hk _ h:=az _ h
 hh _ _ _ e:=n.keep e
theorem an6{as:As}{q:Addr}(h:(as.show p).has q):as.has q:=by
 rcases h with h|h
 ·exact .inl h
 ·exact .inr (bU.mp h).1
theorem afq{as:As}:Step0 as H (as.show p) H where
 len:=ao _
 old _ _:=.inl rfl
 back q h:=.inl (an6 h)
 keep _ _ _ e:=e
 dom _ e:=e
theorem afp{as:As}(m:p∈as.hd):Step0 as H ((as.show p).add p) H where
 len:=by simp
 old i h:=.inl (aR h)
 back q h:=by
  rcases ao2 h with z|z
  ·exact .inl (an6 z)
  ·subst z;exact .inl (.inr m)
 keep _ _ _ e:=e
 dom _ e:=e
theorem au9{as as2:As}{H2:Hp}(st:Step as H as2 H2)(nh:p∉as.hd)(st2:Step0 as2 H2 (as2.show p) H2):Step as H (as2.show p) H2:=
 ⟨st.toStep0.trans st2,fun q h=> bU.mpr ⟨st.hk q h,by
  have:q≠p:=fun z=> nh (z▸h)
  simp [this]⟩,st.hh⟩
theorem ar4{as as2:As}{H2:Hp}(st:Step as H as2 H2)(nh:p∉as.hd)(m:p∈as2.hd):Step as H ((as2.show p).add p) H2:=
 ⟨st.toStep0.trans (afp m),fun q h=> bU.mpr ⟨st.hk q h,by
  have:q≠p:=fun z=> nh (z▸h)
  simp [this]⟩,st.hh⟩
section
variable{K:ah}{as as':As}{H H':Hp}{s:S}{p:Addr}
theorem RO.mono0(st:Step0 as H as' H'){o:O}(e:H' p=H p)(h:RO K as H p o):RO K as' H' p o:=by
 cases o with
 |lst ds=>
  obtain⟨xs,e1,r⟩:=h
  exact⟨xs,e.trans e1,r.mono0 st⟩
 |dct kvs=>
  rcases h with ⟨l,e1,r⟩|⟨l,e0,e1,r⟩
  ·exact .inl ⟨l,e.trans e1,r.mono0 st⟩
  ·exact .inr ⟨l,e0,e.trans e1,r.mono0 st⟩
 |ins C fs=>
  obtain⟨Ca,dx,gs,e0,e1,r⟩:=h
  exact⟨Ca,dx,gs,e0,e.trans e1,r.mono0 st⟩
 |exc C fs=>
  obtain⟨Ca,gs,e0,e1,r⟩:=h
  exact⟨Ca,gs,e0,e.trans e1,r.mono0 st⟩
 |_=> exact h.elim
theorem RO.some{o:O}(h:RO K as H p o):H p≠none:=by
 cases o with
 |lst ds=>
  obtain⟨xs,e1,r⟩:=h
  rw [e1];simp
 |dct kvs=>
  rcases h with ⟨l,e1,r⟩|⟨l,e0,e1,r⟩ <;> (rw [e1];simp)
 |ins C fs=>
  obtain⟨Ca,dx,gs,e0,e1,r⟩:=h
  rw [e1];simp
 |exc C fs=>
  obtain⟨Ca,gs,e0,e1,r⟩:=h
  rw [e1];simp
 |_=> exact h.elim
theorem Rel.at(r:Rel K as H s)(e:as.ix[n]?=some (some p)):H p≠none:=by
 have hl:n < s.length:=by
  rw [←r.len]
  exact (aq.mp e).1
 exact (r.ob n p _ e (aG hl)).some
theorem Rel.has(r:Rel K as H s)(h:as.has p):H p≠none:=by
 rcases h with h|h
 ·obtain⟨i,hi⟩:=vp.mp h
  exact r.at hi
 ·obtain⟨xs,e⟩:=r.hs p h
  rw [e];simp
theorem adr{q:Addr}(k: ∀o,H q=some o -> H' q=some o)(h:H q≠none):H' q=H q:=by
 cases z:H q with
 |none=> exact absurd z h
 |some x=> rw [k x z]
theorem Rel.new(r:Rel K as H s)(n:New H p o H'):Rel K as H' s where
 len:=r.len
 nd:=r.nd
 ob i q u e1 e2:=(r.ob i q u e1 e2).mono0 (km n).toStep0 (adr (fun _=> n.keep) (r.at e1))
 li:=r.li
 hs q h:=let ⟨xs,e⟩:=r.hs q h;⟨xs,n.keep e⟩
 hx:=r.hx
theorem Rel.laid{u:O}(r:Rel K as H s)(n:New H p o H')(h:RO K (as.add p) H' p u):Rel K (as.add p) H' (s++ [u]) where
 len:=by simp [r.len]
 nd i j q e1 e2:=by
  rcases xq e1 with ⟨l1,z1⟩|⟨l1,z1⟩ <;> rcases xq e2 with ⟨l2,z2⟩|⟨l2,z2⟩
  ·exact r.nd i j q z1 z2
  ·cases z2;exact absurd n.no (r.at z1)
  ·cases z1;exact absurd n.no (r.at z2)
  ·rw [l1,l2]
 ob i q x e1 e2:=by
  rcases xq e1 with ⟨l1,z1⟩|⟨l1,z1⟩ <;> rcases xq e2 with ⟨l2,z2⟩|⟨l2,z2⟩
  ·exact (r.ob i q x z1 z2).mono0 (ad0 n).toStep0 (adr (fun _=> n.keep) (r.at z1))
  ·rw [l2,←r.len]at l1;exact absurd l1 (bZ _)
  ·rw [l1,r.len]at l2;exact absurd l2 (bZ _)
  ·cases z1;subst z2;exact h
 li i x e g:=by
  rcases xq e with ⟨l1,z1⟩|⟨l1,z1⟩
  ·obtain⟨q,hq⟩:=r.li i x z1 g
   exact⟨q,by rw [aR (by rw [r.len];exact l1)];exact hq⟩
  ·exact⟨p,by rw [l1,←r.len];simp⟩
 hs q h:=let ⟨xs,e⟩:=r.hs q h;⟨xs,n.keep e⟩
 hx q h m:=by
  rcases a7.mp m with z|z
  ·exact r.hx q h z
  ·have:q=p:=by simpa using z
   subst this
   obtain⟨xs,e⟩:=r.hs q h
   rw [n.no]at e;cases e
theorem Rel.chg{u:O}(r:Rel K as H s)(e:as.ix[n]?=some (some p))(c:Chg H p o H')(h:RO K as H' p u):Rel K as H' (s.set n u) where
 len:=by simp [r.len]
 nd:=r.nd
 ob i q x e1 e2:=by
  by_cases z:n=i
  ·subst z
   rw [e]at e1;cases e1
   have hl:n < s.length:=by rw [←r.len];exact (aq.mp e).1
   rw [aE hl]at e2
   cases e2;exact h
  ·rw [am z]at e2
   have ne:q≠p:=fun w=> z (r.nd n i p e (w▸e1))
   exact (r.ob i q x e1 e2).mono0 (ab5 (.inl (vp.mpr ⟨n,e⟩)) c) (adr (fun _=> c.keep ne) (r.at e1))
 li i x e2 g:=by
  by_cases z:n=i
  ·subst z;exact⟨p,e⟩
  ·rw [am z]at e2
   exact r.li i x e2 g
 hs q h:=let ⟨xs,e'⟩:=r.hs q h;⟨xs,c.keep (fun z=> r.hx q h (vp.mpr ⟨n,z▸e⟩)) e'⟩
 hx:=r.hx
theorem Rel.chgH(r:Rel K as H s)(m:p∈as.hd)(c:Chg H p (.lst ys) H'):Rel K as H' s where
 len:=r.len
 nd:=r.nd
 ob i q x e1 e2:=by
  have ne:q≠p:=fun w=> r.hx p m (vp.mpr ⟨i,w▸e1⟩)
  exact (r.ob i q x e1 e2).mono0 (ab5 (.inr m) c) (adr (fun _=> c.keep ne) (r.at e1))
 li:=r.li
 hs q h:=by
  by_cases z:q=p
  ·subst z;exact⟨ys,c.at⟩
  ·obtain⟨xs,e⟩:=r.hs q h
   exact⟨xs,c.keep z e⟩
 hx:=r.hx
theorem Rel.hide(r:Rel K as H s)(n:New H p (.lst ys) H'):Rel K (as.hide p) H' s where
 len:=r.len
 nd:=r.nd
 ob i q u e1 e2:=(r.ob i q u e1 e2).mono0 (akb n).toStep0 (adr (fun _=> n.keep) (r.at e1))
 li:=r.li
 hs q h:=by
  rcases aw.mp h with z|z
  ·subst z;exact⟨ys,n.at⟩
  ·obtain⟨xs,e⟩:=r.hs q z
   exact⟨xs,n.keep e⟩
 hx q h m:=by
  rcases aw.mp h with z|z
  ·subst z
   obtain⟨i,hi⟩:=vp.mp m
   exact r.at hi n.no
  ·exact r.hx q z m
theorem Rel.show(r:Rel K as H s):Rel K (as.show p) H s where
 len:=r.len
 nd:=r.nd
 ob i q u e1 e2:=(r.ob i q u e1 e2).mono0 afq rfl
 li:=r.li
 hs q h:=r.hs q (bU.mp h).1
 hx q h:=r.hx q (bU.mp h).1
theorem Rel.take{u:O}(r:Rel K as H s)(m:p∈as.hd)(h:RO K ((as.show p).add p) H p u):Rel K ((as.show p).add p) H (s++ [u]) where
 len:=by simp [r.len]
 nd i j q e1 e2:=by
  rcases xq e1 with ⟨l1,z1⟩|⟨l1,z1⟩ <;> rcases xq e2 with ⟨l2,z2⟩|⟨l2,z2⟩
  ·exact r.nd i j q z1 z2
  ·cases z2;exact absurd (vp.mpr ⟨i,z1⟩) (r.hx p m)
  ·cases z1;exact absurd (vp.mpr ⟨j,z2⟩) (r.hx p m)
  ·rw [l1,l2]
 ob i q x e1 e2:=by
  rcases xq e1 with ⟨l1,z1⟩|⟨l1,z1⟩ <;> rcases xq e2 with ⟨l2,z2⟩|⟨l2,z2⟩
  ·exact (r.ob i q x z1 z2).mono0 (afp m) rfl
  ·rw [l2,←r.len]at l1;exact absurd l1 (bZ _)
  ·rw [l1]at l2
   have:as.ix.length < s.length:=l2
   rw [r.len]at this;exact absurd this (bZ _)
  ·cases z1;subst z2;exact h
 li i x e g:=by
  rcases xq e with ⟨l1,z1⟩|⟨l1,z1⟩
  ·obtain⟨q,hq⟩:=r.li i x z1 g
   exact⟨q,by rw [aR (by rw [r.len];exact l1)];exact hq⟩
  ·exact⟨p,by rw [l1,←r.len];simp⟩
 hs q h:=r.hs q (bU.mp h).1
 hx q h m2:=by
  obtain⟨h1,h2⟩:=bU.mp h
  rcases a7.mp m2 with z|z
  ·exact r.hx q h1 z
  ·have:q=p:=by simpa using z
   exact absurd this (of_decide_eq_true h2)
theorem Rel.frz(r:Rel K as H s):Rel K (as.cut n) H (s.set n .gone) where
 len:=by simp [r.len]
 nd i j q e1 e2:=by
  exact r.nd i j q (ai9 e1) (ai9 e2)
 ob i q x e1 e2:=by
  by_cases z:n=i
  ·subst z
   rw [cG]at e1
   simp at e1
  ·rw [am z]at e1 e2
   exact (r.ob i q x e1 e2).mono0 (ahb n).toStep0 rfl
 li i x e2 g:=by
  by_cases z:n=i
  ·subst z
   rw [cG]at e2
   simp at e2
   exact absurd e2.2.symm g
  ·rw [am z]at e2⊢
   exact r.li i x e2 g
 hs:=r.hs
 hx q h m:=by
  obtain⟨i,hi⟩:=vp.mp m
  by_cases z:n=i
  ·subst z
   rw [cG]at hi
   simp at hi
  ·rw [am z]at hi
   exact r.hx q h (vp.mpr ⟨i,hi⟩)
end
abbrev En:=List (Option D)
structure Envs (K:ah) (as:As) (H:Hp) (ρ:En) (σ:St):Prop where
 len:ρ.length=σ.length
 get: ∀(i:Nat) (d:D),ρ[i]?=some (some d) -> ∃v,σ[i]?=some (some v)/\RD K as H v d
theorem Envs.mono{as as':As}{ρ:En}(e:Envs K as H ρ σ)(st:Step as H as' H'):Envs K as' H' ρ σ:=⟨e.len,fun i d h=> let ⟨v,a,b⟩:=e.get i d h;⟨v,a,b.mono st⟩⟩
theorem Envs.set{as:As}{ρ:En}(e:Envs K as H ρ σ)(i:Nat){d:D}(r:RD K as H v d):Envs K as H (ρ.set i (some d)) (σ.set i (some v)):=by
 refine⟨by simp [e.len],fun j x h=> ?_⟩
 by_cases z:i=j
 ·subst z
  rw [cG]at h⊢
  by_cases hl:i < ρ.length
  ·simp [hl]at h
   subst h
   exact⟨v,by simp [←e.len,hl],r⟩
  ·simp [hl]at h
 ·rw [am z]at h⊢
  exact e.get j x h
def Dn{α β:Type}(K:ah)(rel:As -> Hp -> β -> α -> Prop)(as:As)(H:Hp)(r:R α)(Q:β -> Hp -> Prop):Prop:=match r with
 |.ok a s=> ∀b as' H',Step as H as' H' -> Rel K as' H' s -> rel as' H' b a -> Q b H'
 |.bad=> False
theorem Dn.step{α β:Type}{rel:As -> Hp -> β -> α -> Prop}{as as1:As}{H1:Hp}{r:R α}{Q:β -> Hp -> Prop}(h:Dn K rel as H r Q)(st:Step as H as1 H1):Dn K rel as1 H1 r Q:=by
 cases r with
 |ok a s=> exact fun b as' H' s2 rl rb=> h b as' H' (st.trans s2) rl rb
 |bad=> exact h
theorem Dn.bind{α β γ δ:Type}{r1:As -> Hp -> β -> α -> Prop}{r2:As -> Hp -> δ -> γ -> Prop}{as:As}{r:R α}{f:α -> S -> R γ}{Q:δ -> Hp -> Prop}{Q':β -> Hp -> Prop}(h:Dn K r2 as H (r.bind f) Q)(k: ∀a s as1 H1 b,Step as H as1 H1 -> Rel K as1 H1 s -> r1 as1 H1 b a -> Dn K r2 as1 H1 (f a s) Q -> Q' b H1):Dn K r1 as H r Q':=by
 cases r with
 |ok a s=> exact fun b as' H' st rl rb=> k a s as' H' b st rl rb (Dn.step (r:=f a s) h st)
 |bad=> exact h
theorem Dn.now{α β:Type}{rel:As -> Hp -> β -> α -> Prop}{as:As}{a:α}{s:S}{Q:β -> Hp -> Prop}{b:β}(h:Dn K rel as H (.ok a s) Q)(rl:Rel K as H s)(rb:rel as H b a):Q b H:=h b as H (Step.refl _ _) rl rb
abbrev rD(K:ah):As -> Hp -> V -> D -> Prop:=fun as H v d=> RD K as H v d
abbrev rB:As -> Hp -> Bool -> Bool -> Prop:=fun _ _ b a=> b=a
abbrev rL(K:ah):As -> Hp -> List V -> List D -> Prop:=fun as H v d=> RDs K as H v d
inductive Fl where
 |nx (ρ:En)|rt (d:D)|bk (ρ:En)|ct (ρ:En)
inductive FV where
 |nx (σ:St)|rt (v:V)|bk (σ:St)|ct (σ:St)
inductive rF (K:ah) (as:As) (H:Hp):FV -> Fl -> Prop
 |nx {σ:St} {ρ:En}:Envs K as H ρ σ -> rF K as H (.nx σ) (.nx ρ)
 |rt {v:V} {d:D}:RD K as H v d -> rF K as H (.rt v) (.rt d)
 |bk {σ:St} {ρ:En}:Envs K as H ρ σ -> rF K as H (.bk σ) (.bk ρ)
 |ct {σ:St} {ρ:En}:Envs K as H ρ σ -> rF K as H (.ct σ) (.ct ρ)
def aa1(D:Ends)(f:FV)(H:Hp):Prop:=match f with
 |.nx σ=> D.nx σ H
 |.rt v=> D.rt v H
 |.bk σ=> D.bk σ H
 |.ct σ=> D.ct σ H
abbrev FE:=En -> S -> R D
abbrev FT:=En -> S -> R Bool
abbrev FA:=En -> S -> R (List D)
abbrev FS:=En -> S -> R Fl
def yw(K:ah)(t:TE)(f:FE):Prop:= ∀as σ H ρ s Q,Rel K as H s -> Envs K as H ρ σ -> Dn K (rD K) as H (f ρ s) Q -> t σ H Q
def aby(K:ah)(t:TT)(f:FT):Prop:= ∀as σ H ρ s Q,Rel K as H s -> Envs K as H ρ σ -> Dn K rB as H (f ρ s) Q -> t σ H Q
def apj(K:ah)(t:TA)(f:FA):Prop:= ∀as σ H ρ s Q,Rel K as H s -> Envs K as H ρ σ -> Dn K (rL K) as H (f ρ s) Q -> t σ H Q
def alo(K:ah)(t:TS)(f:FS):Prop:= ∀as σ H ρ s D,Rel K as H s -> Envs K as H ρ σ -> Dn K (rF K) as H (f ρ s) (aa1 D) -> t D σ H
structure RE (X:Cx) (e:Expr) (f:FE):Prop where
 ex: ∃t,PE X e t/\yw X.K t f
structure RT (X:Cx) (e:Expr) (f:FT):Prop where
 ex: ∃t,PT X e t/\aby X.K t f
structure RW (X:Cx) (e:Expr) (f:FT):Prop where
 ex: ∃t,PW X e t/\aby X.K t f
structure RA (X:Cx) (es:List Expr) (f:FA):Prop where
 ex: ∃t,PA X es t/\apj X.K t f
structure RS (X:Cx) (st:Stmt) (f:FS):Prop where
 ex: ∃t,PS X st t/\alo X.K t f
structure RSs (X:Cx) (st:List Stmt) (f:FS):Prop where
 ex: ∃t,PSs X st t/\alo X.K t f
section
variable{X:Cx}{a b:Expr}{fa fb:FE}{pos:Pos}
noncomputable def jd(i:Nat):FE:=fun ρ s=> match ρ[i]? with
 |some (some d)=>.ok d s
 |_=>.bad
noncomputable def fC(d:D):FE:=fun _ s=>.ok d s
theorem azt(i:Nat):yw K (auv i) (jd i):=by
 intro as σ H ρ s Q rl en h
 unfold jd at h
 cases q:ρ[i]? with
 |none=> rw [q]at h;exact h.elim
 | some o=>
  cases o with
  |none=> rw [q]at h;exact h.elim
  |some d=>
   rw [q]at h
   obtain⟨v,e,r⟩:=en.get i d q
   exact⟨v,e,Dn.now h rl r⟩
theorem jc(i:Nat)(hN:X.N[i]?=some x:=by rfl)(hv:Vis X.env.scope x:=by first|exact aM rfl|exact cr (aM rfl)|exact cr (cr rfl))(hd:(x==("__debug__":Str))=false:=by decide)(hcd:(x==("__classdict__":Str))=false:=by decide):RE X (.Name x pos) (jd i):=⟨_,aro hN hv hd hcd,azt i⟩
theorem ag8{d:D}(r: ∀as H,RD K as H v d):yw K (tC v) (fC d):=fun as σ H ρ s Q rl en h=> Dn.now (K:=K) (rel:=rD K) h rl (r as H)
theorem jg{i j pos}:RE X (.Constant (.int i) j pos) (fC (.int i)):=⟨_,asv,ag8 fun _ _=>.da (.int i)⟩
theorem jv{x j pos}:RE X (.Constant (.str x) j pos) (fC (.str x)):=⟨_,arp,ag8 fun _ _=>.da (.str x)⟩
theorem vm{b j pos}:RE X (.Constant (.bool b) j pos) (fC (.bl b)):=⟨_,axf,ag8 fun _ _=>.da (.bl b)⟩
theorem adp{j pos}:RE X (.Constant .none j pos) (fC .non):=⟨_,asb,ag8 fun _ _=>.da .non⟩
theorem aj6{d:D}(r: ∀as H,RD X.K as H v d)(hm:X.mg x=some u)(rv:RelV v u)(hg:Gl X x:=by rfl)(hd:(x==("__debug__":Str))=false:=by decide):RE X (.Name x pos) (fC d):=⟨_,axx hg hm rv hd,ag8 r⟩
theorem aa4{n:String}(hm:X.mg x=none)(hv:aX x=some (.type n))(hg:Gl X x:=by rfl)(hn:x≠"__name__":=by decide)(hd:(x==("__debug__":Str))=false:=by decide):RE X (.Name x pos) (fC (.ty n)):=
 ⟨_,a04 (v:=.ty n) hg hm hv rfl hn hd,ag8 fun _ _=>.ty n⟩
def fOp(g:D -> D -> S -> R D)(fa fb:FE):FE:=fun ρ s=> (fa ρ s).bind fun x s1=> (fb ρ s1).bind fun y s2=> g x y s2
def amk(K:ah)(r:R2)(g:D -> D -> S -> R D):Prop:= ∀as H s x y dx dy Q,Rel K as H s -> RD K as H x dx -> RD K as H y dy -> Dn K (rD K) as H (g dx dy s) Q -> r x y H Q
theorem ahh{r:R2}{g:D -> D -> S -> R D}(hr:amk K r g)(ha:yw K ta fa)(hb:yw K tb fb):yw K (tOp r ta tb) (fOp g fa fb):=by
 intro as σ H ρ s Q rl en h
 refine ha as σ H ρ s _ rl en (Dn.bind h fun d1 s1 as1 H1 x st1 rl1 r1 h1=> ?_)
 refine hb as1 σ H1 ρ s1 _ rl1 (en.mono st1) (Dn.bind h1 fun d2 s2 as2 H2 y st2 rl2 r2 h2=> ?_)
 exact hr as2 H2 s2 x y d1 d2 Q rl2 (r1.mono st2) r2 h2
structure Op2 (X:Cx) (f:af -> af -> Sem af) (g:D -> D -> S -> R D):Prop where
 ex: ∃r,OpR X f r/\amk X.K r g
theorem j6{op:f6}{g:D -> D -> S -> R D}(o:Op2 X (binaryOp op) g)(ha:RE X a fa)(hb:RE X b fb):RE X (.BinOp a op b pos) (fOp g fa fb):=by
 obtain⟨r,ho,hr⟩:=o.ex
 obtain⟨ta,pa,ra⟩:=ha.ex
 obtain⟨tb,pb,rb⟩:=hb.ex
 exact⟨_,a58 ho pa pb,ahh hr ra rb⟩
theorem xw{g:D -> D -> S -> R D}(o:Op2 X (aN op) g)(ha:RE X a fa)(hb:RE X b fb)(hm:dz op b=false:=by first|exact asj _|with_unfolding_all rfl):RE X (.Compare a [op] [b] pos) (fOp g fa fb):=by
 obtain⟨r,ho,hr⟩:=o.ex
 obtain⟨ta,pa,ra⟩:=ha.ex
 obtain⟨tb,pb,rb⟩:=hb.ex
 exact⟨_,axt ho pa pb hm,ahh hr ra rb⟩
def jt(f:FE):FT:=fun ρ s=> (f ρ s).bind fun d s1=> match d with
 |.bl k=>.ok k s1
 |_=>.bad
theorem alp{t:TE}{f:FE}(h:yw K t f):aby K (aq7 t) (jt f):=by
 intro as σ H ρ s Q rl en q
 refine h as σ H ρ s _ rl en (Dn.bind q fun d1 s1 as1 H1 x st1 rl1 r1 h1=> ?_)
 cases r1 with
 |da t=>
  cases t with
  |bl k=> exact⟨k,rfl,Dn.now h1 rl1 rfl⟩
  |_=> exact h1.elim
 |_=> exact h1.elim
theorem jx{g:D -> D -> S -> R D}(o:Op2 X (aN op) g)(ha:RE X a fa)(hb:RE X b fb)(hm:dz op b=false:=by first|exact asj _|with_unfolding_all rfl):RT X (.Compare a [op] [b] pos) (jt (fOp g fa fb)):=by
 obtain⟨r,ho,hr⟩:=o.ex
 obtain⟨ta,pa,ra⟩:=ha.ex
 obtain⟨tb,pb,rb⟩:=hb.ex
 exact⟨_,a0h ho pa pb hm,alp (ahh hr ra rb)⟩
def yx(g g':D -> D -> S -> R D)(fa fb fc:FE):FE:=fun ρ s=> (fa ρ s).bind fun x s1=> (fb ρ s1).bind fun y s2=> (g x y s2).bind fun z s3=> match z with
 |.bl true=> (fc ρ s3).bind fun w s4=> g' y w s4
 |.bl false=>.ok (.bl false) s3
 |_=>.bad
theorem ak0{r r':R2}{g g':D -> D -> S -> R D}{tc:TE}{fc:FE}(hr:amk K r g)(hr':amk K r' g')(ha:yw K ta fa)(hb:yw K tb fb)(hc:yw K tc fc):yw K (am7 r r' ta tb tc) (yx g g' fa fb fc):=by
 intro as σ H ρ s Q rl en h
 refine ha as σ H ρ s _ rl en (Dn.bind h fun d1 s1 as1 H1 x st1 rl1 r1 h1=> ?_)
 refine hb as1 σ H1 ρ s1 _ rl1 (en.mono st1) (Dn.bind h1 fun d2 s2 as2 H2 y st2 rl2 r2 h2=> ?_)
 refine hr as2 H2 s2 x y d1 d2 _ rl2 (r1.mono st2) r2 (Dn.bind h2 fun d3 s3 as3 H3 z st3 rl3 r3 h3=> ?_)
 cases r3 with
 | da t=>
  cases t with
  | bl k=>
   cases k with
   |false=> exact⟨false,rfl,Dn.now h3 rl3 (.da (.bl false))⟩
   |true=>
    refine⟨true,rfl,?_⟩
    rw [if_pos rfl]
    refine hc as3 σ H3 ρ s3 _ rl3 (((en.mono st1).mono st2).mono st3) (Dn.bind h3 fun d4 s4 as4 H4 w st4 rl4 r4 h4=> ?_)
    exact hr' as4 H4 s4 y w d2 d4 Q rl4 ((r2.mono st3).mono st4) r4 h4
  |_=> exact h3.elim
 |_=> exact h3.elim
theorem an9{op':ip}{g g':D -> D -> S -> R D}{fc:FE}(o:Op2 X (aN op) g)(o':Op2 X (aN op') g')(ha:RE X a fa)(hb:RE X b fb)(hc:RE X c fc)(hm:ig [op,op'] [b,c]=false:=by with_unfolding_all rfl):RE X (.Compare a [op,op'] [b,c] pos) (yx g g' fa fb fc):=by
 obtain⟨r,ho,hr⟩:=o.ex
 obtain⟨r',ho',hr'⟩:=o'.ex
 obtain⟨ta,pa,ra⟩:=ha.ex
 obtain⟨tb,pb,rb⟩:=hb.ex
 obtain⟨tc,pc,rc⟩:=hc.ex
 exact⟨_,avz ho ho' pa pb pc hm,ak0 hr hr' ra rb rc⟩
theorem aeo{op':ip}{g g':D -> D -> S -> R D}{fc:FE}(o:Op2 X (aN op) g)(o':Op2 X (aN op') g')(ha:RE X a fa)(hb:RE X b fb)(hc:RE X c fc)(hm:ig [op,op'] [b,c]=false:=by with_unfolding_all rfl):RT X (.Compare a [op,op'] [b,c] pos) (jt (yx g g' fa fb fc)):=by
 obtain⟨r,ho,hr⟩:=o.ex
 obtain⟨r',ho',hr'⟩:=o'.ex
 obtain⟨ta,pa,ra⟩:=ha.ex
 obtain⟨tb,pb,rb⟩:=hb.ex
 obtain⟨tc,pc,rc⟩:=hc.ex
 exact⟨_,avv ho ho' pa pb pc hm,alp (ak0 hr hr' ra rb rc)⟩
def aao(f g:FT):FT:=fun ρ s=> (f ρ s).bind fun c s1=> if c=true then g ρ s1 else .ok false s1
def y9(f g:FT):FT:=fun ρ s=> (f ρ s).bind fun c s1=> if c=true then .ok true s1 else g ρ s1
def ku(f:FT):FT:=fun ρ s=> (f ρ s).bind fun c s1=>.ok (!c) s1
theorem ay5{t u:TT}{f g:FT}(h1:aby K t f)(h2:aby K u g):aby K (a1o t u) (aao f g):=by
 intro as σ H ρ s Q rl en h
 refine h1 as σ H ρ s _ rl en (Dn.bind h fun c s1 as1 H1 b st1 rl1 r1 q1=> ?_)
 have e1:b=c:=r1
 subst e1
 cases b with
 |true=> rw [if_pos rfl]at q1⊢;exact h2 as1 σ H1 ρ s1 Q rl1 (en.mono st1) q1
 |false=> rw [if_neg ax]at q1⊢;exact Dn.now q1 rl1 rfl
theorem a25{t u:TT}{f g:FT}(h1:aby K t f)(h2:aby K u g):aby K (tOr t u) (y9 f g):=by
 intro as σ H ρ s Q rl en h
 refine h1 as σ H ρ s _ rl en (Dn.bind h fun c s1 as1 H1 b st1 rl1 r1 q1=> ?_)
 have e1:b=c:=r1
 subst e1
 cases b with
 |false=> rw [if_neg ax]at q1⊢;exact h2 as1 σ H1 ρ s1 Q rl1 (en.mono st1) q1
 |true=> rw [if_pos rfl]at q1⊢;exact Dn.now q1 rl1 rfl
theorem a0c{t:TT}{f:FT}(h1:aby K t f):aby K (a1m t) (ku f):=by
 intro as σ H ρ s Q rl en h
 refine h1 as σ H ρ s _ rl en (Dn.bind h fun c s1 as1 H1 b st1 rl1 r1 q1=> ?_)
 have e1:b=c:=r1
 subst e1
 exact Dn.now q1 rl1 rfl
theorem RW.rt{f:FT}(h:RW X e f):RT X e f:=let ⟨t,p,r⟩:=h.ex;⟨t,p.pt,r⟩
theorem abo{f:FT}(h:RT X a f):RW X (.BoolOp .And [a] pos) f:=let ⟨t,p,r⟩:=h.ex;⟨t,ayx p,r⟩
theorem yp{f:FT}(h:RT X a f):RW X (.BoolOp .Or [a] pos) f:=let ⟨t,p,r⟩:=h.ex;⟨t,a2d p,r⟩
theorem adu{f g:FT}{jp:List Expr}(h:RT X a f)(k:RW X (.BoolOp .And (b::jp) pos) g):RW X (.BoolOp .And (a::b::jp) pos) (aao f g):=let ⟨t,p,r⟩:=h.ex;let ⟨t',p',r'⟩:=k.ex;⟨_,a1g p p',ay5 r r'⟩
theorem y4{f g:FT}{jp:List Expr}(h:RT X a f)(k:RW X (.BoolOp .Or (b::jp) pos) g):RW X (.BoolOp .Or (a::b::jp) pos) (y9 f g):=let ⟨t,p,r⟩:=h.ex;let ⟨t',p',r'⟩:=k.ex;⟨_,a5c p p',a25 r r'⟩
theorem kv{f:FT}(h:RT X a f):RT X (.UnaryOp .Not a pos) (ku f):=let ⟨t,p,r⟩:=h.ex;⟨_,a31 p,a0c r⟩
def abw(fa fb:FE):FE:=fun ρ s=> (fa ρ s).bind fun d s1=> match d with
 |.bl true=> fb ρ s1
 |.bl false=>.ok (.bl false) s1
 |_=>.bad
def fOr(fa fb:FE):FE:=fun ρ s=> (fa ρ s).bind fun d s1=> match d with
 |.bl false=> fb ρ s1
 |.bl true=>.ok (.bl true) s1
 |_=>.bad
theorem yy{op}(h:RE X a fa):RE X (.BoolOp op [a] pos) fa:=let ⟨t,p,r⟩:=h.ex;⟨_,a3j p,r⟩
theorem zq{jp:List Expr}(h:RE X a fa)(k:RE X (.BoolOp .And (b::jp) pos) fb):RE X (.BoolOp .And (a::b::jp) pos) (abw fa fb):=by
 obtain⟨ta,pa,ra⟩:=h.ex
 obtain⟨tb,pb,rb⟩:=k.ex
 refine⟨_,a2h pa pb,fun as σ H ρ s Q rl en h=> ?_⟩
 refine ra as σ H ρ s _ rl en (Dn.bind h fun d1 s1 as1 H1 x st1 rl1 r1 h1=> ?_)
 cases r1 with
 | da t=>
  cases t with
  |bl k=>
   refine⟨k,rfl,?_⟩
   cases k with
   |false=> rw [if_neg ax];exact Dn.now h1 rl1 (.da (.bl false))
   |true=> rw [if_pos rfl];exact rb as1 σ H1 ρ s1 Q rl1 (en.mono st1) h1
  |_=> exact h1.elim
 |_=> exact h1.elim
theorem a54{jp:List Expr}(h:RE X a fa)(k:RE X (.BoolOp .Or (b::jp) pos) fb):RE X (.BoolOp .Or (a::b::jp) pos) (fOr fa fb):=by
 obtain⟨ta,pa,ra⟩:=h.ex
 obtain⟨tb,pb,rb⟩:=k.ex
 refine⟨_,a5f pa pb,fun as σ H ρ s Q rl en h=> ?_⟩
 refine ra as σ H ρ s _ rl en (Dn.bind h fun d1 s1 as1 H1 x st1 rl1 r1 h1=> ?_)
 cases r1 with
 | da t=>
  cases t with
  |bl k=>
   refine⟨k,rfl,?_⟩
   cases k with
   |true=> rw [if_pos rfl];exact Dn.now h1 rl1 (.da (.bl true))
   |false=> rw [if_neg ax];exact rb as1 σ H1 ρ s1 Q rl1 (en.mono st1) h1
  |_=> exact h1.elim
 |_=> exact h1.elim
def fIf(c:FT)(fa fb:FE):FE:=fun ρ s=> (c ρ s).bind fun k s1=> if k=true then fa ρ s1 else fb ρ s1
theorem akp{fc:FT}(hc:RT X c fc)(ha:RE X a fa)(hb:RE X b fb):RE X (.IfExp c a b pos) (fIf fc fa fb):=by
 obtain⟨tc,pc,rc⟩:=hc.ex
 obtain⟨ta,pa,ra⟩:=ha.ex
 obtain⟨tb,pb,rb⟩:=hb.ex
 refine⟨_,aw4 pc pa pb,fun as σ H ρ s Q rl en h=> ?_⟩
 refine rc as σ H ρ s _ rl en (Dn.bind h fun d1 s1 as1 H1 x st1 rl1 r1 h1=> ?_)
 have e1:x=d1:=r1
 subst e1
 cases x with
 |true=> rw [if_pos rfl]at h1⊢;exact ra as1 σ H1 ρ s1 Q rl1 (en.mono st1) h1
 |false=> rw [if_neg ax]at h1⊢;exact rb as1 σ H1 ρ s1 Q rl1 (en.mono st1) h1
noncomputable def jf:FA:=fun _ s=>.ok [] s
def jb(f:FE)(g:FA):FA:=fun ρ s=> (f ρ s).bind fun x s1=> (g ρ s1).bind fun xs s2=>.ok (x::xs) s2
noncomputable def fVs(ds:List D):FA:=fun _ s=>.ok ds s
theorem je:RA X [] jf:=⟨_,amb,fun as σ H ρ s Q rl en h=> Dn.now h rl .nil⟩
theorem ja{f:FE}{g:FA}(h:RE X e f)(k:RA X es g)(hs:starEach (e::es) X.env=(false,eval e X.env)::starEach es X.env:=by rfl):RA X (e::es) (jb f g):=by
 obtain⟨t,p,r⟩:=h.ex
 obtain⟨t',p',r'⟩:=k.ex
 refine⟨_,aig p p' hs,fun as σ H ρ s Q rl en h=> ?_⟩
 refine r as σ H ρ s _ rl en (Dn.bind h fun d1 s1 as1 H1 x st1 rl1 r1 h1=> ?_)
 refine r' as1 σ H1 ρ s1 _ rl1 (en.mono st1) (Dn.bind h1 fun d2 s2 as2 H2 xs st2 rl2 r2 h2=> ?_)
 exact Dn.now h2 rl2 (.cons (r1.mono st2) r2)
noncomputable def aqe:Const -> Option ag
 |.str x=> some (.str x)
 |.int i=> some (.int i)
 |.bool b=> some (.bool b)
 |.none=> some .none
 |_=> none
def agc:List Expr -> Option (List ag)
 |[]=> some []
 | .Constant c _ _::r=> match aqe c with
  |some v=> match agc r with
   |some vs=> some (v::vs)
   |none=> none
  |none=> none
 |_=> none
noncomputable def pV:ag -> V
 |.none=>.non
 |.bool b=>.bl b
 |.int i=>.int i
 |.str x=>.str x
 |_=>.non
theorem a2q{c:Const}{d:ag}(h:aqe c=some d):alq c=some (pV d)/\ ∀as H,TD as H (pV d) d:=by
 cases c <;> simp [aqe]at h <;> subst h
 all_goals first
  |exact⟨rfl,fun _ _=>.str _⟩
  |exact⟨rfl,fun _ _=>.int _⟩
  |exact⟨rfl,fun _ _=>.bl _⟩
  |exact⟨rfl,fun _ _=>.non⟩
theorem anp: ∀{es:List Expr} {ds:List ag},agc es=some ds -> aei es=some (ds.map pV)/\ ∀as H,TDs as H (ds.map pV) ds
 |[],ds,h=> by cases h;exact⟨rfl,fun _ _=>.nil⟩
 | e ::es,ds,h=> by
  cases e with
  | Constant c j pos=>
   simp only [agc]at h
   cases h1:aqe c with
   |none=> (rw [h1]at h;cases h)
   | some v=>
    rw [h1]at h
    cases h2:agc es with
    |none=> rw [h2]at h;cases h
    |some ws=>
     rw [h2]at h
     cases h
     obtain⟨a1,a2⟩:=a2q h1
     obtain⟨b1,b2⟩:=anp h2
     exact⟨by simp only [aei,a1,b1,aA],fun as H=>.cons (a2 as H) (b2 as H)⟩
  |_=> simp [agc]at h
theorem xz{ds:List ag}(h:agc es=some ds):RA X es (fVs (ds.map D.da)):=by
 obtain⟨a,b⟩:=anp h
 exact⟨_,ak6 a,fun as σ H ρ s Q rl en h=> Dn.now h rl (b as H).rd⟩
def xg(m:Bool)(ds:List D)(s:S):R D:=if m=true then .ok (.ref s.length) (s++ [.lst ds]) else match kd ds with
 |some xs=>.ok (.lst xs) s
 |none=>.bad
def ah8(ds:List D)(s:S):R D:=match kd ds with
 |some xs=>.ok (.tup xs) s
 |none=>.bad
theorem abn{as:As}{s:S}{m:Bool}{ds:List D}{Q:VK}(h:Dn K (rD K) as H (xg m ds s) Q)(rl:Rel K as H s)(r:RDs K as H xs ds)(n:New H p (.lst xs) H'):Q (.ref p) H':=by
 unfold xg at h
 cases m with
 |true=>
  rw [if_pos rfl]at h
  refine h (.ref p) (as.add p) H' (ad0 n) (rl.laid n ⟨xs,n.at,r.mono (ad0 n)⟩) (.ref (by simp [rl.len]) fun q e=> ?_)
  rw [←rl.len]at e
  simp at e
  exact e.symm
 | false=>
  rw [if_neg ax]at h
  cases q:kd ds with
  |none=> rw [q]at h;exact h.elim
  |some ys=>
   rw [q]at h
   have e:=zb q
   subst e
   exact h (.ref p) as H' (km n) (rl.new n) (.da (.lst (fun z=> rl.has z n.no) n.at (r.td.mono (km n))))
theorem aok{as:As}{s:S}{ds:List D}{Q:VK}(h:Dn K (rD K) as H (ah8 ds s) Q)(rl:Rel K as H s)(r:RDs K as H xs ds)(n:New H p (.tup xs) H'):Q (.ref p) H':=by
 unfold ah8 at h
 cases q:kd ds with
 |none=> rw [q]at h;exact h.elim
 |some ys=>
  rw [q]at h
  have e:=zb q
  subst e
  exact h (.ref p) as H' (km n) (rl.new n) (.da (.tup (fun z=> rl.has z n.no) n.at (r.td.mono (km n))))
def kt(m:Bool)(f:FA):FE:=fun ρ s=> (f ρ s).bind fun ds s1=> if ds.length <=sizeLine then xg m ds s1 else .bad
def qv(f:FA):FE:=fun ρ s=> (f ρ s).bind fun ds s1=> if ds.length <=sizeLine then ah8 ds s1 else .bad
theorem kf{f:FA}(m:Bool)(h:RA X es f):RE X (.List es pos) (kt m f):=by
 obtain⟨t,p,r⟩:=h.ex
 refine⟨_,a0p p,fun as σ H ρ s Q rl en h=> ?_⟩
 refine r as σ H ρ s _ rl en (Dn.bind h fun ds s1 as1 H1 xs st1 rl1 r1 h1=> ?_)
 split at h1
 ·rename_i hz
  exact⟨by rw [r1.length];exact hz,fun p H' n=> abn h1 rl1 r1 n⟩
 ·exact h1.elim
theorem kl{f:FA}{x1:Nat}(h:RA X es f):RE X (.Tuple es x1 pos) (qv f):=by
 obtain⟨t,p,r⟩:=h.ex
 refine⟨_,az0 p,fun as σ H ρ s Q rl en h=> ?_⟩
 refine r as σ H ρ s _ rl en (Dn.bind h fun ds s1 as1 H1 xs st1 rl1 r1 h1=> ?_)
 split at h1
 ·rename_i hz
  exact⟨by rw [r1.length];exact hz,fun p H' n=> aok h1 rl1 r1 n⟩
 ·exact h1.elim
end
end PF
namespace L2
open PySem PySem.Spec PyProof.Rows
theorem ajb{it t:Addr}{items:Array af}(hne:t≠it): ∀(n i:Nat) (s:ak) (Q:List af -> ak -> Prop),s.heap.IsListIter it t i -> s.heap.IsList t items -> i+n <=items.size ->
  (∀h',h'.IsListIter it t (i+n) -> bh it s.heap h' -> Q ((items.toList.drop i).take n) {s with heap:=h'}) -> wpAny (model prog w) A (draw (.ref it) n) Q E s
 |0,i,s,Q,hit,_,_,hQ=> by --
  show wpAny _ _ (pure []) Q E s --
  (exact al (by simpa using hQ s.heap hit (bh.refl ..)))
 | n+1,i,s,Q,hit,ht,hle,hQ=> by --
  (have hlt:i < items.size:=by lia)
  show wpAny _ _ (pyNext (.ref it)>>=_) Q E s --
  refine ae (gz hit ht (x:=items[i]) (by simp [hlt]) fun h₁ hit₁ hs₁=> ?_)
  have ht₁:h₁.IsList t items:=by
   obtain⟨o,ho,c⟩:=ht
   exact⟨o,hs₁.extBut t o hne ho,c⟩
  refine ae (bI (ajb hne n (i+1) _ _ hit₁ ht₁ (by lia) fun h₂ hit₂ hs₂=> al ?_))
  (have hd:items.toList.drop i=items[i]::items.toList.drop (i+1):=by simp [dH,hlt])
  (have:=hQ h₂ (by rw [show i+(n+1)=i+1+n by lia];exact hit₂) (hs₁.trans hs₂))
  (rw [hd,List.take_succ_cons]at this)
  exact this
theorem ah4{t:Addr}{Q:List af -> ak -> Prop}(hh:A.handled=none)(ht:s.heap.IsList t items)(hQ: ∀h',ek s.heap.objs.size s.heap h' -> Q items.toList {s with heap:=h'}):wpAny (model prog w) A (unpackItems (.ref t) items.size none) Q E s:=by
 (have hlt:t≠s.heap.objs.size:=by obtain⟨o,ho,_⟩:=ht;exact aT (ay ho))
 have up: ∀h':Heap,ek s.heap.objs.size s.heap h' -> h'.IsList t items:=fun h' x=> by
  obtain⟨o,ho,c⟩:=ht
  exact⟨o,x t o hlt ho,c⟩
 unfold unpackItems
 refine ae ?_
 unfold notIterableAtAll
 refine ae (cU ht.typeIs slot_list_iter.lookup ?_)
 refine al ?_
 (simp only [cV,if_false])
 refine ae (bI (c7 ht ?_))
 refine ae (bI (ajb hlt items.size 0 _ _ ⟨_,aB _ rfl,rfl,rfl⟩ (up _ fun b o hb e=> ai _ e) (by lia) fun h₁ hit₁ hs₁=> ?_))
 have hall:List.take items.size (List.drop 0 items.toList)=items.toList:=by --
  (rw [gR];exact ej (by simp))
 rw [hall]
 rw [if_neg (by simp)]
 have x₁:ek s.heap.objs.size s.heap h₁:=fun b o hb e=> hs₁.extBut b o hb (ai _ e)
 refine ae (bI (gK hh (by simpa using hit₁) (up _ x₁) (by simp) fun h₂ he₂=> ?_))
 (simp only [Option.isSome_none,cV,if_false])
 refine al (hQ h₂ fun b o hb e=> he₂ b o hb (x₁ b o hb e))
theorem age{elts:List Expr}{x1}{t:Addr}{Q:Unit -> ak -> Prop}(hh:A.handled=none)(ht:s.heap.IsList t items)(hn:(a6 elts env).length=items.size)(hstar:(a6 elts env).findIdx? (·.1)=none) --
  (h: ∀h',ek s.heap.objs.size s.heap h' -> wpAny (model prog w) A (assignInOrder ((a6 elts env).map (·.2)) items.toList) Q E {s with heap:=h'}):
  wpAny (model prog w) A (assign (.Tuple elts x1 pos) env (.ref t)) Q E s:=by --
 rw [assign_Tuple]
 refine ae (fL ?_)
 unfold unpack
 rw [hn,hstar]
 exact ae (bI (ah4 hh ht h))
noncomputable def akw(K:ah)(n:Nat)(t:TGs):TG:=fun v σ H Q=> ∃a xs,v=.ref a/\(SqT K H a xs\/SqL K H a xs)/\xs.length=n/\t xs σ H Q
theorem ans{t:TGs}(hc:X.calm=true)(h:PGs X es t)(hn:(a6 es X.env).length=n:=by rfl)(hst:(a6 es X.env).findIdx? (·.1)=none:=by rfl):PG X (.Tuple es k pos) (akw X.K n t):=by
 intro pins s σ H v u Q I r hw
 obtain⟨a,xs,e1,hq,hl,hw⟩:=hw
 rcases hq with hq|hq
 ·exact a1h hc h hn hst pins s σ H v u Q I r ⟨a,xs,e1,hq,hl,hw⟩
 ·subst e1
  cases r
  obtain⟨its,rv,⟨o,m,ho,hcl,_,hd⟩,hz⟩:=I.list hq
  refine age (I.ok.hd hc) ⟨o,ho,hcl,m,hd⟩ (by simp [hn,←hl,rv.length]) hst fun h' hx=> ?_
  have I1:Inv X pins σ H {s with heap:=h'}:=I.kept (t':=s.toks) fun b o e=> hx b o (aT (ay e)) e
  exact h pins _ σ H xs _ Q I1 (by simpa using rv) hw
end L2
namespace PF
open PySem PySem.Spec
open L2
noncomputable def tOf(K:ah)(f:FE):TE:=fun σ H Q=> ∃as ρ s,Rel K as H s/\Envs K as H ρ σ/\Dn K (rD K) as H (f ρ s) Q
noncomputable def an0(K:ah)(f:FT):TT:=fun σ H Q=> ∃as ρ s,Rel K as H s/\Envs K as H ρ σ/\Dn K rB as H (f ρ s) Q
theorem RE.pe{f:FE}(h:RE X e f):PE X e (tOf X.K f):=by
 obtain⟨t,p,r⟩:=h.ex
 exact p.weak fun σ H Q ⟨as,ρ,s,a,b,c⟩=> r as σ H ρ s Q a b c
theorem RT.pt{f:FT}(h:RT X e f):PT X e (an0 X.K f):=by
 obtain⟨t,p,r⟩:=h.ex
 exact⟨fun pins s σ H Q I ⟨as,ρ,s',a,b,c⟩=> p pins s σ H Q I (r as σ H ρ s' Q a b c)⟩
inductive Tg where
 |nm (i:Nat)|t2 (a b:Tg)|t3 (a b c:Tg)|tn (is:List Nat)
def gNs:List Nat -> TGs
 |[]=> ap0
 |i::r=> ae0 (akx i) (gNs r)
def gOf(K:ah):Tg -> TG
 |.nm i=> akx i
 |.t2 a b=> akw K 2 (ae0 (gOf K a) (ae0 (gOf K b) ap0))
 |.t3 a b c=> akw K 3 (ae0 (gOf K a) (ae0 (gOf K b) (ae0 (gOf K c) ap0)))
 |.tn is=> akw K is.length (gNs is)
noncomputable def aqh:D -> Option (List D)
 |.tup ds=> some (ds.map D.da)
 |.lst ds=> some (ds.map D.da)
 |.con ds=> some (ds.map D.da)
 |_=> none
noncomputable def av8:List Nat -> List D -> En -> Option En
 |[],[],ρ=> some ρ
 |i::r,d::ds,ρ=> av8 r ds (ρ.set i (some d))
 |_,_,_=> none
def vt:Tg -> D -> En -> Option En
 |.nm i,d,ρ=> some (ρ.set i (some d))
 | .t2 a b,d,ρ=> match aqh d with
  |some [x,y]=> match vt a x ρ with
   |some ρ1=> vt b y ρ1
   |none=> none
  |_=> none
 | .t3 a b c,d,ρ=> match aqh d with
  | some [x,y,z]=> match vt a x ρ with
   |some ρ1=> match vt b y ρ1 with
    |some ρ2=> vt c z ρ2
    |none=> none
   |none=> none
  |_=> none
 |.tn is,d,ρ=> match aqh d with
  |some xs=> av8 is xs ρ
  |none=> none
noncomputable def abd(k:Nat):Tg -> Bool
 |.nm i=> decide (i < k)
 |.t2 a b=> abd k a&&abd k b
 |.t3 a b c=> abd k a&&abd k b&&abd k c
 |.tn is=> is.all fun i=> decide (i < k)
def Fra(k:Nat)(σ σ':St):Prop:= ∀vs cap:St,vs.length=k -> σ=vs++cap -> ∃vs':St,vs'.length=k/\σ'=vs'++cap
theorem Fra.refl(k:Nat)(σ:St):Fra k σ σ:=fun vs cap h e=> ⟨vs,h,e⟩
theorem Fra.trans{a b c:St}(h1:Fra k a b)(h2:Fra k b c):Fra k a c:=fun vs cap h e=> by
 obtain⟨v1,l1,e1⟩:=h1 vs cap h e
 exact h2 v1 cap l1 e1
theorem aij{as:As}{d:D}{ds:List D}(r:RD K as H v d)(h:aqh d=some ds): ∃p xs,v=.ref p/\(SqT K H p xs\/SqL K H p xs)/\RDs K as H xs ds:=by
 cases r with
 |da t=>
  cases t with
  |tup n e r=> cases h;exact⟨_,_,rfl,.inl (SqT.of e),r.rd⟩
  |lst n e r=> cases h;exact⟨_,_,rfl,.inr (SqL.of e),r.rd⟩
  |_=> cases h
 |con q r=> cases h;exact⟨_,_,rfl,.inl (q H),r.rd⟩
 |_=> cases h
theorem atp{K:ah}{as:As}{H:Hp}{ρ':En}{Q:St -> Hp -> Prop}: ∀(is:List Nat) {xs:List V} {ds:List D} {σ:St} {ρ:En},Envs K as H ρ σ -> RDs K as H xs ds -> av8 is ds ρ=some ρ' ->
  (∀σ',Envs K as H ρ' σ' -> (∀k,(is.all fun i=> decide (i < k))=true -> Fra k σ σ') -> Q σ' H) -> xs.length=is.length/\gNs is xs σ H Q
 |[],_,_,σ,ρ,en,rs,e,h=> by
  cases rs with
  |nil=> cases e;exact⟨rfl,rfl,h σ en fun k _=> Fra.refl k σ⟩
  |cons _ _=> cases e
 | i::r,_,_,σ,ρ,en,rs,e,h=> by
  cases rs with
  |nil=> cases e
  | @cons v _ d _ r1 rs=>
   obtain⟨hl,hg⟩:=atp r (en.set i r1) rs e (Q:=Q) fun σ' en' f=> h σ' en' fun k hk=> by
    rw [er,aF]at hk
    refine Fra.trans (fun vs cap hl z=> ?_) (f k hk.2)
    have hi:i < k:=of_decide_eq_true hk.1
    subst z
    exact⟨vs.set i (some v),by simpa using hl,by rw [g6 _ _ (by lia)]⟩
   exact⟨by rw [av,av,hl],_,_,rfl,hg⟩
theorem aaw{K:ah}: ∀(tg:Tg) {as:As} {σ:St} {H:Hp} {ρ ρ':En} {v:V} {d:D} {Q:St -> Hp -> Prop},Envs K as H ρ σ -> RD K as H v d -> vt tg d ρ=some ρ' ->
  (∀σ',Envs K as H ρ' σ' -> (∀k,abd k tg=true -> Fra k σ σ') -> Q σ' H) -> gOf K tg v σ H Q
 |.nm i,as,σ,H,ρ,ρ',v,d,Q,en,r,e,h=> by
  cases e
  refine h (σ.set i (some v)) (en.set i r) fun k hk vs cap hl z=> ?_
  have hi:i < k:=of_decide_eq_true hk
  subst z
  exact⟨vs.set i (some v),by simpa using hl,by rw [g6 _ _ (by lia)]⟩
 | .t2 a b,as,σ,H,ρ,ρ',v,d,Q,en,r,e,h=> by
  unfold vt at e
  split at e
  ·rename_i x y q
   obtain⟨p,xs,rfl,sq,rs⟩:=aij r q
   cases rs with
   |cons r1 rs=>
   cases rs with
   |cons r2 rs=>
   cases rs
   split at e
   ·rename_i ρ1 q1
    refine⟨p,_,rfl,sq,rfl,_,_,rfl,aaw a en r1 q1 fun σ1 en1 f1=> ⟨_,_,rfl,aaw b en1 r2 e fun σ2 en2 f2=> ⟨rfl,h σ2 en2 fun k hk=> ?_⟩⟩⟩
    simp only [abd,aF]at hk
    exact (f1 k hk.1).trans (f2 k hk.2)
   ·cases e
  ·cases e
 | .t3 a b c,as,σ,H,ρ,ρ',v,d,Q,en,r,e,h=> by
  unfold vt at e
  split at e
  ·rename_i x y z q
   obtain⟨p,xs,rfl,sq,rs⟩:=aij r q
   cases rs with
   |cons r1 rs=>
   cases rs with
   |cons r2 rs=>
   cases rs with
   |cons r3 rs=>
   cases rs
   split at e
   ·rename_i ρ1 q1
    split at e
    ·rename_i ρ2 q2
     refine⟨p,_,rfl,sq,rfl,_,_,rfl,aaw a en r1 q1 fun σ1 en1 f1=> ⟨_,_,rfl,aaw b en1 r2 q2 fun σ2 en2 f2=> ⟨_,_,rfl,aaw c en2 r3 e fun σ3 en3 f3=> ⟨rfl,h σ3 en3 fun k hk=> ?_⟩⟩⟩⟩
     simp only [abd,aF]at hk
     exact ((f1 k hk.1.1).trans (f2 k hk.1.2)).trans (f3 k hk.2)
    ·cases e
   ·cases e
  ·cases e
 | .tn is,as,σ,H,ρ,ρ',v,d,Q,en,r,e,h=> by
  unfold vt at e
  split at e
  ·rename_i ys q
   obtain⟨p,xs,rfl,sq,rs⟩:=aij r q
   obtain⟨hl,hg⟩:=atp is en rs e (Q:=Q) h
   exact⟨p,xs,rfl,sq,hl,hg⟩
  ·cases e
abbrev Wk:=List D×Option (Nat×List D)
abbrev FI:=En -> S -> R Wk
def ye(p:Wk)(s:S):Prop:=match p.2 with
 |none=> True
 |some q=> s[q.1]?=some (.lst q.2)
open Classical in
noncomputable def chk{α:Type}(p:Wk)(s:S)(k:R α):R α:=if ye p s then k else .bad
theorem aa2{α:Type}{ds:List D}{s:S}{k:R α}:chk (ds,none) s k=k:=if_pos trivial
theorem abu{α:Type}{p:Wk}{s:S}{k:R α}(h:ye p s):chk p s k=k:=if_pos h
theorem Dn.chk{α β:Type}{rel:As -> Hp -> β -> α -> Prop}{as:As}{p:Wk}{s:S}{r:R α}{Q:β -> Hp -> Prop}(h:Dn K rel as H (chk p s r) Q):ye p s/\Dn K rel as H r Q:=by
 by_cases c:ye p s
 ·rw [abu c]at h;exact⟨c,h⟩
 ·have e:PF.chk p s r=.bad:=if_neg c
  rw [e]at h;exact h.elim
def afj(K:ah)(as:As)(H:Hp)(J:It)(p:Wk):Prop:= ∀as2 H2 s2,Step0 as H as2 H2 -> Rel K as2 H2 s2 -> ye p s2 -> ∀i:Nat,
 (p.1.length <=i -> J.stop i H2)/\ ∀d,p.1[i]?=some d -> J.go i H2/\ ∀x H3,J.yld i H2 x H3 -> Step as2 H2 as2 H3/\Rel K as2 H3 s2/\RD K as2 H3 x d
def a3q(K:ah)(wi:TI)(f:FI):Prop:= ∀as σ H ρ s Q,Rel K as H s -> Envs K as H ρ σ -> Dn K (afj K) as H (f ρ s) Q -> wi σ H Q
structure RI (X:Cx) (tg iter:Expr) (f:FI):Prop where
 ex: ∃t,PI X tg iter t/\a3q X.K t f
structure RG (X:Cx) (tg:Expr) (g:Tg):Prop where
 pg:PG X tg (gOf X.K g)
section
variable{X:Cx}{a b:Expr}{fa fb:FE}{pos:Pos}
theorem kx(hN:X.N.Nodup)(hi:X.N[i]?=some x)(hx:Loc X.env.scope x)(hf:X.fn x=true\/X.env.scope.names.lookup x=some .local:=by first|exact .inl rfl|exact .inr rfl|assumption):RG X (.Name x pos) (.nm i):=⟨azr hN hi hx hf⟩
theorem ax4{e1 e2:Expr}{g1 g2:Tg}(hc:X.calm=true)(h1:RG X e1 g1)(h2:RG X e2 g2)(hn:(a6 [e1,e2] X.env).length=2:=by rfl)(hst:(a6 [e1,e2] X.env).findIdx? (·.1)=none:=by rfl)(s1:(a6 [e1,e2] X.env).map (·.2)=assign e1 X.env::(a6 [e2] X.env).map (·.2):=by rfl)(s2:(a6 [e2] X.env).map (·.2)=assign e2 X.env::(a6 [] X.env).map (·.2):=by rfl):RG X (.Tuple [e1,e2] k pos) (.t2 g1 g2):=
 ⟨ans hc (ac0 h1.pg (ac0 h2.pg aoc s2) s1) hn hst⟩
theorem a4h{e1 e2 e3:Expr}{g1 g2 g3:Tg}(hc:X.calm=true)(h1:RG X e1 g1)(h2:RG X e2 g2)(h3:RG X e3 g3)(hn:(a6 [e1,e2,e3] X.env).length=3:=by rfl)(hst:(a6 [e1,e2,e3] X.env).findIdx? (·.1)=none:=by rfl)(s1:(a6 [e1,e2,e3] X.env).map (·.2)=assign e1 X.env::(a6 [e2,e3] X.env).map (·.2):=by rfl)(s2:(a6 [e2,e3] X.env).map (·.2)=assign e2 X.env::(a6 [e3] X.env).map (·.2):=by rfl)(s3:(a6 [e3] X.env).map (·.2)=assign e3 X.env::(a6 [] X.env).map (·.2):=by rfl):RG X (.Tuple [e1,e2,e3] k pos) (.t3 g1 g2 g3):=
 ⟨ans hc (ac0 h1.pg (ac0 h2.pg (ac0 h3.pg aoc s3) s2) s1) hn hst⟩
def jq(f:FE):FS:=fun ρ s=> (f ρ s).bind fun d s1=>.ok (.rt d) s1
def k6(f:FE):FS:=fun ρ s=> (f ρ s).bind fun _ s1=>.ok (.nx ρ) s1
noncomputable def jy:FS:=fun ρ s=>.ok (.nx ρ) s
def kj(i:Nat)(f:FE):FS:=fun ρ s=> (f ρ s).bind fun d s1=>.ok (.nx (ρ.set i (some d))) s1
def au2(g:Tg)(f:FE):FS:=fun ρ s=> (f ρ s).bind fun d s1=> match vt g d ρ with
 |some ρ1=>.ok (.nx ρ1) s1
 |none=>.bad
def j4(c:FT)(f g:FS):FS:=fun ρ s=> (c ρ s).bind fun k s1=> if k=true then f ρ s1 else g ρ s1
def jk(f g:FS):FS:=fun ρ s=> (f ρ s).bind fun fl s1=> match fl with
 |.nx ρ1=> g ρ1 s1
 |fl=>.ok fl s1
theorem jm(h:RE X a fa):RS X (.Return (some a) pos) (jq fa):=by
 obtain⟨t,p,r⟩:=h.ex
 refine⟨_,a1t p,fun as σ H ρ s D rl en h=> ?_⟩
 exact r as σ H ρ s _ rl en (Dn.bind h fun d s1 as1 H1 v st1 rl1 r1 h1=> Dn.now (b:=FV.rt v) h1 rl1 (.rt r1))
theorem vc(h:RE X a fa)(hs:dM a none pos.line X.env=pure false:=by rfl):RS X (.Expr a pos) (k6 fa):=by
 obtain⟨t,p,r⟩:=h.ex
 refine⟨_,az3 p hs,fun as σ H ρ s D rl en h=> ?_⟩
 exact r as σ H ρ s _ rl en (Dn.bind h fun d s1 as1 H1 v st1 rl1 r1 h1=> Dn.now (b:=FV.nx σ) h1 rl1 (.nx (en.mono st1)))
theorem ke{pos':Pos}(hN:X.N.Nodup)(hi:X.N[i]?=some x)(hx:Loc X.env.scope x)(h:RE X a fa)(hs:dM a (some (.Name x pos')) pos.line X.env=pure false:=by rfl)(hf:X.fn x=true\/X.env.scope.names.lookup x=some .local:=by first|exact .inl rfl|exact .inr rfl|assumption):RS X (.Assign [.Name x pos'] a pos) (kj i fa):=by
 obtain⟨t,p,r⟩:=h.ex
 refine⟨_,a2a hN hi hx p hs hf,fun as σ H ρ s D rl en h=> ?_⟩
 exact r as σ H ρ s _ rl en (Dn.bind h fun d s1 as1 H1 v st1 rl1 r1 h1=> Dn.now (b:=FV.nx (σ.set i (some v))) h1 rl1 (.nx ((en.mono st1).set i r1)))
theorem a3c{g:Tg}(h:RE X a fa)(hg:RG X tg g)(hs:hU [tg] a pos.line X.env=pure false:=by rfl)(hw:hV [tg] a X.env=pure none:=by rfl)(h1:(a6 [tg] X.env).map (·.2)=[assign tg X.env]:=by rfl):RS X (.Assign [tg] a pos) (au2 g fa):=by
 obtain⟨t,p,r⟩:=h.ex
 refine⟨_,asn p hg.pg hs hw h1,fun as σ H ρ s D rl en h=> ?_⟩
 refine r as σ H ρ s _ rl en (Dn.bind h fun d s1 as1 H1 v st1 rl1 r1 h1=> ?_)
 split at h1
 ·rename_i ρ1 q
  exact aaw g (en.mono st1) r1 q fun σ' en' _=> Dn.now (b:=FV.nx σ') h1 rl1 (.nx en')
 ·exact h1.elim
theorem j3{st su:List Stmt}{fc:FT}{f g:FS}(hc:RT X c fc)(h1:RSs X st f)(h2:RSs X su g):RS X (.If c st su pos) (j4 fc f g):=by
 obtain⟨tc,pc,rc⟩:=hc.ex
 obtain⟨t,p,r⟩:=h1.ex
 obtain⟨t',p',r'⟩:=h2.ex
 refine⟨_,a4j pc p p',fun as σ H ρ s D rl en h=> ?_⟩
 refine rc as σ H ρ s _ rl en (Dn.bind h fun k s1 as1 H1 x st1 rl1 r1 h1=> ?_)
 have e1:x=k:=r1
 subst e1
 cases x with
 |true=> rw [if_pos rfl]at h1⊢;exact r as1 σ H1 ρ s1 D rl1 (en.mono st1) h1
 |false=> rw [if_neg ax]at h1⊢;exact r' as1 σ H1 ρ s1 D rl1 (en.mono st1) h1
theorem jw:RSs X [] jy:=⟨_,ayf,fun as σ H ρ s D rl en h=> Dn.now (b:=FV.nx σ) h rl (.nx en)⟩
theorem ji{f:FS}(h:RS X st f):RSs X [st] f:=let ⟨t,p,r⟩:=h.ex;⟨_,ayl p,r⟩
theorem a00{t u:TS}{f g:FS}(h1:alo K t f)(h2:alo K u g):alo K (a0z t u) (jk f g):=by
 intro as σ H ρ s D rl en h
 refine h1 as σ H ρ s _ rl en (Dn.bind h fun fl s1 as1 H1 fv st1 rl1 r1 h1=> ?_)
 cases r1 with
 |nx e=> exact h2 as1 _ H1 _ s1 D rl1 e h1
 |rt e=> exact (show aa1 D (.rt _) H1 from Dn.now (K:=K) (rel:=rF K) (Q:=aa1 D) (b:=FV.rt _) h1 rl1 (rF.rt e))
 |bk e=> exact (show aa1 D (.bk _) H1 from Dn.now (K:=K) (rel:=rF K) (Q:=aa1 D) (b:=FV.bk _) h1 rl1 (rF.bk e))
 |ct e=> exact (show aa1 D (.ct _) H1 from Dn.now (K:=K) (rel:=rF K) (Q:=aa1 D) (b:=FV.ct _) h1 rl1 (rF.ct e))
theorem jh{jp:List Stmt}{f g:FS}(h:RS X st f)(k:RSs X jp g):RSs X (st::jp) (jk f g):=by
 obtain⟨t,p,r⟩:=h.ex
 obtain⟨t',p',r'⟩:=k.ex
 exact⟨_,avu p p',a00 r r'⟩
def vx(g:Tg)(fb:FS)(p:Wk):List D -> En -> S -> R Fl
 |[],ρ,s=>.ok (.nx ρ) s
 | d::r,ρ,s=> match vt g d ρ with
  |none=>.bad
  |some ρ1=> (fb ρ1 s).bind fun fl s2=> match fl with
   |.nx ρ2=> chk p s2 (vx g fb p r ρ2 s2)
   |.ct ρ2=> chk p s2 (vx g fb p r ρ2 s2)
   |.bk ρ2=>.ok (.nx ρ2) s2
   |.rt d=>.ok (.rt d) s2
def ack(fi:FI)(g:Tg)(fb:FS):FS:=fun ρ s=> (fi ρ s).bind fun p s1=> chk p s1 (vx g fb p p.1 ρ s1)
theorem ada{fi:FI}{g:Tg}{fb:FS}(hc:X.calm=true)(hi:RI X tg iter fi)(hg:RG X tg g)(hb:RSs X body fb)(hp:PassesOwn (model X.prog X.w) X.A X.env X.xe:=by exact PassesOwn.never)(hs: ∀x,cF iter X.env x=pure x:=by intro _;rfl):RS X (.For tg iter body [] pos) (ack fi g fb):=by
 obtain⟨wi,pi,ri⟩:=hi.ex
 obtain⟨tb,pb,rb⟩:=hb.ex
 refine⟨_,a2c hp hc pi hg.pg pb hs,fun as σ H ρ s D rl en h=> ?_⟩
 refine ri as σ H ρ s _ rl en (Dn.bind h fun p s1 as1 H1 J st1 rl1 r1 h1=> ?_)
 obtain⟨so,h1⟩:=Dn.chk h1
 refine⟨fun i m σ' H'=> ∃as2 ρ2 s2,m=p.1.length - i/\i <=p.1.length/\Step as1 H1 as2 H'/\Rel X.K as2 H' s2/\Envs X.K as2 H' ρ2 σ'/\ye p s2/\Dn X.K (rF X.K) as2 H' (vx g fb p (p.1.drop i) ρ2 s2) (aa1 D),
  ⟨_,as1,ρ,s1,rfl,bP _,Step.refl _ _,rl1,en.mono st1,so,h1⟩,?_⟩
 rintro i m σ' H' ⟨as2,ρ2,s2,hm,hi,st2,rl2,en2,so2,h2⟩
 have tn:=r1 as2 H' s2 st2.toStep0 rl2 so2 i
 by_cases hl:i < p.1.length
 ·obtain⟨d,hd⟩: ∃d,p.1[i]?=some d:=⟨_,aG hl⟩
  have hdr:p.1.drop i=d::p.1.drop (i+1):=by
   rw [dH hl]
   rw [aG hl]at hd
   cases hd;rfl
  rw [hdr]at h2
  obtain⟨go,yl⟩:=tn.2 d hd
  unfold vx at h2
  split at h2
  ·exact h2.elim
  ·rename_i ρ3 q3
   refine .inr ⟨go,fun σ4 H4=> ∃as4 ρ4 s4,Step as1 H1 as4 H4/\Rel X.K as4 H4 s4/\Envs X.K as4 H4 ρ4 σ4/\ye p s4/\Dn X.K (rF X.K) as4 H4 (vx g fb p (p.1.drop (i+1)) ρ4 s4) (aa1 D),?_,fun x H3 hy=> ?_⟩
   ·rintro σ4 H4 ⟨as4,ρ4,s4,a1,a2,a3,a4,a5⟩
    exact⟨p.1.length - (i+1),by lia,as4,ρ4,s4,rfl,hl,a1,a2,a3,a4,a5⟩
   ·obtain⟨st3,rl3,rx⟩:=yl x H3 hy
    refine aaw g (en2.mono st3) rx q3 fun σ3 en3 _=> ?_
    refine rb as2 σ3 H3 ρ3 s2 _ rl3 en3 (Dn.bind (Dn.step h2 st3) fun fl s5 as5 H5 fv st5 rl5 r5 h5=> ?_)
    cases r5 with
    |nx e=>
     obtain⟨so5,h5⟩:=Dn.chk h5
     exact⟨as5,_,s5,(st2.trans st3).trans st5,rl5,e,so5,h5⟩
    |ct e=>
     obtain⟨so5,h5⟩:=Dn.chk h5
     exact⟨as5,_,s5,(st2.trans st3).trans st5,rl5,e,so5,h5⟩
    |rt e=> exact (show aa1 D (.rt _) H5 from Dn.now (K:=X.K) (rel:=rF X.K) (Q:=aa1 D) (b:=FV.rt _) h5 rl5 (rF.rt e))
    |bk e=> exact (show aa1 D (.nx _) H5 from Dn.now (K:=X.K) (rel:=rF X.K) (Q:=aa1 D) (b:=FV.nx _) h5 rl5 (rF.nx e))
 ·refine .inl ⟨tn.1 (bN hl),?_⟩
  rw [cy (bN hl)]at h2
  exact Dn.now (b:=FV.nx σ') h2 rl2 (.nx en2)
end
end PF
variable{K:ah}{as:PF.As}{H:L2.Hp}{p:ib}{xs ys:List ib}{w:ir}{s s' s0:PF.S}{n k a c B T:Nat}{v:L2.V}{i m:Int}{x y C:fB}{vs:List L2.V}{e o tg:fU}{f fe fo:PF.FE}{ρ:PF.En}{g:PF.Tg}{ft:PF.FT}{N ss fl qs acc:List fB}{fb:PF.FS}{st:PySem.Stmt}{A:ic}{fa:PF.FA}{pos apos:PySem.Pos}{b:Bool}{es:List fU}{r:List PF.D}{x0 x1 x2:Option PF.D}{js:List Nat}{a0 a1:PF.D}{fd:PySem.FuncData}{P:hJ}{h base:PySem.Heap}{Q E:ca -> dJ -> Prop}{X:L2.Cx}{pins:List (cT×PySem.Obj)}{Ca:cT}{mg:fB -> Option ca}{od an:Option cT}{sl:Array (Option ca)}
namespace PF
open PySem PySem.Spec
open L2
noncomputable def al2(d:D)(s:S):R Wk:=match d with
 |.lst ds=>.ok (ds.map D.da,none) s
 |.tup ds=>.ok (ds.map D.da,none) s
 |.con ds=>.ok (ds.map D.da,none) s
 |.frz ds=>.ok (ds.map D.da,none) s
 |.ref n=> match s[n]? with
  |some (.lst ds)=>.ok (ds,some (n,ds)) s
  |_=>.bad
 |_=>.bad
def fIt(f:FE):FI:=fun ρ s=> (f ρ s).bind al2
section
variable{X:Cx}{tg a b:Expr}{fa fb:FE}{pos:Pos}
def a6k(K:ah)(tl:TE):TI:=fun σ H R=> tl σ H fun x H1=> ∃a,x=.ref a/\(((∃xs,SqL K H1 a xs)/\R (Itl K a) H1)\/((∃xs,SqT K H1 a xs)/\R (Itt K a) H1))
theorem a0y{l:Expr}{tl:TE}(hl:PE X l tl):PI X tg l (a6k X.K tl):=by
 intro pins s σ H R I h
 refine thn (hl pins s σ H _ I h) fun v s1 ⟨x,H1,I1,r1,q1⟩=> ?_
 obtain⟨a,e,q1⟩:=q1
 subst e
 cases r1
 have fp: ∀b∈ [s1.heap.objs.size],ac3 X pins H1 b:=fun b hb=> by
  have e:b=s1.heap.objs.size:=by simpa using hb
  subst e
  exact I1.fpOk (ao _) (I1.hok.fresh (ao _))
 rcases q1 with ⟨⟨xs,hq⟩,q⟩|⟨⟨xs,hq⟩,q⟩
 ·obtain⟨its,rv,p,hz⟩:=I1.list hq
  refine c7 p.isList ?_
  exact⟨s1.heap.objs.size,[s1.heap.objs.size],_,_,H1,rfl,I1.kept (t':=s1.toks) fun b o e=> ai _ e,ari a _,⟨_,aB _ rfl,rfl,rfl⟩,fp,q⟩
 ·obtain⟨its,rv,p,hz⟩:=I1.tuple hq
  refine fG (show s1.heap.IsTuple a its.toArray from p) ?_
  exact⟨s1.heap.objs.size,[s1.heap.objs.size],_,_,H1,rfl,I1.kept (t':=s1.toks) fun b o e=> ai _ e,aqb a _,⟨_,aB _ rfl,rfl,rfl⟩,fp,q⟩
theorem am5{p:Addr}{xs:List V}{w:Wk}(h: ∀as2 H2 s2,Step0 as H as2 H2 -> Rel K as2 H2 s2 -> ye w s2 -> ∃ys,SqL K H2 p ys/\RDs K as2 H2 ys w.1):afj K as H (Itl K p) w:=by
 intro as2 H2 s2 st rl so i
 obtain⟨ys,sq,rs⟩:=h as2 H2 s2 st rl so
 refine⟨fun hl=> ⟨ys,sq,by rw [rs.length];exact hl⟩,fun d hd=> ?_⟩
 obtain⟨v,hv,r⟩:=rs.get hd
 refine⟨⟨ys,v,sq,hv⟩,fun x H3 hy=> ?_⟩
 obtain⟨rfl,hx⟩:=hy
 have:=hx ys sq
 rw [hv]at this
 cases this
 exact⟨Step.refl _ _,rl,r⟩
theorem ar7{p:Addr}{xs:List V}{w:Wk}(h: ∀as2 H2 s2,Step0 as H as2 H2 -> Rel K as2 H2 s2 -> ye w s2 -> ∃ys,SqT K H2 p ys/\RDs K as2 H2 ys w.1):afj K as H (Itt K p) w:=by
 intro as2 H2 s2 st rl so i
 obtain⟨ys,sq,rs⟩:=h as2 H2 s2 st rl so
 refine⟨fun hl=> ⟨ys,sq,by rw [rs.length];exact hl⟩,fun d hd=> ?_⟩
 obtain⟨v,hv,r⟩:=rs.get hd
 refine⟨⟨ys,v,sq,hv⟩,fun x H3 hy=> ?_⟩
 obtain⟨rfl,hx⟩:=hy
 have:=hx ys sq
 rw [hv]at this
 cases this
 exact⟨Step.refl _ _,rl,r⟩
theorem yo{p:Addr}{ds:List D}(rl:Rel K as H s)(hr: ∀q,as.ix[n]?=some (some q) -> q=p)(e:s[n]?=some (.lst ds)):as.ix[n]?=some (some p)/\ ∃xs,H p=some (.lst xs)/\RDs K as H xs ds:=by
 obtain⟨q,hq⟩:=rl.li n _ e (by intro z;cases z)
 cases hr q hq
 exact⟨hq,rl.ob n p _ hq e⟩
theorem acl(h:RE X a fa):RI X tg a (fIt fa):=by
 obtain⟨t,p,r⟩:=h.ex
 refine⟨_,a0y p,fun as σ H ρ s Q rl en h=> ?_⟩
 refine r as σ H ρ s _ rl en (Dn.bind h fun d s1 as1 H1 v st1 rl1 r1 h1=> ?_)
 cases r1 with
 |da t=>
  cases t with
  |tup n e rs=> exact⟨_,rfl,.inr ⟨⟨_,SqT.of e⟩,Dn.now (Q:=Q) h1 rl1 (ar7 (xs:=[]) fun as2 H2 s2 st rl so=> ⟨_,SqT.of (st.keep _ _ n e),(rs.mono0 st).rd⟩)⟩⟩
  |lst n e rs=> exact⟨_,rfl,.inl ⟨⟨_,SqL.of e⟩,Dn.now (Q:=Q) h1 rl1 (am5 (xs:=[]) fun as2 H2 s2 st rl so=> ⟨_,SqL.of (st.keep _ _ n e),(rs.mono0 st).rd⟩)⟩⟩
  |_=> exact h1.elim
 |con q rs=> exact⟨_,rfl,.inr ⟨⟨_,q H1⟩,Dn.now (Q:=Q) h1 rl1 (ar7 (xs:=[]) fun as2 H2 s2 st rl so=> ⟨_,q H2,(rs.mono0 st).rd⟩)⟩⟩
 |frz q rs=> exact⟨_,rfl,.inl ⟨⟨_,q as1 H1 (Step.refl _ _).toStep0⟩,Dn.now (Q:=Q) h1 rl1 (am5 (xs:=[]) fun as2 H2 s2 st rl so=> ⟨_,q as2 H2 st,(rs.mono0 st).rd⟩)⟩⟩
 | @ref pp n l hr=>
  have h1:Dn X.K (afj X.K) as1 H1 (match s1[n]? with|some (O.lst ds)=> R.ok (ds,some (n,ds)) s1|_=> R.bad) Q:=h1
  split at h1
  ·rename_i ds e
   obtain⟨ha,xs,hx,rs⟩:=yo rl1 hr e
   refine⟨_,rfl,.inl ⟨⟨_,SqL.of hx⟩,Dn.now (Q:=Q) h1 rl1 (am5 (xs:=[]) fun as2 H2 s2 st rl so=> ?_)⟩⟩
   have so':s2[_]?=some (O.lst ds):=so
   obtain⟨q,hq⟩:=rl.li _ _ so' (by intro z;cases z)
   have e2:=hq
   rcases st.old _ l with z|z
   ·rw [z]at e2
    cases hr q e2
    obtain⟨ys,hy,rs2⟩:=rl.ob _ _ _ hq so'
    exact⟨ys,SqL.of hy,rs2⟩
   ·rw [z]at e2;cases e2
  ·exact h1.elim
 |_=> exact h1.elim
noncomputable def ab6(lo:Int):Nat -> List D
 |0=> []
 |n+1=>.int lo::ab6 (lo+1) n
theorem v7: ∀(n:Nat) (lo:Int),(ab6 lo n).length=n
 |0,_=> rfl
 |n+1,lo=> congrArg (· +1) (v7 n (lo+1))
theorem aio: ∀(n:Nat) (lo:Int) (i:Nat),i < n -> (ab6 lo n)[i]?=some (.int (lo+i))
 |n+1,lo,0,_=> by simp [ab6]
 |n+1,lo,i+1,h=> by
  rw [ab6,d6,aio n (lo+1) i (by lia)]
  have:lo+1+(i:Int)=lo+((i+1:Nat):Int):=by lia
  rw [this]
theorem a2y(lo:Int)(n:Nat):afj K as H (Itr lo n) (ab6 lo n,none):=by
 intro as2 H2 s2 st rl so i
 refine⟨fun hl=> by rw [v7]at hl;exact hl,fun d hd=> ?_⟩
 have hl:i < n:=by
  have:=(aq.mp hd).1
  rw [v7]at this;exact this
 rw [aio n lo i hl]at hd
 cases hd
 refine⟨hl,fun x H3 hy=> ?_⟩
 obtain⟨rfl,rfl⟩:=hy
 exact⟨Step.refl _ _,rl,.da (.int _)⟩
def alh(ds:List D)(s:S):R Wk:=match ds with
 |[.int j]=> if -(2^62) <=j/\j < 2^62 then .ok (ab6 0 j.toNat,none) s else .bad
 |_=>.bad
def af0(f:FA):FI:=fun ρ s=> (f ρ s).bind alh
theorem RD.int_inv(h:RD K as H v (.int i)):v=.int i:=by
 cases h with|da t=> cases t;rfl
theorem RD.str_inv(h:RD K as H v (.str x)):v=.str x:=by
 cases h with|da t=> cases t;rfl
theorem RD.bl_inv{x:Bool}(h:RD K as H v (.bl x)):v=.bl x:=by
 cases h with|da t=> cases t;rfl
theorem RDs.one{d:D}(h:RDs K as H vs [d]): ∃v,vs=[v]/\RD K as H v d:=by
 cases h with|cons a b=> cases b;exact⟨_,rfl,a⟩
theorem RDs.two{d e:D}(h:RDs K as H vs [d,e]): ∃v w,vs=[v,w]/\RD K as H v d/\RD K as H w e:=by
 cases h with|cons a b=> cases b with|cons b c=> cases c;exact⟨_,_,rfl,a,b⟩
theorem afb{f:FA}{p:Pos}(hm:X.mg "range"=none)(h:RA X [a] f)(hg:Gl X "range":=by rfl)(hs:starEach [a] X.env=[(false,eval a X.env)]:=by rfl):RI X tg (.Call (.Name "range" p) [a] [] pos) (af0 f):=by
 obtain⟨t,p,r⟩:=h.ex
 refine⟨_,at8 hg hm p hs,fun as σ H ρ s Q rl en h=> ?_⟩
 refine r as σ H ρ s _ rl en (Dn.bind h fun ds s1 as1 H1 vs st1 rl1 r1 h1=> ?_)
 unfold alh at h1
 split at h1
 ·rename_i j
  obtain⟨v,rfl,rv⟩:=r1.one
  cases rv.int_inv
  split at h1
  ·rename_i hb
   exact⟨j,rfl,hb.1,hb.2,Dn.now (Q:=Q) h1 rl1 (a2y 0 _)⟩
  ·exact h1.elim
 ·exact h1.elim
def vd(g:Tg)(ft:FT)(fe:FE)(ρ0:En)(p:Wk):List D -> S -> R (List D)
 |[],s=>.ok [] s
 |d::r,s=> match vt g d ρ0 with
  |none=>.bad
  |some ρ1=> (ft ρ1 s).bind fun b s2=> if b=true then (fe ρ1 s2).bind fun x s3=> chk p s3 ((vd g ft fe ρ0 p r s3).bind fun xs s4=>.ok (x::xs) s4) else chk p s2 (vd g ft fe ρ0 p r s2)
noncomputable def air(ρ:En)(js:List Nat):En:=js.map fun j=> (ρ[j]?).join
def fLc(m:Bool)(js:List Nat)(k:Nat)(fi:FI)(g:Tg)(ft:FT)(fe:FE):FE:=fun ρ s=> (fi ρ s).bind fun p s1=> if p.1.length <=sizeLine then chk p s1 ((vd g ft fe (bD k none++air ρ js) p p.1 s1).bind fun ds s2=> xg m ds s2) else .bad
noncomputable def zn:FT:=fun _ s=>.ok true s
structure RIfs (X:Cx) (ifs:List Expr) (f:FT):Prop where
 run:aj0 X ifs (an0 X.K f)
theorem x8:RIfs X [] zn:=⟨fun pins s σ H Q I ⟨as,ρ,s',rl,en,h⟩=> awh pins s σ H Q I (show Q true H from Dn.now h rl rfl)⟩
theorem avf{f:FT}(h:RT X a f):RIfs X [a] f:=⟨aw0 h.pt⟩
theorem Envs.caps{σ:St}(e:Envs K as H ρ σ)(js:List Nat):Envs K as H (air ρ js) (zc σ js):=by
 refine⟨by simp [air,zc],fun i d h=> ?_⟩
 unfold air at h
 unfold zc
 rw [aZ]at h⊢
 cases q:js[i]? with
 |none=> rw [q]at h;cases h
 | some j=>
  rw [q]at h
  have h:(ρ[j]?).join=some d:=by simpa using h
  cases z:ρ[j]? with
  |none=> rw [z]at h;cases h
  | some o=>
   rw [z]at h
   cases o with
   |none=> cases h
   |some x=>
    cases h
    obtain⟨v,e1,r⟩:=e.get j d z
    exact⟨v,by simp [e1],r⟩
theorem Envs.own{σ vs:St}(e:Envs K as H ρ σ)(hl:vs.length=k):Envs K as H (bD k none++ρ) (vs++σ):=by
 refine⟨by simp [hl,e.len],fun i d h=> ?_⟩
 by_cases z:i < k
 ·rw [aR (by simpa using z),cS]at h
  simp [z]at h
 ·rw [bq (by simpa using bN z)]at h
  rw [bq (by rw [hl];exact bN z)]
  rw [hl]
  exact e.get _ d (by simpa using h)
theorem lcB {J:It} {p:Wk} {ρ0:En} {cap:St} {m:Bool} {Q:VK} (hg:abd k g=true) (hz:p.1.length <=sizeLine) (rl:Rel K as H s) (ri:afj K as H J p) (so:ye p s) (en: ∀vs:St,vs.length=k -> Envs K as H ρ0 (vs++cap)) (h:Dn K (rD K) as H ((vd g ft fe ρ0 p p.1 s).bind fun ds s2=> xg m ds s2) Q):avr (gOf K g) (an0 K ft) (tOf K fe) k cap J H Q:=by
 intro D hD
 have n0:New H D (.lst []) (upd H D (.lst [])):=⟨hD,rfl⟩
 have nh:D∉as.hd:=fun z=> by obtain⟨_,e⟩:=rl.hs D z;rw [hD]at e;cases e
 have s0:=akb (as:=as) n0
 refine⟨fun i mm ys H'=> ∃as2 s2 ds,mm=p.1.length - i/\i <=p.1.length/\ys.length <=i/\Step as H as2 H'/\D∈as2.hd/\Rel K as2 H' s2/\ye p s2/\RDs K as2 H' ys ds/\
   Dn K (rD K) as H ((vd g ft fe ρ0 p (p.1.drop i) s2).bind fun xs s3=> xg m (ds++xs) s3) Q,
  ⟨_,as.hide D,s,[],rfl,bP _,ao _,s0,aC,rl.hide n0,so,.nil,h⟩,?_⟩
 rintro i mm ys H' hDi ⟨as2,s2,ds,hm,hi,hys,st2,mD2,rl2,so2,rs,h2⟩
 have tn:=ri as2 H' s2 st2.toStep0 rl2 so2 i
 by_cases hl:i < p.1.length
 ·obtain⟨d,hd⟩: ∃d,p.1[i]?=some d:=⟨_,aG hl⟩
  have hdr:p.1.drop i=d::p.1.drop (i+1):=by
   rw [dH hl]
   rw [aG hl]at hd
   cases hd;rfl
  rw [hdr]at h2
  obtain⟨go,yl⟩:=tn.2 d hd
  unfold vd at h2
  split at h2
  ·exact h2.elim
  ·rename_i ρ3 q3
   refine .inr ⟨go,fun x H3 hy vs hv=> ?_⟩
   obtain⟨st3,rl3,rx⟩:=yl x H3 hy
   refine aaw g ((en vs hv).mono (st2.trans st3)) rx q3 fun σ3 en3 fr=> ?_
   refine⟨fr k hg vs cap hv rfl,as2,ρ3,s2,rl3,en3,?_⟩
   have eD3:H3 D=some (.lst ys):=st3.hh D mD2 _ hDi
   cases qt:ft ρ3 s2 with
   |bad=> rw [qt]at h2;exact h2.elim
   | ok b s4=>
    rw [qt]at h2
    intro b' as4 H4 st4 rl4 eb
    have eb':b'=b:=eb
    subst eb'
    have mD4:D∈as4.hd:=st4.hk D mD2
    have eD4:H4 D=some (.lst ys):=st4.hh D mD2 _ eD3
    have st24:=(st2.trans st3).trans st4
    rw [R.bind_ok]at h2
    cases b' with
    | false=>
     rw [if_neg ax]at h2⊢
     by_cases c:ye p s4
     ·rw [abu c]at h2
      exact⟨eD4,_,by lia,as4,s4,ds,rfl,hl,by lia,st24,mD4,rl4,c,(rs.mono st3).mono st4,h2⟩
     ·have e:chk p s4 (vd g ft fe ρ0 p (p.1.drop (i+1)) s4)=.bad:=if_neg c
      rw [e]at h2;exact h2.elim
    | true=>
     rw [if_pos rfl]at h2⊢
     refine⟨as4,ρ3,s4,rl4,en3.mono st4,?_⟩
     cases qe:fe ρ3 s4 with
     |bad=> rw [qe]at h2;exact h2.elim
     | ok x5 s5=>
      rw [qe]at h2
      intro v5 as5 H5 st5 rl5 r5
      rw [R.bind_ok]at h2
      have mD5:D∈as5.hd:=st5.hk D mD4
      have eD5:H5 D=some (.lst ys):=st5.hh D mD4 _ eD4
      have st25:=st24.trans st5
      by_cases c:ye p s5
      ·rw [abu c]at h2
       have cg:Chg H5 D (.lst (ys++ [v5])) (upd H5 D (.lst (ys++ [v5]))):=⟨rfl⟩
       have s05:=ab5 (.inr mD5) cg
       refine⟨eD5,by lia,_,by lia,as5,s5,ds++ [x5],rfl,hl,by simp;lia,avg st25 hD nh mD5 cg,mD5,rl5.chgH mD5 cg,c,((((rs.mono st3).mono st4).mono st5).append (.cons r5 .nil)).mono0 s05,?_⟩
       cases qc:vd g ft fe ρ0 p (p.1.drop (i+1)) s5 with
       |bad=> rw [qc]at h2;exact h2.elim
       |ok xs s6=>
        rw [qc]at h2
        show Dn K (rD K) as H (xg m ((ds++ [x5])++xs) s6) Q
        rw [cn]
        exact h2
      ·have e:chk p s5 ((vd g ft fe ρ0 p (p.1.drop (i+1)) s5).bind fun xs s4=>.ok (x5::xs) s4)=.bad:=if_neg c
       rw [e]at h2;exact h2.elim
 ·refine .inl ⟨tn.1 (bN hl),?_⟩
  rw [cy (bN hl)]at h2
  replace h2:Dn K (rD K) as H (xg m (ds++ []) s2) Q:=h2
  rw [bj]at h2
  unfold xg at h2
  cases m with
  |true=>
   rw [if_pos rfl]at h2
   refine h2 (.ref D) _ H' (ar4 st2 nh mD2) (rl2.take mD2 ⟨ys,hDi,rs.mono0 (afp mD2)⟩) (.ref (by simp [rl2.len]) fun q e=> ?_)
   rw [←rl2.len]at e
   simp at e
   exact e.symm
  | false=>
   rw [if_neg ax]at h2
   cases q:kd ds with
   |none=> rw [q]at h2;exact h2.elim
   |some zs=>
    rw [q]at h2
    have e:=zb q
    subst e
    have h2:Dn K (rD K) as H (R.ok (.lst zs) s2) Q:=h2
    refine h2 (.ref D) _ H' (au9 st2 nh afq) rl2.show (.da (.lst (fun z=> ?_) hDi (rs.td.mono0 afq)))
    rcases z with z|z
    ·exact rl2.hx D mD2 z
    ·exact absurd rfl (of_decide_eq_true (bU.mp z).2)
end
end PF
namespace PF
open PySem PySem.Spec
open L2
open PyProof.Rows (envOfC)
section
variable{X:Cx}{own caps:List Str}{js:List Nat}{scope:dY}{tg iter elt a:Expr}{ifs:List Expr}{fi:FI}{g:Tg}{ft:FT}{fe fa:FE}{pos:Pos}
theorem asi{wi:TI}{m:Bool}(ri:a3q K wi fi)(hl:abd k g=true):yw K (tLc js k wi (gOf K g) (an0 K ft) (tOf K fe)) (fLc m js k fi g ft fe):=by
 intro as σ H ρ s Q rl en h
 refine ri as σ H ρ s _ rl en (Dn.bind h fun p s1 as1 H1 J st1 rl1 r1 h1=> ?_)
 split at h1
 ·rename_i hz
  obtain⟨so,h1⟩:=Dn.chk h1
  exact lcB hl hz rl1 r1 so (fun vs hv=> ((en.mono st1).caps js).own hv) h1
 ·exact h1.elim
theorem acx(m:Bool)(hcalm:X.calm=true)(hkind:scope.kind=.function)(hnames:(scope.names.all fun p=> !(p.2==.local)||(scope.names.lookup p.1==some .local))=true)(hcell:(scope.names.any fun p=> p.2==.cell)=false)
  (hk:(scope.names.all fun p=> !(p.2==.free)||(X.env.kindOf p.1==some .cell||X.env.kindOf p.1==some .free))=true)
  (hcap:aa3 X scope caps js) (hl:abd own.length g=true) (hi:RI X tg iter fi) (hg: ∀C fp s H,RG (vz X own caps scope C fp s H) tg g) (ht: ∀C fp s H,RIfs (vz X own caps scope C fp s H) ifs ft) (he: ∀C fp s H,RE (vz X own caps scope C fp s H) elt fe)
  (hs: ∀x,cF iter X.env x=pure x:=by intro _;rfl):RE X (.ListComp elt [⟨tg,iter,ifs,0⟩] scope pos) (fLc m js own.length fi g ft fe):=by
 obtain⟨wi,pi,ri⟩:=hi.ex
 exact⟨_,a4a hcalm hkind hnames hcell hk hcap pi (fun C fp s H=> (hg C fp s H).pg) (fun C fp s H=> (ht C fp s H).run) (fun C fp s H=> (he C fp s H).pe) hs,asi ri hl⟩
theorem amj(m:Bool){i:Nat}{py:Pos}{spos:Pos}(hsw:dM (.ListComp elt [⟨tg,iter,ifs,0⟩] scope pos) (some (.Name y py)) spos.line X.env=pure true)(hN:X.N.Nodup)(hy:X.N[i]?=some y)(hyl:X.env.scope.names.lookup y=some .local)(hcalm:X.calm=true)(hkind:scope.kind=.function)(hnames:(scope.names.all fun p=> !(p.2==.local)||(scope.names.lookup p.1==some .local))=true)(hcell:(scope.names.any fun p=> p.2==.cell)=false)(hk:(scope.names.all fun p=> !(p.2==.free)||(X.env.kindOf p.1==some .cell||X.env.kindOf p.1==some .free))=true)(hcap:aa3 X scope caps js)(hl:abd own.length g=true)(hi:RI X tg iter fi)(hg: ∀C fp s H,RG (vz X own caps scope C fp s H) tg g)(ht: ∀C fp s H,RIfs (vz X own caps scope C fp s H) ifs ft)(he: ∀C fp s H,RE (vz X own caps scope C fp s H) elt fe)(hs: ∀x,cF iter X.env x=pure x:=by intro _;rfl):RS X (.Assign [.Name y py] (.ListComp elt [⟨tg,iter,ifs,0⟩] scope pos) spos) (kj i (fLc m js own.length fi g ft fe)):=by
 obtain⟨wi,pi,ri⟩:=hi.ex
 refine⟨_,avb (own:=own) (te:=tOf X.K fe) (tt:=an0 X.K ft) (g:=gOf X.K g) hsw hN hy hyl hcalm hkind hnames hcell hk hcap pi (fun C fp s H=> (hg C fp s H).pg) (fun C fp s H=> (ht C fp s H).run) (fun C fp s H=> (he C fp s H).pe) hs,fun as σ H ρ s D rl en h=> ?_⟩
 exact asi (m:=m) ri hl as σ H ρ s _ rl en (Dn.bind h fun d s1 as1 H1 v st1 rl1 r1 h1=> Dn.now (b:=FV.nx (σ.set i (some v))) h1 rl1 (.nx ((en.mono st1).set i r1)))
def aug(d:D)(s:S):R D:=match d with
 | .ref n=> match s[n]? with
  |some (.lst ds)=> match kd ds with
   |some xs=>.ok (.lst xs) (s.set n .gone)
   |none=>.bad
  |_=>.bad
 |d=>.ok d s
def alj(f:FE):FE:=fun ρ s=> (f ρ s).bind aug
theorem a3p{d:D}{Q:VK}(rl:Rel K as H s)(r:RD K as H v d)(h:Dn K (rD K) as H (aug d s) Q):Q v H:=by
 cases r with
 | @ref p n l hr=>
  have h1:Dn K (rD K) as H (match s[n]? with|some (O.lst ds)=> (match kd ds with|some xs=> R.ok (D.lst xs) (s.set n .gone)|none=>.bad)|_=> R.bad) Q:=h
  split at h1
  ·rename_i ds e
   split at h1
   ·rename_i xs q
    obtain⟨ha,vs,hv,rs⟩:=yo rl hr e
    have e2:=zb q
    subst e2
    refine h1 (.ref p) (as.cut n) H (ahb n) rl.frz (.da (.lst ?_ hv (rs.td.mono (ahb n))))
    rintro (z|z)
    ·obtain⟨i,hi⟩:=vp.mp z
     have hi':=ai9 hi
     have:n=i:=rl.nd n i p ha hi'
     subst this
     rw [cG]at hi
     simp at hi
    ·exact rl.hx p z (vp.mpr ⟨n,ha⟩)
   ·exact h1.elim
  ·exact h1.elim
 |da t=> exact Dn.now (Q:=Q) h rl (.da t)
 |ty n=> exact Dn.now (Q:=Q) h rl (.ty n)
 |fn a=> exact Dn.now (Q:=Q) h rl (.fn a)
 |tabF a=> exact Dn.now (Q:=Q) h rl (.tabF a)
 |con q r=> exact Dn.now (Q:=Q) h rl (.con q r)
 |frz q r=> exact Dn.now (Q:=Q) h rl (.frz q r)
theorem atb(h:RE X a fa):RE X a (alj fa):=by
 obtain⟨t,p,r⟩:=h.ex
 refine⟨_,p,fun as σ H ρ s Q rl en h=> ?_⟩
 exact r as σ H ρ s _ rl en (Dn.bind h fun d s1 as1 H1 v st1 rl1 r1 h1=> a3p rl1 r1 h1)
end
abbrev FF:=List D -> S -> R D
noncomputable def spF(K:ah)(n:Nat)(F:FF):Sp:=fun vs H Q _=> vs.length=n/\ ∃as ds s,Rel K as H s/\RDs K as H vs ds/\Dn K (rD K) as H (F ds s) Q
structure CalF (P:aW) (w:aY) (K:ah) (mg:Str -> Option af) (base:Heap) (x:Str) (k n:Nat) (F:FF):Prop where
 cal:Cal P w K mg base x k (spF K n F)
def jn(n:Nat)(F:FF)(f:FA):FE:=fun ρ s=> (f ρ s).bind fun ds s1=> if ds.length=n then F ds s1 else .bad
section
variable{X:Cx}{x:Str}{k n:Nat}{F:FF}{p pos:Pos}{e:Expr}{es:List Expr}{f:FA}
theorem jz(c:CalF X.prog X.w X.K X.mg X.base x k n F)(hr:Room k X.A)(ha:RA X (e::es) f)(hg:Gl X x:=by rfl)(hdb:(x==("__debug__":Str))=false:=by decide)
  (he:starEach (e::es) X.env=(false,eval e X.env)::starEach es X.env:=by rfl) (hpl:(backTo pos (starEach es X.env)).any (·.1)=false:=by rfl):RE X (.Call (.Name x p) (e::es) [] pos) (jn n F f):=by
 obtain⟨t,p,r⟩:=ha.ex
 refine⟨_,a6j c.cal hr p hg hdb he hpl,fun as σ H ρ s Q rl en h=> ?_⟩
 refine r as σ H ρ s _ rl en (Dn.bind h fun ds s1 as1 H1 vs st1 rl1 r1 h1=> ?_)
 split at h1
 ·rename_i hn
  refine⟨by rw [bj,r1.length];exact hn,as1,ds,s1,rl1,?_,h1⟩
  rw [bj];exact r1
 ·exact h1.elim
end
def j7(m:Nat)(fb:FS):FF:=fun ds s=> (fb (ds.map some++bD (m - ds.length) none) s).bind fun fl s1=> match fl with
 |.rt d=>.ok d s1
 |.nx _=>.ok .non s1
 |_=>.bad
theorem aen{ds:List D}(r:RDs K as H vs ds):Envs K as H (ds.map some++bD (N.length - ds.length) none) (L2.start N vs):=by
 unfold L2.start
 refine⟨by simp [r.length],fun i d h=> ?_⟩
 by_cases z:i < ds.length
 ·rw [aR (by simpa using z),aZ]at h
  cases q:ds[i]? with
  |none=> rw [q]at h;cases h
  |some x=>
   rw [q]at h
   cases h
   obtain⟨v,hv,rv⟩:=r.get q
   exact⟨v,by rw [aR (by rw [aj,r.length];exact z),aZ,hv];rfl,rv⟩
 ·rw [bq (by simpa using bN z),cS]at h
  split at h
  ·cases h
  ·cases h
section
variable{P:aW}{w:aY}{K:ah}{mg:Str -> Option af}{base:Heap}{x:Str}{st:Stmt}{N ps:List Str}{k:Nat}
theorem vg(h:Has K mg x st ps)(S:FnScope N ps (jj st)){m:Nat}(hm:N.length=m)(hn:ps.length=n)(hbody: ∀(f:Addr) (cdv:af) (A:bd) (outer:List Env) (s:ak) (H:Hp) (E:XK),Room k (A.deeper (envOfC x (jj st) s.heap.objs.size f cdv)) ->
   RSs (ab7 CX0 P w K mg base N x (jj st) f cdv A outer s H E).nox (va st) fb):CalF P w K mg base x (k+1) n (j7 m fb):=by
 refine⟨h.cal S (fun vs H Q E h=> by rw [hn];exact h.1) fun f cdv A outer s H vs Q E hr h=> ?_⟩
 obtain⟨hv,as,ds,s',rl,rs,h⟩:=h
 obtain⟨t,p,r⟩:=(hbody f cdv A outer s H E hr).ex
 refine⟨t,p,?_⟩
 have en:Envs K as H (ds.map some++bD (m - ds.length) none) (L2.start N vs):=by rw [←hm];exact aen rs
 refine r as _ H _ s' _ rl en (Dn.bind h fun fl s1 as1 H1 fv st1 rl1 r1 h1=> ?_)
 cases r1 with
 |nx e=> exact Dn.now (Q:=Q) h1 rl1 (.da .non)
 |rt e=> exact Dn.now (Q:=Q) h1 rl1 e
 |bk e=> exact h1.elim
 |ct e=> exact h1.elim
end
noncomputable def akt(K:ah):Sp:=fun vs H Q _=> ∃(a:Addr) (ns:List Int),vs=[.ref a]/\SqL K H a (ns.map V.int)/\ns.length <=63/\ ∀H',Q (.bl true) H'
theorem TDs.ints{as:As}{H:Hp}: ∀ns:List Int,TDs as H (ns.map V.int) (ns.map aP)
 |[]=>.nil
 |n::r=>.cons (.int n) (TDs.ints r)
end PF
namespace PF
open PySem PySem.Spec
open L2
section
variable{X:Cx}{pins:List (Addr×Obj)}{σ:St}{H:Hp}{s:ak}{as:As}
theorem as7{a:Addr}(I:Inv X pins σ H s)(e:H a=some (.dK [])):(a==dk)=false/\ ∃(o:Obj) (es:Array gp) (ep:Nat),s.heap.get? a=some o/\o.cls=.type "dict"/\o.data=.dict es ep/\es.toList=[]:=by
 obtain⟨_,hd,vs,rel,dd⟩:=aww I.hok e
 cases rel
 obtain⟨o,es,ep,h1,h2,h3,h4,h5⟩:=dd
 refine⟨hd,o,es,ep,h1,h2.1,h3,?_⟩
 cases h6:es.toList with
 |nil=> rfl
 |cons x r=> rw [h6]at h5;obtain⟨h5,_⟩:=h5;cases h5
theorem ayz{a:Addr}(I:Inv X pins σ H s)(e:H a=some (.dK [(.inl i,v)])):(a==dk)=false/\ ∃(o:Obj) (es:Array gp) (ep:Nat) (hs:Int) (t:Tok) (u:af),RelV v u/\s.heap.get? a=some o/\o.cls=.type "dict"/\o.data=.dict es ep/\es.toList=[⟨hs,.int i t,u⟩]:=by
 obtain⟨_,hd,vs,rel,dd⟩:=aww I.hok e
 cases rel with
 | @cons _ b _ _ r1 r2=>
  cases r2
  obtain⟨k,u⟩:=b
  obtain⟨r0,r1⟩:=r1
  obtain rfl:eI i=k:=r0
  obtain⟨o,es,ep,h1,h2,h3,h4,h5,_⟩:=dd
  refine⟨hd,o,es,ep,?_⟩
  cases h6:es.toList with
  |nil=> rw [h6]at h5;cases h5
  | cons x r=>
   rw [h6]at h5
   cases h5 with
   | cons k1 k2 k3=>
    cases k3
    obtain⟨hs,key,val⟩:=x
    rcases vf (k:=.inl i) (v:=key) k1 with ⟨j,t,e1,e2⟩|⟨y,t,e1,_⟩
    ·cases e1
     obtain rfl:key=dL i t:=e2
     obtain rfl:val=u:=k2
     exact⟨hs,t,val,r1,h1,h2.1,h3,rfl⟩
    ·cases e1
mutual
theorem TD.reads(I:Inv X pins σ H s): ∀{v:V} {d:ag} {u:af},TD as H v d -> RelV v u -> ∃bs,di s.heap u d bs
 |_,_,u,.non,r=> by cases (show u=cx from r);exact⟨_,.none⟩
 |_,_,u,.bl b,r=> by cases (show u=dX b from r);exact⟨_,.bool b⟩
 |_,_,u,.int i,r=> by obtain⟨t,e⟩:=(show∃t,u=dL i t from r);subst e;exact⟨_,.int i t⟩
 |_,_,u,.str x,r=> by obtain⟨t,e⟩:=(show∃t,u=eJ x t from r);subst e;exact⟨_,.str x t⟩
 |_,_,u,.tup (p:=a) (xs:=xs) n e q,r=> by
  cases (show u=bu a from r)
  obtain⟨z,its,rv,p⟩:=(show qi X.prog X.w H s.heap a (.tup xs) from I.hok a _ e)
  obtain⟨o,h1,h2,k,h3⟩:=p.tup
  obtain⟨bs,ra⟩:=TDs.reads I q rv
  exact⟨_,.tuple h1 h2 h3 ra⟩
 |_,_,u,.lst (p:=a) (xs:=xs) n e q,r=> by
  cases (show u=bu a from r)
  obtain⟨z,its,k,rv,h1⟩:=(show qi X.prog X.w H s.heap a (.lst xs) from I.hok a _ e)
  obtain⟨bs,ra⟩:=TDs.reads I q rv
  exact⟨_,.list h1 rfl rfl ra⟩
 |_,_,u,.dct (p:=a) n e,r=> by
  cases (show u=bu a from r)
  obtain⟨_,o,es,ep,h1,h2,h3,h4⟩:=as7 I e
  exact⟨_,.dict (kvs:=[]) h1 h2 h3 (by rw [h4];exact .nil) (by rw [h4];exact .nil)⟩
 |_,_,u,.dc1 (p:=a) (i:=i) (d:=d) n e q,r=> by
  cases (show u=bu a from r)
  obtain⟨_,o,es,ep,hs,t,y,ry,h1,h2,h3,h4⟩:=ayz I e
  obtain⟨bs,ra⟩:=TD.reads I q ry
  exact⟨_,.dict (kvs:=[(.int i,d)]) h1 h2 h3 (by rw [h4];exact .cons (.int i t) .nil) (by rw [h4];exact .cons ra .nil)⟩
theorem TDs.reads(I:Inv X pins σ H s): ∀{vs:List V} {ds:List ag} {us:List af},TDs as H vs ds -> ju vs us -> ∃bs,eE s.heap us ds bs
 |_,_,_,.nil,r=> by cases r;exact⟨_,.nil⟩
 | _,_,_,.cons a b,r=> by
  cases r with
  |cons r1 r2=>
   obtain⟨as,h1⟩:=TD.reads I a r1
   obtain⟨bs,h2⟩:=TDs.reads I b r2
   exact⟨_,.cons h1 h2⟩
end
def toP(s:S):D -> Option ag
 |.da d=> some d
 |.con ds=> some (.tuple ds)
 |.frz ds=> some (.list ds)
 |.ref n=> match s[n]? with
  |some (.lst ds)=> (kd ds).map fz
  |_=> none
 |_=> none
noncomputable def toL(s:S):D -> Option (List D)
 |.lst ds=> some (ds.map D.da)
 |.ref n=> match s[n]? with
  |some (.lst ds)=> some ds
  |_=> none
 |_=> none
theorem ab4{st:S}{d:D}{ds:List D}(rl:Rel K as H st)(r:RD K as H v d)(h:toL st d=some ds): ∃p xs,v=.ref p/\H p=some (.lst xs)/\RDs K as H xs ds:=by
 cases r with
 |da t=>
  cases t with
  |lst n e q=> cases h;exact⟨_,_,rfl,e,q.rd⟩
  |_=> cases h
 | @ref p n l hr=>
  have h:(match st[n]? with|some (O.lst ds)=> some ds|_=> none)=some ds:=h
  split at h
  ·rename_i ys e
   cases h
   obtain⟨_,xs,hx,rs⟩:=yo rl hr e
   exact⟨p,xs,rfl,hx,rs⟩
  ·cases h
 |_=> cases h
theorem RD.reads{st:S}{d:D}{pd:ag}{u:af}(I:Inv X pins σ H s)(rl:Rel X.K as H st)(r:RD X.K as H v d)(h:toP st d=some pd)(ru:RelV v u): ∃bs,di s.heap u pd bs:=by
 cases r with
 |da t=> cases h;exact t.reads I ru
 |con q rs=>
  cases h
  obtain⟨its,rv,⟨o,h1,h2,k,h3⟩,z⟩:=I.tuple (q H)
  obtain⟨bs,ra⟩:=rs.reads I rv
  cases ru
  exact⟨_,.tuple h1 h2 h3 ra⟩
 |frz q rs=>
  cases h
  obtain⟨its,rv,⟨o,k,h1,h2,h3,h4⟩,z⟩:=I.list (q as H (Step.refl _ _).toStep0)
  obtain⟨bs,ra⟩:=rs.reads I rv
  cases ru
  exact⟨_,.list h1 h2 h4 ra⟩
 | @ref p n l hr=>
  have h:(match st[n]? with|some (O.lst ds)=> (kd ds).map fz|_=> none)=some pd:=h
  split at h
  ·rename_i ds e
   cases q:kd ds with
   |none=> rw [q]at h;cases h
   |some xs=>
    rw [q]at h
    cases h
    have e2:=zb q
    subst e2
    obtain⟨_,vs,hv,rs⟩:=yo rl hr e
    obtain⟨z,its,k,rv,h1⟩:=(show qi X.prog X.w H s.heap p (.lst vs) from I.hok p _ hv)
    obtain⟨bs,ra⟩:=rs.td.reads I rv
    cases ru
    exact⟨_,.list h1 rfl rfl ra⟩
  ·cases h
 |_=> cases h
end
noncomputable def okD(d:ag):Bool:=d.canLay0&&decide (d.depth <=64)
theorem xl{f:af -> af -> Sem af}{g:D -> D -> S -> R D}(h: ∀(pins:List (Addr×Obj)) (sh:ak) (σ:St) (H:Hp) (as:As) (s:S) (x y:V) (dx dy:D) (v u:af) (Q:VK),Inv X pins σ H sh -> Rel X.K as H s -> RD X.K as H x dx -> RD X.K as H y dy -> RelV x v -> RelV y u ->
  Dn X.K (rD X.K) as H (g dx dy s) Q -> wpAny (model X.prog X.w) X.A (f v u) (EP X pins σ Q) X.xe sh):Op2 X f g:=
 ⟨fun x y H Q=> ∃as s dx dy,Rel X.K as H s/\RD X.K as H x dx/\RD X.K as H y dy/\Dn X.K (rD X.K) as H (g dx dy s) Q,
  fun pins sh σ H x y v u Q I rx ry ⟨as,s,dx,dy,rl,r1,r2,q⟩=> h pins sh σ H as s x y dx dy v u Q I rl r1 r2 rx ry q,
  fun as H s x y dx dy Q rl r1 r2 q=> ⟨as,s,dx,dy,rl,r1,r2,q⟩⟩
def apo(dx dy:D)(s:S):R D:=match toP s dx,toP s dy with
 |some a,some b=> if okD a=true/\okD b=true then .ok (.bl (aJ a b)) s else .bad
 |_,_=>.bad
def aph(dx dy:D)(s:S):R D:=match toP s dx,toP s dy with
 |some a,some b=> if okD a=true/\okD b=true then .ok (.bl (!PyData.eqv a b)) s else .bad
 |_,_=>.bad
def gEq(dx dy:D)(s:S):R D:=match dx,dy with
 |.str x,.str y=>.ok (.bl (decide (x=y))) s
 |dx,dy=> apo dx dy s
def gNe(dx dy:D)(s:S):R D:=match dx,dy with
 |.str x,.str y=>.ok (.bl (!decide (x=y))) s
 |dx,dy=> aph dx dy s
theorem zi{d:ag}(h:okD d=true):d.canLay0=true/\d.depth <=64:=by
 unfold okD at h
 rw [aF]at h
 exact⟨h.1,of_decide_eq_true h.2⟩
theorem a4q(hu:X.A.units+64 < cLine):Op2 X (aN .Eq) apo:=xl fun pins sh σ H as s x y dx dy v u Q I rl r1 r2 rx ry h=> by
 unfold apo at h
 split at h
 ·rename_i a b ea eb
  split at h
  ·rename_i hok
   obtain⟨bs1,q1⟩:=r1.reads I rl ea rx
   obtain⟨bs2,q2⟩:=r2.reads I rl eb ry
   obtain⟨c1,d1⟩:=zi hok.1
   obtain⟨c2,d2⟩:=zi hok.2
   exact SeqAt.compareEq_reads q1 q2 c1 c2 (by lia) ⟨.bl _,H,I,rfl,Dn.now (Q:=Q) h rl (.da (.bl _))⟩
  ·exact h.elim
 ·exact h.elim
theorem a4u(hu:X.A.units+64 < cLine):Op2 X (aN .NotEq) aph:=xl fun pins sh σ H as s x y dx dy v u Q I rl r1 r2 rx ry h=> by
 unfold aph at h
 split at h
 ·rename_i a b ea eb
  split at h
  ·rename_i hok
   obtain⟨bs1,q1⟩:=r1.reads I rl ea rx
   obtain⟨bs2,q2⟩:=r2.reads I rl eb ry
   obtain⟨c1,d1⟩:=zi hok.1
   obtain⟨c2,d2⟩:=zi hok.2
   exact SeqAt.compareNe_reads q1 q2 c1 c2 (by lia) ⟨.bl _,H,I,rfl,Dn.now (Q:=Q) h rl (.da (.bl _))⟩
  ·exact h.elim
 ·exact h.elim
theorem ao4(x y:Str):decide (V.str x=V.str y)=decide (x=y):=by
 rw [bm,decide_eq_true_eq,decide_eq_true_eq,V.str.injEq]
theorem ae6(h:RD K as H v (.str x)):v=.str x:=by
 cases h with|da t=> cases t;rfl
theorem qo(hu:X.A.units+64 < cLine):Op2 X (aN .Eq) gEq:=xl fun pins sh σ H as s x y dx dy v u Q I rl r1 r2 rx ry h=> by
 unfold gEq at h
 split at h
 ·cases ae6 r1;cases ae6 r2
  exact a4e pins sh σ H _ _ v u Q I rx ry ⟨rfl,by rw [ao4];exact Dn.now (Q:=Q) h rl (.da (.bl _))⟩
 ·obtain⟨r,ho,hr⟩:=(a4q (X:=X) hu).ex
  exact ho pins sh σ H x y v u Q I rx ry (hr as H s x y _ _ Q rl r1 r2 h)
theorem aqo(hu:X.A.units+64 < cLine):Op2 X (aN .NotEq) gNe:=xl fun pins sh σ H as s x y dx dy v u Q I rl r1 r2 rx ry h=> by
 unfold gNe at h
 split at h
 ·cases ae6 r1;cases ae6 r2
  exact a4x pins sh σ H _ _ v u Q I rx ry ⟨rfl,by rw [ao4];exact Dn.now (Q:=Q) h rl (.da (.bl _))⟩
 ·obtain⟨r,ho,hr⟩:=(a4u (X:=X) hu).ex
  exact ho pins sh σ H x y v u Q I rx ry (hr as H s x y _ _ Q rl r1 r2 h)
noncomputable def arv:ag -> Option (List ag)
 |.list ds=> some ds
 |.tuple ds=> some ds
 |_=> none
noncomputable def nb(n b:Bool):Bool:=match n with
 |true=> !b
 |false=> b
def auj(neg:Bool)(dx dy:D)(s:S):R D:=match toP s dx,(toP s dy).bind arv with
 |some a,some ds=> if okD a=true/\ds.all okD=true then .ok (.bl (nb neg (ds.any fun d=> aJ d a))) s else .bad
 |_,_=>.bad
def aut(neg:Bool)(dx dy:D)(s:S):R D:=match dx,dy with
 |.str a,.str b=>.ok (.bl (nb neg (!(cR b a 0 b.length 1).isEmpty))) s
 |dx,dy=> auj neg dx dy s
open Classical in
theorem ax5{sh:ak}{v:af}{a:ag}{bs:List Addr}(ra:di sh.heap v a bs)(ha:okD a=true)(hu:A.units+64 < cLine){us:List af}{ds:List ag}{cs:List Addr}(h:eE sh.heap us ds cs)(hd:ds.all okD=true):
  ∃e:af -> Bool,(∀y∈us,gY A sh y v (e y))/\us.any e=ds.any fun d=> aJ d a:=by
 refine⟨fun y=> decide (∃d cs,di sh.heap y d cs/\aJ d a=true),?_⟩
 have one: ∀{y:af} {d:ag} {cs:List Addr},di sh.heap y d cs -> decide (∃d cs,di sh.heap y d cs/\aJ d a=true)=aJ d a:=fun {y d cs} r=> by
  (rw [bm,decide_eq_true_eq])
  constructor
  ·rintro⟨d',cs',r',e⟩
   obtain⟨q,_⟩:=PyProof.Rows.reads_det (fun _ _ e _=> e) r r'
   subst q;exact e
  ·exact fun e=> ⟨d,cs,r,e⟩
 induction us generalizing ds cs with
 |nil=>
  cases h
  exact⟨fun _ z=> (by cases z),rfl⟩
 | cons u us ih=>
  cases h with
  | cons r rs=>
   rw [er,aF]at hd
   obtain⟨i1,i2⟩:=ih rs hd.2
   obtain⟨l1,m1⟩:=zi hd.1
   obtain⟨l2,m2⟩:=zi ha
   refine⟨fun y hy=> ?_,?_⟩
   ·rcases aw.mp hy with z|z
    ·subst z
     show gY A sh y v (decide (∃d cs,di sh.heap y d cs/\aJ d a=true))
     rw [one r]
     exact SeqAt.eqAt_reads _ _ A sh _ _ _ _ r ra l1 l2 (by lia)
    ·exact i1 y z
   ·rw [hX,hX,i2,one r]
theorem atn(A:bd):A.in1.units <=A.units+1:=by
 show (A.in1).units <=A.units+1
 first|exact ao _|(unfold Around.in1;simp)|simp [Around.in1]
theorem a3l(neg:Bool){op:ip}(hop:(neg=false/\op=.In)\/(neg=true/\op=.NotIn))(hu:X.A.units+65 < cLine):Op2 X (aN op) (auj neg):=xl fun pins sh σ H as s x y dx dy v u Q I rl r1 r2 rx ry h=> by
 unfold auj at h
 split at h
 ·rename_i a ds ea ed
  split at h
  ·rename_i hok
   obtain⟨bs1,q1⟩:=r1.reads I rl ea rx
   cases e2:toP s dy with
   |none=> rw [e2]at ed;cases ed
   | some pd=>
    rw [e2]at ed
    have ed:arv pd=some ds:=ed
    obtain⟨bs2,q2⟩:=r2.reads I rl e2 ry
    have hin:=atn X.A
    cases q2 with
    | list k1 k2 k3 k4=>
     cases ed
     obtain⟨e,he,ha⟩:=ax5 (A:=X.A.in1) q1 hok.1 (by lia) k4 hok.2
     rcases hop with ⟨rfl,rfl⟩|⟨rfl,rfl⟩
     ·refine SeqAt.in_listAt e ⟨_,k1,k2,_,k3⟩ (fun y hy=> he y (by simpa using hy)) ⟨.bl _,H,I,rfl,?_⟩
      rw [←eG,ha]
      exact Dn.now (Q:=Q) h rl (.da (.bl _))
     ·refine SeqAt.notIn_listAt e ⟨_,k1,k2,_,k3⟩ (fun y hy=> he y (by simpa using hy)) ⟨.bl _,H,I,rfl,?_⟩
      rw [←eG,ha]
      exact Dn.now (Q:=Q) h rl (.da (.bl _))
    | tuple k1 k2 k3 k4=>
     cases ed
     obtain⟨e,he,ha⟩:=ax5 (A:=X.A.in1) q1 hok.1 (by lia) k4 hok.2
     rcases hop with ⟨rfl,rfl⟩|⟨rfl,rfl⟩
     ·refine SeqAt.in_tupleAt e ⟨_,k1,k2,_,k3⟩ (fun y hy=> he y (by simpa using hy)) ⟨.bl _,H,I,rfl,?_⟩
      rw [←eG,ha]
      exact Dn.now (Q:=Q) h rl (.da (.bl _))
     ·refine SeqAt.notIn_tupleAt e ⟨_,k1,k2,_,k3⟩ (fun y hy=> he y (by simpa using hy)) ⟨.bl _,H,I,rfl,?_⟩
      rw [←eG,ha]
      exact Dn.now (Q:=Q) h rl (.da (.bl _))
    |_=> cases ed
  ·exact h.elim
 ·exact h.elim
theorem a53(neg:Bool){op:ip}(hop:(neg=false/\op=.In)\/(neg=true/\op=.NotIn))(hu:X.A.units+65 < cLine):Op2 X (aN op) (aut neg):=xl fun pins sh σ H as s x y dx dy v u Q I rl r1 r2 rx ry h=> by
 unfold aut at h
 split at h
 ·rename_i a b
  cases r2.str_inv
  cases r1.str_inv
  rcases hop with ⟨rfl,rfl⟩|⟨rfl,rfl⟩
  ·exact asx pins sh σ H _ _ v u Q I rx ry ⟨a,b,rfl,rfl,Dn.now (Q:=Q) h rl (.da (.bl _))⟩
  ·exact amw pins sh σ H _ _ v u Q I rx ry ⟨a,b,rfl,rfl,Dn.now (Q:=Q) h rl (.da (.bl _))⟩
 ·obtain⟨r,ho,hr⟩:=(a3l (X:=X) neg hop hu).ex
  exact ho pins sh σ H x y v u Q I rx ry (hr as H s x y _ _ Q rl r1 r2 h)
abbrev gIn:=aut false
theorem ail(hu:X.A.units+65 < cLine):Op2 X (aN .In) gIn:=a53 false (.inl ⟨rfl,rfl⟩) hu
def kh(m:Bool)(dx dy:D)(s:S):R D:=match dx,dy with
 |.int i,.int j=>.ok (.int (i+j)) s
 |.bl b,.int j=>.ok (.int (b01 b+j)) s
 |.str a,.str b=> if a.length+b.length <=sizeLine then .ok (.str (a++b)) s else .bad
 |.tup xs,.tup ys=> if xs.length+ys.length <=sizeLine then .ok (.tup (xs++ys)) s else .bad
 |dx,dy=> match toL s dx,toL s dy with
  |some xs,some ys=> if xs.length+ys.length <=sizeLine then xg m (xs++ys) s else .bad
  |_,_=>.bad
theorem RD.tup_inv{ds:List ag}(h:RD K as H v (.tup ds)): ∃p xs,v=.ref p/\ ¬as.has p/\H p=some (.tup xs)/\TDs as H xs ds:=by
 cases h with|da t=> cases t with|tup n e r=> exact⟨_,_,rfl,n,e,r⟩
theorem RD.lst_inv{ds:List ag}(h:RD K as H v (.lst ds)): ∃p xs,v=.ref p/\ ¬as.has p/\H p=some (.lst xs)/\TDs as H xs ds:=by
 cases h with|da t=> cases t with|lst n e r=> exact⟨_,_,rfl,n,e,r⟩
theorem qh(m:Bool):Op2 X (binaryOp .Add) (kh m):=xl fun pins sh σ H as s x y dx dy v u Q I rl r1 r2 rx ry h=> by
 unfold kh at h
 split at h
 ·rename_i i j
  cases r1.int_inv;cases r2.int_inv
  exact ar3 pins sh σ H _ _ v u Q I rx ry ⟨i,j,rfl,rfl,Dn.now (Q:=Q) h rl (.da (.int _))⟩
 ·rename_i b j
  cases r1.bl_inv;cases r2.int_inv
  exact azy pins sh σ H _ _ v u Q I rx ry ⟨b01 b,j,rfl,rfl,Dn.now (Q:=Q) h rl (.da (.int _))⟩
 ·rename_i a b
  split at h
  ·rename_i hz
   cases r1.str_inv;cases r2.str_inv
   exact ap6 pins sh σ H _ _ v u Q I rx ry ⟨a,b,rfl,rfl,hz,Dn.now (Q:=Q) h rl (.da (.str _))⟩
  ·exact h.elim
 ·rename_i xs ys
  split at h
  ·rename_i hz
   obtain⟨p,vs,rfl,n1,e1,t1⟩:=r1.tup_inv
   obtain⟨q,ws,rfl,n2,e2,t2⟩:=r2.tup_inv
   refine avj pins sh σ H _ _ v u Q I rx ry ⟨p,q,vs,ws,rfl,rfl,SqT.of e1,SqT.of e2,by rw [t1.length,t2.length];exact hz,fun e=> ?_,fun _ e=> ?_,fun _ _ r H' n=> ?_⟩
   ·subst e
    cases t1
    exact Dn.now (Q:=Q) h rl (.da (.tup n2 e2 t2))
   ·subst e
    cases t2
    rw [bj]at h
    exact Dn.now (Q:=Q) h rl (.da (.tup n1 e1 t1))
   ·exact h (.ref r) as H' (km n) (rl.new n) (.da (.tup (fun z=> rl.has z n.no) n.at ((t1.append t2).mono (km n))))
  ·exact h.elim
 ·split at h
  ·rename_i xs ys e1 e2
   split at h
   ·rename_i hz
    obtain⟨p,vs,rfl,h1,t1⟩:=ab4 rl r1 e1
    obtain⟨q,ws,rfl,h2,t2⟩:=ab4 rl r2 e2
    exact az6 pins sh σ H _ _ v u Q I rx ry ⟨p,q,vs,ws,rfl,rfl,h1,h2,by rw [t1.length,t2.length];exact hz,fun r H' n=> abn h rl (t1.append t2) n⟩
   ·exact h.elim
  ·exact h.elim
def ad3(dx dy:D)(s:S):R D:=match dx,dy with
 |.int i,.int j=>.ok (.int (i - j)) s
 |.bl b,.int j=>.ok (.int (b01 b - j)) s
 |.int i,.bl b=>.ok (.int (i - b01 b)) s
 |_,_=>.bad
theorem aq8:Op2 X (binaryOp .Sub) ad3:=xl fun pins sh σ H as s x y dx dy v u Q I rl r1 r2 rx ry h=> by
 unfold ad3 at h
 split at h
 ·rename_i i j
  cases r1.int_inv;cases r2.int_inv
  exact alc pins sh σ H _ _ v u Q I rx ry ⟨i,j,rfl,rfl,Dn.now (Q:=Q) h rl (.da (.int _))⟩
 ·rename_i b j
  cases r1.bl_inv;cases r2.int_inv
  exact a02 pins sh σ H _ _ v u Q I rx ry ⟨b01 b,j,rfl,rfl,Dn.now (Q:=Q) h rl (.da (.int _))⟩
 ·rename_i i b
  cases r1.int_inv;cases r2.bl_inv
  exact azo pins sh σ H _ _ v u Q I rx ry ⟨i,b01 b,rfl,rfl,Dn.now (Q:=Q) h rl (.da (.int _))⟩
 ·exact h.elim
instance (i j:Int):Decidable (aie i j):=by unfold aie;infer_instance
instance (i j:Int):Decidable (aqs i j):=by unfold aqs;infer_instance
instance (i j:Int):Decidable (apr i j):=by unfold apr;infer_instance
noncomputable def gI2(C:Int -> Int -> Prop)[∀i j,Decidable (C i j)](f:Int -> Int -> Int)(dx dy:D)(s:S):R D:=match dx,dy with
 |.int i,.int j=> if C i j then .ok (.int (f i j)) s else .bad
 |_,_=>.bad
theorem akr{op:f6}{C:Int -> Int -> Prop}[∀i j,Decidable (C i j)]{f:Int -> Int -> Int}(o:OpR X (binaryOp op) (rI C fun i j=>.int (f i j))):Op2 X (binaryOp op) (gI2 C f):=xl fun pins sh σ H as s x y dx dy v u Q I rl r1 r2 rx ry h=> by
 unfold gI2 at h
 split at h
 ·rename_i i j
  split at h
  ·rename_i hc
   cases r1.int_inv;cases r2.int_inv
   exact o pins sh σ H _ _ v u Q I rx ry ⟨i,j,rfl,rfl,hc,Dn.now (Q:=Q) h rl (.da (.int _))⟩
  ·exact h.elim
 ·exact h.elim
def ab8:D -> D -> S -> R D:=gI2 aie fun i j=> i*j
def afs:D -> D -> S -> R D:=gI2 aqs fun i j=> i/j
def aa5:D -> D -> S -> R D:=gI2 (fun _ j=> 0 < j) fun i j=> i % j
def api:D -> D -> S -> R D:=gI2 apr fun i j=> i^j.toNat
theorem ahn:Op2 X (binaryOp .Mult) ab8:=akr a1l
theorem al0:Op2 X (binaryOp .FloorDiv) afs:=akr ayk
theorem aem:Op2 X (binaryOp .Mod) aa5:=akr a14
theorem a5j:Op2 X (binaryOp .Pow) api:=akr a1s
noncomputable def gC2(f:Int -> Int -> Bool)(dx dy:D)(s:S):R D:=match dx,dy with
 |.int i,.int j=>.ok (.bl (f i j)) s
 |_,_=>.bad
theorem apz{op:ip}{f:Int -> Int -> Bool}(o:OpR X (aN op) (rI0 fun i j=>.bl (f i j))):Op2 X (aN op) (gC2 f):=xl fun pins sh σ H as s x y dx dy v u Q I rl r1 r2 rx ry h=> by
 unfold gC2 at h
 split at h
 ·rename_i i j
  cases r1.int_inv;cases r2.int_inv
  exact o pins sh σ H _ _ v u Q I rx ry ⟨i,j,rfl,rfl,Dn.now (Q:=Q) h rl (.da (.bl _))⟩
 ·exact h.elim
def gLe:D -> D -> S -> R D:=gC2 fun i j=> decide (i <=j)
def gGt:D -> D -> S -> R D:=gC2 fun i j=> decide (j < i)
def gGe:D -> D -> S -> R D:=gC2 fun i j=> decide (j <=i)
noncomputable def gLt(dx dy:D)(s:S):R D:=match dx,dy with
 |.int i,.int j=>.ok (.bl (decide (i < j))) s
 |.str a,.str b=>.ok (.bl (decide (a.cps.toList < b.cps.toList))) s
 |_,_=>.bad
theorem aa6:Op2 X (aN .LtE) gLe:=apz a4o
theorem aqd:Op2 X (aN .Gt) gGt:=apz a5d
theorem aua:Op2 X (aN .GtE) gGe:=apz a5a
theorem a2i:Op2 X (aN .Lt) gLt:=xl fun pins sh σ H as s x y dx dy v u Q I rl r1 r2 rx ry h=> by
 unfold gLt at h
 split at h
 ·rename_i i j
  cases r1.int_inv;cases r2.int_inv
  exact a4s pins sh σ H _ _ v u Q I rx ry ⟨i,j,rfl,rfl,Dn.now (Q:=Q) h rl (.da (.bl _))⟩
 ·rename_i a b
  cases r1.str_inv;cases r2.str_inv
  exact ary pins sh σ H _ _ v u Q I rx ry ⟨a,b,rfl,rfl,Dn.now (Q:=Q) h rl (.da (.bl _))⟩
 ·exact h.elim
noncomputable def isN:D -> Bool
 |.non=> true
 |_=> false
theorem a5v{d:D}(r:RD K as H v d):decide (v=.non)=isN d:=by
 cases r with
 |da t=> cases t <;> rfl
 |_=> rfl
def gIs(dx dy:D)(s:S):R D:=match dy with
 |.non=>.ok (.bl (isN dx)) s
 |_=>.bad
theorem RD.non_inv(h:RD K as H v .non):v=.non:=by
 cases h with|da t=> cases t;rfl
theorem auq:Op2 X (aN .Is) gIs:=xl fun pins sh σ H as s x y dx dy v u Q I rl r1 r2 rx ry h=> by
 unfold gIs at h
 split at h
 ·cases r2.non_inv
  refine a34 pins sh σ H _ _ v u Q I rx ry ⟨rfl,?_⟩
  rw [a5v r1]
  exact Dn.now (Q:=Q) h rl (.da (.bl _))
 ·exact h.elim
def ae1(f:FE):FE:=fun ρ s=> (f ρ s).bind fun d s1=> match d with
 |.int i=>.ok (.int (-i)) s1
 |_=>.bad
theorem aci{a:Expr}{fa:FE}(h:RE X a fa):RE X (.UnaryOp .USub a pos) (ae1 fa):=by
 obtain⟨t,p,r⟩:=h.ex
 refine⟨_,a4m a2g p,fun as σ H ρ s Q rl en h=> ?_⟩
 refine r as σ H ρ s _ rl en (Dn.bind h fun d s1 as1 H1 v st1 rl1 r1 h1=> ?_)
 split at h1
 ·cases r1.int_inv
  exact⟨_,rfl,Dn.now (Q:=Q) h1 rl1 (.da (.int _))⟩
 ·exact h1.elim
noncomputable def ah1(s:S):D -> Option (List D)
 |.lst ds=> some (ds.map D.da)
 |.tup ds=> some (ds.map D.da)
 |.con ds=> some (ds.map D.da)
 |.frz ds=> some (ds.map D.da)
 |.ref n=> match s[n]? with
  |some (.lst ds)=> some ds
  |_=> none
 |_=> none
theorem ad9{d:D}{ds:List D}(rl:Rel K as H s)(r:RD K as H v d)(h:ah1 s d=some ds): ∃p xs,v=.ref p/\(SqL K H p xs\/SqT K H p xs)/\RDs K as H xs ds:=by
 cases r with
 |da t=>
  cases t with
  |lst n e q=> cases h;exact⟨_,_,rfl,.inl (SqL.of e),q.rd⟩
  |tup n e q=> cases h;exact⟨_,_,rfl,.inr (SqT.of e),q.rd⟩
  |_=> cases h
 |con q r=> cases h;exact⟨_,_,rfl,.inr (q H),r.rd⟩
 |frz q r=> cases h;exact⟨_,_,rfl,.inl (q as H (Step.refl _ _).toStep0),r.rd⟩
 | @ref p n l hr=>
  have h:(match s[n]? with|some (O.lst ds)=> some ds|_=> none)=some ds:=h
  split at h
  ·rename_i ys e
   cases h
   obtain⟨_,xs,hx,rs⟩:=yo rl hr e
   exact⟨p,xs,rfl,.inl (SqL.of hx),rs⟩
  ·cases h
 |_=> cases h
theorem RDs.atI{xs:List V}{ds:List D}{d:D}(r:RDs K as H xs ds)(h:atI ds i=some d): ∃v,atI xs i=some v/\RD K as H v d:=by
 unfold L2.atI at h⊢
 rw [r.length]
 cases q:ixN ds.length i with
 |none=> rw [q]at h;cases h
 |some j=>
  rw [q]at h
  obtain⟨v,hv,rv⟩:=r.get (show ds[j]?=some d from h)
  exact⟨v,hv,rv⟩
def gIx(dx dy:D)(s:S):R D:=match dx,dy with
 | .str z,.int i=> if z.length <=sizeLine then match atI z.cps.toList i with
   |some c=>.ok (.str ⟨#[c]⟩) s
   |none=>.bad
  else .bad
 | dx,.int i=> match ah1 s dx with
  |some ds=> match atI ds i with
   |some d=>.ok d s
   |none=>.bad
  |none=>.bad
 |_,_=>.bad
theorem a2v:amk K (rIx K) gIx:=by
 intro as H s x y dx dy Q rl r1 r2 h
 unfold gIx at h
 split at h
 ·rename_i z i
  cases r1.str_inv;cases r2.int_inv
  split at h
  ·rename_i hz
   split at h
   ·rename_i c e
    exact .inr (.inr ⟨z,i,c,rfl,rfl,hz,e,Dn.now (Q:=Q) h rl (.da (.str _))⟩)
   ·exact h.elim
  ·exact h.elim
 ·rename_i i _
  cases r2.int_inv
  split at h
  ·rename_i ds e
   split at h
   ·rename_i d e2
    obtain⟨p,xs,rfl,sq,rs⟩:=ad9 rl r1 e
    obtain⟨v,hv,rv⟩:=rs.atI e2
    rcases sq with sq|sq
    ·exact .inl ⟨p,xs,i,v,rfl,rfl,sq,hv,Dn.now (Q:=Q) h rl rv⟩
    ·exact .inr (.inl ⟨p,xs,i,v,rfl,rfl,sq,hv,Dn.now (Q:=Q) h rl rv⟩)
   ·exact h.elim
  ·exact h.elim
 ·exact h.elim
theorem jo{a b:Expr}{fa fb:FE}(ha:RE X a fa)(hb:RE X b fb)(hs:aov b:=by exact fun _ _=> rfl):RE X (.Subscript a b pos) (fOp gIx fa fb):=by
 obtain⟨ta,pa,ra⟩:=ha.ex
 obtain⟨tb,pb,rb⟩:=hb.ex
 exact⟨_,a5m a19 pa pb hs,ahh a2v ra rb⟩
def qd{α:Type}(xs:List α)(lo hi:Option Int):List α:=(xs.drop (HT.sIx xs.length 0 lo)).take (HT.sIx xs.length xs.length hi - HT.sIx xs.length 0 lo)
theorem RDs.cut{xs:List V}{ds:List D}(r:RDs K as H xs ds)(lo hi:Option Int):RDs K as H (y6 xs lo hi) (qd ds lo hi):=by
 unfold y6 qd
 rw [r.length]
 exact (r.drop _).take _
theorem TDs.cut{xs:List V}{ds:List ag}(r:TDs as H xs ds)(lo hi:Option Int):TDs as H (y6 xs lo hi) (qd ds lo hi):=by
 unfold y6 qd
 rw [r.length]
 exact (r.drop _).take _
noncomputable def avm(z:Str)(lo hi:Option Int):Str:=if ((df lo hi 1 z.length).length==z.length)=true then z else ⟨((df lo hi 1 z.length).filterMap (z.cps[·]?)).toArray⟩
def a6c:V -> Option Int -> Option Int -> Hp -> VK -> Prop:=fun x lo hi H Q=> ∃z,x=.str z/\z.length <=sizeLine/\Q (.str (avm z lo hi)) H
theorem ay9:SlR X a6c:=by
 intro pins s σ H x v vl vu lo hi sl Q I rx hs pl pu h
 obtain⟨z,rfl,hz,q⟩:=h
 obtain⟨t,rfl⟩:=rx
 obtain⟨l,rfl,el⟩:=part_of pl
 obtain⟨u,rfl,eu⟩:=part_of pu
 refine⟨"str",_,PySem.F.slot_str_getitem.lookup,rfl,?_⟩
 have hs':s.heap.IsSlice sl l u none:=by
  obtain⟨o,ho,hc,hd⟩:=hs
  exact⟨o,ho,hc,hd⟩
 refine wpAny_getItem_str_slice hs' rfl ?_
 have ep:eo z l u none=df lo hi 1 z.length:=by
  unfold eo
  rw [el,eu];rfl
 have hlen:(eo z l u none).length <=z.length:=sliceIndices_le _ _ _
 have hfl:((eo z l u none).filterMap (z.cps[·]?)).length <=z.length:=aQ (List.length_filterMap_le _ _) hlen
 unfold avm at q
 rw [←ep]at q
 unfold sliceMade
 split
 ·rename_i c
  rw [if_pos (by simpa using c)]at q
  exact⟨.str z,H,I,⟨t,rfl⟩,q⟩
 ·rename_i c
  rw [if_neg (by simpa using c)]at q
  have len:(⟨((eo z l u none).filterMap (z.cps[·]?)).toArray⟩:Str).length <=z.length:=by
   show (((eo z l u none).filterMap (z.cps[·]?)).toArray).size <=z.length
   rw [au];exact hfl
  exact⟨aQ len hz,.str _,H,I.tok _,⟨_,rfl⟩,q⟩
def gSl(m:Bool)(d:D)(lo hi:Option Int)(s:S):R D:=match d with
 |.str z=> if z.length <=sizeLine then .ok (.str (avm z lo hi)) s else .bad
 |.tup ds=>.ok (.tup (qd ds lo hi)) s
 |.frz ds=> xg m (qd (ds.map D.da) lo hi) s
 |d=> match toL s d with
  |some ds=> xg m (qd ds lo hi) s
  |none=>.bad
abbrev FO:=En -> S -> R (Option Int)
noncomputable def fNo:FO:=fun _ s=>.ok none s
def ko(f:FE):FO:=fun ρ s=> (f ρ s).bind fun d s1=> match d with
 |.int i=>.ok (some i) s1
 |_=>.bad
def a5z(K:ah)(t:TO)(f:FO):Prop:= ∀as σ H ρ s Q,Rel K as H s -> Envs K as H ρ σ -> Dn K (fun _ _ (b a:Option Int)=> b=a) as H (f ρ s) Q -> t σ H Q
structure ROp (X:Cx) (e:Option Expr) (f:FO):Prop where
 ex: ∃t,PO X e t/\a5z X.K t f
theorem vk:ROp X none fNo:=⟨_,a0e,fun as σ H ρ s Q rl en h=> Dn.now (Q:=Q) h rl rfl⟩
theorem kn{a:Expr}{fa:FE}(h:RE X a fa):ROp X (some a) (ko fa):=by
 obtain⟨t,p,r⟩:=h.ex
 refine⟨_,azz p,fun as σ H ρ s Q rl en h=> ?_⟩
 refine r as σ H ρ s _ rl en (Dn.bind h fun d s1 as1 H1 v st1 rl1 r1 h1=> ?_)
 split at h1
 ·cases r1.int_inv
  exact⟨_,rfl,Dn.now (Q:=Q) h1 rl1 rfl⟩
 ·exact h1.elim
def fSl(m:Bool)(f:FE)(lo hi:FO):FE:=fun ρ s=> (f ρ s).bind fun d s1=> (lo ρ s1).bind fun l s2=> (hi ρ s2).bind fun u s3=> gSl m d l u s3
theorem kr(m:Bool){a:Expr}{lo hi:Option Expr}{fa:FE}{fl fu:FO}{p2:Pos}(ha:RE X a fa)(hl:ROp X lo fl)(hu:ROp X hi fu):RE X (.Subscript a (.Slice lo hi none p2) pos) (fSl m fa fl fu):=by
 obtain⟨ta,pa,ra⟩:=ha.ex
 obtain⟨tl,pl,rl'⟩:=hl.ex
 obtain⟨tu,pu,ru⟩:=hu.ex
 refine⟨_,av2 (ay9.or (az4.or auz)) pa pl pu,fun as σ H ρ s Q rl en h=> ?_⟩
 refine ra as σ H ρ s _ rl en (Dn.bind h fun d s1 as1 H1 v st1 rl1 r1 h1=> ?_)
 refine rl' as1 σ H1 ρ s1 _ rl1 (en.mono st1) (Dn.bind h1 fun l s2 as2 H2 l' st2 rl2 e2 h2=> ?_)
 have e2:l'=l:=e2
 subst e2
 refine ru as2 σ H2 ρ s2 _ rl2 ((en.mono st1).mono st2) (Dn.bind h2 fun u s3 as3 H3 u' st3 rl3 e3 h3=> ?_)
 have e3:u'=u:=e3
 subst e3
 have r1:=(r1.mono st2).mono st3
 unfold gSl at h3
 split at h3
 ·cases r1.str_inv
  split at h3
  ·rename_i hz
   exact .inl ⟨_,rfl,hz,Dn.now (Q:=Q) h3 rl3 (.da (.str _))⟩
  ·exact h3.elim
 ·obtain⟨p,xs,rfl,n,e,t⟩:=r1.tup_inv
  refine .inr (.inl ⟨p,xs,rfl,SqT.of e,fun c=> ?_,fun q H' nw=> ?_⟩)
  ·have t2:=t.cut l' u'
   rw [c]at t2
   exact Dn.now (Q:=Q) h3 rl3 (.da (.tup n e t2))
  ·exact h3 (.ref q) as3 H' (km nw) (rl3.new nw) (.da (.tup (fun z=> rl3.has z nw.no) nw.at ((t.cut l' u').mono (km nw))))
 ·cases r1 with
  |frz q t=> exact .inr (.inr ⟨_,_,rfl,q as3 H3 (Step.refl _ _).toStep0,fun r H' nw=> abn h3 rl3 (t.rd.cut l' u') nw⟩)
 ·split at h3
  ·rename_i ds e
   obtain⟨p,xs,rfl,hx,rs⟩:=ab4 rl3 r1 e
   exact .inr (.inr ⟨p,xs,rfl,SqL.of hx,fun r H' nw=> abn h3 rl3 (rs.cut l' u') nw⟩)
  ·exact h3.elim
def ad4(d:D)(s:S):R Bool:=match d with
 |.non=>.ok false s
 |.bl b=>.ok b s
 |.int i=>.ok (i !=0) s
 |.str z=> if z.length <=sizeLine then .ok ((z.length:Int) !=0) s else .bad
 |d=> match ah1 s d with
  |some ds=>.ok (!ds.isEmpty) s
  |none=>.bad
def vo(f:FE):FT:=fun ρ s=> (f ρ s).bind ad4
theorem RDs.empty{xs:List V}{ds:List D}(r:RDs K as H xs ds):xs.isEmpty=ds.isEmpty:=by cases r <;> rfl
theorem qw{a:Expr}{fa:FE}(h:RE X a fa)(he: ∀whole,isTrue a X.env whole=(do let v←whole;standAt a.pos;holding [v] (truthy v)):=by exact fun _=> rfl):RT X a (vo fa):=by
 obtain⟨t,p,r⟩:=h.ex
 refine⟨_,av9 p he,fun as σ H ρ s Q rl en h=> ?_⟩
 refine r as σ H ρ s _ rl en (Dn.bind h fun d s1 as1 H1 v st1 rl1 r1 h1=> ?_)
 unfold ad4 at h1
 split at h1
 ·cases r1.non_inv;exact⟨false,rfl,Dn.now (Q:=Q) h1 rl1 rfl⟩
 ·cases r1.bl_inv;exact⟨_,rfl,Dn.now (Q:=Q) h1 rl1 rfl⟩
 ·cases r1.int_inv;exact⟨_,rfl,Dn.now (Q:=Q) h1 rl1 rfl⟩
 ·cases r1.str_inv
  split at h1
  ·rename_i hz
   exact⟨_,⟨hz,rfl⟩,Dn.now (Q:=Q) h1 rl1 rfl⟩
  ·exact h1.elim
 ·split at h1
  ·rename_i ds e
   obtain⟨p,xs,rfl,sq,rs⟩:=ad9 rl1 r1 e
   refine⟨!xs.isEmpty,?_,?_⟩
   ·rcases sq with sq|sq
    ·exact .inl ⟨xs,sq,rfl⟩
    ·exact .inr (.inl ⟨xs,sq,rfl⟩)
   ·rw [rs.empty];exact Dn.now (Q:=Q) h1 rl1 rfl
  ·exact h1.elim
structure CB (X:Cx) (f:af) (g:FF):Prop where
 ex: ∃r,xi X f r/\ ∀as H s xs ds Q,Rel X.K as H s -> RDs X.K as H xs ds -> Dn X.K (rD X.K) as H (g ds s) Q -> r xs H Q
theorem aaq{f:af}{g:FF}(h: ∀(pins:List (Addr×Obj)) (sh:ak) (σ:St) (H:Hp) (as:As) (s:S) (xs:List V) (ds:List D) (us:List af) (Q:VK),Inv X pins σ H sh -> Rel X.K as H s -> RDs X.K as H xs ds -> ju xs us ->
  Dn X.K (rD X.K) as H (g ds s) Q -> wpAny (model X.prog X.w) X.A (call f us) (EP X pins σ Q) X.xe sh):CB X f g:=
 ⟨fun xs H Q=> ∃as s ds,Rel X.K as H s/\RDs X.K as H xs ds/\Dn X.K (rD X.K) as H (g ds s) Q,fun pins sh σ H xs us Q I r ⟨as,s,ds,rl,rs,q⟩=> h pins sh σ H as s xs ds us Q I rl rs r q,fun as H s xs ds Q rl rs q=> ⟨as,s,ds,rl,rs,q⟩⟩
def fCB(g:FF)(f:FA):FE:=fun ρ s=> (f ρ s).bind g
section
variable{x:Str}{id:String}{g:FF}{f:FA}{e:Expr}{es:List Expr}{p pos:Pos}
theorem atv{r:List V -> Hp -> VK -> Prop}{t:TA}(hr: ∀as H s xs ds Q,Rel K as H s -> RDs K as H xs ds -> Dn K (rD K) as H (g ds s) Q -> r xs H Q)(h:apj K t f):yw K (tCB r t) (fCB g f):=by
 intro as σ H ρ s Q rl en q
 exact h as σ H ρ s _ rl en (Dn.bind q fun ds s1 as1 H1 vs st1 rl1 r1 h1=> hr as1 H1 s1 vs ds Q rl1 r1 h1)
theorem j5(c:CB X (.builtin id) g)(hm:X.mg x=none)(hv:aX x=some (.builtin id))(ha:RA X (e::es) f)(hg:Gl X x:=by rfl)(hn:x≠"__name__":=by decide)(hdb:(x==("__debug__":Str))=false:=by decide)
  (hs:starEach (e::es) X.env=(false,eval e X.env)::starEach es X.env:=by rfl) (hpl:(backTo pos (starEach es X.env)).any (·.1)=false:=by rfl):RE X (.Call (.Name x p) (e::es) [] pos) (fCB g f):=by
 obtain⟨r,hc,hr⟩:=c.ex
 obtain⟨t,pa,ra⟩:=ha.ex
 exact⟨_,al9 hc hg hm hv pa hn hdb hs hpl,atv hr ra⟩
theorem k7(c:CB X (.type id) g)(hm:X.mg x=none)(hv:aX x=some (.type id))(ha:RA X (e::es) f)(hg:Gl X x:=by rfl)(hn:x≠"__name__":=by decide)(hdb:(x==("__debug__":Str))=false:=by decide)
  (hs:starEach (e::es) X.env=(false,eval e X.env)::starEach es X.env:=by rfl) (hpl:(backTo pos (starEach es X.env)).any (·.1)=false:=by rfl):RE X (.Call (.Name x p) (e::es) [] pos) (fCB g f):=by
 obtain⟨r,hc,hr⟩:=c.ex
 obtain⟨t,pa,ra⟩:=ha.ex
 exact⟨_,ak3 hc hg hm hv pa hn hdb hs hpl,atv hr ra⟩
end
def k0(ds:List D)(s:S):R D:=match ds with
 |[.str z]=> if z.length <=sizeLine then .ok (.int z.length) s else .bad
 |[d]=> match ah1 s d with
  |some xs=>.ok (.int xs.length) s
  |none=>.bad
 |_=>.bad
theorem qx:CB X (.builtin "len") k0:=aaq fun pins sh σ H as s xs ds us Q I rl rs ru h=> by
 unfold k0 at h
 split at h
 ·obtain⟨v,rfl,rv⟩:=rs.one
  cases rv.str_inv
  split at h
  ·rename_i hz
   exact alf pins sh σ H _ us Q I ru ⟨_,rfl,hz,Dn.now (Q:=Q) h rl (.da (.int _))⟩
  ·exact h.elim
 ·obtain⟨v,rfl,rv⟩:=rs.one
  split at h
  ·rename_i ys e
   obtain⟨p,zs,rfl,sq,rz⟩:=ad9 rl rv e
   refine aml pins sh σ H _ us Q I ru ⟨p,zs,rfl,sq,?_⟩
   rw [rz.length]
   exact Dn.now (Q:=Q) h rl (.da (.int _))
  ·exact h.elim
 ·exact h.elim
noncomputable def ah6(ds:List D)(s:S):R D:=match ds with
 |[.int i,.int j]=>.ok (.int (if j < i then j else i)) s
 |_=>.bad
noncomputable def aix(ds:List D)(s:S):R D:=match ds with
 |[.int i,.int j]=>.ok (.int (if j > i then j else i)) s
 |_=>.bad
theorem axn(hc:X.calm=true):CB X (.builtin "min") ah6:=aaq fun pins sh σ H as s xs ds us Q I rl rs ru h=> by
 unfold ah6 at h
 split at h
 ·obtain⟨v,w,rfl,rv,rw⟩:=rs.two
  cases rv.int_inv;cases rw.int_inv
  exact arr hc pins sh σ H _ us Q I ru ⟨_,_,rfl,Dn.now (Q:=Q) h rl (.da (.int _))⟩
 ·exact h.elim
theorem a5w(hc:X.calm=true):CB X (.builtin "max") aix:=aaq fun pins sh σ H as s xs ds us Q I rl rs ru h=> by
 unfold aix at h
 split at h
 ·obtain⟨v,w,rfl,rv,rw⟩:=rs.two
  cases rv.int_inv;cases rw.int_inv
  exact at4 hc pins sh σ H _ us Q I ru ⟨_,_,rfl,Dn.now (Q:=Q) h rl (.da (.int _))⟩
 ·exact h.elim
def vy(m:Bool)(ds:List D)(s:S):R D:=match ds with
 |[d]=> match ah1 s d with
  |some xs=> xg m xs s
  |none=>.bad
 |_=>.bad
theorem zy(m:Bool):CB X (.type "list") (vy m):=aaq fun pins sh σ H as s xs ds us Q I rl rs ru h=> by
 unfold vy at h
 split at h
 ·obtain⟨v,rfl,rv⟩:=rs.one
  split at h
  ·rename_i ys e
   obtain⟨p,zs,rfl,sq,rz⟩:=ad9 rl rv e
   exact aqi pins sh σ H _ us Q I ru ⟨p,zs,rfl,sq,fun r H' nw=> abn h rl rz nw⟩
  ·exact h.elim
 ·exact h.elim
def qb(ds:List D)(s:S):R D:=match ds with
 |[.tup xs]=>.ok (.tup xs) s
 |[.frz xs]=>.ok (.tup xs) s
 |[d]=> match toL s d with
  |some xs=> ah8 xs s
  |none=>.bad
 |_=>.bad
theorem vq:CB X (.type "tuple") qb:=aaq fun pins sh σ H as s xs ds us Q I rl rs ru h=> by
 unfold qb at h
 split at h
 ·obtain⟨v,rfl,rv⟩:=rs.one
  obtain⟨p,zs,rfl,n,e,t⟩:=rv.tup_inv
  exact ad1 pins sh σ H _ us Q I ru ⟨p,zs,rfl,.inr ⟨SqT.of e,Dn.now (Q:=Q) h rl (.da (.tup n e t))⟩⟩
 ·obtain⟨v,rfl,rv⟩:=rs.one
  cases rv with
  |frz q t=> exact ad1 pins sh σ H _ us Q I ru ⟨_,_,rfl,.inl ⟨q as H (Step.refl _ _).toStep0,fun r H' nw=> h (.ref r) as H' (km nw) (rl.new nw) (.da (.tup (fun z=> rl.has z nw.no) nw.at (t.mono (km nw))))⟩⟩
 ·obtain⟨v,rfl,rv⟩:=rs.one
  split at h
  ·rename_i ys e
   obtain⟨p,zs,rfl,hx,rz⟩:=ab4 rl rv e
   exact ad1 pins sh σ H _ us Q I ru ⟨p,zs,rfl,.inl ⟨SqL.of hx,fun r H' nw=> aok h rl rz nw⟩⟩
  ·exact h.elim
 ·exact h.elim
def ab9 (ds:List D) (s:S):R D:=match ds with
 | [d,.ty n]=> if n="str"\/n="int"\/n="bool"\/n="tuple"\/n="list" then match d with
   |.da d=>.ok (.bl (aah d n)) s
   |.ref k=> match s[k]? with
    |some (.lst _)=>.ok (.bl (n=="list")) s
    |_=>.bad
   |_=>.bad
  else .bad
 |_=>.bad
theorem TD.ty{d:ag}(t:TD as H v d):TyOf K H v (.type (tyD d)):=by
 cases t with
 |non=> exact .non
 |bl b=> exact .bl b
 |int i=> exact .int i
 |str x=> exact .str x
 |tup n e w=> exact .tup e
 |lst n e w=> exact .lst e
 |dct n e=> exact .dK e
 |dc1 n e q=> exact .dK e
theorem aef:CB X (.builtin "isinstance") ab9:=aaq fun pins sh σ H as s xs ds us Q I rl rs ru h=> by
 unfold ab9 at h
 split at h
 ·rename_i d n
  obtain⟨v,w,rfl,rv,rw⟩:=rs.two
  obtain⟨u,u2,rfl,ru1,ru2⟩:=vals2 ru
  cases rw
  cases (show u2=dj n from ru2)
  split at h
  ·rename_i hn
   split at h
   ·rename_i d
    cases rv with
    |da t=> exact ajc I ru1 t.ty (atj X.K d n hn) fun tk=> ⟨.bl _,H,I.tok _,rfl,Dn.now (Q:=Q) h rl (.da (.bl _))⟩
   ·rename_i k
    split at h
    ·rename_i ys e
     cases rv with
     |ref l hr=>
      obtain⟨_,zs,hz,_⟩:=yo rl hr e
      exact ajc I ru1 (.lst hz) (atj X.K (.list []) n hn) fun tk=> ⟨.bl _,H,I.tok _,rfl,Dn.now (Q:=Q) h rl (.da (.bl _))⟩
    ·exact h.elim
   ·exact h.elim
  ·exact h.elim
 ·exact h.elim
noncomputable def okS(d:ag):Bool:=d.canLay0&&d.showable&&decide (d.depth <=64)&&decide (d.shown.length <=sizeLine)
def zo(ds:List D)(s:S):R D:=match ds with
 |[d]=> match toP s d with
  |some a=> if okS a=true then .ok (.str a.shown) s else .bad
  |none=>.bad
 |_=>.bad
theorem acm(hr:Room k X.A):CB X (.builtin "repr") zo:=aaq fun pins sh σ H as s xs ds us Q I rl rs ru h=> by
 unfold zo at h
 split at h
 ·obtain⟨v,rfl,rv⟩:=rs.one
  obtain⟨u,rfl,ru1⟩:=vals1 ru
  split at h
  ·rename_i a e
   split at h
   ·rename_i ok
    unfold okS at ok
    (simp only [aF,decide_eq_true_eq]at ok)
    obtain⟨⟨⟨ok1,ok2⟩,ok3⟩,ok4⟩:=ok
    have hun:=hr.un
    obtain⟨bs,q⟩:=rv.reads I rl e ru1
    have fin:Q (.str a.shown) H:=Dn.now (Q:=Q) h rl (.da (.str _))
    have nd:=PyData.hasDict_of_canLay a ok1
    cases q with
    |none=> exact PySem.P.repr_of_none ⟨.str "None",H,I.tok _,⟨_,rfl⟩,fin⟩
    |bool b=> exact PySem.P.repr_of_bool ⟨.str (if b then "True" else "False"),H,I.tok _,⟨_,rfl⟩,fin⟩
    |int i t=> exact PySem.P.repr_of_int (by simpa [eW] using ok2) ⟨.str (toString i),H,I.tok _,⟨_,rfl⟩,fin⟩
    |str x t=> exact PySem.P.repr_of_str ⟨.str (reprText x),H,I.tok _,⟨_,rfl⟩,fin⟩ (by simpa [PyData.shown] using ok4)
    |tuple k1 k2 k3 k4=> exact repr_of_reads' (.tuple k1 k2 k3 k4) ok2 (fun z=> by rw [nd]at z;cases z) hr.gd (by lia) (fun _ _ e=> e) (fun h' u tk hk=> ⟨.str _,H,I.kept hk,⟨u,rfl⟩,fin⟩) ok4
    |list k1 k2 k3 k4=> exact repr_of_reads' (.list k1 k2 k3 k4) ok2 (fun z=> by rw [nd]at z;cases z) hr.gd (by lia) (fun _ _ e=> e) (fun h' u tk hk=> ⟨.str _,H,I.kept hk,⟨u,rfl⟩,fin⟩) ok4
    |dict=> cases ok1
   ·exact h.elim
  ·exact h.elim
 ·exact h.elim
abbrev GM:=D -> List D -> S -> R D
def fMt(g:GM)(fo:FE)(fa:FA):FE:=fun ρ s=> (fo ρ s).bind fun d s1=> if (toL s1 d).isSome=true then (fa ρ s1).bind fun ds s2=> g d ds s2 else .bad
structure MB (X:Cx) (id:String) (g:GM):Prop where
 ex: ∃r,MtR X id r/\ ∀as H s x xs d ds Q,Rel X.K as H s -> RD X.K as H x d -> RDs X.K as H xs ds -> Dn X.K (rD X.K) as H (g d ds s) Q -> r x xs H Q
theorem anw{d:D}(rl:Rel K as H s)(r:RD K as H v d)(h:(toL s d).isSome=true):tyV K "list" v H:=by
 cases e:toL s d with
 |none=> rw [e]at h;cases h
 |some ds=>
  obtain⟨p,xs,rfl,hx,_⟩:=ab4 rl r e
  exact .inl ⟨rfl,xs,SqL.of hx⟩
theorem xc{name:Str}{id:String}{g:GM}{cpos:Pos}(slot:Slot "list" name id)(hty:typeOf (.builtin id)=pure (.type "method_descriptor"))(hm:MB X id g)(ho:RE X o fo)(ha:RA X (e::es) fa)(hbase:cD o name X.env (eval o X.env)=eval o X.env:=by rfl)(hfew:((backTo cpos (starEach (e::es) X.env)).all (fun x=> !x.1)&&(backToKw cpos (dC [] X.env)).all (fun x=> x.1.isSome)
   &&decide ((e::es).length+([]:List gO).length+(if ([]:List gO).isEmpty then 0 else 1) < 30))=true:=by rfl) (hline:(apos.endLine==cpos.line)=true:=by rfl) (hs:starEach (e::es) X.env=(false,eval e X.env)::starEach es X.env:=by rfl) (hplain:(backTo cpos (starEach es X.env)).any (·.1)=false:=by rfl):
  RE X (.Call (.Attribute o name apos) (e::es) [] cpos) (fMt g fo fa):=by
 obtain⟨r,hr,hg⟩:=hm.ex
 obtain⟨to,po,ro⟩:=ho.ex
 obtain⟨ta,pa,ra⟩:=ha.ex
 refine⟨_,axd gi slot hty hr po pa hbase hfew hline hs hplain,fun as σ H ρ s Q rl en h=> ?_⟩
 refine ro as σ H ρ s _ rl en (Dn.bind h fun d s1 as1 H1 v st1 rl1 r1 h1=> ?_)
 split at h1
 ·rename_i hl
  refine⟨anw rl1 r1 hl,ra as1 σ H1 ρ s1 _ rl1 (en.mono st1) (Dn.bind h1 fun ds s2 as2 H2 vs st2 rl2 r2 h2=> ?_)⟩
  exact hg as2 H2 s2 v vs d ds Q rl2 (r1.mono st2) r2 h2
 ·exact h1.elim
theorem asa{name:Str}{id:String}{g:GM}{cpos:Pos}(slot:Slot "list" name id)(hty:typeOf (.builtin id)=pure (.type "method_descriptor"))(hm:MB X id g)(ho:RE X o fo)(hbase:cD o name X.env (eval o X.env)=eval o X.env:=by rfl)(hline:(apos.endLine==cpos.line)=true:=by rfl):RE X (.Call (.Attribute o name apos) [] [] cpos) (fMt g fo jf):=by
 obtain⟨r,hr,hg⟩:=hm.ex
 obtain⟨to,po,ro⟩:=ho.ex
 refine⟨_,a1v gi slot hty hr po hbase hline,fun as σ H ρ s Q rl en h=> ?_⟩
 refine ro as σ H ρ s _ rl en (Dn.bind h fun d s1 as1 H1 v st1 rl1 r1 h1=> ?_)
 split at h1
 ·rename_i hl
  exact⟨anw rl1 r1 hl,hg as1 H1 s1 v [] d [] Q rl1 r1 .nil h1⟩
 ·exact h1.elim
theorem adk{p:Addr}{o:HO}{H':Hp}{d:D}{ys:List V}{es:List D}{Q:VK}(rl:Rel K as H s)(ha:as.ix[n]?=some (some p))(c:Chg H p (.lst ys) H')(rs:RDs K as H ys es)(rv:RD K as H v d)(h:Dn K (rD K) as H (.ok d (s.set n (.lst es))) Q):Q v H':=by
 have st:=an3 (vp.mpr ⟨n,ha⟩) (fun z=> rl.hx p z (vp.mpr ⟨n,ha⟩)) c
 exact h v as H' st (rl.chg ha c ⟨ys,c.at,rs.mono st⟩) (rv.mono st)
noncomputable def onL(d:D)(s:S)(k:Nat -> List D -> R D):R D:=match d with
 |.ref n=> match s[n]? with
  |some (.lst ds)=> k n ds
  |_=>.bad
 |_=>.bad
theorem ado{d:D}{k:Nat -> List D -> R D}{Q:VK}(rl:Rel K as H s)(r:RD K as H v d)(h:Dn K (rD K) as H (onL d s k) Q): ∃p n xs ds,v=.ref p/\as.ix[n]?=some (some p)/\H p=some (.lst xs)/\RDs K as H xs ds/\Dn K (rD K) as H (k n ds) Q:=by
 cases r with
 | @ref p n l hr=>
  have h:Dn K (rD K) as H (match s[n]? with|some (O.lst ds)=> k n ds|_=>.bad) Q:=h
  split at h
  ·rename_i ds e
   obtain⟨ha,xs,hx,rs⟩:=yo rl hr e
   exact⟨p,n,xs,ds,rfl,ha,hx,rs,h⟩
  ·exact h.elim
 |_=> exact h.elim
def j9:GM:=fun d ds s=> match ds with
 |[x]=> onL d s fun n xs=> if xs.length < sizeLine then .ok .non (s.set n (.lst (xs++ [x]))) else .bad
 |_=>.bad
theorem qz:MB X "list.append" j9:=⟨_,apx,fun as H s x xs d ds Q rl r rs h=> by
 unfold j9 at h
 split at h
 ·obtain⟨v,rfl,rv⟩:=rs.one
  obtain⟨p,n,ys,es,rfl,ha,hy,re,h⟩:=ado rl r h
  split at h
  ·rename_i hz
   exact⟨p,ys,v,rfl,rfl,hy,by rw [re.length];exact hz,fun H' c=> adk (o:=.lst []) rl ha c (re.append (.cons rv .nil)) (.da .non) h⟩
  ·exact h.elim
 ·exact h.elim⟩
def ab0:GM:=fun d ds s=> match ds with
 | [.int i]=> onL d s fun n xs=> if -(2^63) <=i/\i < 2^63 then match fF i xs.length with
   |some k=> match xs[k]? with
    |some y=>.ok y (s.set n (.lst (xs.eraseIdx k)))
    |none=>.bad
   |none=>.bad
  else .bad
 |_=>.bad
theorem axz:MB X "list.pop" ab0:=⟨_,aqy,fun as H s x xs d ds Q rl r rs h=> by
 unfold ab0 at h
 split at h
 ·obtain⟨v,rfl,rv⟩:=rs.one
  cases rv.int_inv
  obtain⟨p,n,ys,es,rfl,ha,hy,re,h⟩:=ado rl r h
  split at h
  ·rename_i hz
   split at h
   ·rename_i k e
    split at h
    ·rename_i y ey
     obtain⟨w,hw,rw⟩:=re.get ey
     exact⟨p,ys,_,k,w,rfl,rfl,hy,hz.1,hz.2,by rw [re.length];exact e,hw,fun H' c=> adk (o:=.lst []) rl ha c (re.eraseIdx k) rw h⟩
    ·exact h.elim
   ·exact h.elim
  ·exact h.elim
 ·exact h.elim⟩
def ais:GM:=fun d ds s=> match ds with
 | []=> onL d s fun n xs=> match xs[xs.length - 1]? with
   |some y=>.ok y (s.set n (.lst xs.dropLast))
   |none=>.bad
 |_=>.bad
def a4y:V -> List V -> Hp -> VK -> Prop:=fun x vs H Q=> ∃l xs y,x=.ref l/\vs=[]/\H l=some (.lst xs)/\xs[xs.length - 1]?=some y/\ ∀H',Chg H l (.lst xs.dropLast) H' -> Q y H'
theorem a0u:MtM X "list.pop" a4y:=a48.weak fun x vs H Q ⟨l,xs,y,e1,e2,h,n,q⟩=> ⟨l,xs,y,e1,e2,h,n,q _ ⟨rfl⟩⟩
theorem axb:MB X "list.pop" ais:=⟨_,a0u,fun as H s x xs d ds Q rl r rs h=> by
 unfold ais at h
 split at h
 ·cases rs
  obtain⟨p,n,ys,es,rfl,ha,hy,re,h⟩:=ado rl r h
  split at h
  ·rename_i y ey
   obtain⟨w,hw,rw⟩:=re.get ey
   exact⟨p,ys,w,rfl,rfl,hy,by rw [re.length];exact hw,fun H' c=> adk (o:=.lst []) rl ha c re.dropLast rw h⟩
  ·exact h.elim
 ·exact h.elim⟩
def aaj:GM:=fun d ds s=> match ds with
 |[.tup ys]=> onL d s fun n xs=> if xs.length+ys.length <=sizeLine then .ok .non (s.set n (.lst (xs++ys.map D.da))) else .bad
 |[e]=> match toL s e with
  |some ys=> onL d s fun n xs=> if xs.length+ys.length <=sizeLine then .ok .non (s.set n (.lst (xs++ys))) else .bad
  |none=>.bad
 |_=>.bad
theorem a55{id:String}{r r':V -> List V -> Hp -> VK -> Prop}(h:MtM X id r)(h':MtM X id r'):MtR X id (fun x xs H Q=> r x xs H Q\/r' x xs H Q):=MtR.or h h'
theorem am6:MB X "list.extend" aaj:=⟨_,a55 apn anc,fun as H s x xs d ds Q rl r rs h=> by
 unfold aaj at h
 split at h
 ·obtain⟨v,rfl,rv⟩:=rs.one
  obtain⟨p,n,ys,es,rfl,ha,hy,re,h⟩:=ado rl r h
  split at h
  ·rename_i hz
   obtain⟨q,zs,rfl,_,e,t⟩:=rv.tup_inv
   exact .inr ⟨p,q,ys,zs,rfl,rfl,hy,SqT.of e,by rw [re.length,t.length];exact hz,fun H' c=> adk (o:=.lst []) rl ha c (re.append t.rd) (.da .non) h⟩
  ·exact h.elim
 ·obtain⟨v,rfl,rv⟩:=rs.one
  split at h
  ·rename_i zs e
   obtain⟨q,ws,rfl,hq,rz⟩:=ab4 rl rv e
   obtain⟨p,n,ys,es,rfl,ha,hy,re,h⟩:=ado rl r h
   split at h
   ·rename_i hz
    exact .inl ⟨p,q,ys,ws,rfl,rfl,hy,hq,by rw [re.length,rz.length];exact hz,fun H' c=> adk (o:=.lst []) rl ha c (re.append rz) (.da .non) h⟩
   ·exact h.elim
  ·exact h.elim
 ·exact h.elim⟩
def aad(o i v:D)(s:S):R D:=match i with
 |.int k=> onL o s fun n xs=> match ixN xs.length k with
  |some j=>.ok .non (s.set n (.lst (xs.set j v)))
  |none=>.bad
 |_=>.bad
def ac6(fv fo fi:FE):FS:=fun ρ s=> (fv ρ s).bind fun v s1=> (fo ρ s1).bind fun o s2=> (fi ρ s2).bind fun i s3=> (aad o i v s3).bind fun _ s4=>.ok (.nx ρ) s4
theorem aff{i:Expr}{fi fv:FE}{pos':Pos}(he:RE X e fv)(ho:RE X o fo)(hi:RE X i fi)(ha: ∀v,assign (.Subscript o i pos') X.env v=(do
   let ov←holding [v] (eval o X.env)
   let iv←holding [v,ov] (eval i X.env)
   standAt pos'
   holding [v,ov,iv] (setItem ov iv v)
   release [v,ov,iv] []):=by intro _;rfl) (hs:hU [.Subscript o i pos'] e pos.line X.env=pure false:=by rfl) (hw:hV [.Subscript o i pos'] e X.env=pure none:=by rfl) (h1:(a6 [.Subscript o i pos'] X.env).map (·.2)=[assign (.Subscript o i pos') X.env]:=by rfl):RS X (.Assign [.Subscript o i pos'] e pos) (ac6 fv fo fi):=by
 obtain⟨te,pe,re⟩:=he.ex
 obtain⟨to,po,ro⟩:=ho.ex
 obtain⟨ti,pi,ri⟩:=hi.ex
 refine⟨_,asn pe (a1k po pi at3 ha) hs hw h1,fun as σ H ρ s D rl en h=> ?_⟩
 refine re as σ H ρ s _ rl en (Dn.bind h fun v s1 as1 H1 vv st1 rl1 r1 h1=> ?_)
 refine ro as1 σ H1 ρ s1 _ rl1 (en.mono st1) (Dn.bind h1 fun o s2 as2 H2 ov st2 rl2 r2 h2=> ?_)
 refine ri as2 σ H2 ρ s2 _ rl2 ((en.mono st1).mono st2) (Dn.bind h2 fun i s3 as3 H3 iv st3 rl3 r3 h3=> ?_)
 have en3:=((en.mono st1).mono st2).mono st3
 have h3:Dn X.K (rD X.K) as3 H3 (aad o i v s3) (fun _ H'=> D.nx σ H'):=Dn.bind h3 fun d s4 as4 H4 vv st4 rl4 r4 h4=> Dn.now (b:=FV.nx σ) h4 rl4 (.nx (en3.mono st4))
 unfold aad at h3
 split at h3
 ·cases r3.int_inv
  obtain⟨p,n,xs,ds,rfl,ha,hx,rs,h3⟩:=ado rl3 (r2.mono st3) h3
  split at h3
  ·rename_i j e
   refine⟨p,xs,_,j,rfl,rfl,hx,by rw [rs.length];exact e,fun H' c=> ?_⟩
   exact adk (v:=.non) (o:=.lst []) rl3 ha c (rs.set j ((r1.mono st2).mono st3)) (.da .non) h3
  ·exact h3.elim
 ·exact h3.elim
noncomputable def y2:List D -> Option (List Str)
 |[]=> some []
 |.str x::r=> match y2 r with
  |some xs=> some (x::xs)
  |none=> none
 |_=> none
theorem aim: ∀{xs:List V} {ds:List D} {ss:List Str},RDs K as H xs ds -> y2 ds=some ss -> xs=ss.map V.str/\ds=ss.map D.str
 |_,[],ss,r,h=> by cases r;cases h;exact⟨rfl,rfl⟩
 | _,d::ds,ss,r,h=> by
  cases r with
  | cons r rs=>
   unfold y2 at h
   split at h
   ·rename_i e;cases e
   ·rename_i x rr e
    cases e
    split at h
    ·rename_i ys e2
     cases h
     obtain⟨h1,h2⟩:=aim rs e2
     cases r.str_inv
     rw [h1,h2];exact⟨rfl,rfl⟩
    ·cases h
   ·cases h
theorem afg: ∀ss:List Str,y2 (ss.map D.str)=some ss
 |[]=> rfl
 |s::r=> by rw [aA,y2,afg r]
noncomputable def adx:List D -> Option (List Bool)
 |[]=> some []
 |.bl x::r=> match adx r with
  |some xs=> some (x::xs)
  |none=> none
 |_=> none
theorem arc: ∀{xs:List V} {ds:List D} {bs:List Bool},RDs K as H xs ds -> adx ds=some bs -> xs=bs.map V.bl
 |_,[],ss,r,h=> by cases r;cases h;rfl
 | _,d::ds,ss,r,h=> by
  cases r with
  | cons r rs=>
   unfold adx at h
   split at h
   ·rename_i e;cases e
   ·rename_i x rr e
    cases e
    split at h
    ·rename_i ys e2
     cases h
     have h1:=arc rs e2
     cases r.bl_inv
     rw [h1];rfl
    ·cases h
   ·cases h
def ae9(ds:List D)(s:S):R D:=match ds with
 |[d]=> match (toL s d).bind adx with
  |some bs=>.ok (.bl (bs.all id)) s
  |none=>.bad
 |_=>.bad
theorem aic(hc:X.calm=true):CB X (.builtin "all") ae9:=aaq fun pins sh σ H as s xs ds us Q I rl rs ru h=> by
 unfold ae9 at h
 split at h
 ·obtain⟨v,rfl,rv⟩:=rs.one
  split at h
  ·rename_i bs e
   cases e2:toL s _ with
   |none=> rw [e2]at e;cases e
   |some ys=>
    rw [e2]at e
    obtain⟨p,zs,rfl,hx,rz⟩:=ab4 rl rv e2
    have ez:=arc rz (show adx ys=some bs from e)
    subst ez
    exact ass hc pins sh σ H _ us Q I ru ⟨p,bs,rfl,SqL.of hx,Dn.now (Q:=Q) h rl (.da (.bl _))⟩
  ·exact h.elim
 ·exact h.elim
theorem u64(hr:Room k A):A.units+64 < cLine:=by have:=hr.un;lia
theorem u65(hr:Room k A):A.units+65 < cLine:=by have:=hr.un;lia
theorem amx{as:As}{H:Hp}: ∀ss:List Str,TDs as H (ss.map V.str) (ss.map ac)
 |[]=>.nil
 |s::r=>.cons (.str s) (amx r)
theorem afw(ss:List Str)(c:ap4 X.K X.mg x vs)(e:vs=ss.map V.str:=by rfl)(hg:Gl X x:=by rfl)(hd:(x==("__debug__":Str))=false:=by decide):RE X (.Name x pos) (fC (.con (ss.map ac))):=by
 obtain⟨a,hm,hs⟩:=c
 subst e
 exact aj6 (v:=.ref a) (fun as H=>.con hs (amx ss)) hm rfl hg hd
section
variable{P:aW}{w:aY}{K:ah}{mg:Str -> Option af}{base:Heap}{x:Str}{st:Stmt}{N ps:List Str}{k n:Nat}
noncomputable def amp:FF:=fun _ _=>.bad
theorem agd(h:Has K mg x st ps)(S:FnScope N ps (jj st))(hn:ps.length=n):CalF P w K mg base x (k+1) n amp:=by
 refine⟨h.cal S (fun vs H Q E h=> by rw [hn];exact h.1) fun f cdv A outer s H vs Q E hr h=> ?_⟩
 obtain⟨hv,as,ds,s',rl,rs,h⟩:=h
 exact h.elim
end
def R.Wk{α β:Type}(f:α -> S -> R β)(Q:β -> S -> Prop)(a:α)(s:S):Prop:=(f a s).W Q
theorem R.W_bindk{α β:Type}(r:R α)(f:α -> S -> R β)(Q:β -> S -> Prop):(r.bind f).W Q=r.W (R.Wk f Q):=R.W_bind r f Q
@[simp] theorem R.Wk_app{α β:Type}(f:α -> S -> R β)(Q:β -> S -> Prop)(a:α)(s:S):R.Wk f Q a s=(f a s).W Q:=(rfl)
section
variable{s:S}{m:Bool}{n:Nat}{i j:Int}{x y:Str}{b:Bool}{xs ys:List ag}{ds es:List D}{d e:D}{ρ:En}{Q:D -> S -> Prop}
theorem kc:sizeLine=16777216:=gA
@[simp] theorem a6l:kh m (.int i) (.int j) s=.ok (.int (i+j)) s:=(rfl)
theorem aue(h:x.length+y.length <=16777216):kh m (.str x) (.str y) s=.ok (.str (x++y)) s:=if_pos (by rw [kc];exact h)
theorem ahc(h:xs.length+ys.length <=16777216):kh m (.tup xs) (.tup ys) s=.ok (.tup (xs++ys)) s:=if_pos (by rw [kc];exact h)
theorem vj(h:xs.length+ys.length <=16777216):kh false (.lst xs) (.lst ys) s=.ok (.lst (xs++ys)) s:=by
 show (if (xs.map D.da).length+(ys.map D.da).length <=sizeLine then xg false (xs.map D.da++ys.map D.da) s else .bad)=_
 rw [if_pos (by rw [kc,aj,aj];exact h),←aS]
 show (match kd _ with|some xs=> R.ok (D.lst xs) s|none=>.bad)=_
 rw [qy]
@[simp] theorem a6m:PF.ad3 (.int i) (.int j) s=.ok (.int (i - j)) s:=(rfl)
theorem ac1(h:(-(2^64) < i/\i < 2^64)\/(-(2^64) < j/\j < 2^64)):ab8 (.int i) (.int j) s=.ok (.int (i*j)) s:=if_pos h
theorem za(h:0 < j)(h2:j < 1073741824):afs (.int i) (.int j) s=.ok (.int (i/j)) s:=if_pos ⟨h,h2⟩
theorem yc(h:0 < j):aa5 (.int i) (.int j) s=.ok (.int (i % j)) s:=if_pos h
theorem aw5(h:0 <=j)(h1:j <=1000000)(h2:i.natAbs < 2^64):api (.int i) (.int j) s=.ok (.int (i^j.toNat)) s:=if_pos ⟨h,h1,h2⟩
@[simp] theorem a7i:gLt (.int i) (.int j) s=.ok (.bl (decide (i < j))) s:=(rfl)
@[simp] theorem a74:gLe (.int i) (.int j) s=.ok (.bl (decide (i <=j))) s:=(rfl)
@[simp] theorem a7j:gGt (.int i) (.int j) s=.ok (.bl (decide (j < i))) s:=(rfl)
@[simp] theorem a7g:gGe (.int i) (.int j) s=.ok (.bl (decide (j <=i))) s:=(rfl)
@[simp] theorem a77:gIs d .non s=.ok (.bl (isN d)) s:=(rfl)
theorem ams(x y:Str):aJ (.str x) (.str y)=decide (x=y):=by
 show (x==y)=_
 (rw [bm,beq_iff_eq,decide_eq_true_eq])
theorem am3{q:ag}(h1:okD p=true)(h2:okD q=true):gEq (.da p) (.da q) s=.ok (.bl (aJ p q)) s:=by
 have e:apo (.da p) (.da q) s=.ok (.bl (aJ p q)) s:=if_pos ⟨h1,h2⟩
 cases p <;> cases q <;> first|exact e|(rw [ams];rfl)
theorem awj:gNe (.str x) (.str y) s=.ok (.bl (!decide (x=y))) s:=(rfl)
theorem atk{q:ag}(h1:okD p=true)(h2:okD q=true):gNe (.da p) (.da q) s=.ok (.bl (!PyData.eqv p q)) s:=by
 have e:aph (.da p) (.da q) s=.ok (.bl (!PyData.eqv p q)) s:=if_pos ⟨h1,h2⟩
 cases p <;> cases q <;> first|exact e|(rw [ams];rfl)
theorem aik(h:s[n]?=some (.lst ds))(h2:ds[k]?=some d):gIx (.ref n) (.int (k:Int)) s=.ok d s:=by
 show (match (match s[n]? with|some (O.lst ds)=> some ds|_=> none) with|some ds=> (match atI ds (k:Int) with|some d=> R.ok d s|none=>.bad)|none=>.bad)=_
 rw [h]
 show (match atI ds (k:Int) with|some d=> R.ok d s|none=>.bad)=_
 rw [ag7 h2]
theorem ag5(h2:xs[k]?=some p):gIx (.tup xs) (.int (k:Int)) s=.ok (.da p) s:=by
 show (match atI (xs.map D.da) (k:Int) with|some d=> R.ok d s|none=>.bad)=_
 rw [ag7 (v:=D.da p) (by rw [aZ,h2];rfl)]
theorem aaf(h2:xs[k]?=some p):gIx (.lst xs) (.int (k:Int)) s=.ok (.da p) s:=by
 show (match atI (xs.map D.da) (k:Int) with|some d=> R.ok d s|none=>.bad)=_
 rw [ag7 (v:=D.da p) (by rw [aZ,h2];rfl)]
theorem ala(h:s[n]?=some (.lst ds))(h2:k < ds.length):aad (.ref n) (.int (k:Int)) d s=.ok .non (s.set n (.lst (ds.set k d))):=by
 show (match s[n]? with|some (O.lst xs)=> (match ixN xs.length (k:Int) with|some j=> R.ok D.non (s.set n (.lst (xs.set j d)))|none=>.bad)|_=>.bad)=_
 rw [h]
 have:ixN ds.length (k:Int)=some k:=by
  unfold ixN
  rw [if_pos (by lia),if_pos (by lia)]
  rfl
 show (match ixN ds.length (k:Int) with|some j=> R.ok D.non (s.set n (.lst (ds.set j d)))|none=>.bad)=_
 rw [this]
def a40(g:D -> D -> S -> R D)(fb:FE)(ρ:En)(x:D)(s:S):R D:=(fb ρ s).bind fun y s2=> g x y s2
noncomputable def avy(g:D -> D -> S -> R D)(x y:D)(s:S):R D:=g x y s
@[simp] theorem ba0{g:D -> D -> S -> R D}{fa fb:FE}:fOp g fa fb ρ s=(fa ρ s).bind (a40 g fb ρ):=(rfl)
@[simp] theorem a8z{g:D -> D -> S -> R D}{fb:FE}:a40 g fb ρ d s=(fb ρ s).bind (avy g d):=(rfl)
@[simp] theorem a9c{g:D -> D -> S -> R D}:avy g d e s=g d e s:=(rfl)
@[simp] theorem e_c:fC d ρ s=.ok d s:=(rfl)
@[simp] theorem a8d{r:En}:jd 0 (some d::r) s=.ok d s:=(rfl)
@[simp] theorem a8e{r:En}:jd 1 (x0::some d::r) s=.ok d s:=(rfl)
@[simp] theorem a8i{r:En}:jd 2 (x0::x1::some d::r) s=.ok d s:=(rfl)
@[simp] theorem a80{r:En}:jd 3 (x0::x1::x2::some d::r) s=.ok d s:=(rfl)
@[simp] theorem a8a{r:En}{x3:Option D}:jd 4 (x0::x1::x2::x3::some d::r) s=.ok d s:=(rfl)
@[simp] theorem a8f{r:En}{x3 x4:Option D}:jd 5 (x0::x1::x2::x3::x4::some d::r) s=.ok d s:=(rfl)
@[simp] theorem a8h{r:En}{x3 x4 x5 x6:Option D}:jd 7 (x0::x1::x2::x3::x4::x5::x6::some d::r) s=.ok d s:=(rfl)
noncomputable def aoz(g:FS)(fl:Fl)(s:S):R Fl:=match fl with
 |.nx ρ1=> g ρ1 s
 |fl=>.ok fl s
@[simp] theorem awo{f g:FS}:jk f g ρ s=(f ρ s).bind (aoz g):=(rfl)
@[simp] theorem a7y{g:FS}:aoz g (.nx ρ) s=g ρ s:=(rfl)
@[simp] theorem a8v{g:FS}:aoz g (.rt d) s=.ok (.rt d) s:=(rfl)
noncomputable def a3a(d:D)(s:S):R Fl:=.ok (.rt d) s
@[simp] theorem a94:jq f ρ s=(f ρ s).bind a3a:=(rfl)
@[simp] theorem a8b:a3a d s=.ok (.rt d) s:=(rfl)
@[simp] theorem a8n:jy ρ s=.ok (.nx ρ) s:=(rfl)
noncomputable def apg(ρ:En)(_:D)(s:S):R Fl:=.ok (.nx ρ) s
@[simp] theorem a83:k6 f ρ s=(f ρ s).bind (apg ρ):=(rfl)
@[simp] theorem a7d:apg ρ d s=.ok (.nx ρ) s:=(rfl)
noncomputable def af8(i:Nat)(ρ:En)(d:D)(s:S):R Fl:=.ok (.nx (ρ.set i (some d))) s
@[simp] theorem awp{i:Nat}:kj i f ρ s=(f ρ s).bind (af8 i ρ):=(rfl)
@[simp] theorem a8o{i:Nat}:af8 i ρ d s=.ok (.nx (ρ.set i (some d))) s:=(rfl)
noncomputable def aq3(f g:FS)(ρ:En)(k:Bool)(s:S):R Fl:=if k=true then f ρ s else g ρ s
@[simp] theorem a9d{c:FT}{f g:FS}:j4 c f g ρ s=(c ρ s).bind (aq3 f g ρ):=(rfl)
@[simp] theorem axl{f g:FS}:aq3 f g ρ true s=f ρ s:=(rfl)
@[simp] theorem a93{f g:FS}:aq3 f g ρ false s=g ρ s:=(rfl)
noncomputable def kIf(f g:FE)(ρ:En)(k:Bool)(s:S):R D:=if k=true then f ρ s else g ρ s
@[simp] theorem a9p{c:FT}{g:FE}:fIf c f g ρ s=(c ρ s).bind (kIf f g ρ):=(rfl)
@[simp] theorem a85{g:FE}:kIf f g ρ true s=f ρ s:=(rfl)
@[simp] theorem a8q{g:FE}:kIf f g ρ false s=g ρ s:=(rfl)
noncomputable def awr(d:D)(s:S):R Bool:=match d with
 |.bl k=>.ok k s
 |_=>.bad
@[simp] theorem a8s:jt f ρ s=(f ρ s).bind awr:=(rfl)
@[simp] theorem ao8:awr (.bl b) s=.ok b s:=(rfl)
noncomputable def aqj(g:FT)(ρ:En)(c:Bool)(s:S):R Bool:=if c=true then g ρ s else .ok false s
noncomputable def a1y(g:FT)(ρ:En)(c:Bool)(s:S):R Bool:=if c=true then .ok true s else g ρ s
noncomputable def awz(c:Bool)(s:S):R Bool:=.ok (!c) s
@[simp] theorem a8t{f g:FT}:aao f g ρ s=(f ρ s).bind (aqj g ρ):=(rfl)
@[simp] theorem a90{f g:FT}:y9 f g ρ s=(f ρ s).bind (a1y g ρ):=(rfl)
@[simp] theorem a8l{f:FT}:ku f ρ s=(f ρ s).bind awz:=(rfl)
@[simp] theorem a76{g:FT}:aqj g ρ true s=g ρ s:=(rfl)
@[simp] theorem a7n{g:FT}:aqj g ρ false s=.ok false s:=(rfl)
@[simp] theorem a86{g:FT}:a1y g ρ false s=g ρ s:=(rfl)
@[simp] theorem a7a:awz b s=.ok (!b) s:=(rfl)
noncomputable def au3(g:FE)(ρ:En)(d:D)(s:S):R D:=match d with
 |.bl true=> g ρ s
 |.bl false=>.ok (.bl false) s
 |_=>.bad
noncomputable def kOr(g:FE)(ρ:En)(d:D)(s:S):R D:=match d with
 |.bl false=> g ρ s
 |.bl true=>.ok (.bl true) s
 |_=>.bad
@[simp] theorem a8x{g:FE}:abw f g ρ s=(f ρ s).bind (au3 g ρ):=(rfl)
@[simp] theorem a9r{g:FE}:fOr f g ρ s=(f ρ s).bind (kOr g ρ):=(rfl)
@[simp] theorem a8p{g:FE}:au3 g ρ (.bl true) s=g ρ s:=(rfl)
@[simp] theorem a87{g:FE}:au3 g ρ (.bl false) s=.ok (.bl false) s:=(rfl)
@[simp] theorem a9b{g:FE}:kOr g ρ (.bl false) s=g ρ s:=(rfl)
def aou(g g':D -> D -> S -> R D)(fb fc:FE)(ρ:En)(x:D)(s:S):R D:=(fb ρ s).bind fun y s2=> (g x y s2).bind fun z s3=> match z with
 |.bl true=> (fc ρ s3).bind fun w s4=> g' y w s4
 |.bl false=>.ok (.bl false) s3
 |_=>.bad
def aox(g g':D -> D -> S -> R D)(fc:FE)(ρ:En)(x y:D)(s:S):R D:=(g x y s).bind fun z s3=> match z with
 |.bl true=> (fc ρ s3).bind fun w s4=> g' y w s4
 |.bl false=>.ok (.bl false) s3
 |_=>.bad
def aj4(g':D -> D -> S -> R D)(fc:FE)(ρ:En)(y z:D)(s:S):R D:=match z with
 |.bl true=> (fc ρ s).bind fun w s4=> g' y w s4
 |.bl false=>.ok (.bl false) s
 |_=>.bad
@[simp] theorem a7b{g g':D -> D -> S -> R D}{fa fb fc:FE}:yx g g' fa fb fc ρ s=(fa ρ s).bind (aou g g' fb fc ρ):=(rfl)
@[simp] theorem a6t{g g':D -> D -> S -> R D}{fb fc:FE}:aou g g' fb fc ρ d s=(fb ρ s).bind (aox g g' fc ρ d):=(rfl)
@[simp] theorem a6p{g g':D -> D -> S -> R D}{fc:FE}:aox g g' fc ρ d e s=(g d e s).bind (aj4 g' fc ρ e):=(rfl)
@[simp] theorem a6e{g':D -> D -> S -> R D}{fc:FE}:aj4 g' fc ρ e (.bl true) s=(fc ρ s).bind (avy g' e):=(rfl)
@[simp] theorem a6y{g':D -> D -> S -> R D}{fc:FE}:aj4 g' fc ρ e (.bl false) s=.ok (.bl false) s:=(rfl)
def asz(g:FA)(ρ:En)(x:D)(s:S):R (List D):=(g ρ s).bind fun xs s2=>.ok (x::xs) s2
noncomputable def alr(x:D)(xs:List D)(s:S):R (List D):=.ok (x::xs) s
@[simp] theorem a92:jf ρ s=.ok [] s:=(rfl)
@[simp] theorem a9x:fVs ds ρ s=.ok ds s:=(rfl)
@[simp] theorem a7v{g:FA}:jb f g ρ s=(f ρ s).bind (asz g ρ):=(rfl)
@[simp] theorem a7c{g:FA}:asz g ρ d s=(g ρ s).bind (alr d):=(rfl)
@[simp] theorem aj5:alr d ds s=.ok (d::ds) s:=(rfl)
def af7(ds:List D)(s:S):R D:=if ds.length <=sizeLine then ah8 ds s else .bad
def abc(m:Bool)(ds:List D)(s:S):R D:=if ds.length <=sizeLine then xg m ds s else .bad
@[simp] theorem a9n{f:FA}:qv f ρ s=(f ρ s).bind af7:=(rfl)
@[simp] theorem a9g{f:FA}:kt m f ρ s=(f ρ s).bind (abc m):=(rfl)
theorem a0l(h:kd ds=some xs)(hl:ds.length <=16777216):af7 ds s=.ok (.tup xs) s:=by
 unfold af7 ah8
 rw [if_pos (by rw [kc];exact hl),h]
theorem ayp(h:kd ds=some xs)(hl:ds.length <=16777216):abc false ds s=.ok (.lst xs) s:=by
 unfold abc xg
 rw [if_pos (by rw [kc];exact hl),if_neg ax,h]
@[simp] theorem ba6:af7 [] s=.ok (.tup []) s:=(rfl)
@[simp] theorem a9w:abc false [] s=.ok (.lst []) s:=(rfl)
@[simp] theorem a9l:abc true [] s=.ok (.ref s.length) (s++ [.lst []]):=(rfl)
@[simp] theorem a9s{a:ag}:af7 [.da a] s=.ok (.tup [a]) s:=(rfl)
@[simp] theorem a9z{a b c:ag}:af7 [.da a,.da b,.da c] s=.ok (.tup [a,b,c]) s:=(rfl)
@[simp] theorem ba1{a b c d:ag}:af7 [.da a,.da b,.da c,.da d] s=.ok (.tup [a,b,c,d]) s:=(rfl)
@[simp] theorem ba4{a:ag}:abc false [.da a] s=.ok (.lst [a]) s:=(rfl)
@[simp] theorem a9q{a b:ag}:abc false [.da a,.da b] s=.ok (.lst [a,b]) s:=(rfl)
@[simp] theorem a9t{a b c d:ag}:abc false [.da a,.da b,.da c,.da d] s=.ok (.lst [a,b,c,d]) s:=(rfl)
def a3v(m:Bool)(lo hi:FO)(ρ:En)(d:D)(s:S):R D:=(lo ρ s).bind fun l s2=> (hi ρ s2).bind fun u s3=> gSl m d l u s3
def a1u(m:Bool)(hi:FO)(ρ:En)(d:D)(l:Option Int)(s:S):R D:=(hi ρ s).bind fun u s3=> gSl m d l u s3
def a2z(m:Bool)(d:D)(l u:Option Int)(s:S):R D:=gSl m d l u s
@[simp] theorem ba2{lo hi:FO}:fSl m f lo hi ρ s=(f ρ s).bind (a3v m lo hi ρ):=(rfl)
@[simp] theorem a95{lo hi:FO}:a3v m lo hi ρ d s=(lo ρ s).bind (a1u m hi ρ d):=(rfl)
@[simp] theorem a99{hi:FO}{l:Option Int}:a1u m hi ρ d l s=(hi ρ s).bind (a2z m d l):=(rfl)
@[simp] theorem a9f{l u:Option Int}:a2z m d l u s=gSl m d l u s:=(rfl)
@[simp] theorem a9u:fNo ρ s=.ok none s:=(rfl)
noncomputable def axh(d:D)(s:S):R (Option Int):=match d with
 |.int i=>.ok (some i) s
 |_=>.bad
@[simp] theorem a81:ko f ρ s=(f ρ s).bind axh:=(rfl)
@[simp] theorem a7k:axh (.int i) s=.ok (some i) s:=(rfl)
noncomputable def a2p(d:D)(s:S):R D:=match d with
 |.int i=>.ok (.int (-i)) s
 |_=>.bad
@[simp] theorem a9j:ae1 f ρ s=(f ρ s).bind a2p:=(rfl)
@[simp] theorem a7w:a2p (.int i) s=.ok (.int (-i)) s:=(rfl)
@[simp] theorem a9e:vo f ρ s=(f ρ s).bind ad4:=(rfl)
@[simp] theorem a7u:ad4 (.bl b) s=.ok b s:=(rfl)
@[simp] theorem a9y{g:FF}{f:FA}:fCB g f ρ s=(f ρ s).bind g:=(rfl)
noncomputable def ahw(n:Nat)(F:FF)(ds:List D)(s:S):R D:=if ds.length=n then F ds s else .bad
@[simp] theorem a7x{F:FF}{f:FA}:jn n F f ρ s=(f ρ s).bind (ahw n F):=(rfl)
@[simp] theorem a7p{F:FF}:ahw 1 F [d] s=F [d] s:=(rfl)
@[simp] theorem a7t{F:FF}:ahw 2 F [d,e] s=F [d,e] s:=(rfl)
@[simp] theorem a7f{F:FF}{d3:D}:ahw 3 F [d,e,d3] s=F [d,e,d3] s:=(rfl)
@[simp] theorem a78{F:FF}{d3 d4:D}:ahw 4 F [d,e,d3,d4] s=F [d,e,d3,d4] s:=(rfl)
@[simp] theorem a75:k0 [.tup xs] s=.ok (.int xs.length) s:=by show R.ok (D.int (xs.map D.da).length) s=_;rw [aj]
@[simp] theorem a79:k0 [.lst xs] s=.ok (.int xs.length) s:=by show R.ok (D.int (xs.map D.da).length) s=_;rw [aj]
theorem len_str(h:x.length <=16777216):k0 [.str x] s=.ok (.int x.length) s:=if_pos (by rw [kc];exact h)
theorem ze(h:s[n]?=some (.lst ds)):k0 [.ref n] s=.ok (.int ds.length) s:=by
 show (match (match s[n]? with|some (O.lst ds)=> some ds|_=> none) with|some xs=> R.ok (D.int xs.length) s|none=>.bad)=_
 rw [h]
@[simp] theorem a7e:ah6 [.int i,.int j] s=.ok (.int (if j < i then j else i)) s:=(rfl)
@[simp] theorem a65:vy false [.tup xs] s=.ok (.lst xs) s:=by
 show (match kd (xs.map D.da) with|some xs=> R.ok (D.lst xs) s|none=>.bad)=_
 rw [qy]
@[simp] theorem a6n:vy false [.lst xs] s=.ok (.lst xs) s:=by
 show (match kd (xs.map D.da) with|some xs=> R.ok (D.lst xs) s|none=>.bad)=_
 rw [qy]
@[simp] theorem a5y:vy true [.lst xs] s=.ok (.ref s.length) (s++ [.lst (xs.map D.da)]):=(rfl)
@[simp] theorem a5x:qb [.lst xs] s=.ok (.tup xs) s:=by
 show (match kd (xs.map D.da) with|some xs=> R.ok (D.tup xs) s|none=>.bad)=_
 rw [qy]
@[simp] theorem a72:ab9 [.da p,.ty "tuple"] s=.ok (.bl (aah p "tuple")) s:=(rfl)
@[simp] theorem a7h:ab9 [.da p,.ty "int"] s=.ok (.bl (aah p "int")) s:=(rfl)
@[simp] theorem a7r:ab9 [.da p,.ty "str"] s=.ok (.bl (aah p "str")) s:=(rfl)
theorem adt(h:okS p=true):zo [.da p] s=.ok (.str p.shown) s:=if_pos h
@[simp] theorem arz{lo hi:Option Int}:gSl m (.tup xs) lo hi s=.ok (.tup (qd xs lo hi)) s:=(rfl)
theorem aa8{α β:Type}(f:α -> β)(l:List α)(lo hi:Option Int):qd (l.map f) lo hi=(qd l lo hi).map f:=by
 unfold qd
 rw [aj,hZ,List.map_drop]
@[simp] theorem a8c{lo hi:Option Int}:gSl false (.lst xs) lo hi s=.ok (.lst (qd xs lo hi)) s:=by
 show (match kd (qd (xs.map D.da) lo hi) with|some xs=> R.ok (D.lst xs) s|none=>.bad)=_
 rw [aa8,qy]
@[simp] theorem a82{lo hi:Option Int}:gSl false (.frz xs) lo hi s=.ok (.lst (qd xs lo hi)) s:=by
 show (match kd (qd (xs.map D.da) lo hi) with|some xs=> R.ok (D.lst xs) s|none=>.bad)=_
 rw [aa8,qy]
noncomputable def j8(fl:Fl)(s:S):R D:=match fl with
 |.rt d=>.ok d s
 |.nx _=>.ok .non s
 |_=>.bad
@[simp] theorem a7m:j8 (.rt d) s=.ok d s:=(rfl)
@[simp] theorem a7q:j8 (.nx ρ) s=.ok .non s:=(rfl)
def aon(fo fi:FE)(ρ:En)(v:D)(s:S):R Fl:=(fo ρ s).bind fun o s2=> (fi ρ s2).bind fun i s3=> (aad o i v s3).bind fun _ s4=>.ok (.nx ρ) s4
def anx(fi:FE)(ρ:En)(v o:D)(s:S):R Fl:=(fi ρ s).bind fun i s3=> (aad o i v s3).bind fun _ s4=>.ok (.nx ρ) s4
def ant(ρ:En)(v o i:D)(s:S):R Fl:=(aad o i v s).bind fun _ s4=>.ok (.nx ρ) s4
@[simp] theorem a7o{fv fi:FE}:ac6 fv fo fi ρ s=(fv ρ s).bind (aon fo fi ρ):=(rfl)
@[simp] theorem a63{fi:FE}:aon fo fi ρ d s=(fo ρ s).bind (anx fi ρ d):=(rfl)
@[simp] theorem a6z{fi:FE}:anx fi ρ d e s=(fi ρ s).bind (ant ρ d e):=(rfl)
@[simp] theorem a6v{o:D}:ant ρ d e o s=(aad e o d s).bind (apg ρ):=(rfl)
def avp(g:GM)(fa:FA)(ρ:En)(d:D)(s:S):R D:=if (toL s d).isSome=true then (fa ρ s).bind fun ds s2=> g d ds s2 else .bad
noncomputable def au5(g:GM)(d:D)(ds:List D)(s:S):R D:=g d ds s
@[simp] theorem a9o{g:GM}:fMt g fo fa ρ s=(fo ρ s).bind (avp g fa ρ):=(rfl)
theorem vn{g:GM}(h:s[n]?=some (.lst ds)):avp g fa ρ (.ref n) s=(fa ρ s).bind (au5 g (.ref n)):=by
 unfold avp
 rw [if_pos]
 ·rfl
 ·show ((match s[n]? with|some (O.lst ds)=> some ds|_=> none):Option (List D)).isSome=true
  rw [h];rfl
@[simp] theorem a97{g:GM}:au5 g d ds s=g d ds s:=(rfl)
theorem v6(h:s[n]?=some (.lst ds))(hl:ds.length < 16777216):j9 (.ref n) [d] s=.ok .non (s.set n (.lst (ds++ [d]))):=by
 show (match s[n]? with|some (O.lst xs)=> (if xs.length < sizeLine then R.ok D.non (s.set n (.lst (xs++ [d]))) else .bad)|_=>.bad)=_
 rw [h]
 show (if ds.length < sizeLine then _ else _)=_
 rw [if_pos (by rw [kc];exact hl)]
theorem ahf(h:s[n]?=some (.lst ds))(hl:ds.length+xs.length <=16777216):aaj (.ref n) [.lst xs] s=.ok .non (s.set n (.lst (ds++xs.map D.da))):=by
 show (match s[n]? with|some (O.lst ys)=> (if ys.length+(xs.map D.da).length <=sizeLine then R.ok D.non (s.set n (.lst (ys++xs.map D.da))) else .bad)|_=>.bad)=_
 rw [h]
 exact if_pos (by rw [kc,aj];exact hl)
theorem aun(h:s[n]?=some (.lst ds))(hk:ds[k]?=some d)(hl:ds.length <=16777216):ab0 (.ref n) [.int (k:Int)] s=.ok d (s.set n (.lst (ds.eraseIdx k))):=by
 have hlt:k < ds.length:=(aq.mp hk).1
 have e1:fF (k:Int) ds.length=some k:=by
  rw [PySem.StrLaws.seqIndex_nonneg (by lia) (by lia),ee]
 have b1: -(2^63) <=(k:Int)/\(k:Int) < 2^63:=by lia
 unfold ab0 onL
 simp only [h,e1,hk,b1,and_self,if_true]
def a44(d:D)(s:S):R D:=aug d s
@[simp] theorem a98:alj f ρ s=(f ρ s).bind a44:=(rfl)
theorem aor(h:s[n]?=some (.lst ds))(h2:kd ds=some xs):a44 (.ref n) s=.ok (.lst xs) (s.set n .gone):=by
 show (match s[n]? with|some (O.lst ds)=> (match kd ds with|some xs=> R.ok (D.lst xs) (s.set n .gone)|none=>.bad)|_=>.bad)=_
 rw [h]
 show (match kd ds with|some xs=> R.ok (D.lst xs) (s.set n .gone)|none=>.bad)=_
 rw [h2]
def a3x(g:Tg)(ρ:En)(d:D)(s:S):R Fl:=match vt g d ρ with
 |some ρ1=>.ok (.nx ρ1) s
 |none=>.bad
@[simp] theorem a96:au2 g f ρ s=(f ρ s).bind (a3x g ρ):=(rfl)
def kFor(g:Tg)(fb:FS)(ρ:En)(p:Wk)(s:S):R Fl:=chk p s (vx g fb p p.1 ρ s)
@[simp] theorem a9a{fi:FI}:ack fi g fb ρ s=(fi ρ s).bind (kFor g fb ρ):=(rfl)
@[simp] theorem a8j:kFor g fb ρ (ds,none) s=vx g fb (ds,none) ds ρ s:=aa2
@[simp] theorem ba5:fIt f ρ s=(f ρ s).bind al2:=(rfl)
@[simp] theorem a8u:al2 (.lst xs) s=.ok (xs.map D.da,none) s:=(rfl)
@[simp] theorem a88:al2 (.tup xs) s=.ok (xs.map D.da,none) s:=(rfl)
@[simp] theorem a8y{f:FA}:af0 f ρ s=(f ρ s).bind alh:=(rfl)
theorem afc(h: -(2^62) <=j)(h2:j < 2^62):alh [.int j] s=.ok (ab6 0 j.toNat,none) s:=if_pos ⟨h,h2⟩
def adz(g:Tg)(fb:FS)(p:Wk)(r:List D)(fl:Fl)(s:S):R Fl:=match fl with
 |.nx ρ2=> chk p s (vx g fb p r ρ2 s)
 |.ct ρ2=> chk p s (vx g fb p r ρ2 s)
 |.bk ρ2=>.ok (.nx ρ2) s
 |.rt d=>.ok (.rt d) s
theorem ajn{p:Wk}{ρ1:En}(h:vt g d ρ=some ρ1):vx g fb p (d::r) ρ s=(fb ρ1 s).bind (adz g fb p r):=by
 rw [vx,h];rfl
@[simp] theorem ayy:adz g fb (ds,none) r (.nx ρ) s=vx g fb (ds,none) r ρ s:=aa2
@[simp] theorem ayt:adz g fb (ds,none) r (.ct ρ) s=vx g fb (ds,none) r ρ s:=aa2
@[simp] theorem anu{p:Wk}:adz g fb p r (.bk ρ) s=.ok (.nx ρ) s:=(rfl)
@[simp] theorem aos{p:Wk}:adz g fb p r (.rt d) s=.ok (.rt d) s:=(rfl)
def kLc(m:Bool)(js:List Nat)(k:Nat)(g:Tg)(ft:FT)(fe:FE)(ρ:En)(p:Wk)(s:S):R D:=if p.1.length <=sizeLine then chk p s ((vd g ft fe (bD k none++air ρ js) p p.1 s).bind fun ds s2=> xg m ds s2) else .bad
@[simp] theorem ba3{fi:FI}:fLc m js k fi g ft fe ρ s=(fi ρ s).bind (kLc m js k g ft fe ρ):=(rfl)
def ap5(m:Bool)(ds:List D)(s:S):R D:=xg m ds s
theorem zu{ρ0:En}(h:ds.length <=16777216)(e:bD k none++air ρ js=ρ0):kLc m js k g ft fe ρ (ds,none) s=(vd g ft fe ρ0 (ds,none) ds s).bind (ap5 m):=by
 subst e
 unfold kLc
 rw [if_pos (by rw [kc];exact h),aa2];rfl
@[simp] theorem a8r:ap5 false (xs.map D.da) s=.ok (.lst xs) s:=by
 show (match kd _ with|some xs=> R.ok (D.lst xs) s|none=>.bad)=_
 rw [qy]
@[simp] theorem auc{p:Wk}:vd g ft fe ρ p [] s=.ok [] s:=(rfl)
def amr(g:Tg)(ft:FT)(fe:FE)(ρ0:En)(p:Wk)(r:List D)(ρ1:En)(b:Bool)(s2:S):R (List D):=if b=true then (fe ρ1 s2).bind fun x s3=> chk p s3 ((vd g ft fe ρ0 p r s3).bind fun xs s4=>.ok (x::xs) s4) else chk p s2 (vd g ft fe ρ0 p r s2)
def as9(g:Tg)(ft:FT)(fe:FE)(ρ0:En)(p:Wk)(r:List D)(x:D)(s3:S):R (List D):=chk p s3 ((vd g ft fe ρ0 p r s3).bind fun xs s4=>.ok (x::xs) s4)
theorem af1{p:Wk}{ρ1:En}(h:vt g d ρ=some ρ1):vd g ft fe ρ p (d::r) s=(ft ρ1 s).bind (amr g ft fe ρ p r ρ1):=by
 rw [vd,h];rfl
@[simp] theorem amt{p:Wk}{ρ1:En}:amr g ft fe ρ p r ρ1 true s=(fe ρ1 s).bind (as9 g ft fe ρ p r):=(rfl)
@[simp] theorem amn{ρ1:En}:amr g ft fe ρ (ds,none) r ρ1 false s=vd g ft fe ρ (ds,none) r s:=aa2
@[simp] theorem amf:as9 g ft fe ρ (ds,none) r d s=(vd g ft fe ρ (ds,none) r s).bind (alr d):=aa2
theorem a91:abc true [a0] s=.ok (.ref s.length) (s++ [.lst [a0]]):=(rfl)
theorem a9m:abc true [a0,a1] s=.ok (.ref s.length) (s++ [.lst [a0,a1]]):=(rfl)
theorem a9h{a2 a3:D}:abc true [a0,a1,a2,a3] s=.ok (.ref s.length) (s++ [.lst [a0,a1,a2,a3]]):=(rfl)
theorem a7s(h:xs.length <=16777216):abc false (xs.map D.da) s=.ok (.lst xs) s:=ayp (qy xs) (by rw [aj];exact h)
theorem a73(h:xs.length <=16777216):af7 (xs.map D.da) s=.ok (.tup xs) s:=a0l (qy xs) (by rw [aj];exact h)
theorem it0{a0:ag}{r:List ag}:gIx (.tup (a0::r)) (.int 0) s=.ok (.da a0) s:=ag5 (k:=0) rfl
theorem il0{a0:ag}{r:List ag}:gIx (.lst (a0::r)) (.int 0) s=.ok (.da a0) s:=aaf (k:=0) rfl
theorem it1{a0 a1:ag}{r:List ag}:gIx (.tup (a0::a1::r)) (.int 1) s=.ok (.da a1) s:=ag5 (k:=1) rfl
theorem il1{a0 a1:ag}{r:List ag}:gIx (.lst (a0::a1::r)) (.int 1) s=.ok (.da a1) s:=aaf (k:=1) rfl
theorem it2{a0 a1 a2:ag}{r:List ag}:gIx (.tup (a0::a1::a2::r)) (.int 2) s=.ok (.da a2) s:=ag5 (k:=2) rfl
theorem il2{a0 a1 a2:ag}{r:List ag}:gIx (.lst (a0::a1::a2::r)) (.int 2) s=.ok (.da a2) s:=aaf (k:=2) rfl
theorem it3{a0 a1 a2 a3:ag}{r:List ag}:gIx (.tup (a0::a1::a2::a3::r)) (.int 3) s=.ok (.da a3) s:=ag5 (k:=3) rfl
theorem il3{a0 a1 a2 a3:ag}{r:List ag}:gIx (.lst (a0::a1::a2::a3::r)) (.int 3) s=.ok (.da a3) s:=aaf (k:=3) rfl
theorem ag6{r:En}{y:Option D}:vt (.nm 0) d (y::r)=some (some d::r):=(rfl)
theorem a89{r:En}{y:Option D}:af8 1 (x0::y::r) d s=.ok (.nx (x0::some d::r)) s:=(rfl)
theorem a84{r:En}{y:Option D}:af8 2 (x0::x1::y::r) d s=.ok (.nx (x0::x1::some d::r)) s:=(rfl)
theorem a8k{r:En}{y:Option D}:af8 3 (x0::x1::x2::y::r) d s=.ok (.nx (x0::x1::x2::some d::r)) s:=(rfl)
theorem a8g{r:En}{x3 y:Option D}:af8 4 (x0::x1::x2::x3::y::r) d s=.ok (.nx (x0::x1::x2::x3::some d::r)) s:=(rfl)
theorem a8m{r:En}{x3 x4 y:Option D}:af8 5 (x0::x1::x2::x3::x4::y::r) d s=.ok (.nx (x0::x1::x2::x3::x4::some d::r)) s:=(rfl)
theorem a7z{r:En}{x3 x4 x5 x6 y:Option D}:af8 7 (x0::x1::x2::x3::x4::x5::x6::y::r) d s=.ok (.nx (x0::x1::x2::x3::x4::x5::x6::some d::r)) s:=(rfl)
end
@[simp] theorem R.bind_ok'{α β:Type}(a:α)(s:S)(f:α -> S -> R β):(R.ok a s).bind f=f a s:=(rfl)
@[simp] theorem R.W_ok'{α:Type}(a:α)(s:S)(Q:α -> S -> Prop):(R.ok a s).W Q=Q a s:=(rfl)
def flW(J:En -> S -> Prop)(Q:Fl -> S -> Prop)(fl:Fl)(s:S):Prop:=match fl with
 |.nx ρ=> J ρ s
 |.ct ρ=> J ρ s
 |.bk ρ=> Q (.nx ρ) s
 |.rt d=> Q (.rt d) s
theorem y8{g:Tg}{fb:FS}{all:List D}{Q:Fl -> S -> Prop}(J:List D -> En -> S -> Prop)
  (step: ∀d r ρ s,J (d::r) ρ s -> ∃ρ1,vt g d ρ=some ρ1/\(fb ρ1 s).W (flW (J r) Q)) (fin: ∀ρ s,J [] ρ s -> Q (.nx ρ) s):
  ∀(ds:List D) (ρ:En) (s:S),J ds ρ s -> (vx g fb (all,none) ds ρ s).W Q
 |[],ρ,s,h=> fin ρ s h
 |d::r,ρ,s,h=> by
  obtain⟨ρ1,e,w⟩:=step d r ρ s h
  rw [ajn e,R.W_bind]
  refine R.W_mono w fun fl s1 q=> ?_
  cases fl with
  |nx ρ2=> rw [ayy];exact y8 J step fin r ρ2 s1 q
  |ct ρ2=> rw [ayt];exact y8 J step fin r ρ2 s1 q
  |bk ρ2=> rw [anu];exact q
  |rt d=> rw [aos];exact q
theorem aha{g:Tg}{ft:FT}{fe:FE}{ρ0:En}{all:List D}{Q:List D -> S -> Prop}(J:List D -> List D -> S -> Prop)
  (step: ∀d r acc s,J (d::r) acc s -> ∃ρ1,vt g d ρ0=some ρ1/\(ft ρ1 s).W fun b s2=> if b=true then (fe ρ1 s2).W fun x s3=> J r (acc++ [x]) s3 else J r acc s2) (fin: ∀acc s,J [] acc s -> Q acc s):
  ∀(ds acc:List D) (s:S),J ds acc s -> (vd g ft fe ρ0 (all,none) ds s).W fun xs s'=> Q (acc++xs) s'
 |[],acc,s,h=> by
  rw [auc,R.W_ok,bj]
  exact fin acc s h
 | d::r,acc,s,h=> by
  obtain⟨ρ1,e,w⟩:=step d r acc s h
  rw [af1 e,R.W_bind]
  refine R.W_mono w fun b s1 q=> ?_
  cases b with
  |false=>
   rw [amn]
   rw [if_neg ax]at q
   exact aha J step fin r acc s1 q
  |true=>
   rw [amt,R.W_bind]
   rw [if_pos rfl]at q
   refine R.W_mono q fun x s2 q2=> ?_
   rw [amf,R.W_bind]
   refine R.W_mono (aha J step fin r (acc++ [x]) s2 q2) fun xs s3 q3=> ?_
   rw [aj5,R.W_ok]
   rw [cn]at q3
   exact q3
structure Ext (s s':S):Prop where
 ex: ∃g,s'=s++g
theorem Ext.refl(s:S):Ext s s:=⟨[],by simp⟩
theorem Ext.trans{a b c:S}(h1:Ext a b)(h2:Ext b c):Ext a c:=by
 obtain⟨g,rfl⟩:=h1.ex
 obtain⟨k,rfl⟩:=h2.ex
 exact⟨g++k,by rw [cn]⟩
theorem Ext.add(s g:S):Ext s (s++g):=⟨g,rfl⟩
theorem Ext.len(h:Ext s s'):s.length <=s'.length:=by obtain⟨g,rfl⟩:=h.ex;simp
theorem Ext.get(h:Ext s s'){o:O}(e:s[k]?=some o):s'[k]?=some o:=by
 obtain⟨g,rfl⟩:=h.ex
 rw [aR (aq.mp e).1];exact e
theorem Ext.getE(h:Ext s s')(e:k < s.length):s'[k]?=s[k]?:=by
 obtain⟨g,rfl⟩:=h.ex
 rw [aR e]
structure qj (n:Nat) (s s':S):Prop where
 len:s.length <=s'.length
 get: ∀k,k≠n -> k < s.length -> s'[k]?=s[k]?
theorem qj.refl(n:Nat)(s:S):qj n s s:=⟨ao _,fun _ _ _=> rfl⟩
theorem qj.trans{a b c:S}(h1:qj n a b)(h2:qj n b c):qj n a c:=⟨aQ h1.len h2.len,fun k hk hl=> (h2.get k hk (aD hl h1.len)).trans (h1.get k hk hl)⟩
theorem Ext.same(h:Ext s s')(n:Nat):qj n s s':=⟨h.len,fun _ _ hl=> h.getE hl⟩
theorem acg{o:O}:qj n s (s.set n o):=⟨by simp,fun k hk hl=> am (c8 hk)⟩
theorem qj.own{o:O}(h:qj n s s')(hk:s.length <=k):qj n s (s'.set k o):=⟨by simpa using h.len,fun j hj hl=> by rw [am (by lia)];exact h.get j hj hl⟩
theorem avd{α:Type}{s:List α}{o:α}(e:s[n]?=some o):s.set n o=s:=by
 apply List.ext_getElem?
 intro i
 by_cases z:n=i
 ·subst z
  have hl:=(aq.mp e).1
  rw [aE hl,e]
 ·rw [am z]
structure Nice (B D:Nat) (d:ag):Prop where
 ls:d.leavesShort 13=true
 sh:d.showable=true
 cl:d.canLay0=true
 bk:d.bulk <=B
 dp:d.depth <=D
structure Nices (B D:Nat) (ds:List ag):Prop where
 ls:gS 13 ds=true
 sh:PyData.showableAll ds=true
 cl:bw ds=true
 bk:PyData.bulkAll ds <=B
 dp:bE ds <=D
theorem Nice.mono{D B' D':Nat}{d:ag}(h:Nice B D d)(hb:B <=B')(hd:D <=D'):Nice B' D' d:=⟨h.ls,h.sh,h.cl,aQ h.bk hb,aQ h.dp hd⟩
theorem Nices.mono{D B' D':Nat}{ds:List ag}(h:Nices B D ds)(hb:B <=B')(hd:D <=D'):Nices B' D' ds:=⟨h.ls,h.sh,h.cl,aQ h.bk hb,aQ h.dp hd⟩
theorem Nices.nil{D:Nat}:Nices 0 D []:=⟨rfl,rfl,rfl,ao _,bP _⟩
theorem Nices.cons{B' D:Nat}{d:ag}{ds:List ag}(h:Nice B D d)(t:Nices B' D ds):Nices (B+1+B') D (d::ds):=by
 obtain⟨a1,a2,a5,a3,a4⟩:=h
 obtain⟨b1,b2,b5,b3,b4⟩:=t
 refine⟨?_,?_,?_,?_,?_⟩
 ·simp only [gS,a1,b1,eC]
 ·simp only [PyData.showableAll,a2,b2,eC]
 ·simp only [bw,a5,b5,eC]
 ·simp only [PyData.bulkAll];lia
 ·simp only [bE];lia
theorem Nices.tup{D:Nat}{ds:List ag}(h:Nices B D ds):Nice B (D+1) (.tuple ds):=by
 obtain⟨b1,b2,b5,b3,b4⟩:=h
 refine⟨?_,?_,?_,?_,?_⟩
 ·simpa only [dS] using b1
 ·simpa only [eW] using b2
 ·simpa only [cN] using b5
 ·simpa only [PyData.bulk] using b3
 ·simp only [bX];lia
theorem Nices.lst{D:Nat}{ds:List ag}(h:Nices B D ds):Nice B (D+1) (.list ds):=by
 obtain⟨b1,b2,b5,b3,b4⟩:=h
 refine⟨?_,?_,?_,?_,?_⟩
 ·simpa only [dS] using b1
 ·simpa only [eW] using b2
 ·simpa only [cN] using b5
 ·simpa only [PyData.bulk] using b3
 ·simp only [bX];lia
theorem Nice.okS{D:Nat}{d:ag}(h:Nice B D d)(hb:B <=1048576)(hd:D <=64):okS d=true:=by
 unfold PF.okS
 (simp only [aF,decide_eq_true_eq])
 exact⟨⟨⟨h.cl,h.sh⟩,aQ h.dp hd⟩,PyData.shown_fits_bulk (by decide) (by decide) h.ls (aQ h.bk hb)⟩
theorem acu{B D:Nat}: ∀(ds:List ag),(∀d∈ds,Nice B D d) -> Nices ((B+1)*ds.length) D ds
 |[],_=> Nices.nil
 |d::r,h=> by
  refine (Nices.cons (h d aC) (acu r fun y hy=> h y (az _ hy))).mono ?_ (ao _)
  rw [av,Nat.mul_add];lia
theorem aqt:Nice 0 0 .none:=⟨rfl,rfl,rfl,ao _,by simp [bX]⟩
theorem ah0(h0:i.natAbs < 10^12):Nice 0 0 (.int i):=by
 refine⟨?_,?_,rfl,ao _,by simp [bX]⟩
 ·simp only [dS,decide_eq_true_eq]
  exact PyData.shown_int_le h0
 ·simp only [eW,decide_eq_true_eq]
  have:i.natAbs.log2 <=i.natAbs:=Nat.log2_le_self _
  by_cases z:i.natAbs=0
  ·rw [z];decide
  ·have h2:i.natAbs < 2^40:=by lia
   have:=(Nat.log2_lt z).mpr h2
   lia
end PF
namespace PF
open PySem PySem.Spec
open L2
open PyProof.Rows (envOfC)
section
variable{P:aW}{w:aY}{K:ah}{mg:Str -> Option af}{base:Heap}{x:Str}{st:Stmt}{N ps:List Str}{k:Nat}
theorem fnF{f:Addr}(F:Fun K x x st f fd)(S:FnScope N ps (jj st)){m:Nat}(hm:N.length=m)(hn:ps.length=n)(hbody: ∀(f:Addr) (cdv:af) (A:bd) (outer:List Env) (s:ak) (H:Hp) (E:XK),Room k (A.deeper (envOfC x (jj st) s.heap.objs.size f cdv)) ->
   RSs (ab7 CX0 P w K mg base N x (jj st) f cdv A outer s H E).nox (va st) fb):FnOk P w K mg base CX0 (k+1) f fd ps (spF K n (j7 m fb)):=by
 refine F.ok S (fun vs H Q E h=> by rw [hn];exact h.1) fun cdv A outer s H vs Q E hr h=> ?_
 obtain⟨hv,as,ds,s',rl,rs,h⟩:=h
 obtain⟨t,p,r⟩:=(hbody f cdv A outer s H E hr).ex
 refine⟨t,p,?_⟩
 have en:Envs K as H (ds.map some++bD (m - ds.length) none) (L2.start N vs):=by rw [←hm];exact aen rs
 refine r as _ H _ s' _ rl en (Dn.bind h fun fl s1 as1 H1 fv st1 rl1 r1 h1=> ?_)
 cases r1 with
 |nx e=> exact Dn.now (Q:=Q) h1 rl1 (.da .non)
 |rt e=> exact Dn.now (Q:=Q) h1 rl1 e
 |bk e=> exact h1.elim
 |ct e=> exact h1.elim
theorem a23{f:Addr}{F:FF}(h:FnOk P w K mg base CX0 k f fd ps (spF K 1 F))(ht: ∀ns:List Int,ns.length <=63 -> (F [.frz (ns.map aP)] []).W fun d _=> d=.bl true):FnOk P w K mg base CX0 k f fd ps (akt K):=by
 refine h.imp fun vs H Q E q=> ?_
 obtain⟨a,ns,rfl,hS,hl,hq⟩:=q
 have R0:Rel K ⟨[],[]⟩ H []:=⟨rfl,fun i j p e=> by simp at e,fun n p o e=> by simp at e,fun n o e=> by simp at e,fun p hp=> by simp at hp,fun p hp=> by simp at hp⟩
 refine⟨rfl,⟨[],[]⟩,[.frz (ns.map aP)],[],R0,.cons (.frz (fun as' H' st=> ?_) (TDs.ints ns)) .nil,?_⟩
 ·exact L2.qj.seq (fun b o hb=> st.keep b o (by simp [As.has]) hb) hS
 ·have t:=ht ns hl
  cases hr:F [.frz (ns.map aP)] []with
  |ok d s=>
   rw [hr]at t
   intro b as' H' st rl rb
   have:d=.bl true:=t
   subst this
   cases rb with
   |da z=> cases z;exact hq _
  |bad=> rw [hr]at t;exact t
end
end PF
namespace PF
open PySem PySem.Spec
open L2
theorem yt(c: ∃t,X.mg x=some (.int i t))(hg:Gl X x:=by rfl)(hd:(x==("__debug__":Str))=false:=by decide):RE X (.Name x pos) (fC (.da (.int i))):=by
 obtain⟨t,hm⟩:=c
 exact aj6 (v:=.int i) (fun as H=>.da (.int i)) hm ⟨_,rfl⟩ hg hd
theorem afy{z:Str}(c: ∃t,X.mg x=some (.str z t))(hg:Gl X x:=by rfl)(hd:(x==("__debug__":Str))=false:=by decide):RE X (.Name x pos) (fC (.da (.str z))):=by
 obtain⟨t,hm⟩:=c
 exact aj6 (v:=.str z) (fun as H=>.da (.str z)) hm ⟨_,rfl⟩ hg hd
end PF
namespace PF
open PySem PySem.Spec
open PySem.SeqAt
open AutoSeq1 (wpAny_loadPart') --
open MeetsSeq MeetsSeq2 MeetsSeq3 SeqRoads2 --
def als(A:bd)(s:ak)(x y:af)(b:Bool):Prop:= ∀(prog:aW) (w:aY) (E:af -> ak -> Prop) (Q:af -> ak -> Prop),Q (.bool b) s -> wpAny (model prog w) A (iy .Lt x y) Q E s
inductive LexAt (A:bd) (s:ak) (fin:Bool):List (af×af) -> Bool -> Prop
 |nil:LexAt A s fin [] fin
 |same {x y:af} {r:List (af×af)} {b:Bool}:EqAt A s x y true -> LexAt A s fin r b -> LexAt A s fin ((x,y)::r) b
 |diff {x y:af} {r:List (af×af)} {b:Bool}:EqAt A s x y false -> als A s x y b -> LexAt A s fin ((x,y)::r) b
theorem a1z(l b:Addr)(us ws:Array af)(n n2:Nat)(dd dd2:Option Addr)(sl sl2:Array (Option af))(r:Bool):
  Meets (d0.«tuple.__lt__» ⟨[.ref l,.ref b],[]⟩)
   (fun A R s=> s.heap.get? l=some {cls:=.type "tuple",dict:=dd,data:=.seq us n,slots:=sl}/\s.heap.get? b=some {cls:=.type "tuple",dict:=dd2,data:=.seq ws n2,slots:=sl2}/\
    LexAt A.in1 s (decide (us.size < ws.size)) (us.toList.zip ws.toList) r/\R (.ok (.ret (.bool r))) s):=
 .of_wp fun prog w A R s h=> by
  (obtain⟨hp,g,d,tk,os⟩:=s)
  obtain⟨hl,hb,lx,hR⟩:=h
  have sub:=AutoSeq1.sub_tuple_tuple
  wp_walk using iA hl,iA hb,fW _ (fun jp b s'=> b.1=none/\s'=⟨hp,g,d,tk,os⟩/\LexAt A.in1 ⟨hp,g,d,tk,os⟩ (decide (us.size < ws.size)) jp r) _
  case turn=>
   rintro⟨y,x⟩ jp b s' ⟨hb',rfl,lx⟩
   cases lx with
   |same e t=>
    refine ae (e prog w _ _ ?_)
    wp_walk
    exact⟨rfl,rfl,t⟩
   |diff e t=>
    refine ae (e prog w _ _ ?_)
    have t': ∀(E:af -> ak -> Prop) (Q:af -> ak -> Prop),Q (.bool r) ⟨hp,g,d,tk,os⟩ -> wpAny (model prog w) A.in1 (iy .Lt y x) Q E ⟨hp,g,d,tk,os⟩:=fun E Q=> t prog w E Q
    generalize iy .Lt y x=m at t'⊢
    wp_walk
    refine t' _ _ ?_
    wp_walk
    exact⟨_,rfl,hR⟩
  case fin=>
   rintro⟨b1,b2⟩ s' ⟨hb',rfl,lx⟩
   simp only at hb'
   subst hb'
   cases lx
   wp_walk
   exact⟨_,rfl,by simpa [Builtin.Tuple.tupleCompareSizes] using hR⟩
  case h=> exact⟨rfl,rfl,lx⟩
section
variable{A:bd}{s:ak} --
theorem als.tuples{l b:Addr}{us ws:Array af}{r:Bool}(hl:s.heap.IsTuple l us)(hb:s.heap.IsTuple b ws)(hu:A.units < cLine)(lx:LexAt A.in1 s (decide (us.size < ws.size)) (us.toList.zip ws.toList) r):als A s (.ref l) (.ref b) r:=fun prog w E Q h=> by
 obtain⟨⟨c1,d1,e1,s1⟩,o1,k1,n1,q1⟩:=id hl
 obtain⟨⟨c2,d2,e2,s2⟩,o2,k2,n2,q2⟩:=id hb
 simp only at k1 q1 k2 q2
 subst k1 q1 k2 q2
 exact richCompare_meets_room (op:=.Lt) ⟨_,o1,rfl⟩ ⟨_,o2,rfl⟩ F.slot_tuple_lt F.entry_tuple_lt (F.args_tuple_lt_2 _ _) (a1z l b us ws n1 n2 d1 d2 s1 s2 r) ⟨o1,o2,lx,show dX r≠Value.notImplemented/\Q (.bool r) s from ⟨nofun,h⟩⟩ hu
end
mutual
noncomputable def ltP:ag -> ag -> Option Bool
 |.int i,.int j=> some (decide (i < j))
 |.str a,.str b=> some (decide (a.cps.toList < b.cps.toList))
 |.tuple xs,.tuple ys=> aak xs ys
 |_,_=> none
noncomputable def aak:List ag -> List ag -> Option Bool
 |[],[]=> some false
 |[],_::_=> some true
 |_::_,[]=> some false
 |x::xs,y::ys=> if aJ x y=true then aak xs ys else ltP x y
end
theorem al5:aak [] []=some false:=by simp only [aak]
theorem aki{y:ag}:aak [] (y::ys)=some true:=by simp only [aak]
theorem akl{y:ag}:aak (y::ys) []=some false:=by simp only [aak]
theorem arh{x y:ag}:aak (x::xs) (y::ys)=if aJ x y=true then aak xs ys else ltP x y:=by simp only [aak]
theorem anz{j:Int}:ltP (.int i) (.int j)=some (decide (i < j)):=by simp only [ltP]
theorem ay7{a b:Str}:ltP (.str a) (.str b)=some (decide (a.cps.toList < b.cps.toList)):=by simp only [ltP]
theorem az1:ltP (.tuple xs) (.tuple ys)=aak xs ys:=by simp only [ltP]
end PF
namespace PF
open PySem PySem.Spec
open PySem.SeqAt
mutual
theorem aho: ∀(da db:ag) (A:bd) (s:ak) (a b:af) (as bs:List Addr) (r:Bool),di s.heap a da as -> di s.heap b db bs -> da.canLay0=true -> db.canLay0=true -> A.units+min da.depth db.depth < cLine -> ltP da db=some r -> als A s a b r
 | .int i,db,A,s,_,_,_,_,r,ra,rb,_,_,_,h=> by
  cases db with
  |int j=>
   rw [anz]at h
   cases h
   cases ra;cases rb
   exact fun prog w E Q q=> PyProof.Rows.lt_int q
  |none=> simp [ltP]at h
  |bool _=> simp [ltP]at h
  |str _=> simp [ltP]at h
  |list _=> simp [ltP]at h
  |tuple _=> simp [ltP]at h
  |dict _=> simp [ltP]at h
 | .str x,db,A,s,_,_,_,_,r,ra,rb,_,_,_,h=> by
  cases db with
  |str j=>
   rw [ay7]at h
   cases h
   cases ra;cases rb
   exact fun prog w E Q q=> PyProof.Rows.lt_str q
  |none=> simp [ltP]at h
  |bool _=> simp [ltP]at h
  |int _=> simp [ltP]at h
  |list _=> simp [ltP]at h
  |tuple _=> simp [ltP]at h
  |dict _=> simp [ltP]at h
 | .tuple xs,db,A,s,_,_,_,_,r,ra,rb,ha,hb,hu,h=> by
  cases db with
  | tuple ys=>
   rw [az1]at h
   cases ra with
   | tuple h1 h2 h3 h4=>
    cases rb with
    |tuple k1 k2 k3 k4=>
     refine als.tuples ⟨_,h1,h2,_,h3⟩ ⟨_,k1,k2,_,k3⟩ (room_here hu) ?_
     have t:=ags xs ys A.in1 s _ _ _ _ r h4 k4 ha hb (room_in hu) h
     simpa using t
  |none=> simp [ltP]at h
  |bool _=> simp [ltP]at h
  |int _=> simp [ltP]at h
  |list _=> simp [ltP]at h
  |str _=> simp [ltP]at h
  |dict _=> simp [ltP]at h
 |.none,_,_,_,_,_,_,_,_,_,_,_,_,_,h=> by simp [ltP]at h
 |.bool _,_,_,_,_,_,_,_,_,_,_,_,_,_,h=> by simp [ltP]at h
 |.list _,_,_,_,_,_,_,_,_,_,_,_,_,_,h=> by simp [ltP]at h
 |.dict _,_,_,_,_,_,_,_,_,_,_,ha,_,_,_=> nomatch ha
theorem ags: ∀(xs ys:List ag) (A:bd) (s:ak) (vs ws:List af) (as bs:List Addr) (r:Bool),eE s.heap vs xs as -> eE s.heap ws ys bs -> bw xs=true -> bw ys=true -> A.units+min (bE xs) (bE ys) < cLine -> aak xs ys=some r -> LexAt A s (decide (vs.length < ws.length)) (vs.zip ws) r
 |[],[],A,s,_,_,_,_,r,ra,rb,_,_,_,h=> by
  cases ra;cases rb
  rw [al5]at h
  cases h
  exact .nil
 |[],_::_,A,s,_,_,_,_,r,ra,rb,_,_,_,h=> by
  cases ra;cases rb
  rw [aki]at h
  cases h
  simpa using LexAt.nil (A:=A) (s:=s) (fin:=true)
 |_::_,[],A,s,_,_,_,_,r,ra,rb,_,_,_,h=> by
  cases ra;cases rb
  rw [akl]at h
  cases h
  simpa using LexAt.nil (A:=A) (s:=s) (fin:=false)
 | x ::xs,y::ys,A,s,_,_,_,_,r,ra,rb,ha,hb,hu,h=> by
  have ha':x.canLay0=true/\bw xs=true:=by simpa [bw] using ha
  have hb':y.canLay0=true/\bw ys=true:=by simpa [bw] using hb
  rw [arh]at h
  cases ra with
  | cons r1 rs=>
   cases rb with
   | cons r2 rs2=>
    have e:=eqAt_reads x y A s _ _ _ _ r1 r2 ha'.1 hb'.1 (room_head hu)
    rw [List.zip_cons_cons,av,av]
    by_cases q:aJ x y=true
    ·rw [if_pos q]at h
     rw [q]at e
     have t:=ags xs ys A s _ _ _ _ r rs rs2 ha'.2 hb'.2 (room_tail hu) h
     refine .same e ?_
     simpa using t
    ·rw [if_neg q]at h
     rw [Bool.not_eq_true]at q
     rw [q]at e
     exact .diff e (aho x y A s _ _ _ _ r r1 r2 ha'.1 hb'.1 (room_head hu) h)
end
end PF
namespace PF
open PySem PySem.Spec
open L2
def aql(dx dy:D)(s:S):R D:=match toP s dx,toP s dy with
 |some a,some b=> match ltP a b with
  |some r=> if okD a=true/\okD b=true then .ok (.bl r) s else .bad
  |none=>.bad
 |_,_=>.bad
theorem a4l(hu:X.A.units+64 < cLine):Op2 X (aN .Lt) aql:=xl fun pins sh σ H as s x y dx dy v u Q I rl r1 r2 rx ry h=> by
 unfold aql at h
 split at h
 ·rename_i a b ea eb
  split at h
  ·rename_i r hr
   split at h
   ·rename_i hok
    obtain⟨bs1,q1⟩:=r1.reads I rl ea rx
    obtain⟨bs2,q2⟩:=r2.reads I rl eb ry
    obtain⟨c1,d1⟩:=zi hok.1
    obtain⟨c2,d2⟩:=zi hok.2
    exact aho a b _ _ _ _ _ _ r q1 q2 c1 c2 (by lia) hr _ _ _ _ ⟨.bl _,H,I,rfl,Dn.now (Q:=Q) h rl (.da (.bl _))⟩
   ·exact h.elim
  ·exact h.elim
 ·exact h.elim
def ag1(ds:List D)(s:S):R D:=match ds with
 |[d]=> match (ah1 s d).bind y2 with
  |some ss=> if ss.length < 4000 then .ok (.int (kg ss).length) s else .bad
  |none=>.bad
 |_=>.bad
theorem aqv{f:FA}{p1 p2 pos2:Pos}(hc:X.calm=true)(hm1:X.mg "len"=none)(hm2:X.mg "set"=none)(ha:RA X [e] f)(hg1:Gl X "len":=by rfl)(hg2:Gl X "set":=by rfl)(hs:starEach [e] X.env=(false,eval e X.env)::starEach [] X.env:=by rfl)(hs2:starEach [.Call (.Name "set" p2) [e] [] pos2] X.env=(false,eval (.Call (.Name "set" p2) [e] [] pos2) X.env)::starEach [] X.env:=by rfl)(hpl:(backTo pos (starEach [] X.env)).any (·.1)=false:=by rfl)(hpl2:(backTo pos2 (starEach [] X.env)).any (·.1)=false:=by rfl):
  RE X (.Call (.Name "len" p1) [.Call (.Name "set" p2) [e] [] pos2] [] pos) (fCB ag1 f):=by
 obtain⟨t,pa,ra⟩:=ha.ex
 have pset:=ak3 (X:=X) (atu hc) hg2 hm2 a4b pa (pos:=pos2) (p:=p2) (by decide) (by decide) hs hpl2
 have plen:=al9 (X:=X) atd hg1 hm1 qp (aig pset amb hs2) (pos:=pos) (p:=p1) (by decide) (by decide) hs2 hpl
 refine⟨_,plen,fun as σ H ρ s Q rl en h=> ?_⟩
 refine ra as σ H ρ s _ rl en (Dn.bind h fun ds s1 as1 H1 vs st1 rl1 r1 h1=> ?_)
 unfold ag1 at h1
 split at h1
 ·obtain⟨v,rfl,rv⟩:=r1.one
  split at h1
  ·rename_i ss e
   split at h1
   ·rename_i hz
    cases e2:ah1 s1 _ with
    |none=> rw [e2]at e;cases e
    |some xs=>
     rw [e2]at e
     obtain⟨p,zs,rfl,sq,rz⟩:=ad9 rl1 rv e2
     obtain⟨ez,ex⟩:=aim rz (show y2 xs=some ss from e)
     subst ez
     refine⟨p,ss,rfl,sq,hz,fun q H2 n2=> ⟨q,ss,rfl,n2.at,?_⟩⟩
     exact Dn.now (Q:=Q) (Dn.step h1 (km n2)) (rl1.new n2) (.da (.int _))
   ·exact h1.elim
  ·exact h1.elim
 ·exact h1.elim
noncomputable def Its(x:Str):It:=⟨fun i _=> i < x.length,fun i H v H'=> H'=H/\ ∃c,x.cps.toList[i]?=some c/\v=.str ⟨#[c]⟩,fun i _=> x.length <=i⟩
theorem apc(x:Str)(t:Tok)(it:Addr):Turn P w K tg (Its x) [it] it (fun i h=> h.IsStrIter it "str_ascii_iterator" x t i) where
 mem:=by simp
 obj:=fun i h st b hb=> by
  cases bF.mp hb
  obtain⟨o,e,c,d⟩:=st
  exact⟨o,e,fun v z=> by rw [d]at z;cases z⟩
 keep:=fun i h h' st k=> by
  obtain⟨o,e,c,d⟩:=st
  exact⟨o,k it (by simp) o e,c,d⟩
 item:=by
  intro X hP hw hK hc i pins s σ H E I hf st hg
  subst hP hw hK
  have hl:i < x.cps.size:=hg
  have hx:x.cps[i]?=some x.cps[i]:=Array.getElem?_eq_getElem hl
  obtain⟨f0,f1,f2,f3,f4,f5⟩:=hf it (by simp)
  refine wpAny_pyNext_ascii_item st hx fun h' st' sb=> ?_
  have I1:Inv X pins σ H {s with heap:=h',toks:=s.toks+1}:=I.turned (t':=s.toks+1) (fun b o hb e=> (sb.2 b hb).trans e) f0 f1 f3 f4 f5
  obtain⟨o,e,c,d⟩:=id st'
  exact⟨_,rfl,ako (s:={s with heap:=h',toks:=s.toks+1}) e c d (by decide) ⟨.str ⟨#[x.cps[i]]⟩,H,I1,⟨_,rfl⟩,⟨rfl,x.cps[i],by rw [←hx,c9],rfl⟩,st',fun b hb=> (hf b hb).1⟩⟩
 done:=by
  intro X hP hw hK hc i pins s σ H E I hf st hg
  subst hP hw hK
  have hl:x.cps.size <=i:=hg
  obtain⟨f0,f1,f2,f3,f4,f5⟩:=hf it (by simp)
  exact wpAny_pyNext_ascii_end (I.ok.hd hc) st (Array.getElem?_eq_none hl) fun h' eb=> ⟨rfl,I.turned (t':=s.toks) (fun b o hb e=> eb b o hb e) f0 f1 f3 f4 f5⟩
 self:=fun _ _ _ _ _ st h=> wpAny_pyIter_striter_ascii st h
section
variable{X:Cx}{tg a:Expr}{fa:FE}
def a64(tl:TE):TI:=fun σ H R=> tl σ H fun v H1=> ∃x,v=.str x/\x.cps.all (· < 128)=true/\R (Its x) H1
theorem a35{l:Expr}{tl:TE}(hl:PE X l tl):PI X tg l (a64 tl):=by
 intro pins s σ H R I h
 refine thn (hl pins s σ H _ I h) fun v s1 ⟨z,H1,I1,r1,q1⟩=> ?_
 obtain⟨x,rfl,hx,q⟩:=q1
 obtain⟨t,rfl⟩:=r1
 refine wpAny_pyIter_ascii hx ?_
 exact⟨s1.heap.objs.size,[s1.heap.objs.size],_,_,H1,rfl,I1.kept (t':=s1.toks) fun b o e=> ai _ e,apc x t _,⟨_,aB _ rfl,rfl,rfl⟩,fun b hb=> by
  cases bF.mp hb
  exact I1.fpOk (ao _) (I1.hok.fresh (ao _)),q⟩
noncomputable def aax(x:Str):List D:=x.cps.toList.map fun c=>.str ⟨#[c]⟩
theorem a2s(x:Str):afj K as H (Its x) (aax x,none):=by
 intro as2 H2 s2 st rl so i
 have ln:(aax x).length=x.length:=by unfold aax;rw [aj,bo];rfl
 refine⟨fun hl=> by rw [ln]at hl;exact hl,fun d hd=> ?_⟩
 have hl:i < x.length:=by
  have:=(aq.mp hd).1
  rw [ln]at this;exact this
 unfold aax at hd
 rw [aZ]at hd
 cases e:x.cps.toList[i]? with
 |none=> rw [e]at hd;cases hd
 |some c=>
  rw [e]at hd
  cases hd
  refine⟨hl,fun v H3 hy=> ?_⟩
  obtain⟨rfl,c',ec,rfl⟩:=hy
  rw [e]at ec
  cases ec
  exact⟨Step.refl _ _,rl,.da (.str _)⟩
def ahx(d:D)(s:S):R Wk:=match d with
 |.da (.str x)=> if x.cps.all (· < 128)=true then .ok (aax x,none) s else .bad
 |_=>.bad
def apb(f:FE):FI:=fun ρ s=> (f ρ s).bind ahx
theorem att(h:RE X a fa):RI X tg a (apb fa):=by
 obtain⟨t,p,r⟩:=h.ex
 refine⟨_,a35 p,fun as σ H ρ s Q rl en h=> ?_⟩
 refine r as σ H ρ s _ rl en (Dn.bind h fun d s1 as1 H1 v st1 rl1 r1 h1=> ?_)
 unfold ahx at h1
 split at h1
 ·rename_i x
  cases r1.str_inv
  split at h1
  ·rename_i hx
   exact⟨x,rfl,hx,Dn.now (Q:=Q) h1 rl1 (a2s x)⟩
  ·exact h1.elim
 ·exact h1.elim
end
noncomputable def amh(x y:Str):Bool:= !(cR x y 0 x.length 1).isEmpty
def ale(dx dy:D)(s:S):R D:=match dx,dy with
 |.da (.str y),.da (.str x)=>.ok (.bl (amh x y)) s
 |_,_=>.bad
theorem awn:Op2 X (aN .In) ale:=xl fun pins sh σ H as s x y dx dy v u Q I rl r1 r2 rx ry h=> by
 unfold ale at h
 split at h
 ·cases r1.str_inv;cases r2.str_inv
  obtain⟨t,rfl⟩:=rx
  obtain⟨t',rfl⟩:=ry
  exact PyProof.Rows.in_str (ka I (Dn.now (Q:=Q) h rl (.da (.bl _))) rfl)
 ·exact h.elim
theorem anh: ∀c:Nat,c < 128 -> amh (bi "abcdefghijklmnopqrstuvwxyz") ⟨#[c]⟩=(decide (97 <=c)&&decide (c <=122)):=by decide+kernel
section
variable{s:S}{a b:ag}{r c d:Bool}{x y:Str}{ρ:En}
theorem ayu(h:ltP a b=some r)(h1:okD a=true)(h2:okD b=true):aql (.da a) (.da b) s=.ok (.bl r) s:=by
 show (match ltP a b with|some r=> if okD a=true/\okD b=true then R.ok (D.bl r) s else .bad|none=>.bad)=_
 rw [h]
 exact if_pos ⟨h1,h2⟩
theorem ato:ale (.str y) (.str x) s=.ok (.bl (amh x y)) s:=(rfl)
theorem aps(h:ss.length < 4000):ag1 [.tup (ss.map ac)] s=.ok (.int (kg ss).length) s:=by
 show (match y2 ((ss.map ac).map D.da) with|some ss=> if ss.length < 4000 then R.ok (D.int (kg ss).length) s else .bad|none=>.bad)=_
 rw [show (ss.map ac).map D.da=ss.map D.str by rw [aU];rfl,afg]
 exact if_pos h
theorem ank(h:x.cps.all (· < 128)=true):ahx (.str x) s=.ok (aax x,none) s:=if_pos h
theorem axm:apb f ρ s=(f ρ s).bind ahx:=(rfl)
end
theorem aw8(h:x.cps.all (· < 128)=true): ∀c∈x.cps.toList,amh (bi "abcdefghijklmnopqrstuvwxyz") ⟨#[c]⟩=(decide (97 <=c)&&decide (c <=122)):=by
 intro c hc
 refine anh c ?_
 rw [←dq,aH]at h
 exact of_decide_eq_true (h c hc)
noncomputable def aa7(ds:List D)(s:S):R D:=match ds with
 |[.da (.int i)]=> if i.natAbs.log2 < 1920 then .ok (.str (toString i)) s else .bad
 |[.da (.bool b)]=>.ok (.str (if b then "True" else "False")) s
 |_=>.bad
theorem ahg:CB X (.type "str") aa7:=aaq fun pins sh σ H as s xs ds us Q I rl rs ru h=> by
 unfold aa7 at h
 split at h
 ·obtain⟨v,rfl,rv⟩:=rs.one
  cases rv.int_inv
  obtain⟨u,rfl,r9⟩:=vals1 ru
  obtain⟨t,rfl⟩:=r9
  split at h
  ·rename_i hz
   exact PySem.P.str_of_int hz (show EP X pins σ Q _ _ from ⟨.str _,H,I.tok _,⟨_,rfl⟩,Dn.now (Q:=Q) h rl (.da (.str _))⟩)
  ·exact h.elim
 ·obtain⟨v,rfl,rv⟩:=rs.one
  cases rv.bl_inv
  obtain⟨u,rfl,r9⟩:=vals1 ru
  cases r9
  exact PySem.P.str_of_bool (show EP X pins σ Q _ _ from ⟨.str _,H,I.tok _,⟨_,rfl⟩,Dn.now (Q:=Q) h rl (.da (.str _))⟩)
 ·exact h.elim
noncomputable def isStr:D -> Bool
 |.da (.str _)=> true
 |_=> false
def fMs(g:GM)(fo:FE)(fa:FA):FE:=fun ρ s=> (fo ρ s).bind fun d s1=> if isStr d=true then (fa ρ s1).bind fun ds s2=> g d ds s2 else .bad
theorem a47{d:D}(r:RD K as H v d)(h:isStr d=true):tyV K "str" v H:=by
 cases r with
 |da t=>
  cases t with
  |str x=> exact rfl
  |_=> cases h
 |_=> cases h
theorem ax2{id:String}{g:GM}(h: ∀(pins:List (Addr×Obj)) (sh:ak) (σ:St) (H:Hp) (as:As) (s:S) (x:V) (xs:List V) (d:D) (ds:List D) (v:af) (us:List af) (Q:VK),Inv X pins σ H sh -> Rel X.K as H s -> RD X.K as H x d -> RDs X.K as H xs ds -> RelV x v -> ju xs us ->
  Dn X.K (rD X.K) as H (g d ds s) Q -> wpAny (model X.prog X.w) X.A (call (.builtin id) (v::us)) (EP X pins σ Q) X.xe sh):MB X id g:=
 ⟨fun x xs H Q=> ∃as s d ds,Rel X.K as H s/\RD X.K as H x d/\RDs X.K as H xs ds/\Dn X.K (rD X.K) as H (g d ds s) Q,fun pins sh σ H x xs v us Q I r rs ⟨as,s,d,ds,rl,r1,r2,q⟩=> h pins sh σ H as s x xs d ds v us Q I rl r1 r2 r rs q,fun as H s x xs d ds Q rl r1 r2 q=> ⟨as,s,d,ds,rl,r1,r2,q⟩⟩
theorem abm{name:Str}{id:String}{g:GM}{cpos:Pos}(slot:Slot "str" name id)(hty:typeOf (.builtin id)=pure (.type "method_descriptor"))(hm:MB X id g)(ho:RE X o fo)(ha:RA X (e::es) fa)(hbase:cD o name X.env (eval o X.env)=eval o X.env:=by rfl)(hfew:((backTo cpos (starEach (e::es) X.env)).all (fun x=> !x.1)&&(backToKw cpos (dC [] X.env)).all (fun x=> x.1.isSome)
   &&decide ((e::es).length+([]:List gO).length+(if ([]:List gO).isEmpty then 0 else 1) < 30))=true:=by rfl) (hline:(apos.endLine==cpos.line)=true:=by rfl) (hs:starEach (e::es) X.env=(false,eval e X.env)::starEach es X.env:=by rfl) (hplain:(backTo cpos (starEach es X.env)).any (·.1)=false:=by rfl):
  RE X (.Call (.Attribute o name apos) (e::es) [] cpos) (fMs g fo fa):=by
 obtain⟨r,hr,hg⟩:=hm.ex
 obtain⟨to,po,ro⟩:=ho.ex
 obtain⟨ta,pa,ra⟩:=ha.ex
 refine⟨_,axd PySem.F.plainAttrs_str slot hty hr po pa hbase hfew hline hs hplain,fun as σ H ρ s Q rl en h=> ?_⟩
 refine ro as σ H ρ s _ rl en (Dn.bind h fun d s1 as1 H1 v st1 rl1 r1 h1=> ?_)
 split at h1
 ·rename_i hl
  refine⟨a47 r1 hl,ra as1 σ H1 ρ s1 _ rl1 (en.mono st1) (Dn.bind h1 fun ds s2 as2 H2 vs st2 rl2 r2 h2=> ?_)⟩
  exact hg as2 H2 s2 v vs d ds Q rl2 (r1.mono st2) r2 h2
 ·exact h1.elim
end PF
namespace L2
open PySem PySem.Spec
open Builtin Builtin.Str
section
variable{prog:aW}{w:aY}{A:bd}{E:af -> ak -> Prop}{s:ak}{x y:Str}{t u:Tok}{Q:af -> ak -> Prop}
theorem arj(hy:(y.length==0)=false)(hx:x.length <=sizeLine)(hn:(bR x y).length <=sizeLine)
  (h: ∀l k,l.map (·.1)=bR x y -> Q (.ref s.heap.objs.size) {s with toks:=k,heap:=s.heap.push {cls:=.type "list",data:=.seq (fH l).toArray}}):
  wpAny (model prog w) A (call (.builtin "str.split") [.str x t,.str y u]) Q E s:=by --
 (cases h1:(decide (x.length < y.length)||decide (strKind x < strKind y)))
 ·cases hf:(occurrences x y 0 x.length (x.length+1)).isEmpty
  ·have e:bR x y=partsBetween x (occurrences x y 0 x.length (x.length+1)) y.length:=(if_neg (ne_true_of_eq_false h1)).trans (if_neg (ne_true_of_eq_false hf))
   refine dn gb (fV _ _ _) fT (fI _ _) (meets_str_split_sep x y t u h1 hy hf hx (by rw [←e];exact hn)) ?_
   show wants Q E _ {s with toks:=_,heap:=s.heap.push {cls:=.type "list",data:=.seq (strsFrom s.toks (partsBetween x (occurrences x y 0 x.length (x.length+1)) y.length)).toArray}} --
   rw [strsFrom_eq]
   exact h (numbered s.toks _) _ ((numbered_texts _ _).trans e.symm)
  ·exact dn gb (fV _ _ _) fT (fI _ _) (meets_str_split_not_found x y t u h1 hy hf) (h [(x,t)] s.toks ((if_neg (ne_true_of_eq_false h1)).trans (if_pos hf)).symm)
 ·exact dn gb (fV _ _ _) fT (fI _ _) (meets_str_split_cannot_occur x y t u h1) (h [(x,t)] s.toks (if_pos h1).symm)
end
end L2
namespace PF
open PySem PySem.Spec
def ltb(a b:ag):Bool:=match ltP a b with
 |some true=> true
 |_=> false
end PF
namespace KS
open PySem PySem.W PyProof.Rows
noncomputable def run{α:Type}(lt:Nat -> Nat -> Bool):KasT α -> α
 |.ret a=> a
 |.ask i j k=> run lt (k (lt i j))
section
variable{lt:Nat -> Nat -> Bool}
theorem gd(p:Array Nat)(k:Nat):p.getD k 0=(p[k]?).getD 0:=Array.getD_eq_getD_getElem? ..
end
end KS
namespace PF
open PySem PySem.Spec
open L2
theorem aja: ∀(l:List (Str×Tok)),ju ((l.map (·.1)).map V.str) (fH l)
 |[]=>.nil
 |(x,t)::r=>.cons ⟨t,rfl⟩ (aja r)
theorem ajj: ∀{ss:List Str} {us:List af},ju (ss.map V.str) us -> ∃l:List (Str×Tok),us=fH l/\l.map (·.1)=ss
 |[],_,r=> by cases r;exact⟨[],rfl,rfl⟩
 | x::ss,_,r=> by
  cases r with
  |cons a b=>
   obtain⟨t,rfl⟩:=a
   obtain⟨l,rfl,e⟩:=ajj b
   exact⟨(x,t)::l,rfl,by rw [aA,e]⟩
theorem an4{K:ah}{as:As}{H:Hp}: ∀ss:List Str,RDs K as H (ss.map V.str) (ss.map D.str)
 |[]=>.nil
 |x::r=>.cons (.da (.str x)) (an4 r)
def ace(m:Bool):GM:=fun d ds s=> match d,ds with
 |.da (.str x),[.da (.str y)]=> if (y.length==0)=false/\x.length <=sizeLine/\(bR x y).length <=sizeLine then xg m ((bR x y).map D.str) s else .bad
 |_,_=>.bad
theorem m_split(m:Bool):MB X "str.split" (ace m):=ax2 fun pins sh σ H as s x xs d ds v us Q I rl r1 r2 rv rs h=> by
 unfold ace at h
 split at h
 ·rename_i x0 y0
  split at h
  ·rename_i hc
   obtain⟨hy,hx,hn⟩:=hc
   cases r1.str_inv
   obtain⟨v2,rfl,rv2⟩:=r2.one
   cases rv2.str_inv
   obtain⟨t,rfl⟩:=rv
   obtain⟨u,rfl,ru⟩:=vals1 rs
   obtain⟨t2,rfl⟩:=ru
   refine arj hy hx hn fun l k e=> ?_
   have kp: ∀b o,sh.heap.get? b=some o -> (sh.heap.push {cls:=.type "list",data:=.seq (fH l).toArray}).get? b=some o:=fun b o q=> ai _ q
   have I2:Inv X pins σ (upd H sh.heap.objs.size (.lst ((bR x0 y0).map V.str))) {sh with heap:=sh.heap.push {cls:=.type "list",data:=.seq (fH l).toArray},toks:=k}:=
    I.laid (t':=k) kp (ao _) ⟨by rw [aj];exact hn,fH l,_,by rw [←e];exact aja l,aB _ rfl⟩
   have nw:New H sh.heap.objs.size (.lst ((bR x0 y0).map V.str)) (upd H sh.heap.objs.size (.lst ((bR x0 y0).map V.str))):=⟨I.hok.fresh (ao _),rfl⟩
   exact⟨.ref sh.heap.objs.size,_,I2,rfl,abn h rl (an4 _) nw⟩
  ·exact h.elim
 ·exact h.elim
def xm:GM:=fun d ds s=> match d,ds with
 |.da (.str x),[l]=> match (toL s l).bind y2 with
  |some ss=> if JoinOk x ss=true then .ok (.str (g9 x ss)) s else .bad
  |none=>.bad
 |_,_=>.bad
theorem ab3:MB X "str.join" xm:=ax2 fun pins sh σ H as s x xs d ds v us Q I rl r1 r2 rv rs h=> by
 unfold xm at h
 split at h
 ·rename_i x0 l0
  split at h
  ·rename_i ss he
   split at h
   ·rename_i hj
    cases r1.str_inv
    obtain⟨v2,rfl,rv2⟩:=r2.one
    obtain⟨t,rfl⟩:=rv
    cases e2:toL s l0 with
    |none=> rw [e2]at he;cases he
    |some ys=>
     rw [e2]at he
     obtain⟨p,zs,rfl,hx,rz⟩:=ab4 rl rv2 e2
     obtain⟨ez,_⟩:=aim rz (show y2 ys=some ss from he)
     subst ez
     obtain⟨u,rfl,ru⟩:=vals1 rs
     cases ru
     obtain⟨its,rvs,pl,_⟩:=I.list (SqL.of hx)
     obtain⟨l,rfl,el⟩:=ajj rvs
     refine SC.join (l:=l) pl.isList el hj fun t' k=> ?_
     exact⟨.str _,H,I.tok _,⟨_,rfl⟩,Dn.now (Q:=Q) h rl (.da (.str _))⟩
   ·exact h.elim
  ·exact h.elim
 ·exact h.elim
noncomputable def aky(ds:List D)(s:S):R D:=match ds with
 |[.da (.str x)]=> if x.length <=640 then match fy x with
  |some n=>.ok (.int n) s
  |none=>.bad
  else .bad
 |_=>.bad
theorem a3y:CB X (.type "int") aky:=aaq fun pins sh σ H as s xs ds us Q I rl rs ru h=> by
 unfold aky at h
 split at h
 ·obtain⟨v,rfl,rv⟩:=rs.one
  cases rv.str_inv
  obtain⟨u,rfl,ruv⟩:=vals1 ru
  obtain⟨t,rfl⟩:=ruv
  split at h
  ·rename_i hl
   split at h
   ·rename_i n hn
    exact PySem.W.KIN.call_text hn hl ⟨.int n,H,I.tok _,⟨_,rfl⟩,Dn.now (Q:=Q) h rl (.da (.int _))⟩
   ·exact h.elim
  ·exact h.elim
 ·exact h.elim
end PF
namespace L2
open PySem PySem.Spec PyProof.Rows
section
variable{P:aW}{w:aY}{H:Hp}{h:Heap}{a:Addr}
end
abbrev TBd:=Addr -> St -> Hp -> (St -> Hp -> Prop) -> Prop
def k9(b:Bool)(h:Heap)(l:Addr)(xs:Array af):Prop:=if b=true then h.IsList l xs else h.IsTuple l xs
def xk(b:Bool)(h:Heap)(i l:Addr)(k:Nat):Prop:=if b=true then h.IsListIter i l k else h.IsTupleIter i l k
theorem k9.to{h':Heap}{l:Addr}{xs:Array af}(x:k9 b h l xs)(k: ∀o,h.get? l=some o -> h'.get? l=some o):k9 b h' l xs:=by
 cases b with
 |true=> obtain⟨o,e,r⟩:=x;exact⟨o,k o e,r⟩
 |false=> obtain⟨o,e,r⟩:=x;exact⟨o,k o e,r⟩
theorem xk.to{h':Heap}{i l:Addr}(x:xk b h i l n)(k: ∀o,h.get? i=some o -> h'.get? i=some o):xk b h' i l n:=by
 cases b with
 |true=> obtain⟨o,e,r⟩:=x;exact⟨o,k o e,r⟩
 |false=> obtain⟨o,e,r⟩:=x;exact⟨o,k o e,r⟩
theorem xk.obj{i l:Addr}(x:xk b h i l n): ∃o,h.get? i=some o/\ ∃vs,o.data=.fields vs:=by
 cases b with
 |true=> obtain⟨o,e,_,r⟩:=x;exact⟨o,e,_,r⟩
 |false=> obtain⟨o,e,_,r⟩:=x;exact⟨o,e,_,r⟩
theorem k9.lt{l:Addr}{xs:Array af}(x:k9 b h l xs):l < h.objs.size:=by
 cases b with
 |true=> obtain⟨o,e,r⟩:=x;exact ay e
 |false=> obtain⟨o,e,r⟩:=x;exact ay e
section
variable{P:aW}{w:aY}{A:bd}{E:af -> ak -> Prop}{s:ak}
open PySem.F in
theorem aar{i l:Addr}{xs:Array af}{x:af}(hi:xk b s.heap i l k)(hl:k9 b s.heap l xs)(hx:xs[k]?=some x)(hQ: ∀h',xk b h' i l (k+1) -> bh i s.heap h' -> Q x {s with heap:=h'}):wpAny (model P w) A (bW (.ref i)) Q E s:=by
 cases b with
 |true=> exact wpAny_nextOf_list_item hi hl hx hQ
 |false=>
  have hi:s.heap.IsTupleIter i l k:=hi
  have hl:s.heap.IsTuple l xs:=hl
  obtain⟨o,ho,hc,hd⟩:=id hi
  (obtain⟨ol,hol,_,nl,hdl⟩:=hl)
  refine ae (bC (name:=bi "__next__") hi.typeIs slot_tuple_iterator_next (bM slot_tuple_iterator_next hi.typeIs entry_tuple_iterator_next ?_ (args_tuple_iterator_next_1 _)))
  wp_walk using bc ho hd (x:=.ref l) rfl,bc ho hd (x:=.int k 0) rfl,b8 hol hdl
  (simp only [ee,hx])
  refine ae (wpAny_setField ho hd (by simp) (al ⟨_,rfl,al (hQ _ ?_ (.update ..))⟩))
  exact⟨_,gN _ ho (Obj.isFreed_of_fields (Obj.data_mapFields hd _)),by rw [Obj.cls_mapFields];exact hc,by rw [Obj.data_mapFields hd];simp [rawInt]⟩
open PySem.F in
theorem ae5{i l:Addr}{xs:Array af}(hh:A.handled=none)(hi:xk b s.heap i l k)(hl:k9 b s.heap l xs)(hx:xs[k]?=none)(hE: ∀h' e,ek i s.heap h' -> (∃o,h'.get? e=some o/\o.cls=.type "StopIteration") -> E (.ref e) {s with heap:=h'}):wpAny (model P w) A (bW (.ref i)) Q E s:=by
 cases b with
 |true=> exact wpAny_nextOf_list_end hh hi hl hx hE
 |false=>
  have hi:s.heap.IsTupleIter i l k:=hi
  have hl:s.heap.IsTuple l xs:=hl
  obtain⟨o,ho,hc,hd⟩:=id hi
  (obtain⟨ol,hol,_,nl,hdl⟩:=hl)
  refine ae (bC (name:=bi "__next__") hi.typeIs slot_tuple_iterator_next (bM slot_tuple_iterator_next hi.typeIs entry_tuple_iterator_next ?_ (args_tuple_iterator_next_1 _)))
  (have hh1:A.in1.handled=none:=hh)
  wp_walk using bc ho hd (x:=.ref l) rfl,bc ho hd (x:=.int k 0) rfl,b8 hol hdl
  (simp only [ee,hx])
  (refine ae (cH (ae (wpAny_setField ho hd (by simp) ?_))))
  wp_walk
  simp only [raiseNew]
  (refine ae (wpAny_handled ?_))
  rw [hh1]
  refine ae (al (wpAny_throw (hE _ _ (((fj ..).extBut.push _).push _) ?_)))
  exact⟨_,aB _ rfl,rfl⟩
end
section
variable{P:aW}{w:aY}{A:bd}{E:af -> ak -> Prop}{s:ak}
structure ZAt (b1 b2:Bool) (l1 l2 z TI TO i1 i2:Addr) (f0:af) (k1 k2:Nat) (h:Heap):Prop where
 ap:ZipApart z TI TO i1 i2 l1 l2
 oz:fA h z TI TO f0
 oi:dU h TI (.ref i1) (.ref i2)
 oo: ∃a b,dU h TO a b
 c1:xk b1 h i1 l1 k1
 c2:xk b2 h i2 l2 k2
theorem a39{b1 b2:Bool}{z TI TO i1 i2 l1 l2:Addr}{k1 k2:Nat}{xs ys:Array af}{x y:af}(Z:ZAt b1 b2 l1 l2 z TI TO i1 i2 .none k1 k2 s.heap)(hl1:k9 b1 s.heap l1 xs)(hl2:k9 b2 s.heap l2 ys)(hx:xs[k1]?=some x)(hy:ys[k2]?=some y)(hQ: ∀h',ZAt b1 b2 l1 l2 z TI TO i1 i2 (rawInt s.heap.objs.size) (k1+1) (k2+1) h' -> dU h' s.heap.objs.size x y ->
   (∀c o,c≠z -> c≠TO -> c≠i1 -> c≠i2 -> s.heap.get? c=some o -> h'.get? c=some o) -> Q (.ref s.heap.objs.size) {s with heap:=h'}):
  wpAny (model P w) A (d0.«zip.__next__» ⟨[.ref z],[]⟩) (fun fin s'=> ∃v,fin=.done (.ret v)/\Q v s') E s:=by
 obtain⟨ap,oz,oi,⟨a,b,oo⟩,c1,c2⟩:=Z
 (show wpAny _ _ (field (.ref z) 2 >>=_) _ _ _);refine ae (bc oz rfl (x:=.bool false) rfl ?_)
 (show wpAny _ _ (field (.ref z) 3 >>=_) _ _ _);refine ae (bc oz rfl (x:=.ref TI) rfl (ae (b8 oi rfl ?_)))
 (show wpAny _ _ (cB (.ref z)>>=_) _ _ _);refine ae (ae (bc oz rfl (x:=.none) rfl (al ?_)))
 simp only [if_true]
 refine ae (cH (ae (bc oz rfl (x:=.ref TO) rfl (ae (bz oz (by simp) fun g1 z1 e1=> ae ?_)))))
 have z1:fA g1 z TI TO .ellipsis:=z1
 (simp only [List.zipIdx_cons,List.zipIdx_nil,gw,List.forIn_nil])
 (refine ae (ae (fO ?_)))
 (show wpAny _ _ (bW (.ref i1)>>=_) _ _ _);refine ae (aar (c1.to fun o=> e1.extBut _ _ ap.i1z) (hl1.to fun o=> e1.extBut _ _ ap.l1z) hx fun g2 c1' e2=> al ?_)
 have o2:dU g2 TO a b:=e2.extBut _ _ ap.TOi1 (e1.extBut _ _ ap.TOz oo)
 refine ae (b8 o2 rfl (ae (eX o2 fun g3 o3 e3=> ae (gG (al (ae (ae (fO ?_))))))))
 have o3:dU g3 TO x b:=o3
 have k3: ∀c o,c≠z -> c≠i1 -> c≠TO -> s.heap.get? c=some o -> g3.get? c=some o:=fun c o a1 a2 a3 e=> e3.extBut _ _ a3 (e2.extBut _ _ a2 (e1.extBut _ _ a1 e))
 (show wpAny _ _ (bW (.ref i2)>>=_) _ _ _);refine ae (aar (c2.to fun o=> k3 _ o ap.i2z ap.i12.symm ap.TOi2.symm) (hl2.to fun o=> k3 _ o ap.l2z ap.l2i1 ap.l2TO) hy fun g4 c2' e4=> al ?_)
 have o4:dU g4 TO x b:=e4.extBut _ _ ap.TOi2 o3
 refine ae (b8 o4 rfl (ae (eX o4 fun g5 o5 e5=> ae (gG (al (al ?_))))))
 have o5:dU g5 TO x y:=o5
 refine ae (b8 o5 rfl (ae (wpAny_newTuple ?_)))
 have sz:g5.objs.size=s.heap.objs.size:=by rw [e5.1,e4.1,e3.1,e2.1,e1.1]
 have z5:fA g5 z TI TO .ellipsis:=e5.extBut _ _ ap.TOz.symm (e4.extBut _ _ ap.i2z.symm (e3.extBut _ _ ap.TOz.symm (e2.extBut _ _ ap.i1z.symm z1)))
 have k5: ∀c o,c≠z -> c≠TO -> c≠i1 -> c≠i2 -> s.heap.get? c=some o -> g5.get? c=some o:=fun c o a1 a2 a3 a4 e=> e5.extBut _ _ a2 (e4.extBut _ _ a4 (k3 c o a1 a3 a2 e))
 have c15:xk b1 g5 i1 l1 (k1+1):=c1'.to fun o e=> e5.extBut _ _ ap.TOi1.symm (e4.extBut _ _ ap.i12 (e3.extBut _ _ ap.TOi1.symm e))
 have c25:xk b2 g5 i2 l2 (k2+1):=c2'.to fun o e=> e5.extBut _ _ ap.TOi2.symm e
 (show wpAny _ _ (dW (.ref z) (.ref g5.objs.size)>>=_) _ _ _);refine ae ?_
 have z6:fA (g5.push {cls:=.type "tuple",data:=.seq #[x,y]}) z TI TO .ellipsis:=ai _ z5
 refine ae (bz z6 (by simp) fun g7 z7 e7=> ?_)
 have z7:fA g7 z TI TO (rawInt g5.objs.size):=z7
 refine bz z7 (by simp) fun g8 z8 e8=> ?_
 have z8:fA g8 z TI TO (rawInt g5.objs.size):=z8
 have up: ∀c o,c≠z -> g5.get? c=some o -> g8.get? c=some o:=fun c o a1 e=> e8.extBut _ _ a1 (e7.extBut _ _ a1 (ai _ e))
 have nz:g5.objs.size≠z:=fZ (ay z5)
 have t8:dU g8 g5.objs.size x y:=e8.extBut _ _ nz (e7.extBut _ _ nz (aB _ rfl))
 rw [sz]at z8 t8
 (refine al ⟨_,rfl,?_⟩)
 show Q (.ref g5.objs.size) _
 rw [sz]
 exact hQ g8 ⟨ap,z8,up _ _ ap.TIz (k5 _ _ ap.TIz ap.TITO ap.TIi1 ap.TIi2 oi),⟨_,_,up _ _ ap.TOz o5⟩,c15.to fun o=> up _ o ap.i1z,c25.to fun o=> up _ o ap.i2z⟩ t8 fun c o a1 a2 a3 a4 e=> up c o a1 (k5 c o a1 a2 a3 a4 e)
theorem az2{b1 b2:Bool}{z TI TO i1 i2 l1 l2:Addr}{k1 k2:Nat}{xs ys:Array af}{Q:Fin -> ak -> Prop}(hh:A.handled=none)(Z:ZAt b1 b2 l1 l2 z TI TO i1 i2 .none k1 k2 s.heap)
  (hl1:k9 b1 s.heap l1 xs) (hl2:k9 b2 s.heap l2 ys) (hend:xs[k1]?=none\/ys[k2]?=none)
  (hE: ∀h' e,(∀c o,c≠z -> c≠TO -> c≠i1 -> c≠i2 -> s.heap.get? c=some o -> h'.get? c=some o) -> (∃o,h'.get? e=some o/\o.cls=.type "StopIteration") -> E (.ref e) {s with heap:=h'}):
  wpAny (model P w) A (d0.«zip.__next__» ⟨[.ref z],[]⟩) Q E s:=by
 obtain⟨ap,oz,oi,⟨a,b,oo⟩,c1,c2⟩:=Z
 (show wpAny _ _ (field (.ref z) 2 >>=_) _ _ _);refine ae (bc oz rfl (x:=.bool false) rfl ?_)
 (show wpAny _ _ (field (.ref z) 3 >>=_) _ _ _);refine ae (bc oz rfl (x:=.ref TI) rfl (ae (b8 oi rfl ?_)))
 (show wpAny _ _ (cB (.ref z)>>=_) _ _ _);refine ae (ae (bc oz rfl (x:=.none) rfl (al ?_)))
 simp only [if_true]
 refine ae (cH (ae (bc oz rfl (x:=.ref TO) rfl (ae (bz oz (by simp) fun g1 z1 e1=> ae ?_)))))
 have z1:fA g1 z TI TO .ellipsis:=z1
 have stop: ∀(g:Heap) (o:Obj) (e:Addr),fA g z TI TO .ellipsis -> g.get? e=some o -> o.cls=.type "StopIteration" -> e≠z:=fun g o e hz ho hc q=> by
  subst q;rw [hz]at ho;cases ho;simp at hc
 (simp only [List.zipIdx_cons,List.zipIdx_nil,gw,List.forIn_nil])
 (refine ae (ae (fO ?_)))
 (show wpAny _ _ (bW (.ref i1)>>=_) _ _ _);cases hx:xs[k1]? with
 |none=>
  refine ae (ae5 hh (c1.to fun o=> e1.extBut _ _ ap.i1z) (hl1.to fun o=> e1.extBut _ _ ap.l1z) hx fun g2 e e2 ⟨oe,he,ce⟩=> ?_)
  have z2:fA g2 z TI TO .ellipsis:=e2 _ _ ap.i1z.symm z1
  exact bz z2 (by simp) fun g3 _ e3=> hE g3 e (fun c o a1 _ a3 _ q=> e3.extBut _ _ a1 (e2 _ _ a3 (e1.extBut _ _ a1 q))) ⟨oe,e3.extBut _ _ (stop _ _ _ z2 he ce) he,ce⟩
 |some x=>
  have hy:ys[k2]?=none:=hend.elim (fun h=> by rw [hx]at h;cases h) id
  refine ae (aar (c1.to fun o=> e1.extBut _ _ ap.i1z) (hl1.to fun o=> e1.extBut _ _ ap.l1z) hx fun g2 c1' e2=> al ?_)
  have o2:dU g2 TO a b:=e2.extBut _ _ ap.TOi1 (e1.extBut _ _ ap.TOz oo)
  refine ae (b8 o2 rfl (ae (eX o2 fun g3 o3 e3=> ae (gG (al (ae (ae (fO ?_))))))))
  have k3: ∀c o,c≠z -> c≠i1 -> c≠TO -> s.heap.get? c=some o -> g3.get? c=some o:=fun c o a1 a2 a3 e=> e3.extBut _ _ a3 (e2.extBut _ _ a2 (e1.extBut _ _ a1 e))
  (show wpAny _ _ (bW (.ref i2)>>=_) _ _ _);refine ae (ae5 hh (c2.to fun o=> k3 _ o ap.i2z ap.i12.symm ap.TOi2.symm) (hl2.to fun o=> k3 _ o ap.l2z ap.l2i1 ap.l2TO) hy fun g4 e e4 ⟨oe,he,ce⟩=> ?_)
  have z4:fA g4 z TI TO .ellipsis:=e4 _ _ ap.i2z.symm (e3.extBut _ _ ap.TOz.symm (e2.extBut _ _ ap.i1z.symm z1))
  exact bz z4 (by simp) fun g5 _ e5=> hE g5 e (fun c o a1 a2 a3 a4 q=> e5.extBut _ _ a1 (e4 _ _ a4 (k3 c o a1 a3 a2 q))) ⟨oe,e5.extBut _ _ (stop _ _ _ z4 he ce) he,ce⟩
theorem azu{b1 b2:Bool}{z TI TO i1 i2 l1 l2:Addr}{k1 k2:Nat}{xs ys:Array af}{x y:af}{Q:Option af -> ak -> Prop}(Z:ZAt b1 b2 l1 l2 z TI TO i1 i2 .none k1 k2 s.heap)
  (hl1:k9 b1 s.heap l1 xs) (hl2:k9 b2 s.heap l2 ys) (hx:xs[k1]?=some x) (hy:ys[k2]?=some y)
  (hQ: ∀h',ZAt b1 b2 l1 l2 z TI TO i1 i2 (rawInt s.heap.objs.size) (k1+1) (k2+1) h' -> dU h' s.heap.objs.size x y ->
   (∀c o,c≠z -> c≠TO -> c≠i1 -> c≠i2 -> s.heap.get? c=some o -> h'.get? c=some o) -> Q (some (.ref s.heap.objs.size)) {s with heap:=h'}):
  wpAny (model P w) A (pyNext (.ref z)) Q E s:=
 have hT:s.TypeIs (.ref z) "zip":=⟨_,Z.oz,rfl⟩
 ae (fP (bC (name:=bi "__next__") hT eY (bM eY hT F.entry_zip_next (a39 Z hl1 hl2 hx hy fun h' a1 a2 a3=> al (hQ h' a1 a2 a3)) (F.args_zip_next_1 _))))
theorem aux{b1 b2:Bool}{z TI TO i1 i2 l1 l2:Addr}{k1 k2:Nat}{xs ys:Array af}{Q:Option af -> ak -> Prop}(hh:A.handled=none)(Z:ZAt b1 b2 l1 l2 z TI TO i1 i2 .none k1 k2 s.heap)
  (hl1:k9 b1 s.heap l1 xs) (hl2:k9 b2 s.heap l2 ys) (hend:xs[k1]?=none\/ys[k2]?=none)
  (hQ: ∀h',(∀c o,c≠z -> c≠TO -> c≠i1 -> c≠i2 -> s.heap.get? c=some o -> h'.get? c=some o) -> Q none {s with heap:=h'}):wpAny (model P w) A (pyNext (.ref z)) Q E s:=
 have hT:s.TypeIs (.ref z) "zip":=⟨_,Z.oz,rfl⟩
 ae (fP (bC (name:=bi "__next__") hT eY (bM eY hT F.entry_zip_next (az2 hh Z hl1 hl2 hend fun h' e hk ⟨o,ho,hc⟩=>
  ae (fX (T:="StopIteration") (b:=true) ⟨o,ho,hc⟩ isSubtype_stop (al (hQ _ hk)))) (F.args_zip_next_1 _))))
end
def SqB(K:ah)(b:Bool)(H:Hp)(l:Addr)(xs:List V):Prop:=if b=true then SqL K H l xs else SqT K H l xs
theorem Inv.seqB{σ:St}{s:ak}{l:Addr}{xs:List V}(I:Inv X pins σ H s)(q:SqB X.K b H l xs): ∃its,ju xs its/\k9 b s.heap l its.toArray:=by
 cases b with
 |true=> obtain⟨its,rv,p,_⟩:=I.list q;exact⟨its,rv,p.isList⟩
 |false=> obtain⟨its,rv,p,_⟩:=I.tuple q;exact⟨its,rv,p⟩
noncomputable def a2e(K:ah)(b1 b2:Bool)(l1 l2:Addr):It:=
 ⟨fun i H=> ∃xs ys x y,SqB K b1 H l1 xs/\SqB K b2 H l2 ys/\xs[i]?=some x/\ys[i]?=some y,
   fun i H v H'=> ∃T,v=.ref T/\ ∀xs ys,SqB K b1 H l1 xs -> SqB K b2 H l2 ys -> ∃x y,xs[i]?=some x/\ys[i]?=some y/\New H T (.tup [x,y]) H',
   fun i H=> ∃xs ys,SqB K b1 H l1 xs/\SqB K b2 H l2 ys/\(xs.length <=i\/ys.length <=i)⟩
theorem Inv.seqB_inj{σ:St}{s:ak}{l:Addr}{xs ys:List V}(I:Inv X pins σ H s)(p:SqB X.K b H l xs)(q:SqB X.K b H l ys):xs=ys:=by
 cases b with
 |true=> exact I.list_inj p q
 |false=> exact I.tuple_inj p q
theorem asl{x1:Nat}{b1 b2:Bool}(l1 l2 z TI TO i1 i2:Addr):Turn P w K (.Tuple es x1 pos) (a2e K b1 b2 l1 l2) [z,TI,TO,i1,i2] z (fun i h=> ZAt b1 b2 l1 l2 z TI TO i1 i2 .none i i h) where
 mem:=by simp
 obj:=fun i h ⟨_,hz,hTI,⟨a,c,hTO⟩,q1,q2⟩ b hb=> by
  obtain⟨o1,e1,v1,d1⟩:=q1.obj
  obtain⟨o2,e2,v2,d2⟩:=q2.obj
  (simp only [aw,bt,or_false]at hb)
  rcases hb with rfl|rfl|rfl|rfl|rfl
  ·exact⟨_,hz,fun v y=> by cases y⟩
  ·exact⟨_,hTI,fun v y=> by cases y⟩
  ·exact⟨_,hTO,fun v y=> by cases y⟩
  ·exact⟨_,e1,fun v y=> by rw [d1]at y;cases y⟩
  ·exact⟨_,e2,fun v y=> by rw [d2]at y;cases y⟩
 keep:=fun i h h' ⟨D,hz,hTI,⟨a,c,hTO⟩,q1,q2⟩ k=>
  ⟨D,k z (by simp) _ hz,k TI (by simp) _ hTI,⟨a,c,k TO (by simp) _ hTO⟩,q1.to fun o e=> k i1 (by simp) o e,q2.to fun o e=> k i2 (by simp) o e⟩
 item:=by
  intro X hP hw hK hc i pins s σ H E I hf st hg
  subst hP hw hK
  obtain⟨xs,ys,x,y,q1,q2,hx,hy⟩:=hg
  obtain⟨its1,rv1,p1⟩:=I.seqB q1
  obtain⟨its2,rv2,p2⟩:=I.seqB q2
  obtain⟨u1,hu1,ru1⟩:=rv1.get hx
  obtain⟨u2,hu2,ru2⟩:=rv2.get hy
  refine azu st p1 p2 (x:=u1) (y:=u2) (by simpa using hu1) (by simpa using hu2) fun h' Z a5 k=> ?_
  refine⟨_,rfl,wpAny_letOwnedTupleGo_zip (s:={s with heap:=h'}) Z.oz fun h2' hz' sb=> ?_⟩
  have lt: ∀b∈ [z,TI,TO,i1,i2],b < s.heap.objs.size:=fun b hb=> by
   obtain⟨_,hz,hTI,⟨_,_,hTO⟩,q1,q2⟩:=st
   obtain⟨o1,e1,_⟩:=q1.obj
   obtain⟨o2,e2,_⟩:=q2.obj
   (simp only [aw,bt,or_false]at hb)
   rcases hb with rfl|rfl|rfl|rfl|rfl
   ·exact ay hz
   ·exact ay hTI
   ·exact ay hTO
   ·exact ay e1
   ·exact ay e2
  have I1:Inv X pins σ (upd H s.heap.objs.size (.tup [x,y])) {s with heap:=s.heap.push {cls:=.type "tuple",data:=.seq #[u1,u2]},toks:=s.toks}:=
   I.laid (fun b u e=> ai _ e) (ao _) ⟨by show 2 <=sizeLine;decide,[u1,u2],.cons ru1 (.cons ru2 .nil),⟨_,aB _ rfl⟩⟩
  have nT: ∀b∈ [z,TI,TO,i1,i2],upd H s.heap.objs.size (.tup [x,y]) b=none:=fun b hb=> by
   rw [k8 (aT (lt b hb))];exact (hf b hb).1
  have D:=Z.ap
  have I2:=I1.turnedL (h':=h2') (t':=s.toks) (ch:=[z,TI,TO,i1,i2]) (fun b o hb e=> by
   have hbz:b≠z:=fun y=> hb (by simp [y])
   rw [sb.2 b hbz]
   by_cases hT:b=s.heap.objs.size
   ·subst hT
    rw [aB _ rfl]at e
    cases e
    exact a5
   ·rw [Heap.get?_push_ne _ _ _ hT]at e
    exact k b o hbz (fun y=> hb (by simp [y])) (fun y=> hb (by simp [y])) (fun y=> hb (by simp [y])) e) fun b hb=> ⟨nT b hb,(hf b hb).2⟩
  obtain⟨_,_,oi,⟨_,_,oo⟩,c1,c2⟩:=Z
  refine⟨.ref s.heap.objs.size,_,I2,rfl,⟨_,rfl,fun xs' ys' q1' q2'=> ?_⟩,⟨D,hz',sb.extBut _ _ D.TIz oi,⟨_,_,sb.extBut _ _ D.TOz oo⟩,c1.to fun o=> sb.extBut _ _ D.i1z,c2.to fun o=> sb.extBut _ _ D.i2z⟩,nT⟩
  rw [I.seqB_inj q1' q1,I.seqB_inj q2' q2]
  exact⟨x,y,hx,hy,I.fresh,rfl⟩
 done:=by
  intro X hP hw hK hc i pins s σ H E I hf st hg
  subst hP hw hK
  obtain⟨xs,ys,q1,q2,hx⟩:=hg
  obtain⟨its1,rv1,p1⟩:=I.seqB q1
  obtain⟨its2,rv2,p2⟩:=I.seqB q2
  have l1':=rv1.length
  have l2':=rv2.length
  refine aux (I.ok.hd hc) st p1 p2 ?_ fun h' k=> ⟨rfl,I.turnedL (t':=s.toks) (ch:=[z,TI,TO,i1,i2]) (fun b o hb e=> k b o (fun y=> hb (by simp [y])) (fun y=> hb (by simp [y])) (fun y=> hb (by simp [y])) (fun y=> hb (by simp [y])) e) hf⟩
  rcases hx with hx|hx
  ·exact .inl (by simp;lia)
  ·exact .inr (by simp;lia)
 self:=fun _ _ _ _ _ st h=> wpAny_pyIter_zip st.oz h
noncomputable def ae2(b:Bool):String:=if b=true then "list_iterator" else "tuple_iterator"
section
variable{P:aW}{w:aY}{A:bd}{E:af -> ak -> Prop}{s:ak}
theorem ai0{l:Addr}{xs:Array af}(h:k9 b s.heap l xs)(hQ:Q (.ref s.heap.objs.size) {s with heap:=s.heap.push {cls:=.type (ae2 b),data:=.fields #[.ref l,.int 0 0]}}):wpAny (model P w) A (pyIter (.ref l)) Q E s:=by
 cases b with
 |true=> exact c7 h hQ
 |false=> exact fG h hQ
theorem aui{i l:Addr}(e:h.get? i=some {cls:=.type (ae2 b),data:=.fields #[.ref l,.int 0 0]}):xk b h i l 0:=by
 cases b with
 |true=> exact⟨_,e,rfl,rfl⟩
 |false=> exact⟨_,e,rfl,rfl⟩
def zH(h:Heap)(b1 b2:Bool)(l1 l2:Addr):Heap:=
 ((((h.push {cls:=.type (ae2 b1),data:=.fields #[.ref l1,.int 0 0]}).push {cls:=.type (ae2 b2),data:=.fields #[.ref l2,.int 0 0]}).push {cls:=.type "tuple",data:=.seq #[.ref h.objs.size,.ref (h.objs.size+1)]}).push {cls:=.type "tuple",data:=.seq #[.none,.none]}).push
  {cls:=.type "zip",data:=.fields #[.none,.bool false,.bool false,.ref (h.objs.size+2),.ref (h.objs.size+3)]}
theorem aq5(b1 b2:Bool)(l1 l2:Addr)(xs ys:Array af):
  Meets (d0.«zip.__new__» ⟨[.type "zip",.ref l1,.ref l2],[]⟩) (fun _ R s=> k9 b1 s.heap l1 xs/\k9 b2 s.heap l2 ys/\R (.ok (.ret (.ref (s.heap.objs.size+4)))) {s with heap:=zH s.heap b1 b2 l1 l2}):=
 .of_wp fun prog w A R s h=> by
  obtain⟨hp,g,d,tk,os⟩:=s;obtain⟨h1,h2,h⟩:=h
  have hsub:=sub_zip
  have L1:k9 b1 (iz ⟨hp,g,d,tk,os⟩) l1 xs:=h1
  have L2:k9 b2 (iz ⟨hp.push {cls:=.type (ae2 b1),data:=.fields #[.ref l1,.int 0 0]},g,d,tk,os⟩) l2 ys:=h2.to fun o=> ai _
  wp_walk using ai0 L1,ai0 L2
  refine⟨_,rfl,?_⟩
  simp only [bf]
  exact h
theorem ats{b1 b2:Bool}{l1 l2:Addr}{xs ys:Array af}(h1:k9 b1 s.heap l1 xs)(h2:k9 b2 s.heap l2 ys)(h: ∀h',ZAt b1 b2 l1 l2 (s.heap.objs.size+4) (s.heap.objs.size+2) (s.heap.objs.size+3) s.heap.objs.size (s.heap.objs.size+1) .none 0 0 h' -> (∀c o,s.heap.get? c=some o -> h'.get? c=some o) -> Q (.ref (s.heap.objs.size+4)) {s with heap:=h'}):
  wpAny (model P w) A (call (.type "zip") [.ref l1,.ref l2]) Q E s:=by
 refine callType_new F.called_zip (by decide) (F.typeCall_zip_2 _ _) (F.newCall_zip_2 _ _) (fun obj=> F.args_object_init_3 obj _ _) F.entry_zip_new (aq5 b1 b2 l1 l2 xs ys) ⟨h1,h2,?_⟩
 have q1:=h1.lt
 have q2:=h2.lt
 have up: ∀(g:Heap) (o:Obj) (n:Nat),n=g.objs.size -> o.isFreed=false -> (g.push o).get? n=some o:=fun g o n e hf=> by subst e;exact aB _ hf
 have sz: ∀(g:Heap) (o:Obj) (n:Nat),g.objs.size=n -> (g.push o).objs.size=n+1:=fun g o n e=> by rw [bf,e]
 have g5:fA (zH s.heap b1 b2 l1 l2) (s.heap.objs.size+4) (s.heap.objs.size+2) (s.heap.objs.size+3) .none:=up _ _ _ (by simp only [bf]) rfl
 have g4:dU (zH s.heap b1 b2 l1 l2) (s.heap.objs.size+3) .none .none:=ai _ (up _ _ _ (by simp only [bf]) rfl)
 have g3:dU (zH s.heap b1 b2 l1 l2) (s.heap.objs.size+2) (.ref s.heap.objs.size) (.ref (s.heap.objs.size+1)):=ai _ (ai _ (up _ _ _ (by simp only [bf]) rfl))
 have g2:(zH s.heap b1 b2 l1 l2).get? (s.heap.objs.size+1)=some {cls:=.type (ae2 b2),data:=.fields #[.ref l2,.int 0 0]}:=ai _ (ai _ (ai _ (up _ _ _ (by simp only [bf]) rfl)))
 have g1:(zH s.heap b1 b2 l1 l2).get? s.heap.objs.size=some {cls:=.type (ae2 b1),data:=.fields #[.ref l1,.int 0 0]}:=ai _ (ai _ (ai _ (ai _ (up _ _ _ rfl rfl))))
 refine⟨⟨_,g5,rfl⟩,h _ ⟨?_,g5,g3,⟨_,_,g4⟩,aui g1,aui g2⟩ fun c o x=> ai _ (ai _ (ai _ (ai _ (ai _ x))))⟩
 constructor <;> (unfold Addr at*;lia)
end
def a4p(K:ah)(ta:TA):TI:=fun σ H R=> ta σ H fun vs H1=> ∃l1 l2 xs ys b1 b2,vs=[.ref l1,.ref l2]/\SqB K b1 H1 l1 xs/\SqB K b2 H1 l2 ys/\R (a2e K b1 b2 l1 l2) H1
theorem axu{x1:Nat}{tp:Pos}{a b:Expr}{ta:TA}{p:Pos}(hg:Gl X "zip")(hm:X.mg "zip"=none)(ha:PA X [a,b] ta)(hs:starEach [a,b] X.env=[(false,eval a X.env),(false,eval b X.env)]:=by rfl)(hs2:starEach [b] X.env=[(false,eval b X.env)]:=by rfl):
  PI X (.Tuple es x1 tp) (.Call (.Name "zip" p) [a,b] [] pos) (a4p X.K ta):=by
 intro pins s σ H R I h
 refine Call_ (adc I hg hm a5g (cz (thn (ha pos pins s σ H _ I h) fun us s1 ⟨vs,H1,I1,r1,q1⟩=> ?_) (by rw [hs,hs2]) (by rw [hs2];rfl)))
 obtain⟨l1,l2,xs,ys,b1,b2,e,q1,q2,q⟩:=q1
 subst e
 cases r1 with
 | cons r rr=>
  cases rr with
  | cons r' rr=>
   cases rr
   cases r
   cases r'
   obtain⟨its1,rv1,p1⟩:=I1.seqB q1
   obtain⟨its2,rv2,p2⟩:=I1.seqB q2
   refine ats p1 p2 fun h' Z k=> wpAny_pyIter_zip (s:={s1 with heap:=h'}) Z.oz ?_
   refine⟨s1.heap.objs.size+4,_,_,_,H1,rfl,I1.kept (t':=s1.toks) k,asl l1 l2 _ _ _ _ _,Z,fun b hb=> ?_,q⟩
   have hb':s1.heap.objs.size <=b:=by
    (simp only [aw,bt,or_false]at hb)
    rcases hb with rfl|rfl|rfl|rfl|rfl <;> (unfold Addr at*;lia)
   exact I1.fpOk hb' (I1.hok.fresh hb')
end L2
namespace PF
open PySem PySem.Spec
open L2
noncomputable def sqD:D -> Option (Bool×List ag)
 |.lst xs=> some (true,xs)
 |.tup xs=> some (false,xs)
 |_=> none
def al3(ds:List D)(s:S):R Wk:=match ds with
 |[a,b]=> match sqD a,sqD b with
  |some (_,xs),some (_,ys)=>.ok ((xs.zip ys).map fun p=> D.tup [p.1,p.2],none) s
  |_,_=>.bad
 |_=>.bad
def aq4(f:FA):FI:=fun ρ s=> (f ρ s).bind al3
theorem aj7{d:D}(r:RD K as H v d)(e:sqD d=some (b,xs)): ∃l vs,v=.ref l/\(∀as2 H2,Step0 as H as2 H2 -> SqB K b H2 l vs)/\TDs as H vs xs:=by
 cases d with
 | da d=>
  cases d with
  |list zs=>
   cases e
   obtain⟨l,vs,rfl,n,q,t⟩:=r.lst_inv
   exact⟨l,vs,rfl,fun as2 H2 st=> SqL.of (st.keep _ _ n q),t⟩
  | tuple zs=>
   cases e
   cases r with
   |da t=> cases t with
    |tup n q t=> exact⟨_,_,rfl,fun as2 H2 st=> SqT.of (st.keep _ _ n q),t⟩
  |_=> cases e
 |_=> cases e
theorem a0n{x1:Nat}{tp:Pos}{a b:Expr}{f:FA}{p:Pos}(hm:X.mg "zip"=none)(h:RA X [a,b] f)(hg:Gl X "zip":=by rfl)(hs:starEach [a,b] X.env=[(false,eval a X.env),(false,eval b X.env)]:=by rfl)(hs2:starEach [b] X.env=[(false,eval b X.env)]:=by rfl):
  RI X (.Tuple es x1 tp) (.Call (.Name "zip" p) [a,b] [] pos) (aq4 f):=by
 obtain⟨t,pa,ra⟩:=h.ex
 refine⟨_,axu hg hm pa hs hs2,fun as σ H ρ s Q rl en h=> ?_⟩
 refine ra as σ H ρ s _ rl en (Dn.bind h fun ds s1 as1 H1 vs st1 rl1 r1 h1=> ?_)
 unfold al3 at h1
 split at h1
 ·split at h1
  ·rename_i da db _ xd bx _ yd ea eb
   obtain⟨v,w,rfl,rv,rw⟩:=r1.two
   obtain⟨l1,xs,rfl,k1,t1⟩:=aj7 rv ea
   obtain⟨l2,ys,rfl,k2,t2⟩:=aj7 rw eb
   refine⟨l1,l2,xs,ys,_,_,rfl,k1 as1 H1 (Step.refl _ _).toStep0,k2 as1 H1 (Step.refl _ _).toStep0,Dn.now (Q:=Q) h1 rl1 ?_⟩
   intro as2 H2 s2 st2 rl2 _ i
   have sq1:=k1 as2 H2 st2
   have sq2:=k2 as2 H2 st2
   have u1:=t1.mono0 st2
   have u2:=t2.mono0 st2
   refine⟨fun hl=> ⟨xs,ys,sq1,sq2,?_⟩,fun d hd=> ?_⟩
   ·simp only [aj,List.length_zip]at hl
    rw [u1.length,u2.length]
    lia
   ·rw [aZ]at hd
    cases q:(List.zip _ _)[i]? with
    |none=> rw [q]at hd;cases hd
    |some pr=>
     rw [q]at hd
     cases hd
     rw [List.getElem?_zip_eq_some]at q
     obtain⟨x,hx,rx⟩:=u1.get q.1
     obtain⟨y,hy,ry⟩:=u2.get q.2
     refine⟨⟨xs,ys,x,y,sq1,sq2,hx,hy⟩,fun vv H3 hv=> ?_⟩
     obtain⟨T,rfl,hT⟩:=hv
     obtain⟨x',y',hx',hy',nw⟩:=hT xs ys sq1 sq2
     rw [hx]at hx';cases hx'
     rw [hy]at hy';cases hy'
     exact⟨km nw,rl2.new nw,.da (.tup (fun z=> rl2.has z nw.no) nw.at (.cons (rx.mono (km nw)) (.cons (ry.mono (km nw)) .nil)))⟩
  ·exact h1.elim
 ·exact h1.elim
end PF
namespace L2
open PySem PySem.Spec PyProof.Rows
section
variable{P:aW}{w:aY}{A:bd}{E:af -> ak -> Prop}{s:ak}
structure NAt (b:Bool) (l e i:Addr) (n:Int) (k:Nat) (h:Heap):Prop where
 ne:e≠i
 oe: ∃old,gT h e i n old
 c:xk b h i l k
theorem a1q{e i l:Addr}{n:Int}{xs:Array af}{x:af}(N:NAt b l e i n k s.heap)(hl:k9 b s.heap l xs)(hx:xs[k]?=some x)(hQ: ∀h' t,im h' e i (n+1) x s.heap.objs.size -> xk b h' i l (k+1) -> h'.get? s.heap.objs.size=some {cls:=.type "tuple",data:=.seq #[.int n s.toks,x]} ->
   (∀c o,c≠e -> c≠i -> s.heap.get? c=some o -> h'.get? c=some o) -> Q (.ref s.heap.objs.size) {s with heap:=h',toks:=t}):
  wpAny (model P w) A (d0.«enumerate.__next__» ⟨[.ref e],[]⟩) (fun fin s'=> ∃v,fin=.done (.ret v)/\Q v s') E s:=by
 (obtain⟨hp,g,d,tk,os⟩:=s)
 obtain⟨ne,⟨old,he⟩,hc⟩:=N
 (show wpAny _ _ (field (.ref e) 2 >>=_) _ _ _);refine ae (bc he rfl (x:=.ref i) rfl (ae (aar hc hl hx fun h1 c1 e1=> ?_)))
 have e1:bh i hp h1:=e1
 have he1:gT h1 e i n old:=(e1.2 e ne).trans he
 (show wpAny _ _ (field (.ref e) 3 >>=_) _ _ _);refine ae (bc he1 rfl (x:=rawInt n) rfl ?_)
 (show wpAny _ _ (field (.ref e) 4 >>=_) _ _ _);refine ae (bc he1 rfl (x:=.none) rfl ?_)
 (show wpAny _ _ (mkInt n >>=_) _ _ _);refine ae (wpAny_mkInt ?_)
 (show wpAny _ _ (setField (.ref e) 3 (rawInt (n+1))>>=_) _ _ _);refine ae (bz he1 (by simp) fun h2 he2 e2=> ?_)
 have e2:bh e h1 h2:=e2
 have he2:gT h2 e i (n+1) old:=he2
 (show wpAny _ _ (setField (.ref e) 4 .none >>=_) _ _ _);refine ae (bz he2 (by simp) fun h3 he3 e3=> ?_)
 have e3:bh e h2 h3:=e3
 have he3:gT h3 e i (n+1) old:=he3
 (show wpAny _ _ (newTuple [.int n tk,x]>>=_) _ _ _);refine ae (wpAny_newTuple ?_)
 have he4:gT (h3.push {cls:=.type "tuple",data:=.seq #[.int n tk,x]}) e i (n+1) old:=ai _ he3
 have sz:h3.objs.size=hp.objs.size:=by rw [e3.1,e2.1,e1.1]
 have lt:e < hp.objs.size:=ay he
 have ht4:(h3.push {cls:=.type "tuple",data:=.seq #[.int n tk,x]}).get? hp.objs.size=some {cls:=.type "tuple",data:=.seq #[.int n tk,x]}:=by rw [←sz];exact aB _ rfl
 have k4: ∀c o,c≠e -> c≠i -> hp.get? c=some o -> (h3.push {cls:=.type "tuple",data:=.seq #[.int n tk,x]}).get? c=some o:=fun c o a1 a2 q=> ai _ (e3.extBut _ _ a1 (e2.extBut _ _ a1 (e1.extBut _ _ a2 q)))
 have c4:xk b (h3.push {cls:=.type "tuple",data:=.seq #[.int n tk,x]}) i l (k+1):=c1.to fun o q=> ai _ (e3.extBut _ _ ne.symm (e2.extBut _ _ ne.symm q))
 generalize (h3.push {cls:=.type "tuple",data:=.seq #[.int n tk,x]})=h4 at he4 ht4 k4 c4⊢
 (show wpAny _ _ (cB (.ref e)>>=_) _ _ ⟨h4,g,d,tk+1,os⟩);rw [sz]
 refine ae (ae (bc he4 rfl (x:=.none) rfl (al ?_)))
 simp only [if_true]
 refine ae (cH (ae (bc he4 rfl (x:=old) rfl (ae (bz he4 (by simp) fun h5 he5 e5=> ?_)))))
 have e5:bh e h4 h5:=e5
 have he5:gT h5 e i (n+1) x:=he5
 (show wpAny _ _ (dW (.ref e) (.ref hp.objs.size)>>=_) _ _ ⟨h5,g,d,tk+1,os⟩);refine ae (ae (bz he5 (by simp) fun h6 he6 e6=> ?_))
 have e6:bh e h5 h6:=e6
 have he6:im h6 e i (n+1) x hp.objs.size:=he6
 refine bz he6 (by simp) fun h7 he7 e7=> ?_
 have e7:bh e h6 h7:=e7
 have he7:im h7 e i (n+1) x hp.objs.size:=he7
 have up: ∀c o,c≠e -> h4.get? c=some o -> h7.get? c=some o:=fun c o a1 q=> e7.extBut _ _ a1 (e6.extBut _ _ a1 (e5.extBut _ _ a1 q))
 exact ae (gG (al ⟨_,rfl,hQ h7 _ he7 (c4.to fun o=> up _ o ne.symm) (up _ _ (fZ lt) ht4) fun c o a1 a2 q=> up c o a1 (k4 c o a1 a2 q)⟩))
theorem avq{e i l:Addr}{n:Int}{xs:Array af}{x:af}{Q:Option af -> ak -> Prop}(N:NAt b l e i n k s.heap)(hl:k9 b s.heap l xs)(hx:xs[k]?=some x)(hQ: ∀h' t,im h' e i (n+1) x s.heap.objs.size -> xk b h' i l (k+1) -> h'.get? s.heap.objs.size=some {cls:=.type "tuple",data:=.seq #[.int n s.toks,x]} ->
   (∀c o,c≠e -> c≠i -> s.heap.get? c=some o -> h'.get? c=some o) -> Q (some (.ref s.heap.objs.size)) {s with heap:=h',toks:=t}):wpAny (model P w) A (pyNext (.ref e)) Q E s:=
 have hT:s.TypeIs (.ref e) "enumerate":=let ⟨_,h⟩:=N.oe;⟨_,h,rfl⟩
 ae (fP (bC (name:=bi "__next__") hT de (bM de hT gH (a1q N hl hx fun h' t a1 a2 a3 a4=> al (hQ h' t a1 a2 a3 a4)) (gj _))))
theorem a0s{e i l:Addr}{n:Int}{xs:Array af}{Q:Option af -> ak -> Prop}(hh:A.handled=none)(N:NAt b l e i n k s.heap)(hl:k9 b s.heap l xs)(hx:xs[k]?=none)(hQ: ∀h',ek i s.heap h' -> Q none {s with heap:=h'}):wpAny (model P w) A (pyNext (.ref e)) Q E s:=by
 obtain⟨ne,⟨old,he⟩,hc⟩:=N
 (have hT:s.TypeIs (.ref e) "enumerate":=⟨_,he,rfl⟩)
 refine ae (fP (bC (name:=bi "__next__") hT de (bM de hT gH ?_ (gj _))))
 (show wpAny _ _ (field (.ref e) 2 >>=_) _ _ _);refine ae (bc he rfl (x:=.ref i) rfl ?_)
 exact ae (ae5 hh hc hl hx fun h' x e1 ⟨o,ho,hcl⟩=> ae (fX (T:="StopIteration") (b:=true) ⟨o,ho,hcl⟩ isSubtype_stop (al (hQ _ e1))))
end
noncomputable def Itn(K:ah)(b:Bool)(l:Addr)(n:Int):It:=
 ⟨fun i H=> ∃xs x,SqB K b H l xs/\xs[i]?=some x,
   fun i H v H'=> ∃T,v=.ref T/\ ∀xs,SqB K b H l xs -> ∃x,xs[i]?=some x/\New H T (.tup [.int (n+i),x]) H',
   fun i H=> ∃xs,SqB K b H l xs/\xs.length <=i⟩
theorem auy{x1:Nat}{n:Int}(l e i:Addr):Turn P w K (.Tuple es x1 pos) (Itn K b l n) [e,i] e (fun k h=> NAt b l e i (n+k) k h) where
 mem:=by simp
 obj:=fun k h ⟨_,⟨old,he⟩,q⟩ c hb=> by
  obtain⟨o1,e1,v1,d1⟩:=q.obj
  (simp only [aw,bt,or_false]at hb)
  rcases hb with rfl|rfl
  ·exact⟨_,he,fun v y=> by cases y⟩
  ·exact⟨_,e1,fun v y=> by rw [d1]at y;cases y⟩
 keep:=fun k h h' ⟨ne,⟨old,he⟩,q⟩ kp=> ⟨ne,⟨old,kp e (by simp) _ he⟩,q.to fun o z=> kp i (by simp) o z⟩
 item:=by
  intro X hP hw hK hc k pins s σ H E I hf st hg
  subst hP hw hK
  obtain⟨xs,x,q1,hx⟩:=hg
  obtain⟨its1,rv1,p1⟩:=I.seqB q1
  obtain⟨u1,hu1,ru1⟩:=rv1.get hx
  have lt: ∀c∈ [e,i],c < s.heap.objs.size:=fun c hb=> by
   obtain⟨_,⟨old,he⟩,q⟩:=st
   obtain⟨o1,e1,_⟩:=q.obj
   (simp only [aw,bt,or_false]at hb)
   rcases hb with rfl|rfl
   ·exact ay he
   ·exact ay e1
  refine avq st p1 (x:=u1) (by simpa using hu1) fun h' t a1 a2 a3 kp=> ?_
  refine⟨_,rfl,wpAny_letOwnedTupleGo_enum (s:={s with heap:=h',toks:=t}) a1 fun h2 he2 sb=> ?_⟩
  have I1:Inv X pins σ (upd H s.heap.objs.size (.tup [.int (n+k),x])) {s with heap:=s.heap.push {cls:=.type "tuple",data:=.seq #[.int (n+k) s.toks,u1]},toks:=t}:=
   I.laid (t':=t) (fun c u q=> ai _ q) (ao _) ⟨by show 2 <=sizeLine;decide,[.int (n+k) s.toks,u1],.cons ⟨_,rfl⟩ (.cons ru1 .nil),⟨_,aB _ rfl⟩⟩
  have nT: ∀c∈ [e,i],upd H s.heap.objs.size (.tup [.int (n+k),x]) c=none:=fun c hb=> by
   rw [k8 (aT (lt c hb))];exact (hf c hb).1
  have I2:=I1.turnedL (h':=h2) (t':=t) (ch:=[e,i]) (fun c o hb q=> by
   have hbe:c≠e:=fun y=> hb (by simp [y])
   rw [sb.2 c hbe]
   by_cases hT:c=s.heap.objs.size
   ·subst hT
    rw [aB _ rfl]at q
    cases q
    exact a3
   ·rw [Heap.get?_push_ne _ _ _ hT]at q
    exact kp c o hbe (fun y=> hb (by simp [y])) q) fun c hb=> ⟨nT c hb,(hf c hb).2⟩
  refine⟨.ref s.heap.objs.size,_,I2,rfl,⟨_,rfl,fun xs' q1'=> ?_⟩,⟨st.ne,⟨u1,?_⟩,a2.to fun o=> sb.extBut _ _ st.ne.symm⟩,nT⟩
  ·rw [I.seqB_inj q1' q1]
   exact⟨x,hx,I.fresh,rfl⟩
  ·have:n+((k+1:Nat):Int)=n+k+1:=by lia
   rw [this];exact he2
 done:=by
  intro X hP hw hK hc k pins s σ H E I hf st hg
  subst hP hw hK
  obtain⟨xs,q1,hx⟩:=hg
  obtain⟨its1,rv1,p1⟩:=I.seqB q1
  have l1':=rv1.length
  exact a0s (I.ok.hd hc) st p1 (by simp;lia) fun h' kp=> ⟨rfl,I.turnedL (t':=s.toks) (ch:=[e,i]) (fun c o hb q=> kp c o (fun y=> hb (by simp [y])) q) hf⟩
 self:=fun _ _ _ _ _ st h=> let ⟨_,he⟩:=st.oe;wpAny_pyIter_enum he h
section
variable{P:aW}{w:aY}{A:bd}{E:af -> ak -> Prop}{s:ak}
def nH(h:Heap)(b:Bool)(l:Addr)(n:Int):Heap:=(h.push {cls:=.type (ae2 b),data:=.fields #[.ref l,.int 0 0]}).push {cls:=.type "enumerate",data:=.fields #[.none,.bool false,.ref h.objs.size,rawInt n,.none,.none]}
theorem atm(b:Bool)(l:Addr)(xs:Array af):
  Meets (d0.«enumerate.__new__» ⟨[.type "enumerate",.ref l],[]⟩) (fun _ R s=> k9 b s.heap l xs/\R (.ok (.ret (.ref (s.heap.objs.size+1)))) {s with heap:=nH s.heap b l 0}):=
 .of_wp fun prog w A R s h=> by
  obtain⟨hp,g,d,tk,os⟩:=s;obtain⟨h1,h⟩:=h
  have hsub:=sub_enumerate
  have L1:k9 b (iz ⟨hp,g,d,tk,os⟩) l xs:=h1
  wp_walk
  (refine wpAny_stack_any fun st=> al ?_)
  split
  ·rename_i c _ _ _ _ _
   (cases (c==dj "enumerate"))
   ·wp_walk using ai0 L1
    refine⟨_,rfl,?_⟩
    simp only [bf];exact h
   ·wp_walk using ai0 L1
    refine⟨_,rfl,?_⟩
    simp only [bf];exact h
  ·wp_walk using ai0 L1
   refine⟨_,rfl,?_⟩
   simp only [bf];exact h
theorem av0{l:Addr}{n:Int}:NAt b l (h.objs.size+1) h.objs.size n 0 (nH h b l n):=by
 have g2:gT (nH h b l n) (h.objs.size+1) h.objs.size n .none:=by
  have:=aB (h.push {cls:=.type (ae2 b),data:=.fields #[.ref l,.int 0 0]}) (o:={cls:=.type "enumerate",data:=.fields #[.none,.bool false,.ref h.objs.size,rawInt n,.none,.none]}) rfl
  rw [bf]at this;exact this
 exact⟨by unfold Addr at*;lia,⟨_,g2⟩,aui (ai _ (aB _ rfl))⟩
theorem awb{l:Addr}{xs:Array af}(h1:k9 b s.heap l xs)(h: ∀h',NAt b l (s.heap.objs.size+1) s.heap.objs.size 0 0 h' -> (∀c o,s.heap.get? c=some o -> h'.get? c=some o) -> Q (.ref (s.heap.objs.size+1)) {s with heap:=h'}):
  wpAny (model P w) A (call (.type "enumerate") [.ref l]) Q E s:=by
 refine callType_new F.called_enumerate (by decide) (F.typeCall_enumerate_1 _) (F.newCall_enumerate_1 _) (fun obj=> F.args_object_init_2 obj _) F.entry_enumerate_new (atm b l xs) ⟨h1,?_⟩
 have z:=av0 (b:=b) (l:=l) (n:=0) (h:=s.heap)
 refine⟨?_,h _ z fun c o x=> ai _ (ai _ x)⟩
 obtain⟨_,⟨o,q⟩,_⟩:=z
 exact⟨_,q,rfl⟩
end
theorem ang:aX "enumerate"=some (.type "enumerate"):=by decide+kernel
def a6b(K:ah)(ta:TA):TI:=fun σ H R=> ta σ H fun vs H1=> ∃l xs b,vs=[.ref l]/\SqB K b H1 l xs/\R (Itn K b l 0) H1
theorem a0x{x1:Nat}{tp:Pos}{a:Expr}{ta:TA}{p:Pos}(hg:Gl X "enumerate")(hm:X.mg "enumerate"=none)(ha:PA X [a] ta)(hs:starEach [a] X.env=[(false,eval a X.env)]:=by rfl):
  PI X (.Tuple es x1 tp) (.Call (.Name "enumerate" p) [a] [] pos) (a6b X.K ta):=by
 intro pins s σ H R I h
 refine Call_ (adc I hg hm ang (cz (thn (ha pos pins s σ H _ I h) fun us s1 ⟨vs,H1,I1,r1,q1⟩=> ?_) hs rfl))
 obtain⟨l,xs,b,e,q1,q⟩:=q1
 subst e
 obtain⟨u,rfl,r⟩:=vals1 r1
 cases r
 obtain⟨its1,rv1,p1⟩:=I1.seqB q1
 refine awb p1 fun h' Z k=> ?_
 obtain⟨old,he⟩:=Z.oe
 refine wpAny_pyIter_enum (s:={s1 with heap:=h'}) he ?_
 refine⟨s1.heap.objs.size+1,_,_,_,H1,rfl,I1.kept (t':=s1.toks) k,auy (n:=0) l _ _,Z,fun b hb=> ?_,q⟩
 have hb':s1.heap.objs.size <=b:=by
  (simp only [aw,bt,or_false]at hb)
  rcases hb with rfl|rfl <;> (unfold Addr at*;lia)
 exact I1.fpOk hb' (I1.hok.fresh hb')
end L2
namespace PF
open PySem PySem.Spec
open L2
noncomputable def enD:Int -> List ag -> List D
 |_,[]=> []
 |n,x::r=>.tup [.int n,x]::enD (n+1) r
theorem aii: ∀(xs:List ag) (n:Int) (i:Nat),(enD n xs)[i]?=xs[i]?.map fun x=> D.tup [.int (n+i),x]
 |[],n,i=> by simp [enD]
 |x::r,n,0=> by simp [enD]
 |x::r,n,i+1=> by
  have e:n+1+(i:Int)=n+((i+1:Nat):Int):=by lia
  rw [enD,d6,d6,aii r (n+1) i,e]
theorem aiy: ∀(xs:List ag) (n:Int),(enD n xs).length=xs.length
 |[],_=> rfl
 |x::r,n=> by rw [enD,av,av,aiy r]
def alg(n:Int)(ds:List D)(s:S):R Wk:=match ds with
 | [.ref a]=> match s[a]? with
  |some (.lst es)=> match kd es with
   |some xs=>.ok (enD n xs,some (a,es)) s
   |none=>.bad
  |_=>.bad
 |[a]=> match sqD a with
  |some (_,xs)=>.ok (enD n xs,none) s
  |_=>.bad
 |_=>.bad
def apa(n:Int)(f:FA):FI:=fun ρ s=> (f ρ s).bind (alg n)
theorem a0w{n:Int}{ds:List D}{Q:It -> Hp -> Prop}(rl:Rel K as H s)(r:RDs K as H vs ds)(h:Dn K (afj K) as H (alg n ds s) Q): ∃l xs b,vs=[.ref l]/\SqB K b H l xs/\Q (Itn K b l n) H:=by
 unfold alg at h
 split at h
 ·rename_i n0
  obtain⟨v,rfl,rv⟩:=r.one
  split at h
  ·rename_i es e
   split at h
   ·rename_i xd px
    cases rv with
    | @ref pp _ l hr=>
     obtain⟨ha,xs,hx,rs⟩:=yo rl hr e
     refine⟨pp,xs,true,rfl,SqL.of hx,Dn.now (Q:=Q) h rl ?_⟩
     intro as2 H2 s2 st2 rl2 so i
     have so':s2[n0]?=some (O.lst es):=so
     obtain⟨q,hq⟩:=rl2.li _ _ so' (by intro z;cases z)
     have e2:=hq
     have em:=zb px
     subst em
     rcases st2.old _ l with z|z
     ·rw [z]at e2
      cases hr q e2
      obtain⟨ys,hy,rs2⟩:=rl2.ob _ _ _ hq so'
      have sq1:SqB K true H2 pp ys:=SqL.of hy
      refine⟨fun hl=> ⟨ys,sq1,by rw [rs2.length,aj];rw [aiy]at hl;exact hl⟩,fun d hd=> ?_⟩
      rw [aii]at hd
      cases qq:xd[i]? with
      |none=> rw [qq]at hd;cases hd
      |some pr=>
       rw [qq]at hd
       cases hd
       obtain⟨x,hx,rx⟩:=rs2.get (d:=D.da pr) (by rw [aZ,qq];rfl)
       refine⟨⟨ys,x,sq1,hx⟩,fun vv H3 hv=> ?_⟩
       obtain⟨T,rfl,hT⟩:=hv
       obtain⟨x',hx',nw⟩:=hT ys sq1
       rw [hx]at hx';cases hx'
       cases rx with
       |da rt=> exact⟨km nw,rl2.new nw,.da (.tup (fun z=> rl2.has z nw.no) nw.at (.cons (.int _) (.cons (rt.mono (km nw)) .nil)))⟩
     ·rw [z]at e2;cases e2
   ·exact h.elim
  ·exact h.elim
 ·split at h
  ·rename_i d _ b xd ea
   obtain⟨v,rfl,rv⟩:=r.one
   obtain⟨l,xs,rfl,k1,t1⟩:=aj7 rv ea
   refine⟨l,xs,_,rfl,k1 as H (Step.refl _ _).toStep0,Dn.now (Q:=Q) h rl ?_⟩
   intro as2 H2 s2 st2 rl2 _ i
   have sq1:=k1 as2 H2 st2
   have u1:=t1.mono0 st2
   refine⟨fun hl=> ⟨xs,sq1,by rw [u1.length];rw [aiy]at hl;exact hl⟩,fun d hd=> ?_⟩
   rw [aii]at hd
   cases q:xd[i]? with
   |none=> rw [q]at hd;cases hd
   |some pr=>
    rw [q]at hd
    cases hd
    obtain⟨x,hx,rx⟩:=u1.get q
    refine⟨⟨xs,x,sq1,hx⟩,fun vv H3 hv=> ?_⟩
    obtain⟨T,rfl,hT⟩:=hv
    obtain⟨x',hx',nw⟩:=hT xs sq1
    rw [hx]at hx';cases hx'
    exact⟨km nw,rl2.new nw,.da (.tup (fun z=> rl2.has z nw.no) nw.at (.cons (.int _) (.cons (rx.mono (km nw)) .nil)))⟩
  ·exact h.elim
 ·exact h.elim
theorem a3g{x1:Nat}{tp:Pos}{a:Expr}{f:FA}{p:Pos}(hm:X.mg "enumerate"=none)(h:RA X [a] f)(hg:Gl X "enumerate":=by rfl)(hs:starEach [a] X.env=[(false,eval a X.env)]:=by rfl):
  RI X (.Tuple es x1 tp) (.Call (.Name "enumerate" p) [a] [] pos) (apa 0 f):=by
 obtain⟨t,pa,ra⟩:=h.ex
 refine⟨_,a0x hg hm pa hs,fun as σ H ρ s Q rl en h=> ?_⟩
 exact ra as σ H ρ s _ rl en (Dn.bind h fun ds s1 as1 H1 vs st1 rl1 r1 h1=> a0w rl1 r1 h1)
section
variable{s:S}{m:Bool}{n:Nat}{x y:Str}{b:Bool}{xs ys:List ag}{ds es:List D}{d e v o:D}{ρ:En}{kvs:List (ag×D)}{k:ag}
theorem a8w{f:FA}:aq4 f ρ s=(f ρ s).bind al3:=(rfl)
theorem a7l:al3 [.tup xs,.tup ys] s=.ok ((xs.zip ys).map fun p=> D.tup [p.1,p.2],none) s:=(rfl)
theorem ak1(h:s[n]?=some (.lst (xs.map D.da))):qb [.ref n] s=.ok (.tup xs) s:=by
 show (match (match s[n]? with|some (O.lst ds)=> some ds|_=> none) with|some xs=> ah8 xs s|none=>.bad)=_
 rw [h]
 show (match kd (xs.map D.da) with|some xs=> R.ok (D.tup xs) s|none=>.bad)=_
 rw [qy]
end
theorem zj{g:Tg}{ft:FT}{fe:FE}{ρ0:En}{all:List D}{s:S}{α:Type}(c:α -> D)(p:α -> Bool)(f:α -> ag): ∀(l:List α),(∀a∈l,∃ρ1,vt g (c a) ρ0=some ρ1/\ft ρ1 s=.ok (p a) s/\(p a=true -> fe ρ1 s=.ok (.da (f a)) s)) ->
  vd g ft fe ρ0 (all,none) (l.map c) s=.ok (((l.filter p).map f).map D.da) s
 |[],_=> rfl
 | a::r,h=> by
  obtain⟨ρ1,e,e1,e2⟩:=h a aC
  have ih:=zj (all:=all) c p f r fun b hb=> h b (az _ hb)
  rw [aA,af1 e,e1,R.bind_ok]
  cases hp:p a with
  |false=>
   rw [amn,ih,gk (by simp [hp])]
  |true=>
   rw [amt,e2 hp,R.bind_ok,amf,ih,R.bind_ok,aj5,gm hp]
   rfl
end PF
namespace L2
open PySem PySem.Spec PyProof.Rows
section
variable{X:Cx}{m:Str}{pos apos:Pos}{e o:Expr}{es:List Expr}{ta:TE}{t:TA}
def alw(X:Cx)(m:Str)(ta:TE)(t:TA):TE:=fun σ H Q=> ta σ H fun x H1=> ∃a C dx fs f,x=.ref a/\H1 a=some (.ins C dx fs)/\Cls X.K C/\Meth X.K C m f/\fs.lookup m=none/\t σ H1 fun vs H2=> a60 X f (x::vs) H2 Q
theorem auu{pl:Sem Bool}(he:PE X o ta)(ha:PA X (e::es) t)
  (hst:starEach (e::es) X.env=(false,eval e X.env)::starEach es X.env:=by rfl) (hpl:(backTo pos (starEach es X.env)).any (·.1)=false:=by rfl)
  (ht:eval (.Call (.Attribute o m apos) (e::es) [] pos) X.env=(do
   let ov←eval o X.env
   standAt apos.atName
   let (f,first)←holding [ov] (fD ov m pl)
   callWith pos f first (backTo pos (starEach (e::es) X.env)) (backToKw pos (dC [] X.env))):=by rfl):
  PE X (.Call (.Attribute o m apos) (e::es) [] pos) (alw X m ta t):=by
 refine⟨?_⟩;intro pins s σ H Q I h
 refine gU (pl:=pl) (thn (he pins s σ H _ I h) fun u s1 ⟨x,H1,I1,rx,a,C,dx,fs,f,ex,ea,c,hm,l,q⟩=> ?_) ht
 subst ex
 obtain rfl:u=bu a:=rx
 refine ai2 I1 ea c hm l ?_
 refine fE (first:=[.ref a]) (h₀:=X.base) I.ok.mod.kin hm.kp (thn (ha pos pins s1 σ H1 _ I1 q) fun us s2 ⟨vs,H2,I2,r,q2⟩=> ⟨I2.kIn,?_⟩) hst hpl
 exact q2 pins σ s2 (.ref a::us) I2 (.cons rfl r)
theorem asu{pl:Sem Bool}(he:PE X o ta)
  (ht:eval (.Call (.Attribute o m apos) [] [] pos) X.env=(do
   let ov←eval o X.env
   standAt apos.atName
   let (f,first)←holding [ov] (fD ov m pl)
   callWith pos f first (backTo pos (starEach [] X.env)) (backToKw pos (dC [] X.env))):=by rfl):
  PE X (.Call (.Attribute o m apos) [] [] pos) (alw X m ta auo):=by
 refine⟨?_⟩;intro pins s σ H Q I h
 refine gU (pl:=pl) (thn (he pins s σ H _ I h) fun u s1 ⟨x,H1,I1,rx,a,C,dx,fs,f,ex,ea,c,hm,l,q⟩=> ?_) ht
 subst ex
 obtain rfl:u=bu a:=rx
 refine ai2 I1 ea c hm l ?_
 exact h8 (first:=[.ref a]) I1.kIn hm.kp (q pins σ s1 [.ref a] I1 (.cons rfl .nil))
end
end L2
namespace PF
open PySem PySem.Spec
open L2
open PyProof.Rows (envOfC)
noncomputable def putN(f:Str)(d:D):List (Str×D) -> List (Str×D)
 |[]=> [(f,d)]
 |(g,x)::r=> if g=f then (g,d)::r else (g,x)::putN f d r
theorem FRs.put{f:Str}{v:V}{d:D}(r:RD K as H v d): ∀{l:List (Str×V)} {fs:List (Str×D)},FRs K as H l fs -> FRs K as H (v8 f v l) (putN f d fs)
 |_,_,.nil=>.cons r .nil
 |_,_,.cons a t=> by
  unfold v8 putN
  split
  ·exact .cons r t
  ·exact .cons a (FRs.put r t)
theorem FRs.look{f:Str}: ∀{l:List (Str×V)} {fs:List (Str×D)},FRs K as H l fs -> (∀d,fs.lookup f=some d -> ∃v,l.lookup f=some v/\RD K as H v d)/\(fs.lookup f=none -> l.lookup f=none)
 |_,_,.nil=> ⟨fun d e=> (by cases e),fun _=> rfl⟩
 | _,_,.cons (f:=g) (v:=v) (d:=x) a t=> by
  have ih:=FRs.look (f:=f) t
  by_cases z:(f==g)=true
  ·refine⟨fun d e=> ⟨v,?_,?_⟩,fun e=> ?_⟩
   ·rw [bG,z]
   ·rw [bG,z]at e;cases e;exact a
   ·rw [bG,z]at e;cases e
  ·rw [Bool.not_eq_true]at z
   refine⟨fun d e=> ?_,fun e=> ?_⟩
   ·rw [bG,z]at e
    obtain⟨v',h1,h2⟩:=ih.1 d e
    exact⟨v',by rw [bG,z];exact h1,h2⟩
   ·rw [bG,z]at e
    rw [bG,z];exact ih.2 e
theorem FRs.len: ∀{l:List (Str×V)} {fs:List (Str×D)},FRs K as H l fs -> l.length=fs.length
 |_,_,.nil=> rfl
 |_,_,.cons _ t=> congrArg (· +1) (FRs.len t)
def onI{α:Type}(d:D)(s:S)(k:Nat -> Str -> List (Str×D) -> R α):R α:=match d with
 |.ref n=> match s[n]? with
  |some (.ins C fs)=> k n C fs
  |_=>.bad
 |_=>.bad
theorem afh{α β:Type}{rel:As -> Hp -> β -> α -> Prop}{d:D}{k:Nat -> Str -> List (Str×D) -> R α}{Q:β -> Hp -> Prop}(rl:Rel K as H s)(r:RD K as H v d)(h:Dn K rel as H (onI d s k) Q):
  ∃p n C fs,v=.ref p/\d=.ref n/\as.ix[n]?=some (some p)/\s[n]?=some (.ins C fs)/\RO K as H p (.ins C fs)/\Dn K rel as H (k n C fs) Q:=by
 cases r with
 | @ref p n l hr=>
  have h:Dn K rel as H (match s[n]? with|some (O.ins C fs)=> k n C fs|_=>.bad) Q:=h
  split at h
  ·rename_i C fs e
   obtain⟨q,hq⟩:=rl.li n _ e (by intro z;cases z)
   cases hr q hq
   exact⟨p,n,C,fs,rfl,rfl,hq,e,rl.ob n p _ hq e,h⟩
  ·exact h.elim
 |_=> exact h.elim
structure ClsF (K:ah) (C:Str) (fl:List Str):Prop where
 ex: ∃Ca:Addr,a8 K aI C=some (some (.ref Ca))/\Cls K Ca/\ ∀f∈fl,xn K Ca f
theorem ClsF.at(c:ClsF K C fl)(e:a8 K aI C=some (some (.ref Ca))):Cls K Ca/\ ∀f∈fl,xn K Ca f:=by
 obtain⟨Ca',h1,h2⟩:=c.ex
 rw [e]at h1;cases h1;exact h2
abbrev zd:=List (Str×List Str)
noncomputable def aae(ct:zd)(C f:Str):Bool:=match ct.lookup C with
 |some fl=> fl.contains f
 |none=> false
structure CTabs (K:ah) (ct:zd):Prop where
 ok: ∀C fl,ct.lookup C=some fl -> ClsF K C fl
theorem CTabs.at{ct:zd}(c:CTabs K ct){f:Str}(h:aae ct C f=true)(e:a8 K aI C=some (some (.ref Ca))):Cls K Ca/\xn K Ca f:=by
 unfold aae at h
 split at h
 ·rename_i fl hl
  obtain⟨h1,h2⟩:=(c.ok C fl hl).at e
  exact⟨h1,h2 f (by simpa using h)⟩
 ·cases h
def ae8(ct:zd)(f:Str)(d:D)(s:S):R D:=onI d s fun _ C fs=> if aae ct C f=true then match fs.lookup f with
  |some x=>.ok x s
  |none=>.bad
 else .bad
def qk(ct:zd)(f:Str)(fo:FE):FE:=fun ρ s=> (fo ρ s).bind (ae8 ct f)
theorem ki{ct:zd}{f:Str}(c:CTabs X.K ct)(ho:RE X o fo)(hb:cD o f X.env (eval o X.env)=eval o X.env:=by rfl):RE X (.Attribute o f pos) (qk ct f fo):=by
 obtain⟨to,po,ro⟩:=ho.ex
 refine⟨_,a3k po hb,fun as σ H ρ s Q rl en h=> ?_⟩
 refine ro as σ H ρ s _ rl en (Dn.bind h fun d s1 as1 H1 v st1 rl1 r1 h1=> ?_)
 obtain⟨p,n,C,fs,rfl,rfl,ha,hs,⟨Ca,dx,gs,e0,e1,fr⟩,h2⟩:=afh rl1 r1 h1
 split at h2
 ·rename_i hf
  split at h2
  ·rename_i x hx
   obtain⟨c1,c2⟩:=c.at hf e0
   obtain⟨v,hv,rv⟩:=(fr.look (f:=f)).1 x hx
   exact⟨p,Ca,dx,gs,v,rfl,e1,c1,c2,hv,Dn.now (Q:=Q) h2 rl1 rv⟩
  ·exact h2.elim
 ·exact h2.elim
def acw(ct:zd)(f:Str)(fo fv:FE):FS:=fun ρ s=> (fv ρ s).bind fun x s1=> (fo ρ s1).bind fun d s2=> onI d s2 fun n C fs=> if aae ct C f=true/\fs.length < 1000 then .ok (.nx ρ) (s2.set n (.ins C (putN f x fs))) else .bad
theorem aoy{p dx:Addr}{f:Str}{gs:List (Str×V)}{fs:List (Str×D)}{x:D}(rl:Rel K as H s)(ha:as.ix[n]?=some (some p))(e0:a8 K aI C=some (some (.ref Ca)))(fr:FRs K as H gs fs)(rv:RD K as H v x):
  Step as H as (upd H p (.ins Ca dx (v8 f v gs)))/\Rel K as (upd H p (.ins Ca dx (v8 f v gs))) (s.set n (.ins C (putN f x fs))):=by
 have c:Chg H p (.ins Ca dx (v8 f v gs)) (upd H p (.ins Ca dx (v8 f v gs))):=⟨rfl⟩
 have st:=an3 (vp.mpr ⟨n,ha⟩) (fun z=> rl.hx p z (vp.mpr ⟨n,ha⟩)) c
 exact⟨st,rl.chg ha c ⟨Ca,dx,_,e0,c.at,(fr.put rv).mono0 st.toStep0⟩⟩
theorem adq{ct:zd}{f:Str}{value:Expr}{fv:FE}{pos':Pos}(c:CTabs X.K ct)(ho:RE X o fo)(hv:RE X value fv)(hs:dM value (some (.Attribute o f pos')) pos.line X.env=pure false:=by rfl):RS X (.Assign [.Attribute o f pos'] value pos) (acw ct f fo fv):=by
 obtain⟨to,po,ro⟩:=ho.ex
 obtain⟨tv,pv,rv⟩:=hv.ex
 refine⟨_,a1b po pv hs,fun as σ H ρ s D rl en h=> ?_⟩
 refine rv as σ H ρ s _ rl en (Dn.bind h fun x s1 as1 H1 y st1 rl1 r1 h1=> ?_)
 refine ro as1 σ H1 ρ s1 _ rl1 (en.mono st1) (Dn.bind h1 fun d s2 as2 H2 z st2 rl2 r2 h2=> ?_)
 obtain⟨p,n,C,fs,rfl,rfl,ha,hs,⟨Ca,dx,gs,e0,e1,fr⟩,h3⟩:=afh rl2 r2 h2
 split at h3
 ·rename_i hf
  obtain⟨c1,c2⟩:=c.at hf.1 e0
  obtain⟨st,rl3⟩:=aoy (dx:=dx) (f:=f) rl2 ha e0 fr (r1.mono st2)
  exact⟨p,Ca,dx,gs,rfl,e1,c1,c2,by rw [fr.len];exact hf.2,h3 (FV.nx σ) as2 _ st rl3 (.nx (((en.mono st1).mono st2).mono st))⟩
 ·exact h3.elim
def aga(ct:zd)(f:Str)(g:Int -> Int -> Int)(fo fv:FE):FS:=fun ρ s=> (fo ρ s).bind fun d s1=> onI d s1 fun n C fs=> if aae ct C f=true then match fs.lookup f with
  |some (.int i)=> (fv ρ s1).bind fun x s2=> match x with
   |.int j=> onI d s2 fun n' C' fs'=> if C'=C/\fs'.length < 1000 then .ok (.nx ρ) (s2.set n' (.ins C' (putN f (.int (g i j)) fs'))) else .bad
   |_=>.bad
  |_=>.bad
 else .bad
theorem ak9 {op:f6} {g:Int -> Int -> Int} {rd:V -> V -> Hp -> VK -> Prop} {ct:zd} {f:Str} {value:Expr} {fv:FE} {tpos:Pos} (hop:avl X op rd) (hrd: ∀i j H Q,Q (V.int (g i j)) H -> rd (.int i) (.int j) H Q) (c:CTabs X.K ct) (ho:RE X o fo) (hv:RE X value fv):
  RS X (.AugAssign (.Attribute o f tpos) op value pos) (aga ct f g fo fv):=by
 obtain⟨to,po,ro⟩:=ho.ex
 obtain⟨tv,pv,rv⟩:=hv.ex
 refine⟨_,aqw po pv hop,fun as σ H ρ s D rl en h=> ?_⟩
 refine ro as σ H ρ s _ rl en (Dn.bind h fun d s1 as1 H1 y st1 rl1 r1 h1=> ?_)
 obtain⟨p,n,C,fs,rfl,rfl,ha,hs,⟨Ca,dx,gs,e0,e1,fr⟩,h2⟩:=afh rl1 r1 h1
 split at h2
 ·rename_i hf
  split at h2
  ·rename_i i hi
   obtain⟨c1,c2⟩:=c.at hf e0
   obtain⟨v,hv,rvv⟩:=(fr.look (f:=f)).1 _ hi
   cases rvv with
   | da t=>
    cases t with
    | int _=>
     refine⟨p,Ca,dx,gs,_,rfl,e1,c1,c2,hv,rv as1 σ H1 ρ s1 _ rl1 (en.mono st1) (Dn.bind h2 fun x s2 as2 H2 z st2 rl2 r2 h3=> ?_)⟩
     split at h3
     ·rename_i j
      cases r2 with
      | da t=>
       cases t with
       | int _=>
        refine hrd _ _ _ _ ?_
        obtain⟨p',n',C',fs',ep,en',ha',hs',⟨Ca',dx',gs',e0',e1',fr'⟩,h4⟩:=afh rl2 (r1.mono st2) h3
        cases ep;cases en'
        split at h4
        ·rename_i hc
         obtain⟨rfl,hlen⟩:=hc
         rw [e0]at e0';cases e0'
         obtain⟨st,rl3⟩:=aoy (dx:=dx') (f:=f) (v:=.int _) (x:=.int (g i j)) rl2 ha' e0 fr' (.da (.int _))
         exact⟨dx',gs',e1',by rw [fr'.len];exact hlen,h4 (FV.nx σ) as2 _ st rl3 (.nx (((en.mono st1).mono st2).mono st))⟩
        ·exact h4.elim
     ·exact h3.elim
  ·exact h2.elim
 ·exact h2.elim
structure MethF (P:aW) (w:aY) (K:ah) (mg:Str -> Option af) (base:Heap) (C m:Str) (k n:Nat) (F:FF):Prop where
 ex: ∃(Ca f:Addr) (fd:cv) (ps:List Str),a8 K aI C=some (some (.ref Ca))/\Cls K Ca/\Meth K Ca m f/\FnOk P w K mg base CX0 k f fd ps (spF K n F)/\Binds K fd ps []
structure InitF (P:aW) (w:aY) (K:ah) (mg:Str -> Option af) (base:Heap) (C:Str) (k n:Nat) (F:FF):Prop where
 ex: ∃(Ca f:Addr) (fd:cv) (ps:List Str),a8 K aI C=some (some (.ref Ca))/\mg C=some (.ref Ca)/\Mk K Ca f/\FnOk P w K mg base CX0 k f fd ps (spF K n F)/\Binds K fd ps []
abbrev aeh:=List (Str×Nat×FF)
structure MTabs (X:Cx) (m:Str) (mt:aeh):Prop where
 ok: ∀C n F,mt.lookup C=some (n,F) -> ∃k,MethF X.prog X.w X.K X.mg X.base C m k n F/\Room k X.A
theorem MTabs.nil{m:Str}:MTabs X m []:=⟨fun C n F e=> by cases e⟩
theorem MTabs.cons{m:Str}{F:FF}{mt:aeh}(h:MethF X.prog X.w X.K X.mg X.base C m k n F)(hr:Room k X.A)(t:MTabs X m mt):MTabs X m ((C,n,F)::mt):=⟨fun D n' F' e=> by
 rw [bG]at e
 split at e
 ·rename_i q
  cases e
  rw [eq_of_beq q]
  exact⟨k,h,hr⟩
 ·exact t.ok D n' F' e⟩
def v4(m:Str)(mt:aeh)(fo:FE)(fa:FA):FE:=fun ρ s=> (fo ρ s).bind fun d s1=> onI d s1 fun _ C fs=> match mt.lookup C,fs.lookup m with
 |some (n,F),none=> (fa ρ s1).bind fun ds s2=> if ds.length+1=n then F (d::ds) s2 else .bad
 |_,_=>.bad
theorem an2{m:Str}{mt:aeh}{to:TE}{ta:TA}(hm:MTabs X m mt)(ro:yw X.K to fo)(ra:apj X.K ta fa):yw X.K (alw X m to ta) (v4 m mt fo fa):=by
 intro as σ H ρ s Q rl en h
 refine ro as σ H ρ s _ rl en (Dn.bind h fun d s1 as1 H1 v st1 rl1 r1 h1=> ?_)
 obtain⟨p,n,C,fs,rfl,rfl,ha,hs,⟨Ca,dx,gs,e0,e1,fr⟩,h2⟩:=afh rl1 r1 h1
 split at h2
 ·rename_i nn F h4 h5
  obtain⟨k,⟨Ca',f,fd,ps,g0,g1,g2,g3,g4⟩,hr⟩:=hm.ok C nn F h4
  rw [e0]at g0;cases g0
  refine⟨p,Ca,dx,gs,f,rfl,e1,g1,g2,(fr.look (f:=m)).2 h5,ra as1 σ H1 ρ s1 _ rl1 (en.mono st1) (Dn.bind h2 fun ds s2 as2 H2 vs st2 rl2 r2 h3=> ?_)⟩
  split at h3
  ·rename_i hn
   intro pins σ' sh us I ru
   refine ate g3 hr g4 .nil aku I ru ⟨by rw [bj,av,r2.length];exact hn,as2,.ref n::ds,s2,rl2,?_,h3⟩
   rw [bj];exact .cons (r1.mono st2) r2
  ·exact h3.elim
 ·exact h2.elim
theorem adj{m:Str}{mt:aeh}{pl:Sem Bool}(hm:MTabs X m mt)(ho:RE X o fo)(ha:RA X (e::es) fa)(hst:starEach (e::es) X.env=(false,eval e X.env)::starEach es X.env:=by rfl)(hpl:(backTo pos (starEach es X.env)).any (·.1)=false:=by rfl)(ht:eval (.Call (.Attribute o m apos) (e::es) [] pos) X.env=(do
   let ov←eval o X.env
   standAt apos.atName
   let (f,first)←holding [ov] (fD ov m pl)
   callWith pos f first (backTo pos (starEach (e::es) X.env)) (backToKw pos (dC [] X.env))):=by rfl):RE X (.Call (.Attribute o m apos) (e::es) [] pos) (v4 m mt fo fa):=by
 obtain⟨to,po,ro⟩:=ho.ex
 obtain⟨ta,pa,ra⟩:=ha.ex
 exact⟨_,auu po pa hst hpl ht,an2 hm ro ra⟩
theorem ady{m:Str}{mt:aeh}{pl:Sem Bool}(hm:MTabs X m mt)(ho:RE X o fo)(ht:eval (.Call (.Attribute o m apos) [] [] pos) X.env=(do
   let ov←eval o X.env
   standAt apos.atName
   let (f,first)←holding [ov] (fD ov m pl)
   callWith pos f first (backTo pos (starEach [] X.env)) (backToKw pos (dC [] X.env))):=by rfl):RE X (.Call (.Attribute o m apos) [] [] pos) (v4 m mt fo jf):=by
 obtain⟨to,po,ro⟩:=ho.ex
 refine⟨_,asu po ht,an2 hm ro ?_⟩
 obtain⟨ta,pa,ra⟩:=(je (X:=X)).ex
 intro as σ H ρ s Q rl en h
 exact Dn.now (Q:=Q) h rl .nil
def ael(C:Str)(n:Nat)(F:FF)(fa:FA):FE:=fun ρ s=> (fa ρ s).bind fun ds s1=> if ds.length+1=n then (F (.ref s1.length::ds) (s1++ [.ins C []])).bind fun d s2=> match d with
  |.da .none=>.ok (.ref s1.length) s2
  |_=>.bad
 else .bad
theorem alb{f:Addr}{fd:cv}{ps:List Str}{k:Nat}{F:FF}{ta:TA}(e0:a8 X.K aI C=some (some (.ref Ca)))(ra:apj X.K ta fa):yw X.K (aq1 Ca (spF X.K n F) [] E0 ta) (ael C n F fa):=by
 intro as σ H ρ s Q rl en h
 refine ra as σ H ρ s _ rl en (Dn.bind h fun ds s1 as1 H1 vs st1 rl1 r1 h1=> ?_)
 split at h1
 ·rename_i hn
  intro x dx nx ndx ne
  have n1:New H1 dx (.own x) (upd H1 dx (.own x)):=⟨ndx,rfl⟩
  have n2:New (upd H1 dx (.own x)) x (.ins Ca dx []) (upd (upd H1 dx (.own x)) x (.ins Ca dx [])):=⟨by rw [k8 (c8 ne)];exact nx,rfl⟩
  have rl2:=rl1.new n1
  have st2:Step as1 H1 as1 (upd H1 dx (.own x)):=km n1
  have st3:Step as1 (upd H1 dx (.own x)) (as1.add x) (upd (upd H1 dx (.own x)) x (.ins Ca dx [])):=ad0 n2
  have rl3:=rl2.laid (u:=.ins C []) n2 ⟨Ca,dx,[],e0,n2.at,.nil⟩
  have st:=st2.trans st3
  have rx:RD X.K (as1.add x) (upd (upd H1 dx (.own x)) x (.ins Ca dx [])) (.ref x) (.ref s1.length):=.ref (by simp [rl1.len]) fun q e=> by
   rw [←rl1.len]at e
   simp at e
   exact e.symm
  refine⟨by rw [bj,av,r1.length];exact hn,as1.add x,.ref s1.length::ds,_,rl3,?_,?_⟩
  ·rw [bj];exact .cons rx (r1.mono st)
  ·refine Dn.bind (Dn.step h1 st) fun d s2 as2 H2 v st2' rl2' r2 h2=> ?_
   split at h2
   ·cases r2 with
    |da t=> cases t;exact⟨rfl,Dn.now (Q:=Q) h2 rl2' (rx.mono st2')⟩
   ·exact h2.elim
 ·exact h1.elim
theorem azc{F:FF}{p:Pos}(c:InitF X.prog X.w X.K X.mg X.base x k n F)(hr:Room (k+1) X.A)(ha:RA X (e::es) fa)(hg:Gl X x:=by rfl)(hdb:(x==("__debug__":Str))=false:=by decide)(he:starEach (e::es) X.env=(false,eval e X.env)::starEach es X.env:=by rfl)(hpl:(backTo pos (starEach es X.env)).any (·.1)=false:=by rfl):RE X (.Call (.Name x p) (e::es) [] pos) (ael x n F fa):=by
 obtain⟨Ca,f,fd,ps,e0,hm,M,Fo,b⟩:=c.ex
 obtain⟨ta,pa,ra⟩:=ha.ex
 exact⟨_,aym M Fo hr hg hm b .nil aku pa hdb he hpl,alb (f:=f) (fd:=fd) (ps:=ps) (k:=k) e0 ra⟩
theorem avs{F:FF}{p:Pos}(c:InitF X.prog X.w X.K X.mg X.base x k n F)(hr:Room (k+1) X.A)(hg:Gl X x:=by rfl)(hdb:(x==("__debug__":Str))=false:=by decide):RE X (.Call (.Name x p) [] [] pos) (ael x n F jf):=by
 obtain⟨Ca,f,fd,ps,e0,hm,M,Fo,b⟩:=c.ex
 refine⟨_,av5 M Fo hr hg hm b .nil aku hdb,alb (f:=f) (fd:=fd) (ps:=ps) (k:=k) e0 ?_⟩
 intro as σ H ρ s Q rl en h
 exact Dn.now (Q:=Q) h rl .nil
noncomputable def aas(st:Stmt)(j:Nat):Stmt:=match st with
 |.ClassDef (body:=b) ..=> b.getD j (.Pass ⟨0,0,0,0⟩)
 |_=>.Pass ⟨0,0,0,0⟩
structure HasM (K:ah) (C m q:Str) (st:Stmt) (ps:List Str):Prop where
 ex: ∃(Ca f:Addr) (fd:cv),a8 K aI C=some (some (.ref Ca))/\Cls K Ca/\Meth K Ca m f/\Fun K m q st f fd/\Binds K fd ps []
structure HasI (K:ah) (mg:Str -> Option af) (C q:Str) (st:Stmt) (ps:List Str):Prop where
 ex: ∃(Ca f:Addr) (fd:cv),a8 K aI C=some (some (.ref Ca))/\mg C=some (.ref Ca)/\Mk K Ca f/\Fun K "__init__" q st f fd/\Binds K fd ps []
section
variable{P:aW}{w:aY}{K:ah}{mg:Str -> Option af}{base:Heap}{x q C:Str}{st:Stmt}{N ps:List Str}{k:Nat}
theorem fnQ{f:Addr}(F:Fun K x q st f fd)(S:FnScope N ps (jj st)){m:Nat}(hm:N.length=m)(hn:ps.length=n)(hbody: ∀(f:Addr) (cdv:af) (A:bd) (outer:List Env) (s:ak) (H:Hp) (E:XK),Room k (A.deeper (envOfC q (jj st) s.heap.objs.size f cdv)) ->
   RSs (ab7 CX0 P w K mg base N q (jj st) f cdv A outer s H E).nox (va st) fb):FnOk P w K mg base CX0 (k+1) f fd ps (spF K n (j7 m fb)):=by
 refine F.ok S (fun vs H Q E h=> by rw [hn];exact h.1) fun cdv A outer s H vs Q E hr h=> ?_
 obtain⟨hv,as,ds,s',rl,rs,h⟩:=h
 obtain⟨t,p,r⟩:=(hbody f cdv A outer s H E hr).ex
 refine⟨t,p,?_⟩
 have en:Envs K as H (ds.map some++bD (m - ds.length) none) (L2.start N vs):=by rw [←hm];exact aen rs
 refine r as _ H _ s' _ rl en (Dn.bind h fun fl s1 as1 H1 fv st1 rl1 r1 h1=> ?_)
 cases r1 with
 |nx e=> exact Dn.now (Q:=Q) h1 rl1 (.da .non)
 |rt e=> exact Dn.now (Q:=Q) h1 rl1 e
 |bk e=> exact h1.elim
 |ct e=> exact h1.elim
theorem acr(h:HasM K C x q st ps)(S:FnScope N ps (jj st)){m:Nat}(hm:N.length=m)(hn:ps.length=n)(hbody: ∀(f:Addr) (cdv:af) (A:bd) (outer:List Env) (s:ak) (H:Hp) (E:XK),Room k (A.deeper (envOfC q (jj st) s.heap.objs.size f cdv)) ->
   RSs (ab7 CX0 P w K mg base N q (jj st) f cdv A outer s H E).nox (va st) fb):MethF P w K mg base C x (k+1) n (j7 m fb):=by
 obtain⟨Ca,f,fd,e0,c,M,F,b⟩:=h.ex
 exact⟨Ca,f,fd,ps,e0,c,M,fnQ F S hm hn hbody,b⟩
theorem axj(h:HasI K mg C q st ps)(S:FnScope N ps (jj st)){m:Nat}(hm:N.length=m)(hn:ps.length=n)(hbody: ∀(f:Addr) (cdv:af) (A:bd) (outer:List Env) (s:ak) (H:Hp) (E:XK),Room k (A.deeper (envOfC q (jj st) s.heap.objs.size f cdv)) ->
   RSs (ab7 CX0 P w K mg base N q (jj st) f cdv A outer s H E).nox (va st) fb):InitF P w K mg base C (k+1) n (j7 m fb):=by
 obtain⟨Ca,f,fd,e0,e1,M,F,b⟩:=h.ex
 exact⟨Ca,f,fd,ps,e0,e1,M,fnQ F S hm hn hbody,b⟩
end
end PF
namespace PF
open PySem PySem.Spec
open L2
noncomputable def aez:FS:=fun _ _=>.bad
theorem amm:RS X st aez:=⟨_,aud,fun as σ H ρ s D rl en h=> h.elim⟩
end PF
namespace PF
open PySem
noncomputable def jl(c:Nat)(ws:List Str):List Nat:=ws.flatMap fun x=> c::x.cps.toList
theorem aid(c:Nat): ∀(w:Str) (ws:List Str),(a9 ⟨#[c]⟩ (w::ws)).cps.toList=w.cps.toList++jl c ws
 |w,[]=> by simp [a9,jl]
 |w,v::r=> by
  have ih:=aid c v r
  show (w++⟨#[c]⟩++a9 ⟨#[c]⟩ (v::r)).cps.toList=_
  simp only [Str.cps_append,Array.toList_append,ih]
  simp [jl]
theorem aow(c:Nat)(ws:List Str):jl c ws=[]\/ ∃r,jl c ws=c::r:=by
 cases ws with
 |nil=> exact .inl rfl
 |cons w r=> exact .inr ⟨_,rfl⟩
theorem ao5{c:Nat}: ∀{a b R R':List Nat},c∉a -> c∉b -> (R=[]\/ ∃r,R=c::r) -> (R'=[]\/ ∃r,R'=c::r) -> a++R=b++R' -> a=b/\R=R'
 |[],[],_,_,_,_,_,_,e=> ⟨rfl,e⟩
 | [],y::b,R,R',_,hb,hR,_,e=> by
  rw [dI]at e
  rcases hR with rfl|⟨r,rfl⟩
  ·cases e
  ·injection e with e1 e2
   exact absurd (by rw [e1];exact aC) hb
 | x::a,[],R,R',ha,_,_,hR',e=> by
  rw [dI]at e
  rcases hR' with rfl|⟨r,rfl⟩
  ·cases e
  ·injection e with e1 e2
   exact absurd (by rw [e1];exact aC) ha
 |x::a,y::b,R,R',ha,hb,hR,hR',e=> by
  rw [eD,eD]at e
  injection e with e1 e2
  obtain⟨p,q⟩:=ao5 (fun m=> ha (az _ m)) (fun m=> hb (az _ m)) hR hR' e2
  exact⟨by rw [e1,p],q⟩
theorem str_of_list{a b:Str}(h:a.cps.toList=b.cps.toList):a=b:=by
 obtain⟨⟨x⟩⟩:=a
 obtain⟨⟨y⟩⟩:=b
 simp only at h
 rw [h]
theorem arn{c:Nat}: ∀{ws vs:List Str} {w v:Str},(∀x∈w::ws,c∉x.cps.toList) -> (∀x∈v::vs,c∉x.cps.toList) -> w.cps.toList++jl c ws=v.cps.toList++jl c vs -> w::ws=v::vs
 | ws,vs,w,v,h1,h2,e=> by
  obtain⟨p,q⟩:=ao5 (h1 w aC) (h2 v aC) (aow c ws) (aow c vs) e
  rw [str_of_list p]
  congr 1
  match ws,vs,q with
  |[],[],_=> rfl
  |[],_::_,q=> cases q
  |_::_,[],q=> cases q
  |a::r,b::r',q=>
   have q':c::(a.cps.toList++jl c r)=c::(b.cps.toList++jl c r'):=q
   injection q' with _ q'
   exact arn (fun x hx=> h1 x (az _ hx)) (fun x hx=> h2 x (az _ hx)) q'
theorem aw3(y:Str)(ws:List Str):g9 y ws=a9 y ws:=StrLaws.glued_eq_join y ws
theorem au6(x y:Str): ∃p r,bR x y=p::r:=by
 unfold bR
 split
 ·exact⟨_,_,rfl⟩
 ·split
  ·exact⟨_,_,rfl⟩
  ·rw [StrLaws.partsBetween_eq];exact StrLaws.partsFrom_ne _ _ _ _
theorem apm{w:Str}{ws:List Str}(h: ∀x∈w::ws,c∉x.cps.toList):bR (a9 ⟨#[c]⟩ (w::ws)) ⟨#[c]⟩=w::ws:=by
 obtain⟨p,r,e⟩:=au6 (a9 ⟨#[c]⟩ (w::ws)) ⟨#[c]⟩
 have f:=StrLaws.split_free (a9 ⟨#[c]⟩ (w::ws)) c
 have j:=StrLaws.join_split (a9 ⟨#[c]⟩ (w::ws)) ⟨#[c]⟩
 rw [e]at f j⊢
 have j2:=congrArg (fun z:Str=> z.cps.toList) j
 simp only [aid]at j2
 exact arn f h j2
noncomputable def kq(i:Int):Str:=bi (toString i)
noncomputable def aiw(x:Str):Bool:=(decide (1 <=x.length)&&decide (x.length <=4))&&((x.cps.toList.all fun c=> decide (48 <=c)&&decide (c <=57))&&(decide (x.cps.toList.head?≠some 48)||decide (x.length=1)))
theorem ayj: ∀n:Nat,n < 2001 -> aiw (kq (n:Int))=true:=by decide+kernel
end PF
namespace PF
open PySem L2
def a20(g:GM)(fa:FA)(ρ:En)(d:D)(s:S):R D:=if isStr d=true then (fa ρ s).bind fun ds s2=> g d ds s2 else .bad
theorem a9v{g:GM}:fMs g fo fa ρ s=(fo ρ s).bind (a20 g fa ρ):=(rfl)
theorem a9i{g:GM}:a20 g fa ρ (.str x) s=(fa ρ s).bind (au5 g (.str x)):=(rfl)
theorem ahe: ∀ws:List Str,kd (ws.map D.str)=some (ws.map ac)
 |[]=> rfl
 |x::r=> by rw [aA,kd,ahe r];rfl
theorem azk(ws:List Str):(ws.map ac).map D.da=ws.map D.str:=by rw [aU];rfl
theorem auw(hy:(y.length==0)=false)(hx:x.length <=sizeLine)(hn:(bR x y).length <=sizeLine):ace false (.str x) [.str y] s=.ok (.lst ((bR x y).map ac)) s:=by
 show (if (y.length==0)=false/\x.length <=sizeLine/\(bR x y).length <=sizeLine then xg false ((bR x y).map D.str) s else .bad)=_
 rw [if_pos ⟨hy,hx,hn⟩]
 show (match kd ((bR x y).map D.str) with|some xs=> R.ok (D.lst xs) s|none=>.bad)=_
 rw [ahe]
theorem awi{ws:List Str}(h:JoinOk y ws=true):xm (.str y) [.lst (ws.map ac)] s=.ok (.str (g9 y ws)) s:=by
 show (match (some ((ws.map ac).map D.da)).bind y2 with|some ss=> if JoinOk y ss=true then R.ok (D.str (g9 y ss)) s else .bad|none=>.bad)=_
 rw [azk]
 show (match y2 (ws.map D.str) with|some ss=> if JoinOk y ss=true then R.ok (D.str (g9 y ss)) s else .bad|none=>.bad)=_
 rw [afg]
 exact if_pos h
theorem a29{ws:List Str}(hy:y.length <=1)(hl:ws.length <=200)(hw: ∀w∈ws,w.length <=100):JoinOk y ws=true:=by
 have e:(ws.map (·.length)).sum <=100*ws.length:=by
  clear hl
  induction ws with
  |nil=> simp
  |cons w r ih=>
   have:=ih fun x hx=> hw x (az _ hx)
   have h1:=hw w aC
   (simp only [aA,List.sum_cons,av])
   lia
 have e2:ws.length*y.length <=200*1:=Nat.mul_le_mul hl hy
 unfold JoinOk Builtin.Str.tooLong
 rw [StrLaws.joinTotal]
 simp
 rw [kc]
 lia
theorem a9k{k:Int}{f:FA}:apa k f ρ s=(f ρ s).bind (alg k):=(rfl)
theorem a0b{k:Int}(h:s[a]?=some (.lst (xs.map D.da))):alg k [.ref a] s=.ok (enD k xs,some (a,xs.map D.da)) s:=by
 show (match s[a]? with|some (.lst es)=> (match kd es with|some xs=> R.ok (enD k xs,some (a,es)) s|none=>.bad)|_=>.bad)=_
 rw [h]
 show (match kd (xs.map D.da) with|some ys=> R.ok (enD k ys,some (a,xs.map D.da)) s|none=>.bad)=_
 rw [qy]
theorem ao7{k:Int}(h:fy x=some k)(hl:x.length <=640):aky [.str x] s=.ok (.int k) s:=by
 show (if x.length <=640 then (match fy x with|some n=> R.ok (D.int n) s|none=>.bad) else .bad)=_
 rw [if_pos hl,h]
theorem str_int(h:i.natAbs <=1000000):aa7 [.int i] s=.ok (.str (kq i)) s:=by
 show (if i.natAbs.log2 < 1920 then R.ok (D.str (toString i)) s else .bad)=_
 rw [if_pos]
 ·rfl
 ·by_cases z:i.natAbs=0
  ·rw [z];decide
  ·have:=(Nat.log2_lt z).mpr (show i.natAbs < 2^20 by lia)
   lia
theorem Ext.own{o:O}(h:Ext s s')(hk:s.length <=k):Ext s (s'.set k o):=by
 obtain⟨g,rfl⟩:=h.ex
 exact⟨g.set (k - s.length) o,by rw [List.set_append_right _ _ hk]⟩
theorem a3o: ∀(i j:Int) (H:Hp) (Q:VK),Q (V.int (i+j)) H -> a2m (.int i) (.int j) H Q:=fun i j H Q h=> ⟨i,j,rfl,rfl,h⟩
end PF
namespace PF
open PySem PySem.Spec PyProof.Rows
open L2
section
variable{X:Cx}{a:Expr}{ta:TE}{fa:FE}{pos:Pos}
theorem azq(ha:PE X a ta):PE X (.UnaryOp .Not a pos) (fun σ H Q=> ta σ H fun x H'=> ∃k,apl X.K x H' k/\Q (.bl (!k)) H'):=by
 refine⟨?_⟩
 intro pins s σ H Q I h
 refine UnaryOp_ (thn (ha pins s σ H _ I h) fun v s1 ⟨x,H1,I1,r1,q1⟩=> ?_)
 obtain⟨k,tv,q⟩:=q1
 exact not_of (thn (aso pins s1 σ H1 x v (fun b H2=> b=k/\Q (.bl (!k)) H2) I1 r1 ⟨k,tv,rfl,q⟩) fun b s2 ⟨H2,I2,e,q2⟩=> by subst e;exact⟨.bl (!b),H2,I2,rfl,q2⟩)
theorem a01{s2:S}{d:D}(rl:Rel K as H s)(r1:RD K as H v d)(h:ad4 d s=.ok b s2):s2=s/\apl K v H b:=by
 unfold ad4 at h
 split at h
 ·cases r1.non_inv;cases h;exact⟨rfl,rfl⟩
 ·cases r1.bl_inv;cases h;exact⟨rfl,rfl⟩
 ·cases r1.int_inv;cases h;exact⟨rfl,rfl⟩
 ·cases r1.str_inv
  split at h
  ·rename_i hz
   cases h
   exact⟨rfl,hz,rfl⟩
  ·cases h
 ·split at h
  ·rename_i ds e
   cases h
   obtain⟨p,xs,rfl,sq,rs⟩:=ad9 rl r1 e
   rw [←rs.empty]
   refine⟨rfl,?_⟩
   rcases sq with sq|sq
   ·exact .inl ⟨xs,sq,rfl⟩
   ·exact .inr (.inl ⟨xs,sq,rfl⟩)
  ·cases h
noncomputable def axe(b:Bool)(s1:S):R D:=.ok (.bl (!b)) s1
def akv(d:D)(s:S):R D:=(ad4 d s).bind axe
def akz(fa:FE):FE:=fun ρ s=> (fa ρ s).bind akv
theorem a3i:akz fa ρ s=(fa ρ s).bind akv:=(rfl)
theorem aze{d:D}:akv d s=(ad4 d s).bind axe:=(rfl)
theorem anq(h:RE X a fa):RE X (.UnaryOp .Not a pos) (akz fa):=by
 obtain⟨t,p,r⟩:=h.ex
 refine⟨_,azq p,fun as σ H ρ s Q rl en h=> ?_⟩
 refine r as σ H ρ s _ rl en (Dn.bind h fun d s1 as1 H1 v st1 rl1 r1 h1=> ?_)
 unfold akv at h1
 cases q:ad4 d s1 with
 |bad=> rw [q]at h1;exact h1.elim
 |ok b s2=>
  rw [q]at h1
  obtain⟨rfl,tv⟩:=a01 rl1 r1 q
  exact⟨b,tv,Dn.now h1 rl1 (.da (.bl (!b)))⟩
end
end PF
namespace PF
open PySem L2
variable{ρ:En}{s:S}{ct:zd}{f m C:Str}{n k:Nat}{fs:List (Str×D)}{x d:D}
theorem a5q:qk ct f fo ρ s=(fo ρ s).bind (ae8 ct f):=(rfl)
theorem abt(h:s[n]?=some (.ins C fs))(h2:aae ct C f=true)(h3:fs.lookup f=some x):ae8 ct f (.ref n) s=.ok x s:=by
 show (match s[n]? with|some (.ins C fs)=> (if aae ct C f=true then (match fs.lookup f with|some x=> R.ok x s|none=>.bad) else .bad)|_=>.bad)=_
 rw [h]
 show (if aae ct C f=true then (match fs.lookup f with|some x=> R.ok x s|none=>.bad) else .bad)=_
 rw [if_pos h2,h3]
def an1(ct:zd)(f:Str)(ρ:En)(x d:D)(s2:S):R Fl:=onI d s2 fun n C fs=> if aae ct C f=true/\fs.length < 1000 then .ok (.nx ρ) (s2.set n (.ins C (putN f x fs))) else .bad
def at0(ct:zd)(f:Str)(fo:FE)(ρ:En)(x:D)(s1:S):R Fl:=(fo ρ s1).bind (an1 ct f ρ x)
theorem a18{fv:FE}:acw ct f fo fv ρ s=(fv ρ s).bind (at0 ct f fo ρ):=(rfl)
theorem ay2:at0 ct f fo ρ x s=(fo ρ s).bind (an1 ct f ρ x):=(rfl)
theorem aaa(h:s[n]?=some (.ins C fs))(h2:aae ct C f=true)(h3:fs.length < 1000):an1 ct f ρ x (.ref n) s=.ok (.nx ρ) (s.set n (.ins C (putN f x fs))):=by
 show (match s[n]? with|some (.ins C fs)=> (if aae ct C f=true/\fs.length < 1000 then R.ok (Fl.nx ρ) (s.set n (.ins C (putN f x fs))) else .bad)|_=>.bad)=_
 rw [h]
 show (if aae ct C f=true/\fs.length < 1000 then R.ok (Fl.nx ρ) (s.set n (.ins C (putN f x fs))) else .bad)=_
 rw [if_pos ⟨h2,h3⟩]
theorem axw{g:Int -> Int -> Int}{fv:FE}{j:Int}(e1:fo ρ s=.ok (.ref n) s)(e2:fv ρ s=.ok (.int j) s)(h:s[n]?=some (.ins C fs))(h2:aae ct C f=true)(h3:fs.lookup f=some (.int i))(h4:fs.length < 1000):aga ct f g fo fv ρ s=.ok (.nx ρ) (s.set n (.ins C (putN f (.int (g i j)) fs))):=by
 unfold aga
 rw [e1]
 simp only [R.bind,onI,h,if_pos h2,h3,e2]
 rw [if_pos ⟨trivial,h4⟩]
def aau(m:Str)(mt:aeh)(fa:FA)(ρ:En)(d:D)(s1:S):R D:=onI d s1 fun _ C fs=> match mt.lookup C,fs.lookup m with
 |some (n,F),none=> (fa ρ s1).bind fun ds s2=> if ds.length+1=n then F (d::ds) s2 else .bad
 |_,_=>.bad
noncomputable def xu(n:Nat)(F:FF)(d:D)(ds:List D)(s2:S):R D:=if ds.length+1=n then F (d::ds) s2 else .bad
theorem a16{mt:aeh}:v4 m mt fo fa ρ s=(fo ρ s).bind (aau m mt fa ρ):=(rfl)
theorem yn{mt:aeh}{F:FF}(h:s[n]?=some (.ins C fs))(h2:mt.lookup C=some (k,F))(h3:fs.lookup m=none):aau m mt fa ρ (.ref n) s=(fa ρ s).bind (xu k F (.ref n)):=by
 show (match s[n]? with|some (.ins C fs)=> (match mt.lookup C,fs.lookup m with|some (k,F),none=> (fa ρ s).bind (xu k F (.ref n))|_,_=>.bad)|_=>.bad)=_
 rw [h]
 show (match mt.lookup C,fs.lookup m with|some (k,F),none=> (fa ρ s).bind (xu k F (.ref n))|_,_=>.bad)=_
 rw [h2,h3]
theorem a0g{F:FF}:xu 1 F d [] s=F [d] s:=(rfl)
theorem ayh{F:FF}:xu 2 F d [x] s=F [d,x] s:=(rfl)
noncomputable def aht(n:Nat)(d:D)(s2:S):R D:=match d with
  |.da .none=>.ok (.ref n) s2
  |_=>.bad
def aqq(C:Str)(n:Nat)(F:FF)(ds:List D)(s1:S):R D:=if ds.length+1=n then (F (.ref s1.length::ds) (s1++ [.ins C []])).bind (aht s1.length) else .bad
theorem a1j{F:FF}:ael C n F fa ρ s=(fa ρ s).bind (aqq C n F):=(rfl)
theorem a0r{F:FF}:aqq C 1 F [] s=(F [.ref s.length] (s++ [.ins C []])).bind (aht s.length):=(rfl)
theorem ayw{F:FF}{y:D}:aqq C 3 F [x,y] s=(F [.ref s.length,x,y] (s++ [.ins C []])).bind (aht s.length):=(rfl)
theorem axr:aht n (.da .none) s=.ok (.ref n) s:=(rfl)
end PF
namespace Ln
open PySem L2 PF
def top(i:Nat):Stmt:=PySem.Challenge.pw_mannerports_k04_nets_written_and_read_ag.main.body.getD i (.Pass ⟨0,0,0,0⟩)
abbrev agu:Stmt:=top 7
noncomputable abbrev ahr:Stmt:=top 9
noncomputable abbrev ahj:Stmt:=top 10
noncomputable abbrev agp:Stmt:=top 11
noncomputable abbrev ajl:Stmt:=top 15
abbrev ab2:Stmt:=top 16
noncomputable abbrev agh:Stmt:=top 25
noncomputable abbrev ajt:Stmt:=top 26
abbrev ahi:Stmt:=top 27
noncomputable abbrev ahq:Stmt:=top 28
noncomputable abbrev ajw:Stmt:=top 29
noncomputable abbrev ak8:Stmt:=top 30
noncomputable abbrev ak5:Stmt:=top 31
noncomputable abbrev ads:Stmt:=top 32
abbrev agm:Stmt:=top 35
abbrev aft:Stmt:=top 36
abbrev zz:Stmt:=top 37
abbrev aib:Stmt:=top 38
abbrev aje:Stmt:=top 39
abbrev aji:Stmt:=top 40
abbrev af4:Stmt:=aas (top 41) 0
abbrev ade:Stmt:=aas (top 41) 1
abbrev aes:Stmt:=aas (top 42) 0
abbrev adb:Stmt:=aas (top 42) 1
abbrev ac4:Stmt:=aas (top 42) 2
abbrev acs:Stmt:=aas (top 42) 3
abbrev aew:Stmt:=aas (top 42) 4
abbrev zt:Stmt:=aas (top 42) 5
abbrev aev:Stmt:=aas (top 42) 6
abbrev aet:Stmt:=aas (top 42) 7
abbrev agk:Stmt:=top 44
abbrev agq:Stmt:=top 45
abbrev acp:Stmt:=top 46
abbrev afa:Stmt:=top 47
abbrev agj:Stmt:=top 48
abbrev agr:Stmt:=top 49
abbrev afu:Stmt:=top 50
abbrev agn:Stmt:=top 51
abbrev af9:Stmt:=top 52
abbrev aav:Stmt:=top 53
abbrev ct:zd:=[("Begun",["things","seen","parts"]),("Reader",["begun","told","many"])]
structure Txt0 (K:ah) (mg:Str -> Option af):Prop where
 ct:CTabs K ct
 h_number_by:Has K mg "number_by" agu ["word"]
 h_is_whole:Has K mg "is_whole" ahr ["thing"]
 h_is_below:Has K mg "is_below" ahj ["many","thing"]
 h_is_rising:Has K mg "is_rising" agp ["things"]
 h_is_port:Has K mg "is_port" ajl ["thing"]
 h_are_unlike_ports:Has K mg "are_unlike_ports" ab2 ["thing"]
 h_is_things:Has K mg "is_things" agh ["thing"]
 h_is_seen:Has K mg "is_seen" ajt ["thing"]
 h_ports_of:Has K mg "ports_of" ahi ["part"]
 h_is_thing:Has K mg "is_thing" ahq ["things","thing"]
 h_is_held:Has K mg "is_held" ajw ["things","thing"]
 h_is_told:Has K mg "is_told" ak8 ["things","thing"]
 h_is_knot:Has K mg "is_knot" ak5 ["single","several"]
 h_is_flat_part:Has K mg "is_flat_part" ads ["things","thing"]
 h_net_lines:Has K mg "net_lines" agm ["net"]
 h_part_lines:Has K mg "part_lines" aft ["part"]
 h_words_behind_ports:Has K mg "words_behind_ports" zz ["part"]
 h_read_net:Has K mg "read_net" aib ["lines"]
 h_held_by:Has K mg "held_by" aje ["word"]
 h_part_by:Has K mg "part_by" aji ["words"]
 h_Begun_init:HasI K mg "Begun" "Begun.__init__" af4 ["self","things","seen"]
 h_Begun_as_net:HasM K "Begun" "as_net" "Begun.as_net" ade ["self"]
 h_Reader_init:HasI K mg "Reader" "Reader.__init__" aes ["self"]
 h_Reader_takes:HasM K "Reader" "takes" "Reader.takes" adb ["self","words"]
 h_Reader_is_done:HasM K "Reader" "is_done" "Reader.is_done" ac4 ["self"]
 h_Reader_begins:HasM K "Reader" "begins" "Reader.begins" acs ["self","words"]
 h_Reader_fits:HasM K "Reader" "fits" "Reader.fits" aew ["self","net"]
 h_Reader_goes_within:HasM K "Reader" "goes_within" "Reader.goes_within" zt ["self","ports"]
 h_Reader_ends:HasM K "Reader" "ends" "Reader.ends" aev ["self"]
 h_Reader_lays:HasM K "Reader" "lays" "Reader.lays" aet ["self","part"]
 h__law_feed:Has K mg "_law_feed" agk ["_law_script"]
 h__law_draw:Has K mg "_law_draw" agq ["_law_feed_here","_law_many"]
 h__law_shuffled:Has K mg "_law_shuffled" acp ["_law_feed_here","_law_some"]
 h__law_ports:Has K mg "_law_ports" afa ["_law_feed_here","_law_many"]
 h__law_part:Has K mg "_law_part" agj ["_law_feed_here","_law_things","_law_ports_here"]
 h__law_nest:Has K mg "_law_nest" agr ["_law_feed_here","_law_deep","_law_things","_law_seen"]
 h__law_lines:Has K mg "_law_lines" afu ["_law_net"]
 h__law_wide:Has K mg "_law_wide" agn ["_law_feed_here"]
 h__law_right:Has K mg "_law_right" af9 ["_law_net"]
 h_law:Has K mg "law" aav ["_law_script"]
 c_FIGURES: ∃t,mg "FIGURES"=some (.str "0123456789" t)
 c_MOST_FIGURES: ∃t,mg "MOST_FIGURES"=some (.int 4 t)
 c_NO_NUMBER: ∃t,mg "NO_NUMBER"=some (.int (-1) t)
 c_SMALL_LETTERS: ∃t,mg "SMALL_LETTERS"=some (.str "abcdefghijklmnopqrstuvwxyz" t)
 c_MOST_LETTERS: ∃t,mg "MOST_LETTERS"=some (.int 8 t)
 c_MOST_THINGS: ∃t,mg "MOST_THINGS"=some (.int 3 t)
 c_MOST_SEEN: ∃t,mg "MOST_SEEN"=some (.int 6 t)
 c_MOST_ENDS: ∃t,mg "MOST_ENDS"=some (.int 12 t)
 c_MOST_DEEP: ∃t,mg "MOST_DEEP"=some (.int 4 t)
 c_MOST_PARTS: ∃t,mg "MOST_PARTS"=some (.int 120 t)
 c_TWO_PORTS_ALONE:ap4 K mg "TWO_PORTS_ALONE" [.str "both",.str "loose",.str "drain",.str "either"]
 c_HOLDING:ap4 K mg "HOLDING" [.str "place",.str "last"]
 c_NOTHING_HELD: ∃t,mg "NOTHING_HELD"=some (.str "-" t)
 n_len:mg "len"=none
 n_min:mg "min"=none
 n_max:mg "max"=none
 n_repr:mg "repr"=none
 n_list:mg "list"=none
 n_tuple:mg "tuple"=none
 n_set:mg "set"=none
 n_range:mg "range"=none
 n_isinstance:mg "isinstance"=none
 n_str:mg "str"=none
 n_int:mg "int"=none
 n_bool:mg "bool"=none
 n_all:mg "all"=none
 n_zip:mg "zip"=none
 n_enumerate:mg "enumerate"=none
 n_ValueError:mg "ValueError"=none
def aea:FS:=
  (jk (j4 (y9 (ku (jt (yx gLe gLe (fC (.da (.int 1))) (fCB k0 (jb (jd 0) jf)) (fC (.da (.int 4)))))) (ku (vo (fCB ae9 (jb (fLc false [] 1 (apb (jd 0)) (.nm 0) zn (fOp ale (jd 0) (fC (.da (.str "0123456789"))))) jf))))) (jq (fC (.da (.int (-1))))) jy)
  (jk (j4 (aao (jt (fOp gEq (fOp gIx (jd 0) (fC (.da (.int 0)))) (fC (.da (.str "0"))))) (jt (fOp gGt (fCB k0 (jb (jd 0) jf)) (fC (.da (.int 1)))))) (jq (fC (.da (.int (-1))))) jy)
  (jq (fCB aky (jb (jd 0) jf)))))
def yr:FF:=j7 1 aea
theorem aq6:yr [a0] s=(aea [some a0] s).bind j8:=rfl
theorem anf:FnScope ["word"] ["word"] (jj agu):=⟨rfl,rfl,rfl,by decide+kernel,rfl,by decide+kernel,by decide+kernel⟩
theorem ad6(T:Txt0 K mg):CalF P w K mg base "number_by" 1 1 yr:=by
 exact vg (k:=0) T.h_number_by anf rfl rfl (fun f cdv A outer s H E hr=>
   (jh (j3 (RW.rt (y4 (kv (aeo aa6 aa6 jg (j5 qx T.n_len qp (ja (jc 0) je)) (yt T.c_MOST_FIGURES))) (yp (kv (qw (j5 (aic rfl) T.n_all ahl (ja (acx false (own:=["sign"]) (caps:=[]) (js:=[]) rfl rfl rfl rfl rfl (trivial) rfl (att (jc 0)) (fun _ _ _ _=> (kx (i:=0) (show (["sign"]:List Str).Nodup by decide+kernel) rfl (aM rfl) (cr rfl))) (fun _ _ _ _=> x8) (fun _ _ _ _=> (xw awn (jc 0) (afy T.c_FIGURES)))) je))))))) (ji (jm (yt T.c_NO_NUMBER))) jw)
   (jh (j3 (RW.rt (adu (jx (qo (u64 hr)) (jo (jc 0) jg) jv) (abo (jx aqd (j5 qx T.n_len qp (ja (jc 0) je)) jg)))) (ji (jm (yt T.c_NO_NUMBER))) jw)
   (ji (jm (k7 a3y T.n_int awx (ja (jc 0) je)))))))
def Bis_whole:FS:=
  (jq (abw (fCB ab9 (jb (jd 0) (jb (fC (.ty "int")) jf))) (akz (fCB ab9 (jb (jd 0) (jb (fC (.ty "bool")) jf))))))
def ab1:FF:=j7 1 Bis_whole
theorem ar5:ab1 [a0] s=(Bis_whole [some a0] s).bind j8:=rfl
theorem scis_whole:FnScope ["thing"] ["thing"] (jj ahr):=⟨rfl,rfl,rfl,by decide+kernel,rfl,by decide+kernel,by decide+kernel⟩
theorem okis_whole(T:Txt0 K mg):CalF P w K mg base "is_whole" 1 1 ab1:=by
 exact vg (k:=0) T.h_is_whole scis_whole rfl rfl (fun f cdv A outer s H E hr=>
   (ji (jm (zq (j5 aef T.n_isinstance v9 (ja (jc 0) (ja (aa4 T.n_int awx) je))) (yy (anq (j5 aef T.n_isinstance v9 (ja (jc 0) (ja (aa4 T.n_bool a3m) je)))))))))
def Bis_below:FS:=
  (jq (abw (jn 1 ab1 (jb (jd 1) jf)) (yx gLe gLt (fC (.da (.int 0))) (jd 1) (jd 0))))
def act:FF:=j7 2 Bis_below
theorem arx:act [a0,a1] s=(Bis_below [some a0,some a1] s).bind j8:=rfl
theorem scis_below:FnScope ["many","thing"] ["many","thing"] (jj ahj):=⟨rfl,rfl,rfl,by decide+kernel,rfl,by decide+kernel,by decide+kernel⟩
theorem okis_below(T:Txt0 K mg):CalF P w K mg base "is_below" 2 2 act:=by
 have cis_whole:=okis_whole (P:=P) (w:=w) (base:=base) T
 exact vg (k:=1) T.h_is_below scis_below rfl rfl (fun f cdv A outer s H E hr=>
   (ji (jm (zq (jz cis_whole (hr.mono (by decide)) (ja (jc 1) je)) (yy (an9 aa6 a2i jg (jc 1) (jc 0)))))))
def Bis_rising:FS:=
  (jq (fCB ae9 (jb (fLc false [] 2 (aq4 (jb (jd 0) (jb (fSl false (jd 0) (ko (fC (.da (.int 1)))) fNo) jf))) (.t2 (.nm 0) (.nm 1)) zn (fOp aql (jd 0) (jd 1))) jf)))
def abg:FF:=j7 1 Bis_rising
theorem ap2:abg [a0] s=(Bis_rising [some a0] s).bind j8:=rfl
theorem scis_rising:FnScope ["things"] ["things"] (jj agp):=⟨rfl,rfl,rfl,by decide+kernel,rfl,by decide+kernel,by decide+kernel⟩
theorem okis_rising(T:Txt0 K mg):CalF P w K mg base "is_rising" 1 1 abg:=by
 exact vg (k:=0) T.h_is_rising scis_rising rfl rfl (fun f cdv A outer s H E hr=>
   (ji (jm (j5 (aic rfl) T.n_all ahl (ja (acx false (own:=["low","high"]) (caps:=[]) (js:=[]) rfl rfl rfl rfl rfl (trivial) rfl (a0n T.n_zip (ja (jc 0) (ja (kr false (jc 0) (kn jg) vk) je))) (fun _ _ _ _=> (ax4 rfl (kx (i:=0) (show (["low","high"]:List Str).Nodup by decide+kernel) rfl (aM rfl) (cr rfl)) (kx (i:=1) (show (["low","high"]:List Str).Nodup by decide+kernel) rfl (aM rfl) (cr rfl)))) (fun _ _ _ _=> x8) (fun _ _ _ _=> (xw (a4l (u64 hr)) (jc 0) (jc 1)))) je)))))
def Bis_port:FS:=
  (jk (j4 (y9 (ku (vo (fCB ab9 (jb (jd 0) (jb (fC (.ty "str")) jf))))) (ku (jt (yx gLe gLe (fC (.da (.int 1))) (fCB k0 (jb (jd 0) jf)) (fC (.da (.int 8))))))) (jq (fC (.da (.bool false)))) jy)
  (jq (fCB ae9 (jb (fLc false [] 1 (apb (jd 0)) (.nm 0) zn (fOp ale (jd 0) (fC (.da (.str "abcdefghijklmnopqrstuvwxyz"))))) jf))))
def aec:FF:=j7 1 Bis_port
theorem auk:aec [a0] s=(Bis_port [some a0] s).bind j8:=rfl
theorem scis_port:FnScope ["thing"] ["thing"] (jj ajl):=⟨rfl,rfl,rfl,by decide+kernel,rfl,by decide+kernel,by decide+kernel⟩
theorem okis_port(T:Txt0 K mg):CalF P w K mg base "is_port" 1 1 aec:=by
 exact vg (k:=0) T.h_is_port scis_port rfl rfl (fun f cdv A outer s H E hr=>
   (jh (j3 (RW.rt (y4 (kv (qw (j5 aef T.n_isinstance v9 (ja (jc 0) (ja (aa4 T.n_str agb) je))))) (yp (kv (aeo aa6 aa6 jg (j5 qx T.n_len qp (ja (jc 0) je)) (yt T.c_MOST_LETTERS)))))) (ji (jm vm)) jw)
   (ji (jm (j5 (aic rfl) T.n_all ahl (ja (acx false (own:=["sign"]) (caps:=[]) (js:=[]) rfl rfl rfl rfl rfl (trivial) rfl (att (jc 0)) (fun _ _ _ _=> (kx (i:=0) (show (["sign"]:List Str).Nodup by decide+kernel) rfl (aM rfl) (cr rfl))) (fun _ _ _ _=> x8) (fun _ _ _ _=> (xw awn (jc 0) (afy T.c_SMALL_LETTERS)))) je))))))
def Bare_unlike_ports:FS:=
  (jk (j4 (y9 (ku (vo (fCB ab9 (jb (jd 0) (jb (fC (.ty "tuple")) jf))))) (ku (vo (fCB ae9 (jb (fLc false [] 1 (fIt (jd 0)) (.nm 0) zn (jn 1 aec (jb (jd 0) jf))) jf))))) (jq (fC (.da (.bool false)))) jy)
  (jq (fOp gEq (fCB ag1 (jb (jd 0) jf)) (fCB k0 (jb (jd 0) jf)))))
def kz:FF:=j7 1 Bare_unlike_ports
theorem agf:kz [a0] s=(Bare_unlike_ports [some a0] s).bind j8:=rfl
theorem scare_unlike_ports:FnScope ["thing"] ["thing"] (jj ab2):=⟨rfl,rfl,rfl,by decide+kernel,rfl,by decide+kernel,by decide+kernel⟩
theorem okare_unlike_ports(T:Txt0 K mg):CalF P w K mg base "are_unlike_ports" 2 1 kz:=by
 have cis_port:=okis_port (P:=P) (w:=w) (base:=base) T
 exact vg (k:=1) T.h_are_unlike_ports scare_unlike_ports rfl rfl (fun f cdv A outer s H E hr=>
   (jh (j3 (RW.rt (y4 (kv (qw (j5 aef T.n_isinstance v9 (ja (jc 0) (ja (aa4 T.n_tuple qu) je))))) (yp (kv (qw (j5 (aic rfl) T.n_all ahl (ja (acx false (own:=["port"]) (caps:=[]) (js:=[]) rfl rfl rfl rfl rfl (trivial) rfl (acl (jc 0)) (fun _ _ _ _=> (kx (i:=0) (show (["port"]:List Str).Nodup by decide+kernel) rfl (aM rfl) (cr rfl))) (fun _ _ _ _=> x8) (fun _ _ _ _=> (jz cis_port (hr.mono (by decide)) (ja (jc 0) je)))) je))))))) (ji (jm vm)) jw)
   (ji (jm (xw (qo (u64 hr)) (aqv rfl T.n_len T.n_set (ja (jc 0) je)) (j5 qx T.n_len qp (ja (jc 0) je)))))))
def Bis_things:FS:=
  (jq (abw (jn 1 ab1 (jb (jd 0) jf)) (yx gLe gLe (fC (.da (.int 1))) (jd 0) (fC (.da (.int 3))))))
def abf:FF:=j7 1 Bis_things
theorem aqk:abf [a0] s=(Bis_things [some a0] s).bind j8:=rfl
theorem scis_things:FnScope ["thing"] ["thing"] (jj agh):=⟨rfl,rfl,rfl,by decide+kernel,rfl,by decide+kernel,by decide+kernel⟩
theorem okis_things(T:Txt0 K mg):CalF P w K mg base "is_things" 2 1 abf:=by
 have cis_whole:=okis_whole (P:=P) (w:=w) (base:=base) T
 exact vg (k:=1) T.h_is_things scis_things rfl rfl (fun f cdv A outer s H E hr=>
   (ji (jm (zq (jz cis_whole (hr.mono (by decide)) (ja (jc 0) je)) (yy (an9 aa6 aa6 jg (jc 0) (yt T.c_MOST_THINGS)))))))
def Bis_seen:FS:=
  (jq (abw (jn 1 kz (jb (jd 0) jf)) (fOp gLe (fCB k0 (jb (jd 0) jf)) (fC (.da (.int 6))))))
def aab:FF:=j7 1 Bis_seen
theorem av4:aab [a0] s=(Bis_seen [some a0] s).bind j8:=rfl
theorem scis_seen:FnScope ["thing"] ["thing"] (jj ajt):=⟨rfl,rfl,rfl,by decide+kernel,rfl,by decide+kernel,by decide+kernel⟩
theorem okis_seen(T:Txt0 K mg):CalF P w K mg base "is_seen" 3 1 aab:=by
 have care_unlike_ports:=okare_unlike_ports (P:=P) (w:=w) (base:=base) T
 exact vg (k:=2) T.h_is_seen scis_seen rfl rfl (fun f cdv A outer s H E hr=>
   (ji (jm (zq (jz care_unlike_ports (hr.mono (by decide)) (ja (jc 0) je)) (yy (xw aa6 (j5 qx T.n_len qp (ja (jc 0) je)) (yt T.c_MOST_SEEN)))))))
def afl:FS:=
  (jk (j4 (jt (fOp gEq (fOp gIx (jd 0) (fC (.da (.int 0)))) (fC (.da (.str "copy"))))) (jq (fOp (kh false) (qv (jb (fOp gIx (jd 0) (fC (.da (.int 1)))) jf)) (fOp gIx (jd 0) (fC (.da (.int 2)))))) jy)
  (jk (j4 (jt (fOp gEq (fOp gIx (jd 0) (fC (.da (.int 0)))) (fC (.da (.str "merge"))))) (jq (fOp (kh false) (fOp gIx (jd 0) (fC (.da (.int 1)))) (qv (jb (fOp gIx (jd 0) (fC (.da (.int 2)))) jf)))) jy)
  (jk (j4 (jt (fOp gEq (fOp gIx (jd 0) (fC (.da (.int 0)))) (fC (.da (.str "net"))))) (jq (fOp gIx (jd 0) (fC (.da (.int 2))))) jy)
  (jq (fSl false (jd 0) (ko (fC (.da (.int 1)))) (ko (fC (.da (.int 3)))))))))
def acv:FF:=j7 1 afl
theorem at1:acv [a0] s=(afl [some a0] s).bind j8:=rfl
theorem ap7:FnScope ["part"] ["part"] (jj ahi):=⟨rfl,rfl,rfl,by decide+kernel,rfl,by decide+kernel,by decide+kernel⟩
theorem ap8(T:Txt0 K mg):CalF P w K mg base "ports_of" 1 1 acv:=by
 exact vg (k:=0) T.h_ports_of ap7 rfl rfl (fun f cdv A outer s H E hr=>
   (jh (j3 (jx (qo (u64 hr)) (jo (jc 0) jg) jv) (ji (jm (j6 (qh false) (kl (ja (jo (jc 0) jg) je)) (jo (jc 0) jg)))) jw)
   (jh (j3 (jx (qo (u64 hr)) (jo (jc 0) jg) jv) (ji (jm (j6 (qh false) (jo (jc 0) jg) (kl (ja (jo (jc 0) jg) je))))) jw)
   (jh (j3 (jx (qo (u64 hr)) (jo (jc 0) jg) jv) (ji (jm (jo (jc 0) jg))) jw)
   (ji (jm (kr false (jc 0) (kn jg) (kn jg))))))))
def Bis_thing:FS:=
  (jq (jn 2 act (jb (jd 0) (jb (jd 1) jf))))
def zh:FF:=j7 2 Bis_thing
theorem atr:zh [a0,a1] s=(Bis_thing [some a0,some a1] s).bind j8:=rfl
theorem scis_thing:FnScope ["things","thing"] ["things","thing"] (jj ahq):=⟨rfl,rfl,rfl,by decide+kernel,rfl,by decide+kernel,by decide+kernel⟩
theorem okis_thing(T:Txt0 K mg):CalF P w K mg base "is_thing" 3 2 zh:=by
 have cis_below:=okis_below (P:=P) (w:=w) (base:=base) T
 exact vg (k:=2) T.h_is_thing scis_thing rfl rfl (fun f cdv A outer s H E hr=>
   (ji (jm (jz cis_below (hr.mono (by decide)) (ja (jc 0) (ja (jc 1) je))))))
def Bis_held:FS:=
  (jq (fOr (fOp gIs (jd 1) (fC (.da (.none)))) (jn 2 zh (jb (jd 0) (jb (jd 1) jf)))))
def aai:FF:=j7 2 Bis_held
theorem avk:aai [a0,a1] s=(Bis_held [some a0,some a1] s).bind j8:=rfl
theorem scis_held:FnScope ["things","thing"] ["things","thing"] (jj ajw):=⟨rfl,rfl,rfl,by decide+kernel,rfl,by decide+kernel,by decide+kernel⟩
theorem okis_held(T:Txt0 K mg):CalF P w K mg base "is_held" 4 2 aai:=by
 have cis_thing:=okis_thing (P:=P) (w:=w) (base:=base) T
 exact vg (k:=3) T.h_is_held scis_held rfl rfl (fun f cdv A outer s H E hr=>
   (ji (jm (a54 (xw auq (jc 1) adp) (yy (jz cis_thing (hr.mono (by decide)) (ja (jc 0) (ja (jc 1) je))))))))
def Bis_told:FS:=
  (jk (j4 (y9 (ku (vo (fCB ab9 (jb (jd 1) (jb (fC (.ty "tuple")) jf))))) (ku (vo (fCB ae9 (jb (fLc false [0] 1 (fIt (jd 1)) (.nm 0) zn (jn 2 zh (jb (jd 1) (jb (jd 0) jf)))) jf))))) (jq (fC (.da (.bool false)))) jy)
  (jq (jn 1 abg (jb (jd 1) jf))))
def ac8:FF:=j7 2 Bis_told
theorem au0:ac8 [a0,a1] s=(Bis_told [some a0,some a1] s).bind j8:=rfl
theorem scis_told:FnScope ["things","thing"] ["things","thing"] (jj ak8):=⟨rfl,rfl,rfl,by decide+kernel,rfl,by decide+kernel,by decide+kernel⟩
theorem okis_told(T:Txt0 K mg):CalF P w K mg base "is_told" 4 2 ac8:=by
 have cis_rising:=okis_rising (P:=P) (w:=w) (base:=base) T
 have cis_thing:=okis_thing (P:=P) (w:=w) (base:=base) T
 exact vg (k:=3) T.h_is_told scis_told rfl rfl (fun f cdv A outer s H E hr=>
   (jh (j3 (RW.rt (y4 (kv (qw (j5 aef T.n_isinstance v9 (ja (jc 1) (ja (aa4 T.n_tuple qu) je))))) (yp (kv (qw (j5 (aic rfl) T.n_all ahl (ja (acx false (own:=["each"]) (caps:=["things"]) (js:=[0]) rfl rfl rfl rfl rfl (⟨⟨rfl,cr (aM rfl),rfl,rfl⟩,trivial⟩) rfl (acl (jc 1)) (fun _ _ _ _=> (kx (i:=0) (show (["each","things"]:List Str).Nodup by decide+kernel) rfl (aM rfl) (cr rfl))) (fun _ _ _ _=> x8) (fun _ _ _ _=> (jz cis_thing (hr.mono (by decide)) (ja (jc 1) (ja (jc 0) je))))) je))))))) (ji (jm vm)) jw)
   (ji (jm (jz cis_rising (hr.mono (by decide)) (ja (jc 1) je))))))
def Bis_knot:FS:=
  (jk (j4 (y9 (ku (vo (fCB ab9 (jb (jd 1) (jb (fC (.ty "tuple")) jf))))) (ku (jt (yx gLe gLe (fC (.da (.int 1))) (fCB k0 (jb (jd 1) jf)) (fC (.da (.int 12))))))) (jq (fC (.da (.bool false)))) jy)
  (jq (jn 1 kz (jb (fOp (kh false) (qv (jb (jd 0) jf)) (jd 1)) jf))))
def ya:FF:=j7 2 Bis_knot
theorem av3:ya [a0,a1] s=(Bis_knot [some a0,some a1] s).bind j8:=rfl
theorem scis_knot:FnScope ["single","several"] ["single","several"] (jj ak5):=⟨rfl,rfl,rfl,by decide+kernel,rfl,by decide+kernel,by decide+kernel⟩
theorem okis_knot(T:Txt0 K mg):CalF P w K mg base "is_knot" 3 2 ya:=by
 have care_unlike_ports:=okare_unlike_ports (P:=P) (w:=w) (base:=base) T
 exact vg (k:=2) T.h_is_knot scis_knot rfl rfl (fun f cdv A outer s H E hr=>
   (jh (j3 (RW.rt (y4 (kv (qw (j5 aef T.n_isinstance v9 (ja (jc 1) (ja (aa4 T.n_tuple qu) je))))) (yp (kv (aeo aa6 aa6 jg (j5 qx T.n_len qp (ja (jc 1) je)) (yt T.c_MOST_ENDS)))))) (ji (jm vm)) jw)
   (ji (jm (jz care_unlike_ports (hr.mono (by decide)) (ja (j6 (qh false) (kl (ja (jc 0) je)) (jc 1)) je))))))
def Bis_flat_part:FS:=
  (jk (j4 (y9 (ku (vo (fCB ab9 (jb (jd 1) (jb (fC (.ty "tuple")) jf))))) (ku (jt (yx gLe gLe (fC (.da (.int 3))) (fCB k0 (jb (jd 1) jf)) (fC (.da (.int 4))))))) (jq (fC (.da (.bool false)))) jy)
  (jk (kj 2 (fOp gIx (jd 1) (fC (.da (.int 0)))))
  (jk (j4 (jt (fOp gEq (fCB k0 (jb (jd 1) jf)) (fC (.da (.int 4))))) (jk (j4 (ku (vo (jn 1 kz (jb (fSl false (jd 1) (ko (fC (.da (.int 1)))) (ko (fC (.da (.int 3))))) jf)))) (jq (fC (.da (.bool false)))) jy)
  (jk (j4 (jt (fOp gIn (jd 2) (fC (.con (cj ac ["place","last"]))))) (jq (jn 2 aai (jb (jd 0) (jb (fOp gIx (jd 1) (fC (.da (.int 3)))) jf)))) jy)
  (jq (abw (fOp gEq (jd 2) (fC (.da (.str "only")))) (jn 2 ac8 (jb (jd 0) (jb (fOp gIx (jd 1) (fC (.da (.int 3)))) jf))))))) jy)
  (jk (j4 (jt (fOp gEq (jd 2) (fC (.da (.str "copy"))))) (jq (jn 2 ya (jb (fOp gIx (jd 1) (fC (.da (.int 1)))) (jb (fOp gIx (jd 1) (fC (.da (.int 2)))) jf)))) jy)
  (jk (j4 (jt (fOp gEq (jd 2) (fC (.da (.str "merge"))))) (jq (jn 2 ya (jb (fOp gIx (jd 1) (fC (.da (.int 2)))) (jb (fOp gIx (jd 1) (fC (.da (.int 1)))) jf)))) jy)
  (jq (abw (fOp gIn (jd 2) (fC (.con (cj ac ["both","loose","drain","either"])))) (jn 1 kz (jb (fSl false (jd 1) (ko (fC (.da (.int 1)))) fNo) jf)))))))))
def vw:FF:=j7 3 Bis_flat_part
theorem aba:vw [a0,a1] s=(Bis_flat_part [some a0,some a1,none] s).bind j8:=rfl
theorem scis_flat_part:FnScope ["things","thing","word"] ["things","thing"] (jj ads):=⟨rfl,rfl,rfl,by decide+kernel,rfl,by decide+kernel,by decide+kernel⟩
theorem okis_flat_part(T:Txt0 K mg):CalF P w K mg base "is_flat_part" 5 2 vw:=by
 have care_unlike_ports:=okare_unlike_ports (P:=P) (w:=w) (base:=base) T
 have cis_held:=okis_held (P:=P) (w:=w) (base:=base) T
 have cis_told:=okis_told (P:=P) (w:=w) (base:=base) T
 have cis_knot:=okis_knot (P:=P) (w:=w) (base:=base) T
 exact vg (k:=4) T.h_is_flat_part scis_flat_part rfl rfl (fun f cdv A outer s H E hr=>
   (jh (j3 (RW.rt (y4 (kv (qw (j5 aef T.n_isinstance v9 (ja (jc 1) (ja (aa4 T.n_tuple qu) je))))) (yp (kv (aeo aa6 aa6 jg (j5 qx T.n_len qp (ja (jc 1) je)) jg))))) (ji (jm vm)) jw)
   (jh (ke (i:=2) scis_flat_part.nd rfl (aM rfl) (jo (jc 1) jg))
   (jh (j3 (jx (qo (u64 hr)) (j5 qx T.n_len qp (ja (jc 1) je)) jg) (jh (j3 (kv (qw (jz care_unlike_ports (hr.mono (by decide)) (ja (kr false (jc 1) (kn jg) (kn jg)) je)))) (ji (jm vm)) jw)
   (jh (j3 (jx (ail (u65 hr)) (jc 2) (afw ["place","last"] T.c_HOLDING)) (ji (jm (jz cis_held (hr.mono (by decide)) (ja (jc 0) (ja (jo (jc 1) jg) je))))) jw)
   (ji (jm (zq (xw (qo (u64 hr)) (jc 2) jv) (yy (jz cis_told (hr.mono (by decide)) (ja (jc 0) (ja (jo (jc 1) jg) je))))))))) jw)
   (jh (j3 (jx (qo (u64 hr)) (jc 2) jv) (ji (jm (jz cis_knot (hr.mono (by decide)) (ja (jo (jc 1) jg) (ja (jo (jc 1) jg) je))))) jw)
   (jh (j3 (jx (qo (u64 hr)) (jc 2) jv) (ji (jm (jz cis_knot (hr.mono (by decide)) (ja (jo (jc 1) jg) (ja (jo (jc 1) jg) je))))) jw)
   (ji (jm (zq (xw (ail (u65 hr)) (jc 2) (afw ["both","loose","drain","either"] T.c_TWO_PORTS_ALONE)) (yy (jz care_unlike_ports (hr.mono (by decide)) (ja (kr false (jc 1) (kn jg) vk) je))))))))))))
def yh:FS:=
  (jk (j4 (jt (fOp gIn (fOp gIx (jd 0) (fC (.da (.int 0)))) (fC (.con (cj ac ["place","last"]))))) (jq (kt false (jb (fIf (jt (fOp gIs (fOp gIx (jd 0) (fC (.da (.int 3)))) (fC (.da (.none))))) (fC (.da (.str "-"))) (fCB aa7 (jb (fOp gIx (jd 0) (fC (.da (.int 3)))) jf))) jf))) jy)
  (jk (j4 (jt (fOp gEq (fOp gIx (jd 0) (fC (.da (.int 0)))) (fC (.da (.str "only"))))) (jq (fLc false [] 1 (fIt (fOp gIx (jd 0) (fC (.da (.int 3))))) (.nm 0) zn (fCB aa7 (jb (jd 0) jf)))) jy)
  (jq (kt false jf))))
def xb:FF:=j7 1 yh
theorem aex:xb [a0] s=(yh [some a0] s).bind j8:=rfl
theorem aeb:FnScope ["part"] ["part"] (jj zz):=⟨rfl,rfl,rfl,by decide+kernel,rfl,by decide+kernel,by decide+kernel⟩
theorem ae3(T:Txt0 K mg):CalF P w K mg base "words_behind_ports" 1 1 xb:=by
 exact vg (k:=0) T.h_words_behind_ports aeb rfl rfl (fun f cdv A outer s H E hr=>
   (jh (j3 (jx (ail (u65 hr)) (jo (jc 0) jg) (afw ["place","last"] T.c_HOLDING)) (ji (jm (kf false (ja (akp (jx auq (jo (jc 0) jg) adp) (afy T.c_NOTHING_HELD) (k7 ahg T.n_str agb (ja (jo (jc 0) jg) je))) je)))) jw)
   (jh (j3 (jx (qo (u64 hr)) (jo (jc 0) jg) jv) (ji (jm (acx false (own:=["number"]) (caps:=[]) (js:=[]) rfl rfl rfl rfl rfl (trivial) rfl (acl (jo (jc 0) jg)) (fun _ _ _ _=> (kx (i:=0) (show (["number"]:List Str).Nodup by decide+kernel) rfl (aM rfl) (cr rfl))) (fun _ _ _ _=> x8) (fun _ _ _ _=> (k7 ahg T.n_str agb (ja (jc 0) je)))))) jw)
   (ji (jm (kf false je))))))
def ae4(qg ve:FF):FS:=
  (jk (au2 (.t3 (.nm 1) (.nm 2) (.nm 3)) (jd 0))
  (jk (kj 4 (kt true (jb (fMs xm (fC (.da (.str " "))) (jb (fOp (kh false) (kt false (jb (fC (.da (.str "net"))) (jb (fCB aa7 (jb (jd 1) jf)) jf))) (fCB (vy false) (jb (jd 2) jf))) jf)) jf)))
  (jk (ack (fIt (jd 3)) (.nm 5) (k6 (fMt aaj (jd 4) (jb (jn 1 ve (jb (jd 5) jf)) jf))))
  (jq (jd 4)))))
def aam(qg ve:FF):FS:=
  (jk (kj 1 (fCB (vy false) (jb (jn 1 acv (jb (jd 0) jf)) jf)))
  (jk (j4 (jt (fOp gEq (fOp gIx (jd 0) (fC (.da (.int 0)))) (fC (.da (.str "net"))))) (jq (fOp (kh false) (fOp (kh false) (kt false (jb (fMs xm (fC (.da (.str " "))) (jb (fOp (kh false) (kt false (jb (fC (.da (.str "within"))) jf)) (jd 1)) jf)) jf)) (jn 1 qg (jb (fOp gIx (jd 0) (fC (.da (.int 1)))) jf))) (kt false (jb (fC (.da (.str "end"))) jf)))) jy)
  (jq (kt false (jb (fMs xm (fC (.da (.str " "))) (jb (fOp (kh false) (fOp (kh false) (kt false (jb (fOp gIx (jd 0) (fC (.da (.int 0)))) jf)) (jd 1)) (jn 1 xb (jb (jd 0) jf))) jf)) jf)))))
def yu:Nat -> FF×FF
 |0=> (amp,amp)
 |n+1=> (j7 6 (ae4 (yu n).1 (yu n).2),j7 2 (aam (yu n).1 (yu n).2))
def qg(n:Nat):FF:=(yu n).1
def ve(n:Nat):FF:=(yu n).2
theorem apu:qg (n+1) [a0] s=(ae4 (qg n) (ve n) [some a0,none,none,none,none,none] s).bind j8:=rfl
theorem xr:FnScope ["net","things","seen","parts","lines","part"] ["net"] (jj agm):=⟨rfl,rfl,rfl,by decide+kernel,rfl,by decide+kernel,by decide+kernel⟩
theorem ago:ve (n+1) [a0] s=(aam (qg n) (ve n) [some a0,none] s).bind j8:=rfl
theorem ac7:FnScope ["part","ports"] ["part"] (jj aft):=⟨rfl,rfl,rfl,by decide+kernel,rfl,by decide+kernel,by decide+kernel⟩
theorem agg(T:Txt0 K mg): ∀n:Nat,CalF P w K mg base "net_lines" (2+n) 1 (qg n)/\CalF P w K mg base "part_lines" (2+n) 1 (ve n)
 |0=> ⟨(agd (k:=1) T.h_net_lines xr rfl),(agd (k:=1) T.h_part_lines ac7 rfl)⟩
 | n+1=> by
  have cports_of:=ap8 (P:=P) (w:=w) (base:=base) T
  have cwords_behind_ports:=ae3 (P:=P) (w:=w) (base:=base) T
  obtain⟨ihnet_lines,ihpart_lines⟩:=agg T n
  exact⟨vg (k:=2+n) T.h_net_lines xr rfl rfl (fun f cdv A outer s H E hr=>
   (jh (a3c (jc 0) (a4h rfl (kx (i:=1) xr.nd rfl (aM rfl)) (kx (i:=2) xr.nd rfl (aM rfl)) (kx (i:=3) xr.nd rfl (aM rfl))))
   (jh (ke (i:=4) xr.nd rfl (aM rfl) (kf true (ja (abm bJ bK ab3 jv (ja (j6 (qh false) (kf false (ja jv (ja (k7 ahg T.n_str agb (ja (jc 1) je)) je))) (k7 (zy false) T.n_list zw (ja (jc 2) je))) je)) je)))
   (jh (ada rfl (acl (jc 3)) (kx (i:=5) xr.nd rfl (aM rfl)) (ji (vc (xc gc gf am6 (jc 4) (ja (jz ihpart_lines (hr.mono (by lia)) (ja (jc 5) je)) je)))))
   (ji (jm (jc 4))))))),vg (k:=2+n) T.h_part_lines ac7 rfl rfl (fun f cdv A outer s H E hr=>
   (jh (ke (i:=1) ac7.nd rfl (aM rfl) (k7 (zy false) T.n_list zw (ja (jz cports_of (hr.mono (by lia)) (ja (jc 0) je)) je)))
   (jh (j3 (jx (qo (u64 hr)) (jo (jc 0) jg) jv) (ji (jm (j6 (qh false) (j6 (qh false) (kf false (ja (abm bJ bK ab3 jv (ja (j6 (qh false) (kf false (ja jv je)) (jc 1)) je)) je)) (jz ihnet_lines (hr.mono (by lia)) (ja (jo (jc 0) jg) je))) (kf false (ja jv je))))) jw)
   (ji (jm (kf false (ja (abm bJ bK ab3 jv (ja (j6 (qh false) (j6 (qh false) (kf false (ja (jo (jc 0) jg) je)) (jc 1)) (jz cwords_behind_ports (hr.mono (by lia)) (ja (jc 0) je))) je)) je)))))))⟩
theorem ane(T:Txt0 K mg)(n:Nat):CalF P w K mg base "net_lines" (2+n) 1 (qg n):=(agg T n).1
def abb:FS:=
  (jq (qv (jb (qk ct "things" (jd 0)) (jb (qk ct "seen" (jd 0)) (jb (fCB qb (jb (qk ct "parts" (jd 0)) jf)) jf)))))
def xh:FF:=j7 1 abb
theorem ake:xh [a0] s=(abb [some a0] s).bind j8:=rfl
theorem aip:FnScope ["self"] ["self"] (jj ade):=⟨rfl,rfl,rfl,by decide+kernel,rfl,by decide+kernel,by decide+kernel⟩
theorem ad8(T:Txt0 K mg):MethF P w K mg base "Begun" "as_net" 1 1 xh:=by
 exact acr (k:=0) T.h_Begun_as_net aip rfl rfl (fun f cdv A outer s H E hr=>
   (ji (jm (kl (ja (ki T.ct (jc 0)) (ja (ki T.ct (jc 0)) (ja (k7 vq T.n_tuple qu (ja (ki T.ct (jc 0)) je)) je)))))))
def acd:FS:=
  (jk (acw ct "begun" (jd 0) (kt true jf))
  (jk (acw ct "told" (jd 0) (kt true jf))
  (acw ct "many" (jd 0) (fC (.da (.int 0))))))
def yk:FF:=j7 1 acd
theorem al4:yk [a0] s=(acd [some a0] s).bind j8:=rfl
theorem akc:FnScope ["self"] ["self"] (jj aes):=⟨rfl,rfl,rfl,by decide+kernel,rfl,by decide+kernel,by decide+kernel⟩
theorem akk(T:Txt0 K mg):InitF P w K mg base "Reader" 1 1 yk:=by
 exact axj (k:=0) T.h_Reader_init akc rfl rfl (fun f cdv A outer s H E hr=>
   (jh (adq T.ct (jc 0) (kf true je))
   (jh (adq T.ct (jc 0) (kf true je))
   (ji (adq T.ct (jc 0) jg)))))
def ah9:FS:=
  (jq (fIf (jt (fOp gEq (jd 0) (fC (.da (.str "-"))))) (fC (.da (.none))) (jn 1 yr (jb (jd 0) jf))))
def aeg:FF:=j7 1 ah9
theorem avc:aeg [a0] s=(ah9 [some a0] s).bind j8:=rfl
theorem asg:FnScope ["word"] ["word"] (jj aje):=⟨rfl,rfl,rfl,by decide+kernel,rfl,by decide+kernel,by decide+kernel⟩
theorem ar1(T:Txt0 K mg):CalF P w K mg base "held_by" 2 1 aeg:=by
 have cnumber_by:=ad6 (P:=P) (w:=w) (base:=base) T
 exact vg (k:=1) T.h_held_by asg rfl rfl (fun f cdv A outer s H E hr=>
   (ji (jm (akp (jx (qo (u64 hr)) (jc 0) (afy T.c_NOTHING_HELD)) adp (jz cnumber_by (hr.mono (by decide)) (ja (jc 0) je))))))
def ah2:FS:=
  (jk (kj 1 (fOp gIx (jd 0) (fC (.da (.int 0)))))
  (jk (j4 (aao (jt (fOp gIn (jd 1) (fC (.con (cj ac ["place","last"]))))) (jt (fOp gEq (fCB k0 (jb (jd 0) jf)) (fC (.da (.int 4)))))) (jq (qv (jb (jd 1) (jb (fOp gIx (jd 0) (fC (.da (.int 1)))) (jb (fOp gIx (jd 0) (fC (.da (.int 2)))) (jb (jn 1 aeg (jb (fOp gIx (jd 0) (fC (.da (.int 3)))) jf)) jf)))))) jy)
  (jk (j4 (aao (jt (fOp gEq (jd 1) (fC (.da (.str "only"))))) (jt (fOp gGe (fCB k0 (jb (jd 0) jf)) (fC (.da (.int 3)))))) (jq (qv (jb (jd 1) (jb (fOp gIx (jd 0) (fC (.da (.int 1)))) (jb (fOp gIx (jd 0) (fC (.da (.int 2)))) (jb (fCB qb (jb (fLc false [] 1 (fIt (fSl false (jd 0) (ko (fC (.da (.int 3)))) fNo)) (.nm 0) zn (jn 1 yr (jb (jd 0) jf))) jf)) jf)))))) jy)
  (jk (j4 (aao (jt (fOp gEq (jd 1) (fC (.da (.str "copy"))))) (jt (fOp gGe (fCB k0 (jb (jd 0) jf)) (fC (.da (.int 2)))))) (jq (qv (jb (jd 1) (jb (fOp gIx (jd 0) (fC (.da (.int 1)))) (jb (fCB qb (jb (fSl false (jd 0) (ko (fC (.da (.int 2)))) fNo) jf)) jf))))) jy)
  (jk (j4 (jt (fOp gEq (jd 1) (fC (.da (.str "merge"))))) (jq (qv (jb (jd 1) (jb (fCB qb (jb (fSl false (jd 0) (ko (fC (.da (.int 1)))) (ko (ae1 (fC (.da (.int 1)))))) jf)) (jb (fOp gIx (jd 0) (ae1 (fC (.da (.int 1))))) jf))))) jy)
  (jq (fCB qb (jb (jd 0) jf))))))))
def abx:FF:=j7 2 ah2
theorem awc:abx [a0] s=(ah2 [some a0,none] s).bind j8:=rfl
theorem ajx:FnScope ["words","first"] ["words"] (jj aji):=⟨rfl,rfl,rfl,by decide+kernel,rfl,by decide+kernel,by decide+kernel⟩
theorem atw(T:Txt0 K mg):CalF P w K mg base "part_by" 3 1 abx:=by
 have cnumber_by:=ad6 (P:=P) (w:=w) (base:=base) T
 have cheld_by:=ar1 (P:=P) (w:=w) (base:=base) T
 exact vg (k:=2) T.h_part_by ajx rfl rfl (fun f cdv A outer s H E hr=>
   (jh (ke (i:=1) ajx.nd rfl (aM rfl) (jo (jc 0) jg))
   (jh (j3 (RW.rt (adu (jx (ail (u65 hr)) (jc 1) (afw ["place","last"] T.c_HOLDING)) (abo (jx (qo (u64 hr)) (j5 qx T.n_len qp (ja (jc 0) je)) jg)))) (ji (jm (kl (ja (jc 1) (ja (jo (jc 0) jg) (ja (jo (jc 0) jg) (ja (jz cheld_by (hr.mono (by decide)) (ja (jo (jc 0) jg) je)) je))))))) jw)
   (jh (j3 (RW.rt (adu (jx (qo (u64 hr)) (jc 1) jv) (abo (jx aua (j5 qx T.n_len qp (ja (jc 0) je)) jg)))) (ji (jm (kl (ja (jc 1) (ja (jo (jc 0) jg) (ja (jo (jc 0) jg) (ja (k7 vq T.n_tuple qu (ja (acx false (own:=["word"]) (caps:=[]) (js:=[]) rfl rfl rfl rfl rfl (trivial) rfl (acl (kr false (jc 0) (kn jg) vk)) (fun _ _ _ _=> (kx (i:=0) (show (["word"]:List Str).Nodup by decide+kernel) rfl (aM rfl) (cr rfl))) (fun _ _ _ _=> x8) (fun _ _ _ _=> (jz cnumber_by (hr.mono (by decide)) (ja (jc 0) je)))) je)) je))))))) jw)
   (jh (j3 (RW.rt (adu (jx (qo (u64 hr)) (jc 1) jv) (abo (jx aua (j5 qx T.n_len qp (ja (jc 0) je)) jg)))) (ji (jm (kl (ja (jc 1) (ja (jo (jc 0) jg) (ja (k7 vq T.n_tuple qu (ja (kr false (jc 0) (kn jg) vk) je)) je)))))) jw)
   (jh (j3 (jx (qo (u64 hr)) (jc 1) jv) (ji (jm (kl (ja (jc 1) (ja (k7 vq T.n_tuple qu (ja (kr false (jc 0) (kn jg) (kn (aci jg))) je)) (ja (jo (jc 0) (aci jg)) je)))))) jw)
   (ji (jm (k7 vq T.n_tuple qu (ja (jc 0) je))))))))))
def ad2:FS:=
  (jk (acw ct "things" (jd 0) (jd 1))
  (jk (acw ct "seen" (jd 0) (jd 2))
  (acw ct "parts" (jd 0) (kt true jf))))
def aal:FF:=j7 3 ad2
theorem anb{a2:D}:aal [a0,a1,a2] s=(ad2 [some a0,some a1,some a2] s).bind j8:=rfl
theorem amc:FnScope ["self","things","seen"] ["self","things","seen"] (jj af4):=⟨rfl,rfl,rfl,by decide+kernel,rfl,by decide+kernel,by decide+kernel⟩
theorem ami(T:Txt0 K mg):InitF P w K mg base "Begun" 1 3 aal:=by
 exact axj (k:=0) T.h_Begun_init amc rfl rfl (fun f cdv A outer s H E hr=>
   (jh (adq T.ct (jc 0) (jc 1))
   (jh (adq T.ct (jc 0) (jc 2))
   (ji (adq T.ct (jc 0) (kf true je))))))
def zk:FS:=
  (jk (j4 (ku (vo (qk ct "told" (jd 0)))) (jq (fC (.da (.bool true)))) jy)
  (jq (abw (fOp gEq (qk ct "things" (jd 1)) (qk ct "things" (fOp gIx (qk ct "begun" (jd 0)) (ae1 (fC (.da (.int 1))))))) (fOp gEq (fCB k0 (jb (qk ct "seen" (jd 1)) jf)) (fCB k0 (jb (fOp gIx (qk ct "told" (jd 0)) (ae1 (fC (.da (.int 1))))) jf))))))
def xv:FF:=j7 2 zk
theorem af6:xv [a0,a1] s=(zk [some a0,some a1] s).bind j8:=rfl
theorem akm:FnScope ["self","net"] ["self","net"] (jj aew):=⟨rfl,rfl,rfl,by decide+kernel,rfl,by decide+kernel,by decide+kernel⟩
theorem akj(T:Txt0 K mg):MethF P w K mg base "Reader" "fits" 1 2 xv:=by
 exact acr (k:=0) T.h_Reader_fits akm rfl rfl (fun f cdv A outer s H E hr=>
   (jh (j3 (kv (qw (ki T.ct (jc 0)))) (ji (jm vm)) jw)
   (ji (jm (zq (xw (qo (u64 hr)) (ki T.ct (jc 1)) (ki T.ct (jo (ki T.ct (jc 0)) (aci jg)))) (yy (xw (qo (u64 hr)) (j5 qx T.n_len qp (ja (ki T.ct (jc 1)) je)) (j5 qx T.n_len qp (ja (jo (ki T.ct (jc 0)) (aci jg)) je)))))))))
def aa0:FS:=
  (jk (j4 (y9 (jt (fOp gLt (fCB k0 (jb (jd 1) jf)) (fC (.da (.int 2))))) (jt (fOp gNe (fOp gIx (jd 1) (fC (.da (.int 0)))) (fC (.da (.str "net")))))) (jq (fC (.da (.bool false)))) jy)
  (jk (kj 2 (ael "Begun" 3 aal (jb (jn 1 yr (jb (fOp gIx (jd 1) (fC (.da (.int 1)))) jf)) (jb (fCB qb (jb (fSl false (jd 1) (ko (fC (.da (.int 2)))) fNo) jf)) jf))))
  (jk (j4 (y9 (ku (vo (jn 1 abf (jb (qk ct "things" (jd 2)) jf)))) (y9 (ku (vo (jn 1 aab (jb (qk ct "seen" (jd 2)) jf)))) (ku (vo (v4 "fits" [("Reader",2,xv)] (jd 0) (jb (jd 2) jf)))))) (jq (fC (.da (.bool false)))) jy)
  (jk (k6 (fMt j9 (qk ct "begun" (jd 0)) (jb (jd 2) jf)))
  (jq (fC (.da (.bool true))))))))
def aag:FF:=j7 3 aa0
theorem aj2:aag [a0,a1] s=(aa0 [some a0,some a1,none] s).bind j8:=rfl
theorem acy:FnScope ["self","words","net"] ["self","words"] (jj acs):=⟨rfl,rfl,rfl,by decide+kernel,rfl,by decide+kernel,by decide+kernel⟩
theorem ahp(T:Txt0 K mg):MethF P w K mg base "Reader" "begins" 4 2 aag:=by
 have cnumber_by:=ad6 (P:=P) (w:=w) (base:=base) T
 have cis_things:=okis_things (P:=P) (w:=w) (base:=base) T
 have cis_seen:=okis_seen (P:=P) (w:=w) (base:=base) T
 have cBegun_init:=ami (P:=P) (w:=w) (base:=base) T
 have cReader_fits:=akj (P:=P) (w:=w) (base:=base) T
 exact acr (k:=3) T.h_Reader_begins acy rfl rfl (fun f cdv A outer s H E hr=>
   (jh (j3 (RW.rt (y4 (jx a2i (j5 qx T.n_len qp (ja (jc 1) je)) jg) (yp (jx (aqo (u64 hr)) (jo (jc 1) jg) jv)))) (ji (jm vm)) jw)
   (jh (ke (i:=2) acy.nd rfl (aM rfl) (azc cBegun_init (hr.mono (by decide)) (ja (jz cnumber_by (hr.mono (by decide)) (ja (jo (jc 1) jg) je)) (ja (k7 vq T.n_tuple qu (ja (kr false (jc 1) (kn jg) vk) je)) je))))
   (jh (j3 (RW.rt (y4 (kv (qw (jz cis_things (hr.mono (by decide)) (ja (ki T.ct (jc 2)) je)))) (y4 (kv (qw (jz cis_seen (hr.mono (by decide)) (ja (ki T.ct (jc 2)) je)))) (yp (kv (qw (adj (MTabs.cons cReader_fits (hr.mono (by decide)) MTabs.nil) (jc 0) (ja (jc 2) je)))))))) (ji (jm vm)) jw)
   (jh (vc (xc aK aL qz (ki T.ct (jc 0)) (ja (jc 2) je)))
   (ji (jm vm)))))))
def yi:FS:=
  (jk (j4 (y9 (jt (fOp gEq (fCB k0 (jb (qk ct "begun" (jd 0)) jf)) (fC (.da (.int 4))))) (ku (vo (jn 1 aab (jb (jd 1) jf))))) (jq (fC (.da (.bool false)))) jy)
  (jk (k6 (fMt j9 (qk ct "told" (jd 0)) (jb (jd 1) jf)))
  (jk (aga ct "many" (fun i j=> i+j) (jd 0) (fC (.da (.int 1))))
  (jq (fC (.da (.bool true)))))))
def xf:FF:=j7 2 yi
theorem aey:xf [a0,a1] s=(yi [some a0,some a1] s).bind j8:=rfl
theorem aee:FnScope ["self","ports"] ["self","ports"] (jj zt):=⟨rfl,rfl,rfl,by decide+kernel,rfl,by decide+kernel,by decide+kernel⟩
theorem aej(T:Txt0 K mg):MethF P w K mg base "Reader" "goes_within" 4 2 xf:=by
 have cis_seen:=okis_seen (P:=P) (w:=w) (base:=base) T
 exact acr (k:=3) T.h_Reader_goes_within aee rfl rfl (fun f cdv A outer s H E hr=>
   (jh (j3 (RW.rt (y4 (jx (qo (u64 hr)) (j5 qx T.n_len qp (ja (ki T.ct (jc 0)) je)) (yt T.c_MOST_DEEP)) (yp (kv (qw (jz cis_seen (hr.mono (by decide)) (ja (jc 1) je))))))) (ji (jm vm)) jw)
   (jh (vc (xc aK aL qz (ki T.ct (jc 0)) (ja (jc 1) je)))
   (jh (ak9 ar2 a3o T.ct (jc 0) jg)
   (ji (jm vm))))))
def acn:FS:=
  (jk (j4 (ku (vo (qk ct "told" (jd 0)))) (jq (fC (.da (.bool false)))) jy)
  (jk (kj 1 (fMt ais (qk ct "begun" (jd 0)) jf))
  (jk (k6 (fMt j9 (qk ct "parts" (fOp gIx (qk ct "begun" (jd 0)) (ae1 (fC (.da (.int 1)))))) (jb (qv (jb (fC (.da (.str "net"))) (jb (v4 "as_net" [("Begun",1,xh)] (jd 1) jf) (jb (fMt ais (qk ct "told" (jd 0)) jf) jf)))) jf)))
  (jq (fC (.da (.bool true)))))))
def zx:FF:=j7 2 acn
theorem al6:zx [a0] s=(acn [some a0,none] s).bind j8:=rfl
theorem aer:FnScope ["self","inner"] ["self"] (jj aev):=⟨rfl,rfl,rfl,by decide+kernel,rfl,by decide+kernel,by decide+kernel⟩
theorem akh(T:Txt0 K mg):MethF P w K mg base "Reader" "ends" 2 1 zx:=by
 have cBegun_as_net:=ad8 (P:=P) (w:=w) (base:=base) T
 exact acr (k:=1) T.h_Reader_ends aer rfl rfl (fun f cdv A outer s H E hr=>
   (jh (j3 (kv (qw (ki T.ct (jc 0)))) (ji (jm vm)) jw)
   (jh (ke (i:=1) aer.nd rfl (aM rfl) (asa eL eM axb (ki T.ct (jc 0))))
   (jh (vc (xc aK aL qz (ki T.ct (jo (ki T.ct (jc 0)) (aci jg))) (ja (kl (ja jv (ja (ady (MTabs.cons cBegun_as_net (hr.mono (by decide)) MTabs.nil) (jc 1)) (ja (asa eL eM axb (ki T.ct (jc 0))) je)))) je)))
   (ji (jm vm))))))
def aco:FS:=
  (jk (j4 (ku (vo (jn 2 vw (jb (qk ct "things" (fOp gIx (qk ct "begun" (jd 0)) (ae1 (fC (.da (.int 1)))))) (jb (jd 1) jf))))) (jq (fC (.da (.bool false)))) jy)
  (jk (k6 (fMt j9 (qk ct "parts" (fOp gIx (qk ct "begun" (jd 0)) (ae1 (fC (.da (.int 1)))))) (jb (jd 1) jf)))
  (jk (aga ct "many" (fun i j=> i+j) (jd 0) (fC (.da (.int 1))))
  (jq (fC (.da (.bool true)))))))
def zr:FF:=j7 2 aco
theorem alv:zr [a0,a1] s=(aco [some a0,some a1] s).bind j8:=rfl
theorem akd:FnScope ["self","part"] ["self","part"] (jj aet):=⟨rfl,rfl,rfl,by decide+kernel,rfl,by decide+kernel,by decide+kernel⟩
theorem akg(T:Txt0 K mg):MethF P w K mg base "Reader" "lays" 6 2 zr:=by
 have cis_flat_part:=okis_flat_part (P:=P) (w:=w) (base:=base) T
 exact acr (k:=5) T.h_Reader_lays akd rfl rfl (fun f cdv A outer s H E hr=>
   (jh (j3 (kv (qw (jz cis_flat_part (hr.mono (by decide)) (ja (ki T.ct (jo (ki T.ct (jc 0)) (aci jg))) (ja (jc 1) je))))) (ji (jm vm)) jw)
   (jh (vc (xc aK aL qz (ki T.ct (jo (ki T.ct (jc 0)) (aci jg))) (ja (jc 1) je)))
   (jh (ak9 ar2 a3o T.ct (jc 0) jg)
   (ji (jm vm))))))
def y3:FS:=
  (jk (j4 (jt (fOp gEq (fCB k0 (jb (qk ct "begun" (jd 0)) jf)) (fCB k0 (jb (qk ct "told" (jd 0)) jf)))) (jq (v4 "begins" [("Reader",2,aag)] (jd 0) (jb (jd 1) jf))) jy)
  (jk (j4 (jt (fOp gEq (jd 1) (kt false (jb (fC (.da (.str "end"))) jf)))) (jq (v4 "ends" [("Reader",1,zx)] (jd 0) jf)) jy)
  (jk (j4 (jt (fOp gEq (qk ct "many" (jd 0)) (fC (.da (.int 120))))) (jq (fC (.da (.bool false)))) jy)
  (jk (j4 (jt (fOp gEq (fOp gIx (jd 1) (fC (.da (.int 0)))) (fC (.da (.str "within"))))) (jq (v4 "goes_within" [("Reader",2,xf)] (jd 0) (jb (fCB qb (jb (fSl false (jd 1) (ko (fC (.da (.int 1)))) fNo) jf)) jf))) jy)
  (jq (v4 "lays" [("Reader",2,zr)] (jd 0) (jb (jn 1 abx (jb (jd 1) jf)) jf)))))))
def qf:FF:=j7 2 y3
theorem aeu:qf [a0,a1] s=(y3 [some a0,some a1] s).bind j8:=rfl
theorem ain:FnScope ["self","words"] ["self","words"] (jj adb):=⟨rfl,rfl,rfl,by decide+kernel,rfl,by decide+kernel,by decide+kernel⟩
theorem aiu(T:Txt0 K mg):MethF P w K mg base "Reader" "takes" 7 2 qf:=by
 have cpart_by:=atw (P:=P) (w:=w) (base:=base) T
 have cReader_begins:=ahp (P:=P) (w:=w) (base:=base) T
 have cReader_goes_within:=aej (P:=P) (w:=w) (base:=base) T
 have cReader_ends:=akh (P:=P) (w:=w) (base:=base) T
 have cReader_lays:=akg (P:=P) (w:=w) (base:=base) T
 exact acr (k:=6) T.h_Reader_takes ain rfl rfl (fun f cdv A outer s H E hr=>
   (jh (j3 (jx (qo (u64 hr)) (j5 qx T.n_len qp (ja (ki T.ct (jc 0)) je)) (j5 qx T.n_len qp (ja (ki T.ct (jc 0)) je))) (ji (jm (adj (MTabs.cons cReader_begins (hr.mono (by decide)) MTabs.nil) (jc 0) (ja (jc 1) je)))) jw)
   (jh (j3 (jx (qo (u64 hr)) (jc 1) (kf false (ja jv je))) (ji (jm (ady (MTabs.cons cReader_ends (hr.mono (by decide)) MTabs.nil) (jc 0)))) jw)
   (jh (j3 (jx (qo (u64 hr)) (ki T.ct (jc 0)) (yt T.c_MOST_PARTS)) (ji (jm vm)) jw)
   (jh (j3 (jx (qo (u64 hr)) (jo (jc 1) jg) jv) (ji (jm (adj (MTabs.cons cReader_goes_within (hr.mono (by decide)) MTabs.nil) (jc 0) (ja (k7 vq T.n_tuple qu (ja (kr false (jc 1) (kn jg) vk) je)) je)))) jw)
   (ji (jm (adj (MTabs.cons cReader_lays (hr.mono (by decide)) MTabs.nil) (jc 0) (ja (jz cpart_by (hr.mono (by decide)) (ja (jc 1) je)) je)))))))))
def zp:FS:=
  (jq (abw (fOp gEq (fCB k0 (jb (qk ct "begun" (jd 0)) jf)) (fC (.da (.int 1)))) (akz (qk ct "told" (jd 0)))))
def xo:FF:=j7 1 zp
theorem ai6:xo [a0] s=(zp [some a0] s).bind j8:=rfl
theorem ah7:FnScope ["self"] ["self"] (jj ac4):=⟨rfl,rfl,rfl,by decide+kernel,rfl,by decide+kernel,by decide+kernel⟩
theorem agy(T:Txt0 K mg):MethF P w K mg base "Reader" "is_done" 1 1 xo:=by
 exact acr (k:=0) T.h_Reader_is_done ah7 rfl rfl (fun f cdv A outer s H E hr=>
   (ji (jm (zq (xw (qo (u64 hr)) (j5 qx T.n_len qp (ja (ki T.ct (jc 0)) je)) jg) (yy (anq (ki T.ct (jc 0))))))))
def afm:FS:=
  (jk (kj 1 (ael "Reader" 1 yk jf))
  (jk (ack (apa 0 (jb (jd 0) jf)) (.t2 (.nm 2) (.nm 3)) (j4 (ku (vo (v4 "takes" [("Reader",2,qf)] (jd 1) (jb (fMs (ace false) (jd 3) (jb (fC (.da (.str " "))) jf)) jf)))) aez jy))
  (jk (j4 (ku (vo (v4 "is_done" [("Reader",1,xo)] (jd 1) jf))) aez jy)
  (jq (v4 "as_net" [("Begun",1,xh)] (fOp gIx (qk ct "begun" (jd 1)) (fC (.da (.int 0)))) jf)))))
def acq:FF:=j7 4 afm
theorem at6:acq [a0] s=(afm [some a0,none,none,none] s).bind j8:=rfl
theorem abi:FnScope ["lines","reader","row","line"] ["lines"] (jj aib):=⟨rfl,rfl,rfl,by decide+kernel,rfl,by decide+kernel,by decide+kernel⟩
theorem apk(T:Txt0 K mg):CalF P w K mg base "read_net" 8 1 acq:=by
 have cBegun_as_net:=ad8 (P:=P) (w:=w) (base:=base) T
 have cReader_init:=akk (P:=P) (w:=w) (base:=base) T
 have cReader_takes:=aiu (P:=P) (w:=w) (base:=base) T
 have cReader_is_done:=agy (P:=P) (w:=w) (base:=base) T
 exact vg (k:=7) T.h_read_net abi rfl rfl (fun f cdv A outer s H E hr=>
   (jh (ke (i:=1) abi.nd rfl (aM rfl) (avs cReader_init (hr.mono (by decide))))
   (jh (ada rfl (a3g T.n_enumerate (ja (jc 0) je)) (ax4 rfl (kx (i:=2) abi.nd rfl (aM rfl)) (kx (i:=3) abi.nd rfl (aM rfl))) (ji (j3 (kv (qw (adj (MTabs.cons cReader_takes (hr.mono (by decide)) MTabs.nil) (jc 1) (ja (abm PySem.F.slot_str_split PySem.F.type_str_split (m_split false) (jc 3) (ja jv je)) je)))) (ji amm) jw)))
   (jh (j3 (kv (qw (ady (MTabs.cons cReader_is_done (hr.mono (by decide)) MTabs.nil) (jc 1)))) (ji amm) jw)
   (ji (jm (ady (MTabs.cons cBegun_as_net (hr.mono (by decide)) MTabs.nil) (jo (ki T.ct (jc 1)) jg))))))))
def B_law_feed:FS:=
  (jq (kt true (jb (fCB (vy false) (jb (fSl false (jd 0) fNo (ko (fC (.da (.int 63))))) jf)) (jb (fC (.da (.int 0))) (jb (fC (.da (.int 0))) (jb (fC (.da (.int 0))) jf))))))
def abh:FF:=j7 1 B_law_feed
theorem aq0:abh [a0] s=(B_law_feed [some a0] s).bind j8:=rfl
theorem sc_law_feed:FnScope ["_law_script"] ["_law_script"] (jj agk):=⟨rfl,rfl,rfl,by decide+kernel,rfl,by decide+kernel,by decide+kernel⟩
theorem ok_law_feed(T:Txt0 K mg):CalF P w K mg base "_law_feed" 1 1 abh:=by
 exact vg (k:=0) T.h__law_feed sc_law_feed rfl rfl (fun f cdv A outer s H E hr=>
   (ji (jm (kf true (ja (k7 (zy false) T.n_list zw (ja (kr false (jc 0) vk (kn jg)) je)) (ja jg (ja jg (ja jg je))))))))
def B_law_draw:FS:=
  (jk (ac6 (fOp (kh false) (fOp gIx (jd 0) (fC (.da (.int 3)))) (fC (.da (.int 1)))) (jd 0) (fC (.da (.int 3))))
  (jk (j4 (jt (fOp gGt (fOp gIx (jd 0) (fC (.da (.int 2)))) (fC (.da (.int 0))))) (jk (kj 2 (fOp aa5 (fOp gIx (jd 0) (fC (.da (.int 2)))) (jd 1)))
  (jk (ac6 (fOp afs (fOp gIx (jd 0) (fC (.da (.int 2)))) (jd 1)) (jd 0) (fC (.da (.int 2))))
  (jq (jd 2)))) jy)
  (jk (kj 3 (fC (.da (.int 5))))
  (jk (j4 (jt (fOp gNe (fOp gIx (jd 0) (fC (.da (.int 0)))) (kt false jf))) (kj 3 (fOp gIx (fOp gIx (jd 0) (fC (.da (.int 0)))) (fOp aa5 (fOp gIx (jd 0) (fC (.da (.int 1)))) (fCB k0 (jb (fOp gIx (jd 0) (fC (.da (.int 0)))) jf))))) jy)
  (jk (ac6 (fOp (kh false) (fOp gIx (jd 0) (fC (.da (.int 1)))) (fC (.da (.int 1)))) (jd 0) (fC (.da (.int 1))))
  (jk (j4 (aao (jt (fOp gGe (jd 3) (fOp api (fC (.da (.int 10))) (fC (.da (.int 18)))))) (jt (fOp gLe (fOp gIx (jd 0) (fC (.da (.int 1)))) (fCB k0 (jb (fOp gIx (jd 0) (fC (.da (.int 0)))) jf))))) (jk (ac6 (fOp afs (jd 3) (jd 1)) (jd 0) (fC (.da (.int 2))))
  (jq (fOp aa5 (jd 3) (jd 1)))) jy)
  (jk (kj 4 (fOp aa5 (fOp ab8 (fOp (kh false) (fOp aa5 (jd 3) (fC (.da (.int 998244353)))) (fOp ab8 (fC (.da (.int 5003))) (fOp gIx (jd 0) (fC (.da (.int 3)))))) (fC (.da (.int 69621)))) (fC (.da (.int 2147483629)))))
  (jk (kj 4 (fOp aa5 (fOp ab8 (fOp (kh false) (fOp afs (jd 4) (fC (.da (.int 13)))) (fOp ab8 (fOp ab8 (fC (.da (.int 7919))) (fOp gIx (jd 0) (fC (.da (.int 3))))) (fOp gIx (jd 0) (fC (.da (.int 3)))))) (fC (.da (.int 48271)))) (fC (.da (.int 2147483587)))))
  (jq (fOp aa5 (fOp afs (jd 4) (fC (.da (.int 64)))) (jd 1)))))))))))
def jr:FF:=j7 5 B_law_draw
theorem apy:jr [a0,a1] s=(B_law_draw [some a0,some a1,none,none,none] s).bind j8:=rfl
theorem sc_law_draw:FnScope ["_law_feed_here","_law_many","_law_found","_law_cell","_law_mixed"] ["_law_feed_here","_law_many"] (jj agq):=⟨rfl,rfl,rfl,by decide+kernel,rfl,by decide+kernel,by decide+kernel⟩
theorem ok_law_draw(T:Txt0 K mg):CalF P w K mg base "_law_draw" 1 2 jr:=by
 exact vg (k:=0) T.h__law_draw sc_law_draw rfl rfl (fun f cdv A outer s H E hr=>
   (jh (aff (j6 (qh false) (jo (jc 0) jg) jg) (jc 0) jg)
   (jh (j3 (jx aqd (jo (jc 0) jg) jg) (jh (ke (i:=2) sc_law_draw.nd rfl (aM rfl) (j6 aem (jo (jc 0) jg) (jc 1)))
   (jh (aff (j6 al0 (jo (jc 0) jg) (jc 1)) (jc 0) jg)
   (ji (jm (jc 2))))) jw)
   (jh (ke (i:=3) sc_law_draw.nd rfl (aM rfl) jg)
   (jh (j3 (jx (aqo (u64 hr)) (jo (jc 0) jg) (kf false je)) (ji (ke (i:=3) sc_law_draw.nd rfl (aM rfl) (jo (jo (jc 0) jg) (j6 aem (jo (jc 0) jg) (j5 qx T.n_len qp (ja (jo (jc 0) jg) je)))))) jw)
   (jh (aff (j6 (qh false) (jo (jc 0) jg) jg) (jc 0) jg)
   (jh (j3 (RW.rt (adu (jx aua (jc 3) (j6 a5j jg jg)) (abo (jx aa6 (jo (jc 0) jg) (j5 qx T.n_len qp (ja (jo (jc 0) jg) je)))))) (jh (aff (j6 al0 (jc 3) (jc 1)) (jc 0) jg)
   (ji (jm (j6 aem (jc 3) (jc 1))))) jw)
   (jh (ke (i:=4) sc_law_draw.nd rfl (aM rfl) (j6 aem (j6 ahn (j6 (qh false) (j6 aem (jc 3) jg) (j6 ahn jg (jo (jc 0) jg))) jg) jg))
   (jh (ke (i:=4) sc_law_draw.nd rfl (aM rfl) (j6 aem (j6 ahn (j6 (qh false) (j6 al0 (jc 4) jg) (j6 ahn (j6 ahn jg (jo (jc 0) jg)) (jo (jc 0) jg))) jg) jg))
   (ji (jm (j6 aem (j6 al0 (jc 4) jg) (jc 1)))))))))))))
def B_law_shuffled:FS:=
  (jk (kj 2 (fCB (vy true) (jb (jd 1) jf)))
  (jk (kj 3 (kt true jf))
  (jk (ack (af0 (jb (fCB k0 (jb (jd 2) jf)) jf)) (.nm 4) (k6 (fMt j9 (jd 3) (jb (fMt ab0 (jd 2) (jb (jn 2 jr (jb (jd 0) (jb (fCB k0 (jb (jd 2) jf)) jf))) jf)) jf))))
  (jq (alj (jd 3))))))
def vb:FF:=j7 5 B_law_shuffled
theorem aih:vb [a0,a1] s=(B_law_shuffled [some a0,some a1,none,none,none] s).bind j8:=rfl
theorem sc_law_shuffled:FnScope ["_law_feed_here","_law_some","_law_left","_law_found","_law_k"] ["_law_feed_here","_law_some"] (jj acp):=⟨rfl,rfl,rfl,by decide+kernel,rfl,by decide+kernel,by decide+kernel⟩
theorem ok_law_shuffled(T:Txt0 K mg):CalF P w K mg base "_law_shuffled" 2 2 vb:=by
 have c_law_draw:=ok_law_draw (P:=P) (w:=w) (base:=base) T
 exact vg (k:=1) T.h__law_shuffled sc_law_shuffled rfl rfl (fun f cdv A outer s H E hr=>
   (jh (ke (i:=2) sc_law_shuffled.nd rfl (aM rfl) (k7 (zy true) T.n_list zw (ja (jc 1) je)))
   (jh (ke (i:=3) sc_law_shuffled.nd rfl (aM rfl) (kf true je))
   (jh (ada rfl (afb T.n_range (ja (j5 qx T.n_len qp (ja (jc 2) je)) je)) (kx (i:=4) sc_law_shuffled.nd rfl (aM rfl)) (ji (vc (xc aK aL qz (jc 3) (ja (xc eL eM axz (jc 2) (ja (jz c_law_draw (hr.mono (by decide)) (ja (jc 0) (ja (j5 qx T.n_len qp (ja (jc 2) je)) je))) je)) je)))))
   (ji (jm (atb (jc 3))))))))
def B_law_ports:FS:=
  (jk (kj 2 (kt true (jb (kt false (fVs (cj D.da [.str "a",.str "b",.str "c",.str "d",.str "e",.str "f",.str "g",.str "h"]))) (jb (kt false (fVs (cj D.da [.str "net",.str "end",.str "within",.str "place",.str "last",.str "to",.str "a",.str "table"]))) jf))))
  (jk (k6 (fMt j9 (jd 2) (jb (kt false (fVs (cj D.da [.str "a",.str "ab",.str "abc",.str "abcd",.str "b",.str "ba",.str "abcdefgh",.str "abcdefgi"]))) jf)))
  (jk (k6 (fMt j9 (jd 2) (jb (kt false (fVs (cj D.da [.str "zzzzzzzz",.str "z",.str "zz",.str "y",.str "only",.str "onlya",.str "copy",.str "aa"]))) jf)))
  (jk (kj 3 (fOp gIx (jd 2) (jn 2 jr (jb (jd 0) (jb (fC (.da (.int 4))) jf)))))
  (jk (kj 4 (jn 2 jr (jb (jd 0) (jb (fC (.da (.int 8))) jf))))
  (jq (fSl false (fOp (kh false) (fSl false (jd 3) (ko (jd 4)) fNo) (fSl false (jd 3) fNo (ko (jd 4)))) fNo (ko (jd 1)))))))))
def yz:FF:=j7 5 B_law_ports
theorem ani:yz [a0,a1] s=(B_law_ports [some a0,some a1,none,none,none] s).bind j8:=rfl
theorem sc_law_ports:FnScope ["_law_feed_here","_law_many","_law_pools","_law_pool","_law_turn"] ["_law_feed_here","_law_many"] (jj afa):=⟨rfl,rfl,rfl,by decide+kernel,rfl,by decide+kernel,by decide+kernel⟩
theorem ok_law_ports(T:Txt0 K mg):CalF P w K mg base "_law_ports" 2 2 yz:=by
 have c_law_draw:=ok_law_draw (P:=P) (w:=w) (base:=base) T
 exact vg (k:=1) T.h__law_ports sc_law_ports rfl rfl (fun f cdv A outer s H E hr=>
   (jh (ke (i:=2) sc_law_ports.nd rfl (aM rfl) (kf true (ja (kf false (xz rfl)) (ja (kf false (xz rfl)) je))))
   (jh (vc (xc aK aL qz (jc 2) (ja (kf false (xz rfl)) je)))
   (jh (vc (xc aK aL qz (jc 2) (ja (kf false (xz rfl)) je)))
   (jh (ke (i:=3) sc_law_ports.nd rfl (aM rfl) (jo (jc 2) (jz c_law_draw (hr.mono (by decide)) (ja (jc 0) (ja jg je)))))
   (jh (ke (i:=4) sc_law_ports.nd rfl (aM rfl) (jz c_law_draw (hr.mono (by decide)) (ja (jc 0) (ja jg je))))
   (ji (jm (kr false (j6 (qh false) (kr false (jc 3) (kn (jc 4)) vk) (kr false (jc 3) vk (kn (jc 4)))) vk (kn (jc 1)))))))))))
def B_law_part:FS:=
  (jk (kj 3 (jn 2 vb (jb (jd 0) (jb (jd 2) jf))))
  (jk (kj 4 (fOp gIx (kt false (fVs (cj D.da [.str "both",.str "loose",.str "place",.str "last",.str "drain",.str "either",.str "only",.str "copy",.str "merge",.str "place"]))) (jn 2 jr (jb (jd 0) (jb (fC (.da (.int 10))) jf)))))
  (jk (j4 (jt (fOp gIn (jd 4) (qv (fVs (cj D.da [.str "copy",.str "merge"]))))) (jk (kj 5 (fCB qb (jb (fSl false (jd 3) (ko (fC (.da (.int 1)))) (ko (fOp (kh false) (fC (.da (.int 2))) (jn 2 jr (jb (jd 0) (jb (fCB ah6 (jb (fC (.da (.int 4))) (jb (fOp ad3 (fCB k0 (jb (jd 3) jf)) (fC (.da (.int 1)))) jf))) jf)))))) jf)))
  (jq (fIf (jt (fOp gEq (jd 4) (fC (.da (.str "copy"))))) (qv (jb (jd 4) (jb (fOp gIx (jd 3) (fC (.da (.int 0)))) (jb (jd 5) jf)))) (qv (jb (jd 4) (jb (jd 5) (jb (fOp gIx (jd 3) (fC (.da (.int 0)))) jf))))))) jy)
  (jk (j4 (jt (fOp gIn (jd 4) (qv (fVs (cj D.da [.str "place",.str "last"]))))) (jq (qv (jb (jd 4) (jb (fOp gIx (jd 3) (fC (.da (.int 0)))) (jb (fOp gIx (jd 3) (fC (.da (.int 1)))) (jb (fOp gIx (kt false (jb (fC (.da (.none))) (jb (fC (.da (.none))) (jb (fC (.da (.int 0))) (jb (fOp ad3 (jd 1) (fC (.da (.int 1)))) jf))))) (jn 2 jr (jb (jd 0) (jb (fC (.da (.int 4))) jf)))) jf)))))) jy)
  (jk (j4 (jt (fOp gEq (jd 4) (fC (.da (.str "only"))))) (jq (qv (jb (jd 4) (jb (fOp gIx (jd 3) (fC (.da (.int 0)))) (jb (fOp gIx (jd 3) (fC (.da (.int 1)))) (jb (fCB qb (jb (fLc false [0] 1 (af0 (jb (jd 1) jf)) (.nm 0) (jt (fOp gGt (jn 2 jr (jb (jd 1) (jb (fC (.da (.int 3))) jf))) (fC (.da (.int 0))))) (jd 0)) jf)) jf)))))) jy)
  (jq (qv (jb (jd 4) (jb (fOp gIx (jd 3) (fC (.da (.int 0)))) (jb (fOp gIx (jd 3) (fC (.da (.int 1)))) jf))))))))))
def zv:FF:=j7 6 B_law_part
theorem apd{a2:D}:zv [a0,a1,a2] s=(B_law_part [some a0,some a1,some a2,none,none,none] s).bind j8:=rfl
theorem sc_law_part:FnScope ["_law_feed_here","_law_things","_law_ports_here","_law_some","_law_word","_law_many"] ["_law_feed_here","_law_things","_law_ports_here"] (jj agj):=⟨rfl,rfl,rfl,by decide+kernel,rfl,by decide+kernel,by decide+kernel⟩
theorem ok_law_part(T:Txt0 K mg):CalF P w K mg base "_law_part" 3 3 zv:=by
 have c_law_draw:=ok_law_draw (P:=P) (w:=w) (base:=base) T
 have c_law_shuffled:=ok_law_shuffled (P:=P) (w:=w) (base:=base) T
 exact vg (k:=2) T.h__law_part sc_law_part rfl rfl (fun f cdv A outer s H E hr=>
   (jh (ke (i:=3) sc_law_part.nd rfl (aM rfl) (jz c_law_shuffled (hr.mono (by decide)) (ja (jc 0) (ja (jc 2) je))))
   (jh (ke (i:=4) sc_law_part.nd rfl (aM rfl) (jo (kf false (xz rfl)) (jz c_law_draw (hr.mono (by decide)) (ja (jc 0) (ja jg je)))))
   (jh (j3 (jx (ail (u65 hr)) (jc 4) (kl (xz rfl))) (jh (ke (i:=5) sc_law_part.nd rfl (aM rfl) (k7 vq T.n_tuple qu (ja (kr false (jc 3) (kn jg) (kn (j6 (qh false) jg (jz c_law_draw (hr.mono (by decide)) (ja (jc 0) (ja (j5 (axn rfl) T.n_min ax6 (ja jg (ja (j6 aq8 (j5 qx T.n_len qp (ja (jc 3) je)) jg) je))) je)))))) je)))
   (ji (jm (akp (jx (qo (u64 hr)) (jc 4) jv) (kl (ja (jc 4) (ja (jo (jc 3) jg) (ja (jc 5) je)))) (kl (ja (jc 4) (ja (jc 5) (ja (jo (jc 3) jg) je)))))))) jw)
   (jh (j3 (jx (ail (u65 hr)) (jc 4) (kl (xz rfl))) (ji (jm (kl (ja (jc 4) (ja (jo (jc 3) jg) (ja (jo (jc 3) jg) (ja (jo (kf false (ja adp (ja adp (ja jg (ja (j6 aq8 (jc 1) jg) je))))) (jz c_law_draw (hr.mono (by decide)) (ja (jc 0) (ja jg je)))) je))))))) jw)
   (jh (j3 (jx (qo (u64 hr)) (jc 4) jv) (ji (jm (kl (ja (jc 4) (ja (jo (jc 3) jg) (ja (jo (jc 3) jg) (ja (k7 vq T.n_tuple qu (ja (acx false (own:=["_law_one"]) (caps:=["_law_feed_here"]) (js:=[0]) rfl rfl rfl rfl rfl (⟨⟨rfl,cr (aM rfl),rfl,rfl⟩,trivial⟩) rfl (afb T.n_range (ja (jc 1) je)) (fun _ _ _ _=> (kx (i:=0) (show (["_law_one","_law_feed_here"]:List Str).Nodup by decide+kernel) rfl (aM rfl) (cr rfl))) (fun _ _ _ _=> (avf (jx aqd (jz c_law_draw (hr.mono (by decide)) (ja (jc 1) (ja jg je))) jg))) (fun _ _ _ _=> (jc 0))) je)) je))))))) jw)
   (ji (jm (kl (ja (jc 4) (ja (jo (jc 3) jg) (ja (jo (jc 3) jg) je))))))))))))
def B_law_nest(v3:FF):FS:=
  (jk (kj 4 (jn 2 yz (jb (jd 0) (jb (fOp (kh false) (fCB aix (jb (fC (.da (.int 2))) (jb (jd 3) jf))) (jn 2 jr (jb (jd 0) (jb (fC (.da (.int 3))) jf)))) jf))))
  (jk (kj 5 (kt true jf))
  (jk (ack (af0 (jb (jn 2 jr (jb (jd 0) (jb (fC (.da (.int 4))) jf))) jf)) (.nm 6) (j4 (aao (jt (fOp gGt (jd 1) (fC (.da (.int 1))))) (jt (fOp gEq (jn 2 jr (jb (jd 0) (jb (fC (.da (.int 2))) jf))) (fC (.da (.int 0)))))) (jk (kj 7 (fSl false (jn 2 vb (jb (jd 0) (jb (jd 4) jf))) fNo (ko (jn 2 jr (jb (jd 0) (jb (fOp (kh false) (fCB ah6 (jb (fC (.da (.int 3))) (jb (fCB k0 (jb (jd 4) jf)) jf))) (fC (.da (.int 1)))) jf))))))
  (k6 (fMt j9 (jd 5) (jb (qv (jb (fC (.da (.str "net"))) (jb (jn 4 v3 (jb (jd 0) (jb (fOp ad3 (jd 1) (fC (.da (.int 1)))) (jb (jd 2) (jb (fCB k0 (jb (jd 7) jf)) jf))))) (jb (fCB qb (jb (jd 7) jf)) jf)))) jf)))) (k6 (fMt j9 (jd 5) (jb (jn 3 zv (jb (jd 0) (jb (jd 2) (jb (jd 4) jf)))) jf)))))
  (jq (qv (jb (jd 2) (jb (fCB qb (jb (fSl false (jn 2 vb (jb (jd 0) (jb (jd 4) jf))) fNo (ko (jd 3))) jf)) (jb (fCB qb (jb (jd 5) jf)) jf))))))))
def v3:Nat -> FF
 |0=> amp
 |n+1=> j7 8 (B_law_nest (v3 n))
theorem sc_law_nest:FnScope ["_law_feed_here","_law_deep","_law_things","_law_seen","_law_ports_here","_law_parts","_law_k","_law_told"] ["_law_feed_here","_law_deep","_law_things","_law_seen"] (jj agr):=⟨rfl,rfl,rfl,by decide+kernel,rfl,by decide+kernel,by decide+kernel⟩
theorem ok_law_nest(T:Txt0 K mg): ∀n:Nat,CalF P w K mg base "_law_nest" (4+n) 4 (v3 n)
 |0=> (agd (k:=3) T.h__law_nest sc_law_nest rfl)
 | n+1=> by
  have c_law_draw:=ok_law_draw (P:=P) (w:=w) (base:=base) T
  have c_law_shuffled:=ok_law_shuffled (P:=P) (w:=w) (base:=base) T
  have c_law_ports:=ok_law_ports (P:=P) (w:=w) (base:=base) T
  have c_law_part:=ok_law_part (P:=P) (w:=w) (base:=base) T
  have ih:=ok_law_nest T n
  exact vg (k:=4+n) T.h__law_nest sc_law_nest rfl rfl (fun f cdv A outer s H E hr=>
   (jh (ke (i:=4) sc_law_nest.nd rfl (aM rfl) (jz c_law_ports (hr.mono (by lia)) (ja (jc 0) (ja (j6 (qh false) (j5 (a5w rfl) T.n_max a5s (ja jg (ja (jc 3) je))) (jz c_law_draw (hr.mono (by lia)) (ja (jc 0) (ja jg je)))) je))))
   (jh (ke (i:=5) sc_law_nest.nd rfl (aM rfl) (kf true je))
   (jh (ada rfl (afb T.n_range (ja (jz c_law_draw (hr.mono (by lia)) (ja (jc 0) (ja jg je))) je)) (kx (i:=6) sc_law_nest.nd rfl (aM rfl)) (ji (j3 (RW.rt (adu (jx aqd (jc 1) jg) (abo (jx (qo (u64 hr)) (jz c_law_draw (hr.mono (by lia)) (ja (jc 0) (ja jg je))) jg)))) (jh (ke (i:=7) sc_law_nest.nd rfl (aM rfl) (kr false (jz c_law_shuffled (hr.mono (by lia)) (ja (jc 0) (ja (jc 4) je))) vk (kn (jz c_law_draw (hr.mono (by lia)) (ja (jc 0) (ja (j6 (qh false) (j5 (axn rfl) T.n_min ax6 (ja jg (ja (j5 qx T.n_len qp (ja (jc 4) je)) je))) jg) je))))))
   (ji (vc (xc aK aL qz (jc 5) (ja (kl (ja jv (ja (jz ih (hr.mono (by lia)) (ja (jc 0) (ja (j6 aq8 (jc 1) jg) (ja (jc 2) (ja (j5 qx T.n_len qp (ja (jc 7) je)) je))))) (ja (k7 vq T.n_tuple qu (ja (jc 7) je)) je)))) je))))) (ji (vc (xc aK aL qz (jc 5) (ja (jz c_law_part (hr.mono (by lia)) (ja (jc 0) (ja (jc 2) (ja (jc 4) je)))) je)))))))
   (ji (jm (kl (ja (jc 2) (ja (k7 vq T.n_tuple qu (ja (kr false (jz c_law_shuffled (hr.mono (by lia)) (ja (jc 0) (ja (jc 4) je))) vk (kn (jc 3))) je)) (ja (k7 vq T.n_tuple qu (ja (jc 5) je)) je))))))))))
def B_law_lines(ky:FF):FS:=
  (jk (kj 1 (kt true (jb (fMs xm (fC (.da (.str " "))) (jb (fOp (kh false) (kt false (jb (fC (.da (.str "net"))) (jb (fCB aa7 (jb (fOp gIx (jd 0) (fC (.da (.int 0)))) jf)) jf))) (fCB (vy false) (jb (fOp gIx (jd 0) (fC (.da (.int 1)))) jf))) jf)) jf)))
  (jk (ack (fIt (fOp gIx (jd 0) (fC (.da (.int 2))))) (.nm 2) (j4 (jt (fOp gEq (fOp gIx (jd 2) (fC (.da (.int 0)))) (fC (.da (.str "net"))))) (jk (k6 (fMt j9 (jd 1) (jb (fMs xm (fC (.da (.str " "))) (jb (fOp (kh false) (kt false (jb (fC (.da (.str "within"))) jf)) (fCB (vy false) (jb (fOp gIx (jd 2) (fC (.da (.int 2)))) jf))) jf)) jf)))
  (jk (k6 (fMt aaj (jd 1) (jb (jn 1 ky (jb (fOp gIx (jd 2) (fC (.da (.int 1)))) jf)) jf)))
  (k6 (fMt j9 (jd 1) (jb (fC (.da (.str "end"))) jf))))) (j4 (jt (fOp gEq (fOp gIx (jd 2) (fC (.da (.int 0)))) (fC (.da (.str "copy"))))) (k6 (fMt j9 (jd 1) (jb (fMs xm (fC (.da (.str " "))) (jb (fOp (kh false) (kt false (jb (fC (.da (.str "copy"))) (jb (fOp gIx (jd 2) (fC (.da (.int 1)))) jf))) (fCB (vy false) (jb (fOp gIx (jd 2) (fC (.da (.int 2)))) jf))) jf)) jf))) (j4 (jt (fOp gEq (fOp gIx (jd 2) (fC (.da (.int 0)))) (fC (.da (.str "merge"))))) (k6 (fMt j9 (jd 1) (jb (fMs xm (fC (.da (.str " "))) (jb (fOp (kh false) (fOp (kh false) (kt false (jb (fC (.da (.str "merge"))) jf)) (fCB (vy false) (jb (fOp gIx (jd 2) (fC (.da (.int 1)))) jf))) (kt false (jb (fOp gIx (jd 2) (fC (.da (.int 2)))) jf))) jf)) jf))) (jk (kj 3 (fSl false (jd 2) (ko (fC (.da (.int 3)))) fNo))
  (jk (j4 (jt (fOp gEq (fOp gIx (jd 2) (fC (.da (.int 0)))) (fC (.da (.str "only"))))) (kj 3 (fOp gIx (jd 2) (fC (.da (.int 3))))) jy)
  (jk (kj 4 (fLc false [] 1 (fIt (jd 3)) (.nm 0) zn (fIf (jt (fOp gIs (jd 0) (fC (.da (.none))))) (fC (.da (.str "-"))) (fCB aa7 (jb (jd 0) jf)))))
  (k6 (fMt j9 (jd 1) (jb (fMs xm (fC (.da (.str " "))) (jb (fOp (kh false) (fCB (vy false) (jb (fSl false (jd 2) fNo (ko (fC (.da (.int 3))))) jf)) (jd 4)) jf)) jf))))))))))
  (jq (alj (jd 1)))))
def ky:Nat -> FF
 |0=> amp
 |n+1=> j7 5 (B_law_lines (ky n))
theorem anj:ky (n+1) [a0] s=(B_law_lines (ky n) [some a0,none,none,none,none] s).bind j8:=rfl
theorem sc_law_lines:FnScope ["_law_net","_law_told","_law_part_here","_law_more","_law_words"] ["_law_net"] (jj afu):=⟨rfl,rfl,rfl,by decide+kernel,rfl,by decide+kernel,by decide+kernel⟩
theorem ok_law_lines(T:Txt0 K mg): ∀n:Nat,CalF P w K mg base "_law_lines" (1+n) 1 (ky n)
 |0=> (agd (k:=0) T.h__law_lines sc_law_lines rfl)
 | n+1=> by
  have ih:=ok_law_lines T n
  exact vg (k:=1+n) T.h__law_lines sc_law_lines rfl rfl (fun f cdv A outer s H E hr=>
   (jh (ke (i:=1) sc_law_lines.nd rfl (aM rfl) (kf true (ja (abm bJ bK ab3 jv (ja (j6 (qh false) (kf false (ja jv (ja (k7 ahg T.n_str agb (ja (jo (jc 0) jg) je)) je))) (k7 (zy false) T.n_list zw (ja (jo (jc 0) jg) je))) je)) je)))
   (jh (ada rfl (acl (jo (jc 0) jg)) (kx (i:=2) sc_law_lines.nd rfl (aM rfl)) (ji (j3 (jx (qo (u64 hr)) (jo (jc 2) jg) jv) (jh (vc (xc aK aL qz (jc 1) (ja (abm bJ bK ab3 jv (ja (j6 (qh false) (kf false (ja jv je)) (k7 (zy false) T.n_list zw (ja (jo (jc 2) jg) je))) je)) je)))
   (jh (vc (xc gc gf am6 (jc 1) (ja (jz ih (hr.mono (by lia)) (ja (jo (jc 2) jg) je)) je)))
   (ji (vc (xc aK aL qz (jc 1) (ja jv je)))))) (ji (j3 (jx (qo (u64 hr)) (jo (jc 2) jg) jv) (ji (vc (xc aK aL qz (jc 1) (ja (abm bJ bK ab3 jv (ja (j6 (qh false) (kf false (ja jv (ja (jo (jc 2) jg) je))) (k7 (zy false) T.n_list zw (ja (jo (jc 2) jg) je))) je)) je)))) (ji (j3 (jx (qo (u64 hr)) (jo (jc 2) jg) jv) (ji (vc (xc aK aL qz (jc 1) (ja (abm bJ bK ab3 jv (ja (j6 (qh false) (j6 (qh false) (kf false (ja jv je)) (k7 (zy false) T.n_list zw (ja (jo (jc 2) jg) je))) (kf false (ja (jo (jc 2) jg) je))) je)) je)))) (jh (ke (i:=3) sc_law_lines.nd rfl (aM rfl) (kr false (jc 2) (kn jg) vk))
   (jh (j3 (jx (qo (u64 hr)) (jo (jc 2) jg) jv) (ji (ke (i:=3) sc_law_lines.nd rfl (aM rfl) (jo (jc 2) jg))) jw)
   (jh (amj false (own:=["_law_one"]) (caps:=[]) (js:=[]) (i:=4) rfl sc_law_lines.nd rfl rfl rfl rfl rfl rfl rfl (trivial) rfl (acl (jc 3)) (fun _ _ _ _=> (kx (i:=0) (show (["_law_one"]:List Str).Nodup by decide+kernel) rfl (aM rfl) (cr rfl))) (fun _ _ _ _=> x8) (fun _ _ _ _=> (akp (jx auq (jc 0) adp) jv (k7 ahg T.n_str agb (ja (jc 0) je)))))
   (ji (vc (xc aK aL qz (jc 1) (ja (abm bJ bK ab3 jv (ja (j6 (qh false) (k7 (zy false) T.n_list zw (ja (kr false (jc 2) vk (kn jg)) je)) (jc 4)) je)) je))))))))))))))
   (ji (jm (atb (jc 1)))))))
def B_law_wide:FS:=
  (jk (kj 1 (fLc false [] 1 (af0 (jb (fOp (kh false) (fC (.da (.int 10))) (jn 2 jr (jb (jd 0) (jb (fC (.da (.int 3))) jf)))) jf)) (.nm 0) zn (fOp (kh false) (fC (.da (.str "p"))) (fOp gIx (fC (.da (.str "abcdefghijkl"))) (jd 0)))))
  (jk (kj 2 (qv (jb (qv (jb (fC (.da (.str "copy"))) (jb (fC (.da (.str "end"))) (jb (fCB qb (jb (jd 1) jf)) jf)))) (jb (qv (jb (fC (.da (.str "merge"))) (jb (fCB qb (jb (jd 1) jf)) (jb (fC (.da (.str "net"))) jf)))) (jb (qv (jb (fC (.da (.str "only"))) (jb (fC (.da (.str "pa"))) (jb (fC (.da (.str "pb"))) (jb (qv jf) jf))))) jf)))))
  (jq (qv (jb (fC (.da (.int 3))) (jb (qv (fVs (cj D.da [.str "net",.str "end",.str "pa",.str "pb",.str "pc",.str "pd"]))) (jb (fSl false (jd 2) (ko (jn 2 jr (jb (jd 0) (jb (fC (.da (.int 3))) jf)))) fNo) jf)))))))
def abl:FF:=j7 3 B_law_wide
theorem aqn:abl [a0] s=(B_law_wide [some a0,none,none] s).bind j8:=rfl
theorem sc_law_wide:FnScope ["_law_feed_here","_law_some","_law_parts"] ["_law_feed_here"] (jj agn):=⟨rfl,rfl,rfl,by decide+kernel,rfl,by decide+kernel,by decide+kernel⟩
theorem ok_law_wide(T:Txt0 K mg):CalF P w K mg base "_law_wide" 2 1 abl:=by
 have c_law_draw:=ok_law_draw (P:=P) (w:=w) (base:=base) T
 exact vg (k:=1) T.h__law_wide sc_law_wide rfl rfl (fun f cdv A outer s H E hr=>
   (jh (amj false (own:=["_law_k"]) (caps:=[]) (js:=[]) (i:=1) rfl sc_law_wide.nd rfl rfl rfl rfl rfl rfl rfl (trivial) rfl (afb T.n_range (ja (j6 (qh false) jg (jz c_law_draw (hr.mono (by decide)) (ja (jc 0) (ja jg je)))) je)) (fun _ _ _ _=> (kx (i:=0) (show (["_law_k"]:List Str).Nodup by decide+kernel) rfl (aM rfl) (cr rfl))) (fun _ _ _ _=> x8) (fun _ _ _ _=> (j6 (qh false) jv (jo jv (jc 0)))))
   (jh (ke (i:=2) sc_law_wide.nd rfl (aM rfl) (kl (ja (kl (ja jv (ja jv (ja (k7 vq T.n_tuple qu (ja (jc 1) je)) je)))) (ja (kl (ja jv (ja (k7 vq T.n_tuple qu (ja (jc 1) je)) (ja jv je)))) (ja (kl (ja jv (ja jv (ja jv (ja (kl je) je))))) je)))))
   (ji (jm (kl (ja jg (ja (kl (xz rfl)) (ja (kr false (jc 2) (kn (jz c_law_draw (hr.mono (by decide)) (ja (jc 0) (ja jg je)))) vk) je)))))))))
def B_law_right:FS:=
  (jk (kj 1 (fCB zo (jb (jd 0) jf)))
  (jk (kj 2 (jn 1 (qg 8) (jb (jd 0) jf)))
  (jk (j4 (y9 (jt (fOp gNe (fCB zo (jb (jd 2) jf)) (fCB zo (jb (jn 1 (ky 8) (jb (jd 0) jf)) jf)))) (jt (fOp gNe (fCB zo (jb (jn 1 acq (jb (jd 2) jf)) jf)) (jd 1)))) (jq (fC (.da (.bool false)))) jy)
  (jk (k6 (fMt j9 (jd 2) (jb (fC (.da (.str "both a b"))) jf)))
  (jk (ac6 (fC (.da (.str "net 1"))) (jd 2) (fC (.da (.int 0))))
  (jq (abw (fOp gEq (fCB zo (jb (jn 1 (qg 8) (jb (jd 0) jf)) jf)) (fCB zo (jb (jn 1 (ky 8) (jb (jd 0) jf)) jf))) (fOp gEq (fCB zo (jb (jd 0) jf)) (jd 1)))))))))
def xp:FF:=j7 3 B_law_right
theorem ana:xp [a0] s=(B_law_right [some a0,none,none] s).bind j8:=rfl
theorem sc_law_right:FnScope ["_law_net","_law_kept","_law_told"] ["_law_net"] (jj af9):=⟨rfl,rfl,rfl,by decide+kernel,rfl,by decide+kernel,by decide+kernel⟩
theorem ok_law_right(T:Txt0 K mg):CalF P w K mg base "_law_right" 11 1 xp:=by
 have cnet_lines:=ane (P:=P) (w:=w) (base:=base) T 8
 have cread_net:=apk (P:=P) (w:=w) (base:=base) T
 have c_law_lines:=ok_law_lines (P:=P) (w:=w) (base:=base) T 8
 exact vg (k:=10) T.h__law_right sc_law_right rfl rfl (fun f cdv A outer s H E hr=>
   (jh (ke (i:=1) sc_law_right.nd rfl (aM rfl) (j5 (acm hr) T.n_repr ach (ja (jc 0) je)))
   (jh (ke (i:=2) sc_law_right.nd rfl (aM rfl) (jz cnet_lines (hr.mono (by decide)) (ja (jc 0) je)))
   (jh (j3 (RW.rt (y4 (jx (aqo (u64 hr)) (j5 (acm hr) T.n_repr ach (ja (jc 2) je)) (j5 (acm hr) T.n_repr ach (ja (jz c_law_lines (hr.mono (by decide)) (ja (jc 0) je)) je))) (yp (jx (aqo (u64 hr)) (j5 (acm hr) T.n_repr ach (ja (jz cread_net (hr.mono (by decide)) (ja (jc 2) je)) je)) (jc 1))))) (ji (jm vm)) jw)
   (jh (vc (xc aK aL qz (jc 2) (ja jv je)))
   (jh (aff jv (jc 2) jg)
   (ji (jm (zq (xw (qo (u64 hr)) (j5 (acm hr) T.n_repr ach (ja (jz cnet_lines (hr.mono (by decide)) (ja (jc 0) je)) je)) (j5 (acm hr) T.n_repr ach (ja (jz c_law_lines (hr.mono (by decide)) (ja (jc 0) je)) je))) (yy (xw (qo (u64 hr)) (j5 (acm hr) T.n_repr ach (ja (jc 0) je)) (jc 1))))))))))))
def Blaw:FS:=
  (jk (kj 1 (jn 1 abh (jb (jd 0) jf)))
  (jk (j4 (y9 (ku (vo (jn 1 xp (jb (qv (jb (fC (.da (.int 1))) (jb (qv jf) (jb (qv jf) jf)))) jf)))) (ku (vo (jn 1 xp (jb (jn 1 abl (jb (jd 1) jf)) jf))))) (jq (fC (.da (.bool false)))) jy)
  (jk (ack (af0 (jb (fC (.da (.int 4))) jf)) (.nm 2) (j4 (ku (vo (jn 1 xp (jb (jn 4 (v3 8) (jb (jd 1) (jb (fOp (kh false) (fC (.da (.int 1))) (jn 2 jr (jb (jd 1) (jb (fC (.da (.int 4))) jf)))) (jb (fOp (kh false) (fC (.da (.int 1))) (jn 2 jr (jb (jd 1) (jb (fC (.da (.int 3))) jf)))) (jb (jn 2 jr (jb (jd 1) (jb (fC (.da (.int 4))) jf))) jf))))) jf)))) (jq (fC (.da (.bool false)))) jy))
  (jq (fC (.da (.bool true)))))))
def aup:FF:=j7 3 Blaw
theorem a68:aup [a0] s=(Blaw [some a0,none,none] s).bind j8:=rfl
theorem sclaw:FnScope ["_law_script","_law_feed_here","_law_k"] ["_law_script"] (jj aav):=⟨rfl,rfl,rfl,by decide+kernel,rfl,by decide+kernel,by decide+kernel⟩
end Ln
local macro_rules | `(tactic| walk_at "ev") => do
  let ns := "PF.a3i PF.aze PF.a5q PF.a18 PF.ay2 PF.a16 PF.a0g PF.ayh PF.a1j PF.a0r PF.axr PF.ayw PF.a9v PF.a9i PF.a9k PF.a8w PF.a7l PF.a6l PF.a6m PF.a7i PF.a74 PF.a7j PF.a7g PF.a77 PF.ba0 PF.a8z PF.a9c PF.e_c PF.a8d PF.a8e PF.a8i PF.a80 PF.a8a PF.a8f PF.a8h PF.awo PF.a7y PF.a8v PF.a94 PF.a8b PF.a8n PF.a83 PF.a7d PF.awp PF.a9d PF.axl PF.a93 PF.a9p PF.a85 PF.a8q PF.a8s PF.ao8 PF.a8t PF.a90 PF.a8l PF.a76 PF.a7n PF.a86 PF.a7a PF.a8x PF.a9r PF.a8p PF.a87 PF.a9b PF.a7b PF.a6t PF.a6p PF.a6e PF.a6y PF.a92 PF.a9x PF.a7v PF.a7c PF.aj5 PF.a9n PF.a9g PF.ba6 PF.a9w PF.a9l PF.a9s PF.a9z PF.ba1 PF.ba4 PF.a9q PF.a9t PF.ba2 PF.a95 PF.a99 PF.a9f PF.a9u PF.a81 PF.a7k PF.a9j PF.a7w PF.a9e PF.a7u PF.a9y PF.a7x PF.a7p PF.a7t PF.a7f PF.a78 PF.a75 PF.a79 PF.a7e PF.a65 PF.a6n PF.a5y PF.a5x PF.a72 PF.a7h PF.a7r PF.arz PF.a8c PF.a82 PF.a7m PF.a7q PF.a7o PF.a63 PF.a6z PF.a6v PF.a9o PF.a97 PF.a98 PF.a96 PF.a9a PF.a8j PF.ba5 PF.a8u PF.a88 PF.a8y PF.ayy PF.ayt PF.anu PF.aos PF.ba3 PF.a8r PF.auc PF.amt PF.amn PF.amf PF.R.bind_ok' PF.R.W_ok' PF.R.Wk_app PF.a89 PF.a84 PF.a8k PF.a8g PF.a8m PF.a7z PF.ag6 Bool.not_true Bool.not_false decide_true decide_false Bool.and_true Bool.and_false Bool.true_and Bool.false_and List.length_append List.length_cons List.length_nil List.append_assoc List.cons_append List.nil_append Nat.zero_add Nat.reduceAdd PF.a91 PF.a9m PF.a9h PF.a7s PF.a73 Nat.reduceLeDiff PF.it0 PF.il0 PF.it1 PF.il1 PF.it2 PF.il2 PF.it3 PF.il3 if_true if_false Bool.false_eq_true".splitOn " "
  let ids : Array (Lean.TSyntax `term) := ns.toArray.map fun n => io n.toName
  `(tactic| try simp only [$[$ids:term],*])
local macro_rules | `(tactic| walk_at "go") => `(tactic| (walk_at "ev"; (try simp only [PF.a3i, PF.aze, PF.a5q, PF.a18, PF.ay2, PF.a16, PF.a0g, PF.ayh, PF.a1j, PF.a0r, PF.axr, PF.ayw, PF.R.W_bindk])))
namespace Ln
open PySem L2 PF
section
variable{s:S}{n:Nat}{a b c d v:D}
theorem ix4(k:Nat){ds:List D}{x:D}(hl:n < s.length)(h:ds[k]?=some x):gIx (.ref n) (.int (k:Int)) (s.set n (.lst ds))=.ok x (s.set n (.lst ds)):=aik (aE hl) h
theorem st4(k:Nat){ds:List D}(hl:n < s.length)(h:k < ds.length):aad (.ref n) (.int (k:Int)) v (s.set n (.lst ds))=.ok .non (s.set n (.lst (ds.set k v))):=by
 rw [ala (aE hl) h,List.set_set]
theorem ix0(hl:n < s.length):gIx (.ref n) (.int 0) (s.set n (.lst [a,b,c,d]))=.ok a (s.set n (.lst [a,b,c,d])):=ix4 0 hl rfl
theorem ix1(hl:n < s.length):gIx (.ref n) (.int 1) (s.set n (.lst [a,b,c,d]))=.ok b (s.set n (.lst [a,b,c,d])):=ix4 1 hl rfl
theorem ix2(hl:n < s.length):gIx (.ref n) (.int 2) (s.set n (.lst [a,b,c,d]))=.ok c (s.set n (.lst [a,b,c,d])):=ix4 2 hl rfl
theorem ix3(hl:n < s.length):gIx (.ref n) (.int 3) (s.set n (.lst [a,b,c,d]))=.ok d (s.set n (.lst [a,b,c,d])):=ix4 3 hl rfl
theorem st1(hl:n < s.length):aad (.ref n) (.int 1) v (s.set n (.lst [a,b,c,d]))=.ok .non (s.set n (.lst [a,v,c,d])):=st4 1 hl (by simp)
theorem st2(hl:n < s.length):aad (.ref n) (.int 2) v (s.set n (.lst [a,b,c,d]))=.ok .non (s.set n (.lst [a,b,v,d])):=st4 2 hl (by simp)
theorem st3(hl:n < s.length):aad (.ref n) (.int 3) v (s.set n (.lst [a,b,c,d]))=.ok .non (s.set n (.lst [a,b,c,v])):=st4 3 hl (by simp)
end
structure Fd (s:S) (n c:Nat):Prop where
 ex: ∃(xs:List Int) (i j k:Int),s[n]?=some (.lst [.lst (xs.map aP),.int i,.int j,.int k])/\xs.length <=63/\0 <=i/\0 <=k/\k <=c
theorem Fd.lt(h:Fd s n c):n < s.length:=by
 obtain⟨xs,i,j,k,e,_⟩:=h.ex
 exact (aq.mp e).1
theorem afk{xs:List Int}{j k:Int}(hl:n < s.length)(hx:xs.length <=63)(hi:0 <=i)(hk:0 <=k)(hc:k <=c):Fd (s.set n (.lst [.lst (xs.map aP),.int i,.int j,.int k])) n c:=⟨xs,i,j,k,aE hl,hx,hi,hk,hc⟩
theorem a08(xs:List ag):aJ (.list xs) (.list [])=xs.isEmpty:=by cases xs <;> rfl
theorem alm: ∀xs:List Int,bw (xs.map aP)=true
 |[]=> rfl
 |x::r=> by simp only [aA,bw,cN,alm r,eC]
theorem ai7: ∀xs:List Int,bE (xs.map aP) <=1
 |[]=> by (simp [bE])
 |x::r=> by simp only [aA,bE,bX];have:=ai7 r;lia
theorem aul(xs:List Int):okD (.list (xs.map aP))=true:=by
 unfold okD
 rw [aF]
 refine⟨by simp only [cN];exact alm xs,decide_eq_true ?_⟩
 simp only [bX]
 have:=ai7 xs
 lia
theorem vh(h:Fd s n c)(hm:0 < m)(hm2:m < 1073741824)(hc:c < 2^40):(jr [.ref n,.int m] s).W fun d s'=> ∃i,d=.int i/\0 <=i/\i < m/\Fd s' n (c+1)/\qj n s s':=by
 obtain⟨xs,i,j,k,e,hx,hi,hk,hkc⟩:=h.ex
 have hl:n < s.length:=(aq.mp e).1
 have e0:jr [.ref n,.int m] s=jr [.ref n,.int m] (s.set n (.lst [.lst (xs.map aP),.int i,.int j,.int k])):=by rw [avd e]
 rw [e0,apy];unfold B_law_draw
 have fin: ∀x:Int,0 <=x % m/\x % m < m:=fun x=> ⟨Int.emod_nonneg _ (by lia),Int.emod_lt_of_pos _ hm⟩
 have p18: ∀s:S,api (.int 10) (.int 18) s=.ok (.int 1000000000000000000) s:=fun s=> aw5 (by decide) (by decide) (by decide)
 by_cases hj:0 < j
 ·simp [ix0 hl,ix1 hl,ix2 hl,ix3 hl,st1 hl,st2 hl,st3 hl,hj,yc hm,za hm hm2]
  exact⟨(fin _).1,(fin _).2,afk hl hx hi (by lia) (by lia),acg⟩
 ·have q1: ∀(x:Int) (s:S),aa5 (.int x) (.int 998244353) s=.ok (.int (x % 998244353)) s:=fun x s=> yc (by decide)
  have q2: ∀(x:Int) (s:S),ab8 (.int 5003) (.int x) s=.ok (.int (5003*x)) s:=fun x s=> ac1 (.inl (by decide))
  have q3: ∀(x:Int) (s:S),ab8 (.int x) (.int 69621) s=.ok (.int (x*69621)) s:=fun x s=> ac1 (.inr (by decide))
  have q4: ∀(x:Int) (s:S),aa5 (.int x) (.int 2147483629) s=.ok (.int (x % 2147483629)) s:=fun x s=> yc (by decide)
  have q5: ∀(x:Int) (s:S),afs (.int x) (.int 13) s=.ok (.int (x/13)) s:=fun x s=> za (by decide) (by decide)
  have q6: ∀(x:Int) (s:S),ab8 (.int 7919) (.int x) s=.ok (.int (7919*x)) s:=fun x s=> ac1 (.inl (by decide))
  have q7: ∀(x:Int) (s:S),ab8 (.int x) (.int (k+1)) s=.ok (.int (x*(k+1))) s:=fun x s=> ac1 (.inr (by lia))
  have q8: ∀(x:Int) (s:S),ab8 (.int x) (.int 48271) s=.ok (.int (x*48271)) s:=fun x s=> ac1 (.inr (by decide))
  have q9: ∀(x:Int) (s:S),aa5 (.int x) (.int 2147483587) s=.ok (.int (x % 2147483587)) s:=fun x s=> yc (by decide)
  have q10: ∀(x:Int) (s:S),afs (.int x) (.int 64) s=.ok (.int (x/64)) s:=fun x s=> za (by decide) (by decide)
  have qe: ∀(s:S),gNe (.lst (xs.map aP)) (.lst []) s=.ok (.bl (!xs.isEmpty)) s:=fun s=> by
   rw [atk (aul xs) rfl,a08]
   cases xs <;> rfl
  cases hxs:xs with
  |nil=>
   subst hxs
   have qe0: ∀s:S,gNe (.lst []) (.lst []) s=.ok (.bl false) s:=fun s=> atk rfl rfl
   simp [qe0,ix0 hl,ix1 hl,ix2 hl,ix3 hl,st1 hl,st2 hl,st3 hl,hj,yc hm,za hm hm2,p18,q1,q2,q3,q4,q5,q6,q7,q8,q9,q10,qe]
   exact⟨(fin _).1,(fin _).2,afk (xs:=[]) hl (by simp) (by lia) (by lia) (by lia),acg⟩
  | cons y ys=>
   have hne:xs≠ []:=by rw [hxs];simp
   have hlen:0 < (xs.length:Int):=by rw [hxs];simp
   rw [←hxs]
   have qe':xs.isEmpty=false:=by rw [hxs];rfl
   have ixx: ∀s:S,gIx (.lst (xs.map aP)) (.int (i % (xs.length:Int))) s=.ok (.int (xs.getD (i % (xs.length:Int)).toNat 0)) s:=fun s=> by
    have h0:=Int.emod_nonneg i (show (xs.length:Int)≠0 by lia)
    have h1:=Int.emod_lt_of_pos i hlen
    obtain⟨q,hq⟩: ∃q:Nat,i % (xs.length:Int)=q:=⟨(i % (xs.length:Int)).toNat,by lia⟩
    rw [hq]
    have hlt:q < xs.length:=by lia
    rw [aaf (p:=.int (xs.getD q 0)) (by rw [aZ,aG hlt,cE,aG hlt];rfl)]
    rfl
   generalize hcell:xs.getD (i % (xs.length:Int)).toNat 0=cell at ixx
   have qm: ∀s:S,aa5 (.int i) (.int (xs.length:Int)) s=.ok (.int (i % (xs.length:Int))) s:=fun s=> yc hlen
   by_cases hb:1000000000000000000 <=cell
   ·by_cases hb2:i+1 <=(xs.length:Int)
    ·simp [ix0 hl,ix1 hl,ix2 hl,ix3 hl,st1 hl,st2 hl,st3 hl,hj,yc hm,za hm hm2,p18,q1,q2,q3,q4,q5,q6,q7,q8,q9,q10,qe,qe',ixx,qm,hb,hb2]
     exact⟨(fin _).1,(fin _).2,afk hl hx (by lia) (by lia) (by lia),acg⟩
    ·simp [ix0 hl,ix1 hl,ix2 hl,ix3 hl,st1 hl,st2 hl,st3 hl,hj,yc hm,za hm hm2,p18,q1,q2,q3,q4,q5,q6,q7,q8,q9,q10,qe,qe',ixx,qm,hb,hb2]
     exact⟨(fin _).1,(fin _).2,afk hl hx (by lia) (by lia) (by lia),acg⟩
   ·simp [ix0 hl,ix1 hl,ix2 hl,ix3 hl,st1 hl,st2 hl,st3 hl,hj,yc hm,za hm hm2,p18,q1,q2,q3,q4,q5,q6,q7,q8,q9,q10,qe,qe',ixx,qm,hb]
    exact⟨(fin _).1,(fin _).2,afk hl hx (by lia) (by lia) (by lia),acg⟩
theorem Fd.le{c':Nat}(h:Fd s n c)(hc:c <=c'):Fd s n c':=by
 obtain⟨xs,i,j,k,e,hx,hi,hk,hkc⟩:=h.ex
 exact⟨xs,i,j,k,e,hx,hi,hk,by lia⟩
theorem Fd.ext(h:Fd s n c)(x:Ext s s'):Fd s' n c:=by
 obtain⟨xs,i,j,k,e,r⟩:=h.ex
 exact⟨xs,i,j,k,x.get e,r⟩
theorem Fd.set{o:O}(h:Fd s n c)(hk:k≠n):Fd (s.set k o) n c:=by
 obtain⟨xs,i,j,q,e,r⟩:=h.ex
 exact⟨xs,i,j,q,by rw [am hk];exact e,r⟩
theorem aqx{α β:Type}(f:α -> β)(l:List α)(k:Nat):(l.map f).eraseIdx k=(l.eraseIdx k).map f:=by
 induction l generalizing k with -- own
 |nil=> rfl
 |cons x r ih=>
  cases k with
  |zero=> rfl
  |succ k=> simp [ih]
theorem aqa{α:Type}{l:List α}{x:α}(h:l[k]?=some x):(x::l.eraseIdx k).Perm l:=by
 induction l generalizing k with -- own
 |nil=> simp at h
 | cons y r ih=>
  cases k with
  |zero=> simp at h;subst h;exact List.Perm.refl _
  |succ k=>
   have:=ih (k:=k) (by simpa using h)
   rw [gh]
   exact (List.Perm.swap y x _).trans (this.cons y)
structure ShufJ (s:S) (n c:Nat) (xs:List ag) (r:List D) (ρ:En) (s':S):Prop where
 ex: ∃(ls fs:List ag) (u:Option D) (c':Nat),ρ=[some (.ref n),some (.lst xs),some (.ref s.length),some (.ref (s.length+1)),u]/\s'[s.length]?=some (.lst (ls.map D.da))/\s'[s.length+1]?=some (.lst (fs.map D.da))/\
  (fs++ls).Perm xs/\ls.length=r.length/\Fd s' n c'/\c'+r.length <=c+xs.length/\qj n s s'
theorem a1i:k0 [.ref s.length] (s++ [O.lst (xs.map D.da),O.lst []])=.ok (.int xs.length) (s++ [O.lst (xs.map D.da),O.lst []]):=by
 rw [ze (ds:=xs.map D.da) (by simp),aj]
theorem a2l(hx:xs.length <=1000)(s:S):alh [.int xs.length] s=.ok (ab6 0 xs.length,none) s:=by rw [afc (by lia) (by lia)];rfl
theorem a10(h:Fd s n c):ShufJ s n c xs (ab6 0 xs.length) [some (.ref n),some (.lst xs),some (.ref s.length),some (.ref (s.length+1)),none] (s++ [O.lst (xs.map D.da),O.lst []]):=
 ⟨xs,[],none,c,rfl,by simp,by simp,by simp,by rw [v7],h.ext (Ext.add _ _),by rw [v7];lia,(Ext.add _ _).same n⟩
def awt:FS:=k6 (fMt j9 (jd 3) (jb (fMt ab0 (jd 2) (jb (jn 2 jr (jb (jd 0) (jb (fCB k0 (jb (jd 2) jf)) jf))) jf)) jf))
theorem axs{s1:S}{ls fs:List ag}{d:D}{Q:Fl -> S -> Prop}(hl:s1[s.length]?=some (.lst (ls.map D.da)))(hf:s1[s.length+1]?=some (.lst (fs.map D.da)))(k:(jr [.ref n,.int ls.length] s1).W fun i s2=> (ab0 (.ref s.length) [i] s2).W fun y s3=> (j9 (.ref (s.length+1)) [y] s3).W fun _ s4=> Q (.nx [some (.ref n),some (.lst xs),some (.ref s.length),some (.ref (s.length+1)),some d]) s4):
  (awt [some (.ref n),some (.lst xs),some (.ref s.length),some (.ref (s.length+1)),some d] s1).W Q:=by
 have e3:k0 [.ref s.length] s1=.ok (.int ls.length) s1:=by rw [ze hl,aj]
 unfold awt
 walk_at "ev"
 rw [vn hf]
 walk_at "ev"
 rw [vn hl]
 walk_at "ev"
 rw [e3]
 walk_at "ev"
 simp only [R.W_bindk]
 refine R.W_mono k fun i s2 q=> ?_
 walk_at "ev"
 exact q
theorem azm{s1:S}{c':Nat}{ls fs:List ag}{d:D}(hx:xs.length <=1000)(hc:c+xs.length < 2^40)(hn:n < s.length)(hl:s1[s.length]?=some (.lst (ls.map D.da)))(hf:s1[s.length+1]?=some (.lst (fs.map D.da)))(pm:(fs++ls).Perm xs)(ln:ls.length=r.length+1)(fd:Fd s1 n c')(hcc:c'+(r.length+1) <=c+xs.length)(sm:qj n s s1):
  (jr [.ref n,.int ls.length] s1).W fun i s2=> (ab0 (.ref s.length) [i] s2).W fun y s3=> (j9 (.ref (s.length+1)) [y] s3).W fun _ s4=> ShufJ s n c xs r [some (.ref n),some (.lst xs),some (.ref s.length),some (.ref (s.length+1)),some d] s4:=by
 have hpl:=pm.length_eq
 rw [aO]at hpl
 refine R.W_mono (vh fd (by lia) (by lia) (by lia)) ?_
 rintro _ s2 ⟨i,rfl,h0,h1,fd2,sm2⟩
 obtain⟨q,rfl⟩: ∃q:Nat,i=(q:Int):=⟨i.toNat,by lia⟩
 have hq:q < ls.length:=by lia
 have l1:s.length < s1.length:=(aq.mp hl).1
 have l2:s.length+1 < s1.length:=(aq.mp hf).1
 have hl2:s2[s.length]?=some (.lst (ls.map D.da)):=by rw [sm2.get _ (by lia) l1];exact hl
 have hf2:s2[s.length+1]?=some (.lst (fs.map D.da)):=by rw [sm2.get _ (by lia) l2];exact hf
 have hq2:(ls.map D.da)[q]?=some (D.da ls[q]):=by rw [aZ,aG hq];rfl
 rw [aun hl2 hq2 (by rw [aj];lia),R.W_ok]
 have hf3:(s2.set s.length (.lst ((ls.map D.da).eraseIdx q)))[s.length+1]?=some (.lst (fs.map D.da)):=by rw [am (by lia)];exact hf2
 rw [v6 (d:=D.da ls[q]) hf3 (by rw [aj];lia),R.W_ok]
 refine⟨ls.eraseIdx q,fs++ [ls[q]],_,c'+1,rfl,?_,?_,?_,?_,?_,by lia,?_⟩
 ·rw [am (by lia),aE (aD l1 sm2.len),aqx]
 ·rw [aE (by simp;exact aD l2 sm2.len)]
  simp
 ·refine List.Perm.trans ?_ pm
  rw [cn]
  exact (aqa (aG hq)).append_left fs
 ·rw [List.length_eraseIdx,if_pos hq];lia
 ·exact (fd2.set (by lia)).set (by lia)
 ·exact ((sm.trans sm2).own (by lia)).own (by lia)
theorem aj8(h:Fd s n c)(hx:xs.length <=1000)(hc:c+xs.length < 2^40):(vb [.ref n,.lst xs] s).W fun d s'=> ∃ys,d=.lst ys/\ys.Perm xs/\Fd s' n (c+xs.length)/\qj n s s':=by
 rw [aih];unfold B_law_shuffled
 have hn:=h.lt
 walk_at "ev"
 rw [a1i]
 walk_at "ev"
 rw [a2l hx]
 walk_at "ev"
 simp only [R.W_bindk]
 refine y8 (ShufJ s n c xs) ?_ ?_ _ _ _ (a10 h)
 ·rintro d r ρ s1 ⟨ls,fs,u,c',rfl,hl,hf,pm,ln,fd,hcc,sm⟩
  exact⟨_,rfl,axs hl hf (azm hx hc hn hl hf pm ln fd hcc sm)⟩
 ·rintro ρ s1 ⟨ls,fs,u,c',rfl,hl,hf,pm,ln,fd,hcc,sm⟩
  have:ls=[]:=List.length_eq_zero_iff.mp ln
  subst this
  walk_at "ev"
  rw [aor hf (qy fs)]
  walk_at "ev"
  exact⟨fs,rfl,by rw [bj]at pm;exact pm,(fd.set (by lia)).le hcc,sm.own (by lia)⟩
noncomputable def prB(x:Str):Bool:=(decide (1 <=x.length)&&decide (x.length <=8))&&x.cps.toList.all fun c=> decide (97 <=c)&&decide (c <=122)
noncomputable def ai8:List (List Str):=[["a","b","c","d","e","f","g","h"],["net","end","within","place","last","to","a","table"],["a","ab","abc","abcd","b","ba","abcdefgh","abcdefgi"],["zzzzzzzz","z","zz","y","only","onlya","copy","aa"]]
theorem aum: ∀p∈ai8,p.length=8/\p.Nodup/\ ∀x∈p,prB x=true:=by decide+kernel
theorem ah5{α:Type}(l:List α)(t:Nat)(h:t <=l.length):qd l (some (t:Int)) none=l.drop t:=by
 unfold qd
 rw [HT.sIx_nat,HT.sIx_none,Nat.min_eq_left h,ej (by simp)]
theorem adg{α:Type}(l:List α)(t:Nat):qd l none (some (t:Int))=l.take t:=by
 unfold qd
 rw [HT.sIx_nat,HT.sIx_none,gR,Nat.sub_zero,List.take_eq_take_iff]
 lia
theorem a2r{α β:Type}{f:α -> β}{l:List α}{x:α}(h:l[k]?=some x):(l.map f)[k]?=some (f x):=by rw [aZ,h];rfl
theorem ave(h:Fd s n c)(hk:k <=8)(hc:c+2 < 2^40):(yz [.ref n,.int (k:Int)] s).W fun d s'=> ∃ps:List Str,d=.lst (ps.map ac)/\ps.length=k/\ps.Nodup/\(∀x∈ps,prB x=true)/\Fd s' n (c+2)/\qj n s s':=by
 rw [ani];unfold B_law_ports
 have hn:=h.lt
 walk_at "ev"
 have g0: ∀(x y:D),(s++ [O.lst [x,y]])[s.length]?=some (O.lst [x,y]):=fun x y=> by simp
 rw [vn (g0 _ _)]
 walk_at "ev"
 rw [v6 (g0 _ _) (by simp)]
 walk_at "ev"
 have g1: ∀(x y z:D),((s++ [O.lst [x,y]]).set s.length (O.lst ([x,y]++ [z])))=s++ [O.lst [x,y,z]]:=fun x y z=> by simp
 have g2: ∀(x y z:D),(s++ [O.lst [x,y,z]])[s.length]?=some (O.lst [x,y,z]):=fun x y z=> by simp
 have g3: ∀(x y z w:D),((s++ [O.lst [x,y,z]]).set s.length (O.lst ([x,y,z]++ [w])))=s++ [O.lst [x,y,z,w]]:=fun x y z w=> by simp
 simp only [eD,dI]at g1 g3
 rw [g1,vn (g2 _ _ _)]
 walk_at "ev"
 rw [v6 (g2 _ _ _) (by simp)]
 walk_at "ev"
 rw [g3]
 have e4: ∀x:List D,x=ai8.map (fun p=> D.lst (p.map ac)) -> ∀i:Nat,i < 4 -> ∃p∈ai8,x[i]?=some (D.lst (p.map ac)):=by
  rintro _ rfl i hi
  have hl:i < ai8.length:=hi
  exact⟨ai8[i],eF hl,by rw [aZ,aG hl];rfl⟩
 generalize hp:([_,_,_,_]:List D)=P0
 have e5:=e4 P0 (by rw [←hp];rfl)
 have hP:(s++ [O.lst P0])[s.length]?=some (O.lst P0):=by simp
 clear hp g0 g1 g2 g3 e4
 walk_at "go"
 refine R.W_mono (vh (h.ext (Ext.add s _)) (by decide) (by decide) (by lia)) ?_
 rintro _ s1 ⟨i,rfl,h0,h1,fd1,sm1⟩
 obtain⟨q,rfl⟩: ∃q:Nat,i=(q:Int):=⟨i.toNat,by lia⟩
 obtain⟨p,pm,hp⟩:=e5 q (by lia)
 obtain⟨pl,pn,pk⟩:=aum p pm
 have hP1:s1[s.length]?=some (O.lst P0):=by rw [sm1.get _ (by lia) (by simp)];exact hP
 walk_at "go"
 rw [aik hP1 hp]
 walk_at "go"
 refine R.W_mono (vh fd1 (by decide) (by decide) (by lia)) ?_
 rintro _ s2 ⟨j,rfl,j0,j1,fd2,sm2⟩
 obtain⟨t,rfl⟩: ∃t:Nat,j=(t:Int):=⟨j.toNat,by lia⟩
 walk_at "go"
 rw [vj (by simp [qd];lia)]
 walk_at "go"
 rw [ah5 _ _ (by rw [aj];lia),adg,adg,←List.map_drop,←hZ,←aS,←hZ]
 refine⟨_,rfl,?_,?_,fun x hx=> ?_,fd2,((Ext.add s _).same n).trans (sm1.trans sm2)⟩
 ·simp;lia
 ·refine List.Nodup.sublist (d9 _ _) ?_
  have:(p.drop t++p.take t).Perm p:=by
   refine List.perm_append_comm.trans ?_
   rw [List.take_append_drop]
  exact this.nodup_iff.mpr pn
 ·have:=du hx
  rcases a7.mp this with z|z
  ·exact pk x (eZ z)
  ·exact pk x (du z)
theorem az9(h1:okD (.str x)=true)(h2:okD (.str y)=true):gEq (.str x) (.str y) s=.ok (.bl (decide (x=y))) s:=by
 rw [am3 h1 h2]
 have:aJ (.str x) (.str y)=decide (x=y):=by
  show (x==y)=_
  (rw [bm,beq_iff_eq,decide_eq_true_eq])
 rw [this]
theorem kb(h:okD (.str x)=true/\okD (.str y)=true/\decide (x=y)=b)(s:S):gEq (.str x) (.str y) s=.ok (.bl b) s:=by rw [az9 h.1 h.2.1,h.2.2]
theorem agv{w:Str}: ∀ss:List Str,((ss.map ac).any fun d=> aJ d (.str w))=decide (w∈ss)
 |[]=> by simp
 | x::r=> by
  rw [aA,hX,agv r]
  have:aJ (.str x) (.str w)=decide (x=w):=by
   show (x==w)=_
   (rw [bm,beq_iff_eq,decide_eq_true_eq])
  rw [this,bm,eT,decide_eq_true_eq,decide_eq_true_eq,decide_eq_true_eq,aw]
  exact⟨fun h=> h.imp Eq.symm id,fun h=> h.imp Eq.symm id⟩
theorem all_strs(h: ∀x∈ss,okD (.str x)=true):(ss.map ac).all okD=true:=by
 rw [aH]
 intro d hd
 obtain⟨x,hx,rfl⟩:=b6.mp hd
 exact h x hx
theorem awd{w:Str}(h1:okD (.str w)=true)(h2: ∀x∈ss,okD (.str x)=true):gIn (.str w) (.tup (ss.map ac)) s=.ok (.bl (decide (w∈ss))) s:=by
 show (if okD (.str w)=true/\(ss.map ac).all okD=true then R.ok (D.bl (nb false ((ss.map ac).any fun d=> aJ d (.str w)))) s else .bad)=_
 rw [if_pos ⟨h1,all_strs h2⟩,agv];rfl
theorem qa{w:Str}(ss:List Str){l:List ag}(e:l=ss.map ac)(h:okD (.str w)=true/\(∀x∈ss,okD (.str x)=true)/\decide (w∈ss)=b)(s:S):gIn (.str w) (.tup l) s=.ok (.bl b) s:=by
 subst e
 rw [awd h.1 h.2.1,h.2.2]
inductive PartD (m:Int) (ps:List Str):ag -> List Str -> Prop
 |two {w a b:Str}:w∈(["both","loose","drain","either"]:List Str) -> a∈ps -> b∈ps -> a≠b -> PartD m ps (.tuple [.str w,.str a,.str b]) [a,b]
 |held {w a b:Str} {x:ag}:w∈(["place","last"]:List Str) -> a∈ps -> b∈ps -> a≠b -> (x=.none\/ ∃i,x=.int i/\0 <=i/\i < m) -> PartD m ps (.tuple [.str w,.str a,.str b,x]) [a,b]
 |only {a b:Str} {ts:List Int}:a∈ps -> b∈ps -> a≠b -> (∀t∈ts,0 <=t/\t < m) -> ts.length <=m -> ts.Pairwise (· < ·) -> PartD m ps (.tuple [.str "only",.str a,.str b,.tuple (ts.map .int)]) [a,b]
 |copy {a:Str} {bs:List Str}:a∈ps -> (∀b∈bs,b∈ps) -> 1 <=bs.length/\bs.length <=4 -> (a::bs).Nodup -> PartD m ps (.tuple [.str "copy",.str a,.tuple (bs.map .str)]) (a::bs)
 |merge {a:Str} {bs:List Str}:a∈ps -> (∀b∈bs,b∈ps) -> 1 <=bs.length/\bs.length <=4 -> (a::bs).Nodup -> PartD m ps (.tuple [.str "merge",.tuple (bs.map .str),.str a]) (bs++ [a])
noncomputable def ag4:List Str:=["both","loose","place","last","drain","either","only","copy","merge","place"]
structure WordIs (w:Str) (b1 b2 b3 b4:Bool):Prop where
 i1: ∀s,gIn (.str w) (.tup [.str "copy",.str "merge"]) s=.ok (.bl b1) s
 i2: ∀s,gEq (.str w) (.str "copy") s=.ok (.bl b2) s
 i3: ∀s,gIn (.str w) (.tup [.str "place",.str "last"]) s=.ok (.bl b3) s
 i4: ∀s,gEq (.str w) (.str "only") s=.ok (.bl b4) s
 i5:(b1=true/\b2=true/\w="copy")\/(b1=true/\b2=false/\w="merge")\/(b1=false/\b3=true/\w∈(["place","last"]:List Str))\/(b1=false/\b3=false/\b4=true/\w="only")\/(b1=false/\b3=false/\b4=false/\w∈(["both","loose","drain","either"]:List Str))
theorem ay6(w:Str)(h:w∈ag4): ∃b1 b2 b3 b4,WordIs w b1 b2 b3 b4:=by
 have h:w="both"\/w="loose"\/w="place"\/w="last"\/w="drain"\/w="either"\/w="only"\/w="copy"\/w="merge"\/w="place":=by simpa [ag4] using h
 rcases h with rfl|rfl|rfl|rfl|rfl|rfl|rfl|rfl|rfl|rfl
 ·exact⟨false,false,false,false,qa ["copy","merge"] rfl (by decide+kernel),kb (by decide+kernel),qa ["place","last"] rfl (by decide+kernel),kb (by decide+kernel),by decide⟩
 ·exact⟨false,false,false,false,qa ["copy","merge"] rfl (by decide+kernel),kb (by decide+kernel),qa ["place","last"] rfl (by decide+kernel),kb (by decide+kernel),by decide⟩
 ·exact⟨false,false,true,false,qa ["copy","merge"] rfl (by decide+kernel),kb (by decide+kernel),qa ["place","last"] rfl (by decide+kernel),kb (by decide+kernel),by decide⟩
 ·exact⟨false,false,true,false,qa ["copy","merge"] rfl (by decide+kernel),kb (by decide+kernel),qa ["place","last"] rfl (by decide+kernel),kb (by decide+kernel),by decide⟩
 ·exact⟨false,false,false,false,qa ["copy","merge"] rfl (by decide+kernel),kb (by decide+kernel),qa ["place","last"] rfl (by decide+kernel),kb (by decide+kernel),by decide⟩
 ·exact⟨false,false,false,false,qa ["copy","merge"] rfl (by decide+kernel),kb (by decide+kernel),qa ["place","last"] rfl (by decide+kernel),kb (by decide+kernel),by decide⟩
 ·exact⟨false,false,false,true,qa ["copy","merge"] rfl (by decide+kernel),kb (by decide+kernel),qa ["place","last"] rfl (by decide+kernel),kb (by decide+kernel),by decide⟩
 ·exact⟨true,true,false,false,qa ["copy","merge"] rfl (by decide+kernel),kb (by decide+kernel),qa ["place","last"] rfl (by decide+kernel),kb (by decide+kernel),by decide⟩
 ·exact⟨true,false,false,false,qa ["copy","merge"] rfl (by decide+kernel),kb (by decide+kernel),qa ["place","last"] rfl (by decide+kernel),kb (by decide+kernel),by decide⟩
 ·exact⟨false,false,true,false,qa ["copy","merge"] rfl (by decide+kernel),kb (by decide+kernel),qa ["place","last"] rfl (by decide+kernel),kb (by decide+kernel),by decide⟩
theorem a1p{α:Type}{f:α -> ag}{l:List α}{x:α}(h:l[k]?=some x):gIx (.lst (l.map f)) (.int (k:Int)) s=.ok (.da (f x)) s:=aaf (a2r h)
theorem ad7{l:List ag}{x:ag}(k:Nat)(hi:i=(k:Int))(h:l[k]?=some x):gIx (.lst l) (.int i) s=.ok (.da x) s:=by subst hi;exact aaf h
theorem aof{α:Type}(l:List α)(a b:Nat):qd l (some (a:Int)) (some (b:Int))=(l.drop a).take (min b l.length - min a l.length):=by
 unfold qd
 rw [HT.sIx_nat,HT.sIx_nat]
 by_cases h:a <=l.length
 ·rw [Nat.min_eq_left h]
 ·rw [cy (by lia),cy (by lia)]
theorem agz{α β:Type}{f:α -> β}{l:List α}: ∀{ys:List β},ys.Perm (l.map f) -> ∃qs:List α,qs.Perm l/\qs.map f=ys:=by
 intro ys h
 generalize hz:l.map f=zs at h
 induction h generalizing l with
 |nil=>
  cases l with
  |nil=> exact⟨[],.refl _,rfl⟩
  |cons a b=> cases hz
 | cons x h ih=>
  cases l with
  |nil=> cases hz
  |cons a b=>
   cases hz
   obtain⟨qs,p,e⟩:=ih rfl
   exact⟨a::qs,p.cons a,by rw [aA,e]⟩
 | swap x y r=>
  match l,hz with
  |a::b::c,hz=>
   cases hz
   exact⟨b::a::c,.swap _ _ _,rfl⟩
 |trans h1 h2 ih1 ih2=>
  obtain⟨q2,p2,e2⟩:=ih2 hz
  obtain⟨q1,p1,e1⟩:=ih1 e2
  exact⟨q1,p1.trans p2,e1⟩
structure OnlyJ (s0:S) (n c:Nat) (m:Int) (r acc:List D) (s:S):Prop where
 ex: ∃ts:List Int,acc=ts.map D.int/\(∀t∈ts,0 <=t/\t < m)/\ts.length+r.length <=m/\(∃lo k,r=ab6 lo k/\0 <=lo/\lo+k <=m/\(∀t∈ts,t < lo)/\ts.Pairwise (· < ·))/\ ∃c',Fd s n c'/\c'+r.length <=c+m.toNat/\qj n s0 s
theorem ayq{ps:List Str}(h:Fd s n c)(hm:1 <=m)(hm3:m <=3)(hp:2 <=ps.length)(hp8:ps.length <=8)(nd:ps.Nodup)(hc:c+ps.length+10 < 2^40):
  (zv [.ref n,.int m,.lst (ps.map ac)] s).W fun d s'=> ∃p qs,d=.da p/\PartD m ps p qs/\Fd s' n (c+ps.length+5)/\qj n s s':=by
 rw [apd];unfold B_law_part
 walk_at "go"
 refine R.W_mono (aj8 h (by rw [aj];lia) (by rw [aj];lia)) ?_
 rintro _ s1 ⟨ys,rfl,pm,fd1,sm1⟩
 obtain⟨qs,pmq,rfl⟩: ∃qs:List Str,qs.Perm ps/\qs.map ac=ys:=by
  exact agz pm
 have ql:=pmq.length_eq
 rw [aj]at fd1
 walk_at "go"
 refine R.W_mono (vh fd1 (by decide) (by decide) (by lia)) ?_
 rintro _ s2 ⟨i,rfl,h0,h1,fd2,sm2⟩
 obtain⟨k,rfl⟩: ∃k:Nat,i=(k:Int):=⟨i.toNat,by lia⟩
 have hk:k < ag4.length:=by show k < 10;lia
 obtain⟨b1,b2,b3,b4,W⟩:=ay6 ag4[k] (eF hk)
 generalize hw:ag4[k]=w at W
 walk_at "go"
 rw [show gIx (.lst [.str "both",.str "loose",.str "place",.str "last",.str "drain",.str "either",.str "only",.str "copy",.str "merge",.str "place"]) (.int (k:Int)) s2=.ok (.str w) s2 from a1p (f:=ac) (l:=ag4) (x:=w) (by rw [aG hk,hw])]
 walk_at "ev"
 rw [W.i1]
 obtain⟨q0,q1,qr,rfl⟩: ∃q0 q1 qr,qs=q0::q1::qr:=by
  match qs,ql with
  |[],e=> simp at e;lia
  |[_],e=> simp at e;lia
  |a::b::c,_=> exact⟨a,b,c,rfl⟩
 have nq:(q0::q1::qr).Nodup:=pmq.nodup_iff.mpr nd
 have m0:q0∈ps:=pmq.mem_iff.mp (by simp)
 have n01:q0≠q1:=by simp at nq;exact nq.1.1
 have m1:q1∈ps:=pmq.mem_iff.mp (by simp)
 have x0: ∀s:S,gIx (.lst ((q0::q1::qr).map ac)) (.int 0) s=.ok (.str q0) s:=fun s=> ad7 0 rfl rfl
 have x1: ∀s:S,gIx (.lst ((q0::q1::qr).map ac)) (.int 1) s=.ok (.str q1) s:=fun s=> ad7 1 rfl rfl
 have many:b1=true -> ∀Q:D -> S -> Prop,(∀(bs:List Str) (s3:S),1 <=bs.length/\bs.length <=4 -> (∀b∈bs,b∈ps) -> (q0::bs).Nodup -> Fd s3 n (c+ps.length+2) -> qj n s s3 -> Q (.tup (bs.map ac)) s3) ->
   (fCB qb (jb (fSl false (jd 3) (ko (fC (D.da (aP 1)))) (ko (fOp (kh false) (fC (D.da (aP 2))) (jn 2 jr (jb (jd 0) (jb (fCB ah6 (jb (fC (D.da (aP 4))) (jb (fOp PF.ad3 (fCB k0 (jb (jd 3) jf)) (fC (D.da (aP 1)))) jf))) jf)))))) jf)
    [some (.ref n),some (.int m),some (.lst (ps.map ac)),some (.lst ((q0::q1::qr).map ac)),some (.str w),none] s2).W Q:=fun _ Q hQ=> by
  walk_at "go"
  refine R.W_mono (vh fd2 (by rw [aj,ql];split <;> lia) (by rw [aj,ql];split <;> lia) (by lia)) ?_
  rintro _ s3 ⟨j,rfl,j0,j1,fd3,sm3⟩
  obtain⟨t,rfl⟩: ∃t:Nat,j=(t:Int):=⟨j.toNat,by lia⟩
  walk_at "go"
  have e2:(2:Int)+(t:Int)=((2+t:Nat):Int):=by lia
  have e1:(1:Int)=((1:Nat):Int):=rfl
  rw [e2,e1,aa8,aof]
  have tb:t < 4:=by
   rw [aj,ql]at j1
   split at j1 <;> lia
  refine hQ _ s3 ?_ ?_ ?_ fd3 (sm1.trans (sm2.trans sm3))
  ·rw [cw];simp;lia
  ·intro b hb
   exact pmq.mem_iff.mp (eZ (du hb))
  ·have:(q0::((q0::q1::qr).drop 1).take (min (2+t) (q0::q1::qr).length - min 1 (q0::q1::qr).length)).Sublist (q0::q1::qr):=(d9 _ _).cons₂ q0
   exact this.nodup nq
 clear hw hk
 rcases W.i5 with ⟨rfl,rfl,rfl⟩|⟨rfl,rfl,rfl⟩|⟨rfl,rfl,hw⟩|⟨rfl,rfl,rfl,rfl⟩|⟨rfl,rfl,rfl,hw⟩
 ·simp only [R.W_ok',R.Wk_app,ao8,axl,awo,awp,R.W_bindk]
  refine many rfl _ fun bs s3 hl hb hnd fd3 sm3=> ?_
  walk_at "go"
  rw [W.i2]
  walk_at "go"
  rw [x0]
  walk_at "go"
  exact⟨_,_,rfl,.copy m0 hb hl hnd,fd3.le (by lia),sm3⟩
 ·simp only [R.W_ok',R.Wk_app,ao8,axl,awo,awp,R.W_bindk]
  refine many rfl _ fun bs s3 hl hb hnd fd3 sm3=> ?_
  walk_at "go"
  rw [W.i2]
  walk_at "go"
  rw [x0]
  walk_at "go"
  exact⟨_,_,rfl,.merge m0 hb hl hnd,fd3.le (by lia),sm3⟩
 ·walk_at "go"
  rw [W.i3]
  walk_at "go"
  rw [x0]
  walk_at "go"
  rw [x1]
  walk_at "go"
  refine R.W_mono (vh fd2 (by decide) (by decide) (by lia)) ?_
  rintro _ s3 ⟨j,rfl,j0,j1,fd3,sm3⟩
  obtain⟨x,hx,hx2⟩: ∃x:ag,(x=.none\/ ∃i,x=.int i/\0 <=i/\i < m)/\ ∀s:S,gIx (.lst [.none,.none,.int 0,.int (m - 1)]) (.int j) s=.ok (.da x) s:=by
   have:j=0\/j=1\/j=2\/j=3:=by lia
   rcases this with rfl|rfl|rfl|rfl
   ·exact⟨_,.inl rfl,fun s=> ad7 0 rfl rfl⟩
   ·exact⟨_,.inl rfl,fun s=> ad7 1 rfl rfl⟩
   ·exact⟨_,.inr ⟨0,rfl,by lia,by lia⟩,fun s=> ad7 2 rfl rfl⟩
   ·exact⟨_,.inr ⟨m - 1,rfl,by lia,by lia⟩,fun s=> ad7 3 rfl rfl⟩
  walk_at "go"
  rw [hx2]
  walk_at "go"
  exact⟨_,_,rfl,.held hw m0 m1 n01 hx,fd3.le (by lia),sm1.trans (sm2.trans sm3)⟩
 ·walk_at "go"
  rw [W.i3]
  walk_at "go"
  rw [W.i4]
  walk_at "go"
  rw [x0]
  walk_at "go"
  rw [x1]
  walk_at "go"
  rw [afc (by lia) (by lia)]
  walk_at "go"
  rw [zu (ρ0:=[none,some (D.ref n)]) (by rw [v7];lia) rfl]
  simp only [R.W_bindk]
  refine R.W_mono (aha (acc:=[]) (Q:=fun xs s'=> ∃ts:List Int,xs=ts.map D.int/\(∀t∈ts,0 <=t/\t < m)/\ts.length <=m/\ts.Pairwise (· < ·)/\Fd s' n (c+ps.length+1+m.toNat)/\qj n s s') (OnlyJ s n (c+ps.length+1) m) ?_ ?_ _ _ ?_) ?_
  ·rintro d r acc s3 ⟨ts,rfl,ht,hl,⟨lo,k,hr,l0,lk,hlt,pw⟩,c',fd3,hcc,sm3⟩
   cases k with
   |zero=> cases hr
   | succ k=>
    cases hr
    rw [av]at hl hcc
    refine⟨_,ag6,?_⟩
    walk_at "go"
    refine R.W_mono (vh fd3 (by decide) (by decide) (by lia)) ?_
    rintro _ s4 ⟨j,rfl,j0,j1,fd4,sm4⟩
    walk_at "go"
    split
    ·refine⟨ts++ [lo],by simp,fun t h=> ?_,by simp;lia,⟨lo+1,k,rfl,by lia,by lia,fun t h=> ?_,?_⟩,c'+1,fd4,by lia,sm3.trans sm4⟩
     ·rcases a7.mp h with z|z
      ·exact ht t z
      ·have:t=lo:=by simpa using z
       subst this;exact⟨l0,by lia⟩
     ·rcases a7.mp h with z|z
      ·have:=hlt t z;lia
      ·have:t=lo:=by simpa using z
       lia
     ·rw [List.pairwise_append]
      exact⟨pw,List.pairwise_singleton _ _,fun a ha b hb=> by rw [bF.mp hb];exact hlt a ha⟩
    ·exact⟨ts,rfl,ht,by lia,⟨lo+1,k,rfl,by lia,by lia,fun t h=> by have:=hlt t h;lia,pw⟩,c'+1,fd4,by lia,sm3.trans sm4⟩
  ·rintro acc s3 ⟨ts,rfl,ht,hl,⟨lo,k,hr,l0,lk,hlt,pw⟩,c',fd3,hcc,sm3⟩
   simp only [ck]at hl hcc
   exact⟨ts,rfl,ht,by lia,pw,fd3.le (by lia),sm3⟩
  ·exact⟨[],rfl,fun t h=> (by cases h),by rw [v7];simp;lia,⟨0,m.toNat,rfl,by lia,by lia,(fun t h=> by cases h),fS⟩,c+ps.length+1,fd2,by rw [v7];lia,sm1.trans sm2⟩
  ·rintro xs s3 ⟨ts,e,ht,hl,pw,fd3,sm3⟩
   rw [dI]at e
   subst e
   rw [show ts.map D.int=(ts.map aP).map D.da by rw [aU];rfl]
   walk_at "go"
   exact⟨_,_,rfl,.only m0 m1 n01 ht hl pw,fd3.le (by lia),sm3⟩
 ·walk_at "go"
  rw [W.i3]
  walk_at "go"
  rw [W.i4]
  walk_at "go"
  rw [x0]
  walk_at "go"
  rw [x1]
  walk_at "go"
  exact⟨_,_,rfl,.two hw m0 m1 n01,fd2.le (by lia),sm1.trans sm2⟩
mutual
inductive Nt where
 |mk (m:Int) (ss:List Str) (ps:Ps)
inductive Pt where
 |two (w a b:Str)|held (w a b:Str) (h:Option Int)|only (a b:Str) (ts:List Int)|copy (a:Str) (bs:List Str)|merge (bs:List Str) (a:Str)|net (n:Nt) (qs:List Str)
inductive Ps where
 |nil|cons (p:Pt) (r:Ps)
end
noncomputable def hD:Option Int -> ag
 |none=>.none
 |some i=>.int i
def hS:Option Int -> Str
 |none=> "-"
 |some i=> kq i
mutual
noncomputable def Nt.d:Nt -> ag
 |.mk m ss ps=>.tuple [.int m,.tuple (ss.map ac),.tuple (Ps.ds ps)]
noncomputable def Pt.d:Pt -> ag
 |.two w a b=>.tuple [.str w,.str a,.str b]
 |.held w a b h=>.tuple [.str w,.str a,.str b,hD h]
 |.only a b ts=>.tuple [.str "only",.str a,.str b,.tuple (ts.map aP)]
 |.copy a bs=>.tuple [.str "copy",.str a,.tuple (bs.map ac)]
 |.merge bs a=>.tuple [.str "merge",.tuple (bs.map ac),.str a]
 |.net n qs=>.tuple [.str "net",Nt.d n,.tuple (qs.map ac)]
noncomputable def Ps.ds:Ps -> List ag
 |.nil=> []
 |.cons p r=> Pt.d p::Ps.ds r
end
def Pt.ws:Pt -> List Str
 |.two w a b=> [w,a,b]
 |.held w a b h=> [w,a,b,hS h]
 |.only a b ts=> "only"::a::b::ts.map kq
 |.copy a bs=> "copy"::a::bs
 |.merge bs a=> "merge"::(bs++ [a])
 |.net _ qs=> "within"::qs
mutual
noncomputable def Nt.ls:Nt -> List Str
 |.mk m ss ps=> a9 " " ("net"::kq m::ss)::Ps.ls ps
noncomputable def Pt.ls:Pt -> List Str
 |.net n qs=> a9 " " ("within"::qs)::(Nt.ls n++ [bi "end"])
 |.two w a b=> [a9 " " (Pt.ws (.two w a b))]
 |.held w a b h=> [a9 " " (Pt.ws (.held w a b h))]
 |.only a b ts=> [a9 " " (Pt.ws (.only a b ts))]
 |.copy a bs=> [a9 " " (Pt.ws (.copy a bs))]
 |.merge bs a=> [a9 " " (Pt.ws (.merge bs a))]
noncomputable def Ps.ls:Ps -> List Str
 |.nil=> []
 |.cons p r=> Pt.ls p++Ps.ls r
end
mutual
noncomputable def Nt.cnt:Nt -> Nat
 |.mk _ _ ps=> Ps.cnt ps
noncomputable def Pt.cnt:Pt -> Nat
 |.net n _=> 1+Nt.cnt n
 |.two _ _ _=> 1
 |.held _ _ _ _=> 1
 |.only _ _ _=> 1
 |.copy _ _=> 1
 |.merge _ _=> 1
noncomputable def Ps.cnt:Ps -> Nat
 |.nil=> 0
 |.cons p r=> Pt.cnt p+Ps.cnt r
end
structure UnK (ss:List Str) (k:Nat):Prop where
 l:ss.length <=k
 p: ∀x∈ss,prB x=true
 n:ss.Nodup
def FlK(m:Int):Pt -> Prop
 |.two w a b=> w∈(["both","loose","drain","either"]:List Str)/\UnK [a,b] 2
 |.held w a b h=> w∈(["place","last"]:List Str)/\UnK [a,b] 2/\ ∀i,h=some i -> 0 <=i/\i < m
 |.only a b ts=> UnK [a,b] 2/\(∀t∈ts,0 <=t/\t < m)/\ts.length <=3/\ts.Pairwise (· < ·)
 |.copy a bs=> 1 <=bs.length/\UnK (a::bs) 13
 |.merge bs a=> 1 <=bs.length/\UnK (a::bs) 13
 |.net _ _=> False
noncomputable def Nt.seen:Nt -> List Str
 |.mk _ ss _=> ss
mutual
noncomputable def NtK(m:Int):Nt -> Nat -> Prop
 |.mk m' ss ps,k=> m'=m/\UnK ss 6/\PsK m ps k
noncomputable def PtK(m:Int):Pt -> Nat -> Prop
 |.net n qs,k=> 2 <=k/\UnK qs 6/\(Nt.seen n).length=qs.length/\NtK m n (k - 1)
 |.two w a b,_=> FlK m (.two w a b)
 |.held w a b h,_=> FlK m (.held w a b h)
 |.only a b ts,_=> FlK m (.only a b ts)
 |.copy a bs,_=> FlK m (.copy a bs)
 |.merge bs a,_=> FlK m (.merge bs a)
noncomputable def PsK(m:Int):Ps -> Nat -> Prop
 |.nil,_=> True
 |.cons p r,k=> PtK m p k/\PsK m r k
end
theorem axp{ps:List Str}{d:ag}(h:PartD m ps d qs)(hm:m <=3)(hp: ∀x∈ps,prB x=true): ∃p:Pt,d=p.d/\FlK m p:=by
 have two: ∀{a b:Str},a∈ps -> b∈ps -> a≠b -> UnK [a,b] 2:=fun {a b} ha hb n=> ⟨by simp,fun x hx=> by
  (simp only [aw,bt,or_false]at hx)
  rcases hx with rfl|rfl
  ·exact hp _ ha
  ·exact hp _ hb,by simp [n]⟩
 cases h with
 |two hw ha hb n=> exact⟨.two _ _ _,rfl,hw,two ha hb n⟩
 |held hw ha hb n hx=>
  rcases hx with rfl|⟨i,rfl,h0,h1⟩
  ·exact⟨.held _ _ _ none,rfl,hw,two ha hb n,fun i e=> by cases e⟩
  ·exact⟨.held _ _ _ (some i),rfl,hw,two ha hb n,fun j e=> by cases e;exact⟨h0,h1⟩⟩
 |only ha hb n ht hl pw=> exact⟨.only _ _ _,rfl,two ha hb n,ht,by lia,pw⟩
 |copy ha hb hl nd=>
  refine⟨.copy _ _,rfl,hl.1,by simp;lia,fun x hx=> ?_,nd⟩
  rcases aw.mp hx with rfl|z
  ·exact hp _ ha
  ·exact hp _ (hb x z)
 |merge ha hb hl nd=>
  refine⟨.merge _ _,rfl,hl.1,by simp;lia,fun x hx=> ?_,nd⟩
  rcases aw.mp hx with rfl|z
  ·exact hp _ ha
  ·exact hp _ (hb x z)
noncomputable def Ps.snoc:Ps -> Pt -> Ps
 |.nil,p=>.cons p .nil
 |.cons q r,p=>.cons q (Ps.snoc r p)
theorem adm: ∀(r:Ps) (p:Pt),(r.snoc p).ds=r.ds++ [p.d]
 |.nil,p=> by simp [Ps.snoc,Ps.ds]
 |.cons q r,p=> by simp [Ps.snoc,Ps.ds,adm r p]
theorem alz: ∀(r:Ps) (p:Pt),(r.snoc p).cnt=r.cnt+p.cnt
 |.nil,p=> by simp [Ps.snoc,Ps.cnt]
 |.cons q r,p=> by simp [Ps.snoc,Ps.cnt,alz r p];lia
theorem alt{m:Int}{k:Nat}: ∀{r:Ps} {p:Pt},PsK m r k -> PtK m p k -> PsK m (r.snoc p) k
 |.nil,p,_,h=> by simp only [Ps.snoc,PsK];exact⟨h,trivial⟩
 |.cons q r,p,h1,h2=> by
  simp only [Ps.snoc,PsK]at h1⊢
  exact⟨h1.1,alt h1.2 h2⟩
theorem akq{p:Pt}(h:FlK m p):PtK m p k:=by
 cases p <;> first|(simp only [PtK];exact h)|exact h.elim
theorem a3n{p:Pt}(h:FlK m p):p.cnt=1:=by
 cases p <;> first|rfl|exact h.elim
noncomputable def dr:Nat -> Nat
 |0=> 0
 |k+1=> 20+3*(20+dr k)
noncomputable def cb:Nat -> Nat
 |0=> 0
 |k+1=> 3*(1+cb k)
structure DW {α:Type} (r:R α) (Q:α -> S -> Prop):Prop where
 w:r.W Q
theorem DW.mono{α:Type}{r:R α}{Q Q':α -> S -> Prop}(h:DW r Q)(k: ∀a s,Q a s -> Q' a s):r.W Q':=R.W_mono h.w k
structure NsQ (s0:S) (n c k:Nat) (m:Int) (t:Nat) (d:D) (s:S):Prop where
 ex: ∃N:Nt,d=.da N.d/\NtK m N k/\N.seen.length=t/\N.cnt <=cb k/\Fd s n (c+dr k)/\qj n s0 s
def alk(k:Nat)(F:FF):Prop:= ∀(s:S) (n c:Nat) (m:Int) (t:Nat),Fd s n c -> 1 <=m -> m <=3 -> t <=3 -> c+dr k+400 < 2^40 -> DW (F [.ref n,.int (k:Int),.int m,.int (t:Int)] s) (NsQ s n c k m t)
structure NsJ (s0:S) (n a c k:Nat) (m:Int) (t:Nat) (ps:List Str) (r:List D) (ρ:En) (s:S):Prop where
 ex: ∃(P:Ps) (j c':Nat) (u6 u7:Option D),ρ=[some (.ref n),some (.int ((k+1:Nat):Int)),some (.int m),some (.int (t:Int)),some (.lst (ps.map ac)),some (.ref a),u6,u7]/\s[a]?=some (.lst (P.ds.map D.da))/\P.ds.length+r.length <=3/\j+r.length <=3/\P.cnt <=j*(1+cb k)/\PsK m P (k+1)/\Fd s n c'/\c'+r.length*(20+dr k) <=c+3*(20+dr k)/\qj n s0 s/\s0.length <=a
def nsA(F:FF):FS:=(jk (kj 7 (fSl false (jn 2 vb (jb (jd 0) (jb (jd 4) jf))) fNo (ko (jn 2 jr (jb (jd 0) (jb (fOp (kh false) (fCB ah6 (jb (fC (.da (.int 3))) (jb (fCB k0 (jb (jd 4) jf)) jf))) (fC (.da (.int 1)))) jf))))))
  (k6 (fMt j9 (jd 5) (jb (qv (jb (fC (.da (.str "net"))) (jb (jn 4 F (jb (jd 0) (jb (fOp ad3 (jd 1) (fC (.da (.int 1)))) (jb (jd 2) (jb (fCB k0 (jb (jd 7) jf)) jf))))) (jb (fCB qb (jb (jd 7) jf)) jf)))) jf))))
def nsB:FS:=(k6 (fMt j9 (jd 5) (jb (jn 3 zv (jb (jd 0) (jb (jd 2) (jb (jd 4) jf)))) jf)))
def nsL(F:FF):FS:=j4 (aao (jt (fOp gGt (jd 1) (fC (.da (.int 1))))) (jt (fOp gEq (jn 2 jr (jb (jd 0) (jb (fC (.da (.int 2))) jf))) (fC (.da (.int 0)))))) (nsA F) nsB
theorem aa9{j:Int}:gEq (.int i) (.int j) s=.ok (.bl (decide (i=j))) s:=by
 rw [am3 rfl rfl]
 have:aJ (.int i) (.int j)=decide (i=j):=by
  show (i==j)=_
  (rw [bm,beq_iff_eq,decide_eq_true_eq])
 rw [this]
theorem atf{s1 s2:S}{c2:Nat}{t j:Nat}{ps:List Str}{P:Ps}{u6 u7:Option D}{p:Pt}(ha:s1[a]?=some (.lst (P.ds.map D.da)))(hl:P.ds.length+(r.length+1) <=3)(hj:j+(r.length+1) <=3)(hc:P.cnt <=j*(1+cb k))(hp:p.cnt <=1+cb k)(hP:PsK m P (k+1))(hpt:PtK m p (k+1))(fd:Fd s2 n c2)(h2:c2+r.length*(20+dr k) <=c+3*(20+dr k))(sm:qj n s0 s1)(sm2:qj n s1 s2)(hs0:s0.length <=a)(hn:n < s0.length):
  (j9 (.ref a) [.da p.d] s2).W fun _ s'=> NsJ s0 n a c k m t ps r [some (.ref n),some (.int ((k+1:Nat):Int)),some (.int m),some (.int (t:Int)),some (.lst (ps.map ac)),some (.ref a),u6,u7] s':=by
 have la:a < s1.length:=(aq.mp ha).1
 have ha2:s2[a]?=some (.lst (P.ds.map D.da)):=by rw [sm2.get _ (by lia) la];exact ha
 rw [v6 ha2 (by rw [aj];lia),R.W_ok]
 refine⟨P.snoc p,j+1,c2,_,_,rfl,?_,by rw [adm];simp;lia,by lia,?_,alt hP hpt,fd.set (by lia),h2,(sm.trans sm2).own (by lia),hs0⟩
 ·rw [aE (aD la sm2.len),adm];simp
 ·rw [alz,Nat.succ_mul];lia
theorem ajv{ps:List Str}(h:qs.Perm ps)(t:Nat)(nd:ps.Nodup)(pr: ∀x∈ps,prB x=true)(hk:min t ps.length <=k):UnK (qs.take t) k:=
 ⟨by rw [cw,h.length_eq];exact hk,fun x hx=> pr x (h.mem_iff.mp (du hx)),(d9 t qs).nodup (h.nodup_iff.mpr nd)⟩
theorem aoa{s1 s2:S}{c2:Nat}{t j:Nat}{ps:List Str}{P:Ps}{u6 u7:Option D}{Q:Fl -> S -> Prop}(hm:1 <=m)(hm3:m <=3)(hp:2 <=ps.length)(hp5:ps.length <=5)(nd:ps.Nodup)(pr: ∀x∈ps,prB x=true)(hc:c+3*(20+dr k)+390 < 2^40)(ha:s1[a]?=some (.lst (P.ds.map D.da)))(hl:P.ds.length+(r.length+1) <=3)(hj:j+(r.length+1) <=3)(hcn:P.cnt <=j*(1+cb k))(hP:PsK m P (k+1))(fd:Fd s2 n c2)(h2:c2+19+dr k+r.length*(20+dr k) <=c+3*(20+dr k))(sm:qj n s0 s1)(sm2:qj n s1 s2)(hs0:s0.length <=a)(hn:n < s0.length):
  (nsB [some (.ref n),some (.int ((k+1:Nat):Int)),some (.int m),some (.int (t:Int)),some (.lst (ps.map ac)),some (.ref a),u6,u7] s2).W (flW (NsJ s0 n a c k m t ps r) Q):=by
 have la:a < s1.length:=(aq.mp ha).1
 have ha2:s2[a]?=some (.lst (P.ds.map D.da)):=by rw [sm2.get _ (by lia) la];exact ha
 unfold nsB
 walk_at "go"
 rw [vn ha2]
 walk_at "go"
 refine R.W_mono (ayq fd hm hm3 hp (by lia) nd (by lia)) ?_
 rintro _ s3 ⟨d,qs,rfl,hd,fd3,sm3⟩
 obtain⟨p,rfl,fl⟩:=axp hd hm3 pr
 walk_at "go"
 refine R.W_mono (atf (c:=c) (t:=t) (ps:=ps) (u6:=u6) (u7:=u7) ha hl hj hcn (by rw [a3n fl];lia) hP (akq fl) fd3 (by lia) sm (sm2.trans sm3) hs0 hn) fun _ s4 q=> ?_
 walk_at "go"
 exact q
theorem a2o{F:FF}{s1 s2:S}{c2:Nat}{t j:Nat}{ps:List Str}{P:Ps}{u6 u7:Option D}{Q:Fl -> S -> Prop}(hF:alk k F)(hk:1 <=k)(hm:1 <=m)(hm3:m <=3)(hp:2 <=ps.length)(hp5:ps.length <=5)(nd:ps.Nodup)(pr: ∀x∈ps,prB x=true)(hc:c+3*(20+dr k)+390 < 2^40)(ha:s1[a]?=some (.lst (P.ds.map D.da)))(hl:P.ds.length+(r.length+1) <=3)(hj:j+(r.length+1) <=3)(hcn:P.cnt <=j*(1+cb k))(hP:PsK m P (k+1))(fd:Fd s2 n c2)(h2:c2+19+dr k+r.length*(20+dr k) <=c+3*(20+dr k))(sm:qj n s0 s1)(sm2:qj n s1 s2)(hs0:s0.length <=a)(hn:n < s0.length):
  (nsA F [some (.ref n),some (.int ((k+1:Nat):Int)),some (.int m),some (.int (t:Int)),some (.lst (ps.map ac)),some (.ref a),u6,u7] s2).W (flW (NsJ s0 n a c k m t ps r) Q):=by
 have la:a < s1.length:=(aq.mp ha).1
 unfold nsA
 walk_at "go"
 refine R.W_mono (aj8 fd (by rw [aj];lia) (by rw [aj];lia)) ?_
 rintro _ s3 ⟨ys,rfl,pm,fd3,sm3⟩
 obtain⟨qs,pmq,rfl⟩:=agz pm
 have ql:=pmq.length_eq
 rw [aj]at fd3
 walk_at "go"
 refine R.W_mono (vh fd3 (by split <;> lia) (by split <;> lia) (by lia)) ?_
 rintro _ s4 ⟨i,rfl,h0,h1,fd4,sm4⟩
 obtain⟨w,rfl⟩: ∃w:Nat,i=(w:Int):=⟨i.toNat,by lia⟩
 have w3:w <=3:=by split at h1 <;> lia
 walk_at "go"
 have ha4:s4[a]?=some (.lst (P.ds.map D.da)):=by rw [((sm2.trans sm3).trans sm4).get _ (by lia) la];exact ha
 rw [vn ha4]
 walk_at "go"
 rw [show (((k+1:Nat):Int) - 1)=((k:Nat):Int) by lia,aa8,adg,aj]
 have un:=ajv pmq w nd pr (k:=3) (by lia)
 refine (hF s4 n (c2+ps.length+1) m (qs.take w).length fd4 hm hm3 un.l (by lia)).mono ?_
 rintro _ s5 ⟨N,rfl,hN,hNs,hNc,fd5,sm5⟩
 walk_at "go"
 refine R.W_mono (atf (p:=.net N (qs.take w)) (c:=c) (t:=t) (ps:=ps) (u6:=u6) (u7:=some (D.lst ((qs.take w).map ac))) ha hl hj hcn (by show 1+N.cnt <=_;lia) hP ?_ fd5 (by lia) sm (sm2.trans (sm3.trans (sm4.trans sm5))) hs0 hn) fun _ s6 q=> ?_
 ·simp only [PtK]
  exact⟨by lia,⟨by have:=un.l;lia,un.p,un.n⟩,hNs,hN⟩
 walk_at "go"
 exact q
theorem a0o{F:FF}{s1:S}{t:Nat}{ps:List Str}{d:D}{Q:Fl -> S -> Prop}(hF:1 <=k -> alk k F)(hm:1 <=m)(hm3:m <=3)(hn:n < s0.length)(hp:2 <=ps.length)(hp5:ps.length <=5)(nd:ps.Nodup)(pr: ∀x∈ps,prB x=true)(hc:c+3*(20+dr k)+390 < 2^40)(h:NsJ s0 n a c k m t ps (d::r) ρ s1):
  ∃ρ1,vt (.nm 6) d ρ=some ρ1/\(nsL F ρ1 s1).W (flW (NsJ s0 n a c k m t ps r) Q):=by
 obtain⟨P,j,c',u6,u7,rfl,ha,hl,hj,hcn,hP,fd,h2,sm,hs0⟩:=h
 simp only [av,Nat.add_mul,Nat.one_mul]at hl hj h2
 refine⟨[some (.ref n),some (.int ((k+1:Nat):Int)),some (.int m),some (.int (t:Int)),some (.lst (ps.map ac)),some (.ref a),some d,u7],rfl,?_⟩
 unfold nsL
 walk_at "go"
 by_cases hk:k=0
 ·subst hk
  walk_at "go"
  exact aoa hm hm3 hp hp5 nd pr hc ha hl hj hcn hP fd (by lia) sm (qj.refl _ _) hs0 hn
 ·have h1:(1:Int) < ((k+1:Nat):Int):=by lia
  rw [decide_eq_true h1]
  walk_at "go"
  refine R.W_mono (vh fd (by decide) (by decide) (by lia)) ?_
  rintro _ s2 ⟨i,rfl,h0,h3,fd2,sm2⟩
  walk_at "go"
  rw [aa9]
  by_cases hi:i=0
  ·rw [decide_eq_true hi]
   walk_at "go"
   exact a2o (hF (by lia)) (by lia) hm hm3 hp hp5 nd pr hc ha hl hj hcn hP fd2 (by lia) sm sm2 hs0 hn
  ·rw [decide_eq_false hi]
   walk_at "go"
   exact aoa hm hm3 hp hp5 nd pr hc ha hl hj hcn hP fd2 (by lia) sm sm2 hs0 hn
theorem a45{F:FF}:B_law_nest F=(jk (kj 4 (jn 2 yz (jb (jd 0) (jb (fOp (kh false) (fCB aix (jb (fC (.da (.int 2))) (jb (jd 3) jf))) (jn 2 jr (jb (jd 0) (jb (fC (.da (.int 3))) jf)))) jf))))
  (jk (kj 5 (kt true jf))
  (jk (ack (af0 (jb (jn 2 jr (jb (jd 0) (jb (fC (.da (.int 4))) jf))) jf)) (.nm 6) (nsL F))
  (jq (qv (jb (jd 2) (jb (fCB qb (jb (fSl false (jn 2 vb (jb (jd 0) (jb (jd 4) jf))) fNo (ko (jd 3))) jf)) (jb (fCB qb (jb (jd 5) jf)) jf)))))))):=rfl
theorem azp{j:Int}:aix [.int i,.int j] s=.ok (.int (if j > i then j else i)) s:=(rfl)
theorem max_two{t:Nat}:aix [.da (.int 2),.int (t:Int)] s=.ok (.int ((max 2 t:Nat):Int)) s:=by
 rw [show (D.da (.int 2))=.int 2 from rfl,azp]
 congr 2
 split <;> lia
theorem ama{F:FF}(hF:1 <=k -> alk k F):alk (k+1) (fun as s=> (B_law_nest F (as.map some++ [none,none,none,none]) s).bind j8):=by
 intro s n c m t fd hm hm3 ht hc
 have hn:=fd.lt
 simp only [dr]at hc
 refine⟨?_⟩
 rw [a45]
 simp only [aA,bv]
 walk_at "go"
 rw [max_two]
 walk_at "go"
 refine R.W_mono (vh fd (by decide) (by decide) (by lia)) ?_
 rintro _ s1 ⟨i,rfl,h0,h1,fd1,sm1⟩
 obtain⟨w,rfl⟩: ∃w:Nat,i=(w:Int):=⟨i.toNat,by lia⟩
 walk_at "go"
 rw [show (((max 2 t:Nat):Int)+(w:Int))=((max 2 t+w:Nat):Int) by lia]
 refine R.W_mono (ave fd1 (by lia) (by lia)) ?_
 rintro _ s2 ⟨ps,rfl,pl,nd,pr,fd2,sm2⟩
 walk_at "go"
 have x0:=Ext.add s2 [O.lst []]
 refine R.W_mono (vh (fd2.ext x0) (by decide) (by decide) (by lia)) ?_
 rintro _ s3 ⟨i,rfl,g0,g1,fd3,sm3⟩
 obtain⟨q,rfl⟩: ∃q:Nat,i=(q:Int):=⟨i.toNat,by lia⟩
 walk_at "go"
 rw [afc (by lia) (by lia)]
 walk_at "go"
 have hn2:n < s2.length:=fd2.lt
 have hl3:s2.length < s3.length:=aD (by simp) sm3.len
 refine y8 (NsJ s2 n s2.length (c+4) k m t ps) (fun d r ρ s' h=> a0o hF hm hm3 hn2 (by lia) (by lia) nd pr (by lia) h) ?_ _ _ _ ⟨.nil,0,c+4,_,_,rfl,?_,?_,?_,?_,?_,fd3,?_,x0.same n|>.trans sm3,ao _⟩
 ·rintro ρ s4 ⟨P,j,c',u6,u7,rfl,ha,hl,hj,hcn,hP,fd4,h4,sm4,_⟩
  walk_at "go"
  refine R.W_mono (aj8 fd4 (by rw [aj];lia) (by rw [aj];lia)) ?_
  rintro _ s5 ⟨ys,rfl,pm,fd5,sm5⟩
  obtain⟨qs,pmq,rfl⟩:=agz pm
  rw [aj]at fd5
  walk_at "go"
  rw [ak1 (xs:=P.ds) (by rw [sm5.get _ (by lia) (aq.mp ha).1];exact ha)]
  walk_at "go"
  rw [aa8,adg]
  have un:=ajv pmq t nd pr (k:=6) (by lia)
  simp only [ck,Nat.zero_mul,Nat.add_zero]at h4 hj
  refine⟨.mk m (qs.take t) P,rfl,?_,?_,?_,?_,((sm1.trans sm2).trans sm4).trans sm5⟩
  ·simp only [NtK];exact⟨trivial,un,hP⟩
  ·show (qs.take t).length=t
   rw [cw,pmq.length_eq];lia
  ·show P.cnt <=3*(1+cb k)
   exact aQ hcn (hG _ hj)
  ·refine fd5.le ?_
   show _ <=c+(20+3*(20+dr k))
   lia
 ·rw [sm3.get _ (by lia) (by simp)];simp [Ps.ds]
 ·simp [Ps.ds,v7];lia
 ·simp [v7];lia
 ·simp [Ps.cnt]
 ·simp [PsK]
 ·rw [v7]
  have:(q:Int).toNat <=3:=by lia
  have:=hG (20+dr k) this
  lia
theorem aoq: ∀k f:Nat,k < f -> alk (k+1) (v3 f)
 |0,f+1,_=> ama (k:=0) (F:=v3 f) (fun h=> absurd h (by decide))
 |k+1,f+1,h=> ama (F:=v3 f) (fun _=> aoq k f (by lia))
noncomputable def pn:List Str:=["pa","pb","pc","pd","pe","pf","pg","ph","pi","pj","pk","pl"]
theorem a4k: ∀i:Nat,i < 12 -> ("abcdefghijkl":Str).cps.toList[i]?=some (("abcdefghijkl":Str).cps.toList.getD i 0)/\("p":Str)++(⟨#[("abcdefghijkl":Str).cps.toList.getD i 0]⟩:Str)=pn.getD i "a":=by decide+kernel
theorem asm(n:Nat):ab6 0 n=(dm n).map fun i:Nat=> D.int (i:Int):=by
 apply List.ext_getElem?
 intro i
 by_cases hi:i < n
 ·rw [aio _ _ _ hi,aZ,List.getElem?_range hi];simp
 ·rw [gV (by rw [v7];lia),gV (by simp;lia)]
theorem aln{z:Str}(h:z.length <=16777216)(h2:z.cps.toList[k]?=some c):gIx (.da (.str z)) (.int (k:Int)) s=.ok (.str ⟨#[c]⟩) s:=by
 show (if z.length <=sizeLine then (match atI z.cps.toList (k:Int) with|some c=> R.ok (D.str ⟨#[c]⟩) s|none=>.bad) else .bad)=_
 rw [if_pos (by rw [kc];exact h),ag7 h2]
def psU(w:Nat):Prop:=((pn.take (10+w)).length <=12/\1 <=(pn.take (10+w)).length)/\(∀x∈("end":Str)::pn.take (10+w),prB x=true)/\(("end":Str)::pn.take (10+w)).Nodup/\(∀x∈("net":Str)::pn.take (10+w),prB x=true)/\(("net":Str)::pn.take (10+w)).Nodup/\((dm (10+w)).filter fun _=> true).map (fun i=> pn.getD i "a")=pn.take (10+w)
instance (w:Nat):Decidable (psU w):=by unfold psU;infer_instance
theorem ayi: ∀w:Nat,w < 3 -> psU w:=by decide+kernel
theorem arw:UnK (["net","end","pa","pb","pc","pd"]:List Str) 6:=⟨by decide,by decide+kernel,by decide+kernel⟩
theorem atq:UnK (["pa","pb"]:List Str) 2:=⟨by decide,by decide+kernel,by decide+kernel⟩
noncomputable def wP2:Ps:=.cons (.only "pa" "pb" []) .nil
def wP1(w:Nat):Ps:=.cons (.merge (pn.take (10+w)) "net") wP2
def wP0(w:Nat):Ps:=.cons (.copy "end" (pn.take (10+w))) (wP1 w)
def y1(w:Nat):Nat -> Ps
 |0=> wP0 w
 |1=> wP1 w
 |_=> wP2
theorem ayv(h:Fd s n c)(hc:c+2 < 2^40):DW (abl [.ref n] s) fun d s'=> ∃N:Nt,d=.da N.d/\NtK 3 N 1/\N.cnt <=120/\Fd s' n (c+2)/\qj n s s':=by
 refine⟨?_⟩
 rw [aqn];unfold B_law_wide
 walk_at "go"
 refine R.W_mono (vh h (by decide) (by decide) (by lia)) ?_
 rintro _ s1 ⟨i,rfl,h0,h1,fd1,sm1⟩
 obtain⟨w,rfl⟩: ∃w:Nat,i=(w:Int):=⟨i.toNat,by lia⟩
 walk_at "go"
 rw [afc (by lia) (by lia),show ((10:Int)+(w:Int)).toNat=10+w by lia,asm]
 walk_at "go"
 rw [zu (ρ0:=[none]) (by simp;lia) rfl]
 rw [zj (fun i:Nat=> D.int (i:Int)) (fun _=> true) (fun i=>.str (pn.getD i "a")) (dm (10+w)) (fun i hi=> ⟨_,ag6,rfl,fun _=> by
  have hi:i < 12:=by have:=gJ.mp hi;lia
  obtain⟨e1,e2⟩:=a4k i hi
  walk_at "ev"
  rw [aln (by decide) e1]
  walk_at "ev"
  rw [aue (by show 1+1 <=_;decide),e2]⟩)]
 obtain⟨⟨l1,l2⟩,p1,n1,p2,n2,e⟩:=ayi w (by lia)
 rw [show ((dm (10+w)).filter fun _=> true).map (fun i=> ac (pn.getD i "a"))=(pn.take (10+w)).map ac by rw [←e,aU];rfl]
 walk_at "go"
 generalize hL:List.cons (PyData.tuple [.str "copy",_,_]) _=L
 have hL:L=(y1 w 0).ds:=hL.symm
 refine R.W_mono (vh fd1 (by decide) (by decide) (by lia)) ?_
 rintro _ s2 ⟨i,rfl,g0,g1,fd2,sm2⟩
 obtain⟨q,rfl⟩: ∃q:Nat,i=(q:Int):=⟨i.toNat,by lia⟩
 walk_at "go"
 have ll:L.length=3:=by rw [hL];simp [y1,wP0,wP1,wP2,Ps.ds]
 rw [ah5 _ _ (by lia)]
 have P1:PtK 3 (.copy "end" (pn.take (10+w))) 1:=by simp only [PtK,FlK];exact⟨l2,by simp only [av];lia,p1,n1⟩
 have P2:PtK 3 (.merge (pn.take (10+w)) "net") 1:=by simp only [PtK,FlK];exact⟨l2,by simp only [av];lia,p2,n2⟩
 have P3:PtK 3 (.only "pa" "pb" []) 1:=by simp only [PtK,FlK];exact⟨atq,by simp,by simp,fS⟩
 have hq:L.drop q=(y1 w q).ds/\PsK 3 (y1 w q) 1/\(y1 w q).cnt <=120:=by
  rw [hL]
  match q,g1 with
  |0,_=> refine⟨rfl,?_,by simp [y1,wP0,wP1,wP2,Ps.cnt,Pt.cnt]⟩;simp only [y1,wP0,wP1,wP2,PsK];exact⟨P1,P2,P3,trivial⟩
  |1,_=> refine⟨rfl,?_,by simp [y1,wP0,wP1,wP2,Ps.cnt,Pt.cnt]⟩;simp only [y1,wP0,wP1,wP2,PsK];exact⟨P2,P3,trivial⟩
  |2,_=> refine⟨rfl,?_,by simp [y1,wP0,wP1,wP2,Ps.cnt,Pt.cnt]⟩;simp only [y1,wP0,wP1,wP2,PsK];exact⟨P3,trivial⟩
 rw [hq.1]
 refine⟨.mk 3 ["net","end","pa","pb","pc","pd"] (y1 w q),rfl,?_,hq.2.2,fd2,sm1.trans sm2⟩
 simp only [NtK];exact⟨trivial,arw,hq.2.1⟩
end Ln
namespace PF
open PySem L2
theorem af5{s:S}{ft:FT}{fe:FE}{jp:En}{all:List D}(pr:ag -> Bool)(f:ag -> D): ∀(xs:List ag),(∀x∈xs,ft (some (.da x)::jp) s=.ok (pr x) s) -> (∀x∈xs,pr x=true -> fe (some (.da x)::jp) s=.ok (f x) s) ->
  vd (.nm 0) ft fe (none::jp) (all,none) (xs.map D.da) s=.ok ((xs.filter pr).map f) s
 |[],_,_=> rfl
 |x::r,h1,h2=> by
  have ih:=af5 (all:=all) pr f r (fun y hy=> h1 y (az _ hy)) (fun y hy=> h2 y (az _ hy))
  rw [aA,af1 ag6,h1 x aC,R.bind_ok']
  cases q:pr x with
  |false=> rw [amn,ih,gk (by rw [q];exact ax)]
  |true=> rw [amt,h2 x aC q,R.bind_ok',amf,ih,R.bind_ok',aj5,gm q,aA]
theorem anr: ∀bs:List Bool,adx (bs.map D.bl)=some bs
 |[]=> rfl
 |b::r=> by rw [aA,adx,anr r]
theorem adw{bs:List Bool}:ae9 [.lst (bs.map bH)] s=.ok (.bl (bs.all id)) s:=by
 show (match (some ((bs.map bH).map D.da)).bind adx with|some bs=> R.ok (D.bl (bs.all id)) s|none=>.bad)=_
 rw [show (bs.map bH).map D.da=bs.map D.bl by rw [aU];rfl]
 show (match adx (bs.map D.bl) with|some bs=> R.ok (D.bl (bs.all id)) s|none=>.bad)=_
 rw [anr]
theorem all_map{f:ag -> Bool}:ae9 [.lst (xs.map fun x=>.bool (f x))] s=.ok (.bl (xs.all f)) s:=by
 have:xs.map (fun x=> bH (f x))=(xs.map f).map bH:=by rw [aU];rfl
 rw [this,adw,gg];rfl
end PF
namespace Ln
open PySem L2 PF
theorem yj{α:Type}(l:List α)(t:Nat):qd l (some (t:Int)) none=l.drop t:=by
 by_cases h:t <=l.length
 ·exact ah5 l t h
 ·unfold qd
  rw [HT.sIx_nat,HT.sIx_none,Nat.min_eq_right (by lia),List.drop_length,cy (by lia)]
  simp
noncomputable def alu:ag -> Bool
 |.int _=> true
 |_=> false
noncomputable def afi(m:Int):ag -> Bool
 |.int i=> decide (0 <=i)&&decide (i < m)
 |_=> false
theorem aoj{d:ag}:ab1 [.da d] s=.ok (.bl (alu d)) s:=by
 rw [ar5];unfold Bis_whole
 walk_at "ev"
 cases d <;> simp only [aah] <;> rfl
theorem azh{d:ag}:act [.int m,.da d] s=.ok (.bl (afi m d)) s:=by
 rw [arx];unfold Bis_below
 walk_at "ev"
 rw [aoj]
 cases d with
 | int i=>
  simp only [alu]
  walk_at "ev"
  by_cases h0:0 <=i
  ·simp only [h0,decide_true,afi]
   walk_at "ev"
  ·simp only [h0,decide_false,afi]
   walk_at "ev"
 |_=> rfl
theorem ayr{d:ag}:zh [.int m,.da d] s=.ok (.bl (afi m d)) s:=by
 rw [atr];unfold Bis_thing
 walk_at "ev"
 rw [azh];rfl
noncomputable def ag9(c:Nat):Bool:=decide (97 <=c)&&decide (c <=122)
def aap(x:Str):Bool:=(decide (1 <=x.length)&&decide (x.length <=8))&&x.cps.toList.all ag9
def yv:ag -> Bool
 |.str x=> aap x
 |_=> false
noncomputable def asc(x:Str):Bool:=x.cps.toList.all fun c=> decide (32 <=c)&&decide (c < 127)
theorem ao0(h:asc x=true):x.cps.all (· < 128)=true:=by
 unfold asc at h
 simp only [aH,aF,decide_eq_true_eq]at h
 (rw [←dq,aH])
 intro c hc
 have:=h c hc
 (exact decide_eq_true (by lia))
theorem ajs(x:Str):aax x=x.cps.toList.map fun c=> D.str ⟨#[c]⟩:=by first|rfl|(unfold aax;rfl)
theorem a2j{d:ag}(h: ∀x,d=.str x -> asc x=true/\x.length <=100000):aec [.da d] s=.ok (.bl (yv d)) s:=by
 rw [auk];unfold Bis_port
 walk_at "ev"
 cases d with
 | str x=>
  obtain⟨ha,hl⟩:=h x rfl
  rw [show aah (.str x) "str"=true from rfl]
  walk_at "ev"
  rw [len_str (by lia)]
  walk_at "ev"
  show _=R.ok (D.bl (aap x)) s
  unfold aap
  by_cases h1:1 <=x.length
  ·rw [decide_eq_true (show (1:Int) <=(x.length:Int) by lia),decide_eq_true h1]
   walk_at "ev"
   by_cases h2:x.length <=8
   ·rw [decide_eq_true (show (x.length:Int) <=8 by lia),decide_eq_true h2]
    walk_at "ev"
    rw [axm]
    walk_at "ev"
    rw [ank (ao0 ha)]
    walk_at "ev"
    rw [ajs,zu (ρ0:=[none]) (by rw [aj,bo];show x.length <=_;lia) rfl]
    rw [zj (fun c:Nat=> D.str ⟨#[c]⟩) (fun _=> true) (fun c=> bH (ag9 c)) x.cps.toList (fun c hc=> ⟨[some (.str ⟨#[c]⟩)],rfl,rfl,fun _=> by
     walk_at "ev"
     rw [ato,aw8 (ao0 ha) c hc];rfl⟩)]
    (rw [bS.mpr (fun _ _=> rfl)])
    walk_at "ev"
    rw [show x.cps.toList.map (fun c=> bH (ag9 c))=(x.cps.toList.map ag9).map bH by rw [aU];rfl,adw,gg]
    rfl
   ·rw [decide_eq_false (show¬(x.length:Int) <=8 by lia),decide_eq_false h2]
    walk_at "ev"
  ·rw [decide_eq_false (show¬(1:Int) <=(x.length:Int) by lia),decide_eq_false h1]
   walk_at "ev"
 |_=> rfl
inductive Lf (n:Nat):ag -> Prop
 |none:Lf n .none
 |bool (b:Bool):Lf n (.bool b)
 |int {i:Int}:i.natAbs <=1000000000000000000000000000000+2*n -> Lf n (.int i)
 |str {x:Str}:asc x=true -> x.length <=40*4^n -> Lf n (.str x)
 |tup {ds:List ag}:ds.length <=30+n -> (∀x∈ds,Lf n x) -> Lf n (.tuple ds)
 |lst {ds:List ag}:ds.length <=30+n -> (∀x∈ds,Lf n x) -> Lf n (.list ds)
 |dct:Lf n (.dict [])
def aq9(ds:List ag):List Str:=ds.filterMap fun d=> match d with
 |.str x=> some x
 |_=> none
theorem ajg(xs:List Str):aq9 (xs.map ac)=xs:=by
 induction xs with
 |nil=> rfl
 |cons x r ih=>
  show x::aq9 (r.map ac)=_
  rw [ih]
theorem aju: ∀{ds:List ag},ds.all yv=true -> ∃ss:List Str,ds=ss.map .str/\ ∀x∈ss,aap x=true
 |[],_=> ⟨[],rfl,fun _ h=> by cases h⟩
 |d::r,h=> by
  (rw [er,aF]at h)
  obtain⟨ss,rfl,hs⟩:=aju h.2
  cases d with
  | str x=> exact⟨x::ss,rfl,fun y hy=> by
    rcases aw.mp hy with z|z
    ·subst z;exact h.1
    ·exact hs y z⟩
  |_=> exact absurd h.1 ax
def aek(ds:List ag):Bool:=decide ((kg (aq9 ds)).length=ds.length)
def ag0:ag -> Bool
 |.tuple ds=> ds.all yv&&aek ds
 |_=> false
def axc:ag -> Bool
 |.tuple ds=> (ds.all yv&&aek ds)&&decide (ds.length <=6)
 |_=> false
theorem a28{d:ag}(h:Lf n d)(hn:n <=5): ∀x,d=.str x -> asc x=true/\x.length <=100000:=by
 rintro x rfl
 cases h with
 |str a b=> exact⟨a,aQ b (aQ (Nat.mul_le_mul_left _ (Nat.pow_le_pow_right (by decide) hn)) (by decide))⟩
theorem amu{d:ag}(h:Lf n d)(hn:n <=5):kz [.da d] s=.ok (.bl (ag0 d)) s:=by
 rw [agf];unfold Bare_unlike_ports
 walk_at "ev"
 cases h with
 | @tup ds hl hx=>
  rw [show aah (.tuple ds) "tuple"=true from rfl]
  walk_at "ev"
  rw [zu (ρ0:=[none]) (by rw [aj];lia) rfl]
  rw [af5 (fun _=> true) (fun x=> D.bl (yv x)) ds (fun x _=> rfl) (fun x hm _=> by
   walk_at "ev"
   rw [a2j (a28 (hx x hm) hn)]),bS.mpr (fun _ _=> rfl)]
  rw [show ds.map (fun x=> D.bl (yv x))=(ds.map fun x=> bH (yv x)).map D.da by rw [aU];rfl]
  walk_at "ev"
  rw [all_map]
  show _=R.ok (D.bl (ds.all yv&&aek ds)) s
  cases hp:ds.all yv with
  |false=> walk_at "ev"
  |true=>
   walk_at "ev"
   obtain⟨ss,rfl,hs⟩:=aju hp
   rw [aj]at hl
   rw [aps (by lia)]
   walk_at "ev"
   rw [aa9]
   walk_at "ev"
   unfold aek
   rw [ajg]
   have e:(((kg ss).length:Int)=((ss.map ac).length:Int))=((kg ss).length=(ss.map ac).length):=propext (by lia)
   congr 3
 |_=> rfl
theorem a1r{d:ag}(h:Lf n d)(hn:n <=5):aab [.da d] s=.ok (.bl (axc d)) s:=by
 rw [av4];unfold Bis_seen
 walk_at "ev"
 rw [amu h hn]
 cases h with
 | @tup ds hl hx=>
  show _=R.ok (D.bl ((ds.all yv&&aek ds)&&decide (ds.length <=6))) s
  rw [show ag0 (.tuple ds)=(ds.all yv&&aek ds) from rfl]
  cases ds.all yv&&aek ds with
  |false=> walk_at "ev"
  |true=>
   walk_at "ev"
   have e:((ds.length:Int) <=6)=(ds.length <=6):=propext (by lia)
   congr 3
 |_=> rfl
theorem anl(h0:0 <=i)(h1:i <=2000):aiw (kq i)=true:=by
 obtain⟨n,rfl⟩: ∃n:Nat,i=(n:Int):=⟨i.toNat,by lia⟩
 exact ayj n (by lia)
theorem ay3(h:aiw x=true):1 <=x.length/\x.length <=4:=by
 unfold aiw at h
 simp only [aF,decide_eq_true_eq]at h
 exact h.1
theorem aq2: ∀c:Nat,c < 58 -> 48 <=c -> amh (bi "0123456789") ⟨#[c]⟩=true:=by decide+kernel
theorem awa: ∀c:Nat,c < 58 -> 48 <=c -> c≠48 -> (⟨#[c]⟩:Str)≠bi "0":=by decide+kernel
theorem aus{r:List Nat}(h:x.cps.toList=c::r)(hl:x.length <=1000):gIx (.str x) (.int 0) s=.ok (.str ⟨#[c]⟩) s:=by
 show (if x.length <=sizeLine then (match atI x.cps.toList 0 with|some c=> R.ok (D.str ⟨#[c]⟩) s|none=>.bad) else .bad)=_
 rw [if_pos (by rw [kc];lia),h]
 have:atI (c::r) 0=some c:=by
  unfold atI ixN
  rw [if_pos (by decide),if_pos (by simp)]
  rfl
 rw [this]
theorem ahd(h0:0 <=i)(h1:i <=2000):yr [.str (kq i)] s=.ok (.int i) s:=by
 have hd:=anl h0 h1
 have rd:fy (kq i)=some i:=PySem.W.KIN.num_reads h0 (by lia)
 obtain⟨l1,l4⟩:=ay3 hd
 generalize kq i=x at hd rd l1 l4⊢
 unfold aiw at hd
 simp only [aF,eT,decide_eq_true_eq,aH]at hd
 obtain⟨_,hs,hz⟩:=hd
 have a128:x.cps.all (· < 128)=true:=by
  (rw [←dq,aH])
  intro c hc
  have:=(hs c hc).2
  (exact decide_eq_true (by lia))
 rw [aq6];unfold aea
 walk_at "ev"
 rw [len_str (by lia)]
 walk_at "ev"
 rw [decide_eq_true (show (1:Int) <=(x.length:Int) by lia)]
 walk_at "ev"
 rw [decide_eq_true (show (x.length:Int) <=4 by lia)]
 walk_at "ev"
 rw [axm]
 walk_at "ev"
 rw [ank a128]
 walk_at "ev"
 rw [ajs,zu (ρ0:=[none]) (by rw [aj,bo];show x.length <=_;lia) rfl]
 rw [zj (fun c:Nat=> D.str ⟨#[c]⟩) (fun _=> true) (fun _=> bH true) x.cps.toList (fun c hc=> ⟨[some (.str ⟨#[c]⟩)],rfl,rfl,fun _=> by
  walk_at "ev"
  rw [ato,aq2 c (by have:=(hs c hc).2;lia) (hs c hc).1]⟩)]
 (rw [bS.mpr (fun _ _=> rfl)])
 walk_at "ev"
 rw [show x.cps.toList.map (fun _=> bH true)=(x.cps.toList.map fun _=> true).map bH by rw [aU];rfl,adw,gg]
 rw [show x.cps.toList.all (id∘fun _=> true)=true from aH.mpr fun _ _=> rfl]
 walk_at "ev"
 obtain⟨c,r,hx⟩: ∃c r,x.cps.toList=c::r:=by
  match q:x.cps.toList with
  |[]=>
   have:x.cps.toList.length=x.length:=bo
   rw [q]at this
   simp at this
   lia
  |c::r=> exact⟨c,r,rfl⟩
 rw [aus hx (by lia)]
 walk_at "ev"
 have hc:=hs c (by rw [hx];exact aC)
 have ge: ∀s:S,gEq (.str ⟨#[c]⟩) (.da (.str "0")) s=.ok (.bl (decide ((⟨#[c]⟩:Str)="0"))) s:=fun s=> rfl
 rw [ge]
 by_cases h48:c=48
 ·subst h48
  rw [hx]at hz
  have hl1:x.length=1:=hz.elim (fun h=> absurd rfl h) id
  rw [show decide ((⟨#[48]⟩:Str)="0")=true by decide]
  walk_at "ev"
  rw [len_str (by lia)]
  walk_at "ev"
  rw [hl1,show decide ((1:Int) < ((1:Nat):Int))=false from rfl]
  walk_at "ev"
  rw [ao7 rd (by lia)]
  walk_at "ev"
 ·rw [decide_eq_false (awa c (by lia) hc.1 h48)]
  walk_at "ev"
  rw [ao7 rd (by lia)]
  walk_at "ev"
theorem am2:bi " "=⟨#[32]⟩:=by decide
structure WdK (w:Str):Prop where
 l:w.length <=8
 f:32∉w.cps.toList
 a: ∀c∈w.cps.toList,c < 128
theorem azj(h:aap x=true):WdK x:=by
 unfold aap at h
 simp only [aF,decide_eq_true_eq,aH,ag9]at h
 exact⟨h.1.2,fun m=> by have:=(h.2 32 m).1;lia,fun c hc=> by have:=(h.2 c hc).2;lia⟩
theorem adi(h0:0 <=i)(h1:i <=2000):WdK (kq i):=by
 have hd:=anl h0 h1
 unfold aiw at hd
 simp only [aF,eT,decide_eq_true_eq,aH]at hd
 exact⟨by lia,fun m=> by have:=(hd.2.1 32 m).1;lia,fun c hc=> by have:=(hd.2.1 c hc).2;lia⟩
theorem a24{ws:List Str}(h: ∀w∈ws,WdK w):(ws.map (·.length)).sum <=8*ws.length:=by
 induction ws with
 |nil=> simp
 |cons w r ih=>
  have:=ih fun x hx=> h x (az _ hx)
  have h1:=(h w aC).l
  (simp only [aA,List.sum_cons,av])
  lia
theorem aom{ws:List Str}(h: ∀w∈ws,WdK w):(a9 " " ws).length <=9*ws.length:=by
 have:=StrLaws.join_length_le " " ws
 have s8:=a24 h
 rw [show (bi " ").length=1 from rfl]at this
 lia
theorem auf{w:Str}{ws:List Str}(h: ∀x∈w::ws,WdK x)(hl:(w::ws).length <=100):ace false (.str (a9 " " (w::ws))) [.str " "] s=.ok (.lst ((w::ws).map ac)) s:=by
 have e:bR (a9 " " (w::ws)) " "=w::ws:=by
  rw [am2];exact apm fun x hx=> (h x hx).f
 have jl:=aom h
 rw [auw rfl (by rw [kc];lia) (by rw [e,kc];lia),e]
theorem zm{ws:List Str}(h: ∀x∈ws,WdK x)(hl:ws.length <=100):xm (.str " ") [.lst (ws.map ac)] s=.ok (.str (a9 " " ws)) s:=by
 rw [awi (a29 (by decide) (by lia) fun w hw=> by have:=(h w hw).l;lia),aw3]
theorem abe(h:prB x=true):WdK x:=azj h
def ai1:List ag -> Bool
 |x::y::r=> ltb x y&&ai1 (y::r)
 |_=> true
theorem avn{a b:ag}(h:(ltP a b).isSome=true):ltP a b=some (ltb a b):=by
 unfold ltb
 match ltP a b,h with
 |some true,_=> rfl
 |some false,_=> rfl
theorem amd: ∀xs:List ag,((xs.zip (xs.drop 1)).map fun p=> ltb p.1 p.2).all id=ai1 xs
 |[]=> rfl
 |[_]=> rfl
 |x::y::r=> by
  have ih:=amd (y::r)
  simp only [List.drop_succ_cons,gR,List.zip_cons_cons,aA,er,id]at ih⊢
  rw [ih];rfl
theorem a0t{p:ag×ag}(h:p∈xs.zip (xs.drop 1)):p.1∈xs/\p.2∈xs:=⟨(dF h).1,eZ (dF h).2⟩
structure CmpR (xs:List ag):Prop where
 lt: ∀a∈xs,∀b∈xs,(ltP a b).isSome=true
 ok: ∀a∈xs,okD a=true
theorem av1(h:CmpR xs)(hl:xs.length <=1000):abg [.tup xs] s=.ok (.bl (ai1 xs)) s:=by
 rw [ap2];unfold Bis_rising
 walk_at "ev"
 rw [show qd xs (some 1) none=xs.drop 1 from yj xs 1]
 rw [zu (ρ0:=[none,none]) (by rw [aj,List.length_zip];lia) rfl]
 rw [zj (fun p:ag×ag=> D.tup [p.1,p.2]) (fun _=> true) (fun p=> bH (ltb p.1 p.2)) (xs.zip (xs.drop 1)) (fun p hp=> ⟨[some (.da p.1),some (.da p.2)],rfl,rfl,fun _=> by
  obtain⟨m1,m2⟩:=a0t hp
  walk_at "ev"
  rw [ayu (avn (h.lt _ m1 _ m2)) (h.ok _ m1) (h.ok _ m2)]⟩),bS.mpr (fun _ _=> rfl)]
 walk_at "ev"
 rw [show (xs.zip (xs.drop 1)).map (fun p=> bH (ltb p.1 p.2))=((xs.zip (xs.drop 1)).map fun p=> ltb p.1 p.2).map bH by rw [aU];rfl,adw,amd]
 rfl
theorem ayg(h:aap x=true):Lf 0 (.str x):=by
 unfold aap at h
 simp only [aF,decide_eq_true_eq,aH,ag9]at h
 refine .str ?_ (by lia)
 unfold asc
 rw [aH]
 intro c hc
 have:=h.2 c hc
 (simp only [aF,decide_eq_true_eq])
 lia
theorem amy(h: ∀x∈ss,aap x=true)(hl:ss.length <=13):Lf 0 (.tuple (ss.map ac)):=.tup (by rw [aj];lia) fun d hd=> by
 obtain⟨x,hx,rfl⟩:=b6.mp hd
 exact ayg (h x hx)
theorem ajf(hp: ∀x∈ss,aap x=true)(nd:ss.Nodup):ag0 (.tuple (ss.map ac))=true:=by
 show ((ss.map ac).all yv&&aek (ss.map ac))=true
 rw [aF]
 refine⟨?_,?_⟩
 ·rw [gg,aH];exact fun x hx=> hp x hx
 ·unfold aek
  rw [ajg,aj]
  exact decide_eq_true (by rw [ap3 nd])
theorem ah3(h:UnK ss k)(hk:k <=13):kz [.tup (ss.map ac)] s=.ok (.bl true) s:=by
 have:=amu (s:=s) (amy h.p (aQ h.l hk)) (by decide)
 rw [ajf h.p h.n]at this
 exact this
theorem asw(h:UnK ss 6):aab [.tup (ss.map ac)] s=.ok (.bl true) s:=by
 have:=a1r (s:=s) (amy h.p (aQ h.l (by decide))) (by decide)
 rw [show axc (.tuple (ss.map ac))=(ag0 (.tuple (ss.map ac))&&decide ((ss.map ac).length <=6)) from rfl,ajf h.p h.n,decide_eq_true (by rw [aj];exact h.l)]at this
 exact this
theorem aol(h:0 <=i/\i < m):zh [.int m,.int i] s=.ok (.bl true) s:=by
 have:=ayr (m:=m) (d:=.int i) (s:=s)
 rw [show afi m (.int i)=(decide (0 <=i)&&decide (i < m)) from rfl,decide_eq_true h.1,decide_eq_true h.2]at this
 exact this
theorem a26{h:Option Int}(hh: ∀i,h=some i -> 0 <=i/\i < m):aai [.int m,.da (hD h)] s=.ok (.bl true) s:=by
 rw [avk];unfold Bis_held
 cases h with
 |none=> walk_at "ev";rfl
 |some i=>
  walk_at "ev"
  rw [show isN (.da (hD (some i)))=false from rfl]
  walk_at "ev"
  rw [show (D.da (hD (some i)))=.int i from rfl,aol (hh i rfl)]
  rfl
theorem ann(i j:Int):ltP (.int i) (.int j)=some (decide (i < j)):=by rw [anz]
theorem ajy: ∀ts:List Int,ts.Pairwise (· < ·) -> ai1 (ts.map aP)=true
 |[],_=> rfl
 |[_],_=> rfl
 |i::j::r,h=> by
  have h1:=List.pairwise_cons.mp h
  have ih:=ajy (j::r) h1.2
  show (ltb (.int i) (.int j)&&ai1 ((j::r).map aP))=true
  rw [ih,Bool.and_true]
  unfold ltb
  rw [ann,decide_eq_true (h1.1 j (by simp))]
theorem a2w{ts:List Int}(h: ∀t∈ts,0 <=t/\t < m)(hl:ts.length <=3)(pw:ts.Pairwise (· < ·)):ac8 [.int m,.tup (ts.map aP)] s=.ok (.bl true) s:=by
 rw [au0];unfold Bis_told
 walk_at "ev"
 rw [show aah (.tuple (ts.map aP)) "tuple"=true from rfl]
 walk_at "ev"
 rw [zu (ρ0:=[none,some (.int m)]) (by simp;lia) rfl]
 rw [af5 (fun _=> true) (fun _=> D.bl true) (ts.map aP) (fun x _=> rfl) (fun x hx _=> by
  obtain⟨i,hi,rfl⟩:=b6.mp hx
  walk_at "ev"
  exact aol (h i hi))]
 rw [bS.mpr (fun _ _=> rfl),show (ts.map aP).map (fun _=> D.bl true)=((ts.map fun _=> true).map bH).map D.da by simp only [aU];rfl]
 walk_at "ev"
 rw [adw,show (ts.map fun _=> true).all id=true by simp]
 walk_at "ev"
 rw [av1 ⟨fun a ha b hb=> ?_,fun a ha=> ?_⟩ (by simp;lia),ajy ts pw]
 ·rfl
 ·obtain⟨i,_,rfl⟩:=b6.mp ha
  obtain⟨j,_,rfl⟩:=b6.mp hb
  rw [ann];rfl
 ·obtain⟨i,_,rfl⟩:=b6.mp ha
  rfl
theorem ath{a:Str}{bs:List Str}(h1:1 <=bs.length)(h:UnK (a::bs) 13):ya [.str a,.tup (bs.map ac)] s=.ok (.bl true) s:=by
 have hl:bs.length <=12:=by have:=h.l;simp only [av]at this;lia
 rw [av3];unfold Bis_knot
 walk_at "ev"
 rw [show aah (.tuple (bs.map ac)) "tuple"=true from rfl]
 walk_at "ev"
 rw [aj,decide_eq_true (show (1:Int) <=(bs.length:Int) by lia)]
 walk_at "ev"
 rw [decide_eq_true (show (bs.length:Int) <=(12:Int) by lia)]
 walk_at "ev"
 rw [ahc (by rw [aj];simp;lia)]
 walk_at "ev"
 rw [show ac a::bs.map ac=(a::bs).map ac from rfl,ah3 h (by decide)]
 rfl
theorem ao3{w:Str}(h1:okD (.str w)=true)(h2: ∀x∈ss,okD (.str x)=true):gIn (.str w) (.con (ss.map ac)) s=.ok (.bl (decide (w∈ss))) s:=by
 show (if okD (.str w)=true/\(ss.map ac).all okD=true then R.ok (D.bl (nb false ((ss.map ac).any fun d=> aJ d (.str w)))) s else .bad)=_
 rw [if_pos ⟨h1,all_strs h2⟩,agv];rfl
structure WF (w:Str) (c m n o h f:Bool):Prop where
 c: ∀s:S,gEq (.da (.str w)) (.da (.str "copy")) s=.ok (.bl c) s
 m: ∀s:S,gEq (.da (.str w)) (.da (.str "merge")) s=.ok (.bl m) s
 n: ∀s:S,gEq (.da (.str w)) (.da (.str "net")) s=.ok (.bl n) s
 o: ∀s:S,gEq (.da (.str w)) (.da (.str "only")) s=.ok (.bl o) s
 h: ∀s:S,gIn (.da (.str w)) (.con (cj ac ["place","last"])) s=.ok (.bl h) s
 f: ∀s:S,gIn (.da (.str w)) (.con (cj ac ["both","loose","drain","either"])) s=.ok (.bl f) s
structure WT (w:Str) (c m n o h f:Bool):Prop where
 k:okD (.str w)=true
 c:decide (w="copy")=c
 m:decide (w="merge")=m
 n:decide (w="net")=n
 o:decide (w="only")=o
 h:decide (w∈(["place","last"]:List Str))=h
 f:decide (w∈(["both","loose","drain","either"]:List Str))=f
theorem WT.wf{w:Str}{c m n o h f:Bool}(t:WT w c m n o h f):WF w c m n o h f where
 c _:=kb ⟨t.k,by decide+kernel,t.c⟩ _
 m _:=kb ⟨t.k,by decide+kernel,t.m⟩ _
 n _:=kb ⟨t.k,by decide+kernel,t.n⟩ _
 o _:=kb ⟨t.k,by decide+kernel,t.o⟩ _
 h _:=by rw [←t.h];exact ao3 t.k (by decide+kernel)
 f _:=by rw [←t.f];exact ao3 t.k (by decide+kernel)
theorem adn{w:Str}(hw:w∈(["both","loose","drain","either"]:List Str)):WF w false false false false false true:=by
 have: ∀w∈(["both","loose","drain","either"]:List Str),okD (.str w)=true/\decide (w="copy")=false/\decide (w="merge")=false/\decide (w="net")=false/\decide (w="only")=false/\decide (w∈(["place","last"]:List Str))=false:=by decide+kernel
 obtain⟨a,b,c,d,e,f⟩:=this w hw
 exact (WT.mk a b c d e f (decide_eq_true hw)).wf
theorem abq{w:Str}(hw:w∈(["place","last"]:List Str)):WF w false false false false true false:=by
 have: ∀w∈(["place","last"]:List Str),okD (.str w)=true/\decide (w="copy")=false/\decide (w="merge")=false/\decide (w="net")=false/\decide (w="only")=false/\decide (w∈(["both","loose","drain","either"]:List Str))=false:=by decide+kernel
 obtain⟨a,b,c,d,e,f⟩:=this w hw
 exact (WT.mk a b c d e (decide_eq_true hw) f).wf
theorem yq:WF "only" false false false true false false:=(WT.mk (by decide+kernel) (by decide+kernel) (by decide+kernel) (by decide+kernel) (by decide+kernel) (by decide+kernel) (by decide+kernel)).wf
theorem aac:WF "copy" true false false false false false:=(WT.mk (by decide+kernel) (by decide+kernel) (by decide+kernel) (by decide+kernel) (by decide+kernel) (by decide+kernel) (by decide+kernel)).wf
theorem ym:WF "merge" false true false false false false:=(WT.mk (by decide+kernel) (by decide+kernel) (by decide+kernel) (by decide+kernel) (by decide+kernel) (by decide+kernel) (by decide+kernel)).wf
theorem an7:WF "net" false false true false false false:=(WT.mk (by decide+kernel) (by decide+kernel) (by decide+kernel) (by decide+kernel) (by decide+kernel) (by decide+kernel) (by decide+kernel)).wf
theorem al1{a b c:ag}{r:List ag}:qd (a::b::c::r) (some 1) (some 3)=[b,c]:=by
 rw [show (1:Int)=((1:Nat):Int) from rfl,show (3:Int)=((3:Nat):Int) from rfl,aof];simp
theorem aay{j:Int}:gEq (.int i) (.da (.int j)) s=.ok (.bl (decide (i=j))) s:=aa9
theorem az7{w a b:Str}(hw:w∈(["both","loose","drain","either"]:List Str))(h:UnK [a,b] 2):vw [.int m,.da (Pt.two w a b).d] s=.ok (.bl true) s:=by
 have W:=adn hw
 rw [aba];unfold Bis_flat_part
 simp only [Pt.d]
 walk_at "ev"
 rw [show aah (.tuple [.str w,.str a,.str b]) "tuple"=true from rfl]
 walk_at "ev"
 rw [decide_eq_true (show (3:Int) <=((3:Nat):Int) by decide)]
 walk_at "ev"
 rw [decide_eq_true (show ((3:Nat):Int) <=(4:Int) by decide)]
 walk_at "ev"
 rw [aay,decide_eq_false (by decide)]
 walk_at "ev"
 rw [W.c]
 walk_at "ev"
 rw [W.m]
 walk_at "ev"
 rw [W.f]
 walk_at "ev"
 rw [show qd [ac w,ac a,ac b] (some 1) none=[a,b].map ac from yj _ 1,ah3 h (by decide)]
 rfl
theorem aoi{w a b:Str}{x:ag}{c mm n o h f:Bool}(W:WF w c mm n o h f)(u:UnK [a,b] 2)(k:if h=true then aai [.int m,.da x] s=.ok (.bl true) s else o=true/\ac8 [.int m,.da x] s=.ok (.bl true) s):vw [.int m,.da (.tuple [.str w,.str a,.str b,x])] s=.ok (.bl true) s:=by
 rw [aba];unfold Bis_flat_part
 walk_at "ev"
 rw [show aah (.tuple [.str w,.str a,.str b,x]) "tuple"=true from rfl]
 walk_at "ev"
 rw [decide_eq_true (show (3:Int) <=((4:Nat):Int) by decide)]
 walk_at "ev"
 rw [decide_eq_true (show ((4:Nat):Int) <=(4:Int) by decide)]
 walk_at "ev"
 rw [aay,decide_eq_true (by decide)]
 walk_at "ev"
 rw [al1,show [ac a,ac b]=[a,b].map ac from rfl,ah3 u (by decide)]
 walk_at "ev"
 rw [W.h]
 cases h with
 |true=>
  walk_at "ev"
  rw [show aai [.int m,.da x] s=.ok (.bl true) s from k]
  rfl
 |false=>
  obtain⟨rfl,k⟩:=k
  walk_at "ev"
  rw [W.o]
  walk_at "ev"
  rw [k]
  rfl
theorem aob{w:Str}{x y:ag}{c n o h f:Bool}(W:WF w c (!c) n o h f)(k:if c=true then ya [.da x,.da y] s=.ok (.bl true) s else ya [.da y,.da x] s=.ok (.bl true) s):vw [.int m,.da (.tuple [.str w,x,y])] s=.ok (.bl true) s:=by
 rw [aba];unfold Bis_flat_part
 walk_at "ev"
 rw [show aah (.tuple [.str w,x,y]) "tuple"=true from rfl]
 walk_at "ev"
 rw [decide_eq_true (show (3:Int) <=((3:Nat):Int) by decide)]
 walk_at "ev"
 rw [decide_eq_true (show ((3:Nat):Int) <=(4:Int) by decide)]
 walk_at "ev"
 rw [aay,decide_eq_false (by decide)]
 walk_at "ev"
 rw [W.c]
 cases c with
 |true=>
  walk_at "ev"
  rw [show ya [.da x,.da y] s=.ok (.bl true) s from k]
  rfl
 |false=>
  walk_at "ev"
  rw [W.m]
  walk_at "ev"
  rw [show ya [.da y,.da x] s=.ok (.bl true) s from k]
  rfl
theorem a3d{p:Pt}(h:FlK m p):vw [.int m,.da p.d] s=.ok (.bl true) s:=by
 cases p with
 |two w a b=> exact az7 h.1 h.2
 |held w a b x=> exact aoi (x:=hD x) (abq h.1) h.2.1 (a26 h.2.2)
 |only a b ts=> exact aoi (x:=.tuple (ts.map .int)) yq h.1 ⟨rfl,a2w h.2.1 h.2.2.1 h.2.2.2⟩
 |copy a bs=> exact aob (x:=.str a) (y:=.tuple (bs.map .str)) aac (ath h.1 h.2)
 |merge bs a=> exact aob (y:=.str a) (x:=.tuple (bs.map .str)) ym (ath h.1 h.2)
 |net n qs=> exact h.elim
noncomputable def Pt.fst:Pt -> Str
 |.two w _ _=> w
 |.held w _ _ _=> w
 |.only _ _ _=> "only"
 |.copy _ _=> "copy"
 |.merge _ _=> "merge"
 |.net _ _=> "net"
noncomputable def Pt.ps:Pt -> List Str
 |.two _ a b=> [a,b]
 |.held _ a b _=> [a,b]
 |.only a b _=> [a,b]
 |.copy a bs=> a::bs
 |.merge bs a=> bs++ [a]
 |.net _ qs=> qs
def Pt.bs:Pt -> List Str
 |.held _ _ _ h=> [hS h]
 |.only _ _ ts=> ts.map kq
 |_=> []
theorem aks{p:Pt}(h:FlK m p):p.ws=p.fst::(p.ps++p.bs):=by
 cases p <;> first|exact h.elim|simp [Pt.ws,Pt.fst,Pt.ps,Pt.bs]
theorem ano(ss:List Str):D.da (.tuple (ss.map ac))=.tup (ss.map ac):=rfl
theorem aod{p:Pt}(h:PtK m p k):acv [.da p.d] s=.ok (.tup (p.ps.map ac)) s:=by
 rw [at1];unfold afl
 cases p with
 |two w a b=>
  have W:=adn h.1
  simp only [Pt.d,Pt.ps]
  walk_at "ev"
  rw [W.c]
  walk_at "ev"
  rw [W.m]
  walk_at "ev"
  rw [W.n]
  walk_at "ev"
  rw [al1];rfl
 |held w a b x=>
  have W:=abq h.1
  simp only [Pt.d,Pt.ps]
  walk_at "ev"
  rw [W.c]
  walk_at "ev"
  rw [W.m]
  walk_at "ev"
  rw [W.n]
  walk_at "ev"
  rw [al1];rfl
 |only a b ts=>
  have W:=yq
  simp only [Pt.d,Pt.ps]
  walk_at "ev"
  rw [W.c]
  walk_at "ev"
  rw [W.m]
  walk_at "ev"
  rw [W.n]
  walk_at "ev"
  rw [al1];rfl
 |copy a bs=>
  have W:=aac
  have hl:(a::bs).length <=13:=h.2.l
  simp only [av]at hl
  simp only [Pt.d,Pt.ps]
  walk_at "ev"
  rw [W.c]
  walk_at "ev"
  rw [ano,ahc (by rw [aj];simp;lia)]
  rfl
 |merge bs a=>
  have W:=ym
  have hl:(a::bs).length <=13:=h.2.l
  simp only [av]at hl
  simp only [Pt.d,Pt.ps]
  walk_at "ev"
  rw [W.c]
  walk_at "ev"
  rw [W.m]
  walk_at "ev"
  rw [ano,ahc (by rw [aj];simp;lia)]
  simp only [aS,aA,bv]
  rfl
 |net n qs=>
  have W:=an7
  simp only [Pt.d,Pt.ps]
  walk_at "ev"
  rw [W.c]
  walk_at "ev"
  rw [W.m]
  walk_at "ev"
  rw [W.n]
  walk_at "ev"
theorem a49{p:Pt}(h:FlK m p): ∃c mm o hh f,WF p.fst c mm false o hh f:=by
 cases p with
 |two w a b=> exact⟨_,_,_,_,_,adn h.1⟩
 |held w a b x=> exact⟨_,_,_,_,_,abq h.1⟩
 |only a b ts=> exact⟨_,_,_,_,_,yq⟩
 |copy a bs=> exact⟨_,_,_,_,_,aac⟩
 |merge bs a=> exact⟨_,_,_,_,_,ym⟩
 |net n qs=> exact h.elim
theorem vi{p:Pt}:gIx (.da p.d) (.da (.int 0)) s=.ok (.da (.str p.fst)) s:=by
 cases p <;> (simp only [Pt.d,Pt.fst];exact it0)
theorem ay0{ts:List Int}(hm:m <=3)(h: ∀t∈ts,0 <=t/\t < m):vd (.nm 0) zn (fCB aa7 (jb (jd 0) jf)) [none] ((ts.map aP).map D.da,none) ((ts.map aP).map D.da) s=.ok (((ts.map kq).map ac).map D.da) s:=by
 have e:(ts.map aP).map D.da=ts.map fun t=> D.int t:=by rw [aU];rfl
 have:=zj (g:=.nm 0) (ft:=zn) (fe:=fCB aa7 (jb (jd 0) jf)) (ρ0:=[none]) (all:=(ts.map aP).map D.da) (s:=s) (fun t:Int=> D.int t) (fun _=> true) (fun t=>.str (kq t)) ts (fun t ht=> ⟨_,ag6,rfl,fun _=> by
  walk_at "ev"
  exact str_int (by have:=h t ht;lia)⟩)
 rw [←e,bS.mpr (fun _ _=> rfl)]at this
 rw [this]
 simp only [aU];rfl
theorem avh{p:Pt}(hm:m <=3)(h:FlK m p):xb [.da p.d] s=.ok (.lst (p.bs.map ac)) s:=by
 rw [aex];unfold yh
 walk_at "ev"
 rw [vi]
 walk_at "ev"
 cases p with
 |two w a b=>
  have W:=adn h.1
  simp only [Pt.fst]
  rw [W.h]
  walk_at "ev"
  rw [vi]
  walk_at "ev"
  simp only [Pt.fst]
  rw [W.o]
  walk_at "ev"
  rfl
 | held w a b x=>
  have W:=abq h.1
  simp only [Pt.fst]
  rw [W.h]
  simp only [Pt.d]
  walk_at "ev"
  cases x with
  |none=> rfl
  |some i=>
   rw [show isN (.da (hD (some i)))=false from rfl]
   walk_at "ev"
   rw [show (D.da (hD (some i)))=.int i from rfl,str_int (by have:=h.2.2 i rfl;lia)]
   walk_at "ev"
   rfl
 |only a b ts=>
  have W:=yq
  simp only [Pt.fst]
  rw [W.h]
  walk_at "ev"
  rw [vi]
  walk_at "ev"
  simp only [Pt.fst]
  rw [W.o]
  simp only [Pt.d]
  walk_at "ev"
  rw [zu (ρ0:=[none]) (by have:=h.2.2.1;simp;lia) rfl,ay0 hm h.2.1]
  walk_at "ev"
  rfl
 |copy a bs=>
  have W:=aac
  simp only [Pt.fst]
  rw [W.h]
  walk_at "ev"
  rw [vi]
  walk_at "ev"
  simp only [Pt.fst]
  rw [W.o]
  walk_at "ev"
  rfl
 |merge bs a=>
  have W:=ym
  simp only [Pt.fst]
  rw [W.h]
  walk_at "ev"
  rw [vi]
  walk_at "ev"
  simp only [Pt.fst]
  rw [W.o]
  walk_at "ev"
  rfl
 |net n qs=> exact h.elim
noncomputable def fw:List Str:=["both","loose","drain","either","place","last","only","copy","merge","net","within","end","-"]
theorem v0{w:Str}(h:w∈fw):WdK w:=by
 have: ∀w∈fw,w.length <=8/\32∉w.cps.toList/\ ∀c∈w.cps.toList,c < 128:=by decide+kernel
 exact⟨(this w h).1,(this w h).2.1,(this w h).2.2⟩
theorem azd: ∀w∈(["both","loose","drain","either"]:List Str),w∈fw:=by decide+kernel
theorem ay4: ∀w∈(["place","last"]:List Str),w∈fw:=by decide+kernel
theorem xj:(("only":Str)∈fw/\("copy":Str)∈fw/\("merge":Str)∈fw)/\("net":Str)∈fw/\("within":Str)∈fw/\("-":Str)∈fw:=by decide+kernel
theorem ar8{p:Pt}(h:FlK m p):WdK p.fst:=by
 cases p with
 |two w a b=> exact v0 (azd w h.1)
 |held w a b x=> exact v0 (ay4 w h.1)
 |only a b ts=> exact v0 xj.1.1
 |copy a bs=> exact v0 xj.1.2.1
 |merge bs a=> exact v0 xj.1.2.2
 |net n qs=> exact h.elim
theorem awm{p:Pt}(h:PtK m p k):(∀x∈p.ps,prB x=true)/\p.ps.length <=13:=by
 cases p with
 |two w a b=> exact⟨h.2.p,by show 2 <=13;decide⟩
 |held w a b x=> exact⟨h.2.1.p,by show 2 <=13;decide⟩
 |only a b ts=> exact⟨h.1.p,by show 2 <=13;decide⟩
 |copy a bs=> exact⟨h.2.p,h.2.l⟩
 |merge bs a=>
  refine⟨fun x hx=> h.2.p x ?_,by have:=h.2.l;simp only [Pt.ps,aO,av,ck]at this⊢;lia⟩
  simp only [Pt.ps,a7,aw,bt,or_false]at hx⊢
  exact hx.symm
 |net n qs=>
  simp only [PtK]at h
  exact⟨h.2.1.p,by have:=h.2.1.l;show qs.length <=13;lia⟩
theorem awv{p:Pt}(hm:m <=3)(h:FlK m p):(∀x∈p.bs,WdK x)/\p.bs.length <=3:=by
 cases p with
 |two w a b=> exact⟨fun x hx=> (by cases hx),by show 0 <=3;decide⟩
 |held w a b x=>
  refine⟨fun y hy=> ?_,by show 1 <=3;decide⟩
  have hy:y=hS x:=by simpa [Pt.bs] using hy
  subst hy
  cases x with
  |none=> exact v0 xj.2.2.2
  |some i=> exact adi (h.2.2 i rfl).1 (by have:=(h.2.2 i rfl).2;lia)
 |only a b ts=>
  refine⟨fun y hy=> ?_,by simp only [Pt.bs,aj];exact h.2.2.1⟩
  obtain⟨t,ht,rfl⟩:=b6.mp hy
  exact adi (h.2.1 t ht).1 (by have:=(h.2.1 t ht).2;lia)
 |copy a bs=> exact⟨fun x hx=> (by cases hx),by show 0 <=3;decide⟩
 |merge bs a=> exact⟨fun x hx=> (by cases hx),by show 0 <=3;decide⟩
 |net n qs=> exact h.elim
theorem a1x{w:Str}{xs ys:List Str}(h0:WdK w)(h1: ∀x∈xs,WdK x)(h2: ∀x∈ys,WdK x): ∀x∈w::(xs++ys),WdK x:=fun x hx=> by
 (rcases aw.mp hx with rfl|hx)
 ·exact h0
 rcases a7.mp hx with z|z
 ·exact h1 x z
 ·exact h2 x z
theorem aan{p:Pt}(hm:m <=3)(h:FlK m p):(∀w∈p.ws,WdK w)/\p.ws.length <=17:=by
 obtain⟨a,b⟩:=awm (akq (k:=0) h)
 obtain⟨c,d⟩:=awv hm h
 rw [aks h]
 exact⟨a1x (ar8 h) (fun x hx=> abe (a x hx)) c,by simp;lia⟩
theorem ax9{p:Pt}(h:FlK m p):p.ls=[a9 " " p.ws]:=by
 cases p <;> first|exact h.elim|simp [Pt.ls]
theorem a1e{p:Pt}(hm:m <=3)(h:FlK m p):ve (n+1) [.da p.d] s=.ok (.lst (p.ls.map ac)) s:=by
 obtain⟨w1,w2⟩:=aan hm h
 obtain⟨_,pl⟩:=awm (akq (k:=0) h)
 obtain⟨_,bl⟩:=awv hm h
 obtain⟨c,mm,o,hh,f,W⟩:=a49 h
 rw [ago];unfold aam
 walk_at "ev"
 rw [aod (akq (k:=0) h)]
 walk_at "ev"
 rw [vi]
 walk_at "ev"
 rw [W.n]
 walk_at "ev"
 rw [vi]
 walk_at "ev"
 rw [vj (by simp;lia)]
 walk_at "ev"
 rw [avh hm h]
 walk_at "ev"
 rw [vj (by simp;lia)]
 walk_at "ev"
 have e:ac p.fst::(p.ps.map ac++p.bs.map ac)=p.ws.map ac:=by rw [aks h];simp
 rw [e,zm w1 (by lia),ax9 h]
 walk_at "ev"
 rfl
theorem azs(h:s[a]?=some (.lst (ys.map D.da)))(hl:xs.length+ys.length <=16777216):kh false (.lst xs) (.ref a) s=.ok (.lst (xs++ys)) s:=by
 show (match some (xs.map D.da),(match s[a]? with|some (O.lst ds)=> some ds|_=> none) with|some xs,some ys=> (if xs.length+ys.length <=sizeLine then xg false (xs++ys) s else .bad)|_,_=>.bad)=_
 rw [h]
 show (if (xs.map D.da).length+(ys.map D.da).length <=sizeLine then xg false (xs.map D.da++ys.map D.da) s else .bad)=_
 rw [if_pos (by rw [kc,aj,aj];exact hl),←aS]
 show ap5 false _ s=_
 walk_at "ev"
mutual
theorem afd: ∀N:Nt,N.ls.length <=1+3*N.cnt
 |.mk m ss ps=> by
  have:=aia ps
  simp only [Nt.ls,Nt.cnt,av];lia
theorem a2k: ∀p:Pt,p.ls.length <=3*p.cnt
 |.net n qs=> by
  have:=afd n
  simp only [Pt.ls,Pt.cnt,av,aO,ck];lia
 |.two w a b=> by simp [Pt.ls,Pt.cnt]
 |.held w a b x=> by simp [Pt.ls,Pt.cnt]
 |.only a b ts=> by simp [Pt.ls,Pt.cnt]
 |.copy a bs=> by simp [Pt.ls,Pt.cnt]
 |.merge bs a=> by simp [Pt.ls,Pt.cnt]
theorem aia: ∀r:Ps,r.ls.length <=3*r.cnt
 |.nil=> by simp [Ps.ls,Ps.cnt]
 |.cons p r=> by
  have:=a2k p
  have:=aia r
  simp only [Ps.ls,Ps.cnt,aO];lia
end
structure NlQ (s0:S) (ls:List Str) (d:D) (s:S):Prop where
 ex: ∃a,d=.ref a/\s[a]?=some (.lst (ls.map D.str))/\s0.length <=a/\Ext s0 s
structure PlQ (s0:S) (ls:List Str) (d:D) (s:S):Prop where
 e:d=.lst (ls.map ac)
 x:Ext s0 s
def au8(m:Int)(k:Nat)(F:FF):Prop:= ∀(N:Nt) (s:S),NtK m N k -> N.cnt <=120 -> DW (F [.da N.d] s) (NlQ s N.ls)
def au7(m:Int)(k:Nat)(F:FF):Prop:= ∀(p:Pt) (s:S),PtK m p k -> p.cnt <=120 -> DW (F [.da p.d] s) (PlQ s p.ls)
theorem abj{w:Str}(hw:WdK w)(h:UnK ss k): ∀x∈w::ss,WdK x:=fun x hx=> by
 rcases aw.mp hx with rfl|z
 ·exact hw
 ·exact abe (h.p x z)
theorem asf(hm:m <=3)(h:2 <=k -> au8 m (k - 1) (qg n)):au7 m k (ve (n+1)):=by
 intro p s hp hc
 refine⟨?_⟩
 by_cases hn: ∃N qs,p=.net N qs
 ·obtain⟨N,qs,rfl⟩:=hn
  have hp':=hp
  simp only [PtK]at hp'
  obtain⟨h2,uq,sl,hN⟩:=hp'
  have hc':1+N.cnt <=120:=hc
  have ql:=uq.l
  have wd:=abj (v0 xj.2.2.1) uq
  have nl:=afd N
  rw [ago];unfold aam
  walk_at "go"
  rw [aod hp]
  walk_at "go"
  rw [vi]
  walk_at "go"
  rw [show (Pt.net N qs).fst="net" from rfl,an7.n]
  walk_at "go"
  simp only [Pt.ps,Pt.d]
  rw [vj (by simp;lia)]
  walk_at "go"
  rw [show ac "within"::qs.map ac=(("within":Str)::qs).map ac from rfl,zm wd (by simp;lia)]
  walk_at "go"
  refine (h h2 N s hN (by lia)).mono ?_
  rintro _ s1 ⟨a,rfl,ha,la,x1⟩
  walk_at "go"
  rw [azs (ys:=N.ls.map ac) (by rw [ha,aU];rfl) (by simp;lia)]
  walk_at "go"
  rw [vj (by simp;lia)]
  walk_at "go"
  exact⟨by simp [Pt.ls],x1⟩
 ·have fl:FlK m p:=by
   cases p with
   |net N qs=> exact absurd ⟨N,qs,rfl⟩ hn
   |two w a b=> exact hp
   |held w a b x=> exact hp
   |only a b ts=> exact hp
   |copy a bs=> exact hp
   |merge bs a=> exact hp
  rw [a1e hm fl,R.W_ok]
  exact⟨rfl,Ext.refl s⟩
theorem a3e{A u v w x y:Option D}{b m e:ag}:a3x (.t3 (.nm 1) (.nm 2) (.nm 3)) [A,u,v,w,x,y] (.da (.tuple [b,m,e])) s=.ok (.nx [A,some (.da b),some (.da m),some (.da e),x,y]) s:=rfl
structure NlJ (s0:S) (a:Nat) (m:Int) (k:Nat) (A B C E:D) (all:List Str) (r:List D) (ρ:En) (s:S):Prop where
 ex: ∃(jp:Ps) (acc:List Str) (u5:Option D),ρ=[some A,some B,some C,some E,some (.ref a),u5]/\r=jp.ds.map D.da/\s[a]?=some (.lst (acc.map D.str))/\acc++jp.ls=all/\PsK m jp k/\jp.cnt <=120/\s0.length <=a/\Ext s0 s
theorem aya{A B C E:D}{all:List Str}{d:D}{F:FF}{Q:Fl -> S -> Prop}(hF:au7 m k F)(hl:all.length <=1000)(J:NlJ s0 a m k A B C E all (d::r) ρ s):
  ∃ρ1,vt (.nm 5) d ρ=some ρ1/\(k6 (fMt aaj (jd 4) (jb (jn 1 F (jb (jd 5) jf)) jf)) ρ1 s).W (flW (NlJ s0 a m k A B C E all r) Q):=by
 obtain⟨jp,acc,u5,rfl,hr,ha,hall,hP,hc,la,x0⟩:=J
 cases jp with
 |nil=> simp [Ps.ds]at hr
 | cons p jp=>
  simp only [Ps.ds,aA,gn]at hr
  obtain⟨rfl,rfl⟩:=hr
  simp only [PsK]at hP
  simp only [Ps.cnt]at hc
  simp only [Ps.ls]at hall
  refine⟨[some A,some B,some C,some E,some (.ref a),some (.da p.d)],rfl,?_⟩
  walk_at "go"
  rw [vn ha]
  walk_at "go"
  refine (hF p s hP.1 (by lia)).mono ?_
  rintro _ s1 ⟨rfl,x1⟩
  walk_at "go"
  have l2:acc.length+(p.ls.length+jp.ls.length) <=1000:=by
   rw [←hall]at hl
   simpa using hl
  rw [ahf (x1.get ha) (by rw [aj,aj];lia)]
  walk_at "go"
  have lt:a < s1.length:=aD (aq.mp ha).1 x1.len
  refine⟨jp,acc++p.ls,_,rfl,rfl,?_,by rw [cn];exact hall,hP.2,by lia,la,(x0.trans x1).own la⟩
  rw [aE lt,aS,aU];rfl
theorem at5(h1:1 <=m)(hm:m <=3)(h:au7 m k (ve n)):au8 m k (qg (n+1)):=by
 rintro⟨m',ss,ps⟩ s hN hc
 simp only [NtK]at hN
 obtain⟨rfl,us,hP⟩:=hN
 have hc':ps.cnt <=120:=hc
 have ul:=us.l
 have pl:=aia ps
 have wd: ∀x∈("net":Str)::kq m'::ss,WdK x:=fun x hx=> by
  (rcases aw.mp hx with rfl|hx)
  ·exact v0 xj.2.1
  exact abj (adi (by lia) (by lia)) us x hx
 refine⟨?_⟩
 rw [apu];unfold ae4
 simp only [Nt.d]
 walk_at "go"
 rw [a3e]
 walk_at "go"
 rw [str_int (by lia)]
 walk_at "go"
 rw [vj (by simp;lia)]
 walk_at "go"
 rw [show ac "net"::ac (kq m')::ss.map ac=(("net":Str)::kq m'::ss).map ac from rfl,zm wd (by simp;lia)]
 walk_at "go"
 refine y8 (NlJ s s.length m' k (.da (.tuple [.int m',.tuple (ss.map ac),.tuple ps.ds])) (.da (.int m')) (.da (.tuple (ss.map ac))) (.da (.tuple ps.ds)) (Nt.ls (.mk m' ss ps))) (fun d r ρ s' J=> aya h (by simp only [Nt.ls,av];lia) J) ?_ _ _ _ ⟨ps,[a9 " " ("net"::kq m'::ss)],none,rfl,rfl,by simp,rfl,hP,hc',ao _,Ext.add _ _⟩
 rintro ρ s1 ⟨jp,acc,u5,rfl,hr,ha,hall,_,_,la,x⟩
 have:jp=.nil:=by cases jp with
  |nil=> rfl
  |cons p r=> simp [Ps.ds]at hr
 subst this
 simp only [Ps.ls,bj]at hall
 subst hall
 walk_at "go"
 exact⟨_,rfl,ha,la,x⟩
theorem axa{m:Int}(h1:1 <=m)(hm:m <=3): ∀k f:Nat,2*k+2 <=f -> au8 m (k+1) (qg f)
 |0,f+2,_=> at5 h1 hm (asf hm fun h=> absurd h (by decide))
 |k+1,f+2,h=> at5 h1 hm (asf hm fun _=> axa h1 hm k f (by lia))
def llN(ky:FF):FS:=(jk (k6 (fMt j9 (jd 1) (jb (fMs xm (fC (.da (.str " "))) (jb (fOp (kh false) (kt false (jb (fC (.da (.str "within"))) jf)) (fCB (vy false) (jb (fOp gIx (jd 2) (fC (.da (.int 2)))) jf))) jf)) jf)))
  (jk (k6 (fMt aaj (jd 1) (jb (jn 1 ky (jb (fOp gIx (jd 2) (fC (.da (.int 1)))) jf)) jf)))
  (k6 (fMt j9 (jd 1) (jb (fC (.da (.str "end"))) jf)))))
def llC:FS:=(k6 (fMt j9 (jd 1) (jb (fMs xm (fC (.da (.str " "))) (jb (fOp (kh false) (kt false (jb (fC (.da (.str "copy"))) (jb (fOp gIx (jd 2) (fC (.da (.int 1)))) jf))) (fCB (vy false) (jb (fOp gIx (jd 2) (fC (.da (.int 2)))) jf))) jf)) jf)))
def llM:FS:=(k6 (fMt j9 (jd 1) (jb (fMs xm (fC (.da (.str " "))) (jb (fOp (kh false) (fOp (kh false) (kt false (jb (fC (.da (.str "merge"))) jf)) (fCB (vy false) (jb (fOp gIx (jd 2) (fC (.da (.int 1)))) jf))) (kt false (jb (fOp gIx (jd 2) (fC (.da (.int 2)))) jf))) jf)) jf)))
def llE:FS:=(jk (kj 3 (fSl false (jd 2) (ko (fC (.da (.int 3)))) fNo))
  (jk (j4 (jt (fOp gEq (fOp gIx (jd 2) (fC (.da (.int 0)))) (fC (.da (.str "only"))))) (kj 3 (fOp gIx (jd 2) (fC (.da (.int 3))))) jy)
  (jk (kj 4 (fLc false [] 1 (fIt (jd 3)) (.nm 0) zn (fIf (jt (fOp gIs (jd 0) (fC (.da (.none))))) (fC (.da (.str "-"))) (fCB aa7 (jb (jd 0) jf)))))
  (k6 (fMt j9 (jd 1) (jb (fMs xm (fC (.da (.str " "))) (jb (fOp (kh false) (fCB (vy false) (jb (fSl false (jd 2) fNo (ko (fC (.da (.int 3))))) jf)) (jd 4)) jf)) jf))))))
def llL(F:FF):FS:=j4 (jt (fOp gEq (fOp gIx (jd 2) (fC (.da (.int 0)))) (fC (.da (.str "net"))))) (llN F) (j4 (jt (fOp gEq (fOp gIx (jd 2) (fC (.da (.int 0)))) (fC (.da (.str "copy"))))) llC (j4 (jt (fOp gEq (fOp gIx (jd 2) (fC (.da (.int 0)))) (fC (.da (.str "merge"))))) llM llE))
theorem a03{F:FF}:B_law_lines F=jk (kj 1 (kt true (jb (fMs xm (fC (.da (.str " "))) (jb (fOp (kh false) (kt false (jb (fC (.da (.str "net"))) (jb (fCB aa7 (jb (fOp gIx (jd 0) (fC (.da (.int 0)))) jf)) jf))) (fCB (vy false) (jb (fOp gIx (jd 0) (fC (.da (.int 1)))) jf))) jf)) jf))) (jk (ack (fIt (fOp gIx (jd 0) (fC (.da (.int 2))))) (.nm 2) (llL F)) (jq (alj (jd 1)))):=rfl
structure LlJ (s0:S) (a:Nat) (m:Int) (k:Nat) (A:D) (all:List Str) (r:List D) (ρ:En) (s:S):Prop where
 ex: ∃(jp:Ps) (acc:List Str) (u2 u3 u4:Option D),ρ=[some A,some (.ref a),u2,u3,u4]/\r=jp.ds.map D.da/\s[a]?=some (.lst (acc.map D.str))/\acc++jp.ls=all/\PsK m jp k/\jp.cnt <=120/\s0.length <=a/\Ext s0 s
structure LlH (s0:S) (a:Nat) (m:Int) (k:Nat) (all:List Str) (l:List Str) (jp:Ps) (acc:List Str) (s:S):Prop where
 g:s[a]?=some (.lst (acc.map D.str))
 e:acc++(l++jp.ls)=all
 p:PsK m jp k
 c:jp.cnt <=120
 z:s0.length <=a
 x:Ext s0 s
 n:all.length <=1000
theorem LlH.len{all l:List Str}{jp:Ps}(h:LlH s0 a m k all l jp acc s):acc.length+l.length <=1000:=by
 have:=h.n
 rw [←h.e]at this
 simp only [aO]at this
 lia
theorem adh{all l:List Str}{jp:Ps}(h:LlH s0 a m k all (x::l) jp acc s):(j9 (.ref a) [.da (.str x)] s).W fun _ s'=> LlH s0 a m k all l jp (acc++ [x]) s':=by
 have hl:=h.len
 simp only [av]at hl
 rw [v6 h.g (by rw [aj];lia),R.W_ok]
 refine⟨?_,by rw [←h.e];simp,h.p,h.c,h.z,h.x.own h.z,h.n⟩
 rw [aE (aq.mp h.g).1]
 simp
theorem LlH.j{A:D}{all:List Str}{jp:Ps}{u2 u3 u4:Option D}(h:LlH s0 a m k all [] jp acc s):LlJ s0 a m k A all (jp.ds.map D.da) [some A,some (.ref a),u2,u3,u4] s:=
 ⟨jp,acc,u2,u3,u4,rfl,rfl,h.g,h.e,h.p,h.c,h.z,h.x⟩
def alx(m:Int)(k:Nat)(F:FF):Prop:= ∀(N:Nt) (s:S),NtK m N k -> N.cnt <=120 -> DW (F [.da N.d] s) (PlQ s N.ls)
section
variable{s0:S}{a:Nat}{m:Int}{k:Nat}{A:D}{all:List Str}{jp:Ps}{acc:List Str}{s:S}{u3 u4:Option D}{Q:Fl -> S -> Prop}
theorem a1f{F:FF}{N:Nt}(hF:2 <=k -> alx m (k - 1) F)(hp:PtK m (.net N qs) k)(hc:(Pt.net N qs).cnt <=120)(h:LlH s0 a m k all (Pt.net N qs).ls jp acc s):
  (llN F [some A,some (.ref a),some (.da (Pt.net N qs).d),u3,u4] s).W (flW (LlJ s0 a m k A all (jp.ds.map D.da)) Q):=by
 simp only [PtK]at hp
 obtain⟨h2,uq,sl,hN⟩:=hp
 have hc':1+N.cnt <=120:=hc
 have ql:=uq.l
 have wd:=abj (v0 xj.2.2.1) uq
 have nl:=afd N
 unfold llN
 simp only [Pt.d]
 walk_at "go"
 rw [vn h.g]
 walk_at "go"
 rw [vj (by simp;lia)]
 walk_at "go"
 rw [show ac "within"::qs.map ac=(("within":Str)::qs).map ac from rfl,zm wd (by simp;lia)]
 walk_at "go"
 simp only [Pt.ls]at h
 refine R.W_mono (adh h) fun _ s1 h1=> ?_
 walk_at "go"
 rw [vn h1.g]
 walk_at "go"
 refine (hF h2 N s1 hN (by lia)).mono ?_
 rintro _ s2 ⟨rfl,x2⟩
 walk_at "go"
 have l1:=h1.len
 simp only [aO,av,ck]at l1
 rw [ahf (x2.get h1.g) (by rw [aj,aj,aO];simp only [av,ck];lia)]
 walk_at "go"
 have lt:a < s2.length:=aD (aq.mp h1.g).1 x2.len
 have h3:LlH s0 a m k all ["end"] jp (acc++ [a9 " " ("within"::qs)]++N.ls) (s2.set a (.lst (((acc++ [a9 " " ("within"::qs)]).map D.str)++(N.ls.map ac).map D.da))):=by
  refine⟨?_,by rw [←h1.e];simp,h1.p,h1.c,h1.z,(h1.x.trans x2).own h1.z,h1.n⟩
  rw [aE lt];simp only [aS,aU];rfl
 rw [vn h3.g]
 walk_at "go"
 refine R.W_mono (adh h3) fun _ s4 h4=> ?_
 walk_at "go"
 exact h4.j
theorem a0k{bs:List Str}(hp:FlK m (.copy x bs))(hm:m <=3)(h:LlH s0 a m k all (Pt.copy x bs).ls jp acc s):
  (llC [some A,some (.ref a),some (.da (Pt.copy x bs).d),u3,u4] s).W (flW (LlJ s0 a m k A all (jp.ds.map D.da)) Q):=by
 obtain⟨w1,w2⟩:=aan hm hp
 simp only [Pt.ws,av]at w1 w2
 unfold llC
 simp only [Pt.d]
 walk_at "go"
 rw [vn h.g]
 walk_at "go"
 rw [vj (by simp;lia)]
 walk_at "go"
 rw [show ac "copy"::ac x::bs.map ac=(("copy":Str)::x::bs).map ac from rfl,zm w1 (by simp;lia)]
 walk_at "go"
 simp only [Pt.ls,Pt.ws]at h
 refine R.W_mono (adh h) fun _ s1 h1=> ?_
 walk_at "go"
 exact h1.j
theorem av6{bs:List Str}(hp:FlK m (.merge bs x))(hm:m <=3)(h:LlH s0 a m k all (Pt.merge bs x).ls jp acc s):
  (llM [some A,some (.ref a),some (.da (Pt.merge bs x).d),u3,u4] s).W (flW (LlJ s0 a m k A all (jp.ds.map D.da)) Q):=by
 obtain⟨w1,w2⟩:=aan hm hp
 simp only [Pt.ws,av,aO,ck]at w1 w2
 unfold llM
 simp only [Pt.d]
 walk_at "go"
 rw [vn h.g]
 walk_at "go"
 rw [vj (by simp;lia)]
 walk_at "go"
 rw [vj (by simp;lia)]
 walk_at "go"
 rw [show ac "merge"::(bs.map ac++ [ac x])=(("merge":Str)::(bs++ [x])).map ac by simp,zm w1 (by simp;lia)]
 walk_at "go"
 simp only [Pt.ls,Pt.ws]at h
 refine R.W_mono (adh h) fun _ s1 h1=> ?_
 walk_at "go"
 exact h1.j
end
theorem aws{l:List (Option Int)}{all:List D}(h: ∀o∈l,∀i,o=some i -> 0 <=i/\i < 3):vd (.nm 0) zn (fIf (jt (fOp gIs (jd 0) (fC (.da (.none))))) (fC (.da (.str "-"))) (fCB aa7 (jb (jd 0) jf))) [none] (all,none) ((l.map hD).map D.da) s=.ok (((l.map hS).map ac).map D.da) s:=by
 have e:(l.map hD).map D.da=l.map fun o=> D.da (hD o):=by rw [aU];rfl
 rw [e,zj (fun o=> D.da (hD o)) (fun _=> true) (fun o=>.str (hS o)) l (fun o ho=> ⟨_,ag6,rfl,fun _=> by
  cases o with
  |none=> walk_at "ev";rfl
  |some i=>
   walk_at "ev"
   rw [show isN (.da (hD (some i)))=false from rfl]
   walk_at "ev"
   exact str_int (by have:=h _ ho i rfl;lia)⟩),bS.mpr (fun _ _=> rfl)]
 simp only [aU];rfl
section
variable{s0:S}{a:Nat}{m:Int}{k:Nat}{A:D}{all:List Str}{jp:Ps}{acc:List Str}{s:S}{u3 u4:Option D}{Q:Fl -> S -> Prop}
theorem aif{w:Str}{r:List ag}{o:Bool}{mo:List (Option Int)}(hw: ∀z∈w::x::y::mo.map hS,WdK z)(hmo: ∀o∈mo,∀i,o=some i -> 0 <=i/\i < 3)(hl:mo.length <=3)(wo: ∀s:S,gEq (.da (.str w)) (.da (.str "only")) s=.ok (.bl o) s)(hr:if o=true then r=[.tuple (mo.map hD)] else r=mo.map hD)(h:LlH s0 a m k all [a9 " " (w::x::y::mo.map hS)] jp acc s):
  (llE [some A,some (.ref a),some (.da (.tuple (.str w:: .str x:: .str y::r))),u3,u4] s).W (flW (LlJ s0 a m k A all (jp.ds.map D.da)) Q):=by
 unfold llE
 walk_at "go"
 rw [wo]
 have c3:qd (.str w:: .str x:: .str y::r) none (some 3)=[.str w,.str x,.str y]:=by
  rw [show (3:Int)=((3:Nat):Int) from rfl,adg];rfl
 cases o with
 |true=>
  have hr:r=[.tuple (mo.map hD)]:=hr
  subst hr
  walk_at "go"
  rw [zu (ρ0:=[none]) (by simp;lia) rfl,aws hmo]
  walk_at "go"
  rw [vn h.g]
  walk_at "go"
  rw [c3]
  walk_at "go"
  rw [vj (by simp;lia)]
  walk_at "go"
  rw [show ac w::ac x::ac y::(mo.map hS).map ac=(w::x::y::mo.map hS).map ac from rfl,zm hw (by simp;lia)]
  walk_at "go"
  refine R.W_mono (adh h) fun _ s1 h1=> ?_
  walk_at "go"
  exact h1.j
 |false=>
  have hr:r=mo.map hD:=hr
  subst hr
  walk_at "go"
  rw [show qd (.str w:: .str x:: .str y::mo.map hD) (some 3) none=mo.map hD from yj _ 3]
  rw [zu (ρ0:=[none]) (by simp;lia) rfl,aws hmo]
  walk_at "go"
  rw [vn h.g]
  walk_at "go"
  rw [c3]
  walk_at "go"
  rw [vj (by simp;lia)]
  walk_at "go"
  rw [show ac w::ac x::ac y::(mo.map hS).map ac=(w::x::y::mo.map hS).map ac from rfl,zm hw (by simp;lia)]
  walk_at "go"
  refine R.W_mono (adh h) fun _ s1 h1=> ?_
  walk_at "go"
  exact h1.j
end
theorem ay1{A:D}{all:List Str}{d:D}{F:FF}{Q:Fl -> S -> Prop}(hm:m <=3)(hF:2 <=k -> alx m (k - 1) F)(hl:all.length <=1000)(J:LlJ s0 a m k A all (d::r) ρ s):
  ∃ρ1,vt (.nm 2) d ρ=some ρ1/\(llL F ρ1 s).W (flW (LlJ s0 a m k A all r) Q):=by
 obtain⟨jp,acc,u2,u3,u4,rfl,hr,ha,hall,hP,hc,la,x0⟩:=J
 cases jp with
 |nil=> simp [Ps.ds]at hr
 | cons p jp=>
  simp only [Ps.ds,aA,gn]at hr
  obtain⟨rfl,rfl⟩:=hr
  simp only [PsK]at hP
  simp only [Ps.cnt]at hc
  simp only [Ps.ls]at hall
  refine⟨[some A,some (.ref a),some (.da p.d),u3,u4],rfl,?_⟩
  have H:LlH s0 a m k all p.ls jp acc s:=⟨ha,hall,hP.2,by lia,la,x0,hl⟩
  have hp:=hP.1
  unfold llL
  walk_at "go"
  rw [vi]
  walk_at "go"
  cases p with
  |net N qs=>
   rw [show (Pt.net N qs).fst="net" from rfl,an7.n]
   walk_at "go"
   exact a1f hF hp (by lia) H
  |copy x bs=>
   rw [show (Pt.copy x bs).fst="copy" from rfl,aac.n]
   walk_at "go"
   rw [vi]
   walk_at "go"
   rw [show (Pt.copy x bs).fst="copy" from rfl,aac.c]
   walk_at "go"
   exact a0k hp hm H
  |merge bs x=>
   rw [show (Pt.merge bs x).fst="merge" from rfl,ym.n]
   walk_at "go"
   rw [vi]
   walk_at "go"
   rw [show (Pt.merge bs x).fst="merge" from rfl,ym.c]
   walk_at "go"
   rw [vi]
   walk_at "go"
   rw [show (Pt.merge bs x).fst="merge" from rfl,ym.m]
   walk_at "go"
   exact av6 hp hm H
  |two w x y=>
   have W:=adn hp.1
   obtain⟨w1,w2⟩:=aan (p:=.two w x y) hm hp
   rw [show (Pt.two w x y).fst=w from rfl,W.n]
   walk_at "go"
   rw [vi]
   walk_at "go"
   rw [show (Pt.two w x y).fst=w from rfl,W.c]
   walk_at "go"
   rw [vi]
   walk_at "go"
   rw [show (Pt.two w x y).fst=w from rfl,W.m]
   walk_at "go"
   simp only [Pt.d]
   simp only [Pt.ls,Pt.ws]at H w1
   exact aif (mo:=[]) (r:=[]) w1 (fun o h=> (by cases h)) (by decide) W.o rfl H
  | held w x y h=>
   have W:=abq hp.1
   obtain⟨w1,w2⟩:=aan (p:=.held w x y h) hm hp
   rw [show (Pt.held w x y h).fst=w from rfl,W.n]
   walk_at "go"
   rw [vi]
   walk_at "go"
   rw [show (Pt.held w x y h).fst=w from rfl,W.c]
   walk_at "go"
   rw [vi]
   walk_at "go"
   rw [show (Pt.held w x y h).fst=w from rfl,W.m]
   walk_at "go"
   simp only [Pt.d]
   simp only [Pt.ls,Pt.ws]at H w1
   exact aif (mo:=[h]) (r:=[hD h]) w1 (fun o ho i e=> by
    rw [bF.mp ho]at e
    have:=hp.2.2 i e;lia) (by show 1 <=3;decide) W.o rfl H
  | only x y ts=>
   obtain⟨w1,w2⟩:=aan (p:=.only x y ts) hm hp
   rw [show (Pt.only x y ts).fst="only" from rfl,yq.n]
   walk_at "go"
   rw [vi]
   walk_at "go"
   rw [show (Pt.only x y ts).fst="only" from rfl,yq.c]
   walk_at "go"
   rw [vi]
   walk_at "go"
   rw [show (Pt.only x y ts).fst="only" from rfl,yq.m]
   walk_at "go"
   simp only [Pt.d]
   have e:ts.map kq=(ts.map some).map hS:=by rw [aU];rfl
   simp only [Pt.ls,Pt.ws,e]at H w1
   exact aif (mo:=ts.map some) w1 (fun o ho i e=> by
    obtain⟨t,ht,rfl⟩:=b6.mp ho
    have:=hp.2.1 t ht
    cases e;lia) (by rw [aj];exact hp.2.2.1) yq.o (by simp only [if_true,aU];rfl) H
theorem asd(h1:1 <=m)(hm:m <=3)(h:2 <=k -> alx m (k - 1) (ky n)):alx m k (ky (n+1)):=by
 rintro⟨m',ss,ps⟩ s hN hc
 simp only [NtK]at hN
 obtain⟨rfl,us,hP⟩:=hN
 have hc':ps.cnt <=120:=hc
 have ul:=us.l
 have pl:=aia ps
 have wd: ∀x∈("net":Str)::kq m'::ss,WdK x:=fun x hx=> by
  (rcases aw.mp hx with rfl|hx)
  ·exact v0 xj.2.1
  exact abj (adi (by lia) (by lia)) us x hx
 refine⟨?_⟩
 rw [anj,a03]
 simp only [Nt.d]
 walk_at "go"
 rw [show D.da (.int m')=.int m' from rfl,str_int (by lia)]
 walk_at "go"
 rw [vj (by simp;lia)]
 walk_at "go"
 rw [show ac "net"::ac (kq m')::ss.map ac=(("net":Str)::kq m'::ss).map ac from rfl,zm wd (by simp;lia)]
 walk_at "go"
 refine y8 (LlJ s s.length m' k (.da (.tuple [.int m',.tuple (ss.map ac),.tuple ps.ds])) (Nt.ls (.mk m' ss ps))) (fun d r ρ s' J=> ay1 hm h (by simp only [Nt.ls,av];lia) J) ?_ _ _ _ ⟨ps,[a9 " " ("net"::kq m'::ss)],_,_,_,rfl,rfl,by simp,rfl,hP,hc',ao _,Ext.add _ _⟩
 rintro ρ s1 ⟨jp,acc,u2,u3,u4,rfl,hr,ha,hall,_,_,la,x⟩
 have:jp=.nil:=by cases jp with
  |nil=> rfl
  |cons p r=> simp [Ps.ds]at hr
 subst this
 simp only [Ps.ls,bj]at hall
 subst hall
 walk_at "go"
 rw [aor (xs:=(Nt.ls (.mk m' ss ps)).map ac) ha (by rw [show (Nt.ls (.mk m' ss ps)).map D.str=((Nt.ls (.mk m' ss ps)).map ac).map D.da by rw [aU];rfl,qy])]
 walk_at "go"
 exact⟨rfl,x.own la⟩
theorem ax1{m:Int}(h1:1 <=m)(hm:m <=3): ∀k f:Nat,k < f -> alx m (k+1) (ky f)
 |0,f+1,_=> asd h1 hm fun h=> absurd h (by decide)
 |k+1,f+1,h=> asd h1 hm fun _=> ax1 h1 hm k f (by lia)
theorem axv{α:Type}(l:List α)(z:α):atI (l++ [z]) (-1)=some z:=by
 unfold atI ixN
 rw [if_neg (by decide),if_pos (by simp;lia)]
 simp
 have:((-1:Int)+(↑l.length+1)).toNat=l.length:=by lia
 rw [this]
 simp
theorem az8{l:List ag}{z:ag}:gIx (.lst (l++ [z])) (.int (-1)) s=.ok (.da z) s:=by
 show (match atI ((l++ [z]).map D.da) (-1) with|some d=> R.ok d s|none=>.bad)=_
 rw [aS,show cj D.da [z]=[D.da z] from rfl,axv]
theorem aqu{α:Type}(x:α)(l:List α)(z:α):qd (x::(l++ [z])) (some 1) (some (-1))=l:=by
 unfold qd
 have e:HT.sIx (x::(l++ [z])).length (x::(l++ [z])).length (some (-1))=l.length+1:=by
  show (if (-1:Int) < 0 then ((-1:Int)+((x::(l++ [z])).length:Int)).toNat else min (-1:Int).toNat (x::(l++ [z])).length)=_
  rw [if_pos (by decide)]
  simp;lia
 rw [e,show (1:Int)=((1:Nat):Int) from rfl,HT.sIx_nat]
 simp
theorem aw9(h1:1 <=m)(h3:m <=3):abf [.int m] s=.ok (.bl true) s:=by
 rw [aqk];unfold Bis_things
 walk_at "ev"
 rw [show (D.int m)=.da (.int m) from rfl,aoj,show alu (.int m)=true from rfl]
 walk_at "ev"
 rw [decide_eq_true h1]
 walk_at "ev"
 rw [decide_eq_true h3]
theorem a0j: ∀i:Nat,i < 3 -> kq (i:Int)≠"-"/\okD (.str (kq (i:Int)))=true:=by decide+kernel
theorem at9{h:Option Int}(hh: ∀i,h=some i -> 0 <=i/\i < 3):aeg [.str (hS h)] s=.ok (.da (hD h)) s:=by
 rw [avc];unfold ah9
 walk_at "ev"
 cases h with
 |none=> rw [show hS none="-" from rfl,kb ⟨by decide+kernel,by decide+kernel,decide_eq_true rfl⟩];rfl
 |some i=>
  obtain⟨n,rfl⟩: ∃n:Nat,i=(n:Int):=⟨i.toNat,by have:=hh i rfl;lia⟩
  obtain⟨e1,e2⟩:=a0j n (by have:=hh _ rfl;lia)
  rw [show hS (some (n:Int))=kq (n:Int) from rfl,kb ⟨e2,by decide+kernel,decide_eq_false e1⟩]
  walk_at "ev"
  rw [ahd (by lia) (by have:=hh _ rfl;lia)]
  rfl
theorem ash{p:Pt}(hm:m <=3)(h:FlK m p):abx [.lst (p.ws.map ac)] s=.ok (.da p.d) s:=by
 rw [awc];unfold ah2
 cases p with
 |net n qs=> exact h.elim
 |two w a b=>
  have W:=adn h.1
  rw [show (Pt.two w a b).ws.map ac=[.str w,.str a,.str b] from rfl]
  walk_at "ev"
  rw [W.h]
  walk_at "ev"
  rw [W.o]
  walk_at "ev"
  rw [W.c]
  walk_at "ev"
  rw [W.m]
  walk_at "ev"
  simp only [Pt.d]
 |held w a b x=>
  have W:=abq h.1
  rw [show (Pt.held w a b x).ws.map ac=[.str w,.str a,.str b,.str (hS x)] from rfl]
  walk_at "ev"
  rw [W.h]
  walk_at "ev"
  rw [aay,decide_eq_true (by decide)]
  walk_at "ev"
  rw [at9 (fun i e=> by have:=h.2.2 i e;lia)]
  walk_at "ev"
  simp only [Pt.d]
 | only a b ts=>
  have W:=yq
  rw [show (Pt.only a b ts).ws.map ac=.str "only":: .str a:: .str b::(ts.map kq).map ac from rfl]
  walk_at "ev"
  rw [W.h]
  walk_at "ev"
  rw [W.o]
  walk_at "ev"
  rw [decide_eq_true (show (3:Int) <=(((((ts.map kq).map ac).length+1+1+1:Nat)):Int) by lia)]
  walk_at "ev"
  rw [show qd (ac "only":: .str a:: .str b::(ts.map kq).map ac) (some 3) none=(ts.map kq).map ac from yj _ 3]
  rw [zu (ρ0:=[none]) (by have:=h.2.2.1;simp;lia) rfl]
  rw [show ((ts.map kq).map ac).map D.da=ts.map fun t=> D.str (kq t) by simp only [aU];rfl]
  rw [zj (fun t:Int=> D.str (kq t)) (fun _=> true) (fun t=>.int t) ts (fun t ht=> ⟨_,ag6,rfl,fun _=> by
   walk_at "ev"
   exact ahd (h.2.1 t ht).1 (by have:=(h.2.1 t ht).2;lia)⟩),bS.mpr (fun _ _=> rfl)]
  walk_at "ev"
  simp only [Pt.d]
 |copy a bs=>
  have W:=aac
  rw [show (Pt.copy a bs).ws.map ac=.str "copy":: .str a::bs.map ac from rfl]
  walk_at "ev"
  rw [W.h]
  walk_at "ev"
  rw [W.o]
  walk_at "ev"
  rw [W.c]
  walk_at "ev"
  rw [decide_eq_true (show (2:Int) <=((((bs.map ac).length+1+1:Nat)):Int) by lia)]
  walk_at "ev"
  rw [show qd (ac "copy":: .str a::bs.map ac) (some 2) none=bs.map ac from yj _ 2]
  simp only [Pt.d]
 |merge bs a=>
  have W:=ym
  rw [show (Pt.merge bs a).ws.map ac=.str "merge"::(bs.map ac++ [.str a]) by simp [Pt.ws]]
  walk_at "ev"
  rw [W.h]
  walk_at "ev"
  rw [W.o]
  walk_at "ev"
  rw [W.c]
  walk_at "ev"
  rw [W.m]
  walk_at "ev"
  rw [aqu,show ac "merge"::(bs.map ac++ [ac a])=(ac "merge"::bs.map ac)++ [ac a] from rfl,az8]
  walk_at "ev"
  simp only [Pt.d]
structure Fr where
 m:Int
 ss:List Str
 P:Ps
structure St where
 fs:List Fr
 ts:List (List Str)
 c:Nat
inductive It where
 |net (m:Int) (ss:List Str)|within (qs:List Str)|ende|flat (p:Pt)
def It.ws:It -> List Str
 |.net m ss=> "net"::kq m::ss
 |.within qs=> "within"::qs
 |.ende=> ["end"]
 |.flat p=> p.ws
def Fr.add(f:Fr)(p:Pt):Fr:=⟨f.m,f.ss,f.P.snoc p⟩
noncomputable def Fr.nt(f:Fr):Nt:=.mk f.m f.ss f.P
inductive Go:It -> St -> St -> Prop
 |net {m:Int} {ss:List Str} {fs:List Fr} {ts:List (List Str)} {c:Nat}:fs.length=ts.length -> fs.length < 4 -> 1 <=m -> m <=3 -> UnK ss 6 -> (∀ts' q,ts=ts'++ [q] -> q.length=ss.length) -> (∀fs' f,fs=fs'++ [f] -> f.m=m) -> Go (.net m ss) ⟨fs,ts,c⟩ ⟨fs++ [⟨m,ss,.nil⟩],ts,c⟩
 |within {qs:List Str} {fs:List Fr} {ts:List (List Str)} {c:Nat}:fs.length=ts.length+1 -> fs.length < 4 -> c < 120 -> UnK qs 6 -> Go (.within qs) ⟨fs,ts,c⟩ ⟨fs,ts++ [qs],c+1⟩
 |ende {f g:Fr} {q:List Str} {fs:List Fr} {ts:List (List Str)} {c:Nat}:fs.length=ts.length -> fs.length < 4 -> g.P.ds.length <=120 -> f.P.ds.length <=120 -> Go .ende ⟨fs++ [f,g],ts++ [q],c⟩ ⟨fs++ [f.add (.net g.nt q)],ts,c⟩
 |flat {p:Pt} {f:Fr} {fs:List Fr} {ts:List (List Str)} {c:Nat}:fs.length=ts.length -> fs.length < 4 -> c < 120 -> f.m <=3 -> FlK f.m p -> f.P.ds.length <=120 -> Go (.flat p) ⟨fs++ [f],ts,c⟩ ⟨fs++ [f.add p],ts,c+1⟩
def Run:List It -> St -> St -> Prop
 |[],a,b=> a=b
 |i::r,a,b=> ∃x,Go i a x/\Run r x b
theorem aiq: ∀{l r:List It} {a x b:St},Run l a x -> Run r x b -> Run (l++r) a b
 |[],_,_,_,_,h,k=> by cases h;exact k
 |i::l,r,a,x,b,h,k=> by
  obtain⟨y,h1,h2⟩:=h
  exact⟨y,h1,aiq h2 k⟩
def Nt.ps:Nt -> Ps
 |.mk _ _ ps=> ps
mutual
noncomputable def Nt.its:Nt -> List It
 |.mk m ss ps=>.net m ss::Ps.its ps
noncomputable def Pt.its:Pt -> List It
 |.net n qs=>.within qs::(Nt.its n++ [.ende])
 |.two w a b=> [.flat (.two w a b)]
 |.held w a b h=> [.flat (.held w a b h)]
 |.only a b ts=> [.flat (.only a b ts)]
 |.copy a bs=> [.flat (.copy a bs)]
 |.merge bs a=> [.flat (.merge bs a)]
noncomputable def Ps.its:Ps -> List It
 |.nil=> []
 |.cons p r=> Pt.its p++Ps.its r
end
def It.l(i:It):Str:=a9 " " i.ws
theorem a4t:a9 " " ["end"]=bi "end":=by decide+kernel
mutual
theorem ar9: ∀N:Nt,N.its.map It.l=N.ls
 |.mk m ss ps=> by simp only [Nt.its,Nt.ls,aA,ast ps];rfl
theorem a43: ∀p:Pt,p.its.map It.l=p.ls
 |.net n qs=> by
  simp only [Pt.its,Pt.ls,aA,aS,ar9 n,bv]
  rw [show It.l .ende=bi "end" from a4t];rfl
 |.two w a b=> by simp only [Pt.its,Pt.ls,aA,bv];rfl
 |.held w a b h=> by simp only [Pt.its,Pt.ls,aA,bv];rfl
 |.only a b ts=> by simp only [Pt.its,Pt.ls,aA,bv];rfl
 |.copy a bs=> by simp only [Pt.its,Pt.ls,aA,bv];rfl
 |.merge bs a=> by simp only [Pt.its,Pt.ls,aA,bv];rfl
theorem ast: ∀r:Ps,r.its.map It.l=r.ls
 |.nil=> by simp only [Ps.its,Ps.ls,bv]
 |.cons p r=> by simp only [Ps.its,Ps.ls,aS,a43 p,ast r]
end
def Ps.app:Ps -> Ps -> Ps
 |.nil,r=> r
 |.cons p l,r=>.cons p (Ps.app l r)
theorem aop: ∀r:Ps,r.app .nil=r
 |.nil=> rfl
 |.cons p r=> by simp only [Ps.app,aop r]
theorem amz: ∀(l:Ps) (p:Pt) (r:Ps),(l.snoc p).app r=l.app (.cons p r)
 |.nil,p,r=> rfl
 |.cons q l,p,r=> by simp only [Ps.snoc,Ps.app,amz l p r]
mutual
theorem art: ∀r:Ps,r.ds.length <=r.cnt
 |.nil=> by simp [Ps.ds,Ps.cnt]
 |.cons p r=> by
  have:=art r
  have:=as0 p
  simp only [Ps.ds,Ps.cnt,av];lia
theorem as0: ∀p:Pt,1 <=p.cnt
 |.net n qs=> by simp [Pt.cnt]
 |.two w a b=> by simp [Pt.cnt]
 |.held w a b h=> by simp [Pt.cnt]
 |.only a b ts=> by simp [Pt.cnt]
 |.copy a bs=> by simp [Pt.cnt]
 |.merge bs a=> by simp [Pt.cnt]
end
def a5b(m:Int)(N:Nt):Prop:= ∀(k:Nat) (fs:List Fr) (ts:List (List Str)) (c:Nat),NtK m N k -> fs.length=ts.length -> 1 <=k -> fs.length+k <=4 -> c+N.cnt <=120 -> (∀ts' q,ts=ts'++ [q] -> q.length=N.seen.length) -> (∀fs' f,fs=fs'++ [f] -> f.m=m) -> Run N.its ⟨fs,ts,c⟩ ⟨fs++ [⟨m,N.seen,N.ps⟩],ts,c+N.cnt⟩
def ax7(m:Int)(p:Pt):Prop:= ∀(k:Nat) (f:Fr) (fs:List Fr) (ts:List (List Str)) (c:Nat),PtK m p k -> f.m=m -> fs.length=ts.length -> 1 <=k -> fs.length+k <=4 -> c+p.cnt <=120 -> f.P.ds.length+p.cnt <=120 -> Run p.its ⟨fs++ [f],ts,c⟩ ⟨fs++ [f.add p],ts,c+p.cnt⟩
def a5r(m:Int)(r:Ps):Prop:= ∀(k:Nat) (f:Fr) (fs:List Fr) (ts:List (List Str)) (c:Nat),PsK m r k -> f.m=m -> fs.length=ts.length -> 1 <=k -> fs.length+k <=4 -> c+r.cnt <=120 -> f.P.ds.length+r.cnt <=120 -> Run r.its ⟨fs++ [f],ts,c⟩ ⟨fs++ [⟨f.m,f.ss,f.P.app r⟩],ts,c+r.cnt⟩
theorem afo(hm:m <=3){p:Pt}(hp: ∀k,PtK m p k -> FlK m p)(e:p.its=[.flat p])(ec:p.cnt=1):ax7 m p:=by
 intro k f fs ts c h hf hl h1 h4 hc hd
 subst hf
 rw [e,ec]
 exact⟨_,.flat hl (by lia) (by lia) hm (hp k h) (by lia),rfl⟩
mutual
theorem asp{m:Int}(h1:1 <=m)(hm:m <=3): ∀N:Nt,a5b m N
 |.mk m' ss ps=> by
  intro k fs ts c h hl hk h4 hc hq hf
  simp only [NtK]at h
  obtain⟨rfl,us,hP⟩:=h
  have hc':c+ps.cnt <=120:=hc
  simp only [Nt.its]
  refine⟨_,.net hl (by lia) h1 hm us hq hf,?_⟩
  have:=ase h1 hm ps k ⟨m',ss,.nil⟩ fs ts c hP rfl hl hk h4 hc' (by simp [Ps.ds];lia)
  exact this
theorem a22{m:Int}(h1:1 <=m)(hm:m <=3): ∀p:Pt,ax7 m p
 | .net n qs=> by
  intro k f fs ts c h hf hl hk h4 hc hd
  simp only [PtK]at h
  obtain⟨h2,uq,sl,hN⟩:=h
  simp only [Pt.cnt]at hc hd⊢
  have dl:=art n.ps
  have dc:n.ps.cnt=n.cnt:=by cases n;rfl
  simp only [Pt.its]
  refine⟨_,.within (by simp;lia) (by simp;lia) (by lia) uq,?_⟩
  have:=asp h1 hm n (k - 1) (fs++ [f]) (ts++ [qs]) (c+1) hN (by simp;lia) (by lia) (by simp;lia) (by lia) (fun ts' q e=> by
   have:=(List.append_inj' e rfl).2
   cases this;exact sl.symm) (fun fs' g e=> by
   have:=(List.append_inj' e rfl).2
   cases this;exact hf)
  refine aiq this ?_
  refine⟨_,?_,rfl⟩
  have e:fs++ [f]++ [⟨m,n.seen,n.ps⟩]=fs++ [f,⟨m,n.seen,n.ps⟩]:=by simp
  rw [e,show c+(1+n.cnt)=c+1+n.cnt by lia]
  have en:(⟨m,n.seen,n.ps⟩:Fr).nt=n:=by
   cases n with
   |mk m' ss ps=>
    simp only [NtK]at hN
    obtain⟨rfl,_⟩:=hN
    rfl
  have:=Go.ende (f:=f) (g:=⟨m,n.seen,n.ps⟩) (q:=qs) (fs:=fs) (ts:=ts) (c:=c+1+n.cnt) hl (by lia) (by show n.ps.ds.length <=120;lia) (by lia)
  rw [en]at this
  exact this
 |.two w a b=> afo (p:=.two w a b) hm (fun _ h=> h) (by simp only [Pt.its]) (by simp only [Pt.cnt])
 |.held w a b h=> afo (p:=.held w a b h) hm (fun _ h=> h) (by simp only [Pt.its]) (by simp only [Pt.cnt])
 |.only a b ts=> afo (p:=.only a b ts) hm (fun _ h=> h) (by simp only [Pt.its]) (by simp only [Pt.cnt])
 |.copy a bs=> afo (p:=.copy a bs) hm (fun _ h=> h) (by simp only [Pt.its]) (by simp only [Pt.cnt])
 |.merge bs a=> afo (p:=.merge bs a) hm (fun _ h=> h) (by simp only [Pt.its]) (by simp only [Pt.cnt])
theorem ase{m:Int}(h1:1 <=m)(hm:m <=3): ∀r:Ps,a5r m r
 |.nil=> by
  intro k f fs ts c h hf hl hk h4 hc hd
  simp only [Ps.its,Ps.cnt,aop]
  rfl
 |.cons p r=> by
  intro k f fs ts c h hf hl hk h4 hc hd
  simp only [PsK]at h
  simp only [Ps.cnt]at hc hd⊢
  have pp:=as0 p
  simp only [Ps.its]
  have a:=a22 h1 hm p k f fs ts c h.1 hf hl hk h4 (by lia) (by lia)
  have b:=ase h1 hm r k (f.add p) fs ts (c+p.cnt) h.2 hf hl hk h4 (by lia) (by show (f.P.snoc p).ds.length+_ <=_;rw [adm];simp;lia)
  have:=aiq a b
  rw [show (f.add p).P.app r=f.P.app (.cons p r) from amz _ _ _,show (f.add p).m=f.m from rfl,show (f.add p).ss=f.ss from rfl,eA]at this
  exact this
end
noncomputable def rdO(B T c:Nat):O:=.ins "Reader" [("begun",.ref B),("told",.ref T),("many",.int (c:Int))]
def bgO(m:Int)(ss:List Str)(p:Nat):O:=.ins "Begun" [("things",.int m),("seen",.tup (ss.map ac)),("parts",.ref p)]
section
variable{s:S}{r B T c p b n:Nat}{m:Int}{ss:List Str}{fa:FA}{ρ:En}{F:FF}
theorem xy(h:s[r]?=some (rdO B T c)):ae8 ct "begun" (.ref r) s=.ok (.ref B) s:=abt h (by decide+kernel) rfl
theorem z9(h:s[r]?=some (rdO B T c)):ae8 ct "told" (.ref r) s=.ok (.ref T) s:=abt h (by decide+kernel) rfl
theorem asq(h:s[r]?=some (rdO B T c)):ae8 ct "many" (.ref r) s=.ok (.int (c:Int)) s:=abt h (by decide+kernel) rfl
theorem acb(h:s[b]?=some (bgO m ss p)):ae8 ct "things" (.ref b) s=.ok (.int m) s:=abt h (by decide+kernel) rfl
theorem an5(h:s[b]?=some (bgO m ss p)):ae8 ct "seen" (.ref b) s=.ok (.tup (ss.map ac)) s:=abt h (by decide+kernel) rfl
theorem aiv(h:s[b]?=some (bgO m ss p)):ae8 ct "parts" (.ref b) s=.ok (.ref p) s:=abt h (by decide+kernel) rfl
theorem ark(h:s[r]?=some (rdO B T c)):aga ct "many" (fun i j=> i+j) (jd 0) (fC (.da (.int 1))) (some (.ref r)::ρ) s=.ok (.nx (some (.ref r)::ρ)) (s.set r (rdO B T (c+1))):=axw (i:=(c:Int)) (j:=1) rfl rfl h (by decide+kernel) rfl (by show 3 < 1000;decide)
theorem ayn(h:s[r]?=some (rdO B T c)):aau "takes" [("Reader",2,F)] fa ρ (.ref r) s=(fa ρ s).bind (xu 2 F (.ref r)):=yn h rfl rfl
theorem au4(h:s[r]?=some (rdO B T c)):aau "begins" [("Reader",2,F)] fa ρ (.ref r) s=(fa ρ s).bind (xu 2 F (.ref r)):=yn h rfl rfl
theorem a11(h:s[r]?=some (rdO B T c)):aau "fits" [("Reader",2,F)] fa ρ (.ref r) s=(fa ρ s).bind (xu 2 F (.ref r)):=yn h rfl rfl
theorem a46(h:s[r]?=some (rdO B T c)):aau "ends" [("Reader",1,F)] fa ρ (.ref r) s=(fa ρ s).bind (xu 1 F (.ref r)):=yn h rfl rfl
theorem auh(h:s[r]?=some (rdO B T c)):aau "goes_within" [("Reader",2,F)] fa ρ (.ref r) s=(fa ρ s).bind (xu 2 F (.ref r)):=yn h rfl rfl
theorem a12(h:s[r]?=some (rdO B T c)):aau "lays" [("Reader",2,F)] fa ρ (.ref r) s=(fa ρ s).bind (xu 2 F (.ref r)):=yn h rfl rfl
theorem a3w(h:s[r]?=some (rdO B T c)):aau "is_done" [("Reader",1,F)] fa ρ (.ref r) s=(fa ρ s).bind (xu 1 F (.ref r)):=yn h rfl rfl
theorem ax3(h:s[b]?=some (bgO m ss p)):aau "as_net" [("Begun",1,F)] fa ρ (.ref b) s=(fa ρ s).bind (xu 1 F (.ref b)):=yn h rfl rfl
theorem abv{o o':O}{g:S}:(s++o::g).set s.length o'=s++o'::g:=by simp
theorem abp{o:O}{g:S}:(s++o::g)[s.length]?=some o:=by simp
theorem aw1:yk [.ref s.length] (s++ [.ins "Reader" []])=.ok (.da .none) (s++ [rdO (s.length+1) (s.length+2) 0,.lst [],.lst []]):=by
 rw [al4];unfold acd
 walk_at "ev"
 rw [aaa abp (by decide+kernel) (by decide),abv]
 walk_at "ev"
 rw [aaa abp (by decide+kernel) (by show 1 < 1000;decide),abv]
 walk_at "ev"
 rw [aaa abp (by decide+kernel) (by show 2 < 1000;decide),abv]
 walk_at "ev"
 rfl
theorem a0f:aal [.ref s.length,.int m,.tup (ss.map ac)] (s++ [.ins "Begun" []])=.ok (.da .none) (s++ [bgO m ss (s.length+1),.lst []]):=by
 rw [anb];unfold ad2
 walk_at "ev"
 rw [aaa abp (by decide+kernel) (by decide),abv]
 walk_at "ev"
 rw [aaa abp (by decide+kernel) (by show 1 < 1000;decide),abv]
 walk_at "ev"
 rw [aaa abp (by decide+kernel) (by show 2 < 1000;decide),abv]
 walk_at "ev"
 rfl
theorem awu{P:Ps}(h:s[b]?=some (bgO m ss p))(hp:s[p]?=some (.lst (P.ds.map D.da))):xh [.ref b] s=.ok (.da (Nt.mk m ss P).d) s:=by
 rw [ake];unfold abb
 walk_at "ev"
 rw [acb h]
 walk_at "ev"
 rw [an5 h]
 walk_at "ev"
 rw [aiv h]
 walk_at "ev"
 rw [ak1 hp]
 walk_at "ev"
 simp only [Nt.d]
end
structure Cr where
 fr:Fr
 b:Nat
 p:Nat
noncomputable def Cr.ad(x:Cr):List Nat:=[x.b,x.p]
structure Hs (s0:S) (r B T:Nat) (cs:List Cr) (ts:List (List Str)) (c:Nat) (s:S):Prop where
 hr:s[r]?=some (rdO B T c)
 hb:s[B]?=some (.lst (cs.map fun x=>.ref x.b))
 ht:s[T]?=some (.lst (ts.map fun q=>.tup (q.map ac)))
 hf: ∀x∈cs,s[x.b]?=some (bgO x.fr.m x.fr.ss x.p)/\s[x.p]?=some (.lst (x.fr.P.ds.map D.da))
 nd:(r::B::T::cs.flatMap Cr.ad).Nodup
 z: ∀a∈r::B::T::cs.flatMap Cr.ad,s0.length <=a
 x:Ext s0 s
structure Ne3 (r B T a:Nat):Prop where
 r:a≠r
 b:a≠B
 t:a≠T
section
variable{s0 s:S}{r B T:Nat}{cs:List Cr}{ts:List (List Str)}{c:Nat}
theorem Hs.ne(h:Hs s0 r B T cs ts c s):r≠B/\r≠T/\B≠T/\ ∀a∈cs.flatMap Cr.ad,Ne3 r B T a:=by
 have:=h.nd
 simp only [cX,aw,not_or]at this
 obtain⟨⟨a,b,c⟩,⟨d,e⟩,f,_⟩:=this
 exact⟨a,b,d,fun x hx=> ⟨fun q=> c (q▸hx),fun q=> e (q▸hx),fun q=> f (q▸hx)⟩⟩
theorem ag2{x:Cr}(h:x∈cs):x.b∈cs.flatMap Cr.ad:=eH.mpr ⟨x,h,by simp [Cr.ad]⟩
theorem acz{x:Cr}(h:x∈cs):x.p∈cs.flatMap Cr.ad:=eH.mpr ⟨x,h,by simp [Cr.ad]⟩
theorem Hs.ltr(h:Hs s0 r B T cs ts c s):r < s.length:=(aq.mp h.hr).1
theorem Hs.ltb(h:Hs s0 r B T cs ts c s):B < s.length:=(aq.mp h.hb).1
theorem Hs.ltt(h:Hs s0 r B T cs ts c s):T < s.length:=(aq.mp h.ht).1
theorem Hs.setC(h:Hs s0 r B T cs ts c s)(c':Nat):Hs s0 r B T cs ts c' (s.set r (rdO B T c')):=by
 obtain⟨n1,n2,n3,n4⟩:=h.ne
 refine⟨aE h.ltr,?_,?_,fun x hx=> ?_,h.nd,h.z,h.x.own (h.z r (by simp))⟩
 ·rw [am n1];exact h.hb
 ·rw [am n2];exact h.ht
 ·rw [am (n4 _ (ag2 hx)).r.symm,am (n4 _ (acz hx)).r.symm];exact h.hf x hx
theorem Hs.setT(h:Hs s0 r B T cs ts c s)(ts':List (List Str)):Hs s0 r B T cs ts' c (s.set T (.lst (ts'.map fun q=>.tup (q.map ac)))):=by
 obtain⟨n1,n2,n3,n4⟩:=h.ne
 refine⟨?_,?_,aE h.ltt,fun x hx=> ?_,h.nd,h.z,h.x.own (h.z T (by simp))⟩
 ·rw [am n2.symm];exact h.hr
 ·rw [am n3.symm];exact h.hb
 ·rw [am (n4 _ (ag2 hx)).t.symm,am (n4 _ (acz hx)).t.symm];exact h.hf x hx
theorem Hs.pop{x:Cr}(h:Hs s0 r B T (cs++ [x]) ts c s):Hs s0 r B T cs ts c (s.set B (.lst (cs.map fun x=>.ref x.b))):=by
 obtain⟨n1,n2,n3,n4⟩:=h.ne
 have nd:=h.nd
 rw [cu]at nd
 have sub: ∀a∈r::B::T::cs.flatMap Cr.ad,a∈r::B::T::(cs++ [x]).flatMap Cr.ad:=fun a ha=> by
  rw [cu]
  simp only [aw,a7]at ha⊢
  rcases ha with q|q|q|q
  ·exact .inl q
  ·exact .inr (.inl q)
  ·exact .inr (.inr (.inl q))
  ·exact .inr (.inr (.inr (.inl q)))
 refine⟨?_,aE h.ltb,?_,fun y hy=> ?_,?_,fun a ha=> h.z a (sub a ha),h.x.own (h.z B (by simp))⟩
 ·rw [am n1.symm];exact h.hr
 ·rw [am n3];exact h.ht
 ·have hy':y∈cs++ [x]:=cf _ hy
  rw [am (n4 _ (ag2 hy')).b.symm,am (n4 _ (acz hy')).b.symm];exact h.hf y hy'
 ·refine List.Sublist.nodup ?_ nd
  exact ((List.sublist_append_left _ _).cons₂ T).cons₂ B|>.cons₂ r
theorem Hs.add{x:Cr}(h:Hs s0 r B T (cs++ [x]) ts c s)(p:Pt):Hs s0 r B T (cs++ [⟨x.fr.add p,x.b,x.p⟩]) ts c (s.set x.p (.lst (x.fr.P.ds.map D.da++ [.da p.d]))):=by
 obtain⟨n1,n2,n3,n4⟩:=h.ne
 have hx:x∈cs++ [x]:=by simp
 have lt:x.p < s.length:=(aq.mp (h.hf x hx).2).1
 have nd:=h.nd
 have e:(cs++ [(⟨x.fr.add p,x.b,x.p⟩:Cr)]).flatMap Cr.ad=(cs++ [x]).flatMap Cr.ad:=by
  rw [cu,cu];rfl
 have nd2:(cs.flatMap Cr.ad++ [x.b,x.p]).Nodup:=by
  simp only [cX,cu]at nd
  exact nd.2.2.2
 rw [ef]at nd2
 have nn:=n4 _ (acz hx)
 refine⟨?_,?_,?_,fun y hy=> ?_,by rw [e];exact nd,by rw [e];exact h.z,h.x.own (h.z _ (by simp only [aw];exact .inr (.inr (.inr (acz hx)))))⟩
 ·rw [am nn.r];exact h.hr
 ·rw [am nn.b,h.hb];simp
 ·rw [am nn.t];exact h.ht
 ·rcases a7.mp hy with q|q
  ·have q1:=nd2.2.2 _ (ag2 q) x.p (by simp)
   have q2:=nd2.2.2 _ (acz q) x.p (by simp)
   rw [am q1.symm,am q2.symm]
   exact h.hf y (cf _ q)
  ·have:y=⟨x.fr.add p,x.b,x.p⟩:=by simpa using q
   subst this
   have bp:x.p≠x.b:=by
    have:=nd2.2.1
    simp at this
    exact fun e=> this e.symm
   refine⟨?_,?_⟩
   ·show (s.set x.p _)[x.b]?=_
    rw [am bp];exact (h.hf x hx).1
   ·show (s.set x.p _)[x.p]?=some (.lst ((x.fr.P.snoc p).ds.map D.da))
    rw [aE lt,adm];simp
theorem Hs.ext(h:Hs s0 r B T cs ts c s)(x:Ext s s'):Hs s0 r B T cs ts c s':=⟨x.get h.hr,x.get h.hb,x.get h.ht,fun y hy=> ⟨x.get (h.hf y hy).1,x.get (h.hf y hy).2⟩,h.nd,h.z,h.x.trans x⟩
end
theorem ajh: ∀{xs:List Str},(∀x∈xs,okD (.str x)=true) -> bw (xs.map ac)=true/\bE (xs.map ac) <=1
 |[],_=> ⟨rfl,by simp [bE]⟩
 |x::r,h=> by
  obtain⟨a,b⟩:=ajh fun y hy=> h y (az _ hy)
  have hx:=h x aC
  unfold PF.okD at hx
  rw [aF]at hx
  refine⟨by simp only [aA,bw,a,hx.1,eC],?_⟩
  (simp only [aA,bE,bX])
  lia
theorem aw6{xs:List Str}(h: ∀x∈xs,okD (.str x)=true):okD (.list (xs.map ac))=true:=by
 obtain⟨a,b⟩:=ajh h
 unfold PF.okD
 rw [aF]
 exact⟨by simpa only [cN] using a,decide_eq_true (by simp only [bX];lia)⟩
theorem ac5{xs:List D}{x:D}(h:s[a]?=some (.lst (xs++ [x]))):gIx (.ref a) (.int (-1)) s=.ok x s:=by
 show (match (match s[a]? with|some (O.lst ds)=> some ds|_=> none) with|some ds=> (match atI ds (-1) with|some d=> R.ok d s|none=>.bad)|none=>.bad)=_
 rw [h]
 show (match atI (xs++ [x]) (-1) with|some d=> R.ok d s|none=>.bad)=_
 have:atI (xs++ [x]) (-1)=some x:=by
  unfold atI ixN
  rw [if_neg (by decide),if_pos (by simp;lia)]
  rw [show ((-1:Int)+((xs++ [x]).length:Int)).toNat=xs.length by simp;lia]
  simp
 rw [this]
theorem ag3{ds:List D}(h:s[a]?=some (.lst ds)):ad4 (.ref a) s=.ok (!ds.isEmpty) s:=by
 show (match (match s[a]? with|some (O.lst ds)=> some ds|_=> none) with|some ds=> R.ok (!ds.isEmpty) s|none=>.bad)=_
 rw [h]
theorem a2n(h:WdK x):okD (.str x)=true:=by
 unfold PF.okD
 rw [aF]
 refine⟨?_,decide_eq_true (by simp [bX])⟩
 simp only [cN]
 unfold PyData.strOk
 (rw [←dq,aH])
 intro c hc
 have:=h.a c hc
 (exact decide_eq_true (by lia))
theorem axg(x y:Str):aJ (.str x) (.str y)=decide (x=y):=by
 show (x==y)=_
 (rw [bm,beq_iff_eq,decide_eq_true_eq])
theorem a42{w:Str}{r:List Str}(h: ∀x∈w::r,WdK x):gEq (.lst ((w::r).map ac)) (.lst [.str "end"]) s=.ok (.bl (decide (w="end")&&r.isEmpty)) s:=by
 rw [am3 (aw6 fun x hx=> a2n (h x hx)) (by decide+kernel)]
 cases r with
 |nil=>
  have:aJ (.list ([w].map ac)) (.list [.str "end"])=(aJ (.str w) (.str "end")&&true):=rfl
  rw [this,axg];rfl
 |cons y r=>
  have:aJ (.list ((w::y::r).map ac)) (.list [.str "end"])=(aJ (.str w) (.str "end")&&false):=rfl
  rw [this,axg];rfl
theorem ar6{xs:List D}{x:D}(h:s[a]?=some (.lst (xs++ [x]))):ais (.ref a) [] s=.ok x (s.set a (.lst xs)):=by
 unfold ais
 simp only [onL,h,aO,av,ck,Nat.zero_add,Nat.add_sub_cancel,List.dropLast_concat]
 rw [bq (ao _)]
 simp
section
variable{s0 s:S}{r B T:Nat}{cs:List Cr}{ts:List (List Str)}{c:Nat}
theorem a4v{b p:Nat}{m:Int}{ss:List Str}(h:s[r]?=some (rdO B T c))(ht:s[T]?=some (.lst [])):xv [.ref r,.ref b] s=.ok (.bl true) s:=by
 rw [af6];unfold zk
 walk_at "ev"
 rw [z9 h]
 walk_at "ev"
 rw [ag3 ht]
 walk_at "ev"
 rfl
theorem a5p{b p:Nat}{q:List Str}{x:Cr}{bs:List D}{qs:List D}(h:s[r]?=some (rdO B T c))(ht:s[T]?=some (.lst (qs++ [.tup (q.map ac)])))(hb:s[B]?=some (.lst (bs++ [.ref x.b])))(hx:s[x.b]?=some (bgO x.fr.m x.fr.ss x.p))(hn:s[b]?=some (bgO m ss p))(em:x.fr.m=m)(el:q.length=ss.length):xv [.ref r,.ref b] s=.ok (.bl true) s:=by
 rw [af6];unfold zk
 walk_at "ev"
 rw [z9 h]
 walk_at "ev"
 rw [ag3 ht,show (qs++ [D.tup (q.map ac)]).isEmpty=false by simp]
 walk_at "ev"
 rw [acb hn]
 walk_at "ev"
 rw [xy h]
 walk_at "ev"
 rw [ac5 hb]
 walk_at "ev"
 rw [acb hx]
 walk_at "ev"
 rw [aa9,decide_eq_true em.symm]
 walk_at "ev"
 rw [an5 hn]
 walk_at "ev"
 rw [z9 h]
 walk_at "ev"
 rw [ac5 ht]
 walk_at "ev"
 rw [aa9,aj,aj,el,decide_eq_true rfl]
 rfl
end
section
variable{s0 s:S}{r B T:Nat}{cs:List Cr}{ts:List (List Str)}{c:Nat}{m:Int}{ss:List Str}
theorem Hs.lt(h:Hs s0 r B T cs ts c s): ∀a∈r::B::T::cs.flatMap Cr.ad,a < s.length:=fun a ha=> by
 simp only [aw]at ha
 rcases ha with rfl|rfl|rfl|ha
 ·exact h.ltr
 ·exact h.ltb
 ·exact h.ltt
 ·obtain⟨x,hx,ha⟩:=eH.mp ha
  simp only [Cr.ad,aw,bt,or_false]at ha
  rcases ha with rfl|rfl
  ·exact (aq.mp (h.hf x hx).1).1
  ·exact (aq.mp (h.hf x hx).2).1
theorem Hs.push(h:Hs s0 r B T cs ts c s):Hs s0 r B T (cs++ [⟨⟨m,ss,.nil⟩,s.length,s.length+1⟩]) ts c ((s++ [bgO m ss (s.length+1),.lst []]).set B (.lst ((cs.map fun x=>.ref x.b)++ [.ref s.length]))):=by
 obtain⟨n1,n2,n3,n4⟩:=h.ne
 have x0:=Ext.add s [bgO m ss (s.length+1),.lst []]
 have lt:=h.lt
 have lb:=h.ltb
 have e:(cs++ [(⟨⟨m,ss,.nil⟩,s.length,s.length+1⟩:Cr)]).flatMap Cr.ad=cs.flatMap Cr.ad++ [s.length,s.length+1]:=by rw [cu];rfl
 refine⟨?_,?_,?_,fun y hy=> ?_,?_,fun a ha=> ?_,(h.x.trans x0).own (h.z B (by simp))⟩
 ·rw [am n1.symm];exact x0.get h.hr
 ·rw [aE (by simp;lia)];simp
 ·rw [am n3];exact x0.get h.ht
 ·rcases a7.mp hy with q|q
  ·rw [am (n4 _ (ag2 q)).b.symm,am (n4 _ (acz q)).b.symm]
   exact⟨x0.get (h.hf y q).1,x0.get (h.hf y q).2⟩
  ·have:y=⟨⟨m,ss,.nil⟩,s.length,s.length+1⟩:=by simpa using q
   subst this
   refine⟨?_,?_⟩
   ·show (List.set _ B _)[s.length]?=_
    rw [am (by lia)];simp
   ·show (List.set _ B _)[s.length+1]?=_
    rw [am (by lia)];simp [Ps.ds]
 ·rw [e,show r::B::T::(cs.flatMap Cr.ad++ [s.length,s.length+1])=(r::B::T::cs.flatMap Cr.ad)++ [s.length,s.length+1] from rfl,ef]
  refine⟨h.nd,by simp,fun a ha b hb=> ?_⟩
  have:=lt a ha
  (simp only [aw,bt,or_false]at hb)
  lia
 ·rw [e,show r::B::T::(cs.flatMap Cr.ad++ [s.length,s.length+1])=(r::B::T::cs.flatMap Cr.ad)++ [s.length,s.length+1] from rfl,a7]at ha
  rcases ha with q|q
  ·exact h.z a q
  ·have:=h.x.len
   simp only [aw,bt,or_false]at q
   lia
theorem ayo{s1:S}{b p:Nat}(h:Hs s0 r B T cs ts c s1)(hn:s1[b]?=some (bgO m ss p))(hl:cs.length=ts.length)(h1: ∀ts' q,ts=ts'++ [q] -> q.length=ss.length)(h2: ∀cs' x,cs=cs'++ [x] -> x.fr.m=m):xv [.ref r,.ref b] s1=.ok (.bl true) s1:=by
 rcases gW ts with e|⟨ts',q,e⟩
 ·subst e
  exact a4v (p:=p) (m:=m) (ss:=ss) h.hr h.ht
 ·rw [gX]at e
  subst e
  rcases gW cs with e|⟨cs',x,e⟩
  ·subst e;simp at hl
  ·rw [gX]at e
   subst e
   have ht:=h.ht
   have hb:=h.hb
   rw [aS]at ht hb
   exact a5p h.hr ht hb (h.hf x (by simp)).1 hn (h2 _ _ rfl) (h1 _ _ rfl)
theorem aye:gNe (.da (.str x)) (.da (.str x)) s=.ok (.bl false) s:=by
 show R.ok (D.bl (!decide (x=x))) s=_
 rw [decide_eq_true rfl];rfl
theorem a15(h:Hs s0 r B T cs ts c s)(hl:cs.length=ts.length)(hs:cs.length <=1000)(m1:1 <=m)(m3:m <=3)(us:UnK ss 6)(h1: ∀ts' q,ts=ts'++ [q] -> q.length=ss.length)(h2: ∀cs' x,cs=cs'++ [x] -> x.fr.m=m):
  qf [.ref r,.lst ((("net":Str)::kq m::ss).map ac)] s=.ok (.bl true) ((s++ [bgO m ss (s.length+1),.lst []]).set B (.lst ((cs.map fun x=>.ref x.b)++ [.ref s.length]))):=by
 have x0:=Ext.add s [bgO m ss (s.length+1),.lst []]
 have ul:=us.l
 have hn:(s++ [bgO m ss (s.length+1),.lst []])[s.length]?=some (bgO m ss (s.length+1)):=by simp
 rw [aeu];unfold y3
 walk_at "ev"
 rw [xy h.hr]
 walk_at "ev"
 rw [ze h.hb]
 walk_at "ev"
 rw [z9 h.hr]
 walk_at "ev"
 rw [ze h.ht]
 walk_at "ev"
 rw [aa9,decide_eq_true (by simp only [aj];lia)]
 walk_at "ev"
 rw [au4 h.hr]
 walk_at "ev"
 rw [aj2];unfold aa0
 rw [show (("net":Str)::kq m::ss).map ac=ac "net":: .str (kq m)::ss.map ac from rfl]
 walk_at "ev"
 (rw [decide_eq_false (by lia)])
 walk_at "ev"
 rw [aye]
 walk_at "ev"
 rw [show D.da (ac (kq m))=.str (kq m) from rfl,ahd (by lia) (by lia)]
 walk_at "ev"
 rw [show qd (ac "net":: .str (kq m)::ss.map ac) (some 2) none=ss.map ac from yj _ 2]
 walk_at "ev"
 rw [a0f]
 walk_at "ev"
 rw [acb hn]
 walk_at "ev"
 rw [aw9 m1 m3]
 walk_at "ev"
 rw [an5 hn]
 walk_at "ev"
 rw [asw us]
 walk_at "ev"
 rw [a11 (x0.get h.hr)]
 walk_at "ev"
 rw [ayo (h.ext x0) hn hl h1 h2]
 walk_at "ev"
 rw [xy (x0.get h.hr)]
 walk_at "ev"
 rw [vn (x0.get h.hb)]
 walk_at "ev"
 rw [v6 (x0.get h.hb) (by rw [aj];lia)]
 walk_at "ev"
end
section
variable{s0 s:S}{r B T:Nat}{cs:List Cr}{ts:List (List Str)}{c:Nat}{m:Int}{ss:List Str}
theorem aj3{w:Str}{ws:List Str}(h:Hs s0 r B T cs ts c s)(hl:cs.length=ts.length+1)(hw: ∀x∈w::ws,WdK x):qf [.ref r,.lst ((w::ws).map ac)] s=
  ((aq3 (jq (v4 "ends" [("Reader",1,zx)] (jd 0) jf)) jy [some (.ref r),some (.lst ((w::ws).map ac))] (decide (w="end")&&ws.isEmpty) s).bind (aoz
  (jk (j4 (jt (fOp gEq (qk ct "many" (jd 0)) (fC (.da (.int 120))))) (jq (fC (.da (.bool false)))) jy)
  (jk (j4 (jt (fOp gEq (fOp gIx (jd 1) (fC (.da (.int 0)))) (fC (.da (.str "within"))))) (jq (v4 "goes_within" [("Reader",2,xf)] (jd 0) (jb (fCB qb (jb (fSl false (jd 1) (ko (fC (.da (.int 1)))) fNo) jf)) jf))) jy)
  (jq (v4 "lays" [("Reader",2,zr)] (jd 0) (jb (jn 1 abx (jb (jd 1) jf)) jf))))))).bind j8:=by
 rw [aeu];unfold y3
 walk_at "ev"
 rw [xy h.hr]
 walk_at "ev"
 rw [ze h.hb]
 walk_at "ev"
 rw [z9 h.hr]
 walk_at "ev"
 rw [ze h.ht]
 walk_at "ev"
 rw [aa9,decide_eq_false (by simp only [aj];lia)]
 walk_at "ev"
 rw [a42 hw]
 walk_at "ev"
theorem arq(h:Hs s0 r B T cs ts c s)(hl:cs.length=ts.length+1)(h4:cs.length < 4)(hc:c < 120)(us:UnK qs 6): ∃s',qf [.ref r,.lst ((("within":Str)::qs).map ac)] s=.ok (.bl true) s'/\Hs s0 r B T cs (ts++ [qs]) (c+1) s':=by
 have ul:=us.l
 rw [aj3 h hl (abj (v0 xj.2.2.1) us),decide_eq_false (by decide+kernel)]
 walk_at "ev"
 rw [asq h.hr]
 walk_at "ev"
 rw [aay,decide_eq_false (by lia)]
 rw [show (("within":Str)::qs).map ac=ac "within"::qs.map ac from rfl]
 walk_at "ev"
 rw [kb ⟨by decide+kernel,by decide+kernel,decide_eq_true rfl⟩]
 walk_at "ev"
 rw [auh h.hr]
 walk_at "ev"
 rw [show qd (ac "within"::qs.map ac) (some 1) none=qs.map ac from yj _ 1]
 rw [aey];unfold yi
 walk_at "ev"
 rw [xy h.hr]
 walk_at "ev"
 rw [ze h.hb]
 walk_at "ev"
 rw [aay,decide_eq_false (by simp only [aj];lia)]
 walk_at "ev"
 rw [asw us]
 walk_at "ev"
 rw [z9 h.hr]
 walk_at "ev"
 rw [vn h.ht]
 walk_at "ev"
 rw [v6 h.ht (by rw [aj];lia)]
 walk_at "ev"
 have h1:=h.setT (ts++ [qs])
 rw [aS,aA,bv]at h1
 rw [ark h1.hr]
 walk_at "ev"
 exact⟨_,rfl,h1.setC (c+1)⟩
theorem a0q{x:Cr}{p:Pt}(h:Hs s0 r B T (cs++ [x]) ts c s)(hl:cs.length=ts.length)(hc:c < 120)(hm:x.fr.m <=3)(fl:FlK x.fr.m p)(hd:x.fr.P.ds.length <=120): ∃s',qf [.ref r,.lst (p.ws.map ac)] s=.ok (.bl true) s'/\Hs s0 r B T (cs++ [⟨x.fr.add p,x.b,x.p⟩]) ts (c+1) s':=by
 obtain⟨w1,w2⟩:=aan hm fl
 have hx:=h.hf x (by simp)
 have hb:=h.hb
 rw [aS,aA,bv]at hb
 have ne: ∀w∈(["both","loose","drain","either","place","last","only","copy","merge"]:List Str),okD (.str w)=true/\decide (w="end")=false/\decide (w="within")=false:=by decide+kernel
 have nf:p.fst∈(["both","loose","drain","either","place","last","only","copy","merge"]:List Str):=by
  cases p with
  |two w a b=> exact cf (["place","last","only","copy","merge"]:List Str) fl.1
  |held w a b y=> exact bb (["both","loose","drain","either"]:List Str) (cf (["only","copy","merge"]:List Str) fl.1)
  |only a b ts=> simp [Pt.fst]
  |copy a bs=> simp [Pt.fst]
  |merge bs a=> simp [Pt.fst]
  |net n qs=> exact fl.elim
 obtain⟨n1,n2,n3⟩:=ne _ nf
 have e:=aks fl
 rw [e]at w1
 have pb:=ash (s:=s) hm fl
 rw [e]at pb⊢
 rw [aj3 h (by simp;lia) w1,n2]
 walk_at "ev"
 rw [asq h.hr]
 walk_at "ev"
 rw [aay,decide_eq_false (by lia)]
 rw [aA]at pb⊢
 walk_at "ev"
 rw [kb ⟨n1,by decide+kernel,n3⟩]
 walk_at "ev"
 rw [a12 h.hr]
 walk_at "ev"
 rw [pb]
 walk_at "ev"
 rw [alv];unfold aco
 walk_at "ev"
 rw [xy h.hr]
 walk_at "ev"
 rw [ac5 hb]
 walk_at "ev"
 rw [acb hx.1]
 walk_at "ev"
 rw [a3d fl]
 walk_at "ev"
 rw [xy h.hr]
 walk_at "ev"
 rw [ac5 hb]
 walk_at "ev"
 rw [aiv hx.1]
 walk_at "ev"
 rw [vn hx.2]
 walk_at "ev"
 rw [v6 hx.2 (by rw [aj];lia)]
 walk_at "ev"
 have h1:=h.add p
 rw [ark h1.hr]
 walk_at "ev"
 exact⟨_,rfl,h1.setC (c+1)⟩
end
section
variable{s0 s:S}{r B T:Nat}{cs:List Cr}{ts:List (List Str)}{c:Nat}{m:Int}{ss:List Str}
theorem azn{x y:Cr}{q:List Str}(h:Hs s0 r B T ((cs++ [x])++ [y]) (ts++ [q]) c s)(hl:cs.length=ts.length)(hd:x.fr.P.ds.length <=120): ∃s',qf [.ref r,.lst ((["end"]:List Str).map ac)] s=.ok (.bl true) s'/\Hs s0 r B T (cs++ [⟨x.fr.add (.net y.fr.nt q),x.b,x.p⟩]) ts c s':=by
 have hx:=h.hf x (by simp)
 have hy:=h.hf y (by simp)
 have hb:=h.hb
 rw [aS,aA,bv]at hb
 have ht:=h.ht
 rw [aS,aA,bv]at ht
 have h1:=h.pop
 obtain⟨n1,n2,n3,n4⟩:=h.ne
 have my:y∈(cs++ [x])++ [y]:=by simp
 have hy1:(s.set B (.lst ((cs++ [x]).map fun x=>.ref x.b)))[y.b]?=some (bgO y.fr.m y.fr.ss y.p):=by
  rw [am (n4 _ (ag2 my)).b.symm];exact hy.1
 have hy2:(s.set B (.lst ((cs++ [x]).map fun x=>.ref x.b)))[y.p]?=some (.lst (y.fr.P.ds.map D.da)):=by
  rw [am (n4 _ (acz my)).b.symm];exact hy.2
 rw [aj3 h (by simp;lia) (fun z hz=> by rw [bF.mp hz];exact v0 (by decide+kernel)),decide_eq_true rfl]
 walk_at "ev"
 rw [show List.isEmpty ([]:List Str)=true from rfl]
 walk_at "ev"
 rw [a46 h.hr]
 walk_at "ev"
 rw [al6];unfold acn
 walk_at "ev"
 rw [z9 h.hr]
 walk_at "ev"
 rw [ag3 ht,show (ts.map (fun q=> D.tup (q.map ac))++ [D.tup (q.map ac)]).isEmpty=false by simp]
 walk_at "ev"
 rw [xy h.hr]
 walk_at "ev"
 rw [vn hb]
 walk_at "ev"
 rw [ar6 hb]
 walk_at "ev"
 generalize hs1:s.set B (.lst ((cs++ [x]).map fun x=>.ref x.b))=s1 at h1 hy1 hy2⊢
 have hx1:=h1.hf x (by simp)
 have hb1:=h1.hb
 rw [aS,aA,bv]at hb1
 have ht1:=h1.ht
 rw [aS,aA,bv]at ht1
 rw [xy h1.hr]
 walk_at "ev"
 rw [ac5 hb1]
 walk_at "ev"
 rw [aiv hx1.1]
 walk_at "ev"
 rw [vn hx1.2]
 walk_at "ev"
 rw [ax3 hy1]
 walk_at "ev"
 rw [awu hy1 hy2]
 walk_at "ev"
 rw [z9 h1.hr]
 walk_at "ev"
 rw [vn ht1]
 walk_at "ev"
 rw [ar6 ht1]
 walk_at "ev"
 have h2:=h1.setT ts
 have hx2:=h2.hf x (by simp)
 rw [v6 hx2.2 (by rw [aj];lia)]
 walk_at "ev"
 have h3:=h2.add (.net y.fr.nt q)
 simp only [Pt.d]at h3
 exact⟨_,rfl,h3⟩
end
theorem a5l{r:Nat}{cs:List Cr}{i:It}{a b:St}(h:Hs s0 r B T cs a.ts a.c s)(e:cs.map Cr.fr=a.fs)(g:Go i a b): ∃s' cs',qf [.ref r,.lst (i.ws.map ac)] s=.ok (.bl true) s'/\cs'.map Cr.fr=b.fs/\Hs s0 r B T cs' b.ts b.c s':=by
 have el:cs.length=a.fs.length:=by rw [←e,aj]
 cases g with
 | net hl h4 m1 m3 us h1 h2=>
  rename_i m ss fs ts c
  simp only at e el h
  refine⟨_,_,a15 h (by lia) (by lia) m1 m3 us h1 (fun cs' x q=> ?_),?_,h.push⟩
  ·subst q
   rw [aS]at e
   exact h2 _ _ e.symm
  ·rw [aS,e];rfl
 |within hl h4 hc us=>
  simp only at e el h
  obtain⟨s',e1,h'⟩:=arq h (by lia) (by lia) hc us
  exact⟨s',cs,e1,e,h'⟩
 |ende hl h4 hg hf=>
  rename_i f g q fs ts c
  simp only at e el h
  obtain⟨c1,c2,rfl,e1,e2⟩:=gI.mp e
  obtain⟨x,c3,rfl,rfl,e3⟩:=dv.mp e2
  obtain⟨y,c4,rfl,rfl,e4⟩:=dv.mp e3
  have:c4=[]:=fk.mp e4
  subst this
  rw [show c1++ [x,y]=(c1++ [x])++ [y] by simp]at h
  obtain⟨s',e5,h'⟩:=azn h (by rw [←hl,←e1,aj]) hf
  exact⟨s',_,e5,by rw [aS,e1];rfl,h'⟩
 |flat hl h4 hc hm fl hd=>
  rename_i p f fs ts c
  simp only at e el h
  obtain⟨c1,c2,rfl,e1,e2⟩:=gI.mp e
  obtain⟨x,c3,rfl,rfl,e3⟩:=dv.mp e2
  have:c3=[]:=fk.mp e3
  subst this
  obtain⟨s',e5,h'⟩:=a0q h (by rw [←hl,←e1,aj]) hc hm fl hd
  exact⟨s',_,e5,by rw [aS,e1];rfl,h'⟩
theorem af2{g:Tg}{fb:FS}{p:Wk}{Q:Fl -> S -> Prop}(J:List D -> En -> S -> Prop)(src: ∀r ρ s,J r ρ s -> ye p s)
  (step: ∀d r ρ s,J (d::r) ρ s -> ∃ρ1,vt g d ρ=some ρ1/\(fb ρ1 s).W (flW (J r) Q)) (fin: ∀ρ s,J [] ρ s -> Q (.nx ρ) s):
  ∀(ds:List D) (ρ:En) (s:S),J ds ρ s -> (vx g fb p ds ρ s).W Q
 |[],ρ,s,h=> fin ρ s h
 | d::r,ρ,s,h=> by
  obtain⟨ρ1,e,w⟩:=step d r ρ s h
  rw [ajn e,R.W_bind]
  refine R.W_mono w fun fl s1 q=> ?_
  cases fl with
  |nx ρ2=>
   have q:J r ρ2 s1:=q
   rw [show adz g fb p r (.nx ρ2) s1=vx g fb p r ρ2 s1 from abu (src _ _ _ q)];exact af2 J src step fin r ρ2 s1 q
  |ct ρ2=>
   have q:J r ρ2 s1:=q
   rw [show adz g fb p r (.ct ρ2) s1=vx g fb p r ρ2 s1 from abu (src _ _ _ q)];exact af2 J src step fin r ρ2 s1 q
  |bk ρ2=> rw [anu];exact q
  |rt d=> rw [aos];exact q
theorem a5u{i:It}{a b:St}(g:Go i a b): ∃w ws,i.ws=w::ws/\(∀x∈w::ws,WdK x)/\(w::ws).length <=100:=by
 cases g with
 | net hl h4 m1 m3 us h1 h2=>
  rename_i m ss fs ts c
  have:=us.l
  exact⟨"net",kq m::ss,rfl,fun x hx=> by
   (rcases aw.mp hx with rfl|hx)
   ·exact v0 xj.2.1
   exact abj (adi (by lia) (by lia)) us x hx,by simp;lia⟩
 |within hl h4 hc us=>
  have:=us.l
  exact⟨_,_,rfl,abj (v0 xj.2.2.1) us,by simp;lia⟩
 |ende hl h4 hg hf=> exact⟨"end",[],rfl,fun z hz=> by rw [bF.mp hz];exact v0 (by decide+kernel),by simp⟩
 |flat hl h4 hc hm fl hd=>
  obtain⟨w1,w2⟩:=aan hm fl
  have e:=aks fl
  rw [e]at w1 w2
  exact⟨_,_,e,w1,by lia⟩
structure RnJ (s0:S) (a:Nat) (fin:St) (r:List D) (ρ:En) (s:S):Prop where
 ex: ∃(its:List It) (st:St) (cs:List Cr) (k:Int) (u v:Option D),r=enD k (its.map fun i=>.str i.l)/\ρ=[some (.ref a),some (.ref s0.length),u,v]/\Run its st fin/\cs.map Cr.fr=st.fs/\Hs s0 s0.length (s0.length+1) (s0.length+2) cs st.ts st.c s
def rnB:FS:=(j4 (ku (vo (v4 "takes" [("Reader",2,qf)] (jd 1) (jb (fMs (ace false) (jd 3) (jb (fC (.da (.str " "))) jf)) jf)))) aez jy)
theorem azf{fin:St}{d:D}{Q:Fl -> S -> Prop}(J:RnJ s0 a fin (d::r) ρ s): ∃ρ1,vt (.t2 (.nm 2) (.nm 3)) d ρ=some ρ1/\(rnB ρ1 s).W (flW (RnJ s0 a fin r) Q):=by
 obtain⟨its,st,cs,k,u,v,hr,rfl,run,ec,h⟩:=J
 cases its with
 |nil=> cases hr
 |cons i its=>
  cases hr
  obtain⟨x,g,run⟩:=run
  obtain⟨w,ws,e,wd,wl⟩:=a5u g
  obtain⟨s',cs',e1,e2,h'⟩:=a5l h ec g
  refine⟨[some (.ref a),some (.ref s0.length),some (.int k),some (.str i.l)],rfl,?_⟩
  unfold rnB
  walk_at "go"
  rw [ayn h.hr]
  walk_at "go"
  rw [show ace false (.str i.l) [.da (.str " ")] s=.ok (.lst (i.ws.map ac)) s by unfold It.l;rw [e];exact auf wd wl]
  walk_at "go"
  rw [e1]
  walk_at "go"
  exact⟨its,x,cs',k+1,_,_,rfl,rfl,run,e2,h'⟩
theorem a38:afm=(jk (kj 1 (ael "Reader" 1 yk jf))
  (jk (ack (apa 0 (jb (jd 0) jf)) (.t2 (.nm 2) (.nm 3)) rnB)
  (jk (j4 (ku (vo (v4 "is_done" [("Reader",1,xo)] (jd 1) jf))) aez jy)
  (jq (v4 "as_net" [("Begun",1,xh)] (fOp gIx (qk ct "begun" (jd 1)) (fC (.da (.int 0)))) jf))))):=rfl
theorem a09(s:S):Hs s s.length (s.length+1) (s.length+2) [] [] 0 (s++ [rdO (s.length+1) (s.length+2) 0,.lst [],.lst []]):=
 ⟨by simp,by simp,by simp,fun x hx=> (by cases hx),by simp,fun a ha=> by simp at ha;lia,Ext.add _ _⟩
theorem a2x{r:Nat}{x:Cr}(h:Hs s0 r B T [x] [] c s):xo [.ref r] s=.ok (.bl true) s:=by
 rw [ai6];unfold zp
 walk_at "ev"
 rw [xy h.hr]
 walk_at "ev"
 rw [ze h.hb]
 walk_at "ev"
 rw [aay,decide_eq_true (by simp)]
 walk_at "ev"
 rw [z9 h.hr]
 walk_at "ev"
 rw [ag3 h.ht]
 rfl
theorem a2u{N:Nt}(h1:1 <=m)(h3:m <=3)(hN:NtK m N k)(hk:1 <=k)(hk4:k <=4)(hc:N.cnt <=120)(ha:s[a]?=some (.lst (N.ls.map D.str))):DW (acq [.ref a] s) fun d s'=> d=.da N.d/\Ext s s':=by
 have run:=asp h1 h3 N k [] [] 0 hN rfl hk (by simp;lia) (by lia) (fun ts' q e=> by simp at e) (fun fs' f e=> by simp at e)
 have el:N.ls.map D.str=(N.its.map fun i=> ac i.l).map D.da:=by rw [←ar9 N];simp only [aU];rfl
 rw [el]at ha
 have em:(Nt.mk m N.seen N.ps)=N:=by
  cases N with
  |mk m' ss ps=>
   simp only [NtK]at hN
   obtain⟨rfl,_⟩:=hN
   rfl
 refine⟨?_⟩
 rw [at6,a38]
 walk_at "go"
 rw [aw1]
 walk_at "go"
 have x0:=Ext.add s [rdO (s.length+1) (s.length+2) 0,.lst [],.lst []]
 have so:ye (enD 0 (N.its.map fun i=>.str i.l),some (a,(N.its.map fun i=> ac i.l).map D.da)) (s++ [rdO (s.length+1) (s.length+2) 0,.lst [],.lst []]):=x0.get ha
 rw [a0b (x0.get ha)]
 walk_at "go"
 rw [show∀(g:Tg) (fb:FS) (ρ:En) (p:Wk) (s:S),kFor g fb ρ p s=chk p s (vx g fb p p.1 ρ s) from fun _ _ _ _ _=> rfl,abu so]
 refine af2 (RnJ s a _) (fun r ρ s' J=> ?_) (fun d r ρ s' J=> azf J) (fun ρ s' J=> ?_) _ _ _ ⟨N.its,⟨[],[],0⟩,[],0,none,none,rfl,rfl,run,rfl,a09 s⟩
 ·obtain⟨its,st,cs,k',u,v,_,_,_,_,h⟩:=J
  exact h.x.get ha
 ·obtain⟨its,st,cs,k',u,v,hr,rfl,run',ec,h⟩:=J
  cases its with
  |cons i its=> cases hr
  |nil=>
   cases run'
   simp only [dI]at ec h
   obtain⟨x,c3,rfl,e1,e3⟩:=dv.mp ec
   have:c3=[]:=fk.mp e3
   subst this
   have hx:=h.hf x (by simp)
   walk_at "go"
   rw [a3w h.hr]
   walk_at "go"
   rw [a2x h]
   walk_at "go"
   rw [xy h.hr]
   walk_at "go"
   rw [show gIx (.ref (s.length+1)) (.int 0) s'=.ok (.ref x.b) s' from aik (k:=0) h.hb rfl]
   walk_at "go"
   rw [ax3 hx.1]
   walk_at "go"
   rw [awu hx.1 hx.2]
   walk_at "go"
   rw [e1]
   exact⟨by rw [em],h.x⟩
theorem avt(w:Str)(ws:List Str):(a9 " " (w::ws)).cps.toList=w.cps.toList++jl 32 ws:=by rw [am2];exact aid 32 w ws
theorem a3h{ws:List Str}(h: ∀w∈ws,WdK w): ∀c∈(a9 " " ws).cps.toList,c < 128:=by
 cases ws with
 |nil=> intro c hc;cases hc
 | cons w ws=>
  intro c hc
  rw [avt]at hc
  rcases a7.mp hc with z|z
  ·exact (h w aC).a c z
  ·obtain⟨x,hx,hc⟩:=eH.mp z
   (rcases aw.mp hc with rfl|hc)
   ·decide
   ·exact (h x (az _ hx)).a c hc
theorem ao6(h: ∀c∈x.cps.toList,c < 128)(hl:x.length <=B):Nice B 0 (.str x):=by
 refine⟨?_,rfl,?_,hl,by simp [bX]⟩
 ·simp only [dS,aH,decide_eq_true_eq]
  intro c hc
  have:=h c hc
  have e16:(16:Nat)^8=4294967296:=by decide
  lia
 ·simp only [cN]
  unfold PyData.strOk
  (rw [←dq,aH])
  intro c hc
  have:=h c hc
  (exact decide_eq_true (by lia))
theorem yf(h:WdK x):Nice 8 0 (.str x):=ao6 h.a h.l
theorem ae7{xs:List Str}(h: ∀x∈xs,WdK x):Nices (9*xs.length) 0 (xs.map ac):=by
 have:=acu (B:=8) (D:=0) (xs.map ac) (by intro d hd;obtain⟨x,hx,rfl⟩:=b6.mp hd;exact yf (h x hx))
 rwa [aj]at this
theorem arl(h:UnK ss k): ∀x∈ss,WdK x:=fun x hx=> abe (h.p x hx)
theorem a1w{h:Option Int}(hm:m <=3)(hh: ∀i,h=some i -> 0 <=i/\i < m):Nice 0 0 (hD h):=by
 cases h with
 |none=> exact aqt
 |some i=> exact ah0 (by have:=hh i rfl;lia)
theorem am9{w a b:Str}{r:List ag}{D:Nat}(hw:WdK w)(u:UnK [a,b] 2)(n:Nices B D r):Nices (27+B) D (.str w:: .str a:: .str b::r):=by
 have ha:=abe (u.p a (by simp))
 have hb:=abe (u.p b (by simp))
 have z:=Nices.cons ((yf hw).mono (ao _) (bP D)) (Nices.cons ((yf ha).mono (ao _) (bP D)) (Nices.cons ((yf hb).mono (ao _) (bP D)) n))
 exact z.mono (by lia) (ao _)
theorem a52{p:Pt}(hm:m <=3)(h:FlK m p):Nice 399 2 p.d:=by
 have w:=ar8 h
 cases p with
 |two w' a b=> exact (am9 w h.2 (Nices.nil (D:=0))).tup.mono (by decide) (by decide)
 |held w' a b x=> exact (am9 w h.2.1 (Nices.cons (a1w hm h.2.2) Nices.nil)).tup.mono (by decide) (by decide)
 | only a b ts=>
  have nt:=acu (B:=0) (D:=0) (ts.map aP) (by
   intro d hd
   obtain⟨t,ht,rfl⟩:=b6.mp hd
   exact ah0 (by have:=h.2.1 t ht;lia))
  rw [aj]at nt
  have:=h.2.2.1
  exact (am9 (D:=1) w h.1 (Nices.cons nt.tup Nices.nil)).tup.mono (by lia) (ao _)
 |copy a bs=>
  have u:=h.2
  have nt:=ae7 fun x (hx:x∈bs)=> abe (u.p x (az _ hx))
  have ul:=u.l
  simp only [av]at ul
  exact (Nices.cons ((yf w).mono (ao _) (bP 1)) (Nices.cons ((yf (abe (u.p a aC))).mono (ao _) (bP 1)) (Nices.cons nt.tup Nices.nil))).tup.mono (by lia) (ao _)
 |merge bs a=>
  have u:=h.2
  have nt:=ae7 fun x (hx:x∈bs)=> abe (u.p x (az _ hx))
  have ul:=u.l
  simp only [av]at ul
  exact (Nices.cons ((yf w).mono (ao _) (bP 1)) (Nices.cons nt.tup (Nices.cons ((yf (abe (u.p a aC))).mono (ao _) (bP 1)) Nices.nil))).tup.mono (by lia) (ao _)
 |net n qs=> exact h.elim
theorem ahz{p:Pt}(hm:m <=3)(hk:1 <=k)(h:FlK m p)(e:p.cnt=1):Nice (400*p.cnt - 1) (4*k - 2) p.d:=(a52 hm h).mono (by rw [e];decide) (by lia)
mutual
theorem ax8{m:Int}(h1:1 <=m)(hm:m <=3): ∀(N:Nt) (k:Nat),1 <=k -> NtK m N k -> Nice (200+400*N.cnt) (4*k) N.d
 |.mk m' ss ps,k,hk,h=> by
  simp only [NtK]at h
  have n:=awk h1 hm ps k hk h.2.2
  have ul:=h.2.1.l
  simp only [Nt.d,Nt.cnt]
  exact (Nices.cons (D:=4*k - 1) ((ah0 (by rw [h.1];lia)).mono (ao _) (bP _)) (Nices.cons ((ae7 (arl h.2.1)).tup.mono (ao _) (by lia)) (Nices.cons (n.tup.mono (ao _) (by lia)) Nices.nil))).tup.mono (by lia) (by lia)
theorem a5t{m:Int}(h1:1 <=m)(hm:m <=3): ∀(p:Pt) (k:Nat),1 <=k -> PtK m p k -> Nice (400*p.cnt - 1) (4*k - 2) p.d
 |.net n qs,k,hk,h=> by
  simp only [PtK]at h
  have i:=ax8 h1 hm n (k - 1) (by lia) h.2.2.2
  have ul:=h.2.1.l
  simp only [Pt.d,Pt.cnt]
  exact (Nices.cons (D:=4*k - 3) ((yf (v0 xj.2.1)).mono (ao _) (bP _)) (Nices.cons (i.mono (ao _) (by lia)) (Nices.cons ((ae7 (arl h.2.1)).tup.mono (ao _) (by lia)) Nices.nil))).tup.mono (by lia) (by lia)
 |.two w a b,k,hk,h=> ahz hm hk h rfl
 |.held w a b x,k,hk,h=> ahz hm hk h rfl
 |.only a b ts,k,hk,h=> ahz hm hk h rfl
 |.copy a bs,k,hk,h=> ahz hm hk h rfl
 |.merge bs a,k,hk,h=> ahz hm hk h rfl
theorem awk{m:Int}(h1:1 <=m)(hm:m <=3): ∀(r:Ps) (k:Nat),1 <=k -> PsK m r k -> Nices (400*r.cnt) (4*k - 2) r.ds
 |.nil,k,hk,h=> by simp only [Ps.cnt,Ps.ds];exact Nices.nil
 |.cons p r,k,hk,h=> by
  simp only [PsK]at h
  have a:=a5t h1 hm p k hk h.1
  have b:=awk h1 hm r k hk h.2
  have c:1 <=p.cnt:=by cases p <;> simp only [Pt.cnt] <;> lia
  simp only [Ps.cnt,Ps.ds]
  exact (Nices.cons a b).mono (by lia) (ao _)
end
theorem apw{ws:List Str}(h: ∀w∈ws,WdK w)(hl:ws.length <=17):Nice 200 0 (.str (a9 " " ws)):=ao6 (a3h h) (by have:=aom h;lia)
theorem ai3{p:Pt}(hm:m <=3)(h:FlK m p): ∀x∈p.ls,Nice 200 0 (.str x):=fun x hx=> by
 rw [ax9 h]at hx
 rw [bF.mp hx]
 exact apw (aan hm h).1 (aan hm h).2
mutual
theorem awy{m:Int}(h1:1 <=m)(hm:m <=3): ∀(N:Nt) (k:Nat),NtK m N k -> ∀x∈N.ls,Nice 200 0 (.str x)
 | .mk m' ss ps,k,h,x,hx=> by
  simp only [NtK]at h
  simp only [Nt.ls]at hx
  rcases aw.mp hx with e|hx
  ·rw [e]
   have ul:=h.2.1.l
   refine apw (fun w hw=> ?_) (by simp only [av];lia)
   rcases aw.mp hw with rfl|hw
   ·exact v0 xj.2.1
   ·exact abj (adi (by rw [h.1];lia) (by rw [h.1];lia)) h.2.1 w hw
  ·exact ax0 h1 hm ps k h.2.2 x hx
theorem a4i{m:Int}(h1:1 <=m)(hm:m <=3): ∀(p:Pt) (k:Nat),PtK m p k -> ∀x∈p.ls,Nice 200 0 (.str x)
 | .net n qs,k,h,x,hx=> by
  simp only [PtK]at h
  simp only [Pt.ls]at hx
  have ul:=h.2.1.l
  rcases aw.mp hx with e|hx
  ·rw [e]
   exact apw (abj (v0 xj.2.2.1) h.2.1) (by simp only [av];lia)
  ·rcases a7.mp hx with hx|hx
   ·exact awy h1 hm n (k - 1) h.2.2.2 x hx
   ·rw [bF.mp hx]
    exact (yf (v0 (by decide+kernel))).mono (by decide) (ao _)
 |.two w a b,k,h,x,hx=> ai3 (p:=.two w a b) hm h x hx
 |.held w a b y,k,h,x,hx=> ai3 (p:=.held w a b y) hm h x hx
 |.only a b ts,k,h,x,hx=> ai3 (p:=.only a b ts) hm h x hx
 |.copy a bs,k,h,x,hx=> ai3 (p:=.copy a bs) hm h x hx
 |.merge bs a,k,h,x,hx=> ai3 (p:=.merge bs a) hm h x hx
theorem ax0{m:Int}(h1:1 <=m)(hm:m <=3): ∀(r:Ps) (k:Nat),PsK m r k -> ∀x∈r.ls,Nice 200 0 (.str x)
 |.nil,k,h,x,hx=> by simp only [Ps.ls]at hx;cases hx
 |.cons p r,k,h,x,hx=> by
  simp only [PsK]at h
  simp only [Ps.ls]at hx
  (rcases a7.mp hx with hx|hx)
  ·exact a4i h1 hm p k h.1 x hx
  ·exact ax0 h1 hm r k h.2 x hx
end
theorem a21{N:Nt}(h1:1 <=m)(hm:m <=3)(hk:1 <=k)(hk4:k <=4)(h:NtK m N k)(hc:N.cnt <=120):okS N.d=true:=(ax8 h1 hm N k hk h).okS (by lia) (by lia)
theorem a3u{N:Nt}(h1:1 <=m)(hm:m <=3)(h:NtK m N k)(hc:N.cnt <=120):okS (.list (N.ls.map ac))=true:=by
 have n:=acu (B:=200) (D:=0) (N.ls.map ac) (by intro d hd;obtain⟨x,hx,rfl⟩:=b6.mp hd;exact awy h1 hm N k h x hx)
 rw [aj]at n
 have:=afd N
 exact n.lst.okS (by lia) (by decide)
theorem amv{ls:List Str}(h:s[a]?=some (.lst (ls.map D.str)))(ok:okS (.list (ls.map ac))=true):zo [.ref a] s=.ok (.str (fz (ls.map ac)).shown) s:=by
 have e:toP s (.ref a)=some (.list (ls.map ac)):=by
  show (match s[a]? with|some (O.lst ds)=> (kd ds).map fz|_=> none)=_
  rw [h]
  show (kd (ls.map D.str)).map fz=_
  rw [show ls.map D.str=(ls.map ac).map D.da by rw [aU];rfl,qy];rfl
 show (match toP s (.ref a) with|some a=> if okS a=true then R.ok (D.str a.shown) s else .bad|none=>.bad)=_
 rw [e]
 exact if_pos ok
theorem agx{N:Nt}(h1:1 <=m)(hm:m <=3)(hk:k+1 <=4)(h:NtK m N (k+1))(hc:N.cnt <=120):DW (xp [.da N.d] s) fun d s'=> d=.bl true/\Ext s s':=by
 have on:=a21 h1 hm (by lia) hk h hc
 have ol:=a3u h1 hm h hc
 have wr:=axa h1 hm k 8 (by lia)
 have lw:=ax1 h1 hm k 8 (by lia)
 have ln:=afd N
 refine⟨?_⟩
 rw [ana];unfold B_law_right
 walk_at "go"
 rw [adt on]
 walk_at "go"
 refine (wr N s h hc).mono fun d s1 q=> ?_
 obtain⟨a,e,ha,la,x1⟩:=q
 rw [e];clear e
 walk_at "go"
 rw [amv ha ol]
 walk_at "go"
 refine (lw N s1 h hc).mono fun d s2 q=> ?_
 obtain⟨e,x2⟩:=q
 rw [e];clear e
 walk_at "go"
 rw [adt ol]
 walk_at "go"
 rw [awj,decide_eq_true rfl,fJ]
 walk_at "go"
 refine (a2u h1 hm h (by lia) hk hc (x2.get ha)).mono fun d s3 q=> ?_
 obtain⟨e,x3⟩:=q
 rw [e];clear e
 walk_at "go"
 rw [adt on]
 walk_at "go"
 rw [awj,decide_eq_true rfl,fJ]
 walk_at "go"
 have ha3:=x3.get (x2.get ha)
 rw [vn ha3]
 walk_at "go"
 rw [v6 ha3 (by rw [aj];lia)]
 walk_at "go"
 have lt:a < s3.length:=(aq.mp ha3).1
 rw [show aad (.ref a) (.da (.int 0)) (.da (.str "net 1")) _=_ from ala (k:=0) (aE lt) (by simp)]
 walk_at "go"
 have x4:Ext s ((s3.set a (O.lst (N.ls.map D.str++ [D.da (.str "both a b")]))).set a (O.lst ((N.ls.map D.str++ [D.da (.str "both a b")]).set 0 (D.da (.str "net 1"))))):=((x1.trans (x2.trans x3)).own la).own la
 refine (wr N _ h hc).mono fun d s5 q=> ?_
 obtain⟨b,e,hb,lb,x5⟩:=q
 rw [e];clear e
 walk_at "go"
 rw [amv hb ol]
 walk_at "go"
 refine (lw N s5 h hc).mono fun d s6 q=> ?_
 obtain⟨e,x6⟩:=q
 rw [e];clear e
 walk_at "go"
 rw [adt ol]
 walk_at "go"
 rw [show∀(z:Str) (s:S),gEq (.str z) (.str z) s=.ok (.bl true) s from fun z s=> by show R.ok (D.bl (decide (z=z))) s=_;rw [decide_eq_true rfl]]
 walk_at "go"
 rw [adt on]
 walk_at "go"
 rw [show∀(z:Str) (s:S),gEq (.str z) (.str z) s=.ok (.bl true) s from fun z s=> by show R.ok (D.bl (decide (z=z))) s=_;rw [decide_eq_true rfl]]
 walk_at "go"
 exact⟨trivial,x4.trans (x5.trans x6)⟩
theorem ayd(ns:List Int):(abh [.frz (ns.map aP)] []).W fun d s'=> d=.ref 0/\Fd s' 0 0:=by
 rw [aq0];unfold B_law_feed
 walk_at "go"
 refine⟨trivial,ns.take 63,0,0,0,?_,by simp;lia,by decide,by decide,by decide⟩
 rw [aa8,show (63:Int)=((63:Nat):Int) from rfl,adg]
 rfl
theorem a05:NtK 1 (.mk 1 [] .nil) 1:=by
 simp only [NtK,PsK]
 exact⟨trivial,⟨by decide,fun x hx=> (by cases hx),List.nodup_nil⟩,trivial⟩
theorem a50: ∀k:Nat,k <=4 -> cb k <=120/\dr k <=5000:=by decide
structure LwJ (A0:Option D) (r:List D) (ρ:En) (s:S):Prop where
 ex: ∃(c:Nat) (u:Option D),ρ=[A0,some (.ref 0),u]/\Fd s 0 c/\c+6000*r.length <=30000
theorem a0m{A0:Option D}{d:D}{Q:Fl -> S -> Prop}(J:LwJ A0 (d::r) ρ s): ∃ρ1,vt (.nm 2) d ρ=some ρ1/\(j4 (ku (vo (jn 1 xp (jb (jn 4 (v3 8) (jb (jd 1) (jb (fOp (kh false) (fC (.da (.int 1))) (jn 2 jr (jb (jd 1) (jb (fC (.da (.int 4))) jf)))) (jb (fOp (kh false) (fC (.da (.int 1))) (jn 2 jr (jb (jd 1) (jb (fC (.da (.int 3))) jf)))) (jb (jn 2 jr (jb (jd 1) (jb (fC (.da (.int 4))) jf))) jf))))) jf)))) (jq (fC (.da (.bool false)))) jy ρ1 s).W (flW (LwJ A0 r) Q):=by
 obtain⟨c,u,rfl,fd,hc⟩:=J
 simp only [av]at hc
 refine⟨[A0,some (.ref 0),some d],rfl,?_⟩
 walk_at "go"
 refine R.W_mono (vh fd (by decide) (by decide) (by lia)) ?_
 rintro _ s1 ⟨i,rfl,i0,i1,fd1,sm1⟩
 obtain⟨k,rfl⟩: ∃k:Nat,i=(k:Int):=⟨i.toNat,by lia⟩
 walk_at "go"
 refine R.W_mono (vh fd1 (by decide) (by decide) (by lia)) ?_
 rintro _ s2 ⟨j,rfl,j0,j1,fd2,sm2⟩
 walk_at "go"
 refine R.W_mono (vh fd2 (by decide) (by decide) (by lia)) ?_
 rintro _ s3 ⟨t',rfl,t0,t1,fd3,sm3⟩
 obtain⟨t,rfl⟩: ∃k:Nat,t'=(k:Int):=⟨t'.toNat,by lia⟩
 walk_at "go"
 have hcb:=a50 (k+1) (by lia)
 have no:=aoq k 8 (by lia) s3 0 (c+1+1+1) (1+j) t fd3 (by lia) (by lia) (by lia) (by lia)
 rw [show ((1:Int)+(k:Int))=((k+1:Nat):Int) by lia]
 refine no.mono fun d' s4 q=> ?_
 obtain⟨N,e,hN,hs,hcn,fd4,sm4⟩:=q
 rw [e];clear e
 walk_at "go"
 refine (agx (by lia) (by lia) (by lia) hN (by lia)).mono fun d' s5 q=> ?_
 obtain⟨e,x5⟩:=q
 rw [e];clear e
 walk_at "go"
 exact⟨_,_,rfl,fd4.ext x5,by lia⟩
theorem awg(ns:List Int):(aup [.frz (ns.map aP)] []).W fun d _=> d=.bl true:=by
 rw [a68];unfold Blaw
 walk_at "go"
 refine R.W_mono (ayd ns) fun d s1 q=> ?_
 obtain⟨rfl,fd⟩:=q
 walk_at "go"
 refine (agx (N:=.mk 1 [] .nil) (k:=0) (by decide) (by decide) (by decide) a05 (by decide)).mono fun d s2 q=> ?_
 obtain⟨e,x2⟩:=q
 rw [e];clear e
 walk_at "go"
 refine (ayv (fd.ext x2) (by decide)).mono fun d s3 q=> ?_
 obtain⟨N,e,hN,hc,fd3,sm3⟩:=q
 rw [e];clear e
 walk_at "go"
 refine (agx (k:=0) (by decide) (by decide) (by decide) hN hc).mono fun d s4 q=> ?_
 obtain⟨e,x4⟩:=q
 rw [e];clear e
 walk_at "go"
 rw [afc (by decide) (by decide)]
 walk_at "go"
 refine y8 (LwJ (some (.frz (ns.map aP)))) (fun d r ρ s J=> a0m J) ?_ _ _ _ ⟨_,_,rfl,fd3.ext x4,by rw [v7];decide⟩
 rintro ρ s5 ⟨c,u,rfl,_,_⟩
 walk_at "go"
theorem a4z{f:Addr}(F:Fun K "law" "law" aav f fd)(T:Txt0 K mg):FnOk P w K mg base CX0 13 f fd ["_law_script"] (spF K 1 aup):=by
 have c_law_feed:=ok_law_feed (P:=P) (w:=w) (base:=base) T
 have c_law_draw:=ok_law_draw (P:=P) (w:=w) (base:=base) T
 have c_law_nest:=ok_law_nest (P:=P) (w:=w) (base:=base) T 8
 have c_law_wide:=ok_law_wide (P:=P) (w:=w) (base:=base) T
 have c_law_right:=ok_law_right (P:=P) (w:=w) (base:=base) T
 exact fnF (k:=12) F sclaw rfl rfl (fun f cdv A outer s H E hr=>
   (jh (ke (i:=1) sclaw.nd rfl (aM rfl) (jz c_law_feed (hr.mono (by decide)) (ja (jc 0) je)))
   (jh (j3 (RW.rt (y4 (kv (qw (jz c_law_right (hr.mono (by decide)) (ja (kl (ja jg (ja (kl je) (ja (kl je) je)))) je)))) (yp (kv (qw (jz c_law_right (hr.mono (by decide)) (ja (jz c_law_wide (hr.mono (by decide)) (ja (jc 1) je)) je))))))) (ji (jm vm)) jw)
   (jh (ada rfl (afb T.n_range (ja jg je)) (kx (i:=2) sclaw.nd rfl (aM rfl)) (ji (j3 (kv (qw (jz c_law_right (hr.mono (by decide)) (ja (jz c_law_nest (hr.mono (by decide)) (ja (jc 1) (ja (j6 (qh false) jg (jz c_law_draw (hr.mono (by decide)) (ja (jc 1) (ja jg je)))) (ja (j6 (qh false) jg (jz c_law_draw (hr.mono (by decide)) (ja (jc 1) (ja jg je)))) (ja (jz c_law_draw (hr.mono (by decide)) (ja (jc 1) (ja jg je))) je))))) je)))) (ji (jm vm)) jw)))
   (ji (jm vm))))))
def BN(x q:Str)(st:Stmt)(ps:List Str)(us:List af):Prop:= ∀(kV doc pm:af) (an:Option Addr) (cdv ct:af),bindArgs (bY x q (yg st) (va st) (jj st) .none kV doc pm an cdv ct) ⟨us,[]⟩=pure (ps.zip us)
theorem bd1{q:Str}{p0:Str}(h: ∀a0,BN x q st [p0] [a0]): ∀us,us.length=1 -> BN x q st [p0] us|[a0],_=> h a0
theorem bd2{q:Str}{p0 p1:Str}(h: ∀a0 a1,BN x q st [p0,p1] [a0,a1]): ∀us,us.length=2 -> BN x q st [p0,p1] us|[a0,a1],_=> h a0 a1
theorem bd3{q:Str}{p0 p1 p2:Str}(h: ∀a0 a1 a2,BN x q st [p0,p1,p2] [a0,a1,a2]): ∀us,us.length=3 -> BN x q st [p0,p1,p2] us|[a0,a1,a2],_=> h a0 a1 a2
theorem bd4{q:Str}{p0 p1 p2 p3:Str}(h: ∀a0 a1 a2 a3,BN x q st [p0,p1,p2,p3] [a0,a1,a2,a3]): ∀us,us.length=4 -> BN x q st [p0,p1,p2,p3] us|[a0,a1,a2,a3],_=> h a0 a1 a2 a3
theorem a37(X:K.In h)(G:h.Ns aI mg){ps:List Str}{f:Addr}{oc kV dc pm cd ct:af}(a:a8 K aI x=some (some (.ref f)))(l:K.lookup f=some ⟨oc,od,.func (bY x x (yg st) (va st) (jj st) .none kV dc pm an cd ct),sl⟩)(c:cL K cd x=true)(k:bO K (.ref f)=true)(b: ∀us,us.length=ps.length -> BN x x st ps us):Has K mg x st ps:=
 ⟨f,_,abz (st:=st) l c k,bA X G a,(abz (st:=st) l c k).binds fun kV doc pm an cdv ct us hl=> b us hl kV doc pm an cdv ct⟩
theorem at2(X:K.In h)(G:h.Ns aI mg){g:Addr}{its:Array af}(a:a8 K aI x=some (some (.ref g)))(l:K.lookup g=some ⟨.type "tuple",od,.seq its n,sl⟩)(hz:its.size <=1000)(hv:ju vs its.toList):ap4 K mg x vs:=
 ⟨g,bA X G a,fun H=>.inr ⟨_,its,n,l,rfl,rfl,fY (ara hz),hv⟩⟩
theorem zf{q:Str}{ps:List Str}{f:Addr}{oc kV dc pm cd ct:af}(a:a8 K aI C=some (some (.ref Ca)))(c0:cO K Ca Str.empty=true)(c1:c5 K Ca=true)(c2:d8 K Ca=true)(c3:bn K (.ref Ca) "__setattr__"=some (some (.builtin "object.__setattr__")))(m:bn K (.ref Ca) x=some (some (.ref f)))(n:eQ K (.ref f)=true)(l:K.lookup f=some ⟨oc,od,.func (bY x q (yg st) (va st) (jj st) .none kV dc pm an cd ct),sl⟩)(c:cL K cd q=true)(k:bO K (.ref f)=true)(b: ∀us,us.length=ps.length -> BN x q st ps us):HasM K C x q st ps:=
 ⟨Ca,f,_,a,⟨c0,c1,c2,c3⟩,⟨m,n,k⟩,abz (st:=st) l c k,(abz (st:=st) l c k).binds fun kV doc pm an cdv ct us hl=> b us hl kV doc pm an cdv ct⟩
theorem aoo(X:K.In h)(G:h.Ns aI mg){q:Str}{ps:List Str}{f:Addr}{oc kV dc pm cd ct:af}(a:a8 K aI C=some (some (.ref Ca)))(m0:gt K Ca=true)(m:bn K (.ref Ca) "__init__"=some (some (.ref f)))(n:eQ K (.ref f)=true)(kC:bO K (.ref Ca)=true)(l:K.lookup f=some ⟨oc,od,.func (bY "__init__" q (yg st) (va st) (jj st) .none kV dc pm an cd ct),sl⟩)(c:cL K cd q=true)(k:bO K (.ref f)=true)(b: ∀us,us.length=ps.length -> BN "__init__" q st ps us):HasI K mg C q st ps:=
 ⟨Ca,f,_,a,bA X G a,⟨m0,m,n,kC⟩,abz (st:=st) l c k,(abz (st:=st) l c k).binds fun kV doc pm an cdv ct us hl=> b us hl kV doc pm an cdv ct⟩
theorem a1c:CTabs K []:=⟨fun C fl h=> by cases h⟩
theorem aoe{r:zd}(t:CTabs K r)(a:a8 K aI C=some (some (.ref Ca)))(c0:cO K Ca Str.empty=true)(c1:c5 K Ca=true)(c2:d8 K Ca=true)(c3:bn K (.ref Ca) "__setattr__"=some (some (.builtin "object.__setattr__")))(n: ∀f∈fl,xn K Ca f):CTabs K ((C,fl)::r):=⟨fun D gl h=> by
 rw [bG]at h
 split at h
 ·rename_i e
  cases h
  rw [eq_of_beq e]
  exact⟨Ca,a,⟨c0,c1,c2,c3⟩,n⟩
 ·exact t.ok D gl h⟩
theorem ati: ∀f∈([]:List Str),xn K Ca f:=fun f h=> by cases h
theorem abr{g:Str}(h:bn K (.ref Ca) g=some none)(t: ∀f∈fl,xn K Ca f): ∀f∈g::fl,xn K Ca f:=fun f hf=> by
 rcases aw.mp hf with rfl|hf
 ·exact h
 ·exact t f hf
theorem a1d{l:gu}{fa f:Addr}{oc kV dc pm cd ct:af}(X:K.In h)(G:h.Ns aI mg)(hfa:mg "law"=some (.ref fa))(a:a8 K aI "law"=some (some (.ref f)))(l0:K.lookup f=some ⟨oc,od,.func (bY "law" "law" (yg aav) (va aav) (jj aav) .none kV dc pm an cd ct),sl⟩)(c:cL K cd "law"=true)(k:bO K (.ref f)=true)(T:Txt0 K mg):
  ∃fd:cv,(∀(s:ak) (v:af),gL s fd ⟨[v],[]⟩ [("_law_script",v)])/\ ∀base:Heap,K.In base -> base.Ns aI mg -> FnOk l.prog w K mg base CX0 13 fa fd ["_law_script"] (akt K):=by
 have e:=hfa.symm.trans (bA X G a)
 cases e
 exact⟨bY "law" "law" (yg aav) (va aav) (jj aav) .none kV dc pm an cd ct,fun s v=>.of_eq rfl,fun base _ _=> a23 (a4z (abz (st:=aav) l0 c k) T) fun ns _=> awg ns⟩
theorem a6h{l:gu}{q:aW}{loose:List Str}{XP:(Str -> Option af) -> Heap -> Prop}{YP:aY -> Heap -> Prop}{d:DefRec}{K:Params -> ah}(hn:l.most=some 63)(hdf:d.params.defaults=[])
  (hY: ∀(w:aY) (h:Heap),YP w h -> (K w.params).In h)
  (F: ∀(w:aY) (mg:Str -> Option af) (fa:Addr) (h:Heap),(K w.params).In h -> h.Ns aI mg -> mg d.name=some (.ref fa) ->
   ∃fd:cv,(∀(s:ak) (u:af),gL s fd ⟨[u],[]⟩ [("_law_script",u)])/\ ∀base:Heap,(K w.params).In base -> base.Ns aI mg -> FnOk l.prog w (K w.params) mg base CX0 13 fa fd ["_law_script"] (akt (K w.params))):
  PySem.W.WalkO q loose XP YP l.row.toRowW d [] (fun f vs=> PySem.call f vs):=
 L2.az5 (n:=63) (k:=13) (x:="_law_script") (CX:=fun _=> CX0) (sp:=fun w=> akt (K w.params)) hn (by decide) hdf ⟨rfl,by decide,by decide,rfl⟩ hY F (fun _ _ a ns hl _ hS=> ⟨a,ns,rfl,hS,hl,fun _=> rfl⟩) fun _ _ _ _ _ z=> z
end Ln
open PySem PySem.W PyProof.Rows
local macro_rules | `(tactic| walk_at "hm") => do
 let X := io `KX
 let G := io `G
 `(tactic| refine Ln.a37 $X $G (by k_is) (by k_is) (by k_is) (by k_is) ?_)
namespace PySem.W.Fast
def tw9667838023604456744:=()
def tw6034935418147156774:=()
def tw2757431795365188234:=()
def tw3199560457474307297:=()
def tw7413629857259011330:=()
def tw9722457801120038557:=()
def tw16512869284913404251:=()
def tw2753188522573331594:=()
def tw1956680811026058245:=()
def tw10085932529365416053:=()
def tw3145508177762874701:=()
def tw11566763545479076093:=()
def tw13421746152610110045:=()
def tw12557243942228721028:=()
def tw17225358976818420122:=()
def tw12725390233249341737:=()
def tw7354974687682800403:=()
def tw9535640532480221171:=()
def tw16983251830563523771:=()
def tw2789399366089808636:=()
def tw10450851475087033784:=()
def tw4881819289807687379:=()
def tw13677577497649249965:=()
def tw12129674835026660389:=()
def tw7877161859852260923:=()
def tw9292732838820347892:=()
def tw1770238503032889643:=()
def tw13913581257282168456:=()
def tw4136600366751766008:=()
def tw5009430122055127172:=()
def tw14613035086583555457:=()
def tw6494074978730938583:=()
def tw15619617260894365100:=()
def tw10126172602043747786:=()
def tw6610647627584207785:=()
def tw3606449554607638765:=()
def tw11447384130152572623:=()
def tw15238706604132610881:=()
def tw13959006336430539753:=()
def tw16034524481961799292:=()
def tw16712442623271860831:=()
def tw12766545358596284810:=()
def tw7214468050415805182:=()
def tw13849820174009543661:=()
def tw9062815565839209699:=()
def tw7718080873888970061:=()
def tw13645084378236062701:=()
def tw16086699003024078739:=()
def tw16248852760167477484:=()
def tw16978549034002361226:=()
def tw16172010049508128537:=()
def tw8829359126864599117:=()
def tw4440623193067650513:=()
def tw8397200775488905532:=()
def tw11918806247544790806:=()
def tw6115859016301636002:=()
def tw12118261702327022744:=()
def tw18273698474287036852:=()
def tw15375373755097313193:=()
def tw3433843586147246746:=()
def tw1482660402646119124:=()
def tw2889994184475218875:=()
def tw5451834118543905360:=()
def tw6509855902572490995:=()
def tw14468535785116232907:=()
def tw15576457440519387532:=()
def tw490931729138489472:=()
def tw7239616531807903660:=()
def tw3829611533682112650:=()
def tw10775711235312688674:=()
def tw13081079508834684746:=()
def tw17534910818152188594:=()
def tw5298327951372748895:=()
def tw12243461789563928443:=()
def tw5810223423871125917:=()
def tw15358402569406741405:=()
def tw4023223254538246045:=()
def tw4476695427209709100:=()
def tw7980649795727243220:=()
def tw16401060808377310741:=()
def tw17349867085317705825:=()
def tw8666458604565771107:=()
def tw6490498459928887557:=()
def tw2775659884444809974:=()
def tw9797792237814426591:=()
def tw9980638096111055053:=()
def tw1460366740192052244:=()
def tw15667402973867995038:=()
def tw17804534030668390625:=()
def tw1677164185929576342:=()
def tw12932489232096027781:=()
def tw7124208517908079312:=()
def tw8548769716020480026:=()
def tw7255604932552910497:=()
def tw6097361780892437793:=()
def tw645531350727402065:=()
end PySem.W.Fast
set_option maxRecDepth 100000 in
set_option maxHeartbeats 0 in
theorem PySem.Challenge.cw_mannerports_k04_nets_written_and_read_ag_holds : PySem.Challenge.rw_mannerports_k04_nets_written_and_read_ag.Holds := by
 w_on;o_law;k_head;(case hw=> w_witness2)
 k_fill
 refine Ln.a6h (l:=cp) rfl rfl (fun w h Y=> PySem.W.kIn_of Y) ?F
 case F=>
  intro w mg fa h KX G hmg
  refine Ln.a1d KX G hmg (by k_is) (by k_is) (by k_is) (by k_is) ?_
  constructor
  ·exact (Ln.aoe (Ln.aoe Ln.a1c (by k_is) (by k_is) (by k_is) (by k_is) (by k_is) (Ln.abr (by k_is) (Ln.abr (by k_is) (Ln.abr (by k_is) Ln.ati)))) (by k_is) (by k_is) (by k_is) (by k_is) (by k_is) (Ln.abr (by k_is) (Ln.abr (by k_is) (Ln.abr (by k_is) Ln.ati))))
  ·walk_at "hm";exact Ln.bd1 fun _ _ _ _ _ _ _=> rfl
  ·walk_at "hm";exact Ln.bd1 fun _ _ _ _ _ _ _=> rfl
  ·walk_at "hm";exact Ln.bd2 fun _ _ _ _ _ _ _ _=> rfl
  ·walk_at "hm";exact Ln.bd1 fun _ _ _ _ _ _ _=> rfl
  ·walk_at "hm";exact Ln.bd1 fun _ _ _ _ _ _ _=> rfl
  ·walk_at "hm";exact Ln.bd1 fun _ _ _ _ _ _ _=> rfl
  ·walk_at "hm";exact Ln.bd1 fun _ _ _ _ _ _ _=> rfl
  ·walk_at "hm";exact Ln.bd1 fun _ _ _ _ _ _ _=> rfl
  ·walk_at "hm";exact Ln.bd1 fun _ _ _ _ _ _ _=> rfl
  ·walk_at "hm";exact Ln.bd2 fun _ _ _ _ _ _ _ _=> rfl
  ·walk_at "hm";exact Ln.bd2 fun _ _ _ _ _ _ _ _=> rfl
  ·walk_at "hm";exact Ln.bd2 fun _ _ _ _ _ _ _ _=> rfl
  ·walk_at "hm";exact Ln.bd2 fun _ _ _ _ _ _ _ _=> rfl
  ·walk_at "hm";exact Ln.bd2 fun _ _ _ _ _ _ _ _=> rfl
  ·walk_at "hm";exact Ln.bd1 fun _ _ _ _ _ _ _=> rfl
  ·walk_at "hm";exact Ln.bd1 fun _ _ _ _ _ _ _=> rfl
  ·walk_at "hm";exact Ln.bd1 fun _ _ _ _ _ _ _=> rfl
  ·walk_at "hm";exact Ln.bd1 fun _ _ _ _ _ _ _=> rfl
  ·walk_at "hm";exact Ln.bd1 fun _ _ _ _ _ _ _=> rfl
  ·walk_at "hm";exact Ln.bd1 fun _ _ _ _ _ _ _=> rfl
  ·refine Ln.aoo KX G (by k_is) (by k_is) (by k_is) (by k_is) (by k_is) (by k_is) (by k_is) (by k_is) ?_;exact Ln.bd3 fun _ _ _ _ _ _ _ _ _=> rfl
  ·refine Ln.zf (by k_is) (by k_is) (by k_is) (by k_is) (by k_is) (by k_is) (by k_is) (by k_is) (by k_is) (by k_is) ?_;exact Ln.bd1 fun _ _ _ _ _ _ _=> rfl
  ·refine Ln.aoo KX G (by k_is) (by k_is) (by k_is) (by k_is) (by k_is) (by k_is) (by k_is) (by k_is) ?_;exact Ln.bd1 fun _ _ _ _ _ _ _=> rfl
  ·refine Ln.zf (by k_is) (by k_is) (by k_is) (by k_is) (by k_is) (by k_is) (by k_is) (by k_is) (by k_is) (by k_is) ?_;exact Ln.bd2 fun _ _ _ _ _ _ _ _=> rfl
  ·refine Ln.zf (by k_is) (by k_is) (by k_is) (by k_is) (by k_is) (by k_is) (by k_is) (by k_is) (by k_is) (by k_is) ?_;exact Ln.bd1 fun _ _ _ _ _ _ _=> rfl
  ·refine Ln.zf (by k_is) (by k_is) (by k_is) (by k_is) (by k_is) (by k_is) (by k_is) (by k_is) (by k_is) (by k_is) ?_;exact Ln.bd2 fun _ _ _ _ _ _ _ _=> rfl
  ·refine Ln.zf (by k_is) (by k_is) (by k_is) (by k_is) (by k_is) (by k_is) (by k_is) (by k_is) (by k_is) (by k_is) ?_;exact Ln.bd2 fun _ _ _ _ _ _ _ _=> rfl
  ·refine Ln.zf (by k_is) (by k_is) (by k_is) (by k_is) (by k_is) (by k_is) (by k_is) (by k_is) (by k_is) (by k_is) ?_;exact Ln.bd2 fun _ _ _ _ _ _ _ _=> rfl
  ·refine Ln.zf (by k_is) (by k_is) (by k_is) (by k_is) (by k_is) (by k_is) (by k_is) (by k_is) (by k_is) (by k_is) ?_;exact Ln.bd1 fun _ _ _ _ _ _ _=> rfl
  ·refine Ln.zf (by k_is) (by k_is) (by k_is) (by k_is) (by k_is) (by k_is) (by k_is) (by k_is) (by k_is) (by k_is) ?_;exact Ln.bd2 fun _ _ _ _ _ _ _ _=> rfl
  ·walk_at "hm";exact Ln.bd1 fun _ _ _ _ _ _ _=> rfl
  ·walk_at "hm";exact Ln.bd2 fun _ _ _ _ _ _ _ _=> rfl
  ·walk_at "hm";exact Ln.bd2 fun _ _ _ _ _ _ _ _=> rfl
  ·walk_at "hm";exact Ln.bd2 fun _ _ _ _ _ _ _ _=> rfl
  ·walk_at "hm";exact Ln.bd3 fun _ _ _ _ _ _ _ _ _=> rfl
  ·walk_at "hm";exact Ln.bd4 fun _ _ _ _ _ _ _ _ _ _=> rfl
  ·walk_at "hm";exact Ln.bd1 fun _ _ _ _ _ _ _=> rfl
  ·walk_at "hm";exact Ln.bd1 fun _ _ _ _ _ _ _=> rfl
  ·walk_at "hm";exact Ln.bd1 fun _ _ _ _ _ _ _=> rfl
  ·walk_at "hm";exact Ln.bd1 fun _ _ _ _ _ _ _=> rfl
  ·exact⟨_,bA KX G (by k_is)⟩
  ·exact⟨_,bA KX G (by k_is)⟩
  ·exact⟨_,bA KX G (by k_is)⟩
  ·exact⟨_,bA KX G (by k_is)⟩
  ·exact⟨_,bA KX G (by k_is)⟩
  ·exact⟨_,bA KX G (by k_is)⟩
  ·exact⟨_,bA KX G (by k_is)⟩
  ·exact⟨_,bA KX G (by k_is)⟩
  ·exact⟨_,bA KX G (by k_is)⟩
  ·exact⟨_,bA KX G (by k_is)⟩
  ·exact Ln.at2 KX G (by k_is) (by k_is) (by decide) (.cons ⟨_,rfl⟩ (.cons ⟨_,rfl⟩ (.cons ⟨_,rfl⟩ (.cons ⟨_,rfl⟩ (.nil)))))
  ·exact Ln.at2 KX G (by k_is) (by k_is) (by decide) (.cons ⟨_,rfl⟩ (.cons ⟨_,rfl⟩ (.nil)))
  ·exact⟨_,bA KX G (by k_is)⟩
  ·exact aV KX G (by k_is)
  ·exact aV KX G (by k_is)
  ·exact aV KX G (by k_is)
  ·exact aV KX G (by k_is)
  ·exact aV KX G (by k_is)
  ·exact aV KX G (by k_is)
  ·exact aV KX G (by k_is)
  ·exact aV KX G (by k_is)
  ·exact aV KX G (by k_is)
  ·exact aV KX G (by k_is)
  ·exact aV KX G (by k_is)
  ·exact aV KX G (by k_is)
  ·exact aV KX G (by k_is)
  ·exact aV KX G (by k_is)
  ·exact aV KX G (by k_is)
  ·exact aV KX G (by k_is)
