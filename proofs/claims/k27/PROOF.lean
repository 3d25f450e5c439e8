import PyProof.Rows.All
import Wide.All
import OpenK.AllK
import Wide.FinOn
import Lean
import PyProof.EqAt
import PyProof.EqKinds
import PyProof.TupleCall
import PyProof.NeKinds
import PyProof.Rows.SetFrom
import PyProof.WalksMore
import KE.KDictSum
import PyProof.AttrMissHeap
import PyProof.P3Eq
import PyProof.NeData
import PySem.SetTable
import PyProof.SetScanFacts
import PyProof.ConsumeWalk
import PyProof.ZipIter
import PyProof.Rows.TupAdd
import PyProof.Rows.IntBool
import PyProof.SliceStr2
import PyProof.StrBlockI
import KE.KTab
import KE.KIsAll
import OpenK.KCls
import OpenK.KMore
import PyProof.ExcInit
import PyProof.ExcBaseAll.ValueError
import PyProof.ExcAttrAll.ValueError
import PyProof.InstStore
import PyProof.InstStoreFacts
import PyProof.StationsW
import PyProof.PassesOwn
import PyProof.RulesAs
import KE.KTryMore
import PyProof.NsDelKeeps
import KE.KSortAsk
import KE.KSortTup
import PyProof.TupleOfSeq
import PyProof.FString5
import PyProof.StrWalks
import PyProof.CallStr
import PyProof.Conv_int_bool
import PyProof.StrCalls
import PyProof.Rows.CallKwBuiltin
import PyProof.Rows.SortKeyStr
import PyProof.DictWalks
import PyProof.Rows.TupDisplay
import PyProof.DictTruth
import KE.KDictLaws
import PyProof.ListMulAny
import PyProof.FactsAll.tuple_2
import PyProof.ListRange
import KE.KxMul
import PyProof.StrBlockG
import PyProof.StrCalls2
import KE.KIntText
import PyProof.CollectWalk
import PyProof.TupleOfGen
import PyProof.EnumMake
import PyProof.FactsAll.dict_1
import PyProof.FactsAll.subtypes_4
import PyProof.FactsAll.subtypes_3
import PyProof.FactsAll.tuple_0
import PyProof.StrLawsReplace
import PyProof.Rows.ReprOcc
import PyProof.SumWalk
import PyProof.Rows.SortShell
import PySem.Challenge.RW_mannerports_k27_rows_had
import KE.KTabLook
set_option Elab.async false
set_option linter.all false
set_option bootstrap.genMatcherCode false
set_option genSizeOfSpec false
set_option maxRecDepth 100000
set_option maxHeartbeats 4000001
variable{xs:List PySem.PyData}{x:g9}{A:mG}{E:ck->fx->Prop}{s:fx}{b:er}{h h':PySem.Heap}{P:l7}{t' i:Nat}{ch:List er}{e tg:jS}{M:PySem.Model}{u:ck}{Q:Unit->fx->Prop}{pos:PySem.Pos}{pins:List (er×PySem.Obj)}{K:ak}
noncomputable section
open PySem renaming PyData->aa,wpAny_bind->ac,Value->ae,Shared->af,wpAny_pure->ah,World->aM,Program->aP,mainGlobals->a7,compareOp->bb,wpAny_mono->bf,wpAny_holding->bg,Around->bh,sizeLine_eq->bq,sysModules->bA,wpAny_field->bC,wpAny_callSpecial?_slot->bI,bootBuiltins->bK,wpAny_call_entry->bL,foldedSetIterable->bM,assignEach->bS,wpAny_rule->b9,Value->ck,wpAny_newObj_type->cr,ReadsAll->cD,DictEntry->cL,mem_of_lookup->cP,wpAny_typeOf->cQ,wpAny_seqItems->cX,Reads->c8,call_meetsIn->dm,wpAny_standAt->dB,FuncData->dI,wpAny_setField_rec->dO,Scope->dP,letOwnedTupleGo->dQ,Builtin->dS,Addr->er,entryOfKey->eA,Paired->eE,wpAny_specialOf->eR,swapsWith->eS,wpAny_Call_Name_kw->eU,tupleKind_room_in1->eV,NameKind->eY,wpAny_pyIter_list->fj,Shared->fx,codeAny_mono->fz,wpAny_notOrdered_dict->fA,wpAny_callSpecialIfBoundUnlessNone?_slot->fK,behindInMarks->fQ,attributeBase->fR,plainId_quiet->fU,sliceBounds->fW,wpAny_passesOwn->fY,size_of_entries->f9,Within->gb,wpAny_comprehension_free->gh,getattributeRaised->gi,wpAny_pyIter_tuple->gj,IsPair->gp,wpAny_setField->gy,wpAny_sequenceKey->gK,IsPart->gP,slicePicked->gS,wpAny_attempt->gV,wpAny_forIn_list->gW,Str->g9,tupleKind->h8,call_meets->ii,codeAny_builtin->ik,wpAny_updateSeq_pair->iq,callSpecialIfBoundUnlessNone?->iA,typeIs_none->iM,keywordEach->iN,wpAny_letGo->iO,IsZip->iP,noteFrame->iU,swapsWithSole->jC,swappedStores->jD,wpAny_newList->jI,wpAny_onRaise->jJ,eqIsQuiet_byValue->jK,wpAny_assign_Name->jM,wpAny_truthy_bool->jN,atKey_none_of_get->jR,Expr->jS,wpAny_isInstance->jY,Result->kA,noFill_tuple_add->kD,meetsH_dict_get_default->kM,wpAny_collect_seq->kS,wpAny_execs_nil->kU,theTreesLotGoes->lc,wpAny_pyNext_list_item->lj,wpAny_Call_method_late->lp,codeAny_compStart_list->lu,wpAny_pyNext_list_end->lE,BindsTo->lF,Keyword->lG,exec_Assign_Name_used->lH,builtinLookup_eq_fast->lI,wpAny_newTuple->lL,dictSetDefault->lN,HeapKind->lR,wpAny_newFunctionEnv->lV,wpAny_pyIter_keyiter->lZ,wpAny_updateDictKeys->l6,Program->l7,seq_tuple_add->l8,evalPart_none->me,wpAny_dictFind_heap->mD,not_mem_keys_of_get->mE,kt_meets_setdefault->mF,Around->mG,getMethod->mI,concat_meets->mK,seqIndex_neg->mL,codeAny_loop->mM,seqIndex_of->mU,subscripted->mV,wpAny_noted->mY,richCompare->mZ,storedH_old->m8,wpAny_loadPart'->m9,PassesOwn->na,Walks->nc
open PySem.Heap renaming get?_push_of_some->ag,lt_size->ay,get?_push_size->aD,SameBut->bX,size_push->cp,get?_push_ne->cu,get?_update_ne->cv,get?_update_self->cB,get?_update_other->cR,size_update->fN,ExtBut->gR,size_after_update->lz
open Nat renaming le_refl->aj,ne_of_lt->aI,le_trans->aN,lt_of_lt_of_le->a9,zero_le->bn,le_of_not_lt->bF,lt_irrefl->cG,lt_succ_of_lt->dA,le_of_eq->dN,lt_trans->eG,le_succ_of_le->fq,ne_of_gt->fy,pow_le_pow_right->iz,add_assoc->jA,le_of_lt->jZ
open PySem.W renaming Frag->ak,nsIn->bG,findIn->bO,mg_none_of->bU,keepIn->cn,emptyDict->cq,fnOf->cE,instObj->df,codeIn->eD,plainGet->eF,kas_sort->ff,hasDictIn->fh,kas_place->gn,kas_asc->gz,plainOver->gJ,kas_rev->ic,isFn->ig,plainGet_of->iD,lookIn->iG,callWith_K->iS,methodObj->jL,takerIn->kW,makesIn->kX,OpenLaw->kZ,cellsFrom_some->lm,kas_desc->lX,mg_of->mq,kas_tail3->mO,kas_descPart->mP,kas_count->mQ,kas_bin->mT
open List renaming getElem?_eq_some_iff->am,length_map->ao,mem_cons_of_mem->aq,mem_cons_self->au,getElem?_eq_getElem->av,map_cons->aw,size_toArray->ax,mem_singleton->aA,all_eq_true->aB,length_cons->aE,getElem?_set_ne->aF,length_append->aH,append_nil->aK,mem_cons->aL,mem_map->aO,getElem?_append_left->aQ,getElem?_set_self->aR,mem_append->aS,getElem?_map->aT,mem_append_right->aV,foldl_cons->aW,map_map->aY,getElem?_append_right->aZ,range->a8,mem_filter->bd,replicate->bp,foldl_append->bw,mem_of_getElem?->bE,append_assoc->bN,getD_eq_getElem?_getD->bP,find?_cons->bW,mem_map_of_mem->bY,lookup_cons->b7,getElem?_eq_none->cc,getElem_mem->ci,drop_eq_getElem_cons->cz,length_filter_le->cC,filter_cons_of_neg->cI,ext_getElem?->cJ,nodup_cons->cN,map_append->cO,find?_cons_of_neg->cT,length_take->cU,not_mem_nil->cV,mem_flatMap->cW,getElem?_eq_none_iff->c9,lookup->de,mem_append_left->dh,length_nil->dk,map->dw,any_cons->dC,getElem?_replicate->dG,getElem?_range->dH,length->dJ,drop_eq_nil_of_le->dL,of_mem_zip->dR,nil_append->dU,getElem?_set->ef,mem_range->eC,all_map->eI,filterMap_cons->eJ,flatMap_append->eK,filter_cons_of_pos->eO,all_cons->eP,pairwise_map->fw,mem_iff_getElem?->fD,toArray->fF,mapM_cons->fG,any_eq_true->fO,map_congr_left->fX,forIn_cons->fZ,mem_filterMap->gc,filter_append->gw,nodup_nil->gA,reverse_cons->gL,mapM_toArray->gM,flatMap_cons->gN,take_of_length_le->gQ,length_drop->gX,length_replicate->ia,length_singleton->ib,set_append_right->ie,length_zip->iu,exists_mem_of_length_pos->iC,drop_zero->iI,forIn_nil->iJ,zip_cons_cons->iV,pairwise_cons->iW,set_cons_succ->iZ,set_cons_zero->i8,any_eq_false->jO,nodup_append->jQ,getElem?_zip_eq_some->jW,mem_or_eq_of_mem_set->jX,all_toArray->kK,lookup_eq_none_iff->kN,any_append->lh,find?_cons_of_pos->lB,sublist_cons_self->lC,length_pos_of_mem->lD,getElem?_toArray->lM,pairwise_and_iff->lP,set_append_left->lW,map_eq_nil_iff->ms,length_reverse->mw,map_nil->mH
open Bool renaming false_ne_true->az,and_eq_true->aJ,false_eq_true->bz,eq_iff_iff->bD,not_true->eQ,not_eq_true->fM,not_false->gD,false_or->mf,and_self->mh
open PySem.PyData renaming str->aC,int->aG,eqv->aX,canLayAll0->bH,tuple->bQ,depthAll->cK,depth->dM,eqvAll->dW,leavesShort->gm,showable->im,shown->io,hasDict_of_canLay->kH,list->lA,leavesShortAll->lJ,canLay0->lK
open PySem.Value renaming none->aU,ref->bi,type->bR,int->hU,str->iR,builtin->i9,bool->jT
open List.cons renaming injEq->bc
open PySem.Str renaming ofString->bj,empty->cM
open PyProof.Rows renaming slot_tuple_getitem->br,listUpdate_at->dE,callWith_type1->fH,get?_update_seq->f7,AllBare->gx,subscriptTail_builtinR->gB,seqEpoch_at->gT,entry_tuple_getitem->iE,slicePart_none->iH,args_tuple_getitem->iT,subscriptTail->jE,listItems_at->kJ,subscriptTail_builtinR->ln,SortKind->lY,tupleItemsOf_->md,seqObj->mB,IntsAre->mR
open Int renaming toNat_natCast->bt,natCast_succ->fP,emod_lt_of_pos->gv,emod_nonneg->iy,eq_ofNat_of_zero_le->kT
open Ne renaming symm->bu
open Option.some renaming inj->bv
open PySem.NameKind renaming free->bB,cell->fT
open PySem.Obj renaming mapSeq->bJ,data_mapFields->cZ,isFreed_of_fields->fE,mapFields->jG,data_mapDictKeys->l4,isFreed_of_dict->mC
open PySem.Builtin.Slice renaming slicePlaces->bT,sliceAdjust->cy,sliceApplied->fS,sliceFields->jU
open PySem.Paired renaming length->bV,snoc->mW
open Option renaming isSome_map->bZ,isSome_some->cY,isSome_none->c7,isSome_iff_exists->gf,map_eq_some_iff->gU
open Or renaming inl->b6,inr->dZ
open Array renaming length_toList->b8,getElem?_eq_none_iff->dY,getElem?_toList->fB,perm_iff_toList_perm->fV,getElem?_eq_getElem->f8,any_toList->gY,toList_map->gZ,forIn_toList->iQ,getElem?_eq_some_iff->jH
open PySem.F renaming slot_dict_get->cb,slot_dict_setdefault->cf,slot_dict_keyiterator_next->cH,entry_dict_get->cS,entry_dict_setdefault->dF,slot_tuple_getattribute->eM,slot_list_getattribute->eX,slot_NoneType_hash->fJ,args_tuple_add_2->gg,slot_list_append->gq,type_list_append->gu,entry_tuple_add->gF,args_dict_get_2->gG,args_dict_get_3->gH,slot_tuple_hash->gI,slot_tuple_add->gO,args_dict_keyiterator_next_1->ip,slot_zip_next->ir,entry_dict_keyiterator_next->iB,type_dict_setdefault->iL,kt_typeCall_dict_1->jF,slot_dict_getitem->jV,args_dict_init_2->kF,entry_dict_init->kO,slot_tuple_lt->lf,kt_called_dict->ly,type_dict_get->lO,args_list_extend_2->lU,entry_list_extend->mr
open Lean renaming mkIdent->cj,TSyntax->iw
open PySem.Heap.SameBut renaming update->cw
open PySem.Builtin.Tuple renaming tupleHashOf->cx,tupleExact->cF,tupleItemsOf->dX
open PySem.Builtin.SmallTypes renaming nextOf->cA,ownedTupleIsFree->gC
open False renaming elim->di
open PySem.Builtin.List renaming listTooLong->dj
open PySem.PassesOwn renaming never->dq
open True renaming intro->eB
open PySem.Builtin.Dict renaming updateFrom->eN,pairItems->eZ,addKeywords->kE,selfAndRest->kG
open ForInStep renaming yield->eW
open PySem.Challenge renaming rw_mannerports_k27_rows_had->fg
open PySem.Builtin.Str renaming strSliceIndices->fI,occurrences->gE
open PySem.Around renaming under_plainId->fL,under->kB,in1->lQ
open Sum renaming inl->hJ,inr->iF
open PySem.AutoSeq1 renaming wpAny_loadPart'->ij
open PySem.Builtin.Dict_items renaming ownsTuple->iK
open PyProof.Rows.ReadsAll renaming keeps->iX
open PySem.SeqAt.ReadsAll renaming length->iY
open PySem.Calls renaming Name_function_global->jB,callWith_builtin->lq,evalArgs_plain->lT
open List.Pairwise renaming nil->jP
open List.Perm renaming eq_of_pairwise->kI
open List.Sublist renaming append_left->kL
open PySem.Heap.DictOf renaming new->kY
open PySem.SeqAt renaming EqAt->lS,room_head->mN
open PySem.W.Looks renaming of_pure->mi
open Int.ofNat renaming inj->mn
open PySem.EntryCells renaming newEntry->mz
open PySem.Code renaming isFrame->mJ
open PySem.Sem renaming onRaise->mX
namespace PF
open PySem PySem.Spec PySem.SeqAt --
mutual
noncomputable def plD:aa->Bool
 |.none=>true
 |.int _=>true
 |.str _=>true
 |.tuple xs=>xu xs
 |_=>false
noncomputable def xu:List aa->Bool
 |[]=>true
 |x::xs=>plD x&&xu xs
end
theorem j9:plD (.tuple xs)=xu xs:=by simp only[plD]
theorem jz{x:aa}:xu (x::xs)=(plD x&&xu xs):=by simp only[xu]
theorem aa6: ∀xs:List aa,xu xs=xs.all plD
 |[]=>by simp only[xu,List.all_nil]
 |x::r=>by rw[jz,eP,aa6 r]
theorem evt{a:List aa}:aX (.tuple xs) (.tuple a)=dW xs a:=by simp only[aX]
theorem evs{x y:aa}{a:List aa}:dW (x::xs) (y::a)=(aX x y&&dW xs a):=by simp only[dW]
mutual
theorem ag4: ∀a b:aa,plD a=true->plD b=true->(aX a b=true ↔ a=b)
 |.none,b,_,hb=>by cases b <;> simp[plD]at hb <;> simp[aX]
 |.int i,b,_,hb=>by cases b <;> simp[plD]at hb <;> simp[aX]
 |.str i,b,_,hb=>by cases b <;> simp[plD]at hb <;> simp[aX]
 |.tuple xs,.tuple ys,ha,hb=>by
  rw[evt,aow xs ys (by rw[←j9];exact ha) (by rw[←j9];exact hb)];simp
 |.tuple xs,.none,_,_=>by simp[aX]
 |.tuple xs,.int _,_,_=>by simp[aX]
 |.tuple xs,.str _,_,_=>by simp[aX]
 |.tuple xs,.bool _,_,hb=>by simp[plD]at hb
 |.tuple xs,.list _,_,hb=>by simp[plD]at hb
 |.tuple xs,.dict _,_,hb=>by simp[plD]at hb
 |.bool _,_,ha,_=>by simp[plD]at ha
 |.list _,_,ha,_=>by simp[plD]at ha
 |.dict _,_,ha,_=>by simp[plD]at ha
theorem aow: ∀xs ys:List aa,xu xs=true->xu ys=true->(dW xs ys=true ↔ xs=ys)
 |[],[],_,_=>by simp[dW]
 |[],_::_,_,_=>by simp[dW]
 |_::_,[],_,_=>by simp[dW]
 |x::xs,y::ys,ha,hb=>by
  rw[jz,aJ]at ha hb;rw[evs,aJ,ag4 x y ha.1 hb.1,aow xs ys ha.2 hb.2,bc]
end
theorem aw4{a:aa}(h:plD a=true):aX a a=true:=(ag4 a a h h).mpr rfl
mutual
noncomputable def abf(w:aM):aa->Int
 |.none=>0xFCA86420
 |.int i=>hashInt i
 |.str x=>hashStr w x
 |.tuple xs=>reduceHash (cx (aav w xs))
 |_=>0
noncomputable def aav(w:aM):List aa->List Int
 |[]=>[]
 |x::xs=>abf w x::aav w xs
end
mutual
noncomputable def abh:aa->Nat
 |.tuple xs=>xv xs+1
 |_=>1
noncomputable def xv:List aa->Nat
 |[]=>0
 |x::xs=>abh x+xv xs
end
theorem ai0(w:aM): ∀xs:List aa,aav w xs=xs.map (abf w)
 |[]=>by simp only[aav,mH]
 |x::r=>by simp only[aav,aw,ai0 w r]
theorem adc: ∀xs ys:List aa,xv (xs++ys)=xv xs+xv ys
 |[],ys=>by simp[xv]
 |x::r,ys=>by simp only[List.cons_append,xv,adc r ys];lia
theorem af7: ∀{xs:List aa} {x:aa},x∈xs->x.depth <=cK xs
 |[],x,h=>by cases h
 |y::r,x,h=>by
  simp only[cK]
  (rcases aL.mp h with rfl|h)
  ·lia
  ·have:=af7 h;lia
section
variable{prog:aP}{w:aM} --
theorem av2{Q:Int->af->Prop}(h:Q 0xFCA86420 {s with toks:=s.toks+1}):wpAny (model prog w) A (pyHash .none) Q E s:=by
 unfold pyHash;have a:[aU].any Value.onHeap=false:=rfl;refine ac ?_
 (rw[cRoomFor,if_neg (by rw[a];exact az)];refine ah ?_)
 refine ac (eR (iM s) fJ.lookup ?_);show wpAny _ _ (if (some (i9 "NoneType.__hash__")==some aU)=true then _ else _) Q E s
 (rw[if_neg (by rw[beq_builtin_none];exact az)])
 refine ac (eR (iM s) fJ.lookup ?_);show wpAny _ _ (iA .none "__hash__" _ >>=_) Q E s
 refine ac (fK (iM s) fJ
  (bL fJ (iM s) F.entry_NoneType_hash
   (show wpAny _ _ (do ret (←mkInt 0xFCA86420)) _ _ s from wpAny_ret_mkInt ?_) (F.args_NoneType_hash_1 _)))
 show wpAny _ _ (if (decide (-(2:Int)^63 <=0xFCA86420)&&decide ((0xFCA86420:Int) < 2^63))=true then _ else _) Q E _;rw[if_pos (by decide)];exact ah h
mutual
theorem apt: ∀(d:aa) {A:bh} {E:ae->af->Prop} {s:af} {v:ae} {bs:List Addr} {Q:Int->af->Prop},plD d=true->c8 s.heap v d bs->A.units+d.depth < cLine->Q (abf w d) {s with toks:=s.toks+abh d}->wpAny (model prog w) A (pyHash v) Q E s
 |.none,A,E,s,v,bs,Q,_,r,_,h=>by cases r;simp only[abf,abh]at h;exact av2 h
 |.int i,A,E,s,v,bs,Q,_,r,_,h=>by cases r;simp only[abf,abh]at h;exact wpAny_pyHash_int h
 |.str x,A,E,s,v,bs,Q,_,r,_,h=>by cases r;simp only[abf,abh]at h;exact wpAny_pyHash_str h
 | .tuple xs,A,E,s,v,bs,Q,hp,r,hu,h=>by
  have ih:=ak3 xs;rw[j9,aa6,aB]at hp
  (simp only[dM]at hu)
  cases r with
  | @tuple a o items n _ _ ho hc hd hi=>
  have hT:s.TypeIs (.ref a) "tuple":=⟨o,ho,hc⟩;unfold pyHash pyHashByItsType;refine ac (wpAny_cRoomFor_or (.inr (by lia)) ?_)
  (refine ac (eR hT gI.lookup ?_))
  show wpAny _ _ (if (some (i9 "tuple.__hash__")==some aU)=true then _ else _) Q E s --
  (rw[if_neg (by rw[beq_builtin_none];exact az)])
  (refine ac (eR hT gI.lookup ?_))
  show wpAny _ _ (iA (.ref a) "__hash__" _ >>=_) Q E s --
  (refine ac (fK hT gI (bL gI hT F.entry_tuple_hash ?_ (F.args_tuple_hash_1 _))))
  show wpAny _ _ (dX (.ref a)>>=_) _ _ s --
  (refine ac (wpAny_tupleItemsOf ho hd ?_))
  refine ac ?_;rw[←iQ];refine gW _
   (λje (b:Array Int) s'=>∃done left cs,xs=done++left/\cD s.heap je left cs/\b.toList=done.map (abf w)/\s'={s with toks:=s.toks+xv done})
   _ ?_ ?_ _ _ ⟨[],xs,_,rfl,hi,rfl,rfl⟩
  ·rintro x je b s' ⟨done,left,cs,e,hl,hb,rfl⟩;cases hl with
   | @cons _ _ k ks' _ _ h1 hl'=>
    have hm:k∈xs:=by rw[e];simp
    have hdk:=af7 hm;have e1: ∀A:bh,A.in1.units <=A.units+1:=λA=>by first|exact aj _|(unfold lQ;simp)
    have e1A:=e1 A;refine ac (ih k hm (s:={s with toks:=s.toks+xv done}) (hp k hm) h1 (by lia) ?_)
    first
     |exact ah ⟨done++ [k],ks',_,by rw[e];simp,hl',by simp[hb],by simp[adc,xv,jA]⟩
     |exact ac (ah (ah ⟨done++ [k],ks',_,by rw[e];simp,hl',by simp[hb],by simp[adc,xv,jA]⟩))
  ·rintro b s' ⟨done,left,cs,e,hl,hb,rfl⟩;cases hl;rw[aK]at e;subst e;show wpAny _ _ (retInt (cx b.toList)) _ _ _ --
   rw[hb,←ai0];refine wpAny_ret_mkInt ?_;show wpAny _ _ (if (decide (-(2:Int)^63 <=cx (aav w xs))&&decide (cx (aav w xs) < 2^63))=true then _ else _) Q E _;simp only[abf,abh]at h;unfold reduceHash at h;by_cases hr:(decide (-(2:Int)^63 <=cx (aav w xs))&&decide (cx (aav w xs) < 2^63))=true
   ·rw[if_pos hr];rw[if_pos hr]at h
    (exact ah (by simpa[jA] using h))
   ·rw[if_neg hr];rw[if_neg hr]at h
    (exact ac (b9 (ah (by simpa[jA] using h))))
 |.bool _,_,_,_,_,_,_,hp,_,_,_=>by simp[plD]at hp
 |.list _,_,_,_,_,_,_,hp,_,_,_=>by simp[plD]at hp
 |.dict _,_,_,_,_,_,_,hp,_,_,_=>by simp[plD]at hp
theorem ak3: ∀(xs:List aa),∀d∈xs,∀{A:bh} {E:ae->af->Prop} {s:af} {v:ae} {bs:List Addr} {Q:Int->af->Prop},plD d=true->c8 s.heap v d bs->A.units+d.depth < cLine->Q (abf w d) {s with toks:=s.toks+abh d}->wpAny (model prog w) A (pyHash v) Q E s
 |[],d,m=>by cases m
 | x::r,d,m=>by
  intro h1 h2 h3 h4;rcases aL.mp m with e|m
  ·rw[e]at h1 h2 h3 h4;exact apt x h1 h2 h3 h4
  ·exact ak3 r d m h1 h2 h3 h4
end
mutual
theorem amb: ∀(d:aa) {n:Nat} {A:bh} {E:ae->af->Prop} {s:af} {v:ae} {bs:List Addr} {Q:Bool->af->Prop},plD d=true->c8 s.heap v d bs->d.depth <=n->Q true s->wpAny (model prog w) A (eqIsQuiet n v) Q E s
 |.none,n,A,E,s,v,bs,Q,_,r,_,h=>by cases r;rw[jK n rfl];exact ah h
 |.int i,n,A,E,s,v,bs,Q,_,r,_,h=>by cases r;rw[jK n rfl];exact ah h
 |.str x,n,A,E,s,v,bs,Q,_,r,_,h=>by cases r;rw[jK n rfl];exact ah h
 | .tuple xs,n,A,E,s,v,bs,Q,hp,r,hu,h=>by
  have ih:=ajq xs;rw[j9,aa6,aB]at hp
  (simp only[dM]at hu)
  obtain⟨m,rfl⟩: ∃m,n=m+1:=⟨n - 1,by lia⟩;cases r with
  | @tuple a o items n _ _ ho hc hd hi=>
  have hT:s.TypeIs (.ref a) "tuple":=⟨o,ho,hc⟩;unfold eqIsQuiet
  (refine ac (eR hT F.slot_tuple_eq.lookup ?_))
  show wpAny _ _ (isInstance (.ref a) (.type "tuple")>>=_) _ _ s --
  (refine ac (jY hT isSubtype_tuple_tuple ?_))
  (simp only[eQ,bz,if_false])
  (refine ac (cX ho hd ?_))
  refine ac ?_;show wpAny _ _ (forIn items _ _) _ _ s --
  rw[←iQ];refine gW _ (λje r s'=>r.1=none/\s'=s/\ ∃left cs,(∀x∈left,x∈xs)/\cD s.heap je left cs) _ ?_ ?_ _ _ ⟨rfl,rfl,xs,_,λ_ m=>m,hi⟩
  ·rintro v je r s' ⟨hr,rfl,left,cs,sub,hl⟩;cases hl with
   | @cons _ _ k ks' _ _ h1 hl'=>
    have hm:=sub k au;have hdk:=af7 hm;refine ac (ih k hm (hp k hm) h1 (by lia) ?_)
    (simp only[eQ,bz,if_false])
    exact ah ⟨rfl,rfl,ks',_,λx m=>sub x (aq _ m),hl'⟩
  ·rintro⟨r1,r2⟩ s' ⟨hr,rfl,_⟩;simp only at hr;subst hr;exact ah h
 |.bool _,_,_,_,_,_,_,_,hp,_,_,_=>by simp[plD]at hp
 |.list _,_,_,_,_,_,_,_,hp,_,_,_=>by simp[plD]at hp
 |.dict _,_,_,_,_,_,_,_,hp,_,_,_=>by simp[plD]at hp
theorem ajq: ∀(xs:List aa),∀d∈xs,∀{n:Nat} {A:bh} {E:ae->af->Prop} {s:af} {v:ae} {bs:List Addr} {Q:Bool->af->Prop},plD d=true->c8 s.heap v d bs->d.depth <=n->Q true s->wpAny (model prog w) A (eqIsQuiet n v) Q E s
 |[],d,m=>by cases m
 | x::r,d,m=>by
  intro h1 h2 h3 h4;rcases aL.mp m with e|m
  ·rw[e]at h1 h2 h3;exact amb x h1 h2 h3 h4
  ·exact ajq r d m h1 h2 h3 h4
end
mutual
theorem ajz: ∀(d:aa) {h h':Heap} {v:ae} {bs:List Addr} {a:Addr} {o:Obj} {es:Array cL} {ep:Nat},plD d=true->c8 h v d bs->h.get? a=some o->o.data=.dict es ep->bX a h h'->c8 h' v d bs
 |.none,_,_,_,_,_,_,_,_,_,r,_,_,_=>by cases r;exact .none
 |.int i,_,_,_,_,_,_,_,_,_,r,_,_,_=>by cases r;exact .int _ _
 |.str x,_,_,_,_,_,_,_,_,_,r,_,_,_=>by cases r;exact .str _ _
 | .tuple xs,h,h',v,bs,a,o,es,ep,hp,r,ho,hd,hs=>by
  rw[j9]at hp;cases r with
  | @tuple b ob items n _ _ h1 h2 h3 h4=>
   have ne:b≠a:=by
    rintro rfl;rw[h1]at ho;cases ho;rw[hd]at h3;cases h3
   exact .tuple ((hs.2 b ne).trans h1) h2 h3 (aic xs hp h4 ho hd hs)
 |.bool _,_,_,_,_,_,_,_,_,hp,_,_,_,_=>by simp[plD]at hp
 |.list _,_,_,_,_,_,_,_,_,hp,_,_,_,_=>by simp[plD]at hp
 |.dict _,_,_,_,_,_,_,_,_,hp,_,_,_,_=>by simp[plD]at hp
theorem aic: ∀(xs:List aa) {h h':Heap} {vs:List ae} {bs:List Addr} {a:Addr} {o:Obj} {es:Array cL} {ep:Nat},xu xs=true->cD h vs xs bs->h.get? a=some o->o.data=.dict es ep->bX a h h'->cD h' vs xs bs
 |[],_,_,_,_,_,_,_,_,_,r,_,_,_=>by cases r;exact .nil
 |x::xs,_,_,_,_,_,_,_,_,hp,r,ho,hd,hs=>by
  rw[jz,aJ]at hp;cases r with
  |cons r1 r2=>exact .cons (ajz x hp.1 r1 ho hd hs) (aic xs hp.2 r2 ho hd hs)
end
def vn(d:aa):Bool:=plD d&&d.canLay0&&decide (d.depth <=8)
theorem ye{d:aa}:vn d=true ↔ plD d=true/\d.canLay0=true/\d.depth <=8:=by
 unfold vn;simp only[aJ,decide_eq_true_eq,and_assoc]
noncomputable instance:DecidableEq aa:=λa b=>Classical.propDecidable (a=b)
def kf(prog:aP)(w:aM):lR prog w aa where
 is h k a:=vn k=true/\ ∃bs,c8 h (.ref a) k bs
 hash:=abf w
 draws:=abh
 room A:=A.units+10 < cLine
 inj:=by
  rintro h a x y ⟨e,b1,r1⟩ ⟨k2,b2,r2⟩;exact Reads.unique x y _ _ _ (ye.mp e).2.1 r1 r2
 keeps:=by
  rintro h h' k a d o es ep ⟨e,b1,r1⟩ ho hd hs;exact⟨e,b1,ajz k (ye.mp e).1 r1 ho hd hs⟩
 pyHash:=by
  rintro A E s k a Q j ⟨e,b1,r1⟩ h;obtain⟨p,c,d⟩:=ye.mp e;exact apt k p r1 (by lia) h
 eqBool:=by
  rintro A E s x y a b Q j ⟨e,b1,r1⟩ ⟨k2,b2,r2⟩ h;obtain⟨p,c,d⟩:=ye.mp e;obtain⟨l,c',d'⟩:=ye.mp k2;refine eqAt_reads x y A s _ _ _ _ r1 r2 c c' (by lia) prog w E Q ?_;have:aX x y=decide (x=y):=by
   (rw[bD,decide_eq_true_eq])
   exact ag4 x y p l
  rw[this];exact h
 quiet:=by
  rintro A E s k a Q ⟨e,b1,r1⟩ h;obtain⟨p,c,d⟩:=ye.mp e;exact amb k p r1 (by lia) h
end
end PF
namespace L2
open PySem PySem.Spec PyProof.Rows
abbrev Key:=Sum Int Str
noncomputable def ac5:Key->ae->Bool
 |.inl k,v=>Value.isInt k v
 |.inr x,v=>Value.isStrOf x v
noncomputable def a8r(w:aM):Key->Int
 |.inl k=>hashInt k
 |.inr x=>hashStr w x
theorem qp: ∀{k:Key} {v:ae},ac5 k v=true->(∃i t,k=hJ i/\v=hU i t)\/(∃x t,k=iF x/\v=iR x t)
 |.inl i,v,h=>by
  obtain⟨t,e⟩:=Value.isInt_shape (k:=i) (v:=v) h;exact .inl ⟨i,t,rfl,e⟩
 |.inr x,v,h=>by
  obtain⟨t,e⟩:=Value.isStrOf_shape (x:=x) (v:=v) h;exact .inr ⟨x,t,rfl,e⟩
theorem atp(i:Int)(t:Tok):ac5 (.inl i) (.int i t)=true:=by simp[ac5,Value.isInt]
theorem asr(x:Str)(t:Tok):ac5 (.inr x) (.str x t)=true:=by simp[ac5,Value.isStrOf]
theorem a66(a b:Int):decide ((hJ a:Key)=hJ b)=(a==b):=by
 by_cases e:a=b
 ·subst e;simp
 ·have h: ¬(hJ a:Key)=hJ b:=λq=>e (hJ.inj q)
  rw[decide_eq_false h];exact(beq_eq_false_iff_ne.mpr e).symm
theorem a49(a b:Str):decide ((iF a:Key)=iF b)=decide (a=b):=by
 by_cases e:a=b
 ·subst e;simp
 ·have h: ¬(iF a:Key)=iF b:=λq=>e (iF.inj q)
  rw[decide_eq_false h,decide_eq_false e]
theorem a6r(a:Int)(b:Str):decide ((hJ a:Key)=iF b)=false:=decide_eq_false (λq=>nomatch q)
theorem a51(a:Str)(b:Int):decide ((iF a:Key)=hJ b)=false:=decide_eq_false (λq=>nomatch q)
def jx(prog:aP)(w:aM):PySem.KeyKind prog w Key where
 is:=ac5
 hash:=a8r w
 inj:=λv a b m l=>by
  rcases qp m with ⟨i,t,rfl,rfl⟩|⟨x,t,rfl,rfl⟩
  ·rcases qp l with ⟨j,u,rfl,e⟩|⟨y,u,rfl,e⟩
   ·injection e with c _;rw[c]
   ·exact nomatch e
  ·rcases qp l with ⟨j,u,rfl,e⟩|⟨y,u,rfl,e⟩
   ·exact nomatch e
   ·injection e with c _;rw[c]
 byValue:=λk v h=>by
  rcases qp h with ⟨i,t,rfl,rfl⟩|⟨x,t,rfl,rfl⟩ <;> rfl
 pyHash:=λd h=>by
  rcases qp d with ⟨i,t,rfl,rfl⟩|⟨x,t,rfl,rfl⟩
  ·exact wpAny_pyHash_int h
  ·exact wpAny_pyHash_str h
 eqBool:=λn d h=>by
  rcases qp n with ⟨i,t,rfl,rfl⟩|⟨x,t,rfl,rfl⟩
  ·rcases qp d with ⟨j,u,rfl,rfl⟩|⟨y,u,rfl,rfl⟩
   ·rw[a66]at h;exact wpAny_eqBool_int h
   ·rw[a6r]at h;exact lS.int_str i t y u _ _ _ _ h
  ·rcases qp d with ⟨j,u,rfl,rfl⟩|⟨y,u,rfl,rfl⟩
   ·rw[a51]at h;exact lS.str_int x t j u _ _ _ _ h
   ·rw[a49]at h;exact wpAny_eqBool_str h
 «strs»:=λk x t v h=>by
  rcases qp h with ⟨i,u,rfl,e⟩|⟨y,u,rfl,e⟩
  ·exact nomatch e
  ·injection e with c _
   subst c;cases v <;> rfl
theorem anu(prog:aP)(w:aM)(i:Int)(t:Tok):(jx prog w).is (.inl i) (.int i t)=true:=atp i t
theorem ao0(prog:aP)(w:aM)(x:Str)(t:Tok):(jx prog w).is (.inr x) (.str x t)=true:=asr x t
inductive V where
 |non|bl (b:Bool)|int (i:Int)|str (x:Str)|byt (b:Array UInt8)|flt (b:UInt64)|ref (a:Addr)|ty (n:String)
 deriving DecidableEq
def RelV:V->ae->Prop
 |.non,u=>u=aU
 |.bl b,u=>u=jT b
 |.int i,u=>∃t,u=hU i t
 |.str x,u=>∃t,u=iR x t
 |.byt b,u=>∃t,u=Value.bytes b t
 |.flt b,u=>∃t,u=Value.float b t
 |.ref a,u=>u=bi a
 |.ty n,u=>u=bR n
abbrev jl:List V->List ae->Prop:=eE RelV
theorem jl.length{xs:List V}{a:List ae}(r:jl xs a):xs.length=a.length:=bV r
theorem jl.get: ∀{xs:List V} {a:List ae} {i:Nat} {x:V},jl xs a->xs[i]?=some x->∃u,a[i]?=some u/\RelV x u
 |_,_,_,_,.nil,e=>by simp at e
 |_,_,0,_,.cons r _,e=>by simp at e;subst e;exact⟨_,rfl,r⟩
 |_,_,i+1,x,.cons _ t,e=>by
  obtain⟨u,c,b⟩:=jl.get (i:=i) (x:=x) t (by simpa using e);exact⟨u,by simpa using c,b⟩
theorem jl.set{x:V}{u:ae}(r:RelV x u): ∀{xs:List V} {a:List ae} (i:Nat),jl xs a->jl (xs.set i x) (a.set i u)
 |_,_,_,.nil=>.nil
 |_,_,0,.cons _ t=>.cons r t
 |_,_,i+1,.cons q t=>.cons q (jl.set r i t)
theorem jl.append: ∀{xs a:List V} {b c:List ae},jl xs b->jl a c->jl (xs++a) (b++c)
 |_,_,_,_,.nil,s=>s
 |_,_,_,_,.cons r t,s=>.cons r (jl.append t s)
theorem jl.take: ∀{xs:List V} {a:List ae} (n:Nat),jl xs a->jl (xs.take n) (a.take n)
 |_,_,0,_=>.nil
 |_,_,_+1,.nil=>.nil
 |_,_,n+1,.cons r t=>.cons r (jl.take n t)
theorem jl.drop: ∀{xs:List V} {a:List ae} (n:Nat),jl xs a->jl (xs.drop n) (a.drop n)
 |_,_,0,r=>r
 |_,_,_+1,.nil=>.nil
 |_,_,n+1,.cons _ t=>jl.drop n t
def vy:Option V->Option ae->Prop
 |some v,some u=>RelV v u
 |none,none=>True
 |_,_=>False
def KV{κ:Type}:List (κ×V)->List (κ×ae)->Prop:=eE λ(p:κ×V) (q:κ×ae)=>p.1=q.1/\RelV p.2 q.2
noncomputable def kV:Key->V
 |.inl i=>.int i
 |.inr x=>.str x
inductive HO where
 /-- a list -/
 |lst (xs:List V)
 /-- a tuple (never changes) -/
 |tup (xs:List V)
 /-- a dict whose keys are ints and texts;one whose keys are tuples of ints and texts (the empty one is both) -/
 |dK (kvs:List (Key×V))|dT (kvs:List (List Key×V))
 /-- one whose keys are plain tuples -/
 |dD (kvs:List (aa×V))
 /-- a set of ints:its members,its size -/
 |set (S:Int->Bool) (n:Nat)
 /-- an instance of the class at C,its dict at dx,its attributes -/
 |ins (C dx:Addr) (fs:List (Str×V))
 /-- the dict of the instance at x -/
 |own (x:Addr)
 /-- the dict of an exception -/
 |xd (fs:List (Str×V))
 /-- a bound method,f of x -/
 |met (f x:Addr)
 /-- a range object lo,lo+1,.. below hi -/
 |rng (lo hi:Int)
 /-- a thing that is known to the object (the script;a dict while a loop walks it):read,never written while it is so -/
 |frz (o:Obj) (u:HO)
 /-- a code object's table -/
 |tbl (ps:Array ae)
 /-- an exception of the class at C,its attributes -/
 |exn (C:Addr) (fs:List (Str×V))
 /-- an exception that was raised:its class,its attributes -/
 |exx (C:Addr) (fs:List (Str×V))
 /-- any other thing,by what is true of its one object (a def of one's own:SetO a S n:=HO.ext λh=>..) -/
 |ext (φ:Heap->Prop)
abbrev Hp:=Addr->Option HO
mutual
inductive KD (H:Hp):V->aa->Prop
 |non:KD H .non .none
 |int (i:Int):KD H (.int i) (.int i)
 |str (x:Str):KD H (.str x) (.str x)
 |tup {p:Addr} {xs:List V} {ds:List aa}:H p=some (.tup xs)->KDs H xs ds->KD H (.ref p) (.tuple ds)
inductive KDs (H:Hp):List V->List aa->Prop
 |nil:KDs H [] []
 |cons {x:V} {xs:List V} {d:aa} {ds:List aa}:KD H x d->KDs H xs ds->KDs H (x::xs) (d::ds)
end
mutual
theorem KD.mono{H H':Hp}(ht: ∀b xs,H b=some (.tup xs)->H' b=some (.tup xs)): ∀{v:V} {d:aa},KD H v d->KD H' v d
 |_,_,.non=>.non
 |_,_,.int i=>.int i
 |_,_,.str x=>.str x
 |_,_,.tup e r=>.tup (ht _ _ e) (KDs.mono ht r)
theorem KDs.mono{H H':Hp}(ht: ∀b xs,H b=some (.tup xs)->H' b=some (.tup xs)): ∀{v:List V} {d:List aa},KDs H v d->KDs H' v d
 |_,_,.nil=>.nil
 |_,_,.cons a r=>.cons (KD.mono ht a) (KDs.mono ht r)
end
noncomputable def upd(H:Hp)(a:Addr)(o:HO):Hp:=λb=>if b=a then some o else H b
theorem aa2{H:Hp}{a:Addr}{o:HO}:upd H a o a=some o:=by unfold upd;rw[if_pos rfl]
theorem j7{H:Hp}{a:Addr}{o:HO}(h:b≠a):upd H a o b=H b:=by unfold upd;rw[if_neg h]
theorem a8k{H:Hp}{a:Addr}{o u:HO}(h:H a=some o)(h':H b=some u)(d:o≠u):a≠b:=by
 intro e;subst e;rw[h]at h';exact d (bv h')
theorem yk{H:Hp}{a:Addr}{o:HO}(h:H a=some o)(h':H b=none):a≠b:=by
 intro e;subst e;rw[h]at h';cases h'
def ael(h:Heap)(a:Addr)(b:Array ae):Prop:= ∃n,h.get? a=some {cls:=.type "tuple",data:=.seq b n}
theorem ael.tup{a:Addr}{b:Array ae}(x:ael h a b):IsTup h a b:=let ⟨n,e⟩:=x;⟨_,e,rfl,n,rfl⟩
theorem ael.new(h:Heap)(a:Array ae):ael (h.push {cls:=.type "tuple",data:=.seq a}) h.objs.size a:=⟨_,aD _ rfl⟩
abbrev a91(C:Addr)(dx:Option Addr)(t:Addr):Obj:={cls:=.ref C,dict:=dx,data:=.fields #[.ref t,.none,.none,.none,.bool false,.none]}
abbrev afh(C:Addr)(dx:Option Addr)(t:Addr)(tb:ae):Obj:={cls:=.ref C,dict:=dx,data:=.fields #[.ref t,tb,.none,.none,.bool false,.none]}
def Emp(h:Heap)(a:Addr):Prop:= ∃o,h.get? a=some o/\o.ExactDict/\o.data=.dict #[] 0
section
variable(P:aP)(w:aM)
def km(H:Hp)(h:Heap)(a:Addr):HO->Prop
 |.lst xs=>xs.length <=sizeLine/\ ∃(its:List ae) (n:Nat),jl xs its/\h.get? a=some {cls:=.type "list",data:=.seq its.toArray n}
 |.tup xs=>xs.length <=sizeLine/\ ∃its:List ae,jl xs its/\ael h a its.toArray
 |.dK kvs=>(kvs=[]->Emp h a)/\kvs.length <=sizeLine/\(a==bA)=false/\ ∃vs,KV kvs vs/\h.DictOf (jx P w) a vs
 | .dT kvs=>kvs.length <=sizeLine/\(a==bA)=false/\ ∃xs:List (List Key×Addr×ae),
   eE (λ(p:List Key×V) (q:List Key×Addr×ae)=>p.1=q.1/\H q.2.1=some (.tup (p.1.map kV))/\RelV p.2 q.2.2) kvs xs/\
   ∃o es ep,h.get? a=some o/\o.ExactDict/\o.data=.dict es ep/\es.toList=xs.map (eA (h8 (jx P w)))/\(xs.map (·.1)).Nodup
 | .dD kvs=>kvs.length <=sizeLine/\(a==bA)=false/\ ∃xs:List (aa×Addr×ae),
   eE (λ(p:aa×V) (q:aa×Addr×ae)=>p.1=q.1/\(PF.vn p.1=true/\KD H (.ref q.2.1) p.1)/\RelV p.2 q.2.2) kvs xs/\
   ∃o es ep,h.get? a=some o/\o.ExactDict/\(o.data=.dict es ep/\ep=es.size)/\es.toList=xs.map (eA (PF.kf P w))/\(xs.map (·.1)).Nodup
 |.set S n=>h.SetOf (intKind P w) a S n
 | .ins C dx fs=>H dx=some (.own a)/\fs.length <=1000/\dx≠a/\h.get? a=some (df C dx)/\
   ∃mA,h.Ns1 dx mA/\(∀f,vy (fs.lookup f) (mA f))/\gb mA (fs.map (·.1))
 | .exn C fs=>fs.length <=1000/\ ∃(t:Addr) (b:Option Addr),h.get? a=some (a91 C b t)/\((b=none/\fs=[])\/ ∃dx,b=some dx/\H dx=some (.own a)/\dx≠a/\
   ∃mA,h.Ns1 dx mA/\(∀f,vy (fs.lookup f) (mA f))/\gb mA (fs.map (·.1)))
 | .exx C fs=>fs.length <=1000/\ ∃(t:Addr) (tb:ae) (b:Option Addr),h.get? a=some (afh C b t tb)/\((b=none/\fs=[])\/ ∃dx,b=some dx/\H dx=some (.own a)/\dx≠a/\
   ∃mA,h.Ns1 dx mA/\(∀f,vy (fs.lookup f) (mA f))/\gb mA (fs.map (·.1)))
 |.own _=>∃o,h.get? a=some o
 |.xd fs=>∃mA,h.Ns1 a mA/\ ∀f,vy (fs.lookup f) (mA f)
 |.rng lo hi=>∃t u v,h.get? a=some {cls:=.type "range",data:=.fields #[.int lo t,.int hi u,.int 1 v]}
 |.frz o u=>h.get? a=some o/\km H h a u
 |.tbl ps=>h.get? a=some {cls:=.none,data:=.fields ps}
 |.met f x=>h.get? a=some (jL (.ref f) (.ref x))
 |.ext φ=>φ h/\(∃o,h.get? a=some o)/\ ∀h1 h2:Heap,φ h1->(∀o,h1.get? a=some o->h2.get? a=some o)->φ h2
def HOk(H:Hp)(h:Heap):Prop:= ∀a o,H a=some o->km P w H h a o
end
section
variable{P:aP}{w:aM}{H H':Hp}{h h':Heap}{a:Addr}{o:HO}
theorem km.lt(x:km P w H h a o):a < h.objs.size:=by
 cases o with
 |lst xs=>obtain⟨_,_,_,_,e⟩:=x;exact ay e
 |tup xs=>obtain⟨_,_,_,p⟩:=x;exact p.tup.lt
 |dK kvs=>obtain⟨_,_,_,_,_,o,_,_,e,_⟩:=x;exact ay e
 |dT kvs=>obtain⟨_,_,_,_,o,_,_,e,_⟩:=x;exact ay e
 |dD kvs=>obtain⟨_,_,_,_,o,_,_,e,_⟩:=x;exact ay e
 |set S n=>obtain⟨o,_,_,_,e,_⟩:=x;exact ay e
 |ins C dx fs=>obtain⟨_,_,_,e,_⟩:=x;exact ay e
 |exn C fs=>obtain⟨_,_,_,e,_⟩:=x;exact ay e
 |exx C fs=>obtain⟨_,_,_,_,e,_⟩:=x;exact ay e
 |own y=>obtain⟨_,e⟩:=x;exact ay e
 |xd fs=>obtain⟨_,⟨_,_,_,e,_⟩,_⟩:=x;exact ay e
 |rng lo b=>obtain⟨_,_,_,e⟩:=x;exact ay e
 |frz ob u=>obtain⟨e,_⟩:=x;exact ay e
 |tbl ps=>exact ay (show h.get? a=some _ from x)
 |met f y=>exact ay (show h.get? a=some _ from x)
 |ext φ=>obtain⟨_,⟨_,e⟩,_⟩:=x;exact ay e
theorem Paired.mapP{α β:Type}{F G:α->β->Prop}: ∀{c:List α} {d:List β},eE F c d->(∀a b,F a b->G a b)->eE G c d
 |_,_,.nil,_=>.nil
 |_,_,.cons r t,f=>.cons (f _ _ r) (Paired.mapP t f)
theorem km.stay(x:km P w H h a o)(k: ∀b u,(b=a\/H b=some (.own a))->h.get? b=some u->h'.get? b=some u)
  (ho: ∀b,H b=some (.own a)->H' b=some (.own a)) (F: ∀b xs,H b=some (.tup xs)->H' b=some (.tup xs)):km P w H' h' a o:=by
 induction o with
 |lst xs=>obtain⟨z,l,n,r,e⟩:=x;exact⟨z,l,n,r,k _ _ (.inl rfl) e⟩
 |tup xs=>obtain⟨z,l,r,n,e⟩:=x;exact⟨z,l,r,n,k _ _ (.inl rfl) e⟩
 |dK kvs=>obtain⟨n,z,y,vs,r,ob,es,ep,e,c⟩:=x;exact⟨λm=>let ⟨o,q,r⟩:=n m;⟨o,k _ _ (.inl rfl) q,r⟩,z,y,vs,r,ob,es,ep,k _ _ (.inl rfl) e,c⟩
 |dT kvs=>
  obtain⟨z,y,xs,r,ob,es,ep,e,c⟩:=x;exact⟨z,y,xs,Paired.mapP r λp q z=>⟨z.1,F _ _ z.2.1,z.2.2⟩,ob,es,ep,k _ _ (.inl rfl) e,c⟩
 |dD kvs=>
  obtain⟨z,y,xs,r,ob,es,ep,e,c⟩:=x;exact⟨z,y,xs,Paired.mapP r λp q z=>⟨z.1,⟨z.2.1.1,z.2.1.2.mono F⟩,z.2.2⟩,ob,es,ep,k _ _ (.inl rfl) e,c⟩
 |set S n=>obtain⟨ob,es,ep,t,e,c⟩:=x;exact⟨ob,es,ep,t,k _ _ (.inl rfl) e,c⟩
 |ins C dx fs=>
  obtain⟨d,z,ne,e,D,⟨j,es,ep,E,c⟩,r⟩:=x;exact⟨ho _ d,z,ne,k _ _ (.inl rfl) e,D,⟨j,es,ep,k _ _ (.inr d) E,c⟩,r⟩
 |exn C fs=>
  obtain⟨z,t,A,e,q⟩:=x;refine⟨z,t,A,k _ _ (.inl rfl) e,?_⟩;rcases q with q|⟨dx,q,d,ne,D,⟨j,es,ep,E,c⟩,r⟩
  ·exact .inl q
  ·exact .inr ⟨dx,q,ho _ d,ne,D,⟨j,es,ep,k _ _ (.inr d) E,c⟩,r⟩
 |exx C fs=>
  obtain⟨z,t,tb,A,e,q⟩:=x;refine⟨z,t,tb,A,k _ _ (.inl rfl) e,?_⟩;rcases q with q|⟨dx,q,d,ne,D,⟨j,es,ep,E,c⟩,r⟩
  ·exact .inl q
  ·exact .inr ⟨dx,q,ho _ d,ne,D,⟨j,es,ep,k _ _ (.inr d) E,c⟩,r⟩
 |own y=>obtain⟨ob,e⟩:=x;exact⟨ob,k _ _ (.inl rfl) e⟩
 |xd fs=>obtain⟨D,⟨j,es,ep,e,c⟩,r⟩:=x;exact⟨D,⟨j,es,ep,k _ _ (.inl rfl) e,c⟩,r⟩
 |rng lo J=>obtain⟨t,u,v,e⟩:=x;exact⟨t,u,v,k _ _ (.inl rfl) e⟩
 |frz ob u I=>obtain⟨e,q⟩:=x;exact⟨k _ _ (.inl rfl) e,I q⟩
 |tbl ps=>
  have e:h.get? a=some {cls:=.none,data:=.fields ps}:=x;show h'.get? a=some {cls:=.none,data:=.fields ps};exact k a _ (.inl rfl) e
 |met f y=>
  have e:h.get? a=some (jL (.ref f) (.ref y)):=x;show h'.get? a=some (jL (.ref f) (.ref y));exact k a _ (.inl rfl) e
 |ext φ=>obtain⟨p,⟨o,e⟩,st⟩:=x;exact⟨st _ _ p λo q=>k _ _ (.inl rfl) q,⟨o,k _ _ (.inl rfl) e⟩,st⟩
theorem HOk.lt(x:HOk P w H h)(e:H a=some o):a < h.objs.size:=(x a o e).lt
theorem HOk.fresh(x:HOk P w H h)(e:h.objs.size <=a):H a=none:=by
 cases q:H a with
 |none=>rfl
 |some u=>exact absurd (a9 (x.lt q) e) (cG _)
theorem HOk.kept(x:HOk P w H h)(k: ∀b u,h.get? b=some u->h'.get? b=some u):HOk P w H h':=λa o e=>
 (x a o e).stay (λb u _ q=>k b u q) (λ_ q=>q) λ_ _ q=>q
theorem HOk.laid(x:HOk P w H h)(k: ∀b u,h.get? b=some u->h'.get? b=some u)(j:h.objs.size <=a)(new:km P w (upd H a o) h' a o):HOk P w (upd H a o) h':=λb u e=>by
 have hn:=x.fresh j;by_cases d:b=a
 ·subst d;rw[aa2]at e;cases e;exact new
 ·rw[j7 d]at e;exact(x b u e).stay (λc v _ q=>k c v q) (λc q=>by rw[j7 (yk q hn)];exact q) λc xs q=>by rw[j7 (yk q hn)];exact q
end
def Rd(H:Hp)(a:Addr)(u:HO):Prop:=H a=some u\/ ∃o,H a=some (.frz o u)
theorem Rd.ok{w:aM}{H:Hp}{a:Addr}{u:HO}(r:Rd H a u)(x:HOk P w H h):km P w H h a u:=by
 rcases r with r|⟨o,r⟩
 ·exact x a u r
 ·obtain⟨_,q⟩:=x a _ r;exact q
def Mut:Option HO->Prop
 |some (.lst _)=>True
 |some (.dK _)=>True
 |some (.dT _)=>True
 |some (.dD _)=>True
 |some (.set _ _)=>True
 |some (.ins _ _ _)=>True
 |some (.ext _)=>True
 |some (.exx _ _)=>True
 |some (.exn _ _)=>True
 |_=>False
section
variable{P:aP}{w:aM}{H:Hp}{h h':Heap}{x e:Addr}{o':HO}
theorem HOk.write(ok:HOk P w H h)(m:Mut (H x))(p:e=x\/H e=some (.own x))(k: ∀b u,b≠e->h.get? b=some u->h'.get? b=some u)(n: ∃u,h'.get? e=some u)
  (new:km P w (upd H x o') h' x o'):HOk P w (upd H x o') h':=λb u q=>by
 have d: ∀c y,H c=some (.own y)->c≠x:=λc y r z=>by subst z;rw[r]at m;exact m
 have j: ∀c xs,H c=some (.tup xs)->c≠x:=λc xs r z=>by subst z;rw[r]at m;exact m
 by_cases l:b=x
 ·subst l;rw[aa2]at q;cases q;exact new
 ·rw[j7 l]at q;by_cases a:b=e
  ·have o:H b=some (.own x):=by
    rcases p with z|z
    ·exact absurd (a.trans z) l
    ·rw[a];exact z
   rw[q]at o;cases o;obtain⟨v,t⟩:=n;exact⟨v,by rw[a];exact t⟩
  ·refine(ok b u q).stay (λc v hc r=>k c v ?_ r) (λc r=>by rw[j7 (d c b r)];exact r) λc xs r=>by rw[j7 (j c xs r)];exact r
   rcases hc with rfl|hc
   ·exact a
   ·rintro rfl;rcases p with z|z
    ·exact d c b hc z
    ·rw[hc]at z;cases z;exact l rfl
end
structure Un (fs ex:List Addr) (H H':Hp) (h h':Heap):Prop where
 keep: ∀b o,h.get? b=some o->H b=none->b∉fs->b∉ex->h'.get? b=some o
 slot: ∀b o,h.get? b=some o->H b=none->b∈fs->b∉ex->∃sl,h'.get? b=some {o with slots:=sl}
 free: ∀b o,h.get? b=some o->H b=none->b∉ex->H' b=none
 there: ∀b o,h.get? b=some o->b∉ex->∃o',h'.get? b=some o'
 tups: ∀b xs,H b=some (.tup xs)->H' b=some (.tup xs)
 frzs: ∀b o u,H b=some (.frz o u)->H' b=some (.frz o u)
 tbls: ∀b ps,H b=some (.tbl ps)->∃more,H' b=some (.tbl (ps++more))
section
variable{fs fs' ex ex':List Addr}{H H1 H2:Hp}{h h1 h2 h':Heap}{a x e:Addr}{o:HO}
theorem Un.any(u:Un fs ex H H1 h h1){ob:Obj}(q:h.get? b=some ob)(n:H b=none)(hx:b∉ex): ∃sl,h1.get? b=some {ob with slots:=sl}:=by
 by_cases a:b∈fs
 ·exact u.slot b ob q n a hx
 ·exact⟨ob.slots,u.keep b ob q n a hx⟩
theorem Un.kept(k: ∀b u,h.get? b=some u->h'.get? b=some u):Un fs ex H H h h':=
 ⟨λb ob q _ _ _=>k b ob q,λb ob q _ _ _=>⟨ob.slots,k b ob q⟩,λ_ _ _ n _=>n,λb ob q _=>⟨ob,k b ob q⟩,λ_ _ q=>q,λ_ _ _ q=>q,λ_ ps q=>⟨#[],by rw[q];simp⟩⟩
theorem Un.refl:Un fs ex H H h h:=Un.kept λ_ _ q=>q
theorem Un.laid(k: ∀b u,h.get? b=some u->h'.get? b=some u)(c:h.objs.size <=a)(hn:H a=none):Un fs ex H (upd H a o) h h' where
 keep:=λb u q _ _ _=>k b u q
 slot:=λb u q _ _ _=>⟨u.slots,k b u q⟩
 free:=λb u q n _=>by rw[j7 (aI (a9 (ay q) c))];exact n
 there:=λb u q _=>⟨u,k b u q⟩
 tups:=λb xs q=>by rw[j7 (yk q hn)];exact q
 frzs:=λb u xs q=>by rw[j7 (yk q hn)];exact q
 tbls:=λb ps q=>⟨#[],by rw[j7 (yk q hn),q];simp⟩
theorem Un.write(c:Mut (H x))(m:e=x\/H e=some (.own x))(k: ∀b u,b≠e->h.get? b=some u->h'.get? b=some u)(d: ∃u,h'.get? e=some u):Un fs ex H (upd H x o) h h':=by
 have hx: ∀b,H b=none->b≠x:=λb n z=>by subst z;rw[n]at c;exact c
 have j: ∀b,H b=none->b≠e:=λb n z=>by
  subst z;rcases m with r|r
  ·exact hx b n r
  ·rw[n]at r;cases r
 have hm: ∀b u,H b=some u->¬Mut (some u)->b≠x:=λb u q l z=>by subst z;rw[q]at c;exact l c
 refine⟨λb u q n _ _=>k b u (j b n) q,λb u q n _ _=>⟨u.slots,k b u (j b n) q⟩,λb u q n _=>by rw[j7 (hx b n)];exact n,λb u q _=>?_,
  λb xs q=>by rw[j7 (hm b _ q λz=>z)];exact q,λb u xs q=>by rw[j7 (hm b _ q λz=>z)];exact q,λb ps q=>⟨#[],by rw[j7 (hm b _ q λz=>z),q];simp⟩⟩
 by_cases a:b=e
 ·subst a;exact d
 ·exact⟨u,k b u a q⟩
end
noncomputable def trk(h:Heap)(H:Hp):List Addr:=(a8 h.objs.size).filter λa=>(H a).isSome
def aem(h:Heap)(H:Hp):Heap:=PySem.W.hideAll h (trk h H)
theorem asf(h:Heap)(H:Hp):(aem h H).objs.size=h.objs.size:=PySem.W.hideAll_size _ _
theorem ax3{H:Hp}{o:Obj}(e:h.get? b=some o)(n:H b=none):(aem h H).get? b=some o:=
 PySem.W.hideAll_get _ e λhm=>by
  have q:(H b).isSome=true:=(bd.mp hm).2;rw[n]at q;simp at q
theorem a0l{H:Hp}{o:Obj}(e:(aem h H).get? b=some o):h.get? b=some o/\H b=none:=by
 have a:h.get? b=some o:=PySem.W.of_hideAll (trk h H) e;refine⟨a,?_⟩;cases q:H b with
 |none=>rfl
 |some x=>
  have hm:b∈trk h H:=bd.mpr ⟨eC.mpr (ay a),by simp[q]⟩;have z:(aem h H).get? b=none:=PySem.W.hideAll_none (trk h H) hm;rw[z]at e;cases e
noncomputable def a11(g h:Heap)(L:Addr):List (Addr×Obj):=(a8 h.objs.size).filterMap λa=>if a=L\/(g.get? a).isSome=true then none else (h.get? a).map λo=>(a,o)
def je(g h:Heap)(L d:Addr):List (Addr×Obj):=(a11 g h L).filter λp=>decide (p.1≠d)
structure Mod (K:ak) (mg:Str->Option ae) (base:Heap):Prop where
 kin:K.In base
 glob:base.Ns a7 mg
 blt: ∃mb,base.Ns builtinsNs mb/\ ∀x:Str,x≠"__name__" -> mb x=bK x
 nolimit:base.NoLimit
structure Cx where
 prog:aP
 w:aM
 K:ak
 mg:Str->Option ae
 base:Heap
 A:bh
 N:List Str
 s₀:af
 H₀:Hp
 env:Env
 outer:List Env
 stack:List Env
 ex:List Addr
 fn:Str->Bool
 calm:Bool
 pn:List (Addr×Obj)
 xe:ae->af->Prop
noncomputable def frs(l:List Env):List Addr:=l.filterMap (·.frame)
abbrev Cx.fs(X:Cx):List Addr:=frs X.outer
def Vis(sc:dP)(x:Str):Prop:=sc.names.lookup x=some .local\/sc.names.lookup x=some .cell\/sc.names.lookup x=some .free
def Loc(sc:dP)(x:Str):Prop:=sc.names.lookup x=some .local\/sc.names.lookup x=some .cell
def Look(env:Env)(h:Heap)(m:Str->Option ae)(x:Str)(u:ae):Prop:=
 (env.kindOf x=some .local/\m x=some u)\/((env.kindOf x=some .cell\/env.kindOf x=some .free)/\ ∃c,env.cells.lookup x=some c/\h.IsCell c (some u))
structure Cx.Ok (X:Cx):Prop where
 mod:Mod X.K X.mg X.base
 kind:X.env.scope.kind=.function
 glob:X.env.globals=a7
 blt:X.env.builtins=builtinsNs
 above:X.s₀.heap.objs.size <=X.env.locals
 inj: ∀x y c,X.env.cells.lookup x=some c->X.env.cells.lookup y=some c->x=y
 has: ∀x,(X.env.kindOf x=some .cell\/X.env.kindOf x=some .free)->∃c,X.env.cells.lookup x=some c
 cab: ∀x c,X.fn x=true->X.env.cells.lookup x=some c->X.s₀.heap.objs.size <=c
 hd:X.calm=true->X.A.handled=none
 frames:X.A.frames=some X.stack
 stk:X.stack=X.outer\/(X.stack=X.env::X.outer/\X.env.frame=some X.env.locals)
 exf: ∀b∈X.ex,b≠X.env.locals/\ ∀x c,X.env.cells.lookup x=some c->c≠b
 bs: ∀b o,X.base.get? b=some o->X.s₀.heap.get? b=some o/\X.H₀ b=none
 bsz:X.base.objs.size <=X.s₀.heap.objs.size
 noex: ∀b o,X.base.get? b=some o->b∉X.ex
 exfs: ∀b∈X.ex,b∉X.fs
 funs:X.s₀.heap.FunFrames X.base X.outer
 frf: ∀b∈X.fs,X.H₀ b=none
structure Inv (X:Cx) (pins:List (Addr×Obj)) (σ:List (Option V)) (H:Hp) (s:af):Prop where
 ok:X.Ok
 os:s.os=X.s₀.os
 bare:gx s.gens
 base:Un X.fs X.ex X.H₀ H X.s₀.heap s.heap
 loc: ∃m,s.heap.Ns X.env.locals m/\ ∀(i:Nat) (x:Str) (v:V),X.N[i]?=some x->σ[i]?=some (some v)->Vis X.env.scope x->∃u,RelV v u/\Look X.env s.heap m x u
 cell: ∀x c,X.env.cells.lookup x=some c->∃v,s.heap.IsCell c v
 free:H X.env.locals=none
 freeC: ∀x c,X.env.cells.lookup x=some c->H c=none
 pin: ∀p∈X.pn++pins,s.heap.get? p.1=some p.2/\H p.1=none/\p.1≠X.env.locals/\p.1∉X.fs/\ ∀v,p.2.data≠ .cell v
 hok:HOk X.prog X.w H s.heap
 len:σ.length=X.N.length
section
variable{X:Cx}{pins:List (Addr×Obj)}{σ:List (Option V)}{H H':Hp}{s:af}{h':Heap}
theorem Cx.Ok.nofr(ok:X.Ok){o:Obj}(e:X.base.get? b=some o):b∉X.fs:=λa=>by
 have:=(ok.funs.mem a).1;rw[e]at this;cases this
theorem Inv.bs(I:Inv X pins σ H s): ∀b o,X.base.get? b=some o->s.heap.get? b=some o/\H b=none:=λb o e=>
 ⟨I.base.keep b o (I.ok.bs b o e).1 (I.ok.bs b o e).2 (I.ok.nofr e) (I.ok.noex b o e),I.base.free b o (I.ok.bs b o e).1 (I.ok.bs b o e).2 (I.ok.noex b o e)⟩
theorem Inv.bk(I:Inv X pins σ H s): ∀b o,X.base.get? b=some o->s.heap.get? b=some o:=λb o e=>(I.bs b o e).1
theorem Inv.mod(I:Inv X pins σ H s):Mod X.K X.mg X.base:=I.ok.mod
theorem Inv.kIn(I:Inv X pins σ H s):X.K.In s.heap:=I.ok.mod.kin.keeps I.bk
theorem Inv.lt(I:Inv X pins σ H s):X.env.locals < s.heap.objs.size:=let ⟨_,hn,_⟩:=I.loc;hn.lt
theorem Inv.sz(I:Inv X pins σ H s):X.s₀.heap.objs.size <=s.heap.objs.size:=aN I.ok.above (jZ I.lt)
theorem Inv.nofs(I:Inv X pins σ H s){a:Addr}(h:s.heap.objs.size <=a):a∉X.fs:=λb=>by
 obtain⟨_,o,ho,_⟩:=I.ok.funs.mem b;exact absurd (a9 (ay ho) (aN I.sz h)) (cG _)
theorem Inv.cne(I:Inv X pins σ H s): ∀x c,X.env.cells.lookup x=some c->c≠X.env.locals:=λx c e z=>by
 obtain⟨v,o,ho,hd⟩:=I.cell x c e;obtain⟨m,⟨d,es,ep,b,a,_⟩,_⟩:=I.loc;rw[z,b]at ho;cases ho;rw[a]at hd;cases hd
theorem Inv.funs(I:Inv X pins σ H s):s.heap.FunFrames X.base X.outer:=by
 have all: ∀(l:List Env),(∀b∈frs l,b∈X.fs)->X.s₀.heap.FunFrames X.base l->s.heap.FunFrames X.base l:=by
  intro l;induction l with
  |nil=>intro _ _;trivial
  |cons env r j=>
   intro hs h;obtain⟨hk,⟨L,o,c,hn,ho,hd⟩,hr⟩:=h;have d:L∈X.fs:=hs L (by unfold frs;rw[eJ,c];exact au);obtain⟨k,e⟩:=I.base.slot L o ho (I.ok.frf L d) d λz=>I.ok.exfs L z d
   exact⟨hk,⟨L,_,c,hn,e,hd⟩,j (λb a=>hs b (by unfold frs;rw[eJ,c];exact aq _ a)) hr⟩
 exact all X.outer (λ_ a=>a) I.ok.funs
theorem Inv.stack(I:Inv X pins σ H s):s.heap.FunFrames X.base X.stack:=by
 rcases I.ok.stk with e|⟨e,a⟩
 ·rw[e];exact I.funs
 ·rw[e];obtain⟨m,hn,_⟩:=I.loc;refine .cons (by rw[I.ok.kind];decide) a hn ?_ I.funs;exact Heap.get?_none_of_le (aN I.ok.bsz I.ok.above)
theorem Inv.stkSub(I:Inv X pins σ H s): ∀b∈frs X.stack,b∈X.env.locals::X.fs:=λb a=>by
 rcases I.ok.stk with e|⟨e,c⟩
 ·rw[e]at a;exact aq _ a
 ·rw[e]at a;unfold frs at a;rw[eJ,c]at a;exact a
theorem Inv.stkFree(I:Inv X pins σ H s): ∀b∈frs X.stack,H b=none:=λb hb=>by
 rcases aL.mp (I.stkSub b hb) with e|hb
 ·rw[e];exact I.free
 ·obtain⟨_,o,ho,_⟩:=I.ok.funs.mem hb;exact I.base.free b o ho (I.ok.frf b hb) λz=>I.ok.exfs b z hb
theorem Inv.step{g':Array GenState}{d':Drawn}(I:Inv X pins σ H s)(j: ∀b∈ch,(b∈X.ex\/X.s₀.heap.objs.size <=b)/\b≠X.env.locals/\(∀x c,X.env.cells.lookup x=some c->c≠b)/\ ∀p∈X.pn++pins,p.1≠b)(keep: ∀b o,b≠X.env.locals->b∉X.fs->b∉ch->s.heap.get? b=some o->H b=none->h'.get? b=some o)(slot: ∀b o,b≠X.env.locals->b∈X.fs->b∉ch->s.heap.get? b=some o->H b=none->∃sl,h'.get? b=some {o with slots:=sl})(free: ∀b o,b∉ch->s.heap.get? b=some o->H b=none->H' b=none)(there: ∀b o,b∉ch->s.heap.get? b=some o->∃o',h'.get? b=some o')(tups: ∀b xs,H b=some (.tup xs)->H' b=some (.tup xs))(frzs: ∀b o u,H b=some (.frz o u)->H' b=some (.frz o u))(tbls: ∀b ps,H b=some (.tbl ps)->∃E,H' b=some (.tbl (ps++E)))(ns: ∀m,s.heap.Ns X.env.locals m->h'.Ns X.env.locals m)(hok:HOk X.prog X.w H' h')(O:gx g'):
  Inv X pins σ H' {s with heap:=h',gens:=g',drawn:=d',toks:=t'}:=by
 have C: ∀b o,X.s₀.heap.get? b=some o->b≠X.env.locals:=λb o e=>aI (a9 (ay e) I.ok.above)
 have t: ∀b o,X.s₀.heap.get? b=some o->b∉X.ex->b∉ch:=λb o e hx A=>by
  rcases (j b A).1 with z|z
  ·exact hx z
  ·exact absurd (a9 (ay e) z) (cG _)
 have h: ∀x c,X.env.cells.lookup x=some c->∀v,s.heap.IsCell c v->h'.IsCell c v:=λx c e v ⟨o,ho,hd⟩=>by
  have a:c∉ch:=λz=>(j c z).2.2.1 x c e rfl
  by_cases J:c∈X.fs
  ·obtain⟨sl,q⟩:=slot c o (I.cne x c e) J a ho (I.freeC x c e);exact⟨_,q,hd⟩
  ·exact⟨o,keep c o (I.cne x c e) J a ho (I.freeC x c e),hd⟩
 refine⟨I.ok,I.os,O,⟨λb o e n A hx=>?_,λb o e n A hx=>?_,λb o e n hx=>?_,λb o e hx=>?_,λb xs e=>tups b xs (I.base.tups b xs e),λb o xs e=>frzs b o xs (I.base.frzs b o xs e),λb ps e=>?_⟩,?_,λx c e=>?_,?_,λx c e=>?_,λp K=>?_,hok,I.len⟩
 ·exact keep b o (C b o e) A (t b o e hx) (I.base.keep b o e n A hx) (I.base.free b o e n hx)
 ·obtain⟨sl,y⟩:=I.base.slot b o e n A hx;obtain⟨F,D⟩:=slot b _ (C b o e) A (t b o e hx) y (I.base.free b o e n hx);exact⟨F,D⟩
 ·obtain⟨o',y⟩:=I.base.there b o e hx;exact free b o' (t b o e hx) y (I.base.free b o e n hx)
 ·obtain⟨o',y⟩:=I.base.there b o e hx;exact there b o' (t b o e hx) y
 ·obtain⟨P,y⟩:=I.base.tbls b ps e;obtain⟨M,D⟩:=tbls b _ y;exact⟨P++M,by rw[D,Array.append_assoc]⟩
 ·obtain⟨m,hn,Q⟩:=I.loc;refine⟨m,ns m hn,λi x v y D N=>?_⟩;obtain⟨u,r,l⟩:=Q i x v y D N;refine⟨u,r,?_⟩;rcases l with l|⟨k,c,e,z⟩
  ·exact .inl l
  ·exact .inr ⟨k,c,e,h x c e _ z⟩
 ·obtain⟨v,z⟩:=I.cell x c e;exact⟨v,h x c e v z⟩
 ·obtain⟨m,⟨o,_,_,ho,_⟩,_⟩:=I.loc;exact free _ o (λz=>(j _ z).2.1 rfl) ho I.free
 ·obtain⟨v,o,ho,hd⟩:=I.cell x c e;exact free c o (λz=>(j c z).2.2.1 x c e rfl) ho (I.freeC x c e)
 ·obtain⟨e,n,ne,L,d⟩:=I.pin p K;have a:p.1∉ch:=λz=>(j p.1 z).2.2.2 p K rfl
  exact⟨keep p.1 p.2 ne L a e n,free p.1 p.2 a e n,ne,L,d⟩
theorem Inv.un(I:Inv X pins σ H s)(u:Un X.fs [] H H' s.heap h')(hok:HOk X.prog X.w H' h'):Inv X pins σ H' {s with heap:=h',toks:=t'}:=by
 obtain⟨m,⟨o,es,ep,ho,r⟩,_⟩:=id I.loc;obtain⟨q,k⟩:=u.any ho I.free (by simp)
 exact I.step (g':=s.gens) (d':=s.drawn) (ch:=[]) (λ_ z=>nomatch z) (λb o _ c _ e n=>u.keep b o e n c (by simp)) (λb o _ c _ e n=>u.slot b o e n c (by simp)) (λb o _ e n=>u.free b o e n (by simp)) (λb o _ e=>u.there b o e (by simp)) u.tups u.frzs u.tbls (λl hm=>by
  obtain⟨p,d,h,a,j⟩:=hm;rw[ho]at a;cases a
  exact⟨_,d,h,k,j⟩) hok I.bare
theorem Inv.call{g':Array GenState}{d':Drawn}(I:Inv X pins σ H s)(u:Un (frs X.stack) ch H H' s.heap h')(hok:HOk X.prog X.w H' h')(q:gx g')(d: ∀b∈ch,(b∈X.ex\/X.s₀.heap.objs.size <=b)/\b≠X.env.locals/\(∀x c,X.env.cells.lookup x=some c->c≠b)/\ ∀p∈X.pn++pins,p.1≠b):
  Inv X pins σ H' {s with heap:=h',gens:=g',drawn:=d',toks:=t'}:=by
 obtain⟨m,⟨o,es,ep,ho,r⟩,_⟩:=id I.loc;obtain⟨A,j⟩:=u.any ho I.free λz=>(d _ z).2.1 rfl
 exact I.step (ch:=ch) d (λb o j v a e n=>u.keep b o e n (λz=>(aL.mp (I.stkSub b z)).elim j v) a) (λb o _ _ a e n=>u.any e n a) (λb o a e n=>u.free b o e n a) (λb o a e=>u.there b o e a) u.tups u.frzs u.tbls (λy hm=>by
  obtain⟨C,k,l,h,t⟩:=hm;rw[ho]at h;cases h
  exact⟨_,k,l,j,t⟩) hok q
theorem Inv.turned{a:Addr}(I:Inv X pins σ H s)(k: ∀b o,b≠a->s.heap.get? b=some o->h'.get? b=some o)(hn:H a=none)(j:a≠X.env.locals)(w:a∈X.ex\/X.s₀.heap.objs.size <=a)(l: ∀x c,X.env.cells.lookup x=some c->c≠a)(y: ∀p∈X.pn++pins,p.1≠a):Inv X pins σ H {s with heap:=h',toks:=t'}:=by
 have h: ∀b u,H b=some u->b≠a:=λb u e z=>by rw[z,hn]at e;cases e
 refine I.step (g':=s.gens) (d':=s.drawn) (ch:=[a]) (λb t=>?_) (λb o _ _ d e _=>k b o (λz=>d (by simp[z])) e) (λb o _ _ d e _=>⟨o.slots,k b o (λz=>d (by simp[z])) e⟩) (λ_ _ _ _ n=>n)
  (λb o d e=>⟨o,k b o (λz=>d (by simp[z])) e⟩) (λ_ _ e=>e) (λ_ _ _ e=>e) (λb ps e=>⟨#[],by rw[e];simp⟩) (λm hm=>?_) (λb u e=>?_) I.bare
 ·have e:b=a:=by simpa using t
  subst e;exact⟨w,j,l,y⟩
 ·obtain⟨o,es,ep,ho,r⟩:=hm;exact⟨o,es,ep,k _ o (bu j) ho,r⟩
 ·refine(I.hok b u e).stay (λc v d q=>k c v ?_ q) (λ_ q=>q) λ_ _ q=>q
  rcases d with z|z
  ·rw[z];exact h b u e
  ·exact h c _ z
theorem Inv.tok(I:Inv X pins σ H s)(t:Nat):Inv X pins σ H {s with toks:=t}:=I.un (h':=s.heap) (t':=t) Un.refl I.hok
theorem Inv.kept(I:Inv X pins σ H s)(k: ∀b u,s.heap.get? b=some u->h'.get? b=some u):Inv X pins σ H {s with heap:=h',toks:=t'}:=I.un (Un.kept k) (I.hok.kept k)
theorem Inv.laid{a:Addr}{o:HO}(I:Inv X pins σ H s)(k: ∀b u,s.heap.get? b=some u->h'.get? b=some u)(c:s.heap.objs.size <=a)(new:km X.prog X.w (upd H a o) h' a o):
  Inv X pins σ (upd H a o) {s with heap:=h',toks:=t'}:=I.un (Un.laid k c (I.hok.fresh c)) (I.hok.laid k c new)
theorem Inv.write{x e:Addr}{o:HO}(I:Inv X pins σ H s)(c:Mut (H x))(d:e=x\/H e=some (.own x))(k: ∀b u,b≠e->s.heap.get? b=some u->h'.get? b=some u)(a: ∃u,h'.get? e=some u)(new:km X.prog X.w (upd H x o) h' x o):Inv X pins σ (upd H x o) {s with heap:=h',toks:=t'}:=I.un (Un.write c d k a) (I.hok.write c d k a new)
theorem Inv.pins_of{a:List (Addr×Obj)}(I:Inv X pins σ H s)(h: ∀p∈a,s.heap.get? p.1=some p.2/\H p.1=none/\p.1≠X.env.locals/\p.1∉X.fs/\ ∀v,p.2.data≠ .cell v):Inv X a σ H s:=
 ⟨I.ok,I.os,I.bare,I.base,I.loc,I.cell,I.free,I.freeC,λp b=>(aS.mp b).elim (λz=>I.pin p (dh _ z)) (h p),I.hok,I.len⟩
theorem al8{N:List Str}(d:N.Nodup){j:Nat}(a:N[i]?=some x)(b:N[j]?=some x):i=j:=by
 obtain⟨k,c⟩:=am.mp a;obtain⟨h,e⟩:=am.mp b;exact(List.getElem_inj d).mp (c.trans e.symm)
theorem afk{v:V}(I:Inv X pins σ H s)(hN:X.N.Nodup)(P:X.N[i]?=some x)(hx:Loc X.env.scope x)(r:RelV v u)(h: ∀s',Inv X pins (σ.set i (some v)) H s'->(∃a,bX a s.heap s'.heap/\(a=X.env.locals\/X.env.cells.lookup x=some a))->Q () s')(hf:X.fn x=true\/X.env.scope.names.lookup x=some .local:=by first|exact .inl rfl|exact .inr rfl|assumption):wpAny M A (storeName X.env x u) Q E s:=by
 obtain⟨m,hn,hl⟩:=id I.loc;have W:(X.env.scope.kind==.class||(X.env.scope.kind==.module&&X.env.locals !=X.env.globals))=false:=by rw[I.ok.kind];rfl
 have F:i < σ.length:=by rw[I.len];exact(am.mp P).1
 have cne:=I.cne;have t: ∀{a:Addr} {h':Heap},(∃o,s.heap.get? a=some o/\H a=none)->bX a s.heap h'->HOk X.prog X.w H h':=λ{a h'} ha hs b ob e=>by
  obtain⟨_,_,C⟩:=ha;refine(I.hok b ob e).stay (λc Z hc q=>(hs.2 c ?_).trans q) (λ_ q=>q) λ_ _ q=>q
  rintro rfl;rcases hc with rfl|hc
  ·rw[C]at e;cases e
  ·rw[C]at hc;cases hc
 rcases hx with hk|hk
 ·refine wpAny_storeName_local hk hn (λh' hn' hs=>?_) W;obtain⟨oL,_,_,hoL,_⟩:=id hn;refine h _ ⟨I.ok,I.os,I.bare,⟨λb o e n L hx=>?_,λb o e n L hx=>?_,I.base.free,λb o e hx=>?_,I.base.tups,I.base.frzs,I.base.tbls⟩,⟨_,hn',λj y v' l D e3=>?_⟩,λy c e=>?_,I.free,I.freeC,λp hp=>?_,t ⟨oL,hoL,I.free⟩ hs,by simpa using I.len⟩ ⟨_,hs,.inl rfl⟩
  ·exact(hs.2 b (aI (a9 (ay e) I.ok.above))).trans (I.base.keep b o e n L hx)
  ·obtain⟨sl,l⟩:=I.base.slot b o e n L hx;exact⟨sl,(hs.2 b (aI (a9 (ay e) I.ok.above))).trans l⟩
  ·obtain⟨o',l⟩:=I.base.there b o e hx;exact⟨o',(hs.2 b (aI (a9 (ay e) I.ok.above))).trans l⟩
  ·by_cases K:j=i
   ·subst K;rw[P]at l;cases l;rw[aR F]at D;cases D;exact⟨u,r,.inl ⟨hk,by simp⟩⟩
   ·rw[aF (bu K)]at D;obtain⟨u',r',q⟩:=hl j y v' l D e3;refine⟨u',r',?_⟩;rcases q with ⟨k,e⟩|⟨k,c,e,z⟩
    ·refine .inl ⟨k,?_⟩;have:y≠x:=λe=>K (al8 hN l (e▸P))
     simp[this,e]
    ·exact .inr ⟨k,c,e,z.sameBut hs (cne y c e)⟩
  ·obtain⟨Z,z⟩:=I.cell y c e;exact⟨Z,z.sameBut hs (cne y c e)⟩
  ·obtain⟨e,n,ne,nf,d⟩:=I.pin p hp;exact⟨(hs.2 p.1 ne).trans e,n,ne,nf,d⟩
 ·have J:X.fn x=true:=by
   rcases hf with z|z
   ·exact z
   ·rw[z]at hk;cases hk
  obtain⟨c,hc⟩:=I.ok.has x (.inl hk);obtain⟨Z,z⟩:=I.cell x c hc;refine wpAny_storeName_cell I.ok.kind hk hc z (λh' S hs=>?_);obtain⟨oc,Y,U⟩:=id z;refine h {s with heap:=h'} ⟨I.ok,I.os,I.bare,⟨λb o e n L hx=>?_,λb o e n L hx=>?_,I.base.free,λb o e hx=>?_,I.base.tups,I.base.frzs,I.base.tbls⟩,⟨m,hn.sameBut hs (bu (cne x c hc)),λj y v' l D e3=>?_⟩,λy c' e=>?_,I.free,I.freeC,λp hp=>?_,t ⟨oc,Y,I.freeC x c hc⟩ hs,by simpa using I.len⟩ ⟨c,hs,.inr hc⟩
  ·exact(hs.2 b (aI (a9 (ay e) (I.ok.cab x c J hc)))).trans (I.base.keep b o e n L hx)
  ·obtain⟨sl,l⟩:=I.base.slot b o e n L hx;exact⟨sl,(hs.2 b (aI (a9 (ay e) (I.ok.cab x c J hc)))).trans l⟩
  ·obtain⟨o',l⟩:=I.base.there b o e hx;exact⟨o',(hs.2 b (aI (a9 (ay e) (I.ok.cab x c J hc)))).trans l⟩
  ·by_cases K:j=i
   ·subst K;rw[P]at l;cases l;rw[aR F]at D;cases D;exact⟨u,r,.inr ⟨.inl hk,c,hc,S⟩⟩
   ·rw[aF (bu K)]at D;obtain⟨u',r',q⟩:=hl j y v' l D e3;refine⟨u',r',?_⟩;rcases q with q|⟨k,c',e,z'⟩
    ·exact .inl q
    ·refine .inr ⟨k,c',e,z'.sameBut hs ?_⟩;rintro rfl;exact K (al8 hN l (I.ok.inj _ _ _ e hc▸P))
  ·by_cases O:c'=c
   ·subst O;exact⟨_,S⟩
   ·obtain⟨w2,z2⟩:=I.cell y c' e;exact⟨w2,z2.sameBut hs O⟩
  ·obtain⟨e,n,ne,nf,d⟩:=I.pin p hp;refine⟨(hs.2 p.1 ?_).trans e,n,ne,nf,d⟩;intro q;rw[q,Y]at e;have q':oc=p.2:=bv e;exact d Z (by rw[←q'];exact U)
theorem ad1{v:V}(I:Inv X pins σ H s)(b:X.N.Nodup)(d:X.N[i]?=some x)(hx:Loc X.env.scope x)(r:RelV v u)(h: ∀s',Inv X pins (σ.set i (some v)) H s'->Q () s')(c:X.fn x=true\/X.env.scope.names.lookup x=some .local:=by first|exact .inl rfl|exact .inr rfl|assumption):wpAny M A (storeName X.env x u) Q E s:=
 afk I b d hx r (λs' a _=>h s' a) c
theorem Inv.call'{s':af}(I:Inv X pins σ H s)(ho:s'.os=s.os)(u:Un (frs X.stack) ch H H' s.heap s'.heap)(hok:HOk X.prog X.w H' s'.heap)(h:gx s'.gens)(a: ∀b∈ch,(b∈X.ex\/X.s₀.heap.objs.size <=b)/\b≠X.env.locals/\(∀x c,X.env.cells.lookup x=some c->c≠b)/\ ∀p∈X.pn++pins,p.1≠b):Inv X pins σ H' s':=by
 obtain⟨h',g',d',t',d⟩:=s';have e:d=s.os:=ho;subst e;exact I.call (g':=g') (t':=t') (d':=d') u hok h a
end
abbrev XK:=ae->Option Addr->Hp->Prop
abbrev St:=List (Option V)
abbrev SK:=St->XK
abbrev VK:=V->Hp->Prop
abbrev TE:=St->Hp->VK->Prop
abbrev TT:=St->Hp->(Bool->Hp->Prop)->Prop
abbrev TA:=St->Hp->(List V->Hp->Prop)->Prop
structure Ends where
 nx:St->Hp->Prop
 rt:VK
 bk:St->Hp->Prop:=λ_ _=>False
 ct:St->Hp->Prop:=λ_ _=>False
abbrev TS:=Ends->St->Hp->Prop
def EP(X:Cx)(a:List (Addr×Obj))(σ:St)(Q:VK)(u:ae)(s':af):Prop:= ∃v H',Inv X a σ H' s'/\RelV v u/\Q v H'
def TP(X:Cx)(a:List (Addr×Obj))(σ:St)(Q:Bool->Hp->Prop)(b:Bool)(s':af):Prop:= ∃H',Inv X a σ H' s'/\Q b H'
def AP(X:Cx)(a:List (Addr×Obj))(σ:St)(Q:List V->Hp->Prop)(b:List ae)(s':af):Prop:= ∃vs H',Inv X a σ H' s'/\jl vs b/\Q vs H'
def SP(X:Cx)(b:List (Addr×Obj))(D:Ends)(f:Flow)(s':af):Prop:=
 match f with
 |.next=>∃a H',Inv X b a H' s'/\D.nx a H'
 |.brk=>∃a H',Inv X b a H' s'/\D.bk a H'
 |.cont=>∃a H',Inv X b a H' s'/\D.ct a H'
 |.ret u=>∃v a H',Inv X b a H' s'/\RelV v u/\D.rt v H'
structure PE (X:Cx) (e:Expr) (t:TE):Prop where
 run: ∀(pins:List (Addr×Obj)) (s:af) (σ:St) (H:Hp) (Q:VK),Inv X pins σ H s->t σ H Q->wpAny (model X.prog X.w) X.A (eval e X.env) (EP X pins σ Q) X.xe s
instance {X:Cx} {e:Expr} {t:TE}:CoeFun (PE X e t) λ_=>∀(pins:List (Addr×Obj)) (s:af) (σ:St) (H:Hp) (Q:VK),Inv X pins σ H s->t σ H Q->wpAny (model X.prog X.w) X.A (eval e X.env) (EP X pins σ Q) X.xe s:=⟨PE.run⟩
structure PT (X:Cx) (e:Expr) (t:TT):Prop where
 run: ∀(pins:List (Addr×Obj)) (s:af) (σ:St) (H:Hp) (Q:Bool->Hp->Prop),Inv X pins σ H s->t σ H Q->wpAny (model X.prog X.w) X.A (isTrue e X.env (eval e X.env)) (TP X pins σ Q) X.xe s
instance {X:Cx} {e:Expr} {t:TT}:CoeFun (PT X e t) λ_=>∀(pins:List (Addr×Obj)) (s:af) (σ:St) (H:Hp) (Q:Bool->Hp->Prop),Inv X pins σ H s->t σ H Q->wpAny (model X.prog X.w) X.A (isTrue e X.env (eval e X.env)) (TP X pins σ Q) X.xe s:=⟨PT.run⟩
structure PW (X:Cx) (e:Expr) (t:TT):Prop where
 run: ∀(whole:Sem ae) (pins:List (Addr×Obj)) (s:af) (σ:St) (H:Hp) (Q:Bool->Hp->Prop),Inv X pins σ H s->t σ H Q->wpAny (model X.prog X.w) X.A (isTrue e X.env whole) (TP X pins σ Q) X.xe s
instance {X:Cx} {e:Expr} {t:TT}:CoeFun (PW X e t) λ_=>∀(whole:Sem ae) (pins:List (Addr×Obj)) (s:af) (σ:St) (H:Hp) (Q:Bool->Hp->Prop),Inv X pins σ H s->t σ H Q->wpAny (model X.prog X.w) X.A (isTrue e X.env whole) (TP X pins σ Q) X.xe s:=⟨PW.run⟩
theorem PW.pt{X:Cx}{t:TT}(h:PW X e t):PT X e t:=⟨h _⟩
structure PA (X:Cx) (es:List Expr) (t:TA):Prop where
 run: ∀(pos:Pos) (pins:List (Addr×Obj)) (s:af) (σ:St) (H:Hp) (Q:List V->Hp->Prop),Inv X pins σ H s->t σ H Q->wpAny (model X.prog X.w) X.A (spliced (backTo pos (starEach es X.env))) (AP X pins σ Q) X.xe s
instance {X:Cx} {es:List Expr} {t:TA}:CoeFun (PA X es t) λ_=>∀(pos:Pos) (pins:List (Addr×Obj)) (s:af) (σ:St) (H:Hp) (Q:List V->Hp->Prop),Inv X pins σ H s->t σ H Q->wpAny (model X.prog X.w) X.A (spliced (backTo pos (starEach es X.env))) (AP X pins σ Q) X.xe s:=⟨PA.run⟩
structure PS (X:Cx) (st:Stmt) (t:TS):Prop where
 run: ∀(pins:List (Addr×Obj)) (s:af) (σ:St) (H:Hp) (D:Ends),Inv X pins σ H s->t D σ H->wpAny (model X.prog X.w) X.A (exec st X.env) (SP X pins D) X.xe s
instance {X:Cx} {st:Stmt} {t:TS}:CoeFun (PS X st t) λ_=>∀(pins:List (Addr×Obj)) (s:af) (σ:St) (H:Hp) (D:Ends),Inv X pins σ H s->t D σ H->wpAny (model X.prog X.w) X.A (exec st X.env) (SP X pins D) X.xe s:=⟨PS.run⟩
structure PSs (X:Cx) (st:List Stmt) (t:TS):Prop where
 run: ∀(pins:List (Addr×Obj)) (s:af) (σ:St) (H:Hp) (D:Ends),Inv X pins σ H s->t D σ H->wpAny (model X.prog X.w) X.A (execs st X.env) (SP X pins D) X.xe s
instance {X:Cx} {st:List Stmt} {t:TS}:CoeFun (PSs X st t) λ_=>∀(pins:List (Addr×Obj)) (s:af) (σ:St) (H:Hp) (D:Ends),Inv X pins σ H s->t D σ H->wpAny (model X.prog X.w) X.A (execs st X.env) (SP X pins D) X.xe s:=⟨PSs.run⟩
theorem thn{α:Type}{t:Sem α}{Q b:α->af->Prop}(h:wpAny M A t Q E s)(c: ∀a s,Q a s->b a s):wpAny M A t b E s:=bf h c λ_ _ x=>x
section
variable{X:Cx}
noncomputable def ayj(i:Nat):TE:=λσ H Q=>∃v,σ[i]?=some (some v)/\Q v H
noncomputable def tC(v:V):TE:=λ_ H Q=>Q v H
theorem at8(o:X.N[i]?=some x)(n:Vis X.env.scope x)(hd:(x==("__debug__":Str))=false:=by decide)(d:(x==("__classdict__":Str))=false:=by decide):PE X (.Name x pos) (ayj i):=by
 (first|refine⟨?_⟩|skip);intro b s σ H Q I h
 obtain⟨v,e,h⟩:=h;obtain⟨m,hn,k⟩:=I.loc;obtain⟨u,r,l⟩:=k i x v o e n;have fin:EP X b σ Q u s:=⟨v,H,I,r,h⟩;rcases l with ⟨hk,hm⟩|⟨hk,c,j,a⟩
 ·exact wpAny_Name (wpAny_loadName_local I.ok.kind hk hn hm fin) hd
 ·rcases hk with hk|hk
  ·exact wpAny_Name (wpAny_loadName_cell I.ok.kind hk j a fin) hd
  ·exact wpAny_Name (wpAny_loadName_free I.ok.kind hk j a fin d) hd
theorem ati{i j pos}:PE X (.Constant (.int i) j pos) (tC (.int i)):=.mk <|λ_ _ _ H _ I h=>wpAny_Constant_int ⟨.int i,H,I.tok _,⟨_,rfl⟩,h⟩
theorem az7{b j pos}:PE X (.Constant (.bool b) j pos) (tC (.bl b)):=.mk <|λ_ _ _ H _ I h=>Constant_bool ⟨.bl b,H,I,rfl,h⟩
theorem asg{j pos}:PE X (.Constant .none j pos) (tC .non):=.mk <|λ_ _ _ H _ I h=>Constant_none ⟨.non,H,I,rfl,h⟩
theorem avd{x j pos}:PE X (.Constant (.str x) j pos) (tC (.str x)):=.mk <|λ_ _ _ H _ I h=>Calls.Constant_str ⟨.str x,H,I.tok _,⟨_,rfl⟩,h⟩
def Gl(X:Cx)(x:Str):Prop:=X.env.kindOf x=some .globalImplicit
theorem aox{σ:St}{H:Hp}{Q:ae->af->Prop}(I:Inv X pins σ H s)(a:Gl X x)(hm:X.mg x=some u)(h:Q u s)(hd:(x==("__debug__":Str))=false:=by decide):wpAny (model X.prog X.w) X.A (eval (.Name x pos) X.env) Q E s:=
 jB I.ok.kind a (Calls.loadGlobal_global (by rw[I.ok.glob];exact I.mod.glob.keeps I.bk) hm h) hd
theorem ae0{σ:St}{H:Hp}{Q:ae->af->Prop}(I:Inv X pins σ H s)(d:Gl X x)(hm:X.mg x=none)(b:bK x=some u)(h:Q u s)(hn:x≠"__name__":=by decide)(hd:(x==("__debug__":Str))=false:=by decide):wpAny (model X.prog X.w) X.A (eval (.Name x pos) X.env) Q E s:=by
 obtain⟨e,c,a⟩:=I.mod.blt;exact jB I.ok.kind d (Calls.loadGlobal_builtin (by rw[I.ok.glob];exact I.mod.glob.keeps I.bk) hm (by rw[I.ok.blt];exact c.keeps I.bk) ((a x hn).trans b) h) hd
variable{a b:Expr}{ta tb:TE}{pos:Pos}
variable{tA tB':TT}{je:List Expr}
noncomputable def a3j(t u:TT):TT:=λσ H Q=>t σ H λc H1=>if c=true then u σ H1 Q else Q false H1
noncomputable def tOr(t u:TT):TT:=λσ H Q=>t σ H λc H1=>if c=true then Q true H1 else u σ H1 Q
noncomputable def a4p(t:TT):TT:=λσ H Q=>t σ H λc H1=>Q (!c) H1
theorem a0x(d:PT X a tA):PW X (.BoolOp .And [a] pos) tA:=by
 (first|refine⟨?_⟩|skip);intro j b s σ H Q I h
 refine isTrue_and (thn (d b s σ H Q I h) λc k e=>?_);cases c with
 |true=>exact isTrue_and_nil e
 |false=>exact e
theorem a6g(d:PT X a tA):PW X (.BoolOp .Or [a] pos) tA:=by
 (first|refine⟨?_⟩|skip);intro j b s σ H Q I h
 refine isTrue_or (thn (d b s σ H Q I h) λc k e=>?_);cases c with
 |false=>exact isTrue_or_nil e
 |true=>exact e
theorem a6d(j:PT X a tA)(k:PW X (.BoolOp .And (b::je) pos) tB'):PW X (.BoolOp .And (a::b::je) pos) (a3j tA tB'):=by
 (first|refine⟨?_⟩|skip);intro l d s σ H Q I h
 refine isTrue_and (thn (j d s σ H _ I h) λc m ⟨e,I1,q1⟩=>?_);cases c with
 |true=>exact k l d m σ e Q I1 q1
 |false=>exact⟨e,I1,q1⟩
theorem a8d(j:PT X a tA)(k:PW X (.BoolOp .Or (b::je) pos) tB'):PW X (.BoolOp .Or (a::b::je) pos) (tOr tA tB'):=by
 (first|refine⟨?_⟩|skip);intro l d s σ H Q I h
 refine isTrue_or (thn (j d s σ H _ I h) λc m ⟨e,I1,q1⟩=>?_);cases c with
 |true=>exact⟨e,I1,q1⟩
 |false=>exact k l d m σ e Q I1 q1
theorem a3h(d:PT X a tA):PT X (.UnaryOp .Not a pos) (a4p tA):=by
 (first|refine⟨?_⟩|skip);intro b s σ H Q I h
 exact isTrue_not (d b s σ H (λc e=>Q (!c) e) I h)
noncomputable def tIf(t:TT)(a tb:TE):TE:=λσ H Q=>t σ H λc H1=>if c=true then a σ H1 Q else tb σ H1 Q
theorem avt{c:Expr}(l:PT X c tA)(m:PE X a ta)(n:PE X b tb):PE X (.IfExp c a b pos) (tIf tA ta tb):=by
 (first|refine⟨?_⟩|skip);intro e s σ H Q I h
 refine wpAny_IfExp (thn (l e s σ H _ I h) λd k ⟨j,I1,q1⟩=>?_);cases d with
 |true=>exact m e k σ j Q I1 q1
 |false=>exact n e k σ j Q I1 q1
end
def SqL(K:ak)(H:Hp)(a:Addr)(xs:List V):Prop:=
 Rd H a (.lst xs)\/
  ∃(o:Obj) (its:Array ae) (n:Nat),K.lookup a=some o/\o.cls=.type "list"/\o.dict=none/\o.data=.seq its n/\its.size <=sizeLine/\jl xs its.toList
def SqT(K:ak)(H:Hp)(a:Addr)(xs:List V):Prop:=
 Rd H a (.tup xs)\/
  ∃(o:Obj) (its:Array ae) (n:Nat),K.lookup a=some o/\o.cls=.type "tuple"/\o.data=.seq its n/\its.size <=sizeLine/\jl xs its.toList
noncomputable def a9k:ae->Option V
 |.none=>some .non
 |.bool b=>some (.bl b)
 |.int i _=>some (.int i)
 |.str x _=>some (.str x)
 |.bytes b _=>some (.byt b)
 |.float b _=>some (.flt b)
 |.ref a=>some (.ref a)
 |.type n=>some (.ty n)
 |_=>none
theorem RelV.abs{x:V}(r:RelV x u):a9k u=some x:=by
 cases x with
 |non=>cases r;rfl
 |bl _=>cases r;rfl
 |int _=>obtain⟨t,rfl⟩:=r;rfl
 |str _=>obtain⟨t,rfl⟩:=r;rfl
 |byt _=>obtain⟨t,rfl⟩:=r;rfl
 |flt _=>obtain⟨t,rfl⟩:=r;rfl
 |ref _=>cases r;rfl
 |ty _=>cases r;rfl
theorem RelV.inj{x y:V}(r:RelV x u)(q:RelV y u):x=y:=bv (r.abs.symm.trans q.abs)
theorem jl.inj: ∀{xs a:List V} {b:List ae},jl xs b->jl a b->xs=a
 |_,_,_,.nil,.nil=>rfl
 |_,_,_,.cons r t,.cons c t'=>by rw[r.inj c,jl.inj t t']
section
variable{X:Cx}{pins:List (Addr×Obj)}{σ:St}{H:Hp}{s:af}{a:Addr}{xs ys:List V}
theorem SqL.of(h:H a=some (.lst xs)):SqL K H a xs:=.inl (.inl h)
theorem SqT.of(h:H a=some (.tup xs)):SqT K H a xs:=.inl (.inl h)
theorem Inv.list(I:Inv X pins σ H s)(h:SqL X.K H a xs): ∃its:List ae,jl xs its/\PlainL s.heap a its.toArray/\xs.length <=sizeLine:=by
 rcases h with h|⟨o,its,n,hk,b,hd,hs,hz,r⟩
 ·obtain⟨z,its,n,r,e⟩:=h.ok I.hok;exact⟨its,r,⟨_,n,e,rfl,rfl,rfl⟩,z⟩
 ·refine⟨its.toList,r,⟨o,n,I.kIn a o hk,b,hd,by simpa using hs⟩,?_⟩;have e:=r.length;simp only[b8]at e;lia
theorem Inv.tuple(I:Inv X pins σ H s)(h:SqT X.K H a xs): ∃its:List ae,jl xs its/\IsTup s.heap a its.toArray/\xs.length <=sizeLine:=by
 rcases h with h|⟨o,its,n,hk,b,hs,hz,r⟩
 ·obtain⟨z,its,r,p⟩:=h.ok I.hok;exact⟨its,r,p.tup,z⟩
 ·refine⟨its.toList,r,⟨o,I.kIn a o hk,b,n,by simpa using hs⟩,?_⟩;have e:=r.length;simp only[b8]at e;lia
theorem Inv.list_inj(I:Inv X pins σ H s)(h:SqL X.K H a xs)(h':SqL X.K H a ys):xs=ys:=by
 obtain⟨b,r,⟨o,n,e,_,_,d⟩,_⟩:=I.list h;obtain⟨its',k,⟨l,m,c,_,_,d'⟩,_⟩:=I.list h';rw[e]at c;cases c;rw[d]at d';injection d' with j _
 have:b=its':=by simpa using congrArg Array.toList j
 subst this;exact r.inj k
theorem Inv.tuple_inj(I:Inv X pins σ H s)(h:SqT X.K H a xs)(h':SqT X.K H a ys):xs=ys:=by
 obtain⟨b,r,⟨o,e,_,n,d⟩,_⟩:=I.tuple h;obtain⟨its',k,⟨l,c,_,m,d'⟩,_⟩:=I.tuple h';rw[e]at c;cases c;rw[d]at d';injection d' with j _
 have:b=its':=by simpa using congrArg Array.toList j
 subst this;exact r.inj k
end
section
variable{X:Cx}{st:Stmt}{je:List Stmt}{t u:TS}{e:Expr}{te:TE}{pos:Pos}
noncomputable def a7p:TS:=λD σ H=>D.nx σ H
noncomputable def a3d(t u:TS):TS:=λD σ H=>t {D with nx:=u D} σ H
theorem a10:PSs X [] a7p:=.mk <|λ_ _ σ H _ I h=>kU ⟨σ,H,I,h⟩
theorem ay6(d:PS X st t)(c:PSs X je u):PSs X (st::je) (a3d t u):=by
 (first|refine⟨?_⟩|skip);intro a s σ H D I h
 refine wpAny_execs_cons (thn (d a s σ H {D with nx:=u D} I h) λf j q=>?_);cases f with
 |next=>
  obtain⟨b,H',e,q⟩:=q;exact c a j b H' D e q
 |ret v=>exact q
 |brk=>exact q
 |cont=>exact q
theorem a2u(b:PS X st t):PSs X [st] t:=by
 (first|refine⟨?_⟩|skip);intro a s σ H D I h
 refine wpAny_execs_cons (thn (b a s σ H D I h) λf c q=>?_);cases f with
 |next=>exact kU q
 |ret v=>exact q
 |brk=>exact q
 |cont=>exact q
theorem Inv.quiet{σ:St}{H:Hp}(I:Inv X pins σ H s):interactive X.env=false:=by simp[interactive,I.ok.kind]
noncomputable def a74(te:TE):TS:=λD σ H=>te σ H λ_ H1=>D.nx σ H1
theorem a01(c:PE X e te)(hs:eS e none pos.line X.env=pure false:=by rfl):PS X (.Expr e pos) (a74 te):=by
 (first|refine⟨?_⟩|skip);intro a s σ H D I h
 exact wpAny_Expr_any (thn (c a s σ H _ I h) λv j ⟨x,b,I1,d,q1⟩=>⟨σ,b,I1,q1⟩) I.quiet hs
noncomputable def a9l(te:TE):TS:=λD σ H=>te σ H D.rt
theorem a3r(d:PE X e te):PS X (.Return (some e) pos) (a9l te):=by
 (first|refine⟨?_⟩|skip);intro a s σ H D I h
 exact wpAny_Return_some (thn (d a s σ H _ I h) λv j ⟨x,c,I1,b,q1⟩=>⟨x,σ,c,I1,b,q1⟩)
noncomputable def a8y(c:TT)(t u:TS):TS:=λD σ H=>c σ H λb H1=>if b=true then t D σ H1 else u D σ H1
theorem a7c{c:Expr}{a b:List Stmt}{k:TT}(o:PT X c k)(m:PSs X a t)(n:PSs X b u):PS X (.If c a b pos) (a8y k t u):=by
 (first|refine⟨?_⟩|skip);intro e s σ H D I h
 refine wpAny_If (thn (o e s σ H _ I h) λd l ⟨j,I1,q1⟩=>?_);cases d with
 |true=>exact m e l σ j D I1 q1
 |false=>exact n e l σ j D I1 q1
end
abbrev TG:=V->St->Hp->(St->Hp->Prop)->Prop
abbrev TGs:=List V->St->Hp->(St->Hp->Prop)->Prop
def PG(X:Cx)(a:Expr)(t:TG):Prop:=
 ∀(pins:List (Addr×Obj)) (s:af) (σ:St) (H:Hp) (v:V) (u:ae) (Q:St->Hp->Prop),Inv X pins σ H s->RelV v u->t v σ H Q ->
  wpAny (model X.prog X.w) X.A (assign a X.env u) (λ_ s'=>∃b H',Inv X pins b H' s'/\Q b H') X.xe s
def PGs(X:Cx)(ts:List Expr)(t:TGs):Prop:=
 ∀(pins:List (Addr×Obj)) (s:af) (σ:St) (H:Hp) (vs:List V) (us:List ae) (Q:St->Hp->Prop),Inv X pins σ H s->jl vs us->t vs σ H Q ->
  wpAny (model X.prog X.w) X.A (assignInOrder ((bS ts X.env).map (·.2)) us) (λ_ s'=>∃a H',Inv X pins a H' s'/\Q a H') X.xe s
abbrev aqt:=V->V->V->Hp->(Hp->Prop)->Prop
def ah2(X:Cx)(t:aqt):Prop:=
 ∀(pins:List (Addr×Obj)) (s:af) (σ:St) (H:Hp) (o i v:V) (a b u:ae) (Q:Hp->Prop),Inv X pins σ H s->RelV o a->RelV i b->RelV v u->t o i v H Q ->
  wpAny (model X.prog X.w) X.A (setItem a b u) (λ_ s'=>∃H',Inv X pins σ H' s'/\Q H') X.xe s
section
variable{X:Cx}{pos:Pos}
noncomputable def akq(i:Nat):TG:=λv σ H Q=>Q (σ.set i (some v)) H
theorem a02(c:X.N.Nodup)(e:X.N[i]?=some x)(hx:Loc X.env.scope x)(d:X.fn x=true\/X.env.scope.names.lookup x=some .local:=by first|exact .inl rfl|exact .inr rfl|assumption):PG X (.Name x pos) (akq i):=by
 (first|refine⟨?_⟩|skip);intro a s σ H v u Q I r h
 exact jM (ad1 I c e hx r (λs' b=>⟨_,H,b,h⟩) d)
noncomputable def aqd:TGs:=λvs σ H Q=>vs=[]/\Q σ H
noncomputable def aeq(t:TG)(u:TGs):TGs:=λvs σ H Q=>∃v r,vs=v::r/\t v σ H λa H'=>u r a H' Q
theorem a05:PGs X [] aqd:=by
 (first|refine⟨?_⟩|skip);intro a s σ H vs b Q I r h
 obtain⟨e,h⟩:=h;subst e;cases r;exact assignInOrder_nil ⟨σ,H,I,h⟩
theorem amh{es:List Expr}{t:TG}{u:TGs}(k:PG X e t)(j:PGs X es u)(hs:(bS (e::es) X.env).map (·.2)=assign e X.env::(bS es X.env).map (·.2):=by rfl):PGs X (e::es) (aeq t u):=by
 (first|refine⟨?_⟩|skip);intro a s σ H vs o Q I r h
 obtain⟨v,n,d,h⟩:=h;subst d;cases r with
 |cons r m=>
  rw[hs];refine assignInOrder_cons (thn (k a s σ H _ _ _ I r h) λ_ l ⟨b,c,I1,q1⟩=>?_);exact j a l b c _ _ Q I1 m q1
noncomputable def a8w(K:ak)(n:Nat)(t:TGs):TG:=λv σ H Q=>∃a xs,v=.ref a/\SqT K H a xs/\xs.length=n/\t xs σ H Q
theorem a5f{es:List Expr}{k:Nat}{t:TGs}{n:Nat}(y:X.calm=true)(h:PGs X es t)
  (hn:(bS es X.env).length=n:=by rfl) (d:(bS es X.env).findIdx? (·.1)=none:=by rfl):PG X (.Tuple es k pos) (a8w X.K n t):=by
 (first|refine⟨?_⟩|skip);intro c s σ H v u Q I r j
 obtain⟨a,xs,w,x,q,j⟩:=j;subst w;cases r;obtain⟨m,l,p,hz⟩:=I.tuple x;refine assign_Tuple_tuple (I.ok.hd y) p (by simp[hn,←q,l.length]) d λh' hx=>?_
 have I1:Inv X c σ H {s with heap:=h'}:=I.kept (t':=s.toks) λb o e=>hx b o (aI (ay e)) e
 exact h c _ σ H xs _ Q I1 (by simpa using l) j
noncomputable def ah8(to ti:TE)(t:aqt):TG:=λv σ H Q=>to σ H λo H1=>ti σ H1 λi H2=>t o i v H2 λa=>Q σ a
theorem aut{o i:Expr}{to ti:TE}{t:aqt}(ho:PE X o to)(e:PE X i ti)(hs:ah2 X t)
  (k: ∀v,assign (.Subscript o i pos) X.env v=(do
   let b←holding [v] (eval o X.env);let c←holding [v,b] (eval i X.env)
   standAt pos
   holding [v,b,c] (setItem b c v)
   release [v,b,c] []):=by intro _;rfl):PG X (.Subscript o i pos) (ah8 to ti t):=by
 (first|refine⟨?_⟩|skip);intro a s σ H v u Q I r h
 rw[k];refine ac (bg (thn (ho a s σ H _ I h) λb C ⟨x,q,I1,j,q1⟩=>?_));refine ac (bg (thn (e a C σ q _ I1 q1) λc m ⟨y,n,p,l,d⟩=>?_));refine ac (dB (ac (bg (thn (hs a m σ n x y v b c u _ p j l r d) λ_ D ⟨w,z,A⟩=>?_))));exact wpAny_release ⟨σ,w,z,A⟩
noncomputable def a57(te:TE)(g:TG):TS:=λD σ H=>te σ H λx H1=>g x σ H1 D.nx
theorem an6{te:TE}{g:TG}(l:PE X e te)(m:PG X tg g)(hs:jC [tg] e pos.line X.env=pure false:=by rfl)(b:jD [tg] e X.env=pure none:=by rfl)(k:(bS [tg] X.env).map (·.2)=[assign tg X.env]:=by rfl):PS X (.Assign [tg] e pos) (a57 te g):=by
 (first|refine⟨?_⟩|skip);intro a s σ H D I h
 refine wpAny_Assign_stores (thn (l a s σ H _ I h) λv c ⟨x,d,I1,j,q1⟩=>?_) hs b;rw[k];exact thn (m a c σ d x v _ I1 j q1) λ_ n q=>q
theorem a4w{te:TE}{a:Pos}(l:X.N.Nodup)(j:X.N[i]?=some x)(hx:Loc X.env.scope x)(n:PE X e te)(hs:eS e (some (.Name x a)) pos.line X.env=pure false:=by rfl)(m:X.fn x=true\/X.env.scope.names.lookup x=some .local:=by first|exact .inl rfl|exact .inr rfl|assumption):
  PS X (.Assign [.Name x a] e pos) (a57 te (akq i)):=by
 (first|refine⟨?_⟩|skip);intro b s σ H D I h
 refine wpAny_Assign_Name (thn (n b s σ H _ I h) λv p ⟨y,d,I1,k,q1⟩=>?_) hs;exact ad1 I1 l j hx k (λo c=>⟨_,d,c,q1⟩) m
end
structure It where
 go:Nat->Hp->Prop
 yld:Nat->Hp->V->Hp->Prop
 stop:Nat->Hp->Prop
def zt(X:Cx)(a:List (Addr×Obj))(H:Hp)(b:Addr):Prop:=
 H b=none/\b≠X.env.locals/\b∉X.fs/\(b∈X.ex\/X.s₀.heap.objs.size <=b)/\(∀x c,X.env.cells.lookup x=some c->c≠b)/\ ∀p∈X.pn++a,p.1≠b
theorem Inv.fpOk{X:Cx}{σ:St}{H H':Hp}(I:Inv X pins σ H s)(a:s.heap.objs.size <=b)(hn:H' b=none):zt X pins H' b:=by
 refine⟨hn,fy (a9 I.lt a),I.nofs a,.inr (aN I.sz a),λx c e z=>?_,λp d z=>?_⟩
 ·obtain⟨v,q⟩:=I.cell x c e;exact absurd (a9 q.lt (by rw[z];exact a)) (cG _)
 ·exact absurd (a9 (ay (I.pin p d).1) (by rw[z];exact a)) (cG _)
structure Turn (P:aP) (w:aM) (K:ak) (tg:Expr) (J:It) (fp:List Addr) (it:Addr) (tn:Nat->Heap->Prop):Prop where
 mem:it∈fp
 obj: ∀i h,tn i h->∀b∈fp,∃o,h.get? b=some o/\ ∀v,o.data≠ .cell v
 keep: ∀i h h',tn i h->(∀b∈fp,∀o,h.get? b=some o->h'.get? b=some o)->tn i h'
 item: ∀(X:Cx),X.prog=P->X.w=w->X.K=K->X.calm=true->∀(i:Nat) (pins:List (Addr×Obj)) (s:af) (σ:St) (H:Hp) (E:ae->af->Prop),Inv X pins σ H s->(∀b∈fp,zt X pins H b)->tn i s.heap->J.go i H ->
  wpAny (model P w) X.A (pyNext (.ref it)) (λr s1=>∃u,r=some u/\
   wpAny (model P w) X.A (dQ tg (.ref it) u) (λ_ s2=>∃x H',Inv X pins σ H' s2/\RelV x u/\J.yld i H x H'/\tn (i+1) s2.heap/\ ∀b∈fp,H' b=none) E s1) E s
 done: ∀(X:Cx),X.prog=P->X.w=w->X.K=K->X.calm=true->∀(i:Nat) (pins:List (Addr×Obj)) (s:af) (σ:St) (H:Hp) (E:ae->af->Prop),Inv X pins σ H s->(∀b∈fp,zt X pins H b)->tn i s.heap->J.stop i H ->
  wpAny (model P w) X.A (pyNext (.ref it)) (λr s1=>r=none/\Inv X pins σ H s1) E s
 self: ∀(A:bh) (i:Nat) (s:af) (Q:ae->af->Prop) (E:ae->af->Prop),tn i s.heap->Q (.ref it) s->wpAny (model P w) A (pyIter (.ref it)) Q E s
abbrev TI:=St->Hp->(It->Hp->Prop)->Prop
def PIE(X:Cx)(a:List (Addr×Obj))(σ:St)(h:Expr)(R:It->Hp->Prop)(c:ae)(e:af):Prop:=
 ∃(it:Addr) (fp:List Addr) (d:Nat->Heap->Prop) (J:It) (H':Hp),c=.ref it/\Inv X a σ H' e/\Turn X.prog X.w X.K h J fp it d/\d 0 e.heap/\(∀b∈fp,zt X a H' b)/\R J H'
def PI(X:Cx)(a iter:Expr)(b:TI):Prop:=
 ∀(pins:List (Addr×Obj)) (s:af) (σ:St) (H:Hp) (R:It->Hp->Prop),Inv X pins σ H s->b σ H R ->
  wpAny (model X.prog X.w) X.A (eval iter X.env) (λv c=>wpAny (model X.prog X.w) X.A (pyIter v) (PIE X pins σ a R) X.xe c) X.xe s
theorem akp{b:Addr}{o:Obj}{n:String}{vs:Array ae}(ho:s.heap.get? b=some o)(c:o.cls=.type n)(hd:o.data=.fields vs)(hn:["enumerate","zip","dict_itemiterator","dict_reverseitemiterator","odict_iterator","itertools.zip_longest","itertools.pairwise"].contains n=false)(a:Q () s):wpAny M A (dQ tg (.ref b) u) Q E s:=by
 unfold dQ;cases tg <;> first
  |exact ah a
  | (cases u <;> first
    |exact ah a
    | (refine ac (wpAny_load ho ?_)
       rw[c,hd];show wpAny M A (if (["enumerate","zip","dict_itemiterator","dict_reverseitemiterator","odict_iterator","itertools.zip_longest","itertools.pairwise"].contains n&&vs[0]?==some (rawInt _))=true then _ else _) Q E s;rw[if_neg (by intro h;rw[hn,Bool.false_and]at h;cases h)]
       exact ah a))
noncomputable def Itl(K:ak)(a:Addr):It:=
 ⟨λi H=>∃xs x,SqL K H a xs/\xs[i]?=some x,λi H x H'=>H'=H/\ ∀xs,SqL K H a xs->xs[i]?=some x,λi H=>∃xs,SqL K H a xs/\xs.length <=i⟩
noncomputable def Itt(K:ak)(a:Addr):It:=
 ⟨λi H=>∃xs x,SqT K H a xs/\xs[i]?=some x,λi H x H'=>H'=H/\ ∀xs,SqT K H a xs->xs[i]?=some x,λi H=>∃xs,SqT K H a xs/\xs.length <=i⟩
noncomputable def Itr(lo:Int)(n:Nat):It:=⟨λi _=>i < n,λi H x H'=>H'=H/\x=.int (lo+i),λi _=>n <=i⟩
theorem at3{w:aM}(a l:Addr):Turn P w K tg (Itl K a) [l] l (λi h=>h.IsListIter l a i) where
 mem:=by simp
 obj:=λi h st b m=>by
  have e:b=l:=by simpa using m
  subst e;obtain⟨o,e,c,d⟩:=st;exact⟨o,e,λv z=>by rw[d]at z;cases z⟩
 keep:=λi h h' st k=>st.at λo e=>k l (by simp) o e
 item:=by
  intro X t F N Q i j s σ H E I q st D;subst t F N;obtain⟨xs,x,r,hx⟩:=D;obtain⟨C,J,p,hz⟩:=I.list r;obtain⟨u,W,U⟩:=J.get hx;obtain⟨O,M,V,A,y,L⟩:=q l (by simp);refine lj st p.isList (x:=u) (by simpa using W) λh' n sb=>?_
  have I1:Inv X j σ H {s with heap:=h'}:=I.turned (t':=s.toks) (λb o m e=>(sb.2 b m).trans e) O M A y L;obtain⟨o,e,c,d⟩:=id n;exact⟨u,rfl,akp (s:={s with heap:=h'}) e c d (by decide) ⟨x,H,I1,U,⟨rfl,λZ S=>by rw[I.list_inj S r];exact hx⟩,n,λb m=>(q b m).1⟩⟩
 done:=by
  intro X t F N Q i j s σ H E I q st D;subst t F N;obtain⟨xs,r,hx⟩:=D;obtain⟨C,J,p,hz⟩:=I.list r;obtain⟨O,M,V,A,y,L⟩:=q l (by simp);have hl:=J.length;exact lE (I.ok.hd Q) st p.isList (by simp;lia) λh' Y=>⟨rfl,I.turned (t':=s.toks) (λb o m e=>Y b o m e) O M A y L⟩
 self:=λ_ _ _ _ _ st h=>wpAny_pyIter_listiter st h
theorem ari{w:aM}(a l:Addr):Turn P w K tg (Itt K a) [l] l (λi h=>h.IsTupleIter l a i) where
 mem:=by simp
 obj:=λi h st b n=>by
  have e:b=l:=by simpa using n
  subst e;obtain⟨o,e,c,d⟩:=st;exact⟨o,e,λv z=>by rw[d]at z;cases z⟩
 keep:=λi h h' st k=>st.at λo e=>k l (by simp) o e
 item:=by
  intro X y F N Q i j s σ H E I r st D;subst y F N;obtain⟨xs,x,t,hx⟩:=D;obtain⟨m,J,p,hz⟩:=I.tuple t;obtain⟨u,W,U⟩:=J.get hx;obtain⟨O,M,V,C,A,L⟩:=r l (by simp);refine wpAny_pyNext_tuple_item st (show s.heap.IsTuple a m.toArray from p) (x:=u) (by simpa using W) λh' q sb=>?_
  have I1:Inv X j σ H {s with heap:=h'}:=I.turned (t':=s.toks) (λb o n e=>(sb.2 b n).trans e) O M C A L;obtain⟨o,e,c,d⟩:=id q;exact⟨u,rfl,akp (s:={s with heap:=h'}) e c d (by decide) ⟨x,H,I1,U,⟨rfl,λZ S=>by rw[I.tuple_inj S t];exact hx⟩,q,λb n=>(r b n).1⟩⟩
 done:=by
  intro X y F N Q i j s σ H E I r st D;subst y F N;obtain⟨xs,t,hx⟩:=D;obtain⟨m,J,p,hz⟩:=I.tuple t;obtain⟨O,M,V,C,A,L⟩:=r l (by simp);have hl:=J.length;exact wpAny_pyNext_tuple_end (I.ok.hd Q) st (show s.heap.IsTuple a m.toArray from p) (by simp;lia) λh' Y=>⟨rfl,I.turned (t':=s.toks) (λb o n e=>Y b o n e) O M C A L⟩
 self:=λ_ _ _ _ _ st h=>wpAny_pyIter_tupleiter st h
theorem aqn{w:aM}(c:Addr)(lo:Int)(n:Nat):Turn P w K tg (Itr lo n) [c] c (λi h=>IsRangeIter h c (lo+(i:Nat)*1) ((n:Int) - (i:Nat)) 1) where
 mem:=by simp
 obj:=λi h st b d=>by
  have e:b=c:=by simpa using d
  subst e
  exact⟨_,st,λv z=>by
   have J:Data.fields _=Data.cell v:=z
   cases J⟩
 keep:=λi h h' st k=>k c (by simp) _ st
 item:=by
  intro X m u A D i a s σ H E I l st r;subst m u A;obtain⟨C,y,F,q,p,x⟩:=l c (by simp);have W:=Walks.range (prog:=X.prog) (w:=X.w) (I.ok.hd D) c lo 1 n;refine W.item i s _ _ r st λv h' tk L j M=>?_
  obtain⟨t,rfl⟩:=L;have I1:Inv X a σ H {s with heap:=h',toks:=tk}:=I.turned (λb o d e=>M b o (by simpa using d) e) C y q p x;refine⟨_,rfl,akp (s:={s with heap:=h',toks:=tk}) (n:="range_iterator") j rfl rfl (by decide) ⟨.int (lo+i),H,I1,⟨t,?_⟩,⟨rfl,rfl⟩,j,λb d=>(l b d).1⟩⟩;rw[Int.mul_one]
 done:=by
  intro X m u A D i a s σ H E I l st r;subst m u A;obtain⟨C,y,F,q,p,x⟩:=l c (by simp);exact wpAny_pyNext_range_end (I.ok.hd D) st (by have:n <=i:=r;lia) λh' N=>⟨rfl,I.turned (t':=s.toks) (λb o d e=>N b o d e) C y q p x⟩
 self:=λ_ _ _ _ _ st h=>wpAny_pyIter_rangeiter st h
end L2
variable{pins:List (er×PySem.Obj)}{σ:L2.St}{H H':L2.Hp}{s:fx}{E Q:ck->fx->Prop}{t:L2.TA}{u:ck}{v y:L2.V}{ta te:L2.TE}{p b C f:er}{pos:PySem.Pos}{fp:List er}{h base h':PySem.Heap}{o:L2.HO}{iter e c tg:jS}{body:List PySem.Stmt}{op:PySem.CmpOp}{xs:List L2.V}{its us vs:List ck}{x qual name:g9}{dx:Option er}{mA mg:g9->Option ck}{K:ak}{prog P:l7}{env:PySem.Env}{A:mG}{fd:PySem.FuncData}{ps N:List g9}{n:Nat}{scope:PySem.Scope}{osl:Array (Option ck)}{items:Array ck}{T:String}{X:L2.Cx}{st:PySem.Stmt}{es:List jS}
namespace L2
open PySem PySem.Spec PyProof.Rows
theorem awj{R:It->Hp->Prop}{lo a:Int}{t u v:Tok}{tk:Nat}(I:Inv X pins σ H s)(l: -(2^62) <=lo)(h:lo < 2^62)(m: -(2^62) <=a)(c:a < 2^62)(q:R (Itr lo (a - lo).toNat) H):wpAny (model X.prog X.w) X.A (pyIter (.ref s.heap.objs.size)) (PIE X pins σ tg R) E {s with heap:=s.heap.push {cls:=.type "range",data:=.fields #[.int lo t,.int a u,.int 1 v]},toks:=tk}:=by
 refine wpAny_pyIter_range (IsRange.new ..) (small_one l h m c) ?_;have I1:Inv X pins σ H {s with heap:=s.heap.push {cls:=.type "range",data:=.fields #[.int lo t,.int a u,.int 1 v]},toks:=tk}:=I.kept λb o e=>ag _ e
 refine⟨(s.heap.push {cls:=.type "range",data:=.fields #[.int lo t,.int a u,.int 1 v]}).objs.size,[(s.heap.push {cls:=.type "range",data:=.fields #[.int lo t,.int a u,.int 1 v]}).objs.size],_,_,H,rfl,
  I1.kept (t':=tk) λb o e=>ag _ e,aqn _ lo (a - lo).toNat,?_,λb k=>?_,q⟩
 ·have j:lo+((0:Nat):Int)*1=lo:=by simp
  have d:(((a - lo).toNat:Nat):Int) - ((0:Nat):Int)=Builtin.Range.rangeSize lo a 1:=by rw[rangeSize_one];split <;> lia
  show IsRangeIter _ _ (lo+((0:Nat):Int)*1) ((((a - lo).toNat:Nat):Int) - ((0:Nat):Int)) 1;rw[j,d];exact aD _ rfl
 ·have e:b=(s.heap.push {cls:=.type "range",data:=.fields #[.int lo t,.int a u,.int 1 v]}).objs.size:=by simpa using k
  subst e;exact I1.fpOk (aj _) (I1.hok.fresh (aj _))
def a7v(a:TA):TI:=λσ H R=>a σ H λvs H1=>∃j:Int,vs=[.int j]/\ -(2^62) <=j/\j < 2^62/\R (Itr 0 j.toNat) H1
theorem au5{a:Expr}{c:TA}{p:Pos}(m:Gl X "range")(hm:X.mg "range"=none)(l:PA X [a] c)(hs:starEach [a] X.env=[(false,eval a X.env)]:=by rfl):PI X tg (.Call (.Name "range" p) [a] [] pos) (a7v c):=by
 (first|refine⟨?_⟩|skip);intro b s σ H R I h
 refine Call_ (ae0 I m hm boot_range (fH (thn (l pos b s σ H _ I h) λu v ⟨vs,o,I1,k,q1⟩=>?_) hs rfl));obtain⟨j,e,q1,d,q⟩:=q1;subst e;cases k with
 |cons r n=>
  cases n;obtain⟨t,rfl⟩:=r;exact call_range_1 (awj I1 (by lia) (by lia) q1 d (by simpa using q))
noncomputable def a9j(d:TI)(g:TG)(tb:TS):TS:=λD σ H=>d σ H λJ H1=>∃W:Nat->Nat->St->Hp->Prop,(∃m,W 0 m σ H1)/\ ∀i m σ H,W i m σ H ->
 (J.stop i H/\D.nx σ H)\/(J.go i H/\ ∃N:St->Hp->Prop,(∀a H',N a H'->∃c,c < m/\W (i+1) c a H')/\ ∀x H',J.yld i H x H'->g x σ H' λb H2=>tb {D with nx:=N,ct:=N,bk:=D.nx} b H2)
noncomputable def acy(a:List Addr)(h:Heap):List (Addr×Obj):=a.filterMap λb=>(h.get? b).map λo=>(b,o)
theorem xg{o:Obj}(a:b∈fp)(e:h.get? b=some o):(b,o)∈acy fp h:=gc.mpr ⟨b,a,by rw[e];rfl⟩
theorem aui{p:Addr×Obj}(c:p∈acy fp h):p.1∈fp/\h.get? p.1=some p.2:=by
 obtain⟨b,a,e⟩:=gc.mp c;cases q:h.get? b with
 |none=>rw[q]at e;cases e
 |some o=>
  rw[q]at e;have d:(b,o)=p:=bv e;subst d;exact⟨a,q⟩
theorem Inv.pinned(I:Inv X pins σ H s)(m: ∀b∈fp,zt X pins H b)(ho: ∀b∈fp,∃o,s.heap.get? b=some o/\ ∀v,o.data≠ .cell v):Inv X (pins++acy fp s.heap) σ H s:=
 I.pins_of λp l=>(aS.mp l).elim (λz=>I.pin p (aV _ z)) λz=>by
  obtain⟨a,e⟩:=aui z;obtain⟨k,h,j,_⟩:=m p.1 a;obtain⟨o,c,d⟩:=ho p.1 a;rw[e]at c;cases c;exact⟨e,k,h,j,d⟩
theorem Inv.unpinned{pl:List (Addr×Obj)}(I:Inv X (pins++pl) σ H s):Inv X pins σ H s:=I.pins_of λp a=>I.pin p (aV _ (dh _ a))
theorem a3x{Z:TI}{g:TG}{tb:TS}(E:na (model X.prog X.w) X.A X.env X.xe)(hc:X.calm=true)(hi:PI X tg iter Z)(hg:PG X tg g)(t:PSs X body tb)(hs: ∀x,bM iter X.env x=pure x:=by intro _;rfl):PS X (.For tg iter body [] pos) (a9j Z g tb):=by
 (first|refine⟨?_⟩|skip);intro c s σ H D I h
 refine wpAny_For (thn (hi c s σ H _ I h) λv s1 h1=>thn h1 λitv s2 h2=>?_) hs;obtain⟨it,C,Y,J,H2,e,I2,T,st2,U,W,⟨m0,w0⟩,turn⟩:=h2;subst e
 -- what stays true of the iterator's objects through the loop
 have k: ∀{H':Hp},(∀b∈C,H' b=none)->∀b∈C,zt X c H' b:=λhn b t=>⟨hn b t,(U b t).2⟩
 refine codeAny_forLoop_any (λn s'=>∃i q H',Inv X c q H' s'/\Y i s'.heap/\(∀b∈C,H' b=none)/\W i n q H') ?_ m0 ⟨0,σ,H2,I2,st2,λb t=>(U b t).1,w0⟩;rintro n s3 ⟨i,p,M,I3,K,F,w3⟩;rcases turn i n p M w3 with ⟨stop,qn⟩|⟨go,N,hN,step⟩
 ·refine fY E (thn (T.done X rfl rfl rfl hc i c s3 p M X.xe I3 (k F) K stop) λr s4 ⟨hr,I4⟩=>?_);subst hr;exact kU ⟨p,M,I4,qn⟩
 ·refine fY E (thn (T.item X rfl rfl rfl hc i c s3 p M X.xe I3 (k F) K go) λr s4 ⟨u,hr,h4⟩=>?_);subst hr;refine fY E (thn h4 λ_ s5 ⟨x,V,I5,r5,y5,z,S⟩=>?_);have P:=I5.pinned (k S) (T.obj _ _ z);refine fY E (thn (hg _ s5 p V x u _ P r5 (step x V y5)) λ_ s6 ⟨Q,H6,I6,q6⟩=>?_);refine fY E (thn (t _ s6 Q H6 _ I6 q6) λf O y=>?_);have again: ∀{a:St} {l:Hp},Inv X (c++acy C s5.heap) a l O->N a l->∃m,m < n/\ ∃i q H',Inv X c q H' O/\Y i O.heap/\(∀b∈C,H' b=none)/\W i m q H':=λ{a l} j L=>by
   obtain⟨m',hm,w7⟩:=hN a l L;refine⟨m',hm,i+1,a,l,j.unpinned,T.keep _ _ _ z λb t o e=>(j.pin (b,o) (aV _ (aV _ (xg t e)))).1,λb t=>?_,w7⟩;obtain⟨o,e,d⟩:=T.obj _ _ z b t;exact(j.pin (b,o) (aV _ (aV _ (xg t e)))).2.1
  cases f with
  |next=>obtain⟨a,l,j,L⟩:=y;exact again j L
  |cont=>obtain⟨a,l,j,L⟩:=y;exact again j L
  |brk=>obtain⟨a,l,j,y⟩:=y;exact⟨a,l,j.unpinned,y⟩
  |ret v=>obtain⟨x7,a,l,j,r7,y⟩:=y;exact⟨x7,a,l,j.unpinned,r7,y⟩
abbrev R2:=V->V->Hp->VK->Prop
def OpR(X:Cx)(f:ae->ae->Sem ae)(r:R2):Prop:=
 ∀(pins:List (Addr×Obj)) (s:af) (σ:St) (H:Hp) (x y:V) (v u:ae) (Q:VK),Inv X pins σ H s->RelV x v->RelV y u->r x y H Q ->
  wpAny (model X.prog X.w) X.A (f v u) (EP X pins σ Q) X.xe s
def UnR(X:Cx)(f:ae->Sem ae)(r:V->Hp->VK->Prop):Prop:=
 ∀(pins:List (Addr×Obj)) (s:af) (σ:St) (H:Hp) (x:V) (v:ae) (Q:VK),Inv X pins σ H s->RelV x v->r x H Q ->
  wpAny (model X.prog X.w) X.A (f v) (EP X pins σ Q) X.xe s
def yn(X:Cx)(f:ae)(r:List V->Hp->VK->Prop):Prop:=
 ∀(pins:List (Addr×Obj)) (s:af) (σ:St) (H:Hp) (xs:List V) (us:List ae) (Q:VK),Inv X pins σ H s->jl xs us->r xs H Q ->
  wpAny (model X.prog X.w) X.A (call f us) (EP X pins σ Q) X.xe s
def a9m(X:Cx)(r:V->Hp->(Bool->Hp->Prop)->Prop):Prop:=
 ∀(pins:List (Addr×Obj)) (s:af) (σ:St) (H:Hp) (x:V) (v:ae) (Q:Bool->Hp->Prop),Inv X pins σ H s->RelV x v->r x H Q ->
  wpAny (model X.prog X.w) X.A (truthy v) (TP X pins σ Q) X.xe s
noncomputable def tOp(r:R2)(a tb:TE):TE:=λσ H Q=>a σ H λx H1=>tb σ H1 λy H2=>r x y H2 Q
noncomputable def tUn(r:V->Hp->VK->Prop)(a:TE):TE:=λσ H Q=>a σ H λx H1=>r x H1 Q
noncomputable def rI(C:Int->Int->Prop)(g:Int->Int->V):R2:=λx y H Q=>∃i j,x=.int i/\y=.int j/\C i j/\Q (g i j) H
noncomputable def rI0(g:Int->Int->V):R2:=λx y H Q=>∃i j,x=.int i/\y=.int j/\Q (g i j) H
def rU(g:Int->V):V->Hp->VK->Prop:=λx H Q=>∃i,x=.int i/\Q (g i) H
section
variable{X:Cx}{a b c:Expr}{ta tb tc:TE}{pos:Pos}
theorem axj(l:PE X a ta)(n:PE X b tb){R:V->V->Hp->Prop}(I:Inv X pins σ H s)(h:ta σ H λx H1=>tb σ H1 λy H2=>R x y H2){f:ae->ae->Sem ae}(o: ∀v u d x y H2,Inv X pins σ H2 d->RelV x v->RelV y u->R x y H2->wpAny (model X.prog X.w) X.A (f v u) Q X.xe d):
  wpAny (model X.prog X.w) X.A (eval a X.env) (λv s₁=>wpAny (model X.prog X.w) X.A (eval b X.env) (λu c=>wpAny (model X.prog X.w) X.A (f v u) Q X.xe c) X.xe s₁) X.xe s:=by
 refine thn (l pins s σ H _ I h) λv p ⟨x,H1,I1,k,q1⟩=>?_
 refine thn (n pins p σ H1 _ I1 q1) λu d ⟨y,H2,e,m,j⟩=>?_
 exact o v u d x y H2 e k m j
theorem a7i{op:Operator}{r:R2}(ho:OpR X (binaryOp op) r)(e:PE X a ta)(l:PE X b tb):PE X (.BinOp a op b pos) (tOp r ta tb):=by
 (first|refine⟨?_⟩|skip);intro c s σ H Q I h
 exact wpAny_BinOp (axj e l I h λv u k x y n d j m q=>ho c k σ n x y v u Q d j m q)
theorem a70{op:UnaryOp}{r:V->Hp->VK->Prop}(ho:UnR X (unaryOp op) r)(d:PE X a ta):PE X (.UnaryOp op a pos) (tUn r ta):=by
 (first|refine⟨?_⟩|skip);intro b s σ H Q I h
 exact UnaryOp_ (thn (d b s σ H _ I h) λv j ⟨x,e,I1,c,q1⟩=>ho b j σ e x v Q I1 c q1)
theorem opI{f:ae->ae->Sem ae}{C:Int->Int->Prop}{g:Int->Int->Int}
  (rule: ∀(i j:Int) (t u:Tok) (s:af) (Q:ae->af->Prop) (E:ae->af->Prop),C i j->Q (.int (g i j) s.toks) {s with toks:=s.toks+1}->wpAny (model X.prog X.w) X.A (f (.int i t) (.int j u)) Q E s):
  OpR X f (rI C λi j=>.int (g i j)):=by
 (first|refine⟨?_⟩|skip);intro a s σ H x y v u Q I b c h
 obtain⟨i,j,rfl,rfl,d,q⟩:=h;obtain⟨t,rfl⟩:=b;obtain⟨t',rfl⟩:=c;exact rule i j t t' s _ _ d ⟨.int (g i j),H,I.tok _,⟨_,rfl⟩,q⟩
theorem a6l{f:ae->ae->Sem ae}{g:Int->Int->Int}
  (rule: ∀(i j:Int) (t u:Tok) (s:af) (Q:ae->af->Prop) (E:ae->af->Prop),Q (.int (g i j) s.toks) {s with toks:=s.toks+1}->wpAny (model X.prog X.w) X.A (f (.int i t) (.int j u)) Q E s):
  OpR X f (rI0 λi j=>.int (g i j)):=by
 (first|refine⟨?_⟩|skip);intro a s σ H x y v u Q I b c h
 obtain⟨i,j,rfl,rfl,q⟩:=h;obtain⟨t,rfl⟩:=b;obtain⟨t',rfl⟩:=c;exact rule i j t t' s _ _ ⟨.int (g i j),H,I.tok _,⟨_,rfl⟩,q⟩
theorem axh{f:ae->ae->Sem ae}{g:Int->Int->Bool}
  (rule: ∀(i j:Int) (t u:Tok) (s:af) (Q:ae->af->Prop) (E:ae->af->Prop),Q (.bool (g i j)) s->wpAny (model X.prog X.w) X.A (f (.int i t) (.int j u)) Q E s):
  OpR X f (rI0 λi j=>.bl (g i j)):=by
 (first|refine⟨?_⟩|skip);intro a s σ H x y v u Q I b c h
 obtain⟨i,j,rfl,rfl,q⟩:=h;obtain⟨t,rfl⟩:=b;obtain⟨t',rfl⟩:=c;exact rule i j t t' s _ _ ⟨.bl (g i j),H,I,rfl,q⟩
def ar5(i j:Int):Prop:=0 < j/\j < 1073741824
def arw(i j:Int):Prop:=0 <=j/\j <=1000000/\i.natAbs < 2^64
def aja(i j:Int):Prop:=(-(2^64) < i/\i < 2^64)\/(-(2^64) < j/\j < 2^64)
theorem aja.ok{i j:Int}(h:aja i j):IntMulOk i j:=by
 rcases h with ⟨b,a⟩|⟨b,a⟩
 ·exact .of_left (intBits_le_64 b a)
 ·exact .of_right (intBits_le_64 b a)
theorem auf:OpR X (binaryOp .Add) (rI0 λi j=>.int (i+j)):=a6l λ_ _ _ _ _ _ _ q=>add_int q
theorem ala:OpR X (binaryOp .Sub) (rI0 λi j=>.int (i - j)):=a6l λ_ _ _ _ _ _ _ q=>sub_int q
theorem a4j:OpR X (binaryOp .Mult) (rI aja λi j=>.int (i*j)):=opI λ_ _ _ _ _ _ _ a q=>mul_int q a.ok
theorem azt:OpR X (binaryOp .FloorDiv) (rI ar5 λi j=>.int (i/j)):=opI λi j _ _ _ _ _ a q=>by
 have c:(0:Int) < j:=a.1;have b:j < 1073741824:=a.2;exact floordiv_int (by lia) (by rw[Int.fdiv_eq_ediv_of_nonneg i (by lia)];exact q) (.inl (PyProof.noPylong_small (by lia)))
theorem a3n:OpR X (binaryOp .Mod) (rI (λ_ j=>0 < j) λi j=>.int (i % j)):=opI λi j _ _ _ _ _ a q=>by
 have b:(0:Int) < j:=a;exact mod_int' (by lia) (by rw[Int.fmod_eq_emod_of_nonneg i (by lia)];exact q)
theorem a5y:OpR X (binaryOp .Pow) (rI arw λi j=>.int (i^j.toNat)):=opI λ_ _ _ _ _ _ _ a q=>pow_int_small a.1 a.2.1 a.2.2 q
theorem unI{f:ae->Sem ae}{g:Int->Int}
  (rule: ∀(i:Int) (t:Tok) (s:af) (Q:ae->af->Prop) (E:ae->af->Prop),Q (.int (g i) s.toks) {s with toks:=s.toks+1}->wpAny (model X.prog X.w) X.A (f (.int i t)) Q E s):
  UnR X f (rU λi=>.int (g i)):=by
 (first|refine⟨?_⟩|skip);intro a s σ H x v Q I b h
 obtain⟨i,rfl,q⟩:=h;obtain⟨t,rfl⟩:=b;exact rule i t s _ _ ⟨.int (g i),H,I.tok _,⟨_,rfl⟩,q⟩
theorem a6i:UnR X (unaryOp .USub) (rU λi=>.int (-i)):=unI λ_ _ _ _ _ q=>neg_int q
end
noncomputable def a5x:V->V->Bool
 |.non,.non=>true|.non,.int _=>true|.int _,.non=>true|.non,.bl _=>true|.bl _,.non=>true|.non,.str _=>true|.str _,.non=>true
 |.int _,.int _=>true|.bl _,.bl _=>true|.str _,.str _=>true|.byt _,.byt _=>true
 |.int _,.str _=>true|.str _,.int _=>true|.bl _,.str _=>true|.str _,.bl _=>true
 |_,_=>false
def rEq:R2:=λx y H Q=>a5x x y=true/\Q (.bl (decide (x=y))) H
def rNe:R2:=λx y H Q=>a5x x y=true/\Q (.bl (!decide (x=y))) H
theorem aol{i j:Int}:decide (V.int i=V.int j)=(i==j):=by
 rw[bD];simp
theorem atl{i j:Bool}:decide (V.bl i=V.bl j)=(i==j):=by
 rw[bD];simp
theorem aoy{i j:Str}:decide (V.str i=V.str j)=(i==j):=by
 rw[bD];simp
theorem aoa{i j:Array UInt8}:decide (V.byt i=V.byt j)=(i.toList==j.toList):=by
 rw[bD];cases i;cases j;simp
section
variable{X:Cx}{a b c:Expr}{ta tb tc:TE}{pos:Pos}
theorem jw{Q:VK}{k a:Bool}(I:Inv X pins σ H s)(q:Q (.bl k) H)(e:k=a):EP X pins σ Q (.bool a) s:=by
 subst e;exact⟨.bl k,H,I,rfl,q⟩
theorem a85:OpR X (bb .Eq) rEq:=by
 (first|refine⟨?_⟩|skip);intro c s σ H x y v u Q I b a h
 obtain⟨hs,q⟩:=h;cases x with
 |non=>
  cases b;cases y with
  |non=>cases a;exact PySem.EqNone.eq_none_none (jw I q (by simp))
  |bl j=>cases a;exact PySem.EqNone.eq_none_bool (jw I q (by simp))
  |int j=>obtain⟨t',rfl⟩:=a;exact PySem.EqNone.eq_none_int (jw I q (by simp))
  |str j=>obtain⟨t',rfl⟩:=a;exact PySem.EqNone.eq_none_str (jw I q (by simp))
  |_=>exact absurd (show false=true from hs) az
 |bl i=>
  cases b;cases y with
  |non=>cases a;exact PySem.EqNone.eq_bool_none (jw I q (by simp))
  |bl j=>cases a;exact eq_bool (jw I q atl)
  |str j=>obtain⟨t',rfl⟩:=a;exact PySem.EqMixed.eq_bool_str (jw I q (by simp))
  |_=>exact absurd (show false=true from hs) az
 |int i=>
  obtain⟨t,rfl⟩:=b;cases y with
  |non=>cases a;exact PySem.EqNone.eq_int_none (jw I q (by simp))
  |int j=>obtain⟨t',rfl⟩:=a;exact eq_int (jw I q aol)
  |str j=>obtain⟨t',rfl⟩:=a;exact PySem.EqMixed.eq_int_str (jw I q (by simp))
  |_=>exact absurd (show false=true from hs) az
 |str i=>
  obtain⟨t,rfl⟩:=b;cases y with
  |non=>cases a;exact PySem.EqNone.eq_str_none (jw I q (by simp))
  |bl j=>cases a;exact PySem.EqMixed.eq_str_bool (jw I q (by simp))
  |int j=>obtain⟨t',rfl⟩:=a;exact PySem.EqMixed.eq_str_int (jw I q (by simp))
  |str j=>obtain⟨t',rfl⟩:=a;exact eq_str (jw I q aoy)
  |_=>exact absurd (show false=true from hs) az
 |byt i=>
  obtain⟨t,rfl⟩:=b;cases y with
  |byt j=>obtain⟨t',rfl⟩:=a;exact PySem.W.eq_bytes (jw I q aoa)
  |_=>exact absurd (show false=true from hs) az
 |_=>cases y <;> exact absurd (show false=true from hs) az
theorem a7f:OpR X (bb .NotEq) rNe:=by
 (first|refine⟨?_⟩|skip);intro c s σ H x y v u Q I b a h
 obtain⟨hs,q⟩:=h;cases x with
 |non=>
  cases b;cases y with
  |non=>cases a;exact PySem.EqNone.ne_none_none (jw I q (by simp))
  |bl j=>cases a;exact PySem.EqNone.ne_none_bool (jw I q (by simp))
  |int j=>obtain⟨t',rfl⟩:=a;exact PySem.EqNone.ne_none_int (jw I q (by simp))
  |str j=>obtain⟨t',rfl⟩:=a;exact PySem.EqNone.ne_none_str (jw I q (by simp))
  |_=>exact absurd (show false=true from hs) az
 |bl i=>
  cases b;cases y with
  |non=>cases a;exact PySem.EqNone.ne_bool_none (jw I q (by simp))
  |bl j=>cases a;exact ne_bool (jw I q (congrArg not atl))
  |str j=>obtain⟨t',rfl⟩:=a;exact PySem.EqMixed.ne_bool_str (jw I q (by simp))
  |_=>exact absurd (show false=true from hs) az
 |int i=>
  obtain⟨t,rfl⟩:=b;cases y with
  |non=>cases a;exact PySem.EqNone.ne_int_none (jw I q (by simp))
  |int j=>obtain⟨t',rfl⟩:=a;exact ne_int (jw I q (congrArg not aol))
  |str j=>obtain⟨t',rfl⟩:=a;exact PySem.EqMixed.ne_int_str (jw I q (by simp))
  |_=>exact absurd (show false=true from hs) az
 |str i=>
  obtain⟨t,rfl⟩:=b;cases y with
  |non=>cases a;exact PySem.EqNone.ne_str_none (jw I q (by simp))
  |bl j=>cases a;exact PySem.EqMixed.ne_str_bool (jw I q (by simp))
  |int j=>obtain⟨t',rfl⟩:=a;exact PySem.EqMixed.ne_str_int (jw I q (by simp))
  |str j=>obtain⟨t',rfl⟩:=a;exact ne_str (jw I q (congrArg not aoy))
  |_=>exact absurd (show false=true from hs) az
 |byt i=>
  obtain⟨t,rfl⟩:=b;cases y with
  |byt j=>obtain⟨t',rfl⟩:=a;exact PySem.W.ne_bytes (jw I q (congrArg not aoa))
  |_=>exact absurd (show false=true from hs) az
 |_=>cases y <;> exact absurd (show false=true from hs) az
theorem a7a:OpR X (bb .Lt) (rI0 λi j=>.bl (decide (i < j))):=axh λ_ _ _ _ _ _ _ q=>lt_int q
theorem a7z:OpR X (bb .Gt) (rI0 λi j=>.bl (decide (j < i))):=axh λ_ _ _ _ _ _ _ q=>gt_int q
theorem a7r:OpR X (bb .GtE) (rI0 λi j=>.bl (decide (j <=i))):=axh λ_ _ _ _ _ _ _ q=>ge_int q
theorem at7:OpR X (bb .Lt) (λx y H Q=>∃i j,x=.str i/\y=.str j/\Q (.bl (decide (i.cps.toList < j.cps.toList))) H):=by
 (first|refine⟨?_⟩|skip);intro a s σ H x y v u Q I b c h
 obtain⟨i,j,rfl,rfl,q⟩:=h;obtain⟨t,rfl⟩:=b;obtain⟨t',rfl⟩:=c;exact lt_str (jw I q rfl)
theorem auh:OpR X (bb .In) (λx y H Q=>∃i j,x=.str i/\y=.str j/\Q (.bl (!(gE j i 0 j.length 1).isEmpty)) H):=by
 (first|refine⟨?_⟩|skip);intro a s σ H x y v u Q I b c h
 obtain⟨i,j,rfl,rfl,q⟩:=h;obtain⟨t,rfl⟩:=b;obtain⟨t',rfl⟩:=c;exact in_str (jw I q rfl)
theorem a69:OpR X (bb .Is) (λx y H Q=>y=.non/\Q (.bl (decide (x=.non))) H):=by
 (first|refine⟨?_⟩|skip);intro a s σ H x y v u Q I b c h
 obtain⟨rfl,q⟩:=h;cases c;refine is_none_gen (jw I q ?_);cases x <;> first
  |(cases b;rfl)
  |(obtain⟨t,rfl⟩:=b;rfl)
theorem a17:OpR X (bb .IsNot) (λx y H Q=>y=.non/\Q (.bl (!decide (x=.non))) H):=by
 (first|refine⟨?_⟩|skip);intro a s σ H x y v u Q I b c h
 obtain⟨rfl,q⟩:=h;cases c;refine isnot_none_gen (jw I q ?_);cases x <;> first
  |(cases b;rfl)
  |(obtain⟨t,rfl⟩:=b;rfl)
theorem alz:OpR X (bb .NotIn) (λx y H Q=>∃i j,x=.str i/\y=.str j/\Q (.bl (!(!(gE j i 0 j.length 1).isEmpty))) H):=by
 (first|refine⟨?_⟩|skip);intro a s σ H x y v u Q I b c h
 obtain⟨i,j,rfl,rfl,q⟩:=h;obtain⟨t,rfl⟩:=b;obtain⟨t',rfl⟩:=c;exact notIn_str (jw I q rfl)
theorem at6(b:Expr)(h:op≠ .In:=by decide)(a:op≠ .NotIn:=by decide):fQ op b=false:=by
 have c:(op==CmpOp.In)=false:=by cases op <;> first|rfl|exact absurd rfl h
 have d:(op==CmpOp.NotIn)=false:=by cases op <;> first|rfl|exact absurd rfl a
 cases b <;> simp[fQ,c,d]
theorem a06{r:R2}(ho:OpR X (bb op) r)(e:PE X a ta)(l:PE X b tb)(hm:fQ op b=false):PE X (.Compare a [op] [b] pos) (tOp r ta tb):=by
 (first|refine⟨?_⟩|skip);intro c s σ H Q I h
 exact wpAny_Compare1 (axj e l I h λv u k x y n d j m q=>ho c k σ n x y v u Q d j m q) hm
noncomputable def azr(t:TE):TT:=λσ H Q=>t σ H λx H'=>∃k,x=.bl k/\Q k H'
theorem a22{r:R2}(ho:OpR X (bb op) r)(q:PE X a ta)(A:PE X b tb)(hm:fQ op b=false):PT X (.Compare a [op] [b] pos) (azr (tOp r ta tb)):=by
 (first|refine⟨?_⟩|skip);intro d s σ H Q I h
 refine wpAny_isTrue_Compare1 (thn (q d s σ H _ I h) λv E ⟨x,m,I1,p,q1⟩=>thn (A d E σ m _ I1 q1) λu w ⟨y,F,j,t,l⟩=>
  thn (ho d w σ F x y v u _ j p t l) λc J ⟨z,n,o,C,k,e,D⟩=>?_) hm
 subst e;cases C;exact jN ⟨n,o,D⟩
def a6c(K:ak)(x:V)(H:Hp)(k:Bool):Prop:=
 match x with
 |.non=>k=false
 |.bl b=>k=b
 |.int i=>k=(i !=0)
 |.str y=>y.length <=sizeLine/\k=((y.length:Int) !=0)
 |.byt y=>y.size <=sizeLine/\k=((y.size:Int) !=0)
 |.ref p=>(∃xs,SqL K H p xs/\k= !xs.isEmpty)\/(∃xs,SqT K H p xs/\k= !xs.isEmpty)\/ ∃kvs,H p=some (.dK kvs)/\k= !kvs.isEmpty
 |_=>False
theorem asb{κ:Type}{kvs:List (κ×V)}{vs:List (κ×ae)}(r:KV kvs vs):(!vs.isEmpty)= !kvs.isEmpty:=by
 cases r <;> rfl
theorem aim(r:jl xs its):(!its.toArray.isEmpty)= !xs.isEmpty:=by
 cases r <;> simp
theorem acz:(sizeLine:Nat) < 2^63:=by rw[bq];decide
theorem a3c:a9m X (λx H Q=>∃k,a6c X.K x H k/\Q k H):=by
 (first|refine⟨?_⟩|skip);intro l s σ H x v Q I d h
 obtain⟨k,e,q⟩:=h;have u:=acz;have hs:sizeLine=16777216:=bq;cases x with
 |non=>
  cases d;have a:k=false:=e;subst a;exact truthy_none ⟨H,I,q⟩
 |bl b=>
  cases d;have a:k=b:=e;subst a;exact jN ⟨H,I,q⟩
 |int i=>
  obtain⟨t,rfl⟩:=d;have a:k=(i !=0):=e;subst a;exact PySem.P.truthy_int ⟨H,I,q⟩
 |str y=>
  obtain⟨t,rfl⟩:=d;obtain⟨n,a⟩:y.length <=sizeLine/\k=((y.length:Int) !=0):=e;subst a;exact PySem.P.truthy_str (by lia) ⟨H,I.tok _,q⟩
 |byt y=>
  obtain⟨t,rfl⟩:=d;obtain⟨n,a⟩:y.size <=sizeLine/\k=((y.size:Int) !=0):=e;subst a;exact PySem.W.truthy_bytes (by lia) ⟨H,I.tok _,q⟩
 | ref p=>
  cases d;have a:(∃xs,SqL X.K H p xs/\k= !xs.isEmpty)\/(∃xs,SqT X.K H p xs/\k= !xs.isEmpty)\/ ∃kvs,H p=some (.dK kvs)/\k= !kvs.isEmpty:=e;rcases a with ⟨xs,hx,a⟩|⟨xs,hx,a⟩|⟨kvs,hx,a⟩
  ·subst a;obtain⟨j,r,pl,hz⟩:=I.list hx;have c:=r.length;exact wpAny_truthy_list pl.isList (by simp only[ax];lia) ⟨H,I.tok _,by rw[aim r];exact q⟩
  ·subst a;obtain⟨j,r,pl,hz⟩:=I.tuple hx;have c:=r.length;exact truthy_tuple pl (by simp only[ax];lia) ⟨H,I.tok _,by rw[aim r];exact q⟩
  ·subst a;obtain⟨hz,o,vs,r,m⟩:kvs.length <=sizeLine/\(p==bA)=false/\ ∃vs,KV kvs vs/\s.heap.DictOf (jx X.prog X.w) p vs:=(show km X.prog X.w H s.heap p (.dK kvs) from I.hok p _ hx).2;have c:kvs.length=vs.length:=bV r;exact wpAny_truthy_dict o m (by lia) ⟨H,I.tok _,by rw[asb r];exact q⟩
 |_=>exact(show False from e).elim
theorem ayf(j:PE X a ta)(l: ∀b,isTrue a X.env b=(do let v←b;standAt a.pos;holding [v] (truthy v))):
  PT X a (λσ H Q=>ta σ H λx H'=>∃k,a6c X.K x H' k/\Q k H'):=by
 (first|refine⟨?_⟩|skip);intro c s σ H Q I h
 exact isTrue_plain (thn (j c s σ H _ I h) λv m ⟨x,d,I1,e,q1⟩=>a3c c m σ d x v Q I1 e q1) (l _)
theorem aqs:OpR X (binaryOp .Add) (λx y H Q=>∃i j,x=.str i/\y=.str j/\i.length+j.length <=sizeLine/\Q (.str (i++j)) H):=by
 (first|refine⟨?_⟩|skip);intro a s σ H x y v u Q I b c h
 obtain⟨i,j,rfl,rfl,hz,q⟩:=h;obtain⟨t,rfl⟩:=b;obtain⟨t',rfl⟩:=c;exact add_str (λt' tk=>⟨.str (i++j),H,I.tok _,⟨_,rfl⟩,q⟩) hz
theorem vals1{x:V}(r:jl [x] us): ∃u,us=[u]/\RelV x u:=by
 cases r with
 |cons a b=>cases b;exact⟨_,rfl,a⟩
theorem vals2{x:V}(r:jl [x,y] us): ∃u a,us=[u,a]/\RelV x u/\RelV y a:=by
 cases r with
 |cons b d=>
  cases d with
  |cons e c=>cases c;exact⟨_,_,rfl,b,e⟩
theorem av3(c:X.calm=true):yn X (.builtin "min") (λxs H Q=>∃i j,xs=[.int i,.int j]/\Q (.int (if j < i then j else i)) H):=by
 (first|refine⟨?_⟩|skip);intro b s σ H xs e Q I r h
 obtain⟨i,j,rfl,q⟩:=h;obtain⟨u,d,rfl,⟨t,rfl⟩,⟨t',rfl⟩⟩:=vals2 r;refine min_two_ints (I.ok.hd c) λh' tk k=>⟨_,H,I.kept k,?_,q⟩
 by_cases a:j < i
 ·rw[if_pos a,if_pos a];exact⟨_,rfl⟩
 ·rw[if_neg a,if_neg a];exact⟨_,rfl⟩
end
structure ObjM (h:Heap) (x dx C:Addr) (mA:Str->Option ae):Prop where
 obj:h.get? x=some (df C dx)
 ns:h.Ns1 dx mA
 ne:dx≠x
theorem ata{dx:Addr}(n:h.Ns1 dx mA): ∃od,h.get? dx=some od/\ ∀name,iG name od=some (mA name):=by
 obtain⟨o,es,ep,ho,hd,hk,_,hm⟩:=n;refine⟨o,ho,λname=>?_⟩;have e:=hm name;unfold nsFind findBy at e;rw[←Array.find?_toList]at e;unfold iG;rw[hd];dsimp only;split
 ·rename_i y q;rw[q]at e;exact congrArg some e
 ·rename_i q;rw[q]at e;have a:es.toList.any (·.refKey)=false:=by
   rw[jO];intro y c;obtain⟨z,t,b⟩:=hk y (Array.mem_toList_iff.mp c);simp[DictEntry.refKey,b]
  have d: ¬es.toList.any (·.refKey)=true:=by rw[a];exact az
  rw[if_neg d];exact congrArg some e
theorem ObjM.look{x dx:Addr}(I:ObjM h x dx C mA): ∃od,PySem.W.InstAt h x (df C dx) C (some od)/\ ∀name,iG name od=some (mA name):=
 let ⟨od,ho,a⟩:=ata I.ns
 ⟨od,⟨I.obj,rfl,rfl,ho⟩,a⟩
section
variable{prog:aP}{w:aM}{A:bh}{E:ae->af->Prop}{s:af}{K:ak}{x dx C f:Addr}{mA:Str->Option ae}{name:Str}{v:ae}
theorem a1a{a:Bool}(X:K.In s.heap)(I:ObjM s.heap x dx C mA)(j:eF K C name=true)(hh:fh K C=true)(c:bO K (.ref C) name=some none)(d:mA name=some v)(b:PySem.W.handedIn v=true)(h:Q v {s with toks:=s.toks+1}):
  wpAny (model prog w) A (getAttr (.ref x) name a) Q E s:=by
 obtain⟨k,J,e⟩:=I.look;exact PySem.W.get_value X J (iD j).1 (PySem.W.findObj_own hh c rfl (by rw[e,d])) b h
theorem awm{pl:Sem Bool}{Q:ae×List ae->af->Prop}(X:K.In s.heap)(I:ObjM s.heap x dx C mA)(a:eF K C name=true)
  (e:bO K (.ref C) name=some (some (.ref f))) (d:ig K (.ref f)=true) (c:mA name=none) (h:Q (.ref f,[.ref x]) s):
  wpAny (model prog w) A (mI (.ref x) name pl) Q E s:=by
 obtain⟨b,J,j⟩:=I.look;exact PySem.W.method_fn X J (iD a).1 (iD a).2 e (beq_iff_eq.mp d) (by show(iG name b).map (·.isSome)=some false;rw[j,c];rfl) h
theorem a32{ns:List Str}{Q:Unit->af->Prop}(X:K.In s.heap)(I:ObjM s.heap x dx C mA)
  (hs:bO K (.ref C) "__setattr__"=some (some (.builtin "object.__setattr__"))) (m:gJ K C=true) (n:kW K C name=some none) (hh:fh K C=true)
  (p:gb mA ns) (hsz:ns.length <=sizeLine)
  (h: ∀h',ObjM h' x dx C (λy=>if y=name then some v else mA y)->bX dx s.heap h'->Q () {s with heap:=h',toks:=s.toks+2}):
  wpAny (model prog w) A (setAttr (.ref x) name v) Q E s:=by
 obtain⟨t,J,D⟩:=I.look;refine PySem.W.set_plain X J hs (PySem.W.osa_open (s:={s with toks:=s.toks+1}) (r:=none) X J m n λb=>?_);obtain⟨z,q,e⟩:=PySem.W.any_some hh;have hx:s.heap.get? x=some ⟨.ref C,some dx,.plain,#[]⟩:=I.obj;refine ac (ah (ac (ac (wpAny_loadPart hx (ac (PySem.W.Looks.here (s:={s with toks:=s.toks+1}) (PySem.W.looks_clsIn X q) ?_))))));rw[e];refine ah (a:=some dx) (ac (ah (ac ?_)));refine wpAny_nsSet1 (s:={s with toks:=s.toks+1}) I.ns λh' c d=>?_
 obtain⟨u,l,o,k,hdD,j⟩:=c.count (gb.cons name v p);refine ac (wpAny_lookBehind k (by rw[hdD];exact pastItsLine_dict (aN j (by rw[aE];lia))) ?_);exact ah (h _ ⟨(d.2 _ (bu I.ne)).trans I.obj,c,I.ne⟩ d)
theorem avu{R:kA->af->Prop}{a:List (Str×ae)}(X:K.In s.heap)(hm:kX K C=true)(c:bO K (.ref C) "__init__"=some (some (.ref f)))(b:PySem.W.typeIn K (.ref f)=some (.type "function"))(h:codeAny (model prog w) (A.under (.builtin "type.__call__" ⟨.ref C::vs,a⟩)) (.call (.ref f) ⟨.ref (s.heap.objs.size+1)::vs,a⟩) (PySem.W.InitBack (s.heap.objs.size+1) R)
   {s with heap:=(s.heap.push cq).push (df C s.heap.objs.size)}):
  codeAny (model prog w) A (.call (.ref C) ⟨vs,a⟩) R s:=by
 obtain⟨hh,g,d,t,os⟩:=s;exact PySem.W.make_core (PySem.W.makes_of X hm) (PySem.W.looks_findIn X c) (λself=>PySem.W.bind_fn X self b) (.inl rfl) h
end
noncomputable def v6(f:Str)(v:V):List (Str×V)->List (Str×V)
 |[]=>[(f,v)]
 |(g,x)::r=>if g=f then (g,v)::r else (g,x)::v6 f v r
theorem agy(f g:Str)(v:V): ∀fs:List (Str×V),(v6 f v fs).lookup g=if g=f then some v else fs.lookup g
 | []=>by
  show de g [(f,v)]=_;by_cases h:g=f
  ·have a:(g==f)=true:=beq_iff_eq.mpr h;simp only[de,a,if_pos h]
  ·have a:(g==f)=false:=beq_eq_false_iff_ne.mpr h;simp only[de,a,if_neg h]
 | (k,x)::r=>by
  have b:=agy f g v r;rw[show v6 f v ((k,x)::r)=(if k=f then (k,v)::r else (k,x)::v6 f v r) from rfl];by_cases hk:k=f
  ·rw[if_pos hk];by_cases h:g=k
   ·have a:(g==k)=true:=beq_iff_eq.mpr h;simp only[de,a,if_pos (h.trans hk)]
   ·have a:(g==k)=false:=beq_eq_false_iff_ne.mpr h;simp only[de,a,if_neg (λe:g=f=>h (e.trans hk.symm))]
  ·rw[if_neg hk];by_cases h:g=k
   ·have a:(g==k)=true:=beq_iff_eq.mpr h;simp only[de,a,if_neg (λe:g=f=>hk (h.symm.trans e))]
   ·have a:(g==k)=false:=beq_eq_false_iff_ne.mpr h;simp only[de,a];exact b
theorem afm(f:Str)(v:V): ∀fs:List (Str×V),f∈(v6 f v fs).map (·.1)/\ ∀g,g∈fs.map (·.1)->g∈(v6 f v fs).map (·.1)
 |[]=>⟨by simp[v6],λg h=>by simp at h⟩
 | (k,x)::r=>by
  obtain⟨b,a⟩:=afm f v r;rw[show v6 f v ((k,x)::r)=(if k=f then (k,v)::r else (k,x)::v6 f v r) from rfl];by_cases hk:k=f
  ·rw[if_pos hk];subst hk;exact⟨by simp,λg h=>by simpa using h⟩
  ·rw[if_neg hk];refine⟨?_,λg h=>?_⟩
   ·rw[aw];exact aq _ b
   ·rw[aw]at h⊢;rcases aL.mp h with e|e
    ·exact aL.mpr (.inl e)
    ·exact aq _ (a g e)
theorem agu(f:Str)(v:V): ∀fs:List (Str×V),(v6 f v fs).length <=fs.length+1
 |[]=>by simp[v6]
 |(k,x)::r=>by
  have a:=agu f v r;rw[show v6 f v ((k,x)::r)=(if k=f then (k,v)::r else (k,x)::v6 f v r) from rfl];by_cases hk:k=f
  ·rw[if_pos hk,aE,aE];lia
  ·rw[if_neg hk,aE,aE];lia
theorem vy.some_of{o:Option ae}(r:vy (some v) o): ∃u,o=some u/\RelV v u:=by
 cases o with
 |none=>exact(show False from r).elim
 |some u=>exact⟨u,rfl,r⟩
theorem vy.none_of{o:Option ae}(r:vy none o):o=none:=by
 cases o with
 |none=>rfl
 |some u=>exact(show False from r).elim
theorem at2(r:RelV v u):PySem.W.handedIn u=true:=by
 cases v with
 |non=>cases (show u=aU from r);rfl
 |bl b=>cases (show u=jT b from r);rfl
 |int i=>obtain⟨t,e⟩:=(show∃t,u=hU i t from r);cases e;rfl
 |str x=>obtain⟨t,e⟩:=(show∃t,u=iR x t from r);cases e;rfl
 |byt b=>obtain⟨t,e⟩:=(show∃t,u=Value.bytes b t from r);cases e;rfl
 |flt b=>obtain⟨t,e⟩:=(show∃t,u=Value.float b t from r);cases e;rfl
 |ref a=>cases (show u=bi a from r);rfl
 |ty n=>cases (show u=bR n from r);rfl
section
variable{P:aP}{w:aM}{H H':Hp}{h h':Heap}{a C dx:Addr}{fs fs':List (Str×V)}
theorem ajf(hok:HOk P w H h)(e:H a=some (.ins C dx fs)): ∃mA,ObjM h a dx C mA/\(∀f,vy (fs.lookup f) (mA f))/\gb mA (fs.map (·.1))/\fs.length <=1000/\H dx=some (.own a):=by
 obtain⟨d,z,ne,ob,mA,n,r,q⟩:=(show km P w H h a (.ins C dx fs) from hok a _ e);exact⟨mA,⟨ob,n,ne⟩,r,q,z,d⟩
end
structure Cls (K:ak) (C:Addr):Prop where
 pg:eF K C cM=true
 hd:fh K C=true
 po:gJ K C=true
 sa:bO K (.ref C) "__setattr__"=some (some (.builtin "object.__setattr__"))
theorem Cls.get(c:Cls K C)(f:Str):eF K C f=true:=c.pg
def xy(K:ak)(C:Addr)(f:Str):Prop:=bO K (.ref C) f=some none
theorem xy.taker{f:Str}(n:xy K C f):kW K C f=some none:=by
 unfold kW;rw[show bO K (.ref C) f=some none from n];rfl
structure Meth (K:ak) (C:Addr) (m:Str) (f:Addr):Prop where
 at_:bO K (.ref C) m=some (some (.ref f))
 fn:ig K (.ref f)=true
 kp:cn K (.ref f)=true
section
variable{X:Cx}{pins:List (Addr×Obj)}{σ:St}{H:Hp}{s:af}{a C dx:Addr}{fs:List (Str×V)}{f:Str}{v:V}{A:bh}{E:ae->af->Prop}
theorem asa{b:Bool}(I:Inv X pins σ H s)(e:H a=some (.ins C dx fs))(c:Cls X.K C)(n:xy X.K C f)(l:fs.lookup f=some v)(h: ∀u s',Inv X pins σ H s'->RelV v u->Q u s'):wpAny (model X.prog X.w) A (getAttr (.ref a) f b) Q E s:=by
 obtain⟨k,O,r,_,_,_⟩:=ajf I.hok e;obtain⟨u,j,d⟩:=vy.some_of (v:=v) (o:=k f) (by rw[←l];exact r f);exact a1a I.kIn O (c.get f) c.hd n j (at2 d) (h u _ (I.tok _) d)
theorem apy{m:Str}{g:Addr}{pl:Sem Bool}{Q:ae×List ae->af->Prop}(I:Inv X pins σ H s)(e:H a=some (.ins C dx fs))(c:Cls X.K C)(k:Meth X.K C m g)(l:fs.lookup m=none)
  (h:Q (.ref g,[.ref a]) s):wpAny (model X.prog X.w) A (mI (.ref a) m pl) Q E s:=by
 obtain⟨b,O,r,_,_,_⟩:=ajf I.hok e;have hn:b m=none:=vy.none_of (by rw[←l];exact r m);exact awm I.kIn O (c.get m) k.at_ k.fn hn h
theorem arf{Q:Unit->af->Prop}(I:Inv X pins σ H s)(e:H a=some (.ins C dx fs))(c:Cls X.K C)(n:xy X.K C f)(v:fs.length < 1000)(m:RelV y u)(h: ∀s',Inv X pins σ (upd H a (.ins C dx (v6 f y fs))) s'->Q () s'):wpAny (model X.prog X.w) A (setAttr (.ref a) f u) Q E s:=by
 obtain⟨k,O,r,j,_,ho⟩:=ajf I.hok e;have hz:(fs.map (·.1)).length <=sizeLine:=by rw[ao,bq];lia
 refine a32 I.kIn O c.sa c.po n.taker c.hd j hz λh' d sb=>h _ ?_
 have hd: ∃o,h'.get? dx=some o:=let ⟨o,_,_,t,_⟩:=d.ns;⟨o,t⟩;refine I.write (x:=a) (e:=dx) (by rw[e];exact eB) (.inr ho) (λb q l z=>(sb.2 b l).trans z) hd ?_;refine⟨by rw[j7 O.ne];exact ho,?_,O.ne,d.obj,_,d.ns,λg=>?_,λg p=>?_⟩
 ·have:=agu f y fs;lia
 ·show vy ((v6 f y fs).lookup g) (if g=f then some u else k g);rw[agy];by_cases q:g=f
  ·rw[if_pos q,if_pos q];exact m
  ·rw[if_neg q,if_neg q];exact r g
 ·by_cases q:g=f
  ·rw[q];exact(afm f y fs).1
  ·refine(afm f y fs).2 g (j g λz=>p ?_);show(if g=f then some u else k g)=none;rw[if_neg q];exact z
theorem Inv.made(I:Inv X pins σ H s):Inv X pins σ (upd (upd H s.heap.objs.size (.own (s.heap.objs.size+1))) (s.heap.objs.size+1) (.ins C s.heap.objs.size []))
  {s with heap:=(s.heap.push cq).push (df C s.heap.objs.size)}:=by
 have c:(s.heap.push cq).get? s.heap.objs.size=some cq:=aD s.heap rfl;have h:((s.heap.push cq).push (df C s.heap.objs.size)).get? (s.heap.objs.size+1)=some (df C s.heap.objs.size):=by
  have:=aD (s.heap.push cq) (o:=df C s.heap.objs.size) rfl
  rwa [cp]at this
 have k:(s.heap.push cq).Ns s.heap.objs.size (λ_=>none):=⟨cq,#[],_,c,rfl,(λe j=>absurd j (by simp)),λ_=>rfl⟩;have I1:=I.laid (a:=s.heap.objs.size) (o:=.own (s.heap.objs.size+1)) (h':=s.heap.push cq) (t':=s.toks) (λb u q=>ag _ q) (aj _) ⟨_,c⟩;refine I1.laid (a:=s.heap.objs.size+1) (o:=.ins C s.heap.objs.size []) (t':=s.toks) (λb u q=>ag _ q) (dN (cp _ _)) ?_;have ne:s.heap.objs.size≠s.heap.objs.size+1:=aI (Nat.lt_succ_self _);refine⟨by rw[j7 ne,aa2],bn _,ne,h,λ_=>none,(Heap.Ns1.of_empty k).at λo q=>ag _ q,λ_=>eB,λy d=>absurd rfl d⟩
theorem a2h{w:aM}{f:Str}(a:fR e f env (eval e env)=eval e env)(h:wpAny (model prog w) A (eval e env) (λo s₁=>wpAny (model prog w) A (getAttr o f true) Q E s₁) E s):wpAny (model prog w) A (eval (.Attribute e f pos) env) Q E s:=
 Attribute_any_ h (by rw[arm_eval_Attribute,a])
end
def a9a(K:ak)(b:TE)(f:Str):TE:=λσ H Q=>b σ H λx H1=>∃a C dx fs v,x=.ref a/\H1 a=some (.ins C dx fs)/\Cls K C/\xy K C f/\fs.lookup f=some v/\Q v H1
def a9g(K:ak)(b c:TE)(f:Str):TS:=λD σ H=>c σ H λy H1=>b σ H1 λx H2=>∃a C dx fs,x=.ref a/\H2 a=some (.ins C dx fs)/\Cls K C/\xy K C f/\fs.length < 1000/\
 D.nx σ (upd H2 a (.ins C dx (v6 f y fs)))
section
variable{X:Cx}{o e value:Expr}{f:Str}{pos pos' tpos:Pos}{ta tv:TE}
theorem a50(r:PE X e ta)(p:fR e f X.env (eval e X.env)=eval e X.env):PE X (.Attribute e f pos) (a9a X.K ta f):=by
 (first|refine⟨?_⟩|skip);intro b s σ H Q I h
 refine a2h p (thn (r b s σ H _ I h) λu y ⟨x,j,I1,m,a,C,dx,fs,v,ex,o,c,n,l,q⟩=>?_);subst ex;obtain rfl:u=bi a:=m;exact asa I1 o c n l λt w d k=>⟨v,j,d,k,q⟩
theorem a3e(m:PE X o ta)(t:PE X value tv)(hs:eS value (some (.Attribute o f pos')) pos.line X.env=pure false):PS X (.Assign [.Attribute o f pos'] value pos) (a9g X.K ta tv f):=by
 (first|refine⟨?_⟩|skip);intro b s σ H D I h
 refine plainObj_wpAny_Assign_Attribute (thn (t b s σ H _ I h) λu z ⟨y,j,I1,v,q⟩=>thn (m b z σ j _ I1 q) λw F ⟨x,A,d,p,a,C,dx,fs,ex,r,c,n,l,e⟩=>?_) hs;subst ex;obtain rfl:w=bi a:=p;exact arf d r c n l v λE k=>⟨σ,_,k,e⟩
end
structure Room (k:Nat) (A:bh):Prop where
 hd:A.handled=none
 dp:A.depth+3*k+5 < recursionLimit
 un:A.units+16*k+200 < cLine
 gd:A.guards=some []
theorem Room.mono{j k:Nat}(r:Room k A)(h:j <=k):Room j A:=⟨r.hd,by have:=r.dp;lia,by have:=r.un;lia,r.gd⟩
theorem Room.deeper{k:Nat}(r:Room (k+1) A)(env:Env):Room k (A.deeper env):=
 ⟨r.hd,by have:=r.dp;show A.depth+1+3*k+5 < _;lia,by have:=r.un;show A.units+3+16*k+200 < _;lia,r.gd⟩
theorem aq1{a:List (Str×ae)}:(A.under (.builtin "type.__call__" ⟨.ref C::us,a⟩)).depth=A.depth+1:=by
 first|rfl|simp[kB,Code.weight,Code.isCreation,Code.isGuard,Code.isCaller,Code.frames,mJ,guardIds]
theorem ara{a:List (Str×ae)}:(A.under (.builtin "type.__call__" ⟨.ref C::us,a⟩)).units=A.units+1:=by
 first|rfl|simp[kB,Code.cUnits,Code.frames,mJ]
theorem Room.make{k:Nat}(r:Room (k+1) A)(C:Addr)(b:List ae)(a:List (Str×ae)):Room k (A.under (.builtin "type.__call__" ⟨.ref C::b,a⟩)):=
 ⟨r.hd,by have:=r.dp;rw[aq1];lia,by have:=r.un;rw[ara];lia,by first|exact r.gd|(simpa[kB,Code.isGuard,guardIds] using r.gd)⟩
theorem Room.depth{k:Nat}(r:Room k A):A.depth < recursionLimit:=by have:=r.dp;lia
noncomputable def a9e:TA:=λ_ H Q=>Q [] H
noncomputable def a7q(a:TE)(tr:TA):TA:=λσ H Q=>a σ H λx H1=>tr σ H1 λxs H2=>Q (x::xs) H2
theorem avi:PA X [] a9e:=.mk <|λ_ _ _ _ H Q I h=>Calls.spliced_nil ⟨[],H,I,.nil,h⟩
theorem ap7(k:PE X e te)(hr:PA X es t)(hs:starEach (e::es) X.env=(false,eval e X.env)::starEach es X.env:=by rfl):PA X (e::es) (a7q te t):=by
 (first|refine⟨?_⟩|skip);intro pos a s σ H Q I h
 rw[hs];show wpAny _ _ (spliced ((false,eval e X.env)::backTo pos (starEach es X.env))) _ _ s;refine Calls.spliced_cons (thn (k a s σ H _ I h) λu m ⟨x,d,I1,j,q1⟩=>?_);exact thn (hr pos a m σ d _ I1 q1) λo p ⟨xs,n,b,l,c⟩=>⟨x::xs,n,b,.cons j l,c⟩
abbrev Sp:=List V->Hp->VK->XK->Prop
abbrev CXT:=List Env->Hp->af->XK->ae->af->Prop
structure Env0 (P:aP) (w:aM) (K:ak) (mg:Str->Option ae) (base:Heap) (A:bh) (outer:List Env) (s:af) (H:Hp):Prop where
 frames:A.frames=some outer
 mod:Mod K mg base
 bs: ∀b o,base.get? b=some o->s.heap.get? b=some o/\H b=none
 bsz:base.objs.size <=s.heap.objs.size
 funs:s.heap.FunFrames base outer
 frf: ∀b∈frs outer,H b=none
 hok:HOk P w H s.heap
 bare:gx s.gens
def CE(outer:List Env)(P:aP)(w:aM)(H:Hp)(s:af)(Q:VK)(u:ae)(s':af):Prop:=
 ∃v H',s'.os=s.os/\gx s'.gens/\Un (frs outer) [] H H' s.heap s'.heap/\HOk P w H' s'.heap/\RelV v u/\Q v H'
def CR(CX:CXT)(outer:List Env)(P:aP)(w:aM)(H:Hp)(s:af)(Q:VK)(E:XK)(r:kA)(s':af):Prop:=
 match r with
 |.ok (.ret u)=>CE outer P w H s Q u s'
 |.ok _=>False
 |.error e=>CX outer H s E e s'
structure FnOk (P:aP) (w:aM) (K:ak) (mg:Str->Option ae) (base:Heap) (CX:CXT) (k:Nat) (f:Addr) (fd:dI) (ps:List Str) (sp:Sp):Prop where
 len: ∀vs H Q E,sp vs H Q E->vs.length=ps.length
 run: ∀(A:bh) (outer:List Env) (s:af) (H:Hp) (args:Args) (us:List ae) (vs:List V) (Q:VK) (E:XK),Room k A->Env0 P w K mg base A outer s H->lF s fd args (ps.zip us)->jl vs us->sp vs H Q E ->
  codeAny (model P w) A (.call (.ref f) args) (CR CX outer P w H s Q E) s
theorem Env0.make{w:aM}{outer:List Env}(e:Env0 P w K mg base A outer s H)(C:Addr)(b:List ae)(a:List (Str×ae)):
  Env0 P w K mg base (A.under (.builtin "type.__call__" ⟨.ref C::b,a⟩)) outer s H:=⟨by first|exact e.frames|(simpa[kB,Code.envs,mJ,pushEnvs] using e.frames),e.mod,e.bs,e.bsz,e.funs,e.frf,e.hok,e.bare⟩
section
variable{X:Cx}{pins:List (Addr×Obj)}{σ:St}{H:Hp}{s s':af}
theorem Inv.env0(I:Inv X pins σ H s):Env0 X.prog X.w X.K X.mg X.base X.A X.stack s H:=
 ⟨I.ok.frames,I.ok.mod,I.bs,aN I.ok.bsz I.sz,I.stack,I.stkFree,I.hok,I.bare⟩
theorem Inv.after{Q:VK}(I:Inv X pins σ H s)(h:CE X.stack X.prog X.w H s Q u s'):EP X pins σ Q u s':=by
 obtain⟨v,H',os,bare,un,hok,r,q⟩:=h;obtain⟨hh,g,d,t,a⟩:=s';obtain rfl:a=s.os:=os;exact⟨v,H',I.call (h':=hh) (g':=g) (d':=d) (t':=t) (ch:=[]) un hok bare (λb z=>absurd z (by simp)),r,q⟩
end
noncomputable def azq(sp:Sp)(a:List V)(E:SK)(t:TA):TE:=λσ H Q=>t σ H λvs H1=>sp (vs++a) H1 Q (E σ)
def azp(C:Addr)(sp:Sp)(a:List V)(E:SK)(t:TA):TE:=λσ H Q=>t σ H λvs H1=>∀x dx,H1 x=none->H1 dx=none->dx≠x ->
 sp (.ref x::(vs++a)) (upd (upd H1 dx (.own x)) x (.ins C dx [])) (λv H2=>v=.non/\Q (.ref x) H2) (E σ)
def Binds(K:ak)(fd:dI)(ps:List Str)(ds:List ae):Prop:=
 ∀(s:af) (us:List ae),K.In s.heap->(us++ds).length=ps.length->lF s fd ⟨us,[]⟩ (ps.zip (us++ds))
theorem Binds.all(h: ∀us:List ae,us.length=ps.length->bindArgs fd ⟨us,[]⟩=pure (ps.zip us)):Binds K fd ps []:=λs us _ a=>by
 rw[aK]at a⊢;exact .of_eq (h us a)
def ag1(CX:CXT)(X:Cx)(E:SK):Prop:= ∀(pins:List (Addr×Obj)) (σ:St) (H:Hp) (s:af) (e:ae) (s':af),Inv X pins σ H s->CX X.stack H s (E σ) e s'->X.xe e s'
section
variable{X:Cx}{CX:CXT}{k:Nat}{f C:Addr}{fd:dI}{ps:List Str}{sp:Sp}{dvs:List V}{ds:List ae}{E:SK}{x m:Str}{p pos apos:Pos}{e o:Expr}{es:List Expr}{ta:TE}{t:TA}
theorem avl{Q:VK}{vs:List V}(F:FnOk X.prog X.w X.K X.mg X.base CX k f fd ps sp)(hr:Room k X.A)(d:Binds X.K fd ps ds)(hd:jl dvs ds)(hx:ag1 CX X E)(I:Inv X pins σ H s)(r:jl vs us)(h:sp (vs++dvs) H Q (E σ)):wpAny (model X.prog X.w) X.A (call (.ref f) us) (EP X pins σ Q) X.xe s:=by
 have b:jl (vs++dvs) (us++ds):=r.append hd;have c:(us++ds).length=ps.length:=by rw[←b.length];exact F.len _ _ _ _ h
 refine wpAny_call (fz (F.run X.A X.stack s H ⟨us,[]⟩ (us++ds) (vs++dvs) Q (E σ) hr I.env0 (d s us I.kIn c) b h) λr s' a=>?_);cases r with
 |error e=>exact hx pins σ H s e s' I a
 |ok fl=>
  cases fl with
  |ret u=>exact I.after a
  |next=>exact di a
  |brk=>exact di a
  |cont=>exact di a
theorem azw(F:FnOk X.prog X.w X.K X.mg X.base CX k f fd ps sp)(hr:Room k X.A)(m:Gl X x)(hm:X.mg x=some (.ref f))(hk:cn X.K (.ref f)=true)(j:Binds X.K fd ps ds)(hd:jl dvs ds)(hx:ag1 CX X E)
  (d:PA X (e::es) t) (b:(x==("__debug__":Str))=false:=by decide) (l:starEach (e::es) X.env=(false,eval e X.env)::starEach es X.env:=by rfl) (c:(backTo pos (starEach es X.env)).any (·.1)=false:=by rfl):
  PE X (.Call (.Name x p) (e::es) [] pos) (azq sp dvs E t):=by
 (first|refine⟨?_⟩|skip);intro a s σ H Q I h
 refine eU (aox I m hm ?_ b);refine iS (h₀:=X.base) I.ok.mod.kin hk (thn (d pos a s σ H _ I h) λo u ⟨vs,n,I1,r,q⟩=>⟨I1.kIn,?_⟩) l c;exact avl F hr j hd hx I1 r q
structure Mk (K:ak) (C f:Addr):Prop where
 makes:kX K C=true
 init:bO K (.ref C) "__init__"=some (some (.ref f))
 fn:ig K (.ref f)=true
 kp:cn K (.ref C)=true
theorem ayt{Q:VK}{vs:List V}(M:Mk X.K C f)(F:FnOk X.prog X.w X.K X.mg X.base CX k f fd ps sp)(hr:Room (k+1) X.A)(n:Binds X.K fd ps ds)(hd:jl dvs ds)(hx:ag1 CX X E)(I:Inv X pins σ H s)(r:jl vs us)(h: ∀x dx,H x=none->H dx=none->dx≠x->sp (.ref x::(vs++dvs)) (upd (upd H dx (.own x)) x (.ins C dx [])) (λv H2=>v=.non/\Q (.ref x) H2) (E σ)):
  wpAny (model X.prog X.w) X.A (call (.ref C) us) (EP X pins σ Q) X.xe s:=by
 have d:=h (s.heap.objs.size+1) s.heap.objs.size (I.hok.fresh (Nat.le_succ _)) (I.hok.fresh (aj _)) (aI (Nat.lt_succ_self _));have b:=Inv.made (C:=C) I;have c:jl (V.ref (s.heap.objs.size+1)::(vs++dvs)) (bi (s.heap.objs.size+1)::(us++ds)):=.cons rfl (r.append hd);have l:(bi (s.heap.objs.size+1)::us++ds).length=ps.length:=by
  have e:=c.length;rw[F.len _ _ _ _ d]at e;exact e.symm
 refine wpAny_call (avu (f:=f) I.kIn M.makes M.init (beq_iff_eq.mp M.fn) (fz (F.run _ X.stack _ _ ⟨bi (s.heap.objs.size+1)::us,[]⟩ (bi (s.heap.objs.size+1)::(us++ds)) _ _ (E σ) (hr.make C us [])
  (b.env0.make C us []) (n _ (bi (s.heap.objs.size+1)::us) b.kIn l) c d) λr s' a=>?_))
 cases r with
 |error e=>exact hx pins σ _ _ e s' b a
 | ok fl=>
  cases fl with
  |ret u=>
   obtain⟨v,H',m,j,ev,o⟩:=b.after a;subst ev;exact⟨j,⟨V.ref (s.heap.objs.size+1),H',m,rfl,o⟩⟩
  |next=>exact di a
  |brk=>exact di a
  |cont=>exact di a
theorem a0y(M:Mk X.K C f)(F:FnOk X.prog X.w X.K X.mg X.base CX k f fd ps sp)(hr:Room (k+1) X.A)(m:Gl X x)(hm:X.mg x=some (.ref C))(j:Binds X.K fd ps ds)(hd:jl dvs ds)(hx:ag1 CX X E)
  (d:PA X (e::es) t) (b:(x==("__debug__":Str))=false:=by decide) (l:starEach (e::es) X.env=(false,eval e X.env)::starEach es X.env:=by rfl) (c:(backTo pos (starEach es X.env)).any (·.1)=false:=by rfl):
  PE X (.Call (.Name x p) (e::es) [] pos) (azp C sp dvs E t):=by
 (first|refine⟨?_⟩|skip);intro a s σ H Q I h
 refine eU (aox I m hm ?_ b);refine iS (h₀:=X.base) I.ok.mod.kin M.kp (thn (d pos a s σ H _ I h) λo u ⟨vs,n,I1,r,q⟩=>⟨I1.kIn,?_⟩) l c;exact ayt M F hr j hd hx I1 r q
end
structure FnScope (N P:List Str) (sc:dP):Prop where
 kind:sc.kind=.function
 co:sc.isCoroutine=false
 gen:sc.isGenerator=false
 nd:N.Nodup
 pre:N.take P.length=P
 par: ∀x∈P,sc.names.lookup x=some .local\/sc.names.lookup x=some .cell
 nofree: ∀y∈sc.names,y.2≠ .free
theorem ak5{kindOf:Str->Option eY}{x:Str}: ∀{binds:List (Str×ae)} {m:Str->Option ae},(∀v,(x,v)∉binds)->bindL kindOf binds m x=m x
 |[],_,_=>rfl
 | (n,v)::r,m,h=>by
  unfold bindL;rw[ak5 λw a=>h w (aq _ a)];split
  ·have:x≠n:=by rintro rfl;exact h v au
   simp[this]
  ·rfl
theorem ajv{kindOf:Str->Option eY}{x:Str}: ∀{binds:List (Str×ae)} {m:Str->Option ae},(∀v,(x,v)∉binds)->bindC kindOf binds m x=m x
 |[],_,_=>rfl
 | (n,v)::r,m,h=>by
  unfold bindC;rw[ajv λw a=>h w (aq _ a)];split
  ·rfl
  ·have:x≠n:=by rintro rfl;exact h v au
   simp[this]
theorem ajw{kindOf:Str->Option eY}{x:Str}{v:ae}: ∀{P:List Str} {vs:List ae} {i:Nat} {m:Str->Option ae},P.Nodup->P[i]?=some x->vs[i]?=some v->kindOf x=some .local ->
  bindL kindOf (P.zip vs) m x=some v
 |[],_,_,_,_,h,_,_=>by simp at h
 |_::_,[],_,_,_,_,h,_=>by simp at h
 |p::P,w::vs,0,m,nd,b,a,hk=>by
  simp at b a;subst b;subst a;show bindL kindOf ((p,w)::P.zip vs) m p=_;unfold bindL;rw[ak5 λv c=>(cN.mp nd).1 (dR c).1,if_pos hk];simp
 |p::P,w::vs,i+1,m,nd,b,a,hk=>by
  show bindL kindOf ((p,w)::P.zip vs) m x=_;unfold bindL;exact ajw (i:=i) (cN.mp nd).2 (by simpa using b) (by simpa using a) hk
theorem ak2{kindOf:Str->Option eY}{x:Str}{v:ae}: ∀{P:List Str} {vs:List ae} {i:Nat} {m:Str->Option ae},P.Nodup->P[i]?=some x->vs[i]?=some v->kindOf x≠some .local ->
  bindC kindOf (P.zip vs) m x=some v
 |[],_,_,_,_,h,_,_=>by simp at h
 |_::_,[],_,_,_,_,h,_=>by simp at h
 |p::P,w::vs,0,m,nd,b,a,hk=>by
  simp at b a;subst b;subst a;show bindC kindOf ((p,w)::P.zip vs) m p=_;unfold bindC;rw[ajv λv c=>(cN.mp nd).1 (dR c).1,if_neg hk];simp
 |p::P,w::vs,i+1,m,nd,b,a,hk=>by
  show bindC kindOf ((p,w)::P.zip vs) m x=_;unfold bindC;exact ak2 (i:=i) (cN.mp nd).2 (by simpa using b) (by simpa using a) hk
noncomputable def start(N:List Str)(vs:List V):St:=vs.map some++bp (N.length - vs.length) none
noncomputable def aa9(CX:CXT)(P:aP)(w:aM)(K:ak)(mg:Str->Option ae)(base:Heap)(N:List Str)(a:Str)(scope:dP)(f:Addr)(c:ae)(A:bh)(outer:List Env)(s:af)(H:Hp)(E:XK):Cx where
 prog:=P
 w:=w
 K:=K
 mg:=mg
 base:=base
 A:=A.deeper (envOfC a scope s.heap.objs.size f c)
 N:=N
 s₀:=s
 H₀:=H
 env:=envOfC a scope s.heap.objs.size f c
 outer:=outer
 stack:=envOfC a scope s.heap.objs.size f c::outer
 ex:=[]
 calm:=true
 fn:=λ_=>true
 pn:=[]
 xe:=λe s'=>wpAny (model P w) (A.deeper (envOfC a scope s.heap.objs.size f c)) (leaving (envOfC a scope s.heap.objs.size f c) e) (λ_ b=>CX outer H s E e b) (λd b=>CX outer H s E d b) s'
theorem am7{sc:dP}(h:sc.names.lookup x=some .cell): ∃c,(cellsFrom n sc.names []).lookup x=some c:=by
 have q:=lm sc.names n [] (.inl h);exact gf.mp q
theorem av0{CX:CXT}{w:aM}{D:ae}{outer:List Env}{I:af}{E:XK}{vs:List V}(S:FnScope N ps scope)(hd:A.handled=none)(j:Env0 P w K mg base A outer s H)(Q:vs.length=ps.length)(r:jl vs us)(x:InCallC s s.heap.objs.size (bindL (envOfC qual scope s.heap.objs.size f D).kindOf (ps.zip us) λ_=>none) (cellsFrom (s.heap.objs.size+1) scope.names []) (bindC (envOfC qual scope s.heap.objs.size f D).kindOf (ps.zip us) λ_=>none) I):
  Inv (aa9 CX P w K mg base N qual scope f D A outer s H E) [] (start N vs) H I:=by
 have J:ps.length <=N.length:=by have:=congrArg dJ S.pre;rw[cU]at this;lia
 obtain⟨C,tk,rfl,hk⟩:=x.done;have l: ∀b:Addr,b∉(aa9 CX P w K mg base N qual scope f D A outer s H E).ex:=λb z=>absurd (show b∈([]:List Addr) from z) (by simp)
 refine⟨⟨j.mod,S.kind,rfl,rfl,aj _,λy z c C d=>?_,λy hy=>?_,λy c _ h=>?_,λ_=>hd,Around.frames_deeper j.frames,.inr ⟨rfl,rfl⟩,λb z=>absurd z (l b),j.bs,j.bsz,λb _ _=>l b,λb z=>absurd z (l b),j.funs,j.frf⟩,
  rfl,j.bare,Un.kept hk,⟨_,x.toInCall.ns,λi y v C d O=>?_⟩,λy c h=>⟨_,x.cell y c h⟩,j.hok.fresh (aj _),λy c h=>?_,λp o=>absurd (show p∈([]:List (Addr×Obj)) from o) (by simp),j.hok.kept hk,?_⟩
 ·exact name_of_addr x.apart (cP C) (cP d)
 ·have hy:scope.names.lookup y=some .cell\/scope.names.lookup y=some .free:=hy;rcases hy with hy|hy
  ·exact am7 hy
  ·exact absurd rfl (S.nofree _ (cP hy))
 ·exact jZ (x.above y c (cP h))
 ·have t:i < vs.length:=by
   unfold start at d;by_cases t:i < vs.length
   ·exact t
   ·rw[aZ (by simpa using t)]at d;rw[dG]at d;split at d <;> cases d
  have M:vs[i]?=some v:=by
   unfold start at d;rw[aQ (by simpa using t),aT]at d;cases e:vs[i]? with
   |none=>rw[e]at d;cases d
   |some a=>rw[e]at d;cases d;rfl
  obtain⟨u,F,L⟩:=r.get M;have o:ps[i]?=some y:=by
   rw[←S.pre,List.getElem?_take_of_lt (by lia)];exact C
  have m:ps.Nodup:=by rw[←S.pre];exact S.nd.sublist (List.take_sublist _ _)
  refine⟨u,L,?_⟩;rcases S.par y (bE o) with k|k
  ·exact .inl ⟨k,ajw m o F k⟩
  ·obtain⟨c,e⟩:=am7 (n:=s.heap.objs.size+1) k;refine .inr ⟨.inl k,c,e,?_⟩;have q:=x.cell y c e;rw[ak2 m o F (by show scope.names.lookup y≠_;rw[k];decide)]at q;exact q
 ·exact j.hok.fresh (jZ (x.above y c (cP h)))
 ·unfold start;show _=N.length;rw[aH,ao,ia];lia
theorem a7g{CX:CXT}{w:aM}{k:Nat}{c:Arguments}{F kV p pm a ct Y:ae}{L O:Option Addr}{sp:Sp}(lk:K.lookup f=some ⟨Y,O,.func (cE name qual c body scope F kV p pm L a ct),osl⟩)(C:eD K a qual=true)(S:FnScope N ps scope)(len: ∀vs H Q E,sp vs H Q E->vs.length=ps.length)(j: ∀(A:bh) (outer:List Env) (s:af) (H:Hp) (vs:List V) (Q:VK) (E:XK),Room k (A.deeper (envOfC qual scope s.heap.objs.size f a))->sp vs H Q E ->
   ∃t,PSs (aa9 CX P w K mg base N qual scope f a A outer s H E) body t/\t {nx:=λ_ H'=>Q .non H',rt:=Q} (start N vs) H):
  FnOk P w K mg base CX (k+1) f (cE name qual c body scope F kV p pm L a ct) ps sp:=by
 refine⟨len,λA outer s H args Z vs Q E hr m hb r l=>?_⟩;have hl:=len _ _ _ _ l;have KX:K.In s.heap:=m.mod.kin.keeps λb o e=>(m.bs b o e).1
 have z:s.heap.NoLimit:=m.mod.nolimit.keeps λb o e=>(m.bs b o e).1
 have h: ∀y∈ps.zip Z,scope.names.lookup y.1=some .local\/(scope.names.lookup y.1=some .cell/\((cellsFrom (s.heap.objs.size+1) scope.names []).lookup y.1).isSome=true):=λ⟨n,v⟩ U=>by
  rcases S.par n (dR U).1 with q|q
  ·exact .inl q
  ·exact .inr ⟨q,lm _ _ _ (.inl q)⟩
 refine codeAny_call_function hr.depth (KX _ _ lk) rfl S.co S.gen rfl (PySem.W.codeRec_of KX C) (hb _ _ _ _ ?_);refine wpAny_newFunctionEnv_cells S.kind h λenv he M x=>?_
 subst he;refine⟨z.keeps x.toInCall.keep,codeAny_func ?_⟩;obtain⟨t,ht,hq⟩:=j A outer s H vs Q E (hr.deeper _) l;have I:Inv (aa9 CX P w K mg base N qual scope f a A outer s H E) [] (start N vs) H M:=av0 S hr.hd m hl r x;refine bf (ht [] M (start N vs) H _ I hq) (λfl s' hs=>?_) λe s' hs=>hs
 have fin: ∀{d:St} {H':Hp} {v:V} {u:ae},Inv (aa9 CX P w K mg base N qual scope f a A outer s H E) [] d H' s'->RelV v u->Q v H'->CE outer P w H s Q u s':=
  λ{d H' v u} J D q=>⟨v,H',J.os,J.bare,J.base,J.hok,D,q⟩
 cases fl with
 |ret u=>
  obtain⟨v,d,H',J,D,q⟩:=hs;exact fin J D q
 |next=>
  obtain⟨d,H',J,q⟩:=hs;exact fin (v:=V.non) (u:=aU) J rfl q
 |brk=>
  obtain⟨_,_,_,q⟩:=hs;exact di q
 |cont=>
  obtain⟨_,_,_,q⟩:=hs;exact di q
section
variable{X:Cx}{x:Str}{p pos:Pos}{e:Expr}{es:List Expr}{t:TA}{id T:String}{r:List V->Hp->VK->Prop}
noncomputable def tCB(r:List V->Hp->VK->Prop)(t:TA):TE:=λσ H Q=>t σ H λvs H1=>r vs H1 Q
theorem avz(u:yn X (.builtin id) r)(j:Gl X x)(hm:X.mg x=none)(m:bK x=some (.builtin id))(l:PA X (e::es) t)(hn:x≠"__name__":=by decide)(b:(x==("__debug__":Str))=false:=by decide)
  (o:starEach (e::es) X.env=(false,eval e X.env)::starEach es X.env:=by rfl) (c:(backTo pos (starEach es X.env)).any (·.1)=false:=by rfl):PE X (.Call (.Name x p) (e::es) [] pos) (tCB r t):=by
 (first|refine⟨?_⟩|skip);intro a s σ H Q I h
 refine eU (ae0 I j hm m ?_ hn b);exact PyProof.Rows.callWith_builtin1 (thn (l pos a s σ H _ I h) λn q ⟨vs,d,I1,k,q1⟩=>u a q σ d vs n Q I1 k q1) o c
theorem auw(u:yn X (.type T) r)(j:Gl X x)(hm:X.mg x=none)(m:bK x=some (.type T))(l:PA X (e::es) t)(hn:x≠"__name__":=by decide)(b:(x==("__debug__":Str))=false:=by decide)
  (o:starEach (e::es) X.env=(false,eval e X.env)::starEach es X.env:=by rfl) (c:(backTo pos (starEach es X.env)).any (·.1)=false:=by rfl):PE X (.Call (.Name x p) (e::es) [] pos) (tCB r t):=by
 (first|refine⟨?_⟩|skip);intro a s σ H Q I h
 refine eU (ae0 I j hm m ?_ hn b);exact fH (thn (l pos a s σ H _ I h) λn q ⟨vs,d,I1,k,q1⟩=>u a q σ d vs n Q I1 k q1) o c
end
end L2
namespace HT
open PySem PyProof.Rows
section
variable{prog:aP}{w:aM}{A:bh}{E:ae->af->Prop}{s:af}
theorem cat_tup{t:Addr}{a:List ae}(v:IsTup s.heap t vs.toArray)(x:IsTup s.heap b a.toArray)(o:vs≠ [])(y:a=[]->Q (.ref t) s)(u:a≠ []->Q (.ref s.heap.objs.size) {s with heap:=s.heap.push {cls:=.type "tuple",data:=.seq (vs++a).toArray}})(hsz:vs.length+a.length <=sizeLine):wpAny (model prog w) A (binaryOp .Add (.ref t) (.ref b)) Q E s:=by
 obtain⟨⟨cls,q,data,m⟩,ho,r,n,hd⟩:=id v;obtain⟨⟨p,h,data2,k⟩,c,j,n2,d⟩:=id x;simp only at r hd j d;subst r hd j d;have e:vs.toArray++a.toArray=(vs++a).toArray:=by simp
 by_cases l:a=[]
 ·exact mK ⟨_,ho,rfl⟩ ⟨_,c,rfl⟩ kD l8 gO gF (gg _ _)
   (tuple_addW1 t b vs.toArray a.toArray n n2 q h m k (by simpa using o) (by simp[l])) ⟨ho,c,y l⟩
 ·refine mK ⟨_,ho,rfl⟩ ⟨_,c,rfl⟩ kD l8 gO gF (gg _ _)
   (tuple_addW2 t b vs.toArray a.toArray n n2 q h m k (by simpa using o) (by simpa using l) (by rw[ax,ax];exact hsz)) ⟨ho,c,?_⟩
  rw[e];exact u l
noncomputable def sIx(n d:Nat):Option Int->Nat
 |none=>d
 |some v=>if v < 0 then (v+(n:Int)).toNat else min v.toNat n
theorem sIx_none(n d:Nat):sIx n d none=d:=rfl
theorem sIx_nat(n d k:Nat):sIx n d (some (k:Int))=min k n:=by
 show(if (k:Int) < 0 then ((k:Int)+(n:Int)).toNat else min (k:Int).toNat n)=min k n;rw[if_neg (by lia),bt]
theorem a4n(n d:Nat)(hd:d <=n)(o:Option Int):sIx n d o <=n:=by
 cases o with
 |none=>exact hd
 |some v=>
  show(if v < 0 then (v+(n:Int)).toNat else min v.toNat n) <=n;by_cases a:v < 0
  ·rw[if_pos a];lia
  ·rw[if_neg a];exact Nat.min_le_right _ _
theorem ao8(v:Int)(n d:Nat):(if v < 0 then max (v+(n:Int)) 0 else min v (n:Int))=((sIx n d (some v):Nat):Int):=by
 show(if v < 0 then max (v+(n:Int)) 0 else min v (n:Int))=(((if v < 0 then (v+(n:Int)).toNat else min v.toNat n):Nat):Int);by_cases a:v < 0
 ·simp only[if_pos a];lia
 ·simp only[if_neg a];lia
theorem arx(lo a:Option Int)(n:Nat):cy lo a 1 (n:Int)=(((sIx n 0 lo:Nat):Int),((sIx n n a:Nat):Int)):=by
 have b: ¬((1:Int) < 0):=by lia
 unfold cy;simp only[b,if_false];refine Prod.ext ?_ ?_
 ·cases lo with
  |none=>rfl
  |some v=>exact ao8 v n 0
 ·cases a with
  |none=>rfl
  |some v=>exact ao8 v n n
theorem arz(i j:Nat):bT (i:Int) (j:Int) 1=j - i:=by
 unfold bT;have a:(1:Int)> 0:=by lia
 simp only[a,if_true,Int.ediv_one];split <;> lia
theorem ahy{v:ae}{o:Option Int}{Q:Option Int->af->Prop}(p:gP v o)(h:Q o s):wpAny (model prog w) A (Builtin.Slice.slicePartIndex v) Q E s:=by
 cases p with
 |none=>exact iH h
 |int i t=>exact slicePart_int h
theorem aci{e:Addr}{d c:ae}{lo b:Option Int}{Q:Int×Int×Nat->af->Prop}(hs:s.heap.IsSliceOf e d c .none)(pl:gP d lo)(j:gP c b)(h:Q (((sIx n 0 lo:Nat):Int),1,sIx n n b - sIx n 0 lo) s):wpAny (model prog w) A (fS (.ref e) (pure (n:Int))) Q E s:=by
 obtain⟨os,a,k,hds⟩:=id hs;unfold fS jU;refine ac (ac (bC a hds (x:=d) rfl (ac (bC a hds (x:=c) rfl (ac (bC a hds (x:=.none) rfl (ah ?_)))))));refine ac (iH ?_);show wpAny _ _ (if ((1:Int)==0)=true then _ else _) _ _ s;rw[if_neg (by decide)];refine ac (ahy pl (ac (ahy j (ac (ah ?_)))));show wpAny _ _ (match cy lo b 1 (n:Int) with|(lo,b)=>pure (lo,(1:Int),bT lo b 1)) _ _ s;rw[arx lo b n];show wpAny _ _ (pure (((sIx n 0 lo:Nat):Int),(1:Int),bT ((sIx n 0 lo:Nat):Int) ((sIx n n b:Nat):Int) 1)) _ _ s;rw[arz];exact ah h
theorem awd(xs:Array ae)(i k:Nat):((a8 k).filterMap λ(m:Nat)=>xs[((i:Int)+(m:Int)*1).toNat]?).toArray=((xs.toList.drop i).take k).toArray:=by
 have e:(λ(m:Nat)=>xs[((i:Int)+(m:Int)*1).toNat]?)=λm=>xs[i+m]?:=by
  funext m;have:((i:Int)+(m:Int)*1).toNat=i+m:=by lia
  rw[this]
 rw[e];have:=pick_run xs i k;rw[List.filterMap_map]at this;have a:((λx=>xs[x]?)∘λx=>i+x)=λm=>xs[i+m]?:=rfl
 rw[a]at this;rw[this]
theorem getItem_tuple_cut{t e:Addr}{n o:ae}{lo b:Option Int}(c:IsTup s.heap t items)(hs:s.heap.IsSliceOf e n o .none)(pl:gP n lo)(r:gP o b)(p: ¬(sIx items.size 0 lo=0/\sIx items.size items.size b=items.size))(h:Q (.ref s.heap.objs.size) {s with heap:=s.heap.push {cls:=.type "tuple",data:=.seq ((items.toList.drop (sIx items.size 0 lo)).take (sIx items.size items.size b - sIx items.size 0 lo)).toArray}})(hsz:items.size <=sizeLine):wpAny (model prog w) A (getItem (.ref t) (.ref e)) Q E s:=by
 have a:sizeOk (.seq ((items.toList.drop (sIx items.size 0 lo)).take (sIx items.size items.size b - sIx items.size 0 lo)).toArray):=by
  show((items.toList.drop (sIx items.size 0 lo)).take (sIx items.size items.size b - sIx items.size 0 lo)).toArray.size <=sizeLine;rw[ax,cU,gX,b8];lia
 have v:sIx items.size items.size b <=items.size:=a4n _ _ (aj _) b;obtain⟨os,l,j,hds⟩:=id hs;have k:s.TypeIs (.ref e) "slice":=⟨os,l,j⟩;unfold getItem
 try with_reducible refine bg ?_
 first|refine ac (ah ?_)|skip
 refine ac (gK c.typeIs (by decide) ?_)
 refine ac (bI (name:=bj "__getitem__") c.typeIs br
  (bL br c.typeIs iE ?_ (iT _ _)))
 show wpAny _ _ (dX (.ref t)>>=_) _ _ s;refine ac (md c ?_);refine ac (cQ k ?_);rw[if_pos (by decide)];refine ac (aci hs pl r ?_);have d: ¬((((sIx items.size 0 lo:Nat):Int)==0&&(1:Int)==1&&(sIx items.size items.size b - sIx items.size 0 lo)==items.size)=true):=by
  intro q;rw[aJ,aJ]at q;have q1:((sIx items.size 0 lo:Nat):Int)=0:=eq_of_beq q.1.1;have u:sIx items.size items.size b - sIx items.size 0 lo=items.size:=eq_of_beq q.2;exact p ⟨by lia,by lia⟩
 show wpAny _ _ (if (((sIx items.size 0 lo:Nat):Int)==0&&(1:Int)==1&&(sIx items.size items.size b - sIx items.size 0 lo)==items.size)=true then _ else _) _ _ s;rw[if_neg d,awd]
 first
  |exact ac (m:=cF _) (cr (ah ⟨_,rfl,ah h⟩) a)
  |exact ac (m:=cF _) (cr (ac (ah (ah ⟨_,rfl,ah h⟩))) a)
  |exact ac (ac (m:=cF _) (cr (ah (ah ⟨_,rfl,ah h⟩)) a))
  |exact ac (ac (m:=cF _) (cr (ah ⟨_,rfl,ah h⟩) a))
end
end HT
namespace L2
open PySem PySem.Spec PyProof.Rows
abbrev TO:=St->Hp->(Option Int->Hp->Prop)->Prop
def PO(X:Cx)(e:Option Expr)(t:TO):Prop:=
 ∀(pins:List (Addr×Obj)) (s:af) (σ:St) (H:Hp) (Q:Option Int->Hp->Prop),Inv X pins σ H s->t σ H Q ->
  wpAny (model X.prog X.w) X.A (evalPart e X.env) (λu s'=>∃o H',Inv X pins σ H' s'/\gP u o/\Q o H') X.xe s
noncomputable def a19:TO:=λ_ H Q=>Q none H
noncomputable def a81(t:TE):TO:=λσ H Q=>t σ H λx H1=>∃i,x=.int i/\Q (some i) H1
section
variable{X:Cx}{e:Expr}{te:TE}{lo hi:Option Expr}{tl th:TO}{pos p2:Pos}
theorem a18:PO X none a19:=by
 (first|refine⟨?_⟩|skip);intro a s σ H Q I h
 rw[me];exact ah ⟨none,H,I,.none,h⟩
theorem a26(h:PE X e te):PO X (some e) (a81 te):=by
 (first|refine⟨?_⟩|skip);intro a s σ H Q I b
 rw[evalPart_some];refine thn (h a s σ H _ I b) λu j ⟨x,c,I1,d,q1⟩=>?_
 obtain⟨i,rfl,q⟩:=q1;obtain⟨t,rfl⟩:=d;exact⟨some i,c,I1,.int i t,q⟩
def SlR(X:Cx)(r:V->Option Int->Option Int->Hp->VK->Prop):Prop:=
 ∀(pins:List (Addr×Obj)) (s:af) (σ:St) (H:Hp) (x:V) (v b a:ae) (lo hi:Option Int) (sl:Addr) (Q:VK),Inv X pins σ H s->RelV x v->s.heap.IsSliceOf sl b a .none->gP b lo->gP a hi->r x lo hi H Q ->
  ∃T id,typeLookup (.type T) "__getitem__"=pure (some (.builtin id))/\s.TypeIs v T/\wpAny (model X.prog X.w) X.A (getItem v (.ref sl)) (EP X pins σ Q) X.xe s
theorem SlR.or{r c:V->Option Int->Option Int->Hp->VK->Prop}(h:SlR X r)(h':SlR X c):SlR X (λx lo hi H Q=>r x lo hi H Q\/c x lo hi H Q):=by
 (first|refine⟨?_⟩|skip);intro a s σ H x v k e lo hi b Q I j hs pl d q
 rcases q with q|q
 ·exact h a s σ H x v k e lo hi b Q I j hs pl d q
 ·exact h' a s σ H x v k e lo hi b Q I j hs pl d q
noncomputable def tSl(r:V->Option Int->Option Int->Hp->VK->Prop)(te:TE)(a c:TO):TE:=λσ H Q=>te σ H λx H1=>a σ H1 λl H2=>c σ H2 λu b=>r x l u b Q
theorem ay8{r:V->Option Int->Option Int->Hp->VK->Prop}(hr:SlR X r)(y:PE X e te)(F:PO X lo tl)(o:PO X hi th):PE X (.Subscript e (.Slice lo hi none p2) pos) (tSl r te tl th):=by
 (first|refine⟨?_⟩|skip);intro a s σ H Q I h
 refine Subscript_ (thn (y a s σ H _ I h) λv O ⟨x,E,I1,n,q1⟩=>?_);refine wpAny_Slice (thn (F a O σ E _ I1 q1) λd p ⟨l,C,D,pl,m⟩=>thn (o a p σ C _ D m) λj c ⟨u,k,J,K,N⟩=>?_);rw[me];refine ah ?_;have M:Inv X a σ k {c with heap:=c.heap.push {cls:=.type "slice",data:=.fields #[d,j,.none]}}:=J.kept (t':=c.toks) λb ob q=>ag _ q
 obtain⟨T,id,L,t,z⟩:=hr a {c with heap:=c.heap.push {cls:=.type "slice",data:=.fields #[d,j,.none]}} σ k x v d j l u c.heap.objs.size Q M n (Heap.IsSliceOf.new ..) pl K N;show wpAny (model X.prog X.w) X.A (jE e (.Slice lo hi none p2) v (.ref c.heap.objs.size)) (EP X a σ Q) X.xe {c with heap:=c.heap.push {cls:=.type "slice",data:=.fields #[d,j,.none]}};exact tail_any (ops:=[.ref c.heap.objs.size,v]) t L z (by with_unfolding_all rfl)
def aaa(xs:List V)(lo a:Option Int):List V:=(xs.drop (HT.sIx xs.length 0 lo)).take (HT.sIx xs.length xs.length a - HT.sIx xs.length 0 lo)
theorem agq(xs:List V)(lo a:Option Int):(aaa xs lo a).length <=xs.length:=by
 unfold aaa;rw[cU,gX];lia
def a8t(K:ak):V->Option Int->Option Int->Hp->VK->Prop:=λx lo hi H Q=>∃a xs,x=.ref a/\SqT K H a xs/\
 ¬(HT.sIx xs.length 0 lo=0/\HT.sIx xs.length xs.length hi=xs.length)/\ ∀p,H p=none->Q (.ref p) (upd H p (.tup (aaa xs lo hi)))
theorem ams:SlR X (a8t X.K):=by
 (first|refine⟨?_⟩|skip);intro j s σ H x v u t lo d p Q I n hs pl m h
 obtain⟨a,xs,rfl,hx,l,q⟩:=h;cases n;obtain⟨e,r,k,hz⟩:=I.tuple hx;have c:e.toArray.size=xs.length:=by rw[ax];exact r.length.symm
 refine⟨"tuple",_,br.lookup,k.typeIs,?_⟩;refine HT.getItem_tuple_cut k hs pl m (by rw[c];exact l) ?_ (by rw[c];exact hz);rw[c];refine⟨.ref s.heap.objs.size,_,I.laid (t':=s.toks) (o:=.tup (aaa xs lo d)) (λb ob q=>ag _ q) (aj _) ?_,rfl,q _ (I.hok.fresh (aj _))⟩;exact⟨aN (agq xs lo d) hz,_,(r.drop (HT.sIx xs.length 0 lo)).take (HT.sIx xs.length xs.length d - HT.sIx xs.length 0 lo),ael.new _ _⟩
def a6s(K:ak):R2:=λx y H Q=>∃a b xs ys,x=.ref a/\y=.ref b/\SqT K H a xs/\SqT K H b ys/\xs≠ []/\xs.length+ys.length <=sizeLine/\
 (ys=[]->Q (.ref a) H)/\(ys≠ []->∀p,H p=none->Q (.ref p) (upd H p (.tup (xs++ys))))
theorem jl.nil_iff(r:jl xs us):us=[] ↔ xs=[]:=by
 cases r with
 |nil=>simp
 |cons _ _=>simp
theorem a0h:OpR X (binaryOp .Add) (a6s X.K):=by
 (first|refine⟨?_⟩|skip);intro e s σ H x y v u Q I r C h
 obtain⟨a,b,xs,n,rfl,rfl,p,A,hx,hz,q1,l⟩:=h;cases r;cases C;obtain⟨t,d,m,_⟩:=I.tuple p;obtain⟨j,c,k,_⟩:=I.tuple A;refine HT.cat_tup m k (λz=>hx (d.nil_iff.mp z)) (λz=>⟨.ref a,H,I,rfl,q1 (c.nil_iff.mp z)⟩) (λz=>?_) (by rw[←d.length,←c.length];exact hz);refine⟨.ref s.heap.objs.size,_,I.laid (t':=s.toks) (o:=.tup (xs++n)) (λb ob q=>ag _ q) (aj _) ?_,rfl,l (λw=>z (c.nil_iff.mpr w)) _ (I.hok.fresh (aj _))⟩;exact⟨by rw[aH];exact hz,_,d.append c,ael.new _ _⟩
end
noncomputable def ixN(n:Nat)(i:Int):Option Nat:=if 0 <=i then (if i < n then some i.toNat else none) else if -(n:Int) <=i then some (i+n).toNat else none
def atI{α:Type}(xs:List α)(i:Int):Option α:=(ixN xs.length i).bind λj=>xs[j]?
theorem aoo{i:Int}{j:Nat}(h:ixN n i=some j):seqIndex? i n=some j/\j < n/\ -(n:Int) <=i/\i < n:=by
 unfold ixN at h;by_cases b:0 <=i
 ·rw[if_pos b]at h;by_cases a:i < n
  ·rw[if_pos a]at h;have e:i.toNat=j:=bv h;exact⟨by rw[mU b a,e],by lia,by lia,a⟩
  ·rw[if_neg a]at h;cases h
 ·rw[if_neg b]at h;by_cases a: -(n:Int) <=i
  ·rw[if_pos a]at h;have e:(i+n).toNat=j:=bv h;exact⟨by rw[mL (by lia) a,e],by lia,a,by lia⟩
  ·rw[if_neg a]at h;cases h
theorem aj0{α:Type}{xs:List α}{i:Int}{v:α}(h:atI xs i=some v): ∃j,seqIndex? i xs.length=some j/\xs[j]?=some v/\j < xs.length/\ -(xs.length:Int) <=i/\i < xs.length:=by
 unfold atI at h;cases e:ixN xs.length i with
 |none=>rw[e]at h;cases h
 |some j=>
  rw[e]at h;obtain⟨b,a,d,c⟩:=aoo e;exact⟨j,b,h,a,d,c⟩
theorem ajl{α:Type}{xs:List α}{j:Nat}{v:α}(h:xs[j]?=some v):atI xs (j:Int)=some v:=by
 have a:j < xs.length:=(am.mp h).1;have e:ixN xs.length (j:Int)=some j:=by
  unfold ixN;rw[if_pos (by lia),if_pos (by lia)];simp
 unfold atI;rw[e];exact h
def ajb(b:Expr):Prop:= ∀o i,mV b false o i=operate [o,i] (getItem o i)
def IxR(X:Cx)(r:R2):Prop:=
 ∀(value slice:Expr) (pins:List (Addr×Obj)) (s:af) (σ:St) (H:Hp) (x y:V) (v u:ae) (Q:VK),Inv X pins σ H s->RelV x v->RelV y u->r x y H Q ->
  mV slice false v u=operate [v,u] (getItem v u)->wpAny (model X.prog X.w) X.A (jE value slice v u) (EP X pins σ Q) X.xe s
def MtR(X:Cx)(id:String)(r:V->List V->Hp->VK->Prop):Prop:=
 ∀(pins:List (Addr×Obj)) (s:af) (σ:St) (H:Hp) (x:V) (xs:List V) (v:ae) (us:List ae) (Q:VK),Inv X pins σ H s->RelV x v->jl xs us->r x xs H Q ->
  wpAny (model X.prog X.w) X.A (call (.builtin id) (v::us)) (EP X pins σ Q) X.xe s
section
variable{X:Cx}{a b:Expr}{ta tb:TE}{pos:Pos}
theorem IxR.or{r c:R2}(h:IxR X r)(h':IxR X c):IxR X (λx y H Q=>r x y H Q\/c x y H Q):=by
 intro a slice b s σ H x y v u Q I d e q hs;rcases q with q|q
 ·exact h a slice b s σ H x y v u Q I d e q hs
 ·exact h' a slice b s σ H x y v u Q I d e q hs
theorem MtR.or{id:String}{r b:V->List V->Hp->VK->Prop}(h:MtR X id r)(h':MtR X id b):MtR X id (λx xs H Q=>r x xs H Q\/b x xs H Q):=by
 (first|refine⟨?_⟩|skip);intro a s σ H x xs v d Q I c rs q
 rcases q with q|q
 ·exact h a s σ H x xs v d Q I c rs q
 ·exact h' a s σ H x xs v d Q I c rs q
theorem az5{r:R2}(hr:IxR X r)(e:PE X a ta)(l:PE X b tb)(hs:ajb b):PE X (.Subscript a b pos) (tOp r ta tb):=by
 (first|refine⟨?_⟩|skip);intro c s σ H Q I h
 exact Subscript_ (axj e l I h λv u k x y n d j m q=>hr a b c k σ n x y v u Q d j m q (hs _ _))
def a4r(K:ak):R2:=λx y H Q=>∃p xs i v,x=.ref p/\y=.int i/\SqL K H p xs/\atI xs i=some v/\Q v H
def a5u(K:ak):R2:=λx y H Q=>∃p xs i v,x=.ref p/\y=.int i/\SqT K H p xs/\atI xs i=some v/\Q v H
def a4e:R2:=λx y H Q=>∃z i c,x=.str z/\y=.int i/\z.length <=sizeLine/\atI z.cps.toList i=some c/\Q (.str ⟨#[c]⟩) H
theorem a08:IxR X (a4r X.K):=by
 intro e slice a s σ H x y v u Q I A C h hs;obtain⟨p,xs,i,z,rfl,rfl,J,D,q⟩:=h;cases A;obtain⟨t,rfl⟩:=C;obtain⟨d,r,pl,hz⟩:=I.list J;obtain⟨j,b,o,L,n,E⟩:=aj0 D;obtain⟨w,l,c⟩:=r.get o;have F:=r.length;have hn:=acz;have fin:EP X a σ Q w s:=⟨z,H,I,c,q⟩;by_cases m:0 <=i
 ·have k:i.toNat=j:=by
   rw[mU m E]at b;exact bv b
  exact item_listR pl.isList m (by lia) (by rw[k];simpa using l) fin hs
 ·have k:(i+(d.toArray.size:Int)).toNat=j:=by
   rw[mL (by lia) n]at b;rw[ax,←F];exact bv b
  exact ln (x:=w) pl.isList.typeIs slot_list_getitem.lookup
   (wpAny_getItem_list_neg (Q:=λr s'=>r=w/\EP X a σ Q r s') pl.isList (by lia) (by rw[ax] <;> lia) (by lia) (by rw[k];simpa using l) ⟨rfl,fin⟩) hs
theorem a5g:IxR X (a5u X.K):=by
 intro c slice a s σ H x y v u Q I l m h hs;obtain⟨p,xs,i,z,rfl,rfl,C,n,q⟩:=h;cases l;obtain⟨t,rfl⟩:=m;obtain⟨e,r,pl,hz⟩:=I.tuple C;obtain⟨j,A,k,F,D,E⟩:=aj0 n;obtain⟨w,d,b⟩:=r.get k;have o:=r.length;have hn:=acz;have fin:EP X a σ Q w s:=⟨z,H,I,b,q⟩;exact ln (x:=w) pl.typeIs slot_tuple_getitem.lookup
  (getItem_tuple (j:=j) (Q:=λr s'=>r=w/\EP X a σ Q r s') pl (by lia) (by lia) (by rw[ax,←o];exact A) (by simpa using d) ⟨rfl,fin⟩) hs
theorem a5n:IxR X a4e:=by
 intro a slice b s σ H x y v u Q I o p h hs;obtain⟨z,i,c,rfl,rfl,hz,r,q⟩:=h;obtain⟨t,rfl⟩:=o;obtain⟨t',rfl⟩:=p;obtain⟨j,d,n,A,e,w⟩:=aj0 r;have l:z.cps.toList.length=z.length:=by simp[Str.length]
 rw[l]at d e w;have hn:=acz
 exact tail_any (typeIs_str s z t) slot_str_getitem.lookup (getItem_str (c:=c) (by
  have m:decide (i < -(2^63:Int))=false:=decide_eq_false (by lia);have k:decide (i≥2^63)=false:=decide_eq_false (by lia)
  rw[m,k,Bool.or_false]) (by rw[d];simpa using n) ⟨.str ⟨#[c]⟩,H,I.tok _,⟨_,rfl⟩,q⟩) hs
def rIx(K:ak):R2:=λx y H Q=>a4r K x y H Q\/a5u K x y H Q\/a4e x y H Q
theorem auz:IxR X (rIx X.K):=a08.or (a5g.or a5n)
theorem ary(a:List ae)(n j:Nat)(u:ae):bJ (·.setIfInBounds j u) {cls:=.type "list",data:=.seq a.toArray n}={cls:=.type "list",data:=.seq (a.set j u).toArray n}:=by
 simp[bJ]
theorem Inv.lst(I:Inv X pins σ H s)(h:H p=some (.lst xs)):
  ∃(a:List ae) (n:Nat),jl xs a/\s.heap.get? p=some {cls:=.type "list",data:=.seq a.toArray n}/\xs.length <=sizeLine:=by
 obtain⟨z,a,n,r,e⟩:=I.hok p _ h;exact⟨a,n,r,e,z⟩
theorem Inv.lstUpd{c:List V}{its':List ae}{a:Nat}{f:Obj->Obj}(I:Inv X pins σ H s)(h:H p=some (.lst xs))(ho:s.heap.get? p=some {cls:=.type "list",data:=.seq its.toArray n})(d:f {cls:=.type "list",data:=.seq its.toArray n}={cls:=.type "list",data:=.seq its'.toArray a})(r:jl c its')(hz:c.length <=sizeLine)(t:Nat):
  Inv X pins σ (upd H p (.lst c)) {s with heap:=s.heap.update p f,toks:=t}:=by
 have e:(s.heap.update p f).get? p=some {cls:=.type "list",data:=.seq its'.toArray a}:=by
  rw[cB f ho (by rw[d] <;> rfl),d]
 refine I.write (x:=p) (e:=p) (by rw[h];trivial) (.inl rfl) (λb u j q=>(cR _ _ (bu j)).trans q) ⟨_,e⟩ ?_;exact⟨hz,its',a,r,e⟩
def a8o:V->V->V->Hp->(Hp->Prop)->Prop:=λo i v H Q=>∃p xs k j,o=.ref p/\i=.int k/\H p=some (.lst xs)/\ixN xs.length k=some j/\Q (upd H p (.lst (xs.set j v)))
theorem avy:ah2 X a8o:=by
 (first|refine⟨?_⟩|skip);intro b s σ H o i v F D u Q I C z y h
 obtain⟨p,xs,k,j,rfl,rfl,w,A,q⟩:=h;cases C;obtain⟨t,rfl⟩:=z;obtain⟨a,n,r,ho,hz⟩:=I.lst w;obtain⟨c,E,e,l⟩:=aoo A;have d:=r.length;have hn:=acz;have x:Inv X b σ (upd H p (.lst (xs.set j v))) {s with heap:=s.heap.update p (bJ (·.setIfInBounds j u))}:=
  I.lstUpd w ho (ary a n j u) (r.set y j) (by rw[List.length_set];exact hz) s.toks
 by_cases m:0 <=k
 ·have hk:k.toNat=j:=by
   rw[mU m l]at c;exact bv c
  exact PySem.W.ki_setAt ho m (by lia) (by rw[ax,←d];exact l) (by rw[hk];exact⟨_,x,q⟩)
 ·have hk:(k+(a.toArray.size:Int)).toNat=j:=by
   rw[mL (by lia) e]at c;rw[ax,←d];exact bv c
  exact PySem.W.ki_setBack ho (by lia) (by rw[ax,←d];exact e) (by lia) (by rw[hk];exact⟨_,x,q⟩)
theorem amq(lo a:Option Int)(n:Nat):(fW lo a none n).1=((HT.sIx n 0 lo:Nat):Int)/\(fW lo a none n).2.1=((HT.sIx n n a:Nat):Int)/\(fW lo a none n).2.2=1:=by
 refine⟨?_,?_,rfl⟩
 ·cases lo with
  |none=>simp[fW,HT.sIx]
  |some i=>
   simp only[fW,HT.sIx,Option.getD_none,show(1:Int)> 0 by decide,if_true];by_cases h:i < 0
   ·simp only[h,if_true] <;> lia
   ·simp only[h,if_false] <;> lia
 ·cases a with
  |none=>simp[fW,HT.sIx]
  |some i=>
   simp only[fW,HT.sIx,Option.getD_none,show(1:Int)> 0 by decide,if_true];by_cases h:i < 0
   ·simp only[h,if_true] <;> lia
   ·simp only[h,if_false] <;> lia
theorem akh(a:List ae)(lo b:Option Int):slicePick a.toArray lo b none=((a.drop (HT.sIx a.length 0 lo)).take (HT.sIx a.length a.length b - HT.sIx a.length 0 lo)).toArray:=by
 obtain⟨e,d,c⟩:=amq lo b a.toArray.size;unfold slicePick;rw[e,d,c];simp only[sliceRange_one,pick_run,ax] <;> rfl
def a9o(K:ak):V->Option Int->Option Int->Hp->VK->Prop:=λx lo hi H Q=>∃a xs,x=.ref a/\SqL K H a xs/\ ∀p,H p=none->Q (.ref p) (upd H p (.lst (aaa xs lo hi)))
theorem a0k:SlR X (a9o X.K):=by
 (first|refine⟨?_⟩|skip);intro e s σ H x v t p lo d n Q I m hs pl k h
 obtain⟨a,xs,rfl,hx,q⟩:=h;cases m;obtain⟨l,r,j,hz⟩:=I.list hx;have c:=r.length;refine⟨"list",_,slot_list_getitem.lookup,j.isList.typeIs,?_⟩;refine wpAny_getItem_list_slice j.isList hs pl k .none (by simp) ?_ (by rw[ax] <;> lia);rw[akh,←c];refine⟨.ref s.heap.objs.size,_,I.laid (t':=s.toks) (o:=.lst (aaa xs lo d)) (λb ob q=>ag _ q) (aj _) ?_,rfl,q _ (I.hok.fresh (aj _))⟩;exact⟨aN (agq xs lo d) hz,_,0,(r.drop (HT.sIx xs.length 0 lo)).take (HT.sIx xs.length xs.length d - HT.sIx xs.length 0 lo),aD _ rfl⟩
theorem ali:yn X (.builtin "len") (λxs H Q=>∃p ys,xs=[.ref p]/\(SqL X.K H p ys\/SqT X.K H p ys)/\Q (.int ys.length) H):=by
 (first|refine⟨?_⟩|skip);intro d s σ H xs j Q I r h
 obtain⟨p,ys,rfl,hq,q⟩:=h;obtain⟨u,rfl,e⟩:=vals1 r;cases e;have hn:=acz;rcases hq with hq|hq
 ·obtain⟨c,b,pl,hz⟩:=I.list hq;have a:=b.length;exact Calls.call_len_list pl.isList (by simp only[ax] <;> lia) ⟨.int ys.length,H,I.tok _,⟨s.toks+1,by rw[ax,a]⟩,q⟩
 ·obtain⟨c,b,pl,hz⟩:=I.tuple hq;have a:=b.length;exact len_tuple pl (by simp only[ax] <;> lia) ⟨.int ys.length,H,I.tok _,⟨s.toks+1,by rw[ax,a]⟩,q⟩
theorem amp:yn X (.builtin "len") (λxs H Q=>∃z,xs=[.str z]/\z.length <=sizeLine/\Q (.int z.length) H):=by
 (first|refine⟨?_⟩|skip);intro a s σ H xs b Q I r h
 obtain⟨z,rfl,hz,q⟩:=h;obtain⟨u,rfl,t,rfl⟩:=vals1 r;have hn:=acz;exact len_str (by lia) ⟨.int z.length,H,I.tok _,⟨_,rfl⟩,q⟩
theorem an9:yn X (.type "list") (λxs H Q=>∃p ys,xs=[.ref p]/\(SqL X.K H p ys\/SqT X.K H p ys)/\ ∀l,H l=none->Q (.ref l) (upd H l (.lst ys))):=by
 (first|refine⟨?_⟩|skip);intro d s σ H xs v Q I r h
 obtain⟨p,ys,rfl,hq,q⟩:=h;obtain⟨u,rfl,t⟩:=vals1 r;cases t;have fin: ∀(a:List ae),jl ys a->ys.length <=sizeLine->∀(h':Heap) (c':Nat),(∀b m,s.heap.get? b=some m->h'.get? b=some m) ->
   h'.get? s.heap.objs.size=some {cls:=.type "list",dict:=none,data:=.seq a.toArray c',slots:= #[]}->EP X d σ Q (.ref s.heap.objs.size) {s with heap:=h'}:=λa c hz h' c' kp e=>
  ⟨.ref s.heap.objs.size,_,I.laid (t':=s.toks) kp (aj _) (show km X.prog X.w _ h' _ (.lst ys) from ⟨hz,a,c',c,e⟩),rfl,q _ (I.hok.fresh (aj _))⟩
 rcases hq with hq|hq
 ·obtain⟨a,c,pl,hz⟩:=I.list hq;have j:=c.length;obtain⟨o,ho,k,n,hd⟩:=pl.isList;exact call_list_seq p (.inl rfl) ho k hd (λh' c' kp e=>fin a c hz h' c' kp e) (by simp only[ax] <;> lia)
 ·obtain⟨a,c,pl,hz⟩:=I.tuple hq;have j:=c.length;obtain⟨o,ho,k,n,hd⟩:=pl;exact call_list_seq p (.inr rfl) ho k hd (λh' c' kp e=>fin a c hz h' c' kp e) (by simp only[ax] <;> lia)
theorem akj:yn X (.type "tuple") (λxs H Q=>∃p ys,xs=[.ref p]/\((SqL X.K H p ys/\ ∀l,H l=none->Q (.ref l) (upd H l (.tup ys)))\/(SqT X.K H p ys/\Q (.ref p) H))):=by
 (first|refine⟨?_⟩|skip);intro a s σ H xs t Q I r h
 obtain⟨p,ys,rfl,h⟩:=h;obtain⟨u,rfl,m⟩:=vals1 r;cases m;rcases h with ⟨j,q⟩|⟨j,q⟩
 ·obtain⟨c,d,pl,hz⟩:=I.list j;have k:=d.length;refine call_tuple_list pl.isList (λh' kp=>?_) (by simp only[ax] <;> lia);have I1:Inv X a σ H {s with heap:=h'}:=I.kept (t':=s.toks) kp;have n:Inv X a σ (upd H h'.objs.size (.tup ys)) {s with heap:=h'.push {cls:=.type "tuple",data:=.seq c.toArray}}:=
   I1.laid (t':=s.toks) (λb o e=>ag _ e) (aj _) (show km X.prog X.w _ _ _ (.tup ys) from ⟨hz,c,d,ael.new _ _⟩)
  exact⟨.ref h'.objs.size,_,n,rfl,q _ (I1.hok.fresh (aj _))⟩
 ·obtain⟨c,d,pl,hz⟩:=I.tuple j;exact call_tuple_same pl ⟨.ref p,H,I,rfl,q⟩
def tyV(K:ak)(T:String)(x:V)(H:Hp):Prop:=match x with
 |.str _=>T="str"
 |.int _=>T="int"
 | .ref p=>(T="list"/\ ∃xs,SqL K H p xs)\/(T="tuple"/\ ∃o,K.lookup p=some o/\o.cls=.type "tuple"/\o.dict=none)\/
   (T="dict"/\((∃kvs,H p=some (.dK kvs))\/ ∃kvs,H p=some (.dT kvs)))\/(T="set"/\ ∃S n,H p=some (.set S n))
 |_=>False
theorem a5s{x:V}{v:ae}(I:Inv X pins σ H s)(r:RelV x v)(b:tyV X.K T x H):
  s.TypeIs v T/\ ∀a,v=.ref a->∃ob,s.heap.get? a=some ob/\ob.dict=none:=by
 cases x with
 |str z=>
  obtain⟨t,rfl⟩:=r;cases (show T="str" from b);exact⟨typeIs_str s z t,λ_ e=>nomatch e⟩
 |int i=>
  obtain⟨t,rfl⟩:=r;cases (show T="int" from b);exact⟨typeIs_int s i t,λ_ e=>nomatch e⟩
 | ref p=>
  cases r;rcases b with ⟨rfl,xs,j⟩|⟨rfl,o,hk,k,hd⟩|⟨rfl,hk⟩|⟨rfl,S,n,hk⟩
  ·obtain⟨h,_,pl,_⟩:=I.list j;refine⟨pl.isList.typeIs,λa e=>?_⟩;cases e;obtain⟨o,n,e,c,hd,_⟩:=pl;exact⟨o,e,hd⟩
  ·refine⟨⟨o,I.kIn p o hk,k⟩,λa e=>?_⟩;cases e;exact⟨o,I.kIn _ o hk,hd⟩
  ·have z: ∃o,s.heap.get? p=some o/\o.ExactDict:=by
    rcases hk with ⟨kvs,hk⟩|⟨kvs,hk⟩
    ·obtain⟨_,_,_,_,_,o,_,_,e,ex,_⟩:=I.hok p _ hk;exact⟨o,e,ex⟩
    ·obtain⟨_,_,_,_,o,_,_,e,ex,_⟩:=I.hok p _ hk;exact⟨o,e,ex⟩
   obtain⟨o,e,ex⟩:=z;refine⟨⟨o,e,ex.1⟩,λa d=>?_⟩;cases d;exact⟨o,e,ex.2.1⟩
  ·obtain⟨o,_,_,_,e,ex,_⟩:=I.hok p _ hk;refine⟨⟨o,e,ex.1⟩,λa d=>?_⟩;cases d;exact⟨o,e,ex.2.1⟩
 |_=>exact di b
noncomputable def tBM(K:ak)(T:String)(r:V->List V->Hp->VK->Prop)(to:TE)(t:TA):TE:=λσ H Q=>to σ H λx H1=>tyV K T x H1/\t σ H1 λxs H2=>r x xs H2 Q
variable{o e:Expr}{es:List Expr}{to:TE}{t:TA}{name:Str}{apos cpos:Pos}{T id:String}{r:V->List V->Hp->VK->Prop}
theorem a8j(n:PlainAttrs T)(slot:Slot T name id)(k:typeOf (.builtin id)=pure (.type "method_descriptor"))(hm:MtR X id r)(ho:PE X o to)(q:PA X (e::es) t)
  (d:fR o name X.env (eval o X.env)=eval o X.env:=by rfl)
  (j:((backTo cpos (starEach (e::es) X.env)).all (λx=>!x.1)&&(backToKw cpos (iN [] X.env)).all (λx=>x.1.isSome)
   &&decide ((e::es).length+([]:List lG).length+(if ([]:List lG).isEmpty then 0 else 1) < 30))=true:=by rfl)
  (c:(apos.endLine==cpos.line)=true:=by rfl) (hs:starEach (e::es) X.env=(false,eval e X.env)::starEach es X.env:=by rfl) (b:(backTo cpos (starEach es X.env)).any (·.1)=false:=by rfl):
  PE X (.Call (.Attribute o name apos) (e::es) [] cpos) (tBM X.K T r to t):=by
 (first|refine⟨?_⟩|skip);intro a s σ H Q I h
 refine lp d j c rfl (thn (ho a s σ H _ I h) λv J ⟨x,E,I1,m,C,q1⟩=>?_);obtain⟨F,u⟩:=a5s I1 m C;refine⟨T,id,n,slot,k,F,u,?_⟩;have l:=q cpos a J σ E _ I1 q1;rw[hs]at l⊢;refine lq (by show(false||(backTo cpos (starEach es X.env)).any (·.1))=false;rw[b] <;> rfl) (lT ?_);exact thn l λy z ⟨vs,A,D,w,p⟩=>hm a z σ A x vs v y Q D m w p
end
def MtM(X:Cx)(id:String)(r:V->List V->Hp->VK->Prop):Prop:=
 ∀(pins:List (Addr×Obj)) (s:af) (σ:St) (H:Hp) (x:V) (xs:List V) (v:ae) (us:List ae) (Q:VK),Inv X pins σ H s->RelV x v->jl xs us->r x xs H Q ->
  wpAny (model X.prog X.w) X.A (call (.builtin id) (v::us)) (EP X pins σ Q) X.xe s
theorem jl.one: ∀{x:V} {a:List ae},jl [x] a->∃u,a=[u]/\RelV x u
 |_,_,.cons r .nil=>⟨_,rfl,r⟩
theorem jl.two: ∀{x y:V} {a:List ae},jl [x,y] a->∃u v,a=[u,v]/\RelV x u/\RelV y v
 |_,_,_,.cons r (.cons q .nil)=>⟨_,_,rfl,r,q⟩
section
variable{X:Cx}{pins:List (Addr×Obj)}{σ:St}{H:Hp}{s:af}{l b:Addr}{xs ys zs:List V}
theorem Inv.lset{its':List ae}{f:Array ae->Array ae}{t':Nat}(I:Inv X pins σ H s)(a:H l=some (.lst xs))(e:s.heap.get? l=some {cls:=.type "list",data:=.seq its.toArray n})(h:f its.toArray=its'.toArray)(b:jl ys its')(hz:ys.length <=sizeLine):
  Inv X pins σ (upd H l (.lst ys)) {s with heap:=s.heap.update l (bJ f),toks:=t'}:=by
 have q:=PySem.IsL.update e f;rw[h]at q;refine I.write (x:=l) (e:=l) (by rw[a];exact trivial) (.inl rfl) (λj u d c=>(cR s.heap (bJ f) (bu d)).trans c) ⟨_,q⟩ ?_;exact⟨hz,its',_,b,q⟩
theorem Inv.lnew{t':Nat}(I:Inv X pins σ H s)(a:jl ys its)(hz:ys.length <=sizeLine):
  Inv X pins σ (upd H s.heap.objs.size (.lst ys)) {s with heap:=s.heap.push {cls:=.type "list",data:=.seq its.toArray},toks:=t'}:=
 I.laid (λ_ _ q=>ag _ q) (aj _) ⟨hz,its,0,a,aD _ rfl⟩
theorem Inv.fresh(I:Inv X pins σ H s):H s.heap.objs.size=none:=I.hok.fresh (aj _)
theorem Inv.lstM(I:Inv X pins σ H s)(b:H l=some (.lst xs)):xs.length <=sizeLine/\ ∃(a:List ae) (n:Nat),jl xs a/\xs.length=a.length/\s.heap.get? l=some {cls:=.type "list",data:=.seq a.toArray n}:=by
 obtain⟨z,a,n,r,e⟩:=I.hok l _ b;exact⟨z,a,n,r,r.length,e⟩
theorem amj(h:n <=sizeLine):dj n=false:=by
 unfold dj;exact decide_eq_false (by lia)
end
def a0a:V->List V->Hp->VK->Prop:=λx vs H Q=>∃l xs y,x=.ref l/\vs=[y]/\H l=some (.lst xs)/\xs.length < sizeLine/\Q .non (upd H l (.lst (xs++ [y])))
theorem afv:MtM X "list.append" a0a:=by
 (first|refine⟨?_⟩|skip);intro b s σ H x vs v o Q I k d h
 obtain⟨l,xs,y,rfl,rfl,c,hz,q⟩:=h;cases k;obtain⟨u,rfl,j⟩:=d.one;obtain⟨z,a,n,r,m,e⟩:=I.lstM c;refine ii F.slot_list_append ⟨_,e,rfl⟩ F.entry_list_append (F.args_list_append_2 _ _) (PySem.list_append l a.toArray n u (by rw[ax];lia)) ⟨e,?_⟩;refine⟨.non,_,I.lset (its':=a++ [u]) c e (by simp) (r.append (.cons j .nil)) ?_,rfl,q⟩;rw[aH,ib];lia
def a0b:V->List V->Hp->VK->Prop:=λx vs H Q=>∃l b xs zs,x=.ref l/\vs=[.ref b]/\H l=some (.lst xs)/\H b=some (.lst zs)/\xs.length+zs.length <=sizeLine/\Q .non (upd H l (.lst (xs++zs)))
theorem aus:MtM X "list.extend" a0b:=by
 (first|refine⟨?_⟩|skip);intro k s σ H x vs v E Q I p t h
 obtain⟨l,b,xs,C,rfl,rfl,j,m,hz,q⟩:=h;cases p;obtain⟨u,rfl,o⟩:=t.one;cases o;obtain⟨z,c,n,r,J,e⟩:=I.lstM j;obtain⟨D,a,n2,A,w,y⟩:=I.lstM m;have hsz:c.toArray.size+a.toArray.size <=sizeLine:=by rw[ax,ax];lia
 have d: ¬(!c.toArray.isEmpty&&dj (c.toArray.size+a.toArray.size))=true:=by
  rw[amj hsz,Bool.and_false];exact az
 refine ii F.slot_list_extend ⟨_,e,rfl⟩ mr (lU _ _)
  (AutoSeq1.list_extend_list_list_0 l c.toArray n b a.toArray n2 d (by rw[ax];lia) (by lia)) ⟨e,y,?_⟩
 refine⟨.non,_,I.lset (its':=c++a) j e (by simp) (r.append A) ?_,rfl,q⟩;rw[aH];lia
def a9r:R2:=λx y H Q=>∃l b xs zs,x=.ref l/\y=.ref b/\H l=some (.lst xs)/\H b=some (.lst zs)/\xs.length+zs.length <=sizeLine/\ ∀p,H p=none->Q (.ref p) (upd H p (.lst (xs++zs)))
theorem a5z:OpR X (binaryOp .Add) a9r:=by
 (first|refine⟨?_⟩|skip);intro d s σ H x y v u Q I o w h
 obtain⟨l,b,xs,C,rfl,rfl,m,j,hz,q⟩:=h;cases o;cases w;obtain⟨z,c,n,r,E,e⟩:=I.lstM m;obtain⟨D,a,n2,p,A,k⟩:=I.lstM j;refine PySem.P.add_list e k ?_ (by rw[ax,ax];lia);have t:c.toArray++a.toArray=(c++a).toArray:=by simp
 rw[t];exact⟨.ref _,_,I.lnew (t':=s.toks) (r.append p) (by rw[aH];lia),rfl,q _ I.fresh⟩
section
variable{κ:Type}[DecidableEq κ]
noncomputable def vo(kvs:List (κ×V))(k:κ):Option V:=(kvs.find? λa=>decide (a.1=k)).map (·.2)
noncomputable def jp(kvs:List (κ×V))(k:κ)(v:V):List (κ×V):=
 if (kvs.any λa=>decide (a.1=k))=true then kvs.map (λa=>if a.1=k then (a.1,v) else a) else kvs++ [(k,v)]
theorem aa4{p:κ×V}{r:List (κ×V)}{k:κ}(e:p.1=k):vo (p::r) k=some p.2:=by simp[vo,bW,e]
theorem aa7{p:κ×V}{r:List (κ×V)}{k:κ}(e: ¬p.1=k):vo (p::r) k=vo r k:=by simp[vo,bW,e]
theorem aco(k:κ): ∀kvs:List (κ×V),(kvs.any λa=>decide (a.1=k))=(vo kvs k).isSome
 |[]=>rfl
 |p::r=>by
  rw[dC];by_cases e:p.1=k
  ·simp only[aa4 e,decide_eq_true e,Bool.true_or,cY]
  ·rw[aa7 e,decide_eq_false e,mf];exact aco k r
theorem vh(kvs:List (κ×V))(k:κ)(v:V):(jp kvs k v).length <=kvs.length+1:=by
 unfold jp;split
 ·rw[ao];lia
 ·rw[aH,aE,dk];lia
theorem vy.isSome_eq{o:Option V}{u:Option ae}(r:vy o u):o.isSome=u.isSome:=by
 cases o with
 |none=>cases u with
  |none=>rfl
  |some _=>exact(show False from r).elim
 |some _=>cases u with
  |none=>exact(show False from r).elim
  |some _=>rfl
theorem vy.getD{o:Option V}{u:Option ae}{d:V}{d':ae}(r:vy o u)(rd:RelV d d'):RelV (o.getD d) (u.getD d'):=by
 cases o with
 |none=>cases u with
  |none=>exact rd
  |some _=>exact(show False from r).elim
 |some _=>cases u with
  |none=>exact(show False from r).elim
  |some _=>exact r
theorem KV.val{kvs:List (κ×V)}{vs:List (κ×ae)}(r:KV kvs vs)(k:κ):vy (vo kvs k) (valueAt vs k):=by
 unfold KV at r;induction r with
 |nil=>exact eB
 | @cons p q ps a h t l=>
  obtain⟨d,j⟩:=h;by_cases e:p.1=k
  ·have c:q.1=k:=d.symm.trans e;have b:valueAt (q::a) k=some q.2:=by simp[valueAt,bW,c]
   rw[aa4 e,b];exact j
  ·have c: ¬q.1=k:=λz=>e (d.trans z)
   have b:valueAt (q::a) k=valueAt a k:=by simp[valueAt,bW,c]
   rw[aa7 e,b];exact l
theorem KV.any{kvs:List (κ×V)}{vs:List (κ×ae)}(r:KV kvs vs)(k:κ):(kvs.any λa=>decide (a.1=k))=vs.any λa=>decide (a.1=k):=by
 unfold KV at r;induction r with
 |nil=>rfl
 |cons h t b=>rw[dC,dC,b,h.1]
theorem KV.repl{kvs:List (κ×V)}{vs:List (κ×ae)}(r:KV kvs vs)(k:κ)(d:RelV y u):
  KV (kvs.map λa=>if a.1=k then (a.1,y) else a) (vs.map λa=>if a.1=k then (a.1,u) else a):=by
 unfold KV at r⊢;induction r with
 |nil=>exact .nil
 | @cons p q ps l h t j=>
  rw[aw,aw];refine .cons ?_ j;obtain⟨b,c⟩:=h;by_cases e:p.1=k
  ·rw[if_pos e,if_pos (b.symm.trans e)];exact⟨b,d⟩
  ·rw[if_neg e,if_neg (λz=>e (b.trans z))];exact⟨b,c⟩
theorem KV.put{kvs:List (κ×V)}{vs:List (κ×ae)}(r:KV kvs vs)(k:κ)(a:RelV y u):KV (jp kvs k y) (stored vs k u):=by
 unfold jp stored;rw[r.any k];by_cases e:(vs.any λb=>decide (b.1=k))=true
 ·rw[if_pos e,if_pos e];exact r.repl k a
 ·rw[if_neg e,if_neg e];exact mW r ⟨rfl,a⟩
theorem KV.length{kvs:List (κ×V)}{vs:List (κ×ae)}(r:KV kvs vs):kvs.length=vs.length:=bV r
end
theorem aas{w:aM}{k:Key}(r:RelV (kV k) u):(jx P w).is k u=true:=by
 cases k with
 |inl i=>obtain⟨t,e⟩:=(show∃t,u=hU i t from r);subst e;exact anu P w i t
 |inr x=>obtain⟨t,e⟩:=(show∃t,u=iR x t from r);subst e;exact ao0 P w x t
theorem ajs{P:aP}{w:aM}: ∀{ks:List Key} {a:List ae},jl (ks.map kV) a->ItemsAre (jx P w) ks a
 |[],_,r=>by rw[mH]at r;cases r;exact .nil
 |k::ks,_,r=>by
  rw[aw]at r;cases r with
  |cons h t=>exact .cons (aas h) (ajs t)
abbrev KT(H:Hp):List (List Key×V)->List (List Key×Addr×ae)->Prop:=eE λp q=>p.1=q.1/\H q.2.1=some (.tup (p.1.map kV))/\RelV p.2 q.2.2
theorem KT.val{kvs:List (List Key×V)}{xs:List (List Key×Addr×ae)}(r:KT H kvs xs)(k:List Key):vy (vo kvs k) ((atKey xs k).map (·.2)):=by
 induction r with
 |nil=>exact eB
 | @cons p q ps a h t l=>
  obtain⟨d,_,j⟩:=h;by_cases e:p.1=k
  ·have c:q.1=k:=d.symm.trans e;have b:atKey (q::a) k=some q.2:=by simp[atKey,bW,c]
   rw[aa4 e,b];exact j
  ·have c: ¬q.1=k:=λz=>e (d.trans z)
   have b:atKey (q::a) k=atKey a k:=by simp[atKey,bW,c]
   rw[aa7 e,b];exact l
theorem KT.repl{kvs:List (List Key×V)}{xs:List (List Key×Addr×ae)}(r:KT H kvs xs)(k:List Key)(j:RelV y u):
  KT H (kvs.map λb=>if b.1=k then (b.1,y) else b) (xs.map (putAt k u)):=by
 induction r with
 |nil=>exact .nil
 | @cons p q ps m h t l=>
  rw[aw,aw];refine .cons ?_ l;obtain⟨a,c,d⟩:=h;unfold putAt;by_cases e:p.1=k
  ·rw[if_pos e,if_pos (a.symm.trans e)];exact⟨a,c,j⟩
  ·rw[if_neg e,if_neg (λz=>e (a.trans z))];exact⟨a,c,d⟩
theorem KT.put{kvs:List (List Key×V)}{xs:List (List Key×Addr×ae)}(r:KT H kvs xs)(k:List Key)(d:H b=some (.tup (k.map kV)))(a:RelV y u):
  KT H (jp kvs k y) (storedH xs k b u):=by
 have e:(kvs.any λc=>decide (c.1=k))=(atKey xs k).isSome:=by
  rw[aco,(r.val k).isSome_eq,bZ]
 unfold jp storedH;rw[e];by_cases q:(atKey xs k).isSome=true
 ·rw[if_pos q,if_pos q];exact r.repl k a
 ·rw[if_neg q,if_neg q];exact mW r ⟨rfl,d,a⟩
theorem KT.keeps{kvs:List (List Key×V)}{xs:List (List Key×Addr×ae)}(r:KT H kvs xs)(a: ∀b ys,H b=some (.tup ys)->H' b=some (.tup ys)):KT H' kvs xs:=
 Paired.mapP r λ_ _ z=>⟨z.1,a _ _ z.2.1,z.2.2⟩
section
variable{P:aP}{w:aM}{H:Hp}{h:Heap}{a:Addr}
theorem azg{u:HO}(ok:HOk P w H h)(e:Rd H a u):km P w H h a u:=e.ok ok
theorem ai2{kvs:List (Key×V)}(ok:HOk P w H h)(e:Rd H a (.dK kvs)):kvs.length <=sizeLine/\(a==bA)=false/\ ∃vs,KV kvs vs/\h.DictOf (jx P w) a vs:=
 (show km P w H h a (.dK kvs) from azg ok e).2
theorem aeo{kvs:List (Key×V)}(ok:HOk P w H h)(e:H a=some (.dK kvs)):kvs.length <=sizeLine/\(a==bA)=false/\ ∃vs,KV kvs vs/\h.DictOf (jx P w) a vs:=ai2 ok (.inl e)
theorem adu{ks:List Key}(ok:HOk P w H h)(e:H a=some (.tup (ks.map kV))):(h8 (jx P w)).is h ks a:=by
 obtain⟨_,b,r,p⟩:=(show km P w H h a (.tup (ks.map kV)) from ok a _ e);obtain⟨o,d,c,n,j⟩:=p.tup;exact⟨o,b.toArray,n,d,c,j,by simpa using ajs r⟩
theorem ain{kvs:List (List Key×V)}(ok:HOk P w H h)(e:Rd H a (.dT kvs)):kvs.length <=sizeLine/\(a==bA)=false/\
  ∃xs,KT H kvs xs/\h.DictOfH (h8 (jx P w)) a xs:=by
 obtain⟨z,y,xs,r,o,es,ep,j,d,k,c,u⟩:=(show km P w H h a (.dT kvs) from azg ok e);refine⟨z,y,xs,r,o,es,ep,j,d,k,c,λx hx=>?_,u⟩;have all: ∀{l:List (List Key×V)} {m:List (List Key×Addr×ae)},KT H l m->∀x∈m,(h8 (jx P w)).is h x.1 x.2.1:=by
  intro l m q;induction q with
  |nil=>intro x hx;exact nomatch hx
  | @cons p q ps v b t n=>
   intro x hx;rcases aL.mp hx with e|hx
   ·subst e;exact adu ok (by rw[←b.1];exact b.2.1)
   ·exact n x hx
 exact all r x hx
theorem a8p{kvs:List (List Key×V)}(ok:HOk P w H h)(e:H a=some (.dT kvs)):kvs.length <=sizeLine/\(a==bA)=false/\
  ∃xs,KT H kvs xs/\h.DictOfH (h8 (jx P w)) a xs:=ain ok (.inl e)
end
def ad9(H:Hp)(a:Addr)(y:V)(r:Option V):Prop:=
 (∃kvs k,Rd H a (.dK kvs)/\y=kV k/\r=vo kvs k)\/ ∃kvs k b,Rd H a (.dT kvs)/\y=.ref b/\H b=some (.tup (k.map kV))/\r=vo kvs k
def arm(H:Hp)(a:Addr)(y v:V)(H':Hp):Prop:=
 (∃kvs k,H a=some (.dK kvs)/\y=kV k/\kvs.length < sizeLine/\H'=upd H a (.dK (jp kvs k v)))\/
 ∃kvs k b,H a=some (.dT kvs)/\y=.ref b/\H b=some (.tup (k.map kV))/\kvs.length < sizeLine/\H'=upd H a (.dT (jp kvs k v))
theorem ad9.k{a:Addr}{kvs:List (Key×V)}{k:Key}(e:H a=some (.dK kvs)):ad9 H a (kV k) (vo kvs k):=.inl ⟨kvs,k,.inl e,rfl,rfl⟩
theorem arm.k{a:Addr}{kvs:List (Key×V)}{k:Key}(e:H a=some (.dK kvs))(b:kvs.length < sizeLine):arm H a (kV k) v (upd H a (.dK (jp kvs k v))):=.inl ⟨kvs,k,e,rfl,b,rfl⟩
section
variable{X:Cx}{pins:List (Addr×Obj)}{σ:St}{H:Hp}{s:af}{a:Addr}{y v:V}{u r:ae}{o:Option V}{A:bh}{E:ae->af->Prop}
theorem Inv.big(I:Inv X pins σ H s):bA < s.heap.objs.size:=by
 have h:a7 < s.heap.objs.size:=(I.mod.glob.keeps I.bk).lt;exact eG (by decide) h
theorem a92(n:A.units+1 < cLine)(I:Inv X pins σ H s)(g:ad9 H a y o)(j:RelV y u)(h: ∀s',Inv X pins σ H s'->Q (.bool o.isSome) s'):
  wpAny (model X.prog X.w) A (bb .In u (.ref a)) Q E s:=by
 rcases g with ⟨kvs,k,e,d,l⟩|⟨kvs,k,b,e,d,m,l⟩
 ·subst d;obtain⟨z,hd,vs,rel,c⟩:=ai2 I.hok e;refine wpAny_in_of (aas j) hd c.mapOf ?_;rw[←(rel.val k).isSome_eq,←l];exact h _ (I.tok _)
 ·subst d;cases (show u=bi b from j);obtain⟨z,hd,xs,rel,c⟩:=ain I.hok e;refine wpAny_in_heap (eV n) (adu I.hok m) hd c ?_;have q:=(rel.val k).isSome_eq;rw[bZ]at q;rw[←q,←l];exact h _ (I.tok _)
theorem a0p(n:A.units+1 < cLine)(I:Inv X pins σ H s)(g:ad9 H a y o)(j:RelV y u)(h: ∀s',Inv X pins σ H s'->Q (.bool (!o.isSome)) s'):
  wpAny (model X.prog X.w) A (bb .NotIn u (.ref a)) Q E s:=by
 rcases g with ⟨kvs,k,e,d,l⟩|⟨kvs,k,b,e,d,m,l⟩
 ·subst d;obtain⟨z,hd,vs,rel,c⟩:=ai2 I.hok e;refine wpAny_notIn_of (aas j) hd c.mapOf ?_;rw[←(rel.val k).isSome_eq,←l];exact h _ (I.tok _)
 ·subst d;cases (show u=bi b from j);obtain⟨z,hd,xs,rel,c⟩:=ain I.hok e;refine wpAny_notIn_heap (eV n) (adu I.hok m) hd c ?_;have q:=(rel.val k).isSome_eq;rw[bZ]at q;rw[←q,←l];exact h _ (I.tok _)
theorem aaw{t':Nat}{ob:HO}(I:Inv X pins σ H s)(d:Mut (H a))(hs:bX a s.heap h')(h: ∃q,h'.get? a=some q)(new:km X.prog X.w (upd H a ob) h' a ob):
  Inv X pins σ (upd H a ob) {s with heap:=h',toks:=t'}:=
 I.write (x:=a) (e:=a) d (.inl rfl) (λb q c z=>(hs.2 b c).trans z) h new
theorem ajy{κ:Type}[DecidableEq κ](kvs:List (κ×V))(k:κ)(v:V):jp kvs k v≠ []:=by
 unfold jp;split
 ·rename_i c;intro z;rw[ms]at z;subst z;simp at c
 ·simp
theorem ai8{w:aM}{kvs:List (Key×V)}{vs:List (Key×ae)}(z:kvs.length <=sizeLine)(hd:(a==bA)=false)(rel:KV kvs vs)(b:h'.DictOf (jx P w) a vs)(ne:kvs=[]->Emp h' a:=by exact λz=>absurd z (ajy _ _ _)):
  km P w H' h' a (.dK kvs):=⟨ne,z,hd,vs,rel,b⟩
theorem av1{Q:Unit->af->Prop}(K:A.units+1 < cLine)(I:Inv X pins σ H s)(g:arm H a y v H')(t:RelV y u)(x:RelV v r)(h: ∀s',Inv X pins σ H' s'->Q () s'):
  wpAny (model X.prog X.w) A (setItem (.ref a) u r) Q E s:=by
 rcases g with ⟨kvs,k,e,n,l,m⟩|⟨kvs,k,b,e,n,D,l,m⟩
 ·subst n m;obtain⟨z,hd,vs,rel,p⟩:=aeo I.hok e;have hz:vs.length <=sizeLine:=by rw[←rel.length];exact z
  have o:(jp kvs k v).length <=sizeLine:=by have:=vh kvs k v;lia
  refine wpAny_setItem_pairs (hsz:=hz) (aas t) p λh' d hs=>h _ ?_
  have L: ∃q,h'.get? a=some q:=let ⟨q,_,_,j,_⟩:=d;⟨q,j⟩;exact aaw I (by rw[e];exact eB) hs L (ai8 o hd (rel.put k x) d)
 ·subst n m;cases (show u=bi b from t);obtain⟨z,hd,xs,rel,p⟩:=a8p I.hok e;have hz:xs.length <=sizeLine:=by rw[←bV rel];exact z
  have o:(jp kvs k v).length <=sizeLine:=by have:=vh kvs k v;lia
  refine wpAny_setItem_heap (hsz:=hz) (eV K) (adu I.hok D) p λh' d hs=>h _ ?_
  obtain⟨q,es,ep,j,J,N,F,_,M⟩:=d;refine aaw I (by rw[e];exact eB) hs ⟨q,j⟩ ⟨o,hd,_,(rel.put k D x).keeps λc O C=>?_,q,es,ep,j,J,N,F,M⟩;rw[j7 (a8k C e (λz=>nomatch z))];exact C
end
theorem anb{w:aM}(h:Heap)(a:bA < h.objs.size):km P w H (h.push {cls:=.type "dict",data:=.dict #[]}) h.objs.size (.dK []):=
 ⟨λ_=>⟨_,aD _ rfl,⟨rfl,rfl,rfl⟩,rfl⟩,bn _,beq_eq_false_iff_ne.mpr (bu (aI a)),[],.nil,kY h⟩
def a55:TE:=λ_ H Q=>∀p,H p=none->Q (.ref p) (upd H p (.dK []))
theorem awh:PE X (.Dict [] [] pos) a55:=.mk <|λb s σ H Q I h=>
 wpAny_Dict_empty ⟨.ref s.heap.objs.size,_,I.laid (a:=s.heap.objs.size) (o:=.dK []) (t':=s.toks) (λ_ _ q=>ag _ q) (aj _) (anb s.heap I.big),rfl,h _ (I.hok.fresh (aj _))⟩
def aig:List (TE×TE)->St->Hp->(List (V×V)->Hp->Prop)->Prop
 |[],_,H,Q=>Q [] H
 |(tk,tv)::r,σ,H,Q=>tk σ H λx H1=>tv σ H1 λy H2=>aig r σ H2 λps a=>Q ((x,y)::ps) a
abbrev VV:List (V×V)->List (ae×ae)->Prop:=eE λp q=>RelV p.1 q.1/\RelV p.2 q.2
def PPs(X:Cx)(pos:Pos)(keys:List (Option Expr))(a:List Expr)(b:List (TE×TE)):Prop:=
 ∀(pins:List (Addr×Obj)) (s:af) (σ:St) (H:Hp) (Q:List (V×V)->Hp->Prop),Inv X pins σ H s->aig b σ H Q ->
  wpAny (model X.prog X.w) X.A (evalPairs (pairTrees keys a X.env pos)) (λvs s'=>∃ps H',Inv X pins σ H' s'/\VV ps vs/\Q ps H') X.xe s
theorem azu:PPs X pos [] [] []:=λa s σ H Q I h=>pairTrees_nil_walk ⟨[],H,I,.nil,h⟩
theorem axz{k v:Expr}{ks:List (Option Expr)}{vs:List Expr}{tk c:TE}{b:List (TE×TE)}(hk:PE X k tk)(j:PE X v c)(hr:PPs X pos ks vs b):
  PPs X pos (some k::ks) (v::vs) ((tk,c)::b):=λa s σ H Q I h=>
 pairTrees_cons_walk (thn (hk a s σ H _ I h) λu w ⟨x,p,I1,e,q1⟩=>thn (j a w σ p _ I1 q1) λA l ⟨y,n,o,m,d⟩=>
  thn (hr a l σ n _ o d) λz C ⟨ps,q,r,rel,t⟩=>⟨(x,y)::ps,q,r,.cons ⟨e,m⟩ rel,t⟩)
section
variable{X:Cx}{pins:List (Addr×Obj)}{σ:St}{H:Hp}{s:af}{a:Addr}{y d:V}{u r:ae}{o:Option V}{A:bh}{E:ae->af->Prop}
theorem a5q(p:A.units+1 < cLine)(I:Inv X pins σ H s)(g:ad9 H a y o)(m:RelV y u)(h: ∀j s',Inv X pins σ H s'->RelV (o.getD .non) j->Q j s'):
  wpAny (model X.prog X.w) A (call (.builtin "dict.get") [.ref a,u]) Q E s:=by
 rcases g with ⟨kvs,k,e,d,l⟩|⟨kvs,k,b,e,d,n,l⟩
 ·subst d;obtain⟨z,hd,vs,rel,c⟩:=ai2 I.hok e;refine dm cb c.typeIs cS (gG _ _) (meets_dict_get (jx X.prog X.w) a (aas m) hd) ⟨_,c.mapOf,h _ _ (I.tok _) ?_⟩;rw[l];exact(rel.val k).getD rfl
 ·subst d;cases (show u=bi b from m);obtain⟨z,hd,xs,rel,c⟩:=ain I.hok e;refine dm cb c.typeIs cS (gG _ _) (meetsH_dict_get (h8 (jx X.prog X.w)) a b hd) ⟨eV p,k,xs,adu I.hok n,c,h _ _ (I.tok _) ?_⟩;rw[l];exact(rel.val k).getD rfl
theorem a6n(q:A.units+1 < cLine)(I:Inv X pins σ H s)(g:ad9 H a y o)(n:RelV y u)(rd:RelV d r)(h: ∀m s',Inv X pins σ H s'->RelV (o.getD d) m->Q m s'):
  wpAny (model X.prog X.w) A (call (.builtin "dict.get") [.ref a,u,r]) Q E s:=by
 rcases g with ⟨kvs,k,e,j,l⟩|⟨kvs,k,b,e,j,p,l⟩
 ·subst j;obtain⟨z,hd,vs,rel,c⟩:=ai2 I.hok e;refine dm cb c.typeIs cS (gH _ _ _) (meets_dict_get_default (jx X.prog X.w) a (aas n) hd r) ⟨_,c.mapOf,h _ _ (I.tok _) ?_⟩;rw[l];exact(rel.val k).getD rd
 ·subst j;cases (show u=bi b from n);obtain⟨z,hd,xs,rel,c⟩:=ain I.hok e;refine dm cb c.typeIs cS (gH _ _ _) (kM (h8 (jx X.prog X.w)) a b hd r) ⟨eV q,k,xs,adu I.hok p,c,h _ _ (I.tok _) ?_⟩;rw[l];exact(rel.val k).getD rd
end
end L2
namespace Att
open PySem PySem.W PySem.Calls PyProof.Rows
theorem ai6{P:Params}: ∀(ns:List Int) (vs:List ae),WellAll P h vs (ns.map WData.int)->mR vs ns:=by
 intro ns;induction ns with
 |nil=>
  intro vs w;rw[mH]at w;cases w;exact .nil
 | cons n ns c=>
  intro vs w;rw[aw]at w;cases w with
  |cons a b=>
   cases a;exact .cons _ _ (c _ b)
theorem aur{l:OpenLaw}(hn:l.most=some n){P:Params}{args:List WData}{c:List ae}(b:l.row.toRowW.claim.pre args=true)(p:WellAll P h c args):
  ∃a vs ns,c=[bi a]/\args=[WData.list (ns.map WData.int)]/\h.get? a=some {cls:=.type "list",data:=.seq vs.toArray}/\mR vs ns/\ns.length <=n:=by
 have o:WShape.hasAll [] args [.list .int]=true:=(pre_splitW b).1;have t:l.pre.holds [] {args:=args}=true:=(pre_splitW b).2;obtain⟨d,r,rfl,y,x⟩:=hasAllW_cons o;obtain rfl:=hasAllW_nil x;obtain⟨xs,rfl,z⟩:=hasW_list y;obtain⟨ns,rfl⟩:=items_int z;have e:ns.length <=n:=by
  unfold OpenLaw.pre at t;have k:(WTm.not (.lt (.lit (.int (n:Int))) (.len (.arg 0)))).holds [] {args:=[.list (ns.map .int)]}=true:=by
   have k:=(holds_andW t).1;rw[hn]at k;exact k
  have m:=condW_of k (w_not (w_lt w_lit (w_len_list (w_arg rfl))));rw[ao]at m;refine bF λq=>?_
  have w:(n:Int) < ((ns.length:Nat):Int):=by lia
  first
   |(rw[decide_eq_true w]at m;exact absurd m (by decide))
   |(simp at m;lia)
 cases p with
 |cons u v=>
  cases v;cases u with
  |list ho j=>exact⟨_,_,ns,rfl,rfl,ho,ai6 ns _ j,e⟩
theorem atk(l:OpenLaw)(args:List WData):l.row.toRowW.claim.post args (.bool true) args=true:=
 postW_of (r:=l.row.toRowW) (X:=(true==true))
  (show WShape.has [] (.bool true) .bool=true by first|rfl|decide|simp[WShape.has,WShape.arms,WShape.armsAll])
  (show(WTm.eq .res (.lit (.bool true))).value [] {args:=args,res:=some (.bool true),after:=args}=some (.bool (true==true)) from w_eq_bool (w_res rfl) w_lit) rfl
theorem attach_call{l:OpenLaw}{q:aP}{b:List Str}{C:(Str->Option ae)->Heap->Prop}{D:aM->Heap->Prop}{d:DefRec}(hn:l.most=some n)(t:d.params.defaults=[])(call: ∀(w:aM) (s₀ s₁:af) (mg u:Str->Option ae) (j:Addr) (o:Obj) (pm p e:ae) (a:Addr) (vs:List ae) (ns:List Int),
   Ground q b [] C w s₀ mg u s₁.heap->D w s₁.heap ->
   s₁.heap.get? j=some o->o.data=.func (docDef d.name d.params d.body d.scope pm p e)->s₁.heap.CodeRec p d.name->mg d.name=some (.ref j) ->
   s₁.heap.get? a=some {cls:=.type "list",data:=.seq vs.toArray}->mR vs ns->ns.length <=n->s₁.gens= #[] ->
   codeAny (model l.prog w) callerA (.call (.ref j) ⟨[.ref a],[]⟩) (λr s'=>r=.ok (.ret (.bool true))/\OldK s₁.heap s'.heap/\s'.os=s₁.os/\gx s'.gens) s₁):
  WalkO q b C D l.row.toRowW d [] (λf vs=>PySem.call f vs):=by
 intro w s₀ s₁ mg u G Y j o pm p e J kV ho hd x hD v I args z as k A F y K;obtain rfl:J=.none:=Dflts.none hD t;obtain rfl:kV=.none:=Dflts.noKw hD;obtain⟨a,vs,ns,rfl,rfl,h,c,m⟩:=aur hn k y;refine enter_call (fz (call w s₀ s₁ mg u j o pm p e a vs ns G Y ho (fd_plain hd) x v h c m I) λr s' M=>?_);obtain⟨rfl,H,L,E⟩:=M;exact⟨.inl ⟨.bool true,.bool true,[],rfl,λ_=>rfl,.bool true,atk l _,λ_=>⟨jP,λ_ hm=>(nomatch hm)⟩⟩,H,L,E⟩
end Att
namespace L2
open PySem PySem.Spec PyProof.Rows
theorem aka: ∀{vs:List ae} {ns:List Int},mR vs ns->jl (ns.map V.int) vs
 |_,_,.nil=>.nil
 |_,_,.cons n t h=>.cons ⟨t,rfl⟩ (aka h)
def aw3(H:Hp):Prop:= ∀b,H b=none\/ ∃o xs,H b=some (.frz o (.lst xs))
theorem axs{w:aM}{L:Str->Option ae}{CX:CXT}{k:Nat}{Q a:Addr}{sp:Sp}{s₁:af}{ns:List Int}(KX:K.In s₁.heap)(I:s₁.heap.Ns a7 mg)(j:s₁.heap.Ns builtinsNs L)(U: ∀x:Str,x≠"__name__" -> L x=bK x)(y:s₁.heap.NoLimit)(hg:s₁.gens= #[])(J:s₁.heap.get? a=some {cls:=.type "list",data:=.seq vs.toArray})(W:mR vs ns)(hl:ns.length <=sizeLine)(hr:Room k callerA)(F: ∀base:Heap,K.In base->base.Ns a7 mg->FnOk P w K mg base CX k Q fd [x] sp)(t: ∀(s:af) (u:ae),lF s fd ⟨[u],[]⟩ [(x,u)])(S: ∀H:Hp,aw3 H->SqL K H a (ns.map V.int)->sp [.ref a] H (λv _=>v=.bl true) λ_ _ _=>False)(N: ∀H e s',CX [] H s₁ (λ_ _ _=>False) e s'->False):
  codeAny (model P w) callerA (.call (.ref Q) ⟨[.ref a],[]⟩) (λr s'=>r=.ok (.ret (.bool true))/\OldK s₁.heap s'.heap/\s'.os=s₁.os/\gx s'.gens) s₁:=by
 have Y:=aka W;have A:=W.length
 -- from an abstract heap in which nothing but the script may be tracked
 have p: ∀H:Hp,aw3 H->SqL K H a (ns.map V.int)->HOk P w H s₁.heap->(∀b,H b≠none->b=a)->(H a≠none->K.lookup a=none) ->
   codeAny (model P w) callerA (.call (.ref Q) ⟨[.ref a],[]⟩) (λr s'=>r=.ok (.ret (.bool true))/\OldK s₁.heap s'.heap/\s'.os=s₁.os/\gx s'.gens) s₁:=by
  intro H Z hS hok hA hK;have c: ∀{b:Addr} {o:Obj},s₁.heap.get? b=some o->H b=none->(aem s₁.heap H).get? b=some o:=λe n=>ax3 e n
  have M: ∀{b:Addr} {o:Obj} {es:Array cL} {ep:Nat},s₁.heap.get? b=some o->o.data=.dict es ep->H b=none:=λ{b o es ep} e d=>by
   cases q:H b with
   |none=>rfl
   |some u=>
    have O:b=a:=hA b (by rw[q];simp);subst O;rw[J]at e;cases e;have d':Data.seq vs.toArray _=Data.dict es ep:=d;cases d'
  have l: ∀{b:Addr} {m:Str->Option ae},s₁.heap.Ns b m->(aem s₁.heap H).Ns b m:=λ{b m} ⟨o,es,ep,e,d,r⟩=>⟨o,es,ep,c e (M e d),d,r⟩
  have C:K.In (aem s₁.heap H):=λb o e=>c (KX b o e) (by
   cases q:H b with
   |none=>rfl
   |some u=>
    have O:b=a:=hA b (by rw[q];simp);subst O
    rw[hK (by rw[q];simp)]at e;cases e)
  have hM:Mod K mg (aem s₁.heap H):=⟨C,l I,⟨L,l j,U⟩,let ⟨mc,h1,h2⟩:=y;⟨mc,l h1,h2⟩⟩;have e0:Env0 P w K mg (aem s₁.heap H) callerA [] s₁ H:=⟨rfl,hM,λb o e=>a0l e,dN (asf _ _),trivial,λb j=>absurd (show b∈([]:List Addr) from j) (by simp),hok,.of_eq hg⟩;refine fz ((F _ C (l I)).run callerA [] s₁ H ⟨[.ref a],[]⟩ [.ref a] [.ref a] _ _ hr e0 (t s₁ (.ref a)) (.cons rfl .nil) (S H Z hS)) λr s' h=>?_
  cases r with
  |error e=>exact(N H e s' h).elim
  | ok fl=>
   cases fl with
   |next=>exact di h
   |brk=>exact di h
   |cont=>exact di h
   | ret u=>
    obtain⟨v,H',os,bare,un,D,r',q⟩:=h;have q':v=.bl true:=q;subst q';obtain rfl:u=jT true:=r';refine⟨rfl,OldK.of_keep λb o e=>?_,os,bare⟩;cases q:H b with
    |none=>exact un.keep b o e q (by intro z;exact absurd (show b∈([]:List Addr) from z) (by simp)) (by simp)
    | some u=>
     rcases Z b with z|⟨ob,xs,z⟩
     ·rw[q]at z;cases z
     ·have z2:=un.frzs b ob _ z;obtain⟨e1,_⟩:=hok b _ z;obtain⟨e2,_⟩:=D b _ z2;rw[e]at e1;cases e1;exact e2
 cases hk:K.lookup a with
 |some o=>
  -- the script is one of the module's own objects
  have e:=KX a o hk;rw[J]at e;cases e;refine p (λ_=>none) (λ_=>.inl rfl) (.inr ⟨_,vs.toArray,_,hk,rfl,rfl,rfl,by rw[ax,A];exact hl,by simpa using Y⟩) (λb u z=>by have E:(none:Option HO)=some u:=z;cases E) (λb z=>absurd rfl z) λz=>absurd rfl z
 | none=>
  refine p (λb=>if b=a then some (.frz {cls:=.type "list",data:=.seq vs.toArray} (.lst (ns.map V.int))) else none) (λb=>?_) (.inl (.inr ⟨{cls:=.type "list",data:=.seq vs.toArray},if_pos rfl⟩)) (λb u z=>?_) (λb z=>?_) λ_=>hk
  ·by_cases j:b=a
   ·exact .inr ⟨_,_,if_pos j⟩
   ·exact .inl (if_neg j)
  ·by_cases j:b=a
   ·have E:=(if_pos j).symm.trans z;cases E;subst j;exact⟨J,by rw[ao];exact hl,vs,_,Y,J⟩
   ·have E:=(if_neg j).symm.trans z;cases E
  ·by_cases j:b=a
   ·exact j
   ·exact absurd (if_neg j) z
theorem a0d{l:kZ}{k:Nat}{q:aP}{m:List Str}{M:(Str->Option ae)->Heap->Prop}{D:aM->Heap->Prop}{d:DefRec}{K:Params->ak}{CX:aM->CXT}{sp:aM->Sp}(hn:l.most=some n)(t:n <=sizeLine)(y:d.params.defaults=[])(hr:Room k callerA)(O: ∀(w:aM) (h:Heap),D w h->(K w.params).In h)(F: ∀(w:aM) (mg:Str->Option ae) (r:Addr) (h:Heap),(K w.params).In h->h.Ns a7 mg->mg d.name=some (.ref r) ->
   ∃fd:dI,(∀(s:af) (u:ae),lF s fd ⟨[u],[]⟩ [(x,u)])/\
    ∀base:Heap,(K w.params).In base->base.Ns a7 mg->FnOk l.prog w (K w.params) mg base (CX w) k r fd [x] (sp w)) (A: ∀(w:aM) (H:Hp) (a:Addr) (ns:List Int),ns.length <=n->aw3 H->SqL (K w.params) H a (ns.map V.int)->sp w [.ref a] H (λv _=>v=.bl true) λ_ _ _=>False) (C: ∀(w:aM) (H:Hp) (s:af) (e:ae) (s':af),CX w [] H s (λ_ _ _=>False) e s'->False):
  PySem.W.WalkO q m M D l.row.toRowW d [] (λf vs=>PySem.call f vs):=by
 refine Att.attach_call hn y λw s₀ s₁ mg S r o pm U I a vs ns G Y ho hd N z p j c J=>?_
 have KX:=O w _ Y;obtain⟨fd,P,E⟩:=F w mg r _ KX G.T.g z;exact axs KX G.T.g G.T.b G.T.builtins G.T.nolimit J p j (aN c t) hr E P (λH Q L=>A w H a ns c Q L) λH e s'=>C w H s₁ e s'
noncomputable def yu(s:Stmt):Arguments:=match s with
 |.FunctionDef _ a _ _ _ _ _ _ _ _=>a
 |_=>{posonlyargs:=[],args:=[],vararg:=none,kwonlyargs:=[],kw_defaults:=[],kwarg:=none,defaults:=[]}
noncomputable def vj(s:Stmt):List Stmt:=match s with
 |.FunctionDef _ _ b _ _ _ _ _ _ _=>b
 |_=>[]
noncomputable def jh(s:Stmt):dP:=match s with
 |.FunctionDef _ _ _ _ _ _ sc _ _ _=>sc
 |_=>{kind:=.function,names:=[],isGenerator:=false,isCoroutine:=false}
abbrev CX0:CXT:=λ_ _ _ _ _ _=>False
structure Fun (K:ak) (x qual:Str) (st:Stmt) (f:Addr) (fd:dI):Prop where
 ex: ∃(oc:ae) (od:Option Addr) (kV doc pm:ae) (an:Option Addr) (cdv ct:ae) (osl:Array (Option ae)),
  fd=cE x qual (yu st) (vj st) (jh st) .none kV doc pm an cdv ct/\K.lookup f=some ⟨oc,od,.func fd,osl⟩/\eD K cdv qual=true
 kp:cn K (.ref f)=true
section
variable{P:aP}{w:aM}{K:ak}{mg:Str->Option ae}{base:Heap}
theorem Fun.binds(F:Fun K x qual st f fd)(h: ∀(kV b pm:ae) (d:Option Addr) (a ct:ae) (c:List ae),c.length=ps.length->bindArgs (cE x qual (yu st) (vj st) (jh st) .none kV b pm d a ct) ⟨c,[]⟩=pure (ps.zip c)):Binds K fd ps []:=by
 obtain⟨l,k,kV,b,pm,d,a,ct,e,rfl,m,j⟩:=F.ex;exact .all (h kV b pm d a ct)
theorem acl{h:ae}{e d:Option Addr}{kV b pm a ct:ae}(l:K.lookup f=some ⟨h,e,.func (cE x qual (yu st) (vj st) (jh st) .none kV b pm d a ct),osl⟩)(c:eD K a qual=true)(k:cn K (.ref f)=true):Fun K x qual st f (cE x qual (yu st) (vj st) (jh st) .none kV b pm d a ct):=⟨⟨h,e,kV,b,pm,d,a,ct,osl,rfl,l,c⟩,k⟩
end
theorem pv(i:Nat)(c:X.N[i]?=some x:=by rfl)(b:Vis X.env.scope x:=by first|exact b6 rfl|exact dZ (b6 rfl)|exact dZ (dZ rfl))(hd:(x==("__debug__":Str))=false:=by decide)(a:(x==("__classdict__":Str))=false:=by decide):PE X (.Name x pos) (ayj i):=at8 c b hd a
def jr(H H':Hp):Prop:= ∀b o,H b=some o->H' b=some o
theorem jr.seq{a:Addr}(e:jr H H')(h:SqL K H a xs):SqL K H' a xs:=by
 rcases h with (h|⟨o,h⟩)|h
 ·exact .inl (.inl (e _ _ h))
 ·exact .inl (.inr ⟨o,e _ _ h⟩)
 ·exact .inr h
noncomputable def ve(env:Env):List (Str×eY)->List (Str×Addr)->List (Str×Addr)
 |[],cs=>cs
 |(n,k)::r,cs=>ve env r (if k==.free then (match env.cells.lookup n with|some c=>(n,c)::cs|none=>cs) else cs)
theorem ah3{env:Env}: ∀{l:List (Str×eY)} {cs:List (Str×Addr)},(∀n c,(n,c)∈cs->env.cells.lookup n=some c)->∀n c,(n,c)∈ve env l cs->env.cells.lookup n=some c
 |[],cs,h,n,c,m=>h n c m
 | (e,k)::r,cs,h,n,c,m=>by
  unfold ve at m;refine ah3 (l:=r) (λa b q=>?_) n c m;split at q
  ·split at q
   ·rename_i c' d;rcases aL.mp q with z|z
    ·cases z;exact d
    ·exact h a b z
   ·exact h a b q
  ·exact h a b q
theorem ajr{env:Env}: ∀{l:List (Str×eY)} {cs:List (Str×Addr)} {p},p∈cs->p∈ve env l cs
 |[],_,_,h=>h
 | (n,k)::r,cs,p,h=>by
  unfold ve;refine ajr (l:=r) ?_;split
  ·split
   ·exact aq _ h
   ·exact h
  ·exact h
theorem ah7{env:Env}: ∀{l:List (Str×eY)} {cs:List (Str×Addr)} {n:Str} {c:Addr},(n,bB)∈l->env.cells.lookup n=some c->(n,c)∈ve env l cs
 |[],_,_,_,h,_=>by cases h
 | (a,k)::r,cs,n,c,h,e=>by
  unfold ve;rcases aL.mp h with z|z
  ·cases z;refine ajr ?_;simp[e]
  ·exact ah7 z e
theorem abw(h: ∀n,(n,bB)∈scope.names->∃c,env.cells.lookup n=some c):closureFor scope env=pure (ve env scope.names []):=by
 have all: ∀(l:List (Str×eY)) (cs:List (Str×Addr)),(∀n,(n,bB)∈l->∃c,env.cells.lookup n=some c) ->
   (forIn l cs (λ(x:Str×eY) (r:List (Str×Addr))=>(match x with|(name,kind)=>if (kind==bB)=true then (do let a←cellOf env name;pure (eW ((name,a)::r))) else pure (eW r):Sem (ForInStep (List (Str×Addr))))))=(pure (ve env l cs):Sem (List (Str×Addr))):=by
  intro l;induction l with
  |nil=>intro cs _;rfl
  | cons p r d=>
   intro cs b;obtain⟨n,k⟩:=p;have hr: ∀n,(n,bB)∈r->∃c,env.cells.lookup n=some c:=λn m=>b n (aq _ m)
   rw[fZ];unfold ve;by_cases hk:k=.free
   ·subst hk;obtain⟨c,j⟩:=b n au;have e:cellOf env n=pure c:=by unfold cellOf;rw[j]
    simp only[beq_self_eq_true,if_true,e,j];exact d _ hr
   ·have o:(k==bB)=false:=by simpa using hk
    simp only[o,bz,if_false];exact d _ hr
 unfold closureFor;exact(congrArg (λ(z:Sem (List (Str×Addr)))=>z >>=λr=>pure r) (all scope.names [] h)).trans rfl
def ju(X:Cx)(own caps:List Str)(scope:dP)(C:Addr)(a:List Addr)(s:af)(H:Hp):Cx where
 prog:=X.prog
 w:=X.w
 K:=X.K
 mg:=X.mg
 base:=X.base
 A:=X.A
 N:=own++caps
 s₀:=s
 H₀:=H
 env:=compEnvC scope (ve X.env scope.names []) C X.env
 outer:=X.stack
 stack:=X.stack
 ex:=a
 fn:=λ_=>false
 calm:=X.calm
 pn:=[]
 xe:=λ_ _=>False
def art(X:Cx)(scope:dP)(y:Str)(j:Nat):Prop:=X.N[j]?=some y/\Vis X.env.scope y/\(X.env.kindOf y==some .local)=false/\((relabel scope X.env).names.lookup y==some .cell||(relabel scope X.env).names.lookup y==some .free)=true
def xx(X:Cx)(scope:dP):List Str->List Nat->Prop
 |[],[]=>True
 |y::ys,j::js=>art X scope y j/\xx X scope ys js
 |_,_=>False
noncomputable def v7(σ:St)(js:List Nat):St:=js.map λj=>(σ[j]?).join
theorem xx.at{X:Cx}{scope:dP}{σ:St}: ∀{b:List Str} {js:List Nat} {i:Nat} {y:Str} {v:V},xx X scope b js->b[i]?=some y->(v7 σ js)[i]?=some (some v)->∃j,art X scope y j/\σ[j]?=some (some v)
 |[],[],i,y,v,_,h,_=>by simp at h
 | a::b,j::js,0,y,v,c,h,e=>by
  simp at h;subst h;refine⟨j,c.1,?_⟩;simp[v7]at e;cases q:σ[j]? with
  |none=>
   rw[q]at e;cases e
  |some o=>
   rw[q]at e;simp at e;rw[e]
 |a::b,j::js,i+1,y,v,c,h,e=>xx.at (i:=i) c.2 (by simpa using h) (by simpa[v7] using e)
 |[],_::_,_,_,_,c,_,_=>c.elim
 |_::_,[],_,_,_,c,_,_=>c.elim
theorem xx.len{X:Cx}{scope:dP}{σ:St}: ∀{b:List Str} {js:List Nat},xx X scope b js->(v7 σ js).length=b.length
 |[],[],_=>rfl
 |a::b,j::js,c=>by simp only[v7,aw,aE];exact congrArg (· +1) (xx.len (σ:=σ) c.2)
 |[],_::_,c=>c.elim
 |_::_,[],c=>c.elim
theorem y6{env:Env}: ∀{names:List (Str×eY)} {x:Str},(∀p∈names,p.2≠ .cell) ->
  ((names.map λ(n,k)=>if (k==bB&&env.scope.kind==.function&&env.kindOf n==some .cell) then (n,fT) else (n,k)).lookup x=some .cell\/
    (names.map λ(n,k)=>if (k==bB&&env.scope.kind==.function&&env.kindOf n==some .cell) then (n,fT) else (n,k)).lookup x=some .free)->(x,bB)∈names
 |[],_,_,h=>by simp at h
 | (n,k)::r,x,a,h=>by
  have hr: ∀p∈r,p.2≠ .cell:=λp d=>a p (aq _ d)
  have hk:k≠ .cell:=a (n,k) au
  have step: ∀(b:Bool),(de x ((if b=true then (n,fT) else (n,k))::r.map λ(n,k)=>if (k==bB&&env.scope.kind==.function&&env.kindOf n==some .cell) then (n,fT) else (n,k))=some .cell\/
     de x ((if b=true then (n,fT) else (n,k))::r.map λ(n,k)=>if (k==bB&&env.scope.kind==.function&&env.kindOf n==some .cell) then (n,fT) else (n,k))=some .free)->(b=true->k=.free)->(x,bB)∈(n,k)::r:=by
   intro b q c;cases hx:x==n with
   | true=>
    have e:x=n:=by simpa using hx
    subst e;cases b with
    |true=>rw[c rfl];exact au
    |false=>
     simp[b7]at q;rcases q with q|q
     ·exact absurd q hk
     ·rw[q];exact au
   |false=>
    refine aq _ (y6 (env:=env) hr ?_);cases b <;> simpa[b7,hx] using q
  exact step _ h λq=>by simp at q;exact q.1.1
def ae9(X:Cx)(a:List Expr)(t:TT):Prop:=
 ∀(pins:List (Addr×Obj)) (s:af) (σ:St) (H:Hp) (Q:Bool->Hp->Prop),Inv X pins σ H s->t σ H Q ->
  wpAny (model X.prog X.w) X.A (forIn a true λc r=>if r=true then do let ok←isTrue c X.env (eval c X.env);pure (eW ok) else pure (eW r)) (TP X pins σ Q) X.xe s
noncomputable def a97:TT:=λ_ H Q=>Q true H
theorem ay5:ae9 X [] a97:=λ_ _ _ H _ I h=>wpAny_tests_nil ⟨H,I,h⟩
theorem awg{t:TT}(h:PT X c t):ae9 X [c] t:=λa s σ H Q I q=>wpAny_tests_one (h a s σ H Q I q)
abbrev Wn(P:aP)(w:aM)(A:bh){α:Type}(m:Sem α)(Q:α->af->Prop)(s:af):Prop:=wpAny (model P w) A m Q (λ_ _=>False) s
abbrev air(env:Env)(l:List Expr):Sem Bool:=forIn l true λc r=>if r=true then do let b←isTrue c env (eval c env);pure (eW b) else pure (eW r)
def a4i (P:aP) (w:aM) (A:bh) (k acc:ae) (j h:Expr) (l:List Expr) (env:Env) (fin:af->Prop) (again:af->Prop) (s:af):Prop:=
 Wn P w A (pyNext k) (λr a=>match r with
  |none=>fin a
  | some v=>Wn P w A (dQ j k v) (λ_ b=>Wn P w A (assign j env v) (λ_ c=>Wn P w A (air env l) (λok d=>
    if ok=true then Wn P w A (eval h env) (λx e=>Wn P w A (call (.builtin "list.append") [acc,x]) (λ_ g=>again g) e) d else again d) c) b) a) s
theorem a25{w:aM}{R:kA->af->Prop}{j:Expr}{l:List Expr}{sc:dP}{o acc:ae}(J:Nat->af->Prop)(turn: ∀n s,J n s->a4i P w A o acc tg j l env (R (.ok .next)) (λz=>∃m,m < n/\J m z) s)(n:Nat)(h:J n s):codeAny (model P w) A (.compLoop (.ListComp j [⟨tg,iter,l,0⟩] sc pos) 0 o acc env) R s:=by
 refine mM rfl J (λk z hz=>?_) n h;have one:=turn k z hz;show wpAny _ A (mX (compTurn (.ListComp j [⟨tg,iter,l,0⟩] sc pos) 0 o acc env) λx=>do iU x env;lc x) _ _ z;refine mY ?_;rw[compTurn_list];refine ac (dB (ac (bf one (λr a p=>?_) λ_ _ f=>f.elim)));cases r with
 |none=>exact ah p
 | some v=>
  refine ac (bf p (λ_ b C=>ac (bf C (λ_ c y=>ac (bf y (λok d hd=>?_) λ_ _ f=>f.elim)) λ_ _ f=>f.elim)) λ_ _ f=>f.elim);cases ok with
  |false=>
   have q: ∃m,m < k/\J m d:=hd;exact ah ⟨rfl,q⟩
  |true=>
   have q:Wn P w A (eval j env) (λx e=>Wn P w A (call (.builtin "list.append") [acc,x]) (λ_ g=>∃m,m < k/\J m g) e) d:=hd;exact ac (ac (bf q (λx e t=>ac (bf t (λ_ g u=>ah (ah ⟨rfl,u⟩)) λ_ _ f=>f.elim)) λ_ _ f=>f.elim))
def ay9(g:TG)(tt:TT)(te:TE)(k:Nat)(d:St)(J:It)(l:Hp)(Q:VK):Prop:=
 ∀ D,l D=none->∃W:Nat->Nat->List V->Hp->Prop,(∃m,W 0 m [] (upd l D (.lst [])))/\ ∀i m ys H,H D=some (.lst ys)->W i m ys H ->
  (J.stop i H/\Q (.ref D) H)\/(J.go i H/\ ∀x H',J.yld i H x H'->∀vs:St,vs.length=k->g x (vs++d) H' λa H2=>(∃e:St,e.length=k/\a=e++d)/\tt a H2 λb h=>
   if b=true then te a h λv j=>j D=some (.lst ys)/\ys.length < sizeLine/\ ∃c,c < m/\W (i+1) c (ys++ [v]) (upd j D (.lst (ys++ [v]))) else h D=some (.lst ys)/\ ∃c,c < m/\W (i+1) c ys h)
def tLc(js:List Nat)(k:Nat)(a:TI)(g:TG)(tt:TT)(te:TE):TE:=λσ H Q=>a σ H λJ H1=>ay9 g tt te k (v7 σ js) J H1 Q
section
variable{X:Cx}{own caps:List Str}{js:List Nat}{scope:dP}{tg iter elt:Expr}{ifs:List Expr}{wi:TI}{g:TG}{tt:TT}{te:TE}{pos:Pos}
theorem aug{L:Hp}{l:af}{it:Addr}{tn:Nat->Heap->Prop}{J:It}{Q:VK}{post:ae->Addr->kA->af->Prop}(P:X.calm=true)(U:scope.kind=.function)(hcell:(scope.names.any λp=>p.2==.cell)=false)(hk:(scope.names.all λp=>!(p.2==.free)||(X.env.kindOf p.1==some .cell||X.env.kindOf p.1==some .free))=true)(hcap:xx X scope caps js)(hg: ∀C fp s H,PG (ju X own caps scope C fp s H) tg g)(hi: ∀C fp s H,ae9 (ju X own caps scope C fp s H) ifs tt)(he: ∀C fp s H,PE (ju X own caps scope C fp s H) elt te)(F:Inv X pins σ L l)(T:Turn X.prog X.w X.K tg J fp it tn)(st2:tn 0 l.heap)(f2: ∀b∈fp,zt X pins L b)(hw:ay9 g tt te own.length (v7 σ js) J L Q)(hpost: ∀D C s' m H',s'.heap.Ns C m->l.heap.objs.size <=C->zt X pins H' C->Inv X pins σ H' s'->Q (.ref D) H'->post (.ref D) C (.ok .next) s'):
  wpAny (model X.prog X.w) X.A (newList []) (λacc N=>wpAny (model X.prog X.w) X.A (newFunctionEnv scope X.env.globals (ve X.env scope.names []) [] X.env.qual none .none (some X.env)) (λcenv s₄=>
   codeAny (model X.prog X.w) X.A (.compStart (.ListComp elt [⟨tg,iter,ifs,0⟩] scope pos) 0 (.ref it) acc {cenv with scope:=relabel scope X.env}) (post acc cenv.locals) s₄) E N) E l:=by
 have M: ∀y∈scope.names,y.2≠ .cell:=λy hy e=>by
  have:=(jO.mp hcell) y hy;simp[e]at this
 have hfr: ∀n,(n,bB)∈scope.names->X.env.kindOf n=some .cell\/X.env.kindOf n=some .free:=λn hn=>by
  have:=(aB.mp hk) _ hn;simpa using this
 refine cr (lV M (by intro y hy;simp at hy) (λO I k=>?_) U);dsimp only at I k⊢;generalize hHp:l.heap.push {cls:=.type "list",dict:=none,data:=.seq ([]:List ae).toArray}=G2 at I k⊢;have hC:G2.objs.size=l.heap.objs.size+1:=by rw[←hHp,cp]
 obtain⟨D,t⟩: ∃D:Nat,l.heap.objs.size=D:=⟨_,rfl⟩;obtain⟨C,hCe⟩: ∃C:Nat,G2.objs.size=C:=⟨_,rfl⟩;rw[hCe]at I k;rw[t,hCe]at hC;show codeAny _ _ (.compStart _ 0 (.ref it) (.ref l.heap.objs.size) (compEnvC scope (ve X.env scope.names []) G2.objs.size X.env)) (post (.ref l.heap.objs.size) G2.objs.size) _;rw[t,hCe];have hDC:D≠C:=by lia
 have hDCl:D < C:=by lia
 have old: ∀b o,l.heap.get? b=some o->O.get? b=some o:=λb o e=>by
  have hlt:b < D:=t▸ay e;exact k.extBut b o (aI (eG hlt hDCl)) (ag _ (hHp▸ag _ e))
 have hD2:L D=none:=F.hok.fresh (dN t);have hC2:L C=none:=F.hok.fresh (by rw[t];lia);have accD:O.get? D=some {cls:=.type "list",data:=.seq ([]:List ae).toArray}:=k.extBut _ _ hDC (ag _ (hHp▸t▸aD _ rfl));obtain⟨W,⟨m0,w0⟩,turn⟩:=hw D hD2
 -- the block's own state
 have fpn: ∀b∈fp,L b=none:=λb h=>(f2 b h).1
 have fplt: ∀b∈fp,b < D:=λb h=>by obtain⟨o,e,_⟩:=T.obj _ _ st2 b h;exact t▸ay e
 have clsub: ∀n c,(n,c)∈ve X.env scope.names []->X.env.cells.lookup n=some c:=ah3 (by intro _ _ z;cases z);have a: ∀n c,(ve X.env scope.names []).lookup n=some c->X.env.cells.lookup n=some c:=λn c e=>clsub n c (cP e)
 have Y: ∀n,(n,bB)∈scope.names->∃c,(ve X.env scope.names []).lookup n=some c/\X.env.cells.lookup n=some c:=λn hn=>by
  obtain⟨c,e⟩:=F.ok.has n (hfr n hn);have m:=ah7 (cs:=[]) hn e;cases q:(ve X.env scope.names []).lookup n with
  |none=>
   have:=kN.mp q _ m;simp at this
  |some c'=>exact⟨c',rfl,a n c' q⟩
 have clt: ∀x c,(ve X.env scope.names []).lookup x=some c->c < D:=λx c e=>by
  obtain⟨v,z⟩:=F.cell x c (a x c e);exact t▸z.lt
 have ok':(ju X own caps scope C fp l L).Ok:=by
  refine⟨F.ok.mod,U,F.ok.glob,F.ok.blt,?_,λx y c e1 e2=>F.ok.inj x y c (a x c e1) (a y c e2),λx hx=>?_,λx c z=>(by cases z),F.ok.hd,F.ok.frames,.inl rfl,λb h=>⟨?_,λx c e=>?_⟩,F.bs,aN F.ok.bsz F.sz,λb o e h=>?_,λb h hs=>?_,F.stack,F.stkFree⟩
  ·show l.heap.objs.size <=C;rw[t];lia
  ·have hx':(relabel scope X.env).names.lookup x=some .cell\/(relabel scope X.env).names.lookup x=some .free:=hx;obtain⟨c,e,_⟩:=Y x (y6 M hx');exact⟨c,e⟩
  ·exact aI (eG (fplt b h) hDCl)
  ·exact(f2 b h).2.2.2.2.1 x c (a x c e)
  ·rcases (f2 b h).2.2.2.1 with z|z
   ·exact F.ok.noex b o e z
   ·exact absurd (a9 (ay (F.ok.bs b o e).1) z) (cG _)
  ·rcases aL.mp (F.stkSub b hs) with z|z
   ·exact(f2 b h).2.1 z
   ·exact(f2 b h).2.2.1 z
 have I4:Inv (ju X own caps scope C fp l L) [] (bp own.length none++v7 σ js) (upd L D (.lst [])) {l with heap:=O,toks:=l.toks+([]:List (Str×ae)).length}:=by
  refine⟨ok',rfl,F.bare,Un.laid old (dN t) hD2,⟨_,I,λi x v e1 e2 e3=>?_⟩,λx c e=>?_,?_,λx c e=>?_,λp hp=>absurd (show p∈([]:List (Addr×Obj)) from hp) (by simp),?_,?_⟩
  ·have e1:(own++caps)[i]?=some x:=e1;by_cases hio:i < own.length
   ·rw[aQ (by simpa using hio),dG]at e2;split at e2 <;> cases e2
   ·have hle:own.length <=i:=bF hio;rw[aZ hle]at e1;rw[aZ (by simpa using hle)]at e2;obtain⟨j,c,e⟩:=xx.at (σ:=σ) hcap e1 (by simpa using e2);obtain⟨c1,c2,c3,c4⟩:=c;obtain⟨m,hn,hl⟩:=F.loc;obtain⟨u,r,lk⟩:=hl j x v c1 e c2;refine⟨u,r,.inr ⟨?_,?_⟩⟩
    ·have c4':(relabel scope X.env).names.lookup x=some .cell\/(relabel scope X.env).names.lookup x=some .free:=by simpa using c4
     exact c4'
    ·have c4':(relabel scope X.env).names.lookup x=some .cell\/(relabel scope X.env).names.lookup x=some .free:=by simpa using c4
     obtain⟨c',q1,q2⟩:=Y x (y6 M c4');rcases lk with ⟨k1,_⟩|⟨_,c'',k2,k3⟩
     ·rw[k1]at c3;simp at c3
     ·rw[q2]at k2;cases k2;obtain⟨oc,hoc,hod⟩:=k3;exact⟨c',q1,oc,old _ _ hoc,hod⟩
  ·obtain⟨v,oc,hoc,hod⟩:=F.cell x c (a x c e);exact⟨v,oc,old _ _ hoc,hod⟩
  ·show upd L D (.lst []) C=none;rw[j7 (bu hDC)];exact hC2
  ·rw[j7 (aI (clt x c e))];exact F.freeC x c (a x c e)
  ·exact F.hok.laid old (dN t) ⟨bn _,[],0,.nil,accD⟩
  ·show(bp own.length none++v7 σ js).length=(own++caps).length;rw[aH,aH,ia,hcap.len]
 have S: ∀{H':Hp},(∀b∈fp,H' b=none)->∀b∈fp,zt (ju X own caps scope C fp l L) [] H' b:=λhn b h=>
  ⟨hn b h,(ok'.exf b h).1,ok'.exfs b h,.inl h,(ok'.exf b h).2,λp hp=>absurd (show p∈([]:List (Addr×Obj)) from hp) (by simp)⟩
 have loop: ∀N:af,N={l with heap:=O,toks:=l.toks+([]:List (Str×ae)).length} ->
   codeAny (model X.prog X.w) X.A (.compLoop (.ListComp elt [⟨tg,iter,ifs,0⟩] scope pos) 0 (.ref it) (.ref D) (compEnvC scope (ve X.env scope.names []) C X.env)) (post (.ref D) C) N:=by
  rintro N rfl;refine a25 (λn s'=>∃i vs ys H',vs.length=own.length/\Inv (ju X own caps scope C fp l L) [] (vs++v7 σ js) H' s'/\tn i s'.heap/\(∀b∈fp,H' b=none)/\H' D=some (.lst ys)/\W i n ys H') ?_ m0
   ⟨0,bp own.length none,[],upd L D (.lst []),by simp,I4,T.keep _ _ _ st2 λb _ o e=>old b o e,λb h=>by rw[j7 (aI (fplt b h))];exact fpn b h,aa2,w0⟩
  rintro n s3 ⟨i,vs,ys,H3,hvs,I3,st3,fr3,hD3,w3⟩;rcases turn i n ys H3 hD3 w3 with ⟨stop,qn⟩|⟨go,step⟩
  ·refine thn (T.done (ju X own caps scope C fp l L) rfl rfl rfl P i [] s3 _ H3 (λ_ _=>False) I3 (S fr3) st3 stop) λr s5 ⟨hr,I5⟩=>?_
   subst hr;obtain⟨m5,hn5,_⟩:=id I5.loc;refine hpost D C s5 m5 H3 hn5 (by rw[t];lia) (F.fpOk (by rw[t];lia) I5.free) ?_ qn;exact F.call' (ch:=fp) I5.os I5.base I5.hok I5.bare λb h=>⟨(f2 b h).2.2.2.1,(f2 b h).2.1,(f2 b h).2.2.2.2⟩
  ·refine thn (T.item (ju X own caps scope C fp l L) rfl rfl rfl P i [] s3 _ H3 (λ_ _=>False) I3 (S fr3) st3 go) λr s4 ⟨u,hr,h4⟩=>?_
   subst hr;refine thn h4 λ_ s5 ⟨x,H5,I5,r5,y5,st5,fr5⟩=>?_
   have I5':=I5.pinned (S fr5) (T.obj _ _ st5);refine thn (hg C fp l L _ s5 _ H5 x u _ I5' r5 (step x H5 y5 vs hvs)) λ_ s6 ⟨σ6,H6,I6,⟨vs6,hvs6,e6⟩,q6⟩=>?_
   subst e6;refine thn (hi C fp l L _ s6 _ H6 _ I6 q6) λb s7 ⟨H7,I7,q7⟩=>?_
   have again: ∀{H8:Hp} {s8:af} {Z:List V},Inv (ju X own caps scope C fp l L) ([]++acy fp s5.heap) (vs6++v7 σ js) H8 s8->H8 D=some (.lst Z)->(∃m',m' < n/\W (i+1) m' Z H8) ->
     ∃m,m < n/\ ∃i vs ys H',vs.length=own.length/\Inv (ju X own caps scope C fp l L) [] (vs++v7 σ js) H' s8/\tn i s8.heap/\(∀b∈fp,H' b=none)/\H' D=some (.lst ys)/\W i m ys H':=λ{H8 s8 Z} I8 hD8 w8=>by
    obtain⟨m',hm,w8⟩:=w8;refine⟨m',hm,i+1,vs6,Z,H8,hvs6,I8.unpinned,T.keep _ _ _ st5 λb h o e=>(I8.pin (b,o) (aV _ (aV _ (xg h e)))).1,λb h=>?_,hD8,w8⟩;obtain⟨o,e,d⟩:=T.obj _ _ st5 b h;exact(I8.pin (b,o) (aV _ (aV _ (xg h e)))).2.1
   cases b with
   |false=>exact again I7 q7.1 q7.2
   |true=>
    refine thn (he C fp l L _ s7 _ H7 _ I7 q7) λy s8 ⟨v,H8,I8,r8,hD8,hz8,q8⟩=>?_
    refine thn (afv (X:=ju X own caps scope C fp l L) _ s8 _ H8 (.ref D) [v] (.ref D) [y] (λz H9=>H9=upd H8 D (.lst (ys++ [v]))) I8 rfl (.cons r8 .nil) ⟨D,ys,v,rfl,rfl,hD8,hz8,rfl⟩) λ_ s9 ⟨z,H9,I9,_,e9⟩=>?_
    subst e9;exact again I9 aa2 q8
 refine lu (loop _ rfl) (T.self _ 0 _ _ _ (T.keep _ _ _ st2 λb _ o e=>old b o e) (loop _ rfl))
theorem a88(j:X.calm=true)(a:scope.kind=.function)(c:(scope.names.all λp=>!(p.2==.local)||(scope.names.lookup p.1==some .local))=true)(k:(scope.names.any λp=>p.2==.cell)=false)
  (hk:(scope.names.all λp=>!(p.2==.free)||(X.env.kindOf p.1==some .cell||X.env.kindOf p.1==some .free))=true)
  (l:xx X scope caps js) (z:PI X tg iter wi) (M: ∀C fp s H,PG (ju X own caps scope C fp s H) tg g) (F: ∀C fp s H,ae9 (ju X own caps scope C fp s H) ifs tt) (L: ∀C fp s H,PE (ju X own caps scope C fp s H) elt te)
  (hs: ∀x,bM iter X.env x=pure x:=by intro _;rfl):PE X (.ListComp elt [⟨tg,iter,ifs,0⟩] scope pos) (tLc js own.length wi g tt te):=by
 refine⟨?_⟩;intro d s σ H Q I h;have t: ∀n,(n,bB)∈scope.names->X.env.kindOf n=some .cell\/X.env.kindOf n=some .free:=λn hn=>by
  have:=(aB.mp hk) _ hn;simpa using this
 have q: ∀x∈scope.names,x.2=.local->scope.names.lookup x.1=some .local:=λx hx e=>by
  have:=(aB.mp c) _ hx;simpa[e] using this
 rw[eval_ListComp];refine gh (use:=none) rfl hs (abw λn hn=>I.ok.has n (t n hn)) a q (thn (z d s σ H _ I h) λv s1 P=>thn P λu Y E=>?_);obtain⟨V,fp,W,J,Z,e,O,T,st2,y,N⟩:=E;subst e;refine aug (iter:=iter) (pos:=pos) (post:=λacc C=>compPost (model X.prog X.w) X.A X.xe none (EP X d σ Q) acc C) j a k hk l M F L O T st2 y N ?_;intro D C s' m H' hn _ f K U;exact⟨m,hn,λh' r=>⟨.ref D,H',K.turned (t':=s'.toks) (λb o S e=>(r.2 b S).trans e) f.1 f.2.1 f.2.2.2.1 f.2.2.2.2.1 f.2.2.2.2.2,rfl,U⟩⟩
theorem awy{i:Nat}{y:Str}{r:Pos}{k:Pos}(V:eS (.ListComp elt [⟨tg,iter,ifs,0⟩] scope pos) (some (.Name y r)) k.line X.env=pure true)(hN:X.N.Nodup)(W:X.N[i]?=some y)(E:X.env.scope.names.lookup y=some .local)
  (q:X.calm=true) (d:scope.kind=.function) (j:(scope.names.all λp=>!(p.2==.local)||(scope.names.lookup p.1==some .local))=true) (l:(scope.names.any λp=>p.2==.cell)=false)
  (hk:(scope.names.all λp=>!(p.2==.free)||(X.env.kindOf p.1==some .cell||X.env.kindOf p.1==some .free))=true)
  (t:xx X scope caps js) (Z:PI X tg iter wi) (hg: ∀C fp s H,PG (ju X own caps scope C fp s H) tg g) (ht: ∀C fp s H,ae9 (ju X own caps scope C fp s H) ifs tt) (he: ∀C fp s H,PE (ju X own caps scope C fp s H) elt te)
  (hs: ∀x,bM iter X.env x=pure x:=by intro _;rfl):PS X (.Assign [.Name y r] (.ListComp elt [⟨tg,iter,ifs,0⟩] scope pos) k) (λD σ H=>tLc js own.length wi g tt te σ H λv H'=>D.nx (σ.set i (some v)) H'):=by
 refine⟨?_⟩;intro c s σ H D I h;have M: ∀n,(n,bB)∈scope.names->X.env.kindOf n=some .cell\/X.env.kindOf n=some .free:=λn hn=>by
  have:=(aB.mp hk) _ hn;simpa using this
 have S: ∀x∈scope.names,x.2=.local->scope.names.lookup x.1=some .local:=λx hx e=>by
  have:=(aB.mp j) _ hx;simpa[e] using this
 rw[lH _ _ _ _ V];refine ac (dB (ac ?_));show wpAny _ _ (do let _←comprehension (.ListComp elt [⟨tg,iter,ifs,0⟩] scope pos) scope X.env _ (newList []) false (eval iter X.env) (some (assign (.Name y r) X.env))) _ _ s
 refine ac (bf (gh (use:=some (assign (.Name y r) X.env)) (Q:=λ_ s'=>SP X c D .next s') rfl hs (abw λn hn=>I.ok.has n (M n hn)) d S
  (thn (Z c s σ H _ I h) λv s1 h1=>thn h1 λitv s2 h2=>?_)) (λ_ s' O=>ah (ah O)) λ_ _ e=>e)
 obtain⟨it,fp,tn,J,H2,e,I2,T,st2,Y,hw⟩:=h2;subst e;refine aug (iter:=iter) (pos:=pos) (post:=λacc C=>compPost (model X.prog X.w) X.A X.xe (some (assign (.Name y r) X.env)) (λ_ s'=>SP X c D .next s') acc C) q d l hk t hg ht he I2 T st2 Y hw ?_;intro F C s' m H' hn hCs f I' O;show wpAny _ _ (assign (.Name y r) X.env (.ref F)) _ _ _;refine jM (afk (v:=.ref F) (u:=.ref F) I' hN W (.inl E) rfl (λs6 I6 U=>?_) (.inr E));obtain⟨a,P,ha⟩:=U;have K:a≠C:=by
  rcases ha with z|z
  ·rw[z];exact bu f.2.1
  ·exact f.2.2.2.2.1 y a z
 exact⟨m,hn.sameBut P (bu K),λh' L=>⟨σ.set i (some (.ref F)),H',I6.turned (t':=s6.toks) (λb o hb e=>(L.2 b hb).trans e) f.1 f.2.1 f.2.2.2.1 f.2.2.2.2.1 f.2.2.2.2.2,O⟩⟩
end
def Has(K:ak)(mg:Str->Option ae)(x:Str)(st:Stmt)(ps:List Str):Prop:=
 ∃(f:Addr) (fd:dI),Fun K x x st f fd/\mg x=some (.ref f)/\Binds K fd ps []
theorem azd:bK "len"=some (.builtin "len"):=by decide+kernel
theorem a6w:bK "min"=some (.builtin "min"):=by decide+kernel
theorem a4z:bK "repr"=some (.builtin "repr"):=by decide+kernel
theorem an2:bK "sorted"=some (.builtin "sorted"):=by decide+kernel
theorem aih:bK "list"=some (.type "list"):=by decide+kernel
theorem ao3:bK "tuple"=some (.type "tuple"):=by decide+kernel
theorem at9:bK "dict"=some (.type "dict"):=by decide+kernel
theorem a78:bK "str"=some (.type "str"):=by decide+kernel
theorem a75:bK "int"=some (.type "int"):=by decide+kernel
theorem a2q(l:Addr)(a:Array ae)(n:Nat)(b:Addr)(c:Array ae)(m:Nat)(o:Option Addr)(e:Array (Option ae))(z: ¬(!a.isEmpty&&dj (a.size+c.size))=true)(q:a.size <=sizeLine)(k:a.size+c.size <=sizeLine+1):
  Meets (dS.«list.extend» ⟨[.ref l,.ref b],[]⟩) (λ_ R s=>s.heap.get? l=some {cls:=.type "list",data:=.seq a n}/\s.heap.get? b=some {cls:=.type "tuple",dict:=o,data:=.seq c m,slots:=e}/\
   R (.ok (.ret aU)) {s with heap:=s.heap.update l (bJ λx=>x++c),toks:=s.toks}):=
 .of_wp λpr y u w st h=>by
  obtain⟨A,C,dr,tk,oz⟩:=st;obtain⟨d,p,h⟩:=h;have E:=PySem.AutoSeq1.idx_int;have v:=PySem.AutoSeq1.sub_tuple_tuple;have t:=PySem.AutoSeq1.sub_list_list;have r:=PySem.AutoSeq1.sub_tuple_list;have D:=PySem.AutoSeq1.sub_list_tuple;have j:(a++c).size <=sizeLine+1:=by
   rw[Array.size_append];exact k
  wp_walk using (wpAny_updateSeq d rfl (hz:=q) (_hz':=j)),ij d,ij p
  exact⟨_,rfl,h⟩
def ay1(K:ak):V->List V->Hp->VK->Prop:=λx vs H Q=>∃l b xs zs,x=.ref l/\vs=[.ref b]/\H l=some (.lst xs)/\SqT K H b zs/\xs.length+zs.length <=sizeLine/\Q .non (upd H l (.lst (xs++zs)))
theorem as7:MtM X "list.extend" (ay1 X.K):=by
 intro k s σ H x vs v P Q I D J h;obtain⟨l,b,xs,N,rfl,rfl,p,w,hz,q⟩:=h;cases D;obtain⟨u,rfl,y⟩:=J.one;cases y;obtain⟨z,a,n,r,U,e⟩:=I.lstM p;obtain⟨d,o,E,S⟩:=I.tuple w;have M:=o.length;obtain⟨⟨c,L,O,C⟩,A,c2,m,t⟩:=E;simp only at c2 t;subst c2 t;have hsz:a.toArray.size+d.toArray.size <=sizeLine:=by rw[ax,ax];lia
 have j: ¬(!a.toArray.isEmpty&&dj (a.toArray.size+d.toArray.size))=true:=by
  rw[amj hsz,Bool.and_false];exact az
 refine ii F.slot_list_extend ⟨_,e,rfl⟩ mr (lU _ _) (a2q l a.toArray n b d.toArray m L C j (by rw[ax];lia) (by lia)) ⟨e,A,?_⟩;refine⟨.non,_,I.lset (its':=a++d) p e (by simp) (r.append o) ?_,rfl,q⟩;rw[aH];lia
noncomputable def amv:Const->Option V
 |.str x=>some (.str x)
 |.int i=>some (.int i)
 |.bool b=>some (.bl b)
 |.none=>some .non
 |_=>none
def aei:List Expr->Option (List V)
 |[]=>some []
 | .Constant c _ _::r=>match amv c with
  |some v=>match aei r with
   |some vs=>some (v::vs)
   |none=>none
  |none=>none
 |_=>none
theorem aw9{c:Const}{j:Nat}:starEach (.Constant c j pos::es) env=(false,eval (.Constant c j pos) env)::starEach es env:=by rfl
noncomputable def tVs(vs:List V):TA:=λ_ H Q=>Q vs H
theorem a28{c:Const}{j:Nat}(h:amv c=some v):PE X (.Constant c j pos) (tC v):=by
 cases c <;> simp[amv]at h <;> subst h
 all_goals first
  |exact avd
  |exact ati
  |exact az7
  |exact asg
theorem ak7: ∀{es:List Expr} {vs:List V},aei es=some vs->PA X es (tVs vs)
 |[],vs,h=>by
  cases h;exact avi
 | e ::es,vs,h=>by
  cases e with
  | Constant c j pos=>
   simp only[aei]at h;cases b:amv c with
   |none=>
    rw[b]at h;cases h
   | some v=>
    rw[b]at h;cases a:aei es with
    |none=>rw[a]at h;cases h
    |some d=>
     rw[a]at h;cases h;have p:=ap7 (a28 (X:=X) (pos:=pos) (j:=j) b) (ak7 a) aw9;exact p
  |_=>simp[aei]at h
structure New (H:Hp) (p:Addr) (o:HO) (H':Hp):Prop where
 no:H p=none
 eq:H'=upd H p o
theorem New.at(n:New H p o H'):H' p=some o:=by rw[n.eq,aa2]
theorem New.keep{u:HO}(n:New H p o H')(e:H b=some u):H' b=some u:=by rw[n.eq,j7 (yk e n.no)];exact e
structure Chg (H:Hp) (p:Addr) (o:HO) (H':Hp):Prop where
 eq:H'=upd H p o
theorem Chg.at(n:Chg H p o H'):H' p=some o:=by rw[n.eq,aa2]
theorem Chg.keep{u:HO}(n:Chg H p o H')(h:b≠p)(e:H b=some u):H' b=some u:=by rw[n.eq,j7 h];exact e
theorem PE.weak{t t':TE}(h:PE X e t)(k: ∀σ H Q,t' σ H Q->t σ H Q):PE X e t':=.mk <|λa s σ H Q I q=>h a s σ H Q I (k σ H Q q)
theorem OpR.weak{f:ae->ae->Sem ae}{r b:R2}(h:OpR X f r)(k: ∀x y H Q,b x y H Q->r x y H Q):OpR X f b:=λa s σ H x y v u Q I c d q=>h a s σ H x y v u Q I c d (k x y H Q q)
theorem yn.weak{f:ae}{r b:List V->Hp->VK->Prop}(h:yn X f r)(k: ∀xs H Q,b xs H Q->r xs H Q):yn X f b:=λa s σ H xs d Q I c q=>h a s σ H xs d Q I c (k xs H Q q)
theorem MtM.weak{id:String}{r b:V->List V->Hp->VK->Prop}(h:MtM X id r)(k: ∀x xs H Q,b x xs H Q->r x xs H Q):MtM X id b:=λa s σ H x xs v e Q I d c q=>h a s σ H x xs v e Q I d c (k x xs H Q q)
theorem SlR.weak{r b:V->Option Int->Option Int->Hp->VK->Prop}(h:SlR X r)(k: ∀x lo hi H Q,b x lo hi H Q->r x lo hi H Q):SlR X b:=by
 intro a s σ H x v l e lo hi c Q I j hs pl d q;exact h a s σ H x v l e lo hi c Q I j hs pl d (k x lo hi H Q q)
theorem ah2.weak{t t':aqt}(h:ah2 X t)(k: ∀o i v H Q,t' o i v H Q->t o i v H Q):ah2 X t':=λa s σ H o i v j e u Q I d c b q=>h a s σ H o i v j e u Q I d c b (k o i v H Q q)
noncomputable def a7s(t:TA):TE:=λσ H Q=>t σ H λxs H1=>xs.length <=sizeLine/\ ∀p H',New H1 p (.tup xs) H'->Q (.ref p) H'
noncomputable def a8e(t:TA):TE:=λσ H Q=>t σ H λxs H1=>xs.length <=sizeLine/\ ∀p H',New H1 p (.lst xs) H'->Q (.ref p) H'
theorem a1v{x1 pos}(h:PA X es t):PE X (.Tuple es x1 pos) (a7s t):=by
 refine⟨?_⟩;intro a s σ H Q I l;refine wpAny_Tuple_spliced (thn (h pos a s σ H _ I l) λj c ⟨xs,d,I1,r,z,q⟩=>⟨by rw[←r.length];exact z,?_⟩);have k:d c.heap.objs.size=none:=I1.hok.fresh (aj _);refine⟨.ref c.heap.objs.size,upd d c.heap.objs.size (.tup xs),I1.laid (t':=c.toks) (λb u e=>ag _ e) (aj _) ?_,rfl,q _ _ ⟨k,rfl⟩⟩;exact⟨z,j,r,⟨_,aD _ rfl⟩⟩
theorem a30{pos}(h:PA X es t):PE X (.List es pos) (a8e t):=by
 refine⟨?_⟩;intro a s σ H Q I l;refine wpAny_List_spliced (thn (h pos a s σ H _ I l) λj c ⟨xs,d,I1,r,z,q⟩=>⟨by rw[←r.length];exact z,?_⟩);have k:d c.heap.objs.size=none:=I1.hok.fresh (aj _);refine⟨.ref c.heap.objs.size,upd d c.heap.objs.size (.lst xs),I1.laid (t':=c.toks) (λb u e=>ag _ e) (aj _) ?_,rfl,q _ _ ⟨k,rfl⟩⟩;exact⟨z,j,0,r,aD _ rfl⟩
def a72(K:ak):V->Option Int->Option Int->Hp->VK->Prop:=λx lo hi H Q=>∃a xs,x=.ref a/\SqL K H a xs/\ ∀p H',New H p (.lst (aaa xs lo hi)) H'->Q (.ref p) H'
theorem axp:SlR X (a72 X.K):=a0k.weak λx lo c H Q ⟨a,xs,e,h,q⟩=>⟨a,xs,e,h,λp b=>q p _ ⟨b,rfl⟩⟩
def a6x(K:ak):V->Option Int->Option Int->Hp->VK->Prop:=λx lo hi H Q=>∃a xs,x=.ref a/\SqT K H a xs/\ ¬(HT.sIx xs.length 0 lo=0/\HT.sIx xs.length xs.length hi=xs.length)/\ ∀p H',New H p (.tup (aaa xs lo hi)) H'->Q (.ref p) H'
theorem a34:SlR X (a6x X.K):=ams.weak λx lo c H Q ⟨a,xs,e,h,n,q⟩=>⟨a,xs,e,h,n,λp b=>q p _ ⟨b,rfl⟩⟩
noncomputable def a7n:R2:=λx y H Q=>∃l b xs zs,x=.ref l/\y=.ref b/\H l=some (.lst xs)/\H b=some (.lst zs)/\xs.length+zs.length <=sizeLine/\ ∀p H',New H p (.lst (xs++zs)) H'->Q (.ref p) H'
theorem a1q:OpR X (binaryOp .Add) a7n:=a5z.weak λx y H Q ⟨l,b,xs,a,d,c,h,e,n,q⟩=>⟨l,b,xs,a,d,c,h,e,n,λp j=>q p _ ⟨j,rfl⟩⟩
theorem ar8:yn X (.type "list") (λxs H Q=>∃p ys,xs=[.ref p]/\(SqL X.K H p ys\/SqT X.K H p ys)/\ ∀l H',New H l (.lst ys) H'->Q (.ref l) H'):=
 an9.weak λxs H Q ⟨p,ys,e,h,q⟩=>⟨p,ys,e,h,λl a=>q l _ ⟨a,rfl⟩⟩
theorem ade:yn X (.type "tuple") (λxs H Q=>∃p ys,xs=[.ref p]/\((SqL X.K H p ys/\ ∀l H',New H l (.tup ys) H'->Q (.ref l) H')\/(SqT X.K H p ys/\Q (.ref p) H))):=
 akj.weak λxs H Q ⟨p,ys,e,h⟩=>⟨p,ys,e,h.imp (λ⟨a,q⟩=>⟨a,λl b=>q l _ ⟨b,rfl⟩⟩) id⟩
def ayi:V->List V->Hp->VK->Prop:=λx vs H Q=>∃l xs y,x=.ref l/\vs=[y]/\H l=some (.lst xs)/\xs.length < sizeLine/\ ∀H',Chg H l (.lst (xs++ [y])) H'->Q .non H'
theorem aqa:MtM X "list.append" ayi:=afv.weak λx vs H Q ⟨l,xs,y,b,a,h,n,q⟩=>⟨l,xs,y,b,a,h,n,q _ ⟨rfl⟩⟩
def aw1:V->List V->Hp->VK->Prop:=λx vs H Q=>∃l b xs zs,x=.ref l/\vs=[.ref b]/\H l=some (.lst xs)/\H b=some (.lst zs)/\xs.length+zs.length <=sizeLine/\ ∀H',Chg H l (.lst (xs++zs)) H'->Q .non H'
theorem aqz:MtM X "list.extend" aw1:=aus.weak λx vs H Q ⟨l,b,xs,a,d,c,h,e,n,q⟩=>⟨l,b,xs,a,d,c,h,e,n,q _ ⟨rfl⟩⟩
def aun(K:ak):V->List V->Hp->VK->Prop:=λx vs H Q=>∃l b xs zs,x=.ref l/\vs=[.ref b]/\H l=some (.lst xs)/\SqT K H b zs/\xs.length+zs.length <=sizeLine/\ ∀H',Chg H l (.lst (xs++zs)) H'->Q .non H'
theorem anw:MtM X "list.extend" (aun X.K):=as7.weak λx vs H Q ⟨l,b,xs,a,d,c,h,e,n,q⟩=>⟨l,b,xs,a,d,c,h,e,n,q _ ⟨rfl⟩⟩
def a5e:V->V->V->Hp->(Hp->Prop)->Prop:=λo i v H Q=>∃p xs k j,o=.ref p/\i=.int k/\H p=some (.lst xs)/\ixN xs.length k=some j/\ ∀H',Chg H p (.lst (xs.set j v)) H'->Q H'
theorem ak0:ah2 X a5e:=avy.weak λo i v H Q ⟨p,xs,k,j,b,a,h,n,q⟩=>⟨p,xs,k,j,b,a,h,n,q _ ⟨rfl⟩⟩
theorem Inv.drew(I:Inv X pins σ H s)(d':Drawn):Inv X pins σ H {s with drawn:=d'}:=
 ⟨I.ok,I.os,I.bare,I.base,I.loc,I.cell,I.free,I.freeC,I.pin,I.hok,I.len⟩
theorem xo:plainId "dict.update.loop"=true:=by decide+kernel
theorem aef:entryFor table "dict.update.loop"=some dS.«dict.update.loop»:=entryFor_of_tree (by kernel_rfl)
theorem asw:typeLookup (.type "list") (bj "keys")=pure none:=by rw[typeLookup_type,lI];kernel_rfl
theorem arh:typeLookup (.type "tuple") (bj "keys")=pure none:=by rw[typeLookup_type,lI];kernel_rfl
section
variable{prog:aP}{w:aM}{A:bh}{E:ae->af->Prop}{s:af}{a:Addr}
theorem ah0{o:Obj}{xs:Array ae}{k:Nat}{Q:Option ae->af->Prop}(hx:s.heap.get? a=some o)(n:o.cls=.type "list")(j:o.data=.seq xs k)(hd:o.dict=none)(q:A.handled=none)
  (h: ∀h' tk,(∀b u,s.heap.get? b=some u->h'.get? b=some u)->Q none {s with heap:=h',toks:=tk}):wpAny (model prog w) A (getAttr? (.ref a) (bj "keys")) Q E s:=by
 obtain⟨c,r,v,t⟩:=o;simp only at n j hd;subst n j hd;obtain⟨x,g,d,tk,os⟩:=s;have p: ∀l,(⟨x,g,d,l,os⟩:af).TypeIs (.ref a) "list":=λ_=>⟨_,hx,rfl⟩
 have H:=sub_AttributeError;have z:=eX.lookup;have y:=eX.bind (.ref a);have D:=am_list_getattr_none;unfold getAttr? getAttrBy? getAttrBy
 repeat (any_goals (first|assumption|exact p _|((with_reducible show wpAny _ _ (call (i9 "list.__getattribute__") _ _) _ _ _);refine ii eX (p _) am_entry_list_getattribute (PySem.F.args_list_getattribute_2 _ _) (meets_getattribute_miss_list a xs k t (bj "keys") _ asw (by decide+kernel) (by size_fits)) ⟨hx,q,λh' l e m=>?_⟩)|wp_step))
 obtain⟨t',I,C⟩:=m.there;show wpAny _ _ (gi _ _ _ _ _ _ _) _ _ _;unfold gi
 (repeat (any_goals (first|assumption|wp_step)));exact h _ _ λb u e=>m.keeps b u e
theorem afi{o:Obj}{xs:Array ae}{k:Nat}{Q:Option ae->af->Prop}(hx:s.heap.get? a=some o)(n:o.cls=.type "tuple")(j:o.data=.seq xs k)(hd:o.dict=none)(q:A.handled=none)
  (h: ∀h' tk,(∀b u,s.heap.get? b=some u->h'.get? b=some u)->Q none {s with heap:=h',toks:=tk}):wpAny (model prog w) A (getAttr? (.ref a) (bj "keys")) Q E s:=by
 obtain⟨c,r,v,t⟩:=o;simp only at n j hd;subst n j hd;obtain⟨x,g,d,tk,os⟩:=s;have p: ∀l,(⟨x,g,d,l,os⟩:af).TypeIs (.ref a) "tuple":=λ_=>⟨_,hx,rfl⟩
 have H:=sub_AttributeError;have z:=eM.lookup;have y:=eM.bind (.ref a);have D:=am_tuple_getattr_none;unfold getAttr? getAttrBy? getAttrBy
 repeat (any_goals (first|assumption|exact p _|((with_reducible show wpAny _ _ (call (i9 "tuple.__getattribute__") _ _) _ _ _);refine ii eM (p _) am_entry_tuple_getattribute (PySem.F.args_tuple_getattribute_2 _ _) (meets_getattribute_miss_tuple a xs k t (bj "keys") _ arh (by decide+kernel) (by size_fits)) ⟨hx,q,λh' l e m=>?_⟩)|wp_step))
 obtain⟨t',I,C⟩:=m.there;show wpAny _ _ (gi _ _ _ _ _ _ _) _ _ _;unfold gi
 (repeat (any_goals (first|assumption|wp_step)));exact h _ _ λb u e=>m.keeps b u e
def aif(h:Heap)(item:ae)(k:Key)(v:ae):Prop:= ∃q o key c,item=.ref q/\h.get? q=some o/\o.cls=.type "tuple"/\o.data=.seq #[key,v] c/\ac5 k key=true
noncomputable def abg(ps:List (Key×ae)):List (Key×ae):=ps.foldl (λd p=>stored d p.1 p.2) []
theorem aqq(d:List (Key×ae))(k:Key)(v:ae):(stored d k v).length <=d.length+1:=by
 unfold stored;split
 ·rw[ao];lia
 ·rw[aH,aE,dk];lia
theorem avq(ps:List (Key×ae)):(abg ps).length <=ps.length:=by
 have all: ∀(l:List (Key×ae)) (d:List (Key×ae)),(l.foldl (λd p=>stored d p.1 p.2) d).length <=d.length+l.length:=by
  intro l;induction l with
  |nil=>intro d;exact aj _
  |cons p r a=>
   intro d;have c:=a (stored d p.1 p.2);have b:=aqq d p.1 p.2;rw[aW,aE];lia
 have:=all ps [];simpa[abg] using this
theorem a1x{a:Heap}{item:ae}{k:Key}{v:ae}{Q:List ae->af->Prop}(d:aif a item k v)(j: ∀q o,item=.ref q->a.get? q=some o->s.heap.get? q=some o)
  (h: ∀key,ac5 k key=true->Q [key,v] s):wpAny (model prog w) A (eZ item) Q E s:=by
 obtain⟨q,o,key,c,rfl,e,l,hd,hk⟩:=d;have b:=j q o rfl e;unfold eZ;refine ac (cQ (T:="tuple") ⟨o,b,l⟩ ?_);rw[if_pos (by decide)];refine ac ?_;unfold seqItems?;refine ac (wpAny_load b ?_);rw[hd];exact ah (ah (h key hk))
theorem aua{R:kA->af->Prop}{I:Addr}{St:Nat->Heap->Prop}(W:nc prog w A.in1 I fp [I] items.size (λi v=>items[i]?=some v) St)(d:Addr)(hd:d∉fp)(t:Heap)(ps:List (Key×ae))(r:ps.length=items.size)(hz:ps.length < sizeLine)(u: ∀(i:Nat) (k:Key) (v item:ae),ps[i]?=some (k,v)->items[i]?=some item->aif t item k v)(l: ∀b o,t.get? b=some o->b≠d/\b≠I):
  ∀(j i:Nat) (s:af),i+j=items.size->St i s.heap->(∀b o,t.get? b=some o->s.heap.get? b=some o)->s.heap.DictOf (jx prog w) d (abg (ps.take i))->(ps.take i=[]->Emp s.heap d) ->
   (∀h' tk,(∀b o,t.get? b=some o->h'.get? b=some o)->h'.DictOf (jx prog w) d (abg ps)->(ps=[]->Emp h' d)->R (.ok (.ret .none)) {s with heap:=h',toks:=tk}) ->
   codeAny (model prog w) A (.builtin "dict.update.loop" ⟨[.ref d,.ref I,rawInt i,.none],[]⟩) R s:=by
 have n:I∈fp:=W.sub I (by simp);have a: ∀{h h':Heap} {kvs:List (Key×ae)},(∀b o,b∉ [I]->h.get? b=some o->h'.get? b=some o)->h.DictOf (jx prog w) d kvs->h'.DictOf (jx prog w) d kvs:=λk z=>by
  obtain⟨o,es,ep,e,q⟩:=z;exact⟨o,es,ep,k d o (λm=>hd (by rw[aA.mp m];exact n)) e,q⟩
 intro j;induction j with
 | zero=>
  intro i s J st kp L N K;have S:i=items.size:=by lia
  subst S;refine ik aef ?_;rw[fL xo _];refine(show wpAny _ A.in1 (pyNext (.ref I)>>=_) _ _ s from ac (W.done s _ _ st λh' tk k=>?_));refine ac (show wpAny _ _ (kE d []) _ _ _ from ah (ah (K h' tk (λb o e=>k b o (λm=>(l b o e).2 (aA.mp m)) (kp b o e)) ?_ ?_)))
  rotate_left
  ·intro z;obtain⟨o,e,c⟩:=N (by rw[z];exact List.take_nil);exact⟨o,k d o (λm=>hd (by rw[aA.mp m];exact n)) e,c⟩
  have:=a k L;rw[gQ (dN r)]at this;exact this
 | succ j U=>
  intro i s J st kp L N K;refine ik aef ?_;rw[fL xo _];refine(show wpAny _ A.in1 (pyNext (.ref I)>>=_) _ _ s from ac (W.item i s _ _ (by lia) st λv M tk V st1 k=>?_));have P:i < ps.length:=by lia
  obtain⟨⟨key,val⟩,C⟩: ∃p,ps[i]?=some p:=⟨ps[i],av P⟩;have x: ∀b o,t.get? b=some o->M.get? b=some o:=λb o e=>k b o (λm=>(l b o e).2 (aA.mp m)) (kp b o e)
  refine ac (bg (ac (wpAny_tryCatch (a1x (u i key val v C V) (λq o _ e=>x q o e) λkk hk=>?_))));dsimp only;refine bg ?_;unfold dictSet;have few:(abg (ps.take i)).length <=sizeLine:=aN (avq _) (by rw[cU];lia);refine bg (ac ((jx prog w).pyHash (k:=key) hk (wpAny_dictSetHashed_pairs (hsz:=few) (s:={s with heap:=M,toks:=tk+1}) hk (a k L) λQ E sb=>?_)));have Y:abg (ps.take (i+1))=stored (abg (ps.take i)) key val:=by
   rw[List.take_add_one,C];unfold abg;rw[Option.toList_some,bw];rfl
  refine ah ⟨fU xo _,?_⟩;refine U (i+1) {s with heap:=Q,toks:=tk+1} (by lia) (W.frame _ _ _ st1 λb Z o e=>?_) (λb o e=>?_) (by rw[Y];exact E) (λz=>by have y:=congrArg dJ z;rw[cU,dk]at y;lia) λh' D O F H=>K h' D O F H
  ·exact(sb.2 b (λz=>hd (z▸Z))).trans e
  ·exact(sb.2 b (l b o e).1).trans (x b o e)
end
section
variable{prog:aP}{w:aM}{A:bh}{E:ae->af->Prop}{s:af}{a:Addr}
theorem atq{m:Obj}{k:Nat}(hh:A.handled=none)(F:T="list"\/T="tuple")(ho:s.heap.get? a=some m)(n:m.cls=.type T)(hd:m.data=.seq items k)(t:m.dict=none)(ps:List (Key×ae))(x:ps.length=items.size)(hz:ps.length < sizeLine)(p: ∀(i:Nat) (k:Key) (v item:ae),ps[i]?=some (k,v)->items[i]?=some item->aif s.heap item k v)(h: ∀h' tk,h'.DictOf (jx prog w) s.heap.objs.size (abg ps)->(∀b u,s.heap.get? b=some u->h'.get? b=some u)->(ps=[]->Emp h' s.heap.objs.size)->Q (.ref s.heap.objs.size) {s with heap:=h',toks:=tk}):
  wpAny (model prog w) A (call (.type "dict") [.ref a]) Q E s:=by
 refine callType_codes (Q₁:=λobj H=>obj=.ref s.heap.objs.size/\H={s with heap:=s.heap.push {cls:=.type "dict",data:=.dict #[]}}) ly (jF _) kO (kt_code_dict_new _ ⟨rfl,rfl⟩) ?_;rintro obj H ⟨rfl,rfl⟩;have new:(s.heap.push {cls:=.type "dict",data:=.dict #[]}).DictOf (jx prog w) s.heap.objs.size []:=kY s.heap;have l:(s.heap.push {cls:=.type "dict",data:=.dict #[]}).get? a=some m:=ag _ ho;have D:=ay ho;have j:A.in1.in1.handled=none:=hh;refine⟨new.typeIs,kF _ _,?_⟩;unfold dS.«dict.__init__»;refine ac ?_;unfold kG;refine ac (fA new.typeIs ?_);refine(show wpAny _ _ (pure (s.heap.objs.size,[bi a])) _ _ _ from ah ?_);show wpAny _ _ (eN "dict.__init__" s.heap.objs.size (.ref a) [] .none) _ _ _;unfold eN;refine ac (cQ (T:=T) ⟨m,l,n⟩ ?_);rw[if_pos (by rcases F with rfl|rfl <;> decide)];have key: ∀(c:Heap) (tk:Nat),(∀b u,(s.heap.push {cls:=.type "dict",data:=.dict #[]}).get? b=some u->c.get? b=some u)->∀(C:Obj) (St:Nat->Heap->Prop),St 0 (c.push C) ->
   nc prog w A.in1.in1 c.objs.size [c.objs.size,a] [c.objs.size] items.size (λi v=>items[i]?=some v) St ->
   codeAny (model prog w) A.in1 (.builtin "dict.update.loop" ⟨[.ref s.heap.objs.size,.ref c.objs.size,rawInt 0,.none],[]⟩) (wants (λr J=>r=.none/\Q (.ref s.heap.objs.size) J) E) {s with heap:=c.push C,toks:=tk}:=by
  intro c tk d C St st W;have gd:c.get? s.heap.objs.size=some {cls:=.type "dict",data:=.dict #[]}:=d _ _ (aD _ rfl);have nd:s.heap.objs.size∉ [c.objs.size,a]:=by
   simp only[aL,cV,or_false,not_or];exact⟨aI (ay gd),fy D⟩
  refine aua (A:=A.in1) W s.heap.objs.size nd s.heap ps x hz p (λb o e=>⟨aI (ay e),aI (ay (d _ _ (ag _ e)))⟩) items.size 0 _ (by lia) st (λb o e=>ag _ (d _ _ (ag _ e))) ?_ (λ_=>⟨_,ag _ gd,⟨rfl,rfl,rfl⟩,rfl⟩) λh' z I K L=>⟨rfl,h h' z K I L⟩
  obtain⟨o,es,ep,e,q⟩:=new;exact⟨o,es,ep,ag _ (d _ _ e),q⟩
 rcases F with rfl|rfl
 ·refine ac (ah0 l n hd t j λc tk d=>?_);rw[if_pos (show(none:Option ae).isNone=true from rfl)];have y:c.IsList a items:=⟨m,d _ _ l,n,k,hd⟩;refine ac (b9 (ac (fj y ?_)));exact ah ⟨fU xo _,key c tk d _ _ ⟨⟨_,aD _ rfl,rfl,rfl⟩,y.push _⟩ (Walks.list j _ a (aI (ay (d _ _ l))) items)⟩
 ·refine ac (afi l n hd t j λc tk d=>?_);rw[if_pos (show(none:Option ae).isNone=true from rfl)];have y:c.IsTuple a items:=⟨m,d _ _ l,n,k,hd⟩;refine ac (b9 (ac (gj y ?_)));exact ah ⟨fU xo _,key c tk d _ _ ⟨⟨_,aD _ rfl,rfl,rfl⟩,⟨_,ag _ (d _ _ l),n,k,hd⟩⟩ (Walks.tuple j _ a (aI (ay (d _ _ l))) items)⟩
end
def aep(ps:List (Key×V)):List (Key×V):=ps.foldl (λd p=>jp d p.1 p.2) []
theorem a2p{ps:List (Key×V)}{a:List (Key×ae)}(r:KV ps a):KV (aep ps) (abg a):=by
 have all: ∀{ps:List (Key×V)} {a:List (Key×ae)},KV ps a->∀{d:List (Key×V)} {e:List (Key×ae)},KV d e->KV (ps.foldl (λd p=>jp d p.1 p.2) d) (a.foldl (λd p=>stored d p.1 p.2) e):=by
  intro ps a r;induction r with
  |nil=>intro d e z;exact z
  |cons h _ j=>
   intro d e z;rw[aW,aW];obtain⟨c,b⟩:=h;rw[←c];exact j (KV.put z _ b)
 exact all r .nil
theorem at5(ps:List (Key×V)):(aep ps).length <=ps.length:=by
 have all: ∀(l:List (Key×V)) (d:List (Key×V)),(l.foldl (λd p=>jp d p.1 p.2) d).length <=d.length+l.length:=by
  intro l;induction l with
  |nil=>intro d;exact aj _
  |cons p r a=>
   intro d;have c:=a (jp d p.1 p.2);have b:=vh d p.1 p.2;rw[aW,aE];lia
 have:=all ps [];simpa[aep] using this
abbrev am1(H:Hp):List Addr->List (Key×V)->Prop:=eE λq p=>Rd H q (.tup [kV p.1,p.2])
theorem pairs_at(I:Inv X pins σ H s){b:List Addr}{ps:List (Key×V)}(h:am1 H b ps):
  ∃us,KV ps us/\ ∀(i:Nat) (k:Key) (v:ae),us[i]?=some (k,v)->∀q,b[i]?=some q->aif s.heap (.ref q) k v:=by
 induction h with
 |nil=>exact⟨[],.nil,λi k v e=>by simp at e⟩
 | cons z _ E=>
  rename_i q p F J _;obtain⟨us,r,f⟩:=E;obtain⟨t,A,⟨o,e,c,n,d⟩,_⟩:=I.tuple (.inl z);cases A with
  | cons m u=>
   cases u with
   | cons x C=>
    cases C;rename_i D y;refine⟨(p.1,y)::us,.cons ⟨rfl,x⟩ r,λi k v j l a=>?_⟩;cases i with
    |zero=>
     cases j;cases a;exact⟨q,o,D,n,rfl,e,c,by simpa using d,aas (P:=X.prog) (w:=X.w) m⟩
    |succ i=>exact f i k v j l a
theorem am6: ∀(r acc:List (Key×V)),r.foldl (λacc a=>jp acc a.1 a.2) acc=[]->r=[]/\acc=[]
 |[],acc,h=>⟨rfl,h⟩
 |p::r,acc,h=>absurd (am6 r (jp acc p.1 p.2) h).2 (ajy _ _ _)
theorem Inv.turnedL{t':Nat}{ch:List Addr}(I:Inv X pins σ H s)(k: ∀b o,b∉ch->s.heap.get? b=some o->h'.get? b=some o)(d: ∀b∈ch,zt X pins H b):Inv X pins σ H {s with heap:=h',toks:=t'}:=by
 have no: ∀b u,H b=some u->b∉ch:=λb u e m=>by rw[(d b m).1]at e;cases e
 refine I.step (g':=s.gens) (d':=s.drawn) (ch:=ch) (λb m=>⟨(d b m).2.2.2.1,(d b m).2.1,(d b m).2.2.2.2.1,(d b m).2.2.2.2.2⟩) (λb o _ _ a e _=>k b o a e) (λb o _ _ a e _=>⟨o.slots,k b o a e⟩) (λ_ _ _ _ n=>n)
  (λb o a e=>⟨o,k b o a e⟩) (λ_ _ e=>e) (λ_ _ _ e=>e) (λb ps e=>⟨#[],by rw[e];simp⟩) (λm hm=>?_) (λb u e=>?_) I.bare
 ·obtain⟨o,es,ep,ho,r⟩:=hm;exact⟨o,es,ep,k _ o (λz=>(d _ z).2.1 rfl) ho,r⟩
 ·refine(I.hok b u e).stay (λc v a q=>k c v ?_ q) (λ_ q=>q) λ_ _ q=>q
  rcases a with z|z
  ·rw[z];exact no b u e
  ·exact no c _ z
theorem a84:bK "zip"=some (.type "zip"):=by decide+kernel
section
open HT
variable{prog:aP}{w:aM}{A:bh}{E:ae->af->Prop}{s:af}
theorem atu{t c:Addr}{l n:ae}{lo b:Option Int}(a:IsTup s.heap t items)(hs:s.heap.IsSliceOf c l n .none)(pl:gP l lo)(o:gP n b)(m:sIx items.size 0 lo=0/\sIx items.size items.size b=items.size)(h:Q (.ref t) s):wpAny (model prog w) A (getItem (.ref t) (.ref c)) Q E s:=by
 obtain⟨os,j,d,hds⟩:=id hs;have e:s.TypeIs (.ref c) "slice":=⟨os,j,d⟩;unfold getItem
 try with_reducible refine bg ?_
 first|refine ac (ah ?_)|skip
 refine ac (gK a.typeIs (by decide) (ac (bI (name:=bj "__getitem__") a.typeIs br
  (bL br a.typeIs iE ?_ (iT _ _)))))
 show wpAny _ _ (dX (.ref t)>>=_) _ _ s;refine ac (md a (ac (cQ e ?_)));rw[if_pos (by decide)];refine ac (aci hs pl o ?_);have k:(((sIx items.size 0 lo:Nat):Int)==0&&(1:Int)==1&&(sIx items.size items.size b - sIx items.size 0 lo)==items.size)=true:=by
  rw[m.1,m.2];simp
 show wpAny _ _ (if (((sIx items.size 0 lo:Nat):Int)==0&&(1:Int)==1&&(sIx items.size items.size b - sIx items.size 0 lo)==items.size)=true then _ else _) _ _ s;rw[if_pos k];unfold Builtin.Tuple.tupleIsExact;refine ac (ac (cQ a.typeIs (ah ?_)));rw[if_pos (by decide)];exact ac (b9 (ah ⟨_,rfl,ah h⟩))
end
def a8b(K:ak):V->Option Int->Option Int->Hp->VK->Prop:=λx lo hi H Q=>∃a xs,x=.ref a/\SqT K H a xs/\(aaa xs lo hi=xs->Q (.ref a) H)/\ ∀p H',New H p (.tup (aaa xs lo hi)) H'->Q (.ref p) H'
theorem a1h:SlR X (a8b X.K):=by
 intro b s σ H x v q p lo j o Q I l hs pl k h;obtain⟨a,xs,rfl,hx,q1,n⟩:=h;by_cases c:HT.sIx xs.length 0 lo=0/\HT.sIx xs.length xs.length j=xs.length
 ·cases l;obtain⟨e,r,m,hz⟩:=I.tuple hx;have d:e.toArray.size=xs.length:=by rw[ax];exact r.length.symm
  refine⟨"tuple",_,br.lookup,m.typeIs,?_⟩;refine atu m hs pl k (by rw[d];exact c) ⟨.ref a,H,I,rfl,q1 ?_⟩;unfold aaa;rw[c.1,c.2];simp
 ·exact a34 b s σ H (.ref a) v q p lo j o Q I l hs pl k ⟨a,xs,rfl,hx,c,n⟩
noncomputable def a56(K:ak):R2:=λx y H Q=>∃a b xs ys,x=.ref a/\y=.ref b/\SqT K H a xs/\SqT K H b ys/\xs.length+ys.length <=sizeLine/\(xs=[]->Q (.ref b) H)/\(xs≠ []->ys=[]->Q (.ref a) H)/\(xs≠ []->ys≠ []->∀p H',New H p (.tup (xs++ys)) H'->Q (.ref p) H')
theorem avv:OpR X (binaryOp .Add) (a56 X.K):=by
 intro j s σ H x y v u Q I t w h;obtain⟨a,b,xs,M,rfl,rfl,r,C,hz,O,q1,E⟩:=h;by_cases c:xs=[]
 ·cases t;cases w;obtain⟨o,L,F,_⟩:=I.tuple r;obtain⟨D,V,P,_⟩:=I.tuple C;have S:o=[]:=L.nil_iff.mpr c;subst S;obtain⟨⟨cls,U,data,J⟩,ho,A,n,hd⟩:=id F;obtain⟨⟨z,m,data2,q⟩,l,k,n2,e⟩:=id P;simp only at A hd k e;subst A hd k e;exact mK ⟨_,ho,rfl⟩ ⟨_,l,rfl⟩ kD l8 gO gF (gg _ _) (tuple_addW0 a b _ _ n n2 U m J q (by simp)) ⟨ho,l,⟨.ref b,H,I,rfl,O c⟩⟩
 ·exact a0h j s σ H (.ref a) (.ref b) v u Q I t w ⟨a,b,xs,M,rfl,rfl,r,C,c,hz,q1 c,λd p N=>E c d p _ ⟨N,rfl⟩⟩
noncomputable def b01(b:Bool):Int:=if b=true then 1 else 0
def awo:V->Option Int
 |.int i=>some i
 |.bl b=>some (b01 b)
 |_=>none
theorem a27:OpR X (binaryOp .Add) (λx y H Q=>∃i j,awo x=some i/\y=.int j/\Q (.int (i+j)) H):=by
 intro a s σ H x y v u Q I c d h;obtain⟨i,j,hx,rfl,q⟩:=h;cases x with
 |int k=>cases hx;exact auf a s σ H _ _ v u Q I c d ⟨_,j,rfl,rfl,q⟩
 |bl b=>
  cases hx;cases c;obtain⟨t',rfl⟩:=d;exact PySem.IntBool.add_bool_int ⟨.int (b01 b+j),H,I.tok _,⟨_,rfl⟩,q⟩
 |_=>cases hx
theorem a2r:OpR X (binaryOp .Sub) (λx y H Q=>∃i j,awo x=some i/\y=.int j/\Q (.int (i - j)) H):=by
 intro a s σ H x y v u Q I c d h;obtain⟨i,j,hx,rfl,q⟩:=h;cases x with
 |int k=>cases hx;exact ala a s σ H _ _ v u Q I c d ⟨_,j,rfl,rfl,q⟩
 |bl b=>
  cases hx;cases c;obtain⟨t',rfl⟩:=d;exact PySem.IntBool.sub_bool_int ⟨.int (b01 b - j),H,I.tok _,⟨_,rfl⟩,q⟩
 |_=>cases hx
theorem a2k:OpR X (binaryOp .Sub) (λx y H Q=>∃i j,x=.int i/\awo y=some j/\Q (.int (i - j)) H):=by
 intro a s σ H x y v u Q I d e h;obtain⟨i,j,rfl,c,q⟩:=h;cases y with
 |int k=>cases c;exact ala a s σ H _ _ v u Q I d e ⟨i,_,rfl,rfl,q⟩
 |bl b=>
  cases c;cases e;obtain⟨t',rfl⟩:=d;exact PySem.IntBool.sub_int_bool ⟨.int (i - b01 b),H,I.tok _,⟨_,rfl⟩,q⟩
 |_=>cases c
theorem part_of{v:ae}{o:Option Int}(p:gP v o): ∃q:Option (Int×Tok),v=partValue q/\q.map (·.1)=o:=by
 cases p with
 |none=>exact⟨none,rfl,rfl⟩
 |int i t=>exact⟨some (i,t),rfl,rfl⟩
section
open HT
variable{prog:aP}{w:aM}{A:bh}{E:ae->af->Prop}{s:af}
theorem aly{α β:Type}{f g:α->Option β}: ∀{l:List α},(∀m∈l,f m=g m)->l.filterMap f=l.filterMap g
 |[],_=>rfl
 |a::r,h=>by
  rw[eJ,eJ,h a au,aly λm hm=>h m (aq _ hm)]
theorem ayn(xs:Array ae):(a8 xs.size).filterMap (λ(m:Nat)=>xs[(((xs.size:Nat):Int) - 1+(m:Int)*(-1)).toNat]?)=xs.toList.reverse:=by
 have e: ∀m∈a8 xs.size,xs[(((xs.size:Nat):Int) - 1+(m:Int)*(-1)).toNat]?=some (xs.toList.reverse.getD m .none):=λm hm=>by
  have a:m < xs.size:=by simpa using hm
  have d:(((xs.size:Nat):Int) - 1+(m:Int)*(-1)).toNat=xs.size - 1 - m:=by lia
  rw[d,←fB,bP,List.getElem?_reverse (by simpa using a)];rw[b8,av (by simp;lia)];rfl
 rw[aly e];refine cJ λj=>?_
 have b:(a8 xs.size).filterMap (λm=>some (xs.toList.reverse.getD m .none))=(a8 xs.size).map (λm=>xs.toList.reverse.getD m .none):=by
  rw[←List.filterMap_eq_map];rfl
 rw[b,aT];by_cases c:j < xs.size
 ·rw[dH c,Option.map_some,bP,av (by simpa using c)];rfl
 ·rw[cc (by simpa using c),cc (by simpa using c)];rfl
theorem a1o{t c:Addr}{tk:Tok}{os:Obj}(b:IsTup s.heap t items)(a:s.heap.get? c=some os)(d:os.cls=.type "slice")(hds:os.data=.fields #[.none,.none,.int (-1) tk])(h:Q (.ref s.heap.objs.size) {s with heap:=s.heap.push {cls:=.type "tuple",data:=.seq items.toList.reverse.toArray}})(hsz:items.size <=sizeLine):wpAny (model prog w) A (getItem (.ref t) (.ref c)) Q E s:=by
 have e:s.TypeIs (.ref c) "slice":=⟨os,a,d⟩;unfold getItem
 try with_reducible refine bg ?_
 first|refine ac (ah ?_)|skip
 refine ac (gK b.typeIs (by decide) (ac (bI (name:=bj "__getitem__") b.typeIs br
  (bL br b.typeIs iE ?_ (iT _ _)))))
 show wpAny _ _ (dX (.ref t)>>=_) _ _ s;refine ac (md b (ac (cQ e ?_)));rw[if_pos (by decide)];refine ac ?_;unfold fS jU;refine ac (ac (bC a hds (x:=.none) rfl (ac (bC a hds (x:=.none) rfl (ac (bC a hds (x:=.int (-1) tk) rfl (ah ?_)))))));refine ac (slicePart_int ?_);show wpAny _ _ (if ((-1:Int)==0)=true then _ else _) _ _ s;rw[if_neg (by decide)];refine ac (iH (ac (iH (ac (ah ?_)))));have k:cy none none (-1) (items.size:Int)=((items.size:Int) - 1,-1):=by
  unfold cy;simp
 have j:bT ((items.size:Int) - 1) (-1) (-1)=items.size:=by
  unfold bT;simp only[show¬((-1:Int)> 0) by decide,if_false];split <;> (try simp) <;> lia
 show wpAny _ _ (match cy none none (-1) (items.size:Int) with|(lo,l)=>pure (lo,(-1:Int),bT lo l (-1))) _ _ s;rw[k];show wpAny _ _ (pure ((items.size:Int) - 1,(-1:Int),bT ((items.size:Int) - 1) (-1) (-1))) _ _ s;rw[j];refine ah ?_;show wpAny _ _ (if (((items.size:Int) - 1)==0&&(-1:Int)==1&&items.size==items.size)=true then _ else _) _ _ s;rw[if_neg (by simp),ayn];have hk:sizeOk (.seq items.toList.reverse.toArray):=by
  show items.toList.reverse.toArray.size <=sizeLine;simpa using hsz
 first
  |exact ac (m:=cF _) (cr (ah ⟨_,rfl,ah h⟩) hk)
  |exact ac (m:=cF _) (cr (ac (ah (ah ⟨_,rfl,ah h⟩))) hk)
end
section
variable{X:Cx}{e st:Expr}{te ts:TE}{p2 pos:Pos}
noncomputable def a9q(K:ak)(te ts:TE):TE:=λσ H Q=>te σ H λx H1=>ts σ H1 λy H2=>∃a xs,x=.ref a/\y=.int (-1)/\SqT K H2 a xs/\ ∀p H',New H2 p (.tup xs.reverse) H'->Q (.ref p) H'
theorem aya(r:jl xs us):jl xs.reverse us.reverse:=by
 induction r with
 |nil=>exact .nil
 |cons a _ b=>rw[gL,gL];exact b.append (.cons a .nil)
theorem a5l(C:PE X e te)(k:PE X st ts):PE X (.Subscript e (.Slice none none (some st) p2) pos) (a9q X.K te ts):=by
 refine⟨?_⟩;intro c s σ H Q I h;refine Subscript_ (thn (C c s σ H _ I h) λv J ⟨x,F,I1,t,q1⟩=>?_);refine wpAny_Slice ?_;rw[me]
 (refine ah (ah ?_))
 refine thn (k c J σ F _ I1 q1) λL d ⟨y,D,E,u,a,xs,ex,z,r,q⟩=>?_
 subst ex z;cases t;obtain⟨tk,rfl⟩:=u;have m:Inv X c σ D {d with heap:=d.heap.push {cls:=.type "slice",data:=.fields #[.none,.none,.int (-1) tk]}}:=E.kept (t':=d.toks) λb ob q=>ag _ q
 obtain⟨l,n,p,hz⟩:=m.tuple r;have j:l.toArray.size=xs.length:=by rw[ax];exact n.length.symm
 show wpAny (model X.prog X.w) X.A (jE e (.Slice none none (some st) p2) (.ref a) (.ref d.heap.objs.size)) (EP X c σ Q) X.xe {d with heap:=d.heap.push {cls:=.type "slice",data:=.fields #[.none,.none,.int (-1) tk]}};refine tail_any (ops:=[.ref a,.ref d.heap.objs.size]) p.typeIs br.lookup ?_ (by with_unfolding_all rfl);refine a1o (tk:=tk) p (aD _ rfl) rfl rfl ?_ (by rw[j];exact hz);refine⟨.ref _,_,m.laid (t':=d.toks) (o:=.tup xs.reverse) (λb ob q=>ag _ q) (aj _) ?_,rfl,q _ _ ⟨m.hok.fresh (aj _),rfl⟩⟩;exact⟨by rw[mw];exact hz,_,aya n,ael.new _ _⟩
end
end L2
namespace L2
open PySem PySem.Spec PyProof.Rows PyProof.Rows.KTD
structure TabF (K:ak) (d:Addr) (D:List (Str×Str)):Prop where
 tab: ∀h:Heap,K.In h->TabOf (λy v=>bG K a7 y=some (some v)) h d D
 refs: ∀k y,datumAt k D=some y->∃f:Addr,bG K a7 y=some (some (.ref f))
def a9d(X:Cx)(f:Addr)(σ:St)(vs:List V)(H:Hp)(Q:VK):Prop:= ∀(pins:List (Addr×Obj)) (s:af) (us:List ae),Inv X pins σ H s->jl vs us->wpAny (model X.prog X.w) X.A (call (.ref f) us) (EP X pins σ Q) X.xe s
end L2
namespace PF
open PySem PySem.Spec
open L2
inductive D where
 |da (d:aa)|con (ds:List aa)|frz (ds:List aa)|set (ds:List aa)
 |ref (n:Nat)|fn (x:Str)|tabF (T:List (Str×Str))|ty (n:String)
abbrev D.non:D:=.da .none
abbrev D.bl(b:Bool):D:=.da (.bool b)
abbrev D.int(i:Int):D:=.da (.int i)
abbrev D.str(x:Str):D:=.da (.str x)
abbrev D.tup(ds:List aa):D:=.da (.tuple ds)
abbrev D.lst(ds:List aa):D:=.da (.list ds)
inductive O where
 |lst (ds:List D)|dct (kvs:List (aa×D))|set (ds:List D)|ins (C:Str) (fs:List (Str×D))|exc (C:Str) (fs:List (Str×D))|xcx (C:Str) (fs:List (Str×D))|gone
abbrev S:=List O
abbrev En:=List (Option D)
inductive R (α:Type) where
 |ok (a:α) (s:S)
 |bad
 /-- the exception at n was raised,where the names stood as ρ tells -/
 |ex (n:Nat) (ρ:En) (s:S)
noncomputable def R.bind{α β:Type}(r:R α)(f:α->S->R β):R β:=match r with
 |.ok a s=>f a s
 |.bad=>.bad
 |.ex n ρ s=>.ex n ρ s
noncomputable def R.calm{α:Type}(r:R α):R α:=match r with
 |.ok a s=>.ok a s
 |.bad=>.bad
 |.ex _ _ _=>.bad
noncomputable def R.at{α:Type}(r:R α)(ρ:En):R α:=match r with
 |.ok a s=>.ok a s
 |.bad=>.bad
 |.ex n _ s=>.ex n ρ s
theorem R.calm_ok{α:Type}(a:α)(s:S):(R.ok a s).calm=.ok a s:=rfl
theorem R.at_ok{α:Type}(a:α)(s:S)(ρ:En):(R.ok a s).at ρ=.ok a s:=rfl
theorem R.bind_ok{α β:Type}(a:α)(s:S)(f:α->S->R β):(R.ok a s).bind f=f a s:=rfl
def R.W{α:Type}(r:R α)(Q:α->S->Prop):Prop:=match r with
 |.ok a s=>Q a s
 |.bad=>False
 |.ex _ _ _=>False
theorem R.W_calm{α:Type}(r:R α)(Q:α->S->Prop):r.calm.W Q=r.W Q:=by cases r <;> rfl
theorem R.W_at{α:Type}(r:R α)(ρ:En)(Q:α->S->Prop):(r.at ρ).W Q=r.W Q:=by cases r <;> rfl
theorem R.W_ok{α:Type}(a:α)(s:S)(Q:α->S->Prop):(R.ok a s).W Q=Q a s:=rfl
theorem R.W_bind{α β:Type}(r:R α)(f:α->S->R β)(Q:β->S->Prop):(r.bind f).W Q=r.W λa s=>(f a s).W Q:=by cases r <;> rfl
theorem R.W_mono{α:Type}{r:R α}{Q b:α->S->Prop}(h:r.W Q)(k: ∀a s,Q a s->b a s):r.W b:=by
 cases r with
 |ok a s=>exact k a s h
 |bad=>exact h
 |ex n ρ s=>exact h
structure As where
 ix:List (Option Addr)
 hd:List Addr
def As.has(as:As)(p:Addr):Prop:=some p∈as.ix\/p∈as.hd
abbrev As.add(as:As)(p:Addr):As:={as with ix:=as.ix++ [some p]}
abbrev As.cut(as:As)(n:Nat):As:={as with ix:=as.ix.set n none}
abbrev As.hide(as:As)(p:Addr):As:={as with hd:=p::as.hd}
abbrev As.show(as:As)(p:Addr):As:={as with hd:=as.hd.filter λq=>decide (q≠p)}
structure Step0 (as:As) (H:Hp) (as':As) (H':Hp):Prop where
 len:as.ix.length <=as'.ix.length
 old: ∀n:Nat,n < as.ix.length->as'.ix[n]?=as.ix[n]?\/as'.ix[n]?=some none
 back: ∀p,as'.has p->as.has p\/H p=none
 keep: ∀b o,¬as.has b->H b=some o->H' b=some o
 dom: ∀b,H b≠none->H' b≠none
structure Step (as:As) (H:Hp) (as':As) (H':Hp):Prop extends Step0 as H as' H' where
 hk: ∀p∈as.hd,p∈as'.hd
 hh: ∀p∈as.hd,∀o,H p=some o->H' p=some o
theorem Step.refl(as:As)(H:Hp):Step as H as H where
 len:=aj _
 old _ _:=.inl rfl
 back _ h:=.inl h
 keep _ _ _ e:=e
 dom _ e:=e
 hk _ h:=h
 hh _ _ _ e:=e
theorem j4{as:As}:some p∈as.ix ↔ ∃n:Nat,as.ix[n]?=some (some p):=by
 rw[fD]
theorem Step0.out{as a:As}(st:Step0 as H a H')(n: ¬as.has b)(e:H b=some o): ¬a.has b:=λm=>by
 rcases st.back b m with q|q
 ·exact n q
 ·rw[e]at q;cases q
theorem Step0.trans{as d c:As}{j k:Hp}(a:Step0 as H d j)(b:Step0 d j c k):Step0 as H c k where
 len:=aN a.len b.len
 old n hn:=by
  rcases b.old n (a9 hn a.len) with q|q
  ·rw[q];exact a.old n hn
  ·exact .inr q
 back p h:=by
  rcases b.back p h with q|q
  ·exact a.back p q
  ·right;cases z:H p with
   |none=>rfl
   |some o=>exact absurd q (a.dom p (by rw[z];simp))
 keep b' o n e:=b.keep b' o (a.out n e) (a.keep b' o n e)
 dom b' e:=b.dom b' (a.dom b' e)
theorem Step.trans{as d c:As}{j k:Hp}(a:Step as H d j)(b:Step d j c k):Step as H c k:=⟨a.toStep0.trans b.toStep0,λp h=>b.hk p (a.hk p h),λp h o e=>b.hh p (a.hk p h) o (a.hh p h o e)⟩
mutual
inductive TD (as:As) (H:Hp):V->aa->Prop
 |non:TD as H .non .none
 |bl (b:Bool):TD as H (.bl b) (.bool b)
 |int (i:Int):TD as H (.int i) (.int i)
 |str (x:Str):TD as H (.str x) (.str x)
 |tup {p:Addr} {xs:List V} {ds:List aa}: ¬as.has p->H p=some (.tup xs)->TDs as H xs ds->TD as H (.ref p) (.tuple ds)
 |lst {p:Addr} {xs:List V} {ds:List aa}: ¬as.has p->H p=some (.lst xs)->TDs as H xs ds->TD as H (.ref p) (.list ds)
 |dct {p:Addr}: ¬as.has p->H p=some (.dK [])->TD as H (.ref p) (.dict [])
 |dc1 {p:Addr} {i:Int} {v:V} {d:aa}: ¬as.has p->H p=some (.dK [(.inl i,v)])->TD as H v d->TD as H (.ref p) (.dict [(.int i,d)])
inductive TDs (as:As) (H:Hp):List V->List aa->Prop
 |nil:TDs as H [] []
 |cons {x:V} {xs:List V} {d:aa} {ds:List aa}:TD as H x d->TDs as H xs ds->TDs as H (x::xs) (d::ds)
end
inductive RD (K:ak) (as:As) (H:Hp):V->D->Prop
 |da {v:V} {d:aa}:TD as H v d->RD K as H v (.da d)
 |ty (n:String):RD K as H (.ty n) (.ty n)
 |fn {f:Addr} {x:Str}:bG K a7 x=some (some (.ref f))->RD K as H (.ref f) (.fn x)
 |tabF {d:Addr} {T:List (Str×Str)}:TabF K d T->RD K as H (.ref d) (.tabF T)
 |con {p:Addr} {xs:List V} {ds:List aa}:(∀H',SqT K H' p xs)->TDs as H xs ds->RD K as H (.ref p) (.con ds)
 |frz {p:Addr} {xs:List V} {ds:List aa}:(∀as' H',Step0 as H as' H'->SqL K H' p xs)->TDs as H xs ds->RD K as H (.ref p) (.frz ds)
 |ref {p:Addr} {n:Nat}:n < as.ix.length->(∀q,as.ix[n]?=some (some q)->q=p)->RD K as H (.ref p) (.ref n)
inductive RDs (K:ak) (as:As) (H:Hp):List V->List D->Prop
 |nil:RDs K as H [] []
 |cons {x:V} {xs:List V} {d:D} {ds:List D}:RD K as H x d->RDs K as H xs ds->RDs K as H (x::xs) (d::ds)
noncomputable def kP:Key->aa
 |.inl i=>.int i
 |.inr x=>.str x
def isT:aa->Bool
 |.tuple xs=>vn (.tuple xs)
 |_=>false
inductive DRs (K:ak) (as:As) (H:Hp):List (aa×V)->List (aa×D)->Prop
 |nil:DRs K as H [] []
 |cons {k:aa} {v:V} {d:D} {l:List (aa×V)} {kvs:List (aa×D)}:RD K as H v d->DRs K as H l kvs->DRs K as H ((k,v)::l) ((k,d)::kvs)
inductive FRs (K:ak) (as:As) (H:Hp):List (Str×V)->List (Str×D)->Prop
 |nil:FRs K as H [] []
 |cons {f:Str} {v:V} {d:D} {l:List (Str×V)} {fs:List (Str×D)}:RD K as H v d->FRs K as H l fs->FRs K as H ((f,v)::l) ((f,d)::fs)
def pvK(l:List (Key×V)):List (aa×V):=l.map λe=>(kP e.1,e.2)
def RO(K:ak)(as:As)(H:Hp)(p:Addr):O->Prop
 |.lst ds=>∃xs,H p=some (.lst xs)/\RDs K as H xs ds
 |.dct kvs=>(∃l:List (Key×V),H p=some (.dK l)/\DRs K as H (pvK l) kvs)\/ ∃l:List (aa×V),(l≠ []/\(l.all λe=>isT e.1)=true)/\H p=some (.dD l)/\DRs K as H l kvs
 |.ins C fs=>∃(Ca dx:Addr) (a:List (Str×V)),bG K a7 C=some (some (.ref Ca))/\H p=some (.ins Ca dx a)/\FRs K as H a fs
 |.exc C fs=>∃(Ca:Addr) (a:List (Str×V)),bG K a7 C=some (some (.ref Ca))/\H p=some (.exn Ca a)/\FRs K as H a fs
 |.xcx C fs=>∃(Ca:Addr) (a:List (Str×V)),bG K a7 C=some (some (.ref Ca))/\H p=some (.exx Ca a)/\FRs K as H a fs
 |_=>False
noncomputable def aqm:HO->Bool
 |.tup _=>false
 |_=>true
structure Rel (K:ak) (as:As) (H:Hp) (s:S):Prop where
 len:as.ix.length=s.length
 nd: ∀(i j:Nat) (p:Addr),as.ix[i]?=some (some p)->as.ix[j]?=some (some p)->i=j
 ob: ∀(n:Nat) (p:Addr) (o:O),as.ix[n]?=some (some p)->s[n]?=some o->RO K as H p o
 li: ∀(n:Nat) (o:O),s[n]?=some o->o≠ .gone->∃p,as.ix[n]?=some (some p)
 hs: ∀p∈as.hd,∃o,H p=some o/\aqm o=true
 hx: ∀p∈as.hd,some p∉as.ix
mutual
theorem TD.mono0{as as':As}{H H':Hp}(st:Step0 as H as' H'): ∀{v:V} {d:aa},TD as H v d->TD as' H' v d
 |_,_,.non=>.non
 |_,_,.bl b=>.bl b
 |_,_,.int i=>.int i
 |_,_,.str x=>.str x
 |_,_,.tup n e r=>.tup (st.out n e) (st.keep _ _ n e) (TDs.mono0 st r)
 |_,_,.lst n e r=>.lst (st.out n e) (st.keep _ _ n e) (TDs.mono0 st r)
 |_,_,.dct n e=>.dct (st.out n e) (st.keep _ _ n e)
 |_,_,.dc1 n e t=>.dc1 (st.out n e) (st.keep _ _ n e) (TD.mono0 st t)
theorem TDs.mono0{as as':As}{H H':Hp}(st:Step0 as H as' H'): ∀{vs:List V} {ds:List aa},TDs as H vs ds->TDs as' H' vs ds
 |_,_,.nil=>.nil
 |_,_,.cons a r=>.cons (TD.mono0 st a) (TDs.mono0 st r)
end
theorem RD.mono0{as b:As}(st:Step0 as H b H'){d:D}(h:RD K as H v d):RD K b H' v d:=by
 cases h with
 |da t=>exact .da (t.mono0 st)
 |ty n=>exact .ty n
 |fn a=>exact .fn a
 |tabF a=>exact .tabF a
 |con h r=>exact .con h (r.mono0 st)
 |frz h r=>exact .frz (λb H' c=>h b H' (st.trans c)) (r.mono0 st)
 |ref l h=>
  refine .ref (a9 l st.len) λq e=>?_
  rcases st.old _ l with z|z
  ·rw[z]at e;exact h q e
  ·rw[z]at e;cases e
theorem RDs.mono0{K:ak}{as b:As}{H H':Hp}(st:Step0 as H b H'): ∀{vs:List V} {ds:List D},RDs K as H vs ds->RDs K b H' vs ds
 |_,_,.nil=>.nil
 |_,_,.cons a r=>.cons (RD.mono0 st a) (RDs.mono0 st r)
theorem FRs.mono0{K:ak}{as b:As}{H H':Hp}(st:Step0 as H b H'): ∀{l:List (Str×V)} {fs:List (Str×D)},FRs K as H l fs->FRs K b H' l fs
 |_,_,.nil=>.nil
 |_,_,.cons a r=>.cons (a.mono0 st) (FRs.mono0 st r)
theorem DRs.mono0{K:ak}{as b:As}{H H':Hp}(st:Step0 as H b H'): ∀{l:List (aa×V)} {kvs:List (aa×D)},DRs K as H l kvs->DRs K b H' l kvs
 |_,_,.nil=>.nil
 |_,_,.cons a r=>.cons (RD.mono0 st a) (DRs.mono0 st r)
theorem DRs.mono{as a:As}(st:Step as H a H'){l:List (aa×V)}{kvs:List (aa×D)}(h:DRs K as H l kvs):DRs K a H' l kvs:=h.mono0 st.toStep0
theorem TD.mono{as a:As}(st:Step as H a H'){d:aa}(h:TD as H v d):TD a H' v d:=h.mono0 st.toStep0
theorem TDs.mono{as a:As}(st:Step as H a H'){v:List V}{d:List aa}(h:TDs as H v d):TDs a H' v d:=h.mono0 st.toStep0
theorem RD.mono{as a:As}(st:Step as H a H'){d:D}(h:RD K as H v d):RD K a H' v d:=h.mono0 st.toStep0
theorem RDs.mono{as a:As}(st:Step as H a H'){v:List V}{d:List D}(h:RDs K as H v d):RDs K a H' v d:=h.mono0 st.toStep0
section
variable{K:ak}{as:As}{H:Hp}
theorem RDs.length: ∀{vs:List V} {ds:List D},RDs K as H vs ds->vs.length=ds.length
 |_,_,.nil=>rfl
 |_,_,.cons _ r=>congrArg (· +1) (RDs.length r)
theorem RDs.append: ∀{vs b:List V} {ds es:List D},RDs K as H vs ds->RDs K as H b es->RDs K as H (vs++b) (ds++es)
 |_,_,_,_,.nil,s=>s
 |_,_,_,_,.cons a r,s=>.cons a (RDs.append r s)
theorem RDs.get: ∀{vs:List V} {ds:List D} {i:Nat} {d:D},RDs K as H vs ds->ds[i]?=some d->∃v,vs[i]?=some v/\RD K as H v d
 |_,_,_,_,.nil,e=>by simp at e
 |_,_,0,_,.cons a _,e=>by simp at e;subst e;exact⟨_,rfl,a⟩
 |_,_,i+1,d,.cons _ r,e=>by
  obtain⟨v,c,b⟩:=RDs.get (i:=i) (d:=d) r (by simpa using e);exact⟨v,by simpa using c,b⟩
theorem RDs.set: ∀{vs:List V} {ds:List D} (i:Nat) {v:V} {d:D},RD K as H v d->RDs K as H vs ds->RDs K as H (vs.set i v) (ds.set i d)
 |_,_,_,_,_,_,.nil=>.nil
 |_,_,0,_,_,r,.cons _ t=>.cons r t
 |_,_,i+1,_,_,r,.cons q t=>.cons q (RDs.set i r t)
theorem RDs.take: ∀{vs:List V} {ds:List D} (n:Nat),RDs K as H vs ds->RDs K as H (vs.take n) (ds.take n)
 |_,_,0,_=>.nil
 |_,_,_+1,.nil=>.nil
 |_,_,n+1,.cons r t=>.cons r (RDs.take n t)
theorem RDs.drop: ∀{vs:List V} {ds:List D} (n:Nat),RDs K as H vs ds->RDs K as H (vs.drop n) (ds.drop n)
 |_,_,0,r=>r
 |_,_,_+1,.nil=>.nil
 |_,_,n+1,.cons _ t=>RDs.drop n t
end
section
variable{as:As}{H:Hp}
theorem TDs.length: ∀{vs:List V} {ds:List aa},TDs as H vs ds->vs.length=ds.length
 |_,_,.nil=>rfl
 |_,_,.cons _ r=>congrArg (· +1) (TDs.length r)
theorem TDs.append: ∀{vs b:List V} {ds es:List aa},TDs as H vs ds->TDs as H b es->TDs as H (vs++b) (ds++es)
 |_,_,_,_,.nil,s=>s
 |_,_,_,_,.cons a r,s=>.cons a (TDs.append r s)
theorem TDs.get: ∀{vs:List V} {ds:List aa} {i:Nat} {d:aa},TDs as H vs ds->ds[i]?=some d->∃v,vs[i]?=some v/\TD as H v d
 |_,_,_,_,.nil,e=>by simp at e
 |_,_,0,_,.cons a _,e=>by simp at e;subst e;exact⟨_,rfl,a⟩
 |_,_,i+1,d,.cons _ r,e=>by
  obtain⟨v,c,b⟩:=TDs.get (i:=i) (d:=d) r (by simpa using e);exact⟨v,by simpa using c,b⟩
theorem TDs.take: ∀{vs:List V} {ds:List aa} (n:Nat),TDs as H vs ds->TDs as H (vs.take n) (ds.take n)
 |_,_,0,_=>.nil
 |_,_,_+1,.nil=>.nil
 |_,_,n+1,.cons r t=>.cons r (TDs.take n t)
theorem TDs.drop: ∀{vs:List V} {ds:List aa} (n:Nat),TDs as H vs ds->TDs as H (vs.drop n) (ds.drop n)
 |_,_,0,r=>r
 |_,_,_+1,.nil=>.nil
 |_,_,n+1,.cons _ t=>TDs.drop n t
theorem TDs.reverse: ∀{vs:List V} {ds:List aa},TDs as H vs ds->TDs as H vs.reverse ds.reverse
 |_,_,.nil=>.nil
 |_,_,.cons a r=>by rw[gL,gL];exact(TDs.reverse r).append (.cons a .nil)
end
theorem TDs.rd{K:ak}{as:As}{H:Hp}: ∀{vs:List V} {ds:List aa},TDs as H vs ds->RDs K as H vs (ds.map D.da)
 |_,_,.nil=>.nil
 |_,_,.cons a r=>.cons (.da a) (TDs.rd r)
noncomputable def j2:List D->Option (List aa)
 |[]=>some []
 |.da d::r=>match j2 r with
  |some ds=>some (d::ds)
  |none=>none
 |_=>none
theorem vg: ∀ds:List aa,j2 (ds.map D.da)=some ds
 |[]=>rfl
 |d::r=>by rw[aw,j2,vg r]
theorem yi: ∀{ds:List D} {xs:List aa},j2 ds=some xs->ds=xs.map D.da
 |[],xs,h=>by cases h;rfl
 |.da d::r,xs,h=>by
  rw[j2]at h;cases q:j2 r with
  |none=>rw[q]at h;cases h
  |some a=>rw[q]at h;cases h;rw[yi q];rfl
 |.con _::_,_,h=>by cases h
 |.frz _::_,_,h=>by cases h
 |.set _::_,_,h=>by cases h
 |.ref _::_,_,h=>by cases h
 |.fn _::_,_,h=>by cases h
 |.tabF _::_,_,h=>by cases h
 |.ty _::_,_,h=>by cases h
theorem RDs.td{K:ak}{as:As}{H:Hp}: ∀{vs:List V} {ds:List aa},RDs K as H vs (ds.map D.da)->TDs as H vs ds
 |_,[],h=>by cases h;exact .nil
 |_,d::r,h=>by
  cases h with
  |cons a b=>cases a with|da a=>exact .cons a (RDs.td b)
theorem aj8(n:New H p o H')(e:H b≠none):H' b≠none:=by
 cases q:H b with
 |none=>exact absurd q e
 |some u=>rw[n.keep q];simp
theorem kt{as:As}(n:New H p o H'):Step as H as H' where
 len:=aj _
 old _ _:=.inl rfl
 back _ h:=.inl h
 keep _ _ _ e:=n.keep e
 dom _ e:=aj8 n e
 hk _ h:=h
 hh _ _ _ e:=n.keep e
theorem xj{α:Type}{l:List α}{x y:α}{i:Nat}(e:(l++ [x])[i]?=some y):(i < l.length/\l[i]?=some y)\/(i=l.length/\y=x):=by
 by_cases h:i < l.length
 ·rw[aQ h]at e;exact .inl ⟨h,e⟩
 ·have a:i - l.length=0\/1 <=i - l.length:=by lia
  rw[aZ (bF h)]at e;rcases a with z|z
  ·rw[z]at e;simp at e;exact .inr ⟨by lia,e.symm⟩
  ·rw[c9.mpr (by simpa using z)]at e;cases e
theorem ap6{as:As}{q:Addr}(h:(as.add p).has q):as.has q\/q=p:=by
 rcases h with h|h
 ·rcases aS.mp h with z|z
  ·exact .inl (.inl z)
  ·exact .inr (by simpa using z)
 ·exact .inl (.inr h)
theorem vt{as:As}(n:New H p o H'):Step as H (as.add p) H' where
 len:=by simp
 old i h:=.inl (aQ h)
 back q h:=by
  rcases ap6 h with z|z
  ·exact .inl z
  ·subst z;exact .inr n.no
 keep _ _ _ e:=n.keep e
 dom _ e:=aj8 n e
 hk _ h:=h
 hh _ _ _ e:=n.keep e
theorem aam{as:As}(m:as.has p)(c:Chg H p o H'):Step0 as H as H' where
 len:=aj _
 old _ _:=.inl rfl
 back _ h:=.inl h
 keep b u n e:=c.keep (λz=>n (z▸m)) e
 dom b e:=by
  by_cases z:b=p
  ·subst z;rw[c.at];simp
  ·cases q:H b with
   |none=>exact absurd q e
   |some u=>rw[c.keep z q];simp
theorem yf{as:As}(m:some p∈as.ix)(a:p∉as.hd)(c:Chg H p o H'):Step as H as H':=⟨aam (.inl m) c,λ_ h=>h,λq h u e=>c.keep (λz=>a (z▸h)) e⟩
theorem ale{as a:As}{d j:Hp}(st:Step as H a d)(no:H p=none)(k:p∉as.hd)(m:p∈a.hd)(c:Chg d p o j):Step as H a j:=
 ⟨⟨st.len,st.old,st.back,λb u n e=>c.keep (yk e no) (st.keep b u n e),λb e=>(aam (.inr m) c).dom b (st.dom b e)⟩,st.hk,λq h u e=>c.keep (λz=>k (z▸h)) (st.hh q h u e)⟩
theorem ahq{as:As}{i:Nat}{q:Addr}(e:(as.cut n).ix[i]?=some (some q)):as.ix[i]?=some (some q):=by
 by_cases z:n=i
 ·subst z;rw[ef]at e;simp at e
 ·rw[aF z]at e;exact e
theorem ah5{as:As}(n:Nat):Step as H (as.cut n) H where
 len:=by simp
 old i h:=by
  by_cases z:n=i
  ·subst z;right;simp[h]
  ·left;rw[aF z]
 back p h:=by
  rcases h with h|h
  ·obtain⟨i,a⟩:=j4.mp h;exact .inl (.inl (j4.mpr ⟨i,ahq a⟩))
  ·exact .inl (.inr h)
 keep _ _ _ e:=e
 dom _ e:=e
 hk _ h:=h
 hh _ _ _ e:=e
theorem afl{as:As}(n:New H p o H'):Step as H (as.hide p) H' where
 len:=aj _
 old _ _:=.inl rfl
 back q h:=by
  rcases h with h|h
  ·exact .inl (.inl h)
  ·rcases aL.mp h with z|z
   ·subst z;exact .inr n.no
   ·exact .inl (.inr z)
 keep _ _ _ e:=n.keep e
 dom _ e:=aj8 n e
 hk _ h:=aq _ h
 hh _ _ _ e:=n.keep e
theorem alj{as:As}{q:Addr}(h:(as.show p).has q):as.has q:=by
 rcases h with h|h
 ·exact .inl h
 ·exact .inr (bd.mp h).1
theorem abi{as:As}:Step0 as H (as.show p) H where
 len:=aj _
 old _ _:=.inl rfl
 back q h:=.inl (alj h)
 keep _ _ _ e:=e
 dom _ e:=e
theorem ad3{as:As}(m:p∈as.hd):Step0 as H ((as.show p).add p) H where
 len:=by simp
 old i h:=.inl (aQ h)
 back q h:=by
  rcases ap6 h with z|z
  ·exact .inl (alj z)
  ·subst z;exact .inl (.inr m)
 keep _ _ _ e:=e
 dom _ e:=e
theorem amy{as a:As}{b:Hp}(st:Step as H a b)(c:p∉as.hd)(st2:Step0 a b (a.show p) b):Step as H (a.show p) b:=
 ⟨st.toStep0.trans st2,λq h=>bd.mpr ⟨st.hk q h,by
  have:q≠p:=λz=>c (z▸h)
  simp[this]⟩,st.hh⟩
theorem ajt{as a:As}{b:Hp}(st:Step as H a b)(c:p∉as.hd)(m:p∈a.hd):Step as H ((a.show p).add p) b:=
 ⟨st.toStep0.trans (ad3 m),λq h=>bd.mpr ⟨st.hk q h,by
  have:q≠p:=λz=>c (z▸h)
  simp[this]⟩,st.hh⟩
section
variable{K:ak}{as as':As}{H H':Hp}{s:S}{p:Addr}
theorem RO.mono0(st:Step0 as H as' H'){o:O}(e:H' p=H p)(h:RO K as H p o):RO K as' H' p o:=by
 cases o with
 |lst ds=>
  obtain⟨xs,a,r⟩:=h;exact⟨xs,e.trans a,r.mono0 st⟩
 |dct kvs=>
  rcases h with ⟨l,a,r⟩|⟨l,b,a,r⟩
  ·exact .inl ⟨l,e.trans a,r.mono0 st⟩
  ·exact .inr ⟨l,b,e.trans a,r.mono0 st⟩
 |ins C fs=>
  obtain⟨d,dx,c,b,a,r⟩:=h;exact⟨d,dx,c,b,e.trans a,r.mono0 st⟩
 |exc C fs=>
  obtain⟨d,c,b,a,r⟩:=h;exact⟨d,c,b,e.trans a,r.mono0 st⟩
 |xcx C fs=>
  obtain⟨d,c,b,a,r⟩:=h;exact⟨d,c,b,e.trans a,r.mono0 st⟩
 |_=>exact h.elim
theorem RO.some{o:O}(h:RO K as H p o):H p≠none:=by
 cases o with
 |lst ds=>
  obtain⟨xs,a,r⟩:=h;rw[a];simp
 |dct kvs=>
  rcases h with ⟨l,a,r⟩|⟨l,b,a,r⟩ <;> (rw[a];simp)
 |ins C fs=>
  obtain⟨d,dx,c,b,a,r⟩:=h;rw[a];simp
 |exc C fs=>
  obtain⟨d,c,b,a,r⟩:=h;rw[a];simp
 |xcx C fs=>
  obtain⟨d,c,b,a,r⟩:=h;rw[a];simp
 |_=>exact h.elim
theorem Rel.at(r:Rel K as H s)(e:as.ix[n]?=some (some p)):H p≠none:=by
 have a:n < s.length:=by
  rw[←r.len];exact(am.mp e).1
 exact(r.ob n p _ e (av a)).some
theorem Rel.has(r:Rel K as H s)(h:as.has p):H p≠none:=by
 rcases h with h|h
 ·obtain⟨i,a⟩:=j4.mp h;exact r.at a
 ·obtain⟨xs,e,_⟩:=r.hs p h;rw[e];simp
theorem ae2{q:Addr}(k: ∀o,H q=some o->H' q=some o)(h:H q≠none):H' q=H q:=by
 cases z:H q with
 |none=>exact absurd z h
 |some x=>rw[k x z]
theorem Rel.new(r:Rel K as H s)(n:New H p o H'):Rel K as H' s where
 len:=r.len
 nd:=r.nd
 ob i q u e1 e2:=(r.ob i q u e1 e2).mono0 (kt n).toStep0 (ae2 (λ_=>n.keep) (r.at e1))
 li:=r.li
 hs q h:=let ⟨xs,e,t⟩:=r.hs q h;⟨xs,n.keep e,t⟩
 hx:=r.hx
theorem Rel.laid{u:O}(r:Rel K as H s)(n:New H p o H')(h:RO K (as.add p) H' p u):Rel K (as.add p) H' (s++ [u]) where
 len:=by simp[r.len]
 nd i j q l k:=by
  rcases xj l with ⟨b,a⟩|⟨b,a⟩ <;> rcases xj k with ⟨d,c⟩|⟨d,c⟩
  ·exact r.nd i j q a c
  ·cases c;exact absurd n.no (r.at a)
  ·cases a;exact absurd n.no (r.at c)
  ·rw[b,d]
 ob i q x l k:=by
  rcases xj l with ⟨b,a⟩|⟨b,a⟩ <;> rcases xj k with ⟨d,c⟩|⟨d,c⟩
  ·exact(r.ob i q x a c).mono0 (vt n).toStep0 (ae2 (λ_=>n.keep) (r.at a))
  ·rw[d,←r.len]at b;exact absurd b (cG _)
  ·rw[b,r.len]at d;exact absurd d (cG _)
  ·cases a;subst c;exact h
 li i x e g:=by
  rcases xj e with ⟨b,a⟩|⟨b,a⟩
  ·obtain⟨q,v⟩:=r.li i x a g;exact⟨q,by rw[aQ (by rw[r.len];exact b)];exact v⟩
  ·exact⟨p,by rw[b,←r.len];simp⟩
 hs q h:=let ⟨xs,e,t⟩:=r.hs q h;⟨xs,n.keep e,t⟩
 hx q h m:=by
  rcases aS.mp m with z|z
  ·exact r.hx q h z
  ·have:q=p:=by simpa using z
   subst this;obtain⟨xs,e,_⟩:=r.hs q h;rw[n.no]at e;cases e
theorem Rel.chg{u:O}(r:Rel K as H s)(e:as.ix[n]?=some (some p))(c:Chg H p o H')(h:RO K as H' p u):Rel K as H' (s.set n u) where
 len:=by simp[r.len]
 nd:=r.nd
 ob i q x e1 e2:=by
  by_cases z:n=i
  ·subst z;rw[e]at e1;cases e1;have a:n < s.length:=by rw[←r.len];exact(am.mp e).1
   rw[aR a]at e2;cases e2;exact h
  ·rw[aF z]at e2;have ne:q≠p:=λw=>z (r.nd n i p e (w▸e1))
   exact(r.ob i q x e1 e2).mono0 (aam (.inl (j4.mpr ⟨n,e⟩)) c) (ae2 (λ_=>c.keep ne) (r.at e1))
 li i x e2 g:=by
  by_cases z:n=i
  ·subst z;exact⟨p,e⟩
  ·rw[aF z]at e2;exact r.li i x e2 g
 hs q h:=let ⟨xs,b,t⟩:=r.hs q h;⟨xs,c.keep (λz=>r.hx q h (j4.mpr ⟨n,z▸e⟩)) b,t⟩
 hx:=r.hx
theorem Rel.chgH(r:Rel K as H s)(m:p∈as.hd)(c:Chg H p o H')(a:aqm o=true:=by exact rfl):Rel K as H' s where
 len:=r.len
 nd:=r.nd
 ob i q x e1 e2:=by
  have ne:q≠p:=λw=>r.hx p m (j4.mpr ⟨i,w▸e1⟩)
  exact(r.ob i q x e1 e2).mono0 (aam (.inr m) c) (ae2 (λ_=>c.keep ne) (r.at e1))
 li:=r.li
 hs q h:=by
  by_cases z:q=p
  ·subst z;exact⟨_,c.at,a⟩
  ·obtain⟨xs,e,t⟩:=r.hs q h;exact⟨xs,c.keep z e,t⟩
 hx:=r.hx
theorem Rel.hide(r:Rel K as H s)(n:New H p o H')(a:aqm o=true:=by exact rfl):Rel K (as.hide p) H' s where
 len:=r.len
 nd:=r.nd
 ob i q u e1 e2:=(r.ob i q u e1 e2).mono0 (afl n).toStep0 (ae2 (λ_=>n.keep) (r.at e1))
 li:=r.li
 hs q h:=by
  rcases aL.mp h with z|z
  ·subst z;exact⟨_,n.at,a⟩
  ·obtain⟨xs,e,t⟩:=r.hs q z;exact⟨xs,n.keep e,t⟩
 hx q h m:=by
  rcases aL.mp h with z|z
  ·subst z;obtain⟨i,b⟩:=j4.mp m;exact r.at b n.no
  ·exact r.hx q z m
theorem Rel.show(r:Rel K as H s):Rel K (as.show p) H s where
 len:=r.len
 nd:=r.nd
 ob i q u e1 e2:=(r.ob i q u e1 e2).mono0 abi rfl
 li:=r.li
 hs q h:=r.hs q (bd.mp h).1
 hx q h:=r.hx q (bd.mp h).1
theorem Rel.take{u:O}(r:Rel K as H s)(m:p∈as.hd)(h:RO K ((as.show p).add p) H p u):Rel K ((as.show p).add p) H (s++ [u]) where
 len:=by simp[r.len]
 nd i j q l k:=by
  rcases xj l with ⟨a,b⟩|⟨a,b⟩ <;> rcases xj k with ⟨d,c⟩|⟨d,c⟩
  ·exact r.nd i j q b c
  ·cases c;exact absurd (j4.mpr ⟨i,b⟩) (r.hx p m)
  ·cases b;exact absurd (j4.mpr ⟨j,c⟩) (r.hx p m)
  ·rw[a,d]
 ob i q x l k:=by
  rcases xj l with ⟨a,b⟩|⟨a,b⟩ <;> rcases xj k with ⟨d,c⟩|⟨d,c⟩
  ·exact(r.ob i q x b c).mono0 (ad3 m) rfl
  ·rw[d,←r.len]at a;exact absurd a (cG _)
  ·rw[a]at d;have:as.ix.length < s.length:=d;rw[r.len]at this;exact absurd this (cG _)
  ·cases b;subst c;exact h
 li i x e g:=by
  rcases xj e with ⟨a,b⟩|⟨a,b⟩
  ·obtain⟨q,t⟩:=r.li i x b g;exact⟨q,by rw[aQ (by rw[r.len];exact a)];exact t⟩
  ·exact⟨p,by rw[a,←r.len];simp⟩
 hs q h:=r.hs q (bd.mp h).1
 hx q h m2:=by
  obtain⟨o,n⟩:=bd.mp h;rcases aS.mp m2 with z|z
  ·exact r.hx q o z
  ·have:q=p:=by simpa using z
   exact absurd this (of_decide_eq_true n)
theorem Rel.frz(r:Rel K as H s):Rel K (as.cut n) H (s.set n .gone) where
 len:=by simp[r.len]
 nd i j q e1 e2:=by
  exact r.nd i j q (ahq e1) (ahq e2)
 ob i q x e1 e2:=by
  by_cases z:n=i
  ·subst z;rw[ef]at e1;simp at e1
  ·rw[aF z]at e1 e2;exact(r.ob i q x e1 e2).mono0 (ah5 n).toStep0 rfl
 li i x e2 g:=by
  by_cases z:n=i
  ·subst z;rw[ef]at e2;simp at e2;exact absurd e2.2.symm g
  ·rw[aF z]at e2⊢;exact r.li i x e2 g
 hs:=r.hs
 hx q h m:=by
  obtain⟨i,a⟩:=j4.mp m;by_cases z:n=i
  ·subst z;rw[ef]at a;simp at a
  ·rw[aF z]at a;exact r.hx q h (j4.mpr ⟨i,a⟩)
end
end PF
namespace EX
open PySem PySem.W PySem.Spec PySem.Calls PyProof.Rows Builtin Builtin.ObjectAttr
abbrev bmV:List ae:=[.type "ValueError",.type "Exception",.type "BaseException",.type "object"]
inductive Above:List ae->Prop
 |base:Above bmV
 |own (a:Addr) {l:List ae}:Above l->Above (.ref a::l)
structure ClsE (K:Frag) (C:Addr):Prop where
 at_: ∃nm q N bs bm sn sub ab col dd k0 k1 k2 k3 k5,K.lookup C=some (excClassObj nm q C N bs bm true sn sub ab col dd k0 k1 k2 k3 k5 "ValueError.__new__")/\Above bm
 ga:findIn K (.ref C) "__getattribute__"=some (some (.builtin "BaseException.__getattribute__"))
 gt:findIn K (.ref C) "__getattr__"=some none
 sa:findIn K (.ref C) "__setattr__"=some (some (.builtin "object.__setattr__"))
end EX
namespace L2
open PySem PySem.Spec PyProof.Rows EX
structure ClsX (K:ak) (C:Addr):Prop extends ClsE K C where
 ca:bO K (.ref C) "__class__"=some (some (.builtin "object.__class__"))
 cg:PySem.W.specialIn K (.builtin "object.__class__") "__get__"=some (some (.builtin "getset_descriptor.__get__"))
 ct:PySem.W.takesIn K (.builtin "object.__class__")=some true
end L2
namespace L2
open PySem PySem.Spec
structure Noted (l:List Env) (p C:Addr) (dx:Option Addr) (t:Addr) (h h':Heap):Prop where
 sz:h'.objs.size=h.objs.size+1
 keep: ∀b o,h.get? b=some o->b≠p->b∉frs l->h'.get? b=some o
 slot: ∀b o,h.get? b=some o->b≠p->∃sl,h'.get? b=some {o with slots:=sl}
 exc:h'.get? p=some (afh C dx t (.ref h.objs.size))
 ent: ∃oT ts,h'.get? h.objs.size=some oT/\oT.data=.fields ts/\ts[3]?=some .none
theorem aov{M:Model}{outer:List Env}{L t:Addr}{tb e:ae}{n:Bool}{Q:Unit->af->Prop}(z:A.frames=some (env::outer))(J:s.heap.FunFrames base (env::outer))(N:env.frame=some L)(I:s.heap.get? p=some (afh C dx t tb))(h: ∀h',Noted (env::outer) p C dx t s.heap h'->Q () {s with heap:=h'}):
  wpAny M A (do let a←frameOf env;let pl←entryPlaceOf L n;let b←mz e a .none (rawInt L) .none pl;setField (.ref p) 1 b) (λ_ s'=>wpAny M A (setFlight (.ref p) none) Q E s') E s:=by
 have w:p∉(env::outer).filterMap (·.frame):=λhm=>by
  (obtain⟨_,o,ho,F⟩:=J.mem hm)
  rw[I]at ho;injection ho with ho;subst ho;exact F _ rfl
 (refine ac (wpAny_frameOf_fun z J N λc d=>?_))
 (refine ac (wpAny_entryPlaceOf λpl u=>?_))
 (unfold mz newFields)
 (refine ac (cr ?_ (u.sizeOk5 _ _ _ _ _)))
 have m:c.get? p=some (afh C dx t tb):=(d.2.1 p w).trans I
 (have k:=ag (h:=c) {cls:=.type "traceback",dict:=none,data:=.fields ([e,.ref L,.none,rawInt L,.none]++(if pl.isEmpty then bp 6 aU else pl)).toArray} m)
 refine gy k rfl (show 1 < 6 by decide) ?_;have v:c.objs.size≠p:=fy (ay m);have l:=cB (jG (·.setIfInBounds 1 (bi c.objs.size))) k (fE (cZ rfl _))
 have j:=(cR (c.push {cls:=.type "traceback",dict:=none,data:=.fields ([e,.ref L,.none,rawInt L,.none]++(if pl.isEmpty then bp 6 aU else pl)).toArray}) --
  (jG (·.setIfInBounds 1 (bi c.objs.size))) (bu v)).trans (aD c rfl) --
 unfold setFlight;refine ac (bC l rfl (x:=.ref c.objs.size) rfl ?_)
 (rw[if_pos (show(bi c.objs.size !=aU)=true from by simp)])
 (refine gy j rfl (by simp only[ax,aH,aE,dk] <;> lia) (h _ ?_))
 have keep: ∀b o,b≠p->c.get? b=some o ->
   (((c.push {cls:=.type "traceback",dict:=none,data:=.fields ([e,.ref L,.none,rawInt L,.none]++(if pl.isEmpty then bp 6 aU else pl)).toArray}).update p (jG (·.setIfInBounds 1 (bi c.objs.size)))).update c.objs.size
    (jG (·.setIfInBounds 3 ((none:Option Addr).elim aU λf=>rawInt f)))).get? b=some o:=λb o D r=>by --
  (have y:c.objs.size≠b:=fy (ay r))
  (rw[cR _ _ y,cR _ _ (bu D)])
  (exact ag _ r)
 refine⟨?_,λb o r q H=>keep b o q ((d.2.1 b H).trans r),λb o r q=>?_,?_,?_⟩
 ·rw[lz,lz,←d.1];simp[Heap.push]
 ·obtain⟨K,hs⟩:=d.2.2 b o r;exact⟨K,keep b _ q hs⟩
 ·rw[cR _ _ v,l,←d.1];rfl
 ·rw[←d.1];exact⟨_,_,cB _ j (fE (cZ rfl _)),cZ rfl _,by first|(simp;done)|(rcases u with rfl|⟨_,_,_,_,_,_,_,rfl⟩ <;> simp)⟩
def awn(h:Heap)(p:Addr)(tb:ae):Prop:=tb=.none\/ ∃T a ts,tb=.ref T/\T≠p/\h.get? T=some a/\a.data=.fields ts/\ts[3]?=some .none
theorem a6m{M:Model}{outer:List Env}{L t:Addr}{tb:ae}{Q:Unit->af->Prop}(a:A.frames=some (env::outer))(j:s.heap.FunFrames base (env::outer))(d:env.frame=some L)(b:s.heap.get? p=some (afh C dx t tb))(l:awn s.heap p tb)(h: ∀h',Noted (env::outer) p C dx t s.heap h'->Q () {s with heap:=h'}):wpAny M A (iU (.ref p) env) (λ_ s'=>wpAny M A (setFlight (.ref p) none) Q E s') E s:=by
 unfold iU;simp only[d];rcases l with rfl|⟨T,m,ts,rfl,k,c,hd,e⟩
 ·refine ac (bC b rfl (x:=.none) rfl ?_);rw[if_neg (by decide)];exact aov a j d b h
 ·refine ac (bC b rfl (x:=.ref T) rfl ?_)
  (rw[if_pos (show(bi T !=aU)=true from by simp)])
  refine ac (bC c hd e ?_)
  (rw[if_neg (show¬((aU==rawInt L)=true) from by simp[rawInt])])
  refine ac (gy c hd (jH.mp e).1 ?_);rw[Heap.update_setField_same _ _ _ _ _ _ c hd e];exact aov a j d b h
theorem a1m{M:Model}{outer:List Env}{L t:Addr}{tb:ae}{Q:Unit->af->Prop}(a:A.frames=some (env::outer))(b:s.heap.FunFrames base (env::outer))(d:env.frame=some L)(e:s.heap.get? p=some (afh C dx t tb))(c:awn s.heap p tb)(h: ∀h',Noted (env::outer) p C dx t s.heap h'->Q () {s with heap:=h'}):wpAny M A (leaving env (.ref p)) Q E s:=by
 unfold leaving;exact ac (a6m a b d e c h)
end L2
namespace L2
open PySem PySem.Spec PyProof.Rows EX
section
variable{P:aP}{w:aM}{H H':Hp}{h h':Heap}{l:List Env}{p C t:Addr}{dx:Option Addr}{fs:List (Str×V)}
theorem Noted.hok(n:Noted l p C dx t h h')(ok:HOk P w H h)(j:H p=some (.exx C fs))(k: ∃tb,h.get? p=some (afh C dx t tb))(A: ∀b∈frs l,H b=none):HOk P w H h':=λa o q=>by
 by_cases z:a=p
 ·subst z;rw[j]at q;cases q;obtain⟨J,t',I,x,e,r⟩:=(show km P w H h a (.exx C fs) from ok a _ j);obtain⟨tb,k⟩:=k;rw[k]at e;have e:=bv e;have F:dx=x:=congrArg Obj.dict e;subst F;refine⟨J,t,_,dx,n.exc,?_⟩;rcases r with r|⟨d,r,v,ne,L,⟨D,es,ep,E,c⟩,K⟩
  ·exact .inl r
  ·refine .inr ⟨d,r,v,ne,L,⟨D,es,ep,n.keep d D E ne (λm=>?_),c⟩,K⟩;rw[A d m]at v;cases v
 ·refine(ok a o q).stay (λb u hb e=>n.keep b u e ?_ ?_) (λ_ r=>r) λ_ _ r=>r
  ·rcases hb with rfl|hb
   ·exact z
   ·intro y;rw[y,j]at hb;cases hb
  ·intro m;rcases hb with rfl|hb
   ·rw[A b m]at q;cases q
   ·rw[A b m]at hb;cases hb
end
def CX1(P:aP)(w:aM):CXT:=λouter H s E e s'=>∃(p:Addr) (H':Hp) (C:Addr) (fs:List (Str×V)) (t:Addr) (dx:Option Addr) (tb:ae),e=.ref p/\s'.os=s.os/\gx s'.gens/\
 Un (frs outer) [] H H' s.heap s'.heap/\HOk P w H' s'.heap/\H' p=some (.exx C fs)/\s'.heap.get? p=some (afh C dx t tb)/\awn s'.heap p tb/\E (.ref p) none H'
abbrev XE:=St->Addr->Hp->Prop
noncomputable def XE.sk(E:XE):SK:=λσ v _ H=>∃p,v=.ref p/\E σ p H
structure XOk (X:Cx) (E:XE):Prop where
 pass:ag1 (CX1 X.prog X.w) X E.sk
 own:na (model X.prog X.w) X.A X.env X.xe
theorem XOk.never(h:na (model X.prog X.w) X.A X.env X.xe):XOk X λ_ _ _=>False:=⟨λ_ _ _ _ _ _ _ ⟨_,_,_,_,_,_,_,_,_,_,_,_,_,_,_,_,_,f⟩=>f.elim,h⟩
theorem a7j{w:aM}{a:ae}{outer:List Env}{E:XK}:
  XOk (aa9 (CX1 P w) P w K mg base N qual scope f a A outer s H E) λ_ p H=>E (.ref p) none H:=by
 refine⟨λr σ U V e s' I O=>?_,PassesOwn.leaving⟩;obtain⟨p,d,C,fs,t,dx,tb,rfl,os,bare,un,hok,c,l,x,S,ep,hE⟩:=O;cases ep;have J:=I.call' (H':=d) os un hok bare λb z=>absurd z (by simp)
 refine a1m (M:=model P w) J.ok.frames J.stack rfl l x λh' n=>?_
 have fr: ∀b∈frs (aa9 (CX1 P w) P w K mg base N qual scope f a A outer s H E).stack,d b=none:=J.stkFree;have B:Un (frs outer) [] H d s.heap s'.heap:=J.base;have y:s.heap.objs.size <=(aa9 (CX1 P w) P w K mg base N qual scope f a A outer s H E).env.locals:=J.ok.above;have k: ∀b,b∈frs (aa9 (CX1 P w) P w K mg base N qual scope f a A outer s H E).stack->b=(aa9 (CX1 P w) P w K mg base N qual scope f a A outer s H E).env.locals\/b∈frs outer:=λb z=>aL.mp (J.stkSub b z)
 refine⟨p,d,C,fs,t,dx,.ref s'.heap.objs.size,rfl,J.os,J.bare,⟨λb o e hn h hx=>?_,λb o e hn h hx=>?_,B.free,λb o e hx=>?_,B.tups,B.frzs,B.tbls⟩,n.hok hok c ⟨tb,l⟩ fr,c,n.exc,.inr ?_,hE⟩
 ·refine n.keep b o (B.keep b o e hn h hx) (λz=>?_) λz=>?_
  ·have:=B.free b o e hn hx;rw[z,c]at this;cases this
  ·rcases k b z with z|z
   ·exact absurd (ay e) (by rw[z];exact Nat.not_lt.mpr y)
   ·exact h z
 ·obtain⟨v,q⟩:=B.slot b o e hn h hx;obtain⟨m,j⟩:=n.slot b _ q λz=>by have:=B.free b o e hn hx;rw[z,c]at this;cases this
  exact⟨m,j⟩
 ·obtain⟨D,q⟩:=B.there b o e hx;by_cases z:b=p
  ·rw[z];exact⟨_,n.exc⟩
  ·obtain⟨v,j⟩:=n.slot b D q z;exact⟨_,j⟩
 ·obtain⟨L,ts,F,u,Q⟩:=n.ent;exact⟨_,L,ts,rfl,fy (ay l),F,u,Q⟩
section
variable{P:aP}{w:aM}{K:ak}{mg:Str->Option ae}{base:Heap}
theorem Fun.okX{k:Nat}{sp:Sp}(F:Fun K x qual st f fd)(S:FnScope N ps (jh st))(len: ∀vs H Q E,sp vs H Q E->vs.length=ps.length)(b: ∀(a:ae) (A:bh) (outer:List Env) (s:af) (H:Hp) (vs:List V) (Q:VK) (E:XK),Room k (A.deeper (envOfC qual (jh st) s.heap.objs.size f a))->sp vs H Q E ->
   ∃t,PSs (aa9 (CX1 P w) P w K mg base N qual (jh st) f a A outer s H E) (vj st) t/\t {nx:=λ_ H'=>Q .non H',rt:=Q} (start N vs) H):FnOk P w K mg base (CX1 P w) (k+1) f fd ps sp:=by
 obtain⟨m,l,kV,e,pm,n,a,ct,d,rfl,j,c⟩:=F.ex;exact a7g j c S len λA outer s H vs Q E hr h=>b a A outer s H vs Q E hr h
def aw2(P:aP)(w:aM)(K:ak)(mg:Str->Option ae)(base:Heap)(x:Str)(k:Nat)(sp:Sp):Prop:=
 ∃(f:Addr) (fd:dI) (ps:List Str),FnOk P w K mg base (CX1 P w) k f fd ps sp/\mg x=some (.ref f)/\cn K (.ref f)=true/\Binds K fd ps []
theorem Has.calX{k:Nat}{sp:Sp}(h:Has K mg x st ps)(S:FnScope N ps (jh st))(len: ∀vs H Q E,sp vs H Q E->vs.length=ps.length)(a: ∀(f:Addr) (c:ae) (A:bh) (outer:List Env) (s:af) (H:Hp) (vs:List V) (Q:VK) (E:XK),Room k (A.deeper (envOfC x (jh st) s.heap.objs.size f c))->sp vs H Q E ->
   ∃t,PSs (aa9 (CX1 P w) P w K mg base N x (jh st) f c A outer s H E) (vj st) t/\t {nx:=λ_ H'=>Q .non H',rt:=Q} (start N vs) H):aw2 P w K mg base x (k+1) sp:=by
 obtain⟨f,fd,F,m,b⟩:=h;exact⟨f,fd,ps,F.okX S len (a f),m,F.kp,b⟩
end
section
variable{X:Cx}{x:Str}{k:Nat}{sp:Sp}{p pos:Pos}{e:Expr}{es:List Expr}{t:TA}{E:XE}
theorem a7l(c:aw2 X.prog X.w X.K X.mg X.base x k sp)(hx:XOk X E)(hr:Room k X.A)(j:PA X (e::es) t)(n:Gl X x:=by rfl)(d:(x==("__debug__":Str))=false:=by decide)
  (l:starEach (e::es) X.env=(false,eval e X.env)::starEach es X.env:=by rfl) (a:(backTo pos (starEach es X.env)).any (·.1)=false:=by rfl):PE X (.Call (.Name x p) (e::es) [] pos) (azq sp [] E.sk t):=by
 obtain⟨f,fd,ps,F,m,h,b⟩:=c;exact azw F hr n m h b .nil hx.pass j d l a
end
end L2
namespace PF
open PySem PySem.Spec
open L2
structure Envs (K:ak) (as:As) (H:Hp) (ρ:En) (σ:St):Prop where
 len:ρ.length=σ.length
 get: ∀(i:Nat) (d:D),ρ[i]?=some (some d)->∃v,σ[i]?=some (some v)/\RD K as H v d
theorem Envs.mono{as c:As}{ρ:En}(e:Envs K as H ρ σ)(st:Step as H c H'):Envs K c H' ρ σ:=⟨e.len,λi d h=>let ⟨v,a,b⟩:=e.get i d h;⟨v,a,b.mono st⟩⟩
theorem Envs.set{as:As}{ρ:En}(e:Envs K as H ρ σ)(i:Nat){d:D}(r:RD K as H v d):Envs K as H (ρ.set i (some d)) (σ.set i (some v)):=by
 refine⟨by simp[e.len],λj x h=>?_⟩;by_cases z:i=j
 ·subst z;rw[ef]at h⊢;by_cases a:i < ρ.length
  ·simp[a]at h;subst h;exact⟨v,by simp[←e.len,a],r⟩
  ·simp[a]at h
 ·rw[aF z]at h⊢;exact e.get j x h
class XW where
 xk:XE
instance (priority:=low) XW.dft:XW:=⟨λ_ _ _=>False⟩
abbrev XW.of(E:XK):XW:=⟨λ_ p H=>E (.ref p) none H⟩
variable[XW]
def Dn{α β:Type}(K:ak)(rel:As->Hp->β->α->Prop)(as:As)(H:Hp)(r:R α)(Q:β->Hp->Prop):Prop:=match r with
 |.ok a s=>∀b as' H',Step as H as' H'->Rel K as' H' s->rel as' H' b a->Q b H'
 |.bad=>False
 |.ex n ρ s=>∀as' H' p σ,Step as H as' H'->Rel K as' H' s->Envs K as' H' ρ σ->as'.ix[n]?=some (some p)->XW.xk σ p H'
theorem Dn.step{α β:Type}{rel:As->Hp->β->α->Prop}{as d:As}{l:Hp}{r:R α}{Q:β->Hp->Prop}(h:Dn K rel as H r Q)(st:Step as H d l):Dn K rel d l r Q:=by
 cases r with
 |ok a s=>exact λb c H' k j o=>h b c H' (st.trans k) j o
 |bad=>exact h
 |ex n ρ s=>exact λc H' p σ k j m e=>h c H' p σ (st.trans k) j m e
theorem Dn.bind{α β γ δ:Type}{e:As->Hp->β->α->Prop}{j:As->Hp->δ->γ->Prop}{as:As}{r:R α}{f:α->S->R γ}{Q:δ->Hp->Prop}{l:β->Hp->Prop}(h:Dn K j as H (r.bind f) Q)(k: ∀a s c H1 b,Step as H c H1->Rel K c H1 s->e c H1 b a->Dn K j c H1 (f a s) Q->l b H1):Dn K e as H r l:=by
 cases r with
 |ok a s=>exact λb d H' st m o=>k a s d H' b st m o (Dn.step (r:=f a s) h st)
 |bad=>exact h
 |ex n ρ s=>exact h
theorem Dn.now{α β:Type}{rel:As->Hp->β->α->Prop}{as:As}{a:α}{s:S}{Q:β->Hp->Prop}{b:β}(h:Dn K rel as H (.ok a s) Q)(c:Rel K as H s)(d:rel as H b a):Q b H:=h b as H (Step.refl _ _) c d
theorem Dn.at{α β:Type}{rel:As->Hp->β->α->Prop}{as:As}{r:R α}{ρ:En}{Q:β->Hp->Prop}(h:Dn K rel as H (r.at ρ) Q)(k:Envs K as H ρ σ): @Dn (XW.of (XE.sk XW.xk σ)) α β K rel as H r Q:=by
 cases r with
 |ok a s=>exact h
 |bad=>exact h
 |ex n c s=>exact λb H' p d st j _ e=>⟨p,rfl,h b H' p σ st j (k.mono st) e⟩
abbrev rD(K:ak):As->Hp->V->D->Prop:=λas H v d=>RD K as H v d
abbrev rB:As->Hp->Bool->Bool->Prop:=λ_ _ b a=>b=a
abbrev rL(K:ak):As->Hp->List V->List D->Prop:=λas H v d=>RDs K as H v d
inductive Fl where
 |nx (ρ:En)|rt (d:D)|bk (ρ:En)|ct (ρ:En)
inductive FV where
 |nx (σ:St)|rt (v:V)|bk (σ:St)|ct (σ:St)
inductive rF (K:ak) (as:As) (H:Hp):FV->Fl->Prop
 |nx {σ:St} {ρ:En}:Envs K as H ρ σ->rF K as H (.nx σ) (.nx ρ)
 |rt {v:V} {d:D}:RD K as H v d->rF K as H (.rt v) (.rt d)
 |bk {σ:St} {ρ:En}:Envs K as H ρ σ->rF K as H (.bk σ) (.bk ρ)
 |ct {σ:St} {ρ:En}:Envs K as H ρ σ->rF K as H (.ct σ) (.ct ρ)
def ab4(D:Ends)(f:FV)(H:Hp):Prop:=match f with
 |.nx σ=>D.nx σ H
 |.rt v=>D.rt v H
 |.bk σ=>D.bk σ H
 |.ct σ=>D.ct σ H
abbrev FE:=En->S->R D
abbrev FT:=En->S->R Bool
abbrev FA:=En->S->R (List D)
abbrev FS:=En->S->R Fl
def aax(K:ak)(t:TE)(f:FE):Prop:= ∀as σ H ρ s Q,Rel K as H s->Envs K as H ρ σ->Dn K (rD K) as H (f ρ s) Q->t σ H Q
def acp(K:ak)(t:TT)(f:FT):Prop:= ∀as σ H ρ s Q,Rel K as H s->Envs K as H ρ σ->Dn K rB as H (f ρ s) Q->t σ H Q
def ar2(K:ak)(t:TA)(f:FA):Prop:= ∀as σ H ρ s Q,Rel K as H s->Envs K as H ρ σ->Dn K (rL K) as H (f ρ s) Q->t σ H Q
def ajg(K:ak)(t:TS)(f:FS):Prop:= ∀as σ H ρ s D,Rel K as H s->Envs K as H ρ σ->Dn K (rF K) as H (f ρ s) (ab4 D)->t D σ H
structure RE (X:Cx) (e:Expr) (f:FE):Prop where
 ex: ∃t,PE X e t/\aax X.K t f
structure RT (X:Cx) (e:Expr) (f:FT):Prop where
 ex: ∃t,PT X e t/\acp X.K t f
structure RW (X:Cx) (e:Expr) (f:FT):Prop where
 ex: ∃t,PW X e t/\acp X.K t f
structure RA (X:Cx) (es:List Expr) (f:FA):Prop where
 ex: ∃t,PA X es t/\ar2 X.K t f
structure RS (X:Cx) (st:Stmt) (f:FS):Prop where
 ex: ∃t,PS X st t/\ajg X.K t f
structure RSs (X:Cx) (st:List Stmt) (f:FS):Prop where
 ex: ∃t,PSs X st t/\ajg X.K t f
section
variable{X:Cx}{a b:Expr}{fa fb:FE}{pos:Pos}
noncomputable def ja(i:Nat):FE:=λρ s=>match ρ[i]? with
 |some (some d)=>.ok d s
 |_=>.bad
noncomputable def fC(d:D):FE:=λ_ s=>.ok d s
theorem a1e(i:Nat):aax K (ayj i) (ja i):=by
 intro as σ H ρ s Q a b h;unfold ja at h;cases q:ρ[i]? with
 |none=>rw[q]at h;exact h.elim
 | some o=>
  cases o with
  |none=>rw[q]at h;exact h.elim
  |some d=>
   rw[q]at h;obtain⟨v,e,r⟩:=b.get i d q;exact⟨v,e,Dn.now h a r⟩
theorem jj(i:Nat)(c:X.N[i]?=some x:=by rfl)(b:Vis X.env.scope x:=by first|exact b6 rfl|exact dZ (b6 rfl)|exact dZ (dZ rfl))(hd:(x==("__debug__":Str))=false:=by decide)(a:(x==("__classdict__":Str))=false:=by decide):RE X (.Name x pos) (ja i):=⟨_,at8 c b hd a,a1e i⟩
theorem akx{d:D}(r: ∀as H,RD K as H v d):aax K (tC v) (fC d):=λas σ H ρ s Q a b h=>Dn.now (K:=K) (rel:=rD K) h a (r as H)
theorem acu{i j pos}:RE X (.Constant (.int i) j pos) (fC (.int i)):=⟨_,ati,akx λ_ _=>.da (.int i)⟩
theorem ag0{x j pos}:RE X (.Constant (.str x) j pos) (fC (.str x)):=⟨_,avd,akx λ_ _=>.da (.str x)⟩
theorem akz{b j pos}:RE X (.Constant (.bool b) j pos) (fC (.bl b)):=⟨_,az7,akx λ_ _=>.da (.bl b)⟩
theorem bb5{j pos}:RE X (.Constant .none j pos) (fC .non):=⟨_,asg,akx λ_ _=>.da .non⟩
def fOp(g:D->D->S->R D)(c a:FE):FE:=λρ s=>(c ρ s).bind λx d=>(a ρ d).bind λy b=>g x y b
def aqv(K:ak)(r:R2)(g:D->D->S->R D):Prop:= ∀as H s x y dx a Q,Rel K as H s->RD K as H x dx->RD K as H y a->Dn K (rD K) as H (g dx a s) Q->r x y H Q
theorem afs{r:R2}{g:D->D->S->R D}{tb:TE}(hr:aqv K r g)(j:aax K ta fa)(u:aax K tb fb):aax K (tOp r ta tb) (fOp g fa fb):=by
 intro as σ H ρ s Q m e h;refine j as σ H ρ s _ m e (Dn.bind h λl w c k x st1 d n t=>?_);refine u c σ k ρ w _ d (e.mono st1) (Dn.bind t λv q a z y st2 b p o=>?_);exact hr a z q x y l v Q b (n.mono st2) p o
structure Op2 (X:Cx) (f:ae->ae->Sem ae) (g:D->D->S->R D):Prop where
 ex: ∃r,OpR X f r/\aqv X.K r g
theorem a7h{op:Operator}{g:D->D->S->R D}(o:Op2 X (binaryOp op) g)(c:RE X a fa)(h:RE X b fb):RE X (.BinOp a op b pos) (fOp g fa fb):=by
 obtain⟨r,ho,hr⟩:=o.ex;obtain⟨l,d,e⟩:=c.ex;obtain⟨tb,j,k⟩:=h.ex;exact⟨_,a7i ho d j,afs hr e k⟩
theorem a5c{g:D->D->S->R D}(o:Op2 X (bb op) g)(c:RE X a fa)(h:RE X b fb)(hm:fQ op b=false:=by first|exact at6 _|with_unfolding_all rfl):RE X (.Compare a [op] [b] pos) (fOp g fa fb):=by
 obtain⟨r,ho,hr⟩:=o.ex;obtain⟨l,d,e⟩:=c.ex;obtain⟨tb,j,k⟩:=h.ex;exact⟨_,a06 ho d j hm,afs hr e k⟩
def ji(f:FE):FT:=λρ s=>(f ρ s).bind λd a=>match d with
 |.bl k=>.ok k a
 |_=>.bad
theorem ayh{t:TE}{f:FE}(h:aax K t f):acp K (azr t) (ji f):=by
 intro as σ H ρ s Q d j q;refine h as σ H ρ s _ d j (Dn.bind q λm n c l x st1 b e a=>?_);cases e with
 |da t=>
  cases t with
  |bl k=>exact⟨k,rfl,Dn.now a b rfl⟩
  |_=>exact a.elim
 |_=>exact a.elim
theorem avg{g:D->D->S->R D}(o:Op2 X (bb op) g)(c:RE X a fa)(h:RE X b fb)(hm:fQ op b=false:=by first|exact at6 _|with_unfolding_all rfl):RT X (.Compare a [op] [b] pos) (ji (fOp g fa fb)):=by
 obtain⟨r,ho,hr⟩:=o.ex;obtain⟨l,d,e⟩:=c.ex;obtain⟨tb,j,k⟩:=h.ex;exact⟨_,a22 ho d j hm,ayh (afs hr e k)⟩
def zm(f g:FT):FT:=λρ s=>(f ρ s).bind λc a=>if c=true then g ρ a else .ok false a
def ag7(f g:FT):FT:=λρ s=>(f ρ s).bind λc a=>if c=true then .ok true a else g ρ a
def aib(f:FT):FT:=λρ s=>(f ρ s).bind λc a=>.ok (!c) a
theorem a2t{t u:TT}{f g:FT}(o:acp K t f)(n:acp K u g):acp K (a3j t u) (zm f g):=by
 intro as σ H ρ s Q l e h;refine o as σ H ρ s _ l e (Dn.bind h λc p d j b st1 a m q1=>?_);have k:b=c:=m;subst k;cases b with
 |true=>rw[if_pos rfl]at q1⊢;exact n d σ j ρ p Q a (e.mono st1) q1
 |false=>rw[if_neg az]at q1⊢;exact Dn.now q1 a rfl
theorem a54{t u:TT}{f g:FT}(o:acp K t f)(n:acp K u g):acp K (tOr t u) (ag7 f g):=by
 intro as σ H ρ s Q l e h;refine o as σ H ρ s _ l e (Dn.bind h λc p d j b st1 a m q1=>?_);have k:b=c:=m;subst k;cases b with
 |false=>rw[if_neg az]at q1⊢;exact n d σ j ρ p Q a (e.mono st1) q1
 |true=>rw[if_pos rfl]at q1⊢;exact Dn.now q1 a rfl
theorem a12{t:TT}{f:FT}(m:acp K t f):acp K (a4p t) (aib f):=by
 intro as σ H ρ s Q j l h;refine m as σ H ρ s _ j l (Dn.bind h λc o d n b st1 a k q1=>?_);have e:b=c:=k;subst e;exact Dn.now q1 a rfl
theorem RW.rt{f:FT}(h:RW X e f):RT X e f:=let ⟨t,p,r⟩:=h.ex;⟨t,p.pt,r⟩
theorem a9z{f:FT}(h:RT X a f):RW X (.BoolOp .And [a] pos) f:=let ⟨t,p,r⟩:=h.ex;⟨t,a0x p,r⟩
theorem bb8{f:FT}(h:RT X a f):RW X (.BoolOp .Or [a] pos) f:=let ⟨t,p,r⟩:=h.ex;⟨t,a6g p,r⟩
theorem bbt{f g:FT}{je:List Expr}(h:RT X a f)(k:RW X (.BoolOp .And (b::je) pos) g):RW X (.BoolOp .And (a::b::je) pos) (zm f g):=let ⟨t,p,r⟩:=h.ex;let ⟨t',d,c⟩:=k.ex;⟨_,a6d p d,a2t r c⟩
theorem bcw{f g:FT}{je:List Expr}(h:RT X a f)(k:RW X (.BoolOp .Or (b::je) pos) g):RW X (.BoolOp .Or (a::b::je) pos) (ag7 f g):=let ⟨t,p,r⟩:=h.ex;let ⟨t',d,c⟩:=k.ex;⟨_,a8d p d,a54 r c⟩
theorem a61{f:FT}(h:RT X a f):RT X (.UnaryOp .Not a pos) (aib f):=let ⟨t,p,r⟩:=h.ex;⟨_,a3h p,a12 r⟩
def fIf(c:FT)(b d:FE):FE:=λρ s=>(c ρ s).bind λk a=>if k=true then b ρ a else d ρ a
theorem bch{l:FT}(C:RT X c l)(v:RE X a fa)(y:RE X b fb):RE X (.IfExp c a b pos) (fIf l fa fb):=by
 obtain⟨F,w,D⟩:=C.ex;obtain⟨E,o,p⟩:=v.ex;obtain⟨tb,z,A⟩:=y.ex;refine⟨_,avt w o z,λas σ H ρ s Q t k h=>?_⟩;refine D as σ H ρ s _ t k (Dn.bind h λq n d m x st1 e u j=>?_);have r:x=q:=u;subst r;cases x with
 |true=>rw[if_pos rfl]at j⊢;exact p d σ m ρ n Q e (k.mono st1) j
 |false=>rw[if_neg az]at j⊢;exact A d σ m ρ n Q e (k.mono st1) j
noncomputable def jc:FA:=λ_ s=>.ok [] s
def jb(f:FE)(g:FA):FA:=λρ s=>(f ρ s).bind λx a=>(g ρ a).bind λxs b=>.ok (x::xs) b
noncomputable def fVs(ds:List D):FA:=λ_ s=>.ok ds s
theorem j3:RA X [] jc:=⟨_,avi,λas σ H ρ s Q a b h=>Dn.now h a .nil⟩
theorem jm{f:FE}{g:FA}(h:RE X e f)(k:RA X es g)(hs:starEach (e::es) X.env=(false,eval e X.env)::starEach es X.env:=by rfl):RA X (e::es) (jb f g):=by
 obtain⟨t,p,r⟩:=h.ex;obtain⟨t',w,m⟩:=k.ex;refine⟨_,ap7 p w hs,λas σ H ρ s Q n d h=>?_⟩;refine r as σ H ρ s _ n d (Dn.bind h λz y b l x st1 c o v=>?_);refine m b σ l ρ y _ c (d.mono st1) (Dn.bind v λC A j D xs st2 a u q=>?_);exact Dn.now q a (.cons (o.mono st2) u)
noncomputable def aql:Const->Option aa
 |.str x=>some (.str x)
 |.int i=>some (.int i)
 |.bool b=>some (.bool b)
 |.none=>some .none
 |_=>none
def agd:List Expr->Option (List aa)
 |[]=>some []
 | .Constant c _ _::r=>match aql c with
  |some v=>match agd r with
   |some vs=>some (v::vs)
   |none=>none
  |none=>none
 |_=>none
noncomputable def pV:aa->V
 |.none=>.non
 |.bool b=>.bl b
 |.int i=>.int i
 |.str x=>.str x
 |_=>.non
theorem a5h{c:Const}{d:aa}(h:aql c=some d):amv c=some (pV d)/\ ∀as H,TD as H (pV d) d:=by
 cases c <;> simp[aql]at h <;> subst h
 all_goals first
  |exact⟨rfl,λ_ _=>.str _⟩
  |exact⟨rfl,λ_ _=>.int _⟩
  |exact⟨rfl,λ_ _=>.bl _⟩
  |exact⟨rfl,λ_ _=>.non⟩
theorem aoe: ∀{es:List Expr} {ds:List aa},agd es=some ds->aei es=some (ds.map pV)/\ ∀as H,TDs as H (ds.map pV) ds
 |[],ds,h=>by cases h;exact⟨rfl,λ_ _=>.nil⟩
 | e ::es,ds,h=>by
  cases e with
  | Constant c j pos=>
   simp only[agd]at h;cases b:aql c with
   |none=>(rw[b]at h;cases h)
   | some v=>
    rw[b]at h;cases a:agd es with
    |none=>rw[a]at h;cases h
    |some m=>
     rw[a]at h;cases h;obtain⟨l,d⟩:=a5h b;obtain⟨k,b2⟩:=aoe a;exact⟨by simp only[aei,l,k,aw],λas H=>.cons (d as H) (b2 as H)⟩
  |_=>simp[agd]at h
theorem au3{ds:List aa}(h:agd es=some ds):RA X es (fVs (ds.map D.da)):=by
 obtain⟨a,b⟩:=aoe h;exact⟨_,ak7 a,λas σ H ρ s Q c d h=>Dn.now h c (b as H).rd⟩
def qj(m:Bool)(ds:List D)(s:S):R D:=if m=true then .ok (.ref s.length) (s++ [.lst ds]) else match j2 ds with
 |some xs=>.ok (.lst xs) s
 |none=>.bad
def ahl(ds:List D)(s:S):R D:=match j2 ds with
 |some xs=>.ok (.tup xs) s
 |none=>.bad
theorem aal{as:As}{s:S}{m:Bool}{ds:List D}{Q:VK}(h:Dn K (rD K) as H (qj m ds s) Q)(a:Rel K as H s)(r:RDs K as H xs ds)(n:New H p (.lst xs) H'):Q (.ref p) H':=by
 unfold qj at h;cases m with
 |true=>
  rw[if_pos rfl]at h;refine h (.ref p) (as.add p) H' (vt n) (a.laid n ⟨xs,n.at,r.mono (vt n)⟩) (.ref (by simp[a.len]) λq e=>?_);rw[←a.len]at e;simp at e;exact e.symm
 | false=>
  rw[if_neg az]at h;cases q:j2 ds with
  |none=>rw[q]at h;exact h.elim
  |some b=>
   rw[q]at h;have e:=yi q;subst e;exact h (.ref p) as H' (kt n) (a.new n) (.da (.lst (λz=>a.has z n.no) n.at (r.td.mono (kt n))))
theorem aon{as:As}{s:S}{ds:List D}{Q:VK}(h:Dn K (rD K) as H (ahl ds s) Q)(a:Rel K as H s)(r:RDs K as H xs ds)(n:New H p (.tup xs) H'):Q (.ref p) H':=by
 unfold ahl at h;cases q:j2 ds with
 |none=>rw[q]at h;exact h.elim
 |some b=>
  rw[q]at h;have e:=yi q;subst e;exact h (.ref p) as H' (kt n) (a.new n) (.da (.tup (λz=>a.has z n.no) n.at (r.td.mono (kt n))))
def kz(m:Bool)(f:FA):FE:=λρ s=>(f ρ s).bind λds a=>if ds.length <=sizeLine then qj m ds a else .bad
def jq(f:FA):FE:=λρ s=>(f ρ s).bind λds a=>if ds.length <=sizeLine then ahl ds a else .bad
theorem adf{f:FA}(m:Bool)(h:RA X es f):RE X (.List es pos) (kz m f):=by
 obtain⟨t,p,r⟩:=h.ex;refine⟨_,a30 p,λas σ H ρ s Q e j h=>?_⟩;refine r as σ H ρ s _ e j (Dn.bind h λds l d k xs st1 b c a=>?_);split at a
 ·rename_i hz;exact⟨by rw[c.length];exact hz,λp H' n=>aal a b c n⟩
 ·exact a.elim
theorem zb{f:FA}{k:Nat}(h:RA X es f):RE X (.Tuple es k pos) (jq f):=by
 obtain⟨t,p,r⟩:=h.ex;refine⟨_,a1v p,λas σ H ρ s Q e j h=>?_⟩;refine r as σ H ρ s _ e j (Dn.bind h λds m d l xs st1 b c a=>?_);split at a
 ·rename_i hz;exact⟨by rw[c.length];exact hz,λp H' n=>aon a b c n⟩
 ·exact a.elim
end
end PF
namespace L2
open PySem PySem.Spec PyProof.Rows
section
variable{prog:aP}{w:aM}{A:bh}{E:ae->af->Prop}{s:af}
theorem akd{l t:Addr}{a:Array ae}(q:t≠l): ∀(n i:Nat) (s:af) (Q:List ae->af->Prop),s.heap.IsListIter l t i->s.heap.IsList t a->i+n <=a.size ->
  (∀h',h'.IsListIter l t (i+n)->bX l s.heap h'->Q ((a.toList.drop i).take n) {s with heap:=h'})->wpAny (model prog w) A (draw (.ref l) n) Q E s
 |0,i,s,Q,k,_,_,u=>by --
  show wpAny _ _ (pure []) Q E s --
  (exact ah (by simpa using u s.heap k (bX.refl ..)))
 | n+1,i,s,Q,k,v,y,u=>by --
  (have m:i < a.size:=by lia)
  show wpAny _ _ (pyNext (.ref l)>>=_) Q E s --
  refine ac (lj k v (x:=a[i]) (by simp[m]) λp e b=>?_);have j:p.IsList t a:=by
   obtain⟨o,ho,c⟩:=v;exact⟨o,b.extBut t o q ho,c⟩
  refine ac (bg (akd q n (i+1) _ _ e j (by lia) λr d h=>ah ?_))
  (have hd:a.toList.drop i=a[i]::a.toList.drop (i+1):=by simp[cz,m])
  (have:=u r (by rw[show i+(n+1)=i+1+n by lia];exact d) (b.trans h))
  (rw[hd,List.take_succ_cons]at this)
  exact this
theorem ahd{t:Addr}{Q:List ae->af->Prop}(hh:A.handled=none)(q:s.heap.IsList t items)(r: ∀h',gR s.heap.objs.size s.heap h'->Q items.toList {s with heap:=h'}):wpAny (model prog w) A (unpackItems (.ref t) items.size none) Q E s:=by
 (have k:t≠s.heap.objs.size:=by obtain⟨o,ho,_⟩:=q;exact aI (ay ho))
 have up: ∀h':Heap,gR s.heap.objs.size s.heap h'->h'.IsList t items:=λh' x=>by
  obtain⟨o,ho,c⟩:=q;exact⟨o,x t o k ho,c⟩
 unfold unpackItems;refine ac ?_;unfold notIterableAtAll;refine ac (eR q.typeIs slot_list_iter.lookup ?_);refine ah ?_
 (simp only[bz,if_false])
 refine ac (bg (fj q ?_));refine ac (bg (akd k items.size 0 _ _ ⟨_,aD _ rfl,rfl,rfl⟩ (up _ λb o m e=>ag _ e) (by lia) λl a h=>?_));have n:List.take items.size (List.drop 0 items.toList)=items.toList:=by --
  (rw[iI];exact gQ (by simp))
 rw[n];rw[if_neg (by simp)];have d:gR s.heap.objs.size s.heap l:=λb o m e=>h.extBut b o m (ag _ e)
 refine ac (bg (lE hh (by simpa using a) (up _ d) (by simp) λp j=>?_))
 (simp only[c7,bz,if_false])
 refine ah (r p λb o m e=>j b o m (d b o m e))
theorem agp{a:List Expr}{x1}{t:Addr}{Q:Unit->af->Prop}(hh:A.handled=none)(c:s.heap.IsList t items)(hn:(bS a env).length=items.size)(b:(bS a env).findIdx? (·.1)=none) --
  (h: ∀h',gR s.heap.objs.size s.heap h'->wpAny (model prog w) A (assignInOrder ((bS a env).map (·.2)) items.toList) Q E {s with heap:=h'}):
  wpAny (model prog w) A (assign (.Tuple a x1 pos) env (.ref t)) Q E s:=by --
 rw[assign_Tuple];refine ac (dB ?_);unfold unpack;rw[hn,b];exact ac (bg (ahd hh c h))
end
noncomputable def aks(K:ak)(n:Nat)(t:TGs):TG:=λv σ H Q=>∃a xs,v=.ref a/\(SqT K H a xs\/SqL K H a xs)/\xs.length=n/\t xs σ H Q
theorem a2e{k:Nat}{t:TGs}(x:X.calm=true)(h:PGs X es t)(hn:(bS es X.env).length=n:=by rfl)(d:(bS es X.env).findIdx? (·.1)=none:=by rfl):PG X (.Tuple es k pos) (aks X.K n t):=by
 intro c s σ H v u Q I r j;obtain⟨a,xs,w,hq,q,j⟩:=j;rcases hq with hq|hq
 ·exact a5f x h hn d c s σ H v u Q I r ⟨a,xs,w,hq,q,j⟩
 ·subst w;cases r;obtain⟨y,p,⟨o,m,ho,l,_,hd⟩,hz⟩:=I.list hq;refine agp (I.ok.hd x) ⟨o,ho,l,m,hd⟩ (by simp[hn,←q,p.length]) d λh' hx=>?_
  have I1:Inv X c σ H {s with heap:=h'}:=I.kept (t':=s.toks) λb o e=>hx b o (aI (ay e)) e
  exact h c _ σ H xs _ Q I1 (by simpa using p) j
end L2
namespace PF
open PySem PySem.Spec
open L2
variable[XW]
noncomputable def tOf(K:ak)(f:FE):TE:=λσ H Q=>∃as ρ s,Rel K as H s/\Envs K as H ρ σ/\Dn K (rD K) as H (f ρ s) Q
noncomputable def acd(K:ak)(f:FT):TT:=λσ H Q=>∃as ρ s,Rel K as H s/\Envs K as H ρ σ/\Dn K rB as H (f ρ s) Q
theorem RE.pe{X:Cx}{e:Expr}{f:FE}(h:RE X e f):PE X e (tOf X.K f):=by
 obtain⟨t,p,r⟩:=h.ex;exact p.weak λσ H Q ⟨as,ρ,s,a,b,c⟩=>r as σ H ρ s Q a b c
theorem RT.pt{f:FT}(h:RT X e f):PT X e (acd X.K f):=by
 obtain⟨t,p,r⟩:=h.ex;exact⟨λd s σ H Q I ⟨as,ρ,s',a,b,c⟩=>p d s σ H Q I (r as σ H ρ s' Q a b c)⟩
inductive Tg where
 |nm (i:Nat)|t2 (a b:Tg)|t3 (a b c:Tg)|tn (is:List Nat)
def gNs:List Nat->TGs
 |[]=>aqd
 |i::r=>aeq (akq i) (gNs r)
def gOf(K:ak):Tg->TG
 |.nm i=>akq i
 |.t2 a b=>aks K 2 (aeq (gOf K a) (aeq (gOf K b) aqd))
 |.t3 a b c=>aks K 3 (aeq (gOf K a) (aeq (gOf K b) (aeq (gOf K c) aqd)))
 |.tn is=>aks K is.length (gNs is)
noncomputable def ark:D->Option (List D)
 |.tup ds=>some (ds.map D.da)
 |.lst ds=>some (ds.map D.da)
 |.con ds=>some (ds.map D.da)
 |_=>none
noncomputable def ard:List Nat->List D->En->Option En
 |[],[],ρ=>some ρ
 |i::r,d::ds,ρ=>ard r ds (ρ.set i (some d))
 |_,_,_=>none
def qg:Tg->D->En->Option En
 |.nm i,d,ρ=>some (ρ.set i (some d))
 | .t2 a b,d,ρ=>match ark d with
  |some [x,y]=>match qg a x ρ with
   |some ρ1=>qg b y ρ1
   |none=>none
  |_=>none
 | .t3 a b c,d,ρ=>match ark d with
  | some [x,y,z]=>match qg a x ρ with
   |some ρ1=>match qg b y ρ1 with
    |some e=>qg c z e
    |none=>none
   |none=>none
  |_=>none
 |.tn is,d,ρ=>match ark d with
  |some xs=>ard is xs ρ
  |none=>none
noncomputable def y2(k:Nat):Tg->Bool
 |.nm i=>decide (i < k)
 |.t2 a b=>y2 k a&&y2 k b
 |.t3 a b c=>y2 k a&&y2 k b&&y2 k c
 |.tn is=>is.all λi=>decide (i < k)
def Fra(k:Nat)(σ c:St):Prop:= ∀vs a:St,vs.length=k->σ=vs++a->∃b:St,b.length=k/\c=b++a
theorem Fra.refl(k:Nat)(σ:St):Fra k σ σ:=λvs a h e=>⟨vs,h,e⟩
theorem Fra.trans{k:Nat}{a b c:St}(l:Fra k a b)(j:Fra k b c):Fra k a c:=λvs d h e=>by
 obtain⟨o,n,m⟩:=l vs d h e;exact j o d n m
theorem ajm{as:As}{d:D}{ds:List D}(r:RD K as H v d)(h:ark d=some ds): ∃p xs,v=.ref p/\(SqT K H p xs\/SqL K H p xs)/\RDs K as H xs ds:=by
 cases r with
 |da t=>
  cases t with
  |tup n e r=>cases h;exact⟨_,_,rfl,.inl (SqT.of e),r.rd⟩
  |lst n e r=>cases h;exact⟨_,_,rfl,.inr (SqL.of e),r.rd⟩
  |_=>cases h
 |con q r=>cases h;exact⟨_,_,rfl,.inl (q H),r.rd⟩
 |_=>cases h
theorem auv{K:ak}{as:As}{H:Hp}{b:En}{Q:St->Hp->Prop}: ∀(is:List Nat) {xs:List V} {ds:List D} {σ:St} {ρ:En},Envs K as H ρ σ->RDs K as H xs ds->ard is ds ρ=some b ->
  (∀a,Envs K as H b a->(∀k,(is.all λi=>decide (i < k))=true->Fra k σ a)->Q a H)->xs.length=is.length/\gNs is xs σ H Q
 |[],_,_,σ,ρ,l,rs,e,h=>by
  cases rs with
  |nil=>cases e;exact⟨rfl,rfl,h σ l λk _=>Fra.refl k σ⟩
  |cons _ _=>cases e
 | i::r,_,_,σ,ρ,l,rs,e,h=>by
  cases rs with
  |nil=>cases e
  | @cons v _ d _ n rs=>
   obtain⟨j,o⟩:=auv r (l.set i n) rs e (Q:=Q) λa c f=>h a c λk hk=>by
    rw[eP,aJ]at hk;refine Fra.trans (λvs m j z=>?_) (f k hk.2);have p:i < k:=of_decide_eq_true hk.1;subst z;exact⟨vs.set i (some v),by simpa using j,by rw[lW _ _ (by lia)]⟩
   exact⟨by rw[aE,aE,j],_,_,rfl,o⟩
theorem z9{K:ak}: ∀(u:Tg) {as:As} {σ:St} {H:Hp} {ρ j:En} {v:V} {d:D} {Q:St->Hp->Prop},Envs K as H ρ σ->RD K as H v d->qg u d ρ=some j ->
  (∀m,Envs K as H j m->(∀k,y2 k u=true->Fra k σ m)->Q m H)->gOf K u v σ H Q
 |.nm i,as,σ,H,ρ,j,v,d,Q,n,r,e,h=>by
  cases e;refine h (σ.set i (some v)) (n.set i r) λk hk vs O L z=>?_
  have W:i < k:=of_decide_eq_true hk;subst z;exact⟨vs.set i (some v),by simpa using L,by rw[lW _ _ (by lia)]⟩
 | .t2 a b,as,σ,H,ρ,j,v,d,Q,n,r,e,h=>by
  unfold qg at e;split at e
  ·rename_i x y q;obtain⟨p,xs,rfl,sq,rs⟩:=ajm r q;cases rs with
   |cons A rs=>
   cases rs with
   |cons C rs=>
   cases rs;split at e
   ·rename_i ρ1 q1;refine⟨p,_,rfl,sq,rfl,_,_,rfl,z9 a n A q1 λI l J=>⟨_,_,rfl,z9 b l C e λt o w=>⟨rfl,h t o λk hk=>?_⟩⟩⟩;simp only[y2,aJ]at hk;exact(J k hk.1).trans (w k hk.2)
   ·cases e
  ·cases e
 | .t3 a b c,as,σ,H,ρ,j,v,d,Q,n,r,e,h=>by
  unfold qg at e;split at e
  ·rename_i x y z q;obtain⟨p,xs,rfl,sq,rs⟩:=ajm r q;cases rs with
   |cons A rs=>
   cases rs with
   |cons C rs=>
   cases rs with
   |cons U rs=>
   cases rs;split at e
   ·rename_i ρ1 q1;split at e
    ·rename_i P M;refine⟨p,_,rfl,sq,rfl,_,_,rfl,z9 a n A q1 λI l J=>⟨_,_,rfl,z9 b l C M λt o w=>⟨_,_,rfl,z9 c o U e λF E N=>⟨rfl,h F E λk hk=>?_⟩⟩⟩⟩;simp only[y2,aJ]at hk;exact((J k hk.1.1).trans (w k hk.1.2)).trans (N k hk.2)
    ·cases e
   ·cases e
  ·cases e
 | .tn is,as,σ,H,ρ,j,v,d,Q,n,r,e,h=>by
  unfold qg at e;split at e
  ·rename_i Y q;obtain⟨p,xs,rfl,sq,rs⟩:=ajm r q;obtain⟨L,S⟩:=auv is n rs e (Q:=Q) h;exact⟨p,xs,rfl,sq,L,S⟩
  ·cases e
abbrev Wk:=List D×Option (Nat×O)
abbrev FI:=En->S->R Wk
def kh(p:Wk)(s:S):Prop:=match p.2 with
 |none=>True
 |some q=>s[q.1]?=some q.2
open Classical in
noncomputable def chk{α:Type}(p:Wk)(s:S)(k:R α):R α:=if kh p s then k else .bad
theorem xi{α:Type}{ds:List D}{s:S}{k:R α}:chk (ds,none) s k=k:=if_pos trivial
theorem qu{α:Type}{p:Wk}{s:S}{k:R α}(h:kh p s):chk p s k=k:=if_pos h
theorem Dn.chk{α β:Type}{rel:As->Hp->β->α->Prop}{as:As}{p:Wk}{s:S}{r:R α}{Q:β->Hp->Prop}(h:Dn K rel as H (chk p s r) Q):kh p s/\Dn K rel as H r Q:=by
 by_cases c:kh p s
 ·rw[qu c]at h;exact⟨c,h⟩
 ·have e:PF.chk p s r=.bad:=if_neg c;rw[e]at h;exact h.elim
def aec(K:ak)(as:As)(H:Hp)(J:It)(p:Wk):Prop:= ∀a H2 c,Step0 as H a H2->Rel K a H2 c->kh p c->∀i:Nat,
 (p.1.length <=i->J.stop i H2)/\ ∀d,p.1[i]?=some d->J.go i H2/\ ∀x b,J.yld i H2 x b->Step a H2 a b/\Rel K a b c/\RD K a b x d
def awa(K:ak)(a:TI)(f:FI):Prop:= ∀as σ H ρ s Q,Rel K as H s->Envs K as H ρ σ->Dn K (aec K) as H (f ρ s) Q->a σ H Q
structure RI (X:Cx) (tg iter:Expr) (f:FI):Prop where
 ex: ∃t,PI X tg iter t/\awa X.K t f
structure RG (X:Cx) (tg:Expr) (g:Tg):Prop where
 pg:PG X tg (gOf X.K g)
section
variable{X:Cx}{a b:Expr}{fa fb:FE}{pos:Pos}
theorem xa{i:Nat}(b:X.N.Nodup)(c:X.N[i]?=some x)(hx:Loc X.env.scope x)(a:X.fn x=true\/X.env.scope.names.lookup x=some .local:=by first|exact .inl rfl|exact .inr rfl|assumption):RG X (.Name x pos) (.nm i):=⟨a02 b c hx a⟩
theorem azl{b a:Expr}{e d:Tg}{k:Nat}(n:X.calm=true)(j:RG X b e)(h:RG X a d)(hn:(bS [b,a] X.env).length=2:=by rfl)(c:(bS [b,a] X.env).findIdx? (·.1)=none:=by rfl)
  (m:(bS [b,a] X.env).map (·.2)=assign b X.env::(bS [a] X.env).map (·.2):=by rfl) (l:(bS [a] X.env).map (·.2)=assign a X.env::(bS [] X.env).map (·.2):=by rfl):RG X (.Tuple [b,a] k pos) (.t2 e d):=
 ⟨a2e n (amh j.pg (amh h.pg a05 l) m) hn c⟩
def ka(f:FE):FS:=λρ s=>(f ρ s).bind λd a=>.ok (.rt d) a
def qq(f:FE):FS:=λρ s=>(f ρ s).bind λ_ a=>.ok (.nx ρ) a
noncomputable def jn:FS:=λρ s=>.ok (.nx ρ) s
def jk(i:Nat)(f:FE):FS:=λρ s=>(f ρ s).bind λd a=>.ok (.nx (ρ.set i (some d))) a
def al4(g:Tg)(f:FE):FS:=λρ s=>(f ρ s).bind λd a=>match qg g d ρ with
 |some ρ1=>.ok (.nx ρ1) a
 |none=>.bad
def jv(c:FT)(f g:FS):FS:=λρ s=>(c ρ s).bind λk a=>if k=true then f ρ a else g ρ a
def jd(f g:FS):FS:=λρ s=>(f ρ s).bind λfl a=>match fl with
 |.nx ρ1=>g ρ1 a
 |fl=>.ok fl a
theorem afp(h:RE X a fa):RS X (.Return (some a) pos) (ka fa):=by
 obtain⟨t,p,r⟩:=h.ex;refine⟨_,a3r p,λas σ H ρ s D j l h=>?_⟩;exact r as σ H ρ s _ j l (Dn.bind h λd o e n v st1 c k m=>Dn.now (b:=FV.rt v) m c (.rt k))
theorem aps(h:RE X a fa)(hs:eS a none pos.line X.env=pure false:=by rfl):RS X (.Expr a pos) (qq fa):=by
 obtain⟨t,p,r⟩:=h.ex;refine⟨_,a01 p hs,λas σ H ρ s D k e h=>?_⟩;exact r as σ H ρ s _ k e (Dn.bind h λd o j m v st1 c n l=>Dn.now (b:=FV.nx σ) l c (.nx (e.mono st1)))
theorem zw{i:Nat}{c:Pos}(q:X.N.Nodup)(l:X.N[i]?=some x)(hx:Loc X.env.scope x)(h:RE X a fa)(hs:eS a (some (.Name x c)) pos.line X.env=pure false:=by rfl)(u:X.fn x=true\/X.env.scope.names.lookup x=some .local:=by first|exact .inl rfl|exact .inr rfl|assumption):RS X (.Assign [.Name x c] a pos) (jk i fa):=by
 obtain⟨t,p,r⟩:=h.ex;refine⟨_,a4w q l hx p hs u,λas σ H ρ s D m j h=>?_⟩;exact r as σ H ρ s _ m j (Dn.bind h λd y k w v st1 e n o=>Dn.now (b:=FV.nx (σ.set i (some v))) o e (.nx ((j.mono st1).set i n)))
theorem a4s{g:Tg}(h:RE X a fa)(o:RG X tg g)(hs:jC [tg] a pos.line X.env=pure false:=by rfl)(m:jD [tg] a X.env=pure none:=by rfl)(c:(bS [tg] X.env).map (·.2)=[assign tg X.env]:=by rfl):RS X (.Assign [tg] a pos) (al4 g fa):=by
 obtain⟨t,p,r⟩:=h.ex;refine⟨_,an6 p o.pg hs m c,λas σ H ρ s D u l h=>?_⟩;refine r as σ H ρ s _ u l (Dn.bind h λd y n x v st1 k w c=>?_);split at c
 ·rename_i ρ1 q;exact z9 g (l.mono st1) w q λj e _=>Dn.now (b:=FV.nx j) c k (.nx e)
 ·exact c.elim
theorem aqi{st j:List Stmt}{l:FT}{f g:FS}(A:RT X c l)(a:RSs X st f)(w:RSs X j g):RS X (.If c st j pos) (jv l f g):=by
 obtain⟨E,y,C⟩:=A.ex;obtain⟨t,p,r⟩:=a.ex;obtain⟨t',z,o⟩:=w.ex;refine⟨_,a7c y p z,λas σ H ρ s D u e h=>?_⟩;refine C as σ H ρ s _ u e (Dn.bind h λk n b m x st1 d v a=>?_);have q:x=k:=v;subst q;cases x with
 |true=>rw[if_pos rfl]at a⊢;exact r b σ m ρ n D d (e.mono st1) a
 |false=>rw[if_neg az]at a⊢;exact o b σ m ρ n D d (e.mono st1) a
theorem aj5:RSs X [] jn:=⟨_,a10,λas σ H ρ s D a c h=>Dn.now (b:=FV.nx σ) h a (.nx c)⟩
theorem qz{f:FS}(h:RS X st f):RSs X [st] f:=let ⟨t,p,r⟩:=h.ex;⟨_,a2u p,r⟩
theorem a0j{t u:TS}{f g:FS}(c:ajg K t f)(n:ajg K u g):ajg K (a3d t u) (jd f g):=by
 intro as σ H ρ s D k m h;refine c as σ H ρ s _ k m (Dn.bind h λfl o j d p st1 a l c=>?_);cases l with
 |nx e=>exact n j _ d _ o D a e c
 |rt e=>exact(show ab4 D (.rt _) d from Dn.now (K:=K) (rel:=rF K) (Q:=ab4 D) (b:=FV.rt _) c a (rF.rt e))
 |bk e=>exact(show ab4 D (.bk _) d from Dn.now (K:=K) (rel:=rF K) (Q:=ab4 D) (b:=FV.bk _) c a (rF.bk e))
 |ct e=>exact(show ab4 D (.ct _) d from Dn.now (K:=K) (rel:=rF K) (Q:=ab4 D) (b:=FV.ct _) c a (rF.ct e))
theorem kr{je:List Stmt}{f g:FS}(h:RS X st f)(k:RSs X je g):RSs X (st::je) (jd f g):=by
 obtain⟨t,p,r⟩:=h.ex;obtain⟨t',b,a⟩:=k.ex;exact⟨_,ay6 p b,a0j r a⟩
def kb(g:Tg)(c:FS)(p:Wk):List D->En->S->R Fl
 |[],ρ,s=>.ok (.nx ρ) s
 | d::r,ρ,s=>match qg g d ρ with
  |none=>.bad
  |some ρ1=>(c ρ1 s).bind λfl b=>match fl with
   |.nx a=>chk p b (kb g c p r a b)
   |.ct a=>chk p b (kb g c p r a b)
   |.bk a=>.ok (.nx a) b
   |.rt d=>.ok (.rt d) b
def ko(b:FI)(g:Tg)(c:FS):FS:=λρ s=>(b ρ s).bind λp a=>chk p a (kb g c p p.1 ρ a)
theorem aap{S:FI}{g:Tg}{E:FS}(hc:X.calm=true)(V:RI X tg iter S)(hg:RG X tg g)(hb:RSs X body E)(hx:XOk X XW.xk:=by assumption)(hs: ∀x,bM iter X.env x=pure x:=by intro _;rfl):RS X (.For tg iter body [] pos) (ko S g E):=by
 obtain⟨wi,pi,ri⟩:=V.ex;obtain⟨tb,pb,rb⟩:=hb.ex;refine⟨_,a3x hx.own hc pi hg.pg pb hs,λas σ H ρ s D rl Y h=>?_⟩;refine ri as σ H ρ s _ rl Y (Dn.bind h λp s1 r H1 J st1 F r1 O=>?_);obtain⟨so,O⟩:=Dn.chk O
 refine⟨λi m t H'=>∃a o u,m=p.1.length - i/\i <=p.1.length/\Step r H1 a H'/\Rel X.K a H' u/\Envs X.K a H' o t/\kh p u/\Dn X.K (rF X.K) a H' (kb g E p (p.1.drop i) o u) (ab4 D),
  ⟨_,r,ρ,s1,rfl,bn _,Step.refl _ _,F,Y.mono st1,so,O⟩,?_⟩
 rintro i m t H' ⟨a,o,u,hm,V,st2,rl2,en2,so2,h2⟩;have W:=r1 a H' u st2.toStep0 rl2 so2 i;by_cases v:i < p.1.length
 ·obtain⟨d,hd⟩: ∃d,p.1[i]?=some d:=⟨_,av v⟩;have M:p.1.drop i=d::p.1.drop (i+1):=by
   rw[cz v];rw[av v]at hd;cases hd;rfl
  rw[M]at h2;obtain⟨go,yl⟩:=W.2 d hd;unfold kb at h2;split at h2
  ·exact h2.elim
  ·rename_i N q3;refine .inr ⟨go,λz w=>∃c j y,Step r H1 c w/\Rel X.K c w y/\Envs X.K c w j z/\kh p y/\Dn X.K (rF X.K) c w (kb g E p (p.1.drop (i+1)) j y) (ab4 D),?_,λx H3 hy=>?_⟩
   ·rintro z w ⟨c,j,y,a1,a2,a3,a4,a5⟩;exact⟨p.1.length - (i+1),by lia,c,j,y,rfl,v,a1,a2,a3,a4,a5⟩
   ·obtain⟨k,L,rx⟩:=yl x H3 hy;refine z9 g (en2.mono k) rx q3 λP I _=>?_
    refine rb a P H3 N u _ L I (Dn.bind (Dn.step h2 k) λfl Z C U fv A l r5 n=>?_);cases r5 with
    |nx e=>
     obtain⟨q,n⟩:=Dn.chk n;exact⟨C,_,Z,(st2.trans k).trans A,l,e,q,n⟩
    |ct e=>
     obtain⟨q,n⟩:=Dn.chk n;exact⟨C,_,Z,(st2.trans k).trans A,l,e,q,n⟩
    |rt e=>exact(show ab4 D (.rt _) U from Dn.now (K:=X.K) (rel:=rF X.K) (Q:=ab4 D) (b:=FV.rt _) n l (rF.rt e))
    |bk e=>exact(show ab4 D (.nx _) U from Dn.now (K:=X.K) (rel:=rF X.K) (Q:=ab4 D) (b:=FV.nx _) n l (rF.nx e))
 ·refine .inl ⟨W.1 (bF v),?_⟩;rw[dL (bF v)]at h2;exact Dn.now (b:=FV.nx t) h2 rl2 (.nx en2)
end
end PF
variable{l xs ds ys ks:List PySem.PyData}{K:ak}{as:PF.As}{H H':L2.Hp}{p it Ca:er}{s s':PF.S}{n i m b c B j ep:Nat}{v:L2.V}{x y q C:g9}{vs us:List ck}{e o iter tg elt tg2 iter2:jS}{f fe fo fv:PF.FE}{ρ ρ0 r ρ1:PF.En}{σ:L2.St}{g:PF.Tg}{ft:PF.FT}{wi:L2.TI}{N ps:List g9}{fb:PF.FS}{st:PySem.Stmt}{u:ck}{sh:fx}{A:mG}{op:PySem.CmpOp}{fa:PF.FA}{pos:PySem.Pos}{es ifs ifs2:List jS}{fi:PF.FI}{x0 x1 x2 x3 x4 x5 x6 x7:Option PF.D}{js:List Nat}{a0 a1 a2:PF.D}{fd:PySem.FuncData}{Q E:ck->fx->Prop}{h base:PySem.Heap}{prog P:l7}{pins:List (er×PySem.Obj)}{X:L2.Cx}{items:Array ck}{scope:PySem.Scope}{pl:List Int}{mg:g9->Option ck}{od an:Option er}{sl:Array (Option ck)}{te:L2.TE}
namespace PF
open PySem PySem.Spec
open L2
variable[XW]
noncomputable def zg(d:D)(s:S):R Wk:=match d with
 |.lst ds=>.ok (ds.map D.da,none) s
 |.tup ds=>.ok (ds.map D.da,none) s
 |.con ds=>.ok (ds.map D.da,none) s
 |.frz ds=>.ok (ds.map D.da,none) s
 |.ref n=>match s[n]? with
  |some (.lst ds)=>.ok (ds,some (n,.lst ds)) s
  |_=>.bad
 |_=>.bad
def fIt(f:FE):FI:=λρ s=>(f ρ s).bind zg
section
variable{X:Cx}{tg a b:Expr}{fa fb:FE}{pos:Pos}
def a96(K:ak)(b:TE):TI:=λσ H R=>b σ H λx H1=>∃a,x=.ref a/\(((∃xs,SqL K H1 a xs)/\R (Itl K a) H1)\/((∃xs,SqT K H1 a xs)/\R (Itt K a) H1))
theorem a5a{l:Expr}{n:TE}(u:PE X l n):PI X tg l (a96 X.K n):=by
 intro d s σ H R I h;refine thn (u d s σ H _ I h) λv c ⟨x,k,I1,w,q1⟩=>?_
 obtain⟨a,e,q1⟩:=q1;subst e;cases w;have r: ∀b∈ [c.heap.objs.size],zt X d k b:=λb y=>by
  have e:b=c.heap.objs.size:=by simpa using y
  subst e;exact I1.fpOk (aj _) (I1.hok.fresh (aj _))
 rcases q1 with ⟨⟨xs,m⟩,q⟩|⟨⟨xs,m⟩,q⟩
 ·obtain⟨j,t,p,hz⟩:=I1.list m;refine fj p.isList ?_;exact⟨c.heap.objs.size,[c.heap.objs.size],_,_,k,rfl,I1.kept (t':=c.toks) λb o e=>ag _ e,at3 a _,⟨_,aD _ rfl,rfl,rfl⟩,r,q⟩
 ·obtain⟨j,t,p,hz⟩:=I1.tuple m;refine gj (show c.heap.IsTuple a j.toArray from p) ?_;exact⟨c.heap.objs.size,[c.heap.objs.size],_,_,k,rfl,I1.kept (t':=c.toks) λb o e=>ag _ e,ari a _,⟨_,aD _ rfl,rfl,rfl⟩,r,q⟩
theorem ame{xs:List V}{w:Wk}(h: ∀a H2 b,Step0 as H a H2->Rel K a H2 b->kh w b->∃ys,SqL K H2 p ys/\RDs K a H2 ys w.1):aec K as H (Itl K p) w:=by
 intro a H2 b st c k i;obtain⟨ys,sq,rs⟩:=h a H2 b st c k;refine⟨λl=>⟨ys,sq,by rw[rs.length];exact l⟩,λd hd=>?_⟩;obtain⟨v,e,r⟩:=rs.get hd;refine⟨⟨ys,v,sq,e⟩,λx m j=>?_⟩;obtain⟨rfl,hx⟩:=j;have:=hx ys sq;rw[e]at this;cases this;exact⟨Step.refl _ _,c,r⟩
theorem asm{xs:List V}{w:Wk}(h: ∀a H2 b,Step0 as H a H2->Rel K a H2 b->kh w b->∃ys,SqT K H2 p ys/\RDs K a H2 ys w.1):aec K as H (Itt K p) w:=by
 intro a H2 b st c k i;obtain⟨ys,sq,rs⟩:=h a H2 b st c k;refine⟨λl=>⟨ys,sq,by rw[rs.length];exact l⟩,λd hd=>?_⟩;obtain⟨v,e,r⟩:=rs.get hd;refine⟨⟨ys,v,sq,e⟩,λx m j=>?_⟩;obtain⟨rfl,hx⟩:=j;have:=hx ys sq;rw[e]at this;cases this;exact⟨Step.refl _ _,c,r⟩
theorem aaz{ds:List D}(b:Rel K as H s)(hr: ∀q,as.ix[n]?=some (some q)->q=p)(e:s[n]?=some (.lst ds)):as.ix[n]?=some (some p)/\ ∃xs,H p=some (.lst xs)/\RDs K as H xs ds:=by
 obtain⟨q,a⟩:=b.li n _ e (by intro z;cases z);cases hr q a;exact⟨a,b.ob n p _ a e⟩
theorem zy(h:RE X a fa):RI X tg a (fIt fa):=by
 obtain⟨t,p,r⟩:=h.ex;refine⟨_,a5a p,λas σ H ρ s Q k L h=>?_⟩;refine r as σ H ρ s _ k L (Dn.bind h λd E x C v st1 b I j=>?_);cases I with
 |da t=>
  cases t with
  |tup n e rs=>exact⟨_,rfl,.inr ⟨⟨_,SqT.of e⟩,Dn.now (Q:=Q) j b (asm (xs:=[]) λc m w st k u=>⟨_,SqT.of (st.keep _ _ n e),(rs.mono0 st).rd⟩)⟩⟩
  |lst n e rs=>exact⟨_,rfl,.inl ⟨⟨_,SqL.of e⟩,Dn.now (Q:=Q) j b (ame (xs:=[]) λc m w st k u=>⟨_,SqL.of (st.keep _ _ n e),(rs.mono0 st).rd⟩)⟩⟩
  |_=>exact j.elim
 |con q rs=>exact⟨_,rfl,.inr ⟨⟨_,q C⟩,Dn.now (Q:=Q) j b (asm (xs:=[]) λc m w st k u=>⟨_,q m,(rs.mono0 st).rd⟩)⟩⟩
 |frz q rs=>exact⟨_,rfl,.inl ⟨⟨_,q x C (Step.refl _ _).toStep0⟩,Dn.now (Q:=Q) j b (ame (xs:=[]) λc m w st k u=>⟨_,q c m st,(rs.mono0 st).rd⟩)⟩⟩
 | @ref M n l hr=>
  have j:Dn X.K (aec X.K) x C (match E[n]? with|some (O.lst ds)=>R.ok (ds,some (n,O.lst ds)) E|_=>R.bad) Q:=j;split at j
  ·rename_i ds e;obtain⟨N,xs,hx,rs⟩:=aaz b hr e;refine⟨_,rfl,.inl ⟨⟨_,SqL.of hx⟩,Dn.now (Q:=Q) j b (ame (xs:=[]) λc m w st k u=>?_)⟩⟩;have o:w[_]?=some (O.lst ds):=u;obtain⟨q,D⟩:=k.li _ _ o (by intro z;cases z);have y:=D;rcases st.old _ l with z|z
   ·rw[z]at y;cases hr q y;obtain⟨J,F,A⟩:=k.ob _ _ _ D o;exact⟨J,SqL.of F,A⟩
   ·rw[z]at y;cases y
  ·exact j.elim
 |_=>exact j.elim
noncomputable def xn(lo:Int):Nat->List D
 |0=>[]
 |n+1=>.int lo::xn (lo+1) n
theorem qa: ∀(n:Nat) (lo:Int),(xn lo n).length=n
 |0,_=>rfl
 |n+1,lo=>congrArg (· +1) (qa n (lo+1))
theorem agg: ∀(n:Nat) (lo:Int) (i:Nat),i < n->(xn lo n)[i]?=some (.int (lo+i))
 |n+1,lo,0,_=>by simp[xn]
 |n+1,lo,i+1,h=>by
  rw[xn,List.getElem?_cons_succ,agg n (lo+1) i (by lia)];have:lo+1+(i:Int)=lo+((i+1:Nat):Int):=by lia
  rw[this]
theorem a3p(lo:Int)(n:Nat):aec K as H (Itr lo n) (xn lo n,none):=by
 intro b l h st c k i;refine⟨λa=>by rw[qa]at a;exact a,λd hd=>?_⟩;have a:i < n:=by
  have:=(am.mp hd).1;rw[qa]at this;exact this
 rw[agg n lo i a]at hd;cases hd;refine⟨a,λx j e=>?_⟩;obtain⟨rfl,rfl⟩:=e;exact⟨Step.refl _ _,c,.da (.int _)⟩
def aqb(ds:List D)(s:S):R Wk:=match ds with
 |[.int j]=>if -(2^62) <=j/\j < 2^62 then .ok (xn 0 j.toNat,none) s else .bad
 |_=>.bad
def aa8(f:FA):FI:=λρ s=>(f ρ s).bind aqb
theorem RD.int_inv{i:Int}(h:RD K as H v (.int i)):v=.int i:=by
 cases h with|da t=>cases t;rfl
theorem RD.str_inv(h:RD K as H v (.str x)):v=.str x:=by
 cases h with|da t=>cases t;rfl
theorem RD.bl_inv{x:Bool}(h:RD K as H v (.bl x)):v=.bl x:=by
 cases h with|da t=>cases t;rfl
theorem RDs.one{vs:List V}{d:D}(h:RDs K as H vs [d]): ∃v,vs=[v]/\RD K as H v d:=by
 cases h with|cons a b=>cases b;exact⟨_,rfl,a⟩
theorem RDs.two{vs:List V}{d e:D}(h:RDs K as H vs [d,e]): ∃v w,vs=[v,w]/\RD K as H v d/\RD K as H w e:=by
 cases h with|cons a b=>cases b with|cons b c=>cases c;exact⟨_,_,rfl,a,b⟩
theorem a6j{f:FA}{p:Pos}(hm:X.mg "range"=none)(h:RA X [a] f)(o:Gl X "range":=by rfl)(hs:starEach [a] X.env=[(false,eval a X.env)]:=by rfl):RI X tg (.Call (.Name "range" p) [a] [] pos) (aa8 f):=by
 obtain⟨t,p,r⟩:=h.ex;refine⟨_,au5 o hm p hs,λas σ H ρ s Q l n h=>?_⟩;refine r as σ H ρ s _ l n (Dn.bind h λds u k q vs st1 c m b=>?_);unfold aqb at b;split at b
 ·rename_i j;obtain⟨v,rfl,e⟩:=m.one;cases e.int_inv;split at b
  ·rename_i d;exact⟨j,rfl,d.1,d.2,Dn.now (Q:=Q) b c (a3p 0 _)⟩
  ·exact b.elim
 ·exact b.elim
def ke(g:Tg)(c:FT)(fe:FE)(ρ0:En)(p:Wk):List D->S->R (List D)
 |[],s=>.ok [] s
 |d::r,s=>match qg g d ρ0 with
  |none=>.bad
  |some ρ1=>(c ρ1 s).calm.bind λb a=>if b=true then (fe ρ1 a).calm.bind λx e=>chk p e ((ke g c fe ρ0 p r e).bind λxs h=>.ok (x::xs) h) else chk p a (ke g c fe ρ0 p r a)
theorem R.calm_ex{α:Type}(r:R α)(n:Nat)(ρ:En)(s:S):r.calm≠ .ex n ρ s:=by cases r <;> (intro h;cases h)
theorem ab6{α β:Type}{r:R α}{f:α->S->R β}(d: ∀n ρ s,r≠ .ex n ρ s)(c: ∀a s n ρ s',f a s≠ .ex n ρ s')(n:Nat)(ρ:En)(s:S):r.bind f≠ .ex n ρ s:=by
 cases r with
 |ok a s'=>exact c a s' n ρ s
 |bad=>intro h;cases h
 |ex e b s'=>exact absurd rfl (d e b s')
theorem afw{α:Type}{p:Wk}{k:R α}(h: ∀n ρ s',k≠ .ex n ρ s')(n:Nat)(ρ:En)(s':S):chk p s k≠ .ex n ρ s':=by
 by_cases c:kh p s
 ·rw[qu c];exact h n ρ s'
 ·have e:chk p s k=.bad:=if_neg c;rw[e];intro z;cases z
theorem ab2{g:Tg}{e:FT}{fe:FE}{ρ0:En}{p:Wk}: ∀(ds:List D) (s:S) (n:Nat) (ρ:En) (s':S),ke g e fe ρ0 p ds s≠ .ex n ρ s'
 |[],s,n,ρ,s'=>by intro h;cases h
 | d::r,s,n,ρ,s'=>by
  rw[ke];split
  ·intro h;cases h
  ·refine ab6 (R.calm_ex _) (λb c=>?_) n ρ s';intro n ρ s';split
   ·exact ab6 (R.calm_ex _) (λx a=>afw (ab6 (λn ρ s'=>ab2 r a n ρ s') λxs j n ρ s' h=>by cases h)) n ρ s'
   ·exact afw (λn ρ s'=>ab2 r c n ρ s') n ρ s'
noncomputable def acm(ρ:En)(js:List Nat):En:=js.map λj=>(ρ[j]?).join
def fLc(m:Bool)(js:List Nat)(k:Nat)(c:FI)(g:Tg)(d:FT)(fe:FE):FE:=λρ s=>(c ρ s).bind λp a=>if p.1.length <=sizeLine then chk p a ((ke g d fe (bp k none++acm ρ js) p p.1 a).bind λds b=>qj m ds b) else .bad
noncomputable def vw:FT:=λ_ s=>.ok true s
structure RIfs (X:Cx) (ifs:List Expr) (f:FT):Prop where
 run:ae9 X ifs (acd X.K f)
theorem amk:RIfs X [] vw:=⟨λa s σ H Q I ⟨as,ρ,s',b,c,h⟩=>ay5 a s σ H Q I (show Q true H from Dn.now h b rfl)⟩
theorem a9u{f:FT}(h:RT X a f):RIfs X [a] f:=⟨awg h.pt⟩
theorem Envs.caps(e:Envs K as H ρ σ)(js:List Nat):Envs K as H (acm ρ js) (v7 σ js):=by
 refine⟨by simp[acm,v7],λi d h=>?_⟩;unfold acm at h;unfold v7;rw[aT]at h⊢;cases q:js[i]? with
 |none=>rw[q]at h;cases h
 | some j=>
  rw[q]at h;have h:(ρ[j]?).join=some d:=by simpa using h
  cases z:ρ[j]? with
  |none=>rw[z]at h;cases h
  | some o=>
   rw[z]at h;cases o with
   |none=>cases h
   |some x=>
    cases h;obtain⟨v,a,r⟩:=e.get j d z;exact⟨v,by simp[a],r⟩
theorem Envs.own{vs:St}{k:Nat}(e:Envs K as H ρ σ)(a:vs.length=k):Envs K as H (bp k none++ρ) (vs++σ):=by
 refine⟨by simp[a,e.len],λi d h=>?_⟩;by_cases z:i < k
 ·rw[aQ (by simpa using z),dG]at h;simp[z]at h
 ·rw[aZ (by simpa using bF z)]at h;rw[aZ (by rw[a];exact bF z)];rw[a];exact e.get _ d (by simpa using h)
theorem lcB {J:It} {p:Wk} {k:Nat} {y:St} {m:Bool} {Q:VK} (hg:y2 k g=true) (hz:p.1.length <=sizeLine) (rl:Rel K as H s) (ri:aec K as H J p) (so:kh p s) (en: ∀vs:St,vs.length=k->Envs K as H ρ0 (vs++y)) (h:Dn K (rD K) as H ((ke g ft fe ρ0 p p.1 s).bind λds l=>qj m ds l) Q):ay9 (gOf K g) (@acd XW.dft K ft) (@tOf XW.dft K fe) k y J H Q:=by
 intro D hD;have n0:New H D (.lst []) (upd H D (.lst [])):=⟨hD,rfl⟩;have nh:D∉as.hd:=λz=>by obtain⟨_,e,_⟩:=rl.hs D z;rw[hD]at e;cases e
 have s0:=afl (as:=as) n0
 refine⟨λi mm t H'=>∃j l ds,mm=p.1.length - i/\i <=p.1.length/\t.length <=i/\Step as H j H'/\D∈j.hd/\Rel K j H' l/\kh p l/\RDs K j H' t ds/\
   Dn K (rD K) as H ((ke g ft fe ρ0 p (p.1.drop i) l).bind λxs s3=>qj m (ds++xs) s3) Q,
  ⟨_,as.hide D,s,[],rfl,bn _,aj _,s0,au,rl.hide n0,so,.nil,h⟩,?_⟩
 rintro i mm t H' A ⟨j,l,ds,hm,hi,hys,st2,mD2,rl2,so2,rs,a⟩;have tn:=ri j H' l st2.toStep0 rl2 so2 i;by_cases F:i < p.1.length
 ·obtain⟨d,hd⟩: ∃d,p.1[i]?=some d:=⟨_,av F⟩;have V:p.1.drop i=d::p.1.drop (i+1):=by
   rw[cz F];rw[av F]at hd;cases hd;rfl
  rw[V]at a;obtain⟨go,yl⟩:=tn.2 d hd;unfold ke at a;split at a
  ·exact a.elim
  ·rename_i u q3;refine .inr ⟨go,λx H3 hy vs hv=>?_⟩;obtain⟨n,rl3,rx⟩:=yl x H3 hy;refine z9 g ((en vs hv).mono (st2.trans n)) rx q3 λσ3 I fr=>?_
   refine⟨fr k hg vs y hv rfl,j,u,l,rl3,I,?_⟩;have Y:H3 D=some (.lst t):=n.hh D mD2 _ A;cases W:ft u l with
   |bad=>rw[W]at a;exact a.elim
   |ex _ _ _=>rw[W]at a;exact a.elim
   | ok b w=>
    rw[W,R.calm_ok]at a;intro b' C H4 st4 N eb;have eb':b'=b:=eb;subst eb';have E:D∈C.hd:=st4.hk D mD2;have P:H4 D=some (.lst t):=st4.hh D mD2 _ Y;have v:=(st2.trans n).trans st4;rw[R.bind_ok]at a;cases b' with
    | false=>
     rw[if_neg az]at a⊢;by_cases c:kh p w
     ·rw[qu c]at a;exact⟨P,_,by lia,C,w,ds,rfl,F,by lia,v,E,N,c,(rs.mono n).mono st4,a⟩
     ·have e:chk p w (ke g ft fe ρ0 p (p.1.drop (i+1)) w)=.bad:=if_neg c;rw[e]at a;exact a.elim
    | true=>
     rw[if_pos rfl]at a⊢;refine⟨C,u,w,N,I.mono st4,?_⟩;cases qe:fe u w with
     |bad=>rw[qe]at a;exact a.elim
     |ex _ _ _=>rw[qe]at a;exact a.elim
     | ok U L=>
      rw[qe,R.calm_ok]at a;intro v5 O H5 r rl5 r5;rw[R.bind_ok]at a;have o:D∈O.hd:=r.hk D E;have eD5:H5 D=some (.lst t):=r.hh D E _ P;have M:=v.trans r;by_cases c:kh p L
      ·rw[qu c]at a;have cg:Chg H5 D (.lst (t++ [v5])) (upd H5 D (.lst (t++ [v5]))):=⟨rfl⟩;have S:=aam (.inr o) cg;refine⟨eD5,by lia,_,by lia,O,L,ds++ [U],rfl,F,by simp;lia,ale M hD nh o cg,o,rl5.chgH o cg,c,((((rs.mono n).mono st4).mono r).append (.cons r5 .nil)).mono0 S,?_⟩;cases Z:ke g ft fe ρ0 p (p.1.drop (i+1)) L with
       |bad=>rw[Z]at a;exact a.elim
       |ex _ _ _=>exact absurd Z (ab2 _ _ _ _ _)
       |ok xs s6=>
        rw[Z]at a;show Dn K (rD K) as H (qj m ((ds++ [U])++xs) s6) Q;rw[bN];exact a
      ·have e:chk p L ((ke g ft fe ρ0 p (p.1.drop (i+1)) L).bind λxs w=>.ok (U::xs) w)=.bad:=if_neg c;rw[e]at a;exact a.elim
 ·refine .inl ⟨tn.1 (bF F),?_⟩;rw[dL (bF F)]at a
  replace a:Dn K (rD K) as H (qj m (ds++ []) l) Q:=a
  rw[aK]at a;unfold qj at a;cases m with
  |true=>
   rw[if_pos rfl]at a;refine a (.ref D) _ H' (ajt st2 nh mD2) (rl2.take mD2 ⟨t,A,rs.mono0 (ad3 mD2)⟩) (.ref (by simp[rl2.len]) λq e=>?_);rw[←rl2.len]at e;simp at e;exact e.symm
  | false=>
   rw[if_neg az]at a;cases q:j2 ds with
   |none=>rw[q]at a;exact a.elim
   |some zs=>
    rw[q]at a;have e:=yi q;subst e;have a:Dn K (rD K) as H (R.ok (.lst zs) l) Q:=a;refine a (.ref D) _ H' (amy st2 nh abi) rl2.show (.da (.lst (λz=>?_) A (rs.td.mono0 abi)));rcases z with z|z
    ·exact rl2.hx D mD2 z
    ·exact absurd rfl (of_decide_eq_true (bd.mp z).2)
end
end PF
namespace PF
open PySem PySem.Spec
open L2
open PyProof.Rows (envOfC)
section XWs
variable[XW]
section
variable{X:Cx}{own caps:List Str}{js:List Nat}{scope:dP}{tg iter elt a:Expr}{ifs:List Expr}{fi:FI}{g:Tg}{ft:FT}{fe fa:FE}{pos:Pos}
theorem au6{k:Nat}{m:Bool}(e:awa K wi fi)(j:y2 k g=true):aax K (tLc js k wi (gOf K g) (@acd XW.dft K ft) (@tOf XW.dft K fe)) (fLc m js k fi g ft fe):=by
 intro as σ H ρ s Q l c h;refine e as σ H ρ s _ l c (Dn.bind h λp t d r J st1 b n a=>?_);split at a
 ·rename_i hz;obtain⟨q,a⟩:=Dn.chk a;exact lcB j hz b n q (λvs o=>((c.mono st1).caps js).own o) a
 ·exact a.elim
theorem azh(m:Bool)(c:X.calm=true)(b:scope.kind=.function)(a:(scope.names.all λp=>!(p.2==.local)||(scope.names.lookup p.1==some .local))=true)(d:(scope.names.any λp=>p.2==.cell)=false)
  (hk:(scope.names.all λp=>!(p.2==.free)||(X.env.kindOf p.1==some .cell||X.env.kindOf p.1==some .free))=true)
  (e:xx X scope caps js) (h:y2 own.length g=true) (k:RI X tg iter fi) (o: ∀C fp s H,RG (ju X own caps scope C fp s H) tg g) (l: ∀(I:XW) C fp s H,XOk (ju X own caps scope C fp s H) I.xk->@RIfs I (ju X own caps scope C fp s H) ifs ft) (n: ∀(I:XW) C fp s H,XOk (ju X own caps scope C fp s H) I.xk->@RE I (ju X own caps scope C fp s H) elt fe)
  (hs: ∀x,bM iter X.env x=pure x:=by intro _;rfl):RE X (.ListComp elt [⟨tg,iter,ifs,0⟩] scope pos) (fLc m js own.length fi g ft fe):=by
 obtain⟨q,pi,j⟩:=k.ex;exact⟨_,a88 c b a d hk e pi (λC fp s H=>(o C fp s H).pg) (λC fp s H=>@RIfs.run XW.dft _ _ _ (l XW.dft C fp s H (XOk.never dq))) (λC fp s H=>@RE.pe XW.dft _ _ _ (n XW.dft C fp s H (XOk.never dq))) hs,au6 j h⟩
theorem awc(m:Bool){t:Pos}{c:Pos}(q:eS (.ListComp elt [⟨tg,iter,ifs,0⟩] scope pos) (some (.Name y t)) c.line X.env=pure true)(E:X.N.Nodup)(u:X.N[i]?=some y)(n:X.env.scope.names.lookup y=some .local)(e:X.calm=true)(j:scope.kind=.function)(a:(scope.names.all λp=>!(p.2==.local)||(scope.names.lookup p.1==some .local))=true)(k:(scope.names.any λp=>p.2==.cell)=false)(hk:(scope.names.all λp=>!(p.2==.free)||(X.env.kindOf p.1==some .cell||X.env.kindOf p.1==some .free))=true)(l:xx X scope caps js)(O:y2 own.length g=true)(w:RI X tg iter fi)(L: ∀C fp s H,RG (ju X own caps scope C fp s H) tg g)(F: ∀(I:XW) C fp s H,XOk (ju X own caps scope C fp s H) I.xk->@RIfs I (ju X own caps scope C fp s H) ifs ft)(J: ∀(I:XW) C fp s H,XOk (ju X own caps scope C fp s H) I.xk->@RE I (ju X own caps scope C fp s H) elt fe)(hs: ∀x,bM iter X.env x=pure x:=by intro _;rfl):RS X (.Assign [.Name y t] (.ListComp elt [⟨tg,iter,ifs,0⟩] scope pos) c) (jk i (fLc m js own.length fi g ft fe)):=by
 obtain⟨U,pi,P⟩:=w.ex;refine⟨_,awy (own:=own) (te:= @tOf XW.dft X.K fe) (tt:= @acd XW.dft X.K ft) (g:=gOf X.K g) q E u n e j a k hk l pi (λC fp s H=>(L C fp s H).pg) (λC fp s H=>@RIfs.run XW.dft _ _ _ (F XW.dft C fp s H (XOk.never dq))) (λC fp s H=>@RE.pe XW.dft _ _ _ (J XW.dft C fp s H (XOk.never dq))) hs,λas σ H ρ s D z r h=>?_⟩;exact au6 (m:=m) P O as σ H ρ s _ z r (Dn.bind h λd V M S v st1 o A Q=>Dn.now (b:=FV.nx (σ.set i (some v))) Q o (.nx ((r.mono st1).set i A)))
def ays(d:D)(s:S):R D:=match d with
 | .ref n=>match s[n]? with
  |some (.lst ds)=>match j2 ds with
   |some xs=>.ok (.lst xs) (s.set n .gone)
   |none=>.bad
  |_=>.bad
 |d=>.ok d s
def awk(f:FE):FE:=λρ s=>(f ρ s).bind ays
theorem a6q{d:D}{Q:VK}(b:Rel K as H s)(r:RD K as H v d)(h:Dn K (rD K) as H (ays d s) Q):Q v H:=by
 cases r with
 | @ref p n l hr=>
  have c:Dn K (rD K) as H (match s[n]? with|some (O.lst ds)=>(match j2 ds with|some xs=>R.ok (D.lst xs) (s.set n .gone)|none=>.bad)|_=>R.bad) Q:=h;split at c
  ·rename_i ds e;split at c
   ·rename_i xs q;obtain⟨m,vs,u,rs⟩:=aaz b hr e;have o:=yi q;subst o;refine c (.ref p) (as.cut n) H (ah5 n) b.frz (.da (.lst ?_ u (rs.td.mono (ah5 n))));rintro (z|z)
    ·obtain⟨i,j⟩:=j4.mp z;have k:=ahq j;have:n=i:=b.nd n i p m k;subst this;rw[ef]at j;simp at j
    ·exact b.hx p z (j4.mpr ⟨n,m⟩)
   ·exact c.elim
  ·exact c.elim
 |da t=>exact Dn.now (Q:=Q) h b (.da t)
 |ty n=>exact Dn.now (Q:=Q) h b (.ty n)
 |fn a=>exact Dn.now (Q:=Q) h b (.fn a)
 |tabF a=>exact Dn.now (Q:=Q) h b (.tabF a)
 |con q r=>exact Dn.now (Q:=Q) h b (.con q r)
 |frz q r=>exact Dn.now (Q:=Q) h b (.frz q r)
theorem bcb(h:RE X a fa):RE X a (awk fa):=by
 obtain⟨t,p,r⟩:=h.ex;refine⟨_,p,λas σ H ρ s Q e k h=>?_⟩;exact r as σ H ρ s _ e k (Dn.bind h λd n c m v st1 b j l=>a6q b j l)
end
abbrev FF:=List D->S->R D
noncomputable def spF(K:ak)(n:Nat)(F:FF):Sp:=λvs H Q E=>vs.length=n/\ ∃as ds s,Rel K as H s/\RDs K as H vs ds/\ @Dn (XW.of E) D V K (rD K) as H (F ds s) Q
structure CalF (P:aP) (w:aM) (K:ak) (mg:Str->Option ae) (base:Heap) (x:Str) (k n:Nat) (F:FF):Prop where
 cal:aw2 P w K mg base x k (spF K n F)
def jf(n:Nat)(F:FF)(f:FA):FE:=λρ s=>(f ρ s).bind λds a=>if ds.length=n then (F ds a).at ρ else .bad
section
variable{X:Cx}{x:Str}{k n:Nat}{F:FF}{p pos:Pos}{e:Expr}{es:List Expr}{f:FA}
theorem aqu(c:CalF X.prog X.w X.K X.mg X.base x k n F)(hr:Room k X.A)(u:RA X (e::es) f)(hx:XOk X XW.xk:=by assumption)(z:Gl X x:=by rfl)(l:(x==("__debug__":Str))=false:=by decide)
  (v:starEach (e::es) X.env=(false,eval e X.env)::starEach es X.env:=by rfl) (b:(backTo pos (starEach es X.env)).any (·.1)=false:=by rfl):RE X (.Call (.Name x p) (e::es) [] pos) (jf n F f):=by
 obtain⟨t,p,r⟩:=u.ex;refine⟨_,a7l c.cal hx hr p z l v b,λas σ H ρ s Q q o h=>?_⟩;refine r as σ H ρ s _ q o (Dn.bind h λds y a C vs st1 j m d=>?_);split at d
 ·rename_i hn;refine⟨by rw[aK,m.length];exact hn,a,ds,y,j,?_,d.at (o.mono st1)⟩;rw[aK];exact m
 ·exact d.elim
end
end XWs
def k9(m:Nat)(b:FS):FF:=λds s=>(b (ds.map some++bp (m - ds.length) none) s).bind λfl a=>match fl with
 |.rt d=>.ok d a
 |.nx _=>.ok .non a
 |_=>.bad
theorem aqw{vs:List V}{ds:List D}(r:RDs K as H vs ds):Envs K as H (ds.map some++bp (N.length - ds.length) none) (L2.start N vs):=by
 unfold L2.start;refine⟨by simp[r.length],λi d h=>?_⟩;by_cases z:i < ds.length
 ·rw[aQ (by simpa using z),aT]at h;cases q:ds[i]? with
  |none=>rw[q]at h;cases h
  |some x=>
   rw[q]at h;cases h;obtain⟨v,b,a⟩:=r.get q;exact⟨v,by rw[aQ (by rw[ao,r.length];exact z),aT,b];rfl,a⟩
 ·rw[aZ (by simpa using bF z),dG]at h;split at h
  ·cases h
  ·cases h
theorem ay4[I:XW]{t:TS}{Q:VK}(r:ajg K t fb)(k:Rel K as H s)(m:Envs K as H ρ σ)(h:Dn K (rD K) as H ((fb ρ s).bind λfl c=>match fl with|.rt d=>.ok d c|.nx _=>.ok .non c|_=>.bad) Q):t {nx:=λ_ H'=>Q .non H',rt:=Q} σ H:=by
 refine r as _ H _ s _ k m (Dn.bind h λfl c j n o st1 a l b=>?_);cases l with
 |nx e=>exact Dn.now (Q:=Q) b a (.da .non)
 |rt e=>exact Dn.now (Q:=Q) b a e
 |bk e=>exact b.elim
 |ct e=>exact b.elim
abbrev BodyOk(P:aP)(w:aM)(K:ak)(mg:Str->Option ae)(base:Heap)(N:List Str)(q:Str)(st:Stmt)(k:Nat)(b:FS):Prop:=
 ∀(f:Addr) (a:ae) (A:bh) (outer:List Env) (s:af) (H:Hp) (E:XK) (I:XW),XOk (aa9 (CX1 P w) P w K mg base N q (jh st) f a A outer s H E) I.xk->Room k (A.deeper (envOfC q (jh st) s.heap.objs.size f a)) ->
  @RSs I (aa9 (CX1 P w) P w K mg base N q (jh st) f a A outer s H E) (vj st) b
section
variable{P:aP}{w:aM}{K:ak}{mg:Str->Option ae}{base:Heap}{x:Str}{st:Stmt}{N ps:List Str}{k:Nat}
theorem ajk(hm:N.length=m)(a:BodyOk P w K mg base N q st k fb)(f:Addr)(b:ae)(A:bh)(outer:List Env)(s:af)(H:Hp)(vs:List V)(Q:VK)(E:XK)(hr:Room k (A.deeper (envOfC q (jh st) s.heap.objs.size f b)))(h:spF K n (k9 m fb) vs H Q E):
  ∃t,PSs (aa9 (CX1 P w) P w K mg base N q (jh st) f b A outer s H E) (vj st) t/\t {nx:=λ_ H'=>Q .non H',rt:=Q} (L2.start N vs) H:=by
 obtain⟨e,as,ds,s',c,rs,h⟩:=h;obtain⟨t,p,r⟩:= @RSs.ex (XW.of E) _ _ _ (a f b A outer s H E (XW.of E) a7j hr);have d:Envs K as H (ds.map some++bp (m - ds.length) none) (L2.start N vs):=by rw[←hm];exact aqw rs
 exact⟨t,p,ay4 (I:=XW.of E) r c d h⟩
theorem arl(h:Has K mg x st ps)(S:FnScope N ps (jh st))(hm:N.length=m)(hn:ps.length=n)(a:BodyOk P w K mg base N x st k fb):CalF P w K mg base x (k+1) n (k9 m fb):=
 ⟨h.calX S (λvs H Q E h=>by rw[hn];exact h.1) λf b A outer s H vs Q E hr h=>ajk hm a f b A outer s H vs Q E hr h⟩
end
noncomputable def aio(K:ak):Sp:=λvs H Q _=>∃(a:Addr) (ns:List Int),vs=[.ref a]/\SqL K H a (ns.map V.int)/\ns.length <=63/\ ∀H',Q (.bl true) H'
theorem TDs.ints{as:As}{H:Hp}: ∀ns:List Int,TDs as H (ns.map V.int) (ns.map aG)
 |[]=>.nil
 |n::r=>.cons (.int n) (TDs.ints r)
end PF
namespace PF
open PySem PySem.Spec
open L2
variable[XW]
section
variable{X:Cx}{pins:List (Addr×Obj)}{σ:St}{H:Hp}{s:af}{as:As}
theorem avc{a:Addr}(I:Inv X pins σ H s)(e:H a=some (.dK [])):(a==bA)=false/\ ∃(o:Obj) (es:Array cL) (ep:Nat),s.heap.get? a=some o/\o.cls=.type "dict"/\o.data=.dict es ep/\es.toList=[]:=by
 obtain⟨_,hd,vs,rel,c⟩:=aeo I.hok e;cases rel;obtain⟨o,es,ep,j,d,k,l,b⟩:=c;refine⟨hd,o,es,ep,j,d.1,k,?_⟩;cases h:es.toList with
 |nil=>rfl
 |cons x r=>rw[h]at b;obtain⟨b,_⟩:=b;cases b
theorem a2v{a:Addr}{i:Int}(I:Inv X pins σ H s)(e:H a=some (.dK [(.inl i,v)])):(a==bA)=false/\ ∃(o:Obj) (es:Array cL) (ep:Nat) (hs:Int) (t:Tok) (u:ae),RelV v u/\s.heap.get? a=some o/\o.cls=.type "dict"/\o.data=.dict es ep/\es.toList=[⟨hs,.int i t,u⟩]:=by
 obtain⟨_,hd,vs,rel,z⟩:=aeo I.hok e;cases rel with
 | @cons _ b _ _ d w=>
  cases w;obtain⟨k,u⟩:=b;obtain⟨m,d⟩:=d;obtain rfl:hJ i=k:=m;obtain⟨o,es,ep,A,p,C,F,c,_⟩:=z;refine⟨hd,o,es,ep,?_⟩;cases l:es.toList with
  |nil=>rw[l]at c;cases c
  | cons x r=>
   rw[l]at c;cases c with
   | cons E D q=>
    cases q;obtain⟨hs,key,val⟩:=x;rcases qp (k:=.inl i) (v:=key) E with ⟨j,t,h,n⟩|⟨y,t,h,_⟩
    ·cases h;obtain rfl:key=hU i t:=n;obtain rfl:val=u:=D;exact⟨hs,t,val,d,A,p.1,C,rfl⟩
    ·cases h
mutual
theorem TD.reads(I:Inv X pins σ H s): ∀{v:V} {d:aa} {u:ae},TD as H v d->RelV v u->∃bs,c8 s.heap u d bs
 |_,_,u,.non,r=>by cases (show u=aU from r);exact⟨_,.none⟩
 |_,_,u,.bl b,r=>by cases (show u=jT b from r);exact⟨_,.bool b⟩
 |_,_,u,.int i,r=>by obtain⟨t,e⟩:=(show∃t,u=hU i t from r);subst e;exact⟨_,.int i t⟩
 |_,_,u,.str x,r=>by obtain⟨t,e⟩:=(show∃t,u=iR x t from r);subst e;exact⟨_,.str x t⟩
 |_,_,u,.tup (p:=a) (xs:=xs) n e q,r=>by
  cases (show u=bi a from r);obtain⟨z,its,rv,p⟩:=(show km X.prog X.w H s.heap a (.tup xs) from I.hok a _ e);obtain⟨o,h1,h2,k,h3⟩:=p.tup;obtain⟨bs,ra⟩:=TDs.reads I q rv;exact⟨_,.tuple h1 h2 h3 ra⟩
 |_,_,u,.lst (p:=a) (xs:=xs) n e q,r=>by
  cases (show u=bi a from r);obtain⟨z,its,k,rv,h1⟩:=(show km X.prog X.w H s.heap a (.lst xs) from I.hok a _ e);obtain⟨bs,ra⟩:=TDs.reads I q rv;exact⟨_,.list h1 rfl rfl ra⟩
 |_,_,u,.dct (p:=a) n e,r=>by
  cases (show u=bi a from r);obtain⟨_,o,es,ep,h1,h2,h3,h4⟩:=avc I e;exact⟨_,.dict (kvs:=[]) h1 h2 h3 (by rw[h4];exact .nil) (by rw[h4];exact .nil)⟩
 |_,_,u,.dc1 (p:=a) (i:=i) (d:=d) n e q,r=>by
  cases (show u=bi a from r);obtain⟨_,o,es,ep,hs,t,y,ry,h1,h2,h3,h4⟩:=a2v I e;obtain⟨bs,ra⟩:=TD.reads I q ry;exact⟨_,.dict (kvs:=[(.int i,d)]) h1 h2 h3 (by rw[h4];exact .cons (.int i t) .nil) (by rw[h4];exact .cons ra .nil)⟩
theorem TDs.reads(I:Inv X pins σ H s): ∀{vs:List V} {ds:List aa} {us:List ae},TDs as H vs ds->jl vs us->∃bs,cD s.heap us ds bs
 |_,_,_,.nil,r=>by cases r;exact⟨_,.nil⟩
 | _,_,_,.cons a b,r=>by
  cases r with
  |cons r1 r2=>
   obtain⟨as,h1⟩:=TD.reads I a r1;obtain⟨bs,h2⟩:=TDs.reads I b r2;exact⟨_,.cons h1 h2⟩
end
def toP(s:S):D->Option aa
 |.da d=>some d
 |.con ds=>some (.tuple ds)
 |.frz ds=>some (.list ds)
 |.ref n=>match s[n]? with
  |some (.lst ds)=>(j2 ds).map lA
  |_=>none
 |_=>none
noncomputable def toL(s:S):D->Option (List D)
 |.lst ds=>some (ds.map D.da)
 |.ref n=>match s[n]? with
  |some (.lst ds)=>some ds
  |_=>none
 |_=>none
theorem adm{st:S}{d:D}{ds:List D}(a:Rel K as H st)(r:RD K as H v d)(h:toL st d=some ds): ∃p xs,v=.ref p/\H p=some (.lst xs)/\RDs K as H xs ds:=by
 cases r with
 |da t=>
  cases t with
  |lst n e q=>cases h;exact⟨_,_,rfl,e,q.rd⟩
  |_=>cases h
 | @ref p n l hr=>
  have h:(match st[n]? with|some (O.lst ds)=>some ds|_=>none)=some ds:=h;split at h
  ·rename_i b e;cases h;obtain⟨_,xs,hx,rs⟩:=aaz a hr e;exact⟨p,xs,rfl,hx,rs⟩
  ·cases h
 |_=>cases h
theorem RD.reads{st:S}{d:D}{y:aa}(I:Inv X pins σ H s)(F:Rel X.K as H st)(r:RD X.K as H v d)(h:toP st d=some y)(m:RelV v u): ∃bs,c8 s.heap u y bs:=by
 cases r with
 |da t=>cases h;exact t.reads I m
 |con q rs=>
  cases h;obtain⟨a,b,⟨o,j,x,k,A⟩,z⟩:=I.tuple (q H);obtain⟨bs,c⟩:=rs.reads I b;cases m;exact⟨_,.tuple j x A c⟩
 |frz q rs=>
  cases h;obtain⟨a,b,⟨o,k,j,x,A,C⟩,z⟩:=I.list (q as H (Step.refl _ _).toStep0);obtain⟨bs,c⟩:=rs.reads I b;cases m;exact⟨_,.list j x C c⟩
 | @ref p n l hr=>
  have h:(match st[n]? with|some (O.lst ds)=>(j2 ds).map lA|_=>none)=some y:=h;split at h
  ·rename_i ds e;cases q:j2 ds with
   |none=>rw[q]at h;cases h
   |some xs=>
    rw[q]at h;cases h;have E:=yi q;subst E;obtain⟨_,vs,J,rs⟩:=aaz F hr e;obtain⟨z,a,k,b,j⟩:=(show km X.prog X.w H s.heap p (.lst vs) from I.hok p _ J);obtain⟨bs,c⟩:=rs.td.reads I b;cases m;exact⟨_,.list j rfl rfl c⟩
  ·cases h
 |_=>cases h
end
noncomputable def okD(d:aa):Bool:=d.canLay0&&decide (d.depth <=64)
theorem v0{f:ae->ae->Sem ae}{g:D->D->S->R D}(h: ∀(a:List (Addr×Obj)) (sh:af) (σ:St) (H:Hp) (as:As) (s:S) (x y:V) (dx b:D) (v u:ae) (Q:VK),Inv X a σ H sh->Rel X.K as H s->RD X.K as H x dx->RD X.K as H y b->RelV x v->RelV y u ->
  Dn X.K (rD X.K) as H (g dx b s) Q->wpAny (model X.prog X.w) X.A (f v u) (EP X a σ Q) X.xe sh):Op2 X f g:=
 ⟨λx y H Q=>∃as s dx b,Rel X.K as H s/\RD X.K as H x dx/\RD X.K as H y b/\Dn X.K (rD X.K) as H (g dx b s) Q,
  λa sh σ H x y v u Q I j k ⟨as,s,dx,b,c,d,e,q⟩=>h a sh σ H as s x y dx b v u Q I c d e j k q,
  λas H s x y dx b Q c d e q=>⟨as,s,dx,b,c,d,e,q⟩⟩
def arq(dx c:D)(s:S):R D:=match toP s dx,toP s c with
 |some a,some b=>if okD a=true/\okD b=true then .ok (.bl (aX a b)) s else .bad
 |_,_=>.bad
def aje(dx c:D)(s:S):R D:=match toP s dx,toP s c with
 |some a,some b=>if okD a=true/\okD b=true then .ok (.bl (!PyData.eqv a b)) s else .bad
 |_,_=>.bad
def gEq(dx a:D)(s:S):R D:=match dx,a with
 |.str x,.str y=>.ok (.bl (decide (x=y))) s
 |dx,a=>arq dx a s
def gNe(dx a:D)(s:S):R D:=match dx,a with
 |.str x,.str y=>.ok (.bl (!decide (x=y))) s
 |dx,a=>aje dx a s
theorem aca{d:aa}(h:okD d=true):d.canLay0=true/\d.depth <=64:=by
 unfold okD at h;rw[aJ]at h;exact⟨h.1,of_decide_eq_true h.2⟩
theorem a8l(r:X.A.units+64 < cLine):Op2 X (bb .Eq) arq:=v0 λd sh σ H as s x y dx w v u Q I c j l k n h=>by
 unfold arq at h;split at h
 ·rename_i a b p q;split at h
  ·rename_i hok;obtain⟨m,q1⟩:=j.reads I c p k;obtain⟨o,e⟩:=l.reads I c q n;obtain⟨c1,t⟩:=aca hok.1;obtain⟨c2,z⟩:=aca hok.2;exact SeqAt.compareEq_reads q1 e c1 c2 (by lia) ⟨.bl _,H,I,rfl,Dn.now (Q:=Q) h c (.da (.bl _))⟩
  ·exact h.elim
 ·exact h.elim
theorem a7d(r:X.A.units+64 < cLine):Op2 X (bb .NotEq) aje:=v0 λd sh σ H as s x y dx w v u Q I c j l k n h=>by
 unfold aje at h;split at h
 ·rename_i a b p q;split at h
  ·rename_i hok;obtain⟨m,q1⟩:=j.reads I c p k;obtain⟨o,e⟩:=l.reads I c q n;obtain⟨c1,t⟩:=aca hok.1;obtain⟨c2,z⟩:=aca hok.2;exact SeqAt.compareNe_reads q1 e c1 c2 (by lia) ⟨.bl _,H,I,rfl,Dn.now (Q:=Q) h c (.da (.bl _))⟩
  ·exact h.elim
 ·exact h.elim
theorem aod(x y:Str):decide (V.str x=V.str y)=decide (x=y):=by
 rw[bD,decide_eq_true_eq,decide_eq_true_eq,V.str.injEq]
theorem ae6(h:RD K as H v (.str x)):v=.str x:=by
 cases h with|da t=>cases t;rfl
theorem a4h(k:X.A.units+64 < cLine):Op2 X (bb .Eq) gEq:=v0 λa sh σ H as s x y dx l v u Q I b c e d j h=>by
 unfold gEq at h;split at h
 ·cases ae6 c;cases ae6 e;exact a85 a sh σ H _ _ v u Q I d j ⟨rfl,by rw[aod];exact Dn.now (Q:=Q) h b (.da (.bl _))⟩
 ·obtain⟨r,ho,hr⟩:=(a8l (X:=X) k).ex;exact ho a sh σ H x y v u Q I d j (hr as H s x y _ _ Q b c e h)
theorem a94(k:X.A.units+64 < cLine):Op2 X (bb .NotEq) gNe:=v0 λa sh σ H as s x y dx l v u Q I b c e d j h=>by
 unfold gNe at h;split at h
 ·cases ae6 c;cases ae6 e;exact a7f a sh σ H _ _ v u Q I d j ⟨rfl,by rw[aod];exact Dn.now (Q:=Q) h b (.da (.bl _))⟩
 ·obtain⟨r,ho,hr⟩:=(a7d (X:=X) k).ex;exact ho a sh σ H x y v u Q I d j (hr as H s x y _ _ Q b c e h)
noncomputable def aub:aa->Option (List aa)
 |.list ds=>some ds
 |.tuple ds=>some ds
 |_=>none
noncomputable def nb(n b:Bool):Bool:=match n with
 |true=>!b
 |false=>b
def an8(b:Bool)(dx c:D)(s:S):R D:=match toP s dx,(toP s c).bind aub with
 |some a,some ds=>if okD a=true/\ds.all okD=true then .ok (.bl (nb b (ds.any λd=>aX d a))) s else .bad
 |_,_=>.bad
def ajj(c:Bool)(dx d:D)(s:S):R D:=match dx,d with
 |.str a,.str b=>.ok (.bl (nb c (!(gE b a 0 b.length 1).isEmpty))) s
 |dx,d=>an8 c dx d s
open Classical in
theorem azm{v:ae}{a:aa}{bs:List Addr}(c:c8 sh.heap v a bs)(o:okD a=true)(x:A.units+64 < cLine){cs:List Addr}(h:cD sh.heap us ds cs)(hd:ds.all okD=true):
  ∃e:ae->Bool,(∀y∈us,lS A sh y v (e y))/\us.any e=ds.any λd=>aX d a:=by
 refine⟨λy=>decide (∃d cs,c8 sh.heap y d cs/\aX d a=true),?_⟩;have one: ∀{y:ae} {d:aa} {cs:List Addr},c8 sh.heap y d cs->decide (∃d cs,c8 sh.heap y d cs/\aX d a=true)=aX d a:=λ{y d cs} r=>by
  (rw[bD,decide_eq_true_eq])
  constructor
  ·rintro⟨d',m,k,e⟩;obtain⟨q,_⟩:=PyProof.Rows.reads_det (λ_ _ e _=>e) r k;subst q;exact e
  ·exact λe=>⟨d,cs,r,e⟩
 induction us generalizing ds cs with
 |nil=>
  cases h;exact⟨λ_ z=>(by cases z),rfl⟩
 | cons u us p=>
  cases h with
  | cons r rs=>
   rw[eP,aJ]at hd;obtain⟨l,n⟩:=p rs hd.2;obtain⟨j,w⟩:=aca hd.1;obtain⟨t,C⟩:=aca o;refine⟨λy b=>?_,?_⟩
   ·rcases aL.mp b with z|z
    ·subst z;show lS A sh y v (decide (∃d cs,c8 sh.heap y d cs/\aX d a=true));rw[one r];exact SeqAt.eqAt_reads _ _ A sh _ _ _ _ r c j t (by lia)
    ·exact l y z
   ·rw[dC,dC,n,one r]
theorem abq(A:bh):A.in1.units <=A.units+1:=by
 show(A.in1).units <=A.units+1
 first|exact aj _|(unfold lQ;simp)|simp[lQ]
theorem a42(d:Bool)(p:(d=false/\op=.In)\/(d=true/\op=.NotIn))(O:X.A.units+65 < cLine):Op2 X (bb op) (an8 d):=v0 λt sh σ H as s x y dx N v u Q I j C E D J h=>by
 unfold an8 at h;split at h
 ·rename_i a ds M b;split at h
  ·rename_i hok;obtain⟨F,q1⟩:=C.reads I j M D;cases q:toP s N with
   |none=>rw[q]at b;cases b
   | some L=>
    rw[q]at b;have b:aub L=some ds:=b;obtain⟨K,z⟩:=E.reads I j q J;have w:=abq X.A;cases z with
    | list n o l r=>
     cases b;obtain⟨e,m,k⟩:=azm (A:=X.A.in1) q1 hok.1 (by lia) r hok.2;rcases p with ⟨rfl,rfl⟩|⟨rfl,rfl⟩
     ·refine SeqAt.in_listAt e ⟨_,n,o,_,l⟩ (λy c=>m y (by simpa using c)) ⟨.bl _,H,I,rfl,?_⟩;rw[←gY,k];exact Dn.now (Q:=Q) h j (.da (.bl _))
     ·refine SeqAt.notIn_listAt e ⟨_,n,o,_,l⟩ (λy c=>m y (by simpa using c)) ⟨.bl _,H,I,rfl,?_⟩;rw[←gY,k];exact Dn.now (Q:=Q) h j (.da (.bl _))
    | tuple n o l r=>
     cases b;obtain⟨e,m,k⟩:=azm (A:=X.A.in1) q1 hok.1 (by lia) r hok.2;rcases p with ⟨rfl,rfl⟩|⟨rfl,rfl⟩
     ·refine SeqAt.in_tupleAt e ⟨_,n,o,_,l⟩ (λy c=>m y (by simpa using c)) ⟨.bl _,H,I,rfl,?_⟩;rw[←gY,k];exact Dn.now (Q:=Q) h j (.da (.bl _))
     ·refine SeqAt.notIn_tupleAt e ⟨_,n,o,_,l⟩ (λy c=>m y (by simpa using c)) ⟨.bl _,H,I,rfl,?_⟩;rw[←gY,k];exact Dn.now (Q:=Q) h j (.da (.bl _))
    |_=>cases b
  ·exact h.elim
 ·exact h.elim
theorem akk(d:Bool)(e:(d=false/\op=.In)\/(d=true/\op=.NotIn))(o:X.A.units+65 < cLine):Op2 X (bb op) (ajj d):=v0 λc sh σ H as s x y dx p v u Q I j m n k l h=>by
 unfold ajj at h;split at h
 ·rename_i a b;cases n.str_inv;cases m.str_inv;rcases e with ⟨rfl,rfl⟩|⟨rfl,rfl⟩
  ·exact auh c sh σ H _ _ v u Q I k l ⟨a,b,rfl,rfl,Dn.now (Q:=Q) h j (.da (.bl _))⟩
  ·exact alz c sh σ H _ _ v u Q I k l ⟨a,b,rfl,rfl,Dn.now (Q:=Q) h j (.da (.bl _))⟩
 ·obtain⟨r,ho,hr⟩:=(a42 (X:=X) d e o).ex;exact ho c sh σ H x y v u Q I k l (hr as H s x y _ _ Q j m n h)
abbrev gIn:=ajj false
abbrev abn:=ajj true
theorem a9v(a:X.A.units+65 < cLine):Op2 X (bb .In) gIn:=akk false (.inl ⟨rfl,rfl⟩) a
theorem azv(a:X.A.units+65 < cLine):Op2 X (bb .NotIn) abn:=akk true (.inr ⟨rfl,rfl⟩) a
def jt(m:Bool)(dx c:D)(s:S):R D:=match dx,c with
 |.int i,.int j=>.ok (.int (i+j)) s
 |.bl b,.int j=>.ok (.int (b01 b+j)) s
 |.str a,.str b=>if a.length+b.length <=sizeLine then .ok (.str (a++b)) s else .bad
 |.tup xs,.tup ys=>if xs.length+ys.length <=sizeLine then .ok (.tup (xs++ys)) s else .bad
 |dx,c=>match toL s dx,toL s c with
  |some xs,some ys=>if xs.length+ys.length <=sizeLine then qj m (xs++ys) s else .bad
  |_,_=>.bad
theorem RD.tup_inv(h:RD K as H v (.tup ds)): ∃p xs,v=.ref p/\ ¬as.has p/\H p=some (.tup xs)/\TDs as H xs ds:=by
 cases h with|da t=>cases t with|tup n e r=>exact⟨_,_,rfl,n,e,r⟩
theorem RD.lst_inv(h:RD K as H v (.lst ds)): ∃p xs,v=.ref p/\ ¬as.has p/\H p=some (.lst xs)/\TDs as H xs ds:=by
 cases h with|da t=>cases t with|lst n e r=>exact⟨_,_,rfl,n,e,r⟩
theorem az2(m:Bool):Op2 X (binaryOp .Add) (jt m):=v0 λc sh σ H as s x y dx L v u Q I d o w t A h=>by
 unfold jt at h;split at h
 ·rename_i i j;cases o.int_inv;cases w.int_inv;exact auf c sh σ H _ _ v u Q I t A ⟨i,j,rfl,rfl,Dn.now (Q:=Q) h d (.da (.int _))⟩
 ·rename_i b j;cases o.bl_inv;cases w.int_inv;exact a27 c sh σ H _ _ v u Q I t A ⟨b01 b,j,rfl,rfl,Dn.now (Q:=Q) h d (.da (.int _))⟩
 ·rename_i a b;split at h
  ·rename_i hz;cases o.str_inv;cases w.str_inv;exact aqs c sh σ H _ _ v u Q I t A ⟨a,b,rfl,rfl,hz,Dn.now (Q:=Q) h d (.da (.str _))⟩
  ·exact h.elim
 ·rename_i xs F;split at h
  ·rename_i hz;obtain⟨p,vs,rfl,n1,D,k⟩:=o.tup_inv;obtain⟨q,E,rfl,n2,C,l⟩:=w.tup_inv;refine avv c sh σ H _ _ v u Q I t A ⟨p,q,vs,E,rfl,rfl,SqT.of D,SqT.of C,by rw[k.length,l.length];exact hz,λe=>?_,λ_ e=>?_,λ_ _ r H' n=>?_⟩
   ·subst e;cases k;exact Dn.now (Q:=Q) h d (.da (.tup n2 C l))
   ·subst e;cases l;rw[aK]at h;exact Dn.now (Q:=Q) h d (.da (.tup n1 D k))
   ·exact h (.ref r) as H' (kt n) (d.new n) (.da (.tup (λz=>d.has z n.no) n.at ((k.append l).mono (kt n))))
  ·exact h.elim
 ·split at h
  ·rename_i xs F D C;split at h
   ·rename_i hz;obtain⟨p,vs,rfl,K,k⟩:=adm d o D;obtain⟨q,E,rfl,J,l⟩:=adm d w C;exact a1q c sh σ H _ _ v u Q I t A ⟨p,q,vs,E,rfl,rfl,K,J,by rw[k.length,l.length];exact hz,λr H' n=>aal h d (k.append l) n⟩
   ·exact h.elim
  ·exact h.elim
def ah8(dx a:D)(s:S):R D:=match dx,a with
 |.int i,.int j=>.ok (.int (i - j)) s
 |.bl b,.int j=>.ok (.int (b01 b - j)) s
 |.int i,.bl b=>.ok (.int (i - b01 b)) s
 |_,_=>.bad
theorem a7x:Op2 X (binaryOp .Sub) ah8:=v0 λa sh σ H as s x y dx m v u Q I c d k e l h=>by
 unfold ah8 at h;split at h
 ·rename_i i j;cases d.int_inv;cases k.int_inv;exact ala a sh σ H _ _ v u Q I e l ⟨i,j,rfl,rfl,Dn.now (Q:=Q) h c (.da (.int _))⟩
 ·rename_i b j;cases d.bl_inv;cases k.int_inv;exact a2r a sh σ H _ _ v u Q I e l ⟨b01 b,j,rfl,rfl,Dn.now (Q:=Q) h c (.da (.int _))⟩
 ·rename_i i b;cases d.int_inv;cases k.bl_inv;exact a2k a sh σ H _ _ v u Q I e l ⟨i,b01 b,rfl,rfl,Dn.now (Q:=Q) h c (.da (.int _))⟩
 ·exact h.elim
instance (i j:Int):Decidable (aja i j):=by unfold aja;infer_instance
instance (i j:Int):Decidable (ar5 i j):=by unfold ar5;infer_instance
instance (i j:Int):Decidable (arw i j):=by unfold arw;infer_instance
noncomputable def gI2(C:Int->Int->Prop)[∀i j,Decidable (C i j)](f:Int->Int->Int)(dx a:D)(s:S):R D:=match dx,a with
 |.int i,.int j=>if C i j then .ok (.int (f i j)) s else .bad
 |_,_=>.bad
theorem ako{op:Operator}{C:Int->Int->Prop}[∀i j,Decidable (C i j)]{f:Int->Int->Int}(o:OpR X (binaryOp op) (rI C λi j=>.int (f i j))):Op2 X (binaryOp op) (gI2 C f):=v0 λa sh σ H as s x y dx m v u Q I b c e d k h=>by
 unfold gI2 at h;split at h
 ·rename_i i j;split at h
  ·rename_i l;cases c.int_inv;cases e.int_inv;exact o a sh σ H _ _ v u Q I d k ⟨i,j,rfl,rfl,l,Dn.now (Q:=Q) h b (.da (.int _))⟩
  ·exact h.elim
 ·exact h.elim
def zv:D->D->S->R D:=gI2 aja λi j=>i*j
def aix:D->D->S->R D:=gI2 ar5 λi j=>i/j
def aab:D->D->S->R D:=gI2 (λ_ j=>0 < j) λi j=>i % j
def an1:D->D->S->R D:=gI2 arw λi j=>i^j.toNat
theorem a7m:Op2 X (binaryOp .Mult) zv:=ako a4j
theorem a7t:Op2 X (binaryOp .FloorDiv) aix:=ako azt
theorem a77:Op2 X (binaryOp .Mod) aab:=ako a3n
theorem a87:Op2 X (binaryOp .Pow) an1:=ako a5y
noncomputable def gC2(f:Int->Int->Bool)(dx a:D)(s:S):R D:=match dx,a with
 |.int i,.int j=>.ok (.bl (f i j)) s
 |_,_=>.bad
theorem ayv{f:Int->Int->Bool}(o:OpR X (bb op) (rI0 λi j=>.bl (f i j))):Op2 X (bb op) (gC2 f):=v0 λa sh σ H as s x y dx l v u Q I b c e d k h=>by
 unfold gC2 at h;split at h
 ·rename_i i j;cases c.int_inv;cases e.int_inv;exact o a sh σ H _ _ v u Q I d k ⟨i,j,rfl,rfl,Dn.now (Q:=Q) h b (.da (.bl _))⟩
 ·exact h.elim
def gGt:D->D->S->R D:=gC2 λi j=>decide (j < i)
def gGe:D->D->S->R D:=gC2 λi j=>decide (j <=i)
noncomputable def gLt(dx c:D)(s:S):R D:=match dx,c with
 |.int i,.int j=>.ok (.bl (decide (i < j))) s
 |.str a,.str b=>.ok (.bl (decide (a.cps.toList < b.cps.toList))) s
 |_,_=>.bad
theorem a3f:Op2 X (bb .Gt) gGt:=ayv a7z
theorem a8z:Op2 X (bb .GtE) gGe:=ayv a7r
theorem a95:Op2 X (bb .Lt) gLt:=v0 λc sh σ H as s x y dx n v u Q I d e l k m h=>by
 unfold gLt at h;split at h
 ·rename_i i j;cases e.int_inv;cases l.int_inv;exact a7a c sh σ H _ _ v u Q I k m ⟨i,j,rfl,rfl,Dn.now (Q:=Q) h d (.da (.bl _))⟩
 ·rename_i a b;cases e.str_inv;cases l.str_inv;exact at7 c sh σ H _ _ v u Q I k m ⟨a,b,rfl,rfl,Dn.now (Q:=Q) h d (.da (.bl _))⟩
 ·exact h.elim
noncomputable def isN:D->Bool
 |.non=>true
 |_=>false
theorem azj{d:D}(r:RD K as H v d):decide (v=.non)=isN d:=by
 cases r with
 |da t=>cases t <;> rfl
 |_=>rfl
def gIs(dx a:D)(s:S):R D:=match a with
 |.non=>.ok (.bl (isN dx)) s
 |_=>.bad
def acw(dx a:D)(s:S):R D:=match a with
 |.non=>.ok (.bl (!isN dx)) s
 |_=>.bad
theorem RD.non_inv(h:RD K as H v .non):v=.non:=by
 cases h with|da t=>cases t;rfl
theorem a9f:Op2 X (bb .Is) gIs:=v0 λa sh σ H as s x y dx k v u Q I b c e d j h=>by
 unfold gIs at h;split at h
 ·cases e.non_inv;refine a69 a sh σ H _ _ v u Q I d j ⟨rfl,?_⟩;rw[azj c];exact Dn.now (Q:=Q) h b (.da (.bl _))
 ·exact h.elim
theorem a0z:Op2 X (bb .IsNot) acw:=v0 λa sh σ H as s x y dx k v u Q I b c e d j h=>by
 unfold acw at h;split at h
 ·cases e.non_inv;refine a17 a sh σ H _ _ v u Q I d j ⟨rfl,?_⟩;rw[azj c];exact Dn.now (Q:=Q) h b (.da (.bl _))
 ·exact h.elim
def anr(f:FE):FE:=λρ s=>(f ρ s).bind λd a=>match d with
 |.int i=>.ok (.int (-i)) a
 |_=>.bad
theorem bbj{a:Expr}{e:FE}(h:RE X a e):RE X (.UnaryOp .USub a pos) (anr e):=by
 obtain⟨t,p,r⟩:=h.ex;refine⟨_,a70 a6i p,λas σ H ρ s Q k m h=>?_⟩;refine r as σ H ρ s _ k m (Dn.bind h λd o j n v st1 c l b=>?_);split at b
 ·cases l.int_inv;exact⟨_,rfl,Dn.now (Q:=Q) b c (.da (.int _))⟩
 ·exact b.elim
end PF
namespace PF
open PySem PySem.Spec
open L2
variable[XW]
noncomputable def ae7(s:S):D->Option (List D)
 |.lst ds=>some (ds.map D.da)
 |.tup ds=>some (ds.map D.da)
 |.con ds=>some (ds.map D.da)
 |.frz ds=>some (ds.map D.da)
 |.ref n=>match s[n]? with
  |some (.lst ds)=>some ds
  |_=>none
 |_=>none
theorem ads{d:D}{ds:List D}(a:Rel K as H s)(r:RD K as H v d)(h:ae7 s d=some ds): ∃p xs,v=.ref p/\(SqL K H p xs\/SqT K H p xs)/\RDs K as H xs ds:=by
 cases r with
 |da t=>
  cases t with
  |lst n e q=>cases h;exact⟨_,_,rfl,.inl (SqL.of e),q.rd⟩
  |tup n e q=>cases h;exact⟨_,_,rfl,.inr (SqT.of e),q.rd⟩
  |_=>cases h
 |con q r=>cases h;exact⟨_,_,rfl,.inr (q H),r.rd⟩
 |frz q r=>cases h;exact⟨_,_,rfl,.inl (q as H (Step.refl _ _).toStep0),r.rd⟩
 | @ref p n l hr=>
  have h:(match s[n]? with|some (O.lst ds)=>some ds|_=>none)=some ds:=h;split at h
  ·rename_i b e;cases h;obtain⟨_,xs,hx,rs⟩:=aaz a hr e;exact⟨p,xs,rfl,.inl (SqL.of hx),rs⟩
  ·cases h
 |_=>cases h
theorem RDs.atI{xs:List V}{ds:List D}{i:Int}{d:D}(r:RDs K as H xs ds)(h:atI ds i=some d): ∃v,atI xs i=some v/\RD K as H v d:=by
 unfold L2.atI at h⊢;rw[r.length];cases q:ixN ds.length i with
 |none=>rw[q]at h;cases h
 |some j=>
  rw[q]at h;obtain⟨v,b,a⟩:=r.get (show ds[j]?=some d from h);exact⟨v,b,a⟩
def gIx(dx a:D)(s:S):R D:=match dx,a with
 | .str z,.int i=>if z.length <=sizeLine then match atI z.cps.toList i with
   |some c=>.ok (.str ⟨#[c]⟩) s
   |none=>.bad
  else .bad
 | dx,.int i=>match ae7 s dx with
  |some ds=>match atI ds i with
   |some d=>.ok d s
   |none=>.bad
  |none=>.bad
 |_,_=>.bad
theorem amg:aqv K (rIx K) gIx:=by
 intro as H s x y dx n Q a j k h;unfold gIx at h;split at h
 ·rename_i z i;cases j.str_inv;cases k.int_inv;split at h
  ·rename_i hz;split at h
   ·rename_i c e;exact .inr (.inr ⟨z,i,c,rfl,rfl,hz,e,Dn.now (Q:=Q) h a (.da (.str _))⟩)
   ·exact h.elim
  ·exact h.elim
 ·rename_i i _;cases k.int_inv;split at h
  ·rename_i ds e;split at h
   ·rename_i d m;obtain⟨p,xs,rfl,sq,rs⟩:=ads a j e;obtain⟨v,l,b⟩:=rs.atI m;rcases sq with sq|sq
    ·exact .inl ⟨p,xs,i,v,rfl,rfl,sq,l,Dn.now (Q:=Q) h a b⟩
    ·exact .inr (.inl ⟨p,xs,i,v,rfl,rfl,sq,l,Dn.now (Q:=Q) h a b⟩)
   ·exact h.elim
  ·exact h.elim
 ·exact h.elim
theorem aga{a b:Expr}{d c:FE}(e:RE X a d)(k:RE X b c)(hs:ajb b:=by exact λ_ _=>rfl):RE X (.Subscript a b pos) (fOp gIx d c):=by
 obtain⟨n,h,j⟩:=e.ex;obtain⟨tb,l,m⟩:=k.ex;exact⟨_,az5 auz h l hs,afs amg j m⟩
def qh{α:Type}(xs:List α)(lo a:Option Int):List α:=(xs.drop (HT.sIx xs.length 0 lo)).take (HT.sIx xs.length xs.length a - HT.sIx xs.length 0 lo)
theorem RDs.cut{xs:List V}{ds:List D}(r:RDs K as H xs ds)(lo a:Option Int):RDs K as H (aaa xs lo a) (qh ds lo a):=by
 unfold aaa qh;rw[r.length];exact(r.drop _).take _
theorem TDs.cut{xs:List V}(r:TDs as H xs ds)(lo a:Option Int):TDs as H (aaa xs lo a) (qh ds lo a):=by
 unfold aaa qh;rw[r.length];exact(r.drop _).take _
noncomputable def ayg(z:Str)(lo a:Option Int):Str:=if ((fI lo a 1 z.length).length==z.length)=true then z else ⟨((fI lo a 1 z.length).filterMap (z.cps[·]?)).toArray⟩
def a99:V->Option Int->Option Int->Hp->VK->Prop:=λx lo hi H Q=>∃z,x=.str z/\z.length <=sizeLine/\Q (.str (ayg z lo hi)) H
theorem a1k:SlR X a99:=by
 intro e s σ H x v A y lo m j Q I p hs pl n h;obtain⟨z,rfl,hz,q⟩:=h;obtain⟨t,rfl⟩:=p;obtain⟨l,rfl,k⟩:=part_of pl;obtain⟨u,rfl,r⟩:=part_of n;refine⟨"str",_,PySem.F.slot_str_getitem.lookup,rfl,?_⟩;have b:s.heap.IsSlice j l u none:=by
  obtain⟨o,ho,w,hd⟩:=hs;exact⟨o,ho,w,hd⟩
 refine wpAny_getItem_str_slice b rfl ?_;have ep:gS z l u none=fI lo m 1 z.length:=by
  unfold gS;rw[k,r];rfl
 have a:(gS z l u none).length <=z.length:=sliceIndices_le _ _ _;have d:((gS z l u none).filterMap (z.cps[·]?)).length <=z.length:=aN (List.length_filterMap_le _ _) a;unfold ayg at q;rw[←ep]at q;unfold sliceMade;split
 ·rename_i c;rw[if_pos (by simpa using c)]at q;exact⟨.str z,H,I,⟨t,rfl⟩,q⟩
 ·rename_i c;rw[if_neg (by simpa using c)]at q;have len:(⟨((gS z l u none).filterMap (z.cps[·]?)).toArray⟩:Str).length <=z.length:=by
   show(((gS z l u none).filterMap (z.cps[·]?)).toArray).size <=z.length;rw[ax];exact d
  exact⟨aN len hz,.str _,H,I.tok _,⟨_,rfl⟩,q⟩
def gSl(m:Bool)(d:D)(lo a:Option Int)(s:S):R D:=match d with
 |.str z=>if z.length <=sizeLine then .ok (.str (ayg z lo a)) s else .bad
 |.tup ds=>.ok (.tup (qh ds lo a)) s
 |.frz ds=>qj m (qh (ds.map D.da) lo a) s
 |d=>match toL s d with
  |some ds=>qj m (qh ds lo a) s
  |none=>.bad
abbrev FO:=En->S->R (Option Int)
noncomputable def fNo:FO:=λ_ s=>.ok none s
def kj(f:FE):FO:=λρ s=>(f ρ s).bind λd a=>match d with
 |.int i=>.ok (some i) a
 |_=>.bad
def a8v(K:ak)(t:TO)(f:FO):Prop:= ∀as σ H ρ s Q,Rel K as H s->Envs K as H ρ σ->Dn K (λ_ _ (b a:Option Int)=>b=a) as H (f ρ s) Q->t σ H Q
structure ROp (X:Cx) (e:Option Expr) (f:FO):Prop where
 ex: ∃t,PO X e t/\a8v X.K t f
theorem ban:ROp X none fNo:=⟨_,a18,λas σ H ρ s Q a b h=>Dn.now (Q:=Q) h a rfl⟩
theorem ba5{a:Expr}{e:FE}(h:RE X a e):ROp X (some a) (kj e):=by
 obtain⟨t,p,r⟩:=h.ex;refine⟨_,a26 p,λas σ H ρ s Q k m h=>?_⟩;refine r as σ H ρ s _ k m (Dn.bind h λd o j n v st1 c l b=>?_);split at b
 ·cases l.int_inv;exact⟨_,rfl,Dn.now (Q:=Q) b c rfl⟩
 ·exact b.elim
def fSl(m:Bool)(f:FE)(lo c:FO):FE:=λρ s=>(f ρ s).bind λd e=>(lo ρ e).bind λl b=>(c ρ b).bind λu a=>gSl m d l u a
theorem a9h(m:Bool){a:Expr}{lo M:Option Expr}{N:FE}{fl P:FO}{p2:Pos}(W:RE X a N)(hl:ROp X lo fl)(Z:ROp X M P):RE X (.Subscript a (.Slice lo M none p2) pos) (fSl m N fl P):=by
 obtain⟨ta,S,ra⟩:=W.ex;obtain⟨tl,pl,J⟩:=hl.ex;obtain⟨tu,pu,U⟩:=Z.ex;refine⟨_,ay8 (a1k.or (a1h.or axp)) S pl pu,λas σ H ρ s Q V K h=>?_⟩;refine ra as σ H ρ s _ V K (Dn.bind h λd s1 I H1 v st1 C o h1=>?_);refine J I σ H1 ρ s1 _ C (K.mono st1) (Dn.bind h1 λl s2 D H2 w st2 E A Y=>?_);have A:w=l:=A;subst A;refine U D σ H2 ρ s2 _ E ((K.mono st1).mono st2) (Dn.bind Y λu s3 x H3 y F b L j=>?_);have L:y=u:=L;subst L;have o:=(o.mono st2).mono F;unfold gSl at j;split at j
 ·cases o.str_inv;split at j
  ·rename_i hz;exact .inl ⟨_,rfl,hz,Dn.now (Q:=Q) j b (.da (.str _))⟩
  ·exact j.elim
 ·obtain⟨p,xs,rfl,n,e,t⟩:=o.tup_inv;refine .inr (.inl ⟨p,xs,rfl,SqT.of e,λc=>?_,λq H' k=>?_⟩)
  ·have O:=t.cut w y;rw[c]at O;exact Dn.now (Q:=Q) j b (.da (.tup n e O))
  ·exact j (.ref q) x H' (kt k) (b.new k) (.da (.tup (λz=>b.has z k.no) k.at ((t.cut w y).mono (kt k))))
 ·cases o with
  |frz q t=>exact .inr (.inr ⟨_,_,rfl,q x H3 (Step.refl _ _).toStep0,λr H' k=>aal j b (t.rd.cut w y) k⟩)
 ·split at j
  ·rename_i ds e;obtain⟨p,xs,rfl,hx,rs⟩:=adm b o e;exact .inr (.inr ⟨p,xs,rfl,SqL.of hx,λr H' k=>aal j b (rs.cut w y) k⟩)
  ·exact j.elim
def axu(b fs:FE):FE:=λρ s=>(b ρ s).bind λd c=>(fs ρ c).bind λk a=>match d,k with
 |.tup ds,.int (-1)=>.ok (.tup ds.reverse) a
 |_,_=>.bad
theorem bbi{a st:Expr}{r fs:FE}{F:Pos}(C:RE X a r)(hs:RE X st fs):RE X (.Subscript a (.Slice none none (some st) F) pos) (axu r fs):=by
 obtain⟨N,x,I⟩:=C.ex;obtain⟨tb,L,E⟩:=hs.ex;refine⟨_,a5l x L,λas σ H ρ s Q y u h=>?_⟩;refine I as σ H ρ s _ y u (Dn.bind h λd M o J v st1 l A K=>?_);refine E o σ J ρ M _ l (u.mono st1) (Dn.bind K λk O m P w st2 b D j=>?_);split at j
 ·obtain⟨p,xs,rfl,n,e,t⟩:=(A.mono st2).tup_inv;cases D.int_inv;refine⟨p,xs,rfl,rfl,SqT.of e,λq H' c=>?_⟩;exact j (.ref q) m H' (kt c) (b.new c) (.da (.tup (λz=>b.has z c.no) c.at (t.reverse.mono (kt c))))
 ·exact j.elim
def af1(d:D)(s:S):R Bool:=match d with
 |.non=>.ok false s
 |.bl b=>.ok b s
 |.int i=>.ok (i !=0) s
 |.str z=>if z.length <=sizeLine then .ok ((z.length:Int) !=0) s else .bad
 |d=>match ae7 s d with
  |some ds=>.ok (!ds.isEmpty) s
  |none=>.bad
def arp(f:FE):FT:=λρ s=>(f ρ s).bind af1
theorem RDs.empty{xs:List V}{ds:List D}(r:RDs K as H xs ds):xs.isEmpty=ds.isEmpty:=by cases r <;> rfl
theorem a52{a:Expr}{l:FE}(h:RE X a l)(q: ∀j,isTrue a X.env j=(do let v←j;standAt a.pos;holding [v] (truthy v)):=by exact λ_=>rfl):RT X a (arp l):=by
 obtain⟨t,p,r⟩:=h.ex;refine⟨_,ayf p q,λas σ H ρ s Q n o h=>?_⟩;refine r as σ H ρ s _ n o (Dn.bind h λd u m w v st1 b k c=>?_);unfold af1 at c;split at c
 ·cases k.non_inv;exact⟨false,rfl,Dn.now (Q:=Q) c b rfl⟩
 ·cases k.bl_inv;exact⟨_,rfl,Dn.now (Q:=Q) c b rfl⟩
 ·cases k.int_inv;exact⟨_,rfl,Dn.now (Q:=Q) c b rfl⟩
 ·cases k.str_inv;split at c
  ·rename_i hz;exact⟨_,⟨hz,rfl⟩,Dn.now (Q:=Q) c b rfl⟩
  ·exact c.elim
 ·split at c
  ·rename_i ds e;obtain⟨p,xs,rfl,sq,rs⟩:=ads b k e;refine⟨!xs.isEmpty,?_,?_⟩
   ·rcases sq with sq|sq
    ·exact .inl ⟨xs,sq,rfl⟩
    ·exact .inr (.inl ⟨xs,sq,rfl⟩)
   ·rw[rs.empty];exact Dn.now (Q:=Q) c b rfl
  ·exact c.elim
structure CB (X:Cx) (f:ae) (g:FF):Prop where
 ex: ∃r,yn X f r/\ ∀as H s xs ds Q,Rel X.K as H s->RDs X.K as H xs ds->Dn X.K (rD X.K) as H (g ds s) Q->r xs H Q
theorem ac4{f:ae}{g:FF}(h: ∀(a:List (Addr×Obj)) (sh:af) (σ:St) (H:Hp) (as:As) (s:S) (xs:List V) (ds:List D) (b:List ae) (Q:VK),Inv X a σ H sh->Rel X.K as H s->RDs X.K as H xs ds->jl xs b ->
  Dn X.K (rD X.K) as H (g ds s) Q->wpAny (model X.prog X.w) X.A (call f b) (EP X a σ Q) X.xe sh):CB X f g:=
 ⟨λxs H Q=>∃as s ds,Rel X.K as H s/\RDs X.K as H xs ds/\Dn X.K (rD X.K) as H (g ds s) Q,λa sh σ H xs b Q I r ⟨as,s,ds,c,rs,q⟩=>h a sh σ H as s xs ds b Q I c rs r q,λas H s xs ds Q c rs q=>⟨as,s,ds,c,rs,q⟩⟩
def fCB(g:FF)(f:FA):FE:=λρ s=>(f ρ s).bind g
section
variable{x:Str}{id:String}{g:FF}{f:FA}{e:Expr}{es:List Expr}{p pos:Pos}
theorem auq{r:List V->Hp->VK->Prop}{t:TA}(hr: ∀as H s xs ds Q,Rel K as H s->RDs K as H xs ds->Dn K (rD K) as H (g ds s) Q->r xs H Q)(h:ar2 K t f):aax K (tCB r t) (fCB g f):=by
 intro as σ H ρ s Q d j q;exact h as σ H ρ s _ d j (Dn.bind q λds l a c vs st1 b e k=>hr a c l vs ds Q b e k)
theorem aht(c:CB X (.builtin id) g)(hm:X.mg x=none)(j:bK x=some (.builtin id))(h:RA X (e::es) f)(m:Gl X x:=by rfl)(hn:x≠"__name__":=by decide)(b:(x==("__debug__":Str))=false:=by decide)
  (hs:starEach (e::es) X.env=(false,eval e X.env)::starEach es X.env:=by rfl) (a:(backTo pos (starEach es X.env)).any (·.1)=false:=by rfl):RE X (.Call (.Name x p) (e::es) [] pos) (fCB g f):=by
 obtain⟨r,d,hr⟩:=c.ex;obtain⟨t,k,l⟩:=h.ex;exact⟨_,avz d m hm j k hn b hs a,auq hr l⟩
theorem abz(c:CB X (.type id) g)(hm:X.mg x=none)(j:bK x=some (.type id))(h:RA X (e::es) f)(m:Gl X x:=by rfl)(hn:x≠"__name__":=by decide)(b:(x==("__debug__":Str))=false:=by decide)
  (hs:starEach (e::es) X.env=(false,eval e X.env)::starEach es X.env:=by rfl) (a:(backTo pos (starEach es X.env)).any (·.1)=false:=by rfl):RE X (.Call (.Name x p) (e::es) [] pos) (fCB g f):=by
 obtain⟨r,d,hr⟩:=c.ex;obtain⟨t,k,l⟩:=h.ex;exact⟨_,auw d m hm j k hn b hs a,auq hr l⟩
end
def xp(ds:List D)(s:S):R D:=match ds with
 |[.str z]=>if z.length <=sizeLine then .ok (.int z.length) s else .bad
 |[d]=>match ae7 s d with
  |some xs=>.ok (.int xs.length) s
  |none=>.bad
 |_=>.bad
theorem azf:CB X (.builtin "len") xp:=ac4 λa sh σ H as s xs ds j Q I b rs d h=>by
 unfold xp at h;split at h
 ·obtain⟨v,rfl,c⟩:=rs.one;cases c.str_inv;split at h
  ·rename_i hz;exact amp a sh σ H _ j Q I d ⟨_,rfl,hz,Dn.now (Q:=Q) h b (.da (.int _))⟩
  ·exact h.elim
 ·obtain⟨v,rfl,c⟩:=rs.one;split at h
  ·rename_i m e;obtain⟨p,k,rfl,sq,l⟩:=ads b c e;refine ali a sh σ H _ j Q I d ⟨p,k,rfl,sq,?_⟩;rw[l.length];exact Dn.now (Q:=Q) h b (.da (.int _))
  ·exact h.elim
 ·exact h.elim
noncomputable def aq3(ds:List D)(s:S):R D:=match ds with
 |[.int i,.int j]=>.ok (.int (if j < i then j else i)) s
 |_=>.bad
theorem a8i(j:X.calm=true):CB X (.builtin "min") aq3:=ac4 λa sh σ H as s xs ds e Q I d rs c h=>by
 unfold aq3 at h;split at h
 ·obtain⟨v,w,rfl,b,rw⟩:=rs.two;cases b.int_inv;cases rw.int_inv;exact av3 j a sh σ H _ e Q I c ⟨_,_,rfl,Dn.now (Q:=Q) h d (.da (.int _))⟩
 ·exact h.elim
def ac3(m:Bool)(ds:List D)(s:S):R D:=match ds with
 |[d]=>match ae7 s d with
  |some xs=>qj m xs s
  |none=>.bad
 |_=>.bad
theorem am2(m:Bool):CB X (.type "list") (ac3 m):=ac4 λa sh σ H as s xs ds n Q I b rs k h=>by
 unfold ac3 at h;split at h
 ·obtain⟨v,rfl,d⟩:=rs.one;split at h
  ·rename_i o e;obtain⟨p,c,rfl,sq,l⟩:=ads b d e;exact ar8 a sh σ H _ n Q I k ⟨p,c,rfl,sq,λr H' j=>aal h b l j⟩
  ·exact h.elim
 ·exact h.elim
def k8(ds:List D)(s:S):R D:=match ds with
 |[.tup xs]=>.ok (.tup xs) s
 |[.frz xs]=>.ok (.tup xs) s
 |[d]=>match toL s d with
  |some xs=>ahl xs s
  |none=>.bad
 |_=>.bad
theorem aiz:CB X (.type "tuple") k8:=ac4 λa sh σ H as s xs ds l Q I d rs k h=>by
 unfold k8 at h;split at h
 ·obtain⟨v,rfl,c⟩:=rs.one;obtain⟨p,j,rfl,n,e,t⟩:=c.tup_inv;exact ade a sh σ H _ l Q I k ⟨p,j,rfl,.inr ⟨SqT.of e,Dn.now (Q:=Q) h d (.da (.tup n e t))⟩⟩
 ·obtain⟨v,rfl,c⟩:=rs.one;cases c with
  |frz q t=>exact ade a sh σ H _ l Q I k ⟨_,_,rfl,.inl ⟨q as H (Step.refl _ _).toStep0,λr H' b=>h (.ref r) as H' (kt b) (d.new b) (.da (.tup (λz=>d.has z b.no) b.at (t.mono (kt b))))⟩⟩
 ·obtain⟨v,rfl,c⟩:=rs.one;split at h
  ·rename_i o e;obtain⟨p,j,rfl,hx,m⟩:=adm d c e;exact ade a sh σ H _ l Q I k ⟨p,j,rfl,.inl ⟨SqL.of hx,λr H' b=>aon h d m b⟩⟩
  ·exact h.elim
 ·exact h.elim
noncomputable def okS(d:aa):Bool:=d.canLay0&&d.showable&&decide (d.depth <=64)&&decide (d.shown.length <=sizeLine)
def xc(ds:List D)(s:S):R D:=match ds with
 |[d]=>match toP s d with
  |some a=>if okS a=true then .ok (.str a.shown) s else .bad
  |none=>.bad
 |_=>.bad
theorem a3m{k:Nat}(hr:Room k X.A):CB X (.builtin "repr") xc:=ac4 λr sh σ H as s xs ds F Q I w rs y h=>by
 unfold xc at h;split at h
 ·obtain⟨v,rfl,D⟩:=rs.one;obtain⟨u,rfl,n⟩:=vals1 y;split at h
  ·rename_i a e;split at h
   ·rename_i ok;unfold okS at ok
    (simp only[aJ,decide_eq_true_eq]at ok)
    obtain⟨⟨⟨j,c⟩,E⟩,d⟩:=ok;have C:=hr.un;obtain⟨bs,q⟩:=D.reads I w e n;have fin:Q (.str a.shown) H:=Dn.now (Q:=Q) h w (.da (.str _));have nd:=kH a j;cases q with
    |none=>exact PySem.P.repr_of_none ⟨.str "None",H,I.tok _,⟨_,rfl⟩,fin⟩
    |bool b=>exact PySem.P.repr_of_bool ⟨.str (if b then "True" else "False"),H,I.tok _,⟨_,rfl⟩,fin⟩
    |int i t=>exact PySem.P.repr_of_int (by simpa[im] using c) ⟨.str (toString i),H,I.tok _,⟨_,rfl⟩,fin⟩
    |str x t=>exact PySem.P.repr_of_str ⟨.str (reprText x),H,I.tok _,⟨_,rfl⟩,fin⟩ (by simpa[io] using d)
    |tuple p o l m=>exact repr_of_reads' (.tuple p o l m) c (λz=>by rw[nd]at z;cases z) hr.gd (by lia) (λ_ _ e=>e) (λh' u tk hk=>⟨.str _,H,I.kept hk,⟨u,rfl⟩,fin⟩) d
    |list p o l m=>exact repr_of_reads' (.list p o l m) c (λz=>by rw[nd]at z;cases z) hr.gd (by lia) (λ_ _ e=>e) (λh' u tk hk=>⟨.str _,H,I.kept hk,⟨u,rfl⟩,fin⟩) d
    |dict=>cases j
   ·exact h.elim
  ·exact h.elim
 ·exact h.elim
end PF
namespace PF
open PySem PySem.Spec
open L2
variable[XW]
abbrev GM:=D->List D->S->R D
def fMt(g:GM)(b:FE)(e:FA):FE:=λρ s=>(b ρ s).bind λd a=>if (toL a d).isSome=true then (e ρ a).bind λds c=>g d ds c else .bad
structure MB (X:Cx) (id:String) (g:GM):Prop where
 ex: ∃r,MtR X id r/\ ∀as H s x xs d ds Q,Rel X.K as H s->RD X.K as H x d->RDs X.K as H xs ds->Dn X.K (rD X.K) as H (g d ds s) Q->r x xs H Q
theorem a0t{d:D}(a:Rel K as H s)(r:RD K as H v d)(h:(toL s d).isSome=true):tyV K "list" v H:=by
 cases e:toL s d with
 |none=>rw[e]at h;cases h
 |some ds=>
  obtain⟨p,xs,rfl,hx,_⟩:=adm a r e;exact .inl ⟨rfl,xs,SqL.of hx⟩
theorem akn{name:Str}{id:String}{g:GM}{c a:Pos}(slot:Slot "list" name id)(n:typeOf (.builtin id)=pure (.type "method_descriptor"))(hm:MB X id g)(ho:RE X o fo)(C:RA X (e::es) fa)(k:fR o name X.env (eval o X.env)=eval o X.env:=by rfl)(l:((backTo a (starEach (e::es) X.env)).all (λx=>!x.1)&&(backToKw a (iN [] X.env)).all (λx=>x.1.isSome)
   &&decide ((e::es).length+([]:List lG).length+(if ([]:List lG).isEmpty then 0 else 1) < 30))=true:=by rfl) (j:(c.endLine==a.line)=true:=by rfl) (hs:starEach (e::es) X.env=(false,eval e X.env)::starEach es X.env:=by rfl) (b:(backTo a (starEach es X.env)).any (·.1)=false:=by rfl):
  RE X (.Call (.Attribute o name c) (e::es) [] a) (fMt g fo fa):=by
 obtain⟨r,hr,J⟩:=hm.ex;obtain⟨to,po,O⟩:=ho.ex;obtain⟨S,z,L⟩:=C.ex;refine⟨_,a8j PySem.F.plainAttrs_list slot n hr po z k l j hs b,λas σ H ρ s Q A y h=>?_⟩;refine O as σ H ρ s _ A y (Dn.bind h λd P t M v st1 m w u=>?_);split at u
 ·rename_i N;refine⟨a0t m w N,L t σ M ρ P _ m (y.mono st1) (Dn.bind u λds I p K vs st2 q E D=>?_)⟩;exact J p K I v vs d ds Q q (w.mono st2) E D
 ·exact u.elim
theorem af2{o:HO}{d:D}{a:List V}{es:List D}{Q:VK}(e:Rel K as H s)(b:as.ix[n]?=some (some p))(c:Chg H p (.lst a) H')(rs:RDs K as H a es)(j:RD K as H v d)(h:Dn K (rD K) as H (.ok d (s.set n (.lst es))) Q):Q v H':=by
 have st:=yf (j4.mpr ⟨n,b⟩) (λz=>e.hx p z (j4.mpr ⟨n,b⟩)) c;exact h v as H' st (e.chg b c ⟨a,c.at,rs.mono st⟩) (j.mono st)
noncomputable def onL(d:D)(s:S)(k:Nat->List D->R D):R D:=match d with
 |.ref n=>match s[n]? with
  |some (.lst ds)=>k n ds
  |_=>.bad
 |_=>.bad
theorem ag3{d:D}{k:Nat->List D->R D}{Q:VK}(a:Rel K as H s)(r:RD K as H v d)(h:Dn K (rD K) as H (onL d s k) Q): ∃p n xs ds,v=.ref p/\as.ix[n]?=some (some p)/\H p=some (.lst xs)/\RDs K as H xs ds/\Dn K (rD K) as H (k n ds) Q:=by
 cases r with
 | @ref p n l hr=>
  have h:Dn K (rD K) as H (match s[n]? with|some (O.lst ds)=>k n ds|_=>.bad) Q:=h;split at h
  ·rename_i ds e;obtain⟨b,xs,hx,rs⟩:=aaz a hr e;exact⟨p,n,xs,ds,rfl,b,hx,rs,h⟩
  ·exact h.elim
 |_=>exact h.elim
def kc:GM:=λd ds s=>match ds with
 |[x]=>onL d s λn xs=>if xs.length < sizeLine then .ok .non (s.set n (.lst (xs++ [x]))) else .bad
 |_=>.bad
theorem ahj:MB X "list.append" kc:=⟨_,aqa,λas H s x xs d ds Q b r rs h=>by
 unfold kc at h;split at h
 ·obtain⟨v,rfl,e⟩:=rs.one;obtain⟨p,n,k,es,rfl,l,j,a,h⟩:=ag3 b r h;split at h
  ·rename_i hz;exact⟨p,k,v,rfl,rfl,j,by rw[a.length];exact hz,λH' c=>af2 (o:=.lst []) b l c (a.append (.cons e .nil)) (.da .non) h⟩
  ·exact h.elim
 ·exact h.elim⟩
def adn:GM:=λd ds s=>match ds with
 |[.tup ys]=>onL d s λn xs=>if xs.length+ys.length <=sizeLine then .ok .non (s.set n (.lst (xs++ys.map D.da))) else .bad
 |[e]=>match toL s e with
  |some ys=>onL d s λn xs=>if xs.length+ys.length <=sizeLine then .ok .non (s.set n (.lst (xs++ys))) else .bad
  |none=>.bad
 |_=>.bad
theorem a82{id:String}{r a:V->List V->Hp->VK->Prop}(h:MtM X id r)(h':MtM X id a):MtR X id (λx xs H Q=>r x xs H Q\/a x xs H Q):=MtR.or h h'
theorem ayl:MB X "list.extend" adn:=⟨_,a82 aqz anw,λas H s x xs d ds Q b r rs h=>by
 unfold adn at h;split at h
 ·obtain⟨v,rfl,m⟩:=rs.one;obtain⟨p,n,k,es,rfl,l,j,a,h⟩:=ag3 b r h;split at h
  ·rename_i hz;obtain⟨q,u,rfl,_,e,t⟩:=m.tup_inv;exact .inr ⟨p,q,k,u,rfl,rfl,j,SqT.of e,by rw[a.length,t.length];exact hz,λH' c=>af2 (o:=.lst []) b l c (a.append t.rd) (.da .non) h⟩
  ·exact h.elim
 ·obtain⟨v,rfl,m⟩:=rs.one;split at h
  ·rename_i u e;obtain⟨q,y,rfl,z,w⟩:=adm b m e;obtain⟨p,n,k,es,rfl,l,j,a,h⟩:=ag3 b r h;split at h
   ·rename_i hz;exact .inl ⟨p,q,k,y,rfl,rfl,j,z,by rw[a.length,w.length];exact hz,λH' c=>af2 (o:=.lst []) b l c (a.append w) (.da .non) h⟩
   ·exact h.elim
  ·exact h.elim
 ·exact h.elim⟩
def aa1(o i v:D)(s:S):R D:=match i with
 |.int k=>onL o s λn xs=>match ixN xs.length k with
  |some j=>.ok .non (s.set n (.lst (xs.set j v)))
  |none=>.bad
 |_=>.bad
def aao(c b h:FE):FS:=λρ s=>(c ρ s).bind λv j=>(b ρ j).bind λo d=>(h ρ d).bind λi a=>(aa1 o i v a).bind λ_ e=>.ok (.nx ρ) e
theorem baz{i:Expr}{I:FE}{a:Pos}(U:RE X e fv)(ho:RE X o fo)(M:RE X i I)(u: ∀v,assign (.Subscript o i a) X.env v=(do
   let q←holding [v] (eval o X.env);let r←holding [v,q] (eval i X.env)
   standAt a
   holding [v,q,r] (setItem q r v)
   release [v,q,r] []):=by intro _;rfl) (hs:jC [.Subscript o i a] e pos.line X.env=pure false:=by rfl) (Y:jD [.Subscript o i a] e X.env=pure none:=by rfl) (F:(bS [.Subscript o i a] X.env).map (·.2)=[assign (.Subscript o i a) X.env]:=by rfl):RS X (.Assign [.Subscript o i a] e pos) (aao fv fo I):=by
 obtain⟨te,pe,L⟩:=U.ex;obtain⟨to,po,ro⟩:=ho.ex;obtain⟨ti,pi,ri⟩:=M.ex;refine⟨_,an6 pe (aut po pi ak0 u) hs Y F,λas σ H ρ s D N t h=>?_⟩;refine L as σ H ρ s _ N t (Dn.bind h λv s1 A Z vv st1 w O F=>?_);refine ro A σ Z ρ s1 _ w (t.mono st1) (Dn.bind F λo S y V q st2 z Q P=>?_);refine ri y σ V ρ S _ z ((t.mono st1).mono st2) (Dn.bind P λi s3 E H3 r l m r3 k=>?_);have x:=((t.mono st1).mono st2).mono l;have k:Dn X.K (rD X.K) E H3 (aa1 o i v s3) (λ_ H'=>D.nx σ H'):=Dn.bind k λd s4 W H4 vv st4 C r4 J=>Dn.now (b:=FV.nx σ) J C (.nx (x.mono st4))
 unfold aa1 at k;split at k
 ·cases r3.int_inv;obtain⟨p,n,xs,ds,rfl,u,hx,rs,k⟩:=ag3 m (Q.mono l) k;split at k
  ·rename_i j e;refine⟨p,xs,_,j,rfl,rfl,hx,by rw[rs.length];exact e,λH' c=>?_⟩;exact af2 (v:=.non) (o:=.lst []) m u c (rs.set j ((O.mono st2).mono l)) (.da .non) k
  ·exact k.elim
 ·exact k.elim
end PF
namespace PF
open PySem PySem.Spec
open L2
variable[XW]
theorem u64{k:Nat}(hr:Room k A):A.units+64 < cLine:=by have:=hr.un;lia
theorem u65{k:Nat}(hr:Room k A):A.units+65 < cLine:=by have:=hr.un;lia
section
variable{P:aP}{w:aM}{K:ak}{mg:Str->Option ae}{base:Heap}{x:Str}{st:Stmt}{N ps:List Str}{k n:Nat}
noncomputable def a3t:FF:=λ_ _=>.bad
theorem a33(h:Has K mg x st ps)(S:FnScope N ps (jh st))(hn:ps.length=n):CalF P w K mg base x (k+1) n a3t:=by
 refine⟨h.calX S (λvs H Q E h=>by rw[hn];exact h.1) λf a A outer s H vs Q E hr h=>?_⟩;obtain⟨c,as,ds,s',b,rs,h⟩:=h;exact h.elim
end
end PF
namespace PF
open PySem PySem.Spec
open L2
def R.Wk{α β:Type}(f:α->S->R β)(Q:β->S->Prop)(a:α)(s:S):Prop:=(f a s).W Q
theorem R.W_bindk{α β:Type}(r:R α)(f:α->S->R β)(Q:β->S->Prop):(r.bind f).W Q=r.W (R.Wk f Q):=R.W_bind r f Q
@[simp] theorem R.Wk_app{α β:Type}(f:α->S->R β)(Q:β->S->Prop)(a:α)(s:S):R.Wk f Q a s=(f a s).W Q:=(rfl)
section
variable{s:S}{m:Bool}{n:Nat}{i j:Int}{x y:Str}{b:Bool}{xs ys:List aa}{ds es:List D}{d e:D}{ρ:En}{Q:D->S->Prop}
theorem kx:sizeLine=16777216:=bq
@[simp] theorem a9n:jt m (.int i) (.int j) s=.ok (.int (i+j)) s:=(rfl)
theorem qo(h:xs.length+ys.length <=16777216):jt m (.tup xs) (.tup ys) s=.ok (.tup (xs++ys)) s:=if_pos (by rw[kx];exact h)
theorem alb(h:xs.length+ys.length <=16777216):jt false (.lst xs) (.lst ys) s=.ok (.lst (xs++ys)) s:=by
 show(if (xs.map D.da).length+(ys.map D.da).length <=sizeLine then qj false (xs.map D.da++ys.map D.da) s else .bad)=_;rw[if_pos (by rw[kx,ao,ao];exact h),←cO];show(match j2 _ with|some xs=>R.ok (D.lst xs) s|none=>.bad)=_;rw[vg]
@[simp] theorem a9b:PF.ah8 (.int i) (.int j) s=.ok (.int (i - j)) s:=(rfl)
theorem y8(h:(-(2^64) < i/\i < 2^64)\/(-(2^64) < j/\j < 2^64)):zv (.int i) (.int j) s=.ok (.int (i*j)) s:=if_pos h
theorem acq(h:0 < j)(a:j < 1073741824):aix (.int i) (.int j) s=.ok (.int (i/j)) s:=if_pos ⟨h,a⟩
theorem xh(h:0 < j):aab (.int i) (.int j) s=.ok (.int (i % j)) s:=if_pos h
theorem anl(h:0 <=j)(a:j <=1000000)(b:i.natAbs < 2^64):an1 (.int i) (.int j) s=.ok (.int (i^j.toNat)) s:=if_pos ⟨h,a,b⟩
@[simp] theorem baw:gLt (.int i) (.int j) s=.ok (.bl (decide (i < j))) s:=(rfl)
@[simp] theorem ba0:gGt (.int i) (.int j) s=.ok (.bl (decide (j < i))) s:=(rfl)
@[simp] theorem ba3:gGe (.int i) (.int j) s=.ok (.bl (decide (j <=i))) s:=(rfl)
@[simp] theorem bax:gIs d .non s=.ok (.bl (isN d)) s:=(rfl)
@[simp] theorem a86:acw d .non s=.ok (.bl (!isN d)) s:=(rfl)
theorem an7(x y:Str):aX (.str x) (.str y)=decide (x=y):=by
 show(x==y)=_
 (rw[bD,beq_iff_eq,decide_eq_true_eq])
theorem ace{p q:aa}(b:okD p=true)(a:okD q=true):gEq (.da p) (.da q) s=.ok (.bl (aX p q)) s:=by
 have e:arq (.da p) (.da q) s=.ok (.bl (aX p q)) s:=if_pos ⟨b,a⟩;cases p <;> cases q <;> first|exact e|(rw[an7];rfl)
theorem azi:gNe (.str x) (.str y) s=.ok (.bl (!decide (x=y))) s:=(rfl)
theorem anp{p q:aa}(b:okD p=true)(a:okD q=true):gNe (.da p) (.da q) s=.ok (.bl (!PyData.eqv p q)) s:=by
 have e:aje (.da p) (.da q) s=.ok (.bl (!PyData.eqv p q)) s:=if_pos ⟨b,a⟩;cases p <;> cases q <;> first|exact e|(rw[an7];rfl)
theorem ap3{k:Nat}(h:s[n]?=some (.lst ds))(a:ds[k]?=some d):gIx (.ref n) (.int (k:Int)) s=.ok d s:=by
 show(match (match s[n]? with|some (O.lst ds)=>some ds|_=>none) with|some ds=>(match atI ds (k:Int) with|some d=>R.ok d s|none=>.bad)|none=>.bad)=_;rw[h];show(match atI ds (k:Int) with|some d=>R.ok d s|none=>.bad)=_;rw[ajl a]
theorem zi{k:Nat}{p:aa}(a:xs[k]?=some p):gIx (.tup xs) (.int (k:Int)) s=.ok (.da p) s:=by
 show(match atI (xs.map D.da) (k:Int) with|some d=>R.ok d s|none=>.bad)=_;rw[ajl (v:=D.da p) (by rw[aT,a];rfl)]
theorem aag{k:Nat}{p:aa}(a:xs[k]?=some p):gIx (.lst xs) (.int (k:Int)) s=.ok (.da p) s:=by
 show(match atI (xs.map D.da) (k:Int) with|some d=>R.ok d s|none=>.bad)=_;rw[ajl (v:=D.da p) (by rw[aT,a];rfl)]
theorem aha{k:Nat}(h:s[n]?=some (.lst ds))(a:k < ds.length):aa1 (.ref n) (.int (k:Int)) d s=.ok .non (s.set n (.lst (ds.set k d))):=by
 show(match s[n]? with|some (O.lst xs)=>(match ixN xs.length (k:Int) with|some j=>R.ok D.non (s.set n (.lst (xs.set j d)))|none=>.bad)|_=>.bad)=_;rw[h];have:ixN ds.length (k:Int)=some k:=by
  unfold ixN;rw[if_pos (by lia),if_pos (by lia)];rfl
 show(match ixN ds.length (k:Int) with|some j=>R.ok D.non (s.set n (.lst (ds.set j d)))|none=>.bad)=_;rw[this]
def a5k(g:D->D->S->R D)(a:FE)(ρ:En)(x:D)(s:S):R D:=(a ρ s).bind λy b=>g x y b
noncomputable def ayc(g:D->D->S->R D)(x y:D)(s:S):R D:=g x y s
@[simp] theorem aye{g:D->D->S->R D}{fa fb:FE}:fOp g fa fb ρ s=(fa ρ s).bind (a5k g fb ρ):=(rfl)
@[simp] theorem bcm{g:D->D->S->R D}{fb:FE}:a5k g fb ρ d s=(fb ρ s).bind (ayc g d):=(rfl)
@[simp] theorem bco{g:D->D->S->R D}:ayc g d e s=g d e s:=(rfl)
@[simp] theorem e_c:fC d ρ s=.ok d s:=(rfl)
@[simp] theorem bb1:ja 0 (some d::r) s=.ok d s:=(rfl)
@[simp] theorem bbr:ja 1 (x0::some d::r) s=.ok d s:=(rfl)
@[simp] theorem bc5:ja 2 (x0::x1::some d::r) s=.ok d s:=(rfl)
@[simp] theorem bc7:ja 3 (x0::x1::x2::some d::r) s=.ok d s:=(rfl)
@[simp] theorem bbz:ja 4 (x0::x1::x2::x3::some d::r) s=.ok d s:=(rfl)
@[simp] theorem bb6:ja 5 (x0::x1::x2::x3::x4::some d::r) s=.ok d s:=(rfl)
@[simp] theorem bbe:ja 6 (x0::x1::x2::x3::x4::x5::some d::r) s=.ok d s:=(rfl)
@[simp] theorem bbx:ja 7 (x0::x1::x2::x3::x4::x5::x6::some d::r) s=.ok d s:=(rfl)
@[simp] theorem bbk:ja 8 (x0::x1::x2::x3::x4::x5::x6::x7::some d::r) s=.ok d s:=(rfl)
@[simp] theorem bbh{x8:Option D}:ja 9 (x0::x1::x2::x3::x4::x5::x6::x7::x8::some d::r) s=.ok d s:=(rfl)
@[simp] theorem bap{x8 x9:Option D}:ja 10 (x0::x1::x2::x3::x4::x5::x6::x7::x8::x9::some d::r) s=.ok d s:=(rfl)
@[simp] theorem bam{x8 x9 x10:Option D}:ja 11 (x0::x1::x2::x3::x4::x5::x6::x7::x8::x9::x10::some d::r) s=.ok d s:=(rfl)
@[simp] theorem bak{x8 x9 x10 x11:Option D}:ja 12 (x0::x1::x2::x3::x4::x5::x6::x7::x8::x9::x10::x11::some d::r) s=.ok d s:=(rfl)
noncomputable def alg(g:FS)(fl:Fl)(s:S):R Fl:=match fl with
 |.nx ρ1=>g ρ1 s
 |fl=>.ok fl s
@[simp] theorem a7u{f g:FS}:jd f g ρ s=(f ρ s).bind (alg g):=(rfl)
@[simp] theorem bbq{g:FS}:alg g (.nx ρ) s=g ρ s:=(rfl)
@[simp] theorem bbw{g:FS}:alg g (.rt d) s=.ok (.rt d) s:=(rfl)
noncomputable def a44(d:D)(s:S):R Fl:=.ok (.rt d) s
@[simp] theorem bd8:ka f ρ s=(f ρ s).bind a44:=(rfl)
@[simp] theorem bc1:a44 d s=.ok (.rt d) s:=(rfl)
@[simp] theorem bbm:jn ρ s=.ok (.nx ρ) s:=(rfl)
noncomputable def akv(ρ:En)(_:D)(s:S):R Fl:=.ok (.nx ρ) s
@[simp] theorem a47:qq f ρ s=(f ρ s).bind (akv ρ):=(rfl)
@[simp] theorem ba1:akv ρ d s=.ok (.nx ρ) s:=(rfl)
noncomputable def aa5(i:Nat)(ρ:En)(d:D)(s:S):R Fl:=.ok (.nx (ρ.set i (some d))) s
@[simp] theorem bcy{i:Nat}:jk i f ρ s=(f ρ s).bind (aa5 i ρ):=(rfl)
@[simp] theorem bbo{i:Nat}:aa5 i ρ d s=.ok (.nx (ρ.set i (some d))) s:=(rfl)
noncomputable def ay2(f g:FS)(ρ:En)(k:Bool)(s:S):R Fl:=if k=true then f ρ s else g ρ s
@[simp] theorem bcn{c:FT}{f g:FS}:jv c f g ρ s=(c ρ s).bind (ay2 f g ρ):=(rfl)
@[simp] theorem bd0{f g:FS}:ay2 f g ρ true s=f ρ s:=(rfl)
@[simp] theorem bda{f g:FS}:ay2 f g ρ false s=g ρ s:=(rfl)
noncomputable def kIf(f g:FE)(ρ:En)(k:Bool)(s:S):R D:=if k=true then f ρ s else g ρ s
@[simp] theorem bdc{c:FT}{g:FE}:fIf c f g ρ s=(c ρ s).bind (kIf f g ρ):=(rfl)
@[simp] theorem bba{g:FE}:kIf f g ρ true s=f ρ s:=(rfl)
@[simp] theorem bca{g:FE}:kIf f g ρ false s=g ρ s:=(rfl)
noncomputable def az4(d:D)(s:S):R Bool:=match d with
 |.bl k=>.ok k s
 |_=>.bad
@[simp] theorem asq:ji f ρ s=(f ρ s).bind az4:=(rfl)
@[simp] theorem ba2:az4 (.bl b) s=.ok b s:=(rfl)
noncomputable def ar3(g:FT)(ρ:En)(c:Bool)(s:S):R Bool:=if c=true then g ρ s else .ok false s
noncomputable def ay0(g:FT)(ρ:En)(c:Bool)(s:S):R Bool:=if c=true then .ok true s else g ρ s
noncomputable def azo(c:Bool)(s:S):R Bool:=.ok (!c) s
@[simp] theorem aup{f g:FT}:zm f g ρ s=(f ρ s).bind (ar3 g ρ):=(rfl)
@[simp] theorem bcd{f g:FT}:ag7 f g ρ s=(f ρ s).bind (ay0 g ρ):=(rfl)
@[simp] theorem bbp{f:FT}:aib f ρ s=(f ρ s).bind azo:=(rfl)
@[simp] theorem bao{g:FT}:ar3 g ρ true s=g ρ s:=(rfl)
@[simp] theorem bal{g:FT}:ar3 g ρ false s=.ok false s:=(rfl)
@[simp] theorem bb9{g:FT}:ay0 g ρ true s=.ok true s:=(rfl)
@[simp] theorem bb2{g:FT}:ay0 g ρ false s=g ρ s:=(rfl)
@[simp] theorem bac:azo b s=.ok (!b) s:=(rfl)
def aue(g:FA)(ρ:En)(x:D)(s:S):R (List D):=(g ρ s).bind λxs a=>.ok (x::xs) a
noncomputable def al7(x:D)(xs:List D)(s:S):R (List D):=.ok (x::xs) s
@[simp] theorem bcr:jc ρ s=.ok [] s:=(rfl)
@[simp] theorem bdh:fVs ds ρ s=.ok ds s:=(rfl)
@[simp] theorem bc4{g:FA}:jb f g ρ s=(f ρ s).bind (aue g ρ):=(rfl)
@[simp] theorem bae{g:FA}:aue g ρ d s=(g ρ s).bind (al7 d):=(rfl)
@[simp] theorem ap1:al7 d ds s=.ok (d::ds) s:=(rfl)
def ae5(ds:List D)(s:S):R D:=if ds.length <=sizeLine then ahl ds s else .bad
def abu(m:Bool)(ds:List D)(s:S):R D:=if ds.length <=sizeLine then qj m ds s else .bad
@[simp] theorem bcx{f:FA}:jq f ρ s=(f ρ s).bind ae5:=(rfl)
@[simp] theorem bcu{f:FA}:kz m f ρ s=(f ρ s).bind (abu m):=(rfl)
theorem a16(h:j2 ds=some xs)(a:ds.length <=16777216):ae5 ds s=.ok (.tup xs) s:=by
 unfold ae5 ahl;rw[if_pos (by rw[kx];exact a),h]
theorem a2x(h:j2 ds=some xs)(a:ds.length <=16777216):abu false ds s=.ok (.lst xs) s:=by
 unfold abu qj;rw[if_pos (by rw[kx];exact a),if_neg az,h]
@[simp] theorem bdf:ae5 [] s=.ok (.tup []) s:=(rfl)
@[simp] theorem bdk:abu false [] s=.ok (.lst []) s:=(rfl)
@[simp] theorem bcz:abu true [] s=.ok (.ref s.length) (s++ [.lst []]):=(rfl)
@[simp] theorem bdl{a:aa}:ae5 [.da a] s=.ok (.tup [a]) s:=(rfl)
@[simp] theorem bdr{a b:aa}:ae5 [.da a,.da b] s=.ok (.tup [a,b]) s:=(rfl)
@[simp] theorem bds{a b c d:aa}:ae5 [.da a,.da b,.da c,.da d] s=.ok (.tup [a,b,c,d]) s:=(rfl)
@[simp] theorem bdg{a:aa}:abu false [.da a] s=.ok (.lst [a]) s:=(rfl)
@[simp] theorem bdd{a b:aa}:abu false [.da a,.da b] s=.ok (.lst [a,b]) s:=(rfl)
@[simp] theorem bdu{a b c:aa}:abu false [.da a,.da b,.da c] s=.ok (.lst [a,b,c]) s:=(rfl)
@[simp] theorem bdi{a b c d:aa}:abu false [.da a,.da b,.da c,.da d] s=.ok (.lst [a,b,c,d]) s:=(rfl)
def a45(m:Bool)(lo c:FO)(ρ:En)(d:D)(s:S):R D:=(lo ρ s).bind λl b=>(c ρ b).bind λu a=>gSl m d l u a
def a4k(m:Bool)(b:FO)(ρ:En)(d:D)(l:Option Int)(s:S):R D:=(b ρ s).bind λu a=>gSl m d l u a
def a53(m:Bool)(d:D)(l u:Option Int)(s:S):R D:=gSl m d l u s
@[simp] theorem bdt{lo hi:FO}:fSl m f lo hi ρ s=(f ρ s).bind (a45 m lo hi ρ):=(rfl)
@[simp] theorem bcq{lo hi:FO}:a45 m lo hi ρ d s=(lo ρ s).bind (a4k m hi ρ d):=(rfl)
@[simp] theorem bcf{hi:FO}{l:Option Int}:a4k m hi ρ d l s=(hi ρ s).bind (a53 m d l):=(rfl)
@[simp] theorem bct{l u:Option Int}:a53 m d l u s=gSl m d l u s:=(rfl)
@[simp] theorem bdn:fNo ρ s=.ok none s:=(rfl)
noncomputable def az6(d:D)(s:S):R (Option Int):=match d with
 |.int i=>.ok (some i) s
 |_=>.bad
@[simp] theorem bbn:kj f ρ s=(f ρ s).bind az6:=(rfl)
@[simp] theorem bai:az6 (.int i) s=.ok (some i) s:=(rfl)
def azc(fs:FE)(ρ:En)(d:D)(s:S):R D:=(fs ρ s).bind λk a=>match d,k with
 |.tup ds,.int (-1)=>.ok (.tup ds.reverse) a
 |_,_=>.bad
noncomputable def az1(d k:D)(s:S):R D:=match d,k with
 |.tup ds,.int (-1)=>.ok (.tup ds.reverse) s
 |_,_=>.bad
@[simp] theorem bd6{g:FE}:axu f g ρ s=(f ρ s).bind (azc g ρ):=(rfl)
@[simp] theorem bbb{g:FE}:azc g ρ d s=(g ρ s).bind (az1 d):=(rfl)
@[simp] theorem bb7:az1 (.tup xs) (.int (-1)) s=.ok (.tup xs.reverse) s:=(rfl)
noncomputable def a6a(d:D)(s:S):R D:=match d with
 |.int i=>.ok (.int (-i)) s
 |_=>.bad
@[simp] theorem bcs:anr f ρ s=(f ρ s).bind a6a:=(rfl)
@[simp] theorem bby:a6a (.int i) s=.ok (.int (-i)) s:=(rfl)
@[simp] theorem bcp:arp f ρ s=(f ρ s).bind af1:=(rfl)
@[simp] theorem a2i:af1 (.tup xs) s=.ok (!xs.isEmpty) s:=by show R.ok (!(xs.map D.da).isEmpty) s=_;cases xs <;> rfl
@[simp] theorem a0e:af1 (.lst xs) s=.ok (!xs.isEmpty) s:=by show R.ok (!(xs.map D.da).isEmpty) s=_;cases xs <;> rfl
@[simp] theorem bdm{g:FF}{f:FA}:fCB g f ρ s=(f ρ s).bind g:=(rfl)
def agb(n:Nat)(F:FF)(ρ:En)(ds:List D)(s:S):R D:=if ds.length=n then (F ds s).at ρ else .bad
@[simp] theorem bbu{F:FF}{f:FA}:jf n F f ρ s=(f ρ s).bind (agb n F ρ):=(rfl)
@[simp] theorem baf{F:FF}:agb 1 F ρ [d] s=(F [d] s).at ρ:=(rfl)
@[simp] theorem bav{F:FF}:agb 2 F ρ [d,e] s=(F [d,e] s).at ρ:=(rfl)
@[simp] theorem bat{F:FF}{d3:D}:agb 3 F ρ [d,e,d3] s=(F [d,e,d3] s).at ρ:=(rfl)
@[simp] theorem bah{F:FF}{d3 d4:D}:agb 4 F ρ [d,e,d3,d4] s=(F [d,e,d3,d4] s).at ρ:=(rfl)
@[simp] theorem bag{F:FF}{d3 d4 d5:D}:agb 5 F ρ [d,e,d3,d4,d5] s=(F [d,e,d3,d4,d5] s).at ρ:=(rfl)
@[simp] theorem ao6:xp [.tup xs] s=.ok (.int xs.length) s:=by show R.ok (D.int (xs.map D.da).length) s=_;rw[ao]
@[simp] theorem ba8:xp [.lst xs] s=.ok (.int xs.length) s:=by show R.ok (D.int (xs.map D.da).length) s=_;rw[ao]
theorem len_str(h:x.length <=16777216):xp [.str x] s=.ok (.int x.length) s:=if_pos (by rw[kx];exact h)
@[simp] theorem baj:aq3 [.int i,.int j] s=.ok (.int (if j < i then j else i)) s:=(rfl)
@[simp] theorem au8:ac3 true [.tup xs] s=.ok (.ref s.length) (s++ [.lst (xs.map D.da)]):=(rfl)
@[simp] theorem a8q:k8 [.lst xs] s=.ok (.tup xs) s:=by
 show(match j2 (xs.map D.da) with|some xs=>R.ok (D.tup xs) s|none=>.bad)=_
 rw[vg]
theorem aok{p:aa}(h:okS p=true):xc [.da p] s=.ok (.str p.shown) s:=if_pos h
@[simp] theorem ams{lo hi:Option Int}:gSl m (.tup xs) lo hi s=.ok (.tup (qh xs lo hi)) s:=(rfl)
theorem ahi{α β:Type}(f:α->β)(l:List α)(lo a:Option Int):qh (l.map f) lo a=(qh l lo a).map f:=by
 unfold qh;rw[ao,List.map_take,List.map_drop]
@[simp] theorem bb0{lo hi:Option Int}:gSl false (.frz xs) lo hi s=.ok (.lst (qh xs lo hi)) s:=by
 show(match j2 (qh (xs.map D.da) lo hi) with|some xs=>R.ok (D.lst xs) s|none=>.bad)=_
 rw[ahi,vg]
noncomputable def qk(fl:Fl)(s:S):R D:=match fl with
 |.rt d=>.ok d s
 |.nx _=>.ok .non s
 |_=>.bad
@[simp] theorem bar:qk (.rt d) s=.ok d s:=(rfl)
@[simp] theorem baq:qk (.nx ρ) s=.ok .non s:=(rfl)
def aoz(b e:FE)(ρ:En)(v:D)(s:S):R Fl:=(b ρ s).bind λo c=>(e ρ c).bind λi a=>(aa1 o i v a).bind λ_ d=>.ok (.nx ρ) d
def ap8(c:FE)(ρ:En)(v o:D)(s:S):R Fl:=(c ρ s).bind λi a=>(aa1 o i v a).bind λ_ b=>.ok (.nx ρ) b
def apk(ρ:En)(v o i:D)(s:S):R Fl:=(aa1 o i v s).bind λ_ a=>.ok (.nx ρ) a
@[simp] theorem ba9{fi:FE}:aao fv fo fi ρ s=(fv ρ s).bind (aoz fo fi ρ):=(rfl)
@[simp] theorem a9p{fi:FE}:aoz fo fi ρ d s=(fo ρ s).bind (ap8 fi ρ d):=(rfl)
@[simp] theorem a8x{fi:FE}:ap8 fi ρ d e s=(fi ρ s).bind (apk ρ d e):=(rfl)
@[simp] theorem a98{o:D}:apk ρ d e o s=(aa1 e o d s).bind (akv ρ):=(rfl)
def axg(g:GM)(a:FA)(ρ:En)(d:D)(s:S):R D:=if (toL s d).isSome=true then (a ρ s).bind λds b=>g d ds b else .bad
noncomputable def avw(g:GM)(d:D)(ds:List D)(s:S):R D:=g d ds s
@[simp] theorem a8s{g:GM}:fMt g fo fa ρ s=(fo ρ s).bind (axg g fa ρ):=(rfl)
theorem ac1{g:GM}(h:s[n]?=some (.lst ds)):axg g fa ρ (.ref n) s=(fa ρ s).bind (avw g (.ref n)):=by
 unfold axg;rw[if_pos]
 ·rfl
 ·show((match s[n]? with|some (O.lst ds)=>some ds|_=>none):Option (List D)).isSome=true;rw[h];rfl
@[simp] theorem bce{g:GM}:avw g d ds s=g d ds s:=(rfl)
theorem yc(h:s[n]?=some (.lst ds))(a:ds.length < 16777216):kc (.ref n) [d] s=.ok .non (s.set n (.lst (ds++ [d]))):=by
 show(match s[n]? with|some (O.lst xs)=>(if xs.length < sizeLine then R.ok D.non (s.set n (.lst (xs++ [d]))) else .bad)|_=>.bad)=_;rw[h];show(if ds.length < sizeLine then _ else _)=_;rw[if_pos (by rw[kx];exact a)]
theorem arv(h:s[n]?=some (.lst ds))(b:ds.length+xs.length <=16777216):adn (.ref n) [.lst xs] s=.ok .non (s.set n (.lst (ds++xs.map D.da))):=by
 show(match s[n]? with|some (O.lst a)=>(if a.length+(xs.map D.da).length <=sizeLine then R.ok D.non (s.set n (.lst (a++xs.map D.da))) else .bad)|_=>.bad)=_;rw[h];exact if_pos (by rw[kx,ao];exact b)
def a40(d:D)(s:S):R D:=ays d s
@[simp] theorem bcg:awk f ρ s=(f ρ s).bind a40:=(rfl)
theorem a31(h:s[n]?=some (.lst ds))(a:j2 ds=some xs):a40 (.ref n) s=.ok (.lst xs) (s.set n .gone):=by
 show(match s[n]? with|some (O.lst ds)=>(match j2 ds with|some xs=>R.ok (D.lst xs) (s.set n .gone)|none=>.bad)|_=>.bad)=_;rw[h];show(match j2 ds with|some xs=>R.ok (D.lst xs) (s.set n .gone)|none=>.bad)=_;rw[a]
def al5(g:Tg)(ρ:En)(d:D)(s:S):R Fl:=match qg g d ρ with
 |some ρ1=>.ok (.nx ρ1) s
 |none=>.bad
@[simp] theorem bcj:al4 g f ρ s=(f ρ s).bind (al5 g ρ):=(rfl)
theorem a65(h:qg g d ρ=some ρ1):al5 g ρ d s=.ok (.nx ρ1) s:=by unfold al5;rw[h]
def kFor(g:Tg)(a:FS)(ρ:En)(p:Wk)(s:S):R Fl:=chk p s (kb g a p p.1 ρ s)
@[simp] theorem bcl:ko fi g fb ρ s=(fi ρ s).bind (kFor g fb ρ):=(rfl)
@[simp] theorem bc8:kFor g fb ρ (ds,none) s=kb g fb (ds,none) ds ρ s:=xi
@[simp] theorem bdw:fIt f ρ s=(f ρ s).bind zg:=(rfl)
@[simp] theorem bc3:zg (.lst xs) s=.ok (xs.map D.da,none) s:=(rfl)
@[simp] theorem bc6:zg (.tup xs) s=.ok (xs.map D.da,none) s:=(rfl)
@[simp] theorem bci{f:FA}:aa8 f ρ s=(f ρ s).bind aqb:=(rfl)
theorem ze(h: -(2^62) <=j)(a:j < 2^62):aqb [.int j] s=.ok (xn 0 j.toNat,none) s:=if_pos ⟨h,a⟩
def ae4(g:Tg)(b:FS)(p:Wk)(r:List D)(fl:Fl)(s:S):R Fl:=match fl with
 |.nx a=>chk p s (kb g b p r a s)
 |.ct a=>chk p s (kb g b p r a s)
 |.bk a=>.ok (.nx a) s
 |.rt d=>.ok (.rt d) s
theorem aai{p:Wk}{r:List D}(h:qg g d ρ=some ρ1):kb g fb p (d::r) ρ s=(fb ρ1 s).bind (ae4 g fb p r):=by
 rw[kb,h];rfl
@[simp] theorem adl{r:List D}:ae4 g fb (ds,none) r (.nx ρ) s=kb g fb (ds,none) r ρ s:=xi
@[simp] theorem a14{r:List D}:ae4 g fb (ds,none) r (.ct ρ) s=kb g fb (ds,none) r ρ s:=xi
@[simp] theorem aph{p:Wk}{r:List D}:ae4 g fb p r (.bk ρ) s=.ok (.nx ρ) s:=(rfl)
@[simp] theorem ap4{p:Wk}{r:List D}:ae4 g fb p r (.rt d) s=.ok (.rt d) s:=(rfl)
def kLc(m:Bool)(js:List Nat)(k:Nat)(g:Tg)(b:FT)(fe:FE)(ρ:En)(p:Wk)(s:S):R D:=if p.1.length <=sizeLine then chk p s ((ke g b fe (bp k none++acm ρ js) p p.1 s).bind λds a=>qj m ds a) else .bad
@[simp] theorem bde{k:Nat}:fLc m js k fi g ft fe ρ s=(fi ρ s).bind (kLc m js k g ft fe ρ):=(rfl)
def aky(m:Bool)(ds:List D)(s:S):R D:=qj m ds s
theorem zl{k:Nat}(h:ds.length <=16777216)(e:bp k none++acm ρ js=ρ0):kLc m js k g ft fe ρ (ds,none) s=(ke g ft fe ρ0 (ds,none) ds s).bind (aky m):=by
 subst e;unfold kLc;rw[if_pos (by rw[kx];exact h),xi];rfl
@[simp] theorem adq:aky false (xs.map D.da) s=.ok (.lst xs) s:=by
 show(match j2 _ with|some xs=>R.ok (D.lst xs) s|none=>.bad)=_
 rw[vg]
@[simp] theorem ax6{p:Wk}:ke g ft fe ρ p [] s=.ok [] s:=(rfl)
def am3(g:Tg)(d:FT)(fe:FE)(ρ0:En)(p:Wk)(r:List D)(ρ1:En)(b:Bool)(a:S):R (List D):=if b=true then (fe ρ1 a).calm.bind λx c=>chk p c ((ke g d fe ρ0 p r c).bind λxs e=>.ok (x::xs) e) else chk p a (ke g d fe ρ0 p r a)
def ant(g:Tg)(c:FT)(fe:FE)(ρ0:En)(p:Wk)(r:List D)(x:D)(a:S):R (List D):=chk p a ((ke g c fe ρ0 p r a).bind λxs b=>.ok (x::xs) b)
theorem af9{p:Wk}{r:List D}(h:qg g d ρ=some ρ1):ke g ft fe ρ p (d::r) s=(ft ρ1 s).calm.bind (am3 g ft fe ρ p r ρ1):=by
 rw[ke,h];rfl
@[simp] theorem amc{p:Wk}{r:List D}:am3 g ft fe ρ p r ρ1 true s=(fe ρ1 s).calm.bind (ant g ft fe ρ p r):=(rfl)
@[simp] theorem av9{r:List D}:am3 g ft fe ρ (ds,none) r ρ1 false s=ke g ft fe ρ (ds,none) r s:=xi
@[simp] theorem att{r:List D}:ant g ft fe ρ (ds,none) r d s=(ke g ft fe ρ (ds,none) r s).bind (al7 d):=xi
@[simp] theorem arb:vw ρ s=.ok true s:=(rfl)
theorem bdx{e d c a b:aa}:ae5 [.da e,.da d,.da c,.da a,.da b] s=.ok (.tup [e,d,c,a,b]) s:=(rfl)
theorem bd9:abu true [a0,a1,a2] s=.ok (.ref s.length) (s++ [.lst [a0,a1,a2]]):=(rfl)
theorem bck{a:D}:abu true [a0,a1,a2,a] s=.ok (.ref s.length) (s++ [.lst [a0,a1,a2,a]]):=(rfl)
theorem bau(h:xs.length <=16777216):abu false (xs.map D.da) s=.ok (.lst xs) s:=a2x (vg xs) (by rw[ao];exact h)
theorem baa(h:xs.length <=16777216):ae5 (xs.map D.da) s=.ok (.tup xs) s:=a16 (vg xs) (by rw[ao];exact h)
theorem it0{a:aa}{r:List aa}:gIx (.tup (a::r)) (.int 0) s=.ok (.da a) s:=zi (k:=0) rfl
theorem il0{a:aa}{r:List aa}:gIx (.lst (a::r)) (.int 0) s=.ok (.da a) s:=aag (k:=0) rfl
theorem it1{b a:aa}{r:List aa}:gIx (.tup (b::a::r)) (.int 1) s=.ok (.da a) s:=zi (k:=1) rfl
theorem il1{b a:aa}{r:List aa}:gIx (.lst (b::a::r)) (.int 1) s=.ok (.da a) s:=aag (k:=1) rfl
theorem it2{c b a:aa}{r:List aa}:gIx (.tup (c::b::a::r)) (.int 2) s=.ok (.da a) s:=zi (k:=2) rfl
theorem it3{d c b a:aa}{r:List aa}:gIx (.tup (d::c::b::a::r)) (.int 3) s=.ok (.da a) s:=zi (k:=3) rfl
theorem it4{e d c b a:aa}{r:List aa}:gIx (.tup (e::d::c::b::a::r)) (.int 4) s=.ok (.da a) s:=zi (k:=4) rfl
theorem bb3{y:Option D}:aa5 1 (x0::y::r) d s=.ok (.nx (x0::some d::r)) s:=(rfl)
theorem bbs{y:Option D}:aa5 2 (x0::x1::y::r) d s=.ok (.nx (x0::x1::some d::r)) s:=(rfl)
theorem a80{y:Option D}:qg (.nm 2) d (x0::x1::y::r)=some (x0::x1::some d::r):=(rfl)
theorem bb4{y:Option D}:aa5 3 (x0::x1::x2::y::r) d s=.ok (.nx (x0::x1::x2::some d::r)) s:=(rfl)
theorem bbv{y:Option D}:aa5 4 (x0::x1::x2::x3::y::r) d s=.ok (.nx (x0::x1::x2::x3::some d::r)) s:=(rfl)
theorem bc2{y:Option D}:aa5 5 (x0::x1::x2::x3::x4::y::r) d s=.ok (.nx (x0::x1::x2::x3::x4::some d::r)) s:=(rfl)
theorem bbd{y:Option D}:aa5 6 (x0::x1::x2::x3::x4::x5::y::r) d s=.ok (.nx (x0::x1::x2::x3::x4::x5::some d::r)) s:=(rfl)
theorem bbf{y:Option D}:aa5 7 (x0::x1::x2::x3::x4::x5::x6::y::r) d s=.ok (.nx (x0::x1::x2::x3::x4::x5::x6::some d::r)) s:=(rfl)
theorem bbl{y:Option D}:aa5 8 (x0::x1::x2::x3::x4::x5::x6::x7::y::r) d s=.ok (.nx (x0::x1::x2::x3::x4::x5::x6::x7::some d::r)) s:=(rfl)
theorem bc0{a y:Option D}:aa5 9 (x0::x1::x2::x3::x4::x5::x6::x7::a::y::r) d s=.ok (.nx (x0::x1::x2::x3::x4::x5::x6::x7::a::some d::r)) s:=(rfl)
theorem ba6{b a y:Option D}:aa5 10 (x0::x1::x2::x3::x4::x5::x6::x7::b::a::y::r) d s=.ok (.nx (x0::x1::x2::x3::x4::x5::x6::x7::b::a::some d::r)) s:=(rfl)
theorem ba4{e c b a y:Option D}:aa5 12 (x0::x1::x2::x3::x4::x5::x6::x7::e::c::b::a::y::r) d s=.ok (.nx (x0::x1::x2::x3::x4::x5::x6::x7::e::c::b::a::some d::r)) s:=(rfl)
theorem a9y{h e b a c y:Option D}:aa5 13 (x0::x1::x2::x3::x4::x5::x6::x7::h::e::b::a::c::y::r) d s=.ok (.nx (x0::x1::x2::x3::x4::x5::x6::x7::h::e::b::a::c::some d::r)) s:=(rfl)
theorem a9x{h e b a c:Option D}:ja 13 (x0::x1::x2::x3::x4::x5::x6::x7::h::e::b::a::c::some d::r) s=.ok d s:=(rfl)
theorem bab{j h b a c e y:Option D}:aa5 14 (x0::x1::x2::x3::x4::x5::x6::x7::j::h::b::a::c::e::y::r) d s=.ok (.nx (x0::x1::x2::x3::x4::x5::x6::x7::j::h::b::a::c::e::some d::r)) s:=(rfl)
end
@[simp] theorem R.bind_ok'{α β:Type}(a:α)(s:S)(f:α->S->R β):(R.ok a s).bind f=f a s:=(rfl)
@[simp] theorem R.W_ok'{α:Type}(a:α)(s:S)(Q:α->S->Prop):(R.ok a s).W Q=Q a s:=(rfl)
def flW(J:En->S->Prop)(Q:Fl->S->Prop)(fl:Fl)(s:S):Prop:=match fl with
 |.nx ρ=>J ρ s
 |.ct ρ=>J ρ s
 |.bk ρ=>Q (.nx ρ) s
 |.rt d=>Q (.rt d) s
theorem j6{g:Tg}{b:FS}{all:List D}{Q:Fl->S->Prop}(J:List D->En->S->Prop)
  (step: ∀d r ρ s,J (d::r) ρ s->∃ρ1,qg g d ρ=some ρ1/\(b ρ1 s).W (flW (J r) Q)) (fin: ∀ρ s,J [] ρ s->Q (.nx ρ) s):
  ∀(ds:List D) (ρ:En) (s:S),J ds ρ s->(kb g b (all,none) ds ρ s).W Q
 |[],ρ,s,h=>fin ρ s h
 |d::r,ρ,s,h=>by
  obtain⟨ρ1,e,w⟩:=step d r ρ s h;rw[aai e,R.W_bind];refine R.W_mono w λfl c q=>?_
  cases fl with
  |nx a=>rw[adl];exact j6 J step fin r a c q
  |ct a=>rw[a14];exact j6 J step fin r a c q
  |bk a=>rw[aph];exact q
  |rt d=>rw[ap4];exact q
theorem y4{g:Tg}{k:FT}{fe:FE}{ρ0:En}{all:List D}{Q:List D->S->Prop}(J:List D->List D->S->Prop)
  (step: ∀d r acc s,J (d::r) acc s->∃ρ1,qg g d ρ0=some ρ1/\(k ρ1 s).W λb a=>if b=true then (fe ρ1 a).W λx c=>J r (acc++ [x]) c else J r acc a) (fin: ∀acc s,J [] acc s->Q acc s):
  ∀(ds acc:List D) (s:S),J ds acc s->(ke g k fe ρ0 (all,none) ds s).W λxs s'=>Q (acc++xs) s'
 |[],acc,s,h=>by
  rw[ax6,R.W_ok,aK];exact fin acc s h
 | d::r,acc,s,h=>by
  obtain⟨ρ1,e,w⟩:=step d r acc s h;rw[af9 e,R.W_bind,R.W_calm];refine R.W_mono w λb m q=>?_
  cases b with
  |false=>
   rw[av9];rw[if_neg az]at q;exact y4 J step fin r acc m q
  |true=>
   rw[amc,R.W_bind,R.W_calm];rw[if_pos rfl]at q;refine R.W_mono q λx a l=>?_
   rw[att,R.W_bind];refine R.W_mono (y4 J step fin r (acc++ [x]) a l) λxs c j=>?_
   rw[ap1,R.W_ok];rw[bN]at j;exact j
structure Ext (s s':S):Prop where
 ex: ∃g,s'=s++g
theorem Ext.refl(s:S):Ext s s:=⟨[],by simp⟩
theorem Ext.trans{a b c:S}(e:Ext a b)(d:Ext b c):Ext a c:=by
 obtain⟨g,rfl⟩:=e.ex;obtain⟨k,rfl⟩:=d.ex;exact⟨g++k,by rw[bN]⟩
theorem Ext.add(s g:S):Ext s (s++g):=⟨g,rfl⟩
theorem Ext.len(h:Ext s s'):s.length <=s'.length:=by obtain⟨g,rfl⟩:=h.ex;simp
theorem Ext.get(h:Ext s s'){k:Nat}{o:O}(e:s[k]?=some o):s'[k]?=some o:=by
 obtain⟨g,rfl⟩:=h.ex;rw[aQ (am.mp e).1];exact e
theorem Ext.getE(h:Ext s s'){k:Nat}(e:k < s.length):s'[k]?=s[k]?:=by
 obtain⟨g,rfl⟩:=h.ex;rw[aQ e]
structure jr (n:Nat) (s s':S):Prop where
 len:s.length <=s'.length
 get: ∀k,k≠n->k < s.length->s'[k]?=s[k]?
theorem jr.refl(n:Nat)(s:S):jr n s s:=⟨aj _,λ_ _ _=>rfl⟩
theorem jr.trans{a b c:S}(d:jr n a b)(e:jr n b c):jr n a c:=⟨aN d.len e.len,λk hk h=>(e.get k hk (a9 h d.len)).trans (d.get k hk h)⟩
theorem Ext.same(h:Ext s s')(n:Nat):jr n s s':=⟨h.len,λ_ _ a=>h.getE a⟩
theorem aac{o:O}:jr n s (s.set n o):=⟨by simp,λk hk a=>aF (bu hk)⟩
theorem jr.own{k:Nat}{o:O}(h:jr n s s')(hk:s.length <=k):jr n s (s'.set k o):=⟨by simpa using h.len,λj a b=>by rw[aF (by lia)];exact h.get j a b⟩
theorem ax8{α:Type}{s:List α}{o:α}(e:s[n]?=some o):s.set n o=s:=by
 apply cJ;intro i;by_cases z:n=i
 ·subst z;have a:=(am.mp e).1;rw[aR a,e]
 ·rw[aF z]
structure Nice (B D:Nat) (d:aa):Prop where
 ls:d.leavesShort 13=true
 sh:d.showable=true
 cl:d.canLay0=true
 bk:d.bulk <=B
 dp:d.depth <=D
structure Nices (B D:Nat) (ds:List aa):Prop where
 ls:lJ 13 ds=true
 sh:PyData.showableAll ds=true
 cl:bH ds=true
 bk:PyData.bulkAll ds <=B
 dp:cK ds <=D
theorem Nice.mono{D B' D':Nat}{d:aa}(h:Nice B D d)(a:B <=B')(hd:D <=D'):Nice B' D' d:=⟨h.ls,h.sh,h.cl,aN h.bk a,aN h.dp hd⟩
theorem Nices.mono{D B' D':Nat}(h:Nices B D ds)(a:B <=B')(hd:D <=D'):Nices B' D' ds:=⟨h.ls,h.sh,h.cl,aN h.bk a,aN h.dp hd⟩
theorem Nices.nil{D:Nat}:Nices 0 D []:=⟨rfl,rfl,rfl,aj _,bn _⟩
theorem Nices.cons{B' D:Nat}{d:aa}(h:Nice B D d)(t:Nices B' D ds):Nices (B+1+B') D (d::ds):=by
 obtain⟨e,c,a,k,n⟩:=h;obtain⟨j,b2,b,l,m⟩:=t;refine⟨?_,?_,?_,?_,?_⟩
 ·simp only[lJ,e,j,mh]
 ·simp only[PyData.showableAll,c,b2,mh]
 ·simp only[bH,a,b,mh]
 ·simp only[PyData.bulkAll];lia
 ·simp only[cK];lia
theorem Nices.tup{D:Nat}(h:Nices B D ds):Nice B (D+1) (.tuple ds):=by
 obtain⟨b,b2,c,a,d⟩:=h;refine⟨?_,?_,?_,?_,?_⟩
 ·simpa only[gm] using b
 ·simpa only[im] using b2
 ·simpa only[lK] using c
 ·simpa only[PyData.bulk] using a
 ·simp only[dM];lia
theorem Nices.lst{D:Nat}(h:Nices B D ds):Nice B (D+1) (.list ds):=by
 obtain⟨b,b2,c,a,d⟩:=h;refine⟨?_,?_,?_,?_,?_⟩
 ·simpa only[gm] using b
 ·simpa only[im] using b2
 ·simpa only[lK] using c
 ·simpa only[PyData.bulk] using a
 ·simp only[dM];lia
theorem Nice.okS{D:Nat}{d:aa}(h:Nice B D d)(a:B <=1048576)(hd:D <=64):okS d=true:=by
 unfold PF.okS
 (simp only[aJ,decide_eq_true_eq])
 exact⟨⟨⟨h.cl,h.sh⟩,aN h.dp hd⟩,PyData.shown_fits_bulk (by decide) (by decide) h.ls (aN h.bk a)⟩
theorem Nice.okD{D:Nat}{d:aa}(h:Nice B D d)(hd:D <=64):okD d=true:=by
 unfold PF.okD;rw[aJ];exact⟨h.cl,decide_eq_true (aN h.dp hd)⟩
theorem vq{B D:Nat}: ∀(ds:List aa),(∀d∈ds,Nice B D d)->Nices ((B+1)*ds.length) D ds
 |[],_=>Nices.nil
 |d::r,h=>by
  refine(Nices.cons (h d au) (vq r λy a=>h y (aq _ a))).mono ?_ (aj _);rw[aE,Nat.mul_add];lia
theorem ats:Nice 0 0 .none:=⟨rfl,rfl,rfl,aj _,by simp[dM]⟩
theorem aes{i:Int}(a:i.natAbs < 10^12):Nice 0 0 (.int i):=by
 refine⟨?_,?_,rfl,aj _,by simp[dM]⟩
 ·simp only[gm,decide_eq_true_eq];exact PyData.shown_int_le a
 ·simp only[im,decide_eq_true_eq];have:i.natAbs.log2 <=i.natAbs:=Nat.log2_le_self _;by_cases z:i.natAbs=0
  ·rw[z];decide
  ·have b:i.natAbs < 2^40:=by lia
   have:=(Nat.log2_lt z).mpr b;lia
noncomputable def k7(x:Str):Bool:=(decide (0 < x.length)&&decide (x.length <=20))&&x.cps.toList.all λc=>decide (32 <=c)&&decide (c < 127)
theorem ab5(h:k7 x=true):Nice 20 0 (.str x):=by
 unfold k7 at h;simp only[aJ,decide_eq_true_eq,aB]at h;refine⟨?_,rfl,?_,h.1.2,by simp[dM]⟩
 ·simp only[gm,aB,decide_eq_true_eq];intro c a;have:=(h.2 c a).2;have b:(16:Nat)^8=4294967296:=by decide
  lia
 ·simp only[lK];unfold PyData.strOk
  (rw[←Array.all_toList,aB])
  intro c a;have:=(h.2 c a).2
  (exact decide_eq_true (by lia))
theorem ais: ∀(xs:List Str),(∀x∈xs,k7 x=true)->Nices (21*xs.length) 0 (xs.map .str)
 |[],_=>Nices.nil
 |x::r,h=>by
  refine(Nices.cons (ab5 (h x au)) (ais r λy a=>h y (aq _ a))).mono ?_ (aj _);rw[aE];lia
end PF
namespace PF
open PySem PySem.Spec
open L2
open PyProof.Rows (envOfC)
section
variable{P:aP}{w:aM}{K:ak}{mg:Str->Option ae}{base:Heap}{x:Str}{st:Stmt}{N ps:List Str}{k:Nat}
theorem fnF{f:Addr}(F:Fun K x x st f fd)(S:FnScope N ps (jh st))(hm:N.length=m)(hn:ps.length=n)(a:BodyOk P w K mg base N x st k fb):FnOk P w K mg base (CX1 P w) (k+1) f fd ps (spF K n (k9 m fb)):=
 F.okX S (λvs H Q E h=>by rw[hn];exact h.1) λb A outer s H vs Q E hr h=>ajk hm a f b A outer s H vs Q E hr h
theorem a68{f:Addr}{F:FF}(h:FnOk P w K mg base (CX1 P w) k f fd ps (spF K 1 F))(y: ∀ns:List Int,ns.length <=63->(F [.frz (ns.map aG)] []).W λd _=>d=.bl true):FnOk P w K mg base CX0 k f fd ps (aio K):=by
 have sp: ∀vs H Q E,aio K vs H Q E->spF K 1 F vs H Q λ_ _ _=>False:=λvs H Q E q=>by
  obtain⟨a,ns,rfl,I,L,c⟩:=q;have J:Rel K ⟨[],[]⟩ H []:=⟨rfl,λi j p e=>by simp at e,λn p o e=>by simp at e,λn o e=>by simp at e,λp l=>by simp at l,λp l=>by simp at l⟩;refine⟨rfl,⟨[],[]⟩,[.frz (ns.map aG)],[],J,.cons (.frz (λu H' st=>?_) (TDs.ints ns)) .nil,?_⟩
  ·exact L2.jr.seq (λb o m=>st.keep b o (by simp[As.has]) m) I
  ·have t:=y ns L;cases hr:F [.frz (ns.map aG)] []with
   |ok d s=>
    rw[hr]at t;intro b u H' st M C;have:d=.bl true:=t;subst this;cases C with
    |da z=>cases z;exact c _
   |bad=>rw[hr]at t;exact t
   |ex n ρ s=>rw[hr]at t;exact t.elim
 refine⟨λvs H Q E q=>h.len vs H Q _ (sp vs H Q E q),λA outer s H args x vs Q E hr D m v hs=>fz (h.run A outer s H args x vs Q _ hr D m v (sp vs H Q E hs)) λr s' c=>?_⟩;cases r with
 |error e=>obtain⟨_,_,_,_,_,_,_,_,_,_,_,_,_,_,_,f⟩:=c;exact f.elim
 |ok fl=>cases fl <;> exact c
end
end PF
namespace PF
open PySem PySem.Spec
variable[XW]
open L2
variable[XW]
end PF
namespace PF
open PySem PySem.Spec
open L2
open PyProof.Rows (is_bool isnot_bool)
variable[XW]
end PF
namespace PF
open PySem PySem.Spec
open PySem.SeqAt
open AutoSeq1 (wpAny_loadPart') --
open MeetsSeq MeetsSeq2 MeetsSeq3 SeqRoads2 --
def aiu(A:bh)(s:af)(x y:ae)(b:Bool):Prop:= ∀(prog:aP) (w:aM) (E:ae->af->Prop) (Q:ae->af->Prop),Q (.bool b) s->wpAny (model prog w) A (mZ .Lt x y) Q E s
inductive LexAt (A:bh) (s:af) (fin:Bool):List (ae×ae)->Bool->Prop
 |nil:LexAt A s fin [] fin
 |same {x y:ae} {r:List (ae×ae)} {b:Bool}:EqAt A s x y true->LexAt A s fin r b->LexAt A s fin ((x,y)::r) b
 |diff {x y:ae} {r:List (ae×ae)} {b:Bool}:EqAt A s x y false->aiu A s x y b->LexAt A s fin ((x,y)::r) b
theorem ash(l b:Addr)(j o:Array ae)(n n2:Nat)(z p:Option Addr)(v q:Array (Option ae))(r:Bool):
  Meets (dS.«tuple.__lt__» ⟨[.ref l,.ref b],[]⟩)
   (λA R s=>s.heap.get? l=some {cls:=.type "tuple",dict:=z,data:=.seq j n,slots:=v}/\s.heap.get? b=some {cls:=.type "tuple",dict:=p,data:=.seq o n2,slots:=q}/\
    LexAt A.in1 s (decide (j.size < o.size)) (j.toList.zip o.toList) r/\R (.ok (.ret (.bool r))) s):=
 .of_wp λprog w A R s h=>by
  (obtain⟨k,g,d,tk,os⟩:=s)
  obtain⟨C,D,c,u⟩:=h;have sub:=AutoSeq1.sub_tuple_tuple;wp_walk using m9 C,m9 D,gW _ (λje b s'=>b.1=none/\s'=⟨k,g,d,tk,os⟩/\LexAt A.in1 ⟨k,g,d,tk,os⟩ (decide (j.size < o.size)) je r) _
  case turn=>
   rintro⟨y,x⟩ je b s' ⟨a,rfl,c⟩;cases c with
   |same e t=>
    refine ac (e prog w _ _ ?_);wp_walk
    exact⟨rfl,rfl,t⟩
   |diff e t=>
    refine ac (e prog w _ _ ?_);have t': ∀(E:ae->af->Prop) (Q:ae->af->Prop),Q (.bool r) ⟨k,g,d,tk,os⟩->wpAny (model prog w) A.in1 (mZ .Lt y x) Q E ⟨k,g,d,tk,os⟩:=λE Q=>t prog w E Q
    generalize mZ .Lt y x=m at t'⊢;wp_walk
    refine t' _ _ ?_;wp_walk
    exact⟨_,rfl,u⟩
  case fin=>
   rintro⟨F,b2⟩ s' ⟨a,rfl,c⟩;simp only at a;subst a;cases c;wp_walk
   exact⟨_,rfl,by simpa[Builtin.Tuple.tupleCompareSizes] using u⟩
  case h=>exact⟨rfl,rfl,c⟩
section
variable{A:bh}{s:af} --
theorem aiu.tuples{l b:Addr}{a c:Array ae}{r:Bool}(o:s.heap.IsTuple l a)(p:s.heap.IsTuple b c)(q:A.units < cLine)(u:LexAt A.in1 s (decide (a.size < c.size)) (a.toList.zip c.toList) r):aiu A s (.ref l) (.ref b) r:=λprog w E Q h=>by
 obtain⟨⟨c1,n,z,x⟩,e,m,n1,q1⟩:=id o;obtain⟨⟨c2,v,y,t⟩,j,k,n2,d⟩:=id p;simp only at m q1 k d;subst m q1 k d;exact richCompare_meets_room (op:=.Lt) ⟨_,e,rfl⟩ ⟨_,j,rfl⟩ lf F.entry_tuple_lt (F.args_tuple_lt_2 _ _) (ash l b a c n1 n2 n v x t r) ⟨e,j,u,show jT r≠Value.notImplemented/\Q (.bool r) s from ⟨nofun,h⟩⟩ q
end
mutual
noncomputable def ltP:aa->aa->Option Bool
 |.int i,.int j=>some (decide (i < j))
 |.str a,.str b=>some (decide (a.cps.toList < b.cps.toList))
 |.tuple xs,.tuple ys=>vb xs ys
 |_,_=>none
noncomputable def vb:List aa->List aa->Option Bool
 |[],[]=>some false
 |[],_::_=>some true
 |_::_,[]=>some false
 |x::xs,y::ys=>if aX x y=true then vb xs ys else ltP x y
end
theorem y9:vb [] []=some false:=by simp only[vb]
theorem yq{y:aa}:vb [] (y::ys)=some true:=by simp only[vb]
theorem vm{y:aa}:vb (y::ys) []=some false:=by simp only[vb]
theorem ad4{x y:aa}:vb (x::xs) (y::ys)=if aX x y=true then vb xs ys else ltP x y:=by simp only[vb]
theorem aji{i j:Int}:ltP (.int i) (.int j)=some (decide (i < j)):=by simp only[ltP]
theorem adv{a b:Str}:ltP (.str a) (.str b)=some (decide (a.cps.toList < b.cps.toList)):=by simp only[ltP]
theorem aay:ltP (.tuple xs) (.tuple ys)=vb xs ys:=by simp only[ltP]
end PF
namespace PF
open PySem PySem.Spec
open PySem.SeqAt
mutual
theorem aee: ∀(da db:aa) (A:bh) (s:af) (a b:ae) (as bs:List Addr) (r:Bool),c8 s.heap a da as->c8 s.heap b db bs->da.canLay0=true->db.canLay0=true->A.units+min da.depth db.depth < cLine->ltP da db=some r->aiu A s a b r
 | .int i,db,A,s,_,_,_,_,r,ra,rb,_,_,_,h=>by
  cases db with
  |int j=>
   rw[aji]at h;cases h;cases ra;cases rb;exact λprog w E Q q=>PyProof.Rows.lt_int q
  |none=>simp[ltP]at h
  |bool _=>simp[ltP]at h
  |str _=>simp[ltP]at h
  |list _=>simp[ltP]at h
  |tuple _=>simp[ltP]at h
  |dict _=>simp[ltP]at h
 | .str x,db,A,s,_,_,_,_,r,ra,rb,_,_,_,h=>by
  cases db with
  |str j=>
   rw[adv]at h;cases h;cases ra;cases rb;exact λprog w E Q q=>PyProof.Rows.lt_str q
  |none=>simp[ltP]at h
  |bool _=>simp[ltP]at h
  |int _=>simp[ltP]at h
  |list _=>simp[ltP]at h
  |tuple _=>simp[ltP]at h
  |dict _=>simp[ltP]at h
 | .tuple xs,db,A,s,_,_,_,_,r,ra,rb,ha,hb,hu,h=>by
  cases db with
  | tuple ys=>
   rw[aay]at h;cases ra with
   | tuple h1 h2 h3 h4=>
    cases rb with
    |tuple k1 k2 k3 k4=>
     refine aiu.tuples ⟨_,h1,h2,_,h3⟩ ⟨_,k1,k2,_,k3⟩ (room_here hu) ?_;have t:=adb xs ys A.in1 s _ _ _ _ r h4 k4 ha hb (room_in hu) h;simpa using t
  |none=>simp[ltP]at h
  |bool _=>simp[ltP]at h
  |int _=>simp[ltP]at h
  |list _=>simp[ltP]at h
  |str _=>simp[ltP]at h
  |dict _=>simp[ltP]at h
 |.none,_,_,_,_,_,_,_,_,_,_,_,_,_,h=>by simp[ltP]at h
 |.bool _,_,_,_,_,_,_,_,_,_,_,_,_,_,h=>by simp[ltP]at h
 |.list _,_,_,_,_,_,_,_,_,_,_,_,_,_,h=>by simp[ltP]at h
 |.dict _,_,_,_,_,_,_,_,_,_,_,ha,_,_,_=>nomatch ha
theorem adb: ∀(xs ys:List aa) (A:bh) (s:af) (vs ws:List ae) (as bs:List Addr) (r:Bool),cD s.heap vs xs as->cD s.heap ws ys bs->bH xs=true->bH ys=true->A.units+min (cK xs) (cK ys) < cLine->vb xs ys=some r->LexAt A s (decide (vs.length < ws.length)) (vs.zip ws) r
 |[],[],A,s,_,_,_,_,r,ra,rb,_,_,_,h=>by
  cases ra;cases rb;rw[y9]at h;cases h;exact .nil
 |[],_::_,A,s,_,_,_,_,r,ra,rb,_,_,_,h=>by
  cases ra;cases rb;rw[yq]at h;cases h;simpa using LexAt.nil (A:=A) (s:=s) (fin:=true)
 |_::_,[],A,s,_,_,_,_,r,ra,rb,_,_,_,h=>by
  cases ra;cases rb;rw[vm]at h;cases h;simpa using LexAt.nil (A:=A) (s:=s) (fin:=false)
 | x ::xs,y::ys,A,s,_,_,_,_,r,ra,rb,ha,hb,hu,h=>by
  have ha':x.canLay0=true/\bH xs=true:=by simpa[bH] using ha
  have hb':y.canLay0=true/\bH ys=true:=by simpa[bH] using hb
  rw[ad4]at h;cases ra with
  | cons r1 rs=>
   cases rb with
   | cons r2 rs2=>
    have e:=eqAt_reads x y A s _ _ _ _ r1 r2 ha'.1 hb'.1 (mN hu);rw[iV,aE,aE];by_cases q:aX x y=true
    ·rw[if_pos q]at h;rw[q]at e;have t:=adb xs ys A s _ _ _ _ r rs rs2 ha'.2 hb'.2 (room_tail hu) h;refine .same e ?_;simpa using t
    ·rw[if_neg q]at h;rw[fM]at q;rw[q]at e;exact .diff e (aee x y A s _ _ _ _ r r1 r2 ha'.1 hb'.1 (mN hu) h)
end
end PF
namespace PF
open PySem PySem.Spec
theorem aau{x y:aa}(hx:plD x=true)(a:plD y=true)(h:x≠y):vb (x::xs) (y::ys)=ltP x y:=by
 rw[ad4,if_neg (λz=>h ((ag4 x y hx a).mp z))]
theorem afr{x:aa}(hx:plD x=true):vb (x::xs) (x::ys)=vb xs ys:=by
 rw[ad4,if_pos (aw4 hx)]
mutual
theorem a3y: ∀a:aa,plD a=true->ltP a a≠some true
 |.none,_=>by simp[ltP]
 |.int i,_=>by simp[ltP]
 |.str i,_=>by rw[adv];simp[List.lt_irrefl]
 |.tuple xs,h=>by rw[aay];exact apb xs (by rw[←j9];exact h)
 |.bool _,h=>by simp[plD]at h
 |.list _,h=>by simp[plD]at h
 |.dict _,h=>by simp[plD]at h
theorem apb: ∀xs:List aa,xu xs=true->vb xs xs≠some true
 |[],_=>by rw[y9];simp
 |x::xs,h=>by
  rw[jz,aJ]at h;rw[afr h.1];exact apb xs h.2
end
mutual
theorem az3: ∀a b:aa,plD a=true->plD b=true->ltP a b=some true->ltP b a=some false
 |.int i,b,_,hb,h=>by
  cases b <;> simp[ltP]at h⊢
  lia
 |.str i,b,_,hb,h=>by
  cases b <;> simp[ltP]at h⊢
  exact List.le_of_lt h
 |.tuple xs,.tuple ys,ha,hb,h=>by
  rw[aay]at h⊢;exact aum xs ys (by rw[←j9];exact ha) (by rw[←j9];exact hb) h
 |.tuple xs,.none,_,_,h=>by simp[ltP]at h
 |.tuple xs,.int _,_,_,h=>by simp[ltP]at h
 |.tuple xs,.str _,_,_,h=>by simp[ltP]at h
 |.tuple xs,.bool _,_,hb,_=>by simp[plD]at hb
 |.tuple xs,.list _,_,hb,_=>by simp[plD]at hb
 |.tuple xs,.dict _,_,hb,_=>by simp[plD]at hb
 |.none,_,_,_,h=>by simp[ltP]at h
 |.bool _,_,ha,_,_=>by simp[plD]at ha
 |.list _,_,ha,_,_=>by simp[plD]at ha
 |.dict _,_,ha,_,_=>by simp[plD]at ha
theorem aum: ∀xs ys:List aa,xu xs=true->xu ys=true->vb xs ys=some true->vb ys xs=some false
 |[],[],_,_,h=>by rw[y9]at h;cases h
 |[],_::_,_,_,h=>by rw[vm]
 |_::_,[],_,_,h=>by rw[vm]at h;cases h
 | x::xs,y::ys,ha,hb,h=>by
  rw[jz,aJ]at ha hb;by_cases e:x=y
  ·subst e;rw[afr ha.1]at h⊢;exact aum xs ys ha.2 hb.2 h
  ·rw[aau ha.1 hb.1 e]at h;rw[aau hb.1 ha.1 (bu e)];exact az3 x y ha.1 hb.1 h
end
theorem a7o{a b:aa}(c:plD a=true)(h:ltP a b=some true):a≠b:=λe=>by subst e;exact a3y a c h
mutual
theorem av4: ∀a b:aa,plD a=true->plD b=true->ltP a b=some false->a=b\/ltP b a=some true
 |.int i,b,_,hb,h=>by
  cases b <;> simp[ltP]at h⊢
  lia
 | .str i,b,_,hb,h=>by
  cases b with
  | str j=>
   simp[ltP]at h⊢;rcases List.le_iff_lt_or_eq.mp h with z|z
   ·exact .inr z
   ·refine .inl ?_;cases i;cases j;simp at z;simp[z]
  |_=>simp[ltP]at h
 |.tuple xs,.tuple ys,ha,hb,h=>by
  rw[aay]at h⊢;rcases apa xs ys (by rw[←j9];exact ha) (by rw[←j9];exact hb) h with z|z
  ·exact .inl (by rw[z])
  ·exact .inr z
 |.tuple xs,.none,_,_,h=>by simp[ltP]at h
 |.tuple xs,.int _,_,_,h=>by simp[ltP]at h
 |.tuple xs,.str _,_,_,h=>by simp[ltP]at h
 |.tuple xs,.bool _,_,hb,_=>by simp[plD]at hb
 |.tuple xs,.list _,_,hb,_=>by simp[plD]at hb
 |.tuple xs,.dict _,_,hb,_=>by simp[plD]at hb
 |.none,_,_,_,h=>by simp[ltP]at h
 |.bool _,_,ha,_,_=>by simp[plD]at ha
 |.list _,_,ha,_,_=>by simp[plD]at ha
 |.dict _,_,ha,_,_=>by simp[plD]at ha
theorem apa: ∀xs ys:List aa,xu xs=true->xu ys=true->vb xs ys=some false->xs=ys\/vb ys xs=some true
 |[],[],_,_,h=>.inl rfl
 |[],_::_,_,_,h=>by rw[yq]at h;cases h
 |_::_,[],_,_,h=>.inr yq
 | x::xs,y::ys,ha,hb,h=>by
  rw[jz,aJ]at ha hb;by_cases e:x=y
  ·subst e;rw[afr ha.1]at h⊢;rcases apa xs ys ha.2 hb.2 h with z|z
   ·exact .inl (by rw[z])
   ·exact .inr z
  ·rw[aau ha.1 hb.1 e]at h;rw[aau hb.1 ha.1 (bu e)];rcases av4 x y ha.1 hb.1 h with z|z
   ·exact absurd z e
   ·exact .inr z
end
mutual
theorem az0: ∀a b c:aa,plD a=true->plD b=true->plD c=true->ltP a b=some true->ltP b c=some true->ltP a c=some true
 |.int i,b,c,_,_,_,h,k=>by
  cases b <;> simp[ltP]at h
  cases c <;> simp[ltP]at k⊢
  lia
 |.str i,b,c,_,_,_,h,k=>by
  cases b <;> simp[ltP]at h
  cases c <;> simp[ltP]at k⊢
  exact List.lt_trans h k
 |.tuple xs,.tuple ys,.tuple zs,ha,hb,hc,h,k=>by
  rw[aay]at h k⊢;exact avj xs ys zs (by rw[←j9];exact ha) (by rw[←j9];exact hb) (by rw[←j9];exact hc) h k
 |.tuple xs,.tuple ys,.none,_,_,_,_,h=>by simp[ltP]at h
 |.tuple xs,.tuple ys,.int _,_,_,_,_,h=>by simp[ltP]at h
 |.tuple xs,.tuple ys,.str _,_,_,_,_,h=>by simp[ltP]at h
 |.tuple xs,.tuple ys,.bool _,_,_,hb,_,_=>by simp[plD]at hb
 |.tuple xs,.tuple ys,.list _,_,_,hb,_,_=>by simp[plD]at hb
 |.tuple xs,.tuple ys,.dict _,_,_,hb,_,_=>by simp[plD]at hb
 |.tuple xs,.none,_,_,_,_,h,_=>by simp[ltP]at h
 |.tuple xs,.int _,_,_,_,_,h,_=>by simp[ltP]at h
 |.tuple xs,.str _,_,_,_,_,h,_=>by simp[ltP]at h
 |.tuple xs,.bool _,_,_,hb,_,_,_=>by simp[plD]at hb
 |.tuple xs,.list _,_,_,hb,_,_,_=>by simp[plD]at hb
 |.tuple xs,.dict _,_,_,hb,_,_,_=>by simp[plD]at hb
 |.none,_,_,_,_,_,h,_=>by simp[ltP]at h
 |.bool _,_,_,ha,_,_,_,_=>by simp[plD]at ha
 |.list _,_,_,ha,_,_,_,_=>by simp[plD]at ha
 |.dict _,_,_,ha,_,_,_,_=>by simp[plD]at ha
theorem avj: ∀xs ys zs:List aa,xu xs=true->xu ys=true->xu zs=true->vb xs ys=some true->vb ys zs=some true->vb xs zs=some true
 |[],ys,[],_,_,_,h,k=>by
  cases ys with
  |nil=>rw[y9]at h;cases h
  |cons y ys=>rw[vm]at k;cases k
 |[],_,_::_,_,_,_,_,_=>yq
 |_::_,[],_,_,_,_,h,_=>by rw[vm]at h;cases h
 |_::_,_::_,[],_,_,_,_,k=>by rw[vm]at k;cases k
 | x::xs,y::ys,z::zs,ha,hb,hc,h,k=>by
  rw[jz,aJ]at ha hb hc;by_cases e:x=y
  ·subst e;rw[afr ha.1]at h;by_cases e2:x=z
   ·subst e2;rw[afr ha.1]at k⊢;exact avj xs ys zs ha.2 hb.2 hc.2 h k
   ·rw[aau ha.1 hc.1 e2]at k⊢;exact k
  ·rw[aau ha.1 hb.1 e]at h;by_cases e2:y=z
   ·subst e2;rw[aau ha.1 hb.1 e];exact h
   ·rw[aau hb.1 hc.1 e2]at k;have t:=az0 x y z ha.1 hb.1 hc.1 h k;rw[aau ha.1 hc.1 (a7o ha.1 t)];exact t
end
def ltb(a b:aa):Bool:=match ltP a b with
 |some true=>true
 |_=>false
theorem zr{a b:aa}:ltb a b=true ↔ ltP a b=some true:=by
 unfold ltb;split
 ·rename_i h;simp[h]
 ·rename_i h;constructor
  ·intro z;cases z
  ·intro z;exact absurd z h
def qw(ds:List aa):Bool:=ds.all λa=>plD a&&ds.all λb=>(ltP a b).isSome
theorem aba(h:qw ds=true){a:aa}(m:a∈ds):plD a=true:=by
 have:=aB.mp h a m;rw[aJ]at this;exact this.1
theorem aff(h:qw ds=true){a b:aa}(m:a∈ds)(k:b∈ds): ∃r,ltP a b=some r:=by
 have:=aB.mp h a m;rw[aJ]at this;have:=aB.mp this.2 b k;exact gf.mp this
theorem ai4(h:qw ds=true){a b:aa}(m:a∈ds)(k:b∈ds)(e:ltb a b=false):a=b\/ltb b a=true:=by
 obtain⟨r,hr⟩:=aff h m k;cases r with
 |true=>rw[zr.mpr hr]at e;cases e
 |false=>
  rcases av4 a b (aba h m) (aba h k) hr with z|z
  ·exact .inl z
  ·exact .inr (zr.mpr z)
theorem am5(h:qw ds=true){a b:aa}(m:a∈ds)(k:b∈ds)(e:ltb a b=true):ltb b a=false:=by
 have:=az3 a b (aba h m) (aba h k) (zr.mp e);cases q:ltb b a with
 |false=>rfl
 |true=>rw[zr.mp q]at this;cases this
theorem a48(h:qw ds=true){a b c:aa}(m:a∈ds)(k:b∈ds)(l:c∈ds)(e:ltb a b=true)(d:ltb b c=true):ltb a c=true:=
 zr.mpr (az0 a b c (aba h m) (aba h k) (aba h l) (zr.mp e) (zr.mp d))
theorem apf(h:qw ds=true){a b c:aa}(m:a∈ds)(k:b∈ds)(l:c∈ds)(e:ltb a b=false)(d:ltb b c=false):ltb a c=false:=by
 rcases ai4 h m k e with rfl|z
 ·exact d
 ·rcases ai4 h k l d with rfl|z2
  ·exact e
  ·exact am5 h l m (a48 h l k m z2 z)
abbrev abd(ds:List aa):Prop:=ds.Pairwise λa b=>ltb b a=false
def ajd(x:aa):List aa->List aa
 |[]=>[x]
 |y::r=>if ltb y x=true then y::ajd x r else x::y::r
def vf:List aa->List aa
 |[]=>[]
 |x::r=>ajd x (vf r)
theorem ahf(x:aa): ∀l:List aa,(ajd x l).Perm (x::l)
 |[]=>.refl _
 |y::r=>by
  unfold ajd;split
  ·exact((ahf x r).cons y).trans (.swap x y r)
  ·exact .refl _
theorem xf: ∀l:List aa,(vf l).Perm l
 |[]=>.refl _
 |x::r=>(ahf x _).trans ((xf r).cons x)
theorem al6{ds:List aa}(h:qw ds=true){x:aa}(hx:x∈ds): ∀l:List aa,(∀y∈l,y∈ds)->abd l->abd (ajd x l)
 |[],_,_=>List.pairwise_singleton _ _
 | y::r,a,hr=>by
  obtain⟨d,e⟩:=iW.mp hr;have b:=a y au;unfold ajd;split
  ·rename_i c;refine iW.mpr ⟨λz hz=>?_,al6 h hx r (λz hz=>a z (aq _ hz)) e⟩;rcases aL.mp ((ahf x r).mem_iff.mp hz) with rfl|hz
   ·exact am5 h b hx c
   ·exact d z hz
  ·rename_i c;have c':ltb y x=false:=by simpa using c
   refine iW.mpr ⟨λz hz=>?_,hr⟩
   (rcases aL.mp hz with rfl|hz)
   ·exact c'
   ·exact apf h (a z (aq _ hz)) b hx (d z hz) c'
theorem ail{ds:List aa}(h:qw ds=true): ∀l:List aa,(∀y∈l,y∈ds)->abd (vf l)
 |[],_=>jP
 |x::r,b=>al6 h (b x au) _ (λy a=>b y (aq _ ((xf r).mem_iff.mp a))) (ail h r λy a=>b y (aq _ a))
theorem afb(h:qw ds=true):abd (vf ds):=ail h ds λ_ y=>y
theorem ax4{m:List aa}(h:qw ds=true)(pl:l.Perm ds)(pm:m.Perm ds)(k:abd l)(hm:abd m):l=m:=by
 refine kI (le:=λa b=>ltb b a=false) ?_ k hm (pl.trans pm.symm);intro a b c d e j;rcases ai4 h (pm.mem_iff.mp d) (pl.mem_iff.mp c) e with z|z
 ·exact z.symm
 ·rw[j]at z;cases z
theorem axy(h:qw ds=true)(pl:l.Perm ds)(a:abd l):l=vf ds:=ax4 h pl (xf ds) a (afb h)
end PF
namespace KS
open PySem PySem.W PyProof.Rows
noncomputable def run{α:Type}(lt:Nat->Nat->Bool):KasT α->α
 |.ret a=>a
 |.ask i j k=>run lt (k (lt i j))
section
variable{lt:Nat->Nat->Bool}
theorem ab8{α β:Type}(f:α->KasT β): ∀t:KasT α,run lt (t.bind f)=run lt (f (run lt t))
 |.ret a=>rfl
 |.ask i j k=>ab8 f (k (lt i j))
theorem zj{α:Type}(a:α):run lt (.ret a)=a:=rfl
theorem adp{α:Type}(i j:Nat)(k:Bool->KasT α):run lt (.ask i j k)=run lt (k (lt i j)):=rfl
theorem ac9{α:Type}(c:Prop)[Decidable c](a b:KasT α):run lt (if c then a else b)=if c then run lt a else run lt b:=by split <;> rfl
structure Swo (lt:Nat->Nat->Bool):Prop where
 tr: ∀{a b c},lt a b=false->lt b c=false->lt a c=false
 as: ∀{a b},lt a b=true->lt b a=false
theorem Swo.irr(w:Swo lt)(a:Nat):lt a a=false:=by
 cases h:lt a a with
 |false=>rfl
 |true=>have:=w.as h;rw[h]at this;exact this
def Up(lt:Nat->Nat->Bool)(p:Array Nat)(m:Nat):Prop:= ∀k,0 < k->k < m->lt (p.getD k 0) (p.getD (k - 1) 0)=false
def y7(lt:Nat->Nat->Bool)(p:Array Nat)(m:Nat):Prop:= ∀k,0 < k->k < m->lt (p.getD (k - 1) 0) (p.getD k 0)=false
theorem Up.all(w:Swo lt){p:Array Nat}{m:Nat}(h:Up lt p m): ∀(d i:Nat),i+d < m->lt (p.getD (i+d) 0) (p.getD i 0)=false
 |0,i,_=>w.irr _
 |d+1,i,b=>by
  have a:=h (i+(d+1)) (by lia) b;rw[show i+(d+1) - 1=i+d by lia]at a;exact w.tr a (Up.all w h d i (by lia))
theorem Up.le(w:Swo lt){p:Array Nat}(h:Up lt p m)(a:i <=j)(b:j < m):lt (p.getD j 0) (p.getD i 0)=false:=by
 have:=Up.all w h (j - i) i (by lia)
 rwa [show i+(j - i)=j by lia]at this
theorem y7.all(w:Swo lt){p:Array Nat}{m:Nat}(h:y7 lt p m): ∀(d i:Nat),i+d < m->lt (p.getD i 0) (p.getD (i+d) 0)=false
 |0,i,_=>w.irr _
 |d+1,i,b=>by
  have a:=h (i+(d+1)) (by lia) b;rw[show i+(d+1) - 1=i+d by lia]at a;exact w.tr (y7.all w h d i (by lia)) a
theorem y7.le(w:Swo lt){p:Array Nat}(h:y7 lt p m)(a:i <=j)(b:j < m):lt (p.getD i 0) (p.getD j 0)=false:=by
 have:=y7.all w h (j - i) i (by lia)
 rwa [show i+(j - i)=j by lia]at this
theorem alm{p:Array Nat}: ∀(f n:Nat),0 < n->Up lt p n->n <=run lt (gz p f n)/\run lt (gz p f n) <=n+f/\Up lt p (run lt (gz p f n))/\(run lt (gz p f n) < n+f->lt (p.getD (run lt (gz p f n)) 0) (p.getD (run lt (gz p f n) - 1) 0)=true)
 |0,n,_,h=>by
  rw[gz,zj];exact⟨aj _,aj _,h,λz=>absurd z (by lia)⟩
 | f +1,n,m,h=>by
  rw[gz,adp];cases e:lt (p.getD n 0) (p.getD (n - 1) 0) with
  |true=>
   rw[if_pos rfl,zj];exact⟨aj _,by lia,h,λ_=>e⟩
  | false=>
   rw[if_neg az];have up:Up lt p (n+1):=λk j l=>by
    by_cases z:k < n
    ·exact h k j z
    ·have:k=n:=by lia
     subst this;exact e
   obtain⟨a,b,c,d⟩:=alm f (n+1) (by lia) up;exact⟨by lia,by lia,c,λz=>d (by lia)⟩
theorem aho(w:Swo lt){p:Array Nat}{k:Nat}(up:Up lt p k): ∀(f l r:Nat),l <=r->r <=k->r - l <=f->(∀i,i < l->lt (p.getD k 0) (p.getD i 0)=false)->(∀i,r <=i->i < k->lt (p.getD k 0) (p.getD i 0)=true) ->
  run lt (gn p k f l r) <=k/\(∀i,i < run lt (gn p k f l r)->lt (p.getD k 0) (p.getD i 0)=false)/\ ∀i,run lt (gn p k f l r) <=i->i < k->lt (p.getD k 0) (p.getD i 0)=true
 |0,l,r,d,a,u,c,b=>by
  have:l=r:=by lia
  subst this;rw[gn,zj];exact⟨a,c,b⟩
 | f +1,l,r,d,a,u,c,b=>by
  rw[gn,ac9];by_cases z:l≥r
  ·rw[if_pos z,zj];have:l=r:=by lia
   subst this;exact⟨a,c,b⟩
  ·rw[if_neg z,adp];have n:l <=(l+r)/2:=by lia
   have v:(l+r)/2 < r:=by lia
   generalize (l+r)/2=m at n v;cases e:lt (p.getD k 0) (p.getD m 0) with
   | true=>
    rw[if_pos rfl];refine aho w up f l m n (by lia) (by lia) c λi o h=>?_
    by_cases q:r <=i
    ·exact b i q h
    ·cases t:lt (p.getD k 0) (p.getD i 0) with
     |true=>rfl
     |false=>
      have:=w.tr t (up.le w (i:=m) (j:=i) o h);rw[e]at this;cases this
   |false=>
    rw[if_neg az];refine aho w up f (m+1) r (by lia) a (by lia) (λi o=>?_) b;exact w.tr e (up.le w (i:=i) (j:=m) (by lia) (by lia))
end
section
variable{lt:Nat->Nat->Bool}
theorem gd(p:Array Nat)(k:Nat):p.getD k 0=(p[k]?).getD 0:=Array.getD_eq_getD_getElem? ..
theorem apn{p:Array Nat}{k d:Nat}(hk:k < p.size)(hd:d <=k)(i:Nat):(bubble p k d).getD i 0=if i=k - d then p.getD k 0 else if k - d < i/\i <=k then p.getD (i - 1) 0 else p.getD i 0:=by
 rw[gd,getElem?_bubble hk d hd];by_cases c1:i=k - d
 ·rw[if_pos c1,if_pos c1];exact(gd p k).symm
 ·rw[if_neg c1,if_neg c1];by_cases c2:k - d < i/\i <=k
  ·rw[if_pos c2,if_pos c2];exact(gd p _).symm
  ·rw[if_neg c2,if_neg c2];exact(gd p _).symm
theorem yy{p:Array Nat}(a:j <=p.size)(k:Nat):(ic p i j).getD k 0=if i <=k/\k < j then p.getD (i+j - 1 - k) 0 else p.getD k 0:=by
 unfold ic;rw[gd,getElem?_mirror_all a];split <;> rw[gd]
theorem ym(p:Array Nat)(i j:Nat):(ic p i j).Perm p:=mirror_perm _ _ _ _
theorem amu(p:Array Nat)(i j:Nat):(ic p i j).size=p.size:=mirror_size _ _ _ _
theorem asp(w:Swo lt): ∀(f:Nat) (p:Array Nat) (k:Nat),k+f=p.size->Up lt p k->(run lt (mT f p k)).Perm p/\Up lt (run lt (mT f p k)) p.size
 |0,p,k,hs,up=>by
  rw[mT,zj];have:k=p.size:=by lia
  subst this;exact⟨.refl _,up⟩
 | f +1,p,k,hs,up=>by
  rw[mT,ab8];obtain⟨e,d,c⟩:=aho w up k 0 k (bn _) (aj _) (by lia) (λi h=>absurd h (Nat.not_lt_zero _)) (λi q j=>absurd j (by lia));generalize run lt (gn p k k 0 k)=l at e d c;have hk:k < p.size:=by lia
  have up1:Up lt (bubble p k (k - l)) (k+1):=λi m o=>by
   rw[apn hk (by lia),apn hk (by lia),show k - (k - l)=l by lia];by_cases c1:i < l
   ·rw[if_neg (by lia),if_neg (by lia),if_neg (by lia),if_neg (by lia)];exact up i m (by lia)
   ·by_cases c2:i=l
    ·subst c2;rw[if_pos rfl,if_neg (by lia),if_neg (by lia)];exact d (i - 1) (by lia)
    ·by_cases n:i=l+1
     ·subst n;rw[if_neg (by lia),if_pos (by lia),if_pos (by lia)];exact w.as (c _ (by lia) (by lia))
     ·rw[if_neg (by lia),if_pos (by lia),if_neg (by lia),if_pos (by lia)];exact up (i - 1) (by lia) (by lia)
  obtain⟨a,b⟩:=asp w f (bubble p k (k - l)) (k+1) (by rw[bubble_size];lia) up1;exact⟨a.trans (bubble_perm _ _ _),by rw[bubble_size]at b;exact b⟩
def Seg(lt:Nat->Nat->Bool)(p:Array Nat)(n q:Nat):Prop:= ∀k,n - 1 - q < k->k < n->lt (p.getD k 0) (p.getD (k - 1) 0)=false
theorem amr(w:Swo lt){p:Array Nat}{q:Nat}(hn:n <=p.size)(c:q < n)(d:y7 lt p n)(s:Seg lt p n q):y7 lt (ic p (n - (q+1)) n) n:=λk a b=>by
 rw[yy hn,yy hn];by_cases c1:k < n - (q+1)
 ·rw[if_neg (by lia),if_neg (by lia)];exact d k a b
 ·by_cases c2:k=n - (q+1)
  ·rw[if_neg (by lia),if_pos (by lia)];exact d.le w (by lia) (by lia)
  ·rw[if_pos (by lia),if_pos (by lia)];have:=s (n - (q+1)+n - 1 - (k - 1)) (by lia) (by lia)
   rwa [show n - (q+1)+n - 1 - (k - 1) - 1=n - (q+1)+n - 1 - k by lia]at this
theorem a5w{p:Array Nat}(hn:n <=p.size)(d:y7 lt p n):Up lt (ic p 0 n) n:=λk b a=>by
 rw[yy hn,yy hn,if_pos (by lia),if_pos (by lia)];have:=d (0+n - 1 - (k - 1)) (by lia) (by lia)
 rwa [show 0+n - 1 - (k - 1) - 1=0+n - 1 - k by lia]at this
theorem a4g{p:Array Nat}(hn:n <=p.size)(d:Up lt p n):y7 lt (ic p 0 n) n:=λk b a=>by
 rw[yy hn,yy hn,if_pos (by lia),if_pos (by lia)];have:=d (0+n - 1 - (k - 1)) (by lia) (by lia)
 rwa [show 0+n - 1 - (k - 1) - 1=0+n - 1 - k by lia]at this
theorem abo{p:Array Nat}(d:y7 lt p n)(h:lt (p.getD (n - 1) 0) (p.getD n 0)=false):y7 lt p (n+1):=λk a b=>by
 by_cases z:k < n
 ·exact d k a z
 ·have:k=n:=by lia
  subst this;exact h
structure DescOk (lt:Nat->Nat->Bool) (p:Array Nat) (n f:Nat) (r:Array Nat×Nat×Nat):Prop where
 pm:r.1.Perm p
 n1:n <=r.2.1
 n2:r.2.1 <=n+f
 q1:r.2.2 < r.2.1
 dn:y7 lt r.1 r.2.1
 sg:Seg lt r.1 r.2.1 r.2.2
theorem agf(w:Swo lt): ∀(f:Nat) (p:Array Nat) (n q:Nat),n+f <=p.size->q < n->y7 lt p n->Seg lt p n q->DescOk lt p n f (run lt (lX f p n q))
 |0,p,n,q,hs,m,d,s=>by
  rw[lX,zj];exact⟨.refl _,aj _,aj _,m,d,s⟩
 | f +1,p,n,q,hs,m,d,s=>by
  rw[lX,adp];cases e:lt (p.getD n 0) (p.getD (n - 1) 0) with
  | true=>
   rw[if_pos rfl,ac9];have l: ∀p:Array Nat,Seg lt p (n+1) 0:=λp k x t=>absurd t (by lia)
   by_cases z:q > 0
   ·rw[if_pos z];have hn:n <=p.size:=by lia
    have u:y7 lt (ic p (n - (q+1)) n) (n+1):=by
     refine abo (amr w hn m d s) ?_;rw[yy hn,yy hn,if_pos (by lia),if_neg (by lia),show n - (q+1)+n - 1 - (n - 1)=n - (q+1) by lia];exact w.tr (d.le w (i:=n - (q+1)) (j:=n - 1) (by lia) (by lia)) (w.as e)
    obtain⟨h,r,o,b,a,c⟩:=agf w f _ (n+1) 0 (by rw[amu];lia) (by lia) u (l _);exact⟨h.trans (ym _ _ _),by lia,by lia,b,a,c⟩
   ·rw[if_neg z];obtain⟨h,r,o,b,a,c⟩:=agf w f p (n+1) 0 (by lia) (by lia) (abo d (w.as e)) (l _);exact⟨h,by lia,by lia,b,a,c⟩
  | false=>
   rw[if_neg az,adp];cases v:lt (p.getD (n - 1) 0) (p.getD n 0) with
   |true=>
    rw[if_pos rfl,zj];exact⟨.refl _,aj _,by simp,m,d,s⟩
   | false=>
    rw[if_neg az];have y:Seg lt p (n+1) (q+1):=λk x t=>by
     by_cases z:k < n
     ·exact s k (by lia) z
     ·have:k=n:=by lia
      subst this;exact e
    obtain⟨h,r,o,b,a,c⟩:=agf w f p (n+1) (q+1) (by lia) (by lia) (abo d v) y;exact⟨h,by lia,by lia,b,a,c⟩
structure CountOk (lt:Nat->Nat->Bool) (p:Array Nat) (nrem:Nat) (r:Nat×Array Nat):Prop where
 pm:r.2.Perm p
 n1:1 <=r.1
 n2:r.1 <=nrem
 up:Up lt r.2 r.1
theorem ana{p h:Array Nat}{e:Nat}(j:0 < n)(hn:n <=e)(hz:e <=p.size)(pm:p.Perm h)(d:y7 lt p n):CountOk lt h e (run lt (mO n e p)):=by
 unfold mO;rw[ab8,zj];obtain⟨a,b,c,_⟩:=alm (lt:=lt) (p:=ic p 0 n) (e - n) n j (a5w (by lia) d);exact⟨(ym _ _ _).trans pm,by show 1 <=_;lia,by show _ <=e;lia,c⟩
theorem agz(w:Swo lt){p c:Array Nat}{a:Nat}(m:0 < n)(hn:n+1 <=a)(hz:a <=p.size)(pm:p.Perm c)(d:y7 lt p (n+1)):CountOk lt c a (run lt (mP n a p)):=by
 unfold mP;rw[ab8];have D:=agf w (a - (n+1)) p (n+1) 0 (by lia) (by lia) d (λk o h=>absurd h (by lia));generalize run lt (lX (a - (n+1)) p (n+1) 0)=r at D;obtain⟨b,t,q,j,e,l⟩:=D;have sz:r.1.size=p.size:=b.size_eq;rw[ac9];split
 ·exact ana (by lia) (by lia) (by rw[amu];lia) ((ym _ _ _).trans (b.trans pm)) (amr w (by lia) j e l)
 ·exact ana (by lia) (by lia) (by lia) (b.trans pm) e
theorem aw5(w:Swo lt){p:Array Nat}{j:Nat}(r:1 <=j)(hz:j=p.size):CountOk lt p j (run lt (mQ j p)):=by
 unfold mQ;rw[ab8];obtain⟨a,b,c,d⟩:=alm (lt:=lt) (p:=p) (j - 1) 1 (by lia) (λk o l=>absurd l (by lia));generalize run lt (gz p (j - 1) 1)=n at a b c d;rw[ac9];split
 ·rename_i e;exact⟨.refl _,a,by show n <=j;lia,c⟩
 ·rename_i e;have q:n≠j:=λz=>e (by subst z;exact beq_self_eq_true n)
  have d':=d (by lia);rw[ac9];split
  ·rename_i h;rw[adp];cases m:lt (p.getD 0 0) (p.getD (n - 1) 0) with
   |true=>
    rw[if_pos rfl,zj];exact⟨.refl _,a,by show n <=j;lia,c⟩
   |false=>
    rw[if_neg az];refine agz w (by lia) (by lia) (by rw[amu];lia) (ym _ _ _) (abo (a4g (by lia) c) ?_);rw[yy (by lia),yy (by lia),if_pos (by lia),if_neg (by lia),show 0+n - 1 - (n - 1)=0 by lia];exact w.tr m (w.as d')
  ·rename_i h;have:n=1:=by lia
   subst this;exact agz w (by lia) (by lia) (by lia) (.refl _) (abo (λk o l=>absurd l (by lia)) (w.as d'))
theorem aof(w:Swo lt)(j:1 <=n):(run lt (ff n)).Perm (fF (a8 n))/\Up lt (run lt (ff n)) n:=by
 unfold ff;rw[ab8];have hz:n=(fF (a8 n)).size:=by simp
 obtain⟨a,b,c,d⟩:=aw5 w (p:=fF (a8 n)) j hz;generalize run lt (mQ n (fF (a8 n)))=r at a b c d;have sz:r.2.size=n:=by rw[a.size_eq];exact hz.symm
 rw[ac9];split
 ·rw[show max r.1 1=r.1 by lia];obtain⟨e,f⟩:=asp w (n - r.1) r.2 r.1 (by lia) d;exact⟨e.trans a,by rw[sz]at f;exact f⟩
 ·rename_i h;have:r.1=n:=by lia
  rw[this]at d;exact⟨a,d⟩
end
def ab1{α:Type}(n:Nat):KasT α->(α->Prop)->Prop
 |.ret a,P=>P a
 |.ask i j k,P=>i < n/\j < n/\ ∀b,ab1 n (k b) P
section
variable{lt:Nat->Nat->Bool}{n:Nat}
theorem aaf{α β:Type}{f:α->KasT β}{P:α->Prop}{c:β->Prop}(h: ∀a,P a->ab1 n (f a) c): ∀t:KasT α,ab1 n t P->ab1 n (t.bind f) c
 |.ret a,q=>h a q
 |.ask i j k,q=>⟨q.1,q.2.1,λb=>aaf h (k b) (q.2.2 b)⟩
theorem al9{α:Type}{b:Nat->Nat->(Bool->af->Prop)->af->Prop}{s:af}{P:α->Prop}{Q:α->af->Prop}(c: ∀i j (C:Bool->af->Prop),i < n->j < n->C (lt i j) s->b i j C s): ∀t:KasT α,ab1 n t P->Q (run lt t) s->t.kasWp b Q s
 |.ret a,_,q=>q
 |.ask i j k,a,q=>c i j _ a.1 a.2.1 (al9 c (k (lt i j)) (a.2.2 _) q)
def All(n:Nat)(p:Array Nat):Prop:= ∀x∈p.toList,x < n
theorem All.get{p:Array Nat}(h:All n p)(a:0 < n)(k:Nat):p.getD k 0 < n:=by
 rw[gd];cases e:p[k]? with
 |none=>exact a
 |some x=>exact h x (by rw[←fB]at e;exact bE e)
theorem All.perm{p q:Array Nat}(h:All n p)(e:q.Perm p):All n q:=λx hx=>h x ((fV.mp e).mem_iff.mp hx)
theorem ahh{p:Array Nat}(h:All n p)(a:0 < n): ∀f m:Nat,ab1 n (gz p f m) λ_=>True
 |0,m=>trivial
 |f+1,m=>⟨h.get a _,h.get a _,λb=>by
  cases b with
  |true=>dsimp only;rw[if_pos rfl];trivial
  |false=>dsimp only;rw[if_neg az];exact ahh h a f (m+1)⟩
theorem ad7(a:0 < n): ∀(f:Nat) (p:Array Nat) (m q:Nat),All n p->ab1 n (lX f p m q) λr=>All n r.1
 |0,p,m,q,h=>h
 | f+1,p,m,q,h=>⟨h.get a _,h.get a _,λb=>by
  cases b with
  |true=>
   dsimp only;rw[if_pos rfl];split
   ·exact ad7 a f _ _ _ (h.perm (ym _ _ _))
   ·exact ad7 a f _ _ _ h
  | false=>
   dsimp only;rw[if_neg az]
   exact⟨h.get a _,h.get a _,λb=>by
    cases b with
    |true=>dsimp only;rw[if_pos rfl];exact h
    |false=>dsimp only;rw[if_neg az];exact ad7 a f _ _ _ h⟩⟩
theorem aii(b:0 < n){p:Array Nat}(h:All n p)(m r:Nat):ab1 n (mO m r p) λx=>All n x.2:=by
 unfold mO;refine aaf (P:=λ_=>True) (λa _=>?_) _ (ahh (h.perm (ym _ _ _)) b _ _);exact h.perm (ym _ _ _)
theorem aev(b:0 < n){p:Array Nat}(h:All n p)(m r:Nat):ab1 n (mP m r p) λx=>All n x.2:=
 aaf (λa c=>by
  split
  ·exact aii b (All.perm c (ym _ _ _)) _ _
  ·exact aii b c _ _) _ (ad7 b _ _ _ _ h)
theorem aru(c:0 < n){p:Array Nat}(h:All n p)(r:Nat):ab1 n (mQ r p) λx=>All n x.2:=
 aaf (λa _=>by
  split
  ·exact h
  ·split
   ·exact⟨h.get c _,h.get c _,λb=>by
     cases b with
     |true=>dsimp only;rw[if_pos rfl];exact h
     |false=>dsimp only;rw[if_neg az];exact aev c (h.perm (ym _ _ _)) _ _⟩
   ·exact aev c h _ _) _ (ahh h c _ _)
theorem aeg(a:0 < n){p:Array Nat}(h:All n p)(k:Nat): ∀f l r:Nat,ab1 n (gn p k f l r) λ_=>True
 |0,l,r=>trivial
 |f+1,l,r=>by
  rw[gn];split
  ·trivial
  ·exact⟨h.get a _,h.get a _,λb=>by
    cases b with
    |true=>dsimp only;rw[if_pos rfl];exact aeg a h k f _ _
    |false=>dsimp only;rw[if_neg az];exact aeg a h k f _ _⟩
theorem alc(a:0 < n): ∀(f:Nat) (p:Array Nat) (k:Nat),All n p->ab1 n (mT f p k) λ_=>True
 |0,p,k,h=>trivial
 |f+1,p,k,h=>aaf (λl _=>alc a f _ _ (h.perm (bubble_perm _ _ _))) _ (aeg a h k _ _ _)
theorem aju(a:0 < n):ab1 n (ff n) λ_=>True:=
 aaf (λr hr=>by
  split
  ·exact alc a _ _ _ hr
  ·trivial) _ (aru a (λx hx=>by simpa using hx) n)
end
section
variable{prog:aP}{w:aM}{A:bh}{E:ae->af->Prop}{s:af}
theorem avx(vs:List ae):(vs.toArray.zip vs.toArray).map (·.2)=vs.toArray:=by
 apply Array.toList_inj.mp;rw[gZ,ksk_zip];show(vs.zip vs).map Prod.snd=vs;rw[List.map_snd_zip (aj _)]
theorem ai7(vs:List ae):(a8 vs.length).map (λi=>vs.getD i aU)=vs:=by
 apply cJ;intro i;rw[aT];by_cases h:i < vs.length
 ·rw[dH h,av h];simp[h]
 ·rw[c9.mpr (by simpa using h),c9.mpr (by simpa using h)];rfl
theorem ayp{a:Addr}{lt:Nat->Nat->Bool}{P:PySem.Fin->af->Prop}(ho:s.heap.get? a=some (seqObj "list" vs.toArray n))(I:vs.length < 64)(M:Swo lt)(hk:2 <=vs.length->∀s':af,(∀b o,b≠a->s.heap.get? b=some o->s'.heap.get? b=some o) ->
   wpAny (model prog w) A (keyKind' vs.toArray) (λ κ J=>J=s'/\ ∀(i j:Nat) (C:Bool->af->Prop),i < vs.length->j < vs.length->C (lt i j) s'->wpAny (model prog w) A (keyLt' κ (vs.getD i aU) (vs.getD j aU)) C (λ_ _=>False) s') (λ_ _=>False) s') (h: ∀p:List Nat,p.Perm (a8 vs.length)->p.Pairwise (λi j=>lt j i=false)->P (.done (.ret .none)) {s with heap:=sortedHeap s.heap a vs (p.map λi=>vs.getD i aU).toArray}):
  wpAny (model prog w) A (dS.«list.sort» ⟨[.ref a],[]⟩) P E s:=by --
 rw[list_sort_plain]
 (have L:a < s.heap.objs.size:=ay ho)
 (refine ac (kJ ho rfl ?_))
 (refine ac (dE ho rfl ?_ (by rw[ax,bq];lia) (bn _)))
 obtain⟨H,v⟩: ∃H,(s.heap.update a (bJ λ_=>(#[]:Array ae))).get? a=some (seqObj "list" #[] H):=⟨_,f7 ho (λ_=>#[])⟩
 (refine ac (gT v rfl ?_))
 (refine ac (lL ?_ (by show vs.length <=_;rw[bq];lia)))
 (refine ac (jI ?_ (bn _)))
 (refine bg ?_)
 generalize hh:((s.heap.update a (bJ λ_=>(#[]:Array ae))).push (seqObj "tuple" vs.toArray 0)).push (seqObj "list" #[] 0)=l;have c:l.get? a=some (seqObj "list" #[] H):=by
  rw[←hh,cu _ _ _ (by rw[size_push',fN];exact aI (dA L)),cu _ _ _ (by rw[fN];exact aI L)];exact v
 have kp: ∀b o,b≠a->s.heap.get? b=some o->l.get? b=some o:=λb o Z e=>by
  have r:b < s.heap.objs.size:=ay e;rw[←hh,cu _ _ _ (by rw[size_push',fN];exact aI (dA r)),cu _ _ _ (by rw[fN];exact aI r),cv _ _ _ _ Z];exact e
 show wpAny (model prog w) A _ P E {s with heap:=l};have hz: ∀out:Array ae,sortedHeap s.heap a vs out=l.update a (bJ λ_=>out):=λout=>by rw[←hh];rfl
 dsimp only;by_cases m:vs.toArray.size < 2 --
 ·rw[if_pos m,if_pos m];refine ac (ah ?_);rw[StateT.run_pure];refine ac (ah ?_);dsimp only
  (refine ac (gT c rfl ?_))
  have W:(arrOf (SortSt.mk' general' (vs.toArray.zip vs.toArray) #[] 7 none)).map (·.2)=vs.toArray:=avx vs;rw[W];refine ac (dE c rfl ?_ (bn _) (by rw[ax,bq];lia))
  (simp only[bne_self_eq_false,bz,if_false])
  have t:=h (a8 vs.length) (List.Perm.refl _) (by
   rw[ax]at m
   match hv:vs.length with
   |0=>simp
   |1=>simp
   |k+2=>lia)
  rw[ai7,hz]at t;exact ah t
 ·rw[if_neg m,if_neg m];have q:2 <=vs.length:=by rw[ax]at m;lia
  refine ac (bf (hk q {s with heap:=l} kp) ?_ λ_ _ x=>x.elim);rintro κ _ ⟨rfl,ask⟩;have U:(ff vs.length).kasWp (kas_ask prog w A κ vs) (λp s'=>s'={s with heap:=l}/\p.Perm (fF (a8 vs.length))/\Up lt p vs.length) {s with heap:=l}:=
   al9 (lt:=lt) (n:=vs.length) (λi j C z D Y=>ask i j C z D Y) (ff vs.length) (aju (by lia)) ⟨rfl,aof M (by lia)⟩
  refine ac (bf (kat_run (Q:=λd s'=>∃p:Array Nat,p.size=vs.length/\arrOf d=p.map (kas_item (vs.toArray.zip vs.toArray))/\failedOf d=none/\s'={s with heap:=l}/\p.Perm (fF (a8 vs.length))/\Up lt p vs.length)
   rfl q I (λO d s' a1 V S a4=>⟨O,a1,V,S,a4⟩) U) ?_ λ_ _ e=>e)
  rintro⟨⟨⟩,d⟩ s' ⟨p,N,F,hf,rfl,pm,up⟩;dsimp only;have y:=kat_snds rfl F;rw[y]
  (refine ac (gT c rfl ?_))
  have hsz:(fF (p.toList.map λi=>vs.getD i aU)).size <=sizeLine:=by rw[ax,ao,b8,N,bq];lia
  refine ac (dE c rfl ?_ (bn _) (fq hsz));rw[hf]
  (simp only[bne_self_eq_false,bz,if_false])
  have t:=h p.toList (by have:=fV.mp pm;simpa using this) (by
   (rw[List.pairwise_iff_getElem])
   intro i j z D K;rw[b8]at z D;have u:=Up.le M up (jZ K) (by lia)
   simpa[Array.getD,z,D] using u)
  rw[hz]at t;exact ah t
end
end KS
namespace PF
open PySem PySem.Spec PySem.W PyProof.Rows
open PySem.SeqAt
noncomputable def tyD:aa->String
 |.none=> "NoneType"
 |.bool _=> "bool"
 |.int _=> "int"
 |.str _=> "str"
 |.list _=> "list"
 |.tuple _=> "tuple"
 |.dict _=> "dict"
section
variable{prog:aP}{w:aM}{A:bh}{E:ae->af->Prop}{s:af}
theorem auj{v:ae}{d:aa}{bs:List Addr}(h:c8 s.heap v d bs):s.TypeIs v (tyD d):=by
 cases h with
 |none=>exact iM s
 |bool b=>exact PySem.typeIs_bool s b
 |int i t=>exact typeIs_int s i t
 |str x t=>exact typeIs_str s x t
 |list c a j e=>exact⟨_,c,a⟩
 |tuple c a j e=>exact⟨_,c,a⟩
 |dict c a j e k=>exact⟨_,c,a⟩
theorem akb{x y:ae}{b:Bool}{Q:Bool->af->Prop}(h:aiu A s x y b)(q:Q b s):wpAny (model prog w) A (oneLt' false x y) Q E s:=
 kat_one x y (h prog w E _ (show PySem.W.BoolBack Q (.bool b) s from q))
theorem ayo{l b:Addr}{a c:Array ae}{r:Bool}{Q:Bool->af->Prop}(m:s.heap.IsTuple l a)(o:s.heap.IsTuple b c)(p:A.units < cLine)(u:LexAt A.in1 s (decide (a.size < c.size)) (a.toList.zip c.toList) r)(q:Q r s):wpAny (model prog w) A (oneLt' true (.ref l) (.ref b)) Q E s:=by
 obtain⟨⟨c1,k,C,y⟩,d,j,n1,q1⟩:=id m;obtain⟨⟨c2,v,z,t⟩,n,h,n2,e⟩:=id o;simp only at j q1 h e;subst j q1 h e;rw[oneLt'_eq];simp only[if_true]
 (refine ac (wpAny_cRoomFor p ?_))
 refine ac (wpAny_callSpecialIfBound?_slot (T:="tuple") (id:="tuple.__lt__") ⟨_,d,rfl⟩ lf ?_);refine ii lf ⟨_,d,rfl⟩ F.entry_tuple_lt (F.args_tuple_lt_2 _ _) (ash l b a c n1 n2 k v y t r) ⟨d,n,u,?_⟩;show wpAny (model prog w) A (truthOfDropped (.bool r)>>=λx=>pure x) Q E s;exact ac (jN (ah q))
theorem aeb: ∀{vs:List ae} {ds:List aa} {bs:List Addr} {Q:List ae->af->Prop},cD s.heap vs ds bs->Q (ds.map λd=>bR (tyD d)) s->wpAny (model prog w) A (vs.mapM typeOf) Q E s
 |_,_,_,_,.nil,h=>by rw[List.mapM_nil];exact ah h
 |_,_,_,_,.cons r rs,h=>by
  rw[fG];exact ac (cQ (auj r) (ac (aeb rs (ah h))))
inductive Fsts (h:Heap):List aa->List (Option ae)->Prop
 |nil:Fsts h [] []
 |no {ds:List aa} {fs:List (Option ae)}:Fsts h ds fs->Fsts h (.tuple []::ds) (none::fs)
 |yes {ds xs:List aa} {x:aa} {u:ae} {bs:List Addr} {fs:List (Option ae)}:c8 h u x bs->Fsts h ds fs->Fsts h (.tuple (x::xs)::ds) (some u::fs)
theorem ak4: ∀{vs:List ae} {ds:List aa} {bs:List Addr},cD s.heap vs ds bs->(∀d∈ds,∃xs,d=.tuple xs)->∃fs,Fsts s.heap ds fs/\ ∀{Q:List (Option ae)->af->Prop},Q fs s->wpAny (model prog w) A (vs.mapM firstOfTuple') Q E s
 |_,_,_,.nil,_=>⟨[],.nil,λh=>by rw[List.mapM_nil];exact ah h⟩
 | _, _,_,.cons (v:=v) r rs,m=>by
  obtain⟨fs,F,k⟩:=ak4 rs λd hd=>m d (aq _ hd)
  obtain⟨xs,e⟩:=m _ au;subst e;cases r with
  | @tuple a o j n _ _ p y z c=>
   have go: ∀f:Option ae,j[0]?=f->∀{Q:List (Option ae)->af->Prop},Q (f::fs) s->wpAny (model prog w) A ((bi a::_).mapM firstOfTuple') Q E s:=λf C Q h=>by
    rw[fG,kas_first_eq];refine ac (ac (cQ (T:="tuple") ⟨_,p,y⟩ ?_));rw[if_neg (by simp)];refine ac (kJ p z (ah ?_));rw[C];exact ac (k (ah h))
   cases xs with
   | nil=>
    have:j[0]?=none:=by
     have e:j.toList=[]:=by cases l:j.toList with
      |nil=>rfl
      |cons a b=>rw[l]at c;cases c
     rw[←fB,e];rfl
    exact⟨_,.no F,go _ this⟩
   | cons x xs=>
    cases l:j.toList with
    |nil=>rw[l]at c;cases c
    |cons u t=>
     rw[l]at c;cases c with
     |cons q D=>exact⟨_,.yes q F,go _ (by rw[←fB,l];rfl)⟩
theorem al0: ∀{ds:List aa} {fs:List (Option ae)},Fsts s.heap ds fs->fs.all (·.isSome)=true->∃xs us bs,fs=us.map some/\cD s.heap us xs bs/\xs.length=ds.length/\ ∀(i:Nat) (d:aa),ds[i]?=some d->∃x r,xs[i]?=some x/\d=.tuple (x::r)
 |_,_,.nil,_=>⟨[],[],_,rfl,.nil,rfl,λi d e=>by simp at e⟩
 |_,_,.no F,h=>by simp at h
 |_,_,.yes r F,h=>by
  obtain⟨xs,us,bs,e,a,b,k⟩:=al0 F (by simpa using h);refine⟨_::xs,_::us,_,by rw[e];rfl,.cons r a,by simp[b],λi d e=>?_⟩;cases i with
  |zero=>simp at e;subst e;exact⟨_,_,rfl,rfl⟩
  |succ i=>simpa using k i d (by simpa using e)
def ayy(ds:List aa)(κ:lY):Prop:=κ=general'\/κ=oneType'\/ ∃b,κ=tuples' b/\(b=true->∃T:String,T≠"tuple"/\ ∀d∈ds,∃x r,d=.tuple (x::r)/\tyD x=T)
theorem axc{bs:List Addr}(I:cD s.heap vs ds bs)(v: ∀d∈ds,∃xs,d=.tuple xs)(hn:ds≠ []): ∃κ,ayy ds κ/\ ∀{Q:lY->af->Prop},Q κ s->wpAny (model prog w) A (keyKind' vs.toArray) Q E s:=by
 obtain⟨fs,F,k⟩:=ak4 (prog:=prog) (w:=w) (A:=A) (E:=E) I v
 have hk: ∀{Q:lY->af->Prop},wpAny (model prog w) A (do
   if fs.toArray.all (·.isSome) then
    rule "list.sort.keys-are-tuples" --
    return tuples' ((←oneTypeOnly' (fs.toArray.filterMap id)).any (· !=.type "tuple"))
   if (fs.toArray[0]?.bind id).isSome then return general'
   return if (←oneTypeOnly' vs.toArray).isSome then oneType' else general') Q E s->wpAny (model prog w) A (keyKind' vs.toArray) Q E s:=λ{Q} h=>by
  (rw[keyKind'_eq,gM,map_eq_pure_bind])
  exact ac (ac (k (ah h)))
 by_cases u:fs.all (·.isSome)=true
 ·obtain⟨xs,N,cs,e,D,J,O⟩:=al0 F u;have p:fs.toArray.all (·.isSome)=true:=by simpa using u
  have H:fs.toArray.filterMap id=N.toArray:=by rw[e];simp
  obtain⟨j,m,hx⟩: ∃j m,xs=j::m:=by
   cases xs with
   |nil=>rw[dk]at J;exact absurd (List.length_eq_zero_iff.mp J.symm) hn
   |cons a b=>exact⟨a,b,rfl⟩
  by_cases t:xs.all (λx=>decide (tyD x=tyD j))=true
  ·refine⟨tuples' (bR (tyD j) !=bR "tuple"),.inr (.inr ⟨_,rfl,λq=>⟨tyD j,λz=>?_,λd hd=>?_⟩⟩),λ{Q} h=>hk ?_⟩
   ·rw[z]at q;simp at q
   ·obtain⟨i,L⟩:=fD.mp hd;obtain⟨x,r,P,M⟩:=O i d L;exact⟨x,r,M,of_decide_eq_true (aB.mp t x (bE P))⟩
   ·rw[if_pos p,H];refine ac (b9 ?_)
    (rw[oneTypeOnly'_eq,gM,map_eq_pure_bind])
    refine ac (ac (ac (aeb D (ah ?_))));rw[hx];have o:(dw (λd=>bR (tyD d)) (j::m)).toArray[0]?=some (bR (tyD j)):=by simp
    have c:((dw (λd=>bR (tyD d)) (j::m)).toArray.all λx=>x==bR (tyD j))=true:=by
     (simp only[kK,eI,aB])
     intro y n;have:=of_decide_eq_true (aB.mp t y (by rw[hx];exact n));simp[this]
    rw[o];simp only[c,if_true]
    (exact ah (ah h))
  ·refine⟨tuples' false,.inr (.inr ⟨_,rfl,λq=>by cases q⟩),λ{Q} h=>hk ?_⟩;rw[if_pos p,H];refine ac (b9 ?_)
   (rw[oneTypeOnly'_eq,gM,map_eq_pure_bind])
   refine ac (ac (ac (aeb D (ah ?_))));rw[hx];have o:(dw (λd=>bR (tyD d)) (j::m)).toArray[0]?=some (bR (tyD j)):=by simp
   have c:((dw (λd=>bR (tyD d)) (j::m)).toArray.all λx=>x==bR (tyD j))=false:=by
    rw[←hx];rw[fM,List.all_eq_false]at t;obtain⟨y,n,C⟩:=t;simp only[kK,eI,List.all_eq_false];refine⟨y,n,?_⟩;simpa using C
   rw[o];simp only[c,bz,if_false]
   (exact ah (ah h))
 ·have p: ¬fs.toArray.all (·.isSome)=true:=by simpa using u
  by_cases K:(fs.toArray[0]?.bind id).isSome=true
  ·exact⟨general',.inl rfl,λ{Q} h=>hk (by rw[if_neg p,if_pos K];exact ah h)⟩
  ·refine⟨oneType',.inr (.inl rfl),λ{Q} h=>hk ?_⟩;rw[if_neg p,if_neg K,oneTypeOnly'_eq,gM,map_eq_pure_bind];refine ac (ac (ac (aeb I (ah ?_))));obtain⟨l,dr,rfl⟩: ∃l dr,ds=l::dr:=by
    cases ds with
    |nil=>exact absurd rfl hn
    |cons a b=>exact⟨a,b,rfl⟩
   have o:(dw (λd=>bR (tyD d)) (l::dr)).toArray[0]?=some (bR (tyD l)):=by simp
   have c:((dw (λd=>bR (tyD d)) (l::dr)).toArray.all λx=>x==bR (tyD l))=true:=by
    (simp only[kK,eI,aB])
    intro y n;obtain⟨z,rfl⟩:=v y n;obtain⟨S,rfl⟩:=v l au;simp[tyD]
   rw[o];simp only[c,if_true]
   (exact ah (ah h))
def a90(b:Bool)(i:Nat)(xs a:List aa):Prop:=b=true->i=0->∀x y c d,xs=x::c->a=y::d->ltP x y≠none->aX x y=false->(∃i j,x=.int i/\y=.int j)\/ ∃i j,x=.str i/\y=.str j
theorem ajx{b:Bool}: ∀(xs a:List aa) (vs v:List ae) (as bs:List Addr) (i:Nat) (r:Bool) (Q:Bool->af->Prop),cD s.heap vs xs as->cD s.heap v a bs->bH xs=true->bH a=true->A.units+min (cK xs) (cK a) < cLine->vb xs a=some r->a90 b i xs a->Q r s ->
  KatLex prog w A b (decide (vs.length < v.length)) Q (vs.zip v) i s
 |[],[],_,_,_,_,i,r,Q,l,k,_,_,_,h,_,q=>by
  cases l;cases k;rw[y9]at h;cases h;exact kat_nil q
 |[],_::_,_,_,_,_,i,r,Q,l,k,_,_,_,h,_,q=>by
  cases l;cases k;rw[yq]at h;cases h;exact kat_nil (by simpa using q)
 |_::_,[],_,_,_,_,i,r,Q,l,k,_,_,_,h,_,q=>by
  cases l;cases k;rw[vm]at h;cases h;exact kat_nil (by simpa using q)
 | x ::xs,y::a,_,_,_,_,i,r,Q,l,k,D,F,u,h,C,q=>by
  have j:x.canLay0=true/\bH xs=true:=by simpa[bH] using D
  have d:y.canLay0=true/\bH a=true:=by simpa[bH] using F
  rw[ad4]at h;cases l with
  | cons m rs=>
   cases k with
   | cons n o=>
    have e:=eqAt_reads x y A s _ _ _ _ m n j.1 d.1 (mN u);rw[iV,aE,aE];refine kat_cons (e prog w _ _ ?_);by_cases c:aX x y=true
    ·rw[if_pos c]at h;rw[c];have t:=ajx (b:=b) xs a _ _ _ _ (i+1) r Q rs o j.2 d.2 (room_tail u) h (λ_ z=>by lia) q;refine kat_yes ?_;simpa using t
    ·rw[if_neg c]at h;rw[fM]at c;rw[c];refine kat_no ?_;by_cases z:(b&&i==0)=true
     ·rw[z];rw[aJ]at z;rcases C z.1 (by simpa using z.2) x y xs a rfl rfl (by rw[h];simp) c with ⟨p,E,rfl,rfl⟩|⟨p,E,rfl,rfl⟩
      ·rw[aji]at h;cases h;cases m;cases n;exact oneLt_int q
      ·rw[adv]at h;cases h;cases m;cases n;exact oneLt_str q
     ·rw[fM]at z;rw[z];exact akb (aee x y A s _ _ _ _ r m n j.1 d.1 (mN u) h) q
theorem a20{κ:lY}(n:ayy ds κ){v:ae}{as bs:List Addr}{r:Bool}{Q:Bool->af->Prop}(mx:bQ xs∈ds)(N:bQ ys∈ds)(m:c8 s.heap v (.tuple xs) as)(k:c8 s.heap u (.tuple ys) bs)(hx:(bQ xs).canLay0=true)(c:(bQ ys).canLay0=true)(Y:A.units+66 < cLine)(dx:(bQ xs).depth <=64)(h:ltP (.tuple xs) (.tuple ys)=some r)(q:Q r s):wpAny (model prog w) A (keyLt' κ v u) Q E s:=by
 have a:A.units+min (bQ xs).depth (bQ ys).depth < cLine:=by lia
 rcases n with rfl|rfl|⟨b,rfl,P⟩
 ·exact akb (aee _ _ A s _ _ _ _ r m k hx c a h) q
 ·rw[keyLt'_oneType];cases m with
  | tuple o D p d=>
   cases k with
   |tuple z J j l=>
    rw[aay]at h;refine ayo ⟨_,o,D,_,p⟩ ⟨_,z,J,_,j⟩ (room_here a) ?_ q;have t:=adb xs ys A.in1 s _ _ _ _ r d l hx c (room_in a) h;simpa using t
 ·cases m with
  | tuple o D p d=>
   cases k with
   | tuple z J j l=>
    rw[aay]at h;refine kat_lt o p z j ?_;have hd:cK xs < (bQ xs).depth:=by simp only[dM];lia
    have t:=ajx (prog:=prog) (w:=w) (A:=A) (b:=b) xs ys _ _ _ _ 0 r Q d l hx c (by lia) h (λe _ x y V Z O L hn ne=>?_) q
    ·simpa using t
    ·obtain⟨T,S,C⟩:=P e;obtain⟨W,r',K,F⟩:=C _ mx;obtain⟨U,M,I,H⟩:=C _ N;rw[O]at K;rw[L]at I;cases K;cases I;cases x <;> cases y <;> simp[ltP,tyD]at hn F H⊢
     all_goals (subst F;simp at S H)
end
end PF
namespace PF
open PySem PySem.Spec
open L2
variable[XW]
end PF
namespace PF
open PySem PySem.Spec
open PySem.SeqAt
variable[XW]
end PF
namespace PF
open PySem PySem.Spec
open L2
variable[XW]
end PF
namespace PF
open PySem PySem.Spec
open L2
variable[XW]
end PF
namespace PF
open PySem PySem.Spec
open L2
variable[XW]
end PF
namespace PF
open PySem PySem.Spec
open L2
variable[XW]
noncomputable def arc(ds:List D)(s:S):R D:=match ds with
 |[.da (.bool b)]=>.ok (.int (if b then 1 else 0)) s
 |_=>.bad
theorem a79:CB X (.type "int") arc:=ac4 λa sh σ H as s xs ds j Q I d rs c h=>by
 unfold arc at h;split at h
 ·obtain⟨v,rfl,b⟩:=rs.one;cases b.bl_inv;obtain⟨u,rfl,e⟩:=vals1 c;cases e;exact PySem.call_int_bool (show EP X a σ Q _ _ from ⟨.int _,H,I.tok _,⟨_,rfl⟩,Dn.now (Q:=Q) h d (.da (.int _))⟩)
 ·exact h.elim
end PF
namespace PF
open PySem PySem.Spec
open L2
variable[XW]
end PF
namespace PF
open PySem PySem.Spec PySem.W PyProof.Rows
variable[XW]
open PySem.SeqAt
variable[XW]
def ltN(ds:List aa)(i j:Nat):Bool:=match ds[i]?,ds[j]? with
 |some a,some b=>ltb a b
 |some _,none=>true
 |none,_=>false
theorem a35(h:qw ds=true):KS.Swo (ltN ds) where
 tr {a b c} h1 h2:=by
  unfold ltN at h1 h2⊢;cases d:ds[a]? with
  |none=>rfl
  | some x=>
   rw[d]at h1;cases e:ds[b]? with
   |none=>rw[e]at h1;cases h1
   | some y=>
    rw[e]at h1 h2;cases j:ds[c]? with
    |none=>rw[j]at h2;cases h2
    |some z=>
     rw[j]at h2;exact apf h (bE d) (bE e) (bE j) h1 h2
 as {a b} h1:=by
  unfold ltN at h1⊢;cases d:ds[a]? with
  |none=>rw[d]at h1;cases h1
  | some x=>
   rw[d]at h1;cases e:ds[b]? with
   |none=>rfl
   |some y=>
    rw[e]at h1;exact am5 h (bE d) (bE e) h1
section
variable{prog:aP}{w:aM}{A:bh}{E:ae->af->Prop}{s:af}
theorem abm{h:Heap}: ∀{vs:List ae} {ds:List aa} {bs:List Addr} {i:Nat},cD h vs ds bs->i < ds.length->∃d cs,ds[i]?=some d/\c8 h (vs.getD i aU) d cs
 |_,_,_,_,.nil,a=>by simp at a
 |_,_,_,0,.cons r rs,_=>⟨_,_,rfl,r⟩
 |_,_,_,i+1,.cons r rs,a=>by
  obtain⟨d,cs,e,q⟩:=abm (i:=i) rs (by simpa using a);exact⟨d,cs,by simpa using e,by simpa using q⟩
theorem a6h{bs:List Addr}(q:cD s.heap vs ds bs)(L:qw ds=true)(hok:ds.all okD=true)(J:2 <=vs.length)(M:A.units+66 < cLine):
  wpAny (model prog w) A (keyKind' vs.toArray) (λ κ I=>I=s/\ ∀(i j:Nat) (C:Bool->af->Prop),i < vs.length->j < vs.length->C (ltN ds i j) s->wpAny (model prog w) A (keyLt' κ (vs.getD i aU) (vs.getD j aU)) C (λ_ _=>False) s) (λ_ _=>False) s:=by
 have P:vs.length=ds.length:=ReadsAll.length ds vs bs q;have ask: ∀(κ:lY),(∀(x y:aa) (v u:ae) (as cs:List Addr) (r:Bool) (C:Bool->af->Prop),x∈ds->y∈ds->c8 s.heap v x as->c8 s.heap u y cs->ltP x y=some r->C r s->wpAny (model prog w) A (keyLt' κ v u) C (λ_ _=>False) s) ->
   s=s/\ ∀(i j:Nat) (C:Bool->af->Prop),i < vs.length->j < vs.length->C (ltN ds i j) s->wpAny (model prog w) A (keyLt' κ (vs.getD i aU) (vs.getD j aU)) C (λ_ _=>False) s:=λ κ k=>by
  refine⟨rfl,λi j C F S n=>?_⟩;obtain⟨x,as,ex,h⟩:=abm (i:=i) q (by lia);obtain⟨y,cs,K,m⟩:=abm (i:=j) q (by lia);have mx:=bE ex;have l:=bE K;obtain⟨r,hr⟩:=aff L mx l;refine k x y _ _ as cs r C mx l h m hr ?_;have:ltN ds i j=r:=by
   unfold ltN;rw[ex,K];show ltb x y=r;unfold ltb;rw[hr];cases r <;> rfl
  rw[←this];exact n
 obtain⟨D,dr,hd⟩: ∃D dr,ds=D::dr:=by
  cases ds with
  |nil=>rw[dk]at P;lia
  |cons a b=>exact⟨a,b,rfl⟩
 have z:D∈ds:=by rw[hd];exact au
 have c: ∀d∈ds,∃r,ltP D d=some r:=λd hm=>aff L z hm
 have o: ∀d∈ds,d.canLay0=true/\d.depth <=64:=λd hm=>by
  have:=aB.mp hok d hm;unfold okD at this;rw[aJ,decide_eq_true_eq]at this;exact this
 have t: ∀v∈vs,∃d cs,d∈ds/\c8 s.heap v d cs:=λv p=>by
  obtain⟨i,F⟩:=fD.mp p;have N:=(am.mp F).1;obtain⟨x,as,ex,h⟩:=abm (i:=i) q (by lia);have:vs.getD i aU=v:=by simp[F]
  rw[this]at h;exact⟨x,as,bE ex,h⟩
 cases D with
 | int O=>
  have e: ∀d∈ds,∃i,d=.int i:=λd hm=>by
   obtain⟨r,hr⟩:=c d hm;cases d <;> simp[ltP]at hr
   exact⟨_,rfl⟩
  refine kas_kind (T:=.type "int") J (λv p=>?_) (by decide) (by decide) (ask oneType' λx y v u as cs r C mx l h m hr n=>?_)
  ·obtain⟨d,cs,hm,rd⟩:=t v p;obtain⟨i,rfl⟩:=e d hm;cases rd;exact mi rfl
  ·obtain⟨i,rfl⟩:=e x mx;obtain⟨j,rfl⟩:=e y l;rw[aji]at hr;cases hr;cases h;cases m;exact kat_lt_int n
 | str O=>
  have e: ∀d∈ds,∃i,d=.str i:=λd hm=>by
   obtain⟨r,hr⟩:=c d hm;cases d <;> simp[ltP]at hr
   exact⟨_,rfl⟩
  refine kas_kind (T:=.type "str") J (λv p=>?_) (by decide) (by decide) (ask oneType' λx y v u as cs r C mx l h m hr n=>?_)
  ·obtain⟨d,cs,hm,rd⟩:=t v p;obtain⟨i,rfl⟩:=e d hm;cases rd;exact mi rfl
  ·obtain⟨i,rfl⟩:=e x mx;obtain⟨j,rfl⟩:=e y l;rw[adv]at hr;cases hr;cases h;cases m;exact kas_lt_str n
 | tuple Q=>
  have e: ∀d∈ds,∃i,d=.tuple i:=λd hm=>by
   obtain⟨r,hr⟩:=c d hm;cases d <;> simp[ltP]at hr
   exact⟨_,rfl⟩
  obtain⟨κ,H,k⟩:=axc (prog:=prog) (w:=w) (A:=A) (E:=λ_ _=>False) q e (by rw[hd];simp);refine k (ask κ λx y v u as cs r C mx l h m hr n=>?_);obtain⟨i,rfl⟩:=e x mx;obtain⟨j,rfl⟩:=e y l;exact a20 H mx l h m (o _ mx).1 (o _ l).1 M (o _ mx).2 hr n
 |none=>obtain⟨r,hr⟩:=c _ z;simp[ltP]at hr
 |bool _=>obtain⟨r,hr⟩:=c _ z;simp[ltP]at hr
 |list _=>obtain⟨r,hr⟩:=c _ z;simp[ltP]at hr
 |dict _=>obtain⟨r,hr⟩:=c _ z;simp[ltP]at hr
theorem aq4{r:Addr}(O:A.units+70 < cLine)(c: ∀(R:List ae->af->Prop),(∀h' d' tk (vs:List ae) (bs:List Addr) (ds:List aa),ds.length < 64->qw ds=true->ds.all okD=true->cD h' vs ds bs->(∀b u,s.heap.get? b=some u->h'.get? b=some u) ->
    (∀(j d:Heap) (M:Drawn) (n e:Nat) (p:List Nat),p.Perm (a8 vs.length)->(p.map λi=>ds.getD i .none)=vf ds->(∀b u,s.heap.get? b=some u->j.get? b=some u)->(∀b u,h'.get? b=some u->j.get? b=some u)->d.get? j.objs.size=some (seqObj "list" (p.map λi=>vs.getD i aU).toArray e)->(∀b u,j.get? b=some u->d.get? b=some u) ->
     Q (.ref j.objs.size) {s with heap:=d,drawn:=M,toks:=n})->R vs {s with heap:=h',drawn:=d',toks:=tk})->wpAny (model prog w) A.in1 (collect (.ref r)) R E s):
  wpAny (model prog w) A (call (.builtin "sorted") [.ref r]) Q E s:=by --
 refine Calls.call_function_entry kind_sorted plain_sorted entry_sorted (args_sorted1 _) ?_;unfold dS.«sorted»;refine ac (m:=checkCount "sorted" 1 1 _) (ah (ac (c _ λh' d' tk vs bs ds L t hok x kp q=>?_)));have I:vs.length=ds.length:=ReadsAll.length ds vs bs x;refine ac (jI ?_ (by rw[bq];lia));have g:(h'.push {cls:=.type "list",data:=.seq vs.toArray}).get? h'.objs.size=some (seqObj "list" vs.toArray 0):=aD _ rfl;have C:=abq A;have v:=abq A.in1;refine ac (bg (bL slot_list_sort ⟨_,g,rfl⟩ entry_list_sort (KS.ayp g (by lia) (a35 t) (λd s' D=>a6h (ds:=ds) (bs:=bs) ?_ t hok d (by lia)) λp pm K=>⟨_,rfl,?_⟩) (args_list_sort _)))
 ·refine iX (λb o l=>D b o (aI (ay l)) (ag _ l)) x
 ·obtain⟨e,H⟩:=sortedHeap_at (out:=(p.map λi=>vs.getD i aU).toArray) g;have es:(p.map λi=>ds.getD i .none)=vf ds:=by
   have J:(a8 vs.length).map (λi=>ds.getD i .none)=ds:=by
    rw[I];apply cJ;intro i;rw[aT];by_cases z:i < ds.length
    ·rw[dH z,av z];simp[z]
    ·rw[c9.mpr (by simpa using z),c9.mpr (by simpa using z)];rfl
   refine axy t ?_ ?_
   ·have:=pm.map λi=>ds.getD i .none
    rwa [J]at this
   ·rw[abd,fw];refine List.Pairwise.imp_of_mem ?_ K;intro a b N F h;have y:a < ds.length:=by have:=eC.mp (pm.mem_iff.mp N);lia
    have k:b < ds.length:=by have:=eC.mp (pm.mem_iff.mp F);lia
    unfold ltN at h;rw[av y,av k]at h;simpa[y,k] using h
  refine ah ⟨_,rfl,q h' _ d' tk e p pm es kp (λb u z=>z) H λb u l=>?_⟩;have k:=ay l;rw[sortedHeap_old (aI k) (by rw[cp];exact dA k)];exact ag _ l
end
end PF
namespace PF
open PySem PySem.Spec
open L2
variable[XW]
theorem TDs.pick{as:As}{H:Hp}{vs:List V}{ds:List aa}(t:TDs as H vs ds): ∀p:List Nat,(∀i∈p,i < ds.length)->TDs as H (p.map λi=>vs.getD i .non) (p.map λi=>ds.getD i .none)
 |[],_=>.nil
 |i::r,h=>by
  have a:=h i au;obtain⟨v,e,td⟩:=t.get (i:=i) (d:=ds[i]) (av a);refine .cons ?_ (TDs.pick t r λj b=>h j (aq _ b));show TD as H (vs.getD i .non) (ds.getD i .none);rw[show vs.getD i .non=v by simp[e],show ds.getD i .none=ds[i] by simp[a]];exact td
theorem awb{vs:List V}(r:jl vs us)(e:vs[i]?=some v): ∃u,us[i]?=some u/\RelV v u:=by
 induction r generalizing i with
 |nil=>simp at e
 |cons a b c=>
  cases i with
  |zero=>simp at e;subst e;exact⟨_,rfl,a⟩
  |succ i=>simpa using c (by simpa using e)
theorem aft{vs:List V}{a:List ae}(r:jl vs a): ∀p:List Nat,(∀i∈p,i < vs.length)->jl (p.map λi=>vs.getD i .non) (p.map λi=>a.getD i aU)
 |[],_=>.nil
 |i::q,h=>by
  have b:=h i au;obtain⟨u,e,d⟩:=awb r (i:=i) (av b);refine .cons ?_ (aft r q λj c=>h j (aq _ c));show RelV (vs.getD i .non) (a.getD i aU);rw[show vs.getD i .non=vs[i] by simp[b],show a.getD i aU=u by simp[e]];exact d
def yz(m:Bool)(ds:List D)(s:S):R D:=match ds with
 |[d]=>match (ae7 s d).bind j2 with
  |some xs=>if xs.length < 64/\qw xs=true/\xs.all okD=true then qj m ((vf xs).map D.da) s else .bad
  |none=>.bad
 |_=>.bad
theorem ax0(m:Bool)(hu:X.A.units+70 < cLine):CB X (.builtin "sorted") (yz m):=ac4 λb sh σ H as s xs ds us Q I Y rs ru h=>by
 unfold yz at h;split at h
 ·rename_i d;split at h
  ·rename_i es E;split at h
   ·rename_i q;obtain⟨S,hc,hok⟩:=q;obtain⟨v,rfl,j⟩:=rs.one;cases P:ae7 s d with
    |none=>rw[P]at E;cases E
    | some ys=>
     rw[P]at E;have hp:j2 ys=some es:=E;have e2:=yi hp;subst e2;obtain⟨p,y,rfl,sq,rz⟩:=ads Y j P;obtain⟨u,rfl,M⟩:=vals1 ru;cases M;have td:=rz.td;have fin: ∀(a:List ae),jl y a->(∃(T:String) (o:Obj) (n:Nat),(T="list"\/T="tuple")/\sh.heap.get? p=some o/\o.cls=.type T/\o.data=.seq a.toArray n)->wpAny (model X.prog X.w) X.A (call (.builtin "sorted") [.ref p]) (EP X b σ Q) X.xe sh:=λa j ⟨T,o,n,hT,ho,L,hd⟩=>by
      obtain⟨bs,Z⟩:=td.reads I j;have N:a.length=es.length:=iY es a bs Z;refine aq4 hu λR k=>kS p hT ho L hd (λh' kp=>?_) (by rw[ax,bq];lia)
      have k1:=k h' sh.drawn sh.toks a bs es S hc hok (iX kp Z) kp;refine k1 λc C d2 t e l pm F D V g O=>?_
      have I1:Inv X b σ H {sh with heap:=c,toks:=sh.toks}:=I.un (Un.kept D) (I.hok.kept D);have hz:y.length=es.length:=td.length;have r: ∀i∈l,i < es.length:=λi J=>by have:=eC.mp (pm.mem_iff.mp J);lia
      have vp:=aft j l (λi J=>by rw[hz];exact r i J);have x:l.length=es.length:=by rw[pm.length_eq,List.length_range,N]
      have I2:Inv X b σ (upd H c.objs.size (.lst (l.map λi=>y.getD i .non))) {sh with heap:=C,toks:=t}:=I1.laid (t':=t) O (aj _) ⟨by rw[ao,x,bq];lia,_,e,vp,by simpa[mB] using g⟩;have nw:New H c.objs.size (.lst (l.map λi=>y.getD i .non)) (upd H c.objs.size (.lst (l.map λi=>y.getD i .non))):=⟨I1.hok.fresh (aj _),rfl⟩;have U:=(td.pick l r).rd (K:=X.K);rw[F]at U;exact⟨.ref c.objs.size,_,I2.drew d2,rfl,aal h Y U nw⟩
     rcases sq with sq|sq
     ·obtain⟨a,j,⟨o,k,c,C,W,h4⟩,z⟩:=I.list sq;exact fin a j ⟨"list",o,_,.inl rfl,c,C,h4⟩
     ·obtain⟨a,j,⟨o,c,C,k,W⟩,z⟩:=I.tuple sq;exact fin a j ⟨"tuple",o,_,.inr rfl,c,C,W⟩
   ·exact h.elim
  ·exact h.elim
 ·exact h.elim
end PF
namespace KS
open PySem PySem.W PyProof.Rows
noncomputable def ltK(ks:List Str)(i j:Nat):Bool:=match ks[i]?,ks[j]? with
 |some a,some b=>decide (a.cps.toList < b.cps.toList)
 |some _,none=>true
 |none,_=>false
theorem a24(ks:List Str):Swo (ltK ks) where
 tr {a b c} h1 h2:=by
  unfold ltK at h1 h2⊢;cases d:ks[a]? with
  |none=>rfl
  | some x=>
   rw[d]at h1;cases e:ks[b]? with
   |none=>rw[e]at h1;cases h1
   | some y=>
    rw[e]at h1 h2;cases h:ks[c]? with
    |none=>rw[h]at h2;cases h2
    |some z=>
     rw[h]at h2;simp only[decide_eq_false_iff_not,List.not_lt]at h1 h2⊢;exact List.le_trans h2 h1
 as {a b} h1:=by
  unfold ltK at h1⊢;cases d:ks[a]? with
  |none=>rw[d]at h1;cases h1
  | some x=>
   rw[d]at h1;cases e:ks[b]? with
   |none=>rfl
   |some y=>
    rw[e]at h1;simp only[decide_eq_true_eq,decide_eq_false_iff_not,List.not_lt]at h1⊢;exact List.le_of_lt h1
section
variable{prog:aP}{w:aM}{A:bh}{E:ae->af->Prop}{s:af}
def pK(n:Nat)(ks:List Str):List Nat:=if n < 2 then a8 n else (run (ltK ks) (ff n)).toList
theorem aiw(n:Nat)(ks:List Str):(pK n ks).Perm (a8 n):=by
 unfold pK;split
 ·exact .refl _
 ·have:=fV.mp (aof (a24 ks) (n:=n) (by lia)).1;simpa using this
structure Kys (ws:List ae) (ks:List Str) (m:Nat):Prop where
 len:ws.length=m
 at_: ∀i,i < m->∃t,ws[i]?=some (.str (ks.getD i cM) t)
theorem Kys.snoc{a:List ae}{ks:List Str}(h:Kys a ks m)(t:Tok):Kys (a++ [.str (ks.getD m cM) t]) ks (m+1):=by
 refine⟨by simp[h.len],λi b=>?_⟩;by_cases z:i < m
 ·obtain⟨u,e⟩:=h.at_ i z;exact⟨u,by rw[aQ (by rw[h.len];exact z)];exact e⟩
 ·obtain rfl:i=m:=by lia
  exact⟨t,by rw[←h.len];simp⟩
theorem a21{a:List ae}(h:a.length=vs.length):(a.toArray.zip vs.toArray).map (·.2)=vs.toArray:=by
 apply Array.toList_inj.mp;rw[gZ,ksk_zip];show(a.zip vs).map Prod.snd=vs;rw[List.map_snd_zip (by lia)]
structure KsJ (s:af) (a b:Addr) (e1:Nat) (vs:List ae) (ks:List Str) (je:List ae) (s':af):Prop where
 ex: ∃(m:Nat) (h':Heap) (tk:Nat) (ws:List ae) (e:Nat),s'={s with heap:=h',toks:=tk}/\m+je.length=vs.length/\je=vs.drop m/\h'.get? a=some (seqObj "list" #[] e1)/\h'.get? b=some (seqObj "list" ws.toArray e)/\Kys ws ks m/\ ∀c o,c≠a->s.heap.get? c=some o->h'.get? c=some o
theorem ayq{a:Addr}{ks:List Str}{P:PySem.Fin->af->Prop}(ho:s.heap.get? a=some (seqObj "list" vs.toArray n))(h64:vs.length < 64)(hl:ks.length=vs.length)(N: ∀(i:Nat) (h':Heap) (tk:Nat) (R:ae->af->Prop),i < vs.length->(∀c o,c≠a->s.heap.get? c=some o->h'.get? c=some o)->(∀d u k,(∀c o,h'.get? c=some o->d.get? c=some o)->R (.str (ks.getD i cM) u) {s with heap:=d,toks:=k}) ->
   wpAny (model prog w) A (call (.type "str") [vs.getD i aU]) R (λ_ _=>False) {s with heap:=h',toks:=tk}) (fin: ∀h2 tk e,h2.get? a=some (seqObj "list" ((pK vs.length ks).map λi=>vs.getD i aU).toArray e)->(∀c o,c≠a->s.heap.get? c=some o->h2.get? c=some o)->P (.done (.ret .none)) {s with heap:=h2,toks:=tk}):
  wpAny (model prog w) A (dS.«list.sort» ⟨[.ref a],[("key",.type "str")]⟩) P E s:=by
 (have ha:a < s.heap.objs.size:=ay ho)
 have k1:(de ("reverse":Str) [(("key":Str),bR "str")])=none:=rfl;have y:(de ("key":Str) [(("key":Str),bR "str")]).getD aU=.type "str":=rfl;have k3:(bR "str" !=aU)=true:=rfl;unfold dS.«list.sort»;dsimp only;refine ac ?_;rw[fZ];refine ac ?_;rw[if_neg (by decide)];refine ah ?_;dsimp only;rw[iJ];refine ah ?_;simp only[k1,y,k3,if_true];refine ac (ah ?_)
 (refine ac (kJ ho rfl ?_))
 (refine ac (dE ho rfl ?_ (by rw[ax,bq];lia) (bn _)))
 obtain⟨K,W⟩: ∃K,(s.heap.update a (bJ λ_=>(#[]:Array ae))).get? a=some (seqObj "list" #[] K):=⟨_,f7 ho (λ_=>#[])⟩
 (refine ac (gT W rfl ?_))
 refine ac (lL ?_ (by show vs.length <=_;rw[bq];lia))
 (refine ac (jI ?_ (bn _)))
 refine bg ?_;generalize hh:((s.heap.update a (bJ λ_=>(#[]:Array ae))).push (seqObj "tuple" vs.toArray 0)).push (seqObj "list" #[] 0)=Y;show wpAny (model prog w) A _ P E {s with heap:=Y};dsimp only;generalize hb:Array.size (Heap.objs (Heap.push (s.heap.update a (bJ λ_=>(#[]:Array ae))) _))=b;have hz:(s.heap.update a (bJ λ_=>(#[]:Array ae))).objs.size=s.heap.objs.size:=fN _ _ _;have L:b=s.heap.objs.size+1:=by rw[←hb,size_push',hz]
 have ho6:Y.get? a=some (seqObj "list" #[] K):=by
  rw[←hh,cu _ _ _ (by rw[size_push',hz];exact aI (dA ha)),cu _ _ _ (by rw[hz];exact aI ha)];exact W
 have Z:Y.get? b=some (seqObj "list" #[] 0):=by
  rw[←hh,L,←hz,←size_push' (s.heap.update a (bJ λ_=>(#[]:Array ae))) (seqObj "tuple" vs.toArray 0)];exact aD _ rfl
 have kp: ∀c o,c≠a->s.heap.get? c=some o->Y.get? c=some o:=λc o r e=>by
  have V:c < s.heap.objs.size:=ay e;rw[←hh,cu _ _ _ (by rw[size_push',hz];exact aI (dA V)),cu _ _ _ (by rw[hz];exact aI V),cv _ _ _ _ r];exact e
 have M:a≠b:=by rw[L];exact aI (dA ha)
 have old: ∀c o,s.heap.get? c=some o->c≠b:=λc o e=>by rw[L];exact aI (dA (ay e))
 clear hh hb;refine ac (b9 ?_);rw[←iQ,show vs.toArray.toList=vs from rfl];refine ac (bf (gW _ (λje _ s'=>KsJ s a b K vs ks je s') (λ_ s'=>KsJ s a b K vs ks [] s') ?_ (λ_ _ h=>h) vs _ ⟨0,Y,s.toks,[],0,rfl,by simp,by simp,ho6,Z,⟨rfl,λi S=>absurd S (Nat.not_lt_zero _)⟩,kp⟩) ?_ (λ_ _ e=>e))
 ·rintro x je _ _ ⟨m,h',tk,ws,e,rfl,hm,hr,g1,U,ky,t⟩;have I:m < vs.length:=by simp only[aE]at hm;lia
  rw[cz I]at hr;injection hr with e0 hr
  subst e0
  (refine ac (gV ?_))
  have hx:vs[m]=vs.getD m aU:=by simp[I]
  rw[hx];refine bf (N m h' tk (λv s2=>∃d u k,v=.str (ks.getD m cM) u/\s2={s with heap:=d,toks:=k}/\ ∀c o,h'.get? c=some o->d.get? c=some o) I t λd u k y=>⟨d,u,k,rfl,rfl,y⟩) ?_ (λ_ _ z=>z.elim)
  ·rintro _ _ ⟨d,u,k,rfl,rfl,y⟩;dsimp only;have wl:ws.length <=63:=by rw[ky.len];lia
   refine ac (dE (y _ _ U) rfl ?_ (by rw[ax,bq];lia) (by rw[Array.size_push,ax,bq];lia));refine ah ?_;obtain⟨e2,he2⟩: ∃e2,(d.update b (bJ λx=>x.push (.str (ks.getD m cM) u))).get? b=some (seqObj "list" (ws.toArray.push (.str (ks.getD m cM) u)) e2):=⟨_,f7 (y _ _ U) _⟩;refine⟨m+1,_,k,ws++ [.str (ks.getD m cM) u],e2,rfl,by simp only[aE]at hm;lia,hr,?_,by rw[he2];simp,ky.snoc u,λc o r H=>?_⟩
   ·rw[cv _ _ _ _ M];exact y _ _ g1
   ·rw[cv _ _ _ _ (old c o H)];exact y _ _ (t c o r H)
 ·rintro _ _ ⟨m,h',tk,ws,e,rfl,hm,hr,g1,U,ky,t⟩;have hm':m=vs.length:=by simpa using hm
  subst hm';refine ac (kJ U rfl ?_)
  (simp only[bz,if_false])
  have D: ∀(h7:Heap) (out:Array ae),(∀c o,c≠a->s.heap.get? c=some o->((h7.update b (bJ λ_=>(#[]:Array ae))).update a (bJ λ_=>out)).get? c=h7.get? c):=λh7 out c o r e=>by
   rw[cv _ _ _ _ r,cv _ _ _ _ (old c o e)]
  have wl:ws.length=vs.length:=ky.len;by_cases h2:vs.toArray.size < 2 --
  ·rw[if_pos h2];refine ac (ah ?_);rw[if_pos h2,StateT.run_pure];refine ac (ah ?_);dsimp only;refine ac (dE U rfl ?_ (by rw[ax,bq];lia) (bn _));refine ac (iO ?_);have q:(h'.update b (bJ λ_=>(#[]:Array ae))).get? a=some (seqObj "list" #[] K):=by rw[cv _ _ _ _ M];exact g1
   refine ac (gT q rfl ?_);refine ac (dE q rfl ?_ (bn _) (by simp[bq];lia))
   (simp only[bne_self_eq_false,bz,if_false])
   obtain⟨J,O⟩: ∃J,((h'.update b (bJ λ_=>(#[]:Array ae))).update a (bJ λ_=>(ws.toArray.zip vs.toArray).map λx=>x.2)).get? a=some (seqObj "list" ((ws.toArray.zip vs.toArray).map λx=>x.2) J):=⟨_,f7 q _⟩;refine ah (fin _ tk J ?_ λc o r H=>(D h' _ c o r H).trans (t c o r H));rw[O,a21 wl];unfold pK;rw[if_pos (by rw[ax]at h2;exact h2),ai7]
  ·rw[if_neg h2];have h2':2 <=vs.length:=by rw[ax]at h2;lia
   refine ac (bf (kas_kind (vs:=ws) (T:=.type "str") (Q:=λ κ s''=>κ=oneType'/\s''={s with heap:=h',toks:=tk}) (by lia) (λv hv=>?_) (by decide) (by decide) ⟨rfl,rfl⟩) ?_ (λ_ _ e=>e))
   ·obtain⟨i,S⟩:=fD.mp hv;obtain⟨u,eu⟩:=ky.at_ i (by rw[←wl];exact(am.mp S).1);rw[S]at eu;cases eu;exact mi rfl
   ·rintro _ _ ⟨rfl,rfl⟩;rw[if_neg h2];have hw:(ff vs.length).kasWp (kas_ask prog w A oneType' ws) (λp s'=>s'={s with heap:=h',toks:=tk}/\p=run (ltK ks) (ff vs.length)) {s with heap:=h',toks:=tk}:=
     al9 (lt:=ltK ks) (n:=vs.length) (λi j C S hj hC=>by
      obtain⟨ti,ei⟩:=ky.at_ i S;obtain⟨tj,ej⟩:=ky.at_ j hj;show wpAny (model prog w) A (keyLt' oneType' (ws.getD i aU) (ws.getD j aU)) C (λ_ _=>False) _;rw[show ws.getD i aU=.str (ks.getD i cM) ti by simp[ei],show ws.getD j aU=.str (ks.getD j cM) tj by simp[ej]];refine kas_lt_str ?_;have:ltK ks i j=decide ((ks.getD i cM).cps.toList < (ks.getD j cM).cps.toList):=by
       unfold ltK;rw[av (show i < ks.length by lia),av (show j < ks.length by lia)];simp[show i < ks.length by lia,show j < ks.length by lia]
      rw[←this];exact hC) (ff vs.length) (aju (by lia)) ⟨rfl,rfl⟩
    refine ac (bf (kat_run (Q:=λl s'=>∃p:Array Nat,p.size=vs.length/\arrOf l=p.map (kas_item (ws.toArray.zip vs.toArray))/\failedOf l=none/\s'={s with heap:=h',toks:=tk}/\p=run (ltK ks) (ff vs.length))
     wl h2' h64 (λp' l s' a1 a2 a3 a4=>⟨p',a1,a2,a3,a4⟩) hw) ?_ λ_ _ e=>e)
    rintro⟨⟨⟩,l⟩ _ ⟨p,hp,har,hf,rfl,ep⟩;dsimp only;refine ac (dE U rfl ?_ (by rw[ax,bq];lia) (bn _));refine ac (iO ?_);have q:(h'.update b (bJ λ_=>(#[]:Array ae))).get? a=some (seqObj "list" #[] K):=by rw[cv _ _ _ _ M];exact g1
    refine ac (gT q rfl ?_);have F:=kat_snds wl har;have hsz:((arrOf l).map (·.2)).size <=sizeLine+1:=by rw[F,ax,ao,b8,hp,bq];lia
    refine ac (dE q rfl ?_ (bn _) hsz);split
    ·rename_i e heq;exact absurd (hf.symm.trans heq) (by simp)
    ·simp only[bne_self_eq_false,bz,if_false];obtain⟨J,O⟩: ∃J,((h'.update b (bJ λ_=>(#[]:Array ae))).update a (bJ λ_=>(arrOf l).map (·.2))).get? a=some (seqObj "list" ((arrOf l).map (·.2)) J):=⟨_,f7 q _⟩;refine ah (fin _ tk J ?_ λc o r H=>(D h' _ c o r H).trans (t c o r H));refine O.trans ?_;rw[F,ep];unfold pK;rw[if_neg (by lia)]
end
end KS
namespace PF
open PySem PySem.Spec PySem.W PyProof.Rows
open L2
theorem ani(a b:ae):argsOk "sorted" ⟨[a],[("key",b)]⟩:=by unfold argsOk;kernel_rfl
theorem ahx(a b:ae):argsOk "list.sort" ⟨[a],[("key",b)]⟩:=by
 unfold argsOk;kernel_rfl
def okK(d:aa):Bool:=okS d&&decide (d.depth <=32)&&(match d with|.tuple _=>true|_=>false)
def kyO(xs:List aa):List Nat:=KS.pK xs.length (xs.map io)
section
variable[XW]{X:Cx}
def atn(X:Cx)(vs:List V)(H:Hp)(Q:VK):Prop:= ∃a zs ds as,vs=[.ref a]/\(SqL X.K H a zs\/SqT X.K H a zs)/\TDs as H zs ds/\ds.all okK=true/\ds.length < 64/\ ∀p H',New H p (.lst ((kyO ds).map λi=>zs.getD i .non)) H'->Q (.ref p) H'
theorem ans{k:Nat}(hr:Room k X.A)(hu:X.A.units+70 < cLine)(c:List (Addr×Obj))(s:af)(σ:L2.St)(H:Hp)(vs:List V)(Y:List ae)(Q:VK)(I:Inv X c σ H s)(j:jl vs Y)(h:atn X vs H Q):
  wpAny (model X.prog X.w) X.A (call (.builtin "sorted") Y [("key",.type "str")]) (EP X c σ Q) X.xe s:=by
 obtain⟨p,L,es,as,rfl,sq,td,hok,h64,q⟩:=h;obtain⟨u,rfl,O⟩:=vals1 j;cases O;have fin: ∀(a:List ae),jl L a->(∃(T:String) (o:Obj) (n:Nat),(T="list"\/T="tuple")/\s.heap.get? p=some o/\o.cls=.type T/\o.data=.seq a.toArray n)->wpAny (model X.prog X.w) X.A (call (.builtin "sorted") [.ref p] [("key",.type "str")]) (EP X c σ Q) X.xe s:=λa j ⟨T,o,n,hT,ho,M,hd⟩=>by
  obtain⟨bs,ra⟩:=td.reads I j;have P:a.length=es.length:=iY es a bs ra;have hz:L.length=es.length:=td.length;refine call_function_entry_kw kind_sorted plain_sorted entry_sorted (ani _ _) ?_;unfold dS.«sorted»;refine ac (m:=checkCount "sorted" 1 1 _) (ah (ac (kS p hT ho M hd (λh' kp=>?_) (by rw[ax,bq];lia))));refine ac (jI ?_ (by rw[bq];show a.length <=_;lia));have g:(h'.push {cls:=.type "list",data:=.seq a.toArray}).get? h'.objs.size=some (seqObj "list" a.toArray 0):=aD _ rfl;have S:=abq X.A;have W:=abq X.A.in1;refine ac (bg (wpAny_call_entry_kw slot_list_sort ⟨_,g,rfl⟩ entry_list_sort (KS.ayq (ks:=es.map io) g (by lia) (by rw[ao];lia) (λi r tk R y hk kR=>?_) λr tk e U C=>⟨_,rfl,?_⟩) (ahx _ _)))
  ·obtain⟨d,cs,Z,rd⟩:=abm (i:=i) ra (by lia);have K:=aB.mp hok d (bE Z);unfold okK okS at K;simp only[aJ,decide_eq_true_eq]at K;obtain⟨⟨⟨⟨⟨o1,o2⟩,o3⟩,o4⟩,o5⟩,o6⟩:=K;have nd:=kH d o1;have ek:(es.map io).getD i cM=d.shown:=by simp[Z]
   generalize a.getD i aU=v at rd⊢;cases rd with
   | tuple k1 C J k4=>
    refine str_of_reads (.tuple k1 C J k4) o2 (λz=>by rw[nd]at z;cases z) hr.gd (by lia) (λb o l=>?_) (λx u N J=>?_) o4
    ·exact hk b o (aI (ay (kp b o l))) (ag _ (kp b o l))
    ·have:=kR x u N J;rw[ek]at this;exact this
   |_=>cases o6
  ·have kold: ∀b o,s.heap.get? b=some o->r.get? b=some o:=λb o l=>C b o (aI (ay (kp b o l))) (ag _ (kp b o l))
   have I1:Inv X c σ H {s with heap:=h',toks:=s.toks}:=I.un (Un.kept kp) (I.hok.kept kp);have pm:(kyO es).Perm (a8 es.length):=KS.aiw _ _;have D: ∀i∈kyO es,i < es.length:=λi y=>eC.mp (pm.mem_iff.mp y)
   have vp:=aft j (kyO es) (λi y=>by rw[hz];exact D i y);have t:(kyO es).length=es.length:=by rw[pm.length_eq,List.length_range]
   have E:KS.pK a.length (es.map io)=kyO es:=by unfold kyO;rw[P]
   rw[E]at U;have I2:Inv X c σ (upd H h'.objs.size (.lst ((kyO es).map λi=>L.getD i .non))) {s with heap:=r,toks:=tk}:=I1.laid (t':=tk) (λb o l=>C b o (aI (ay l)) (ag _ l)) (aj _) ⟨by rw[ao,t,bq];lia,_,e,vp,by simpa[mB] using U⟩;exact ah ⟨_,rfl,.ref h'.objs.size,_,I2,rfl,q _ _ ⟨I1.hok.fresh (aj _),rfl⟩⟩
 rcases sq with sq|sq
 ·obtain⟨a,j,⟨o,k,F,r,x,h4⟩,z⟩:=I.list sq;exact fin a j ⟨"list",o,_,.inl rfl,F,r,h4⟩
 ·obtain⟨a,j,⟨o,F,r,k,x⟩,z⟩:=I.tuple sq;exact fin a j ⟨"tuple",o,_,.inr rfl,F,r,x⟩
theorem arn{a:Expr}{e:TA}{p l kp:Pos}{k:Nat}(hr:Room k X.A)(t:X.A.units+70 < cLine)(u:Gl X "sorted")(hm:X.mg "sorted"=none)(d:Gl X "str")(c:X.mg "str"=none)(n:bK "sorted"=some (.builtin "sorted"))(b2:bK "str"=some (.type "str"))(q:PA X [a] e)(j:starEach [a] X.env=[(false,eval a X.env)]:=by rfl):PE X (.Call (.Name "sorted" p) [a] [⟨some "key",.Name "str" l,kp⟩] pos) (tCB (atn X) e):=by
 refine⟨?_⟩;intro b s σ H Q I h;refine eU (ae0 I u hm n ?_);refine callWith_kw (thn (q pos b s σ H _ I h) λr v ⟨vs,m,I1,o,q1⟩=>?_) (by rw[j];rfl) (by rw[j];rfl);refine kws_cons (ae0 I1 d c b2 (kws_nil ?_));exact ans hr t b _ σ m vs r Q (I1.tok _) o q1
def ab0(m:Bool)(ds:List D)(s:S):R D:=match ds with
 |[d]=>match (ae7 s d).bind j2 with
  |some xs=>if xs.all okK=true/\xs.length < 64 then qj m (((kyO xs).map λi=>xs.getD i .none).map D.da) s else .bad
  |none=>.bad
 |_=>.bad
theorem as0(m:Bool){f:FA}{p J kp:Pos}{k:Nat}(hr:Room k X.A)(I:X.A.units+70 < cLine)(j:X.mg "sorted"=none)(c:X.mg "str"=none)(F:RA X [e] f)(d:Gl X "sorted":=by rfl)(r:Gl X "str":=by rfl)(hs:starEach [e] X.env=[(false,eval e X.env)]:=by rfl):RE X (.Call (.Name "sorted" p) [e] [⟨some "key",.Name "str" J,kp⟩] pos) (fCB (ab0 m) f):=by
 obtain⟨t,x,M⟩:=F.ex;refine⟨_,arn hr I d j r c an2 a78 x hs,λas σ H ρ s Q D N h=>?_⟩;refine M as σ H ρ s _ D N (Dn.bind h λds O o S vs st1 b E a=>?_);unfold ab0 at a;split at a
 ·obtain⟨v,rfl,L⟩:=E.one;split at a
  ·rename_i ps e;split at a
   ·rename_i hk;cases l:ae7 O _ with
    |none=>rw[l]at e;cases e
    |some xs=>
     rw[l]at e;obtain⟨p,y,rfl,sq,z⟩:=ads b L l;have u:=yi (show j2 xs=some ps from e);subst u;have w:=RDs.td z;refine⟨p,y,ps,o,rfl,sq,w,hk.1,hk.2,λq P n2=>?_⟩;have n: ∀i∈kyO ps,i < ps.length:=λi C=>eC.mp ((KS.aiw _ _).mem_iff.mp C)
     exact aal a b ((w.pick (kyO ps) n).rd (K:=X.K)) n2
   ·exact a.elim
  ·exact a.elim
 ·exact a.elim
end
end PF
namespace L2
open PySem PySem.Spec PyProof.Rows
open MeetsSeq MeetsSeq2 MeetsSeq3 SeqRoads2 --
def aar(h:Heap)(d:Addr)(es:Array cL)(ep:Nat):Prop:= ∃o,h.get? d=some o/\o.ExactDict/\o.data=.dict es ep
section
variable{prog:aP}{w:aM}{A:bh}{E:ae->af->Prop}{s:af}{it d:Addr}{es:Array cL}{ep i:Nat}
theorem amt{Q:Option ae->af->Prop}(c:s.heap.IsKeyIter it d i es.size ep)(hm:aar s.heap d es ep)(o:i < es.size)
  (u: ∀h',h'.IsKeyIter it d (i+1) es.size ep->bX it s.heap h'->Q (some es[i].key) {s with heap:=h'}):wpAny (model prog w) A (pyNext (.ref it)) Q E s:=by
 have j:=c.typeIs;obtain⟨⟨v,m,e,l⟩,ho,k,hd⟩:=id c;obtain⟨⟨y,r,h,q⟩,n,p,b⟩:=id hm;simp only at k hd b;subst k hd b;have a:iK ((Manifest.find? "dict_keyiterator").elim "dict_keyiterator" λx=>x.tpName)=false:=by decide+kernel
 unfold pyNext;refine ac (gV (bI (name:=bj "__next__") j cH (bL cH j iB ?_ (ip _))));wp_walk
 simp only[a,bz,if_false,iI,List.take];wp_walk
 rw[if_neg (show¬((i:Int) < 0) by lia),bt,f8 o];wp_walk
 simp only[a,bz,if_false,Nat.zero_add];refine⟨_,rfl,ah ?_⟩;split
 ·rename_i t;exact absurd t (by decide+kernel)
 ·refine u _ ⟨_,cB _ ho (fE (cZ rfl _)),rfl,?_⟩ (cw ..);rw[cZ rfl];simp[rawInt]
end
section
variable{prog:aP}{w:aM}{A:bh}{E:ae->af->Prop}{s:af}{it d:Addr}{es:Array cL}{ep i:Nat}
theorem anq{Q:Option ae->af->Prop}(hh:A.handled=none)(e:s.heap.IsKeyIter it d i es.size ep)(hm:aar s.heap d es ep)(p:es.size <=i)
  (u: ∀h',gR it s.heap h'->Q none {s with heap:=h'}):wpAny (model prog w) A (pyNext (.ref it)) Q E s:=by
 have k:=e.typeIs;obtain⟨⟨v,n,h,m⟩,ho,l,hd⟩:=id e;obtain⟨⟨y,t,j,r⟩,o,q,c⟩:=id hm;simp only at l hd c;subst l hd c;have a:iK ((Manifest.find? "dict_keyiterator").elim "dict_keyiterator" λx=>x.tpName)=false:=by decide+kernel
 unfold pyNext;refine ac (gV (bI (name:=bj "__next__") k cH (bL cH k iB ?_ (ip _))));wp_walk
 simp only[a,bz,if_false,iI,List.take];wp_walk
 rw[if_neg (show¬((i:Int) < 0) by lia),bt,Array.getElem?_eq_none p];wp_walk
 unfold raiseNew
 (refine ac (wpAny_handled ?_))
 (rw[show A.in1.handled=none from hh])
 (refine ac (ah (wpAny_throw ?_)))
 (refine ac (jY (T:="StopIteration") (b:=true) ⟨_,aD _ rfl,rfl⟩ isSubtype_stop ?_))
 (exact ah (u _ (((cw ..).extBut.push _).push _)))
end
section
variable{prog:aP}{w:aM}{A:bh}{E:ae->af->Prop}{s:af}{it d:Addr}{es:Array cL}{ep i:Nat}
theorem al1(hd:(d==bA)=false)(hm:aar s.heap d es ep)(h:Q (.ref s.heap.objs.size) {s with heap:=s.heap.push {cls:=.type "dict_keyiterator",data:=.fields #[.ref d,.int (0:Nat) 0,.int (es.size:Nat) 0,.int (ep:Nat) 0]}}):wpAny (model prog w) A (pyIter (.ref d)) Q E s:=by
 obtain⟨⟨o,n,k,m⟩,j,⟨a,b,e⟩,c⟩:=id hm;simp only at c a b e;subst c a b e;have l:s.TypeIs (.ref d) "dict":=⟨_,j,rfl⟩
 (refine wpAny_pyIter_slot l F.slot_dict_iter (bL F.slot_dict_iter l F.entry_dict_iter ?_ (F.args_dict_iter_1 _)))
 wp_walk
 refine⟨_,rfl,"dict_keyiterator",_,⟨_,aD _ rfl,rfl⟩,cH.lookup,?_⟩;simpa[rawInt] using h
theorem aar.at{h':Heap}(x:aar h d es ep)(e: ∀o,h.get? d=some o->h'.get? d=some o):aar h' d es ep:=let ⟨o,ho,r⟩:=x;⟨o,e _ ho,r⟩
theorem aar.lt(x:aar h d es ep):d < h.objs.size:=let ⟨_,ho,_⟩:=x;ay ho
theorem aar.typeIs(x:aar s.heap d es ep):s.TypeIs (.ref d) "dict":=let ⟨_,ho,a,_⟩:=x;⟨_,ho,a.1⟩
theorem ar1(hh:A.handled=none)(I:Addr)(k:d≠I):nc prog w A I [I,d] [I] es.size (λi v=>es[i]?.map (·.key)=some v) (λi h=>h.IsKeyIter I d i es.size ep/\aar h d es ep) where
 sub b a:=by simp at a;simp[a]
 frame _ _ _ st hk:=⟨st.1.at λo e=>hk I (by simp) o e,st.2.at λo e=>hk d (by simp) o e⟩
 item i s Q E hi st hQ:=amt st.1 st.2 hi λh' c j=>hQ _ h' s.toks (by rw[f8 hi];rfl) ⟨c,st.2.at λo e=>(j.2 d k).trans e⟩ λb o a e=>j.extBut b o (λz=>a (by simp[z])) e
 done s Q E st hQ:=anq hh st.1 st.2 (aj _) λh' l=>hQ h' s.toks λb o a e=>l b o (λz=>a (by simp[z])) e
 self _ _ _ _ st hQ:=lZ st.1 hQ
theorem anj(lo:(d==bA)=false):PySem.W.KdlSrc prog w "dict" d d es.size (λi v=>es[i]?.map (·.key)=some v) (λh=>aar h d es ep) where
 type _ hm:=hm.typeIs
 there _ hm:=⟨hm.lt,hm.lt⟩
 keep _ _ hm hk:=hm.at λo e=>hk d (.inl rfl) o e
 notList:=by decide
 notTuple:=by decide
 hint _ _ _ _ hm a:=PySem.W.kdl_hint_dict hm.typeIs a
 iter _ _ hh hm:=⟨_,_,λ_ _ a=>al1 lo hm a,ar1 hh _ (aI hm.lt),⟨⟨_,aD _ rfl,rfl,rfl⟩,hm.at λo e=>ag _ e⟩⟩
end
end L2
namespace L2
open PySem PySem.Spec PyProof.Rows
section
variable{P:aP}{w:aM}{H:Hp}{h:Heap}{a:Addr}
mutual
theorem KD.reads(ok:HOk P w H h): ∀{v:V} {d:aa} {u:ae},KD H v d->RelV v u->∃bs,c8 h u d bs
 |_,_,u,.non,r=>by cases (show u=aU from r);exact⟨_,.none⟩
 |_,_,u,.int i,r=>by obtain⟨t,e⟩:=(show∃t,u=hU i t from r);subst e;exact⟨_,.int i t⟩
 |_,_,u,.str x,r=>by obtain⟨t,e⟩:=(show∃t,u=iR x t from r);subst e;exact⟨_,.str x t⟩
 |_,_,u,.tup (p:=b) (xs:=xs) e q,r=>by
  cases (show u=bi b from r);obtain⟨z,its,rv,p⟩:=(show km P w H h b (.tup xs) from ok b _ e);obtain⟨o,h1,h2,k,h3⟩:=p.tup;obtain⟨bs,ra⟩:=KDs.reads ok q rv;exact⟨_,.tuple h1 h2 h3 ra⟩
theorem KDs.reads(ok:HOk P w H h): ∀{vs:List V} {ds:List aa} {us:List ae},KDs H vs ds->jl vs us->∃bs,cD h us ds bs
 |_,_,_,.nil,r=>by cases r;exact⟨_,.nil⟩
 | _,_,_,.cons a b,r=>by
  cases r with
  |cons r1 r2=>
   obtain⟨as,h1⟩:=KD.reads ok a r1;obtain⟨bs,h2⟩:=KDs.reads ok b r2;exact⟨_,.cons h1 h2⟩
end
theorem ac2(ok:HOk P w H h){b:Addr}{k:aa}(hk:PF.vn k=true)(e:KD H (.ref b) k):(PF.kf P w).is h k b:=⟨hk,e.reads ok rfl⟩
abbrev KE(H:Hp):List (aa×V)->List (aa×Addr×ae)->Prop:=eE λp q=>p.1=q.1/\(PF.vn p.1=true/\KD H (.ref q.2.1) p.1)/\RelV p.2 q.2.2
theorem KE.val{kvs:List (aa×V)}{xs:List (aa×Addr×ae)}(r:KE H kvs xs)(k:aa):vy (vo kvs k) ((atKey xs k).map (·.2)):=by
 induction r with
 |nil=>exact eB
 | @cons p q ps a hh t b=>
  by_cases e:p.1=k
  ·rw[aa4 e,show atKey (q::a) k=some q.2 by simp[atKey,bW,hh.1.symm.trans e]];exact hh.2.2
  ·have c: ¬q.1=k:=λz=>e (hh.1.trans z)
   rw[aa7 e,show atKey (q::a) k=atKey a k by simp[atKey,bW,c]];exact b
theorem KE.put{kvs:List (aa×V)}{xs:List (aa×Addr×ae)}(r:KE H kvs xs){k:aa}{b:Addr}{y:V}(hk:PF.vn k=true)(d:KD H (.ref b) k)(a:RelV y u):KE H (jp kvs k y) (storedH xs k b u):=by
 have e:(kvs.any λc=>decide (c.1=k))=(atKey xs k).isSome:=by rw[aco,(r.val k).isSome_eq,bZ]
 unfold jp storedH;rw[e];by_cases q:(atKey xs k).isSome=true
 ·rw[if_pos q,if_pos q];clear e q;induction r with
  |nil=>exact .nil
  | @cons p q ps j hh t h=>
   rw[aw,aw];refine .cons ?_ h;unfold putAt;by_cases e:p.1=k
   ·rw[if_pos e,if_pos (hh.1.symm.trans e)];exact⟨hh.1,hh.2.1,a⟩
   ·rw[if_neg e,if_neg λz=>e (hh.1.trans z)];exact hh
 ·rw[if_neg q,if_neg q];exact mW r ⟨rfl,⟨hk,d⟩,a⟩
def yj{prog:aP}{w:aM}{κ:Type}[DecidableEq κ](knd:lR prog w κ)(h:Heap)(d:Addr)(xs:List (κ×Addr×ae)):Prop:=
 ∃o es ep,h.get? d=some o/\o.ExactDict/\(o.data=.dict es ep/\ep=es.size)/\es.toList=xs.map (eA knd)/\(∀x∈xs,knd.is h x.1 x.2.1)/\(xs.map (·.1)).Nodup
theorem yj.oh{prog:aP}{w:aM}{κ:Type}[DecidableEq κ]{knd:lR prog w κ}{d:Addr}{xs:List (κ×Addr×ae)}(z:yj knd h d xs):h.DictOfH knd d xs:=
 let ⟨o,es,ep,b,a,e,c⟩:=z
 ⟨o,es,ep,b,a,e.1,c⟩
theorem avb{kvs:List (aa×V)}(ok:HOk P w H h)(e:H a=some (.dD kvs)):kvs.length <=sizeLine/\(a==bA)=false/\ ∃xs,KE H kvs xs/\yj (PF.kf P w) h a xs:=by
 obtain⟨z,y,xs,r,o,es,ep,l,k,d,c,j⟩:=(show km P w H h a (.dD kvs) from ok a _ e);refine⟨z,y,xs,r,o,es,ep,l,k,d,c,?_,j⟩;clear d c j z e;induction r with
 |nil=>intro x hx;exact nomatch hx
 | @cons p q ps n b t m=>
  intro x hx;rcases aL.mp hx with e|hx
  ·subst e;exact ac2 ok (b.1▸b.2.1.1) (b.1▸b.2.1.2)
  ·exact m x hx
theorem a6y{kvs:List (aa×V)}(ok:HOk P w H h)(e:H a=some (.dD kvs)):kvs.length <=sizeLine/\(a==bA)=false/\ ∃xs,KE H kvs xs/\h.DictOfH (PF.kf P w) a xs:=
 let ⟨z,y,xs,r,q⟩:=avb ok e
 ⟨z,y,xs,r,q.oh⟩
theorem auk(ok:HOk P w H h)(e:H a=some (.dK [])):(a==bA)=false/\yj (PF.kf P w) h a []:=by
 obtain⟨j,z,y,vs,r,o,es,ep,c,b,d,k,m,l⟩:=(show km P w H h a (.dK []) from ok a _ e);obtain⟨o,c,b,d⟩:=j rfl;exact⟨y,o,#[],0,c,b,⟨d,rfl⟩,rfl,(λx hx=>by cases hx),gA⟩
end
section
variable{X:Cx}{pins:List (Addr×Obj)}{σ:St}{H:Hp}{s:af}{a b:Addr}{v:V}{r:ae}{k:aa}{kvs:List (aa×V)}{A:bh}{E:ae->af->Prop}
def DD(H:Hp)(a:Addr)(kvs:List (aa×V)):Prop:=H a=some (.dD kvs)\/(H a=some (.dK [])/\kvs=[])
theorem DD.rs{w:aM}(ok:HOk P w H h)(e:DD H a kvs):kvs.length <=sizeLine/\(a==bA)=false/\ ∃xs,KE H kvs xs/\yj (PF.kf P w) h a xs:=by
 rcases e with e|⟨e,rfl⟩
 ·exact avb ok e
 ·exact⟨bn _,(auk ok e).1,[],.nil,(auk ok e).2⟩
theorem DD.rd{w:aM}(ok:HOk P w H h)(e:DD H a kvs):kvs.length <=sizeLine/\(a==bA)=false/\ ∃xs,KE H kvs xs/\h.DictOfH (PF.kf P w) a xs:=
 let ⟨z,y,xs,r,q⟩:=e.rs ok
 ⟨z,y,xs,r,q.oh⟩
theorem DD.mut(e:DD H a kvs):Mut (H a):=by
 rcases e with e|⟨e,rfl⟩ <;> (rw[e];exact eB)
theorem aad(a:A.units+11 < cLine){w:aM}:(PF.kf P w).room A.in1:=by
 show A.in1.units+10 < cLine;have:A.in1.units <=A.units+1:=by first|exact aj _|(unfold lQ;simp)
 lia
theorem a8a(c:A.units+11 < cLine)(I:Inv X pins σ H s)(e:DD H a kvs)(hk:PF.vn k=true)(j:KD H (.ref b) k)(h: ∀s',Inv X pins σ H s'->Q (.bool (vo kvs k).isSome) s'):wpAny (model X.prog X.w) A (bb .In (.ref b) (.ref a)) Q E s:=by
 obtain⟨z,hd,xs,rel,d⟩:=e.rd I.hok;have q:=(rel.val k).isSome_eq;rw[bZ]at q;exact wpAny_in_heap (aad c) (ac2 I.hok hk j) hd d (q▸h _ (I.tok _))
theorem axr(c:A.units+11 < cLine)(I:Inv X pins σ H s)(e:DD H a kvs)(hk:PF.vn k=true)(j:KD H (.ref b) k)(h: ∀s',Inv X pins σ H s'->Q (.bool (!(vo kvs k).isSome)) s'):wpAny (model X.prog X.w) A (bb .NotIn (.ref b) (.ref a)) Q E s:=by
 obtain⟨z,hd,xs,rel,d⟩:=e.rd I.hok;have q:=(rel.val k).isSome_eq;rw[bZ]at q;exact wpAny_notIn_heap (aad c) (ac2 I.hok hk j) hd d (q▸h _ (I.tok _))
theorem amw{w:aM}{h':Heap}{xs:List (aa×Addr×ae)}(z:kvs.length <=sizeLine)(hd:(a==bA)=false)(rel:KE H kvs xs)(k: ∀b ys,H b=some (.tup ys)->H' b=some (.tup ys))(d:yj (PF.kf P w) h' a xs):km P w H' h' a (.dD kvs):=by
 obtain⟨o,es,ep,j,e,l,c,m,h⟩:=d;exact⟨z,hd,xs,Paired.mapP rel λp q y=>⟨y.1,⟨y.2.1.1,y.2.1.2.mono k⟩,y.2.2⟩,o,es,ep,j,e,l,c,h⟩
section
variable{prog:aP}{w:aM}{A:bh}{E:ae->af->Prop}{s:af}{κ:Type}[DecidableEq κ]{knd:lR prog w κ}
theorem ahr{o:Obj}{es:Array cL}{d a:Addr}{xs:List (κ×Addr×ae)}{k:κ}{v:ae}(b:knd.is s.heap k a)(ho:s.heap.get? d=some o)(r:o.ExactDict)(hd:o.data=.dict es ep)(m:ep=es.size)(n:es.toList=xs.map (eA knd))(h: ∀x∈xs,knd.is s.heap x.1 x.2.1)(hn:(xs.map (·.1)).Nodup)(j:atKey xs k=none)(c:k∉xs.map (·.1)):
  yj knd (s.heap.update d (Obj.mapDictKeys (·.push (eA knd (k,a,v))))) d (storedH xs k a v):=by
 have sb:bX d s.heap (s.heap.update d (Obj.mapDictKeys (·.push (eA knd (k,a,v))))):=cw ..;rw[storedH_new j];refine⟨_,_,ep+1,cB _ ho (mC (l4 hd _)),r.mapDictKeys _,⟨l4 hd _,by rw[m];simp⟩,by simp[n],λx hx=>?_,?_⟩
 ·rcases aS.mp hx with q|q
  ·exact knd.keeps (h x q) ho hd sb
  ·cases aA.mp q;exact knd.keeps b ho hd sb
 ·rw[cO];refine jQ.mpr ⟨hn,cN.mpr ⟨cV,gA⟩,λx hx y l e=>c ?_⟩;cases aA.mp l;have p:x=k:=e;exact p▸hx
theorem ag5{d a:Addr}{xs:List (κ×Addr×ae)}{k:κ}{v:ae}{Q:Unit->af->Prop}(t:knd.room A)(b:knd.is s.heap k a)(hm:yj knd s.heap d xs)
  (D: ∀h',yj knd h' d (storedH xs k a v)->bX d s.heap h'->Q () {s with heap:=h',toks:=s.toks+knd.draws k}) (hsz:xs.length <=sizeLine):wpAny (model prog w) A (dictSet d (.ref a) v) Q E s:=by
 obtain⟨o,es,ep,ho,u,⟨hd,z⟩,m,c,hn⟩:=hm;unfold dictSet
 (try with_reducible refine bg ?_)
 refine ac (knd.pyHash t b ?_);unfold dictSetHashed
 (try with_reducible refine bg ?_)
 refine ac (mD (s:={s with toks:=s.toks+knd.draws k}) t b ho hd m c hn (λh=>?_) λj p C=>?_)
 ·exact ac (b9 (l6 (hz:=by have e:=f9 m;lia) (s:={s with toks:=s.toks+knd.draws k}) ho hd (D _ (ahr b ho u hd z m c hn (jR h) (mE h)) (cw ..))))
 ·refine ac (b9 (ac (wpAny_updateDict (s:={s with toks:=s.toks+knd.draws k}) ho hd (wpAny_point (D _ ?_ (cw ..))))));have r:=atKey_of_get hn C;refine⟨_,_,ep,cB _ ho (mC (Obj.data_mapDict hd _)),u.mapDict _,⟨Obj.data_mapDict hd _,by rw[z];simp⟩,?_,?_,?_⟩
  ·have q:=modify_map_putAt (eA knd) (λe:cL=>{e with val:=v}) k v (λ_ _=>rfl) hn C;rw[←m]at q;rw[m8 r];obtain⟨l⟩:=es;simpa using q
  ·rw[m8 r];intro x hx;obtain⟨y,F,H⟩:=aO.mp hx;have n:x.1=y.1/\x.2.1=y.2.1:=by rw[←H];unfold putAt;split <;> exact⟨rfl,rfl⟩
   rw[n.1,n.2];exact knd.keeps (c y F) ho hd (cw ..)
  ·rw[m8 r,aY];have n:((·.1)∘putAt k v:κ×Addr×ae->κ)=(·.1):=by funext y;show(putAt k v y).1=y.1;unfold putAt;split <;> rfl
   rw[n];exact hn
theorem at4{d a:Addr}{xs:List (κ×Addr×ae)}{k:κ}{v:ae}{Q:Unit->af->Prop}(h:knd.room A.in1)(b:knd.is s.heap k a)(hm:yj knd s.heap d xs)
  (j: ∀h',yj knd h' d (storedH xs k a v)->bX d s.heap h'->Q () {s with heap:=h',toks:=s.toks+knd.draws k}) (hsz:xs.length <=sizeLine):wpAny (model prog w) A (setItem (.ref d) (.ref a) v) Q E s:=by
 unfold setItem
 (try with_reducible refine bg ?_)
 refine ac (gK hm.oh.typeIs (by decide) (ac (bI (name:=bj "__setitem__") hm.oh.typeIs slot_dict_setitem (bL slot_dict_setitem hm.oh.typeIs entry_dict_setitem ?_ (args_dict_setitem _ _ _)))));refine(show wpAny _ _ (Builtin.Dict.notOrdered "__setitem__" ⟨[.ref d,.ref a,v],[]⟩>>=_) _ _ s from ac (fA hm.oh.typeIs ?_));exact(show wpAny _ _ (dictSet d (.ref a) v >>=_) _ _ s from ac (ag5 h b hm (λh' c e=>ah ⟨.none,rfl,ah (j h' c e)⟩) hsz))
end
theorem apz{Q:Unit->af->Prop}(p:A.units+11 < cLine)(I:Inv X pins σ H s)(e:DD H a kvs)(C:kvs.length < sizeLine)(hk:PF.vn k=true)(m:KD H (.ref b) k)(n:RelV v r)(h: ∀s',Inv X pins σ (upd H a (.dD (jp kvs k v))) s'->Q () s'):wpAny (model X.prog X.w) A (setItem (.ref a) (.ref b) r) Q E s:=by
 obtain⟨z,hd,xs,rel,o⟩:=e.rs I.hok;have hz:xs.length <=sizeLine:=by rw[←bV rel];exact z
 have j:(jp kvs k v).length <=sizeLine:=by have:=vh kvs k v;lia
 refine at4 (hsz:=hz) (aad p) (ac2 I.hok hk m) o λh' d hs=>h _ ?_
 have x: ∃q,h'.get? a=some q:=let ⟨q,_,_,u,_⟩:=d;⟨q,u⟩;have t: ∀c l,H c=some (.tup l)->upd H a (.dD (jp kvs k v)) c=some (.tup l):=λc l q=>by
  rw[j7 (λy=>by subst y;rcases e with e|⟨e,_⟩ <;> (rw[e]at q;cases q))];exact q
 exact aaw I e.mut hs x (amw j hd (rel.put hk m n) t d)
theorem a2l(j:A.units+11 < cLine)(I:Inv X pins σ H s)(e:DD H a kvs)(hk:PF.vn k=true)(l:KD H (.ref b) k)(h: ∀c s',Inv X pins σ H s'->RelV ((vo kvs k).getD .non) c->Q c s'):wpAny (model X.prog X.w) A (call (.builtin "dict.get") [.ref a,.ref b]) Q E s:=by
 obtain⟨z,hd,xs,rel,d⟩:=e.rd I.hok;exact dm cb d.typeIs cS (gG _ _) (meetsH_dict_get (PF.kf X.prog X.w) a b hd) ⟨aad j,k,xs,ac2 I.hok hk l,d,h _ _ (I.tok _) ((rel.val k).getD rfl)⟩
theorem a1i{d:V}{rd:ae}(m:A.units+11 < cLine)(I:Inv X pins σ H s)(e:DD H a kvs)(hk:PF.vn k=true)(l:KD H (.ref b) k)(n:RelV d rd)(h: ∀c s',Inv X pins σ H s'->RelV ((vo kvs k).getD d) c->Q c s'):wpAny (model X.prog X.w) A (call (.builtin "dict.get") [.ref a,.ref b,rd]) Q E s:=by
 obtain⟨z,hd,xs,rel,j⟩:=e.rd I.hok;exact dm cb j.typeIs cS (gH _ _ _) (kM (PF.kf X.prog X.w) a b hd rd) ⟨aad m,k,xs,ac2 I.hok hk l,j,h _ _ (I.tok _) ((rel.val k).getD n)⟩
end
end L2
namespace PF
open PySem PySem.Spec
open L2
variable[XW]
mutual
theorem TD.kd: ∀{v:V} {d:aa},TD as H v d->plD d=true->KD H v d
 |_,_,.non,_=>.non
 |_,_,.int i,_=>.int i
 |_,_,.str x,_=>.str x
 |_,_,.tup n e r,h=>.tup e (TDs.kd r (by rw[←j9];exact h))
 |_,_,.bl b,h=>by simp[plD]at h
 |_,_,.lst _ _ _,h=>by simp[plD]at h
 |_,_,.dct _ _,h=>by simp[plD]at h
 |_,_,.dc1 _ _ _,h=>by simp[plD]at h
theorem TDs.kd: ∀{v:List V} {d:List aa},TDs as H v d->xu d=true->KDs H v d
 |_,_,.nil,_=>.nil
 |_,_,.cons a r,h=>by
  rw[jz,aJ]at h;exact .cons (TD.kd a h.1) (TDs.kd r h.2)
end
theorem a0n(c:Rel K as H s){q:Addr}{xs:List V}(e:H q=some (.tup xs)): ¬as.has q:=by
 rintro (h|h)
 ·obtain⟨n,hn⟩:=j4.mp h;have d:n < s.length:=by rw[←c.len];exact(am.mp hn).1
  have b:=c.ob n q _ hn (av d);cases ho:s[n]with
  |lst ds=>rw[ho]at b;obtain⟨j,a,_⟩:=b;rw[e]at a;cases a
  |dct kvs=>
   rw[ho]at b;rcases b with ⟨l,a,_⟩|⟨l,_,a,_⟩ <;> (rw[e]at a;cases a)
  |set _=>rw[ho]at b;exact b.elim
  |ins _ _=>rw[ho]at b;obtain⟨_,_,_,_,a,_⟩:=b;rw[e]at a;cases a
  |exc _ _=>rw[ho]at b;obtain⟨_,_,_,a,_⟩:=b;rw[e]at a;cases a
  |xcx _ _=>rw[ho]at b;obtain⟨_,_,_,a,_⟩:=b;rw[e]at a;cases a
  |gone=>rw[ho]at b;exact b.elim
 ·obtain⟨o,a,t⟩:=c.hs q h;rw[e]at a;cases a;cases t
mutual
theorem KD.td{s:S}(rl:Rel K as H s): ∀{v:V} {d:aa},KD H v d->TD as H v d
 |_,_,.non=>.non
 |_,_,.int i=>.int i
 |_,_,.str x=>.str x
 |_,_,.tup e r=>.tup (a0n rl e) e (KDs.td rl r)
theorem KDs.td{s:S}(rl:Rel K as H s): ∀{v:List V} {d:List aa},KDs H v d->TDs as H v d
 |_,_,.nil=>.nil
 |_,_,.cons a r=>.cons (KD.td rl a) (KDs.td rl r)
end
noncomputable def jo{α:Type}(kvs:List (aa×α))(k:aa):Option α:=(kvs.find? λe=>decide (e.1=k)).map (·.2)
noncomputable def j5{α:Type}(kvs:List (aa×α))(k:aa)(v:α):List (aa×α):=
 if (kvs.any λe=>decide (e.1=k))=true then kvs.map (λe=>if e.1=k then (e.1,v) else e) else kvs++ [(k,v)]
noncomputable def isK:aa->Bool
 |.int _=>true
 |.str _=>true
 |_=>false
def ki{α:Type}(kvs:List (aa×α))(k:aa):Bool:=(isK k&&kvs.all λe=>isK e.1)||(isT k&&kvs.all λe=>isT e.1)
noncomputable def ahm:D->Option aa
 |.da d=>some d
 |_=>none
theorem atw{a b:Key}(h:kP a=kP b):a=b:=by
 cases a <;> cases b <;> simp[kP]at h <;> rw[h]
theorem au1{k:aa}(h:isK k=true): ∃a,k=kP a:=by
 cases k <;> simp[isK]at h
 ·exact⟨.inl _,rfl⟩
 ·exact⟨.inr _,rfl⟩
theorem acf(l:List (Key×V))(k:Key):vo (pvK l) (kP k)=vo l k:=by
 induction l with
 |nil=>rfl
 |cons p r a=>
  by_cases e:p.1=k
  ·rw[aa4 e,show pvK (p::r)=(kP p.1,p.2)::pvK r from rfl,aa4 (by rw[e])]
  ·rw[aa7 e,show pvK (p::r)=(kP p.1,p.2)::pvK r from rfl,aa7 (λz=>e (atw z)),a]
theorem ai3(l:List (Key×V))(k:Key)(v:V):pvK (jp l k v)=jp (pvK l) (kP k) v:=by
 unfold jp;rw[aco,aco,acf];split
 ·unfold pvK
  (rw[aY,aY])
  refine fX λe _=>?_
  show(kP (if e.1=k then (e.1,v) else e).1,(if e.1=k then (e.1,v) else e).2)=if kP e.1=kP k then (kP e.1,v) else (kP e.1,e.2)
  by_cases z:e.1=k
  ·rw[if_pos z,if_pos (by rw[z])]
  ·rw[if_neg z,if_neg (λy=>z (atw y))]
 ·unfold pvK;rw[cO];rfl
theorem DRs.get{l:List (aa×V)}{kvs:List (aa×D)}(h:DRs K as H l kvs)(k:aa):(∀d,jo kvs k=some d->∃v,vo l k=some v/\RD K as H v d)/\(jo kvs k=none->vo l k=none):=by
 induction h with
 |nil=>exact⟨λd e=>by simp[jo]at e,λ_=>rfl⟩
 | @cons b v d l kvs r t j=>
  by_cases e:b=k
  ·subst e;refine⟨λd' a=>?_,λa=>?_⟩
   ·simp[jo,bW]at a;subst a;exact⟨v,aa4 rfl,r⟩
   ·simp[jo,bW]at a
  ·have c:jo ((b,d)::kvs) k=jo kvs k:=by simp[jo,bW,e]
   rw[c,aa7 e];exact j
theorem DRs.any{l:List (aa×V)}{kvs:List (aa×D)}(h:DRs K as H l kvs)(k:aa):(l.any λe=>decide (e.1=k))=kvs.any λe=>decide (e.1=k):=by
 induction h with
 |nil=>rfl
 |cons r t a=>rw[dC,dC,a]
theorem DRs.put{l:List (aa×V)}{kvs:List (aa×D)}(h:DRs K as H l kvs){d:D}(r:RD K as H v d)(k:aa):DRs K as H (jp l k v) (j5 kvs k d):=by
 unfold jp j5;rw[h.any k];split
 ·rename_i c;clear c;induction h with
  |nil=>exact .nil
  | @cons j m d' l kvs b t a=>
   rw[aw,aw];by_cases e:j=k
   ·rw[if_pos e,if_pos e];exact .cons r a
   ·rw[if_neg e,if_neg e];exact .cons b a
 ·rename_i c;clear c;induction h with
  |nil=>exact .cons r .nil
  |cons b t a=>exact .cons b a
theorem DRs.len{l:List (aa×V)}{kvs:List (aa×D)}(h:DRs K as H l kvs):l.length=kvs.length:=by
 induction h with
 |nil=>rfl
 |cons r t a=>simp[a]
theorem DRs.keys{l:List (aa×V)}{kvs:List (aa×D)}(h:DRs K as H l kvs):l.map (·.1)=kvs.map (·.1):=by
 induction h with
 |nil=>rfl
 |cons r t a=>simp[a]
theorem agh(l:List (Key×V)):(pvK l).length=l.length:=by simp[pvK]
noncomputable def onD{α:Type}(d:D)(s:S)(k:Nat->List (aa×D)->R α):R α:=match d with
 |.ref n=>match s[n]? with
  |some (.dct kvs)=>k n kvs
  |_=>.bad
 |_=>.bad
theorem aou{kvs:List (aa×D)}(b:Rel K as H s)(hr: ∀q,as.ix[n]?=some (some q)->q=p)(e:s[n]?=some (.dct kvs)):as.ix[n]?=some (some p)/\RO K as H p (.dct kvs):=by
 obtain⟨q,a⟩:=b.li n _ e (by intro z;cases z);cases hr q a;exact⟨a,b.ob n p _ a e⟩
theorem abk{α β:Type}{rel:As->Hp->β->α->Prop}{d:D}{k:Nat->List (aa×D)->R α}{Q:β->Hp->Prop}(a:Rel K as H s)(r:RD K as H v d)(h:Dn K rel as H (onD d s k) Q): ∃p n kvs,v=.ref p/\d=.ref n/\as.ix[n]?=some (some p)/\s[n]?=some (.dct kvs)/\RO K as H p (.dct kvs)/\Dn K rel as H (k n kvs) Q:=by
 cases r with
 | @ref p n l hr=>
  have h:Dn K rel as H (match s[n]? with|some (O.dct kvs)=>k n kvs|_=>.bad) Q:=h;split at h
  ·rename_i kvs e;obtain⟨c,b⟩:=aou a hr e;exact⟨p,n,kvs,rfl,rfl,c,e,b,h⟩
  ·exact h.elim
 |_=>exact h.elim
theorem aah{kvs:List (aa×D)}{k:aa}(h:RO K as H p (.dct kvs))(hs:ki kvs k=true):(∃(l:List (Key×V)) (a:Key),k=kP a/\H p=some (.dK l)/\DRs K as H (pvK l) kvs)\/ ∃l:List (aa×V),isT k=true/\DD H p l/\DRs K as H l kvs:=by
 unfold ki at hs;rw[Bool.or_eq_true,aJ,aJ]at hs;rcases h with ⟨l,e,r⟩|⟨l,m,e,r⟩
 ·rcases hs with ⟨c,b⟩|⟨c,b⟩
  ·obtain⟨a,rfl⟩:=au1 c;exact .inl ⟨l,a,rfl,e,r⟩
  ·cases l with
   |nil=>cases r;exact .inr ⟨[],c,.inr ⟨e,rfl⟩,.nil⟩
   | cons q l=>
    obtain⟨q1,j⟩:=q;exfalso;have n:DRs K as H ((kP q1,j)::pvK l) kvs:=r;cases n with
    |cons o t=>
     rw[eP,aJ]at b;have:=b.1;cases q1 <;> simp[kP,isT]at this
 ·rcases hs with ⟨c,b⟩|⟨c,b⟩
  ·exfalso;cases l with
   |nil=>exact m.1 rfl
   | cons q l=>
    obtain⟨q1,j⟩:=q;cases r with
    |cons o t=>
     have d:=m.2;rw[eP,aJ]at b d;have b:=b.1;have d:=d.1;cases q1 <;> simp[isK,isT]at b d
  ·exact .inr ⟨l,c,.inl e,r⟩
end PF
namespace PF
open PySem PySem.Spec
open L2
open PyProof.Rows (subscriptTail subscriptTail_builtinR)
variable[XW]
theorem agm{kvs:List (aa×D)}(I:Inv X pins σ H sh)(rl:Rel X.K as H s)(h:RO X.K as H p (.dct kvs)):
  ∃(es:Array cL) (ep:Nat) (xs c:List V),aar sh.heap p es ep/\(p==bA)=false/\es.size=kvs.length/\kvs.length <=sizeLine/\jl xs (es.toList.map (·.key))/\TDs as H xs (kvs.map (·.1))/\jl c (es.toList.map (·.val))/\RDs X.K as H c (kvs.map (·.2)):=by
 rcases h with ⟨l,e,r⟩|⟨l,e0,e,r⟩
 ·obtain⟨z,hd,vs,rel,o,es,ep,O,L,P,J,h5,h6⟩:=aeo I.hok e;have all: ∀{l:List (Key×V)} {vs:List (Key×ae)} {es:List cL} {kvs:List (aa×D)},KV l vs->PySem.Pairs (jx X.prog X.w) es vs->DRs X.K as H (pvK l) kvs->∃xs c,es.length=kvs.length/\jl xs (es.map (·.key))/\TDs as H xs (kvs.map (·.1))/\jl c (es.map (·.val))/\RDs X.K as H c (kvs.map (·.2)):=by
   intro l vs es kvs q;induction q generalizing es kvs with
   |nil=>intro q1 y;cases q1;cases y;exact⟨[],[],rfl,.nil,.nil,.nil,.nil⟩
   | @cons a b _ _ W t U=>
    intro q1 y;obtain⟨S,E⟩:=a;obtain⟨b1,b2⟩:=b;obtain⟨k,d⟩:=W;simp only at k d;subst k;cases q1 with
    | cons k1 k2 k3=>
     have Q:DRs X.K as H ((kP S,E)::pvK _) kvs:=y;cases Q with
     | cons F M=>
      obtain⟨xs,c,v,n,u,m,x⟩:=U k3 M;subst k2;rcases qp (show ac5 S _=true from k1) with ⟨j,t',Y,N⟩|⟨Z,t',Y,N⟩
      ·subst Y;exact⟨.int j::xs,E::c,by simp[v],.cons ⟨t',N⟩ n,.cons (.int j) u,.cons d m,.cons F x⟩
      ·subst Y;exact⟨.str Z::xs,E::c,by simp[v],.cons ⟨t',N⟩ n,.cons (.str Z) u,.cons d m,.cons F x⟩
  obtain⟨xs,c,v,n,u,m,x⟩:=all rel h5 r;refine⟨es,ep,xs,c,⟨o,O,L,P⟩,hd,by rw[←b8];exact v,by rw[←r.len,agh];exact z,n,u,m,x⟩
 ·obtain⟨z,hd,A,rel,o,es,ep,O,L,P,J,h5,h6⟩:=a6y I.hok e;have all: ∀{l:List (aa×V)} {A:List (aa×Addr×ae)} {kvs:List (aa×D)},KE H l A->DRs X.K as H l kvs->∃xs c,A.length=kvs.length/\jl xs ((A.map (eA (kf X.prog X.w))).map (·.key))/\TDs as H xs (kvs.map (·.1))/\jl c ((A.map (eA (kf X.prog X.w))).map (·.val))/\RDs X.K as H c (kvs.map (·.2)):=by
   intro l A kvs q;induction q generalizing kvs with
   |nil=>intro y;cases y;exact⟨[],[],rfl,.nil,.nil,.nil,.nil⟩
   | @cons a b _ _ W t U=>
    intro y;obtain⟨S,E⟩:=a;obtain⟨b1,b2,b3⟩:=b;obtain⟨k,d,C⟩:=W;simp only at k d C;subst k;cases y with
    |cons F M=>
     obtain⟨xs,c,v,n,u,m,x⟩:=U M;exact⟨.ref b2::xs,E::c,by simp[v],.cons rfl n,.cons (PF.KD.td rl d.2) u,.cons C m,.cons F x⟩
  obtain⟨xs,c,v,n,u,m,x⟩:=all rel r;rw[←J]at n m;refine⟨es,ep,xs,c,⟨o,O,L,P⟩,hd,?_,by rw[←r.len];exact z,n,u,m,x⟩;rw[←b8,J,ao];exact v
noncomputable def abc:FE:=λ_ s=>.ok (.ref s.length) (s++ [.dct []])
theorem a1t{Q:VK}(a:Rel K as H s)(n:New H p (.dK []) H')(h:Dn K (rD K) as H (.ok (.ref s.length) (s++ [.dct []])) Q):Q (.ref p) H':=by
 refine h (.ref p) (as.add p) H' (vt n) (a.laid n (.inl ⟨[],n.at,.nil⟩)) (.ref (by simp[a.len]) λq e=>?_);rw[←a.len]at e;simp at e;exact e.symm
theorem adt:RE X (.Dict [] [] pos) abc:=⟨_,awh,λas σ H ρ s Q a c h=>λp b=>a1t a ⟨b,rfl⟩ h⟩
def aqx(dx a:D)(s:S):R D:=onD dx s λn kvs=>match ahm a with
 | some k=>if ki kvs k=true then match jo kvs k with
   |some v=>.ok v s
   |none=>.bad
  else .bad
 |none=>.bad
theorem RD.key_inv{d:D}{k:aa}(r:RD K as H v d)(h:ahm d=some k):TD as H v k:=by
 cases r with
 |da t=>cases h;exact t
 |_=>cases h
theorem aaq{a:Key}(t:TD as H v (kP a))(r:RelV v u):RelV (kV a) u:=by
 cases a with
 |inl i=>cases t;exact r
 |inr x=>cases t;exact r
theorem a9t{a:Key}(t:TD as H v (kP a)):v=kV a:=by
 cases a with
 |inl i=>cases t;rfl
 |inr x=>cases t;rfl
theorem yx{k:aa}(h:isT k=true):vn k=true/\plD k=true/\ ∃xs,k=.tuple xs:=by
 cases k with
 |tuple xs=>exact⟨h,(ye.mp (show vn (.tuple xs)=true from h)).1,xs,rfl⟩
 |_=>cases h
theorem abp(t:TD as H v (.tuple xs)): ∃b,v=.ref b:=by cases t with|tup n e r=>exact⟨_,rfl⟩
structure Ix2 (X:Cx) (g:D->D->S->R D):Prop where
 ex: ∃r,IxR X r/\aqv X.K r g
theorem a7y{g:D->D->S->R D}(h: ∀(a slice:Expr) (b:List (Addr×Obj)) (sh:af) (σ:St) (H:Hp) (as:As) (s:S) (x y:V) (dx c:D) (v u:ae) (Q:VK),Inv X b σ H sh->Rel X.K as H s->RD X.K as H x dx->RD X.K as H y c->RelV x v->RelV y u ->
  Dn X.K (rD X.K) as H (g dx c s) Q->mV slice false v u=operate [v,u] (getItem v u)->wpAny (model X.prog X.w) X.A (jE a slice v u) (EP X b σ Q) X.xe sh):Ix2 X g:=
 ⟨λx y H Q=>∃as s dx c,Rel X.K as H s/\RD X.K as H x dx/\RD X.K as H y c/\Dn X.K (rD X.K) as H (g dx c s) Q,
  λa slice b sh σ H x y v u Q I k l ⟨as,s,dx,c,d,e,j,q⟩ hs=>h a slice b sh σ H as s x y dx c v u Q I d e j k l q hs,
  λas H s x y dx c Q d e j q=>⟨as,s,dx,c,d,e,j,q⟩⟩
theorem a4c(hu:X.A.units+70 < cLine):Ix2 X aqx:=a7y λK slice P sh σ H as s x y dx dy v u Q I E W Z Y S h hs=>by
 obtain⟨p,n,kvs,rfl,rfl,ha,e,U,h⟩:=abk E W h;cases Y;split at h
 ·rename_i k hk;split at h
  ·rename_i O;split at h
   ·rename_i d hd;have M:=Z.key_inv hk;obtain⟨es,ep,_,_,C,_⟩:=agm I E U;rcases aah U O with ⟨l,a,rfl,eh,dr⟩|⟨l,V,dd,dr⟩
    ·obtain⟨w,D,j⟩:=(dr.get (kP a)).1 d hd;rw[acf]at D;obtain⟨z,r,vs,rel,c⟩:=aeo I.hok eh;obtain⟨F,L,m⟩:=vy.some_of (v:=w) (o:=valueAt vs a) (by rw[←D];exact rel.val a);exact gB (x:=F) C.typeIs jV.lookup (wpAny_getItem_of (aas (aaq M S)) c.mapOf L ⟨rfl,⟨w,H,I.tok _,m,Dn.now (Q:=Q) h E j⟩⟩) hs
    ·obtain⟨w,D,j⟩:=(dr.get k).1 d hd;obtain⟨J,N,ks,rfl⟩:=yx V;obtain⟨b,rfl⟩:=abp M;cases S;obtain⟨z,r,xs,rel,c⟩:=dd.rd I.hok;obtain⟨F,L,m⟩:=vy.some_of (v:=w) (o:=(atKey xs (.tuple ks)).map (·.2)) (by rw[←D];exact rel.val _);obtain⟨q,hq,t⟩:=gU.mp L;exact gB (x:=F) C.typeIs jV.lookup (wpAny_getItem_heap (aad (by lia)) (ac2 I.hok J (TD.kd M N)) c hq ⟨t,⟨w,H,I.tok _,t▸m,Dn.now (Q:=Q) h E j⟩⟩) hs
   ·exact h.elim
  ·exact h.elim
 ·exact h.elim
def vk(dx a:D)(s:S):R D:=match dx with
 |.ref n=>match s[n]? with
  |some (.dct kvs)=>aqx dx a s
  |_=>gIx dx a s
 |_=>gIx dx a s
theorem ath(j:X.A.units+70 < cLine):Ix2 X vk:=by
 obtain⟨r,k,e⟩:=(a4c (X:=X) j).ex;refine⟨_,k.or auz,λas H s x y dx c Q a b d h=>?_⟩;unfold vk at h;split at h
 ·split at h
  ·exact .inl (e as H s x y _ c Q a b d h)
  ·exact .inr (amg as H s x y _ c Q a b d h)
 ·exact .inr (amg as H s x y _ c Q a b d h)
theorem ase{a b:Expr}{d c:FE}{g:D->D->S->R D}(o:Ix2 X g)(j:RE X a d)(l:RE X b c)(hs:ajb b:=by exact λ_ _=>rfl):RE X (.Subscript a b pos) (fOp g d c):=by
 obtain⟨r,m,k⟩:=o.ex;obtain⟨q,e,h⟩:=j.ex;obtain⟨tb,n,p⟩:=l.ex;exact⟨_,az5 m e n hs,afs k h p⟩
def aj3(a:Bool)(dx b:D)(s:S):R D:=onD b s λn kvs=>match ahm dx with
 |some k=>if ki kvs k=true then .ok (.bl (nb a (jo kvs k).isSome)) s else .bad
 |none=>.bad
theorem DRs.isSome{l:List (aa×V)}{kvs:List (aa×D)}(h:DRs K as H l kvs)(k:aa):(vo l k).isSome=(jo kvs k).isSome:=by
 cases e:jo kvs k with
 |none=>rw[(h.get k).2 e];rfl
 |some d=>obtain⟨v,ev,_⟩:=(h.get k).1 d e;rw[ev];rfl
theorem a5m(d:Bool)(r:(d=false/\op=.In)\/(d=true/\op=.NotIn))(O:X.A.units+70 < cLine):Op2 X (bb op) (aj3 d):=v0 λz sh σ H as s x y dx P v u Q I m F J t K h=>by
 obtain⟨p,n,kvs,rfl,rfl,N,e,L,h⟩:=abk m J h;cases K;split at h
 ·rename_i k hk;split at h
  ·rename_i w;have o:=F.key_inv hk;rcases aah L w with ⟨l,a,rfl,M,dr⟩|⟨l,E,D,dr⟩
   ·have es:(vo l a).isSome=(jo kvs (kP a)).isSome:=by rw[←dr.isSome,acf]
    have C:ad9 H p (kV a) (vo l a):=ad9.k M;rcases r with ⟨rfl,rfl⟩|⟨rfl,rfl⟩
    ·exact L2.a92 (by lia) I C (aaq o t) λs' c=>⟨.bl _,H,c,by rw[es];rfl,Dn.now (Q:=Q) h m (.da (.bl _))⟩
    ·exact L2.a0p (by lia) I C (aaq o t) λs' c=>⟨.bl _,H,c,by rw[es];rfl,Dn.now (Q:=Q) h m (.da (.bl _))⟩
   ·obtain⟨j,q,ks,rfl⟩:=yx E;obtain⟨b,rfl⟩:=abp o;cases t;have es:=dr.isSome (.tuple ks);rcases r with ⟨rfl,rfl⟩|⟨rfl,rfl⟩
    ·exact a8a (by lia) I D j (TD.kd o q) λs' c=>⟨.bl _,H,c,by rw[es];rfl,Dn.now (Q:=Q) h m (.da (.bl _))⟩
    ·exact axr (by lia) I D j (TD.kd o q) λs' c=>⟨.bl _,H,c,by rw[es];rfl,Dn.now (Q:=Q) h m (.da (.bl _))⟩
  ·exact h.elim
 ·exact h.elim
def yp(a:Bool)(dx b:D)(s:S):R D:=match b with
 |.ref n=>match s[n]? with
  |some (.dct kvs)=>aj3 a dx b s
  |_=>ajj a dx b s
 |_=>ajj a dx b s
theorem avh(a:Bool)(c:(a=false/\op=.In)\/(a=true/\op=.NotIn))(m:X.A.units+70 < cLine):Op2 X (bb op) (yp a):=v0 λb sh σ H as s x y dx n v u Q I d e k j l h=>by
 unfold yp at h;split at h
 ·split at h
  ·obtain⟨r,ho,hr⟩:=(a5m (X:=X) a c m).ex;exact ho b sh σ H x y v u Q I j l (hr as H s x y _ _ Q d e k h)
  ·obtain⟨r,ho,hr⟩:=(akk (X:=X) a c (by lia)).ex;exact ho b sh σ H x y v u Q I j l (hr as H s x y _ _ Q d e k h)
 ·obtain⟨r,ho,hr⟩:=(akk (X:=X) a c (by lia)).ex;exact ho b sh σ H x y v u Q I j l (hr as H s x y _ _ Q d e k h)
theorem a7k(a:X.A.units+70 < cLine):Op2 X (bb .In) (yp false):=avh false (.inl ⟨rfl,rfl⟩) a
theorem alh(a:X.A.units+70 < cLine):Op2 X (bb .NotIn) (yp true):=avh true (.inr ⟨rfl,rfl⟩) a
end PF
namespace PF
open PySem PySem.Spec
open L2
variable[XW]
def yg(o i v:D)(s:S):R D:=onD o s λn kvs=>match ahm i with
 |some k=>if ki kvs k=true/\kvs.length < sizeLine then .ok .non (s.set n (.dct (j5 kvs k v))) else .bad
 |none=>.bad
def vd(o i v:D)(s:S):R D:=match o with
 |.ref n=>match s[n]? with
  |some (.dct kvs)=>yg o i v s
  |_=>aa1 o i v s
 |_=>aa1 o i v s
theorem ac6{o:HO}{d:D}{kvs:List (aa×D)}{Q:VK}(b:Rel K as H s)(a:as.ix[n]?=some (some p))(c:Chg H p o H')(j:RO K as H' p (.dct kvs))(e:RD K as H v d)(h:Dn K (rD K) as H (.ok d (s.set n (.dct kvs))) Q):Q v H':=by
 have st:=yf (j4.mpr ⟨n,a⟩) (λz=>b.hx p z (j4.mpr ⟨n,a⟩)) c;exact h v as H' st (b.chg a c j) (e.mono st)
theorem ag9{l:List (aa×V)}{k:aa}(b:(l.all λe=>isT e.1)=true)(hk:isT k=true):((jp l k v).all λe=>isT e.1)=true:=by
 rw[aB]at b⊢;intro e a;unfold jp at a;split at a
 ·obtain⟨j,d,c⟩:=aO.mp a;split at c
  ·subst c;exact b j d
  ·subst c;exact b _ d
 ·rcases aS.mp a with h|h
  ·exact b e h
  ·rw[aA]at h;subst h;exact hk
theorem age{κ:Type}[DecidableEq κ](l:List (κ×V))(k:κ)(v:V):jp l k v≠ []:=by
 unfold jp;split
 ·rename_i h;cases l with
  |nil=>simp at h
  |cons a b=>simp
 ·simp
theorem alp{kvs:List (aa×D)}(h:RO K as H p (.dct kvs)){l:List (aa×V)}(d:DD H p l):(l.all λe=>isT e.1)=true:=by
 rcases d with e|⟨_,rfl⟩
 ·rcases h with ⟨c,a,_⟩|⟨c,b,a,_⟩
  ·rw[e]at a;cases a
  ·rw[e]at a;cases a;exact b.2
 ·rfl
theorem a15(hu:X.A.units+70 < cLine){x y z:V}{dx U O:D}{v r:ae}{Q:VK}(I:Inv X pins σ H sh)(o:Rel X.K as H s)(Y:RD X.K as H x dx)(r2:RD X.K as H y U)(W:RD X.K as H z O)(Z:RelV x v)(N:RelV y u)(M:RelV z r)(h:Dn X.K (rD X.K) as H (yg dx U O s) Q):wpAny (model X.prog X.w) X.A (setItem v u r) (λ_ s'=>∃H',Inv X pins σ H' s'/\Q .non H') X.xe sh:=by
 obtain⟨p,n,kvs,rfl,rfl,m,e,P,h⟩:=abk o Y h;cases Z;split at h
 ·rename_i k hk;split at h
  ·rename_i j;obtain⟨j,d⟩:=j;have E:=r2.key_inv hk;rcases aah P j with ⟨l,a,rfl,eh,dr⟩|⟨l,L,S,dr⟩
   ·have F:l.length < sizeLine:=by rw[←agh,dr.len];exact d
    refine av1 (by lia) I (arm.k (k:=a) (v:=z) eh F) (aaq E N) M λs' C=>⟨_,C,?_⟩
    have c:Chg H p (.dK (jp l a z)) (upd H p (.dK (jp l a z))):=⟨rfl⟩;have st:=yf (j4.mpr ⟨n,m⟩) (λq=>o.hx p q (j4.mpr ⟨n,m⟩)) c;refine ac6 (v:=.non) o m c (.inl ⟨_,c.at,?_⟩) (.da .non) h;rw[ai3];exact(dr.put W (kP a)).mono st
   ·obtain⟨t,J,ks,rfl⟩:=yx L;obtain⟨b,rfl⟩:=abp E;cases N;have F:l.length < sizeLine:=by rw[dr.len];exact d
    refine apz (by lia) I S F t (TD.kd E J) M λs' C=>⟨_,C,?_⟩
    have c:Chg H p (.dD (jp l (.tuple ks) z)) (upd H p (.dD (jp l (.tuple ks) z))):=⟨rfl⟩;have st:=yf (j4.mpr ⟨n,m⟩) (λq=>o.hx p q (j4.mpr ⟨n,m⟩)) c;exact ac6 (v:=.non) o m c (.inr ⟨_,⟨age _ _ _,ag9 (alp P S) L⟩,c.at,(dr.put W _).mono st⟩) (.da .non) h
  ·exact h.elim
 ·exact h.elim
def qv(g:D->D->D->S->R D)(c b h:FE):FS:=λρ s=>(c ρ s).bind λv j=>(b ρ j).bind λo d=>(h ρ d).bind λi a=>(g o i v a).bind λ_ e=>.ok (.nx ρ) e
structure Set2 (X:Cx) (g:D->D->D->S->R D):Prop where
 run: ∀(pins:List (Addr×Obj)) (sh:af) (σ:St) (H:Hp) (as:As) (s:S) (x y z:V) (dx dy dz:D) (v u r:ae) (Q:VK),Inv X pins σ H sh->Rel X.K as H s->RD X.K as H x dx->RD X.K as H y dy->RD X.K as H z dz->RelV x v->RelV y u->RelV z r ->
  Dn X.K (rD X.K) as H (g dx dy dz s) Q->wpAny (model X.prog X.w) X.A (setItem v u r) (λ_ s'=>∃H',Inv X pins σ H' s'/\Q .non H') X.xe sh
theorem ae1(D:X.A.units+70 < cLine):Set2 X vd:=⟨λa sh σ H as s x y z dx F E v u r Q I b k m t l q d h=>by
 have lst:Dn X.K (rD X.K) as H (aa1 dx F E s) Q->wpAny (model X.prog X.w) X.A (setItem v u r) (λ_ s'=>∃H',Inv X a σ H' s'/\Q .non H') X.xe sh:=λh=>by
  unfold aa1 at h;split at h
  ·cases m.int_inv;obtain⟨p,n,xs,ds,rfl,C,hx,rs,h⟩:=ag3 b k h;split at h
   ·rename_i j e;exact ak0 a sh σ H _ _ z v u r (Q .non) I l q d ⟨p,xs,_,j,rfl,rfl,hx,by rw[rs.length];exact e,λH' c=>af2 (v:=.non) (o:=.lst []) b C c (rs.set j t) (.da .non) h⟩
   ·exact h.elim
  ·exact h.elim
 unfold vd at h;split at h
 ·split at h
  ·exact a15 D I b k m t l q d h
  ·exact lst h
 ·exact lst h⟩
theorem ado{i:Expr}{U:FE}{j:Pos}{g:D->D->D->S->R D}(hg:Set2 X g)(he:RE X e fv)(ho:RE X o fo)(Y:RE X i U)(ha: ∀v,assign (.Subscript o i j) X.env v=(do
   let k←holding [v] (eval o X.env);let m←holding [v,k] (eval i X.env)
   standAt j
   holding [v,k,m] (setItem k m v)
   release [v,k,m] []):=by intro _;rfl) (hs:jC [.Subscript o i j] e pos.line X.env=pure false:=by rfl) (hw:jD [.Subscript o i j] e X.env=pure none:=by rfl) (L:(bS [.Subscript o i j] X.env).map (·.2)=[assign (.Subscript o i j) X.env]:=by rfl):RS X (.Assign [.Subscript o i j] e pos) (qv g fv fo U):=by
 obtain⟨te,pe,W⟩:=he.ex;obtain⟨to,po,ro⟩:=ho.ex;obtain⟨ti,pi,ri⟩:=Y.ex;have p:ah2 X (λx y z H Q=>∃as s dx w t,Rel X.K as H s/\RD X.K as H x dx/\RD X.K as H y w/\RD X.K as H z t/\Dn X.K (rD X.K) as H (g dx w t s) (λ_ H'=>Q H')):=λn s σ H o i v k m u Q I rx ry V ⟨as,s',dx,w,t,M,a,b,c,q⟩=>hg.run n s σ H as s' o i v dx w t k m u _ I M a b c rx ry V q
 refine⟨_,an6 pe (aut po pi p ha) hs hw L,λas σ H ρ s D M r h=>?_⟩;refine W as σ H ρ s _ M r (Dn.bind h λv s1 N H1 vv st1 A r1 L=>?_);refine ro N σ H1 ρ s1 _ A (r.mono st1) (Dn.bind L λo s2 E H2 k st2 F r2 Z=>?_);refine ri E σ H2 ρ s2 _ F ((r.mono st1).mono st2) (Dn.bind Z λi s3 P H3 m l J r3 h3=>?_);have C:=((r.mono st1).mono st2).mono l;exact⟨P,s3,o,i,v,J,r2.mono l,r3,(r1.mono st2).mono l,Dn.bind h3 λd s4 as4 H4 vv st4 O r4 h4=>Dn.now (b:=FV.nx σ) h4 O (.nx (C.mono st4))⟩
def fMd(g:GM)(b:FE)(e:FA):FE:=λρ s=>(b ρ s).bind λd a=>onD d a λ_ _=>(e ρ a).bind λds c=>g d ds c
theorem ax1{kvs:List (aa×D)}(I:Inv X pins σ H sh)(c:Rel X.K as H s)(h:RO X.K as H p (.dct kvs)):sh.TypeIs (.ref p) "dict"/\ ∀a,bi p=.ref a->∃ob,sh.heap.get? a=some ob/\ob.dict=none:=by
 obtain⟨es,ep,_,_,b,_⟩:=agm I c h;refine⟨b.typeIs,λa e=>?_⟩;cases e;obtain⟨o,ho,d,_⟩:=b;exact⟨o,ho,d.2.1⟩
theorem akr{name:Str}{id:String}{g:GM}{j a:Pos}(slot:Slot "dict" name id)(E:typeOf (.builtin id)=pure (.type "method_descriptor"))(hm:MB X id g)(ho:RE X o fo)(Y:RA X (e::es) fa)(q:fR o name X.env (eval o X.env)=eval o X.env:=by rfl)(u:((backTo a (starEach (e::es) X.env)).all (λx=>!x.1)&&(backToKw a (iN [] X.env)).all (λx=>x.1.isSome)
   &&decide ((e::es).length+([]:List lG).length+(if ([]:List lG).isEmpty then 0 else 1) < 30))=true:=by rfl) (m:(j.endLine==a.line)=true:=by rfl) (hs:starEach (e::es) X.env=(false,eval e X.env)::starEach es X.env:=by rfl) (c:(backTo a (starEach es X.env)).any (·.1)=false:=by rfl):
  RE X (.Call (.Attribute o name j) (e::es) [] a) (fMd g fo fa):=by
 obtain⟨r,hr,hg⟩:=hm.ex;obtain⟨to,po,ro⟩:=ho.ex;obtain⟨W,U,ra⟩:=Y.ex;refine⟨λσ H Q=>to σ H λx t=>∃as s p kvs,x=.ref p/\Rel X.K as t s/\RO X.K as t p (.dct kvs)/\W σ t λvs y=>r x vs y Q,⟨λb s σ H Q I h=>?_⟩,λas σ H ρ s Q M P h=>?_⟩
 ·refine lp q u m rfl (thn (po b s σ H _ I h) λv C ⟨x,t,I1,A,as,s',p,kvs,ex,M,k,q1⟩=>?_);subst ex;cases A;obtain⟨w,D⟩:=ax1 I1 M k;refine⟨"dict",id,PySem.F.plainAttrs_dict,slot,E,w,D,?_⟩;have S:=U a b C σ t _ I1 q1;rw[hs]at S⊢;refine lq (by show(false||(backTo a (starEach es X.env)).any (·.1))=false;rw[c] <;> rfl) (lT ?_);exact thn S λZ O ⟨vs,y,I2,N,V⟩=>hr b O σ y (.ref p) vs (.ref p) Z Q I2 rfl N V
 ·refine ro as σ H ρ s _ M P (Dn.bind h λd C z t v st1 l A w=>?_);obtain⟨p,n,kvs,rfl,rfl,hx,e,k,w⟩:=abk l A w;refine⟨z,C,p,kvs,rfl,l,k,ra z σ t ρ C _ l (P.mono st1) (Dn.bind w λds O J y vs st2 L N D=>?_)⟩;exact hg J y O (.ref p) vs (.ref n) ds Q L (A.mono st2) N D
def ac0:GM:=λd ds s=>match ds with
 |[kd]=>onD d s λn kvs=>match ahm kd with
  |some k=>if ki kvs k=true then .ok ((jo kvs k).getD .non) s else .bad
  |none=>.bad
 |[kd,x]=>onD d s λn kvs=>match ahm kd with
  |some k=>if ki kvs k=true then .ok ((jo kvs k).getD x) s else .bad
  |none=>.bad
 |_=>.bad
theorem DRs.getD{l:List (aa×V)}{kvs:List (aa×D)}(h:DRs K as H l kvs)(k:aa){d:D}(r:RD K as H v d):RD K as H ((vo l k).getD v) ((jo kvs k).getD d):=by
 cases e:jo kvs k with
 |none=>rw[(h.get k).2 e];exact r
 |some x=>obtain⟨w,b,a⟩:=(h.get k).1 x e;rw[b];exact a
theorem atv(Y:X.A.units+70 < cLine):MB X "dict.get" ac0:=by
 refine⟨λx xs H Q=>∃as s d ds,Rel X.K as H s/\RD X.K as H x d/\RDs X.K as H xs ds/\Dn X.K (rD X.K) as H (ac0 d ds s) Q,λP sh σ H x xs v W Q I U rs ⟨as,s,d,ds,j,D,E,h⟩=>?_,λas H s x xs d ds Q j D E h=>⟨as,s,d,ds,j,D,E,h⟩⟩;unfold ac0 at h;split at h
 ·rename_i kd;obtain⟨y,rfl,L⟩:=E.one;obtain⟨u,rfl,w⟩:=vals1 rs;obtain⟨p,n,kvs,rfl,rfl,V,e,M,h⟩:=abk j D h;cases U;split at h
  ·rename_i k hk;split at h
   ·rename_i t;have q:=L.key_inv hk;rcases aah M t with ⟨l,a,rfl,O,dr⟩|⟨l,J,N,dr⟩
    ·refine a5q (by lia) I (ad9.k (k:=a) O) (aaq q w) λF s' o c=>⟨_,H,o,c,?_⟩
     have:=dr.getD (kP a) (v:=.non) (d:=.non) (.da .non);rw[acf]at this;exact Dn.now (Q:=Q) h j this
    ·obtain⟨m,r,ks,rfl⟩:=yx J;obtain⟨b,rfl⟩:=abp q;cases w;exact a2l (by lia) I N m (TD.kd q r) λF s' o c=>⟨_,H,o,c,Dn.now (Q:=Q) h j (dr.getD _ (v:=.non) (d:=.non) (.da .non))⟩
   ·exact h.elim
  ·exact h.elim
 ·rename_i kd xd;obtain⟨y,z,rfl,L,S⟩:=E.two;obtain⟨u,Z,rfl,w,C⟩:=rs.two;obtain⟨p,n,kvs,rfl,rfl,V,e,M,h⟩:=abk j D h;cases U;split at h
  ·rename_i k hk;split at h
   ·rename_i t;have q:=L.key_inv hk;rcases aah M t with ⟨l,a,rfl,O,dr⟩|⟨l,J,N,dr⟩
    ·refine a6n (by lia) I (ad9.k (k:=a) O) (aaq q w) C λF s' o c=>⟨_,H,o,c,?_⟩
     have:=dr.getD (kP a) S;rw[acf]at this;exact Dn.now (Q:=Q) h j this
    ·obtain⟨m,r,ks,rfl⟩:=yx J;obtain⟨b,rfl⟩:=abp q;cases w;exact a1i (by lia) I N m (TD.kd q r) C λF s' o c=>⟨_,H,o,c,Dn.now (Q:=Q) h j (dr.getD _ S)⟩
   ·exact h.elim
  ·exact h.elim
 ·exact h.elim
end PF
namespace L2
open PySem PySem.Spec PyProof.Rows
open MeetsSeq MeetsSeq2 MeetsSeq3 SeqRoads2 --
section
variable{prog:aP}{w:aM}{A:bh}{E:ae->af->Prop}{s:af}{d:Addr}{es:Array cL}{ep:Nat}
theorem av8(hh:A.handled=none)(hd:(d==bA)=false)(hm:aar s.heap d es ep)(hz:es.size <=sizeLine)(h: ∀(h':Heap) (tk:Nat),(∀b o',s.heap.get? b=some o'->h'.get? b=some o')->Q (.ref h'.objs.size) {s with heap:=h'.push {cls:=.type "tuple",data:=.seq (es.map (·.key))},toks:=tk}):wpAny (model prog w) A (call (.type "tuple") [.ref d]) Q E s:=by
 obtain⟨⟨K,C,u,I⟩,p,⟨a,m,j⟩,n⟩:=id hm;simp only at n a m j;subst n a m j;refine callType_new F.called_tuple (by decide) (F.typeCall_tuple_1 _) (F.newCall_tuple_1 _) (λobj=>F.args_object_init_2 obj _) F.entry_tuple_new (S:=λA R s'=>s'=s/\A.handled=none/\ ∀(h':Heap) (tk:Nat),(∀b o',s.heap.get? b=some o'->h'.get? b=some o')->R (.ok (.ret (.ref h'.objs.size))) {s with heap:=h'.push {cls:=.type "tuple",data:=.seq (es.map (·.key))},toks:=tk}) (.of_wp λprog w A R s' hx=>?_) ⟨rfl,hh,λh' tk hk=>⟨⟨_,aD _ rfl,rfl⟩,h h' tk hk⟩⟩;obtain⟨rfl,t,hx⟩:=hx;have y:=sub_tuple_self
 (have r:=init_tuple_lookup)
 have H:=madeHere_tuple;have D:s'.TypeIs (.ref d) "dict":=⟨_,p,rfl⟩;have l: ∀{x:List ae->af->Prop} {z:ae->af->Prop},(∀(h':Heap) (tk:Nat) (acc:Array ae),(∀b o,s'.heap.get? b=some o->h'.get? b=some o)->ItemsOf (λi v=>es[i]?.map (·.key)=some v) acc es.size->x acc.toList {s' with heap:=h',toks:=tk})->wpAny (model prog w) A.in1 (collect (.ref d)) x z s':=λk=>PySem.W.kdu_collect (A:=A.in1) (anj (es:=es) (ep:=ep) hd) t hm hz k
 wp_walk using cQ D,l
 intro h' tk acc hk q;have J:acc=es.map (·.key):=by
  apply Array.ext_getElem?;intro i;rw[Array.getElem?_map];cases c:acc[i]? with
  |some v=>exact(q.2 i v c).symm
  |none=>
   have:acc.size <=i:=dY.mp c;rw[q.1]at this;rw[dY.mpr this];rfl
 have e:=hx h' tk hk;rw[←J]at e;have hsz:acc.toList.toArray.size <=sizeLine:=by simpa[q.1] using hz
 wp_walk
 exact⟨_,rfl,by simpa using e⟩
end
end L2
namespace PF
open PySem PySem.Spec
open L2
variable[XW]
noncomputable def aj9(s:S):D->Option (List (aa×D))
 |.ref n=>match s[n]? with
  |some (.dct kvs)=>some kvs
  |_=>none
 |_=>none
theorem aog{d:D}{kvs:List (aa×D)}(a:Rel K as H s)(r:RD K as H v d)(h:aj9 s d=some kvs): ∃p n,v=.ref p/\d=.ref n/\as.ix[n]?=some (some p)/\s[n]?=some (.dct kvs)/\RO K as H p (.dct kvs):=by
 cases r with
 | @ref p n l hr=>
  have h:(match s[n]? with|some (O.dct kvs)=>some kvs|_=>none)=some kvs:=h;split at h
  ·rename_i e;cases h;obtain⟨c,b⟩:=aou a hr e;exact⟨p,n,rfl,rfl,c,e,b⟩
  ·cases h
 |_=>cases h
theorem ahp{f:ae}{g:FF}(c:CB X f g){xs:List V}{ds:List D}{Q:VK}(I:Inv X pins σ H sh)(a:Rel X.K as H s)(rs:RDs X.K as H xs ds)(e:jl xs us)(h:Dn X.K (rD X.K) as H (g ds s) Q):wpAny (model X.prog X.w) X.A (call f us) (EP X pins σ Q) X.xe sh:=by
 obtain⟨r,d,b⟩:=c.ex;exact d pins sh σ H xs us Q I e (b as H s xs ds Q a rs h)
def acr(m:Bool)(ds:List D)(s:S):R D:=match ds with
 |[d]=>match aj9 s d with
  |some kvs=>qj m (kvs.map λe=>D.da e.1) s
  |none=>ac3 m ds s
 |_=>ac3 m ds s
theorem ax2{es:Array cL}{acc:Array ae}(a:ItemsOf (λi v=>es[i]?.map (·.key)=some v) acc es.size):acc.toList=es.toList.map (·.key):=by
 have b:acc=es.map (·.key):=by
  apply Array.ext_getElem?;intro i;rw[Array.getElem?_map];cases c:acc[i]? with
  |some v=>exact(a.2 i v c).symm
  |none=>
   have:acc.size <=i:=dY.mp c;rw[a.1]at this;rw[dY.mpr this];rfl
 rw[b,gZ]
theorem ank(kvs:List (aa×D)):(kvs.map λe=>D.da e.1)=(kvs.map (·.1)).map D.da:=by rw[aY];rfl
theorem aj6(m:Bool)(hh:X.A.handled=none):CB X (.type "list") (acr m):=ac4 λa sh σ H as s xs ds L Q I b rs k h=>by
 unfold acr at h;split at h
 ·rename_i d;split at h
  ·rename_i kvs e;obtain⟨v,rfl,y⟩:=rs.one;obtain⟨u,rfl,o⟩:=vals1 k;obtain⟨p,n,rfl,rfl,J,F,D⟩:=aog b y e;cases o;obtain⟨es,ep,j,K,r,q,hsz,hz,x,t,_⟩:=agm I b D;refine PySem.W.kdl_call (anj (es:=es) (ep:=ep) q) hh r (by lia) λh' tk acc c kp g w=>?_
   have E:=ax2 w;have l:j.length <=sizeLine:=by rw[t.length,ao];exact hz
   have z:Inv X a σ (upd H sh.heap.objs.size (.lst j)) {sh with heap:=h',toks:=tk}:=I.laid (t':=tk) kp (aj _) ⟨l,acc.toList,c,by rw[E];exact x,by simpa using g⟩;have C:New H sh.heap.objs.size (.lst j) (upd H sh.heap.objs.size (.lst j)):=⟨I.hok.fresh (aj _),rfl⟩;rw[ank]at h;exact⟨.ref sh.heap.objs.size,_,z,rfl,aal h b t.rd C⟩
  ·exact ahp (am2 m) I b rs k h
 ·exact ahp (am2 m) I b rs k h
def adk(ds:List D)(s:S):R D:=match ds with
 |[d]=>match aj9 s d with
  |some kvs=>.ok (.tup (kvs.map (·.1))) s
  |none=>k8 ds s
 |_=>k8 ds s
theorem axt(hh:X.A.handled=none):CB X (.type "tuple") adk:=ac4 λa sh σ H as s xs ds K Q I c rs l h=>by
 unfold adk at h;split at h
 ·rename_i d;split at h
  ·rename_i kvs e;obtain⟨v,rfl,y⟩:=rs.one;obtain⟨u,rfl,q⟩:=vals1 l;obtain⟨p,n,rfl,rfl,F,E,D⟩:=aog c y e;cases q;obtain⟨es,ep,k,J,t,r,hsz,hz,x,w,_⟩:=agm I c D;refine av8 hh r t (by lia) λh' tk kp=>?_
   have m:k.length <=sizeLine:=by rw[w.length,ao];exact hz
   have I1:Inv X a σ H {sh with heap:=h',toks:=sh.toks}:=I.un (Un.kept kp) (I.hok.kept kp);have C:Inv X a σ (upd H h'.objs.size (.tup k)) {sh with heap:=h'.push {cls:=.type "tuple",data:=.seq (es.map (·.key))},toks:=tk}:=I1.laid (t':=tk) (λb o e=>ag _ e) (aj _) ⟨m,es.toList.map (·.key),x,0,by rw[←gZ,Array.toArray_toList];exact aD _ rfl⟩;have j:New H h'.objs.size (.tup k) (upd H h'.objs.size (.tup k)):=⟨I1.hok.fresh (aj _),rfl⟩;exact⟨.ref h'.objs.size,_,C,rfl,h (.ref _) as _ (kt j) (c.new j) (.da (.tup (λz=>c.has z j.no) j.at (w.mono (kt j))))⟩
  ·exact ahp aiz I c rs l h
 ·exact ahp aiz I c rs l h
end PF
namespace PF
open PySem PySem.Spec
open L2
variable[XW]
theorem azz(hu:X.A.units+70 < cLine){y z:V}{dy Z:D}{r:ae}{Q:VK}(I:Inv X pins σ H sh)(F:Rel X.K as H s)(r1:RD X.K as H (.ref p) (.ref n))(r2:RD X.K as H y dy)(r3:RD X.K as H z Z)(Y:RelV y u)(W:RelV z r)(h:Dn X.K (rD X.K) as H (yg (.ref n) dy Z s) Q):wpAny (model X.prog X.w) X.A (dictSet p u r) (λ_ s'=>∃H',Inv X pins σ H' s'/\Q .non H') E sh:=by
 obtain⟨p',n',kvs,e0,e1,x,e,ro,h⟩:=abk F r1 h;cases e0;cases e1;split at h
 ·rename_i k hk;split at h
  ·rename_i t;obtain⟨t,j⟩:=t;have L:=r2.key_inv hk;rcases aah ro t with ⟨l,a,rfl,eh,dr⟩|⟨l,U,M,dr⟩
   ·have hl:l.length < sizeLine:=by rw[←agh,dr.len];exact j
    obtain⟨N,hd,vs,rel,m⟩:=aeo I.hok eh;have o:(jp l a z).length <=sizeLine:=by have:=vh l a z;lia
    refine wpAny_dictSet_pairs (hsz:=by rw[←rel.length];exact N) (aas (aaq L Y)) m λh' d hs=>?_
    have P: ∃q,h'.get? p=some q:=let ⟨q,_,_,S,_⟩:=d;⟨q,S⟩;refine⟨_,aaw I (by rw[eh];exact eB) hs P (ai8 o hd (rel.put a W) d),?_⟩;have c:Chg H p (.dK (jp l a z)) (upd H p (.dK (jp l a z))):=⟨rfl⟩;have st:=yf (j4.mpr ⟨n,x⟩) (λq=>F.hx p q (j4.mpr ⟨n,x⟩)) c;refine ac6 (v:=.non) F x c (.inl ⟨_,c.at,?_⟩) (.da .non) h;rw[ai3];exact(dr.put r3 (kP a)).mono st
   ·obtain⟨C,J,ks,rfl⟩:=yx U;obtain⟨b,rfl⟩:=abp L;cases Y;have hl:l.length < sizeLine:=by rw[dr.len];exact j
    obtain⟨N,hd,xs,rel,m⟩:=M.rs I.hok;have o:(jp l (.tuple ks) z).length <=sizeLine:=by have:=vh l (.tuple ks) z;lia
    refine ag5 (hsz:=by rw[←bV rel];exact N) (show(kf X.prog X.w).room X.A from(show X.A.units+10 < cLine by lia)) (ac2 I.hok C (TD.kd L J)) m λh' d hs=>?_
    have P: ∃q,h'.get? p=some q:=let ⟨q,_,_,S,_⟩:=d;⟨q,S⟩;have ht: ∀c O,H c=some (.tup O)->upd H p (.dD (jp l (.tuple ks) z)) c=some (.tup O):=λc O q=>by
     rw[j7 (λy=>by subst y;rcases M with e|⟨e,_⟩ <;> (rw[e]at q;cases q))];exact q
    refine⟨_,aaw I M.mut hs P (amw o hd (rel.put C (TD.kd L J) W) ht d),?_⟩;have c:Chg H p (.dD (jp l (.tuple ks) z)) (upd H p (.dD (jp l (.tuple ks) z))):=⟨rfl⟩;have st:=yf (j4.mpr ⟨n,x⟩) (λq=>F.hx p q (j4.mpr ⟨n,x⟩)) c;exact ac6 (v:=.non) F x c (.inr ⟨_,⟨age _ _ _,ag9 (alp ro M) U⟩,c.at,(dr.put r3 _).mono st⟩) (.da .non) h
  ·exact h.elim
 ·exact h.elim
abbrev FP:=En->S->R (List (D×D))
inductive RPs (K:ak) (as:As) (H:Hp):List (V×V)->List (D×D)->Prop
 |nil:RPs K as H [] []
 |cons {x y:V} {a b:D} {ps:List (V×V)} {ds:List (D×D)}:RD K as H x a->RD K as H y b->RPs K as H ps ds->RPs K as H ((x,y)::ps) ((a,b)::ds)
theorem RPs.mono{c:As}(st:Step as H c H'){ps:List (V×V)}{ds:List (D×D)}(h:RPs K as H ps ds):RPs K c H' ps ds:=by
 induction h with
 |nil=>exact .nil
 |cons a b t d=>exact .cons (a.mono st) (b.mono st) d
noncomputable def akw:FP:=λ_ s=>.ok [] s
def acj(d b:FE)(r:FP):FP:=λρ s=>(d ρ s).bind λk e=>(b ρ e).bind λv c=>(r ρ c).bind λps a=>.ok ((k,v)::ps) a
structure RP (X:Cx) (pos:Pos) (keys:List (Option Expr)) (values:List Expr) (f:FP):Prop where
 ex: ∃trs,PPs X pos keys values trs/\ ∀as σ H ρ s Q,Rel X.K as H s->Envs X.K as H ρ σ->Dn X.K (RPs X.K) as H (f ρ s) Q->aig trs σ H Q
theorem asy:RP X pos [] [] akw:=⟨[],azu,λas σ H ρ s Q a b h=>Dn.now (Q:=Q) h a .nil⟩
theorem adg{k v:Expr}{ks:List (Option Expr)}{vs:List Expr}{n:FE}{f:FP}(hk:RE X k n)(u:RE X v fv)(hr:RP X pos ks vs f):RP X pos (some k::ks) (v::vs) (acj n fv f):=by
 obtain⟨tk,E,I⟩:=hk.ex;obtain⟨z,pv,C⟩:=u.ex;obtain⟨m,o,N⟩:=hr.ex;refine⟨(tk,z)::m,axz E pv o,λas σ H ρ s Q p l h=>?_⟩;refine I as σ H ρ s _ p l (Dn.bind h λS M j D x st1 b q J=>?_);refine C j σ D ρ M _ b (l.mono st1) (Dn.bind J λV w c A y st2 d t r=>?_);refine N c σ A ρ w _ d ((l.mono st1).mono st2) (Dn.bind r λps U F P O a e L K=>?_);exact Dn.now (Q:=Q) K e (.cons ((q.mono st2).mono a) (t.mono a) L)
def putAll(n:Nat):List (D×D)->S->R D
 |[],s=>.ok .non s
 |(k,v)::r,s=>(yg (.ref n) k v s).bind λ_ a=>putAll n r a
def akt(f:FP):FE:=λρ s=>(f ρ (s++ [.dct []])).bind λps a=>(putAll s.length ps a).bind λ_ b=>.ok (.ref s.length) b
theorem ad1(z:X.A.units+70 < cLine){E:ae->af->Prop}{j:List (Addr×Obj)}{σ:St}{p:Addr}{n:Nat}: ∀{ps:List (V×V)} {ds:List (D×D)} {u:List (ae×ae)} {sh:af} {H:Hp} {as:As} {s:S} {Q:VK},RPs X.K as H ps ds->VV ps u->Inv X j σ H sh->Rel X.K as H s->RD X.K as H (.ref p) (.ref n)->Dn X.K (rD X.K) as H ((putAll n ds s).bind λ_ c=>.ok (.ref n) c) Q ->
  wpAny (model X.prog X.w) X.A (storeAll p u) (λ_ s'=>∃H',Inv X j σ H' s'/\Q (.ref p) H') E sh
 |_,_,_,sh,H,as,s,Q,.nil,v,I,x,r,h=>by
  cases v;show wpAny _ _ (forIn [] _ _) _ _ _;rw[iJ];exact ah ⟨H,I,Dn.now (Q:=Q) (show Dn X.K (rD X.K) as H (.ok (.ref n) s) Q from h) x r⟩
 | _,_,_,sh,H,as,s,Q,.cons (ps:=ps) (ds:=ds) (a:=a) (b:=b) L J t,v,I,x,r,h=>by
  cases v with
  | @cons _ q _ u C N=>
   obtain⟨q1,F⟩:=q;show wpAny _ _ (forIn ((q1,F)::u) _ _) _ _ _;rw[fZ];have h':Dn X.K (rD X.K) as H ((yg (.ref n) a b s).bind λ_ k=>(putAll n ds k).bind λ_ c=>.ok (.ref n) c) Q:=by
    have e:((putAll n ((a,b)::ds) s).bind λ_ c=>R.ok (D.ref n) c)=(yg (.ref n) a b s).bind λ_ k=>(putAll n ds k).bind λ_ c=>.ok (.ref n) c:=by
     show((yg (.ref n) a b s).bind λ_ k=>putAll n ds k).bind _=_;cases yg (.ref n) a b s <;> rfl
    rw[←e];exact h
   refine ac (ac (bf (azz (E:=E) (Q:=λ_ H'=>∃m s',Step as H m H'/\Rel X.K m H' s'/\Dn X.K (rD X.K) m H' ((putAll n ds s').bind λ_ c=>.ok (.ref n) c) Q) z I x r L J C.1 C.2 (Dn.bind h' λd k o M P st1 l O y=>⟨o,k,st1,l,y⟩)) (λ_ s' hx=>?_) λ_ _ e=>e));obtain⟨M,I1,o,k,st1,l,y⟩:=hx;exact ah (ad1 z (t.mono st1) N I1 l (r.mono st1) y)
theorem apw{keys:List (Option Expr)}{b:List Expr}{f:FP}(J:X.A.units+70 < cLine)(h:RP X pos keys b f)(k:keys.all (·.isSome)=true:=by rfl)(P:keys.length=b.length:=by rfl)(M:keys≠ []:=by(intro z;cases z))(l:keys.length <=15:=by decide):RE X (.Dict keys b pos) (akt f):=by
 obtain⟨x,E,Y⟩:=h.ex;refine⟨λσ H Q=>∀p,H p=none->aig x σ (upd H p (.dK [])) λps c=>∃as s ds n,Rel X.K as c s/\RPs X.K as c ps ds/\RD X.K as c (.ref p) (.ref n)/\Dn X.K (rD X.K) as c ((putAll n ds s).bind λ_ y=>.ok (.ref n) y) Q,⟨λd sh σ H Q I h=>?_⟩,λas σ H ρ s Q j U h=>?_⟩
 ·have I1:=I.laid (a:=sh.heap.objs.size) (o:=.dK []) (h':=sh.heap.push {cls:=.type "dict",data:=.dict #[]}) (t':=sh.toks) (λ_ _ q=>ag _ q) (aj _) (anb sh.heap I.big);refine wpAny_Dict_any k P M l (thn (E d _ σ _ _ I1 (h _ (I.hok.fresh (aj _)))) λZ C ⟨ps,O,N,W,as,s,ds,n,j,r,rd,q⟩=>?_);exact bf (ad1 J r W N j rd q) (λ_ y ⟨c,S,D⟩=>⟨.ref _,c,S,rfl,D⟩) λ_ _ e=>e
 ·intro p L;have w:New H p (.dK []) (upd H p (.dK [])):=⟨L,rfl⟩;have st:=vt (as:=as) w;have m:=j.laid w (u:=.dct []) (.inl ⟨[],w.at,.nil⟩);have rd:RD X.K (as.add p) (upd H p (.dK [])) (.ref p) (.ref s.length):=.ref (by simp[j.len]) λq e=>by
   rw[←j.len]at e;simp at e;exact e.symm
  refine Y (as.add p) σ _ ρ (s++ [.dct []]) _ m (U.mono st) (Dn.bind (Dn.step h st) λds C v O ps st1 t F V=>⟨v,C,ds,s.length,t,F,rd.mono st1,V⟩)
end PF
namespace L2
open PySem PySem.Spec PyProof.Rows
abbrev TBd:=Addr->St->Hp->(St->Hp->Prop)->Prop
noncomputable def a6z(a:Expr)(acc:ae)(env:Env):Sem Unit:=do let _←call (.builtin "list.append") [acc,←eval a env]
theorem a13(e h iter d a:Expr)(c b:List Expr)(scope:dP)(pos:Pos)(j acc:ae)(env:Env):compTurn (.ListComp e [⟨h,iter,c,0⟩,⟨d,a,b,0⟩] scope pos) 0 j acc env=(do
  standAt iter.pos
  match←pyNext j with
  |none=>pure (.done .next)
  | some v=>
   dQ h j v
   assign h env v
   let ok←air env c
   if ok=true then
    let x←eval a env
    standAt a.pos
    let x←bM a env x;let _←runOwn (.compStart (.ListComp e [⟨h,iter,c,0⟩,⟨d,a,b,0⟩] scope pos) 1 (←holding [x] (pyIter x)) acc env) env
   again (.compLoop (.ListComp e [⟨h,iter,c,0⟩,⟨d,a,b,0⟩] scope pos) 0 j acc env)):=rfl
theorem ay7(d j iter c a:Expr)(e b:List Expr)(scope:dP)(pos:Pos)(h acc:ae)(env:Env):compTurn (.ListComp d [⟨j,iter,e,0⟩,⟨c,a,b,0⟩] scope pos) 1 h acc env=(do
  standAt a.pos
  match←pyNext h with
  |none=>pure (.done .next)
  |some v=>
   dQ c h v
   assign c env v
   let ok←air env b
   if ok=true then a6z d acc env
   again (.compLoop (.ListComp d [⟨j,iter,e,0⟩,⟨c,a,b,0⟩] scope pos) 1 h acc env)):=rfl
section
variable{P:aP}{w:aM}{A:bh}{R:kA->af->Prop}{s:af}{elt tg iter tg2 iter2:Expr}{ifs ifs2:List Expr}{sc:dP}{pos:Pos}{it acc:ae}{env:Env}
abbrev LC2(e h iter d a:Expr)(c b:List Expr)(sc:dP)(pos:Pos):Expr:=.ListComp e [⟨h,iter,c,0⟩,⟨d,a,b,0⟩] sc pos
def LcT(P:aP)(w:aM)(A:bh)(h:ae)(e:Expr)(l:List Expr)(env:Env)(body:(af->Prop)->af->Prop)(fin again:af->Prop)(s:af):Prop:=
 Wn P w A (pyNext h) (λr a=>match r with
  |none=>fin a
  |some v=>Wn P w A (dQ e h v) (λ_ b=>Wn P w A (assign e env v) (λ_ c=>Wn P w A (air env l) (λok d=>if ok=true then body again d else again d) c) b) a) s
def aza(P:aP)(w:aM)(A:bh)(a:Expr)(acc:ae)(env:Env)(again:af->Prop)(s:af):Prop:=Wn P w A (eval a env) (λx e=>Wn P w A (call (.builtin "list.append") [acc,x]) (λ_ g=>again g) e) s
def aen(P:aP)(w:aM)(A:bh)(e iter:Expr)(acc:ae)(env:Env)(again:af->Prop)(s:af):Prop:=
 Wn P w A (eval iter env) (λx a=>Wn P w A (pyIter x) (λit2 c=>codeAny (model P w) A (.compStart e 1 it2 acc env) (λr z=>match r with|.ok _=>again z|.error _=>False) c) a) s
theorem a7e(J:Nat->af->Prop)(hs: ∀x,bM iter2 env x=pure x)
  (turn: ∀n s,J n s->LcT P w A it tg ifs env (aen P w A (LC2 elt tg iter tg2 iter2 ifs ifs2 sc pos) iter2 acc env) (R (.ok .next)) (λz=>∃m,m < n/\J m z) s) (n:Nat) (h:J n s):codeAny (model P w) A (.compLoop (LC2 elt tg iter tg2 iter2 ifs ifs2 sc pos) 0 it acc env) R s:=by
 refine mM rfl J (λk z hz=>?_) n h;have one:=turn k z hz;show wpAny _ A (mX (compTurn (LC2 elt tg iter tg2 iter2 ifs ifs2 sc pos) 0 it acc env) λx=>do iU x env;lc x) _ _ z;refine mY ?_;rw[a13];refine ac (dB (ac (bf one (λr a l=>?_) λ_ _ f=>f.elim)));cases r with
 |none=>exact ah l
 | some v=>
  refine ac (bf l (λ_ b o=>ac (bf o (λ_ c t=>ac (bf t (λok d hd=>?_) λ_ _ f=>f.elim)) λ_ _ f=>f.elim)) λ_ _ f=>f.elim);cases ok with
  |false=>
   have q: ∃m,m < k/\J m d:=hd;exact ah ⟨rfl,q⟩
  |true=>
   have q:aen P w A (LC2 elt tg iter tg2 iter2 ifs ifs2 sc pos) iter2 acc env (λz=>∃m,m < k/\J m z) d:=hd;refine ac (bf q (λx e p=>ac (dB (ac ?_))) λ_ _ f=>f.elim);rw[hs x];refine ah (ac (bg (bf p (λit2 u j=>ac (wpAny_runOwn (fz j λr z hz=>?_))) λ_ _ f=>f.elim)));cases r with
   |ok f=>exact ah ⟨rfl,hz⟩
   |error e=>exact hz.elim
theorem a5t(J:Nat->af->Prop)
  (turn: ∀n s,J n s->LcT P w A it tg2 ifs2 env (aza P w A elt acc env) (R (.ok .next)) (λz=>∃m,m < n/\J m z) s) (n:Nat) (h:J n s):codeAny (model P w) A (.compLoop (LC2 elt tg iter tg2 iter2 ifs ifs2 sc pos) 1 it acc env) R s:=by
 refine mM rfl J (λk z hz=>?_) n h;have one:=turn k z hz;show wpAny _ A (mX (compTurn (LC2 elt tg iter tg2 iter2 ifs ifs2 sc pos) 1 it acc env) λx=>do iU x env;lc x) _ _ z;refine mY ?_;rw[ay7];refine ac (dB (ac (bf one (λr a j=>?_) λ_ _ f=>f.elim)));cases r with
 |none=>exact ah j
 | some v=>
  refine ac (bf j (λ_ b o=>ac (bf o (λ_ c t=>ac (bf t (λok d hd=>?_) λ_ _ f=>f.elim)) λ_ _ f=>f.elim)) λ_ _ f=>f.elim);cases ok with
  |false=>
   have q: ∃m,m < k/\J m d:=hd;exact ah ⟨rfl,q⟩
  |true=>
   have q:aza P w A elt acc env (λz=>∃m,m < k/\J m z) d:=hd;exact ac (ac (bf q (λx e p=>ac (bf p (λ_ g l=>ah (ah ⟨rfl,l⟩)) λ_ _ f=>f.elim)) λ_ _ f=>f.elim))
theorem a4l(b:codeAny (model P w) A (.compLoop (LC2 elt tg iter tg2 iter2 ifs ifs2 sc pos) 1 it acc env) R s)
  (h:wpAny (model P w) A (pyIter it) (λa s'=>codeAny (model P w) A (.compLoop (LC2 elt tg iter tg2 iter2 ifs ifs2 sc pos) 1 a acc env) R s') (λ_ _=>False) s):codeAny (model P w) A (.compStart (LC2 elt tg iter tg2 iter2 ifs ifs2 sc pos) 1 it acc env) R s:=by
 refine codeAny_of_tree ?_;show wpAny _ _ ((compStart (LC2 elt tg iter tg2 iter2 ifs ifs2 sc pos) 1 it acc env).onRaise (λx=>do iU x env;standAt theWindowsPlace)) _ _ s;refine wpAny_notedAt ?_;unfold compStart;show wpAny _ _ (ask >>=_) _ _ s --
 (refine ac (wpAny_askSetting (wpAny_ite ?_)))
 split
 ·exact ah ⟨rfl,b⟩
 ·exact ac (b9 (ac (dB (ac (bf h (λa s' h'=>ah ⟨rfl,h'⟩) λ_ _ x=>x.elim)))))
end
theorem aen.mono{w:aM}{acc:ae}{env:Env}{a b:af->Prop}{s:af}(h:aen P w A e iter acc env a s)(k: ∀z,a z->b z):aen P w A e iter acc env b s:=by
 refine bf h (λx j d=>bf d (λit2 l c=>fz c λr z hz=>?_) λ_ _ f=>f) λ_ _ f=>f
 cases r with
 |ok f=>exact k z hz
 |error _=>exact hz
def PNx(X:Cx)(e iter:Expr)(tb:TBd):Prop:= ∀(D:Addr) (pins:List (Addr×Obj)) (s:af) (σ:St) (H:Hp) (Q:St->Hp->Prop),Inv X pins σ H s->tb D σ H Q->aen X.prog X.w X.A e iter (.ref D) X.env (λs'=>∃a H',Inv X pins a H' s'/\Q a H') s
def ar4(g:TG)(tt:TT)(tb:TBd)(k:Nat)(d:St)(J:It)(j:Hp)(Q:VK):Prop:=
 ∀ D,j D=none->∃W:Nat->Nat->Hp->Prop,(∃m,W 0 m (upd j D (.lst [])))/\ ∀i m H,W i m H ->
  (J.stop i H/\Q (.ref D) H)\/(J.go i H/\ ∀x H',J.yld i H x H'->∀vs:St,vs.length=k->g x (vs++d) H' λc H2=>(∃a:St,a.length=k/\c=a++d)/\tt c H2 λb l=>
   if b=true then tb D c l λh n=>(∃a:St,a.length=k/\h=a++d)/\ ∃e,e < m/\W (i+1) e n else∃e,e < m/\W (i+1) e l)
def a4b(js:List Nat)(k:Nat)(a:TI)(g:TG)(tt:TT)(tb:TBd):TE:=λσ H Q=>a σ H λJ H1=>ar4 g tt tb k (v7 σ js) J H1 Q
def tNx(h:TI)(g:TG)(tt:TT)(te:TE):TBd:=λD σ H Q=>h σ H λJ H1=>∃W:Nat->Nat->St->Hp->Prop,(∃m,W 0 m σ H1)/\ ∀i m σ H,W i m σ H ->
  (J.stop i H/\Q σ H)\/(J.go i H/\ ∀x H',J.yld i H x H'->g x σ H' λa H2=>tt a H2 λb e=>
   if b=true then te a e λv d=>∃ys,d D=some (.lst ys)/\ys.length < sizeLine/\ ∃c,c < m/\W (i+1) c a (upd d D (.lst (ys++ [v]))) else∃c,c < m/\W (i+1) c a e)
section
variable{X:Cx}{own caps:List Str}{js:List Nat}{scope:dP}{tg iter tg2 iter2 elt:Expr}{ifs ifs2:List Expr}{wi:TI}{g:TG}{tt:TT}{te:TE}{tb:TBd}{pos:Pos}
theorem pnx(k:X.calm=true)(hx:X.xe=λ_ _=>False)(hi:PI X tg2 iter2 wi)(hg:PG X tg2 g)(ht:ae9 X ifs2 tt)(he:PE X elt te):PNx X (LC2 elt tg iter tg2 iter2 ifs ifs2 scope pos) iter2 (tNx wi g tt te):=by
 intro D a s σ H Q I h;have h0:=hi a s σ H _ I h;rw[hx]at h0;refine thn h0 λv s1 h1=>thn h1 λitv s2 h2=>?_
 obtain⟨it,F,tn,J,H2,e,I2,T,st2,f2,W,⟨m0,w0⟩,turn⟩:=h2;subst e;have j: ∀{H':Hp},(∀b∈F,H' b=none)->∀b∈F,zt X a H' b:=λhn b q=>⟨hn b q,(f2 b q).2⟩
 have loop:codeAny (model X.prog X.w) X.A (.compLoop (LC2 elt tg iter tg2 iter2 ifs ifs2 scope pos) 1 (.ref it) (.ref D) X.env) (λr z=>match r with|.ok _=>∃c H',Inv X a c H' z/\Q c H'|.error _=>False) s2:=by
  refine a5t (λn s'=>∃i c H',Inv X a c H' s'/\tn i s'.heap/\(∀b∈F,H' b=none)/\W i n c H') ?_ m0 ⟨0,σ,H2,I2,st2,λb q=>(f2 b q).1,w0⟩;rintro n s3 ⟨i,l,P,I3,st3,fr3,w3⟩;rcases turn i n l P w3 with ⟨stop,qn⟩|⟨go,step⟩
  ·refine thn (T.done X rfl rfl rfl k i a s3 l P (λ_ _=>False) I3 (j fr3) st3 stop) λr s4 ⟨hr,I4⟩=>?_
   subst hr;exact⟨l,P,I4,qn⟩
  ·refine thn (T.item X rfl rfl rfl k i a s3 l P (λ_ _=>False) I3 (j fr3) st3 go) λr s4 ⟨u,hr,h4⟩=>?_
   subst hr;refine thn h4 λ_ s5 ⟨x,H5,I5,r5,y5,t,V⟩=>?_
   have S:=I5.pinned (j V) (T.obj _ _ t);have M:=hg _ s5 l H5 x u _ S r5 (step x H5 y5);rw[hx]at M;refine thn M λ_ s6 ⟨p,H6,I6,q6⟩=>?_
   have N:=ht _ s6 p H6 _ I6 q6;rw[hx]at N;refine thn N λb s7 ⟨H7,I7,q7⟩=>?_
   have again: ∀{C:Hp} {E:af},Inv X (a++acy F s5.heap) p C E->(∃O,O < n/\W (i+1) O p C)->∃m,m < n/\ ∃i c H',Inv X a c H' E/\tn i E.heap/\(∀b∈F,H' b=none)/\W i m c H':=λ{C E} K U=>by
    obtain⟨O,hm,U⟩:=U;refine⟨O,hm,i+1,p,C,K.unpinned,T.keep _ _ _ t λb q o e=>(K.pin (b,o) (aV _ (aV _ (xg q e)))).1,λb q=>?_,U⟩;obtain⟨o,e,d⟩:=T.obj _ _ t b q;exact(K.pin (b,o) (aV _ (aV _ (xg q e)))).2.1
   cases b with
   |false=>exact again I7 q7
   |true=>
    have L:=he _ s7 _ H7 _ I7 q7;rw[hx]at L;refine thn L λy E ⟨v,C,K,r8,ys,Y,Z,q8⟩=>?_
    have ha:=afv (X:=X) _ E _ C (.ref D) [v] (.ref D) [y] (λz H9=>H9=upd C D (.lst (ys++ [v]))) K rfl (.cons r8 .nil) ⟨D,ys,v,rfl,rfl,Y,Z,rfl⟩;rw[hx]at ha;refine thn ha λ_ s9 ⟨z,H9,I9,_,e9⟩=>?_
    subst e9;exact again I9 q8
 exact a4l loop (T.self _ 0 _ _ _ st2 loop)
theorem a1w{M:Hp}{t:af}{k:List Addr}{tn:Nat->Heap->Prop}{J:It}{Q:VK}{post:ae->Addr->kA->af->Prop}(S:X.calm=true)(V:scope.kind=.function)(hcell:(scope.names.any λp=>p.2==.cell)=false)(hk:(scope.names.all λp=>!(p.2==.free)||(X.env.kindOf p.1==some .cell||X.env.kindOf p.1==some .free))=true)(hcap:xx X scope caps js)(hg: ∀C k s H,PG (ju X own caps scope C k s H) tg g)(hi: ∀C k s H,ae9 (ju X own caps scope C k s H) ifs tt)(h: ∀C k s H,PNx (ju X own caps scope C k s H) (LC2 elt tg iter tg2 iter2 ifs ifs2 scope pos) iter2 tb)(hs2: ∀C k s H x,bM iter2 (ju X own caps scope C k s H).env x=pure x)(I:Inv X pins σ M t)(T:Turn X.prog X.w X.K tg J k it tn)(st2:tn 0 t.heap)(f2: ∀b∈k,zt X pins M b)(hw:ar4 g tt tb own.length (v7 σ js) J M Q)(hpost: ∀D C s' m H',s'.heap.Ns C m->t.heap.objs.size <=C->zt X pins H' C->Inv X pins σ H' s'->Q (.ref D) H'->post (.ref D) C (.ok .next) s'):
  wpAny (model X.prog X.w) X.A (newList []) (λacc O=>wpAny (model X.prog X.w) X.A (newFunctionEnv scope X.env.globals (ve X.env scope.names []) [] X.env.qual none .none (some X.env)) (λcenv s₄=>
   codeAny (model X.prog X.w) X.A (.compStart (LC2 elt tg iter tg2 iter2 ifs ifs2 scope pos) 0 (.ref it) acc {cenv with scope:=relabel scope X.env}) (post acc cenv.locals) s₄) E O) E t:=by
 have N: ∀y∈scope.names,y.2≠ .cell:=λy hy e=>by
  have:=(jO.mp hcell) y hy;simp[e]at this
 have hfr: ∀n,(n,bB)∈scope.names->X.env.kindOf n=some .cell\/X.env.kindOf n=some .free:=λn hn=>by
  have:=(aB.mp hk) _ hn;simpa using this
 refine cr (lV N (by intro y hy;simp at hy) (λP L l=>?_) V);dsimp only at L l⊢;generalize hHp:t.heap.push {cls:=.type "list",dict:=none,data:=.seq ([]:List ae).toArray}=G2 at L l⊢;have hC:G2.objs.size=t.heap.objs.size+1:=by rw[←hHp,cp]
 obtain⟨D,F⟩: ∃D:Nat,t.heap.objs.size=D:=⟨_,rfl⟩;obtain⟨C,hCe⟩: ∃C:Nat,G2.objs.size=C:=⟨_,rfl⟩;rw[hCe]at L l;rw[F,hCe]at hC;show codeAny _ _ (.compStart _ 0 (.ref it) (.ref t.heap.objs.size) (compEnvC scope (ve X.env scope.names []) G2.objs.size X.env)) (post (.ref t.heap.objs.size) G2.objs.size) _;rw[F,hCe];have hDC:D≠C:=by lia
 have hDCl:D < C:=by lia
 have old: ∀b o,t.heap.get? b=some o->P.get? b=some o:=λb o e=>by
  have hlt:b < D:=F▸ay e;exact l.extBut b o (aI (eG hlt hDCl)) (ag _ (hHp▸ag _ e))
 have hD2:M D=none:=I.hok.fresh (dN F);have hC2:M C=none:=I.hok.fresh (by rw[F];lia);have accD:P.get? D=some {cls:=.type "list",data:=.seq ([]:List ae).toArray}:=l.extBut _ _ hDC (ag _ (hHp▸F▸aD _ rfl));obtain⟨W,⟨m0,w0⟩,turn⟩:=hw D hD2
 -- the block's own state
 have fpn: ∀b∈k,M b=none:=λb h=>(f2 b h).1
 have fplt: ∀b∈k,b < D:=λb h=>by obtain⟨o,e,_⟩:=T.obj _ _ st2 b h;exact F▸ay e
 have clsub: ∀n c,(n,c)∈ve X.env scope.names []->X.env.cells.lookup n=some c:=ah3 (by intro _ _ z;cases z);have a: ∀n c,(ve X.env scope.names []).lookup n=some c->X.env.cells.lookup n=some c:=λn c e=>clsub n c (cP e)
 have Y: ∀n,(n,bB)∈scope.names->∃c,(ve X.env scope.names []).lookup n=some c/\X.env.cells.lookup n=some c:=λn hn=>by
  obtain⟨c,e⟩:=I.ok.has n (hfr n hn);have m:=ah7 (cs:=[]) hn e;cases q:(ve X.env scope.names []).lookup n with
  |none=>
   have:=kN.mp q _ m;simp at this
  |some c'=>exact⟨c',rfl,a n c' q⟩
 have clt: ∀x c,(ve X.env scope.names []).lookup x=some c->c < D:=λx c e=>by
  obtain⟨v,z⟩:=I.cell x c (a x c e);exact F▸z.lt
 have ok':(ju X own caps scope C k t M).Ok:=by
  refine⟨I.ok.mod,V,I.ok.glob,I.ok.blt,?_,λx y c e1 e2=>I.ok.inj x y c (a x c e1) (a y c e2),λx hx=>?_,λx c z=>(by cases z),I.ok.hd,I.ok.frames,.inl rfl,λb h=>⟨?_,λx c e=>?_⟩,I.bs,aN I.ok.bsz I.sz,λb o e h=>?_,λb h hs=>?_,I.stack,I.stkFree⟩
  ·show t.heap.objs.size <=C;rw[F];lia
  ·have hx':(relabel scope X.env).names.lookup x=some .cell\/(relabel scope X.env).names.lookup x=some .free:=hx;obtain⟨c,e,_⟩:=Y x (y6 N hx');exact⟨c,e⟩
  ·exact aI (eG (fplt b h) hDCl)
  ·exact(f2 b h).2.2.2.2.1 x c (a x c e)
  ·rcases (f2 b h).2.2.2.1 with z|z
   ·exact I.ok.noex b o e z
   ·exact absurd (a9 (ay (I.ok.bs b o e).1) z) (cG _)
  ·rcases aL.mp (I.stkSub b hs) with z|z
   ·exact(f2 b h).2.1 z
   ·exact(f2 b h).2.2.1 z
 have I4:Inv (ju X own caps scope C k t M) [] (bp own.length none++v7 σ js) (upd M D (.lst [])) {t with heap:=P,toks:=t.toks+([]:List (Str×ae)).length}:=by
  refine⟨ok',rfl,I.bare,Un.laid old (dN F) hD2,⟨_,L,λi x v e1 e2 e3=>?_⟩,λx c e=>?_,?_,λx c e=>?_,λp hp=>absurd (show p∈([]:List (Addr×Obj)) from hp) (by simp),?_,?_⟩
  ·have e1:(own++caps)[i]?=some x:=e1;by_cases hio:i < own.length
   ·rw[aQ (by simpa using hio),dG]at e2;split at e2 <;> cases e2
   ·have hle:own.length <=i:=bF hio;rw[aZ hle]at e1;rw[aZ (by simpa using hle)]at e2;obtain⟨j,c,e⟩:=xx.at (σ:=σ) hcap e1 (by simpa using e2);obtain⟨c1,c2,c3,c4⟩:=c;obtain⟨m,hn,hl⟩:=I.loc;obtain⟨u,r,lk⟩:=hl j x v c1 e c2;refine⟨u,r,.inr ⟨?_,?_⟩⟩
    ·have c4':(relabel scope X.env).names.lookup x=some .cell\/(relabel scope X.env).names.lookup x=some .free:=by simpa using c4
     exact c4'
    ·have c4':(relabel scope X.env).names.lookup x=some .cell\/(relabel scope X.env).names.lookup x=some .free:=by simpa using c4
     obtain⟨c',q1,q2⟩:=Y x (y6 N c4');rcases lk with ⟨k1,_⟩|⟨_,c'',k2,k3⟩
     ·rw[k1]at c3;simp at c3
     ·rw[q2]at k2;cases k2;obtain⟨oc,hoc,hod⟩:=k3;exact⟨c',q1,oc,old _ _ hoc,hod⟩
  ·obtain⟨v,oc,hoc,hod⟩:=I.cell x c (a x c e);exact⟨v,oc,old _ _ hoc,hod⟩
  ·show upd M D (.lst []) C=none;rw[j7 (bu hDC)];exact hC2
  ·rw[j7 (aI (clt x c e))];exact I.freeC x c (a x c e)
  ·exact I.hok.laid old (dN F) ⟨bn _,[],0,.nil,accD⟩
  ·show(bp own.length none++v7 σ js).length=(own++caps).length;rw[aH,aH,ia,hcap.len]
 have U: ∀{H':Hp},(∀b∈k,H' b=none)->∀b∈k,zt (ju X own caps scope C k t M) [] H' b:=λhn b h=>
  ⟨hn b h,(ok'.exf b h).1,ok'.exfs b h,.inl h,(ok'.exf b h).2,λp hp=>absurd (show p∈([]:List (Addr×Obj)) from hp) (by simp)⟩
 have loop: ∀O:af,O={t with heap:=P,toks:=t.toks+([]:List (Str×ae)).length} ->
   codeAny (model X.prog X.w) X.A (.compLoop (LC2 elt tg iter tg2 iter2 ifs ifs2 scope pos) 0 (.ref it) (.ref D) (compEnvC scope (ve X.env scope.names []) C X.env)) (post (.ref D) C) O:=by
  rintro O rfl;refine a7e (λn s'=>∃i vs H',vs.length=own.length/\Inv (ju X own caps scope C k t M) [] (vs++v7 σ js) H' s'/\tn i s'.heap/\(∀b∈k,H' b=none)/\W i n H') (hs2 C k t M) ?_ m0
   ⟨0,bp own.length none,upd M D (.lst []),by simp,I4,T.keep _ _ _ st2 λb _ o e=>old b o e,λb h=>by rw[j7 (aI (fplt b h))];exact fpn b h,w0⟩
  rintro n s3 ⟨i,vs,H3,hvs,I3,st3,fr3,w3⟩;rcases turn i n H3 w3 with ⟨stop,qn⟩|⟨go,step⟩
  ·refine thn (T.done (ju X own caps scope C k t M) rfl rfl rfl S i [] s3 _ H3 (λ_ _=>False) I3 (U fr3) st3 stop) λr s5 ⟨hr,I5⟩=>?_
   subst hr;obtain⟨m5,hn5,_⟩:=id I5.loc;refine hpost D C s5 m5 H3 hn5 (by rw[F];lia) (I.fpOk (by rw[F];lia) I5.free) ?_ qn;exact I.call' (ch:=k) I5.os I5.base I5.hok I5.bare λb h=>⟨(f2 b h).2.2.2.1,(f2 b h).2.1,(f2 b h).2.2.2.2⟩
  ·refine thn (T.item (ju X own caps scope C k t M) rfl rfl rfl S i [] s3 _ H3 (λ_ _=>False) I3 (U fr3) st3 go) λr s4 ⟨u,hr,h4⟩=>?_
   subst hr;refine thn h4 λ_ s5 ⟨x,H5,I5,r5,y5,st5,fr5⟩=>?_
   have I5':=I5.pinned (U fr5) (T.obj _ _ st5);refine thn (hg C k t M _ s5 _ H5 x u _ I5' r5 (step x H5 y5 vs hvs)) λ_ s6 ⟨σ6,H6,I6,⟨vs6,hvs6,e6⟩,q6⟩=>?_
   subst e6;refine thn (hi C k t M _ s6 _ H6 _ I6 q6) λb s7 ⟨H7,I7,q7⟩=>?_
   have again: ∀{H8:Hp} {s8:af} {Z:St},Z.length=own.length->Inv (ju X own caps scope C k t M) ([]++acy k s5.heap) (Z++v7 σ js) H8 s8->(∃m',m' < n/\W (i+1) m' H8) ->
     ∃m,m < n/\ ∃i vs H',vs.length=own.length/\Inv (ju X own caps scope C k t M) [] (vs++v7 σ js) H' s8/\tn i s8.heap/\(∀b∈k,H' b=none)/\W i m H':=λ{H8 s8 Z} hv8 I8 w8=>by
    obtain⟨m',hm,w8⟩:=w8;refine⟨m',hm,i+1,Z,H8,hv8,I8.unpinned,T.keep _ _ _ st5 λb h o e=>(I8.pin (b,o) (aV _ (aV _ (xg h e)))).1,λb h=>?_,w8⟩;obtain⟨o,e,d⟩:=T.obj _ _ st5 b h;exact(I8.pin (b,o) (aV _ (aV _ (xg h e)))).2.1
   cases b with
   |false=>exact again hvs6 I7 q7
   |true=>
    refine aen.mono (h C k t M D _ s7 _ H7 _ I7 q7) λz hz=>?_
    obtain⟨σ8,H8,I8,⟨Z,hv8,e8⟩,w8⟩:=hz;subst e8;exact again hv8 I8 w8
 refine lu (loop _ rfl) (T.self _ 0 _ _ _ (T.keep _ _ _ st2 λb _ o e=>old b o e) (loop _ rfl))
end
section
variable{X:Cx}{own caps:List Str}{js:List Nat}{scope:dP}{tg iter tg2 iter2 elt:Expr}{ifs ifs2:List Expr}{wi:TI}{g:TG}{tt:TT}{te:TE}{tb:TBd}{pos:Pos}
theorem avn{r:Pos}{k:Pos}(Y:eS (LC2 elt tg iter tg2 iter2 ifs ifs2 scope pos) (some (.Name y r)) k.line X.env=pure true)(hN:X.N.Nodup)(Z:X.N[i]?=some y)(E:X.env.scope.names.lookup y=some .local)(q:X.calm=true)(d:scope.kind=.function)(j:(scope.names.all λp=>!(p.2==.local)||(scope.names.lookup p.1==some .local))=true)(l:(scope.names.any λp=>p.2==.cell)=false)(hk:(scope.names.all λp=>!(p.2==.free)||(X.env.kindOf p.1==some .cell||X.env.kindOf p.1==some .free))=true)(t:xx X scope caps js)(hi:PI X tg iter wi)(hg: ∀C fp s H,PG (ju X own caps scope C fp s H) tg g)(ht: ∀C fp s H,ae9 (ju X own caps scope C fp s H) ifs tt)(W: ∀C fp s H,PNx (ju X own caps scope C fp s H) (LC2 elt tg iter tg2 iter2 ifs ifs2 scope pos) iter2 tb)(M: ∀C fp s H x,bM iter2 (ju X own caps scope C fp s H).env x=pure x)(hs: ∀x,bM iter X.env x=pure x:=by intro _;rfl):PS X (.Assign [.Name y r] (LC2 elt tg iter tg2 iter2 ifs ifs2 scope pos) k) (λD σ H=>a4b js own.length wi g tt tb σ H λv H'=>D.nx (σ.set i (some v)) H'):=by
 refine⟨?_⟩;intro c s σ H D I h;have O: ∀n,(n,bB)∈scope.names->X.env.kindOf n=some .cell\/X.env.kindOf n=some .free:=λn hn=>by
  have:=(aB.mp hk) _ hn;simpa using this
 have U: ∀x∈scope.names,x.2=.local->scope.names.lookup x.1=some .local:=λx hx e=>by
  have:=(aB.mp j) _ hx;simpa[e] using this
 rw[lH _ _ _ _ Y];refine ac (dB (ac ?_));show wpAny _ _ (do let _←comprehension (LC2 elt tg iter tg2 iter2 ifs ifs2 scope pos) scope X.env _ (newList []) false (eval iter X.env) (some (assign (.Name y r) X.env))) _ _ s
 refine ac (bf (gh (use:=some (assign (.Name y r) X.env)) (Q:=λ_ s'=>SP X c D .next s') rfl hs (abw λn hn=>I.ok.has n (O n hn)) d U
  (thn (hi c s σ H _ I h) λv s1 h1=>thn h1 λitv s2 h2=>?_)) (λ_ s' P=>ah (ah P)) λ_ _ e=>e)
 obtain⟨it,fp,tn,J,H2,e,I2,T,st2,f2,hw⟩:=h2;subst e;refine a1w (iter:=iter) (pos:=pos) (post:=λacc C=>compPost (model X.prog X.w) X.A X.xe (some (assign (.Name y r) X.env)) (λ_ s'=>SP X c D .next s') acc C) q d l hk t hg ht W M I2 T st2 f2 hw ?_;intro F C s' m H' hn hCs f I' P;show wpAny _ _ (assign (.Name y r) X.env (.ref F)) _ _ _;refine jM (afk (v:=.ref F) (u:=.ref F) I' hN Z (.inl E) rfl (λs6 I6 V=>?_) (.inr E));obtain⟨a,S,ha⟩:=V;have K:a≠C:=by
  rcases ha with z|z
  ·rw[z];exact bu f.2.1
  ·exact f.2.2.2.2.1 y a z
 exact⟨m,hn.sameBut S (bu K),λh' L=>⟨σ.set i (some (.ref F)),H',I6.turned (t':=s6.toks) (λb o W e=>(L.2 b W).trans e) f.1 f.2.1 f.2.2.2.1 f.2.2.2.2.1 f.2.2.2.2.2,P⟩⟩
end
end L2
namespace PF
open PySem PySem.Spec
open L2
variable[XW]
noncomputable def apx(K:ak)(f:FI):TI:=λσ H R=>∃as ρ s,Rel K as H s/\Envs K as H ρ σ/\Dn K (aec K) as H (f ρ s) R
theorem RI.pi{X:Cx}{e iter:Expr}{f:FI}(h:RI X e iter f):PI X e iter (apx X.K f):=by
 obtain⟨t,p,r⟩:=h.ex;exact λd s σ H R I ⟨as,ρ,s',a,b,c⟩=>p d s σ H R I (r as σ H ρ s' R a b c)
noncomputable def v3:Tg->En->Bool
 |.nm i,ρ=>match ρ[i]? with
  |some none=>true
  |_=>false
 |.t2 a b,ρ=>v3 a ρ&&v3 b ρ
 |.t3 a b c,ρ=>v3 a ρ&&v3 b ρ&&v3 c ρ
 |.tn is,ρ=>is.all λi=>match ρ[i]? with
  |some none=>true
  |_=>false
def Wk1(ρ a:En):Prop:=a.length=ρ.length/\ ∀(i:Nat) (d:D),ρ[i]?=some (some d)->a[i]?=some (some d)
theorem Wk1.refl(ρ:En):Wk1 ρ ρ:=⟨rfl,λ_ _ e=>e⟩
theorem aor: ∀(is:List Nat) (ds:List D) {ρ0 ρ a:En},Wk1 ρ0 ρ->v3 (.tn is) ρ0=true->ard is ds ρ=some a->Wk1 ρ0 a
 |[],[],_,_,_,w,_,e=>by cases e;exact w
 | i::r,d::ds,ρ0,ρ,a,w,hn,e=>by
  have b:(match ρ0[i]? with|some none=>true|_=>false)=true/\v3 (.tn r) ρ0=true:=by simpa[v3] using hn
  refine aor r ds ⟨by simp[w.1],λj x c=>?_⟩ b.2 e;by_cases z:i=j
  ·subst z;have:=b.1;rw[c]at this;cases this
  ·rw[aF z];exact w.2 j x c
 |[],_::_,_,_,_,_,_,e=>by cases e
 |_::_,[],_,_,_,_,_,e=>by cases e
theorem ae3: ∀(g:Tg) {d:D} {ρ0 ρ h:En},Wk1 ρ0 ρ->v3 g ρ0=true->qg g d ρ=some h->Wk1 ρ0 h
 | .nm i,d,ρ0,ρ,h,w,hn,e=>by
  cases e;refine⟨by simp[w.1],λj x k=>?_⟩;by_cases z:i=j
  ·subst z;simp only[v3,k]at hn;cases hn
  ·rw[aF z];exact w.2 j x k
 | .t2 a b,d,ρ0,ρ,h,w,hn,e=>by
  simp only[v3,aJ]at hn;unfold qg at e;split at e
  ·split at e
   ·rename_i q1;exact ae3 b (ae3 a w hn.1 q1) hn.2 e
   ·cases e
  ·cases e
 | .t3 a b c,d,ρ0,ρ,h,w,hn,e=>by
  simp only[v3,aJ]at hn;unfold qg at e;split at e
  ·split at e
   ·rename_i q1;split at e
    ·rename_i l;exact ae3 c (ae3 b (ae3 a w hn.1.1 q1) hn.1.2 l) hn.2 e
    ·cases e
   ·cases e
  ·cases e
 | .tn is,d,ρ0,ρ,h,w,hn,e=>by
  unfold qg at e;split at e
  ·rename_i m _;exact aor is m w hn e
  ·cases e
theorem Envs.mono0{c:As}(e:Envs K as H ρ σ)(st:Step0 as H c H'):Envs K c H' ρ σ:=⟨e.len,λi d h=>let ⟨v,a,b⟩:=e.get i d h;⟨v,a,b.mono0 st⟩⟩
theorem Envs.weak{a:En}(e:Envs K as H a σ)(w:Wk1 ρ a):Envs K as H ρ σ:=⟨w.1.symm.trans e.len,λi d h=>e.get i d (w.2 i d h)⟩
def ql(g e:Tg)(j:FT)(c:FI)(a:FT)(fe:FE)(ρ0:En)(p:Wk):List D->S->R (List D)
 |[],s=>.ok [] s
 | d::r,s=>match qg g d ρ0 with
  |none=>.bad
  |some ρ1=>(j ρ1 s).calm.bind λb h=>if b=true then (c ρ1 h).calm.bind λp2 l=>if v3 e ρ1=true then chk p2 l ((ke e a fe ρ1 p2 p2.1 l).bind λxs k=>chk p k ((ql g e j c a fe ρ0 p r k).bind λys m=>.ok (xs++ys) m)) else .bad
   else chk p h (ql g e j c a fe ρ0 p r h)
theorem ad8{g k:Tg}{l:FT}{c:FI}{a:FT}{fe:FE}{ρ0:En}{p:Wk}: ∀(ds:List D) (s:S) (n:Nat) (ρ:En) (s':S),ql g k l c a fe ρ0 p ds s≠ .ex n ρ s'
 |[],s,n,ρ,s'=>by intro h;cases h
 | d::r,s,n,ρ,s'=>by
  rw[ql];split
  ·intro h;cases h
  ·refine ab6 (R.calm_ex _) (λb j=>?_) n ρ s';intro n ρ s';split
   ·refine ab6 (R.calm_ex _) (λm o=>?_) n ρ s';intro n ρ s';split
    ·exact afw (ab6 (λn ρ s'=>ab2 _ _ n ρ s') λxs e=>afw (ab6 (λn ρ s'=>ad8 r e n ρ s') λq t n ρ s' h=>by cases h)) n ρ s'
    ·intro h;cases h
   ·exact afw (λn ρ s'=>ad8 r j n ρ s') n ρ s'
def yo(m:Bool)(ds:List D)(s:S):R D:=if ds.length <=sizeLine then qj m ds s else .bad
def alx(m:Bool)(js:List Nat)(k:Nat)(e:FI)(g:Tg)(h:FT)(b:FI)(d:Tg)(a:FT)(fe:FE):FE:=λρ s=>(e ρ s).bind λp c=>chk p c ((ql g d h b a fe (bp k none++acm ρ js) p p.1 c).bind (yo m))
theorem a37{k:Nat}{b a:St}(f:Fra k σ b)(h: ∃vs:St,vs.length=k/\σ=vs++a): ∃vs:St,vs.length=k/\b=vs++a:=by
 obtain⟨vs,c,e⟩:=h;exact f vs a c e
theorem a9c {J :It} {p:Wk} {w:Tg} {l:FT} {t:FI} {k:Nat} {cap:St} {m:Bool} {Q:VK} (hg:y2 k g=true) (hg2:y2 k w=true) (rl:Rel K as H s) (ri:aec K as H J p) (so:kh p s) (en: ∀vs:St,vs.length=k->Envs K as H ρ0 (vs++cap)) (h:Dn K (rD K) as H ((ql g w ft t l fe ρ0 p p.1 s).bind (yo m)) Q):ar4 (gOf K g) (@acd XW.dft K ft) (tNx (@apx XW.dft K t) (gOf K w) (@acd XW.dft K l) (@tOf XW.dft K fe)) k cap J H Q:=by
 intro n hD;have n0:New H n (.lst []) (upd H n (.lst [])):=⟨hD,rfl⟩;have nh:n∉as.hd:=λz=>by obtain⟨_,e,_⟩:=rl.hs n z;rw[hD]at e;cases e
 have s0:=afl (as:=as) n0
 refine⟨λi mm H'=>∃L s2 ds y,mm=p.1.length - i/\i <=p.1.length/\Step as H L H'/\n∈L.hd/\Rel K L H' s2/\kh p s2/\H' n=some (.lst y)/\RDs K L H' y ds/\
   Dn K (rD K) as H ((ql g w ft t l fe ρ0 p (p.1.drop i) s2).bind λxs M=>yo m (ds++xs) M) Q,
  ⟨_,as.hide n,s,[],[],rfl,bn _,s0,au,rl.hide n0,so,n0.at,.nil,h⟩,?_⟩
 rintro i mm H' ⟨L,s2,ds,y,hm,hi,st2,mD2,rl2,so2,hDi,rs,a⟩;have tn:=ri L H' s2 st2.toStep0 rl2 so2 i;by_cases hl:i < p.1.length
 ·obtain ⟨d, hd⟩: ∃d,p.1[i]?=some d:=⟨_,av hl⟩;have hdr:p.1.drop i=d::p.1.drop (i+1):=by
   rw[cz hl];rw[av hl]at hd;cases hd;rfl
  rw[hdr]at a;obtain⟨go,yl⟩:=tn.2 d hd;unfold ql at a;split at a
  ·exact a.elim
  ·rename_i v q3;refine .inr ⟨go,λx H3 hy vs hv=>?_⟩;obtain⟨W,rl3,rx⟩:=yl x H3 hy;refine z9 g ((en vs hv).mono (st2.trans W)) rx q3 λσ3 en3 fr=>?_
   have cap3:=fr k hg vs cap hv rfl;refine⟨cap3,L,v,s2,rl3,en3,?_⟩;have eD3:H3 n=some (.lst y):=W.hh n mD2 _ hDi;cases qt:ft v s2 with
   |bad=>rw[qt]at a;exact a.elim
   |ex _ _ _=>rw[qt]at a;exact a.elim
   | ok b s4 =>
    rw[qt,R.calm_ok]at a;intro b' as4 H4 st4 rl4 eb;have eb':b'=b:=eb;subst eb';have mD4:n∈as4.hd:=st4.hk n mD2;have eD4:H4 n=some (.lst y):=st4.hh n mD2 _ eD3;have st24:=(st2.trans W).trans st4;rw[R.bind_ok]at a;cases b' with
    | false=>
     rw[if_neg az]at a⊢;by_cases c:kh p s4
     ·rw[qu c]at a;exact⟨_,by lia,as4,s4,ds,y,rfl,hl,st24,mD4,rl4,c,eD4,(rs.mono W).mono st4,a⟩
     ·have e:chk p s4 (ql g w ft t l fe ρ0 p (p.1.drop (i+1)) s4)=.bad:=if_neg c;rw[e]at a;exact a.elim
    | true =>
     rw[if_pos rfl]at a⊢;refine⟨as4,v,s4,rl4,en3.mono st4,?_⟩;cases qi:t v s4 with
     |bad=>rw[qi]at a;exact a.elim
     |ex _ _ _=>rw[qi]at a;exact a.elim
     | ok u s5 =>
      rw[qi,R.calm_ok]at a;rw[R.bind_ok]at a;by_cases hnn:v3 w v=true
      ·rw[if_pos hnn]at a;intro J2 as5 H5 U rl5 ri5;have mD5:n∈as5.hd:=U.hk n mD4;have eD5:H5 n=some (.lst y):=U.hh n mD4 _ eD4;have st25:=st24.trans U;have so5:kh u s5:=by
        by_cases c:kh u s5
        ·exact c
        ·rw[show∀{α:Type} (k:R α),chk u s5 k=.bad from λk=>if_neg c]at a;exact a.elim
       rw[qu so5]at a
       -- the je behind the inner a63
       have je: ∀(xs:List D) (C:S),Dn K (rD K) as H ((chk p C ((ql g w ft t l fe ρ0 p (p.1.drop (i+1)) C).bind λy s5=>R.ok (xs++y) s5)).bind λr M=>yo m (ds++r) M) Q->kh p C/\Dn K (rD K) as H ((ql g w ft t l fe ρ0 p (p.1.drop (i+1)) C).bind λr M=>yo m ((ds++xs)++r) M) Q:=λxs C hx=>by
        by_cases c:kh p C
        ·rw[qu c]at hx;refine⟨c,?_⟩;cases Y:ql g w ft t l fe ρ0 p (p.1.drop (i+1)) C with
         |bad=>rw[Y]at hx;exact hx.elim
         |ex _ _ _=>exact absurd Y (ad8 _ _ _ _ _)
         |ok r N=>
          rw[Y]at hx;have hx:Dn K (rD K) as H (yo m (ds++(xs++r)) N) Q:=hx;rw[←bN]at hx;exact hx
        ·rw[show∀{α:Type} (k:R α),chk p C k=.bad from λk=>if_neg c]at hx;exact hx.elim
       refine⟨λj mj σ6 H6=>∃A C es r,mj=u.1.length - j/\j <=u.1.length/\Step as H A H6/\Step0 as5 H5 A H6/\n∈A.hd/\Rel K A H6 C/\kh u C/\H6 n=some (.lst r)/\RDs K A H6 r (ds++es)/\Envs K A H6 v σ6/\(∃vs':St,vs'.length=k/\σ6=vs'++cap)/\
         Dn K (rD K) as H (((ke w l fe v u (u.1.drop j) C).bind λxs N=>chk p N ((ql g w ft t l fe ρ0 p (p.1.drop (i+1)) N).bind λy E=>R.ok ((es++xs)++y) E)).bind λr M=>yo m (ds++r) M) Q,
        ⟨_,as5,s5,[],y,rfl,bn _,st25,(Step.refl _ _).toStep0,mD5,rl5,so5,eD5,by rw[aK];exact((rs.mono W).mono st4).mono U,(en3.mono st4).mono U,cap3,a⟩,?_⟩
       rintro j mj σ6 H6 ⟨A,C,es,r,hmj,hj,st6,st56,mD6,rl6,so6,hD6,rs6,en6,cap6,o⟩;have tn2:=ri5 A H6 C st56 rl6 so6 j;by_cases O:j < u.1.length
       ·obtain ⟨d2,hd2⟩: ∃d,u.1[j]?=some d:=⟨_,av O⟩;have hdr2:u.1.drop j=d2::u.1.drop (j+1):=by
         rw[cz O];rw[av O]at hd2;cases hd2;rfl
        rw[hdr2]at o;obtain⟨go2,yl2⟩:=tn2.2 d2 hd2;unfold ke at o;split at o
        ·exact o.elim
        ·rename_i ρ7 q7;refine .inr ⟨go2,λx2 H7 hy2=>?_⟩;obtain⟨V,rl7,rx2⟩:=yl2 x2 H7 hy2;refine z9 w (en6.mono V) rx2 q7 λσ7 en7 fr7=>?_
         have cap7:=a37 (fr7 k hg2) cap6;have wk7:Wk1 v ρ7:=ae3 w (Wk1.refl _) hnn q7;refine⟨A,ρ7,C,rl7,en7,?_⟩;have eD7:H7 n=some (.lst r):=V.hh n mD6 _ hD6;cases qt2:l ρ7 C with
         |bad=>rw[qt2]at o;exact o.elim
         |ex _ _ _=>rw[qt2]at o;exact o.elim
         | ok b2 E=>
          rw[qt2,R.calm_ok]at o;intro b2' as8 H8 I rl8 eb2;have eb2':b2'=b2:=eb2;subst eb2';have mD8:n∈as8.hd:=I.hk n mD6;have eD8:H8 n=some (.lst r):=I.hh n mD6 _ eD7;have Z:=V.trans I;rw[R.bind_ok]at o;cases b2' with
          | false=>
           rw[if_neg az]at o⊢;have c:kh u E:=by
            by_cases c:kh u E
            ·exact c
            ·rw[show∀{α:Type} (k:R α),chk u E k=.bad from λk=>if_neg c]at o;exact o.elim
           rw[qu c]at o;exact⟨_,by lia,as8,E,es,r,rfl,O,st6.trans Z,st56.trans Z.toStep0,mD8,rl8,c,eD8,(rs6.mono V).mono I,(en7.mono I).weak wk7,cap7,o⟩
          | true=>
           rw[if_pos rfl]at o⊢;refine⟨as8,ρ7,E,rl8,en7.mono I,?_⟩;cases qe:fe ρ7 E with
           |bad=>rw[qe]at o;exact o.elim
           |ex _ _ _=>rw[qe]at o;exact o.elim
           | ok x9 s9=>
            rw[qe,R.calm_ok]at o;intro v9 as9 H9 P rl9 r9;rw[R.bind_ok]at o;have mD9:n∈as9.hd:=P.hk n mD8;have eD9:H9 n=some (.lst r):=P.hh n mD8 _ eD8;have st69:=Z.trans P;have c:kh u s9:=by
             by_cases c:kh u s9
             ·exact c
             ·rw[show∀{α:Type} (k:R α),chk u s9 k=.bad from λk=>if_neg c]at o;exact o.elim
            rw[qu c]at o;have cg:Chg H9 n (.lst (r++ [v9])) (upd H9 n (.lst (r++ [v9]))):=⟨rfl⟩;have s05:=aam (.inr mD9) cg
            -- the inner je
            have h9:Dn K (rD K) as H (((ke w l fe v u (u.1.drop (j+1)) s9).bind λxs N=>chk p N ((ql g w ft t l fe ρ0 p (p.1.drop (i+1)) N).bind λy E=>R.ok (((es++ [x9])++xs)++y) E)).bind λr M=>yo m (ds++r) M) Q:=by
             cases Y:ke w l fe v u (u.1.drop (j+1)) s9 with
             |bad=>rw[Y]at o;exact o.elim
             |ex _ _ _=>exact absurd Y (ab2 _ _ _ _ _)
             |ok xs N=>
              rw[Y]at o;have e1:(es++ [x9])++xs=es++(x9::xs):=by simp
              show Dn K (rD K) as H ((chk p N ((ql g w ft t l fe ρ0 p (p.1.drop (i+1)) N).bind λy E=>R.ok (((es++ [x9])++xs)++y) E)).bind λr M=>yo m (ds++r) M) Q;rw[e1];exact o
            have hlen:r.length < sizeLine:=by
             cases Y:ke w l fe v u (u.1.drop (j+1)) s9 with
             |bad=>rw[Y]at h9;exact h9.elim
             |ex _ _ _=>exact absurd Y (ab2 _ _ _ _ _)
             | ok xs N=>
              rw[Y]at h9;obtain⟨_,F⟩:=je _ N (show Dn K (rD K) as H ((chk p N ((ql g w ft t l fe ρ0 p (p.1.drop (i+1)) N).bind λy E=>R.ok (((es++ [x9])++xs)++y) E)).bind λr M=>yo m (ds++r) M) Q from h9);cases qd:ql g w ft t l fe ρ0 p (p.1.drop (i+1)) N with
              |bad=>rw[qd]at F;exact F.elim
              |ex _ _ _=>exact absurd qd (ad8 _ _ _ _ _)
              | ok ws E=>
               rw[qd]at F;have F:Dn K (rD K) as H (yo m ((ds++((es++ [x9])++xs))++ws) E) Q:=F;unfold yo at F;split at F
               ·rename_i hz;have:=rs6.length;simp at hz this;lia
               ·exact F.elim
            refine⟨r,eD9,hlen,_,by lia,as9,s9,es++ [x9],r++ [v9],rfl,O,?_,?_,mD9,rl9.chgH mD9 cg,c,cg.at,?_,?_,cap7,h9⟩
            ·exact ale (st6.trans st69) hD nh mD9 cg
            ·exact(st56.trans st69.toStep0).trans s05
            ·rw[←bN];exact((((rs6.mono V).mono I).mono P).append (.cons r9 .nil)).mono0 s05
            ·exact((((en7.mono I).mono P).mono0 s05).weak wk7)
       ·refine .inl ⟨tn2.1 (bF O),cap6,?_⟩;rw[dL (bF O)]at o;have o:Dn K (rD K) as H ((chk p C ((ql g w ft t l fe ρ0 p (p.1.drop (i+1)) C).bind λy E=>R.ok ((es++ [])++y) E)).bind λr M=>yo m (ds++r) M) Q:=o;rw[aK]at o;obtain⟨c,h7⟩:=je es C o;exact⟨_,by lia,A,C,ds++es,r,rfl,hl,st6,mD6,rl6,c,hD6,rs6,h7⟩
      ·rw[if_neg hnn]at a;exact a.elim
 ·refine .inl ⟨tn.1 (bF hl),?_⟩;rw[dL (bF hl)]at a
  replace a:Dn K (rD K) as H (yo m (ds++ []) s2) Q:=a
  rw[aK]at a;unfold yo at a;split at a
  ·unfold qj at a;cases m with
   |true=>
    rw[if_pos rfl]at a;refine a (.ref n) _ H' (ajt st2 nh mD2) (rl2.take mD2 ⟨y,hDi,rs.mono0 (ad3 mD2)⟩) (.ref (by simp[rl2.len]) λq e=>?_);rw[←rl2.len]at e;simp at e;exact e.symm
   | false=>
    rw[if_neg az]at a;cases q:j2 ds with
    |none=>rw[q]at a;exact a.elim
    |some r=>
     rw[q]at a;have e:=yi q;subst e;have a:Dn K (rD K) as H (R.ok (.lst r) s2) Q:=a;refine a (.ref n) _ H' (amy st2 nh abi) rl2.show (.da (.lst (λz=>?_) hDi (rs.td.mono0 abi)));rcases z with z|z
     ·exact rl2.hx n mD2 z
     ·exact absurd rfl (of_decide_eq_true (bd.mp z).2)
  ·exact a.elim
section
variable{X:Cx}{own caps:List Str}{js:List Nat}{scope:dP}{tg iter tg2 iter2 elt:Expr}{ifs ifs2:List Expr}{fi fi2:FI}{g g2:Tg}{ft ft2:FT}{fe:FE}{pos:Pos}
theorem a0f{k:Nat}{m:Bool}(j:awa K wi fi)(l:y2 k g=true)(c:y2 k g2=true):aax K (a4b js k wi (gOf K g) (@acd XW.dft K ft) (tNx (@apx XW.dft K fi2) (gOf K g2) (@acd XW.dft K ft2) (@tOf XW.dft K fe))) (alx m js k fi g ft fi2 g2 ft2 fe):=by
 intro as σ H ρ s Q n d h;refine j as σ H ρ s _ n d (Dn.bind h λp u e t J st1 b o a=>?_);obtain⟨r,a⟩:=Dn.chk a;exact a9c l c b o r (λvs q=>((d.mono st1).caps js).own q) a
theorem asn(m:Bool){E:Pos}{e:Pos}(w:eS (LC2 elt tg iter tg2 iter2 ifs ifs2 scope pos) (some (.Name y E)) e.line X.env=pure true)(O:X.N.Nodup)(F:X.N[i]?=some y)(n:X.env.scope.names.lookup y=some .local)(a:X.calm=true)(j:scope.kind=.function)(c:(scope.names.all λp=>!(p.2==.local)||(scope.names.lookup p.1==some .local))=true)(k:(scope.names.any λp=>p.2==.cell)=false)(hk:(scope.names.all λp=>!(p.2==.free)||(X.env.kindOf p.1==some .cell||X.env.kindOf p.1==some .free))=true)(l:xx X scope caps js)(V:y2 own.length g=true)(z:y2 own.length g2=true)(J:RI X tg iter fi)(S: ∀C fp s H,RG (ju X own caps scope C fp s H) tg g)(P: ∀(I:XW) C fp s H,XOk (ju X own caps scope C fp s H) I.xk->@RIfs I (ju X own caps scope C fp s H) ifs ft)(r: ∀(I:XW) C fp s H,XOk (ju X own caps scope C fp s H) I.xk->@RI I (ju X own caps scope C fp s H) tg2 iter2 fi2)(t: ∀C fp s H,RG (ju X own caps scope C fp s H) tg2 g2)(o: ∀(I:XW) C fp s H,XOk (ju X own caps scope C fp s H) I.xk->@RIfs I (ju X own caps scope C fp s H) ifs2 ft2)(Q: ∀(I:XW) C fp s H,XOk (ju X own caps scope C fp s H) I.xk->@RE I (ju X own caps scope C fp s H) elt fe)(hs: ∀x,bM iter X.env x=pure x:=by intro _;rfl)(u: ∀C fp s H x,bM iter2 (ju X own caps scope C fp s H).env x=pure x:=by intro _ _ _ _ _;rfl):RS X (.Assign [.Name y E] (LC2 elt tg iter tg2 iter2 ifs ifs2 scope pos) e) (jk i (alx m js own.length fi g ft fi2 g2 ft2 fe)):=by
 obtain⟨wi,pi,W⟩:=J.ex;refine⟨_,avn (own:=own) (tb:=tNx (@apx XW.dft X.K fi2) (gOf X.K g2) (@acd XW.dft X.K ft2) (@tOf XW.dft X.K fe)) (g:=gOf X.K g) (tt:= @acd XW.dft X.K ft) w O F n a j c k hk l pi (λC fp s H=>(S C fp s H).pg) (λC fp s H=>@RIfs.run XW.dft _ _ _ (P XW.dft C fp s H (XOk.never dq))) (λC fp s H=>pnx a rfl (@RI.pi XW.dft _ _ _ _ (r XW.dft C fp s H (XOk.never dq))) (t C fp s H).pg (@RIfs.run XW.dft _ _ _ (o XW.dft C fp s H (XOk.never dq))) (@RE.pe XW.dft _ _ _ (Q XW.dft C fp s H (XOk.never dq)))) u hs,λas σ H ρ s D L A h=>?_⟩;exact a0f (m:=m) W V z as σ H ρ s _ L A (Dn.bind h λd s1 U Z v st1 q M Y=>Dn.now (b:=FV.nx (σ.set i (some v))) Y q (.nx ((A.mono st1).set i M)))
end
end PF
namespace L2
open PySem PySem.Spec PyProof.Rows
def qy(b:Bool)(h:Heap)(l:Addr)(xs:Array ae):Prop:=if b=true then h.IsList l xs else h.IsTuple l xs
def zh(b:Bool)(h:Heap)(i l:Addr)(k:Nat):Prop:=if b=true then h.IsListIter i l k else h.IsTupleIter i l k
theorem qy.to{b:Bool}{h':Heap}{l:Addr}{xs:Array ae}(x:qy b h l xs)(k: ∀o,h.get? l=some o->h'.get? l=some o):qy b h' l xs:=by
 cases b with
 |true=>obtain⟨o,e,r⟩:=x;exact⟨o,k o e,r⟩
 |false=>obtain⟨o,e,r⟩:=x;exact⟨o,k o e,r⟩
theorem zh.to{b:Bool}{h':Heap}{i l:Addr}(x:zh b h i l n)(k: ∀o,h.get? i=some o->h'.get? i=some o):zh b h' i l n:=by
 cases b with
 |true=>obtain⟨o,e,r⟩:=x;exact⟨o,k o e,r⟩
 |false=>obtain⟨o,e,r⟩:=x;exact⟨o,k o e,r⟩
theorem zh.obj{b:Bool}{i l:Addr}(x:zh b h i l n): ∃o,h.get? i=some o/\ ∃vs,o.data=.fields vs:=by
 cases b with
 |true=>obtain⟨o,e,_,r⟩:=x;exact⟨o,e,_,r⟩
 |false=>obtain⟨o,e,_,r⟩:=x;exact⟨o,e,_,r⟩
theorem qy.lt{b:Bool}{l:Addr}{xs:Array ae}(x:qy b h l xs):l < h.objs.size:=by
 cases b with
 |true=>obtain⟨o,e,r⟩:=x;exact ay e
 |false=>obtain⟨o,e,r⟩:=x;exact ay e
section
variable{P:aP}{w:aM}{A:bh}{E:ae->af->Prop}{s:af}
open PySem.F in
theorem ada{b:Bool}{i l:Addr}{k:Nat}{xs:Array ae}{x:ae}(a:zh b s.heap i l k)(c:qy b s.heap l xs)(hx:xs[k]?=some x)(h: ∀h',zh b h' i l (k+1)->bX i s.heap h'->Q x {s with heap:=h'}):wpAny (model P w) A (cA (.ref i)) Q E s:=by
 cases b with
 |true=>exact wpAny_nextOf_list_item a c hx h
 |false=>
  have a:s.heap.IsTupleIter i l k:=a;have c:s.heap.IsTuple l xs:=c;obtain⟨o,ho,j,hd⟩:=id a
  (obtain⟨n,d,_,m,e⟩:=c)
  refine ac (bI (name:=bj "__next__") a.typeIs slot_tuple_iterator_next (bL slot_tuple_iterator_next a.typeIs entry_tuple_iterator_next ?_ (args_tuple_iterator_next_1 _)));wp_walk using bC ho hd (x:=.ref l) rfl,bC ho hd (x:=.int k 0) rfl,cX d e
  (simp only[bt,hx])
  refine ac (gy ho hd (by simp) (ah ⟨_,rfl,ah (h _ ?_ (.update ..))⟩));exact⟨_,cB _ ho (fE (cZ hd _)),by rw[Obj.cls_mapFields];exact j,by rw[cZ hd];simp[rawInt]⟩
open PySem.F in
theorem ai1{b:Bool}{i l:Addr}{k:Nat}{xs:Array ae}(hh:A.handled=none)(a:zh b s.heap i l k)(c:qy b s.heap l xs)(hx:xs[k]?=none)(hE: ∀h' e,gR i s.heap h'->(∃o,h'.get? e=some o/\o.cls=.type "StopIteration")->E (.ref e) {s with heap:=h'}):wpAny (model P w) A (cA (.ref i)) Q E s:=by
 cases b with
 |true=>exact wpAny_nextOf_list_end hh a c hx hE
 |false=>
  have a:s.heap.IsTupleIter i l k:=a;have c:s.heap.IsTuple l xs:=c;obtain⟨o,ho,p,hd⟩:=id a
  (obtain⟨n,d,_,m,h⟩:=c)
  refine ac (bI (name:=bj "__next__") a.typeIs slot_tuple_iterator_next (bL slot_tuple_iterator_next a.typeIs entry_tuple_iterator_next ?_ (args_tuple_iterator_next_1 _)))
  (have j:A.in1.handled=none:=hh)
  wp_walk using bC ho hd (x:=.ref l) rfl,bC ho hd (x:=.int k 0) rfl,cX d h
  (simp only[bt,hx])
  (refine ac (b9 (ac (gy ho hd (by simp) ?_))))
  wp_walk
  simp only[raiseNew]
  (refine ac (wpAny_handled ?_))
  rw[j];refine ac (ah (wpAny_throw (hE _ _ (((cw ..).extBut.push _).push _) ?_)));exact⟨_,aD _ rfl,rfl⟩
end
section
variable{P:aP}{w:aM}{A:bh}{E:ae->af->Prop}{s:af}
structure ZAt (b1 b2:Bool) (l1 l2 z TI TO i1 i2:Addr) (f0:ae) (k1 k2:Nat) (h:Heap):Prop where
 ap:ZipApart z TI TO i1 i2 l1 l2
 oz:iP h z TI TO f0
 oi:gp h TI (.ref i1) (.ref i2)
 oo: ∃a b,gp h TO a b
 c1:zh b1 h i1 l1 k1
 c2:zh b2 h i2 l2 k2
theorem a6f{u b2:Bool}{z TI TO j k r J:Addr}{I D:Nat}{xs ys:Array ae}{x y:ae}(Z:ZAt u b2 r J z TI TO j k .none I D s.heap)(O:qy u s.heap r xs)(hl2:qy b2 s.heap J ys)(hx:xs[I]?=some x)(hy:ys[D]?=some y)(hQ: ∀h',ZAt u b2 r J z TI TO j k (rawInt s.heap.objs.size) (I+1) (D+1) h'->gp h' s.heap.objs.size x y ->
   (∀c o,c≠z->c≠TO->c≠j->c≠k->s.heap.get? c=some o->h'.get? c=some o)->Q (.ref s.heap.objs.size) {s with heap:=h'}):
  wpAny (model P w) A (dS.«zip.__next__» ⟨[.ref z],[]⟩) (λfin s'=>∃v,fin=.done (.ret v)/\Q v s') E s:=by
 obtain⟨ap,oz,oi,⟨a,b,oo⟩,c1,c2⟩:=Z
 (show wpAny _ _ (field (.ref z) 2 >>=_) _ _ _);refine ac (bC oz rfl (x:=.bool false) rfl ?_)
 (show wpAny _ _ (field (.ref z) 3 >>=_) _ _ _);refine ac (bC oz rfl (x:=.ref TI) rfl (ac (cX oi rfl ?_)))
 (show wpAny _ _ (gC (.ref z)>>=_) _ _ _);refine ac (ac (bC oz rfl (x:=.none) rfl (ah ?_)))
 simp only[if_true];refine ac (b9 (ac (bC oz rfl (x:=.ref TO) rfl (ac (dO oz (by simp) λg1 Y p=>ac ?_)))));have Y:iP g1 z TI TO .ellipsis:=Y
 (simp only[List.zipIdx_cons,List.zipIdx_nil,fZ,iJ])
 (refine ac (ac (jJ ?_)))
 (show wpAny _ _ (cA (.ref j)>>=_) _ _ _);refine ac (ada (c1.to λo=>p.extBut _ _ ap.i1z) (O.to λo=>p.extBut _ _ ap.l1z) hx λg2 S t=>ah ?_)
 have o2:gp g2 TO a b:=t.extBut _ _ ap.TOi1 (p.extBut _ _ ap.TOz oo);refine ac (cX o2 rfl (ac (iq o2 λg3 L K=>ac (iO (ah (ac (ac (jJ ?_))))))));have L:gp g3 TO x b:=L;have N: ∀c o,c≠z->c≠j->c≠TO->s.heap.get? c=some o->g3.get? c=some o:=λc o h l n e=>K.extBut _ _ n (t.extBut _ _ l (p.extBut _ _ h e))
 (show wpAny _ _ (cA (.ref k)>>=_) _ _ _);refine ac (ada (c2.to λo=>N _ o ap.i2z ap.i12.symm ap.TOi2.symm) (hl2.to λo=>N _ o ap.l2z ap.l2i1 ap.l2TO) hy λg4 W q=>ah ?_)
 have o4:gp g4 TO x b:=q.extBut _ _ ap.TOi2 L;refine ac (cX o4 rfl (ac (iq o4 λd C m=>ac (iO (ah (ah ?_))))));have C:gp d TO x y:=C;refine ac (cX C rfl (ac (lL ?_)));have sz:d.objs.size=s.heap.objs.size:=by rw[m.1,q.1,K.1,t.1,p.1]
 have z5:iP d z TI TO .ellipsis:=m.extBut _ _ ap.TOz.symm (q.extBut _ _ ap.i2z.symm (K.extBut _ _ ap.TOz.symm (t.extBut _ _ ap.i1z.symm Y)));have k5: ∀c o,c≠z->c≠TO->c≠j->c≠k->s.heap.get? c=some o->d.get? c=some o:=λc o h l n a4 e=>m.extBut _ _ l (q.extBut _ _ a4 (N c o h n l e))
 have V:zh u d j r (I+1):=S.to λo e=>m.extBut _ _ ap.TOi1.symm (q.extBut _ _ ap.i12 (K.extBut _ _ ap.TOi1.symm e))
 have U:zh b2 d k J (D+1):=W.to λo e=>m.extBut _ _ ap.TOi2.symm e
 (show wpAny _ _ (Builtin.SmallTypes.ownedTupleHandOut (.ref z) (.ref d.objs.size)>>=_) _ _ _);refine ac ?_
 have z6:iP (d.push {cls:=.type "tuple",data:=.seq #[x,y]}) z TI TO .ellipsis:=ag _ z5;refine ac (dO z6 (by simp) λg7 M e7=>?_);have M:iP g7 z TI TO (rawInt d.objs.size):=M;refine dO M (by simp) λF H e8=>?_
 have H:iP F z TI TO (rawInt d.objs.size):=H;have up: ∀c o,c≠z->d.get? c=some o->F.get? c=some o:=λc o h e=>e8.extBut _ _ h (e7.extBut _ _ h (ag _ e))
 have nz:d.objs.size≠z:=fy (ay z5);have t8:gp F d.objs.size x y:=e8.extBut _ _ nz (e7.extBut _ _ nz (aD _ rfl));rw[sz]at H t8
 (refine ah ⟨_,rfl,?_⟩)
 show Q (.ref d.objs.size) _;rw[sz];exact hQ F ⟨ap,H,up _ _ ap.TIz (k5 _ _ ap.TIz ap.TITO ap.TIi1 ap.TIi2 oi),⟨_,_,up _ _ ap.TOz C⟩,V.to λo=>up _ o ap.i1z,U.to λo=>up _ o ap.i2z⟩ t8 λc o h l n a4 e=>up c o h (k5 c o h l n a4 e)
theorem a1r{S b2:Bool}{z TI TO u D N l2:Addr}{I L:Nat}{xs F:Array ae}{Q:Fin->af->Prop}(hh:A.handled=none)(Z:ZAt S b2 N l2 z TI TO u D .none I L s.heap)
  (m:qy S s.heap N xs) (M:qy b2 s.heap l2 F) (r:xs[I]?=none\/F[L]?=none)
  (hE: ∀h' e,(∀c o,c≠z->c≠TO->c≠u->c≠D->s.heap.get? c=some o->h'.get? c=some o)->(∃o,h'.get? e=some o/\o.cls=.type "StopIteration")->E (.ref e) {s with heap:=h'}):
  wpAny (model P w) A (dS.«zip.__next__» ⟨[.ref z],[]⟩) Q E s:=by
 obtain⟨ap,oz,oi,⟨a,b,oo⟩,c1,c2⟩:=Z
 (show wpAny _ _ (field (.ref z) 2 >>=_) _ _ _);refine ac (bC oz rfl (x:=.bool false) rfl ?_)
 (show wpAny _ _ (field (.ref z) 3 >>=_) _ _ _);refine ac (bC oz rfl (x:=.ref TI) rfl (ac (cX oi rfl ?_)))
 (show wpAny _ _ (gC (.ref z)>>=_) _ _ _);refine ac (ac (bC oz rfl (x:=.none) rfl (ah ?_)))
 simp only[if_true];refine ac (b9 (ac (bC oz rfl (x:=.ref TO) rfl (ac (dO oz (by simp) λg1 v d=>ac ?_)))));have v:iP g1 z TI TO .ellipsis:=v;have stop: ∀(g:Heap) (o:Obj) (e:Addr),iP g z TI TO .ellipsis->g.get? e=some o->o.cls=.type "StopIteration" -> e≠z:=λg o e hz ho hc q=>by
  subst q;rw[hz]at ho;cases ho;simp at hc
 (simp only[List.zipIdx_cons,List.zipIdx_nil,fZ,iJ])
 (refine ac (ac (jJ ?_)))
 (show wpAny _ _ (cA (.ref u)>>=_) _ _ _);cases hx:xs[I]? with
 |none=>
  refine ac (ai1 hh (c1.to λo=>d.extBut _ _ ap.i1z) (m.to λo=>d.extBut _ _ ap.l1z) hx λK e k ⟨y,l,n⟩=>?_);have V:iP K z TI TO .ellipsis:=k _ _ ap.i1z.symm v;exact dO V (by simp) λC _ t=>hE C e (λc o j _ p _ q=>t.extBut _ _ j (k _ _ p (d.extBut _ _ j q))) ⟨y,t.extBut _ _ (stop _ _ _ V l n) l,n⟩
 |some x=>
  have hy:F[L]?=none:=r.elim (λh=>by rw[hx]at h;cases h) id;refine ac (ada (c1.to λo=>d.extBut _ _ ap.i1z) (m.to λo=>d.extBut _ _ ap.l1z) hx λK c1' k=>ah ?_);have Y:gp K TO a b:=k.extBut _ _ ap.TOi1 (d.extBut _ _ ap.TOz oo);refine ac (cX Y rfl (ac (iq Y λC o3 t=>ac (iO (ah (ac (ac (jJ ?_))))))));have H: ∀c o,c≠z->c≠u->c≠TO->s.heap.get? c=some o->C.get? c=some o:=λc o j J p e=>t.extBut _ _ p (k.extBut _ _ J (d.extBut _ _ j e))
  (show wpAny _ _ (cA (.ref D)>>=_) _ _ _);refine ac (ai1 hh (c2.to λo=>H _ o ap.i2z ap.i12.symm ap.TOi2.symm) (M.to λo=>H _ o ap.l2z ap.l2i1 ap.l2TO) hy λg4 e W ⟨y,l,n⟩=>?_)
  have U:iP g4 z TI TO .ellipsis:=W _ _ ap.i2z.symm (t.extBut _ _ ap.TOz.symm (k.extBut _ _ ap.i1z.symm v));exact dO U (by simp) λg5 _ O=>hE g5 e (λc o j J p a4 q=>O.extBut _ _ j (W _ _ a4 (H c o j p J q))) ⟨y,O.extBut _ _ (stop _ _ _ U l n) l,n⟩
theorem a2m{d b2:Bool}{z TI TO b e a m:Addr}{l k:Nat}{xs n:Array ae}{x y:ae}{Q:Option ae->af->Prop}(Z:ZAt d b2 a m z TI TO b e .none l k s.heap)
  (j:qy d s.heap a xs) (h:qy b2 s.heap m n) (hx:xs[l]?=some x) (r:n[k]?=some y)
  (u: ∀h',ZAt d b2 a m z TI TO b e (rawInt s.heap.objs.size) (l+1) (k+1) h'->gp h' s.heap.objs.size x y ->
   (∀c o,c≠z->c≠TO->c≠b->c≠e->s.heap.get? c=some o->h'.get? c=some o)->Q (some (.ref s.heap.objs.size)) {s with heap:=h'}):
  wpAny (model P w) A (pyNext (.ref z)) Q E s:=
 have p:s.TypeIs (.ref z) "zip":=⟨_,Z.oz,rfl⟩
 ac (gV (bI (name:=bj "__next__") p ir (bL ir p F.entry_zip_next (a6f Z j h hx r λh' v t q=>ah (u h' v t q)) (F.args_zip_next_1 _))))
theorem aym{k b2:Bool}{z TI TO q m j t:Addr}{p l:Nat}{xs n:Array ae}{Q:Option ae->af->Prop}(hh:A.handled=none)(Z:ZAt k b2 j t z TI TO q m .none p l s.heap)
  (d:qy k s.heap j xs) (h:qy b2 s.heap t n) (a:xs[p]?=none\/n[l]?=none)
  (u: ∀h',(∀c o,c≠z->c≠TO->c≠q->c≠m->s.heap.get? c=some o->h'.get? c=some o)->Q none {s with heap:=h'}):wpAny (model P w) A (pyNext (.ref z)) Q E s:=
 have r:s.TypeIs (.ref z) "zip":=⟨_,Z.oz,rfl⟩
 ac (gV (bI (name:=bj "__next__") r ir (bL ir r F.entry_zip_next (a1r hh Z d h a λh' e hk ⟨o,ho,v⟩=>
  ac (jY (T:="StopIteration") (b:=true) ⟨o,ho,v⟩ isSubtype_stop (ah (u _ hk)))) (F.args_zip_next_1 _))))
end
def SqB(K:ak)(b:Bool)(H:Hp)(l:Addr)(xs:List V):Prop:=if b=true then SqL K H l xs else SqT K H l xs
theorem Inv.seqB{s:af}{b:Bool}{l:Addr}{xs:List V}(I:Inv X pins σ H s)(q:SqB X.K b H l xs): ∃its,jl xs its/\qy b s.heap l its.toArray:=by
 cases b with
 |true=>obtain⟨its,a,p,_⟩:=I.list q;exact⟨its,a,p.isList⟩
 |false=>obtain⟨its,a,p,_⟩:=I.tuple q;exact⟨its,a,p⟩
noncomputable def a5o(K:ak)(b b2:Bool)(a c:Addr):It:=
 ⟨λi H=>∃xs ys x y,SqB K b H a xs/\SqB K b2 H c ys/\xs[i]?=some x/\ys[i]?=some y,
   λi H v H'=>∃T,v=.ref T/\ ∀xs ys,SqB K b H a xs->SqB K b2 H c ys->∃x y,xs[i]?=some x/\ys[i]?=some y/\New H T (.tup [x,y]) H',
   λi H=>∃xs ys,SqB K b H a xs/\SqB K b2 H c ys/\(xs.length <=i\/ys.length <=i)⟩
theorem Inv.seqB_inj{s:af}{b:Bool}{l:Addr}{xs a:List V}(I:Inv X pins σ H s)(p:SqB X.K b H l xs)(q:SqB X.K b H l a):xs=a:=by
 cases b with
 |true=>exact I.list_inj p q
 |false=>exact I.tuple_inj p q
theorem au0{w:aM}{x1:Nat}{b1 b2:Bool}(l1 l2 z TI TO t p:Addr):Turn P w K (.Tuple es x1 pos) (a5o K b1 b2 l1 l2) [z,TI,TO,t,p] z (λi h=>ZAt b1 b2 l1 l2 z TI TO t p .none i i h) where
 mem:=by simp
 obj:=λi h ⟨_,hz,j,⟨a,c,l⟩,q1,m⟩ b d=>by
  obtain⟨o1,e1,v1,d1⟩:=q1.obj;obtain⟨o2,W,v2,d2⟩:=m.obj
  (simp only[aL,cV,or_false]at d)
  rcases d with rfl|rfl|rfl|rfl|rfl
  ·exact⟨_,hz,λv y=>by cases y⟩
  ·exact⟨_,j,λv y=>by cases y⟩
  ·exact⟨_,l,λv y=>by cases y⟩
  ·exact⟨_,e1,λv y=>by rw[d1]at y;cases y⟩
  ·exact⟨_,W,λv y=>by rw[d2]at y;cases y⟩
 keep:=λi h h' ⟨D,hz,j,⟨a,c,l⟩,q1,m⟩ k=>
  ⟨D,k z (by simp) _ hz,k TI (by simp) _ j,⟨a,c,k TO (by simp) _ l⟩,q1.to λo e=>k t (by simp) o e,m.to λo e=>k p (by simp) o e⟩
 item:=by
  intro X L U hK hc i n s σ H E I J st hg;subst L U hK;obtain⟨xs,ys,x,y,q1,m,hx,hy⟩:=hg;obtain⟨A,r,N⟩:=I.seqB q1;obtain⟨C,q,p2⟩:=I.seqB m;obtain⟨u1,Q,ru1⟩:=r.get hx;obtain⟨Y,S,O⟩:=q.get hy;refine a2m st N p2 (x:=u1) (y:=Y) (by simpa using Q) (by simpa using S) λh' Z a5 k=>?_
  refine⟨_,rfl,wpAny_letOwnedTupleGo_zip (s:={s with heap:=h'}) Z.oz λM hz' sb=>?_⟩;have lt: ∀b∈ [z,TI,TO,t,p],b < s.heap.objs.size:=λb d=>by
   obtain⟨_,hz,j,⟨_,_,l⟩,q1,m⟩:=st;obtain⟨o1,e1,_⟩:=q1.obj;obtain⟨o2,W,_⟩:=m.obj
   (simp only[aL,cV,or_false]at d)
   rcases d with rfl|rfl|rfl|rfl|rfl
   ·exact ay hz
   ·exact ay j
   ·exact ay l
   ·exact ay e1
   ·exact ay W
  have I1:Inv X n σ (upd H s.heap.objs.size (.tup [x,y])) {s with heap:=s.heap.push {cls:=.type "tuple",data:=.seq #[u1,Y]},toks:=s.toks}:=
   I.laid (λb u e=>ag _ e) (aj _) ⟨by show 2 <=sizeLine;decide,[u1,Y],.cons ru1 (.cons O .nil),⟨_,aD _ rfl⟩⟩
  have nT: ∀b∈ [z,TI,TO,t,p],upd H s.heap.objs.size (.tup [x,y]) b=none:=λb d=>by
   rw[j7 (aI (lt b d))];exact(J b d).1
  have D:=Z.ap
  have I2:=I1.turnedL (h':=M) (t':=s.toks) (ch:=[z,TI,TO,t,p]) (λb o d e=>by
   have F:b≠z:=λy=>d (by simp[y])
   rw[sb.2 b F];by_cases hT:b=s.heap.objs.size
   ·subst hT;rw[aD _ rfl]at e;cases e;exact a5
   ·rw[cu _ _ _ hT]at e
    exact k b o F (λy=>d (by simp[y])) (λy=>d (by simp[y])) (λy=>d (by simp[y])) e) λb d=>⟨nT b d,(J b d).2⟩
  obtain⟨_,_,oi,⟨_,_,oo⟩,c1,c2⟩:=Z;refine⟨.ref s.heap.objs.size,_,I2,rfl,⟨_,rfl,λxs' ys' q1' V=>?_⟩,⟨D,hz',sb.extBut _ _ D.TIz oi,⟨_,_,sb.extBut _ _ D.TOz oo⟩,c1.to λo=>sb.extBut _ _ D.i1z,c2.to λo=>sb.extBut _ _ D.i2z⟩,nT⟩;rw[I.seqB_inj q1' q1,I.seqB_inj V m];exact⟨x,y,hx,hy,I.fresh,rfl⟩
 done:=by
  intro X L U hK hc i n s σ H E I J st hg;subst L U hK;obtain⟨xs,ys,q1,m,hx⟩:=hg;obtain⟨A,r,N⟩:=I.seqB q1;obtain⟨C,q,p2⟩:=I.seqB m;have l1':=r.length;have l2':=q.length;refine aym (I.ok.hd hc) st N p2 ?_ λh' k=>⟨rfl,I.turnedL (t':=s.toks) (ch:=[z,TI,TO,t,p]) (λb o d e=>k b o (λy=>d (by simp[y])) (λy=>d (by simp[y])) (λy=>d (by simp[y])) (λy=>d (by simp[y])) e) J⟩
  rcases hx with hx|hx
  ·exact .inl (by simp;lia)
  ·exact .inr (by simp;lia)
 self:=λ_ _ _ _ _ st h=>wpAny_pyIter_zip st.oz h
noncomputable def ah9(b:Bool):String:=if b=true then "list_iterator" else "tuple_iterator"
section
variable{P:aP}{w:aM}{A:bh}{E:ae->af->Prop}{s:af}
theorem aze{b:Bool}{l:Addr}{xs:Array ae}(h:qy b s.heap l xs)(a:Q (.ref s.heap.objs.size) {s with heap:=s.heap.push {cls:=.type (ah9 b),data:=.fields #[.ref l,.int 0 0]}}):wpAny (model P w) A (pyIter (.ref l)) Q E s:=by
 cases b with
 |true=>exact fj h a
 |false=>exact gj h a
theorem a4v{b:Bool}{i l:Addr}(e:h.get? i=some {cls:=.type (ah9 b),data:=.fields #[.ref l,.int 0 0]}):zh b h i l 0:=by
 cases b with
 |true=>exact⟨_,e,rfl,rfl⟩
 |false=>exact⟨_,e,rfl,rfl⟩
def zH(h:Heap)(b b2:Bool)(a c:Addr):Heap:=
 ((((h.push {cls:=.type (ah9 b),data:=.fields #[.ref a,.int 0 0]}).push {cls:=.type (ah9 b2),data:=.fields #[.ref c,.int 0 0]}).push {cls:=.type "tuple",data:=.seq #[.ref h.objs.size,.ref (h.objs.size+1)]}).push {cls:=.type "tuple",data:=.seq #[.none,.none]}).push
  {cls:=.type "zip",data:=.fields #[.none,.bool false,.bool false,.ref (h.objs.size+2),.ref (h.objs.size+3)]}
theorem ars(b b2:Bool)(a c:Addr)(xs e:Array ae):
  Meets (dS.«zip.__new__» ⟨[.type "zip",.ref a,.ref c],[]⟩) (λ_ R s=>qy b s.heap a xs/\qy b2 s.heap c e/\R (.ok (.ret (.ref (s.heap.objs.size+4)))) {s with heap:=zH s.heap b b2 a c}):=
 .of_wp λprog w A R s h=>by
  obtain⟨k,g,d,tk,os⟩:=s;obtain⟨n,m,h⟩:=h;have j:=sub_zip;have l:qy b (Shared.heap ⟨k,g,d,tk,os⟩) a xs:=n;have L2:qy b2 (Shared.heap ⟨k.push {cls:=.type (ah9 b),data:=.fields #[.ref a,.int 0 0]},g,d,tk,os⟩) c e:=m.to λo=>ag _
  wp_walk using aze l,aze L2
  refine⟨_,rfl,?_⟩;simp only[cp];exact h
theorem aul{d b2:Bool}{a b:Addr}{xs k:Array ae}(m:qy d s.heap a xs)(l:qy b2 s.heap b k)(h: ∀h',ZAt d b2 a b (s.heap.objs.size+4) (s.heap.objs.size+2) (s.heap.objs.size+3) s.heap.objs.size (s.heap.objs.size+1) .none 0 0 h'->(∀c o,s.heap.get? c=some o->h'.get? c=some o)->Q (.ref (s.heap.objs.size+4)) {s with heap:=h'}):
  wpAny (model P w) A (call (.type "zip") [.ref a,.ref b]) Q E s:=by
 refine callType_new F.called_zip (by decide) (F.typeCall_zip_2 _ _) (F.newCall_zip_2 _ _) (λobj=>F.args_object_init_3 obj _ _) F.entry_zip_new (ars d b2 a b xs k) ⟨m,l,?_⟩;have q1:=m.lt;have v:=l.lt;have up: ∀(g:Heap) (o:Obj) (n:Nat),n=g.objs.size->o.isFreed=false->(g.push o).get? n=some o:=λg o n e t=>by subst e;exact aD _ t
 have sz: ∀(g:Heap) (o:Obj) (n:Nat),g.objs.size=n->(g.push o).objs.size=n+1:=λg o n e=>by rw[cp,e]
 have j:iP (zH s.heap d b2 a b) (s.heap.objs.size+4) (s.heap.objs.size+2) (s.heap.objs.size+3) .none:=up _ _ _ (by simp only[cp]) rfl;have u:gp (zH s.heap d b2 a b) (s.heap.objs.size+3) .none .none:=ag _ (up _ _ _ (by simp only[cp]) rfl);have q:gp (zH s.heap d b2 a b) (s.heap.objs.size+2) (.ref s.heap.objs.size) (.ref (s.heap.objs.size+1)):=ag _ (ag _ (up _ _ _ (by simp only[cp]) rfl));have r:(zH s.heap d b2 a b).get? (s.heap.objs.size+1)=some {cls:=.type (ah9 b2),data:=.fields #[.ref b,.int 0 0]}:=ag _ (ag _ (ag _ (up _ _ _ (by simp only[cp]) rfl)));have p:(zH s.heap d b2 a b).get? s.heap.objs.size=some {cls:=.type (ah9 d),data:=.fields #[.ref a,.int 0 0]}:=ag _ (ag _ (ag _ (ag _ (up _ _ _ rfl rfl))));refine⟨⟨_,j,rfl⟩,h _ ⟨?_,j,q,⟨_,_,u⟩,a4v p,a4v r⟩ λc o x=>ag _ (ag _ (ag _ (ag _ (ag _ x))))⟩;constructor <;> (unfold Addr at*;lia)
end
def a7w(K:ak)(d:TA):TI:=λσ H R=>d σ H λvs H1=>∃a b xs ys c b2,vs=[.ref a,.ref b]/\SqB K c H1 a xs/\SqB K b2 H1 b ys/\R (a5o K c b2 a b) H1
theorem a0o{L:Nat}{v:Pos}{a b:Expr}{o:TA}{p:Pos}(C:Gl X "zip")(hm:X.mg "zip"=none)(A:PA X [a,b] o)(hs:starEach [a,b] X.env=[(false,eval a X.env),(false,eval b X.env)]:=by rfl)(j:starEach [b] X.env=[(false,eval b X.env)]:=by rfl):
  PI X (.Tuple es L v) (.Call (.Name "zip" p) [a,b] [] pos) (a7w X.K o):=by
 intro c s σ H R I h;refine Call_ (ae0 I C hm a84 (fH (thn (A pos c s σ H _ I h) λQ l ⟨vs,E,I1,z,q1⟩=>?_) (by rw[hs,j]) (by rw[j];rfl)));obtain⟨y,M,xs,P,O,b2,e,q1,w,q⟩:=q1;subst e;cases z with
 | cons r m=>
  cases m with
  | cons F m=>
   cases m;cases r;cases F;obtain⟨n,N,x⟩:=I1.seqB q1;obtain⟨u,J,D⟩:=I1.seqB w;refine aul x D λh' Z k=>wpAny_pyIter_zip (s:={l with heap:=h'}) Z.oz ?_
   refine⟨l.heap.objs.size+4,_,_,_,E,rfl,I1.kept (t':=l.toks) k,au0 y M _ _ _ _ _,Z,λb t=>?_,q⟩;have d:l.heap.objs.size <=b:=by
    (simp only[aL,cV,or_false]at t)
    rcases t with rfl|rfl|rfl|rfl|rfl <;> (unfold Addr at*;lia)
   exact I1.fpOk d (I1.hok.fresh d)
end L2
namespace PF
open PySem PySem.Spec
open L2
variable[XW]
noncomputable def sqD:D->Option (Bool×List aa)
 |.lst xs=>some (true,xs)
 |.tup xs=>some (false,xs)
 |_=>none
def ai9(ds:List D)(s:S):R Wk:=match ds with
 |[a,b]=>match sqD a,sqD b with
  |some (_,xs),some (_,ys)=>.ok ((xs.zip ys).map λp=>D.tup [p.1,p.2],none) s
  |_,_=>.bad
 |_=>.bad
def aqo(f:FA):FI:=λρ s=>(f ρ s).bind ai9
theorem aoj{d:D}{b:Bool}(r:RD K as H v d)(e:sqD d=some (b,xs)): ∃l vs,v=.ref l/\(∀a H2,Step0 as H a H2->SqB K b H2 l vs)/\TDs as H vs xs:=by
 cases d with
 | da d=>
  cases d with
  |list c=>
   cases e;obtain⟨l,vs,rfl,n,q,t⟩:=r.lst_inv;exact⟨l,vs,rfl,λa H2 st=>SqL.of (st.keep _ _ n q),t⟩
  | tuple c=>
   cases e;cases r with
   |da t=>cases t with
    |tup n q t=>exact⟨_,_,rfl,λa H2 st=>SqT.of (st.keep _ _ n q),t⟩
  |_=>cases e
 |_=>cases e
theorem a29{Z:Nat}{N:Pos}{a b:Expr}{f:FA}{p:Pos}(hm:X.mg "zip"=none)(h:RA X [a,b] f)(hg:Gl X "zip":=by rfl)(hs:starEach [a,b] X.env=[(false,eval a X.env),(false,eval b X.env)]:=by rfl)(C:starEach [b] X.env=[(false,eval b X.env)]:=by rfl):
  RI X (.Tuple es Z N) (.Call (.Name "zip" p) [a,b] [] pos) (aqo f):=by
 obtain⟨t,M,ra⟩:=h.ex;refine⟨_,a0o hg hm M hs C,λas σ H ρ s Q rl W h=>?_⟩;refine ra as σ H ρ s _ rl W (Dn.bind h λds s1 r K vs st1 A r1 k=>?_);unfold ai9 at k;split at k
 ·split at k
  ·rename_i da db _ xd bx _ yd ea eb;obtain⟨v,w,rfl,U,rw⟩:=r1.two;obtain⟨O,xs,rfl,F,P⟩:=aoj U ea;obtain⟨l2,u,rfl,E,V⟩:=aoj rw eb;refine⟨O,l2,xs,u,_,_,rfl,F r K (Step.refl _ _).toStep0,E r K (Step.refl _ _).toStep0,Dn.now (Q:=Q) k A ?_⟩;intro l J s2 st2 m _ i;have c:=F l J st2;have e:=E l J st2;have L:=P.mono0 st2;have I:=V.mono0 st2;refine⟨λhl=>⟨xs,u,c,e,?_⟩,λd hd=>?_⟩
   ·simp only[ao,iu]at hl;rw[L.length,I.length];lia
   ·rw[aT]at hd;cases q:(List.zip _ _)[i]? with
    |none=>rw[q]at hd;cases hd
    |some pr=>
     rw[q]at hd;cases hd;rw[jW]at q;obtain⟨x,hx,S⟩:=L.get q.1;obtain⟨y,D,ry⟩:=I.get q.2;refine⟨⟨xs,u,x,y,c,e,hx,D⟩,λvv H3 hv=>?_⟩;obtain⟨T,rfl,Y⟩:=hv;obtain⟨x',y',n,o,j⟩:=Y xs u c e;rw[hx]at n;cases n;rw[D]at o;cases o;exact⟨kt j,m.new j,.da (.tup (λz=>m.has z j.no) j.at (.cons (S.mono (kt j)) (.cons (ry.mono (kt j)) .nil)))⟩
  ·exact k.elim
 ·exact k.elim
end PF
namespace PF
open PySem PySem.Spec PyProof.Rows PyProof.Rows.KTD
open L2
variable[XW]
end PF
namespace L2
open PySem PySem.Spec PyProof.Rows
theorem aq2(L:X.calm=true):yn X (.type "dict") (λvs H Q=>∃a b ps,vs=[.ref a]/\H a=some (.tup (b.map V.ref))/\am1 H b ps/\ps.length < 4000/\ ∀p H',New H p (.dK (aep ps)) H'->Q (.ref p) H'):=by
 intro j s σ H vs M Q I r h;obtain⟨a,b,ps,rfl,E,t,N,q⟩:=h;obtain⟨u,rfl,c⟩:=vals1 r;cases c;obtain⟨d,rel,f⟩:=pairs_at I t;have A:b.length=ps.length:=bV t;have J:ps.length=d.length:=rel.length;have hsz:d.length < sizeLine:=by rw[bq];lia
 obtain⟨z,C,x,n,e⟩:=(show km X.prog X.w H s.heap a (.tup (b.map V.ref)) from I.hok a _ E);have l:=x.length;rw[ao]at l;refine atq (I.ok.hd L) (.inr rfl) e rfl rfl rfl d (by rw[ax];lia) hsz (λi k v item y m=>?_) λh' tk F k K=>?_
 ·have o:i < b.length:=by have:=(am.mp y).1;lia
  obtain⟨u,D,c⟩:=x.get (show(b.map V.ref)[i]?=some (.ref b[i]) by rw[aT,av o];rfl);rw[lM,D]at m;obtain rfl:u=item:=bv m;obtain rfl:u=bi b[i]:=c;exact f i k v y _ (av o)
 ·exact⟨.ref s.heap.objs.size,upd H s.heap.objs.size (.dK (aep ps)),I.laid k (aj _) (ai8 (aN (at5 _) (by rw[bq];lia)) (beq_eq_false_iff_ne.mpr (bu (aI I.big))) (a2p rel) F (λz=>K (by cases (am6 _ _ z).1;cases rel;rfl))),rfl,q _ _ ⟨I.fresh,rfl⟩⟩
end L2
namespace PF
open PySem PySem.Spec
open L2
variable[XW]
def pairD:aa->Option (aa×aa)
 |.tuple [k,v]=>if isK k=true then some (k,v) else none
 |_=>none
def ad2(ps:List (aa×aa)):List (aa×D):=ps.foldl (λd p=>j5 d p.1 (.da p.2)) []
def ady(ds:List D)(s:S):R D:=match ds with
 |[.tup xs]=>match xs.mapM pairD with
  |some ps=>if ps.length < 4000 then .ok (.ref s.length) (s++ [.dct (ad2 ps)]) else .bad
  |none=>.bad
 |_=>.bad
theorem ape {s:S} (j:Rel K as H s): ∀{vs:List V} {xs:List aa} {ps:List (aa×aa)},TDs as H vs xs->xs.mapM pairD=some ps->∃(b:List Addr) (kvs:List (Key×V)),vs=b.map V.ref/\am1 H b kvs/\eE (λ(p:Key×V) (q:aa×aa)=>q.1=kP p.1/\TD as H p.2 q.2) kvs ps
 |_,_,_,.nil,e=>by
  cases e;exact⟨[],[],rfl,.nil,.nil⟩
 | _, _, ps,.cons (x:=v) (d:=d) (ds:=ds) t r,e=>by
  rw[fG]at e;cases hd:pairD d with
  |none=>rw[hd]at e;cases e
  | some p=>
   rw[hd]at e;cases hr:ds.mapM pairD with
   |none=>rw[hr]at e;cases e
   | some c=>
    rw[hr]at e;cases e;obtain⟨b,kvs,o,h,z⟩:=ape j r hr;unfold pairD at hd;split at hd
    ·rename_i k y;split at hd
     ·rename_i hk;cases hd;obtain⟨a,rfl⟩:=au1 hk;cases t with
      | @tup q A _ n u ts=>
       cases ts with
       | @cons C _ _ _ l ts=>
        cases ts with
        | @cons w _ _ _ m ts=>
         cases ts;have:=a9t l;subst this;exact⟨q::b,(a,w)::kvs,by rw[o];rfl,.cons (.inl u) h,.cons ⟨rfl,m⟩ z⟩
     ·cases hd
    ·cases hd
theorem ax5{kvs:List (Key×V)}{ps:List (aa×aa)}(h:eE (λ(p:Key×V) (q:aa×aa)=>q.1=kP p.1/\TD as H p.2 q.2) kvs ps):DRs K as H (pvK (aep kvs)) (ad2 ps):=by
 have go: ∀(l:List (Key×V)) (d:List (aa×D)),DRs K as H (pvK l) d->DRs K as H (pvK (kvs.foldl (λd p=>jp d p.1 p.2) l)) (ps.foldl (λd p=>j5 d p.1 (.da p.2)) d):=by
  induction h with
  |nil=>intro l d z;exact z
  |cons r t a=>
   intro l d z
   (rw[aW,aW])
   refine a _ _ ?_;rw[ai3,r.1];exact z.put (.da r.2) _
 exact go [] [] .nil
theorem a1b(o:X.calm=true):CB X (.type "dict") ady:=⟨_,aq2 o,λas H s xs ds Q b rs h=>by
 unfold ady at h;split at h
 ·split at h
  ·split at h
   ·rename_i u ps c l;obtain⟨v,rfl,k⟩:=rs.one;obtain⟨p,vs,rfl,n,e,t⟩:=k.tup_inv;obtain⟨j,kvs,rfl,m,hr⟩:=ape b t c;refine⟨p,j,kvs,rfl,e,m,by rw[bV hr];exact l,λq H' a=>?_⟩;refine h (.ref q) (as.add q) H' (vt a) (b.laid a (.inl ⟨aep kvs,a.at,(ax5 hr).mono (vt a)⟩)) (.ref (by simp[b.len]) λr d=>?_);rw[←b.len]at d;simp at d;exact d.symm
   ·exact h.elim
  ·exact h.elim
 ·exact h.elim⟩
end PF
namespace L2
open PySem PySem.Spec PyProof.Rows
section
variable{prog:aP}{w:aM}{A:bh}{E:ae->af->Prop}{s:af}{a:Addr}
def ayz(h:Heap)(item key v:ae):Prop:= ∃q o c,item=.ref q/\h.get? q=some o/\o.cls=.type "tuple"/\o.data=.seq #[key,v] c
theorem axo{a:Heap}{item key v:ae}{Q:List ae->af->Prop}(d:ayz a item key v)(j: ∀q o,a.get? q=some o->s.heap.get? q=some o)
  (h:Q [key,v] s):wpAny (model prog w) A (eZ item) Q E s:=by
 obtain⟨q,o,c,rfl,e,k,hd⟩:=d;have b:=j q o e;unfold eZ;refine ac (cQ (T:="tuple") ⟨o,b,k⟩ ?_);rw[if_pos (by decide)];refine ac ?_;unfold seqItems?;refine ac (wpAny_load b ?_);rw[hd]
 (exact ah (ah h))
structure DFill (prog:aP) (w:aM) (A:bh) (h0:Heap) (d:Addr) (items:Array ae) (D:Nat->Heap->Prop):Prop where
 stay: ∀i h h',D i h->(∀o,h.get? d=some o->h'.get? d=some o)->(∀b o,h0.get? b=some o->h'.get? b=some o)->D i h'
 put: ∀(i:Nat) (item:ae) (s:af),items[i]?=some item->D i s.heap->(∀b o,h0.get? b=some o->s.heap.get? b=some o)->∃key v,ayz h0 item key v/\ ∀(Q:Unit->af->Prop) (E:ae->af->Prop),
  (∀h2 tk,D (i+1) h2->bX d s.heap h2->Q () {s with heap:=h2,toks:=tk})->wpAny (model prog w) A (dictSet d key v) Q E s
theorem aq5{R:kA->af->Prop}{I:Addr}{H:List Addr}{St:Nat->Heap->Prop}{D:Nat->Heap->Prop}(W:nc prog w A.in1 I H [I] items.size (λi v=>items[i]?=some v) St)(d:Addr)(hd:d∉H)(h:Heap)(F:DFill prog w A.in1 h d items D)(a: ∀b o,h.get? b=some o->b≠d/\b≠I):
  ∀(j i:Nat) (s:af),i+j=items.size->St i s.heap->(∀b o,h.get? b=some o->s.heap.get? b=some o)->D i s.heap ->
   (∀h' tk,(∀b o,h.get? b=some o->h'.get? b=some o)->D items.size h'->R (.ok (.ret .none)) {s with heap:=h',toks:=tk}) ->
   codeAny (model prog w) A (.builtin "dict.update.loop" ⟨[.ref d,.ref I,rawInt i,.none],[]⟩) R s:=by
 have n:d≠I:=λz=>hd (z▸W.sub I (by simp))
 intro j;induction j with
 |zero=>
  intro i s E st kp u t;have N:i=items.size:=by lia
  subst N;refine ik aef ?_;rw[fL xo _];refine(show wpAny _ A.in1 (pyNext (.ref I)>>=_) _ _ s from ac (W.done s _ _ st λh' tk k=>?_));have l: ∀b o,h.get? b=some o->h'.get? b=some o:=λb o e=>k b o (λm=>(a b o e).2 (aA.mp m)) (kp b o e)
  exact ac (show wpAny _ _ (kE d []) _ _ _ from ah (ah (t h' tk l (F.stay _ _ _ u (λo e=>k d o (λm=>n (aA.mp m)) e) l))))
 |succ j P=>
  intro i s E st kp u t;refine ik aef ?_;rw[fL xo _];refine(show wpAny _ A.in1 (pyNext (.ref I)>>=_) _ _ s from ac (W.item i s _ _ (by lia) st λv C tk L st1 k=>?_));have c: ∀b o,h.get? b=some o->C.get? b=some o:=λb o e=>k b o (λm=>(a b o e).2 (aA.mp m)) (kp b o e)
  have y:=F.stay _ _ C u (λo e=>k d o (λm=>n (aA.mp m)) e) c;obtain⟨key,val,M,run⟩:=F.put i v {s with heap:=C,toks:=tk} L y c;refine ac (bg (ac (wpAny_tryCatch (axo M c ?_))));dsimp only;refine bg ?_;refine run _ _ λK x q sb=>?_
  refine ah ⟨fU xo _,?_⟩;refine P (i+1) {s with heap:=K,toks:=x} (by lia) (W.frame _ _ _ st1 λb O o e=>?_) (λb o e=>?_) q λh' p J r=>t h' p J r
  ·exact(sb.2 b (λz=>hd (z▸O))).trans e
  ·exact(sb.2 b (a b o e).1).trans (c b o e)
theorem aro{T:String}{l:Obj}{k:Nat}{D:Nat->Heap->Prop}(hh:A.handled=none)(y:T="list"\/T="tuple")(ho:s.heap.get? a=some l)(m:l.cls=.type T)(hd:l.data=.seq items k)(n:l.dict=none)(F:DFill prog w A.in1.in1 s.heap s.heap.objs.size items D)(H: ∀h1,h1.get? s.heap.objs.size=some {cls:=.type "dict",data:=.dict #[]}->(∀b u,s.heap.get? b=some u->h1.get? b=some u)->D 0 h1)(h: ∀h' tk,D items.size h'->(∀b u,s.heap.get? b=some u->h'.get? b=some u)->Q (.ref s.heap.objs.size) {s with heap:=h',toks:=tk}):
  wpAny (model prog w) A (call (.type "dict") [.ref a]) Q E s:=by
 refine callType_codes (Q₁:=λobj z=>obj=.ref s.heap.objs.size/\z={s with heap:=s.heap.push {cls:=.type "dict",data:=.dict #[]}}) ly (jF _) kO (kt_code_dict_new _ ⟨rfl,rfl⟩) ?_;rintro obj z ⟨rfl,rfl⟩;have new:(s.heap.push {cls:=.type "dict",data:=.dict #[]}).DictOf (jx prog w) s.heap.objs.size []:=kY s.heap;have j:(s.heap.push {cls:=.type "dict",data:=.dict #[]}).get? a=some l:=ag _ ho;have x:=ay ho;have d:A.in1.in1.handled=none:=hh;refine⟨new.typeIs,kF _ _,?_⟩;unfold dS.«dict.__init__»;refine ac ?_;unfold kG;refine ac (fA new.typeIs ?_);refine(show wpAny _ _ (pure (s.heap.objs.size,[bi a])) _ _ _ from ah ?_);show wpAny _ _ (eN "dict.__init__" s.heap.objs.size (.ref a) [] .none) _ _ _;unfold eN;refine ac (cQ (T:=T) ⟨l,j,m⟩ ?_);rw[if_pos (by rcases y with rfl|rfl <;> decide)];have key: ∀(h1:Heap) (tk:Nat),(∀b u,(s.heap.push {cls:=.type "dict",data:=.dict #[]}).get? b=some u->h1.get? b=some u)->∀(q:Obj) (St:Nat->Heap->Prop),St 0 (h1.push q) ->
   nc prog w A.in1.in1 h1.objs.size [h1.objs.size,a] [h1.objs.size] items.size (λi v=>items[i]?=some v) St ->
   codeAny (model prog w) A.in1 (.builtin "dict.update.loop" ⟨[.ref s.heap.objs.size,.ref h1.objs.size,rawInt 0,.none],[]⟩) (wants (λr I=>r=.none/\Q (.ref s.heap.objs.size) I) E) {s with heap:=h1.push q,toks:=tk}:=by
  intro h1 tk c q St st W;have gd:h1.get? s.heap.objs.size=some {cls:=.type "dict",data:=.dict #[]}:=c _ _ (aD _ rfl);have nd:s.heap.objs.size∉ [h1.objs.size,a]:=by
   simp only[aL,cV,or_false,not_or];exact⟨aI (ay gd),fy x⟩
  have kp: ∀b o,s.heap.get? b=some o->(h1.push q).get? b=some o:=λb o e=>ag _ (c _ _ (ag _ e))
  exact aq5 (A:=A.in1) W s.heap.objs.size nd s.heap F (λb o e=>⟨aI (ay e),aI (ay (c _ _ (ag _ e)))⟩) items.size 0 _ (by lia) st kp (H _ (ag _ gd) kp) λh' t C J=>⟨rfl,h h' t J C⟩
 rcases y with rfl|rfl
 ·refine ac (ah0 j m hd n d λh1 tk c=>?_);rw[if_pos (show(none:Option ae).isNone=true from rfl)];have p:h1.IsList a items:=⟨l,c _ _ j,m,k,hd⟩;refine ac (b9 (ac (fj p ?_)));exact ah ⟨fU xo _,key h1 tk c _ _ ⟨⟨_,aD _ rfl,rfl,rfl⟩,p.push _⟩ (Walks.list d _ a (aI (ay (c _ _ j))) items)⟩
 ·refine ac (afi j m hd n d λh1 tk c=>?_);rw[if_pos (show(none:Option ae).isNone=true from rfl)];have p:h1.IsTuple a items:=⟨l,c _ _ j,m,k,hd⟩;refine ac (b9 (ac (gj p ?_)));exact ah ⟨fU xo _,key h1 tk c _ _ ⟨⟨_,aD _ rfl,rfl,rfl⟩,⟨_,ag _ (c _ _ j),m,k,hd⟩⟩ (Walks.tuple d _ a (aI (ay (c _ _ j))) items)⟩
end
abbrev an5(H:Hp):List Addr->List (Addr×aa×V)->Prop:=eE λq p=>H q=some (.tup [.ref p.1,p.2.2])/\PF.vn p.2.1=true/\KD H (.ref p.1) p.2.1
def zp(ps:List (Addr×aa×V)):List (aa×V):=ps.foldl (λd p=>jp d p.2.1 p.2.2) []
theorem aqf(ps:List (Addr×aa×V))(p:Addr×aa×V):zp (ps++ [p])=jp (zp ps) p.2.1 p.2.2:=by unfold zp;rw[bw];rfl
theorem ak8(ps:List (Addr×aa×V)):(zp ps).length <=ps.length:=by
 have all: ∀(l:List (Addr×aa×V)) (d:List (aa×V)),(l.foldl (λd p=>jp d p.2.1 p.2.2) d).length <=d.length+l.length:=by
  intro l;induction l with
  |nil=>intro d;exact aj _
  |cons p r a=>
   intro d;have c:=a (jp d p.2.1 p.2.2);have b:=vh d p.2.1 p.2.2;rw[aW,aE];lia
 have:=all ps [];simpa[zp] using this
structure DPs (P:aP) (w:aM) (H:Hp) (d:Addr) (ps:List (Addr×aa×V)) (h:Heap):Prop where
 ex: ∃xs o es ep,KE H (zp ps) xs/\h.get? d=some o/\o.ExactDict/\(o.data=.dict es ep/\ep=es.size)/\es.toList=xs.map (eA (PF.kf P w))/\(xs.map (·.1)).Nodup
theorem aqj(hc:X.calm=true)(hu:X.A.units+40 < cLine):yn X (.type "dict") (λvs H Q=>∃a k ps,vs=[.ref a]/\SqL X.K H a (k.map V.ref)/\an5 H k ps/\ps.length < 4000/\ ∀p H',New H p (.dD (zp ps)) H'->Q (.ref p) H'):=by
 intro pins s σ H vs us Q I r h;obtain⟨a,k,ps,rfl,hS,hp,hl,q⟩:=h;obtain⟨u,rfl,J⟩:=vals1 r;cases J;have hh:=I.ok.hd hc;have hql:k.length=ps.length:=bV hp;obtain⟨v,rv,⟨o,n,e,c,dd,d⟩,z⟩:=I.list hS;have il:v.length=ps.length:=by have:=rv.length;rw[ao]at this;lia
 have F:v.toArray.size=ps.length:=by rw[ax,il]
 have hin:X.A.in1.in1.units=X.A.units+2:=rfl;refine aro hh (.inl rfl) e c d dd (D:=λi=>DPs X.prog X.w H s.heap.objs.size (ps.take i)) ⟨λi h h' D ho _=>?_,λi item s' t D kp=>?_⟩ (λh1 g _=>?_) λh' tk D kp=>?_
 ·obtain⟨xs,o,es,ep,l,C,E⟩:=D.ex;exact⟨xs,o,es,ep,l,ho _ C,E⟩
 ·have P:i < ps.length:=by rw[←F];exact(jH.mp t).1
  obtain⟨j,p,hq',hpi,hH,hk,kd⟩: ∃j p,k[i]?=some j/\ps[i]?=some p/\H j=some (.tup [.ref p.1,p.2.2])/\PF.vn p.2.1=true/\KD H (.ref p.1) p.2.1:=by
   have all: ∀{k:List Addr} {ps:List (Addr×aa×V)} (i:Nat),an5 H k ps->i < ps.length->∃j p,k[i]?=some j/\ps[i]?=some p/\H j=some (.tup [.ref p.1,p.2.2])/\PF.vn p.2.1=true/\KD H (.ref p.1) p.2.1:=by
    intro k ps i h;induction h generalizing i with --
    |nil=>intro z;simp at z
    | @cons q p l1 l2 z _ ih=>
     intro t;cases i with
     |zero=>exact⟨q,p,rfl,rfl,z⟩
     |succ i=>simpa using ih i (by simpa using t)
   exact all i hp P
  obtain⟨u,Z,J⟩:=rv.get (show(k.map V.ref)[i]?=some (.ref j) by rw[aT,hq'];rfl);rw[lM,Z]at t;obtain rfl:u=item:=bv t;obtain rfl:u=bi j:=J;obtain⟨_,its2,Y,n2,e2⟩:=(show km X.prog X.w H s.heap j (.tup [.ref p.1,p.2.2]) from I.hok j _ hH);cases Y with
  | cons r1 t1=>
   cases t1 with
   | cons r2 t2=>
    cases t2;rename_i u1 u2;obtain rfl:u1=bi p.1:=r1;refine⟨.ref p.1,u2,⟨j,_,n2,rfl,e2,rfl,rfl⟩,λQ' E' kQ=>?_⟩;obtain⟨xs,W,es,ep,l,C,E,S,k5,k6⟩:=D.ex;have m: ∀{x:aa} {b:Addr},PF.vn x=true->KD H (.ref b) x->(PF.kf X.prog X.w).is s'.heap x b:=λh1 N=>by
     obtain⟨bs,rd⟩:=N.reads I.hok rfl;exact⟨h1,bs,PyProof.Rows.Reads.keeps kp rd⟩
    have isx: ∀x∈xs,(PF.kf X.prog X.w).is s'.heap x.1 x.2.1:=by
     have all: ∀{kvs:List (aa×V)} {xs:List (aa×Addr×ae)},KE H kvs xs->∀x∈xs,(PF.kf X.prog X.w).is s'.heap x.1 x.2.1:=by
      intro kvs xs h;induction h with
      |nil=>intro x hx;cases hx
      | @cons p q l1 l2 z _ ih=>
       intro x hx;rcases aL.mp hx with y|y
       ·rw[y,←z.1];exact m z.2.1.1 z.2.1.2
       ·exact ih x y
     exact all l
    have xl:xs.length <=sizeLine:=by
     rw[←bV l,bq];have:=ak8 (ps.take i);rw[cU]at this;lia
    refine ag5 (s:=s') (knd:=PF.kf X.prog X.w) (show X.A.in1.in1.units+10 < cLine by lia) (m hk kd) ⟨W,es,ep,C,E,S,k5,isx,k6⟩ (λN L sb=>kQ N _ ?_ sb) xl;obtain⟨o3,U,O,m2,m3,m4,m5,m6,m7⟩:=L;refine⟨_,o3,U,O,?_,m2,m3,m4,m5,m7⟩;rw[List.take_add_one,hpi,Option.toList_some,aqf];exact l.put hk kd r2
 ·exact⟨[],_,#[],0,by rw[List.take_zero];exact .nil,g,⟨rfl,rfl,rfl⟩,⟨rfl,rfl⟩,rfl,by simp⟩
 ·rw[F,List.take_length]at D;obtain⟨xs,W,es,ep,l,C,E,S,k5,k6⟩:=D.ex;refine⟨.ref s.heap.objs.size,upd H s.heap.objs.size (.dD (zp ps)),I.laid kp (aj _) ⟨?_,beq_eq_false_iff_ne.mpr (bu (aI I.big)),xs,?_,W,es,ep,C,E,S,k5,k6⟩,rfl,q _ _ ⟨I.fresh,rfl⟩⟩
  ·have:=ak8 ps;rw[bq];lia
  ·have fr: ∀c M,H c=some (.tup M)->upd H s.heap.objs.size (.dD (zp ps)) c=some (.tup M):=λc M e=>by
    rw[j7 (λy=>by subst y;rw[I.fresh]at e;cases e)];exact e
   exact Paired.mapP l λp q y=>⟨y.1,⟨y.2.1.1,y.2.1.2.mono fr⟩,y.2.2⟩
end L2
namespace PF
open PySem PySem.Spec
open L2
variable[XW]
def ad5:aa->Option (aa×aa)
 |.tuple [k,v]=>if isT k=true then some (k,v) else none
 |_=>none
def afd(ds:List D)(s:S):R D:=match ds with
 |[.lst xs]=>match xs.mapM ad5 with
  |some ps=>if ps.length < 4000/\ps≠ [] then .ok (.ref s.length) (s++ [.dct (ad2 ps)]) else .bad
  |none=>.bad
 |_=>.bad
theorem apq: ∀{vs:List V} {xs:List aa} {ps:List (aa×aa)},TDs as H vs xs->xs.mapM ad5=some ps->∃(a:List Addr) (kvs:List (Addr×aa×V)),vs=a.map V.ref/\an5 H a kvs/\eE (λ(p:Addr×aa×V) (q:aa×aa)=>(q.1=p.2.1/\isT q.1=true)/\TD as H p.2.2 q.2) kvs ps
 |_,_,_,.nil,e=>by
  cases e;exact⟨[],[],rfl,.nil,.nil⟩
 | _, _, ps,.cons (x:=v) (d:=d) (ds:=ds) t r,e=>by
  rw[fG]at e;cases hd:ad5 d with
  |none=>rw[hd]at e;cases e
  | some p=>
   rw[hd]at e;cases hr:ds.mapM ad5 with
   |none=>rw[hr]at e;cases e
   | some l=>
    rw[hr]at e;cases e;obtain⟨a,kvs,u,m,A⟩:=apq r hr;unfold ad5 at hd;split at hd
    ·rename_i k y;split at hd
     ·rename_i hk;cases hd;obtain⟨c,h,ks,rfl⟩:=yx hk;cases t with
      | @tup q C _ n w ts=>
       cases ts with
       | @cons D _ _ _ j ts=>
        cases ts with
        | @cons z _ _ _ o ts=>
         cases ts;obtain⟨b,rfl⟩:=abp j;exact⟨q::a,(b,.tuple ks,z)::kvs,by rw[u];rfl,.cons ⟨w,c,TD.kd j h⟩ m,.cons ⟨⟨rfl,hk⟩,o⟩ A⟩
     ·cases hd
    ·cases hd
theorem atz{kvs:List (Addr×aa×V)}{ps:List (aa×aa)}(h:eE (λ(p:Addr×aa×V) (q:aa×aa)=>(q.1=p.2.1/\isT q.1=true)/\TD as H p.2.2 q.2) kvs ps):DRs K as H (zp kvs) (ad2 ps):=by
 have go: ∀(l:List (aa×V)) (d:List (aa×D)),DRs K as H l d->DRs K as H (kvs.foldl (λd p=>jp d p.2.1 p.2.2) l) (ps.foldl (λd p=>j5 d p.1 (.da p.2)) d):=by
  induction h with
  |nil=>intro l d z;exact z
  |cons r t a=>
   intro l d z
   (rw[aW,aW])
   refine a _ _ ?_;rw[r.1.1];exact z.put (.da r.2) _
 exact go [] [] .nil
theorem a4x{kvs:List (Addr×aa×V)}{ps:List (aa×aa)}(h:eE (λ(p:Addr×aa×V) (q:aa×aa)=>(q.1=p.2.1/\isT q.1=true)/\TD as H p.2.2 q.2) kvs ps)(hn:ps≠ []):zp kvs≠ []/\((zp kvs).all λe=>isT e.1)=true:=by
 have go: ∀(l:List (aa×V)),(l.all λe=>isT e.1)=true->((kvs.foldl (λd p=>jp d p.2.1 p.2.2) l).all λe=>isT e.1)=true/\(l≠ []\/ps≠ []->kvs.foldl (λd p=>jp d p.2.1 p.2.2) l≠ []):=by
  clear hn;induction h with
  |nil=>intro l z;exact⟨z,λq=>q.elim id λq=>absurd rfl q⟩
  |cons r t c=>
   intro l z;rw[aW];obtain⟨a,b⟩:=c _ (ag9 (v:=_) z (r.1.1▸r.1.2));exact⟨a,λ_=>b (.inl (age _ _ _))⟩
 exact⟨(go [] rfl).2 (.inr hn),(go [] rfl).1⟩
theorem a2b(r:X.calm=true)(x:X.A.units+70 < cLine):CB X (.type "dict") afd:=⟨_,aqj r (by lia),λas H s xs ds Q c rs h=>by
 unfold afd at h;split at h
 ·split at h
  ·split at h
   ·rename_i w ps b j;obtain⟨v,rfl,l⟩:=rs.one;obtain⟨p,vs,rfl,n,e,t⟩:=l.lst_inv;obtain⟨k,kvs,rfl,o,hr⟩:=apq t b;refine⟨p,k,kvs,rfl,SqL.of e,o,by rw[bV hr];exact j.1,λq H' a=>?_⟩;have m:=a4x hr j.2;refine h (.ref q) (as.add q) H' (vt a) (c.laid a (.inr ⟨zp kvs,m,a.at,(atz hr).mono (vt a)⟩)) (.ref (by simp[c.len]) λu d=>?_);rw[←c.len]at d;simp at d;exact d.symm
   ·exact h.elim
  ·exact h.elim
 ·exact h.elim⟩
end PF
namespace L2
open PySem PySem.Spec PyProof.Rows
section
variable{prog:aP}{w:aM}{A:bh}{E:ae->af->Prop}{s:af}{K:Type}[DecidableEq K]{knd:lR prog w K}
theorem ahc{d a:Addr}{xs:List (K×Addr×ae)}{k:K}{v:ae}(m:knd.room A)(b:knd.is s.heap k a)(hm:yj knd s.heap d xs)(t: ∀p,atKey xs k=some p->Q p.2 {s with toks:=s.toks+knd.draws k})(q:atKey xs k=none->∀h',yj knd h' d (storedH xs k a v)->bX d s.heap h'->Q v {s with heap:=h',toks:=s.toks+knd.draws k})(hsz:xs.length <=sizeLine):wpAny (model prog w) A (lN d (.ref a) v) Q E s:=by
 obtain⟨o,es,ep,ho,u,⟨hd,r⟩,l,h,hn⟩:=hm;unfold lN
 (try with_reducible refine bg ?_)
 refine ac (knd.pyHash m b (ac (mD (s:={s with toks:=s.toks+knd.draws k}) m b ho hd l h hn (λc=>?_) λj p n=>?_)))
 ·exact ac (b9 (ac (l6 (hz:=by have e:=f9 l;lia) (s:={s with toks:=s.toks+knd.draws k}) ho hd (ah (q (jR c) _ (ahr b ho u hd r l h hn (jR c) (mE c)) (cw ..))))))
 ·have e:=atKey_of_get hn n
  (refine ac (wpAny_dictEntries (s:={s with toks:=s.toks+knd.draws k}) ho hd ?_))
  rw[entry_at l j,n];exact ac (b9 (ah (t p e)))
theorem abx(d a:Addr)(hd:(d==bA)=false)(dflt:ae):
  MeetsIn prog w (dS.«dict.setdefault» ⟨[.ref d,.ref a,dflt],[]⟩) (λA R s=>knd.room A.in1/\ ∃k xs,knd.is s.heap k a/\yj knd s.heap d xs/\xs.length <=sizeLine/\
   (∀p,atKey xs k=some p->R (.ok (.ret p.2)) {s with toks:=s.toks+knd.draws k})/\
   (atKey xs k=none->∀h',yj knd h' d (storedH xs k a dflt)->bX d s.heap h'->R (.ok (.ret dflt)) {s with heap:=h',toks:=s.toks+knd.draws k})):=
 .of_wp λA R s ⟨j,k,xs,b,hm,hz,l,h⟩=>by
  (unfold dS.«dict.setdefault»)
  refine ac ?_
  (unfold Builtin.Dict.keyAndDefault)
  refine ac (fA hm.oh.typeIs ?_);show wpAny _ _ (pure (d,bi a,some dflt)) _ _ s;refine ah ?_;show wpAny _ _ (if (d==bA)=true then _ else (lN d (bi a) dflt >>=_)) _ _ s
  (rw[if_neg (by rw[hd];exact az)])
  exact ac (ahc j b hm (λp m=>ah ⟨p.2,rfl,l p m⟩) (λhn h' e c=>ah ⟨dflt,rfl,h hn h' e c⟩) hz)
end
end L2
namespace PF
open PySem PySem.Spec
open L2
variable[XW]
def aed:GM:=λd ds s=>match ds with
 | [kd,x]=>onD d s λn kvs=>match ahm kd with
  |some k=>if ki kvs k=true/\kvs.length < sizeLine then (match jo kvs k with
   |some v=>.ok v s
   |none=>.ok x (s.set n (.dct (j5 kvs k x)))) else .bad
  |none=>.bad
 |_=>.bad
theorem ahu(a b c:ae):argsOk "dict.setdefault" ⟨[a,b,c],[]⟩:=by
 first|exact PySem.F.args_dict_setdefault_3 a b c|exact rfl|decide
theorem azn(hu:X.A.units+70 < cLine):MB X "dict.setdefault" aed:=by
 refine⟨λx xs H Q=>∃as s d ds,Rel X.K as H s/\RD X.K as H x d/\RDs X.K as H xs ds/\Dn X.K (rD X.K) as H (aed d ds s) Q,λpins sh σ H x xs v us Q I rx rs ⟨as,s,d,ds,C,r1,r2,h⟩=>?_,λas H s x xs d ds Q C r1 r2 h=>⟨as,s,d,ds,C,r1,r2,h⟩⟩;unfold aed at h;split at h
 ·rename_i kd xd;obtain⟨y,z,rfl,ry,rz⟩:=r2.two;obtain⟨u,r,rfl,ru,rr⟩:=rs.two;obtain⟨p,n,kvs,rfl,rfl,S,e,ro,h⟩:=abk C r1 h;cases rx;split at h
  ·rename_i k hk;split at h
   ·rename_i L;obtain⟨L,F⟩:=L;have W:=ry.key_inv hk;rcases aah ro L with ⟨l,a,rfl,eh,dr⟩|⟨l,it,dd,dr⟩
    ·have hl:l.length < sizeLine:=by rw[←agh,dr.len];exact F
     obtain⟨zz,hd,vs,rel,m⟩:=aeo I.hok eh;have hz:vs.length <=sizeLine:=by rw[←rel.length];exact zz
     have D:=rel.val a;cases E:jo kvs (kP a) with
     |some dv=>
      rw[E]at h;obtain⟨U,Z,M⟩:=(dr.get (kP a)).1 dv E;rw[acf]at Z;obtain⟨w',hw,N⟩:=vy.some_of (v:=U) (o:=valueAt vs a) (by rw[←Z];exact D);refine dm cf m.typeIs dF (ahu _ _ _) (mF (jx X.prog X.w) p (aas (aaq W ru)) hd r) ⟨vs,m,hz,λv j=>?_,λhn=>by rw[hw]at hn;cases hn⟩;rw[hw]at j;cases j;exact⟨U,H,I.tok _,N,Dn.now (Q:=Q) h C M⟩
     | none=>
      rw[E]at h;have en:=(dr.get (kP a)).2 E;rw[acf]at en;have O:valueAt vs a=none:=by
       rw[en]at D;cases q:valueAt vs a with
       |none=>rfl
       |some _=>rw[q]at D;exact D.elim
      refine dm cf m.typeIs dF (ahu _ _ _) (mF (jx X.prog X.w) p (aas (aaq W ru)) hd r) ⟨vs,m,hz,λv j=>(by rw[O]at j;cases j),λ_ h' t hs=>?_⟩;have J:(jp l a z).length <=sizeLine:=by have:=vh l a z;lia
      have he: ∃q,h'.get? p=some q:=let ⟨q,_,_,P,_⟩:=t;⟨q,P⟩;have c:Chg H p (.dK (jp l a z)) (upd H p (.dK (jp l a z))):=⟨rfl⟩;have st:=yf (j4.mpr ⟨n,S⟩) (λq=>C.hx p q (j4.mpr ⟨n,S⟩)) c;refine⟨z,_,aaw I (by rw[eh];exact eB) hs he (ai8 J hd (rel.put a rr) t),rr,?_⟩;refine ac6 (v:=z) C S c (.inl ⟨_,c.at,?_⟩) rz h;rw[ai3];exact(dr.put rz (kP a)).mono st
    ·obtain⟨V,Y,ks,rfl⟩:=yx it;obtain⟨b,rfl⟩:=abp W;cases ru;have hl:l.length < sizeLine:=by rw[dr.len];exact F
     obtain⟨zz,hd,xs,rel,m⟩:=dd.rs I.hok;have hz:xs.length <=sizeLine:=by rw[←bV rel];exact zz
     have D:=rel.val (.tuple ks);have kd:=ac2 I.hok V (TD.kd W Y);cases E:jo kvs (.tuple ks) with
     |some dv=>
      rw[E]at h;obtain⟨U,Z,M⟩:=(dr.get (.tuple ks)).1 dv E;obtain⟨w',hw,N⟩:=vy.some_of (v:=U) (o:=(atKey xs (.tuple ks)).map (·.2)) (by rw[←Z];exact D);obtain⟨q,P,hq2⟩:=gU.mp hw;refine dm cf m.oh.typeIs dF (ahu _ _ _) (abx (knd:=kf X.prog X.w) p b hd r) ⟨aad (by lia),.tuple ks,xs,kd,m,hz,λq' j=>?_,λhn=>by rw[P]at hn;cases hn⟩;rw[P]at j;cases j;exact⟨U,H,I.tok _,hq2▸N,Dn.now (Q:=Q) h C M⟩
     | none=>
      rw[E]at h;have en:=(dr.get (.tuple ks)).2 E;have O:atKey xs (.tuple ks)=none:=by
       rw[en]at D;cases q:atKey xs (.tuple ks) with
       |none=>rfl
       |some _=>rw[q]at D;exact D.elim
      refine dm cf m.oh.typeIs dF (ahu _ _ _) (abx (knd:=kf X.prog X.w) p b hd r) ⟨aad (by lia),.tuple ks,xs,kd,m,hz,λq' j=>(by rw[O]at j;cases j),λ_ h' t hs=>?_⟩;have J:(jp l (.tuple ks) z).length <=sizeLine:=by have:=vh l (.tuple ks) z;lia
      have he: ∃q,h'.get? p=some q:=let ⟨q,_,_,P,_⟩:=t;⟨q,P⟩;have ht: ∀c ys,H c=some (.tup ys)->upd H p (.dD (jp l (.tuple ks) z)) c=some (.tup ys):=λc ys q=>by
       rw[j7 (λy=>by subst y;rcases dd with e|⟨e,_⟩ <;> (rw[e]at q;cases q))];exact q
      have c:Chg H p (.dD (jp l (.tuple ks) z)) (upd H p (.dD (jp l (.tuple ks) z))):=⟨rfl⟩;have st:=yf (j4.mpr ⟨n,S⟩) (λq=>C.hx p q (j4.mpr ⟨n,S⟩)) c;refine⟨z,_,aaw I dd.mut hs he (amw J hd (rel.put V (TD.kd W Y) rr) ht t),rr,?_⟩;exact ac6 (v:=z) C S c (.inr ⟨_,⟨age _ _ _,ag9 (alp ro dd) it⟩,c.at,(dr.put rz _).mono st⟩) rz h
   ·exact h.elim
  ·exact h.elim
 ·exact h.elim
end PF
namespace PF
open PySem PySem.Spec
open L2
variable[XW]
end PF
namespace PF
open PySem PySem.Spec
open L2
variable[XW]
end PF
namespace PF
open PySem PySem.Spec
open L2
variable[XW]
end PF
namespace PF
open PySem PySem.Spec
open L2
variable[XW]
end PF
namespace PF
open PySem PySem.Spec L2
theorem u70{k:Nat}(hr:Room k A):A.units+70 < cLine:=by have:=hr.un;lia
section
variable{s:S}{m:Bool}{n:Nat}{x y:Str}{b:Bool}{xs ys:List aa}{ds es:List D}{d e v o:D}{ρ:En}{kvs:List (aa×D)}{k:aa}
def a6e(g:D->D->D->S->R D)(b e:FE)(ρ:En)(v:D)(s:S):R Fl:=(b ρ s).bind λo c=>(e ρ c).bind λi a=>(g o i v a).bind λ_ d=>.ok (.nx ρ) d
def a5b(g:D->D->D->S->R D)(c:FE)(ρ:En)(v o:D)(s:S):R Fl:=(c ρ s).bind λi a=>(g o i v a).bind λ_ b=>.ok (.nx ρ) b
def a3v(g:D->D->D->S->R D)(ρ:En)(v o i:D)(s:S):R Fl:=(g o i v s).bind λ_ a=>.ok (.nx ρ) a
theorem bdq{g:D->D->D->S->R D}{a:FE}:qv g fv fo a ρ s=(fv ρ s).bind (a6e g fo a ρ):=(rfl)
theorem bcc{g:D->D->D->S->R D}{a:FE}:a6e g fo a ρ v s=(fo ρ s).bind (a5b g a ρ v):=(rfl)
theorem bd7{g:D->D->D->S->R D}{a:FE}:a5b g a ρ v o s=(a ρ s).bind (a3v g ρ v o):=(rfl)
theorem bdb{g:D->D->D->S->R D}:a3v g ρ v o d s=(g o d v s).bind (akv ρ):=(rfl)
def a5v(g:GM)(a:FA)(ρ:En)(d:D)(s:S):R D:=onD d s λ_ _=>(a ρ s).bind λds b=>g d ds b
theorem bdj{g:GM}:fMd g fo fa ρ s=(fo ρ s).bind (a5v g fa ρ):=(rfl)
theorem yv{α:Type}{f:Nat->List (aa×D)->R α}(h:s[n]?=some (.dct kvs)):onD (.ref n) s f=f n kvs:=by
 show(match s[n]? with|some (O.dct kvs)=>f n kvs|_=>.bad)=_;rw[h]
theorem aku{g:GM}(h:s[n]?=some (.dct kvs)):a5v g fa ρ (.ref n) s=(fa ρ s).bind (avw g (.ref n)):=yv h
theorem ab9(h:s[n]?=some (.dct kvs))(hk:ki kvs k=true)(a:kvs.length < 16777216):vd (.ref n) (.da k) v s=.ok .non (s.set n (.dct (j5 kvs k v))):=by
 have e:vd (.ref n) (.da k) v s=yg (.ref n) (.da k) v s:=by unfold vd;simp only[h]
 rw[e];unfold yg;rw[yv h];exact if_pos ⟨hk,by rw[kx];exact a⟩
theorem apl(h:s[n]?=some (.dct kvs))(hk:ki kvs k=true):yp false (.da k) (.ref n) s=.ok (.bl (jo kvs k).isSome) s:=by
 have e:yp false (.da k) (.ref n) s=aj3 false (.da k) (.ref n) s:=by unfold yp;simp only[h]
 rw[e];unfold aj3;rw[yv h];exact if_pos hk
theorem aek(h:s[n]?=some (.dct kvs))(hk:ki kvs k=true):yp true (.da k) (.ref n) s=.ok (.bl (!(jo kvs k).isSome)) s:=by
 have e:yp true (.da k) (.ref n) s=aj3 true (.da k) (.ref n) s:=by unfold yp;simp only[h]
 rw[e];unfold aj3;rw[yv h];exact if_pos hk
theorem ag2(h:s[n]?=some (.dct kvs))(hk:ki kvs k=true):ac0 (.ref n) [.da k,d] s=.ok ((jo kvs k).getD d) s:=by
 unfold ac0;simp only[];rw[yv h];exact if_pos hk
theorem zo(h:s[n]?=some (.dct kvs))(hk:ki kvs k=true)(a:jo kvs k=some d):vk (.ref n) (.da k) s=.ok d s:=by
 have e:vk (.ref n) (.da k) s=aqx (.ref n) (.da k) s:=by unfold vk;simp only[h]
 rw[e];unfold aqx;rw[yv h];show(if ki kvs k=true then (match jo kvs k with|some v=>R.ok v s|none=>.bad) else .bad)=_;rw[if_pos hk,a]
theorem an0(h:s[n]?=some (.dct kvs)):aj9 s (.ref n)=some kvs:=by
 show(match s[n]? with|some (O.dct kvs)=>some kvs|_=>none)=_;rw[h]
theorem ah6(h:s[n]?=some (.dct kvs)):acr false [.ref n] s=.ok (.lst (kvs.map (·.1))) s:=by
 show(match aj9 s (.ref n) with|some (kvs:List (aa×D))=>qj false (kvs.map λe:aa×D=>D.da e.1) s|none=>ac3 false [.ref n] s)=_;rw[an0 h];show qj false (kvs.map λe:aa×D=>D.da e.1) s=_;rw[ank];exact adq
theorem bay:abc ρ s=.ok (.ref s.length) (s++ [.dct []]):=(rfl)
def kDp(n:Nat)(ps:List (D×D))(s:S):R D:=(putAll n ps s).bind λ_ a=>.ok (.ref n) a
def kP1(b:FE)(r:FP)(ρ:En)(k:D)(s:S):R (List (D×D)):=(b ρ s).bind λv c=>(r ρ c).bind λps a=>.ok ((k,v)::ps) a
def kP2(r:FP)(ρ:En)(k v:D)(s:S):R (List (D×D)):=(r ρ s).bind λps a=>.ok ((k,v)::ps) a
noncomputable def kP3(k v:D)(ps:List (D×D))(s:S):R (List (D×D)):=.ok ((k,v)::ps) s
theorem bbc{f:FP}:akt f ρ s=(f ρ (s++ [.dct []])).bind (kDp s.length):=(rfl)
theorem bas{a:FE}{r:FP}:acj a fv r ρ s=(a ρ s).bind (kP1 fv r ρ):=(rfl)
theorem bdp{r:FP}:kP1 fv r ρ d s=(fv ρ s).bind (kP2 r ρ d):=(rfl)
theorem bdv{r:FP}:kP2 r ρ d e s=(r ρ s).bind (kP3 d e):=(rfl)
theorem bdo{ps:List (D×D)}:kP3 d e ps s=.ok ((d,e)::ps) s:=(rfl)
theorem bc9:akw ρ s=.ok [] s:=(rfl)
theorem bbg{f:FA}:aqo f ρ s=(f ρ s).bind ai9:=(rfl)
theorem a09:ai9 [.tup xs,.tup ys] s=.ok ((xs.zip ys).map λp=>D.tup [p.1,p.2],none) s:=(rfl)
theorem aq8(c:xs.length < 64)(b:qw xs=true)(a:xs.all okD=true):yz false [.lst xs] s=.ok (.lst (vf xs)) s:=by
 show(match (some (xs.map D.da)).bind j2 with|some xs=>if xs.length < 64/\qw xs=true/\xs.all okD=true then qj false ((vf xs).map D.da) s else .bad|none=>.bad)=_;show(match j2 (xs.map D.da) with|some xs=>if xs.length < 64/\qw xs=true/\xs.all okD=true then qj false ((vf xs).map D.da) s else .bad|none=>.bad)=_;rw[vg];show(if xs.length < 64/\qw xs=true/\xs.all okD=true then qj false ((vf xs).map D.da) s else .bad)=_;rw[if_pos ⟨c,b,a⟩];exact adq
theorem ahv(h:s[n]?=some (.lst (xs.map D.da)))(b:xs.length < 64)(a:qw xs=true)(c:xs.all okD=true):yz false [.ref n] s=.ok (.lst (vf xs)) s:=by
 show(match (match s[n]? with|some (O.lst ds)=>some ds|_=>none).bind j2 with|some xs=>if xs.length < 64/\qw xs=true/\xs.all okD=true then qj false ((vf xs).map D.da) s else .bad|none=>.bad)=_;rw[h];show(match j2 (xs.map D.da) with|some xs=>if xs.length < 64/\qw xs=true/\xs.all okD=true then qj false ((vf xs).map D.da) s else .bad|none=>.bad)=_;rw[vg];show(if xs.length < 64/\qw xs=true/\xs.all okD=true then qj false ((vf xs).map D.da) s else .bad)=_;rw[if_pos ⟨b,a,c⟩];exact adq
theorem afj(h:s[n]?=some (.lst (xs.map D.da))):k8 [.ref n] s=.ok (.tup xs) s:=by
 show(match (match s[n]? with|some (O.lst ds)=>some ds|_=>none) with|some xs=>ahl xs s|none=>.bad)=_;rw[h];show(match j2 (xs.map D.da) with|some xs=>R.ok (D.tup xs) s|none=>.bad)=_;rw[vg]
theorem aik(h:s[n]?=some (.lst ds)):zg (.ref n) s=.ok (ds,some (n,.lst ds)) s:=by
 show(match s[n]? with|some (O.lst ds)=>R.ok (ds,some (n,O.lst ds)) s|_=>.bad)=_;rw[h]
theorem apm(h:s[n]?=some (.lst (xs.map D.da))):toP s (.ref n)=some (.list xs):=by
 show(match s[n]? with|some (O.lst ds)=>(j2 ds).map lA|_=>none)=_;rw[h];show(j2 (xs.map D.da)).map lA=_;rw[vg];rfl
end
noncomputable def ku(ks:List aa)(k:aa):List aa:=if k∈ks then ks else ks++ [k]
theorem anc{α:Type}(kvs:List (aa×α))(k:aa)(v:α):(j5 kvs k v).map (·.1)=ku (kvs.map (·.1)) k:=by
 unfold j5 ku;have e:(kvs.any λe=>decide (e.1=k))=decide (k∈kvs.map (·.1)):=by
  rw[bD,fO,decide_eq_true_eq,aO];constructor
  ·rintro⟨x,hx,h⟩;exact⟨x,hx,of_decide_eq_true h⟩
  ·rintro⟨x,hx,h⟩;exact⟨x,hx,decide_eq_true h⟩
 rw[e];by_cases c:k∈kvs.map (·.1)
 ·rw[if_pos (decide_eq_true c),if_pos c,aY]
  (refine fX λx _=>?_)
  show(if x.1=k then (x.1,v) else x).1=x.1;split <;> rfl
 ·rw[if_neg (λh=>c (of_decide_eq_true h)),if_neg c,cO];rfl
theorem vi{α:Type}(kvs:List (aa×α))(k j:aa)(v:α):jo (j5 kvs k v) j=if k=j then some v else jo kvs j:=by
 unfold j5;split
 ·rename_i c;induction kvs with
  |nil=>simp at c
  | cons x r l=>
   by_cases hx:x.1=k
   ·by_cases b:k=j
    ·subst b;rw[if_pos rfl];simp[jo,hx]
    ·have a:x.1≠j:=λz=>b (hx.symm.trans z)
     rw[if_neg b];by_cases hr:(r.any λe=>decide (e.1=k))=true
     ·have:=l hr;rw[if_neg b]at this;simp only[aw,if_pos hx];unfold jo at this⊢;rw[cT (by simpa using a),cT (by simpa using a)];exact this
     ·have m:r.map (λe=>if e.1=k then (e.1,v) else e)=r:=by
       refine(fX λy d=>?_).trans (List.map_id _);have: ¬y.1=k:=λz=>hr (fO.mpr ⟨y,d,decide_eq_true z⟩)
       rw[if_neg this];rfl
      simp only[aw,if_pos hx,m];unfold jo;rw[cT (by simpa using a),cT (by simpa using a)]
   ·have hr:(r.any λe=>decide (e.1=k))=true:=by
     rw[dC,decide_eq_false hx,mf]at c;exact c
    have:=l hr;simp only[aw,if_neg hx];unfold jo at this⊢;by_cases a:x.1=j
    ·have h: ¬k=j:=λz=>hx (a.trans z.symm)
     rw[if_neg h,lB (by simpa using a),lB (by simpa using a)]
    ·rw[cT (by simpa using a),cT (by simpa using a)];exact this
 ·rename_i c;have hn: ∀y∈kvs,y.1≠k:=λy d z=>c (fO.mpr ⟨y,d,decide_eq_true z⟩)
  unfold jo;rw[List.find?_append];by_cases b:k=j
  ·subst b;rw[if_pos rfl,List.find?_eq_none.mpr λy d=>by simpa using hn y d];simp
  ·rw[if_neg b];cases e:kvs.find? λe=>decide (e.1=j) with
   |some y=>rfl
   |none=>simp[b]
def axe(m:Bool)(js:List Nat)(k:Nat)(g:Tg)(d:FT)(b:FI)(c:Tg)(a:FT)(fe:FE)(ρ:En)(p:Wk)(s:S):R D:=chk p s ((ql g c d b a fe (bp k none++acm ρ js) p p.1 s).bind (yo m))
theorem bcv{m:Bool}{k:Nat}{a:FI}{c:Tg}{b:FT}:alx m js k fi g ft a c b fe ρ s=(fi ρ s).bind (axe m js k g ft a c b fe ρ):=(rfl)
theorem a64{m:Bool}{k:Nat}{a:FI}{c:Tg}{b:FT}{ds:List D}(e:bp k none++acm ρ js=ρ0):axe m js k g ft a c b fe ρ (ds,none) s=(ql g c ft a b fe ρ0 (ds,none) ds s).bind (yo m):=by
 subst e;exact xi
theorem a1z(h:xs.length <=16777216):yo false (xs.map D.da) s=.ok (.lst xs) s:=by
 unfold yo;rw[if_pos (by rw[kx,ao];exact h)];exact adq
theorem afa{g o:Tg}{p c:FT}{a:FI}{fe:FE}{ρ0:En}{all:List D}{Q:List D->S->Prop}(J:List D->List D->S->Prop)
  (step: ∀d r acc s,J (d::r) acc s->∃ρ1,qg g d ρ0=some ρ1/\v3 o ρ1=true/\(p ρ1 s).W λb k=>if b=true then (a ρ1 k).W λp2 n=>p2.2=none/\(ke o c fe ρ1 p2 p2.1 n).W λxs t=>J r (acc++xs) t else J r acc k) (fin: ∀acc s,J [] acc s->Q acc s):
  ∀(ds acc:List D) (s:S),J ds acc s->(ql g o p a c fe ρ0 (all,none) ds s).W λxs s'=>Q (acc++xs) s'
 |[],acc,s,h=>by
  show R.W (.ok [] s) _;rw[R.W_ok,aK];exact fin acc s h
 | d::r,acc,s,h=>by
  obtain⟨ρ1,e,v,w⟩:=step d r acc s h;rw[ql,e];show R.W ((p ρ1 s).calm.bind _) _;rw[R.W_bind,R.W_calm];refine R.W_mono w λb z q=>?_
  cases b with
  |false=>
   rw[if_neg az]at q⊢;rw[xi];exact afa J step fin r acc z q
  |true=>
   rw[if_pos rfl]at q⊢;rw[R.W_bind,R.W_calm];refine R.W_mono q λp2 k j=>?_
   obtain⟨l,j⟩:=j;obtain⟨x,m⟩:=p2;have l:m=none:=l;subst l;rw[if_pos v,xi,R.W_bind];refine R.W_mono j λxs n y=>?_
   rw[xi,R.W_bind];refine R.W_mono (afa J step fin r (acc++xs) n y) λA t u=>?_
   rw[R.W_ok];rw[bN]at u;exact u
theorem zq{g:Tg}{k:FT}{fe:FE}{ρ0:En}{all:List D}{s:S}{α:Type}(c:α->D)(p:α->Bool)(f:α->aa): ∀(l:List α),(∀a∈l,∃ρ1,qg g (c a) ρ0=some ρ1/\k ρ1 s=.ok (p a) s/\(p a=true->fe ρ1 s=.ok (.da (f a)) s)) ->
  ke g k fe ρ0 (all,none) (l.map c) s=.ok (((l.filter p).map f).map D.da) s
 |[],_=>rfl
 | a::r,h=>by
  obtain⟨ρ1,e,n,m⟩:=h a au;have j:=zq (all:=all) c p f r λb o=>h b (aq _ o)
  rw[aw,af9 e,n,R.calm_ok,R.bind_ok];cases d:p a with
  |false=>
   rw[av9,j,cI (by simp[d])]
  |true=>
   rw[amc,m d,R.calm_ok,R.bind_ok,att,j,R.bind_ok,ap1,eO d];rfl
end PF
namespace PF
open PySem PySem.Spec PyProof.Rows.KTD
open L2
section
variable{s:S}{n:Nat}{x y:Str}{xs:List aa}{ds:List D}{d:D}{ρ:En}{i j:Int}
theorem awz{ps:List (aa×aa)}(h:xs.mapM pairD=some ps)(a:ps.length < 4000):ady [.tup xs] s=.ok (.ref s.length) (s++ [.dct (ad2 ps)]):=by
 unfold ady;simp only[h];exact if_pos a
end
end PF
namespace PF
open PySem PySem.Spec
open L2
variable[XW]
end PF
namespace PF
open PySem PySem.Spec
open L2
variable[XW]
end PF
namespace PF
open PySem PySem.Spec
open L2
variable[XW]
end PF
namespace PF
open PySem PySem.Spec
open L2
variable[XW]
end PF
namespace PF
open PySem PySem.Spec
open L2
variable[XW]
end PF
namespace PF
open PySem PySem.Spec
open L2
variable[XW]
end PF
namespace PF
open PySem PySem.Spec
open PySem.SeqAt
variable[XW]
end PF
namespace L2
open PySem PySem.Spec PyProof.Rows
section
variable{X:Cx}{m:Str}{pos apos:Pos}{e o:Expr}{es:List Expr}{ta:TE}{t:TA}
def asx(X:Cx)(m:Str)(b:TE)(t:TA):TE:=λσ H Q=>b σ H λx H1=>∃a C dx fs f,x=.ref a/\H1 a=some (.ins C dx fs)/\Cls X.K C/\Meth X.K C m f/\fs.lookup m=none/\t σ H1 λvs H2=>a9d X f σ (x::vs) H2 Q
theorem awv{pl:Sem Bool}(A:PE X o ta)(v:PA X (e::es) t)
  (d:starEach (e::es) X.env=(false,eval e X.env)::starEach es X.env:=by rfl) (j:(backTo pos (starEach es X.env)).any (·.1)=false:=by rfl)
  (z:eval (.Call (.Attribute o m apos) (e::es) [] pos) X.env=(do
   let ov←eval o X.env
   standAt apos.atName
   let (f,first)←holding [ov] (mI ov m pl)
   callWith pos f first (backTo pos (starEach (e::es) X.env)) (backToKw pos (iN [] X.env))):=by rfl):
  PE X (.Call (.Attribute o m apos) (e::es) [] pos) (asx X m ta t):=by
 refine⟨?_⟩;intro b s σ H Q I h;refine PySem.W.methodCall_KW (pl:=pl) (thn (A b s σ H _ I h) λu F ⟨x,D,I1,p,a,C,dx,fs,f,ex,E,c,hm,l,q⟩=>?_) z;subst ex;obtain rfl:u=bi a:=p;refine apy I1 E c hm l ?_;refine iS (first:=[.ref a]) (h₀:=X.base) I.ok.mod.kin hm.kp (thn (v pos b F σ D _ I1 q) λw y ⟨vs,J,k,r,n⟩=>⟨k.kIn,?_⟩) d j;exact n b y (.ref a::w) k (.cons rfl r)
end
end L2
namespace PF
open PySem PySem.Spec
open L2
open PyProof.Rows (envOfC)
section XWs
variable[XW]
noncomputable def putN(f:Str)(d:D):List (Str×D)->List (Str×D)
 |[]=>[(f,d)]
 |(g,x)::r=>if g=f then (g,d)::r else (g,x)::putN f d r
theorem FRs.put{f:Str}{v:V}{d:D}(r:RD K as H v d): ∀{l:List (Str×V)} {fs:List (Str×D)},FRs K as H l fs->FRs K as H (v6 f v l) (putN f d fs)
 |_,_,.nil=>.cons r .nil
 |_,_,.cons a t=>by
  unfold v6 putN;split
  ·exact .cons r t
  ·exact .cons a (FRs.put r t)
theorem FRs.look{f:Str}: ∀{l:List (Str×V)} {fs:List (Str×D)},FRs K as H l fs->(∀d,fs.lookup f=some d->∃v,l.lookup f=some v/\RD K as H v d)/\(fs.lookup f=none->l.lookup f=none)
 |_,_,.nil=>⟨λd e=>(by cases e),λ_=>rfl⟩
 | _,_,.cons (f:=g) (v:=v) (d:=x) a t=>by
  have b:=FRs.look (f:=f) t;by_cases z:(f==g)=true
  ·refine⟨λd e=>⟨v,?_,?_⟩,λe=>?_⟩
   ·rw[b7,z]
   ·rw[b7,z]at e;cases e;exact a
   ·rw[b7,z]at e;cases e
  ·rw[fM]at z;refine⟨λd e=>?_,λe=>?_⟩
   ·rw[b7,z]at e;obtain⟨j,h,c⟩:=b.1 d e;exact⟨j,by rw[b7,z];exact h,c⟩
   ·rw[b7,z]at e;rw[b7,z];exact b.2 e
theorem FRs.len: ∀{l:List (Str×V)} {fs:List (Str×D)},FRs K as H l fs->l.length=fs.length
 |_,_,.nil=>rfl
 |_,_,.cons _ t=>congrArg (· +1) (FRs.len t)
def onI{α:Type}(d:D)(s:S)(k:Nat->Str->List (Str×D)->R α):R α:=match d with
 |.ref n=>match s[n]? with
  |some (.ins C fs)=>k n C fs
  |_=>.bad
 |_=>.bad
theorem ald{α β:Type}{rel:As->Hp->β->α->Prop}{d:D}{k:Nat->Str->List (Str×D)->R α}{Q:β->Hp->Prop}(b:Rel K as H s)(r:RD K as H v d)(h:Dn K rel as H (onI d s k) Q):
  ∃p n C fs,v=.ref p/\d=.ref n/\as.ix[n]?=some (some p)/\s[n]?=some (.ins C fs)/\RO K as H p (.ins C fs)/\Dn K rel as H (k n C fs) Q:=by
 cases r with
 | @ref p n l hr=>
  have h:Dn K rel as H (match s[n]? with|some (O.ins C fs)=>k n C fs|_=>.bad) Q:=h;split at h
  ·rename_i C fs e;obtain⟨q,a⟩:=b.li n _ e (by intro z;cases z);cases hr q a;exact⟨p,n,C,fs,rfl,rfl,a,e,b.ob n p _ a e,h⟩
  ·exact h.elim
 |_=>exact h.elim
structure ClsF (K:ak) (C:Str) (fl:List Str):Prop where
 ex: ∃Ca:Addr,bG K a7 C=some (some (.ref Ca))/\Cls K Ca/\ ∀f∈fl,xy K Ca f
theorem ClsF.at{fl:List Str}(c:ClsF K C fl)(e:bG K a7 C=some (some (.ref Ca))):Cls K Ca/\ ∀f∈fl,xy K Ca f:=by
 obtain⟨b,a,d⟩:=c.ex;rw[e]at a;cases a;exact d
abbrev abb:=List (Str×List Str)
noncomputable def acs(ct:abb)(C f:Str):Bool:=match ct.lookup C with
 |some fl=>fl.contains f
 |none=>false
structure CTabs (K:ak) (ct:abb):Prop where
 ok: ∀C fl,ct.lookup C=some fl->ClsF K C fl
theorem CTabs.at{ct:abb}(c:CTabs K ct){f:Str}(h:acs ct C f=true)(e:bG K a7 C=some (some (.ref Ca))):Cls K Ca/\xy K Ca f:=by
 unfold acs at h;split at h
 ·rename_i fl d;obtain⟨b,a⟩:=(c.ok C fl d).at e;exact⟨b,a f (by simpa using h)⟩
 ·cases h
def aw6(ct:abb)(f:Str)(d:D)(s:S):R D:=onI d s λ_ C fs=>if acs ct C f=true then match fs.lookup f with
  |some x=>.ok x s
  |none=>.bad
 else .bad
def afy(ct:abb)(f:Str)(a:FE):FE:=λρ s=>(a ρ s).bind (aw6 ct f)
theorem afo{ct:abb}{f:Str}(c:CTabs X.K ct)(ho:RE X o fo)(A:fR o f X.env (eval o X.env)=eval o X.env:=by rfl):RE X (.Attribute o f pos) (afy ct f fo):=by
 obtain⟨to,po,w⟩:=ho.ex;refine⟨_,a50 po A,λas σ H ρ s Q e y h=>?_⟩;refine w as σ H ρ s _ e y (Dn.bind h λd I r F v st1 b j z=>?_);obtain⟨p,n,C,fs,rfl,rfl,E,hs,⟨l,dx,m,t,u,fr⟩,a⟩:=ald b j z;split at a
 ·rename_i D;split at a
  ·rename_i x hx;obtain⟨c1,c2⟩:=c.at D t;obtain⟨v,k,q⟩:=(fr.look (f:=f)).1 x hx;exact⟨p,l,dx,m,v,rfl,u,c1,c2,k,Dn.now (Q:=Q) a b q⟩
  ·exact a.elim
 ·exact a.elim
def akm(ct:abb)(f:Str)(b c:FE):FS:=λρ s=>(c ρ s).bind λx e=>(b ρ e).bind λd a=>onI d a λn C fs=>if acs ct C f=true/\fs.length < 1000 then .ok (.nx ρ) (a.set n (.ins C (putN f x fs))) else .bad
theorem a0w{dx:Addr}{f:Str}{a:List (Str×V)}{fs:List (Str×D)}{x:D}(d:Rel K as H s)(b:as.ix[n]?=some (some p))(h:bG K a7 C=some (some (.ref Ca)))(fr:FRs K as H a fs)(e:RD K as H v x):
  Step as H as (upd H p (.ins Ca dx (v6 f v a)))/\Rel K as (upd H p (.ins Ca dx (v6 f v a))) (s.set n (.ins C (putN f x fs))):=by
 have c:Chg H p (.ins Ca dx (v6 f v a)) (upd H p (.ins Ca dx (v6 f v a))):=⟨rfl⟩;have st:=yf (j4.mpr ⟨n,b⟩) (λz=>d.hx p z (j4.mpr ⟨n,b⟩)) c;exact⟨st,d.chg b c ⟨Ca,dx,_,h,c.at,(fr.put e).mono0 st.toStep0⟩⟩
theorem auo{ct:abb}{f:Str}{a:Expr}{b:Pos}(c:CTabs X.K ct)(ho:RE X o fo)(F:RE X a fv)(hs:eS a (some (.Attribute o f b)) pos.line X.env=pure false:=by rfl):RS X (.Assign [.Attribute o f b] a pos) (akm ct f fo fv):=by
 obtain⟨to,po,P⟩:=ho.ex;obtain⟨V,pv,M⟩:=F.ex;refine⟨_,a3e po pv hs,λas σ H ρ s D v q h=>?_⟩;refine M as σ H ρ s _ v q (Dn.bind h λx S m N y st1 j w Q=>?_);refine P m σ N ρ S _ j (q.mono st1) (Dn.bind Q λd U k W z st2 e E A=>?_);obtain⟨p,n,C,fs,rfl,rfl,I,hs,⟨J,dx,L,t,O,fr⟩,r⟩:=ald e E A;split at r
 ·rename_i u;obtain⟨c1,c2⟩:=c.at u.1 t;obtain⟨st,l⟩:=a0w (dx:=dx) (f:=f) e I t fr (w.mono st2);exact⟨p,J,dx,L,rfl,O,c1,c2,by rw[fr.len];exact u.2,r (FV.nx σ) k _ st l (.nx (((q.mono st1).mono st2).mono st))⟩
 ·exact r.elim
structure MethF (P:aP) (w:aM) (K:ak) (mg:Str->Option ae) (base:Heap) (C m:Str) (k n:Nat) (F:FF):Prop where
 ex: ∃(Ca f:Addr) (fd:dI) (ps:List Str),bG K a7 C=some (some (.ref Ca))/\Cls K Ca/\Meth K Ca m f/\FnOk P w K mg base (CX1 P w) k f fd ps (spF K n F)/\Binds K fd ps []
structure InitF (P:aP) (w:aM) (K:ak) (mg:Str->Option ae) (base:Heap) (C:Str) (k n:Nat) (F:FF):Prop where
 ex: ∃(Ca f:Addr) (fd:dI) (ps:List Str),bG K a7 C=some (some (.ref Ca))/\mg C=some (.ref Ca)/\Mk K Ca f/\FnOk P w K mg base (CX1 P w) k f fd ps (spF K n F)/\Binds K fd ps []
abbrev afq:=List (Str×Nat×FF)
structure MTabs (X:Cx) (m:Str) (mt:afq):Prop where
 ok: ∀C n F,mt.lookup C=some (n,F)->∃k,MethF X.prog X.w X.K X.mg X.base C m k n F/\Room k X.A
theorem MTabs.nil{m:Str}:MTabs X m []:=⟨λC n F e=>by cases e⟩
theorem MTabs.cons{m:Str}{k:Nat}{F:FF}{mt:afq}(h:MethF X.prog X.w X.K X.mg X.base C m k n F)(hr:Room k X.A)(t:MTabs X m mt):MTabs X m ((C,n,F)::mt):=⟨λD a b e=>by
 rw[b7]at e;split at e
 ·rename_i q;cases e;rw[eq_of_beq q];exact⟨k,h,hr⟩
 ·exact t.ok D a b e⟩
def agc(m:Str)(mt:afq)(b:FE)(e:FA):FE:=λρ s=>(b ρ s).bind λd a=>onI d a λ_ C fs=>match mt.lookup C,fs.lookup m with
 |some (n,F),none=>(e ρ a).bind λds c=>if ds.length+1=n then (F (d::ds) c).at ρ else .bad
 |_,_=>.bad
theorem awl{m:Str}{mt:afq}{to:TE}{t:TA}(hx:XOk X XW.xk)(hm:MTabs X m mt)(V:aax X.K to fo)(O:ar2 X.K t fa):aax X.K (asx X m to t) (agc m mt fo fa):=by
 intro as σ H ρ s Q D l h;refine V as σ H ρ s _ D l (Dn.bind h λd s1 j P v st1 a u W=>?_);obtain⟨p,n,C,fs,rfl,rfl,ha,hs,⟨J,dx,M,S,U,fr⟩,b⟩:=ald a u W;split at b
 ·rename_i N F x L;obtain⟨k,⟨Z,f,fd,ps,r,z,Y,A,g4⟩,hr⟩:=hm.ok C N F x;rw[S]at r;cases r;refine⟨p,J,dx,M,f,rfl,U,z,Y,(fr.look (f:=m)).2 L,O j σ P ρ s1 _ a (l.mono st1) (Dn.bind b λds E c H2 vs st2 e w o=>?_)⟩;split at o
  ·rename_i hn;intro q sh us I y;refine avl A hr g4 .nil hx.pass I y ⟨by rw[aK,aE,w.length];exact hn,c,.ref n::ds,E,e,?_,o.at ((l.mono st1).mono st2)⟩;rw[aK];exact .cons (u.mono st2) w
  ·exact o.elim
 ·exact b.elim
theorem apg{m:Str}{mt:afq}{a:Pos}{pl:Sem Bool}(hm:MTabs X m mt)(ho:RE X o fo)(d:RA X (e::es) fa)(hx:XOk X XW.xk:=by assumption)(c:starEach (e::es) X.env=(false,eval e X.env)::starEach es X.env:=by rfl)(b:(backTo pos (starEach es X.env)).any (·.1)=false:=by rfl)(k:eval (.Call (.Attribute o m a) (e::es) [] pos) X.env=(do
   let ov←eval o X.env
   standAt a.atName
   let (f,first)←holding [ov] (mI ov m pl)
   callWith pos f first (backTo pos (starEach (e::es) X.env)) (backToKw pos (iN [] X.env))):=by rfl):RE X (.Call (.Attribute o m a) (e::es) [] pos) (agc m mt fo fa):=by
 obtain⟨to,po,l⟩:=ho.ex;obtain⟨n,h,j⟩:=d.ex;exact⟨_,awv po h c b k,awl hx hm l j⟩
def akl(C:Str)(n:Nat)(F:FF)(c:FA):FE:=λρ s=>(c ρ s).bind λds a=>if ds.length+1=n then ((F (.ref a.length::ds) (a++ [.ins C []])).at ρ).bind λd b=>match d with
  |.da .none=>.ok (.ref a.length) b
  |_=>.bad
 else .bad
theorem axw{f:Addr}{fd:dI}{ps:List Str}{k:Nat}{F:FF}{z:TA}(O:bG X.K a7 C=some (some (.ref Ca)))(N:ar2 X.K z fa):aax X.K (azp Ca (spF X.K n F) [] (XE.sk XW.xk) z) (akl C n F fa):=by
 intro as σ H ρ s Q J E h;refine N as σ H ρ s _ J E (Dn.bind h λds I a b vs st1 c A y=>?_);split at y
 ·rename_i hn;intro x dx nx m ne;have n1:New b dx (.own x) (upd b dx (.own x)):=⟨m,rfl⟩;have n2:New (upd b dx (.own x)) x (.ins Ca dx []) (upd (upd b dx (.own x)) x (.ins Ca dx [])):=⟨by rw[j7 (bu ne)];exact nx,rfl⟩;have p:=c.new n1;have st2:Step a b a (upd b dx (.own x)):=kt n1;have w:Step a (upd b dx (.own x)) (a.add x) (upd (upd b dx (.own x)) x (.ins Ca dx [])):=vt n2;have r:=p.laid (u:=.ins C []) n2 ⟨Ca,dx,[],O,n2.at,.nil⟩;have st:=st2.trans w;have D:RD X.K (a.add x) (upd (upd b dx (.own x)) x (.ins Ca dx [])) (.ref x) (.ref I.length):=.ref (by simp[c.len]) λq e=>by
   rw[←c.len]at e;simp at e;exact e.symm
  refine⟨by rw[aK,aE,A.length];exact hn,a.add x,.ref I.length::ds,_,r,?_,?_⟩
  ·rw[aK];exact .cons D (A.mono st)
  ·refine Dn.at (ρ:=ρ) (Dn.bind (Dn.step y st) λd P M S v l j L o=>?_) ((E.mono st1).mono st);split at o
   ·cases L with
    |da t=>cases t;exact⟨rfl,Dn.now (Q:=Q) o j (D.mono l)⟩
   ·exact o.elim
 ·exact y.elim
theorem a2j{k:Nat}{F:FF}{p:Pos}(c:InitF X.prog X.w X.K X.mg X.base x k n F)(hr:Room (k+1) X.A)(o:RA X (e::es) fa)(hx:XOk X XW.xk:=by assumption)(r:Gl X x:=by rfl)(d:(x==("__debug__":Str))=false:=by decide)(q:starEach (e::es) X.env=(false,eval e X.env)::starEach es X.env:=by rfl)(a:(backTo pos (starEach es X.env)).any (·.1)=false:=by rfl):RE X (.Call (.Name x p) (e::es) [] pos) (akl x n F fa):=by
 obtain⟨u,f,fd,ps,m,hm,M,j,b⟩:=c.ex;obtain⟨t,h,l⟩:=o.ex;exact⟨_,a0y M j hr r hm b .nil hx.pass h d q a,axw (f:=f) (fd:=fd) (ps:=ps) (k:=k) m l⟩
end XWs
noncomputable def aqk(st:Stmt)(j:Nat):Stmt:=match st with
 |.ClassDef (body:=b) ..=>b.getD j (.Pass ⟨0,0,0,0⟩)
 |_=>.Pass ⟨0,0,0,0⟩
structure HasM (K:ak) (C m q:Str) (st:Stmt) (ps:List Str):Prop where
 ex: ∃(Ca f:Addr) (fd:dI),bG K a7 C=some (some (.ref Ca))/\Cls K Ca/\Meth K Ca m f/\Fun K m q st f fd/\Binds K fd ps []
structure HasI (K:ak) (mg:Str->Option ae) (C q:Str) (st:Stmt) (ps:List Str):Prop where
 ex: ∃(Ca f:Addr) (fd:dI),bG K a7 C=some (some (.ref Ca))/\mg C=some (.ref Ca)/\Mk K Ca f/\Fun K "__init__" q st f fd/\Binds K fd ps []
section
variable{P:aP}{w:aM}{K:ak}{mg:Str->Option ae}{base:Heap}{x q C:Str}{st:Stmt}{N ps:List Str}{k:Nat}
theorem fnQ{f:Addr}(F:Fun K x q st f fd)(S:FnScope N ps (jh st))(hm:N.length=m)(hn:ps.length=n)(a:BodyOk P w K mg base N q st k fb):FnOk P w K mg base (CX1 P w) (k+1) f fd ps (spF K n (k9 m fb)):=
 F.okX S (λvs H Q E h=>by rw[hn];exact h.1) λb A outer s H vs Q E hr h=>ajk hm a f b A outer s H vs Q E hr h
theorem ayw(h:HasM K C x q st ps)(S:FnScope N ps (jh st))(hm:N.length=m)(hn:ps.length=n)(a:BodyOk P w K mg base N q st k fb):MethF P w K mg base C x (k+1) n (k9 m fb):=by
 obtain⟨e,f,fd,d,c,M,F,b⟩:=h.ex;exact⟨e,f,fd,ps,d,c,M,fnQ F S hm hn a,b⟩
theorem a6t(h:HasI K mg C q st ps)(S:FnScope N ps (jh st))(hm:N.length=m)(hn:ps.length=n)(a:BodyOk P w K mg base N q st k fb):InitF P w K mg base C (k+1) n (k9 m fb):=by
 obtain⟨e,f,fd,d,c,M,F,b⟩:=h.ex;exact⟨e,f,fd,ps,d,c,M,fnQ F S hm hn a,b⟩
end
end PF
namespace PF
open PySem PySem.Spec
open L2
variable[XW]
end PF
namespace PF
open PySem PySem.Spec
open L2
variable[XW]
theorem u66{k:Nat}(hr:Room k X.A):X.A.units+66 < cLine:=by have:=u70 hr;lia
end PF
namespace PF
open PySem L2
theorem Ext.own{k:Nat}{o:O}(h:Ext s s')(hk:s.length <=k):Ext s (s'.set k o):=by
 obtain⟨g,rfl⟩:=h.ex;exact⟨g.set (k - s.length) o,by rw[ie _ _ hk]⟩
end PF
namespace PF
open PySem PySem.Spec PyProof.Rows
open L2
variable[XW]
end PF
namespace PF
open PySem L2
variable{ρ:En}{s:S}{ct:abb}{f m C:Str}{n k:Nat}{fs:List (Str×D)}{x d:D}
theorem a73:afy ct f fo ρ s=(fo ρ s).bind (aw6 ct f):=(rfl)
theorem ac7(h:s[n]?=some (.ins C fs))(a:acs ct C f=true)(b:fs.lookup f=some x):aw6 ct f (.ref n) s=.ok x s:=by
 show(match s[n]? with|some (.ins C fs)=>(if acs ct C f=true then (match fs.lookup f with|some x=>R.ok x s|none=>.bad) else .bad)|_=>.bad)=_;rw[h];show(if acs ct C f=true then (match fs.lookup f with|some x=>R.ok x s|none=>.bad) else .bad)=_;rw[if_pos a,b]
def ang(ct:abb)(f:Str)(ρ:En)(x d:D)(a:S):R Fl:=onI d a λn C fs=>if acs ct C f=true/\fs.length < 1000 then .ok (.nx ρ) (a.set n (.ins C (putN f x fs))) else .bad
def au9(ct:abb)(f:Str)(b:FE)(ρ:En)(x:D)(a:S):R Fl:=(b ρ a).bind (ang ct f ρ x)
theorem a3i:akm ct f fo fv ρ s=(fv ρ s).bind (au9 ct f fo ρ):=(rfl)
theorem a04:au9 ct f fo ρ x s=(fo ρ s).bind (ang ct f ρ x):=(rfl)
theorem alw(h:s[n]?=some (.ins C fs))(b:acs ct C f=true)(a:fs.length < 1000):ang ct f ρ x (.ref n) s=.ok (.nx ρ) (s.set n (.ins C (putN f x fs))):=by
 show(match s[n]? with|some (.ins C fs)=>(if acs ct C f=true/\fs.length < 1000 then R.ok (Fl.nx ρ) (s.set n (.ins C (putN f x fs))) else .bad)|_=>.bad)=_;rw[h];show(if acs ct C f=true/\fs.length < 1000 then R.ok (Fl.nx ρ) (s.set n (.ins C (putN f x fs))) else .bad)=_;rw[if_pos ⟨b,a⟩]
def ayx(m:Str)(mt:afq)(c:FA)(ρ:En)(d:D)(a:S):R D:=onI d a λ_ C fs=>match mt.lookup C,fs.lookup m with
 |some (n,F),none=>(c ρ a).bind λds b=>if ds.length+1=n then (F (d::ds) b).at ρ else .bad
 |_,_=>.bad
def aip(n:Nat)(F:FF)(ρ:En)(d:D)(ds:List D)(a:S):R D:=if ds.length+1=n then (F (d::ds) a).at ρ else .bad
theorem a67{mt:afq}:agc m mt fo fa ρ s=(fo ρ s).bind (ayx m mt fa ρ):=(rfl)
theorem anf{mt:afq}{F:FF}(h:s[n]?=some (.ins C fs))(a:mt.lookup C=some (k,F))(b:fs.lookup m=none):ayx m mt fa ρ (.ref n) s=(fa ρ s).bind (aip k F ρ (.ref n)):=by
 show(match s[n]? with|some (.ins C fs)=>(match mt.lookup C,fs.lookup m with|some (k,F),none=>(fa ρ s).bind (aip k F ρ (.ref n))|_,_=>.bad)|_=>.bad)=_;rw[h];show(match mt.lookup C,fs.lookup m with|some (k,F),none=>(fa ρ s).bind (aip k F ρ (.ref n))|_,_=>.bad)=_;rw[a,b]
noncomputable def anm(n:Nat)(d:D)(a:S):R D:=match d with
  |.da .none=>.ok (.ref n) a
  |_=>.bad
def azk(C:Str)(n:Nat)(F:FF)(ρ:En)(ds:List D)(a:S):R D:=if ds.length+1=n then ((F (.ref a.length::ds) (a++ [.ins C []])).at ρ).bind (anm a.length) else .bad
theorem a4f{F:FF}:akl C n F fa ρ s=(fa ρ s).bind (azk C n F ρ):=(rfl)
theorem a1p:anm n (.da .none) s=.ok (.ref n) s:=(rfl)
end PF
namespace PF
open PySem PySem.Spec
open L2
variable[XW]
end PF
namespace L2
open PySem PySem.Spec PyProof.Rows
noncomputable def Itk(a:Addr)(n:Nat):It:=
 ⟨λi H=>∃kvs,DD H a kvs/\kvs.length=n/\i < n,λi H x H'=>H'=H/\ ∀kvs,DD H a kvs->∃k v,kvs[i]?=some (k,v)/\KD H x k,λi H=>∃kvs,DD H a kvs/\kvs.length=n/\n <=i⟩
theorem DD.inj{a:Addr}{l m:List (aa×V)}(x:DD H a l)(y:DD H a m):l=m:=by
 rcases x with x|⟨x,e⟩
 ·rcases y with y|⟨y,e⟩
  ·rw[x]at y;cases y;rfl
  ·rw[x]at y;cases y
 ·rcases y with y|⟨y,b⟩
  ·rw[x]at y;cases y
  ·rw[e,b]
theorem KE.at{kvs:List (aa×V)}{xs:List (aa×Addr×ae)}(r:KE H kvs xs): ∀(i:Nat) (p:aa×V),kvs[i]?=some p->∃q,xs[i]?=some q/\KD H (.ref q.2.1) p.1:=by
 induction r with
 |nil=>intro i p e;cases e
 | @cons p q ps c h t a=>
  intro i b e;cases i with
  |zero=>cases e;exact⟨q,rfl,h.2.1.2⟩
  |succ i=>exact a i b e
theorem avm{w:aM}(a r:Addr)(n:Nat):Turn P w K tg (Itk a n) [r] r (λi h=>h.IsKeyIter r a i n n) where
 mem:=by simp
 obj:=λi h st b m=>by
  cases aA.mp m;obtain⟨o,e,c,d⟩:=st;exact⟨o,e,λv z=>by rw[d]at z;cases z⟩
 keep:=λi h h' st k=>st.at λo e=>k r (by simp) o e
 item:=by
  intro X C J U W i j s σ H E I A st S;subst C J U;obtain⟨kvs,y,hn,u⟩:=S;obtain⟨z,hS,xs,rel,o,es,ep,N,F,⟨O,l⟩,x,h5,h6⟩:=y.rs I.hok;have sz:es.size=n:=by rw[f9 x,←hn];exact(bV rel).symm
  subst l sz;obtain⟨V,M,f2,D,Q,L⟩:=A r (by simp);obtain⟨p,Y⟩: ∃p,kvs[i]?=some p:=⟨kvs[i],av (by lia)⟩;obtain⟨q,hq,kd⟩:=KE.at rel i p Y;have ek:es[i].key=bi q.2.1:=by
   have Z:=entry_at x i;rw[hq,f8 u]at Z;rw[bv Z];rfl
  refine amt st ⟨o,N,F,O⟩ u λh' t sb=>?_
  have I1:Inv X j σ H {s with heap:=h'}:=I.turned (t':=s.toks) (λb o m e=>(sb.2 b m).trans e) V M D Q L;obtain⟨o',e,c,d⟩:=id t;exact⟨_,rfl,akp (s:={s with heap:=h'}) e c d (by decide) ⟨.ref q.2.1,H,I1,ek,⟨rfl,λys hy=>by rw[hy.inj y];exact⟨p.1,p.2,Y,kd⟩⟩,t,λb m=>(A b m).1⟩⟩
 done:=by
  intro X C J U W i j s σ H E I A st S;subst C J U;obtain⟨kvs,y,hn,u⟩:=S;obtain⟨z,hS,xs,rel,o,es,ep,N,F,⟨O,l⟩,x,h5,h6⟩:=y.rs I.hok;have sz:es.size=n:=by rw[f9 x,←hn];exact(bV rel).symm
  subst l sz;obtain⟨V,M,f2,D,Q,L⟩:=A r (by simp);exact anq (I.ok.hd W) st ⟨o,N,F,O⟩ u λh' eb=>⟨rfl,I.turned (t':=s.toks) (λb o m e=>eb b o m e) V M D Q L⟩
 self:=λ_ _ _ _ _ st h=>lZ st h
def a6u(b:TE):TI:=λσ H R=>b σ H λx H1=>∃a kvs,x=.ref a/\DD H1 a kvs/\R (Itk a kvs.length) H1
theorem a1d{l:Expr}{m:TE}(u:PE X l m):PI X tg l (a6u m):=by
 intro c s σ H R I h;refine thn (u c s σ H _ I h) λv d ⟨x,k,I1,p,a,kvs,e,w,q⟩=>?_
 subst e;cases p;obtain⟨z,t,xs,rel,o,es,ep,A,r,⟨C,j⟩,n,E,F⟩:=w.rs I1.hok;have sz:es.size=kvs.length:=by rw[f9 n];exact(bV rel).symm
 have D: ∀b∈ [d.heap.objs.size],zt X c k b:=λb y=>by
  cases aA.mp y;exact I1.fpOk (aj _) (I1.hok.fresh (aj _))
 refine al1 t ⟨o,A,r,C⟩ ?_;rw[j,sz];exact⟨d.heap.objs.size,[d.heap.objs.size],_,_,k,rfl,I1.kept (t':=d.toks) λb o e=>ag _ e,avm a _ _,⟨_,aD _ rfl,rfl,rfl⟩,D,q⟩
end L2
namespace PF
open PySem PySem.Spec
open L2
variable[XW]
def amo(d:D)(s:S):R Wk:=match d with
 |.ref n=>match s[n]? with
  |some (.dct kvs)=>if (kvs.all λe=>isT e.1)=true then .ok (kvs.map (λe=>D.da e.1),some (n,.dct kvs)) s else .bad
  |_=>.bad
 |_=>.bad
def axi(f:FE):FI:=λρ s=>(f ρ s).bind amo
theorem atc{kvs:List (aa×D)}(h:s[n]?=some (.dct kvs))(a:(kvs.all λe=>isT e.1)=true):amo (.ref n) s=.ok (kvs.map (λe=>D.da e.1),some (n,.dct kvs)) s:=by
 show(match s[n]? with|some (O.dct kvs)=>if (kvs.all λe=>isT e.1)=true then R.ok (kvs.map (λ(e:aa×D)=>D.da e.1),some (n,O.dct kvs)) s else .bad|_=>.bad)=_;rw[h];exact if_pos a
section
variable{X:Cx}{tg a:Expr}{fa:FE}
theorem aoi{kvs:List (aa×D)}(h:RO K as H p (.dct kvs))(b:(kvs.all λe=>isT e.1)=true): ∃l:List (aa×V),DD H p l/\DRs K as H l kvs:=by
 have hs:ki kvs (.tuple [])=true:=by
  unfold ki;rw[b,show isT (.tuple [])=true by decide];simp
 rcases aah h hs with ⟨l,a,e,_⟩|⟨l,_,c,dr⟩
 ·cases a <;> cases e
 ·exact⟨l,c,dr⟩
theorem ba7(h:RE X a fa):RI X tg a (axi fa):=by
 obtain⟨t,p,r⟩:=h.ex;refine⟨_,a1d p,λas σ H ρ s Q o en h=>?_⟩;refine r as σ H ρ s _ o en (Dn.bind h λd P E H1 v st1 j Z b=>?_);cases Z with
 | @ref pp n l hr=>
  have b:Dn X.K (aec X.K) E H1 (match P[n]? with|some (O.dct kvs)=>if (kvs.all λe=>isT e.1)=true then R.ok (kvs.map (λe=>D.da e.1),some (n,O.dct kvs)) P else R.bad|_=>R.bad) Q:=b;split at b
  ·rename_i kvs e;split at b
   ·rename_i I;obtain⟨q,N⟩:=j.li n _ e (by intro z;cases z);cases hr q N;obtain⟨V,F,m⟩:=aoi (j.ob n _ _ N e) I;refine⟨_,_,rfl,F,Dn.now (Q:=Q) b j λas2 H2 s2 st o so i=>?_⟩;have u:s2[n]?=some (O.dct kvs):=so;obtain⟨U,w⟩:=o.li _ _ u (by intro z;cases z);have A:=w;rcases st.old _ l with z|z
    ·rw[z]at A;cases hr U A;obtain⟨C,c,y⟩:=aoi (o.ob _ _ _ w u) I;have M:C.length=V.length:=by rw[m.len,y.len]
     refine⟨λL=>⟨C,c,M,?_⟩,λd hd=>?_⟩
     ·rw[ao]at L;rw[m.len];exact L
     ·rw[aT]at hd;obtain⟨e,J,ed⟩:=gU.mp hd;have Y:i < kvs.length:=(am.mp J).1;refine⟨⟨C,c,M,by rw[m.len];exact Y⟩,λx H3 S=>?_⟩;obtain⟨rfl,hx⟩:=S;obtain⟨k,v,hk,kd⟩:=hx C c;have W:e.1=k:=by
       have b:=congrArg (λl=>l[i]?) y.keys;simp only[aT,hk,J,Option.map_some]at b;exact(bv b).symm
      rw[←ed,W];exact⟨Step.refl _ _,o,.da (KD.td o kd)⟩
    ·rw[z]at A;cases A
   ·exact b.elim
  ·exact b.elim
 |_=>exact b.elim
end
end PF
namespace PF
open PySem PySem.Spec
open L2
open PyProof.Rows (envOfC)
section XWs
variable[XW]
end XWs
end PF
namespace L2
open PySem PySem.Spec PyProof.Rows EX
noncomputable def a9i(j:Nat)(D:Ends):Ends:={nx:=λσ H=>D.nx (σ.set j none) H,rt:=D.rt,bk:=λσ H=>D.bk (σ.set j none) H,ct:=λσ H=>D.ct (σ.set j none) H}
def hE(K:ak)(b:Addr)(j:Option Nat)(a:TS)(D:Ends):XE:=λσ p H=>∃C fs,H p=some (.exx C fs)/\ClsX K C/\PySem.W.exmOne K (.ref C) (.ref b)=some true/\match j with
 |none=>a D σ H
 |some j=>a (a9i j D) (σ.set j (some (.ref p))) H
variable{X:Cx}{e:Expr}{es:List Expr}{p pos tp:Pos}{k:ExprContext}{te:TE}
end L2
namespace PF
open PySem PySem.Spec
open L2 EX
variable[XW]
end PF
namespace PF
open PySem PySem.Spec
open L2
variable[XW]
end PF
namespace Ln
open PySem L2 PF
def top(i:Nat):Stmt:=PySem.Challenge.pw_mannerports_k27_rows_had.main.body.getD i (.Pass ⟨0,0,0,0⟩)
abbrev aeu:Stmt:=top 1
abbrev afg:Stmt:=top 2
abbrev alq:Stmt:=top 3
abbrev aiq:Stmt:=top 4
abbrev agx:Stmt:=aqk (top 5) 0
abbrev aex:Stmt:=aqk (top 5) 1
abbrev abj:Stmt:=aqk (top 5) 2
abbrev agv:Stmt:=top 7
abbrev agt:Stmt:=top 8
abbrev af8:Stmt:=top 9
abbrev agw:Stmt:=top 10
abbrev agr:Stmt:=top 11
abbrev adx:Stmt:=top 12
abbrev aez:Stmt:=top 13
abbrev ags:Stmt:=top 14
abbrev af3:Stmt:=top 15
abbrev ak9:Stmt:=top 16
abbrev aan:Stmt:=top 17
abbrev abl:Stmt:=top 18
abbrev aey:Stmt:=top 19
abbrev aet:Stmt:=top 20
abbrev aew:Stmt:=top 21
abbrev ahw:Stmt:=top 22
abbrev abe:Stmt:=top 23
abbrev ct:abb:=[("Goer",["by_ports","gone"])]
structure Txt0 (K:ak) (mg:Str->Option ae):Prop where
 ct:CTabs K ct
 h_machine_has:Has K mg "machine_has" aeu ["machine","row"]
 h_things_for:Has K mg "things_for" afg ["tie","held","passing"]
 h_doings:Has K mg "doings" alq ["step","held","passing"]
 h_stand_by:Has K mg "stand_by" aiq ["step","held","way"]
 h_Goer_init:HasI K mg "Goer" "Goer.__init__" agx ["self","machine"]
 h_Goer_behind:HasM K "Goer" "behind" "Goer.behind" aex ["self","stand","moment"]
 h_Goer_behind_anew:HasM K "Goer" "behind_anew" "Goer.behind_anew" abj ["self","stand","moment"]
 h__law_tape:Has K mg "_law_tape" agv ["_law_script"]
 h__law_draw:Has K mg "_law_draw" agt ["_law_tape_here","_law_many"]
 h__law_names:Has K mg "_law_names" af8 ["_law_tape_here","_law_many"]
 h__law_told:Has K mg "_law_told" agw ["_law_tape_here","_law_things"]
 h__law_step:Has K mg "_law_step" agr ["_law_tape_here","_law_things","_law_ports","_law_boxes","_law_places"]
 h__law_machine:Has K mg "_law_machine" adx ["_law_tape_here","_law_things","_law_ports","_law_most"]
 h__law_doings:Has K mg "_law_doings" aez ["_law_ties","_law_held"]
 h__law_done:Has K mg "_law_done" ags ["_law_step_here","_law_held","_law_things"]
 h__law_moves:Has K mg "_law_moves" af3 ["_law_machine_here","_law_stand"]
 h__law_on:Has K mg "_law_on" ak9 ["_law_moves_here"]
 h__law_machine_world:Has K mg "_law_machine_world" aan ["_law_machine_here"]
 h__law_machine_led:Has K mg "_law_machine_led" abl ["_law_world","_law_stands"]
 h__law_walked:Has K mg "_law_walked" aey ["_law_tape_here","_law_machine_here","_law_many"]
 h__law_moment:Has K mg "_law_moment" aet ["_law_tape_here","_law_machine_here"]
 h__law_spoilt:Has K mg "_law_spoilt" aew ["_law_tape_here","_law_machine_here","_law_row"]
 h__law_due:Has K mg "_law_due" ahw ["_law_world","_law_row"]
 h_law:Has K mg "law" abe ["_law_script"]
 n_len:mg "len"=none
 n_min:mg "min"=none
 n_repr:mg "repr"=none
 n_sorted:mg "sorted"=none
 n_list:mg "list"=none
 n_tuple:mg "tuple"=none
 n_dict:mg "dict"=none
 n_range:mg "range"=none
 n_str:mg "str"=none
 n_int:mg "int"=none
 n_zip:mg "zip"=none
local macro_rules | `(tactic| walk_at $s:str) =>do
 let n := s.getString
 unless n.startsWith "ok" do Lean.Macro.throwUnsupported
 let x := (n.drop 2).toString
 let i (p : String) := cj (p ++ x).toName
 let sc := cj `sc
 let hr := cj `hr
 `(tactic| (have $sc:ident := $(i "sc"); exact arl $(i "T.h_") $sc rfl rfl λf cdv A outer s H E I hx $hr =>by unfold $(i "B"):ident; walk_at "dr"))
local macro_rules | `(tactic| walk_at "cl") =>do
 let T := cj `T
 let ns := "ao1 okthings_for awq okstand_by afx akg a3b ok_law_tape ok_law_draw ok_law_names ok_law_told ok_law_step ok_law_machine ok_law_done ok_law_moves ok_law_on ok_law_machine_world ok_law_machine_led ok_law_walked ok_law_moment ok_law_spoilt ok_law_due"
 let a : iw `tactic ← `(tactic| first | assumption | exact $(cj `ok_law_doings) $T _)
 let r ← (ns.splitOn " ").foldrM (init := a) λn (acc : iw `tactic) =>`(tactic| first | exact $(cj n.toName) $T | $acc:tactic)
 return r
theorem axf:xx X scope [] []:=trivial
theorem av5{a:List Str}(h:art X scope y j)(k:xx X scope a js):xx X scope (y::a) (j::js):=⟨h,k⟩
local macro_rules | `(tactic| walk_at "dr") =>do
 let T := cj `T
 let hr := cj `hr
 let sc := cj `sc
 let ns := "jj:_ acu: a7h:??? aga:?? zb:? adf:_? a9h:_??? ag0: bb5: akz: bch:??? adt: bbj:? bcb:? a5c:??? bbi:??|jm:?? j3:|kr:?? qz:? aj5:|afp:? aqi:??? aps:? baz:??? a4s:??|avg:???|bbt:?? a9z:? bb8:? bcw:??|zy:? ba7:?|xa:????|ba5:? ban:|amk: a9u:?"
 let q ← `(?_)
 let u ← `(_)
 let gs ← (ns.splitOn "|").mapM λl =>do
  let e ← `(tactic| fail)
  (l.splitOn " ").foldrM (init := e) λx (acc : iw `tactic) =>do
   let p := x.splitOn ":"
   let f := cj p.head!.toName
   let as := (p.getLast!.toList.map λc =>if c == '?' then q else u).toArray
   if as.isEmpty then `(tactic| first | exact $f | $acc:tactic) else `(tactic| first | refine $f $as* | $acc:tactic)
 let g (i : Nat) : iw `tactic := gs.getD i ⟨.missing⟩
 `(tactic|
  ((repeat' first
 | (show RE _ _ _; first
  | $(g 0):tactic
  | refine aqu (by walk_at "cl") (($hr).mono (by first | decide | lia)) ?_
  | refine abz aiz ($T).n_tuple ao3 ?_
  | refine aht azf ($T).n_len azd ?_
  | refine ase (ath (u70 $hr)) ?_ ?_
  | refine akn gq gu ahj ?_ ?_
  | refine aht (a3m $hr) ($T).n_repr a4z ?_
  | refine aht (ax0 _ (u70 $hr)) ($T).n_sorted an2 ?_
  | refine abz (am2 true) ($T).n_list aih ?_
  | refine akn PySem.F.slot_list_extend PySem.F.type_list_extend ayl ?_ ?_
  | refine akr cb lO (atv (u70 $hr)) ?_ ?_
  | exact apw (u70 $hr) (adg (zb (jm (zb j3) (jm (jj 1) j3))) akz asy)
  | refine abz (aj6 false (($hr).hd)) ($T).n_list aih ?_
  | refine akr cf iL (azn (u70 $hr)) ?_ ?_
  | refine as0 false $hr (u70 $hr) ($T).n_sorted ($T).n_str ?_
  | refine abz (a2b rfl (u70 $hr)) ($T).n_dict at9 ?_
  | exact apw (u70 $hr) (adg ag0 ag0 (adg ag0 (jj 0) (adg ag0 (zb (jm (aga (jj 0) acu) j3)) (adg ag0 adt asy))))
  | refine aht (a8i rfl) ($T).n_min a6w ?_
  | refine abz a79 ($T).n_int a75 ?_
  | refine' azh _ (own := [_]) (caps := _) _ _ _ _ _ _ _ _ _ _ _
  | refine' azh _ (own := [_, _]) (caps := _) _ _ _ _ _ _ _ _ _ _ _)
 | (show RA _ _ _; first
  | $(g 1):tactic
  | exact au3 rfl)
 | (show RSs _ _ _; first
  | $(g 2):tactic)
 | (show RS _ _ _; first
  | refine' awc _ (own := [_]) (caps := _) _ _ _ _ _ _ _ _ _ _ _ _ _ _ _
  | $(g 3):tactic
  | refine zw ?_ rfl (by first | exact b6 rfl | exact dZ rfl) ?_
  | refine aap rfl ?_ ?_ ?_
  | refine ado (ae1 (u70 $hr)) ?_ ?_ ?_)
 | (show RT _ _ _; first
  | $(g 4):tactic
  | refine RW.rt ?_)
 | (show RW _ _ _; first
  | $(g 5):tactic)
 | (show RI _ _ _ _; first
  | $(g 6):tactic
  | refine a6j ($T).n_range ?_
  | refine a29 ($T).n_zip ?_)
 | (show RG _ _ _; first
  | $(g 7):tactic
  | refine azl rfl ?_ ?_)
 | (show ROp _ _ _; first
  | $(g 8):tactic)
 | (show RIfs _ _ _; first
  | $(g 9):tactic)
 | (show Op2 _ _ _; with_reducible first | refine a4h ?_ | refine a9v ?_ | refine a7k ?_ | refine a94 ?_ | refine azv ?_ | refine alh ?_ | exact az2 _ | exact a7t | exact a8z | exact a3f | exact a9f | exact a0z | exact a95 | exact a77 | exact a7m | exact a87 | exact a7x)
 | (show _ < cLine; first | exact u64 $hr | exact u65 $hr | exact u66 $hr | exact u70 $hr)
 | exact b6 ⟨rfl, rfl⟩
 | exact axf
 | refine' av5 ⟨rfl, by first | exact dZ (b6 rfl) | exact b6 rfl | exact dZ (dZ rfl), rfl, rfl⟩ _
 | (show _ = _; exact rfl)
 | (show Loc _ _; first | exact b6 rfl | exact dZ rfl)
 | (show _ \/ _; first | exact b6 rfl | exact dZ rfl)
 | (intro _ _ _ _ _ _; show RE _ _ _)
 | (intro _ _ _ _; show RG _ _ _)
 | (intro _ _ _ _ _ _; show RIfs _ _ _)
 | (intro _ _ _ _; show RI _ _ _ _)); all_goals first | exact($sc).nd | exact(show(_ ++ _ : List Str).Nodup by decide +kernel)))
variable{P:aP}{w:aM}{K:ak}{mg:Str->Option ae}{base:Heap}
def ae8:FS:=
  (jd (akm ct "by_ports" (ja 0) abc)
  (jd (ko (fIt (fOp gIx (ja 1) (fC (.da (.int 4))))) (.nm 2) (qq (fMt kc (fMd aed (afy ct "by_ports" (ja 0)) (jb (jq (jb (fOp gIx (ja 2) (fC (.da (.int 0)))) (jb (fOp gIx (ja 2) (fC (.da (.int 1)))) jc))) (jb (kz true jc) jc))) (jb (ja 2) jc))))
  (akm ct "gone" (ja 0) abc)))
def aby:FF:=k9 3 ae8
theorem aqe:aby [a0,a1] s=(ae8 [some a0,some a1,none] s).bind qk:=rfl
theorem ah1:FnScope ["self","machine","step"] ["self","machine"] (jh agx):=⟨rfl,rfl,rfl,by decide+kernel,rfl,by decide+kernel,by decide+kernel⟩
theorem ao1(T:Txt0 K mg):InitF P w K mg base "Goer" 1 2 aby:=by
 exact a6t (k:=0) T.h_Goer_init ah1 rfl rfl (λf a A outer s H E I hx hr=>
   (kr (auo T.ct (jj 0) adt)
   (kr (aap rfl (zy (aga (jj 1) acu)) (xa (i:=2) ah1.nd rfl (b6 rfl)) (qz (aps (akn gq gu ahj (akr cf iL (azn (u70 hr)) (afo T.ct (jj 0)) (jm (zb (jm (aga (jj 2) acu) (jm (aga (jj 2) acu) j3))) (jm (adf true j3) j3))) (jm (jj 2) j3)))))
   (qz (auo T.ct (jj 0) adt)))))
def Bthings_for:FS:=
  (jd (al4 (.t2 (.nm 3) (.nm 4)) (ja 0))
  (jd (ko (fIt (ja 3)) (.t2 (.nm 5) (.nm 6)) (jv (ji (fOp gEq (ja 5) (fC (.da (.str "box"))))) (jk 4 (fLc false [1,6] 1 (fIt (ja 4)) (.nm 0) (ji (fOp gEq (ja 0) (fOp gIx (ja 1) (ja 2)))) (ja 0))) (jv (zm (ji (fOp gEq (ja 5) (fC (.da (.str "port"))))) (ji (fOp (yp false) (ja 6) (ja 2)))) (jk 4 (fLc false [2,6] 1 (fIt (ja 4)) (.nm 0) (ji (fOp gEq (ja 0) (fOp vk (ja 1) (ja 2)))) (ja 0))) jn)))
  (ka (ja 4))))
def zx:FF:=k9 7 Bthings_for
theorem ao2:zx [a0,a1,a2] s=(Bthings_for [some a0,some a1,some a2,none,none,none,none] s).bind qk:=rfl
theorem scthings_for:FnScope ["tie","held","passing","spots","left","word","at"] ["tie","held","passing"] (jh afg):=⟨rfl,rfl,rfl,by decide+kernel,rfl,by decide+kernel,by decide+kernel⟩
theorem okthings_for(T:Txt0 K mg):CalF P w K mg base "things_for" 1 3 zx:=by walk_at "okthings_for"
def aiv:FS:=
  (jd (jk 3 (kz true jc))
  (jd (ko (fIt (fOp gIx (ja 0) (fC (.da (.int 2))))) (.nm 4) (jd (jk 5 (jf 3 zx (jb (ja 4) (jb (ja 1) (jb (ja 2) jc)))))
  (jd (jv (aib (arp (ja 5))) (ka (kz false jc)) jn)
  (qq (fMt kc (ja 3) (jb (ja 5) jc))))))
  (jd (jk 6 (kz false (jb (jq jc) jc)))
  (jd (ko (fIt (ja 3)) (.nm 5) (jk 6 (alx false [5] 2 (fIt (ja 6)) (.nm 0) vw (fIt (ja 2)) (.nm 1) vw (fOp (jt false) (ja 0) (jq (jb (ja 1) jc))))))
  (ka (ja 6))))))
def ac8:FF:=k9 7 aiv
theorem a0v:ac8 [a0,a1,a2] s=(aiv [some a0,some a1,some a2,none,none,none,none] s).bind qk:=rfl
theorem aa3:FnScope ["step","held","passing","choices","tie","choice","ways"] ["step","held","passing"] (jh alq):=⟨rfl,rfl,rfl,by decide+kernel,rfl,by decide+kernel,by decide+kernel⟩
theorem awq(T:Txt0 K mg):CalF P w K mg base "doings" 2 3 ac8:=by
 have a:=okthings_for (P:=P) (w:=w) (base:=base) T
 exact arl (k:=1) T.h_doings aa3 rfl rfl (λf b A outer s H E I hx hr=>
   (kr (zw (i:=3) aa3.nd rfl (b6 rfl) (adf true j3))
   (kr (aap rfl (zy (aga (jj 0) acu)) (xa (i:=4) aa3.nd rfl (b6 rfl)) (kr (zw (i:=5) aa3.nd rfl (dZ rfl) (aqu a (hr.mono (by decide)) (jm (jj 4) (jm (jj 1) (jm (jj 2) j3)))))
   (kr (aqi (a61 (a52 (jj 5))) (qz (afp (adf false j3))) aj5)
   (qz (aps (akn gq gu ahj (jj 3) (jm (jj 5) j3)))))))
   (kr (zw (i:=6) aa3.nd rfl (b6 rfl) (adf false (jm (zb j3) j3)))
   (kr (aap rfl (zy (jj 3)) (xa (i:=5) aa3.nd rfl (dZ rfl)) (qz (asn false (own:=["way","thing"]) (caps:=["choice"]) (js:=[5]) (i:=6) rfl aa3.nd rfl rfl rfl rfl rfl rfl rfl (⟨⟨rfl,dZ (b6 rfl),rfl,rfl⟩,trivial⟩) rfl rfl (zy (jj 6)) (λ_ _ _ _=>(xa (i:=0) (show(["way","thing","choice"]:List Str).Nodup by decide+kernel) rfl (b6 rfl) (dZ rfl))) (λI _ _ _ _ hx=>amk) (λI _ _ _ _ hx=>(zy (jj 2))) (λ_ _ _ _=>(xa (i:=1) (show(["way","thing","choice"]:List Str).Nodup by decide+kernel) rfl (b6 rfl) (dZ rfl))) (λI _ _ _ _ hx=>amk) (λI _ _ _ _ hx=>(a7h (az2 false) (jj 0) (zb (jm (jj 1) j3)))))))
   (qz (afp (jj 6))))))))
def Bstand_by:FS:=
  (jd (jk 3 (fCB (ac3 true) (jb (ja 1) jc)))
  (jd (ko (fIt (fOp gIx (ja 0) (fC (.da (.int 2))))) (.t2 (.nm 4) (.nm 5)) (ko (fIt (ja 4)) (.t2 (.nm 6) (.nm 7)) (jv (ji (fOp gEq (ja 6) (fC (.da (.str "box"))))) (aao (fC (.da (.none))) (ja 3) (ja 7)) jn)))
  (jd (ko (aqo (jb (fOp gIx (ja 0) (fC (.da (.int 2)))) (jb (ja 2) jc))) (.t2 (.t2 (.nm 4) (.nm 5)) (.nm 8)) (ko (fIt (ja 4)) (.t2 (.nm 6) (.nm 7)) (jv (ji (fOp gEq (ja 6) (fC (.da (.str "next"))))) (aao (ja 8) (ja 3) (ja 7)) jn)))
  (ka (jq (jb (fOp gIx (ja 0) (fC (.da (.int 3)))) (jb (fCB k8 (jb (ja 3) jc)) jc)))))))
def aak:FF:=k9 9 Bstand_by
theorem at0:aak [a0,a1,a2] s=(Bstand_by [some a0,some a1,some a2,none,none,none,none,none,none] s).bind qk:=rfl
theorem scstand_by:FnScope ["step","held","way","behind","spots","told","word","at","thing"] ["step","held","way"] (jh aiq):=⟨rfl,rfl,rfl,by decide+kernel,rfl,by decide+kernel,by decide+kernel⟩
theorem okstand_by(T:Txt0 K mg):CalF P w K mg base "stand_by" 1 3 aak:=by walk_at "okstand_by"
def zu:FS:=
  (jd (al4 (.t2 (.nm 3) (.nm 4)) (ja 1))
  (jd (jk 5 (fCB ady (jb (ja 2) jc)))
  (jd (jk 6 abc)
  (jd (jv (ji (fOp gEq (ja 2) (jq jc))) (qv vd (fC (.da (.bool true))) (ja 6) (ja 1)) jn)
  (jd (ko (fIt (fMd ac0 (afy ct "by_ports" (ja 0)) (jb (jq (jb (ja 3) (jb (fCB adk (jb (ja 5) jc)) jc))) (jb (kz false jc) jc)))) (.nm 7) (ko (fIt (jf 3 ac8 (jb (ja 7) (jb (ja 4) (jb (ja 5) jc))))) (.nm 8) (qv vd (fC (.da (.bool true))) (ja 6) (jf 3 aak (jb (ja 7) (jb (ja 4) (jb (ja 8) jc)))))))
  (ka (fCB (acr false) (jb (ja 6) jc))))))))
def xq:FF:=k9 9 zu
theorem ago:xq [a0,a1,a2] s=(zu [some a0,some a1,some a2,none,none,none,none,none,none] s).bind qk:=rfl
theorem qb:FnScope ["self","stand","moment","place","held","passing","behind","step","way"] ["self","stand","moment"] (jh abj):=⟨rfl,rfl,rfl,by decide+kernel,rfl,by decide+kernel,by decide+kernel⟩
theorem afx(T:Txt0 K mg):MethF P w K mg base "Goer" "behind_anew" 3 3 xq:=by
 have b:=awq (P:=P) (w:=w) (base:=base) T;have a:=okstand_by (P:=P) (w:=w) (base:=base) T
 exact ayw (k:=2) T.h_Goer_behind_anew qb rfl rfl (λf c A outer s H E I hx hr=>
   (kr (a4s (jj 1) (azl rfl (xa (i:=3) qb.nd rfl (b6 rfl)) (xa (i:=4) qb.nd rfl (b6 rfl))))
   (kr (zw (i:=5) qb.nd rfl (b6 rfl) (abz (a1b rfl) T.n_dict at9 (jm (jj 2) j3)))
   (kr (zw (i:=6) qb.nd rfl (b6 rfl) adt)
   (kr (aqi (avg (a4h (u64 hr)) (jj 2) (zb j3)) (qz (ado (ae1 (u70 hr)) akz (jj 6) (jj 1))) aj5)
   (kr (aap rfl (zy (akr cb lO (atv (u70 hr)) (afo T.ct (jj 0)) (jm (zb (jm (jj 3) (jm (abz (axt hr.hd) T.n_tuple ao3 (jm (jj 5) j3)) j3))) (jm (adf false j3) j3)))) (xa (i:=7) qb.nd rfl (b6 rfl)) (qz (aap rfl (zy (aqu b (hr.mono (by decide)) (jm (jj 7) (jm (jj 4) (jm (jj 5) j3))))) (xa (i:=8) qb.nd rfl (b6 rfl)) (qz (ado (ae1 (u70 hr)) akz (jj 6) (aqu a (hr.mono (by decide)) (jm (jj 7) (jm (jj 4) (jm (jj 8) j3)))))))))
   (qz (afp (abz (aj6 false hr.hd) T.n_list aih (jm (jj 6) j3))))))))))
def acn:FS:=
  (jd (jv (ji (fOp (yp true) (jq (jb (ja 1) (jb (ja 2) jc))) (afy ct "gone" (ja 0)))) (qv vd (agc "behind_anew" [("Goer",3,xq)] (ja 0) (jb (ja 1) (jb (ja 2) jc))) (afy ct "gone" (ja 0)) (jq (jb (ja 1) (jb (ja 2) jc)))) jn)
  (ka (fOp vk (afy ct "gone" (ja 0)) (jq (jb (ja 1) (jb (ja 2) jc))))))
def zd:FF:=k9 3 acn
theorem anh:zd [a0,a1,a2] s=(acn [some a0,some a1,some a2] s).bind qk:=rfl
theorem aki:FnScope ["self","stand","moment"] ["self","stand","moment"] (jh aex):=⟨rfl,rfl,rfl,by decide+kernel,rfl,by decide+kernel,by decide+kernel⟩
theorem akg(T:Txt0 K mg):MethF P w K mg base "Goer" "behind" 4 3 zd:=by
 have a:=afx (P:=P) (w:=w) (base:=base) T
 exact ayw (k:=3) T.h_Goer_behind aki rfl rfl (λf b A outer s H E I hx hr=>
   (kr (aqi (avg (alh (u70 hr)) (zb (jm (jj 1) (jm (jj 2) j3))) (afo T.ct (jj 0))) (qz (ado (ae1 (u70 hr)) (apg (MTabs.cons a (hr.mono (by decide)) MTabs.nil) (jj 0) (jm (jj 1) (jm (jj 2) j3))) (afo T.ct (jj 0)) (zb (jm (jj 1) (jm (jj 2) j3))))) aj5)
   (qz (afp (ase (ath (u70 hr)) (afo T.ct (jj 0)) (zb (jm (jj 1) (jm (jj 2) j3))))))))
def ad0:FS:=
  (jd (jk 2 (akl "Goer" 2 aby (jb (ja 0) jc)))
  (jd (jk 3 (kz false (jb (fOp gIx (ja 0) (fC (.da (.int 3)))) jc)))
  (jd (ko (fIt (ja 1)) (.nm 4) (jd (jk 5 abc)
  (jd (ko (fIt (ja 3)) (.nm 6) (ko (fIt (agc "behind" [("Goer",3,zd)] (ja 2) (jb (ja 6) (jb (ja 4) jc)))) (.nm 7) (qv vd (fC (.da (.bool true))) (ja 5) (ja 7))))
  (jk 3 (fCB (acr false) (jb (ja 5) jc))))))
  (ka (fOp gGt (fCB xp (jb (ja 3) jc)) (fC (.da (.int 0))))))))
def vx:FF:=k9 8 ad0
theorem ano:vx [a0,a1] s=(ad0 [some a0,some a1,none,none,none,none,none,none] s).bind qk:=rfl
theorem va:FnScope ["machine","row","goer","stands","moment","behind","stand","each"] ["machine","row"] (jh aeu):=⟨rfl,rfl,rfl,by decide+kernel,rfl,by decide+kernel,by decide+kernel⟩
theorem a3b(T:Txt0 K mg):CalF P w K mg base "machine_has" 5 2 vx:=by
 have b:=ao1 (P:=P) (w:=w) (base:=base) T;have a:=akg (P:=P) (w:=w) (base:=base) T
 exact arl (k:=4) T.h_machine_has va rfl rfl (λf c A outer s H E I hx hr=>
   (kr (zw (i:=2) va.nd rfl (b6 rfl) (a2j b (hr.mono (by decide)) (jm (jj 0) j3)))
   (kr (zw (i:=3) va.nd rfl (b6 rfl) (adf false (jm (aga (jj 0) acu) j3)))
   (kr (aap rfl (zy (jj 1)) (xa (i:=4) va.nd rfl (b6 rfl)) (kr (zw (i:=5) va.nd rfl (b6 rfl) adt)
   (kr (aap rfl (zy (jj 3)) (xa (i:=6) va.nd rfl (b6 rfl)) (qz (aap rfl (zy (apg (MTabs.cons a (hr.mono (by decide)) MTabs.nil) (jj 2) (jm (jj 6) (jm (jj 4) j3)))) (xa (i:=7) va.nd rfl (b6 rfl)) (qz (ado (ae1 (u70 hr)) akz (jj 5) (jj 7))))))
   (qz (zw (i:=3) va.nd rfl (b6 rfl) (abz (aj6 false hr.hd) T.n_list aih (jm (jj 5) j3)))))))
   (qz (afp (a5c a3f (aht azf T.n_len azd (jm (jj 3) j3)) acu)))))))
def B_law_tape:FS:=
  (ka (kz true (jb (fSl false (ja 0) fNo (kj (fC (.da (.int 63))))) (jb (fC (.da (.int 0))) (jb (fC (.da (.int 0))) jc)))))
def aat:FF:=k9 1 B_law_tape
theorem aq6:aat [a0] s=(B_law_tape [some a0] s).bind qk:=rfl
theorem sc_law_tape:FnScope ["_law_script"] ["_law_script"] (jh agv):=⟨rfl,rfl,rfl,by decide+kernel,rfl,by decide+kernel,by decide+kernel⟩
theorem ok_law_tape(T:Txt0 K mg):CalF P w K mg base "_law_tape" 1 1 aat:=by walk_at "ok_law_tape"
def B_law_draw:FS:=
  (jd (jv (ji (fOp gGt (fOp gIx (ja 0) (fC (.da (.int 2)))) (fC (.da (.int 0))))) (jd (jk 2 (fOp aab (fOp gIx (ja 0) (fC (.da (.int 2)))) (ja 1)))
  (jd (aao (fOp aix (fOp gIx (ja 0) (fC (.da (.int 2)))) (ja 1)) (ja 0) (fC (.da (.int 2))))
  (ka (ja 2)))) jn)
  (jd (jk 3 (fOp gIx (ja 0) (fC (.da (.int 1)))))
  (jd (aao (fOp (jt false) (ja 3) (fC (.da (.int 1)))) (ja 0) (fC (.da (.int 1))))
  (jd (jk 4 (fC (.da (.int 0))))
  (jd (jv (ji (fOp gGt (fCB xp (jb (fOp gIx (ja 0) (fC (.da (.int 0)))) jc)) (fC (.da (.int 0))))) (jk 4 (fOp gIx (fOp gIx (ja 0) (fC (.da (.int 0)))) (fOp aab (ja 3) (fCB xp (jb (fOp gIx (ja 0) (fC (.da (.int 0)))) jc))))) jn)
  (jd (jv (ji (fOp gGe (ja 4) (fOp an1 (fC (.da (.int 10))) (fC (.da (.int 18)))))) (jd (aao (fOp aix (ja 4) (ja 1)) (ja 0) (fC (.da (.int 2))))
  (ka (fOp aab (ja 4) (ja 1)))) jn)
  (jd (jk 5 (fOp aab (fOp zv (fOp (jt false) (fOp (jt false) (fOp (jt false) (fOp aab (ja 4) (fC (.da (.int 1000003)))) (fOp zv (fOp zv (fC (.da (.int 37))) (ja 3)) (ja 3))) (fOp zv (fC (.da (.int 101))) (ja 3))) (fC (.da (.int 7)))) (fC (.da (.int 48271)))) (fC (.da (.int 2147483587)))))
  (jd (jk 5 (fOp aab (fOp (jt false) (fOp zv (ja 5) (fC (.da (.int 69621)))) (fOp zv (fC (.da (.int 7919))) (ja 3))) (fC (.da (.int 2147483549)))))
  (ka (fOp aab (fOp aix (ja 5) (fC (.da (.int 64)))) (ja 1)))))))))))
def jg:FF:=k9 6 B_law_draw
theorem aqg:jg [a0,a1] s=(B_law_draw [some a0,some a1,none,none,none,none] s).bind qk:=rfl
theorem sc_law_draw:FnScope ["_law_tape_here","_law_many","_law_found","_law_spot","_law_cell","_law_mixed"] ["_law_tape_here","_law_many"] (jh agt):=⟨rfl,rfl,rfl,by decide+kernel,rfl,by decide+kernel,by decide+kernel⟩
theorem ok_law_draw(T:Txt0 K mg):CalF P w K mg base "_law_draw" 1 2 jg:=by walk_at "ok_law_draw"
def B_law_names:FS:=
  (jd (jk 2 (kz false (fVs (dw D.da [.str "a",.str "ab",.str "abc",.str "net",.str "end",.str "within",.str "to",.str "table",.str "step",.str "box",.str "port",.str "next",.str "b",.str "zzzzzzzz"]))))
  (jd (jk 2 (fOp (jt false) (ja 2) (kz false (fVs (dw D.da [.str "both",.str "place",.str "ba"])))))
  (jd (jk 3 (jf 2 jg (jb (ja 0) (jb (fC (.da (.int 17))) jc))))
  (jd (jk 4 (fOp (jt false) (fC (.da (.int 1))) (jf 2 jg (jb (ja 0) (jb (fC (.da (.int 16))) jc)))))
  (ka (fLc false [2,3,4] 1 (aa8 (jb (ja 1) jc)) (.nm 0) vw (fOp gIx (ja 1) (fOp aab (fOp (jt false) (ja 2) (fOp zv (ja 3) (ja 0))) (fC (.da (.int 17)))))))))))
def yt:FF:=k9 5 B_law_names
theorem anv:yt [a0,a1] s=(B_law_names [some a0,some a1,none,none,none] s).bind qk:=rfl
theorem sc_law_names:FnScope ["_law_tape_here","_law_many","_law_some","_law_first","_law_step_here"] ["_law_tape_here","_law_many"] (jh af8):=⟨rfl,rfl,rfl,by decide+kernel,rfl,by decide+kernel,by decide+kernel⟩
theorem ok_law_names(T:Txt0 K mg):CalF P w K mg base "_law_names" 2 2 yt:=by walk_at "ok_law_names"
def B_law_told:FS:=
  (jd (jk 2 (fLc false [0] 1 (aa8 (jb (ja 1) jc)) (.nm 0) (ji (fOp gEq (jf 2 jg (jb (ja 1) (jb (fC (.da (.int 2))) jc))) (fC (.da (.int 0))))) (ja 0)))
  (ka (fIf (ji (fOp gNe (ja 2) (kz false jc))) (fCB k8 (jb (ja 2) jc)) (jq (jb (jf 2 jg (jb (ja 0) (jb (ja 1) jc))) jc)))))
def zk:FF:=k9 3 B_law_told
theorem aq9:zk [a0,a1] s=(B_law_told [some a0,some a1,none] s).bind qk:=rfl
theorem sc_law_told:FnScope ["_law_tape_here","_law_things","_law_found"] ["_law_tape_here","_law_things"] (jh agw):=⟨rfl,rfl,rfl,by decide+kernel,rfl,by decide+kernel,by decide+kernel⟩
theorem ok_law_told(T:Txt0 K mg):CalF P w K mg base "_law_told" 2 2 zk:=by walk_at "ok_law_told"
def B_law_step:FS:=
  (jd (jk 5 (fLc false [0] 1 (fIt (ja 2)) (.nm 0) (ji (fOp gEq (jf 2 jg (jb (ja 1) (jb (fC (.da (.int 2))) jc))) (fC (.da (.int 0))))) (ja 0)))
  (jd (jk 6 (kz true (jb (kz true jc) (jb (kz true jc) (jb (kz true jc) jc)))))
  (jd (ko (fIt (ja 5)) (.nm 7) (qq (fMt kc (fOp gIx (ja 6) (jf 2 jg (jb (ja 0) (jb (fC (.da (.int 3))) jc)))) (jb (jq (jb (fC (.da (.str "port"))) (jb (ja 7) jc))) jc))))
  (jd (ko (aa8 (jb (ja 3) jc)) (.nm 8) (jd (jk 9 (jf 2 jg (jb (ja 0) (jb (fC (.da (.int 5))) jc))))
  (jd (jv (ag7 (ji (fOp gLt (ja 9) (fC (.da (.int 2))))) (ji (fOp gEq (ja 9) (fC (.da (.int 4)))))) (qq (fMt kc (fOp gIx (ja 6) (jf 2 jg (jb (ja 0) (jb (fC (.da (.int 3))) jc)))) (jb (jq (jb (fC (.da (.str "box"))) (jb (ja 8) jc))) jc))) jn)
  (jv (ji (fOp gIn (ja 9) (jq (fVs (dw D.da [.int 1,.int 2,.int 4]))))) (qq (fMt kc (fOp gIx (ja 6) (jf 2 jg (jb (ja 0) (jb (fC (.da (.int 3))) jc)))) (jb (jq (jb (fC (.da (.str "next"))) (jb (ja 8) jc))) jc))) jn))))
  (jd (jk 10 (kz true jc))
  (jd (ko (fIt (ja 6)) (.nm 11) (jv (ji (fOp gNe (ja 11) (kz false jc))) (qq (fMt kc (ja 10) (jb (jq (jb (fCB k8 (jb (fCB (yz false) (jb (ja 11) jc)) jc)) (jb (jf 2 zk (jb (ja 0) (jb (ja 1) jc))) jc))) jc))) jn))
  (jd (jk 12 (fOp gIx (ja 4) (jf 2 jg (jb (ja 0) (jb (fCB xp (jb (ja 4) jc)) jc)))))
  (ka (jq (jb (ja 12) (jb (fCB k8 (jb (fCB (yz false) (jb (ja 5) jc)) jc)) (jb (fCB k8 (jb (ja 10) jc)) (jb (fOp gIx (ja 4) (jf 2 jg (jb (ja 0) (jb (fCB xp (jb (ja 4) jc)) jc)))) jc)))))))))))))
def zn:FF:=k9 13 B_law_step
theorem ar9{a b:D}:zn [a0,a1,a2,a,b] s=(B_law_step [some a0,some a1,some a2,some a,some b,none,none,none,none,none,none,none,none] s).bind qk:=rfl
theorem sc_law_step:FnScope ["_law_tape_here","_law_things","_law_ports","_law_boxes","_law_places","_law_passing","_law_groups","_law_port","_law_box","_law_way","_law_ties","_law_spots","_law_start"] ["_law_tape_here","_law_things","_law_ports","_law_boxes","_law_places"] (jh agr):=⟨rfl,rfl,rfl,by decide+kernel,rfl,by decide+kernel,by decide+kernel⟩
theorem ok_law_step(T:Txt0 K mg):CalF P w K mg base "_law_step" 3 5 zn:=by walk_at "ok_law_step"
def B_law_machine:FS:=
  (jd (jk 4 (fOp gIx (kz false (jb (kz false (jb (fC (.da (.int 4))) jc)) (jb (kz false (fVs (dw D.da [.int 0,.int 1]))) (jb (kz false (fVs (dw D.da [.int 1,.int 0]))) (jb (kz false (jb (fOp an1 (fC (.da (.int 10))) (fC (.da (.int 12)))) (jb (fC (.da (.int 3))) (jb (fC (.da (.int 0))) jc)))) jc))))) (jf 2 jg (jb (ja 0) (jb (fC (.da (.int 4))) jc)))))
  (jd (jk 5 (jf 2 jg (jb (ja 0) (jb (fC (.da (.int 3))) jc))))
  (jd (jk 6 (kz true jc))
  (jd (ko (aa8 (jb (jf 2 jg (jb (ja 0) (jb (fOp (jt false) (ja 3) (fC (.da (.int 1)))) jc))) jc)) (.nm 7) (jd (jk 8 (jf 5 zn (jb (ja 0) (jb (ja 1) (jb (ja 2) (jb (ja 5) (jb (ja 4) jc)))))))
  (jv (ji (fOp abn (ja 8) (ja 6))) (qq (fMt kc (ja 6) (jb (ja 8) jc))) jn)))
  (jd (jk 9 (fCB k8 (jb (fLc false [0,1] 1 (aa8 (jb (ja 5) jc)) (.nm 0) vw (fOp gIx (kz false (jb (fC (.da (.none))) (jb (jf 2 jg (jb (ja 1) (jb (ja 2) jc))) jc))) (jf 2 jg (jb (ja 1) (jb (fC (.da (.int 2))) jc))))) jc)))
  (ka (jq (jb (ja 1) (jb (fCB k8 (jb (fCB (yz false) (jb (ja 2) jc)) jc)) (jb (ja 5) (jb (jq (jb (fOp gIx (ja 4) (fC (.da (.int 0)))) (jb (ja 9) jc))) (jb (fCB k8 (jb (ja 6) jc)) jc))))))))))))
def v8:FF:=k9 10 B_law_machine
theorem akf{a:D}:v8 [a0,a1,a2,a] s=(B_law_machine [some a0,some a1,some a2,some a,none,none,none,none,none,none] s).bind qk:=rfl
theorem sc_law_machine:FnScope ["_law_tape_here","_law_things","_law_ports","_law_most","_law_places","_law_boxes","_law_steps","_law_k","_law_step_here","_law_held"] ["_law_tape_here","_law_things","_law_ports","_law_most"] (jh adx):=⟨rfl,rfl,rfl,by decide+kernel,rfl,by decide+kernel,by decide+kernel⟩
theorem ok_law_machine(T:Txt0 K mg):CalF P w K mg base "_law_machine" 4 4 v8:=by walk_at "ok_law_machine"
def B_law_doings(qf:FF):FS:=
  (jd (jv (ji (fOp gEq (ja 0) (jq jc))) (ka (kz false (jb (jq jc) jc))) jn)
  (jd (jk 2 (kz true jc))
  (jd (ko (fIt (fOp gIx (fOp gIx (ja 0) (fC (.da (.int 0)))) (fC (.da (.int 1))))) (.nm 3) (jv (ji (fOp gEq (fLc false [3,1] 2 (fIt (fOp gIx (fOp gIx (ja 0) (fC (.da (.int 0)))) (fC (.da (.int 0))))) (.t2 (.nm 0) (.nm 1)) (zm (ji (fOp gEq (ja 0) (fC (.da (.str "box"))))) (ji (fOp gNe (fOp gIx (ja 3) (ja 1)) (ja 2)))) (ja 1)) (kz false jc))) (qq (fMt adn (ja 2) (jb (fLc false [3] 1 (fIt (jf 2 qf (jb (fSl false (ja 0) (kj (fC (.da (.int 1)))) fNo) (jb (ja 1) jc)))) (.nm 0) vw (fOp (jt false) (jq (jb (ja 1) jc)) (ja 0))) jc))) jn))
  (ka (awk (ja 2))))))
def qf:Nat->FF
 |0=>a3t
 |n+1=>k9 4 (B_law_doings (qf n))
theorem ag6:qf (n+1) [a0,a1] s=(B_law_doings (qf n) [some a0,some a1,none,none] s).bind qk:=rfl
theorem sc_law_doings:FnScope ["_law_ties","_law_held","_law_found","_law_thing"] ["_law_ties","_law_held"] (jh aez):=⟨rfl,rfl,rfl,by decide+kernel,rfl,by decide+kernel,by decide+kernel⟩
theorem ok_law_doings(T:Txt0 K mg): ∀n:Nat,CalF P w K mg base "_law_doings" (1+n) 2 (qf n)
 |0=>(a33 (k:=0) T.h__law_doings sc_law_doings rfl)
 | n+1=>by
  have b:=ok_law_doings T n;have sc:=sc_law_doings;exact arl (k:=1+n) T.h__law_doings sc rfl rfl λf a A outer s H E I hx hr=>by
   unfold B_law_doings;walk_at "dr"
def B_law_done:FS:=
  (jd (jk 3 (kz true jc))
  (jd (jk 4 abc)
  (jd (jk 5 abc)
  (jd (ko (aa8 (jb (fCB xp (jb (ja 2) jc)) jc)) (.nm 6) (ko (fIt (fOp gIx (fOp gIx (fOp gIx (ja 0) (fC (.da (.int 2)))) (ja 6)) (fC (.da (.int 0))))) (.t2 (.nm 7) (.nm 8)) (jv (ji (fOp gEq (ja 7) (fC (.da (.str "port"))))) (qq (fMt kc (ja 3) (jb (jq (jb (ja 8) (jb (fOp gIx (ja 2) (ja 6)) jc))) jc))) (jv (ji (fOp gEq (ja 7) (fC (.da (.str "next"))))) (qv vd (fOp gIx (ja 2) (ja 6)) (ja 5) (ja 8)) (qv vd (fC (.da (.bool true))) (ja 4) (ja 8))))))
  (jd (jk 9 (fLc false [5,4,1] 1 (aa8 (jb (fCB xp (jb (ja 1) jc)) jc)) (.nm 0) vw (fMd ac0 (ja 1) (jb (ja 0) (jb (fIf (ji (fOp (yp false) (ja 0) (ja 2))) (fC (.da (.none))) (fOp gIx (ja 3) (ja 0))) jc)))))
  (ka (jq (jb (fCB k8 (jb (fCB (yz false) (jb (ja 3) jc)) jc)) (jb (jq (jb (fOp gIx (ja 0) (fC (.da (.int 3)))) (jb (fCB k8 (jb (ja 9) jc)) jc))) jc)))))))))
def zf:FF:=k9 10 B_law_done
theorem ar0:zf [a0,a1,a2] s=(B_law_done [some a0,some a1,some a2,none,none,none,none,none,none,none] s).bind qk:=rfl
theorem sc_law_done:FnScope ["_law_step_here","_law_held","_law_things","_law_moment_here","_law_gone","_law_laid","_law_k","_law_kind","_law_spot","_law_behind"] ["_law_step_here","_law_held","_law_things"] (jh ags):=⟨rfl,rfl,rfl,by decide+kernel,rfl,by decide+kernel,by decide+kernel⟩
theorem ok_law_done(T:Txt0 K mg):CalF P w K mg base "_law_done" 1 3 zf:=by walk_at "ok_law_done"
def B_law_moves:FS:=
  (jd (jk 2 (akt (acj (jq (jb (jq jc) (jb (ja 1) jc))) (fC (.da (.bool true))) akw)))
  (jd (ko (fIt (fOp gIx (ja 0) (fC (.da (.int 4))))) (.nm 3) (jv (ji (fOp gEq (fOp gIx (ja 3) (fC (.da (.int 0)))) (fOp gIx (ja 1) (fC (.da (.int 0)))))) (ko (fIt (jf 2 (qf 6) (jb (fOp gIx (ja 3) (fC (.da (.int 2)))) (jb (fOp gIx (ja 1) (fC (.da (.int 1)))) jc)))) (.nm 4) (qv vd (fC (.da (.bool true))) (ja 2) (jf 3 zf (jb (ja 3) (jb (fOp gIx (ja 1) (fC (.da (.int 1)))) (jb (ja 4) jc)))))) jn))
  (ka (fCB (acr false) (jb (ja 2) jc)))))
def yw:FF:=k9 5 B_law_moves
theorem anx:yw [a0,a1] s=(B_law_moves [some a0,some a1,none,none,none] s).bind qk:=rfl
theorem sc_law_moves:FnScope ["_law_machine_here","_law_stand","_law_found","_law_step_here","_law_things"] ["_law_machine_here","_law_stand"] (jh af3):=⟨rfl,rfl,rfl,by decide+kernel,rfl,by decide+kernel,by decide+kernel⟩
theorem ok_law_moves(T:Txt0 K mg):CalF P w K mg base "_law_moves" 8 2 yw:=by walk_at "ok_law_moves"
def B_law_on:FS:=
  (jd (jk 1 abc)
  (jd (ko (fIt (ja 0)) (.t2 (.nm 2) (.nm 3)) (jd (jk 4 (fMd aed (ja 1) (jb (ja 2) (jb (kz true jc) jc))))
  (jv (ji (fOp abn (ja 3) (ja 4))) (qq (fMt kc (ja 4) (jb (ja 3) jc))) jn)))
  (ka (fCB afd (jb (fLc false [1] 1 (axi (ja 1)) (.nm 0) vw (jq (jb (ja 0) (jb (fCB k8 (jb (fCB (ab0 false) (jb (fOp vk (ja 1) (ja 0)) jc)) jc)) jc)))) jc)))))
def aej:FF:=k9 5 B_law_on
theorem ayb:aej [a0] s=(B_law_on [some a0,none,none,none,none] s).bind qk:=rfl
theorem sc_law_on:FnScope ["_law_moves_here","_law_found","_law_moment_here","_law_stand","_law_behind"] ["_law_moves_here"] (jh ak9):=⟨rfl,rfl,rfl,by decide+kernel,rfl,by decide+kernel,by decide+kernel⟩
theorem ok_law_on(T:Txt0 K mg):CalF P w K mg base "_law_on" 1 1 aej:=by walk_at "ok_law_on"
def B_law_machine_world:FS:=
  (ka (akt (acj (fC (.da (.str "kind"))) (fC (.da (.str "machine"))) (acj (fC (.da (.str "machine"))) (ja 0) (acj (fC (.da (.str "first"))) (jq (jb (fOp gIx (ja 0) (fC (.da (.int 3)))) jc)) (acj (fC (.da (.str "known"))) abc akw))))))
def j8:FF:=k9 1 B_law_machine_world
theorem af0:j8 [a0] s=(B_law_machine_world [some a0] s).bind qk:=rfl
theorem sc_law_machine_world:FnScope ["_law_machine_here"] ["_law_machine_here"] (jh aan):=⟨rfl,rfl,rfl,by decide+kernel,rfl,by decide+kernel,by decide+kernel⟩
theorem ok_law_machine_world(T:Txt0 K mg):CalF P w K mg base "_law_machine_world" 1 1 j8:=by walk_at "ok_law_machine_world"
def B_law_machine_led:FS:=
  (jd (jk 2 (kz false jc))
  (jd (ko (fIt (ja 1)) (.nm 3) (jd (jv (ji (fOp (yp true) (ja 3) (fOp vk (ja 0) (fC (.da (.str "known")))))) (qv vd (jf 2 yw (jb (fOp vk (ja 0) (fC (.da (.str "machine")))) (jb (ja 3) jc))) (fOp vk (ja 0) (fC (.da (.str "known")))) (ja 3)) jn)
  (jd (jk 2 (fOp (jt false) (ja 2) (fOp vk (fOp vk (ja 0) (fC (.da (.str "known")))) (ja 3))))
  (jv (ji (fOp gGt (fCB xp (jb (ja 2) jc)) (fC (.da (.int 300))))) (ka (fC (.da (.none)))) jn))))
  (ka (jf 1 aej (jb (ja 2) jc)))))
def xt:FF:=k9 4 B_law_machine_led
theorem agn:xt [a0,a1] s=(B_law_machine_led [some a0,some a1,none,none] s).bind qk:=rfl
theorem sc_law_machine_led:FnScope ["_law_world","_law_stands","_law_moves_here","_law_stand"] ["_law_world","_law_stands"] (jh abl):=⟨rfl,rfl,rfl,by decide+kernel,rfl,by decide+kernel,by decide+kernel⟩
theorem ok_law_machine_led(T:Txt0 K mg):CalF P w K mg base "_law_machine_led" 9 2 xt:=by walk_at "ok_law_machine_led"
def B_law_walked:FS:=
  (jd (jk 3 (fOp gIx (ja 1) (fC (.da (.int 3)))))
  (jd (jk 4 (jq jc))
  (jd (ko (aa8 (jb (ja 2) jc)) (.nm 5) (jd (jk 6 (jf 2 yw (jb (ja 1) (jb (ja 3) jc))))
  (jd (jk 7 (fOp zv (fCB aq3 (jb (fOp ah8 (fCB xp (jb (ja 6) jc)) (fC (.da (.int 1)))) (jb (fC (.da (.int 1))) jc))) (fCB arc (jb (fOp gGt (jf 2 jg (jb (ja 0) (jb (fC (.da (.int 4))) jc))) (fC (.da (.int 0)))) jc))))
  (jd (al4 (.t2 (.nm 8) (.nm 3)) (fOp gIx (ja 6) (fOp (jt false) (ja 7) (jf 2 jg (jb (ja 0) (jb (fOp ah8 (fCB xp (jb (ja 6) jc)) (ja 7)) jc))))))
  (jk 4 (fOp (jt false) (ja 4) (jq (jb (ja 8) jc))))))))
  (ka (ja 4)))))
def xw:FF:=k9 9 B_law_walked
theorem ann:xw [a0,a1,a2] s=(B_law_walked [some a0,some a1,some a2,none,none,none,none,none,none] s).bind qk:=rfl
theorem sc_law_walked:FnScope ["_law_tape_here","_law_machine_here","_law_many","_law_stand","_law_row","_law_k","_law_some","_law_least","_law_moment_here"] ["_law_tape_here","_law_machine_here","_law_many"] (jh aey):=⟨rfl,rfl,rfl,by decide+kernel,rfl,by decide+kernel,by decide+kernel⟩
theorem ok_law_walked(T:Txt0 K mg):CalF P w K mg base "_law_walked" 9 3 xw:=by walk_at "ok_law_walked"
def B_law_moment:FS:=
  (jd (jk 2 (fLc false [0] 1 (fIt (fOp gIx (ja 1) (fC (.da (.int 1))))) (.nm 0) (ji (fOp gEq (jf 2 jg (jb (ja 1) (jb (fC (.da (.int 2))) jc))) (fC (.da (.int 0))))) (ja 0)))
  (ka (fCB k8 (jb (fLc false [0,1] 1 (fIt (ja 2)) (.nm 0) vw (jq (jb (ja 0) (jb (jf 2 jg (jb (ja 1) (jb (fOp gIx (ja 2) (fC (.da (.int 0)))) jc))) jc)))) jc))))
def qx:FF:=k9 3 B_law_moment
theorem aml:qx [a0,a1] s=(B_law_moment [some a0,some a1,none] s).bind qk:=rfl
theorem sc_law_moment:FnScope ["_law_tape_here","_law_machine_here","_law_some"] ["_law_tape_here","_law_machine_here"] (jh aet):=⟨rfl,rfl,rfl,by decide+kernel,rfl,by decide+kernel,by decide+kernel⟩
theorem ok_law_moment(T:Txt0 K mg):CalF P w K mg base "_law_moment" 2 2 qx:=by walk_at "ok_law_moment"
def B_law_spoilt:FS:=
  (jd (jk 3 (jf 2 jg (jb (ja 0) (jb (fOp (jt false) (fCB xp (jb (ja 2) jc)) (fC (.da (.int 1)))) jc))))
  (jd (jk 4 (jf 2 jg (jb (ja 0) (jb (fC (.da (.int 6))) jc))))
  (jd (jv (ji (fOp gEq (ja 4) (fC (.da (.int 0))))) (ka (fOp (jt false) (fSl false (ja 2) fNo (kj (ja 3))) (fSl false (ja 2) (kj (fOp (jt false) (ja 3) (fC (.da (.int 1))))) fNo))) jn)
  (jd (jv (ji (fOp gEq (ja 4) (fC (.da (.int 1))))) (ka (fOp (jt false) (fOp (jt false) (fSl false (ja 2) fNo (kj (ja 3))) (jq (jb (jf 2 qx (jb (ja 0) (jb (ja 1) jc))) jc))) (fSl false (ja 2) (kj (ja 3)) fNo))) jn)
  (jd (jv (ji (fOp gEq (ja 4) (fC (.da (.int 2))))) (ka (fOp (jt false) (fOp (jt false) (fSl false (ja 2) fNo (kj (ja 3))) (fSl false (ja 2) (kj (ja 3)) (kj (fOp (jt false) (ja 3) (fC (.da (.int 1))))))) (fSl false (ja 2) (kj (ja 3)) fNo))) jn)
  (jd (jv (ji (fOp gEq (ja 4) (fC (.da (.int 3))))) (ka (fOp (jt false) (fOp (jt false) (fSl false (ja 2) fNo (kj (ja 3))) (axu (fSl false (ja 2) (kj (ja 3)) (kj (fOp (jt false) (ja 3) (fC (.da (.int 2)))))) (anr (fC (.da (.int 1)))))) (fSl false (ja 2) (kj (fOp (jt false) (ja 3) (fC (.da (.int 2))))) fNo))) jn)
  (jd (jv (zm (ji (fOp gEq (ja 4) (fC (.da (.int 4))))) (zm (ji (fOp gLt (ja 3) (fCB xp (jb (ja 2) jc)))) (ji (fOp gNe (fOp gIx (ja 2) (ja 3)) (jq jc))))) (jd (jk 5 (fOp (jt false) (fCB k8 (jb (fLc false [1] 2 (fIt (fSl false (fOp gIx (ja 2) (ja 3)) fNo (kj (fC (.da (.int 1)))))) (.t2 (.nm 0) (.nm 1)) vw (jq (jb (ja 0) (jb (fOp aab (fOp (jt false) (ja 1) (fC (.da (.int 1)))) (fOp gIx (ja 2) (fC (.da (.int 0))))) jc)))) jc)) (fSl false (fOp gIx (ja 2) (ja 3)) (kj (fC (.da (.int 1)))) fNo)))
  (ka (fOp (jt false) (fOp (jt false) (fSl false (ja 2) fNo (kj (ja 3))) (jq (jb (ja 5) jc))) (fSl false (ja 2) (kj (fOp (jt false) (ja 3) (fC (.da (.int 1))))) fNo)))) jn)
  (ka (fOp (jt false) (fOp (jt false) (fSl false (ja 2) fNo (kj (ja 3))) (jq (jb (jf 2 qx (jb (ja 0) (jb (ja 1) jc))) jc))) (fSl false (ja 2) (kj (fOp (jt false) (ja 3) (fC (.da (.int 1))))) fNo))))))))))
def yb:FF:=k9 6 B_law_spoilt
theorem al2:yb [a0,a1,a2] s=(B_law_spoilt [some a0,some a1,some a2,none,none,none] s).bind qk:=rfl
theorem sc_law_spoilt:FnScope ["_law_tape_here","_law_machine_here","_law_row","_law_at","_law_way","_law_turned"] ["_law_tape_here","_law_machine_here","_law_row"] (jh aew):=⟨rfl,rfl,rfl,by decide+kernel,rfl,by decide+kernel,by decide+kernel⟩
theorem ok_law_spoilt(T:Txt0 K mg):CalF P w K mg base "_law_spoilt" 3 3 yb:=by walk_at "ok_law_spoilt"
def B_law_due:FS:=
  (jd (jk 2 (fOp vk (ja 0) (fC (.da (.str "first")))))
  (jd (ko (fIt (ja 1)) (.nm 3) (jd (jk 4 (jf 2 xt (jb (ja 0) (jb (ja 2) jc))))
  (jd (jv (ag7 (ji (fOp gIs (ja 4) (fC (.da (.none))))) (ji (fOp (yp true) (ja 3) (ja 4)))) (ka (fIf (ji (fOp gIs (ja 4) (fC (.da (.none))))) (fC (.da (.none))) (fC (.da (.bool false))))) jn)
  (jk 2 (fOp vk (ja 4) (ja 3))))))
  (ka (fC (.da (.bool true))))))
def zc:FF:=k9 5 B_law_due
theorem ave:zc [a0,a1] s=(B_law_due [some a0,some a1,none,none,none] s).bind qk:=rfl
theorem sc_law_due:FnScope ["_law_world","_law_row","_law_stands","_law_moment_here","_law_ways"] ["_law_world","_law_row"] (jh ahw):=⟨rfl,rfl,rfl,by decide+kernel,rfl,by decide+kernel,by decide+kernel⟩
theorem ok_law_due(T:Txt0 K mg):CalF P w K mg base "_law_due" 10 2 zc:=by walk_at "ok_law_due"
def Blaw:FS:=
  (jd (jk 1 (jf 1 aat (jb (ja 0) jc)))
  (jd (ko (aa8 (jb (fC (.da (.int 2))) jc)) (.nm 2) (jd (jk 3 (fOp (jt false) (fC (.da (.int 1))) (jf 2 jg (jb (ja 1) (jb (fC (.da (.int 3))) jc)))))
  (jd (jk 4 (jf 4 v8 (jb (ja 1) (jb (ja 3) (jb (jf 2 yt (jb (ja 1) (jb (jf 2 jg (jb (ja 1) (jb (fC (.da (.int 5))) jc))) jc))) (jb (fC (.da (.int 6))) jc))))))
  (jd (jk 5 (jf 1 j8 (jb (ja 4) jc)))
  (jd (jk 6 (fOp (jt false) (fSl false (ja 4) fNo (kj (fC (.da (.int 4))))) (jq (jb (fSl false (fOp gIx (ja 4) (fC (.da (.int 4)))) fNo (kj (anr (fC (.da (.int 1)))))) jc))))
  (jd (jk 7 (jf 1 j8 (jb (ja 6) jc)))
  (jd (jk 8 (jf 3 xw (jb (ja 1) (jb (ja 4) (jb (fOp (jt false) (fC (.da (.int 6))) (jf 2 jg (jb (ja 1) (jb (fC (.da (.int 7))) jc)))) jc)))))
  (jd (jk 9 (kz true (jb (jq jc) (jb (ja 8) (jb (fSl false (ja 8) fNo (kj (fC (.da (.int 1))))) (jb (fCB k8 (jb (fLc false [1,4] 1 (aa8 (jb (fOp (jt false) (fC (.da (.int 1))) (jf 2 jg (jb (ja 1) (jb (fC (.da (.int 3))) jc)))) jc)) (.nm 0) vw (jf 2 qx (jb (ja 1) (jb (ja 2) jc)))) jc)) jc))))))
  (jd (ko (aa8 (jb (fC (.da (.int 3))) jc)) (.nm 10) (qq (fMt kc (ja 9) (jb (jf 3 yb (jb (ja 1) (jb (ja 4) (jb (ja 8) jc)))) jc))))
  (ko (fIt (ja 9)) (.nm 11) (jd (jk 12 (jf 2 zc (jb (ja 5) (jb (ja 11) jc))))
  (jd (jk 13 (fCB xc (jb (ja 11) jc)))
  (jd (jv (ag7 (zm (ji (fOp acw (ja 12) (fC (.da (.none))))) (ji (fOp gNe (fCB xc (jb (jf 2 vx (jb (ja 4) (jb (ja 11) jc))) jc)) (fCB xc (jb (ja 12) jc))))) (ji (fOp gNe (fCB xc (jb (ja 11) jc)) (ja 13)))) (ka (fC (.da (.bool false)))) jn)
  (jd (jk 14 (jf 2 zc (jb (ja 7) (jb (ja 11) jc))))
  (jd (jv (zm (ji (fOp acw (ja 14) (fC (.da (.none))))) (ji (fOp gNe (fCB xc (jb (jf 2 vx (jb (ja 6) (jb (ja 11) jc))) jc)) (fCB xc (jb (ja 14) jc))))) (ka (fC (.da (.bool false)))) jn)
  (jv (zm (ji (fOp acw (ja 12) (fC (.da (.none))))) (ji (fOp gNe (fCB xc (jb (jf 2 vx (jb (ja 4) (jb (ja 11) jc))) jc)) (fCB xc (jb (ja 12) jc))))) (ka (fC (.da (.bool false)))) jn))))))))))))))))
  (ka (fC (.da (.bool true))))))
def axk:FF:=k9 15 Blaw
theorem a8u:axk [a0] s=(Blaw [some a0,none,none,none,none,none,none,none,none,none,none,none,none,none,none] s).bind qk:=rfl
theorem sclaw:FnScope ["_law_script","_law_tape_here","_law_k","_law_things","_law_machine_here","_law_world","_law_fewer","_law_fewer_world","_law_row","_law_rows","_law_j","_law_one","_law_due_here","_law_kept","_law_other"] ["_law_script"] (jh abe):=⟨rfl,rfl,rfl,by decide+kernel,rfl,by decide+kernel,by decide+kernel⟩
theorem a8c{f:Addr}(F:Fun K "law" "law" abe f fd)(T:Txt0 K mg):FnOk P w K mg base (CX1 P w) 11 f fd ["_law_script"] (spF K 1 axk):=by
 have sc:=sclaw;exact fnF (k:=10) F sc rfl rfl λf a A outer s H E I hx hr=>by
  unfold Blaw;walk_at "dr"
end Ln
local macro_rules | `(tactic| walk_at "ev") =>do
  let ns := "PF.R.calm_ok PF.R.at_ok PF.R.W_calm PF.R.W_at PF.a73 PF.a3i PF.a04 PF.a67 PF.a4f PF.a1p PF.bdq PF.bcc PF.bd7 PF.bdb PF.bdj PF.bay PF.bbc PF.bas PF.bdp PF.bdv PF.bdo PF.bc9 PF.bbg PF.a09 PF.bcv PF.a9n PF.a9b PF.baw PF.ba0 PF.ba3 PF.bax PF.a86 PF.aye PF.bcm PF.bco PF.e_c PF.bb1 PF.bbr PF.bc5 PF.bc7 PF.bbz PF.bb6 PF.bbe PF.bbx PF.bbk PF.bbh PF.bap PF.bam PF.bak PF.a7u PF.bbq PF.bbw PF.bd8 PF.bc1 PF.bbm PF.a47 PF.ba1 PF.bcy PF.bcn PF.bd0 PF.bda PF.bdc PF.bba PF.bca PF.asq PF.ba2 PF.aup PF.bcd PF.bbp PF.bao PF.bal PF.bb9 PF.bb2 PF.bac PF.bcr PF.bdh PF.bc4 PF.bae PF.ap1 PF.bcx PF.bcu PF.bdf PF.bdk PF.bcz PF.bdl PF.bdr PF.bds PF.bdg PF.bdd PF.bdu PF.bdi PF.bdt PF.bcq PF.bcf PF.bct PF.bdn PF.bbn PF.bai PF.bd6 PF.bbb PF.bb7 PF.bcs PF.bby PF.bcp PF.a2i PF.a0e PF.bdm PF.bbu PF.baf PF.bav PF.bat PF.bah PF.bag PF.ao6 PF.ba8 PF.baj PF.au8 PF.a8q PF.ams PF.bb0 PF.bar PF.baq PF.ba9 PF.a9p PF.a8x PF.a98 PF.a8s PF.bce PF.bcg PF.bcj PF.bcl PF.bc8 PF.bdw PF.bc3 PF.bc6 PF.bci PF.adl PF.a14 PF.aph PF.ap4 PF.bde PF.adq PF.ax6 PF.amc PF.av9 PF.att PF.arb PF.R.bind_ok' PF.R.W_ok' PF.R.Wk_app PF.bb3 PF.bbs PF.bb4 PF.bbv PF.bc2 PF.bbd PF.bbf PF.bbl PF.bc0 PF.ba6 PF.ba4 PF.a9y PF.bab PF.a80 PF.a9x Bool.not_true Bool.not_false decide_true decide_false Bool.and_true Bool.and_false Bool.true_and Bool.false_and List.length_append List.length_cons List.length_nil List.append_assoc List.cons_append List.nil_append Nat.zero_add Nat.reduceAdd PF.bdx PF.bd9 PF.bck PF.bau PF.baa Nat.reduceLeDiff PF.it0 PF.il0 PF.it1 PF.il1 PF.it2 PF.it3 PF.it4 if_true if_false Bool.false_eq_true".splitOn " "
  let ids : Array (iw `term) := ns.toArray.map λn =>cj n.toName
  `(tactic| try simp only[$[$ids:term],*])
local macro_rules | `(tactic| walk_at "go") =>`(tactic| (walk_at "ev"; (try simp only[PF.a73, PF.a3i, PF.a04, PF.a67, PF.a4f, PF.a1p, PF.R.W_bindk, PF.R.W_at, PF.R.W_calm])))
namespace Ln
open PySem L2 PF
section
variable{s:S}{n:Nat}{a b c v:D}
theorem ix4(k:Nat){ds:List D}{x:D}(a:n < s.length)(h:ds[k]?=some x):gIx (.ref n) (.int (k:Int)) (s.set n (.lst ds))=.ok x (s.set n (.lst ds)):=ap3 (aR a) h
theorem st4(k:Nat){ds:List D}(a:n < s.length)(h:k < ds.length):aa1 (.ref n) (.int (k:Int)) v (s.set n (.lst ds))=.ok .non (s.set n (.lst (ds.set k v))):=by
 rw[aha (aR a) h,List.set_set]
theorem ix0(d:n < s.length):gIx (.ref n) (.int 0) (s.set n (.lst [a,b,c]))=.ok a (s.set n (.lst [a,b,c])):=ix4 0 d rfl
theorem ix1(d:n < s.length):gIx (.ref n) (.int 1) (s.set n (.lst [a,b,c]))=.ok b (s.set n (.lst [a,b,c])):=ix4 1 d rfl
theorem ix2(d:n < s.length):gIx (.ref n) (.int 2) (s.set n (.lst [a,b,c]))=.ok c (s.set n (.lst [a,b,c])):=ix4 2 d rfl
theorem st1(d:n < s.length):aa1 (.ref n) (.int 1) v (s.set n (.lst [a,b,c]))=.ok .non (s.set n (.lst [a,v,c])):=st4 1 d (by simp)
theorem st2(d:n < s.length):aa1 (.ref n) (.int 2) v (s.set n (.lst [a,b,c]))=.ok .non (s.set n (.lst [a,b,v])):=st4 2 d (by simp)
end
structure Fd (s:S) (n c:Nat):Prop where
 ex: ∃(xs:List Int) (i j:Int),s[n]?=some (.lst [.lst (xs.map aG),.int i,.int j])/\xs.length <=63/\0 <=i/\i <=c
theorem Fd.lt(h:Fd s n c):n < s.length:=by
 obtain⟨xs,i,j,e,_⟩:=h.ex;exact(am.mp e).1
theorem aie{xs:List Int}{i j:Int}(a:n < s.length)(hx:xs.length <=63)(d:0 <=i)(b:i <=c):Fd (s.set n (.lst [.lst (xs.map aG),.int i,.int j])) n c:=⟨xs,i,j,aR a,hx,d,b⟩
theorem kq{m:Int}(h:Fd s n c)(hm:0 < m)(l:m < 1073741824)(Y:c < 2^40):(jg [.ref n,.int m] s).W λd s'=>∃i,d=.int i/\0 <=i/\i < m/\Fd s' n (c+1)/\jr n s s':=by
 obtain⟨xs,i,j,e,hx,M,N⟩:=h.ex;have a:n < s.length:=(am.mp e).1;have O:jg [.ref n,.int m] s=jg [.ref n,.int m] (s.set n (.lst [.lst (xs.map aG),.int i,.int j])):=by rw[ax8 e]
 rw[O,aqg];unfold B_law_draw;have fin: ∀x:Int,0 <=x % m/\x % m < m:=λx=>⟨iy _ (by lia),gv _ hm⟩
 have r: ∀s:S,an1 (.int 10) (.int 18) s=.ok (.int 1000000000000000000) s:=λs=>anl (by decide) (by decide) (by decide)
 by_cases w:0 < j
 ·simp[ix0 a,ix1 a,ix2 a,st1 a,st2 a,w,xh hm,acq hm l];exact⟨(fin _).1,(fin _).2,aie a hx M (by lia),aac⟩
 ·have q1: ∀(x:Int) (s:S),aab (.int x) (.int 1000003) s=.ok (.int (x % 1000003)) s:=λx s=>xh (by decide)
  have z: ∀(x:Int) (s:S),zv (.int 37) (.int x) s=.ok (.int (37*x)) s:=λx s=>y8 (.inl (by decide))
  have J: ∀(x:Int) (s:S),zv (.int x) (.int 69621) s=.ok (.int (x*69621)) s:=λx s=>y8 (.inr (by decide))
  have A: ∀(x:Int) (s:S),aab (.int x) (.int 2147483549) s=.ok (.int (x % 2147483549)) s:=λx s=>xh (by decide)
  have C: ∀(x:Int) (s:S),zv (.int 101) (.int x) s=.ok (.int (101*x)) s:=λx s=>y8 (.inl (by decide))
  have H: ∀(x:Int) (s:S),zv (.int 7919) (.int x) s=.ok (.int (7919*x)) s:=λx s=>y8 (.inl (by decide))
  have E: ∀(x:Int) (s:S),zv (.int x) (.int i) s=.ok (.int (x*i)) s:=λx s=>y8 (.inr (by lia))
  have I: ∀(x:Int) (s:S),zv (.int x) (.int 48271) s=.ok (.int (x*48271)) s:=λx s=>y8 (.inr (by decide))
  have F: ∀(x:Int) (s:S),aab (.int x) (.int 2147483587) s=.ok (.int (x % 2147483587)) s:=λx s=>xh (by decide)
  have u: ∀(x:Int) (s:S),aix (.int x) (.int 64) s=.ok (.int (x/64)) s:=λx s=>acq (by decide) (by decide)
  cases b:xs with
  |nil=>
   subst b;simp[ix0 a,ix1 a,ix2 a,st1 a,st2 a,w,xh hm,acq hm l,r,q1,z,J,A,C,H,E,I,F,u];exact⟨(fin _).1,(fin _).2,aie (xs:=[]) a (by simp) (by lia) (by lia),aac⟩
  | cons y U=>
   have Q:xs≠ []:=by rw[b];simp
   have o:0 < (xs.length:Int):=by rw[b];simp
   have k:0 < xs.length:=by rw[b];simp
   rw[←b];have t: ∀s:S,gIx (.lst (xs.map aG)) (.int (i % (xs.length:Int))) s=.ok (.int (xs.getD (i % (xs.length:Int)).toNat 0)) s:=λs=>by
    have Z:=iy i (show(xs.length:Int)≠0 by lia);have V:=gv i o;obtain⟨q,P⟩: ∃q:Nat,i % (xs.length:Int)=q:=⟨(i % (xs.length:Int)).toNat,by lia⟩;rw[P];have v:q < xs.length:=by lia
    rw[aag (p:=.int (xs.getD q 0)) (by rw[aT,av v,bP,av v];rfl)];rfl
   generalize D:xs.getD (i % (xs.length:Int)).toNat 0=cell at t;have K: ∀s:S,aab (.int i) (.int (xs.length:Int)) s=.ok (.int (i % (xs.length:Int))) s:=λs=>xh o
   by_cases L:1000000000000000000 <=cell
   ·simp[ix0 a,ix1 a,ix2 a,st1 a,st2 a,w,k,xh hm,acq hm l,r,q1,z,J,A,C,H,E,I,F,u,t,K,L];exact⟨(fin _).1,(fin _).2,aie a hx (by lia) (by lia),aac⟩
   ·simp[ix0 a,ix1 a,ix2 a,st1 a,st2 a,w,k,xh hm,acq hm l,r,q1,z,J,A,C,H,E,I,F,u,t,K,L];exact⟨(fin _).1,(fin _).2,aie a hx (by lia) (by lia),aac⟩
theorem Fd.le{c':Nat}(h:Fd s n c)(d:c <=c'):Fd s n c':=by
 obtain⟨xs,i,j,e,hx,b,a⟩:=h.ex;exact⟨xs,i,j,e,hx,b,by lia⟩
theorem Fd.ext(h:Fd s n c)(x:Ext s s'):Fd s' n c:=by
 obtain⟨xs,i,j,e,r⟩:=h.ex;exact⟨xs,i,j,x.get e,r⟩
theorem Fd.set{k:Nat}{o:O}(h:Fd s n c)(hk:k≠n):Fd (s.set k o) n c:=by
 obtain⟨xs,i,j,e,r⟩:=h.ex;exact⟨xs,i,j,by rw[aF hk];exact e,r⟩
theorem a2d{xs:List Int}:(aat [.frz (xs.map aG)] s).W λd s'=>d=.ref s.length/\Fd s' s.length 0/\Ext s s':=by
 rw[aq6];unfold B_law_tape;walk_at "go";have e:qh (xs.map aG) none (some 63)=(qh xs none (some 63)).map aG:=ahi _ _ _ _;rw[e];refine⟨trivial,⟨⟨qh xs none (some 63),0,0,by simp,?_,by decide,by decide⟩⟩,Ext.add _ _⟩;unfold qh;rw[show(63:Int)=((63:Nat):Int) from rfl,HT.sIx_nat];simp;lia
inductive Sp where
 |port (x:Str)
 |box (k:Nat)
 |nxt (k:Nat)
noncomputable def Sp.d:Sp->aa
 |.port x=>.tuple [.str "port",.str x]
 |.box k=>.tuple [.str "box",.int k]
 |.nxt k=>.tuple [.str "next",.int k]
noncomputable def Sp.w:Sp->Str
 |.port _=> "port"
 |.box _=> "box"
 |.nxt _=> "next"
noncomputable def Sp.a:Sp->aa
 |.port x=>.str x
 |.box k=>.int k
 |.nxt k=>.int k
theorem Sp.eq(p:Sp):p.d=.tuple [.str p.w,p.a]:=by cases p <;> rfl
structure Ti where
 sp:List Sp
 told:List Int
def Ti.d(t:Ti):aa:=.tuple [.tuple (t.sp.map Sp.d),.tuple (t.told.map aG)]
structure Stp where
 a:Int
 ps:List aa
 ts:List Ti
 b:Int
def Stp.d(t:Stp):aa:=.tuple [.int t.a,.tuple t.ps,.tuple (t.ts.map Ti.d),.int t.b]
noncomputable def hD:Option Int->aa
 |none=>.none
 |some i=>.int i
abbrev Hd:=List (Option Int)
def hdD(h:Hd):aa:=.tuple (h.map hD)
theorem ayu(t:Int)(h:Option Int):aX (.int t) (hD h)=decide (h=some t):=by
 cases h with
 |none=>rfl
 |some i=>
  show(t==i)=_
  (rw[bD,beq_iff_eq,decide_eq_true_eq])
  exact⟨λe=>by rw[e],λe=>by cases e;rfl⟩
theorem a89(t:Int)(h:Option Int):aX (hD h) (.int t)=decide (h=some t):=by
 cases h with
 |none=>rfl
 |some i=>
  show(i==t)=_
  (rw[bD,beq_iff_eq,decide_eq_true_eq])
  exact⟨λe=>by rw[e],λe=>by cases e;rfl⟩
theorem a3l(t i:Int):aX (.int t) (.int i)=decide (t=i):=by
 show(t==i)=_
 (rw[bD,beq_iff_eq,decide_eq_true_eq])
theorem azb(h:Option Int):okD (hD h)=true:=by cases h <;> rfl
structure PasS (s:S) (m:Nat) (pas:Str->Option Int):Prop where
 ex: ∃kvs:List (aa×D),s[m]?=some (.dct kvs)/\(kvs.all λe=>isK e.1)=true/\ ∀x,jo kvs (.str x)=(pas x).map D.int
theorem asv{kvs:List (aa×D)}(h:(kvs.all λe=>isK e.1)=true)(x:Str):ki kvs (.str x)=true:=by
 unfold ki;rw[h];rfl
theorem PasS.in_{pas:Str->Option Int}(h:PasS s m pas)(x:Str):yp false (.str x) (.ref m) s=.ok (.bl (pas x).isSome) s:=by
 obtain⟨kvs,e,k,g⟩:=h.ex;rw[apl e (asv k x),g,bZ]
theorem PasS.ix{pas:Str->Option Int}(h:PasS s m pas){y:Int}(hx:pas x=some y):vk (.ref m) (.str x) s=.ok (.int y) s:=by
 obtain⟨kvs,e,k,g⟩:=h.ex;exact zo e (asv k x) (by rw[g,hx];rfl)
theorem PasS.app{g:S}{pas:Str->Option Int}(h:PasS s m pas):PasS (s++g) m pas:=by
 obtain⟨kvs,e,k⟩:=h.ex;exact⟨kvs,by rw[aQ (am.mp e).1];exact e,k⟩
noncomputable def np:Str->Option Int:=λ_=>none
noncomputable def okB(h:Hd)(pas:Str->Option Int)(t:Int):Sp->Bool
 |.box k=>decide (h.getD k none=some t)
 |.port x=>match pas x with
  |none=>true
  |some y=>decide (t=y)
 |_=>true
noncomputable def inB(b:Nat):Sp->Bool
 |.port _=>true
 |.box k=>decide (k < b)
 |.nxt k=>decide (k < b)
def tf(h:Hd)(pas:Str->Option Int)(t:Ti):List Int:=t.told.filter λx=>t.sp.all (okB h pas x)
noncomputable def sq(c:Bool)(l:List Int):D:=if c=true then .lst (l.map aG) else .tup (l.map aG)
theorem aqc{c:Bool}{l:List Int}:zg (sq c l) s=.ok (l.map (λi=>D.int i),none) s:=by
 cases c
 ·show R.ok ((l.map aG).map D.da,none) s=_;rw[aY];rfl
 ·show R.ok ((l.map aG).map D.da,none) s=_;rw[aY];rfl
theorem a3k{c:Bool}{l:List Int}:af1 (sq c l) s=.ok (!l.isEmpty) s:=by
 cases c
 ·show af1 (.tup (l.map aG)) s=_;rw[a2i];cases l <;> rfl
 ·show af1 (.lst (l.map aG)) s=_;rw[a0e];cases l <;> rfl
theorem aqp{h:Hd}{k:Nat}(hk:k < h.length):gIx (.da (hdD h)) (.int (k:Int)) s=.ok (.da (hD (h.getD k none))) s:=
 zi (by rw[aT,av hk,bP,av hk];rfl)
def tfB:FS:=(jv (ji (fOp gEq (ja 5) (fC (.da (.str "box"))))) (jk 4 (fLc false [1,6] 1 (fIt (ja 4)) (.nm 0) (ji (fOp gEq (ja 0) (fOp gIx (ja 1) (ja 2)))) (ja 0))) (jv (zm (ji (fOp gEq (ja 5) (fC (.da (.str "port"))))) (ji (fOp (yp false) (ja 6) (ja 2)))) (jk 4 (fLc false [2,6] 1 (fIt (ja 4)) (.nm 0) (ji (fOp gEq (ja 0) (fOp vk (ja 1) (ja 2)))) (ja 0))) jn))
theorem a36{h:Hd}{pas:Str->Option Int}{tie sps:D}{l:List Int}{c:Bool}(o:PasS s m pas)(p:Sp)(hk:inB h.length p=true)(u:l.length <=1000):
  ∃c',tfB [some tie,some (.da (hdD h)),some (.ref m),some sps,some (sq c l),some (.str p.w),some (.da p.a)] s=.ok (.nx [some tie,some (.da (hdD h)),some (.ref m),some sps,some (sq c' (l.filter λt=>okB h pas t p)),some (.str p.w),some (.da p.a)]) s:=by
 have n: ∀(l:List Int),l.filter (λt=>true)=l:=λl=>by simp
 unfold tfB;cases p with
 | port x=>
  have b:gEq (.str (Sp.port x).w) (.str "box") s=.ok (.bl false) s:=rfl;have e:gEq (.str (Sp.port x).w) (.str "port") s=.ok (.bl true) s:=rfl;have d:yp false (.da (Sp.port x).a) (.ref m) s=.ok (.bl (pas x).isSome) s:=o.in_ x;cases hx:pas x with
  |none=>
   refine⟨c,?_⟩;rw[hx]at d;walk_at "ev";simp only[b,e,d,c7];walk_at "ev";simp only[b,e,d,c7];walk_at "ev";simp only[d,c7];walk_at "ev";rw[show(λt=>okB h pas t (.port x))=λ_=>true by funext t;simp only[okB,hx],n]
  | some y=>
   refine⟨true,?_⟩;rw[hx]at d;walk_at "ev";simp only[b,e,d,cY];walk_at "ev";simp only[b,e,d,cY];walk_at "ev";simp only[d,cY];walk_at "ev";rw[aqc];walk_at "ev";rw[zl (ρ0:=[none,some (.ref m),some (.da (Sp.port x).a)]) (by rw[ao];lia) rfl]
   rw[zq (λi=>D.int i) (λt=>okB h pas t (.port x)) aG l λt q=>⟨[some (.int t),some (.ref m),some (.da (Sp.port x).a)],rfl,by
    walk_at "ev";rw[show(D.da (Sp.port x).a)=.str x from rfl,o.ix hx];walk_at "ev";rw[ace rfl rfl,show aX (.int t) (.int y)=decide (t=y) from a3l t y];walk_at "ev"
    simp only[okB,hx],λ_=>rfl⟩]
   walk_at "ev";rfl
 |nxt k=>
  refine⟨c,?_⟩;have b:gEq (.str (Sp.nxt k).w) (.str "box") s=.ok (.bl false) s:=rfl;have e:gEq (.str (Sp.nxt k).w) (.str "port") s=.ok (.bl false) s:=rfl;walk_at "ev";simp only[b,e];walk_at "ev";simp only[b,e];walk_at "ev";rw[show(λt=>okB h pas t (.nxt k))=λ_=>true from rfl,n]
 | box k=>
  refine⟨true,?_⟩;have b:gEq (.str (Sp.box k).w) (.str "box") s=.ok (.bl true) s:=rfl;have j:k < h.length:=of_decide_eq_true hk;walk_at "ev";simp only[b];walk_at "ev";rw[aqc];walk_at "ev";rw[zl (ρ0:=[none,some (.da (hdD h)),some (.da (Sp.box k).a)]) (by rw[ao];lia) rfl]
  rw[zq (λi=>D.int i) (λt=>okB h pas t (.box k)) aG l λt q=>⟨[some (.int t),some (.da (hdD h)),some (.da (Sp.box k).a)],rfl,by
   walk_at "ev";have r:=aqp (s:=s) j;rw[show(D.da (Sp.box k).a)=.int (k:Int) from rfl,r];walk_at "ev";rw[ace rfl (azb _),ayu]
   rfl,λ_=>rfl⟩]
  walk_at "ev";rfl
theorem apv{h:Hd}{pas:Str->Option Int}{m:Nat}{s:S}{tie sps:D}{all:List D}(j:PasS s m pas): ∀(sp:List Sp) (l:List Int) (c:Bool) (u w:Option D),(∀p∈sp,inB h.length p=true)->l.length <=1000 ->
  ∃c' v k,kb (.t2 (.nm 5) (.nm 6)) tfB (all,none) ((sp.map Sp.d).map D.da) [some tie,some (.da (hdD h)),some (.ref m),some sps,some (sq c l),u,w] s=.ok (.nx [some tie,some (.da (hdD h)),some (.ref m),some sps,some (sq c' (l.filter λt=>sp.all (okB h pas t))),v,k]) s
 |[],l,c,u,w,_,_=>⟨c,u,w,by
  rw[show(λt=>([]:List Sp).all (okB h pas t))=λ_=>true from rfl,show l.filter (λ_=>true)=l by simp];rfl⟩
 |p::r,l,c,u,w,e,b=>by
  obtain⟨c1,x⟩:=a36 (h:=h) (pas:=pas) (tie:=tie) (sps:=sps) (c:=c) j p (e p au) b;obtain⟨c2,y,o,n⟩:=apv (h:=h) (pas:=pas) (tie:=tie) (sps:=sps) (all:=all) j r (l.filter λt=>okB h pas t p) c1 (some (.str p.w)) (some (.da p.a)) (λq A=>e q (aq _ A)) (aN (cC _ _) b);refine⟨c2,y,o,?_⟩;rw[aw,aw,aai (ρ1:=[some tie,some (.da (hdD h)),some (.ref m),some sps,some (sq c l),some (.str p.w),some (.da p.a)]) (by rw[Sp.eq];rfl),x,R.bind_ok,adl,n];rw[List.filter_filter];congr 5;congr 1;congr 1;refine congrArg (λz=>some (sq c2 z)) (List.filter_congr λt _=>?_);rw[eP,Bool.and_comm]
theorem asc{h:Hd}{pas:Str->Option Int}{t:Ti}(j:PasS s m pas)(b: ∀p∈t.sp,inB h.length p=true)(k:t.told.length <=1000): ∃c,zx [.da t.d,.da (hdD h),.ref m] s=.ok (sq c (tf h pas t)) s:=by
 obtain⟨c,u,w,e⟩:=apv (h:=h) (pas:=pas) (tie:=.da t.d) (sps:=.tup (t.sp.map Sp.d)) (all:=(t.sp.map Sp.d).map D.da) j t.sp t.told false none none b k;refine⟨c,?_⟩;rw[ao2];unfold Bthings_for;walk_at "ev";rw[a65 (ρ1:=[some (.da t.d),some (.da (hdD h)),some (.ref m),some (.tup (t.sp.map Sp.d)),some (sq false t.told),none,none]) rfl];walk_at "ev";have a:=e;unfold tfB at a;rw[a];walk_at "ev";rfl
theorem qr{g:S}{o:O}:(s++o::g)[s.length]?=some o:=by simp
theorem aaj{g:S}{o a:O}:(s++o::g).set s.length a=s++a::g:=by simp
theorem aae{g:Tg}{j:FS}{p:Wk}{Q:Fl->S->Prop}(J:List D->En->S->Prop)(b: ∀r ρ s,J r ρ s->kh p s)
  (step: ∀d r ρ s,J (d::r) ρ s->∃ρ1,qg g d ρ=some ρ1/\(j ρ1 s).W (flW (J r) Q)) (fin: ∀ρ s,J [] ρ s->Q (.nx ρ) s):
  ∀(ds:List D) (ρ:En) (s:S),J ds ρ s->(kb g j p ds ρ s).W Q
 |[],ρ,s,h=>fin ρ s h
 | d::r,ρ,s,h=>by
  obtain⟨ρ1,e,w⟩:=step d r ρ s h;rw[aai e,R.W_bind];refine R.W_mono w λfl c q=>?_
  cases fl with
  |nx a=>
   have q:J r a c:=q;rw[show ae4 g j p r (.nx a) c=kb g j p r a c from qu (b _ _ _ q)];exact aae J b step fin r a c q
  |ct a=>
   have q:J r a c:=q;rw[show ae4 g j p r (.ct a) c=kb g j p r a c from qu (b _ _ _ q)];exact aae J b step fin r a c q
  |bk a=>rw[aph];exact q
  |rt d=>rw[ap4];exact q
noncomputable def jy:List (List Int)->List (List Int)
 |[]=>[[]]
 |c::cs=>c.flatMap λt=>(jy cs).map (t:: ·)
def ab3(W:List (List Int))(l:List Int):List (List Int):=W.flatMap λw=>l.map λt=>w++ [t]
theorem aux(cs:List (List Int)): ∀W:List (List Int),cs.foldl ab3 W=W.flatMap λw=>(jy cs).map (w++ ·):=by
 induction cs with
 |nil=>intro W;simp[jy]
 |cons c r a=>
  intro W;rw[aW,a];rw[show jy (c::r)=c.flatMap λt=>(jy r).map (t:: ·) from rfl];unfold ab3;rw[List.flatMap_assoc];congr 1;funext w;rw[List.flatMap_map,List.map_flatMap];congr 1;funext t;rw[aY]
  (refine fX λx _=>?_)
  simp
theorem af5(cs:List (List Int)):cs.foldl ab3 [[]]=jy cs:=by
 rw[aux];simp
theorem axx{cs:List (List Int)}(h:[]∈cs):jy cs=[]:=by
 induction cs with
 |nil=>cases h
 |cons c r a=>
  unfold jy;rcases aL.mp h with z|z
  ·rw[←z];rfl
  ·rw[a z];simp
theorem ack{α β:Type}{f:α->List β}{k:Nat}: ∀(l:List α),(∀x∈l,(f x).length <=k)->(l.flatMap f).length <=l.length*k
 |[],_=>by simp
 |x::r,h=>by
  have:=ack r λy a=>h y (aq _ a)
  have b:=h x au;rw[gN,aH,aE,Nat.add_mul];lia
theorem ayd{W:List (List Int)}{l:List Int}(h:l.length <=3):(ab3 W l).length <=W.length*3:=ack W λw _=>by rw[ao];exact h
theorem ahn{cs:List (List Int)}(h: ∀c∈cs,c.length <=3):(jy cs).length <=3^cs.length:=by
 induction cs with
 |nil=>exact aj _
 |cons c r d=>
  have b:=d λx hx=>h x (aq _ hx)
  have a:=h c au;have j:=ack (f:=λt=>(jy r).map (t:: ·)) c λt _=>by rw[ao];exact b
  have e:c.length*3^r.length <=3*3^r.length:=Nat.mul_le_mul_right _ a;rw[aE,Nat.pow_succ];unfold jy;lia
theorem ad6{cs:List (List Int)}: ∀w∈jy cs,w.length=cs.length:=by
 induction cs with
 |nil=>intro w a;simp[jy]at a;rw[a];rfl
 |cons c r d=>
  intro w a;unfold jy at a;obtain⟨t,_,a⟩:=cW.mp a;obtain⟨v,b,rfl⟩:=aO.mp a;simp[d v b]
def wD(w:List Int):aa:=.tuple (w.map aG)
def lsD(W:List (List Int)):D:=.lst (W.map wD)
structure TiOk (b:Nat) (t:Ti):Prop where
 sp: ∀p∈t.sp,inB b p=true
 few:t.told.length <=3
theorem amf{h:Hd}{pas:Str->Option Int}{t:Ti}(k:TiOk b t):(tf h pas t).length <=3:=aN (cC _ _) k.few
structure ChJ (h:Hd) (pas:Str->Option Int) (m:Nat) (st:Stp) (s:S) (r:List D) (ρ:En) (s':S):Prop where
 ex: ∃(ts rs:List Ti) (cs:List Bool) (u w:Option D),st.ts=ts++rs/\r=(rs.map Ti.d).map D.da/\cs.length=ts.length/\(∀t∈ts,tf h pas t≠ [])/\
  ρ=[some (.da st.d),some (.da (hdD h)),some (.ref m),some (.ref s.length),u,w,none]/\s'=s++ [.lst ((cs.zip ts).map λp=>sq p.1 (tf h pas p.2))]
structure WaJ (h:Hd) (pas:Str->Option Int) (m:Nat) (st:Stp) (s:S) (all:List D) (r:List D) (ρ:En) (s':S):Prop where
 ex: ∃(ls rs:List (List Int)) (cs:List Bool) (u w:Option D),st.ts.map (tf h pas)=ls++rs/\cs.length=rs.length/\r=(cs.zip rs).map (λp=>sq p.1 p.2)/\
  ρ=[some (.da st.d),some (.da (hdD h)),some (.ref m),some (.ref s.length),u,w,some (lsD (ls.foldl ab3 [[]]))]/\s'=s++ [.lst all]
theorem awr{ls:List (List Int)}(h: ∀l∈ls,l.length <=3)(hn:ls.length <=3):(ls.foldl ab3 [[]]).length <=27:=by
 rw[af5];refine aN (ahn h) ?_
 calc 3^ls.length <=3^3:=iz (by decide) hn
  _=27:=by decide
theorem at1{W:List (List Int)}{l:List Int}{c:Bool}(k:W.length <=27)(a: ∀w∈W,w.length <=3)(b:l.length <=3)(e:acm ρ [5]=[some (sq c l)]):
  (axe false [5] 2 (.nm 0) vw (fIt (ja 2)) (.nm 1) vw (fOp (jt false) (ja 0) (jq (jb (ja 1) jc))) ρ ((W.map wD).map D.da,none) s).W λd s'=>d=lsD (ab3 W l)/\s'=s:=by
 rw[a64 (ρ0:=[none,none,some (sq c l)]) (by rw[e];rfl),R.W_bind];refine R.W_mono (afa (Q:=λxs s'=>s'=s/\xs=((ab3 W l).map wD).map D.da) (λr acc s'=>∃V U,W=V++U/\r=(U.map wD).map D.da/\acc=((ab3 V l).map wD).map D.da/\s'=s) ?_ ?_ _ [] s ⟨[],W,rfl,rfl,rfl,rfl⟩) λxs s' q=>?_
 ·rintro d r acc s' ⟨V,U,hV,hr,ha,rfl⟩;cases U with
  |nil=>cases hr
  | cons u U=>
   rw[aw,aw,bc]at hr;obtain⟨rfl,rfl⟩:=hr;refine⟨[some (.da (wD u)),none,some (sq c l)],rfl,rfl,?_⟩;rw[arb,R.W_ok,if_pos rfl];have j:fIt (ja 2) [some (.da (wD u)),none,some (sq c l)] s'=.ok (l.map (λi=>D.int i),none) s':=by
    walk_at "ev";exact aqc
   rw[j,R.W_ok];refine⟨rfl,?_⟩;have m:u.length <=3:=a u (by rw[hV];simp)
   rw[zq (λi=>D.int i) (λ_=>true) (λt=>wD (u++ [t])) l λt _=>⟨[some (.da (wD u)),some (.int t),some (sq c l)],rfl,rfl,λ_=>by
    walk_at "ev";show jt false (.tup (u.map aG)) (.tup [.int t]) s'=_;rw[qo (by simp;lia)];show R.ok (D.da (.tuple (u.map aG++ [.int t]))) s'=R.ok (D.da (.tuple ((u++ [t]).map aG))) s'
    rw[cO];rfl⟩,R.W_ok]
   refine⟨V++ [u],U,by rw[hV];simp,rfl,?_,rfl⟩;rw[ha];have h:ab3 (V++ [u]) l=ab3 V l++l.map (λt=>u++ [t]):=by unfold ab3;simp
   rw[h,show l.filter (λ_=>true)=l by simp];simp
 ·rintro acc s' ⟨V,U,hV,hr,ha,rfl⟩;cases U with
  |nil=>rw[aK]at hV;subst hV;exact⟨rfl,ha⟩
  |cons u U=>cases hr
 ·obtain⟨rfl,q⟩:=q;rw[dU]at q;subst q;have n:=ayd (W:=W) b;rw[a1z (by rw[ao];lia),R.W_ok];exact⟨rfl,rfl⟩
def chB:FS:=(jd (jk 5 (jf 3 zx (jb (ja 4) (jb (ja 1) (jb (ja 2) jc)))))
  (jd (jv (aib (arp (ja 5))) (ka (kz false jc)) jn)
  (qq (fMt kc (ja 3) (jb (ja 5) jc)))))
def waB:FS:=(jk 6 (alx false [5] 2 (fIt (ja 6)) (.nm 0) vw (fIt (ja 2)) (.nm 1) vw (fOp (jt false) (ja 0) (jq (jb (ja 1) jc)))))
theorem auu{h:Hd}{pas:Str->Option Int}{st:Stp}(F:PasS s m pas)(C: ∀t∈st.ts,TiOk h.length t)(hn:st.ts.length <=3):(ac8 [.da st.d,.da (hdD h),.ref m] s).W λd s'=>d=lsD (jy (st.ts.map (tf h pas)))/\Ext s s':=by
 rw[a0v];unfold aiv;walk_at "go";rw[show gIx (.da st.d) (.int 2) (s++ [O.lst []])=.ok (.tup (st.ts.map Ti.d)) (s++ [O.lst []]) from it2];walk_at "go";show(kb (.nm 4) chB _ _ _ _).W _;refine j6 (ChJ h pas m st s) ?_ ?_ _ _ _ ⟨[],st.ts,[],none,none,rfl,rfl,rfl,(λt j=>by cases j),rfl,rfl⟩
 ·rintro d r ρ s' ⟨ts,rs,cs,u,w,e1,e2,e3,e4,rfl,rfl⟩;cases rs with
  |nil=>cases e2
  | cons t rs=>
   rw[aw,aw,bc]at e2;obtain⟨rfl,rfl⟩:=e2;refine⟨_,rfl,?_⟩;simp only[iZ,i8];have j:TiOk h.length t:=C t (by rw[e1];simp);have o:PasS (s++ [O.lst ((cs.zip ts).map λp=>sq p.1 (tf h pas p.2))]) m pas:=F.app;obtain⟨c,H⟩:=asc (h:=h) (pas:=pas) (t:=t) o j.sp (aN j.few (by decide));unfold chB;walk_at "go";rw[H];walk_at "go";rw[a3k];cases q:tf h pas t with
   |nil=>
    walk_at "go";show(λd s'=>d=lsD (jy (st.ts.map (tf h pas)))/\Ext s s') (.lst []) _;refine⟨?_,Ext.add _ _⟩;rw[axx (aO.mpr ⟨t,by rw[e1];simp,q⟩)];rfl
   | cons y E=>
    walk_at "go";rw[show(!!(y::E).isEmpty)=false from rfl];walk_at "go";have hz:(cs.zip ts).length <=3:=by
     have:=congrArg dJ e1;rw[aH]at this;rw[iu];lia
    rw[ac1 qr];walk_at "go";rw[yc qr (by rw[ao];lia)];walk_at "go";refine⟨ts++ [t],rs,cs++ [c],_,_,by rw[e1];simp,rfl,by simp[e3],λx hx=>?_,rfl,?_⟩
    ·rcases aS.mp hx with z|z
     ·exact e4 x z
     ·rw[aA.mp z,q];simp
    ·rw[aaj,List.zip_append e3];simp[q]
 ·rintro ρ s' ⟨ts,rs,cs,u,w,e1,e2,e3,e4,rfl,rfl⟩;cases rs with
  |cons t rs=>cases e2
  | nil=>
   rw[aK]at e1;subst e1;generalize n:(cs.zip st.ts).map (λp=>sq p.1 (tf h pas p.2))=all;have b:all=(cs.zip (st.ts.map (tf h pas))).map λp=>sq p.1 p.2:=by
    rw[←n,List.zip_map_right,aY];rfl
   walk_at "go";rw[aik qr];walk_at "go";show(kFor (.nm 5) waB _ (all,some (s.length,O.lst all)) _).W _;rw[show∀ρ e,kFor (.nm 5) waB ρ (all,some (s.length,O.lst all)) e=chk (all,some (s.length,O.lst all)) e (kb (.nm 5) waB (all,some (s.length,O.lst all)) all ρ e) from λ_ _=>rfl];rw[qu (show kh (all,some (s.length,O.lst all)) (s++ [O.lst all]) from qr)];refine aae (WaJ h pas m st s all) ?_ ?_ ?_ _ _ _ ⟨[],st.ts.map (tf h pas),cs,u,w,rfl,by simp[e3],b,rfl,rfl⟩
   ·rintro r ρ s' ⟨ls,rs,cs,u,w,_,_,_,_,rfl⟩;exact qr
   ·rintro d r ρ s' ⟨ls,rs,cs,u,w,f1,f2,f3,rfl,rfl⟩;cases rs with
    |nil=>simp at f3
    | cons l rs=>
     cases cs with
     |nil=>simp at f2
     | cons c cs=>
      rw[iV,aw,bc]at f3;obtain⟨rfl,rfl⟩:=f3;refine⟨_,rfl,?_⟩;simp only[iZ,i8];have k: ∀x∈ls++l::rs,x.length <=3:=λx hx=>by
       rw[←f1]at hx;obtain⟨t,j,rfl⟩:=aO.mp hx;exact amf (C t j)
      have a:ls.length <=3:=by
       have:=congrArg dJ f1;simp at this;lia
      unfold waB;walk_at "go";rw[show∀W e,zg (lsD W) e=.ok ((W.map wD).map D.da,none) e from λ_ _=>rfl];walk_at "go";refine R.W_mono (at1 (W:=ls.foldl ab3 [[]]) (l:=l) (c:=c) (awr (λx hx=>k x (by simp[hx])) a) (λv A=>?_) (k l (by simp)) rfl) ?_
      ·rw[af5]at A;rw[ad6 v A];exact a
      ·rintro _ e ⟨rfl,rfl⟩;walk_at "go";exact⟨ls++ [l],rs,cs,_,_,by rw[f1];simp,by simpa using f2,rfl,by rw[bw];rfl,rfl⟩
   ·rintro ρ s' ⟨ls,rs,cs,u,w,f1,f2,f3,rfl,rfl⟩;cases rs with
    |cons l rs=>
     cases cs with
     |nil=>simp at f2
     |cons c cs=>cases f3
    |nil=>
     walk_at "go";rw[aK]at f1;rw[←f1,af5];exact⟨rfl,Ext.add _ _⟩
def abt:Sp->Bool
 |.port x=>k7 x
 |_=>true
structure TiN (b:Nat) (t:Ti):Prop extends TiOk b t where
 pt: ∀p∈t.sp,abt p=true
 l9:t.sp.length <=9
 ti: ∀x∈t.told,0 <=x/\x < 3
theorem a4a(p:Sp):Nice 20 0 (.str p.w):=ab5 (by
 have:k7 "port"=true/\k7 "box"=true/\k7 "next"=true:=by decide+kernel
 cases p
 ·exact this.1
 ·exact this.2.1
 ·exact this.2.2)
theorem av6(e:b <=1000){p:Sp}(c:inB b p=true)(d:abt p=true):Nice 20 0 p.a:=by
 cases p with
 |port x=>exact ab5 d
 |box k=>
  have:k < b:=of_decide_eq_true c;exact(aes (i:=(k:Int)) (by rw[Int.natAbs_natCast];lia)).mono (by decide) (by decide)
 |nxt k=>
  have:k < b:=of_decide_eq_true c;exact(aes (i:=(k:Int)) (by rw[Int.natAbs_natCast];lia)).mono (by decide) (by decide)
theorem aj2(a:b <=1000){p:Sp}(c:inB b p=true)(e:abt p=true):Nice 42 1 p.d:=by
 rw[Sp.eq];exact(Nices.cons (a4a p) (Nices.cons (av6 a c e) Nices.nil)).tup
theorem act{x:Int}(h:0 <=x/\x < 3):Nice 0 0 (.int x):=aes (by lia)
theorem ahz{B:Nat}: ∀(l:List Int),(∀x∈l,Nice 0 0 (.int x))->Nices (l.length) 0 (l.map aG):=λl h=>by
 have:=vq (B:=0) (D:=0) (l.map aG) λd hd=>by obtain⟨x,hx,rfl⟩:=aO.mp hd;exact h x hx
 rw[ao]at this;exact this.mono (by lia) (by lia)
theorem a1f(j:b <=1000){t:Ti}(h:TiN b t):Nice 392 3 t.d:=by
 have a:=vq (B:=42) (D:=1) (t.sp.map Sp.d) λd hd=>by obtain⟨p,c,rfl⟩:=aO.mp hd;exact aj2 j (h.sp p c) (h.pt p c)
 rw[ao]at a;have l9:=h.l9;have few:=h.few;have e:=(a.mono (B':=387) (by lia) (aj _)).tup;have k:=((ahz (B:=0) t.told λx hx=>act (h.ti x hx)).mono (B':=3) (by lia) (aj _)).tup;exact(Nices.cons e (Nices.cons (k.mono (aj _) (by lia)) Nices.nil)).tup
theorem ama(c:b <=1000){ts:List Ti}(h: ∀t∈ts,TiN b t)(hn:ts.length <=3):Nice 1179 4 (.tuple (ts.map Ti.d)):=by
 have a:=vq (B:=392) (D:=3) (ts.map Ti.d) λd hd=>by obtain⟨p,e,rfl⟩:=aO.mp hd;exact a1f c (h p e)
 rw[ao]at a;exact(a.mono (B':=1179) (by lia) (aj _)).tup
theorem ahb(xs:List aa):aX (.tuple xs) (.tuple [])=xs.isEmpty:=by cases xs <;> rfl
theorem ahe(xs:List aa):aX (.list xs) (.list [])=xs.isEmpty:=by cases xs <;> rfl
def noB(h:Hd)(t:Int)(p:Sp):Bool:= !okB h np t p
theorem a2z(h:Hd)(t:Int)(sp:List Sp):((sp.filter (noB h t)).map Sp.a).isEmpty=sp.all (okB h np t):=by
 induction sp with
 |nil=>rfl
 |cons p r b=>
  rw[eP];cases e:okB h np t p with
  |true=>rw[cI (by simp[noB,e]),Bool.true_and];exact b
  |false=>rw[eO (by simp[noB,e])];rfl
theorem a6k{α:Type}(x:α)(l:List α):qh (x::l) (some 1) none=l:=by
 unfold qh;rw[show(1:Int)=((1:Nat):Int) from rfl,HT.sIx_nat,HT.sIx_none];simp
structure LdJ (h:Hd) (t:Ti) (ts:List Ti) (s:S) (r:List D) (ρ:En) (s':S):Prop where
 ex: ∃(ls rs:List Int) (u:Option D) (g:S),t.told=ls++rs/\r=rs.map (λi=>D.int i)/\
  ρ=[some (.tup ((t::ts).map Ti.d)),some (.da (hdD h)),some (.ref s.length),u]/\
  s'=s++O.lst ((((ls.filter λx=>t.sp.all (okB h np x)).flatMap λx=>(jy (ts.map (tf h np))).map (x:: ·)).map wD).map D.da)::g
def ldB(F:FF):FS:=(jv (ji (fOp gEq (fLc false [3,1] 2 (fIt (fOp gIx (fOp gIx (ja 0) (fC (.da (.int 0)))) (fC (.da (.int 0))))) (.t2 (.nm 0) (.nm 1)) (zm (ji (fOp gEq (ja 0) (fC (.da (.str "box"))))) (ji (fOp gNe (fOp gIx (ja 3) (ja 1)) (ja 2)))) (ja 1)) (kz false jc))) (qq (fMt adn (ja 2) (jb (fLc false [3] 1 (fIt (jf 2 F (jb (fSl false (ja 0) (kj (fC (.da (.int 1)))) fNo) (jb (ja 1) jc)))) (.nm 0) vw (fOp (jt false) (jq (jb (ja 1) jc)) (ja 0))) jc))) jn)
theorem alt{h:Hd}(hh:h.length <=1000): ∀(ts:List Ti) (n:Nat) (s:S),(∀t∈ts,TiN h.length t)->ts.length <=3->ts.length < n->(qf n [.tup (ts.map Ti.d),.da (hdD h)] s).W λd s'=>d=lsD (jy (ts.map (tf h np)))/\Ext s s'
 |[],n+1,s,_,_,_=>by
  rw[ag6];unfold B_law_doings;walk_at "go";rw[show gEq (.tup (([]:List Ti).map Ti.d)) (.tup []) s=.ok (.bl true) s from ace rfl rfl];walk_at "go";exact⟨rfl,Ext.refl _⟩
 | t ::ts,n+1,s,o,hn,q=>by
  have F:=λs'=>alt hh ts n s' (λx hx=>o x (aq _ hx)) (by simp at hn;lia) (by simp at q;lia)
  have l:=o t au;rw[ag6];unfold B_law_doings;walk_at "go";rw[ace ((ama hh o hn).okD (by decide)) rfl,ahb];rw[show((t::ts).map Ti.d).isEmpty=false from rfl];walk_at "go";rw[show∀b,gIx (.tup ((t::ts).map Ti.d)) (.int 0) b=.ok (.da t.d) b from λ_=>it0];walk_at "go";rw[show∀b,gIx (.da t.d) (.int 1) b=.ok (.tup (t.told.map aG)) b from λ_=>it1];walk_at "go";show(kb (.nm 3) (ldB (qf n)) _ _ _ _).W _;refine j6 (LdJ h t ts s) ?_ ?_ _ _ _ ⟨[],t.told,none,[],rfl,by rw[aY];rfl,rfl,rfl⟩
  ·rintro d r ρ s' ⟨ls,rs,u,g,e1,e2,rfl,rfl⟩;cases rs with
   |nil=>cases e2
   | cons x rs=>
    rw[aw,bc]at e2;obtain⟨rfl,rfl⟩:=e2;refine⟨_,rfl,?_⟩;simp only[iZ,i8];generalize e:(((ls.filter λx=>t.sp.all (okB h np x)).flatMap λx=>(jy (ts.map (tf h np))).map (x:: ·)))=acc;have H:ls.length <=3:=by
     have:=congrArg dJ e1;have:=l.few;simp at*;lia
    have v:(jy (ts.map (tf h np))).length <=27:=by
     refine aN (ahn λc m=>?_) ?_
     ·obtain⟨y,z,rfl⟩:=aO.mp m;exact amf (o y (aq _ z)).toTiOk
     ·rw[ao]
      calc 3^ts.length <=3^3:=iz (by decide) (by simp at hn;lia)
       _=27:=by decide
    have C:acc.length <=81:=by
     rw[←e];refine aN (ack (k:=27) _ λy _=>by rw[ao];exact v) ?_;have:=cC (λx=>t.sp.all (okB h np x)) ls;lia
    unfold ldB;walk_at "go";rw[show∀b,gIx (.tup ((t::ts).map Ti.d)) (.int 0) b=.ok (.da t.d) b from λ_=>it0];walk_at "go";rw[show∀b,gIx (.da t.d) (.int 0) b=.ok (.tup (t.sp.map Sp.d)) b from λ_=>it0];walk_at "go";have l9:=l.l9;rw[zl (ρ0:=[none,none,some (.int x),some (.da (hdD h))]) (by simp;lia) rfl];rw[show(t.sp.map Sp.d).map D.da=t.sp.map (λp=>D.da p.d) by rw[aY];rfl]
    rw[zq (λp:Sp=>D.da p.d) (noB h x) Sp.a t.sp λp j=>⟨[some (.str p.w),some (.da p.a),some (.int x),some (.da (hdD h))],by rw[Sp.eq];rfl,by
     walk_at "ev";cases p with
     |port y=>
      rw[show∀b,gEq (.str (Sp.port y).w) (.str "box") b=.ok (.bl false) b from λ_=>rfl];walk_at "ev";rfl
     |nxt k=>
      rw[show∀b,gEq (.str (Sp.nxt k).w) (.str "box") b=.ok (.bl false) b from λ_=>rfl];walk_at "ev";rfl
     |box k=>
      rw[show∀b,gEq (.str (Sp.box k).w) (.str "box") b=.ok (.bl true) b from λ_=>rfl];walk_at "ev";have hk:k < h.length:=of_decide_eq_true (l.sp _ j);rw[show D.da (Sp.box k).a=.int (k:Int) from rfl,aqp hk];walk_at "ev";rw[anp (azb _) rfl,a89];walk_at "ev"
      rfl,λ_=>rfl⟩]
    walk_at "go";rw[ace (Nice.okD (B:=21*t.sp.length) (D:=1) ?_ (by decide)) rfl,ahe,a2z]
    ·cases m:t.sp.all (okB h np x) with
     |false=>
      walk_at "go";refine⟨ls++ [x],rs,_,g,by rw[e1];simp,rfl,rfl,?_⟩;rw[gw,←e];simp[m]
     | true=>
      walk_at "go";rw[ac1 qr];walk_at "go";rw[show qh ((t::ts).map Ti.d) (some 1) none=ts.map Ti.d from a6k _ _];refine R.W_mono (F _) ?_;rintro _ b ⟨rfl,x2⟩;obtain⟨E,rfl⟩:=x2.ex;rw[bN,List.cons_append];walk_at "go";rw[show∀W b,zg (lsD W) b=.ok ((W.map wD).map D.da,none) b from λ_ _=>rfl];walk_at "go";rw[zl (ρ0:=[none,some (.int x)]) (by simp;lia) rfl];rw[show∀W:List (List Int),(W.map wD).map D.da=W.map (λw=>D.da (wD w)) from λW=>by rw[aY];rfl]
      rw[zq (λw:List Int=>D.da (wD w)) (λ_=>true) (λw=>wD (x::w)) (jy (ts.map (tf h np))) λw A=>⟨[some (.da (wD w)),some (.int x)],rfl,rfl,λ_=>by
       walk_at "ev";show jt false (.tup [.int x]) (.tup (w.map aG)) _=_;have:=ad6 w A;rw[ao]at this;rw[qo (by simp at hn⊢;lia)]
       rfl⟩]
      rw[show(jy (ts.map (tf h np))).filter (λ_=>true)=jy (ts.map (tf h np)) by simp];walk_at "go";rw[arv qr (by simp;lia)];walk_at "go";refine⟨ls++ [x],rs,_,g++E,by rw[e1];simp,rfl,rfl,?_⟩;rw[aaj,gw,←e];simp[m]
    ·have:=vq (B:=20) (D:=0) ((t.sp.filter (noB h x)).map Sp.a) λd hd=>by
      obtain⟨p,j,rfl⟩:=aO.mp hd;have j:=(bd.mp j).1;exact av6 hh (l.sp p j) (l.pt p j)
     refine(this.mono (B':=21*t.sp.length) ?_ (aj _)).lst;rw[ao];have:=cC (noB h x) t.sp;lia
  ·rintro ρ s' ⟨ls,rs,u,g,e1,e2,rfl,rfl⟩;cases rs with
   |cons x rs=>cases e2
   |nil=>
    rw[aK]at e1;subst e1;walk_at "go";rw[a31 qr (vg _)];walk_at "go";exact⟨rfl,by rw[aaj];exact Ext.add _ _⟩
noncomputable def afu:Sp->Bool
 |.port _=>true
 |_=>false
noncomputable def y3(j:Nat):Sp->Bool
 |.box k=>decide (k=j)
 |_=>false
def fl(ts:List Ti)(w:List Int):List (Sp×Int):=(ts.zip w).flatMap λq=>q.1.sp.map λp=>(p,q.2)
noncomputable def aa0(ts:List Ti):List Sp:=ts.flatMap Ti.sp
def prs(F:List (Sp×Int)):List aa:=(F.filter λq=>afu q.1).map λq=>.tuple [q.1.a,.int q.2]
noncomputable def yh(B:Hd)(p:Sp):Hd:=match p with
 |.box k=>B.set k none
 |_=>B
noncomputable def acb(B:Hd)(q:Sp×Int):Hd:=match q.1 with
 |.nxt k=>B.set k (some q.2)
 |_=>B
def sb(ts:List Ti)(w:List Int)(h:Hd):Hd:=(fl ts w).foldl acb ((aa0 ts).foldl yh h)
theorem ak6(B:Hd)(p:Sp):(yh B p).length=B.length:=by cases p <;> simp[yh]
theorem alk(B:Hd)(q:Sp×Int):(acb B q).length=B.length:=by obtain⟨p,x⟩:=q;cases p <;> simp[acb]
theorem aeh: ∀(l:List Sp) (B:Hd),(l.foldl yh B).length=B.length
 |[],B=>rfl
 |p::r,B=>by rw[aW,aeh r,ak6]
theorem ajo: ∀(l:List (Sp×Int)) (B:Hd),(l.foldl acb B).length=B.length
 |[],B=>rfl
 |p::r,B=>by rw[aW,ajo r,alk]
theorem aij{ts:List Ti}{w:List Int}{h:Hd}:(sb ts w h).length=h.length:=by unfold sb;rw[ajo,aeh]
theorem agl(F G:List (Sp×Int)):prs (F++G)=prs F++prs G:=by unfold prs;simp
theorem a1y(sp:List Sp)(x:Int):prs (sp.map λp=>(p,x))=(sp.filter afu).map λp=>.tuple [p.a,.int x]:=by
 unfold prs
 (rw[List.filter_map,aY];rfl)
theorem au2{ts:List Ti}{w:List Int}(a: ∀t∈ts,t.sp.length <=9)(hn:ts.length <=3):(fl ts w).length <=27:=by
 refine aN (ack (k:=9) _ λq b=>?_) ?_
 ·rw[ao];exact a _ (dR b).1
 ·rw[iu];lia
theorem aj1(F:List (Sp×Int)):(prs F).length <=F.length:=by unfold prs;rw[ao];exact cC _ _
theorem agi{F:List (Sp×Int)}{d:aa}(h:d∈prs F): ∃y x,(Sp.port y,x)∈F/\d=.tuple [.str y,.int x]:=by
 unfold prs at h;obtain⟨⟨p,x⟩,a,rfl⟩:=aO.mp h;obtain⟨a,b⟩:=bd.mp a;cases p with
 |port y=>exact⟨y,x,a,rfl⟩
 |box k=>cases b
 |nxt k=>cases b
theorem axv(a b:Str)(i j:Int):(ltP (.tuple [.str a,.int i]) (.tuple [.str b,.int j])).isSome=true:=by
 simp only[ltP,vb]
 repeat (first|rfl|split)
theorem aid{F:List (Sp×Int)}:qw (prs F)=true:=by
 refine aB.mpr λd hd=>?_
 obtain⟨y,x,_,rfl⟩:=agi hd;rw[aJ];refine⟨rfl,aB.mpr λe a=>?_⟩;obtain⟨c,b,_,rfl⟩:=agi a;exact axv _ _ _ _
def ahk(b:Nat)(F:List (Sp×Int)):Prop:= ∀q∈F,inB b q.1=true/\abt q.1=true/\0 <=q.2/\q.2 < 3
theorem ane{F:List (Sp×Int)}(h:ahk b F){d:aa}(hd:d∈prs F):Nice 22 1 d:=by
 obtain⟨y,x,j,rfl⟩:=agi hd;obtain⟨_,a,e,c⟩:=h _ j;exact(Nices.cons (ab5 a) (Nices.cons ((act ⟨e,c⟩).mono (aj _) (aj _)) Nices.nil)).tup.mono (by decide) (by decide)
theorem a38{F:List (Sp×Int)}(h:ahk b F):(prs F).all okD=true:=aB.mpr λd hd=>(ane h hd).okD (by decide)
theorem a3z(ts:List Ti)(w:List Int):((ts.map Ti.d).zip (w.map aG)).map (λp=>D.tup [p.1,p.2])=(ts.zip w).map λq=>D.tup [q.1.d,.int q.2]:=by
 rw[List.zip_map,aY];rfl
def bhD(B:Hd):O:=.lst (B.map λo=>D.da (hD o))
theorem auc{B:Hd}{k:Nat}{o:Option Int}:(B.map λo=>D.da (hD o)).set k (D.da (hD o))=(B.set k o).map λo=>D.da (hD o):=by rw[List.map_set]
def goB:FS:=(jv (ji (fOp gEq (ja 6) (fC (.da (.str "box"))))) (aao (fC (.da (.none))) (ja 3) (ja 7)) jn)
def laB:FS:=(jv (ji (fOp gEq (ja 6) (fC (.da (.str "next"))))) (aao (ja 8) (ja 3) (ja 7)) jn)
theorem aoh{s g:S}{a b c d e x:Option D}{all:List D}: ∀(sp:List Sp) (B:Hd) (u v:Option D),(∀p∈sp,inB B.length p=true) ->
  ∃m C,kb (.t2 (.nm 6) (.nm 7)) goB (all,none) ((sp.map Sp.d).map D.da) [a,b,c,some (.ref s.length),d,e,u,v,x] (s++ [bhD B])=.ok (.nx [a,b,c,some (.ref s.length),d,e,m,C,x]) (s++ [bhD (sp.foldl yh B)])
 |[],B,u,v,_=>⟨u,v,rfl⟩
 | p::r,B,u,v,j=>by
  obtain⟨z,t,l⟩:=aoh (s:=s) (g:=g) (a:=a) (b:=b) (c:=c) (d:=d) (e:=e) (x:=x) (all:=all) r (yh B p) (some (.str p.w)) (some (.da p.a)) (λq A=>by rw[ak6];exact j q (aq _ A));refine⟨z,t,?_⟩;rw[aw,aw,aai (ρ1:=[a,b,c,some (.ref s.length),d,e,some (.str p.w),some (.da p.a),x]) (by rw[Sp.eq];rfl)];have n:goB [a,b,c,some (.ref s.length),d,e,some (.str p.w),some (.da p.a),x] (s++ [bhD B])=.ok (.nx [a,b,c,some (.ref s.length),d,e,some (.str p.w),some (.da p.a),x]) (s++ [bhD (yh B p)]):=by
   unfold goB;walk_at "ev";cases p with
   |port y=>
    rw[show∀h,gEq (.str (Sp.port y).w) (.str "box") h=.ok (.bl false) h from λ_=>rfl];walk_at "ev";rfl
   |nxt k=>
    rw[show∀h,gEq (.str (Sp.nxt k).w) (.str "box") h=.ok (.bl false) h from λ_=>rfl];walk_at "ev";rfl
   |box k=>
    have hk:k < B.length:=of_decide_eq_true (j (.box k) au);rw[show∀h,gEq (.str (Sp.box k).w) (.str "box") h=.ok (.bl true) h from λ_=>rfl];walk_at "ev";rw[show D.da (Sp.box k).a=.int (k:Int) from rfl,aha (qr (o:=bhD B)) (by rw[ao];exact hk),aaj];walk_at "ev";show R.ok _ (s++ [O.lst ((B.map λo=>D.da (hD o)).set k (D.da (hD none)))])=_;rw[auc];rfl
  rw[n,R.bind_ok,adl,l];rfl
theorem apr{s g:S}{a b c d e:Option D}{x:Int}{all:List D}: ∀(sp:List Sp) (B:Hd) (u v:Option D),(∀p∈sp,inB B.length p=true) ->
  ∃m C,kb (.t2 (.nm 6) (.nm 7)) laB (all,none) ((sp.map Sp.d).map D.da) [a,b,c,some (.ref s.length),d,e,u,v,some (.int x)] (s++ [bhD B])=.ok (.nx [a,b,c,some (.ref s.length),d,e,m,C,some (.int x)]) (s++ [bhD ((sp.map λp=>(p,x)).foldl acb B)])
 |[],B,u,v,_=>⟨u,v,rfl⟩
 | p::r,B,u,v,j=>by
  obtain⟨z,t,l⟩:=apr (s:=s) (g:=g) (a:=a) (b:=b) (c:=c) (d:=d) (e:=e) (x:=x) (all:=all) r (acb B (p,x)) (some (.str p.w)) (some (.da p.a)) (λq A=>by rw[alk];exact j q (aq _ A));refine⟨z,t,?_⟩;rw[aw,aw,aai (ρ1:=[a,b,c,some (.ref s.length),d,e,some (.str p.w),some (.da p.a),some (.int x)]) (by rw[Sp.eq];rfl)];have n:laB [a,b,c,some (.ref s.length),d,e,some (.str p.w),some (.da p.a),some (.int x)] (s++ [bhD B])=.ok (.nx [a,b,c,some (.ref s.length),d,e,some (.str p.w),some (.da p.a),some (.int x)]) (s++ [bhD (acb B (p,x))]):=by
   unfold laB;walk_at "ev";cases p with
   |port y=>
    rw[show∀h,gEq (.str (Sp.port y).w) (.str "next") h=.ok (.bl false) h from λ_=>rfl];walk_at "ev";rfl
   |box k=>
    rw[show∀h,gEq (.str (Sp.box k).w) (.str "next") h=.ok (.bl false) h from λ_=>rfl];walk_at "ev";rfl
   |nxt k=>
    have hk:k < B.length:=of_decide_eq_true (j (.nxt k) au);rw[show∀h,gEq (.str (Sp.nxt k).w) (.str "next") h=.ok (.bl true) h from λ_=>rfl];walk_at "ev";rw[show D.da (Sp.nxt k).a=.int (k:Int) from rfl,aha (qr (o:=bhD B)) (by rw[ao];exact hk),aaj];walk_at "ev";show R.ok _ (s++ [O.lst ((B.map λo=>D.da (hD o)).set k (D.da (hD (some x))))])=_;rw[auc];rfl
  rw[n,R.bind_ok,adl,l];rfl
structure GoJ (st:Stp) (h:Hd) (w:List Int) (s:S) (r:List D) (ρ:En) (s':S):Prop where
 ex: ∃(ts rs:List Ti) (u1 u2 u3 u4:Option D),st.ts=ts++rs/\r=(rs.map Ti.d).map D.da/\
  ρ=[some (.da st.d),some (.da (hdD h)),some (.da (wD w)),some (.ref s.length),u1,u2,u3,u4,none]/\s'=s++ [bhD ((aa0 ts).foldl yh h)]
structure LaJ (st:Stp) (h:Hd) (w:List Int) (s:S) (r:List D) (ρ:En) (s':S):Prop where
 ex: ∃(qs rs:List (Ti×Int)) (u1 u2 u3 u4 u5:Option D),st.ts.zip w=qs++rs/\r=rs.map (λq=>D.tup [q.1.d,.int q.2])/\
  ρ=[some (.da st.d),some (.da (hdD h)),some (.da (wD w)),some (.ref s.length),u1,u2,u3,u4,u5]/\s'=s++ [bhD ((qs.flatMap λq=>q.1.sp.map λp=>(p,q.2)).foldl acb ((aa0 st.ts).foldl yh h))]
theorem aw0{st:Stp}{h:Hd}{w:List Int}(m: ∀t∈st.ts,∀p∈t.sp,inB h.length p=true):
  (aak [.da st.d,.da (hdD h),.da (wD w)] s).W λd s'=>d=.tup [.int st.b,hdD (sb st.ts w h)]/\Ext s s':=by
 rw[at0];unfold Bstand_by;walk_at "go"
 rw[show ac3 true [.da (hdD h)] s=.ok (.ref s.length) (s++ [bhD h]) from by
  show ac3 true [.tup (h.map hD)] s=_
  rw[au8,aY];rfl]
 walk_at "go";rw[show∀j,gIx (.da st.d) (.int 2) j=.ok (.tup (st.ts.map Ti.d)) j from λ_=>it2];walk_at "go";show(kb (.t2 (.nm 4) (.nm 5)) (ko (fIt (ja 4)) (.t2 (.nm 6) (.nm 7)) goB) _ _ _ _).W _;refine j6 (GoJ st h w s) ?_ ?_ _ _ _ ⟨[],st.ts,none,none,none,none,rfl,rfl,rfl,rfl⟩
 ·rintro d r ρ s' ⟨ts,rs,u1,u2,u3,u4,e1,e2,rfl,rfl⟩;cases rs with
  |nil=>cases e2
  |cons t rs=>
   rw[aw,aw,bc]at e2;obtain⟨rfl,rfl⟩:=e2;refine⟨[some (.da st.d),some (.da (hdD h)),some (.da (wD w)),some (.ref s.length),some (.tup (t.sp.map Sp.d)),some (.tup (t.told.map aG)),u3,u4,none],rfl,?_⟩;walk_at "go";obtain⟨n,u,e⟩:=aoh (s:=s) (g:=[]) (a:=some (.da st.d)) (b:=some (.da (hdD h))) (c:=some (.da (wD w))) (d:=some (.tup (t.sp.map Sp.d))) (e:=some (.tup (t.told.map aG))) (x:=none) (all:=(t.sp.map Sp.d).map D.da) t.sp ((aa0 ts).foldl yh h) u3 u4 (λp l=>by rw[aeh];exact m t (by rw[e1];simp) p l);rw[e];exact⟨ts++ [t],rs,_,_,_,_,by rw[e1];simp,rfl,rfl,by unfold aa0;rw[eK,bw];simp⟩
 ·rintro ρ s' ⟨ts,rs,u1,u2,u3,u4,e1,e2,rfl,rfl⟩;cases rs with
  |cons q rs=>cases e2
  | nil=>
   rw[aK]at e1;subst e1;walk_at "go";rw[show∀j,gIx (.da st.d) (.int 2) j=.ok (.tup (st.ts.map Ti.d)) j from λ_=>it2];walk_at "go"
   rw[show∀j,ai9 [.tup (st.ts.map Ti.d),.da (wD w)] j=.ok ((st.ts.zip w).map (λq=>D.tup [q.1.d,.int q.2]),none) j from λj=>by
    rw[←a3z];exact a09]
   walk_at "go";show(kb (.t2 (.t2 (.nm 4) (.nm 5)) (.nm 8)) (ko (fIt (ja 4)) (.t2 (.nm 6) (.nm 7)) laB) _ _ _ _).W _;refine j6 (LaJ st h w s) ?_ ?_ _ _ _ ⟨[],st.ts.zip w,u1,u2,u3,u4,none,rfl,rfl,rfl,rfl⟩
   ·rintro d r ρ s' ⟨k,rs,u1,u2,u3,u4,u5,e1,e2,rfl,rfl⟩;cases rs with
    |nil=>cases e2
    |cons q rs=>
     obtain⟨t,y⟩:=q;rw[aw,bc]at e2;obtain⟨rfl,rfl⟩:=e2;refine⟨[some (.da st.d),some (.da (hdD h)),some (.da (wD w)),some (.ref s.length),some (.tup (t.sp.map Sp.d)),some (.tup (t.told.map aG)),u3,u4,some (.int y)],rfl,?_⟩;have o:t∈st.ts:=(dR (show(t,y)∈st.ts.zip w by rw[e1];simp)).1;walk_at "go";obtain⟨n,u,e⟩:=apr (s:=s) (g:=[]) (a:=some (.da st.d)) (b:=some (.da (hdD h))) (c:=some (.da (wD w))) (d:=some (.tup (t.sp.map Sp.d))) (e:=some (.tup (t.told.map aG))) (x:=y) (all:=(t.sp.map Sp.d).map D.da) t.sp ((k.flatMap λq=>q.1.sp.map λp=>(p,q.2)).foldl acb ((aa0 st.ts).foldl yh h)) u3 u4 (λp l=>by rw[ajo,aeh];exact m t o p l);rw[e];exact⟨k++ [(t,y)],rs,_,_,_,_,_,by rw[e1];simp,rfl,rfl,by rw[eK,bw];simp⟩
   ·rintro ρ s' ⟨k,rs,u1,u2,u3,u4,u5,e1,e2,rfl,rfl⟩;cases rs with
    |cons q rs=>cases e2
    |nil=>
     rw[aK]at e1;subst e1;walk_at "go";rw[show∀j,gIx (.da st.d) (.int 3) j=.ok (.int st.b) j from λ_=>it3];walk_at "go";rw[show((st.ts.zip w).flatMap λq=>q.1.sp.map λp=>(p,q.2))=fl st.ts w from rfl];rw[afj (xs:=(sb st.ts w h).map hD) (by rw[qr];unfold bhD sb;rw[aY];rfl)];walk_at "go";exact⟨rfl,Ext.add _ _⟩
abbrev KV:=List (aa×D)
noncomputable def nx1(j:Nat)(o:Option Int)(q:Sp×Int):Option Int:=match q.1 with
 |.nxt k=>if k=j then some q.2 else o
 |_=>o
noncomputable def val(o b:Option Int):Option Int:=match o with
 |some x=>some x
 |none=>b
theorem atm{j:Nat}{b:Option Int}: ∀(F:List (Sp×Int)) (B:Hd) (o:Option Int),B[j]?=some (val o b)->(F.foldl acb B)[j]?=some (val (F.foldl (nx1 j) o) b)
 |[],B,o,h=>h
 | (p,x)::r,B,o,h=>by
  (rw[aW,aW])
  refine atm r _ _ ?_;cases p with
  |port y=>exact h
  |box k=>exact h
  | nxt k=>
   show(B.set k (some x))[j]?=some (val (if k=j then some x else o) b);by_cases e:k=j
   ·subst e;rw[if_pos rfl,aR (am.mp h).1];rfl
   ·rw[if_neg e,aF e];exact h
theorem apj{j:Nat}{b:Option Int}: ∀(F:List Sp) (B:Hd) (c:Bool),B[j]?=some (if c=true then none else b)->(F.foldl yh B)[j]?=some (if (c||F.any (y3 j))=true then none else b)
 |[],B,c,h=>by simpa using h
 | p::r,B,c,h=>by
  rw[aW,dC,←Bool.or_assoc];refine apj r _ _ ?_;cases p with
  |port y=>simpa[y3,yh] using h
  |nxt k=>simpa[y3,yh] using h
  | box k=>
   show(B.set k none)[j]?=_;by_cases e:k=j
   ·subst e;rw[aR (am.mp h).1];simp[y3]
   ·rw[aF e];simpa[y3,e] using h
def bhv(ts:List Ti)(w:List Int)(h:Hd)(j:Nat):Option Int:=val ((fl ts w).foldl (nx1 j) none) (if (aa0 ts).any (y3 j)=true then none else h.getD j none)
theorem a8f{ts:List Ti}{w:List Int}{h:Hd}(a:j < h.length):(sb ts w h)[j]?=some (bhv ts w h j):=by
 unfold sb bhv;refine atm _ _ none ?_
 have:=apj (j:=j) (b:=h.getD j none) (aa0 ts) h false (by
  rw[if_neg az,bP,av a];rfl)
 rw[this,mf];rfl
theorem a5r{ts:List Ti}{w:List Int}{h:Hd}:sb ts w h=(a8 h.length).map (bhv ts w h):=by
 apply cJ;intro j;by_cases a:j < h.length
 ·rw[a8f a,aT,dH a];rfl
 ·rw[cc (by rw[aij];lia),cc (by simp;lia)]
structure Mst where
 M:List aa
 G:KV
 L:KV
def dn1(S:Mst)(q:Sp×Int):Mst:=match q.1 with
 |.port y=>⟨S.M++ [.tuple [.str y,.int q.2]],S.G,S.L⟩
 |.nxt k=>⟨S.M,S.G,j5 S.L (.int k) (.int q.2)⟩
 |.box k=>⟨S.M,j5 S.G (.int k) (.bl true),S.L⟩
def aj4(kvs:KV):Prop:=(kvs.all λe=>isK e.1)=true
theorem alu{kvs:KV}{k:Nat}{v:D}(h:aj4 kvs):aj4 (j5 kvs (.int k) v):=by
 unfold aj4 at h⊢;have e: ∀l:KV,(l.all λe=>isK e.1)=(l.map (·.1)).all isK:=λl=>by rw[eI];rfl
 rw[e]at h⊢;rw[anc];unfold ku;split
 ·exact h
 ·rw[List.all_append,h];rfl
theorem adz{kvs:KV}{k:Nat}(h:aj4 kvs):ki kvs (.int k)=true:=by
 unfold ki;rw[show isK (.int (k:Int))=true from rfl,h];rfl
structure MOk (F:List (Sp×Int)) (S:Mst):Prop where
 m:S.M=prs F
 kg:aj4 S.G
 kl:aj4 S.L
 g: ∀j:Nat,(jo S.G (.int j)).isSome=F.any λq=>y3 j q.1
 l: ∀j:Nat,jo S.L (.int j)=(F.foldl (nx1 j) none).map λx=>D.int x
 lg:S.G.length <=F.length
 ll:S.L.length <=F.length
theorem apo{kvs:KV}{k:aa}{v:D}:(j5 kvs k v).length <=kvs.length+1:=by
 unfold j5;split
 ·rw[ao];lia
 ·simp
theorem MOk.nil:MOk [] ⟨[],[],[]⟩:=⟨rfl,rfl,rfl,λ_=>rfl,λ_=>rfl,aj _,aj _⟩
theorem MOk.step{F:List (Sp×Int)}{S:Mst}(h:MOk F S)(q:Sp×Int):MOk (F++ [q]) (dn1 S q):=by
 obtain⟨p,x⟩:=q;have a: ∀{k j:Nat},aG (k:Int)=.int (j:Int)->k=j:=λ{k j} e=>by
  injection e with e;exact mn e
 cases p with
 | port y=>
  refine⟨?_,h.kg,h.kl,λj=>?_,λj=>?_,?_,?_⟩
  ·show S.M++ [_]=_;rw[agl,h.m];rfl
  ·rw[lh,←h.g j];simp[y3,dn1]
  ·rw[bw];exact h.l j
  ·rw[aH];exact fq h.lg
  ·rw[aH];exact fq h.ll
 | nxt k=>
  refine⟨?_,h.kg,alu h.kl,λj=>?_,λj=>?_,?_,?_⟩
  ·show S.M=_;rw[agl,h.m];simp[prs,afu]
  ·rw[lh,←h.g j];simp[y3,dn1]
  ·show jo (j5 S.L (.int k) (.int x)) (.int j)=_;rw[vi,bw,h.l j];show _=(if k=j then some x else F.foldl (nx1 j) none).map λx=>D.int x
   by_cases e:k=j
   ·rw[if_pos e,if_pos (by rw[e])];rfl
   ·rw[if_neg e,if_neg (λz=>e (a z))]
  ·rw[aH];exact fq h.lg
  ·rw[aH];exact aN apo (Nat.succ_le_succ h.ll)
 | box k=>
  refine⟨?_,alu h.kg,h.kl,λj=>?_,λj=>?_,?_,?_⟩
  ·show S.M=_;rw[agl,h.m];simp[prs,afu]
  ·show(jo (j5 S.G (.int k) (.bl true)) (.int j)).isSome=_;rw[vi,lh,←h.g j];by_cases e:k=j
   ·rw[if_pos (by rw[e])];simp[y3,e]
   ·rw[if_neg (λz=>e (a z))];simp[y3,e]
  ·rw[bw];exact h.l j
  ·rw[aH];exact aN apo (Nat.succ_le_succ h.lg)
  ·rw[aH];exact fq h.ll
theorem MOk.fold{S:Mst}: ∀(G F:List (Sp×Int)) (S:Mst),MOk F S->MOk (F++G) (G.foldl dn1 S)
 |[],F,S,h=>by rw[aK];exact h
 |q::r,F,S,h=>by
  have:=MOk.fold (S:=S) r (F++ [q]) (dn1 S q) (h.step q)
  (rw[bN]at this)
  exact this
noncomputable def mS(s:S)(S:Mst):PF.S:=s++ [.lst (S.M.map D.da),.dct S.G,.dct S.L]
theorem mS0{S:Mst}:(mS s S)[s.length]?=some (.lst (S.M.map D.da)):=by simp[mS]
theorem mS1{S:Mst}:(mS s S)[s.length+1]?=some (.dct S.G):=by simp[mS,aZ]
theorem mS2{S:Mst}:(mS s S)[s.length+2]?=some (.dct S.L):=by simp[mS,aZ]
theorem a9w{S:Mst}{M:List aa}:(mS s S).set s.length (.lst (M.map D.da))=mS s ⟨M,S.G,S.L⟩:=by simp[mS]
theorem a93{S:Mst}{G:KV}:(mS s S).set (s.length+1) (.dct G)=mS s ⟨S.M,G,S.L⟩:=by simp[mS,ie]
theorem a9s{S:Mst}{L:KV}:(mS s S).set (s.length+2) (.dct L)=mS s ⟨S.M,S.G,L⟩:=by simp[mS,ie]
def dnB:FS:=(jv (ji (fOp gEq (ja 7) (fC (.da (.str "port"))))) (qq (fMt kc (ja 3) (jb (jq (jb (ja 8) (jb (fOp gIx (ja 2) (ja 6)) jc))) jc))) (jv (ji (fOp gEq (ja 7) (fC (.da (.str "next"))))) (qv vd (fOp gIx (ja 2) (ja 6)) (ja 5) (ja 8)) (qv vd (fC (.da (.bool true))) (ja 4) (ja 8))))
theorem a2n{st h:D}{w:List Int}{k:Nat}{x:Int}{v:Option D}{S:Mst}{F:List (Sp×Int)}(p:Sp)(d:w[k]?=some x)(hm:MOk F S)(l:F.length <=1000):
  dnB [some st,some h,some (.da (wD w)),some (.ref s.length),some (.ref (s.length+1)),some (.ref (s.length+2)),some (.int (k:Int)),some (.str p.w),some (.da p.a),v] (mS s S)=
   .ok (.nx [some st,some h,some (.da (wD w)),some (.ref s.length),some (.ref (s.length+1)),some (.ref (s.length+2)),some (.int (k:Int)),some (.str p.w),some (.da p.a),v]) (mS s (dn1 S (p,x))):=by
 have c: ∀b,gIx (.da (wD w)) (.int (k:Int)) b=.ok (.int x) b:=λb=>zi (by rw[aT,d];rfl)
 have lg:=hm.lg;have ll:=hm.ll;unfold dnB;walk_at "ev";cases p with
 | port y=>
  rw[show∀b,gEq (.str (Sp.port y).w) (.str "port") b=.ok (.bl true) b from λ_=>rfl];walk_at "ev";rw[ac1 mS0];walk_at "ev";rw[c];walk_at "ev";have e:(S.M.map D.da).length < 16777216:=by
   rw[ao,hm.m];have:=aj1 F;lia
  rw[yc mS0 e];walk_at "ev";rw[show S.M.map D.da++ [D.tup [(Sp.port y).a,.int x]]=(S.M++ [bQ [.str y,.int x]]).map D.da by simp[Sp.a],a9w];rfl
 |nxt j=>
  rw[show∀b,gEq (.str (Sp.nxt j).w) (.str "port") b=.ok (.bl false) b from λ_=>rfl];walk_at "ev";rw[show∀b,gEq (.str (Sp.nxt j).w) (.str "next") b=.ok (.bl true) b from λ_=>rfl];walk_at "ev";rw[c];walk_at "ev";rw[show(Sp.nxt j).a=.int (j:Int) from rfl,ab9 mS2 (adz hm.kl) (by lia)];walk_at "ev";rw[a9s];rfl
 |box j=>
  rw[show∀b,gEq (.str (Sp.box j).w) (.str "port") b=.ok (.bl false) b from λ_=>rfl];walk_at "ev";rw[show∀b,gEq (.str (Sp.box j).w) (.str "next") b=.ok (.bl false) b from λ_=>rfl];walk_at "ev";rw[show(Sp.box j).a=.int (j:Int) from rfl,ab9 mS1 (adz hm.kg) (by lia)];walk_at "ev";rw[a93];rfl
theorem aos{s:S}{st h:D}{w:List Int}{k:Nat}{x:Int}{v:Option D}{all:List D}(l:w[k]?=some x): ∀(sp:List Sp) (F:List (Sp×Int)) (S:Mst) (b c:Option D),MOk F S->F.length+sp.length <=1000 ->
  ∃j e,kb (.t2 (.nm 7) (.nm 8)) dnB (all,none) ((sp.map Sp.d).map D.da) [some st,some h,some (.da (wD w)),some (.ref s.length),some (.ref (s.length+1)),some (.ref (s.length+2)),some (.int (k:Int)),b,c,v] (mS s S)=
   .ok (.nx [some st,some h,some (.da (wD w)),some (.ref s.length),some (.ref (s.length+1)),some (.ref (s.length+2)),some (.int (k:Int)),j,e,v]) (mS s ((sp.map λp=>(p,x)).foldl dn1 S))
 |[],F,S,b,c,_,_=>⟨b,c,rfl⟩
 |p::r,F,S,b,c,hm,m=>by
  obtain⟨n,q,o⟩:=aos (s:=s) (st:=st) (h:=h) (v:=v) (all:=all) l r (F++ [(p,x)]) (dn1 S (p,x)) (some (.str p.w)) (some (.da p.a)) (hm.step _) (by simp at m⊢;lia);refine⟨n,q,?_⟩;rw[aw,aw,aai (ρ1:=[some st,some h,some (.da (wD w)),some (.ref s.length),some (.ref (s.length+1)),some (.ref (s.length+2)),some (.int (k:Int)),some (.str p.w),some (.da p.a),v]) (by rw[Sp.eq];rfl),a2n p l hm (by simp at m;lia),R.bind_ok,adl,o];rfl
def ouB:FS:=(ko (fIt (fOp gIx (fOp gIx (fOp gIx (ja 0) (fC (.da (.int 2)))) (ja 6)) (fC (.da (.int 0))))) (.t2 (.nm 7) (.nm 8)) dnB)
structure DnJ (st:Stp) (h:Hd) (w:List Int) (s:S) (r:List D) (ρ:En) (s':S):Prop where
 ex: ∃(k:Nat) (M:Mst) (u1 u2 u3:Option D),k <=w.length/\r=xn k (w.length - k)/\MOk ((((st.ts.zip w).take k)).flatMap λq=>q.1.sp.map λp=>(p,q.2)) M/\
  ρ=[some (.da st.d),some (.da (hdD h)),some (.da (wD w)),some (.ref s.length),some (.ref (s.length+1)),some (.ref (s.length+2)),u1,u2,u3,none]/\s'=mS s M
theorem a2a{ts:List Ti}{w:List Int}(b:ts.length=w.length)(j:Nat):((fl ts w).any λq=>y3 j q.1)=(aa0 ts).any (y3 j):=by
 have e:aa0 ts=(fl ts w).map (·.1):=by
  unfold aa0 fl;rw[List.map_flatMap];have a:ts=(ts.zip w).map (·.1):=by rw[List.map_fst_zip (by lia)]
  conv=>lhs;rw[a]
  rw[List.flatMap_map];congr 1;funext q;rw[aY,show((λx:Sp×Int=>x.1)∘λp=>(p,q.2))=id from rfl,List.map_id]
 rw[e,List.any_map];rfl
structure DW {α:Type} (r:R α) (Q:α->S->Prop):Prop where
 w:r.W Q
theorem DW.mono{α:Type}{r:R α}{Q b:α->S->Prop}(h:DW r Q)(k: ∀a s,Q a s->b a s):r.W b:=R.W_mono h.w k
theorem a2g{st:Stp}{h:Hd}{w:List Int}(F:st.ts.length=w.length)(L: ∀t∈st.ts,∀p∈t.sp,inB h.length p=true)(E: ∀t∈st.ts,t.sp.length <=9)(hn:st.ts.length <=3)(hh:h.length <=1000)(H:ahk b (fl st.ts w)):
  DW (zf [.da st.d,.da (hdD h),.da (wD w)] s) λd s'=>d=.tup [.tuple (vf (prs (fl st.ts w))),.tuple [.int st.b,hdD (sb st.ts w h)]]/\Ext s s':=by
 have n:=au2 (w:=w) E hn;have pre: ∀k,((((st.ts.zip w).take k)).flatMap λq=>q.1.sp.map λp=>(p,q.2)).length <=27:=λk=>by
  refine aN ?_ n;unfold fl
  conv=>rhs;rw[←List.take_append_drop k (st.ts.zip w)]
  rw[eK,aH];lia
 refine⟨?_⟩;rw[ar0];unfold B_law_done;walk_at "go";have o: ∀a,xp [.da (wD w)] a=.ok (.int w.length) a:=λa=>by
  show xp [.tup (w.map aG)] a=_;rw[ao6,ao]
 rw[o];walk_at "go";rw[ze (by lia) (by lia)];walk_at "go";show(kb (.nm 6) ouB _ _ _ (mS s ⟨[],[],[]⟩)).W _;rw[show((w.length:Int)).toNat=w.length from bt _];refine j6 (DnJ st h w s) ?_ ?_ _ _ _ ⟨0,⟨[],[],[]⟩,none,none,none,bn _,rfl,MOk.nil,rfl,rfl⟩
 ·rintro d r ρ s' ⟨k,M,u1,u2,u3,hk,e2,hm,rfl,rfl⟩;by_cases c:k < w.length
  ·rw[show w.length - k=(w.length - (k+1))+1 by lia,xn,bc]at e2;obtain⟨rfl,rfl⟩:=e2;have hx:w[k]?=some w[k]:=av c;have u:k < st.ts.length:=by lia
   have x:st.ts[k]?=some st.ts[k]:=av u;have y:st.ts[k]∈st.ts:=ci u;refine⟨[some (.da st.d),some (.da (hdD h)),some (.da (wD w)),some (.ref s.length),some (.ref (s.length+1)),some (.ref (s.length+2)),some (.int (k:Int)),u2,u3,none],rfl,?_⟩;unfold ouB;walk_at "go";rw[show∀a,gIx (.da st.d) (.int 2) a=.ok (.tup (st.ts.map Ti.d)) a from λ_=>it2];walk_at "go";rw[show∀a,gIx (.tup (st.ts.map Ti.d)) (.int (k:Int)) a=.ok (.da (st.ts[k].d)) a from λ_=>zi (by rw[aT,x];rfl)];walk_at "go";rw[show∀a,gIx (.da (st.ts[k].d)) (.int 0) a=.ok (.tup (st.ts[k].sp.map Sp.d)) a from λ_=>it0];walk_at "go";have l9:=E _ y;have J:=pre k;obtain⟨I,K,e⟩:=aos (s:=s) (st:=.da st.d) (h:=.da (hdD h)) (v:=none) (all:=(st.ts[k].sp.map Sp.d).map D.da) hx st.ts[k].sp _ M u2 u3 hm (by lia);rw[e];refine⟨k+1,_,_,_,_,c,by rw[fP],?_,rfl,rfl⟩;have C:(st.ts.zip w).take (k+1)=(st.ts.zip w).take k++ [(st.ts[k],w[k])]:=by
    rw[List.take_succ,jW (z:=(st.ts[k],w[k]))|>.mpr ⟨x,hx⟩];rfl
   rw[C,eK];have:=MOk.fold (S:=M) (st.ts[k].sp.map λp=>(p,w[k])) _ M hm;simpa using this
  ·rw[show w.length - k=0 by lia]at e2;cases e2
 ·rintro ρ s' ⟨k,M,u1,u2,u3,hk,e2,hm,rfl,rfl⟩;have c:k=w.length:=by
   by_cases z:k < w.length
   ·rw[show w.length - k=(w.length - (k+1))+1 by lia]at e2;cases e2
   ·lia
  subst c;have C:(st.ts.zip w).take w.length=st.ts.zip w:=gQ (by rw[iu];lia);rw[C]at hm;have hm:MOk (fl st.ts w) M:=hm;walk_at "go";have A: ∀a,xp [.da (hdD h)] a=.ok (.int h.length) a:=λa=>by
   show xp [.tup (h.map hD)] a=_;rw[ao6,ao]
  rw[A];walk_at "go";rw[ze (by lia) (by lia),show((h.length:Int)).toNat=h.length from bt _];walk_at "go";rw[zl (ρ0:=[none,some (.ref (s.length+2)),some (.ref (s.length+1)),some (.da (hdD h))]) (by rw[qa];lia) rfl]
  rw[show xn 0 h.length=(a8 h.length).map (λi:Nat=>D.int (i:Int)) from by
   apply cJ;intro i;by_cases j:i < h.length
   ·rw[agg _ _ _ j,aT,dH j];simp
   ·rw[cc (by rw[qa];lia),cc (by simp;lia)]]
  rw[zq (λi:Nat=>D.int (i:Int)) (λ_=>true) (λi=>hD (bhv st.ts w h i)) (a8 h.length) λi j=>⟨[some (.int (i:Int)),some (.ref (s.length+2)),some (.ref (s.length+1)),some (.da (hdD h))],rfl,rfl,λ_=>by
   have j:i < h.length:=eC.mp j;walk_at "ev";rw[aku mS2];walk_at "ev";rw[apl mS1 (adz hm.kg),hm.g i,a2a F];walk_at "ev";unfold bhv;cases hz:(aa0 st.ts).any (y3 i) with
   |true=>
    walk_at "ev";rw[ag2 mS2 (adz hm.kl),hm.l i];cases (fl st.ts w).foldl (nx1 i) none <;> rfl
   |false=>
    walk_at "ev";rw[aqp j];walk_at "ev";rw[ag2 mS2 (adz hm.kl),hm.l i]
    cases (fl st.ts w).foldl (nx1 i) none <;> rfl⟩]
  rw[show(a8 h.length).filter (λ_=>true)=a8 h.length by simp];walk_at "go";rw[ahv (by rw[mS0,hm.m]) (Nat.lt_of_le_of_lt (aj1 _) (Nat.lt_of_le_of_lt n (by decide))) aid (a38 (b:=b) H)];walk_at "go";rw[show∀a,gIx (.da st.d) (.int 3) a=.ok (.int st.b) a from λ_=>it3];walk_at "go";refine⟨?_,Ext.add _ _⟩;rw[a5r];unfold hdD;rw[aY];rfl
def stD(p:Int)(h:Hd):aa:=.tuple [.int p,hdD h]
def vc(st:Stp)(h:Hd)(w:List Int):aa:=.tuple [.tuple (vf (prs (fl st.ts w))),.tuple [.int st.b,hdD (sb st.ts w h)]]
def za(h:Hd)(ks:List aa)(st:Stp):List aa:=(jy (st.ts.map (tf h np))).foldl (λks w=>ku ks (vc st h w)) ks
def mv(sts:List Stp)(p:Int)(h:Hd):List aa:=(sts.filter λst=>decide (st.a=p)).foldl (za h) [.tuple [.tuple [],stD p h]]
noncomputable def ab7(p:Int):Bool:=decide (0 <=p)&&decide (p <=1000000000000)
theorem agj{p:Int}(h:ab7 p=true):Nice 0 0 (.int p):=by
 unfold ab7 at h;simp only[aJ,decide_eq_true_eq]at h;by_cases e:p=1000000000000
 ·subst e;exact⟨by decide+kernel,by decide+kernel,rfl,aj _,by simp[dM]⟩
 ·exact aes (by lia)
def xm(h:Hd):Prop:= ∀o∈h,∀x,o=some x->0 <=x/\x < 3
theorem a0g{h:Hd}(c:h.length <=1000)(ho:xm h):Nice 1000 1 (hdD h):=by
 have b:=vq (B:=0) (D:=0) (h.map hD) λd hd=>by
  obtain⟨o,a,rfl⟩:=aO.mp hd;cases o with
  |none=>exact ats
  |some x=>exact act (ho _ a x rfl)
 rw[ao]at b;exact(b.mono (B':=1000) (by lia) (aj _)).tup
theorem ajn{p:Int}{h:Hd}(b:ab7 p=true)(a:h.length <=1000)(ho:xm h):Nice 1002 2 (stD p h):=
 ((Nices.cons ((agj b).mono (aj _) (by decide)) (Nices.cons (a0g a ho) Nices.nil)).tup).mono (by decide) (by decide)
structure StOk (b:Nat) (st:Stp):Prop where
 ti: ∀t∈st.ts,TiN b t
 n3:st.ts.length <=3
 a:ab7 st.a=true
 b:ab7 st.b=true
 ps: ∃xs:List Str,st.ps=xs.map aC/\xs.length <=9/\ ∀x∈xs,k7 x=true
theorem ag8{h:Hd}{ts:List Ti}(d: ∀t∈ts,TiN b t): ∀w∈jy (ts.map (tf h np)),w.length=ts.length/\ ∀x∈w,0 <=x/\x < 3:=by
 induction ts with
 |nil=>intro w a;simp[jy]at a;rw[a];exact⟨rfl,λx hx=>by cases hx⟩
 |cons t r l=>
  intro w a;have a:w∈(tf h np t).flatMap λx=>(jy (r.map (tf h np))).map (x:: ·):=a
  obtain⟨x,hx,a⟩:=cW.mp a;obtain⟨v,k,rfl⟩:=aO.mp a;obtain⟨e,j⟩:=l (λy c=>d y (aq _ c)) v k;refine⟨by simp[e],λy c=>?_⟩;rcases aL.mp c with z|z
  ·rw[z];exact(d t au).ti x (bd.mp hx).1
  ·exact j y z
theorem aqy{ts:List Ti}{w:List Int}(c: ∀t∈ts,TiN b t)(h: ∀x∈w,0 <=x/\x < 3):ahk b (fl ts w):=by
 intro q a;unfold fl at a;obtain⟨⟨t,x⟩,hz,a⟩:=cW.mp a
 (obtain⟨p,d,rfl⟩:=aO.mp a)
 obtain⟨e,j⟩:=dR hz;exact⟨(c t e).sp p d,(c t e).pt p d,h x j⟩
theorem aom: ∀(l:List Sp) (B:Hd),xm B->xm (l.foldl yh B)
 |[],B,h=>h
 | p::r,B,h=>by
  rw[aW];refine aom r _ ?_;cases p with
  |port y=>exact h
  |nxt k=>exact h
  |box k=>
   intro o ho x e;rcases jX ho with z|z
   ·exact h o z x e
   ·rw[z]at e;cases e
theorem asl: ∀(l:List (Sp×Int)) (B:Hd),(∀q∈l,0 <=q.2/\q.2 < 3)->xm B->xm (l.foldl acb B)
 |[],B,_,h=>h
 | (p,y)::r,B,a,h=>by
  rw[aW];refine asl r _ (λq b=>a q (aq _ b)) ?_;cases p with
  |port z=>exact h
  |box k=>exact h
  |nxt k=>
   intro o ho x e;rcases jX ho with z|z
   ·exact h o z x e
   ·rw[z]at e;cases e;exact a _ au
theorem aqh{ts:List Ti}{w:List Int}{h:Hd}(a:ahk b (fl ts w))(hh:xm h):xm (sb ts w h):=asl _ _ (λq c=>(a q c).2.2) (aom _ _ hh)
theorem alo{st:Stp}{h:Hd}{w:List Int}(hs:StOk b st)(c:ahk b (fl st.ts w))(m:h.length <=1000)(hh:xm h):Nice 1700 3 (vc st h w):=by
 have e:=au2 (w:=w) (λt k=>(hs.ti t k).l9) hs.n3;have a:=vq (B:=22) (D:=1) (vf (prs (fl st.ts w))) λd hd=>ane c ((xf _).mem_iff.mp hd)
 rw[(xf _).length_eq]at a;have:=aj1 (fl st.ts w);have j:=(a.mono (B':=621) (by lia) (aj _)).tup;have l:=ajn (p:=st.b) (h:=sb st.ts w h) hs.b (by rw[aij];exact m) (aqh c hh);exact((Nices.cons j (Nices.cons l Nices.nil)).tup).mono (by decide) (by decide)
theorem aq7(h:Hd):plD (hdD h)=true:=by
 unfold hdD;rw[j9,aa6,eI];exact aB.mpr λo _=>by cases o <;> rfl
theorem a6o{st:Stp}{h:Hd}{w:List Int}:plD (vc st h w)=true:=by
 unfold vc;rw[j9,jz,jz,j9,j9,jz,jz,aq7,aa6]
 rw[show(vf (prs (fl st.ts w))).all plD=true from aB.mpr λd hd=>by
  obtain⟨y,x,_,rfl⟩:=agi ((xf _).mem_iff.mp hd)
  rfl]
 rfl
theorem adr{d:aa}{D:Nat}(b: ∃xs,d=.tuple xs)(a:plD d=true)(hn:Nice B D d)(hd:D <=8):isT d=true:=by
 obtain⟨xs,rfl⟩:=b;exact ye.mpr ⟨a,hn.cl,aN hn.dp hd⟩
theorem yx{st:Stp}{h:Hd}{w:List Int}(hs:StOk b st)(a:ahk b (fl st.ts w))(c:h.length <=1000)(hh:xm h):isT (vc st h w)=true:=adr ⟨_,rfl⟩ a6o (alo hs a c hh) (by decide)
theorem ap0{p:Int}{h:Hd}(b:ab7 p=true)(a:h.length <=1000)(ho:xm h):Nice 1700 3 (.tuple [.tuple [],stD p h]):=
 ((Nices.cons ((Nices.nil (D:=0)).tup.mono (aj _) (by decide)) (Nices.cons (ajn b a ho) Nices.nil)).tup).mono (by decide) (by decide)
theorem avf{p:Int}{h:Hd}(b:ab7 p=true)(a:h.length <=1000)(ho:xm h):isT (.tuple [.tuple [],stD p h])=true:=by
 refine adr ⟨_,rfl⟩ ?_ (ap0 b a ho) (by decide);unfold stD;rw[j9,jz,jz,j9,j9,jz,jz,aq7];rfl
structure KsOk (ks:List aa) (kvs:KV):Prop where
 e:kvs.map (·.1)=ks
 t: ∀k∈ks,isT k=true
theorem KsOk.same{kvs:KV}{k:aa}(h:KsOk ks kvs)(hk:isT k=true):ki kvs k=true:=by
 unfold ki;rw[hk,Bool.true_and];have:(kvs.all λe=>isT e.1)=true:=aB.mpr λe a=>h.t _ (by rw[←h.e];exact aO.mpr ⟨e,a,rfl⟩)
 rw[this,Bool.or_true]
theorem KsOk.put{kvs:KV}{k:aa}{v:D}(h:KsOk ks kvs)(hk:isT k=true):KsOk (ku ks k) (j5 kvs k v):=by
 refine⟨by rw[anc,h.e],λx hx=>?_⟩;unfold ku at hx;split at hx
 ·exact h.t x hx
 ·rcases aS.mp hx with z|z
  ·exact h.t x z
  ·rw[aA.mp z];exact hk
theorem KsOk.len{kvs:KV}(h:KsOk ks kvs):kvs.length=ks.length:=by rw[←h.e,ao]
theorem alr(ks:List aa)(k:aa):(ku ks k).length <=ks.length+1:=by
 unfold ku;split
 ·lia
 ·simp
theorem a1u{k:aa}(hk:isT k=true):kDp s.length [(.da k,.bl true)] (s++ [.dct []])=.ok (.ref s.length) (s++ [.dct [(k,.bl true)]]):=by
 have e:yg (.ref s.length) (.da k) (.bl true) (s++ [.dct []])=.ok .non (s++ [.dct [(k,.bl true)]]):=by
  unfold yg;rw[yv (qr (g:=[]))];show(if ki ([]:KV) k=true/\([]:KV).length < sizeLine then R.ok D.non ((s++ [O.dct []]).set s.length (.dct (j5 [] k (.bl true)))) else .bad)=_;rw[if_pos ⟨by unfold ki;rw[hk];simp,by decide⟩,aaj];rfl
 unfold kDp putAll;rw[e];rfl
structure MvJ (s:S) (ks:List aa) (s':S):Prop where
 ex: ∃(kvs:KV) (g:S),KsOk ks kvs/\s'=s++O.dct kvs::g
theorem MvJ.ext{a:S}(h:MvJ s ks s')(x:Ext s' a):MvJ s ks a:=by
 obtain⟨kvs,g,k,rfl⟩:=h.ex;obtain⟨b,rfl⟩:=x.ex;exact⟨kvs,g++b,k,by simp⟩
theorem MvJ.put{k:aa}(h:MvJ s ks s')(hk:isT k=true)(b:ks.length <=100000): ∃a,vd (.ref s.length) (.da k) (.bl true) s'=.ok .non a/\MvJ s (ku ks k) a:=by
 obtain⟨kvs,g,c,rfl⟩:=h.ex;refine⟨_,ab9 qr (c.same hk) (by rw[c.len];lia),_,g,c.put (v:=.bl true) hk,?_⟩;rw[aaj]
theorem ao4{h:Hd}{ts:List Ti}(d: ∀t∈ts,TiN b t)(hn:ts.length <=3):(jy (ts.map (tf h np))).length <=27:=by
 refine aN (ahn λc e=>?_) ?_
 ·obtain⟨y,a,rfl⟩:=aO.mp e;exact amf (d y a).toTiOk
 ·rw[ao]
  calc 3^ts.length <=3^3:=iz (by decide) hn
   _=27:=by decide
theorem aia{h:Hd}{st:Stp}(hs:StOk b st)(ks:List aa):(za h ks st).length <=ks.length+27:=by
 have g: ∀(W:List (List Int)) (ks:List aa),(W.foldl (λks w=>ku ks (vc st h w)) ks).length <=ks.length+W.length:=λW=>by
  induction W with
  |nil=>intro ks;exact aj _
  |cons w r d=>
   intro ks;have c:=d (ku ks (vc st h w));have a:=alr ks (vc st h w);rw[aW,aE];lia
 have c:=g (jy (st.ts.map (tf h np))) ks;have a:=ao4 (h:=h) hs.ti hs.n3;unfold za;lia
theorem a5p{st:Stp}{h:Hd}(hs:StOk b st){W V:List (List Int)}(e:jy (st.ts.map (tf h np))=W++V)(hk:ks.length <=1000):(W.foldl (λks w=>ku ks (vc st h w)) ks).length <=100000:=by
 have g: ∀(W:List (List Int)) (ks:List aa),(W.foldl (λks w=>ku ks (vc st h w)) ks).length <=ks.length+W.length:=λW=>by
  induction W with
  |nil=>intro ks;exact aj _
  |cons w r d=>
   intro ks;have c:=d (ku ks (vc st h w));have a:=alr ks (vc st h w);rw[aW,aE];lia
 have c:=g W ks;have a:=ao4 (h:=h) hs.ti hs.n3;rw[e,aH]at a;lia
structure Mc where
 n:Int
 ps:List aa
 b:Nat
 p:Int
 h:Hd
 sts:List Stp
def Mc.d(m:Mc):aa:=.tuple [.int m.n,.tuple m.ps,.int m.b,stD m.p m.h,.tuple (m.sts.map Stp.d)]
theorem az9(a p:Int)(s:S):gEq (.int a) (.int p) s=.ok (.bl (decide (a=p))) s:=by
 rw[show D.int a=.da (.int a) from rfl,show D.int p=.da (.int p) from rfl,ace rfl rfl];have:=ayu a (some p);rw[show hD (some p)=.int p from rfl]at this;rw[this];congr 2;rw[decide_eq_decide];exact⟨λe=>by cases e;rfl,λe=>by rw[e]⟩
structure LnJ (st:Stp) (p:Int) (h:Hd) (s:S) (ks0:List aa) (a0:D) (r:List D) (ρ:En) (s':S):Prop where
 ex: ∃(W V:List (List Int)) (u:Option D),jy (st.ts.map (tf h np))=W++V/\r=(V.map wD).map D.da/\
  ρ=[some a0,some (.da (stD p h)),some (.ref s.length),some (.da st.d),u]/\MvJ s (W.foldl (λks w=>ku ks (vc st h w)) ks0) s'
def lnB:FS:=(qv vd (fC (.da (.bool true))) (ja 2) (jf 3 zf (jb (ja 3) (jb (fOp gIx (ja 1) (fC (.da (.int 1)))) (jb (ja 4) jc)))))
def lmB:FS:=(jv (ji (fOp gEq (fOp gIx (ja 3) (fC (.da (.int 0)))) (fOp gIx (ja 1) (fC (.da (.int 0)))))) (ko (fIt (jf 2 (qf 6) (jb (fOp gIx (ja 3) (fC (.da (.int 2)))) (jb (fOp gIx (ja 1) (fC (.da (.int 1)))) jc)))) (.nm 4) lnB) jn)
structure LmJ (m:Mc) (p:Int) (h:Hd) (s:S) (r:List D) (ρ:En) (s':S):Prop where
 ex: ∃(ds rs:List Stp) (u v:Option D),m.sts=ds++rs/\r=(rs.map Stp.d).map D.da/\
  ρ=[some (.da m.d),some (.da (stD p h)),some (.ref s.length),u,v]/\(mv ds p h).length <=1+27*ds.length/\MvJ s (mv ds p h) s'
theorem ait{ds:List Stp}{st:Stp}{p:Int}{h:Hd}:mv (ds++ [st]) p h=if st.a=p then za h (mv ds p h) st else mv ds p h:=by
 unfold mv;rw[gw,bw];by_cases e:st.a=p
 ·rw[if_pos e,eO (by simp[e])];rfl
 ·rw[if_neg e,cI (by simp[e])];rfl
theorem afc{m:Mc}{p:Int}{h:Hd}(hs: ∀st∈m.sts,StOk h.length st)(hn:m.sts.length <=10)(A:ab7 p=true)(o:h.length <=1000)(ho:xm h):
  (yw [.da m.d,.da (stD p h)] s).W λd s'=>d=.lst (mv m.sts p h)/\Ext s s':=by
 rw[anx];unfold B_law_moves;walk_at "go";rw[show(D.tup [.tuple [],stD p h])=.da (.tuple [.tuple [],stD p h]) from rfl,a1u (avf A o ho)];walk_at "go";rw[show∀l,gIx (.da m.d) (.int 4) l=.ok (.tup (m.sts.map Stp.d)) l from λ_=>it4];walk_at "go";show(kb (.nm 3) lmB _ _ _ _).W _;refine j6 (LmJ m p h s) ?_ ?_ _ _ _ ⟨[],m.sts,none,none,rfl,rfl,rfl,aj _,⟨_,[],⟨rfl,λk hk=>by rw[aA.mp hk];exact avf A o ho⟩,rfl⟩⟩
 ·rintro d r ρ s' ⟨ds,rs,u,v,e1,e2,rfl,e4,hm⟩;cases rs with
  |nil=>cases e2
  | cons st rs=>
   rw[aw,aw,bc]at e2;obtain⟨rfl,rfl⟩:=e2;refine⟨[some (.da m.d),some (.da (stD p h)),some (.ref s.length),some (.da st.d),v],rfl,?_⟩;have j:StOk h.length st:=hs st (by rw[e1];simp);have hds:ds.length <=10:=by rw[e1]at hn;simp at hn;lia
   unfold lmB;walk_at "go";rw[show∀l,gIx (.da st.d) (.int 0) l=.ok (.int st.a) l from λ_=>it0];walk_at "go";rw[show∀l,gIx (.da (stD p h)) (.int 0) l=.ok (.int p) l from λ_=>it0];walk_at "go";rw[az9];by_cases n:st.a=p
   ·rw[decide_eq_true n];walk_at "go";rw[show∀l,gIx (.da st.d) (.int 2) l=.ok (.tup (st.ts.map Ti.d)) l from λ_=>it2];walk_at "go";rw[show∀l,gIx (.da (stD p h)) (.int 1) l=.ok (.da (hdD h)) l from λ_=>it1];walk_at "go";have n3:=j.n3;have I:st.ts.length < 6:=by lia
    have q:=alt (h:=h) o st.ts 6 s' j.ti j.n3 I;generalize qf 6=L at q⊢;refine R.W_mono q ?_;rintro _ l ⟨rfl,x2⟩;walk_at "go";rw[show∀W l,zg (lsD W) l=.ok ((W.map wD).map D.da,none) l from λ_ _=>rfl];walk_at "go";refine j6 (LnJ st p h s (mv ds p h) (.da m.d)) ?_ ?_ _ _ _ ⟨[],_,v,rfl,rfl,rfl,hm.ext x2⟩
    ·rintro d r ρ z ⟨W,V,u,f1,f2,rfl,hm3⟩;cases V with
     |nil=>cases f2
     |cons w V=>
      rw[aw,aw,bc]at f2;obtain⟨rfl,rfl⟩:=f2;refine⟨[some (.da m.d),some (.da (stD p h)),some (.ref s.length),some (.da st.d),some (.da (wD w))],rfl,?_⟩;have y:=ag8 (h:=h) j.ti w (by rw[f1];simp);have C:=aqy (w:=w) j.ti y.2;unfold lnB;walk_at "go";rw[show∀l,gIx (.da (stD p h)) (.int 1) l=.ok (.da (hdD h)) l from λ_=>it1];walk_at "go";have q:=a2g (s:=z) (st:=st) (h:=h) (w:=w) (b:=h.length) y.1.symm (λt x q F=>(j.ti t x).sp q F) (λt x=>(j.ti t x).l9) j.n3 o C;generalize zf=J at q⊢;refine q.mono ?_;rintro _ K ⟨rfl,x5⟩;walk_at "go";obtain⟨M,H,E⟩:=(hm3.ext x5).put (yx j C o ho) (a5p j f1 (by lia));rw[show(D.tup [.tuple (vf (prs (fl st.ts w))),.tuple [.int st.b,hdD (sb st.ts w h)]])=.da (vc st h w) from rfl,H];walk_at "go";exact⟨W++ [w],V,_,by rw[f1];simp,rfl,rfl,by rw[bw];exact E⟩
    ·rintro ρ z ⟨W,V,u,f1,f2,rfl,hm3⟩;cases V with
     |cons w V=>cases f2
     | nil=>
      rw[aK]at f1;subst f1;have:=aia (h:=h) j (mv ds p h);refine⟨ds++ [st],rs,_,_,by rw[e1];simp,rfl,rfl,?_,?_⟩
      ·rw[ait,if_pos n,aH];show(za h _ st).length <=1+27*(ds.length+1);lia
      ·rw[ait,if_pos n];exact hm3
   ·rw[decide_eq_false n];walk_at "go";refine⟨ds++ [st],rs,_,_,by rw[e1];simp,rfl,rfl,?_,?_⟩
    ·rw[ait,if_neg n,aH];lia
    ·rw[ait,if_neg n];exact hm
 ·rintro ρ s' ⟨ds,rs,u,v,e1,e2,rfl,e4,hm⟩;cases rs with
  |cons q rs=>cases e2
  |nil=>
   rw[aK]at e1;subst e1;obtain⟨kvs,g,c,rfl⟩:=hm.ex;walk_at "go";rw[ah6 qr,c.e];walk_at "go";exact⟨trivial,Ext.add _ _⟩
structure McOk (m:Mc):Prop where
 n:0 < m.n/\m.n <=3
 ps: ∃xs:List Str,m.ps=xs.map aC/\xs.length <=9/\ ∀x∈xs,k7 x=true
 b:m.b <=1000
 p:ab7 m.p=true
 h:m.h.length=m.b
 ho:xm m.h
 st: ∀st∈m.sts,StOk m.b st
 n10:m.sts.length <=10
theorem aoc{ps:List aa}(h: ∃xs:List Str,ps=xs.map aC/\xs.length <=9/\ ∀x∈xs,k7 x=true):Nice 189 1 (.tuple ps):=by
 obtain⟨xs,rfl,a,ho⟩:=h;exact((ais xs ho).mono (B':=189) (by lia) (aj _)).tup
theorem akc(e:b <=1000){st:Stp}(h:StOk b st):Nice 1372 5 st.d:=by
 have j:=(agj h.a).mono (D':=4) (aj _) (by decide);have c:=(aoc h.ps).mono (D':=4) (aj _) (by decide);have l:=ama e h.ti h.n3;have k:=(agj h.b).mono (D':=4) (aj _) (by decide);exact((Nices.cons j (Nices.cons c (Nices.cons l (Nices.cons k Nices.nil)))).tup).mono (by decide) (by decide)
structure SdOk (m:Mc) (p:Int) (h:Hd):Prop where
 p:ab7 p=true
 l:h.length=m.b
 o:xm h
structure KyOk (m:Mc) (k:aa):Prop where
 ex: ∃mo p h,k=.tuple [mo,stD p h]/\SdOk m p h/\Nice 1700 3 k
theorem ar7{m:Mc}{p:Int}{h:Hd}(hm:McOk m)(hs:SdOk m p h):(∀k∈mv m.sts p h,KyOk m k)/\(mv m.sts p h).length <=271/\0 < (mv m.sts p h).length:=by
 have C:h.length <=1000:=by rw[hs.l];exact hm.b
 have key: ∀st∈m.sts,∀w∈jy (st.ts.map (tf h np)),KyOk m (vc st h w):=λst c w n=>by
  have t:=hm.st st c;have n:=ag8 t.ti w n;have E:=aqy (w:=w) t.ti n.2;exact⟨_,_,_,rfl,⟨t.b,by rw[aij,hs.l],aqh E hs.o⟩,alo t E C hs.o⟩
 have e: ∀(st:Stp),st∈m.sts->∀(W:List (List Int)) (ks:List aa),(∀w∈W,w∈jy (st.ts.map (tf h np)))->(∀k∈ks,KyOk m k)->0 < ks.length->(∀k∈W.foldl (λks w=>ku ks (vc st h w)) ks,KyOk m k)/\0 < (W.foldl (λks w=>ku ks (vc st h w)) ks).length:=λst c W=>by
  induction W with
  |nil=>intro ks _ hk j;exact⟨hk,j⟩
  | cons w r y=>
   intro ks n hk j;rw[aW];refine y _ (λv H=>n v (aq _ H)) (λk d=>?_) ?_
   ·unfold ku at d;split at d
    ·exact hk k d
    ·rcases aS.mp d with z|z
     ·exact hk k z
     ·rw[aA.mp z];exact key st c w (n w au)
   ·unfold ku;split
    ·exact j
    ·simp
 have outer: ∀(l:List Stp),(∀st∈l,st∈m.sts)->∀ks:List aa,(∀k∈ks,KyOk m k)->0 < ks.length->(∀k∈l.foldl (za h) ks,KyOk m k)/\(l.foldl (za h) ks).length <=ks.length+27*l.length/\0 < (l.foldl (za h) ks).length:=λl=>by
  induction l with
  |nil=>intro _ ks hk j;exact⟨hk,aj _,j⟩
  |cons st r y=>
   intro q ks hk j;have c:=q st au;obtain⟨I,F⟩:=e st c _ ks (λ_ z=>z) hk j;obtain⟨A,D,u⟩:=y (λx hx=>q x (aq _ hx)) (za h ks st) I F;have:=aia (h:=h) (hm.st st c) ks
   (rw[aW,aE])
   exact⟨A,by lia,u⟩
 obtain⟨A,D,u⟩:=outer (m.sts.filter λst=>decide (st.a=p)) (λst c=>(bd.mp c).1) [.tuple [.tuple [],stD p h]] (λk hk=>by
  rw[aA.mp hk];exact⟨_,_,_,rfl,hs,ap0 hs.p C hs.o⟩) Nat.one_pos
 refine⟨A,?_,u⟩;have:=cC (λst:Stp=>decide (st.a=p)) m.sts;have:=hm.n10;unfold mv;simp only[aE,dk]at D;lia
def abr:List Str:=["a","ab","abc","net","end","within","to","table","step","box","port","next","b","zzzzzzzz","both","place","ba"]
theorem a0r: ∀x∈abr,k7 x=true:=by decide+kernel
theorem axm: ∀a:Nat,a < 17->∀b:Nat,b < 17->a≠b->abr.getD a "a"≠abr.getD b "a":=by decide+kernel
theorem a59: ∀f:Nat,f < 17->∀g:Nat,g < 16->((a8 7).map λi=>(f+(1+g)*i) % 17).Nodup:=by decide+kernel
theorem atj(n:Nat):xn 0 n=(a8 n).map λi:Nat=>D.int (i:Int):=by
 apply cJ;intro i;by_cases a:i < n
 ·rw[agg _ _ _ a,aT,dH a];simp
 ·rw[cc (by rw[qa];lia),cc (by simp;lia)]
theorem auy{f g:Int}(b:0 <=f)(c:0 <=g)(i:Nat):((f+(1+g)*(i:Int)) % 17).toNat=(f.toNat+(1+g.toNat)*i) % 17:=by
 obtain⟨a,rfl⟩:=kT b;obtain⟨g',rfl⟩:=kT c;rw[show(a:Int)+(1+(g':Int))*(i:Int)=((a+(1+g')*i:Nat):Int) by push_cast;rfl];rfl
theorem a4t{f g:Int}{k:Nat}(c:0 <=f)(e:f < 17)(d:0 <=g)(j:g < 16)(hk:k <=7):((a8 k).map λi:Nat=>abr.getD ((f+(1+g)*(i:Int)) % 17).toNat "a").Nodup:=by
 have nd:=a59 f.toNat (by lia) g.toNat (by lia);have lt: ∀i:Nat,(f.toNat+(1+g.toNat)*i) % 17 < 17:=λi=>Nat.mod_lt _ (by decide)
 unfold List.Nodup at nd⊢;rw[fw]at nd⊢;refine(nd.sublist (List.range_sublist.mpr hk)).imp λ{a b} h=>?_
 rw[auy c d,auy c d];exact axm _ (lt a) _ (lt b) h
theorem ayk{k:Nat}(h:Fd s n c)(hk:k <=7)(E:c+2 < 2^40):DW (yt [.ref n,.int (k:Int)] s) λd s'=>∃ps:List Str,d=.lst (ps.map aC)/\ps.length=k/\(∀x∈ps,k7 x=true)/\ps.Nodup/\Fd s' n (c+2)/\jr n s s':=by
 refine⟨?_⟩;rw[anv];unfold B_law_names;walk_at "go";rw[alb (by decide)];walk_at "go";generalize r:D.lst ([aC "a",aC "ab",aC "abc",aC "net",aC "end",aC "within",aC "to",aC "table",aC "step",aC "box",aC "port",aC "next",aC "b",aC "zzzzzzzz",aC "both",aC "place",aC "ba"])=L;have r:L=.lst (abr.map aC):=r.symm;subst r;refine R.W_mono (kq h (by decide) (by decide) (by lia)) ?_;rintro _ v ⟨f,rfl,f0,f1,fd1,sm1⟩;walk_at "go";refine R.W_mono (kq fd1 (by decide) (by decide) (by lia)) λw z q=>?_
 obtain⟨g,e,u,t,l,m⟩:=q;rw[e];clear e;walk_at "go";rw[ze (by lia) (by lia),show((k:Int)).toNat=k from bt _];walk_at "go";rw[zl (ρ0:=[none,some (.lst (abr.map aC)),some (.int f),some (.int (1+g))]) (by rw[qa];lia) rfl];rw[atj];have b: ∀i:Nat,∃q:Nat,(f+(1+g)*(i:Int)) % 17=(q:Int)/\q < 17:=λi=>by
  have A:=iy (f+(1+g)*(i:Int)) (show(17:Int)≠0 by decide);have C:=gv (f+(1+g)*(i:Int)) (show(0:Int) < 17 by decide);exact⟨((f+(1+g)*(i:Int)) % 17).toNat,by lia,by lia⟩
 rw[zq (λi:Nat=>D.int (i:Int)) (λ_=>true) (λi=>.str (abr.getD ((f+(1+g)*(i:Int)) % 17).toNat "a")) (a8 k) λi y=>⟨[some (.int (i:Int)),some (.lst (abr.map aC)),some (.int f),some (.int (1+g))],rfl,rfl,λ_=>by
  walk_at "ev";rw[y8 (.inl (by lia))];walk_at "ev";rw[xh (by decide)];walk_at "ev";obtain⟨q,o,a⟩:=b i;rw[o,bt];have j:q < abr.length:=a
  rw[aag (p:=.str (abr.getD q "a")) (by rw[aT,av j,bP,av j];rfl)]⟩]
 rw[show(a8 k).filter (λ_=>true)=a8 k by simp];walk_at "go";refine⟨(a8 k).map λi:Nat=>abr.getD ((f+(1+g)*(i:Int)) % 17).toNat "a",by rw[aY];rfl,by simp,λx hx=>?_,?_,l,sm1.trans m⟩
 ·obtain⟨i,_,rfl⟩:=aO.mp hx;obtain⟨q,o,a⟩:=b i;rw[o,bt];have j:q < abr.length:=a;rw[bP,av j];exact a0r _ (ci j)
 ·exact a4t f0 f1 u t hk
structure ToJ (s:S) (n c T:Nat) (r acc:List D) (s':S):Prop where
 ex: ∃(l:List Int) (k c':Nat),acc=l.map (λi=>D.int i)/\r=xn k (T - k)/\k <=T/\l.length <=k/\(∀x∈l,0 <=x/\x < (T:Int))/\Fd s' n c'/\c'+(T - k) <=c+T/\jr n s s'
theorem eq0(i j:Int)(s:S):gEq (.int i) (.int j) s=.ok (.bl (decide (i=j))) s:=az9 i j s
theorem a1l{T:Nat}(h:Fd s n c)(p:0 < T)(q:T <=3)(t:c+4 < 2^40):DW (zk [.ref n,.int (T:Int)] s) λd s'=>∃l:List Int,d=.tup (l.map aG)/\l.length <=3/\(∀x∈l,0 <=x/\x < 3)/\Fd s' n (c+4)/\jr n s s':=by
 refine⟨?_⟩;rw[aq9];unfold B_law_told;walk_at "go";rw[ze (by lia) (by lia),show((T:Int)).toNat=T from bt _];walk_at "go";rw[zl (ρ0:=[none,some (.ref n)]) (by rw[qa];lia) rfl,R.W_bindk];refine R.W_mono (y4 (Q:=λxs s'=>∃(l:List Int),xs=l.map (λi=>D.int i)/\l.length <=T/\(∀x∈l,0 <=x/\x < (T:Int))/\Fd s' n (c+T)/\jr n s s') (ToJ s n c T) ?_ ?_ _ [] s ⟨[],0,c,rfl,rfl,bn _,aj _,(λx hx=>by cases hx),h,by lia,jr.refl _ _⟩) ?_
 ·rintro d r acc s' ⟨l,k,c',ha,hr,hk,hl,hx,fd,hcc,sm⟩;by_cases b:k < T
  ·rw[show T - k=(T - (k+1))+1 by lia,xn,bc]at hr;obtain⟨rfl,rfl⟩:=hr;refine⟨[some (.int (k:Int)),some (.ref n)],rfl,?_⟩;walk_at "go";refine R.W_mono (kq fd (by decide) (by decide) (by lia)) ?_;rintro _ m ⟨i,rfl,i0,i1,fd1,sm1⟩;walk_at "go";rw[eq0];by_cases e:i=0
   ·rw[decide_eq_true e];walk_at "go";refine⟨l++ [(k:Int)],k+1,c'+1,by rw[ha];simp,by rw[fP],b,by simp;lia,λx a=>?_,fd1,by lia,sm.trans sm1⟩;rcases aS.mp a with z|z
    ·exact hx x z
    ·rw[aA.mp z];lia
   ·rw[decide_eq_false e];walk_at "go";exact⟨l,k+1,c'+1,ha,by rw[fP],b,by lia,hx,fd1,by lia,sm.trans sm1⟩
  ·rw[show T - k=0 by lia]at hr;cases hr
 ·rintro acc s' ⟨l,k,c',ha,hr,hk,hl,hx,fd,hcc,sm⟩;exact⟨l,ha,by lia,hx,fd.le (by lia),sm⟩
 ·rintro xs m ⟨l,e,hl,hx,fd,sm⟩;rw[dU]at e;subst e;walk_at "go";rw[show l.map (λi=>D.int i)=(l.map aG).map D.da by rw[aY];rfl];walk_at "go";rw[anp (Nice.okD (B:=l.length) (D:=1) ((ahz (B:=0) l λx a=>act ⟨(hx x a).1,by have:=(hx x a).2;lia⟩).lst) (by decide)) rfl,ahe];cases l with
  |nil=>
   walk_at "go";rw[show(!(([]:List Int).map aG).isEmpty)=false from rfl];walk_at "go";refine R.W_mono (kq fd (by lia) (by lia) (by lia)) ?_;rintro _ o ⟨i,rfl,i0,i1,fd2,sm2⟩;walk_at "go";exact⟨[i],rfl,by simp,λx hx=>by rw[aA.mp hx];lia,fd2.le (by lia),sm.trans sm2⟩
  |cons y j=>
   rw[show(!((y::j).map aG).isEmpty)=true from rfl];walk_at "go";exact⟨y::j,rfl,by lia,λx a=>⟨(hx x a).1,by have:=(hx x a).2;lia⟩,fd.le (by lia),sm⟩
def gpD(l:List Sp):O:=.lst ((l.map Sp.d).map D.da)
structure Gr (s s':S) (n g:Nat) (G:Nat->List Sp) (N b:Nat):Prop where
 at': ∀i:Nat,i < 3->s'[g+i]?=some (gpD (G i))
 all:s'[g+3]?=some (.lst [.ref g,.ref (g+1),.ref (g+2)])
 big:s.length <=g/\n < s.length
 few: ∀i:Nat,(G i).length <=N
 inb: ∀i:Nat,∀p∈G i,inB b p=true/\abt p=true
 sm:jr n s s'
theorem Gr.same{a:S}{g N:Nat}{G:Nat->List Sp}(h:Gr s s' n g G N b)(x:jr n s' a):Gr s a n g G N b:=by
 have e:=(am.mp h.all).1;obtain⟨d,b2⟩:=h.big;refine⟨λi c=>?_,?_,h.big,h.few,h.inb,h.sm.trans x⟩
 ·rw[x.get _ (by lia) (by lia)];exact h.at' i c
 ·rw[x.get _ (by lia) (by lia)];exact h.all
theorem Gr.mono{g N N':Nat}{G:Nat->List Sp}(h:Gr s s' n g G N b)(a:N <=N'):Gr s s' n g G N' b:=⟨h.at',h.all,h.big,λi=>aN (h.few i) a,h.inb,h.sm⟩
theorem Gr.ix{g N:Nat}{G:Nat->List Sp}(h:Gr s s' n g G N b)(a:i < 3):gIx (.ref (g+3)) (.int (i:Int)) s'=.ok (.ref (g+i)) s':=by
 refine ap3 h.all ?_;have:i=0\/i=1\/i=2:=by lia
 rcases this with rfl|rfl|rfl <;> rfl
noncomputable def ach(G:Nat->List Sp)(i:Nat)(p:Sp):Nat->List Sp:=λj=>if j=i then G j++ [p] else G j
theorem Gr.put{g N:Nat}{G:Nat->List Sp}(h:Gr s s' n g G N b)(l:i < 3)(t:N <=1000){p:Sp}(m:inB b p=true/\abt p=true):
  ∃c,kc (.ref (g+i)) [.da p.d] s'=.ok .non c/\Gr s c n g (ach G i p) (N+1) b/\ ∀k,k < s.length->c[k]?=s'[k]?:=by
 have v:=h.few i;obtain⟨r,b2⟩:=h.big;have u:=(am.mp h.all).1;refine⟨_,yc (h.at' i l) (by simp;lia),⟨λj o=>?_,?_,h.big,λj=>?_,λj q a=>?_,h.sm.own (by lia)⟩,λk hk=>aF (by lia)⟩
 ·by_cases e:j=i
  ·subst e;rw[aR (by lia)];unfold ach gpD;rw[if_pos rfl];simp
  ·rw[aF (by lia),h.at' j o];unfold ach;rw[if_neg e]
 ·rw[aF (by lia)];exact h.all
 ·unfold ach;have:=h.few j;split
  ·simp;lia
  ·lia
 ·unfold ach at a;split at a
  ·rcases aS.mp a with z|z
   ·exact h.inb j q z
   ·rw[aA.mp z];exact m
  ·exact h.inb j q a
noncomputable def ptO:Sp->Option Str
 |.port x=>some x
 |_=>none
def ptN(l:List Sp):List Str:=l.filterMap ptO
def ptG(G:Nat->List Sp):Nat->List Str
 |0=>[]
 |i+1=>ptG G i++ptN (G i)
theorem a0q(l r:List Sp):ptN (l++r)=ptN l++ptN r:=List.filterMap_append
theorem azs{G:Nat->List Sp}{p:Sp}(d:i < 3):(ptG (ach G i p) 3).Perm (ptG G 3++ptN [p]):=by
 have:i=0\/i=1\/i=2:=by lia
 have b: ∀q:List Sp,ptG G 3=ptN (G 0)++ptN (G 1)++ptN (G 2):=λ_=>rfl
 have c:ptG (ach G i p) 3=ptN (ach G i p 0)++ptN (ach G i p 1)++ptN (ach G i p 2):=rfl;rw[b [],c];refine List.perm_iff_count.mpr λa=>?_
 rcases this with rfl|rfl|rfl <;> (simp[ach,a0q,List.count_append];try lia)
def ptD:aa->Option Str
 |.tuple [.str w,.str x]=>if w=bj "port" then some x else none
 |_=>none
theorem aop(l:List Sp):ptN l=(l.map Sp.d).filterMap ptD:=by
 unfold ptN;rw[List.filterMap_map];congr 1;funext p;cases p with
 |port x=>simp[ptO,ptD,Sp.d]
 |box k=>rfl
 |nxt k=>rfl
theorem als{g N:Nat}{G:Nat->List Sp}{p:Sp}{Q:Fl->S->Prop}(h:Gr s s' n g G N b)(fd:Fd s' n c)(F:c+1 < 2^40)(z:N <=1000)(A:inB b p=true/\abt p=true)(C: ∀l,ja 6 ρ l=.ok (.ref (g+3)) l)(w: ∀l,ja 0 ρ l=.ok (.ref n) l)(E: ∀l,fa ρ l=.ok [.da p.d] l)(k: ∀(v:Nat->List Sp) (l:S),(ptG v 3).Perm (ptG G 3++ptN [p])->Gr s l n g v (N+1) b->Fd l n (c+1)->Q (.nx ρ) l):
  ((qq (fMt kc (fOp gIx (ja 6) (jf 2 jg (jb (ja 0) (jb (fC (.da (.int 3))) jc)))) fa)) ρ s').W Q:=by
 rw[a47,a8s,aye,C];walk_at "go";rw[w];walk_at "go";refine R.W_mono (kq fd (by decide) (by decide) (by lia)) λd K q=>?_
 obtain⟨i,e,I,J,o,t⟩:=q;rw[e];clear e;obtain⟨j,rfl⟩: ∃j:Nat,i=(j:Int):=⟨i.toNat,by lia⟩;have u:=h.same t;have m:j < 3:=by lia
 walk_at "go";rw[u.ix m];walk_at "go";rw[ac1 (u.at' j m),E];walk_at "go";obtain⟨l,y,x,kp⟩:=u.put m z A;rw[y];walk_at "go";refine k _ l (azs m) x ?_;obtain⟨xs,a,D,ex,r⟩:=o.ex;obtain⟨H,b2⟩:=h.big;exact⟨xs,a,D,by rw[kp _ b2];exact ex,r⟩
theorem awx(p q:Sp):(ltP p.d q.d).isSome=true:=by
 have a:(bj "box"=bj "port")=False:=by decide
 cases p <;> cases q <;> simp only[Sp.d,ltP,vb] <;> repeat (first|rfl|split)
theorem a71(p:Sp):plD p.d=true:=by cases p <;> rfl
theorem aq0(l:List Sp):qw (l.map Sp.d)=true:=by
 refine aB.mpr λd hd=>?_
 obtain⟨p,_,rfl⟩:=aO.mp hd;rw[aJ];refine⟨a71 p,aB.mpr λe a=>?_⟩;obtain⟨q,_,rfl⟩:=aO.mp a;exact awx p q
theorem aty(l:List Sp): ∃a:List Sp,vf (l.map Sp.d)=a.map Sp.d/\a.length=l.length/\(ptN a).Perm (ptN l)/\ ∀p∈a,∃q∈l,p.d=q.d:=by
 have b:=xf (l.map Sp.d);have: ∀xs:List aa,(∀x∈xs,x∈l.map Sp.d)->∃a:List Sp,xs=a.map Sp.d/\ ∀p∈a,∃q∈l,p.d=q.d:=λxs=>by
  induction xs with
  |nil=>intro _;exact⟨[],rfl,λp b=>by cases b⟩
  | cons x r n=>
   intro h;obtain⟨a,e,k⟩:=n λy j=>h y (aq _ j)
   obtain⟨q,m,rfl⟩:=aO.mp (h x au)
   exact⟨q::a,by rw[e];rfl,λp c=>by
    rcases aL.mp c with z|z
    ·exact⟨q,m,by rw[z]⟩
    ·exact k p z⟩
 obtain⟨a,e,k⟩:=this _ λx hx=>b.mem_iff.mp hx
 refine⟨a,e,?_,by rw[aop,aop,←e];exact b.filterMap _,k⟩;have:=b.length_eq;rw[e,ao,ao]at this;exact this
theorem avo{p q:Sp}(e:p.d=q.d)(h:inB b q=true/\abt q=true):inB b p=true/\abt p=true:=by
 have k:bj "port"≠bj "box":=by decide+kernel
 have l:bj "port"≠bj "next":=by decide+kernel
 have j:bj "box"≠bj "next":=by decide+kernel
 rw[Sp.eq,Sp.eq]at e;injection e with e
 injection e with c a
 injection a with a _
 injection c with c
 cases p <;> cases q
 all_goals first
  |exact absurd c k
  |exact absurd c l
  |exact absurd c j
  |exact absurd c.symm k
  |exact absurd c.symm l
  |exact absurd c.symm j
  |skip
 ·injection a with a;subst a;exact h
 ·injection a with a;cases mn a;exact h
 ·injection a with a;cases mn a;exact h
theorem a1g(a b:Str):(ltP (.str a) (.str b)).isSome=true:=by simp only[ltP];rfl
theorem af4(l:List Str):qw (l.map aC)=true:=by
 refine aB.mpr λd hd=>?_
 obtain⟨p,_,rfl⟩:=aO.mp hd;rw[aJ];refine⟨rfl,aB.mpr λe a=>?_⟩;obtain⟨q,_,rfl⟩:=aO.mp a;exact a1g p q
theorem aw8{l:List Str}(h: ∀x∈l,k7 x=true):(l.map aC).all okD=true:=aB.mpr λd hd=>by
 obtain⟨x,hx,rfl⟩:=aO.mp hd;exact(ab5 (h x hx)).okD (by decide)
def ltS(a b:Str):Bool:=decide (a.cps.toList < b.cps.toList)
theorem a07(h:ltb (.str x) (.str y)=true):ltS x y=true:=by
 rw[zr,adv]at h;unfold ltS;injection h
theorem amm{α β:Type}{f:α->β}{l:List α}: ∀{m:List β},m.Perm (l.map f)->∃d:List α,d.Perm l/\d.map f=m:=by
 intro m h;generalize hz:l.map f=v at h;induction h generalizing l with
 |nil=>
  cases l with
  |nil=>exact⟨[],.refl _,rfl⟩
  |cons a b=>cases hz
 | cons x h u=>
  cases l with
  |nil=>cases hz
  |cons a b=>
   cases hz;obtain⟨d,p,e⟩:=u rfl;exact⟨a::d,p.cons a,by rw[aw,e]⟩
 | swap x y r=>
  match l,hz with
  |a::b::c,hz=>
   cases hz;exact⟨b::a::c,.swap _ _ _,rfl⟩
 |trans A z j k=>
  obtain⟨w,n,q⟩:=k hz;obtain⟨q1,o,t⟩:=j q;exact⟨q1,o.trans n,t⟩
theorem au4{j:List Str}(nd:j.Nodup): ∃c:List Str,vf (j.map aC)=c.map aC/\c.Perm j/\c.Pairwise λa b=>ltS a b=true:=by
 obtain⟨c,pm,e⟩:=amm (xf (j.map aC));refine⟨c,e.symm,pm,?_⟩;have rs:=afb (af4 j);rw[←e]at rs;have h:c.Nodup:=pm.nodup_iff.mpr nd;unfold List.Nodup at h;unfold abd at rs;rw[fw]at rs;have both:=lP.mpr ⟨rs,h⟩;refine both.imp_of_mem λ{a b} k l d=>?_
 rcases ai4 (af4 c) (bY l) (bY k) d.1 with z|z
 ·injection z with z;exact absurd z.symm d.2
 ·exact a07 z
theorem ake{l:List Str}(h: ∀x∈l,k7 x=true)(k:l.length <=9)(nd:l.Nodup): ∃c:List Str,yz false [.lst (l.map aC)] s=.ok (.lst (c.map aC)) s/\c.Perm l/\c.Pairwise (λa b=>ltS a b=true):=by
 obtain⟨c,d,e,j⟩:=au4 nd;exact⟨c,by rw[aq8 (by rw[ao];lia) (af4 l) (aw8 h),d],e,j⟩
structure PaJ (s:S) (n c:Nat) (ps:List Str) (r acc:List D) (s':S):Prop where
 ex: ∃(l rs:List Str) (c':Nat),acc=l.map (λx=>D.str x)/\r=(rs.map aC).map D.da/\l.length+rs.length <=ps.length/\(l++rs).Nodup/\(∀x∈l,x∈ps)/\(∀x∈rs,x∈ps)/\Fd s' n c'/\c'+rs.length <=c+ps.length/\jr n s s'
def s1B:FS:=(qq (fMt kc (fOp gIx (ja 6) (jf 2 jg (jb (ja 0) (jb (fC (.da (.int 3))) jc)))) (jb (jq (jb (fC (.da (.str "port"))) (jb (ja 7) jc))) jc)))
def s2a:FS:=(qq (fMt kc (fOp gIx (ja 6) (jf 2 jg (jb (ja 0) (jb (fC (.da (.int 3))) jc)))) (jb (jq (jb (fC (.da (.str "box"))) (jb (ja 8) jc))) jc)))
def s2b:FS:=(qq (fMt kc (fOp gIx (ja 6) (jf 2 jg (jb (ja 0) (jb (fC (.da (.int 3))) jc)))) (jb (jq (jb (fC (.da (.str "next"))) (jb (ja 8) jc))) jc)))
def s2B:FS:=(jd (jk 9 (jf 2 jg (jb (ja 0) (jb (fC (.da (.int 5))) jc))))
  (jd (jv (ag7 (ji (fOp gLt (ja 9) (fC (.da (.int 2))))) (ji (fOp gEq (ja 9) (fC (.da (.int 4)))))) s2a jn)
  (jv (ji (fOp gIn (ja 9) (jq (fVs (dw D.da [.int 1,.int 2,.int 4]))))) s2b jn)))
def s3B:FS:=(jv (ji (fOp gNe (ja 11) (kz false jc))) (qq (fMt kc (ja 10) (jb (jq (jb (fCB k8 (jb (fCB (yz false) (jb (ja 11) jc)) jc)) (jb (jf 2 zk (jb (ja 0) (jb (ja 1) jc))) jc))) jc))) jn)
structure S1J (s:S) (n g c b:Nat) (T ps bx pl:D) (xs:List Str) (r:List D) (ρ:En) (s':S):Prop where
 ex: ∃(rs dn:List Str) (G:Nat->List Sp) (k c':Nat) (u:Option D),xs=dn++rs/\(ptG G 3).Perm dn/\r=(rs.map aC).map D.da/\(∀x∈rs,x∈xs)/\Gr s s' n g G k b/\k+rs.length <=xs.length/\Fd s' n c'/\c'+rs.length <=c+xs.length/\
  ρ=[some (.ref n),some T,some ps,some bx,some pl,some (.lst (xs.map aC)),some (.ref (g+3)),u,none,none,none,none,none]
structure S2J (s:S) (n g c b:Nat) (nm:List Str) (T ps bx pl xs:D) (u7:Option D) (r:List D) (ρ:En) (s':S):Prop where
 ex: ∃(j:Nat) (G:Nat->List Sp) (k c':Nat) (u8 u9:Option D),(ptG G 3).Perm nm/\r=xn j (b - j)/\j <=b/\Gr s s' n g G k b/\k <=5+2*j/\Fd s' n c'/\c' <=c+3*j/\
  ρ=[some (.ref n),some T,some ps,some bx,some pl,some xs,some (.ref (g+3)),u7,u8,u9,none,none,none]
theorem a0c{g k:Nat}{T ps v pl xs:D}{t u9:Option D}{G:Nat->List Sp}{Q:Fl->S->Prop}(gr:Gr s s' n g G k b)(fd:Fd s' n c)(hc:c+10 < 2^40)(hk:k <=900)(V:j < b)(Y: ∀(U:Nat->List Sp) (O:Nat) (u:Option D) (a:S),(ptG U 3).Perm (ptG G 3)->Gr s a n g U O b->O <=k+2->Fd a n (c+3)->Q (.nx [some (.ref n),some T,some ps,some v,some pl,some xs,some (.ref (g+3)),t,some (.int (j:Int)),u,none,none,none]) a):
  (s2B [some (.ref n),some T,some ps,some v,some pl,some xs,some (.ref (g+3)),t,some (.int (j:Int)),u9,none,none,none] s').W Q:=by
 have F:inB b (.box j)=true/\abt (.box j)=true:=⟨decide_eq_true V,rfl⟩;have K:inB b (.nxt j)=true/\abt (.nxt j)=true:=⟨decide_eq_true V,rfl⟩;unfold s2B;walk_at "go";refine R.W_mono (kq fd (by decide) (by decide) (by lia)) λd J q=>?_
 obtain⟨i,e,i0,i1,z,M⟩:=q;rw[e];clear e;have A:=gr.same M;walk_at "go";have l: ∀(C:Nat->List Sp) (H c1:Nat) (a:S),(ptG C 3).Perm (ptG G 3)->Gr s a n g C H b->H <=k+1->Fd a n c1->c1 <=c+2->((jv (ji (fOp gIn (ja 9) (jq (fVs (dw D.da [.int 1,.int 2,.int 4]))))) s2b jn) [some (.ref n),some T,some ps,some v,some pl,some xs,some (.ref (g+3)),t,some (.int (j:Int)),some (.int i),none,none,none] a).W Q:=λC H c1 a E y hk1 x Z=>by
  walk_at "go";have h5:i=0\/i=1\/i=2\/i=3\/i=4:=by lia
  have r:(s2b [some (.ref n),some T,some ps,some v,some pl,some xs,some (.ref (g+3)),t,some (.int (j:Int)),some (.int i),none,none,none] a).W Q:=by
   unfold s2b;refine als (p:=.nxt j) y x (by lia) (by lia) K (λ_=>rfl) (λ_=>rfl) (λ_=>rfl) λI L w o m=>?_
   exact Y I _ _ L ((w.trans (by show(ptG C 3++ []).Perm _;rw[aK])).trans E) o (by lia) (m.le (by lia))
  have no:Q (.nx [some (.ref n),some T,some ps,some v,some pl,some xs,some (.ref (g+3)),t,some (.int (j:Int)),some (.int i),none,none,none]) a:=Y C _ _ a E y (by lia) (x.le (by lia));rcases h5 with rfl|rfl|rfl|rfl|rfl
  ·rw[show gIn (.int 0) (.tup [.int 1,.int 2,.int 4]) a=.ok (.bl false) a from rfl];walk_at "go";exact no
  ·rw[show gIn (.int 1) (.tup [.int 1,.int 2,.int 4]) a=.ok (.bl true) a from rfl];walk_at "go";exact r
  ·rw[show gIn (.int 2) (.tup [.int 1,.int 2,.int 4]) a=.ok (.bl true) a from rfl];walk_at "go";exact r
  ·rw[show gIn (.int 3) (.tup [.int 1,.int 2,.int 4]) a=.ok (.bl false) a from rfl];walk_at "go";exact no
  ·rw[show gIn (.int 4) (.tup [.int 1,.int 2,.int 4]) a=.ok (.bl true) a from rfl];walk_at "go";exact r
 have h:(s2a [some (.ref n),some T,some ps,some v,some pl,some xs,some (.ref (g+3)),t,some (.int (j:Int)),some (.int i),none,none,none] J).W (R.Wk (alg (jv (ji (fOp gIn (ja 9) (jq (fVs (dw D.da [.int 1,.int 2,.int 4]))))) s2b jn)) Q):=by
  unfold s2a;refine als (p:=.box j) A z (by lia) (by lia) F (λ_=>rfl) (λ_=>rfl) (λ_=>rfl) λI L w o m=>?_
  exact l I _ _ L (w.trans (by show(ptG G 3++ []).Perm _;rw[aK])) o (aj _) m (by lia)
 have skip:R.Wk (alg (jv (ji (fOp gIn (ja 9) (jq (fVs (dw D.da [.int 1,.int 2,.int 4]))))) s2b jn)) Q (.nx [some (.ref n),some T,some ps,some v,some pl,some xs,some (.ref (g+3)),t,some (.int (j:Int)),some (.int i),none,none,none]) J:=l G _ _ J (.refl _) A (by lia) z (by lia);by_cases P:i < 2
 ·rw[decide_eq_true P];walk_at "go";exact h
 ·rw[decide_eq_false P];walk_at "go";rw[eq0];by_cases N:i=4
  ·rw[decide_eq_true N];walk_at "go";exact h
  ·rw[decide_eq_false N];walk_at "go";exact skip
theorem aso(c:b <=1000){l:List Sp}(h: ∀p∈l,inB b p=true/\abt p=true):Nice (43*l.length) 2 (.list (l.map Sp.d)):=by
 have:=vq (B:=42) (D:=1) (l.map Sp.d) λd hd=>by
  obtain⟨p,a,rfl⟩:=aO.mp hd;exact aj2 c (h p a).1 (h p a).2
 rw[ao]at this;exact this.lst
theorem a41(h:s[n]?=some (.lst (xs.map D.da)))(ho:okD (.list xs)=true):gNe (.ref n) (.lst []) s=.ok (.bl (!xs.isEmpty)) s:=by
 show aje (.ref n) (.lst []) s=_;unfold aje;rw[apm h,show toP s (.lst [])=some (.list []) from rfl];show(if okD (.list xs)=true/\okD (.list [])=true then R.ok (D.bl (!PyData.eqv (.list xs) (.list []))) s else .bad)=_;rw[if_pos ⟨ho,rfl⟩,ahe]
structure S3J (s:S) (n g t c b T:Nat) (G:Nat->List Sp) (ps bx pl xs:D) (u7 u8 u9:Option D) (r:List D) (ρ:En) (s':S):Prop where
 ex: ∃(i:Nat) (ts:List Ti) (c':Nat) (u:Option D),i <=3/\r=([.ref g,.ref (g+1),.ref (g+2)]:List D).drop i/\Gr s s' n g G 9 b/\g+3 < t/\s'[t]?=some (.lst ((ts.map Ti.d).map D.da))/\ts.length <=i/\(ts.flatMap λx=>ptN x.sp).Perm (ptG G i)/\(∀x∈ts,TiN b x)/\Fd s' n c'/\c' <=c+4*i/\
  ρ=[some (.ref n),some (.int (T:Int)),some ps,some bx,some pl,some xs,some (.ref (g+3)),u7,u8,u9,some (.ref t),u,none]
theorem a2w{g t T:Nat}{G:Nat->List Sp}{ps K pl xs:D}{I H M:Option D}{ts:List Ti}{Q:Fl->S->Prop}(h:Gr s s' n g G 9 b)(P:b <=1000)(J:0 < T)(hT:T <=3)(Y:i < 3)(ht:g+3 < t)(e:s'[t]?=some (.lst ((ts.map Ti.d).map D.da)))(hl:ts.length <=3)(hts: ∀x∈ts,TiN b x)(fd:Fd s' n c)(hc:c+10 < 2^40)(k0:ptN (G i)=[]->Q (.nx [some (.ref n),some (.int (T:Int)),some ps,some K,some pl,some xs,some (.ref (g+3)),I,H,M,some (.ref t),some (.ref (g+i)),none]) s')(k1: ∀(x:Ti) (v:S),(ptN x.sp).Perm (ptN (G i))->TiN b x->Gr s v n g G 9 b->v[t]?=some (.lst (((ts++ [x]).map Ti.d).map D.da))->Fd v n (c+4)->Q (.nx [some (.ref n),some (.int (T:Int)),some ps,some K,some pl,some xs,some (.ref (g+3)),I,H,M,some (.ref t),some (.ref (g+i)),none]) v):
  (s3B [some (.ref n),some (.int (T:Int)),some ps,some K,some pl,some xs,some (.ref (g+3)),I,H,M,some (.ref t),some (.ref (g+i)),none] s').W Q:=by
 have r:=h.at' i Y;have N:=h.few i;unfold s3B;have O:=a1l fd J hT (by lia);generalize zk=FT at O⊢;walk_at "go";rw[a41 (xs:=(G i).map Sp.d) r ((aso P (h.inb i)).okD (by decide))];cases hG:G i with
 |nil=>
  rw[show(!(([]:List Sp).map Sp.d).isEmpty)=false from rfl];walk_at "go";exact k0 (by rw[hG];rfl)
 | cons y Z=>
  rw[show(!((y::Z).map Sp.d).isEmpty)=true from rfl];walk_at "go";rw[ac1 e];walk_at "go";have hok:((G i).map Sp.d).all okD=true:=aB.mpr λd hd=>by
   obtain⟨p,k,rfl⟩:=aO.mp hd;exact(aj2 P (h.inb i p k).1 (h.inb i p k).2).okD (by decide)
  rw[ahv (xs:=(G i).map Sp.d) r (by rw[ao];lia) (aq0 _) hok];walk_at "go";obtain⟨z,e1,e2,F,V⟩:=aty (G i);rw[e1];refine O.mono λd s1 q=>?_
  obtain⟨l,m,A,hx,E,u⟩:=q;rw[m];clear m;walk_at "go";have C:=(am.mp e).1;obtain⟨b1,b2⟩:=h.big;have U:s1[t]?=some (.lst ((ts.map Ti.d).map D.da)):=by rw[u.get _ (by lia) C];exact e
  rw[yc U (by simp;lia)];walk_at "go";have o:=(am.mp U).1;have a:=h.same u
  have w:TiN b ⟨z,l⟩:=⟨⟨λp k=>by
    obtain⟨q,L,m⟩:=V p k
    exact(avo m (h.inb i q L)).1,A⟩,λp k=>by
    obtain⟨q,L,m⟩:=V p k
    exact(avo m (h.inb i q L)).2,by show z.length <=9;lia,hx⟩
  refine k1 ⟨z,l⟩ _ F w ⟨λj hj=>?_,?_,a.big,a.few,a.inb,a.sm.own (by lia)⟩ ?_ (E.set (by lia))
  ·rw[aF (by lia)];exact a.at' j hj
  ·rw[aF (by lia)];exact a.all
  ·rw[aR o];simp[Ti.d]
structure PlOk (pl:List Int):Prop where
 pos:0 < pl.length
 few:pl.length <=3
 ok: ∀x∈pl,ab7 x=true
theorem ao9{Q:D->S->Prop}(h:PlOk pl)(fd:Fd s n c)(u:c < 2^40)(m: ∀(x:Int) (k:S),x∈pl->ab7 x=true->Fd k n (c+1)->jr n s k->Q (.int x) k):
  (jg [.ref n,.int ((pl.map aG).length:Int)] s).W (R.Wk (ayc gIx (.lst (pl.map aG))) Q):=by
 rw[ao];have:=h.few;have:=h.pos;refine R.W_mono (kq fd (by lia) (by lia) (by lia)) λd t q=>?_
 obtain⟨i,e,r,o,b,l⟩:=q;rw[e];clear e;obtain⟨j,rfl⟩: ∃j:Nat,i=(j:Int):=⟨i.toNat,by lia⟩;have a:j < pl.length:=by lia
 walk_at "go";rw[aag (p:=.int pl[j]) (by rw[aT,av a];rfl)];walk_at "go";exact m _ _ (ci a) (h.ok _ (ci a)) b l
structure StP (pl:List Int) (st:Stp):Prop where
 ex: ∃qs:List Str,st.ps=qs.map aC/\(st.ts.flatMap λx=>ptN x.sp).Perm qs/\qs.Pairwise (λa b=>ltS a b=true)/\ ∀x∈qs,k7 x=true
 a:st.a∈pl
 b:st.b∈pl
theorem a1n{T:Nat}(h:Fd s n c)(hT0:0 < T)(hT:T <=3)(hb:b <=2)(Z: ∀x∈ps,k7 x=true)(hp5:ps.length <=5)(nd:ps.Nodup)(N:PlOk pl)(hc:c+1000 < 2^40):
  DW (zn [.ref n,.int (T:Int),.lst (ps.map aC),.int (b:Int),.lst (pl.map aG)] s) λd s'=>∃st:Stp,d=.da st.d/\StOk b st/\StP pl st/\Fd s' n (c+100)/\jr n s s':=by
 refine⟨?_⟩;rw[ar9];unfold B_law_step;walk_at "go";rw[zl (ρ0:=[none,some (.ref n)]) (by simp;lia) rfl,R.W_bindk];refine R.W_mono (y4 (Q:=λxs s'=>∃(l:List Str),xs=l.map (λx=>D.str x)/\l.length <=ps.length/\l.Nodup/\(∀x∈l,x∈ps)/\Fd s' n (c+ps.length)/\jr n s s') (PaJ s n c ps) ?_ ?_ _ [] s ⟨[],ps,c,rfl,rfl,by simp,by simpa using nd,(λx hx=>by cases hx),(λ_ hx=>hx),h,aj _,jr.refl _ _⟩) ?_
 ·rintro d r acc s' ⟨l,rs,c',ha,hr,hl,hnd,hx,A,fd,a,sm⟩;cases rs with
  |nil=>cases hr
  | cons y rs=>
   rw[aw,aw,bc]at hr;obtain⟨rfl,rfl⟩:=hr;refine⟨[some (.str y),some (.ref n)],rfl,?_⟩;walk_at "go";refine R.W_mono (kq fd (by decide) (by decide) (by simp at a;lia)) λd m q=>?_
   obtain⟨i,e,i0,i1,w,v⟩:=q;rw[e];clear e;walk_at "go";rw[eq0];by_cases e:i=0
   ·rw[decide_eq_true e];walk_at "go";refine⟨l++ [y],rs,c'+1,by rw[ha];simp,rfl,by simp at hl⊢;lia,by simpa using hnd,λx o=>?_,λx o=>A x (aq _ o),w,by simp at a;lia,sm.trans v⟩;rcases aS.mp o with z|z
    ·exact hx x z
    ·rw[aA.mp z];exact A y au
   ·rw[decide_eq_false e];walk_at "go";exact⟨l,rs,c'+1,ha,rfl,by simp at hl;lia,hnd.sublist (kL (lC _ _) _),hx,λx o=>A x (aq _ o),w,by simp at a;lia,sm.trans v⟩
 ·rintro acc s' ⟨l,rs,c',ha,hr,hl,hnd,hx,A,fd,a,sm⟩;exact⟨l,ha,by lia,(jQ.mp hnd).1,hx,fd.le (by lia),sm⟩
 ·rintro ds m ⟨xs,e,hl,xnd,hx,w,v⟩;rw[dU]at e;subst e;walk_at "go";rw[show xs.map (λx=>D.str x)=(xs.map aC).map D.da by rw[aY];rfl];walk_at "go";have hn:n < s.length:=h.lt;have P:=v.len;have g0:Gr s (m++ [O.lst [],O.lst [],O.lst [],O.lst [.ref m.length,.ref (m.length+1),.ref (m.length+2)]]) n m.length (λ_=>[]) 0 b:=by
   refine⟨λi hi=>?_,?_,⟨P,hn⟩,λ_=>aj _,(λi p hp=>by cases hp),v.trans ((Ext.add m _).same n)⟩
   ·have:i=0\/i=1\/i=2:=by lia
    rcases this with rfl|rfl|rfl <;> simp[gpD,aZ]
   ·simp[aZ]
  have I:=w.ext (Ext.add m [O.lst [],O.lst [],O.lst [],O.lst [.ref m.length,.ref (m.length+1),.ref (m.length+2)]]);generalize (m++ [O.lst [],O.lst [],O.lst [],O.lst [.ref m.length,.ref (m.length+1),.ref (m.length+2)]])=s2 at g0 I⊢;generalize m.length=g at g0⊢;clear v w P;show(kb (.nm 7) s1B _ _ _ _).W _;refine j6 (S1J s n g (c+ps.length) b (.int (T:Int)) (.lst (ps.map aC)) (.int (b:Int)) (.lst (pl.map aG)) xs) ?_ ?_ _ _ _ ⟨xs,[],_,0,_,none,rfl,.refl _,rfl,(λ_ z=>z),g0,by lia,I,aj _,rfl⟩
  ·rintro d r ρ s' ⟨rs,dn,G,k,c',u,exs,pmG,e2,hr,gr,hk,fd,a,rfl⟩;cases rs with
   |nil=>cases e2
   |cons y rs=>
    rw[aw,aw,bc]at e2;obtain⟨rfl,rfl⟩:=e2;refine⟨[some (.ref n),some (.int (T:Int)),some (.lst (ps.map aC)),some (.int (b:Int)),some (.lst (pl.map aG)),some (.lst (xs.map aC)),some (.ref (g+3)),some (.str y),none,none,none,none,none],rfl,?_⟩;unfold s1B;simp only[aE]at hk a;refine als (p:=.port y) gr fd (by lia) (by lia) ⟨rfl,Z y (hx y (hr y au))⟩ (λ_=>rfl) (λ_=>rfl) (λ_=>rfl) λG3 C pm3 gr3 fd3=>?_
    exact⟨rs,dn++ [y],G3,k+1,c'+1,_,by rw[exs];simp,pm3.trans (pmG.append_right _),rfl,λx o=>hr x (aq _ o),gr3,by lia,fd3,by lia,rfl⟩
  ·rintro ρ s' ⟨rs,dn,G,k,c',u,exs,pmG,e2,hr,gr,hk,fd,a,rfl⟩;have hk5:k <=5:=by lia
   have a:c' <=c+10:=by lia
   have pmx:(ptG G 3).Perm xs:=by
    cases rs with
    |nil=>rw[exs,aK];exact pmG
    |cons y rs=>cases e2
   clear e2 hr hk g0 I;walk_at "go";rw[ze (by lia) (by lia),show((b:Int)).toNat=b from bt _];walk_at "go";show(kb (.nm 8) s2B _ _ _ _).W _;refine j6 (S2J s n g (c+10) b xs (.int (T:Int)) (.lst (ps.map aC)) (.int (b:Int)) (.lst (pl.map aG)) (.lst (xs.map aC)) u) ?_ ?_ _ _ _ ⟨0,G,k,c',none,none,pmx,rfl,bn _,gr,by lia,fd,by lia,rfl⟩
   ·rintro d r ρ C ⟨j,G,k,c',u8,u9,pm8,hr,hj,gr,hk,fd,a,rfl⟩;by_cases L:j < b
    ·rw[show b - j=(b - (j+1))+1 by lia,xn,bc]at hr;obtain⟨rfl,rfl⟩:=hr;refine⟨[some (.ref n),some (.int (T:Int)),some (.lst (ps.map aC)),some (.int (b:Int)),some (.lst (pl.map aG)),some (.lst (xs.map aC)),some (.ref (g+3)),u,some (.int (j:Int)),u9,none,none,none],rfl,?_⟩;refine a0c gr fd (by lia) (by lia) L λG' k' u' s4 pm4 gr4 hk4 fd4=>?_
     exact⟨j+1,G',k',c'+3,_,_,pm4.trans pm8,by rw[fP],L,gr4,by lia,fd4,by lia,rfl⟩
    ·rw[show b - j=0 by lia]at hr;cases hr
   ·rintro ρ C ⟨j,G,k,c',u8,u9,pm8,hr,hj,gr,hk,fd,a,rfl⟩;have U:=gr.mono (N':=9) (by lia);have a:c' <=c+20:=by lia
    clear hr hj gr hk;walk_at "go";have hgl:=(am.mp U.all).1;have E:Gr s (C++ [O.lst []]) n g G 9 b:=U.same ((Ext.add C _).same n);have S:=fd.ext (Ext.add C [O.lst []]);have ht:(C++ [O.lst []])[C.length]?=some (.lst ((([]:List Ti).map Ti.d).map D.da)):=by simp
    generalize (C++ [O.lst []])=s4 at E S ht⊢;generalize C.length=t at hgl ht⊢;rw[aik E.all];walk_at "go";have Y: ∀ρ,kFor (.nm 11) s3B ρ ([.ref g,.ref (g+1),.ref (g+2)],some (g+3,O.lst [D.ref g,D.ref (g+1),D.ref (g+2)])) s4=kb (.nm 11) s3B ([.ref g,.ref (g+1),.ref (g+2)],some (g+3,O.lst [D.ref g,D.ref (g+1),D.ref (g+2)])) [.ref g,.ref (g+1),.ref (g+2)] ρ s4:=λρ=>qu (show kh _ s4 from E.all)
    show(kFor (.nm 11) s3B _ _ _).W _;rw[Y];refine aae (S3J s n g t (c+20) b T G (.lst (ps.map aC)) (.int (b:Int)) (.lst (pl.map aG)) (.lst (xs.map aC)) u u8 u9) ?_ ?_ ?_ _ _ _ ⟨0,[],c',none,by decide,rfl,E,by lia,ht,aj _,.refl _,(λx hx=>by cases hx),S,by lia,rfl⟩
    ·rintro r ρ s5 ⟨i,ts,c',u',_,_,gr5,_⟩;exact gr5.all
    ·rintro d r ρ s5 ⟨i,ts,c',u',hi,hr,gr5,htg,et,hl,pm5,hts,fd5,a,rfl⟩;by_cases K:i < 3
     ·have hdr:([.ref g,.ref (g+1),.ref (g+2)]:List D).drop i=.ref (g+i)::([.ref g,.ref (g+1),.ref (g+2)]:List D).drop (i+1):=by
       have:i=0\/i=1\/i=2:=by lia
       rcases this with rfl|rfl|rfl <;> rfl
      rw[hdr,bc]at hr;obtain⟨rfl,rfl⟩:=hr;refine⟨[some (.ref n),some (.int (T:Int)),some (.lst (ps.map aC)),some (.int (b:Int)),some (.lst (pl.map aG)),some (.lst (xs.map aC)),some (.ref (g+3)),u,u8,u9,some (.ref t),some (.ref (g+i)),none],rfl,?_⟩;refine a2w gr5 (by lia) hT0 hT K htg et (by lia) hts fd5 (by lia) (λe0=>?_) λx s6 pm6 F gr6 J H=>?_
      ·exact⟨i+1,ts,c',_,K,rfl,gr5,htg,et,by lia,by show(_:List Str).Perm (ptG G i++ptN (G i));rw[e0,aK];exact pm5,hts,fd5,by lia,rfl⟩
      ·refine⟨i+1,ts++ [x],c'+4,_,K,rfl,gr6,htg,J,by simp;lia,by rw[eK];exact pm5.append (by simpa using pm6),λy A=>?_,H,by lia,rfl⟩;rcases aS.mp A with z|z
       ·exact hts y z
       ·rw[aA.mp z];exact F
     ·rw[dL (by simp;lia)]at hr;cases hr
    ·rintro ρ s5 ⟨i,ts,c',u',hi,hr,gr5,htg,et,hl,pm5,hts,fd5,a,rfl⟩;walk_at "go";refine ao9 N fd5 (by lia) λx s6 mx6 F H sm6=>?_
     walk_at "go";have V: ∀y∈xs,k7 y=true:=λy A=>Z y (hx y A)
     obtain⟨l',es,el,up⟩:=ake (s:=s6) V (by lia) xnd;have M: ∀y∈l',k7 y=true:=λy A=>V y (el.mem_iff.mp A)
     have ell:=el.length_eq;have e3:i=3:=by
      by_cases z:i < 3
      ·have:i=0\/i=1\/i=2:=by lia
       rcases this with rfl|rfl|rfl <;> cases hr
      ·lia
     subst e3;rw[es];walk_at "go";have htl:=(am.mp et).1;obtain⟨b1,b2⟩:=gr5.big;have J:s6[t]?=some (.lst ((ts.map Ti.d).map D.da)):=by rw[sm6.get _ (by lia) htl];exact et
     rw[afj J];walk_at "go";refine ao9 N H (by lia) λy s7 my7 hy7 fd7 sm7=>?_
     walk_at "go";exact⟨⟨x,l'.map aC,ts,y⟩,rfl,⟨hts,by show ts.length <=3;lia,F,hy7,l',rfl,by lia,M⟩,⟨⟨l',rfl,(pm5.trans pm8).trans el.symm,up,M⟩,mx6,my7⟩,fd7.le (by lia),(gr5.sm.trans sm6).trans sm7⟩
theorem ajp(h:s[n]?=some (.lst (xs.map D.da)))(a:okD (.tuple ys)=true)(b:xs.all okD=true):abn (.tup ys) (.ref n) s=.ok (.bl (!xs.any λd=>aX d (.tuple ys))) s:=by
 show an8 true (.tup ys) (.ref n) s=_;unfold an8;rw[apm h,show toP s (.tup ys)=some (.tuple ys) from rfl];show(if okD (.tuple ys)=true/\xs.all okD=true then R.ok (D.bl (nb true (xs.any λd=>aX d (.tuple ys)))) s else .bad)=_;rw[if_pos ⟨a,b⟩];rfl
structure HeJ (s:S) (n c b:Nat) (m:Nat) (r acc:List D) (s':S):Prop where
 ex: ∃(h:Hd) (k c':Nat),acc=h.map (λo=>D.da (hD o))/\r=xn k (b - k)/\k <=b/\h.length=k/\xm h/\Fd s' n c'/\c'+m*(b - k) <=c+m*b/\jr n s s'
theorem ax7{h:Hd}:aky false (h.map λo=>D.da (hD o)) s=.ok (.lst (h.map hD)) s:=by
 rw[show h.map (λo=>D.da (hD o))=(h.map hD).map D.da by rw[aY];rfl];exact adq
theorem a4d{h:Hd}{o:Option Int}(a:xm h)(k: ∀x,o=some x->0 <=x/\x < 3):xm (h++ [o]):=λy b x e=>by
 rcases aS.mp b with z|z
 ·exact a y z x e
 ·rw[aA.mp z]at e;exact k x e
theorem axd(m b k:Nat)(h:k < b):m*(b - k)=m*(b - (k+1))+m:=by
 rw[show b - k=(b - (k+1))+1 by lia,Nat.mul_succ]
theorem ate(h:Fd s n c)(t:b <=2)(u:c+10 < 2^40)(step: ∀(k:Int) (m:S) (c1:Nat),Fd m n c1->c1 <=c+4->∃ρ1,qg (.nm 0) (.int k) ρ0=some ρ1/\(fe ρ1 m).W λd l=>∃o:Option Int,d=.da (hD o)/\(∀x,o=some x->0 <=x/\x < 3)/\Fd l n (c1+2)/\jr n m l):
  (ke (.nm 0) vw fe ρ0 (xn 0 b,none) (xn 0 b) s).W λds s'=>∃h:Hd,ds=h.map (λo=>D.da (hD o))/\h.length=b/\xm h/\Fd s' n (c+4)/\jr n s s':=by
 refine R.W_mono (y4 (Q:=λds s'=>∃h:Hd,ds=h.map (λo=>D.da (hD o))/\h.length=b/\xm h/\Fd s' n (c+4)/\jr n s s') (HeJ s n c b 2) ?_ ?_ (xn 0 b) [] s ⟨[],0,c,rfl,rfl,bn _,rfl,(λo ho=>by cases ho),h,aj _,jr.refl _ _⟩) λds s' q=>by rw[dU]at q;exact q
 ·rintro d r acc s' ⟨hh,k,c',ha,hr,hk,hl,ho,fd,hcc,sm⟩;by_cases a:k < b
  ·rw[show b - k=(b - (k+1))+1 by lia,xn,bc]at hr;obtain⟨rfl,rfl⟩:=hr;have:=axd 2 b k a;obtain⟨ρ1,p,w⟩:=step (k:Int) s' c' fd (by lia);refine⟨ρ1,p,?_⟩;rw[arb,R.W_ok,if_pos rfl];refine R.W_mono w λd l q=>?_
   obtain⟨o,rfl,hx,e,j⟩:=q;exact⟨hh++ [o],k+1,c'+2,by rw[ha];simp,by rw[fP],a,by simp[hl],a4d ho hx,e,by lia,sm.trans j⟩
  ·rw[show b - k=0 by lia]at hr;cases hr
 ·rintro acc s' ⟨hh,k,c',ha,hr,hk,hl,ho,fd,hcc,sm⟩;have a:k=b:=by
   by_cases z:k < b
   ·rw[show b - k=(b - (k+1))+1 by lia]at hr;cases hr
   ·lia
  exact⟨hh,ha,by lia,ho,fd.le (by lia),sm⟩
theorem a3u{x:Int}(a:j < 2):gIx (.lst [.none,.int x]) (.int (j:Int)) s=.ok (.da (hD (if j=0 then none else some x))) s:=by
 have:j=0\/j=1:=by lia
 rcases this with rfl|rfl
 ·exact il0
 ·exact il1
structure McJ (s:S) (n g c b:Nat) (P:List Int) (T ps mo pl bx:D) (M:Nat) (r:List D) (ρ:En) (s':S):Prop where
 ex: ∃(sts:List Stp) (c':Nat) (u v:Option D),sts.length+r.length <=M/\s'[g]?=some (.lst ((sts.map Stp.d).map D.da))/\(∀st∈sts,StOk b st/\StP P st)/\Fd s' n c'/\c'+100*r.length <=c+100*M/\jr n s s'/\s.length <=g/\n < s.length/\
  ρ=[some (.ref n),some T,some ps,some mo,some pl,some bx,some (.ref g),u,v,none]
def mcB:FS:=(jd (jk 8 (jf 5 zn (jb (ja 0) (jb (ja 1) (jb (ja 2) (jb (ja 5) (jb (ja 4) jc)))))))
  (jv (ji (fOp abn (ja 8) (ja 6))) (qq (fMt kc (ja 6) (jb (ja 8) jc))) jn))
theorem mc_turn{g T M:Nat}{mo:D}{d:D}{r:List D}{Q:Fl->S->Prop}(y:0 < T)(K:T <=3)(I:b <=2)(t: ∀x∈ps,k7 x=true)(o:ps.length <=5)(nd:ps.Nodup)(p:PlOk pl)(N:M <=10)(O:c+5000 < 2^40)(J:McJ s n g c b pl (.int (T:Int)) (.lst (ps.map aC)) mo (.lst (pl.map aG)) (.int (b:Int)) M (d::r) ρ s'):
  ∃ρ1,qg (.nm 7) d ρ=some ρ1/\(mcB ρ1 s').W (flW (McJ s n g c b pl (.int (T:Int)) (.lst (ps.map aC)) mo (.lst (pl.map aG)) (.int (b:Int)) M r) Q):=by
 obtain⟨sts,c',u,v,H,C,j,fd,m,sm,k,hn,rfl⟩:=J.ex;rw[aE]at H m;refine⟨[some (.ref n),some (.int (T:Int)),some (.lst (ps.map aC)),some mo,some (.lst (pl.map aG)),some (.int (b:Int)),some (.ref g),some d,v,none],rfl,?_⟩;have q:=a1n (s:=s') (n:=n) (c:=c') (T:=T) (b:=b) fd y K I t o nd p (by lia);unfold mcB;generalize zn=F at q⊢;walk_at "go";refine q.mono λL A q=>?_
 obtain⟨st,e,E,sp,l,h⟩:=q;rw[e];clear e;walk_at "go";have w:=(am.mp C).1;have a:A[g]?=some (.lst ((sts.map Stp.d).map D.da)):=by rw[h.get _ (by lia) w];exact C
 have hok:(sts.map Stp.d).all okD=true:=aB.mpr λd hd=>by
  obtain⟨x,hx,rfl⟩:=aO.mp hd;exact(akc (by lia) (j x hx).1).okD (by decide)
 rw[show abn (.da st.d) (.ref g) A=.ok (.bl (!(sts.map Stp.d).any λd=>aX d st.d)) A from ajp a ((akc (by lia) E).okD (by decide)) hok];cases (sts.map Stp.d).any λd=>aX d st.d with
 |true=>
  walk_at "go";exact⟨sts,c'+100,_,_,by lia,a,j,l,by lia,sm.trans h,k,hn,rfl⟩
 | false=>
  walk_at "go";rw[ac1 a];walk_at "go";rw[yc a (by simp;lia)];walk_at "go";refine⟨sts++ [st],c'+100,_,_,by simp;lia,?_,λx hx=>?_,l.set (by lia),by lia,(sm.trans h).own k,k,hn,rfl⟩
  ·rw[aR (by have:=h.len;lia)];simp
  ·rcases aS.mp hx with z|z
   ·exact j x z
   ·rw[aA.mp z];exact⟨E,sp⟩
noncomputable def plc:List (List Int):=[[4],[0,1],[1,0],[1000000000000,3,0]]
theorem a60: ∀p∈plc,PlOk p:=by
 intro p a;simp only[plc,aL,cV,or_false]at a;rcases a with rfl|rfl|rfl|rfl <;> exact⟨by decide,by decide,by decide⟩
structure MxOk (m:Mc):Prop where
 ok:McOk m
 b2:m.b <=2
 ex: ∃(pl:List Int) (xs:List Str),pl.length <=3/\m.p∈pl/\(∀st∈m.sts,StP pl st)/\m.ps=xs.map aC/\xs.length <=5/\xs.Pairwise (λa b=>ltS a b=true)/\ ∀x∈xs,k7 x=true
theorem aqr{T:Nat}(h:Fd s n c)(hT0:0 < T)(hT:T <=3)(C: ∀x∈ps,k7 x=true)(hp5:ps.length <=5)(nd:ps.Nodup)(hc:c+10000 < 2^40):
  DW (v8 [.ref n,.int (T:Int),.lst (ps.map aC),.int 6] s) λd s'=>∃m:Mc,d=.da m.d/\MxOk m/\m.n=T/\Fd s' n (c+1000)/\jr n s s':=by
 refine⟨?_⟩;rw[akf];unfold B_law_machine;walk_at "go";rw[anl (by decide) (by decide) (by decide)];walk_at "go";refine R.W_mono (kq h (by decide) (by decide) (by lia)) λd s1 q=>?_
 obtain⟨i,e,i0,i1,V,L⟩:=q;rw[e];clear e;obtain⟨j,rfl⟩: ∃j:Nat,i=(j:Int):=⟨i.toNat,by lia⟩;have hj:j < plc.length:=by show j < 4;lia
 walk_at "go";rw[show(10:Int)^Int.toNat 12=1000000000000 from by decide]
 rw[aag (p:=.list (plc[j].map aG)) (by
  have:([.list [.int 4],.list [.int 0,.int 1],.list [.int 1,.int 0],.list [.int 1000000000000,.int 3,.int 0]]:List aa)=plc.map λl=>.list (l.map aG):=rfl
  rw[this,aT,av hj];rfl)]
 have o:=a60 _ (ci hj);generalize plc[j]=pl at o⊢;walk_at "go";refine R.W_mono (kq V (by decide) (by decide) (by lia)) λd t q=>?_
 obtain⟨i,e,b0,b1,fd2,K⟩:=q;rw[e];clear e;obtain⟨b,rfl⟩: ∃b:Nat,i=(b:Int):=⟨i.toNat,by lia⟩;have hb:b <=2:=by lia
 walk_at "go";have hn:=h.lt;have I:=(L.trans K).trans ((Ext.add t [O.lst []]).same n);have H:=fd2.ext (Ext.add t [O.lst []]);have S:(t++ [O.lst []])[t.length]?=some (.lst ((([]:List Stp).map Stp.d).map D.da)):=by simp
 have M:s.length <=t.length:=(L.trans K).len;generalize (t++ [O.lst []])=s3 at I H S⊢;generalize t.length=g at S M⊢;refine R.W_mono (kq H (by decide) (by decide) (by lia)) λd s4 q=>?_
 obtain⟨i,e,r0,r1,U,F⟩:=q;rw[e];clear e;obtain⟨r,rfl⟩: ∃r:Nat,i=(r:Int):=⟨i.toNat,by lia⟩;walk_at "go";rw[ze (by lia) (by lia),show((r:Int)).toNat=r from bt _];walk_at "go";have hgl:=(am.mp S).1;have eg4:s4[g]?=some (.lst ((([]:List Stp).map Stp.d).map D.da)):=by rw[F.get _ (by lia) hgl];exact S
 show(kb (.nm 7) mcB _ _ _ _).W _;refine j6 (McJ s n g (c+3) b pl (.int (T:Int)) (.lst (ps.map aC)) (.int 6) (.lst (pl.map aG)) (.int (b:Int)) r) ?_ ?_ _ _ _ ⟨[],c+3,none,none,by rw[qa];simp,eg4,(λst w=>by cases w),U,by rw[qa];lia,I.trans F,M,hn,rfl⟩
 ·intro d r' ρ s5 J;exact mc_turn hT0 hT hb C hp5 nd o (by lia) (by lia) J
 ·rintro ρ s5 ⟨sts,c',u,v,hl,eg5,w,fd5,hcc,sm5,_,_,rfl⟩;simp only[dk]at hl hcc;walk_at "go";rw[ze (by lia) (by lia),show((b:Int)).toNat=b from bt _];walk_at "go";rw[zl (ρ0:=[none,some (.ref n),some (.int (T:Int))]) (by rw[qa];lia) rfl,R.W_bindk];refine R.W_mono (ate fd5 hb (by lia) λk s6 c6 A hc6=>⟨[some (.int k),some (.ref n),some (.int (T:Int))],rfl,?_⟩) λds s6 q=>?_
  ·walk_at "go";refine R.W_mono (kq A (by lia) (by lia) (by lia)) λd s7 q=>?_
   obtain⟨x,e,x0,x1,Y,sm7⟩:=q;rw[e];clear e;walk_at "go";refine R.W_mono (kq Y (by decide) (by decide) (by lia)) λd s8 q=>?_
   obtain⟨y,e,y0,y1,fd8,sm8⟩:=q;rw[e];clear e;obtain⟨y,rfl⟩: ∃r:Nat,y=(r:Int):=⟨y.toNat,by lia⟩;walk_at "go";rw[a3u (by lia)];walk_at "go";refine⟨_,rfl,λz hz=>?_,fd8,sm7.trans sm8⟩;split at hz
   ·cases hz
   ·cases hz;lia
  ·obtain⟨hd,rfl,Z,hdo,A,N⟩:=q;walk_at "go";rw[ax7];walk_at "go";obtain⟨Q,es,el,up⟩:=ake (s:=s6) C (by lia) nd;have E: ∀y∈Q,k7 y=true:=λy hy=>C y (el.mem_iff.mp hy)
   have ell:=el.length_eq;rw[es];walk_at "go";have a:=o.pos;rw[show∀t,gIx (.lst (pl.map aG)) (.int 0) t=.ok (.int pl[0]) t from λt=>aag (k:=0) (by rw[aT,av a];rfl)];walk_at "go";have P:=(am.mp eg5).1;have eg6:s6[g]?=some (.lst ((sts.map Stp.d).map D.da)):=by rw[N.get _ (by lia) P];exact eg5
   rw[afj eg6];walk_at "go";exact⟨⟨T,Q.map aC,b,pl[0],hd,sts⟩,rfl,⟨⟨by show 0 < (T:Int)/\(T:Int) <=3;lia,⟨Q,rfl,by lia,E⟩,by show b <=1000;lia,o.ok _ (ci a),Z,hdo,λst hs=>(w st hs).1,by show sts.length <=10;lia⟩,hb,pl,Q,o.few,ci a,λst hs=>(w st hs).2,rfl,by lia,up,E⟩,rfl,A.le (by lia),sm5.trans N⟩
abbrev Mo:=List (Str×Int)
noncomputable def pr(p:Str×Int):aa:=.tuple [.str p.1,.int p.2]
def moD(mo:Mo):aa:=.tuple (mo.map pr)
theorem atd{p q:Str×Int}(h:pr p=pr q):p=q:=by
 unfold pr at h;injection h with h
 injection h with b a
 injection b with b
 injection a with a _
 injection a with a
 exact Prod.ext b a
theorem aer: ∀{a b:Mo},a.map pr=b.map pr->a=b
 |[],[],_=>rfl
 |[],_::_,h=>by cases h
 |_::_,[],h=>by cases h
 |x::a,y::b,h=>by
  rw[aw,aw,bc]at h;rw[atd h.1,aer h.2]
theorem ap5{a b:Mo}(h:moD a=moD b):a=b:=by
 unfold moD at h;injection h with h
 exact aer h
noncomputable def v4(mo:Mo):Str->Option Int:=λx=>(mo.find? λp=>decide (p.1=x)).map (·.2)
theorem aea{p:Str×Int}{r:Mo}:v4 (p::r) x=if p.1=x then some p.2 else v4 r x:=by
 unfold v4;rw[bW];by_cases z:p.1=x
 ·rw[decide_eq_true z,if_pos z];rfl
 ·rw[decide_eq_false z,if_neg z]
theorem a00{mo:Mo}(nd:(mo.map (·.1)).Nodup){p:Str×Int}(h:p∈mo):v4 mo p.1=some p.2:=by
 induction mo with
 |nil=>cases h
 | cons q r a=>
  rw[aw,cN]at nd;rw[aea];rcases aL.mp h with z|z
  ·rw[z,if_pos rfl]
  ·rw[if_neg (λe=>nd.1 (by rw[e];exact bY (f:=λp:Str×Int=>p.1) z))];exact a nd.2 z
theorem amn: ∀{a b:Mo},a.map (·.1)=b.map (·.1)->(b.map (·.1)).Nodup->(∀q∈a,∀z,v4 b q.1=some z->q.2=z)->a=b
 |[],[],_,_,_=>rfl
 |[],_::_,h,_,_=>by cases h
 |_::_,[],h,_,_=>by cases h
 | x::a,y::b,h,nd,k=>by
  rw[aw,aw,bc]at h;rw[aw,cN]at nd;have e:=k x au y.2 (by rw[aea,if_pos h.1.symm]);rw[show x=y from Prod.ext h.1 e]
  rw[amn h.2 nd.2 λq c z hz=>k q (aq _ c) z (by
   rw[aea,if_neg (λe=>nd.1 (by rw[←h.2,e];exact bY c))];exact hz)]
def pF(ts:List Ti)(w:List Int):Mo:=(ts.zip w).flatMap λq=>(ptN q.1.sp).map λx=>(x,q.2)
theorem a4u(sp:List Sp)(x:Int):(sp.filter afu).map (λp=>bQ [p.a,.int x])=(ptN sp).map λy=>pr (y,x):=by
 induction sp with
 |nil=>rfl
 |cons p r b=>
  cases p with
  |port y=>rw[eO rfl,aw,b];rfl
  |box k=>rw[cI az,b];rfl
  |nxt k=>rw[cI az,b];rfl
theorem atr: ∀(ts:List Ti) (w:List Int),prs (fl ts w)=(pF ts w).map pr
 |[],_=>rfl
 |_::_,[]=>rfl
 |t::ts,x::w=>by
  have b:=atr ts w;have c:fl (t::ts) (x::w)=t.sp.map (λp=>(p,x))++fl ts w:=rfl;have a:pF (t::ts) (x::w)=(ptN t.sp).map (λy=>(y,x))++pF ts w:=rfl;rw[c,a,agl,a1y,a4u,b,cO,aY];rfl
theorem an4: ∀(ts:List Ti) (w:List Int),w.length=ts.length->(pF ts w).map (·.1)=ts.flatMap λt=>ptN t.sp
 |[],_,_=>rfl
 |_::_,[],h=>by cases h
 |t::ts,x::w,h=>by
  have b:=an4 ts w (by simpa using h);have a:pF (t::ts) (x::w)=(ptN t.sp).map (λy=>(y,x))++pF ts w:=rfl;rw[a,cO,b,aY,gN];congr 1;exact List.map_id' _
theorem a58{p q:Str×Int}(h:ltb (pr p) (pr q)=true)(ne:p.1≠q.1):ltS p.1 q.1=true:=by
 rw[zr]at h;unfold pr at h;simp only[ltP,vb]at h;have e:aX (.str p.1) (.str q.1)=false:=by
  have:aX (.str p.1) (.str q.1)=decide (p.1=q.1):=by
   show(p.1==q.1)=_
   (rw[bD,beq_iff_eq,decide_eq_true_eq])
  rw[this,decide_eq_false ne]
 simp[e,ne]at h;unfold ltS;simpa using h
theorem alf{a b:Str}(h:ltS a b=true)(k:ltS b a=true):False:=by
 unfold ltS at h k;exact List.lt_asymm (of_decide_eq_true h) (of_decide_eq_true k)
theorem afe{l:List Str}(h:l.Pairwise λa b=>ltS a b=true):l.Nodup:=h.imp λ{a b} q e=>by rw[e]at q;exact alf q q
theorem an3{ts:List Ti}{w:List Int}{j:List Str}(p:w.length=ts.length)(u:(ts.flatMap λt=>ptN t.sp).Perm j)(up:j.Pairwise λa b=>ltS a b=true):
  ∃mo:Mo,vf (prs (fl ts w))=mo.map pr/\mo.map (·.1)=j/\mo.Perm (pF ts w):=by
 have d:qw (prs (fl ts w))=true:=aid;have pm:=xf (prs (fl ts w));have rs:=afb d;generalize vf (prs (fl ts w))=S at pm rs;rw[atr]at pm d;obtain⟨mo,e,rfl⟩:=amm pm;refine⟨mo,rfl,?_,e⟩;have n:(mo.map (·.1)).Perm j:=(e.map _).trans (by rw[an4 ts w p];exact u);have nd:(mo.map (·.1)).Nodup:=n.nodup_iff.mpr (afe up);have l:(mo.map (·.1)).Pairwise λa b=>ltS a b=true:=by
  unfold abd at rs;rw[fw]at rs;unfold List.Nodup at nd;rw[fw]at nd⊢;refine(lP.mpr ⟨rs,nd⟩).imp_of_mem λ{a b} q r c=>?_
  have m:qw (mo.map pr)=true:=by
   unfold qw at d⊢;simp only[aB,aJ]at d⊢;exact λx hx=>⟨(d x (pm.mem_iff.mp hx)).1,λy o=>(d x (pm.mem_iff.mp hx)).2 y (pm.mem_iff.mp o)⟩
  rcases ai4 m (bY r) (bY q) c.1 with z|z
  ·rw[atd z]at c;exact absurd rfl c.2
  ·exact a58 z c.2
 exact kI (λa b _ _ h k=>(alf h k).elim) l up n
theorem am4{c:List Int}{cs:List (List Int)}{w:List Int}:w∈jy (c::cs) ↔ ∃t v,w=t::v/\t∈c/\v∈jy cs:=by
 show w∈c.flatMap (λt=>(jy cs).map (t:: ·)) ↔ _;rw[cW];constructor
 ·rintro⟨t,b,d⟩;obtain⟨v,a,rfl⟩:=aO.mp d;exact⟨t,v,rfl,b,a⟩
 ·rintro⟨t,v,rfl,b,a⟩;exact⟨t,b,aO.mpr ⟨v,a,rfl⟩⟩
theorem asz{h:Hd}{pas:Str->Option Int}{t:Ti}{x:Int}:x∈tf h pas t ↔ x∈tf h np t/\ ∀y∈ptN t.sp,∀z,pas y=some z->x=z:=by
 unfold tf;rw[bd,bd,and_assoc];refine and_congr_right λ_=>?_
 rw[aB,aB];constructor
 ·intro k;refine⟨λp a=>?_,λy b z hz=>?_⟩
  ·cases p with
   |port y=>rfl
   |box j=>exact k _ a
   |nxt j=>rfl
  ·obtain⟨p,a,e⟩:=gc.mp b;cases p with
   |port l=>
    cases e;have:=k _ a;simp only[okB,hz,decide_eq_true_eq]at this;exact this
   |box j=>cases e
   |nxt j=>cases e
 ·rintro⟨d,c⟩ p a;cases p with
  |port y=>
   cases e:pas y with
   |none=>simp only[okB,e]
   |some z=>simp only[okB,e,decide_eq_true_eq];exact c y (gc.mpr ⟨_,a,rfl⟩) z e
  |box j=>exact d _ a
  |nxt j=>rfl
theorem acv{h:Hd}{pas:Str->Option Int}: ∀{ts:List Ti} {w:List Int},w∈jy (ts.map (tf h pas)) ↔ w∈jy (ts.map (tf h np))/\ ∀q∈pF ts w,∀z,pas q.1=some z->q.2=z
 |[],w=>by
  show w∈ [[]] ↔ w∈ [[]]/\_;constructor
  ·intro k;exact⟨k,λq a=>by rw[show pF [] w=[] from rfl]at a;cases a⟩
  ·exact λk=>k.1
 | t::ts,w=>by
  rw[aw,aw,am4,am4];constructor
  ·rintro⟨x,v,rfl,hx,d⟩;obtain⟨m,e⟩:=asz.mp hx;obtain⟨j,b2⟩:=acv.mp d;refine⟨⟨x,v,rfl,m,j⟩,λq a z hz=>?_⟩;have c:pF (t::ts) (x::v)=(ptN t.sp).map (λy=>(y,x))++pF ts v:=rfl;rw[c]at a;rcases aS.mp a with y|y
   ·obtain⟨l,b,rfl⟩:=aO.mp y;exact e l b z hz
   ·exact b2 q y z hz
  ·rintro⟨⟨x,v,rfl,hx,d⟩,k⟩;have c:pF (t::ts) (x::v)=(ptN t.sp).map (λy=>(y,x))++pF ts v:=rfl;rw[c]at k;exact⟨x,v,rfl,asz.mpr ⟨hx,λy b z hz=>k (y,x) (dh _ (bY b)) z hz⟩,acv.mpr ⟨d,λq a=>k q (aV _ a)⟩⟩
theorem aot{h:Hd}{ts:List Ti}{w:List Int}{k:List Str}{mo:Mo}(c:(ts.flatMap λt=>ptN t.sp).Perm k)(up:k.Pairwise λa b=>ltS a b=true)(hm:(mo.map (·.1)).Pairwise λa b=>ltS a b=true):
  (w∈jy (ts.map (tf h np))/\vf (prs (fl ts w))=mo.map pr) ↔ (mo.map (·.1)=k/\w∈jy (ts.map (tf h (v4 mo)))):=by
 have nd:=afe hm;rw[acv (pas:=v4 mo)];constructor
 ·rintro⟨j,e⟩;have m:w.length=ts.length:=by rw[ad6 w j,ao]
  obtain⟨d,n,l,o⟩:=an3 m c up;have:mo=d:=aer (e.symm.trans n);subst this;refine⟨l,j,λq c z hz=>?_⟩;rw[a00 nd (o.mem_iff.mpr c)]at hz;exact bv hz
 ·rintro⟨j,e,p⟩;have m:w.length=ts.length:=by rw[ad6 w e,ao]
  obtain⟨d,n,l,o⟩:=an3 m c up;refine⟨e,?_⟩;rw[n,amn (l.trans j.symm) nd λq c=>p q (o.mem_iff.mp c)]
theorem acg{k x:aa}:x∈ku ks k ↔ x∈ks\/x=k:=by
 unfold ku;split
 ·rename_i z;exact⟨.inl,λq=>q.elim id λe=>e▸z⟩
 ·rw[aS,aA]
theorem ah4{k:aa}(h:ks.Nodup):(ku ks k).Nodup:=by
 unfold ku;split
 ·exact h
 ·rename_i z;rw[jQ];exact⟨h,by simp,λa c b d e=>z (by rw[←aA.mp d,←e];exact c)⟩
theorem afn{α:Type}(f:α->aa): ∀(l:List α) (ks:List aa) (x:aa),x∈l.foldl (λks a=>ku ks (f a)) ks ↔ x∈ks\/ ∃a∈l,x=f a
 |[],ks,x=>by simp
 | a::r,ks,x=>by
  rw[aW,afn f r,acg,or_assoc];refine or_congr_right ⟨λh=>?_,λh=>?_⟩
  ·rcases h with rfl|⟨b,c,rfl⟩
   ·exact⟨a,au,rfl⟩
   ·exact⟨b,aq _ c,rfl⟩
  ·obtain⟨b,c,rfl⟩:=h;rcases aL.mp c with z|z
   ·rw[z];exact .inl rfl
   ·exact .inr ⟨b,z,rfl⟩
theorem atf{sts:List Stp}{p:Int}{h:Hd}{k:aa}:k∈mv sts p h ↔ k=.tuple [.tuple [],stD p h]\/ ∃st∈sts,st.a=p/\ ∃w∈jy (st.ts.map (tf h np)),k=vc st h w:=by
 have all: ∀(l:List Stp) (ks:List aa),k∈l.foldl (za h) ks ↔ k∈ks\/ ∃st∈l,∃w∈jy (st.ts.map (tf h np)),k=vc st h w:=by
  intro l;induction l with
  |nil=>intro ks;simp
  | cons st r n=>
   intro ks;rw[aW,n];unfold za;rw[afn,or_assoc];refine or_congr_right ⟨λq=>?_,λq=>?_⟩
   ·rcases q with ⟨w,c,e⟩|⟨b,hs,q⟩
    ·exact⟨st,au,w,c,e⟩
    ·exact⟨b,aq _ hs,q⟩
   ·obtain⟨b,hs,w,c,e⟩:=q;rcases aL.mp hs with z|z
    ·subst z;exact .inl ⟨w,c,e⟩
    ·exact .inr ⟨b,z,w,c,e⟩
 unfold mv;rw[all,aA];refine or_congr_right ⟨λ⟨st,hs,q⟩=>?_,λ⟨st,hs,d,q⟩=>?_⟩
 ·obtain⟨m,j⟩:=bd.mp hs;exact⟨st,m,of_decide_eq_true j,q⟩
 ·exact⟨st,bd.mpr ⟨hs,decide_eq_true d⟩,q⟩
structure MoK (mo:Mo):Prop where
 up:(mo.map (·.1)).Pairwise λa b=>ltS a b=true
 ok: ∀p∈mo,k7 p.1=true/\0 <=p.2/\p.2 < 3
 len:mo.length <=9
theorem MoK.nil:MoK []:=⟨jP,(λ_ h=>by cases h),by decide⟩
structure Mx (m:Mc) (pl:List Int):Prop where
 ok:McOk m
 b2:m.b <=2
 few:pl.length <=3
 p:m.p∈pl
 st: ∀st∈m.sts,StP pl st
 ps: ∃xs:List Str,m.ps=xs.map aC/\xs.length <=5/\xs.Pairwise (λa b=>ltS a b=true)/\ ∀x∈xs,k7 x=true
theorem MxOk.mx{m:Mc}(h:MxOk m): ∃pl,Mx m pl:=by
 obtain⟨pl,xs,b,a,d,c⟩:=h.ex;exact⟨pl,h.ok,h.b2,b,a,d,xs,c⟩
abbrev Sq:=Int×Hd
def sD(q:Sq):aa:=stD q.1 q.2
theorem a4q{a b:Option Int}(h:hD a=hD b):a=b:=by
 cases a <;> cases b
 ·rfl
 ·cases h
 ·cases h
 ·injection h with h;rw[h]
theorem ao7: ∀{a b:Hd},a.map hD=b.map hD->a=b
 |[],[],_=>rfl
 |[],_::_,h=>by cases h
 |_::_,[],h=>by cases h
 |x::a,y::b,h=>by
  rw[aw,aw,bc]at h;rw[a4q h.1,ao7 h.2]
theorem ahs{a b:Sq}(h:sD a=sD b):a=b:=by
 unfold sD stD hdD at h;injection h with h
 injection h with d c
 injection d with d
 injection c with c _
 injection c with c
 exact Prod.ext d (ao7 c)
structure Sd (m:Mc) (pl:List Int) (q:Sq):Prop where
 ok:SdOk m q.1 q.2
 p:q.1∈pl
theorem Mx.first{m:Mc}(h:Mx m pl):Sd m pl (m.p,m.h):=⟨⟨h.ok.p,h.ok.h,h.ok.ho⟩,h.p⟩
def toQ(st:Stp)(h:Hd)(w:List Int):Sq:=(st.b,sb st.ts w h)
theorem amz{m:Mc}(hm:Mx m pl){q:Sq}(hs:Sd m pl q){st:Stp}(a:st∈m.sts){w:List Int}(d:w∈jy (st.ts.map (tf q.2 np))):Sd m pl (toQ st q.2 w):=by
 have c:=hm.ok.st st a;obtain⟨_,hx⟩:=ag8 c.ti w d;exact⟨⟨c.b,by show(sb st.ts w q.2).length=m.b;rw[aij];exact hs.ok.l,aqh (b:=m.b) (aqy c.ti hx) hs.ok.o⟩,(hm.st st a).b⟩
theorem ato{m:Mc}(hm:Mx m pl){q:Sq}(hs:Sd m pl q){k:aa}(hk:k∈mv m.sts q.1 q.2): ∃mo d,MoK mo/\Sd m pl d/\k=.tuple [moD mo,sD d]:=by
 rcases atf.mp hk with rfl|⟨st,a,D,w,h,rfl⟩
 ·exact⟨[],q,.nil,hs,rfl⟩
 ·obtain⟨E,x,r,l,A⟩:=(hm.st st a).ex;have j:=hm.ok.st st a;obtain⟨v,hx⟩:=ag8 j.ti w h;obtain⟨mo,u,c,n⟩:=an3 v r l;refine⟨mo,toQ st q.2 w,⟨by rw[c];exact l,λp e=>?_,?_⟩,amz hm hs a h,?_⟩
  ·refine⟨A _ (by rw[←c];exact bY e),?_⟩;have:=n.mem_iff.mp e;unfold pF at this;obtain⟨z,hz,b⟩:=cW.mp this;obtain⟨y,_,rfl⟩:=aO.mp b;exact hx _ (dR hz).2
  ·obtain⟨xs,o,F,_⟩:=j.ps;have:mo.length=xs.length:=by
    have C:=congrArg dJ c;have t:=congrArg dJ (x.symm.trans o);simp at C t;lia
   lia
  ·unfold vc;rw[u];rfl
theorem azx{m:Mc}(hm:Mx m pl){q:Sq}(hs:Sd m pl q){mo:Mo}(l:MoK mo){e:aa}:
  .tuple [moD mo,e]∈mv m.sts q.1 q.2 ↔ (mo=[]/\e=sD q)\/ ∃st∈m.sts,st.a=q.1/\st.ps=(mo.map (·.1)).map aC/\ ∃w∈jy (st.ts.map (tf q.2 (v4 mo))),e=sD (toQ st q.2 w):=by
 rw[atf];have c: ∀{a b:List Str},a.map aC=b.map aC->a=b:=λ{a b} h=>List.map_inj_right (λx y e=>by injection e)|>.mp h
 refine or_congr ⟨λh=>?_,λ⟨k,j⟩=>by rw[k,j];rfl⟩ ⟨λ⟨st,d,u,w,n,h⟩=>?_,λ⟨st,d,u,p,w,n,h⟩=>?_⟩
 ·injection h with h
  injection h with k j
  injection j with j _
  exact⟨ap5 (b:=[]) k,j⟩
 ·obtain⟨C,t,r,A,D⟩:=(hm.st st d).ex;unfold vc at h;injection h with h
  injection h with k j
  injection j with j _
  have z:vf (prs (fl st.ts w))=mo.map pr:=by
   unfold moD at k;injection k with k
   exact k.symm
  obtain⟨o,v⟩:=(aot (h:=q.2) r A l.up).mp ⟨n,z⟩;exact⟨st,d,u,by rw[t,o],w,v,j⟩
 ·obtain⟨C,t,r,A,D⟩:=(hm.st st d).ex;obtain⟨o,v⟩:=(aot (h:=q.2) r A l.up).mpr ⟨(c (t.symm.trans p)).symm,n⟩;exact⟨st,d,u,w,o,by unfold vc;rw[v,h];rfl⟩
theorem aiy: ∀{l m:List aa},l.Nodup->(∀x∈l,x∈m)->l.length <=m.length
 |[],_,_,_=>bn _
 |x::r,m,h,k=>by
  rw[cN]at h;have hx:=k x au;have:=aiy (m:=m.erase x) h.2 λy a=>(List.mem_erase_of_ne (λe=>h.1 (by rw[←e];exact a))).mpr (k y (aq _ a))
  have e:=List.length_erase_of_mem hx;have p:=lD hx;rw[aE];lia
noncomputable def oN:List (Option Int):=[none,some 0,some 1,some 2]
def hds:Nat->List Hd
 |0=>[[]]
 |b+1=>oN.flatMap λo=>(hds b).map (o:: ·)
theorem aoq: ∀{b:Nat} {h:Hd},h.length=b->xm h->h∈hds b
 |0,[],_,_=>aA.mpr rfl
 |0,_::_,e,_=>by cases e
 |_+1,[],e,_=>by cases e
 | b+1,o::r,e,k=>by
  refine cW.mpr ⟨o,?_,aO.mpr ⟨r,aoq (by simpa using e) λo ho=>k o (aq _ ho),rfl⟩⟩;cases o with
  |none=>exact au
  |some x=>
   have:=k _ au x rfl;have a:x=0\/x=1\/x=2:=by lia
   rcases a with rfl|rfl|rfl <;> simp[oN]
def sDs(m:Mc)(pl:List Int):List aa:=pl.flatMap λp=>(hds m.b).map (stD p)
theorem apd{m:Mc}{q:Sq}(h:Sd m pl q):sD q∈sDs m pl:=cW.mpr ⟨q.1,h.p,aO.mpr ⟨q.2,aoq h.ok.l h.ok.o,rfl⟩⟩
theorem api{m:Mc}(h:Mx m pl):(sDs m pl).length <=48:=by
 have a: ∀b,b <=2->(hds b).length <=16:=λb e=>by
  have:b=0\/b=1\/b=2:=by lia
  rcases this with rfl|rfl|rfl <;> decide
 have d:=a _ h.b2;have: ∀l:List Int,(l.flatMap λp=>(hds m.b).map (stD p)).length <=16*l.length:=λl=>by
  induction l with
  |nil=>exact aj _
  |cons p r k=>rw[gN,aH,ao,aE];lia
 have j:=this pl;have c:=h.few;unfold sDs;lia
theorem adi{m:Mc}(hm:Mx m pl){q:Sq}(h:Sd m pl q):Nice 1002 2 (sD q):=ajn h.ok.p (by rw[h.ok.l];exact hm.ok.b) h.ok.o
theorem adw{mo:Mo}(h:MoK mo):Nice 207 2 (moD mo):=by
 have c:=vq (B:=22) (D:=1) (mo.map pr) λd hd=>by
  obtain⟨p,e,rfl⟩:=aO.mp hd;obtain⟨a,b⟩:=h.ok p e;exact(Nices.cons (ab5 a) (Nices.cons (act b) Nices.nil)).tup.mono (by decide) (by decide)
 rw[ao]at c;have:=h.len;exact(c.mono (B':=207) (by lia) (aj _)).tup
theorem agk(q:Sq):plD (sD q)=true:=by
 unfold sD stD;rw[j9,jz,jz,aq7];rfl
theorem az8(mo:Mo):plD (moD mo)=true:=by
 unfold moD;rw[j9,aa6,eI];exact aB.mpr λo _=>rfl
theorem afz{m:Mc}(hm:Mx m pl){q:Sq}(h:Sd m pl q):isT (sD q)=true:=adr ⟨_,rfl⟩ (agk q) (adi hm h) (by decide)
theorem ami{mo:Mo}(h:MoK mo):isT (moD mo)=true:=adr ⟨_,rfl⟩ (az8 mo) (adw h) (by decide)
def gk(q:Sq)(mo:Mo):aa:=.tuple [sD q,moD mo]
theorem a43{m:Mc}(hm:Mx m pl){q:Sq}(h:Sd m pl q){mo:Mo}(k:MoK mo):isT (gk q mo)=true:=by
 refine adr ⟨_,rfl⟩ ?_ (Nices.cons (adi hm h) (Nices.cons (adw k) Nices.nil)).tup (by decide);unfold gk;rw[j9,jz,jz,agk,az8];rfl
def bk(a:Int)(xs:List Str):aa:=.tuple [.int a,.tuple (xs.map aC)]
theorem aud{a:Int}{xs:List Str}(b:ab7 a=true)(c:xs.length <=9)(hx: ∀x∈xs,k7 x=true):isT (bk a xs)=true:=by
 refine adr ⟨_,rfl⟩ ?_ (Nices.cons ((agj b).mono (D':=1) (aj _) (by decide)) (Nices.cons (aoc ⟨xs,rfl,c,hx⟩) Nices.nil)).tup (by decide);unfold bk;rw[j9,jz,jz,j9,aa6,eI];rw[show(xs.all (plD∘aC))=true from aB.mpr λ_ _=>rfl];rfl
theorem a6p{a b:Sq}{x y:Mo}(h:gk a x=gk b y):a=b/\x=y:=by
 unfold gk at h;injection h with h
 injection h with d c
 injection c with c _
 exact⟨ahs d,ap5 c⟩
theorem axq{kvs:List (aa×D)}{k:aa}{v x:D}(h:s[n]?=some (.dct kvs))(hk:ki kvs k=true)(a:kvs.length < 16777216)(b:jo kvs k=some v):aed (.ref n) [.da k,x] s=.ok v s:=by
 show onD (.ref n) s (λn kvs=>if ki kvs k=true/\kvs.length < sizeLine then (match jo kvs k with|some v=>R.ok v s|none=>R.ok x (s.set n (.dct (j5 kvs k x)))) else .bad)=_;rw[yv h,if_pos ⟨hk,a⟩,b]
theorem ay3{kvs:List (aa×D)}{k:aa}{x:D}(h:s[n]?=some (.dct kvs))(hk:ki kvs k=true)(a:kvs.length < 16777216)(b:jo kvs k=none):aed (.ref n) [.da k,x] s=.ok x (s.set n (.dct (j5 kvs k x))):=by
 show onD (.ref n) s (λn kvs=>if ki kvs k=true/\kvs.length < sizeLine then (match jo kvs k with|some v=>R.ok v s|none=>R.ok x (s.set n (.dct (j5 kvs k x)))) else .bad)=_;rw[yv h,if_pos ⟨hk,a⟩,b]
theorem am0{α:Type}(kvs:List (aa×α))(k:aa)(v:α):(j5 kvs k v).length <=kvs.length+1:=by
 unfold j5;split <;> simp
theorem a1j{α:Type}{kvs:List (aa×α)}{k:aa}{v:α}{e:aa×α}(h:e∈j5 kvs k v):e.1=k\/ ∃c∈kvs,c.1=e.1:=by
 unfold j5 at h;split at h
 ·obtain⟨a,b,rfl⟩:=aO.mp h;split
  ·rename_i z;exact .inl z
  ·exact .inr ⟨a,b,rfl⟩
 ·rcases aS.mp h with z|z
  ·exact .inr ⟨e,z,rfl⟩
  ·rw[aA.mp z];exact .inl rfl
theorem xb{α:Type}{p:aa->Bool}{kvs:List (aa×α)}{k:aa}{v:α}(h:(kvs.all λe=>p e.1)=true)(hk:p k=true):((j5 kvs k v).all λe=>p e.1)=true:=by
 rw[aB]at h⊢;intro e a;rcases a1j a with z|⟨b,h',z⟩
 ·rw[z];exact hk
 ·rw[←z];exact h b h'
theorem ajh{α:Type}{kvs:List (aa×α)}{k:aa}:(jo kvs k).isSome=true ↔ k∈kvs.map (·.1):=by
 unfold jo;rw[bZ,List.find?_isSome,aO];constructor
 ·rintro⟨e,a,h⟩;exact⟨e,a,by simpa using h⟩
 ·rintro⟨e,a,h⟩;exact⟨e,a,by simpa using h⟩
theorem adh{kvs:List (aa×D)}(h:(kvs.all λe=>isT e.1)=true){m:aa}(hm:isT m=true):ki kvs m=true:=by
 unfold ki;rw[h,hm];simp
theorem a0m{a:Nat}{o c:O}(h:s[a]?=some o)(h':s[b]?=some c)(hn:o≠c):a≠b:=λe=>by subst e;rw[h]at h';exact hn (bv h')
theorem xz{a:Nat}{o c:O}(h:s[b]?=some o)(hn:a≠b):(s.set a c)[b]?=some o:=by rw[aF hn];exact h
theorem avr(h: ∀k,k < s.length->s'[k]?=s[k]?)(a:s.length <=s'.length):Ext s s':=by
 refine⟨s'.drop s.length,?_⟩;refine cJ λk=>?_
 by_cases hk:k < s.length
 ·rw[aQ hk];exact h k hk
 ·rw[aZ (by lia),List.getElem?_drop];congr 1;lia
structure Mm (s:S) (a n:Nat) (kvs:KV) (L:aa->Option Nat) (E:aa->List aa):Prop where
 at_:s[a]?=some (.dct kvs)
 ks:(kvs.all λe=>isT e.1)=true
 kl:kvs.length <=n
 g: ∀k,jo kvs k=(L k).map D.ref
 m: ∀k l,L k=some l->s[l]?=some (.lst ((E k).map D.da))/\a < l
 i: ∀j k l,L j=some l->L k=some l->j=k
 e: ∀k,L k=none->E k=[]
theorem Mm.ext{a:Nat}{kvs L E}(h:Mm s a n kvs L E)(x:Ext s s'):Mm s' a n kvs L E:=⟨x.get h.at_,h.ks,h.kl,h.g,λk l e=>⟨x.get (h.m k l e).1,(h.m k l e).2⟩,h.i,h.e⟩
theorem Mm.new{a:Nat}(h:s[a]?=some (.dct [])):Mm s a 0 [] (λ_=>none) (λ_=>[]):=⟨h,rfl,aj _,λ_=>rfl,(λ_ _ e=>by cases e),(λ_ _ _ e=>by cases e),λ_ _=>rfl⟩
theorem asu{a:Nat}{kvs L E}(h:Mm s a n kvs L E)(hn:n < 1000000){k:aa}(hk:isT k=true): ∃s' d q l,aed (.ref a) [.da k,.ref s.length] (s++ [.lst []])=.ok (.ref l) s'/\q k=some l/\Mm s' a (n+1) d q E/\
  s'.length=s.length+1/\(∀i,i < a->s'[i]?=s[i]?)/\(∀j,(q j).isSome=true ↔ (L j).isSome=true\/j=k):=by
 have x:Ext s (s++ [.lst []]):=Ext.add _ _;have p:=h.ext x;have u:=h.kl;have v:a < s.length:=(am.mp h.at_).1;cases e:L k with
 |some l=>
  refine⟨s++ [.lst []],kvs,L,l,axq p.at_ (adh h.ks hk) (by lia) (by rw[h.g,e];rfl),e,⟨p.at_,h.ks,by lia,h.g,p.m,h.i,h.e⟩,by simp,λi r=>x.getE (by lia),λj=>⟨.inl,λz=>z.elim id λy=>?_⟩⟩;rw[y,e];rfl
 | none=>
  have old: ∀i o,s[i]?=some o->i≠a->((s++ [O.lst []]).set a (.dct (j5 kvs k (.ref s.length))))[i]?=some o:=λi o r hn=>xz (x.get r) (bu hn)
  refine⟨_,j5 kvs k (.ref s.length),λj=>if j=k then some s.length else L j,s.length,ay3 p.at_ (adh h.ks hk) (by lia) (by rw[h.g,e];rfl),if_pos rfl,⟨?_,?_,?_,?_,?_,?_,?_⟩,by simp,λi r=>?_,λj=>?_⟩
  ·exact aR (by simp;lia)
  ·exact xb h.ks hk
  ·have:=am0 kvs k (D.ref s.length);lia
  ·intro j;rw[vi];by_cases z:j=k
   ·subst z;simp
   ·rw[if_neg (bu z)];simp only[if_neg z];exact h.g j
  ·intro j l b;by_cases z:j=k
   ·subst z;simp only[if_true]at b;cases b;exact⟨by rw[h.e j e,aF (by lia)];simp,by lia⟩
   ·simp only[if_neg z]at b;exact⟨old l _ (h.m j l b).1 (by have:=(h.m j l b).2;lia),(h.m j l b).2⟩
  ·have lt: ∀j l,L j=some l->l < s.length:=λj l u=>(am.mp (h.m j l u).1).1
   intro j t l b c;by_cases z:j=k <;> by_cases y:t=k
   ·rw[z,y]
   ·simp only[if_pos z]at b;simp only[if_neg y]at c;cases b;exact absurd (lt t _ c) (by lia)
   ·simp only[if_neg z]at b;simp only[if_pos y]at c;cases c;exact absurd (lt j _ b) (by lia)
   ·simp only[if_neg z]at b;simp only[if_neg y]at c;exact h.i j t l b c
  ·intro j b;by_cases z:j=k
   ·simp only[if_pos z]at b;cases b
   ·simp only[if_neg z]at b;exact h.e j b
  ·rw[aF (by lia)];exact x.getE (by lia)
  ·by_cases z:j=k
   ·subst z;simp
   ·simp[if_neg z,z]
theorem ass{a l:Nat}{kvs L E}{k:aa}(h:Mm s a n kvs L E)(c:L k=some l)(x:aa):Mm (s.set l (.lst ((E k).map D.da++ [.da x]))) a n kvs L (λj=>if j=k then E k++ [x] else E j):=by
 obtain⟨hs,o⟩:=h.m k l c;refine⟨xz h.at_ (by lia),h.ks,h.kl,h.g,λj d b=>?_,h.i,λj b=>?_⟩
 ·by_cases z:j=k
  ·subst z;rw[c]at b;cases b;simp only[if_true];exact⟨by rw[aR (am.mp hs).1,cO];rfl,o⟩
  ·simp only[if_neg z];exact⟨xz (h.m j d b).1 (λy=>z (h.i j k d b (y▸c))),(h.m j d b).2⟩
 ·have z: ¬j=k:=λy=>by rw[y,c]at b;cases b
  simp only[if_neg z];exact h.e j b
def sK(st:Stp):aa:=.tuple [.int st.a,.tuple st.ps]
def byK(sts:List Stp)(k:aa):List aa:=(sts.filter λst=>decide (sK st=k)).map Stp.d
theorem aww(sts:List Stp)(st:Stp)(k:aa):byK (sts++ [st]) k=if k=sK st then byK sts (sK st)++ [st.d] else byK sts k:=by
 unfold byK;rw[gw,cO];by_cases z:k=sK st
 ·subst z;simp
 ·rw[if_neg z,cI (by simpa using λa=>z a.symm)];simp
theorem a03(sts:List Stp)(k:aa):(byK sts k).length <=sts.length:=by
 unfold byK;rw[ao];exact cC _ _
theorem a4o{st:Stp}(h:StOk b st):isT (sK st)=true:=by
 obtain⟨xs,e,c,ho⟩:=h.ps;unfold sK;rw[e];exact aud h.a c ho
structure GiJ (s0:S) (n a:Nat) (t:D) (sts:List Stp) (r:List D) (ρ:En) (s:S):Prop where
 ex: ∃done je u kvs L,sts=done++je/\r=(je.map Stp.d).map D.da/\ρ=[some (.ref n),some t,u]/\s[n]?=some (.ins "Goer" [("by_ports",.ref a)])/\s0.length <=s.length/\(∀k,k < a->s[k]?=s0[k]?)/\Mm s a done.length kvs L (byK done)
theorem asi{m:Mc}(hn:n+1=s.length)(h:s[n]?=some (.ins "Goer" []))(hm:McOk m):
  (aby [.ref n,.da m.d] s).W λd s'=>d=.non/\ ∃b o,s'[n]?=some (.ins "Goer" [("by_ports",.ref b),("gone",.ref o)])/\n < b/\b < o/\s'[o]?=some (.dct [])/\(∃kvs L,Mm s' b 10 kvs L (byK m.sts))/\s.length <=s'.length/\ ∀k,k < n->s'[k]?=s[k]?:=by
 rw[aqe];unfold ae8;walk_at "go";have x:Ext s (s++ [O.dct []]):=Ext.add _ _;rw[alw (x.get h) rfl (by simp)];walk_at "go";have H:n < (s++ [O.dct []]).length:=by simp;lia
 generalize j:(s++ [O.dct []]).set n (.ins "Goer" (putN "by_ports" (.ref s.length) []))=s1;have l1:s1.length=s.length+1:=by rw[←j];simp
 have M:s1[n]?=some (.ins "Goer" [("by_ports",.ref s.length)]):=by rw[←j];exact aR H
 have V:s1[s.length]?=some (.dct []):=by rw[←j,aF (by lia)];simp
 have fr: ∀k,k < n->s1[k]?=s[k]?:=λk hk=>by rw[←j,aF (by lia)];exact x.getE (by lia)
 rw[show gIx (.da m.d) (.int 4) s1=.ok (.tup (m.sts.map Stp.d)) s1 from it4];walk_at "go";refine R.W_mono (j6 (Q:=λfl s'=>∃ρ,fl=.nx ρ/\GiJ s1 n s.length (.da m.d) m.sts [] ρ s') (GiJ s1 n s.length (.da m.d) m.sts) ?_ ?_ _ _ _ ⟨[],m.sts,none,_,_,rfl,rfl,rfl,M,aj _,λ_ _=>rfl,Mm.new V⟩) ?_
 ·intro d r ρ s' J;obtain⟨done,je,u,kvs,L,t,z,rfl,C,P,E,v⟩:=J.ex;cases je with
  |nil=>cases z
  | cons st je=>
   cases z;have Y:=hm.st st (by rw[t];simp);have n10:=hm.n10;have dl:done.length < 10:=by have:=congrArg dJ t;simp at this;lia
   refine⟨[some (.ref n),some (.da m.d),some (.da st.d)],rfl,?_⟩;walk_at "go";rw[ac7 C rfl rfl];walk_at "go";rw[aku v.at_];walk_at "go";rw[show gIx (.da st.d) (.int 0) s'=.ok (.int st.a) s' from it0];walk_at "go";rw[show gIx (.da st.d) (.int 1) s'=.ok (.tup st.ps) s' from it1];walk_at "go";obtain⟨s2,w,F,l,S,A,y,Z,K,f6⟩:=asu v (by lia) (a4o Y);rw[show(D.tup [.int st.a,.tuple st.ps])=.da (sK st) from rfl,S];walk_at "go";rw[ac1 (y.m _ l A).1];walk_at "go";rw[yc (y.m _ l A).1 (by have:=a03 done (sK st);rw[ao];lia)];walk_at "go";obtain⟨g3,g4⟩:=y.m _ l A;have N:n < s.length:=by lia
   refine⟨done++ [st],je,_,w,F,by rw[t];simp,rfl,rfl,?_,?_,λk hk=>?_,?_⟩
   ·rw[aF (by lia),K n N];exact C
   ·simp;lia
   ·rw[aF (by lia),K k hk,E k hk]
   ·rw[aH,ib];have U:byK (done++ [st])=λk=>if k=sK st then byK done (sK st)++ [st.d] else byK done k:=by funext k;exact aww done st k
    rw[U];exact ass y A st.d
 ·intro ρ s' J;exact⟨ρ,rfl,J⟩
 ·rintro _ s' ⟨ρ,rfl,J⟩;obtain⟨done,je,u,kvs,L,t,z,rfl,C,P,E,v⟩:=J.ex;cases je with
  |cons st je=>cases z
  | nil=>
   rw[aK]at t;subst t;walk_at "go";have I:Ext s' (s'++ [O.dct []]):=Ext.add _ _;rw[alw (I.get C) rfl (by simp)];walk_at "go";have c:=v.ext I;have bl:=(am.mp v.at_).1;have n10:=hm.n10;refine⟨trivial,s.length,s'.length,?_,by lia,by lia,?_,⟨kvs,L,⟨xz c.at_ (by lia),c.ks,aN c.kl n10,c.g,λk l hk=>?_,c.i,c.e⟩⟩,?_,λk hk=>?_⟩
   ·exact aR (by simp;lia)
   ·rw[aF (by lia)];simp
   ·obtain⟨p,q⟩:=c.m k l hk;exact⟨xz p (by lia),q⟩
   ·simp;lia
   ·rw[aF (by lia),I.getE (by lia),E k (by lia),fr k hk]
noncomputable def kvO(p:Str×Int):aa×D:=(.str p.1,.int p.2)
theorem a39{kvs:List (aa×D)}{k:aa}{v:D}(h: ∀e∈kvs,e.1≠k):j5 kvs k v=kvs++ [(k,v)]:=by
 unfold j5;rw[if_neg];intro c;obtain⟨e,a,z⟩:=fO.mp c;exact h e a (of_decide_eq_true z)
theorem ap2: ∀(l:Mo) (d:List (aa×D)),(∀p∈l,∀e∈d,e.1≠aC p.1)->(l.map (·.1)).Nodup->(l.map λp=>(aC p.1,aG p.2)).foldl (λd p=>j5 d p.1 (.da p.2)) d=d++l.map kvO
 |[],d,_,_=>by simp
 | p::r,d,h,nd=>by
  rw[aw,cN]at nd;rw[aw,aW,a39 (h p au),ap2 r _ (λq a e b=>?_) nd.2]
  ·simp[kvO]
  ·rcases aS.mp b with z|z
   ·exact h q (aq _ a) e z
   ·rw[aA.mp z];intro y;have y:aC p.1=.str q.1:=y;injection y with y
    exact nd.1 (by rw[y];exact bY (f:=λp:Str×Int=>p.1) a)
theorem av7(x:Str): ∀l:Mo,jo (l.map kvO) (.str x)=(v4 l x).map D.int
 |[]=>rfl
 | p::r=>by
  have a:=av7 x r;rw[aea];unfold jo at a⊢;rw[aw,bW];by_cases z:p.1=x
  ·rw[if_pos z,decide_eq_true (show(kvO p).1=.str x by rw[←z];rfl)];rfl
  ·rw[if_neg z,decide_eq_false (show¬(kvO p).1=.str x from λy=>z (by cases y;rfl))];exact a
theorem am9: ∀l:Mo,(l.map pr).mapM pairD=some (l.map λp=>(aC p.1,aG p.2))
 |[]=>rfl
 |p::r=>by
  rw[aw,fG,am9 r];rfl
theorem a3a{mo:Mo}(h:MoK mo)(s:S):ady [.da (moD mo)] s=.ok (.ref s.length) (s++ [.dct (mo.map kvO)]):=by
 have e:=ap2 mo [] (λ_ _ _ y=>by cases y) (afe h.up);rw[show(D.da (moD mo))=.tup (mo.map pr) from rfl,awz (am9 mo) (by have:=h.len;rw[ao];lia)];unfold ad2;rw[e];rfl
theorem a2s{mo:Mo}(h:s[n]?=some (.dct (mo.map kvO))):PasS s n (v4 mo):=
 ⟨_,h,by rw[eI];exact aB.mpr λ_ _=>rfl,λx=>av7 x mo⟩
theorem a3s{mo:Mo}(h:s[n]?=some (.dct (mo.map kvO))):adk [.ref n] s=.ok (.tup ((mo.map (·.1)).map aC)) s:=by
 show(match aj9 s (.ref n) with|some (kvs:List (aa×D))=>R.ok (D.tup (kvs.map λe:aa×D=>e.1)) s|none=>k8 [.ref n] s)=_;rw[an0 h];show R.ok (D.tup ((mo.map kvO).map λe:aa×D=>e.1)) s=_;rw[aY,aY];rfl
theorem a3g(mo:Mo)(h:MoK mo)(s:S):gEq (.da (moD mo)) (.tup []) s=.ok (.bl (decide (mo=[]))) s:=by
 rw[show(D.tup [])=.da (.tuple []) from rfl,ace ((adw h).okD (by decide)) rfl];unfold moD;rw[ahb];cases mo <;> rfl
structure Sts (m:Mc) (pl:List Int) (ks:List aa):Prop where
 nd:ks.Nodup
 sd: ∀e∈ks,∃q,Sd m pl q/\e=sD q
theorem Sts.few{m:Mc}(hm:Mx m pl)(h:Sts m pl ks):ks.length <=48:=aN (aiy h.nd λe b=>by obtain⟨q,a,rfl⟩:=h.sd e b;exact apd a) (api hm)
theorem Sts.nil{m:Mc}:Sts m pl []:=⟨gA,λ_ h=>by cases h⟩
theorem Sts.add{m:Mc}(h:Sts m pl ks){q:Sq}(a:Sd m pl q):Sts m pl (ku ks (sD q)):=by
 refine⟨ah4 h.nd,λe b=>?_⟩;rcases acg.mp b with z|z
 ·exact h.sd e z
 ·exact⟨q,a,z⟩
def enW(st:Stp)(h:Hd)(ks:List aa)(W:List (List Int)):List aa:=W.foldl (λks w=>ku ks (sD (toQ st h w))) ks
theorem Sts.ways{m:Mc}{pl:List Int}(hm:Mx m pl){q:Sq}(hs:Sd m pl q){st:Stp}(a:st∈m.sts): ∀{W:List (List Int)} {ks:List aa},Sts m pl ks->(∀w∈W,w∈jy (st.ts.map (tf q.2 np)))->Sts m pl (enW st q.2 ks W)
 |[],_,h,_=>h
 |w::r,ks,h,k=>Sts.ways hm hs a (W:=r) (h.add (amz hm hs a (k w au))) λv b=>k v (aq _ b)
def enS(h:Hd)(pas:Str->Option Int)(ks:List aa)(sts:List Stp):List aa:=sts.foldl (λks st=>enW st h ks (jy (st.ts.map (tf h pas)))) ks
theorem ao5{h:Hd}{pas:Str->Option Int}{e:aa}: ∀(sts:List Stp) (ks:List aa),e∈enS h pas ks sts ↔ e∈ks\/ ∃st∈sts,∃w∈jy (st.ts.map (tf h pas)),e=sD (toQ st h w)
 |[],ks=>by simp[enS]
 | st::r,ks=>by
  show e∈enS h pas (enW st h ks _) r ↔ _;rw[ao5 r,enW,afn,or_assoc];refine or_congr_right ⟨λq=>?_,λq=>?_⟩
  ·rcases q with ⟨w,b,e⟩|⟨a,hs,q⟩
   ·exact⟨st,au,w,b,e⟩
   ·exact⟨a,aq _ hs,q⟩
  ·obtain⟨a,hs,w,b,e⟩:=q;rcases aL.mp hs with z|z
   ·subst z;exact .inl ⟨w,b,e⟩
   ·exact .inr ⟨a,z,w,b,e⟩
def anB:FS:=(qv vd (fC (.da (.bool true))) (ja 6) (jf 3 aak (jb (ja 7) (jb (ja 4) (jb (ja 8) jc)))))
def anA:FS:=(ko (fIt (jf 3 ac8 (jb (ja 7) (jb (ja 4) (jb (ja 5) jc))))) (.nm 8) anB)
def anR(n:Nat)(q:Sq)(mo:Mo)(c:Nat)(u v:Option D):En:=[some (.ref n),some (.da (sD q)),some (.da (moD mo)),some (.int q.1),some (.da (hdD q.2)),some (.ref c),some (.ref (c+1)),u,v]
structure AwJ (s1:S) (n:Nat) (q:Sq) (mo:Mo) (c:Nat) (st:Stp) (ks0:List aa) (r:List D) (ρ:En) (s':S):Prop where
 ex: ∃(W V:List (List Int)) (v:Option D),jy (st.ts.map (tf q.2 (v4 mo)))=W++V/\r=(V.map wD).map D.da/\ρ=anR n q mo c (some (.da st.d)) v/\MvJ s1 (enW st q.2 ks0 W) s'
theorem axn{o:S}{m:Mc}(hm:Mx m pl){q:Sq}(C:Sd m pl q){mo:Mo}(M:MoK mo){st:Stp}(e:st∈m.sts){a:List aa}(N:Sts m pl a)(K:c+1=o.length){Q:Fl->S->Prop}(u:Option D)(fin: ∀v s',MvJ o (enW st q.2 a (jy (st.ts.map (tf q.2 (v4 mo))))) s'->Q (.nx (anR n q mo c (some (.da st.d)) v)) s')(h:MvJ o a s')(A:o[c]?=some (.dct (mo.map kvO))):
  (anA (anR n q mo c (some (.da st.d)) u) s').W Q:=by
 have E:=hm.ok.st st e;have F:q.2.length=m.b:=C.ok.l;unfold anA anR;walk_at "go";have L:PasS s' c (v4 mo):=by
  obtain⟨kvs,g,k,rfl⟩:=h.ex;exact(a2s A).app
 refine R.W_mono (auu (h:=q.2) L (λt z=>by rw[F];exact(E.ti t z).toTiOk) E.n3) ?_;rintro _ x ⟨rfl,x2⟩;walk_at "go";rw[show∀W x,zg (lsD W) x=.ok ((W.map wD).map D.da,none) x from λ_ _=>rfl];walk_at "go";refine j6 (AwJ o n q mo c st a) ?_ ?_ _ _ _ ⟨[],_,u,rfl,rfl,rfl,h.ext x2⟩
 ·rintro d r ρ I ⟨W,V,v,f1,f2,rfl,hm3⟩;cases V with
  |nil=>cases f2
  |cons w V=>
   rw[aw,aw,bc]at f2;obtain⟨rfl,rfl⟩:=f2;refine⟨anR n q mo c (some (.da st.d)) (some (.da (wD w))),rfl,?_⟩;have J: ∀y∈W++(w::V),y∈jy (st.ts.map (tf q.2 np)):=λy j=>(acv.mp (show y∈jy (st.ts.map (tf q.2 (v4 mo))) by rw[f1];exact j)).1
   unfold anB anR;walk_at "go";refine R.W_mono (aw0 (h:=q.2) (w:=w) λt z p A=>by rw[F];exact(E.ti t z).sp p A) ?_;rintro _ Y ⟨rfl,x5⟩;walk_at "go";have P:Sts m pl (enW st q.2 a W):=N.ways hm C e λw j=>J w (dh _ j)
   have j:=amz hm C e (J w (by simp));obtain⟨U,O,H⟩:=(hm3.ext x5).put (afz hm j) (by have:=P.few hm;lia);rw[show(D.tup [.int st.b,hdD (sb st.ts w q.2)])=.da (sD (toQ st q.2 w)) from rfl,K,O];walk_at "go";exact⟨W++ [w],V,_,by rw[f1];simp,rfl,by rw[←K];rfl,by unfold enW at H⊢;rw[bw];exact H⟩
 ·rintro ρ I ⟨W,V,v,f1,f2,rfl,hm3⟩;cases V with
  |cons w V=>cases f2
  |nil=>
   rw[aK]at f1;rw[←f1]at hm3;exact fin v I hm3
theorem Sts.steps{m:Mc}{pl:List Int}(hm:Mx m pl){q:Sq}(hs:Sd m pl q){pas:Str->Option Int}: ∀{sts:List Stp} {ks:List aa},Sts m pl ks->(∀st∈sts,st∈m.sts)->Sts m pl (enS q.2 pas ks sts)
 |[],_,h,_=>h
 |st::r,ks,h,k=>Sts.steps hm hs (sts:=r) (h.ways hm hs (k st au) λw a=>(acv.mp a).1) λv b=>k v (aq _ b)
def amd(sts:List Stp)(q:Sq)(mo:Mo):List Stp:=sts.filter λst=>decide (sK st=bk q.1 (mo.map (·.1)))
theorem a5d{kvs L}{sts:List Stp}{q:Sq}{mo:Mo}(a:Mm s b 10 kvs L (byK sts))(x:Ext s s')(hk:isT (bk q.1 (mo.map (·.1)))=true):
  ∃y p,ac0 (.ref b) [.da (bk q.1 (mo.map (·.1))),.lst []] s'=.ok y s'/\zg y s'=.ok p s'/\p.1=((amd sts q mo).map Stp.d).map D.da/\ ∀h,Ext s h->kh p h:=by
 have e:=ag2 (d:=.lst []) (x.get a.at_) (adh a.ks hk);rw[a.g]at e;cases c:L (bk q.1 (mo.map (·.1))) with
 |none=>
  rw[c]at e;have z:=a.e _ c;exact⟨_,_,e,rfl,(show([]:List D)=(byK sts (bk q.1 (mo.map (·.1)))).map D.da by rw[z];rfl),λ_ _=>trivial⟩
 |some l=>
  rw[c]at e;obtain⟨j,n⟩:=a.m _ l c;exact⟨_,_,e,aik (x.get j),rfl,λh k=>k.get j⟩
structure AnJ (s1:S) (n c:Nat) (m:Mc) (q:Sq) (mo:Mo) (ks0:List aa) (r:List D) (ρ:En) (s':S):Prop where
 ex: ∃(done je:List Stp) (u v:Option D),amd m.sts q mo=done++je/\r=(je.map Stp.d).map D.da/\ρ=anR n q mo c u v/\MvJ s1 (enS q.2 (v4 mo) ks0 done) s'
theorem ast{m:Mc}(hm:Mx m pl){q:Sq}(p:Sd m pl q){mo:Mo}(k:MoK mo)(e:aa):
  e∈enS q.2 (v4 mo) (if mo=[] then [sD q] else []) (amd m.sts q mo) ↔ .tuple [moD mo,e]∈mv m.sts q.1 q.2:=by
 rw[ao5,azx hm p k];refine or_congr ?_ ⟨λ⟨st,b,w,d,l⟩=>?_,λ⟨st,b,n,j,w,d,l⟩=>?_⟩
 ·by_cases z:mo=[]
  ·rw[if_pos z,aA];exact⟨λh=>⟨z,h⟩,λh=>h.2⟩
  ·rw[if_neg z];exact⟨λh=>(by cases h),λh=>absurd h.1 z⟩
 ·obtain⟨o,a⟩:=bd.mp b;have a:=of_decide_eq_true a;unfold sK bk at a;injection a with a
  injection a with a c
  injection c with c _
  injection a with a
  injection c with c
  exact⟨st,o,a,c,w,d,l⟩
 ·exact⟨st,bd.mpr ⟨b,decide_eq_true (by unfold sK bk;rw[n,j])⟩,w,d,l⟩
theorem a6v{q:Sq}{h e b d a c:Option D}:al5 (.t2 (.nm 3) (.nm 4)) [x0,x1,x2,h,e,b,d,a,c] (.da (sD q)) s=.ok (.nx [x0,x1,x2,some (.int q.1),some (.da (hdD q.2)),b,d,a,c]) s:=(rfl)
theorem a2y{o:Nat}{m:Mc}{q:Sq}{mo:Mo}{kvs L}(hm:Mx m pl)(A:Sd m pl q)(c:MoK mo)(hn:s[n]?=some (.ins "Goer" [("by_ports",.ref b),("gone",.ref o)]))(V:Mm s b 10 kvs L (byK m.sts)):
  (xq [.ref n,.da (sD q),.da (moD mo)] s).W λd s'=>(∃ks,d=.lst ks/\Sts m pl ks/\ ∀e,e∈ks ↔ .tuple [moD mo,e]∈mv m.sts q.1 q.2)/\Ext s s':=by
 have hk:isT (bk q.1 (mo.map (·.1)))=true:=aud A.ok.p (by rw[ao];exact c.len) λx hx=>by
  obtain⟨p,hp,rfl⟩:=aO.mp hx;exact(c.ok p hp).1
 rw[ago];unfold zu;generalize eT:(jd (ko (fIt (fMd ac0 (afy ct "by_ports" (ja 0)) (jb (jq (jb (ja 3) (jb (fCB adk (jb (ja 5) jc)) jc))) (jb (kz false jc) jc)))) (.nm 7) (ko (fIt (jf 3 ac8 (jb (ja 7) (jb (ja 4) (jb (ja 5) jc))))) (.nm 8) (qv vd (fC (.da (.bool true))) (ja 6) (jf 3 aak (jb (ja 7) (jb (ja 4) (jb (ja 8) jc))))))) (ka (fCB (acr false) (jb (ja 6) jc))))=T;walk_at "go";rw[a6v];walk_at "go";rw[a3a c];walk_at "go";rw[a3g mo c];rw[show s++ [O.dct (mo.map kvO),O.dct []]=(s++ [O.dct (mo.map kvO)])++ [O.dct []] by simp];generalize l:s++ [O.dct (mo.map kvO)]=s1;have I:s.length+1=s1.length:=by rw[←l];simp
 have P:Ext s s1:=l▸Ext.add _ _;have g1:s1[s.length]?=some (.dct (mo.map kvO)):=by rw[←l];simp
 have j: ∀a,a=(if mo=[] then [sD q] else [])->Sts m pl a->∀E,MvJ s1 a E->(T (anR n q mo s.length none none) E).W λfl s'=>∃ks,fl=.rt (.lst ks)/\(Sts m pl ks/\ ∀e,e∈ks ↔ .tuple [moD mo,e]∈mv m.sts q.1 q.2)/\Ext s s':=by
  intro a e0 Z E t;rw[←eT];have K:Ext s E:=P.trans (by obtain⟨kvs,g,k,rfl⟩:=t.ex;exact Ext.add _ _);unfold anR;walk_at "go";rw[ac7 (K.get hn) rfl rfl];walk_at "go";rw[aku (K.get V.at_)];walk_at "go";rw[a3s (mo:=mo) (by obtain⟨kvs,g,k,rfl⟩:=t.ex;rw[aQ (by lia)];exact g1)];walk_at "go";obtain⟨y,p,f1,f2,f3,Q⟩:=a5d (q:=q) (mo:=mo) V K hk;rw[show(D.tup [.int q.1,.tuple ((mo.map (·.1)).map aC)])=.da (bk q.1 (mo.map (·.1))) from rfl,f1];walk_at "go";rw[f2];walk_at "go";rw[show∀(g:Tg) (U:FS) (ρ:En) (p:Wk) (s:S),kFor g U ρ p s=chk p s (kb g U p p.1 ρ s) from λ_ _ _ _ _=>rfl,qu (Q _ K)];have M: ∀{r ρ s'},AnJ s1 n s.length m q mo a r ρ s'->Ext s s':=λ{r ρ s'} J=>by
   obtain⟨_,_,_,_,_,_,_,H⟩:=J.ex;obtain⟨kvs,g,k,rfl⟩:=H.ex;exact P.trans (Ext.add _ _)
  have mem: ∀st∈amd m.sts q mo,st∈m.sts:=λst h=>(bd.mp h).1
  refine aae (AnJ s1 n s.length m q mo a) (λr ρ s' J=>Q _ (M J)) ?_ ?_ _ _ _ ⟨[],amd m.sts q mo,none,none,rfl,f3,rfl,t⟩
  ·rintro d r ρ s' ⟨done,je,u,v,e1,C,rfl,H⟩;cases je with
   |nil=>cases C
   |cons st je=>
    cases C;refine⟨anR n q mo s.length (some (.da st.d)) v,rfl,?_⟩;have N:st∈m.sts:=mem st (by rw[e1];simp);have w:Sts m pl (enS q.2 (v4 mo) a done):=Z.steps hm A λx hx=>mem x (by rw[e1];simp[hx])
    refine axn hm A c N w I v (λv' s3 F=>⟨done++ [st],je,_,_,by rw[e1];simp,rfl,rfl,?_⟩) H g1;unfold enS at F⊢;rw[bw];exact F
  ·rintro ρ s' ⟨done,je,u,v,e1,C,rfl,H⟩;cases je with
   |cons st je=>cases C
   |nil=>
    rw[aK]at e1;have w:Sts m pl (enS q.2 (v4 mo) a done):=Z.steps hm A λx hx=>mem x (by rw[e1];exact hx)
    have h3:=λe=>ast hm A c e
    rw[←e0,e1]at h3;obtain⟨Y,g,k,rfl⟩:=H.ex;unfold anR;walk_at "go";rw[I,ah6 qr,k.e];walk_at "go";exact⟨_,rfl,⟨w,h3⟩,P.trans (Ext.add _ _)⟩
 have j0:MvJ s1 [] (s1++ [O.dct []]):=⟨[],[],⟨rfl,λk hk=>by cases hk⟩,rfl⟩;by_cases z:mo=[]
 ·rw[decide_eq_true z];walk_at "go";obtain⟨E,C,m2⟩:=j0.put (afz hm A) (by decide);rw[I,C];walk_at "go";have ea:ku [] (sD q)=[sD q]:=by simp[ku]
  rw[ea]at m2;rw[←I];refine R.W_mono (j [sD q] (by rw[if_pos z]) (ea▸Sts.nil.add A) E m2) ?_;rintro _ s' ⟨ks,rfl,w,t⟩;exact⟨⟨ks,rfl,w⟩,t⟩
 ·rw[decide_eq_false z];walk_at "go";refine R.W_mono (j [] (by rw[if_neg z]) Sts.nil _ j0) ?_;rintro _ s' ⟨ks,rfl,w,t⟩;exact⟨⟨ks,rfl,w⟩,t⟩
def avk(m:Mc)(pl:List Int)(q:Sq)(mo:Mo)(v:D):Prop:= ∃es,v=.lst es/\Sts m pl es/\ ∀e,e∈es ↔ .tuple [moD mo,e]∈mv m.sts q.1 q.2
structure Go (s:S) (n b o:Nat) (m:Mc) (pl:List Int) (Z:List Mo):Prop where
 hn:s[n]?=some (.ins "Goer" [("by_ports",.ref b),("gone",.ref o)])
 by_: ∃kvs L,Mm s b 10 kvs L (byK m.sts)
 nb:n < b
 bo:b < o
 gone: ∃kvs ks,s[o]?=some (.dct kvs)/\KsOk ks kvs/\ks.Nodup/\(∀k∈ks,∃q mo,Sd m pl q/\mo∈Z/\k=gk q mo)/\ ∀q mo v,jo kvs (gk q mo)=some v->avk m pl q mo v
theorem Mm.set{a:Nat}{kvs L E}{o b:KV}(h:Mm s a n kvs L E)(d:s[c]?=some (.dct o))(j:a≠c):Mm (s.set c (.dct b)) a n kvs L E:=
 ⟨xz h.at_ (bu j),h.ks,h.kl,h.g,λk l e=>⟨xz (h.m k l e).1 (a0m d (h.m k l e).1 (by intro y;cases y)),(h.m k l e).2⟩,h.i,h.e⟩
theorem Go.ext{o:Nat}{m:Mc}{Z:List Mo}(h:Go s n b o m pl Z)(x:Ext s s'):Go s' n b o m pl Z:=by
 obtain⟨kvs,L,a⟩:=h.by_;obtain⟨e,ks,d,c⟩:=h.gone;exact⟨x.get h.hn,⟨kvs,L,a.ext x⟩,h.nb,h.bo,e,ks,x.get d,c⟩
theorem Go.set{o:Nat}{m:Mc}{Z:List Mo}{a d:KV}(h:Go s n b o m pl Z)(l:s[c]?=some (.dct a))(p:o < c):Go (s.set c (.dct d)) n b o m pl Z:=by
 obtain⟨kvs,L,e⟩:=h.by_;obtain⟨a,ks,k,j⟩:=h.gone;have:=h.nb;have:=h.bo;exact⟨xz h.hn (by lia),⟨kvs,L,e.set l (by lia)⟩,h.nb,h.bo,a,ks,xz k (by lia),j⟩
theorem a1c{m:Mc}{Z:List Mo}(hm:Mx m pl)(d:Z.length <=40)(nd:ks.Nodup)(h: ∀k∈ks,∃q mo,Sd m pl q/\mo∈Z/\k=gk q mo):ks.length <=1920:=by
 have e:=aiy (m:=(sDs m pl).flatMap λa=>Z.map λmo=>.tuple [a,moD mo]) nd λk hk=>by
  obtain⟨q,mo,b,hr,rfl⟩:=h k hk;exact cW.mpr ⟨sD q,apd b,aO.mpr ⟨mo,hr,rfl⟩⟩
 have: ∀l:List aa,(l.flatMap λa=>Z.map λmo=>bQ [a,moD mo]).length <=40*l.length:=λl=>by
  induction l with
  |nil=>exact aj _
  |cons p r n=>rw[gN,aH,ao,aE];lia
 have c:=this (sDs m pl);have j:=api hm;lia
theorem aob{F:FF}{d x y:D}:aip 3 F ρ d [x,y] s=(F [d,x,y] s).at ρ:=(rfl)
theorem asd{o:Nat}{m:Mc}{Z:List Mo}(hm:Mx m pl)(h:Go s n b o m pl Z)(N:Z.length <=40){q:Sq}(y:Sd m pl q){mo:Mo}(l:MoK mo)(hr:mo∈Z):
  (zd [.ref n,.da (sD q),.da (moD mo)] s).W λd s'=>avk m pl q mo d/\Go s' n b o m pl Z/\jr o s s':=by
 have a:=a43 hm y l;obtain⟨t,ks,e,c,I,F,H⟩:=h.gone;rw[anh];unfold acn;walk_at "go";rw[show(D.tup [sD q,moD mo])=.da (gk q mo) from rfl];rw[ac7 h.hn rfl rfl];walk_at "go";rw[aek e (c.same a)];cases C:jo t (gk q mo) with
 |some v=>
  rw[cY,eQ];walk_at "go";rw[ac7 h.hn rfl rfl];walk_at "go";rw[show(D.tup [sD q,moD mo])=.da (gk q mo) from rfl,zo e (c.same a) C];walk_at "go";exact⟨H q mo v C,h,.refl _ _⟩
 | none=>
  rw[c7,gD];walk_at "go";rw[anf h.hn rfl rfl];walk_at "go";rw[aob];obtain⟨kvs,L,M⟩:=h.by_;walk_at "go";refine R.W_mono (a2y hm y l h.hn M) ?_;rintro _ K ⟨⟨es,rfl,e1,e2⟩,x2⟩;have u:=h.ext x2;walk_at "go";rw[ac7 u.hn rfl rfl];walk_at "go";have kl:=a1c hm N I F;rw[show(D.tup [sD q,moD mo])=.da (gk q mo) from rfl,ab9 (x2.get e) (c.same a) (by rw[c.len];lia)];walk_at "go";have A:(K.set o (.dct (j5 t (gk q mo) (.lst es))))[o]?=some (.dct (j5 t (gk q mo) (.lst es))):=aR (am.mp (x2.get e)).1;have nb:=h.nb;have bo:=h.bo;obtain⟨j,w,x⟩:=u.by_;have E:Go (K.set o (.dct (j5 t (gk q mo) (.lst es)))) n b o m pl Z:=by
   refine⟨xz u.hn (by lia),⟨j,w,x.set (x2.get e) (by lia)⟩,nb,bo,_,_,A,c.put a,ah4 I,λk hk=>?_,λJ p v r=>?_⟩
   ·rcases acg.mp hk with z|z
    ·exact F k z
    ·exact⟨q,mo,y,hr,z⟩
   ·rw[vi]at r;by_cases z:gk q mo=gk J p
    ·obtain⟨rfl,rfl⟩:=a6p z;rw[if_pos rfl]at r;cases r;exact⟨es,rfl,e1,e2⟩
    ·rw[if_neg z]at r;exact H J p v r
  rw[ac7 E.hn rfl rfl];walk_at "go";rw[show(D.tup [sD q,moD mo])=.da (gk q mo) from rfl,zo A ((c.put a).same a) (by rw[vi,if_pos rfl])];walk_at "go";exact⟨⟨es,rfl,e1,e2⟩,E,(x2.same o).trans aac⟩
def nx(m:Mc)(X:aa->Prop)(mo:Mo):aa->Prop:=λe=>∃q:Sq,X (sD q)/\ .tuple [moD mo,e]∈mv m.sts q.1 q.2
def run(m:Mc)(Z:List Mo):aa->Prop:=Z.foldl (nx m) λe=>e=sD (m.p,m.h)
theorem amx{m:Mc}{Z:List Mo}{mo:Mo}:run m (Z++ [mo])=nx m (run m Z) mo:=by unfold run;rw[bw];rfl
theorem al3{m:Mc}: ∀(Z:List Mo) (X:aa->Prop),(∀e,¬X e)->∀e,¬(Z.foldl (nx m) X) e
 |[],_,h=>h
 |mo::r,X,h=>al3 r _ λe ⟨q,a,_⟩=>h _ a
def roD(Z:List Mo):aa:=.tuple (Z.map moD)
def mhB:FS:=(ko (fIt (agc "behind" [("Goer",3,zd)] (ja 2) (jb (ja 6) (jb (ja 4) jc)))) (.nm 7) (qv vd (fC (.da (.bool true))) (ja 5) (ja 7)))
def mhR(d r:D)(n:Nat)(ks:List aa)(mo:Mo)(c:Nat)(u v:Option D):En:=[some d,some r,some (.ref n),some (.lst ks),some (.da (moD mo)),some (.ref c),u,v]
structure Bh (s:S) (c:Nat) (m:Mc) (pl:List Int) (X:aa->Prop):Prop where
 ex: ∃(kvs:KV) (es:List aa),s[c]?=some (.dct kvs)/\KsOk es kvs/\Sts m pl es/\ ∀e,e∈es ↔ X e
theorem Bh.same{o:Nat}{m:Mc}{X:aa->Prop}(h:Bh s c m pl X)(x:PF.jr o s s')(d:o < c):Bh s' c m pl X:=by
 obtain⟨kvs,es,a,b⟩:=h.ex;exact⟨kvs,es,by rw[x.get c (by lia) (am.mp a).1];exact a,b⟩
theorem Bh.put{m:Mc}{X:aa->Prop}(hm:Mx m pl)(h:Bh s c m pl X){q:Sq}(k:Sd m pl q):
  ∃n a,s[c]?=some (.dct n)/\vd (.ref c) (.da (sD q)) (.bl true) s=.ok .non (s.set c (.dct a))/\Bh (s.set c (.dct a)) c m pl λe=>X e\/e=sD q:=by
 obtain⟨kvs,es,d,b,l,o⟩:=h.ex;have j:=afz hm k;refine⟨kvs,_,d,ab9 d (b.same j) (by have:=l.few hm;rw[b.len];lia),_,ku es (sD q),aR (am.mp d).1,b.put j,l.add k,λe=>?_⟩;rw[acg,o]
structure Fr (s0 s:S) (n b o:Nat) (m:Mc) (pl:List Int) (Z:List Mo):Prop where
 go:Go s n b o m pl Z
 len:s0.length <=s.length
 fr: ∀k,k < s0.length->s[k]?=s0[k]?
 n:s0.length <=n
structure Mh3 (s0:S) (n b o c:Nat) (m:Mc) (pl:List Int) (Z:List Mo) (d r':D) (ks:List aa) (mo:Mo) (q:Sq) (X:aa->Prop) (es:List aa) (r:List D) (ρ:En) (s:S):Prop where
 ex: ∃(done je:List aa) (v:Option D),es=done++je/\r=je.map D.da/\ρ=mhR d r' n ks mo c (some (.da (sD q))) v/\Fr s0 s n b o m pl Z/\Bh s c m pl λe=>X e\/e∈done
theorem a7b{l:S}{o:Nat}{m:Mc}{Z:List Mo}{d j:D}{mo:Mo}{q:Sq}{X:aa->Prop}{v:Option D}(hm:Mx m pl)(H:Z.length <=40)(f:Fr l s n b o m pl Z)(P:Sd m pl q)(u:MoK mo)(hr:mo∈Z)(O:Bh s c m pl X)(E:o < c){Q:Fl->S->Prop}(fin: ∀v s',Fr l s' n b o m pl Z->Bh s' c m pl (λe=>X e\/ .tuple [moD mo,e]∈mv m.sts q.1 q.2)->Q (.nx (mhR d j n ks mo c (some (.da (sD q))) v)) s'):
  (mhB (mhR d j n ks mo c (some (.da (sD q))) v) s).W Q:=by
 have nb:=f.go.nb;have bo:=f.go.bo;unfold mhB mhR;walk_at "go";rw[anf f.go.hn rfl rfl];walk_at "go";rw[aob];walk_at "go";refine R.W_mono (asd hm f.go H P u hr) ?_;rintro _ L ⟨⟨es,rfl,y,t⟩,h,x2⟩;have K:Fr l L n b o m pl Z:=⟨h,aN f.len x2.len,λk hk=>by rw[x2.get k (by have:=f.n;lia) (by have:=f.len;lia)];exact f.fr k hk,f.n⟩;walk_at "go";refine j6 (Mh3 l n b o c m pl Z d j ks mo q X es) ?_ ?_ _ _ _ ⟨[],es,v,rfl,rfl,rfl,K,?_⟩
 ·rintro d2 r ρ F ⟨done,je,v,g1,g2,rfl,f3,b3⟩;cases je with
  |nil=>cases g2
  | cons x je=>
   cases g2;obtain⟨C,w,rfl⟩:=y.sd x (by rw[g1];simp);refine⟨mhR d j n ks mo c (some (.da (sD q))) (some (.da (sD C))),rfl,?_⟩;obtain⟨Y,U,J,M,I⟩:=b3.put hm w;unfold mhR;walk_at "go";rw[M];walk_at "go";refine⟨done++ [sD C],je,_,by rw[g1];simp,rfl,rfl,⟨f3.go.set J E,by simpa using f3.len,λk hk=>?_,f3.n⟩,?_⟩
   ·rw[aF (by have:=f3.n;lia)];exact f3.fr k hk
   ·obtain⟨kvs,a,y,t,V,N⟩:=I.ex;refine⟨kvs,a,y,t,V,λe=>?_⟩;rw[N,aS,aA,or_assoc]
 ·rintro ρ F ⟨done,je,v,g1,g2,rfl,f3,b3⟩;cases je with
  |cons x je=>cases g2
  |nil=>
   rw[aK]at g1;subst g1;refine fin v F f3 ?_;obtain⟨kvs,a,z,h,A,p⟩:=b3.ex;exact⟨kvs,a,z,h,A,λe=>by rw[p,t]⟩
 ·obtain⟨kvs,a,z,h,A,p⟩:=(O.same x2 E).ex;exact⟨kvs,a,z,h,A,λe=>by rw[p];simp⟩
structure Mh2 (s0:S) (n b o c:Nat) (m:Mc) (pl:List Int) (Z:List Mo) (d r':D) (ks:List aa) (mo:Mo) (r:List D) (ρ:En) (s:S):Prop where
 ex: ∃(done je:List aa) (u v:Option D),ks=done++je/\r=je.map D.da/\ρ=mhR d r' n ks mo c u v/\Fr s0 s n b o m pl Z/\Bh s c m pl (nx m (· ∈done) mo)
structure Mh1 (s0:S) (n b o:Nat) (m:Mc) (pl:List Int) (Z:List Mo) (d r':D) (r:List D) (ρ:En) (s:S):Prop where
 ex: ∃(done je:List Mo) (ks:List aa) (u4 u5 u6 u7:Option D),Z=done++je/\r=(je.map moD).map D.da/\ρ=[some d,some r',some (.ref n),some (.lst ks),u4,u5,u6,u7]/\Fr s0 s n b o m pl Z/\Sts m pl ks/\(λe=>e∈ks)=run m done
theorem awt{F:FF}{x:D}:azk C 2 F ρ [x] s=((F [.ref s.length,x] (s++ [.ins C []])).at ρ).bind (anm s.length):=(rfl)
theorem a5i{m:Mc}{Z:List Mo}(hm:Mx m pl)(Y:Z.length <=40)(F: ∀mo∈Z,MoK mo):
  (vx [.da m.d,.da (roD Z)] s).W λd s'=>(∃b,d=.bl b/\(b=true ↔ ∃e,run m Z e))/\Ext s s':=by
 rw[ano];unfold ad0;walk_at "go";rw[awt];walk_at "go";refine R.W_mono (asi (s:=s++ [.ins "Goer" []]) (n:=s.length) (by simp) (by simp) hm.ok) ?_;rintro _ l ⟨rfl,b,o,i1,i2,i3,i4,i5,i6,i7⟩;rw[aH,ib]at i6;have j:Go l s.length b o m pl Z:=⟨i1,i5,i2,i3,[],[],i4,⟨rfl,λk hk=>(by cases hk)⟩,gA,λk hk=>(by cases hk),λq mo v hv=>(by cases hv)⟩;have f1:Fr s l s.length b o m pl Z:=⟨j,by lia,λk hk=>by rw[i7 k hk,aQ hk],aj _⟩;walk_at "go";rw[show gIx (.da m.d) (.int 3) l=.ok (.da (sD (m.p,m.h))) l from it3];walk_at "go";rw[show zg (.da (roD Z)) l=.ok ((Z.map moD).map D.da,none) l from rfl];walk_at "go";refine R.W_mono (j6 (Q:=λfl s'=>∃ρ,fl=.nx ρ/\Mh1 s s.length b o m pl Z (.da m.d) (.da (roD Z)) [] ρ s') (Mh1 s s.length b o m pl Z (.da m.d) (.da (roD Z))) ?_ ?_ _ _ _ ⟨[],Z,[sD (m.p,m.h)],none,none,none,none,rfl,rfl,rfl,f1,⟨by simp,λe H=>⟨_,hm.first,aA.mp H⟩⟩,?_⟩) ?_
 ·rintro d r ρ c ⟨done,je,ks,u4,S,P,M,t,w,rfl,a,st,I⟩;cases je with
  |nil=>cases w
  | cons mo je=>
   cases w;have hr:mo∈Z:=by rw[t];simp
   refine⟨[some (.da m.d),some (.da (roD Z)),some (.ref s.length),some (.lst ks),some (.da (moD mo)),S,P,M],rfl,?_⟩;walk_at "go";have V:Fr s (c++ [O.dct []]) s.length b o m pl Z:=⟨a.go.ext (Ext.add _ _),by simp;have:=a.len;lia,λk hk=>by rw[aQ (by have:=a.len;lia)];exact a.fr k hk,a.n⟩;have oc:o < c.length:=by obtain⟨kv,_,z,_⟩:=a.go.gone;exact(am.mp z).1
   have U:Bh (c++ [O.dct []]) c.length m pl (nx m (· ∈([]:List aa)) mo):=⟨[],[],by simp,⟨rfl,λk hk=>(by cases hk)⟩,Sts.nil,λe=>⟨λh=>(by cases h),λ⟨q,h,_⟩=>(by cases h)⟩⟩;generalize c++ [O.dct []]=s3 at V U⊢;refine j6 (Mh2 s s.length b o c.length m pl Z (.da m.d) (.da (roD Z)) ks mo) ?_ ?_ _ _ _ ⟨[],ks,P,M,rfl,rfl,rfl,V,U⟩
   ·rintro d r ρ s4 ⟨dn,rs,u,v,j,g2,rfl,f4,b4⟩;cases rs with
    |nil=>cases g2
    | cons x rs=>
     cases g2;obtain⟨q,hq,rfl⟩:=st.sd x (by rw[j];simp);refine⟨mhR (.da m.d) (.da (roD Z)) s.length ks mo c.length (some (.da (sD q))) v,rfl,?_⟩;refine a7b hm Y f4 hq (F mo hr) hr b4 oc λv' s5 f5 b5=>⟨dn++ [sD q],rs,_,_,by rw[j];simp,rfl,rfl,f5,?_⟩
     obtain⟨kvs,es,E,K,A,L⟩:=b5.ex;refine⟨kvs,es,E,K,A,λe=>?_⟩;rw[L];constructor
     ·rintro (⟨C,N,y⟩|h)
      ·exact⟨C,dh _ N,y⟩
      ·exact⟨q,by simp,h⟩
     ·rintro⟨C,N,y⟩;rcases aS.mp N with z|z
      ·exact .inl ⟨C,z,y⟩
      ·have:=ahs (aA.mp z);subst this;exact .inr y
   ·rintro ρ s4 ⟨dn,rs,u,v,j,g2,rfl,f4,b4⟩;cases rs with
    |cons x rs=>cases g2
    |nil=>
     rw[aK]at j;subst j;obtain⟨kvs,es,E,K,A,L⟩:=b4.ex;unfold mhR;walk_at "go";rw[ah6 E,K.e];walk_at "go";refine⟨done++ [mo],je,es,_,_,_,_,by rw[t];simp,rfl,rfl,f4,A,?_⟩;rw[amx,←I];funext e;exact propext (L e)
 ·intro ρ c J;exact⟨ρ,rfl,J⟩
 ·funext e;exact propext aA
 ·rintro _ c ⟨ρ,rfl,J⟩;obtain⟨done,je,ks,u4,S,P,M,t,w,rfl,a,st,I⟩:=J.ex;cases je with
  |cons x je=>cases w
  | nil=>
   rw[aK]at t;subst t;walk_at "go";refine⟨⟨_,rfl,?_⟩,avr a.fr a.len⟩;rw[decide_eq_true_eq,←I];constructor
   ·intro h;have h:0 < ks.length:=by lia
    exact⟨ks[0],ci h⟩
   ·rintro⟨e,H⟩;have:=lD (show e∈ks from H);lia
def acx:aa->aa
 |.tuple [a,_]=>a
 |_=>.none
noncomputable def ahg:aa->aa
 |.tuple [_,b]=>b
 |_=>.none
def grp(l:List aa)(k:aa):List aa:=l.foldl (λks d=>if acx d=k then ku ks (ahg d) else ks) []
theorem awf{d k:aa}:grp (l++ [d]) k=if acx d=k then ku (grp l k) (ahg d) else grp l k:=by unfold grp;rw[bw];rfl
theorem aj7{k e:aa}(l:List aa):e∈grp l k ↔ ∃d∈l,acx d=k/\e=ahg d:=by
 have all: ∀(l:List aa) (ks:List aa),e∈l.foldl (λks d=>if acx d=k then ku ks (ahg d) else ks) ks ↔ e∈ks\/ ∃d∈l,acx d=k/\e=ahg d:=by
  intro l;induction l with
  |nil=>intro ks;simp
  | cons d r j=>
   intro ks;rw[aW,j];by_cases z:acx d=k
   ·rw[if_pos z,acg,or_assoc];refine or_congr_right ⟨λh=>h.elim (λh=>⟨d,au,z,h⟩) λ⟨d',b,a⟩=>⟨d',aq _ b,a⟩,λ⟨d',b,a,c⟩=>?_⟩;rcases aL.mp b with rfl|y
    ·exact .inl c
    ·exact .inr ⟨d',y,a,c⟩
   ·rw[if_neg z];refine or_congr_right ⟨λ⟨d',b,a⟩=>⟨d',aq _ b,a⟩,λ⟨d',b,a,c⟩=>?_⟩;rcases aL.mp b with rfl|y
    ·exact absurd a z
    ·exact⟨d',y,a,c⟩
 unfold grp;rw[all];simp
theorem a0i{k:aa}(l:List aa):(grp l k).Nodup:=by
 have all: ∀(l:List aa) (ks:List aa),ks.Nodup->(l.foldl (λks d=>if acx d=k then ku ks (ahg d) else ks) ks).Nodup:=by
  intro l;induction l with
  |nil=>intro ks h;exact h
  |cons d r a=>
   intro ks h;rw[aW];refine a _ ?_;split
   ·exact ah4 h
   ·exact h
 exact all l [] gA
def MvL(m:Mc)(pl:List Int)(l:List aa):Prop:= ∀d∈l,∃mo q,MoK mo/\Sd m pl q/\d=.tuple [moD mo,sD q]
theorem ajc{m:Mc}(h:MvL m pl l)(k:aa):Sts m pl (grp l k):=⟨a0i l,λe b=>by
 obtain⟨d,hd,_,rfl⟩:=(aj7 l).mp b;obtain⟨mo,q,_,a,rfl⟩:=h d hd
 exact⟨q,a,rfl⟩⟩
theorem a4m{m:Mc}(h:MvL m pl l){mo:Mo}{e:aa}:e∈grp l (moD mo) ↔ .tuple [moD mo,e]∈l:=by
 rw[aj7];constructor
 ·rintro⟨d,hd,a,rfl⟩;obtain⟨b,q,_,_,rfl⟩:=h d hd;have a:moD b=moD mo:=a;rw[←a];exact hd
 ·exact λhd=>⟨_,hd,rfl,rfl⟩
theorem apc{a b:aa}(d:plD a=true)(c:plD b=true):aX a b=decide (a=b):=by
 rw[bD,ag4 a b d c,decide_eq_true_eq]
theorem avs{m:Mc}(hm:Mx m pl)(h:s[n]?=some (.lst (ks.map D.da)))(hk:Sts m pl ks){q:Sq}(a:Sd m pl q):abn (.da (sD q)) (.ref n) s=.ok (.bl (!decide (sD q∈ks))) s:=by
 have e:(ks.any λd=>aX d (sD q))=decide (sD q∈ks):=by
  (rw[bD,fO,decide_eq_true_eq])
  constructor
  ·rintro⟨d,hd,z⟩;obtain⟨b,_,rfl⟩:=hk.sd d hd;rw[apc (agk _) (agk _),decide_eq_true_eq]at z;rw[←z];exact hd
  ·exact λhd=>⟨_,hd,by rw[apc (agk _) (agk _)];exact decide_eq_true rfl⟩
 rw[show(D.da (sD q))=.tup [.int q.1,hdD q.2] from rfl,ajp h ((adi hm a).okD (by decide)) (aB.mpr λd hd=>by obtain⟨b,h',rfl⟩:=hk.sd d hd;exact(adi hm h').okD (by decide))];rw[show(.tuple [.int q.1,hdD q.2])=sD q from rfl,e]
def onB:FS:=(jd (jk 4 (fMd aed (ja 1) (jb (ja 2) (jb (kz true jc) jc))))
  (jv (ji (fOp abn (ja 3) (ja 4))) (qq (fMt kc (ja 4) (jb (ja 3) jc))) jn))
structure OnJ (s0:S) (l:List aa) (r:List D) (ρ:En) (s:S):Prop where
 ex: ∃(done je:List aa) (kvs:KV) (L:aa->Option Nat) (u v w:Option D),l=done++je/\r=je.map D.da/\ρ=[some (.lst l),some (.ref s0.length),u,v,w]/\Ext s0 s/\Mm s s0.length done.length kvs L (grp done)/\ ∀k,(L k).isSome=true ↔ ∃d∈done,acx d=k
theorem a2c{n:S}{m:Mc}(hm:Mx m pl)(H:MvL m pl l)(hn:l.length <=1000){d:D}{r:List D}(J:OnJ n l (d::r) ρ s){Q:Fl->S->Prop}:
  ∃ρ1,qg (.t2 (.nm 2) (.nm 3)) d ρ=some ρ1/\(onB ρ1 s).W (flW (OnJ n l r) Q):=by
 obtain⟨done,je,kvs,L,u,v,w,h,E,rfl,x,t,M⟩:=J.ex;cases je with
 |nil=>cases E
 | cons y je=>
  cases E;obtain⟨mo,q,p,U,rfl⟩:=H y (by rw[h];simp);have dl:done.length < 1000:=by have:=congrArg dJ h;simp at this;lia
  refine⟨[some (.lst l),some (.ref n.length),some (.da (moD mo)),some (.da (sD q)),w],rfl,?_⟩;unfold onB;walk_at "go";rw[aku t.at_];walk_at "go";obtain⟨K,b,c,a,O,o,j,V,N,P⟩:=asu t (by lia) (ami p);rw[O];walk_at "go";have hs:=ajc (l:=done) (λd hd=>H d (by rw[h];simp[hd])) (moD mo);rw[avs hm (j.m _ _ o).1 hs U];have C:Ext n K:=avr (λk hk=>by rw[N k hk];exact x.getE hk) (by have:=x.len;lia);have I:(done++ [bQ [moD mo,sD q]]).length=done.length+1:=by simp
  have e: ∀k,(c k).isSome=true ↔ ∃d∈done++ [bQ [moD mo,sD q]],acx d=k:=λk=>by
   rw[P,M];constructor
   ·rintro (⟨d,hd,z⟩|rfl)
    ·exact⟨d,by simp[hd],z⟩
    ·exact⟨_,aV _ au,rfl⟩
   ·rintro⟨d,hd,z⟩;rcases aS.mp hd with y|y
    ·exact .inl ⟨d,y,z⟩
    ·rw[aA.mp y]at z;exact .inr z.symm
  have F:grp (done++ [bQ [moD mo,sD q]])=λk=>if k=moD mo then ku (grp done (moD mo)) (sD q) else grp done k:=by
   funext k;rw[awf];show(if moD mo=k then ku (grp done k) (sD q) else grp done k)=_;by_cases z:moD mo=k
   ·rw[if_pos z,if_pos z.symm,z]
   ·rw[if_neg z,if_neg (bu z)]
  by_cases z:sD q∈grp done (moD mo)
  ·rw[decide_eq_true z,eQ];walk_at "go";refine⟨done++ [.tuple [moD mo,sD q]],je,b,c,_,_,_,by rw[h];simp,rfl,rfl,C,?_,e⟩;rw[I,F]
   rw[show(λk=>if k=moD mo then ku (grp done (moD mo)) (sD q) else grp done k)=grp done from by
    funext k;by_cases y:k=moD mo
    ·rw[if_pos y,y];unfold ku;rw[if_pos z]
    ·rw[if_neg y]]
   exact j
  ·rw[decide_eq_false z,gD];walk_at "go";obtain⟨A,Y⟩:=j.m _ _ o;rw[ac1 A];walk_at "go";rw[yc A (by have:=hs.few hm;rw[ao];lia)];walk_at "go";refine⟨done++ [.tuple [moD mo,sD q]],je,b,c,_,_,_,by rw[h];simp,rfl,rfl,C.own (by lia),?_,e⟩;rw[I,F]
   rw[show(λk=>if k=moD mo then ku (grp done (moD mo)) (sD q) else grp done k)=λk=>if k=moD mo then grp done (moD mo)++ [sD q] else grp done k from by
    funext k;unfold ku
    rw[if_neg z]]
   exact ass j o (sD q)
theorem a83:axi f ρ s=(f ρ s).bind amo:=(rfl)
theorem a8m{m:Bool}{k:Nat}{p:Wk}(h:p.1.length <=16777216)(a:kh p s)(e:bp k none++acm ρ js=ρ0):kLc m js k g ft fe ρ p s=(ke g ft fe ρ0 p p.1 s).bind (aky m):=by
 subst e;unfold kLc;rw[if_pos (by rw[kx];exact h),qu a];rfl
theorem aln{g:Tg}{fe:FE}{ρ0:En}{p:Wk}{s:S}(c:kh p s)(f:aa->aa): ∀(l:List aa),(∀a∈l,∃ρ1,qg g (.da a) ρ0=some ρ1/\fe ρ1 s=.ok (.da (f a)) s) ->
  ke g vw fe ρ0 p (l.map D.da) s=.ok ((l.map f).map D.da) s
 |[],_=>rfl
 |a::r,h=>by
  obtain⟨ρ1,e,j⟩:=h a au;have m:=aln c f r λb k=>h b (aq _ k)
  rw[aw,af9 e,arb,R.calm_ok,R.bind_ok,amc,j,R.calm_ok,R.bind_ok];rw[show∀x,ant g vw fe ρ0 p (r.map D.da) x s=chk p s ((ke g vw fe ρ0 p (r.map D.da) s).bind λxs d=>.ok (x::xs) d) from λ_=>rfl,qu c,m,R.bind_ok];rfl
def abv(xs:List aa):List aa:=(kyO xs).map λi=>xs.getD i .none
theorem asj(xs:List aa):(abv xs).Perm xs:=by
 have b:(kyO xs).Perm (a8 xs.length):=KS.aiw _ _;refine(b.map λi=>xs.getD i .none).trans ?_;rw[show(a8 xs.length).map (λi=>xs.getD i .none)=xs from List.ext_getElem (by simp) λi c a=>by simp[bP,a]]
theorem anz(h:s[n]?=some (.lst (xs.map D.da)))(b:xs.all okK=true)(a:xs.length < 64):ab0 false [.ref n] s=.ok (.lst (abv xs)) s:=by
 show(match (match s[n]? with|some (O.lst ds)=>some ds|_=>none).bind j2 with|some xs=>if xs.all okK=true/\xs.length < 64 then qj false ((abv xs).map D.da) s else .bad|none=>.bad)=_;rw[h];show(match j2 (xs.map D.da) with|some xs=>if xs.all okK=true/\xs.length < 64 then qj false ((abv xs).map D.da) s else .bad|none=>.bad)=_;rw[vg];show(if xs.all okK=true/\xs.length < 64 then qj false ((abv xs).map D.da) s else .bad)=_;rw[if_pos ⟨b,a⟩];exact adq
theorem Sts.perm{m:Mc}(h:Sts m pl xs)(p:ys.Perm xs):Sts m pl ys:=⟨p.nodup_iff.mpr h.nd,λe a=>h.sd e (p.mem_iff.mp a)⟩
theorem alv(g:aa->aa): ∀(ks:List aa) (d:List (aa×D)) (k:aa),jo ((ks.map λk=>(k,g k)).foldl (λd p=>j5 d p.1 (.da p.2)) d) k=if k∈ks then some (.da (g k)) else jo d k
 |[],d,k=>by simp
 | a::r,d,k=>by
  rw[aw,aW,alv g r,vi];by_cases z:k∈r
  ·rw[if_pos z,if_pos (aq _ z)]
  ·rw[if_neg z];by_cases y:a=k
   ·rw[if_pos y,if_pos (by rw[y];exact au),y]
   ·rw[if_neg y,if_neg (λh=>(aL.mp h).elim (λe=>y e.symm) z)]
theorem am8(g:aa->aa): ∀(ks:List aa) (d:List (aa×D)),(∀k∈ks,isT k=true)->(d.all λe=>isT e.1)=true->(((ks.map λk=>(k,g k)).foldl (λd p=>j5 d p.1 (.da p.2)) d).all λe=>isT e.1)=true
 |[],_,_,h=>h
 |a::r,d,hk,h=>am8 g r _ (λk z=>hk k (aq _ z)) (xb h (hk a au))
theorem ak1(g:aa->aa): ∀ks:List aa,(∀k∈ks,isT k=true)->(ks.map λk=>bQ [k,g k]).mapM ad5=some (ks.map λk=>(k,g k))
 |[],_=>rfl
 |a::r,h=>by
  rw[aw,fG,ak1 g r λk z=>h k (aq _ z)];rw[show ad5 (.tuple [a,g a])=some (a,g a) from if_pos (h a au)];rfl
theorem axa{ps:List (aa×aa)}(h:xs.mapM ad5=some ps)(a:ps.length < 4000)(hn:ps≠ []):afd [.lst xs] s=.ok (.ref s.length) (s++ [.dct (ad2 ps)]):=by
 unfold afd;simp only[h];exact if_pos ⟨a,hn⟩
structure Wy (s:S) (r:Nat) (m:Mc) (pl:List Int) (l:List aa):Prop where
 ex: ∃kvs,s[r]?=some (.dct kvs)/\(kvs.all λe=>isT e.1)=true/\ ∀mo,MoK mo->(jo kvs (moD mo)=none/\ ∀e,.tuple [moD mo,e]∉l)\/ ∃ks,jo kvs (moD mo)=some (.tup ks)/\ks≠ []/\Sts m pl ks/\ ∀e,e∈ks ↔ .tuple [moD mo,e]∈l
theorem a3q{m:Mc}(hm:Mx m pl)(h:Sts m pl ks):ks.all okK=true:=aB.mpr λd hd=>by
 obtain⟨q,a,rfl⟩:=h.sd d hd;have n:=adi hm a;unfold okK;rw[n.okS (by decide) (by decide),decide_eq_true (aN n.dp (by decide))];rfl
theorem a8g{m:Mc}(hm:Mx m pl)(j:MvL m pl l)(hn:l.length <=1000)(M:l≠ []):
  (aej [.lst l] s).W λd s'=>∃r,d=.ref r/\Wy s' r m pl l/\Ext s s':=by
 rw[ayb];unfold B_law_on;walk_at "go";refine R.W_mono (j6 (Q:=λfl s'=>∃ρ,fl=.nx ρ/\OnJ s l [] ρ s') (OnJ s l) (λd r ρ s J=>a2c hm j hn J) (λρ s' J=>⟨ρ,rfl,J⟩) _ _ _ ⟨[],l,_,_,none,none,none,rfl,rfl,rfl,Ext.add _ _,Mm.new (by simp),λk=>⟨λh=>(by cases h),λ⟨d,h,_⟩=>(by cases h)⟩⟩) ?_;rintro _ p ⟨ρ,rfl,J⟩;obtain⟨done,je,kvs,L,u,v,w,E,I,rfl,x,b,t⟩:=J.ex;cases je with
 |cons y je=>cases I
 | nil=>
  rw[aK]at E;subst E;walk_at "go";rw[a83];walk_at "go";rw[atc b.at_ b.ks];walk_at "go";have kl:=b.kl;have H:kh (kvs.map (λe=>D.da e.1),some (s.length,.dct kvs)) p:=b.at_;have n: ∀k∈kvs.map (·.1),isT k=true/\ ∃a,L k=some a:=λk hk=>by
   have:=ajh.mpr hk;rw[b.g,bZ]at this;obtain⟨e,q,F⟩:=aO.mp hk;have c:=aB.mp b.ks e q;rw[←F];exact⟨c,F▸gf.mp this⟩
  have N:ke (.nm 0) vw (jq (jb (ja 0) (jb (fCB k8 (jb (fCB (ab0 false) (jb (fOp vk (ja 1) (ja 0)) jc)) jc)) jc))) [none,some (.ref s.length)] (kvs.map (λe=>D.da e.1),some (s.length,.dct kvs)) (kvs.map (λe=>D.da e.1)) p=.ok (((kvs.map (·.1)).map λk=>bQ [k,.tuple (abv (grp l k))]).map D.da) p:=by
   have:=aln (g:=.nm 0) (fe:=(jq (jb (ja 0) (jb (fCB k8 (jb (fCB (ab0 false) (jb (fOp vk (ja 1) (ja 0)) jc)) jc)) jc)))) (ρ0:=[none,some (.ref s.length)]) H (λk=>bQ [k,.tuple (abv (grp l k))]) (kvs.map (·.1)) λk hk=>?_
   ·rw[←this,aY];rfl
   ·obtain⟨A,a,o⟩:=n k hk;refine⟨[some (.da k),some (.ref s.length)],rfl,?_⟩;have sk:=ajc j k;walk_at "ev";rw[zo b.at_ (adh b.ks A) (by rw[b.g,o];rfl)];walk_at "ev";rw[anz (b.m k a o).1 (a3q hm sk) (by have:=sk.few hm;lia)];walk_at "ev"
  rw[a8m (ρ0:=[none,some (.ref s.length)]) (by show(kvs.map λe=>D.da e.1).length <=16777216;rw[ao];lia) H rfl,N];walk_at "go";have pt:=ak1 (λk=>.tuple (abv (grp l k))) (kvs.map (·.1)) λk hk=>(n k hk).1
  rw[axa pt (by rw[ao,ao];lia) ?_]
  ·walk_at "go";refine⟨p.length,rfl,⟨_,qr,am8 (λk=>.tuple (abv (grp l k))) _ [] (λk hk=>(n k hk).1) rfl,λmo K=>?_⟩,x.trans (Ext.add _ _)⟩;rw[show jo (ad2 ((kvs.map (·.1)).map λk=>(k,.tuple (abv (grp l k))))) (moD mo)=if moD mo∈kvs.map (·.1) then some (.da (.tuple (abv (grp l (moD mo))))) else jo [] (moD mo) from alv (λk=>.tuple (abv (grp l k))) _ [] _];by_cases z:moD mo∈kvs.map (·.1)
   ·rw[if_pos z];have pm:=asj (grp l (moD mo));refine .inr ⟨_,rfl,?_,(ajc j _).perm pm,λe=>by rw[pm.mem_iff,a4m j]⟩;obtain⟨A,a,o⟩:=n _ z;obtain⟨d,hd,e⟩:=(t (moD mo)).mp (by rw[o];rfl);intro y;have c:=(pm.mem_iff (a:=ahg d)).mpr ((aj7 l).mpr ⟨d,hd,e,rfl⟩);rw[y]at c;cases c
   ·rw[if_neg z];refine .inl ⟨rfl,λe q=>z ?_⟩;refine ajh.mp ?_;rw[b.g,bZ];exact(t _).mpr ⟨_,q,rfl⟩
  ·intro y;cases l with
   |nil=>exact M rfl
   |cons d r=>
    have c:=(t (acx d)).mpr ⟨d,au,rfl⟩;have C:acx d∈kvs.map (·.1):=ajh.mp (by rw[b.g,bZ];exact c);rw[ms]at y;rw[y]at C;cases C
def fiD(m:Mc):aa:=.tuple [sD (m.p,m.h)]
theorem arj{a b:Str}(h:a≠b): ¬aC a=.str b:=λy=>h (by injection y)
def wdO(m:Mc)(k:Nat):KV:=j5 (j5 (j5 (j5 [] (.str "kind") (.str "machine")) (.str "machine") (.da m.d)) (.str "first") (.da (fiD m))) (.str "known") (.ref k)
theorem axb(m:Mc)(k:Nat)(x:Str):ki (wdO m k) (.str x)=true:=by
 have h:((wdO m k).all λe=>isK e.1)=true:=xb (xb (xb (xb rfl rfl) rfl) rfl) rfl;unfold ki;rw[h];rfl
theorem ar6(m:Mc)(k:Nat):jo (wdO m k) (.str "machine")=some (.da m.d):=by
 unfold wdO;rw[vi,if_neg (arj (by decide)),vi,if_neg (arj (by decide)),vi,if_pos rfl]
theorem awp(m:Mc)(k:Nat):jo (wdO m k) (.str "first")=some (.da (fiD m)):=by
 unfold wdO;rw[vi,if_neg (arj (by decide)),vi,if_pos rfl]
theorem ayr(m:Mc)(k:Nat):jo (wdO m k) (.str "known")=some (.ref k):=by
 unfold wdO;rw[vi,if_pos rfl]
structure Wd (s:S) (w k:Nat) (m:Mc) (pl:List Int):Prop where
 at_:s[w]?=some (.dct (wdO m k))
 ne:w≠k
 known: ∃kvs ks,s[k]?=some (.dct kvs)/\KsOk ks kvs/\Sts m pl ks/\ ∀q v,jo kvs (sD q)=some v->v=.lst (mv m.sts q.1 q.2)
theorem Wd.ext{w k:Nat}{m:Mc}(h:Wd s w k m pl)(x:Ext s s'):Wd s' w k m pl:=by
 obtain⟨kvs,ks,a,b⟩:=h.known;exact⟨x.get h.at_,h.ne,kvs,ks,x.get a,b⟩
theorem Wd.same{w k:Nat}{m:Mc}(h:Wd s w k m pl)(x:PF.jr j s s')(d:w≠j)(c:k≠j):Wd s' w k m pl:=by
 obtain⟨kvs,ks,a,b⟩:=h.known;exact⟨by rw[x.get w d (am.mp h.at_).1];exact h.at_,h.ne,kvs,ks,by rw[x.get k c (am.mp a).1];exact a,b⟩
theorem au7{kvs:KV}{k:aa}{v:D}(h:s[n]?=some (.dct kvs))(hk:ki kvs k=true)(a:kvs.length < 16777216):yg (.ref n) (.da k) v s=.ok .non (s.set n (.dct (j5 kvs k v))):=by
 unfold yg;rw[yv h];exact if_pos ⟨hk,by rw[kx];exact a⟩
theorem ai5{kvs:KV}{v:D}{ps:List (D×D)}(h:(kvs.all λe=>isK e.1)=true)(b:kvs.length < 10):putAll s.length ((.da (.str x),v)::ps) (s++ [O.dct kvs,O.dct []])=putAll s.length ps (s++ [O.dct (j5 kvs (.str x) v),O.dct []]):=by
 show(yg (.ref s.length) (.da (.str x)) v (s++ [O.dct kvs,O.dct []])).bind (λ_ a=>putAll s.length ps a)=_;rw[au7 (kvs:=kvs) qr (by unfold ki;rw[h];rfl) (by lia),aaj];rfl
theorem aws{m:Mc}:(j8 [.da m.d] s).W λd s'=>∃k,d=.ref s.length/\s.length < k/\Wd s' s.length k m pl/\Ext s s':=by
 rw[af0];unfold B_law_machine_world;walk_at "go";rw[show∀b,gIx (.da m.d) (.int 3) b=.ok (.da (sD (m.p,m.h))) b from λ_=>it3];walk_at "go";have a: ∀{kvs:KV} {k:aa} {v:D} {n:Nat},kvs.length < n->(j5 kvs k v).length < n+1:=λ{kvs k v n} h=>by have:=am0 kvs k v;lia
 have e:kDp s.length [(.da (.str "kind"),.da (.str "machine")),(.da (.str "machine"),.da m.d),(.da (.str "first"),.tup [sD (m.p,m.h)]),(.da (.str "known"),.ref (s.length+1))] (s++ [O.dct [],O.dct []])=.ok (.ref s.length) (s++ [O.dct (wdO m (s.length+1)),O.dct []]):=by
  unfold kDp
  rw[ai5 rfl (by decide),ai5 (xb rfl rfl) (eG (a (n:=1) (by decide)) (by decide)),ai5 (xb (xb rfl rfl) rfl) (eG (a (a (n:=1) (by decide))) (by decide)),
   ai5 (xb (xb (xb rfl rfl) rfl) rfl) (eG (a (a (a (n:=1) (by decide)))) (by decide))]
  rfl
 rw[e];walk_at "go";exact⟨s.length+1,(by first|rfl|trivial),by lia,⟨by simp,by lia,[],[],by simp,⟨rfl,λk hk=>(by cases hk)⟩,Sts.nil,λq v c=>(by cases c)⟩,Ext.add _ _⟩
theorem Wd.machine{w k:Nat}{m:Mc}(h:Wd s w k m pl):vk (.ref w) (.da (.str "machine")) s=.ok (.da m.d) s:=zo h.at_ (axb _ _ _) (ar6 _ _)
theorem Wd.first{w k:Nat}{m:Mc}(h:Wd s w k m pl):vk (.ref w) (.da (.str "first")) s=.ok (.da (fiD m)) s:=zo h.at_ (axb _ _ _) (awp _ _)
theorem Wd.kn{w k:Nat}{m:Mc}(h:Wd s w k m pl):vk (.ref w) (.da (.str "known")) s=.ok (.ref k) s:=zo h.at_ (axb _ _ _) (ayr _ _)
theorem a6b{m:Mc}(hm:Mx m pl){q:Sq}(a:Sd m pl q):MvL m pl (mv m.sts q.1 q.2):=λ_ hd=>ato hm a hd
theorem a2o{w k:Nat}{m:Mc}{d:D}{acc:List aa}(hm:Mx m pl)(h:Wd s w k m pl){q:Sq}(c:Sd m pl q){Q:Fl->S->Prop}(fin: ∀s',Wd s' w k m pl->PF.jr k s s'->(∃kvs ks,s'[k]?=some (.dct kvs)/\KsOk ks kvs/\jo kvs (sD q)=some (.lst (mv m.sts q.1 q.2)))->Q (.nx [some (.ref w),some d,some (.lst acc),some (.da (sD q))]) s'):
  ((jv (ji (fOp (yp true) (ja 3) (fOp vk (ja 0) (fC (.da (.str "known")))))) (qv vd (jf 2 yw (jb (fOp vk (ja 0) (fC (.da (.str "machine")))) (jb (ja 3) jc))) (fOp vk (ja 0) (fC (.da (.str "known")))) (ja 3)) jn) [some (.ref w),some d,some (.lst acc),some (.da (sD q))] s).W Q:=by
 have n:=afz hm c;obtain⟨kvs,ks,j,a,u,A⟩:=h.known;walk_at "go";rw[h.kn];walk_at "go";rw[aek j (a.same n)];cases t:jo kvs (sD q) with
 |some v=>
  rw[cY,eQ];walk_at "go";exact fin s h (.refl _ _) ⟨kvs,ks,j,a,by rw[t,A q v t]⟩
 | none=>
  rw[c7,gD];walk_at "go";rw[h.machine];walk_at "go";refine R.W_mono (afc (m:=m) (p:=q.1) (h:=q.2) (λst r=>by rw[c.ok.l];exact hm.ok.st st r) hm.ok.n10 c.ok.p (by rw[c.ok.l];exact hm.ok.b) c.ok.o) ?_;rintro _ E ⟨rfl,x2⟩;have y:=h.ext x2;walk_at "go";rw[y.kn];walk_at "go";have kl:=u.few hm;rw[ab9 (x2.get j) (a.same n) (by rw[a.len];lia)];walk_at "go";have C:(E.set k (.dct (j5 kvs (sD q) (.lst (mv m.sts q.1 q.2)))))[k]?=some (.dct (j5 kvs (sD q) (.lst (mv m.sts q.1 q.2)))):=aR (am.mp (x2.get j)).1;refine fin _ ⟨xz y.at_ (bu h.ne),h.ne,_,_,C,a.put n,u.add c,λx v e=>?_⟩ ((x2.same k).trans aac) ⟨_,_,C,a.put n,by rw[vi,if_pos rfl]⟩;rw[vi]at e;by_cases z:sD q=sD x
  ·rw[if_pos z]at e;cases ahs z;cases e;rfl
  ·rw[if_neg z]at e;exact A x v e
structure MlJ (s0:S) (w k:Nat) (m:Mc) (pl:List Int) (ks:List aa) (r:List D) (ρ:En) (s:S):Prop where
 ex: ∃(done je acc:List aa) (u:Option D),ks=done++je/\r=je.map D.da/\ρ=[some (.ref w),some (.da (.tuple ks)),some (.lst acc),u]/\Wd s w k m pl/\PF.jr k s0 s/\MvL m pl acc/\(∀d,d∈acc ↔ ∃q,sD q∈done/\d∈mv m.sts q.1 q.2)/\acc.length <=300
theorem a5j{w k:Nat}{m:Mc}(hm:Mx m pl)(h:Wd s w k m pl)(hk:Sts m pl ks)(H:ks≠ []):
  (xt [.ref w,.da (.tuple ks)] s).W λd s'=>(d=.non\/ ∃r l,d=.ref r/\Wy s' r m pl l/\ ∀d,d∈l ↔ ∃q,sD q∈ks/\d∈mv m.sts q.1 q.2)/\Wd s' w k m pl/\PF.jr k s s':=by
 rw[agn];unfold B_law_machine_led;walk_at "go";refine R.W_mono (j6 (Q:=λfl s'=>(fl=.rt .non/\Wd s' w k m pl/\PF.jr k s s')\/ ∃ρ,fl=.nx ρ/\MlJ s w k m pl ks [] ρ s') (MlJ s w k m pl ks) ?_ (λρ s' J=>.inr ⟨ρ,rfl,J⟩) _ _ _ ⟨[],ks,[],none,rfl,rfl,rfl,h,.refl _ _,(λd hd=>by cases hd),λd=>⟨λhd=>(by cases hd),λ⟨q,hd,_⟩=>(by cases hd)⟩,by decide⟩) ?_
 ·rintro d r ρ P ⟨done,je,acc,u,n,o,rfl,j,sm,v,mem,E⟩;cases je with
  |nil=>cases o
  | cons x je=>
   cases o;obtain⟨q,b,rfl⟩:=hk.sd x (by rw[n];simp);refine⟨[some (.ref w),some (.da (.tuple ks)),some (.lst acc),some (.da (sD q))],rfl,?_⟩;rw[a7u,R.W_bind];refine a2o hm j b λF a A z=>?_
   obtain⟨kvs,M,O,K,D⟩:=z;walk_at "go";rw[a.kn];walk_at "go";rw[zo O (K.same (afz hm b)) D];walk_at "go";obtain⟨L,I,N⟩:=ar7 hm.ok b.ok;rw[alb (by lia)];walk_at "go";have e:=sm.trans A;by_cases c:300 < acc.length+(mv m.sts q.1 q.2).length
   ·rw[decide_eq_true (show(300:Int) < ((acc.length+(mv m.sts q.1 q.2).length:Nat):Int) by lia)];walk_at "go";exact .inl ⟨rfl,a,e⟩
   ·rw[decide_eq_false (show¬(300:Int) < ((acc.length+(mv m.sts q.1 q.2).length:Nat):Int) by lia)];walk_at "go";refine⟨done++ [sD q],je,acc++mv m.sts q.1 q.2,_,by rw[n];simp,rfl,rfl,a,e,λd hd=>?_,λd=>?_,by rw[aH];lia⟩
    ·rcases aS.mp hd with y|y
     ·exact v d y
     ·exact a6b hm b d y
    ·rw[aS,mem];constructor
     ·rintro (⟨t,C,p⟩|h)
      ·exact⟨t,dh _ C,p⟩
      ·exact⟨q,by simp,h⟩
     ·rintro⟨t,C,p⟩;rcases aS.mp C with z|z
      ·exact .inl ⟨t,z,p⟩
      ·have:=ahs (aA.mp z);subst this;exact .inr p
 ·rintro fl P (⟨rfl,j,sm⟩|⟨ρ,rfl,J⟩)
  ·walk_at "go";exact⟨.inl (by first|rfl|trivial),j,sm⟩
  ·obtain⟨done,je,acc,u,n,o,rfl,j,sm,v,mem,E⟩:=J.ex;cases je with
   |cons x je=>cases o
   | nil=>
    rw[aK]at n;subst n;walk_at "go";refine R.W_mono (a8g hm v (by lia) ?_) ?_
    ·intro y;cases ks with
     |nil=>exact H rfl
     |cons x r=>
      obtain⟨q,b,rfl⟩:=hk.sd x au;obtain⟨d,hd⟩:=iC (ar7 hm.ok b.ok).2.2;have:=(mem d).mpr ⟨q,au,hd⟩;rw[y]at this;cases this
    ·rintro _ F ⟨r,rfl,wy,x2⟩;walk_at "go";exact⟨.inr ⟨r,acc,rfl,wy,mem⟩,j.ext x2,sm.trans (x2.same k)⟩
structure DuJ (s0:S) (w k:Nat) (m:Mc) (pl:List Int) (Z:List Mo) (r:List D) (ρ:En) (s:S):Prop where
 ex: ∃(done je:List Mo) (ks:List aa) (u v:Option D),Z=done++je/\r=(je.map moD).map D.da/\ρ=[some (.ref w),some (.da (roD Z)),some (.da (.tuple ks)),u,v]/\Wd s w k m pl/\PF.jr k s0 s/\Sts m pl ks/\ks≠ []/\(λe=>e∈ks)=run m done
def Due(m:Mc)(Z:List Mo)(d:D):Prop:=d=.non\/ ∃b,d=.bl b/\(b=true ↔ ∃e,run m Z e)
theorem ava{w k:Nat}{m:Mc}{Z:List Mo}(hm:Mx m pl)(h:Wd s w k m pl)(F: ∀mo∈Z,MoK mo):
  (zc [.ref w,.da (roD Z)] s).W λd s'=>Due m Z d/\Wd s' w k m pl/\PF.jr k s s':=by
 rw[ave];unfold B_law_due;walk_at "go";rw[h.first];walk_at "go";rw[show zg (.da (roD Z)) s=.ok ((Z.map moD).map D.da,none) s from rfl];walk_at "go";refine R.W_mono (j6 (Q:=λfl s'=>(∃d,fl=.rt d/\Due m Z d/\Wd s' w k m pl/\PF.jr k s s')\/ ∃ρ,fl=.nx ρ/\DuJ s w k m pl Z [] ρ s') (DuJ s w k m pl Z) ?_ (λρ s' J=>.inr ⟨ρ,rfl,J⟩) _ _ _ ⟨[],Z,[sD (m.p,m.h)],none,none,rfl,rfl,rfl,h,.refl _ _,⟨by simp,λe n=>⟨_,hm.first,aA.mp n⟩⟩,by simp,by funext e;exact propext aA⟩) ?_
 ·rintro d r ρ L ⟨done,je,ks,u,v,j,q,rfl,o,sm,st,y,z⟩;cases je with
  |nil=>cases q
  | cons mo je=>
   cases q;have a:=F mo (by rw[j];simp);refine⟨[some (.ref w),some (.da (roD Z)),some (.da (.tuple ks)),some (.da (moD mo)),v],rfl,?_⟩;walk_at "go";refine R.W_mono (a5j hm o st y) ?_;rintro d M ⟨rfl|⟨r,l,rfl,wy,mem⟩,c,b⟩
   ·walk_at "go";exact .inl ⟨_,rfl,.inl rfl,c,sm.trans b⟩
   ·obtain⟨kvs,C,E,H⟩:=wy.ex;have hn: ∀e,.tuple [moD mo,e]∈l ↔ run m (done++ [mo]) e:=λe=>by
     rw[mem,amx,←z];rfl
    walk_at "go";rw[show isN (.ref r)=false from rfl];walk_at "go";rw[aek C (adh E (ami a))];rcases H mo a with ⟨t,no⟩|⟨A,t,I,st2,K⟩
    ·rw[t,c7,gD];walk_at "go";refine .inl ⟨_,rfl,.inr ⟨false,rfl,?_⟩,c,sm.trans b⟩;rw[j,show done++mo::je=(done++ [mo])++je by simp];unfold run;rw[bw];have:=al3 (m:=m) je (run m (done++ [mo])) λe n=>no e ((hn e).mpr n)
     exact⟨λh=>(by cases h),λ⟨e,n⟩=>absurd n (this e)⟩
    ·rw[t,cY,eQ];walk_at "go";rw[zo C (adh E (ami a)) t];walk_at "go";refine⟨done++ [mo],je,A,_,_,by rw[j];simp,rfl,rfl,c,sm.trans b,st2,I,?_⟩;funext e;exact propext ((K e).trans (hn e))
 ·rintro fl L (⟨d,rfl,du,o,sm⟩|⟨ρ,rfl,J⟩)
  ·walk_at "go";exact⟨du,o,sm⟩
  ·obtain⟨done,je,ks,u,v,j,q,rfl,o,sm,st,y,z⟩:=J.ex;cases je with
   |cons x je=>cases q
   |nil=>
    rw[aK]at j;subst j;walk_at "go";refine⟨.inr ⟨true,rfl,λ_=>?_,λ_=>rfl⟩,o,sm⟩;rw[←z];exact iC (List.length_pos_iff.mpr y)
structure PmJ (s:S) (n c:Nat) (xs:List Str) (r acc:List D) (s':S):Prop where
 ex: ∃(l rs:List Str) (c':Nat),acc=l.map (λx=>D.str x)/\r=rs.map (λx=>D.str x)/\(l++rs).Sublist xs/\Fd s' n c'/\c'+rs.length <=c+xs.length/\jr n s s'
structure QmJ (s:S) (n c:Nat) (l:List Str) (r acc:List D) (s':S):Prop where
 ex: ∃(mo:Mo) (rs:List Str) (c':Nat),acc=mo.map (λp=>D.da (pr p))/\r=rs.map (λx=>D.str x)/\l=mo.map (·.1)++rs/\(∀p∈mo,0 <=p.2/\p.2 < 3)/\Fd s' n c'/\c'+rs.length <=c+l.length/\jr n s s'
theorem af6{m:Mc}(hm:Mx m pl)(h:Fd s n c)(E:c+20 < 2^40):(qx [.ref n,.da m.d] s).W λd s'=>∃mo,d=.da (moD mo)/\MoK mo/\Fd s' n (c+10)/\jr n s s':=by
 obtain⟨xs,w,A,t,v⟩:=hm.ps;rw[aml];unfold B_law_moment;walk_at "go";rw[show gIx (.da m.d) (.int 1) s=.ok (.tup m.ps) s from it1,w];walk_at "go";rw[show(xs.map aC).map D.da=xs.map λx=>D.str x by rw[aY];rfl];rw[zl (ρ0:=[none,some (.ref n)]) (by simp;lia) rfl,R.W_bindk];refine R.W_mono (y4 (Q:=λds s'=>∃l:List Str,ds=l.map (λx=>D.str x)/\l.Sublist xs/\Fd s' n (c+5)/\jr n s s') (PmJ s n c xs) ?_ ?_ _ [] s ⟨[],xs,c,rfl,rfl,List.Sublist.refl _,h,aj _,.refl _ _⟩) ?_
 ·rintro d r acc s' ⟨l,rs,c',rfl,hr,hs,fd,hcc,sm⟩;cases rs with
  |nil=>cases hr
  | cons y rs=>
   rw[aw,bc]at hr;obtain⟨rfl,rfl⟩:=hr;simp only[aE]at hcc;refine⟨[some (.str y),some (.ref n)],rfl,?_⟩;walk_at "go";refine R.W_mono (kq fd (by decide) (by decide) (by lia)) λd k q=>?_
   obtain⟨i,e,o,u,a,b⟩:=q;rw[e];clear e;walk_at "go";rw[eq0];by_cases e:i=0
   ·rw[decide_eq_true e];walk_at "go";exact⟨l++ [y],rs,c'+1,by simp,rfl,by simpa using hs,a,by lia,sm.trans b⟩
   ·rw[decide_eq_false e];walk_at "go";exact⟨l,rs,c'+1,rfl,rfl,(kL (lC _ _) _).trans hs,a,by lia,sm.trans b⟩
 ·rintro acc s' ⟨l,rs,c',rfl,hr,hs,fd,hcc,sm⟩;exact⟨l,rfl,(List.sublist_append_left _ _).trans hs,fd.le (by lia),sm⟩
 ·rintro ds k ⟨l,e,hs,a,b⟩;rw[dU]at e;subst e;have ll:=hs.length_le;walk_at "go";rw[show l.map (λx=>D.str x)=(l.map aC).map D.da by rw[aY];rfl];walk_at "go";rw[zl (ρ0:=[none,some (.ref n),some (.da m.d)]) (by simp;lia) rfl,R.W_bindk];rw[show(l.map aC).map D.da=l.map λx=>D.str x by rw[aY];rfl];refine R.W_mono (y4 (Q:=λds s'=>∃mo:Mo,ds=mo.map (λp=>D.da (pr p))/\mo.map (·.1)=l/\(∀p∈mo,0 <=p.2/\p.2 < 3)/\Fd s' n (c+10)/\jr n s s') (QmJ s n (c+5) l) ?_ ?_ _ [] k ⟨[],l,c+5,rfl,rfl,rfl,(λ_ h=>by cases h),a,aj _,b⟩) ?_
  ·rintro d r acc s' ⟨mo,rs,c',rfl,hr,hl,hp,fd,hcc,sm⟩;cases rs with
   |nil=>cases hr
   |cons y rs=>
    rw[aw,bc]at hr;obtain⟨rfl,rfl⟩:=hr;simp only[aE]at hcc;refine⟨[some (.str y),some (.ref n),some (.da m.d)],rfl,?_⟩;have hn:=hm.ok.n;walk_at "go";rw[show gIx (.da m.d) (.int 0) s'=.ok (.int m.n) s' from it0];walk_at "go";refine R.W_mono (kq fd (by lia) (by lia) (by lia)) λd k q=>?_
    obtain⟨i,e,o,u,a,b⟩:=q;rw[e];clear e;walk_at "go";refine⟨mo++ [(y,i)],rs,c'+1,by simp;rfl,rfl,by rw[hl];simp,λp j=>?_,a,by lia,sm.trans b⟩;rcases aS.mp j with z|z
    ·exact hp p z
    ·rw[aA.mp z];exact⟨o,by show i < 3;lia⟩
  ·rintro acc s' ⟨mo,rs,c',rfl,hr,hl,hp,fd,hcc,sm⟩;cases rs with
   |cons y rs=>cases hr
   |nil=>
    rw[aK]at hl;exact⟨mo,rfl,hl.symm,hp,fd.le (by lia),sm⟩
  ·rintro ds C ⟨mo,e,hl,hp,fd2,sm2⟩;rw[dU]at e;subst e;rw[show mo.map (λp=>D.da (pr p))=(mo.map pr).map D.da by rw[aY];rfl];walk_at "go";refine⟨mo,rfl,⟨by rw[hl];exact t.sublist hs,λp j=>⟨v _ (hs.subset (by rw[←hl];exact bY j)),hp p j⟩,?_⟩,fd2,sm2⟩;have:=congrArg dJ hl;rw[ao]at this;lia
structure RowK (N:Nat) (xs:List aa):Prop where
 mo: ∀x∈xs,∃mo,MoK mo/\x=moD mo
 len:xs.length <=N
theorem RowK.nil:RowK 0 []:=⟨λ_ h=>(by cases h),aj _⟩
theorem RowK.one{mo:Mo}(h:MoK mo):RowK 1 [moD mo]:=⟨λx hx=>⟨mo,h,aA.mp hx⟩,aj _⟩
theorem RowK.app{a:Nat}(h:RowK a xs)(k:RowK b ys):RowK (a+b) (xs++ys):=
 ⟨λx hx=>(aS.mp hx).elim (h.mo x) (k.mo x),by rw[aH];exact Nat.add_le_add h.len k.len⟩
theorem RowK.le{a:Nat}(h:RowK a xs)(k:a <=b):RowK b xs:=⟨h.mo,aN h.len k⟩
theorem RowK.cut{a:Nat}(h:RowK a xs)(lo b:Option Int):RowK a (qh xs lo b):=
 ⟨λx hx=>h.mo x (List.mem_of_mem_drop (List.mem_of_mem_take hx)),by unfold qh;rw[cU,gX];have:=h.len;lia⟩
theorem RowK.rev{a:Nat}(h:RowK a xs):RowK a xs.reverse:=⟨λx hx=>h.mo x (List.mem_reverse.mp hx),by rw[mw];exact h.len⟩
theorem RowK.row{a:Nat}: ∀{xs:List aa},RowK a xs->∃Z:List Mo,xs=Z.map moD/\(∀mo∈Z,MoK mo)/\Z.length=xs.length
 |[],_=>⟨[],rfl,(λ_ h=>by cases h),rfl⟩
 |x::r,h=>by
  obtain⟨mo,c,rfl⟩:=h.mo x au;obtain⟨Z,rfl,hz,e⟩:=RowK.row (a:=a) (xs:=r) ⟨λy b=>h.mo y (aq _ b),by have:=h.len;simp only[aE]at this;lia⟩;refine⟨mo::Z,rfl,λy b=>?_,by simp⟩;rcases aL.mp b with z|z
  ·rw[z];exact c
  ·exact hz y z
structure WkJ (s:S) (n c:Nat) (m:Mc) (pl:List Int) (d:D) (T:Nat) (r:List D) (ρ:En) (s':S):Prop where
 ex: ∃(q:Sq) (xs:List aa) (c':Nat) (u5 u6 u7 u8:Option D),ρ=[some (.ref n),some (.da m.d),some d,some (.da (sD q)),some (.tup xs),u5,u6,u7,u8]/\Sd m pl q/\RowK (T - r.length) xs/\r.length <=T/\Fd s' n c'/\c'+2*r.length <=c+2*T/\jr n s s'
theorem a23{T:Nat}{m:Mc}(hm:Mx m pl)(h:Fd s n c)(hT:T <=12)(hc:c+100 < 2^40):DW (xw [.ref n,.da m.d,.int (T:Int)] s) λd s'=>∃xs,d=.tup xs/\RowK 12 xs/\Fd s' n (c+24)/\jr n s s':=by
 refine⟨?_⟩;rw[ann];unfold B_law_walked;walk_at "go";rw[show gIx (.da m.d) (.int 3) s=.ok (.da (sD (m.p,m.h))) s from it3];walk_at "go";rw[ze (by lia) (by lia),show((T:Int)).toNat=T from bt _];walk_at "go";refine R.W_mono (j6 (Q:=λfl s'=>∃ρ,fl=.nx ρ/\WkJ s n c m pl (.int T) T [] ρ s') (WkJ s n c m pl (.int T) T) ?_ (λρ s' J=>⟨ρ,rfl,J⟩) _ _ _ ⟨(m.p,m.h),[],c,none,none,none,none,rfl,hm.first,by rw[qa,Nat.sub_self];exact RowK.nil,by rw[qa];lia,h,by rw[qa];lia,.refl _ _⟩) ?_
 ·rintro d r ρ Z ⟨q,xs,c',u5,u6,u7,u8,rfl,hq,hx,hr,fd,hcc,sm⟩;simp only[aE]at hx hr hcc;refine⟨[some (.ref n),some (.da m.d),some (.int T),some (.da (sD q)),some (.tup xs),some d,u6,u7,u8],rfl,?_⟩;walk_at "go";refine R.W_mono (afc (m:=m) (p:=q.1) (h:=q.2) (λst v=>by rw[hq.ok.l];exact hm.ok.st st v) hm.ok.n10 hq.ok.p (by rw[hq.ok.l];exact hm.ok.b) hq.ok.o) ?_;rintro _ s2 ⟨rfl,a⟩;obtain⟨_,A,H⟩:=ar7 hm.ok hq.ok;have mk:=λk hk=>ato hm hq (k:=k) hk
  generalize mv m.sts q.1 q.2=L at A H mk⊢;walk_at "go";refine R.W_mono (kq (fd.ext a) (by decide) (by decide) (by lia)) λd N z=>?_
  obtain⟨i,e,i0,i1,u,w⟩:=z;rw[e];clear e;walk_at "go";rw[show∀b,arc [.bl b] N=.ok (.int (if b=true then 1 else 0)) N from λ_=>rfl];walk_at "go";rw[y8 (.inr (by split <;> decide))];walk_at "go";obtain⟨j,V,hj⟩: ∃j:Nat,(if 1 < (L.length:Int) - 1 then (1:Int) else (L.length:Int) - 1)*(if decide (0 < i)=true then 1 else 0)=(j:Int)/\j+1 <=L.length:=by
   by_cases z:decide (0 < i)=true
   ·rw[if_pos z,Int.mul_one];by_cases y:1 < (L.length:Int) - 1
    ·rw[if_pos y];exact⟨1,rfl,by lia⟩
    ·rw[if_neg y];exact⟨L.length - 1,by lia,by lia⟩
   ·rw[if_neg z,Int.mul_zero];exact⟨0,rfl,by lia⟩
  rw[V];refine R.W_mono (kq u (by lia) (by lia) (by lia)) λd s4 z=>?_
  obtain⟨k,e,k0,k1,E,F⟩:=z;rw[e];clear e;obtain⟨k,rfl⟩: ∃y:Nat,k=(y:Int):=⟨k.toNat,by lia⟩;walk_at "go";have hk:j+k < L.length:=by lia
  obtain⟨mo,t,x,C,W⟩:=mk _ (ci hk);rw[show(j:Int)+(k:Int)=((j+k:Nat):Int) from rfl,aag (k:=j+k) (p:=.tuple [moD mo,sD t]) (by rw[av hk,W])];walk_at "go";rw[show∀(K S a Y M I P O U:Option D) s,al5 (.t2 (.nm 8) (.nm 3)) [K,S,a,Y,M,I,P,O,U] (.da (.tuple [moD mo,sD t])) s=.ok (.nx [K,S,a,some (.da (sD t)),M,I,P,O,some (.da (moD mo))]) s from λ_ _ _ _ _ _ _ _ _ _=>rfl];walk_at "go";rw[show(D.tup [moD mo])=.tup [moD mo] from rfl,qo (by have:=hx.len;simp;lia)];walk_at "go";exact⟨t,xs++ [moD mo],c'+2,_,_,_,_,rfl,C,(hx.app (RowK.one x)).le (by lia),by lia,E,by lia,((sm.trans (a.same n)).trans w).trans F⟩
 ·rintro _ Z ⟨ρ,rfl,q,xs,c',u5,u6,u7,u8,rfl,hq,hx,hr,fd,hcc,sm⟩;walk_at "go";exact⟨xs,rfl,hx.le (by simp;lia),fd.le (by simp at hcc;lia),sm⟩
theorem a8n{α:Type}(x:α)(l:List α):qh (x::l) none (some 1)=[x]:=by
 unfold qh;rw[show(1:Int)=((1:Nat):Int) from rfl,HT.sIx_nat,HT.sIx_none];simp
theorem a0u{α:Type}(xs:List α)(lo a:Option Int):(qh xs lo a).length <=xs.length:=by unfold qh;rw[cU,gX];lia
theorem a76(mo:Mo)(h:MoK mo)(s:S):gNe (.da (moD mo)) (.tup []) s=.ok (.bl (!decide (mo=[]))) s:=by
 rw[show(D.tup [])=.da (.tuple []) from rfl,anp ((adw h).okD (by decide)) rfl];unfold moD;rw[ahb];cases mo <;> rfl
theorem atg{m:Mc}(hm:Mx m pl)(h:Fd s n c)(hx:RowK 12 xs)(Z:c+100 < 2^40):(yb [.ref n,.da m.d,.tup xs] s).W λd s'=>∃ys,d=.tup ys/\RowK 40 ys/\Fd s' n (c+12)/\jr n s s':=by
 have U:=hx.len;have cl:=λlo L=>a0u xs lo L
 rw[al2];unfold B_law_spoilt;walk_at "go";refine R.W_mono (kq h (by lia) (by lia) (by lia)) λd Y z=>?_
 obtain⟨at_,e,P,V,C,E⟩:=z;rw[e];clear e;walk_at "go";refine R.W_mono (kq C (by decide) (by decide) (by lia)) λd o z=>?_
 obtain⟨w,e,Q,O,u,A⟩:=z;rw[e];clear e;have fd:=u.le (c':=c+12) (by lia);have sm:=E.trans A;walk_at "go";rw[eq0];by_cases K:w=0
 ·rw[decide_eq_true K];walk_at "go";rw[qo (by have:=cl none (some at_);have:=cl (some (at_+1)) none;lia)];walk_at "go";exact⟨_,rfl,((hx.cut _ _).app (hx.cut _ _)).le (b:=40) (by decide),fd,sm⟩
 rw[decide_eq_false K];walk_at "go";rw[eq0];by_cases c1:w=1
 ·rw[decide_eq_true c1];walk_at "go";refine R.W_mono (af6 hm u (by lia)) ?_;rintro _ x ⟨mo,rfl,k,fd3,sm3⟩;walk_at "go";have l:=(hx.cut none (some at_)).app (RowK.one k);rw[show(D.tup [moD mo])=.tup [moD mo] from rfl,qo (by have:=l.len;rw[aH]at this;lia)];walk_at "go";rw[qo (by have:=l.len;have:=cl (some at_) none;lia)];walk_at "go";exact⟨_,rfl,(by have:=(l.app (hx.cut (some at_) none)).le (b:=40) (by decide);rwa [bN]at this),fd3.le (by lia),sm.trans sm3⟩
 rw[decide_eq_false c1];walk_at "go";rw[eq0];by_cases c2:w=2
 ·rw[decide_eq_true c2];walk_at "go";have l:=(hx.cut none (some at_)).app (hx.cut (some at_) (some (at_+1)));rw[qo (by have:=l.len;rw[aH]at this;lia)];walk_at "go";rw[qo (by have:=l.len;have:=cl (some at_) none;lia)];walk_at "go";exact⟨_,rfl,(by have:=(l.app (hx.cut (some at_) none)).le (b:=40) (by decide);rwa [bN]at this),fd,sm⟩
 rw[decide_eq_false c2];walk_at "go";rw[eq0];by_cases J:w=3
 ·rw[decide_eq_true J];walk_at "go";have l:=(hx.cut none (some at_)).app (hx.cut (some at_) (some (at_+2))).rev;rw[qo (by have:=l.len;rw[aH]at this;lia)];walk_at "go";rw[qo (by have:=l.len;have:=cl (some (at_+2)) none;lia)];walk_at "go";exact⟨_,rfl,(by have:=(l.app (hx.cut (some (at_+2)) none)).le (b:=40) (by decide);rwa [bN]at this),fd,sm⟩
 rw[decide_eq_false J];walk_at "go";rw[eq0];have t: ∀(x:S),x=o->((ka (fOp (jt false) (fOp (jt false) (fSl false (ja 2) fNo (kj (ja 3))) (jq (jb (jf 2 qx (jb (ja 0) (jb (ja 1) jc))) jc))) (fSl false (ja 2) (kj (fOp (jt false) (ja 3) (fC (.da (.int 1))))) fNo))) [some (.ref n),some (.da m.d),some (.tup xs),some (.int at_),some (.int w),none] x).W λfl s'=>∃ys,fl=.rt (.tup ys)/\RowK 40 ys/\Fd s' n (c+12)/\jr n s s':=by
  rintro _ rfl;walk_at "go";refine R.W_mono (af6 hm u (by lia)) ?_;rintro _ x ⟨mo,rfl,k,fd3,sm3⟩;walk_at "go";have l:=(hx.cut none (some at_)).app (RowK.one k);rw[show(D.tup [moD mo])=.tup [moD mo] from rfl,qo (by have:=l.len;rw[aH]at this;lia)];walk_at "go";rw[qo (by have:=l.len;have:=cl (some (at_+1)) none;lia)];walk_at "go";exact⟨_,rfl,(by have:=(l.app (hx.cut (some (at_+1)) none)).le (b:=40) (by decide);rwa [bN]at this),fd3.le (by lia),sm.trans sm3⟩
 generalize (ka (fOp (jt false) (fOp (jt false) (fSl false (ja 2) fNo (kj (ja 3))) (jq (jb (jf 2 qx (jb (ja 0) (jb (ja 1) jc))) jc))) (fSl false (ja 2) (kj (fOp (jt false) (ja 3) (fC (.da (.int 1))))) fNo)))=LT at t⊢;have fin:(LT [some (.ref n),some (.da m.d),some (.tup xs),some (.int at_),some (.int w),none] o).W (R.Wk qk λd s'=>∃ys,d=.tup ys/\RowK 40 ys/\Fd s' n (c+12)/\jr n s s'):=by
  refine R.W_mono (t o rfl) ?_;rintro _ x ⟨ys,rfl,h⟩;exact⟨ys,rfl,h⟩
 by_cases F:w=4
 ·rw[decide_eq_true F];walk_at "go";by_cases I:at_ < (xs.length:Int)
  ·rw[decide_eq_true I];walk_at "go";obtain⟨j,rfl⟩: ∃j:Nat,at_=(j:Int):=⟨at_.toNat,by lia⟩;have H:j < xs.length:=by lia
   obtain⟨mo,k,N⟩:=hx.mo _ (ci H);have v: ∀o:S,gIx (.tup xs) (.int (j:Int)) o=.ok (.da (moD mo)) o:=λo=>zi (by rw[av H,N])
   rw[v];walk_at "go";rw[a76 mo k];cases mo with
   |nil=>
    rw[decide_eq_true rfl,eQ];walk_at "go";exact fin
   | cons p r=>
    rw[decide_eq_false (by simp),gD];walk_at "go";have q: ∀o:S,gIx (.tup xs) (.int (j:Int)) o=.ok (.tup (pr p::r.map pr)) o:=v;have hn:=hm.ok.n;rw[q];walk_at "go";rw[a8n];rw[zl (ρ0:=[none,none,some (.da m.d)]) (by simp) rfl];rw[show [pr p].map D.da=[p].map λa=>D.da (pr a) from rfl]
    rw[zq (λa:Str×Int=>D.da (pr a)) (λ_=>true) (λa=>pr (a.1,(a.2+1) % m.n)) [p] λa _=>⟨[some (.str a.1),some (.int a.2),some (.da m.d)],rfl,rfl,λ_=>by
     walk_at "ev";rw[show gIx (.da m.d) (.int 0) o=.ok (.int m.n) o from it0];walk_at "ev";rw[xh hn.1]
     rfl⟩]
    walk_at "go";rw[q];walk_at "go";rw[a6k];have y:MoK ((p.1,(p.2+1) % m.n)::r):=by
     refine⟨k.up,λa M=>?_,k.len⟩;rcases aL.mp M with z|z
     ·rw[z];have:=iy (p.2+1) (show m.n≠0 by lia);have:=gv (p.2+1) hn.1;exact⟨(k.ok p au).1,by assumption,by show(p.2+1) % m.n < 3;lia⟩
     ·exact k.ok a (aq _ z)
    rw[show([p].filter λ_=>true).map (λa:Str×Int=>pr (a.1,(a.2+1) % m.n))=[pr (p.1,(p.2+1) % m.n)] from rfl];rw[qo (by have:=k.len;simp at this⊢;lia)];rw[show [pr (p.1,(p.2+1) % m.n)]++r.map pr=((p.1,(p.2+1) % m.n)::r).map pr from rfl];walk_at "go";have l:=(hx.cut none (some (j:Int))).app (RowK.one y);rw[show(D.tup [.tuple (((p.1,(p.2+1) % m.n)::r).map pr)])=.tup [moD ((p.1,(p.2+1) % m.n)::r)] from rfl,qo (by have:=l.len;rw[aH]at this;lia)];walk_at "go";rw[qo (by have:=l.len;have:=cl (some ((j:Int)+1)) none;lia)];walk_at "go";exact⟨_,rfl,(by have:=(l.app (hx.cut (some ((j:Int)+1)) none)).le (b:=40) (by decide);rwa [bN]at this),fd,sm⟩
  ·rw[decide_eq_false I];walk_at "go";exact fin
 ·rw[decide_eq_false F];walk_at "go";exact fin
def ckT(i j:Nat):FT:=(zm (ji (fOp acw (ja i) (fC (.da (.none))))) (ji (fOp gNe (fCB xc (jb (jf 2 vx (jb (ja j) (jb (ja 11) jc))) jc)) (fCB xc (jb (ja i) jc)))))
theorem avp{b:Bool}:xc [.bl b] s=.ok (.str (PyData.bool b).shown) s:=aok (by cases b <;> decide+kernel)
theorem arr{d:D}{m:Mc}{Z:List Mo}(hm:Mx m pl)(e:Z.length <=40)(c: ∀mo∈Z,MoK mo)(hd:Due m Z d)(a: ∀s,ja i ρ s=.ok d s)(h: ∀s,ja j ρ s=.ok (.da m.d) s)(n: ∀s,ja 11 ρ s=.ok (.da (roD Z)) s):
  (ckT i j ρ s).W λb s'=>b=false/\Ext s s':=by
 unfold ckT;rcases hd with rfl|⟨b,rfl,k⟩
 ·rw[aup,asq,aye,a];walk_at "go";exact⟨rfl,.refl _⟩
 ·rw[aup,asq,aye,a];walk_at "go";rw[show(!isN (D.bl b))=true from rfl];walk_at "go";rw[h];walk_at "go";rw[n];walk_at "go";refine R.W_mono (a5i hm e c) ?_;rintro _ o ⟨⟨b2,rfl,hb2⟩,x2⟩;have l:b2=b:=by rw[bD,k,hb2]
  subst l;walk_at "go";rw[avp];walk_at "go";rw[a];walk_at "go";rw[avp];walk_at "go";rw[azi,decide_eq_true rfl];walk_at "go";exact⟨trivial,x2⟩
theorem a2f{Z:List Mo}(c:Z.length <=40)(a: ∀mo∈Z,MoK mo):Nice 8320 3 (roD Z):=by
 have b:=vq (B:=207) (D:=2) (Z.map moD) λd hd=>by
  obtain⟨mo,h,rfl⟩:=aO.mp hd;exact adw (a mo h)
 rw[ao]at b;exact(b.mono (B':=8320) (by lia) (aj _)).tup
noncomputable def ya(m:Mc):Mc:={m with sts:=m.sts.dropLast}
theorem atb{m:Mc}(h:Mx m pl):Mx (ya m) pl:=by
 have sub: ∀st∈m.sts.dropLast,st∈m.sts:=λst hs=>List.dropLast_subset _ hs
 have o:=h.ok;exact⟨⟨o.n,o.ps,o.b,o.p,o.h,o.ho,λst hs=>o.st st (sub st hs),by show m.sts.dropLast.length <=10;rw[List.length_dropLast];have:=o.n10;lia⟩,h.b2,h.few,h.p,λst hs=>h.st st (sub st hs),h.ps⟩
theorem a3o{α:Type}(l:List α):qh l none (some (-1))=l.dropLast:=by
 rcases List.eq_nil_or_concat l with rfl|⟨r,z,rfl⟩
 ·unfold qh;rw[HT.sIx_none];simp
 ·rw[List.concat_eq_append];unfold qh;rw[HT.sIx_none,iI];have:HT.sIx (r++ [z]).length (r++ [z]).length (some (-1)) - 0=r.length:=by
   show(if (-1:Int) < 0 then ((-1:Int)+((r++ [z]).length:Int)).toNat else min (-1:Int).toNat (r++ [z]).length) - 0=r.length;rw[if_pos (by decide)];simp;lia
  rw[this,List.take_left,List.dropLast_concat]
theorem a8h{m:Mc}:[aG m.n,.tuple m.ps,.int m.b,stD m.p m.h]++ [.tuple (qh (m.sts.map Stp.d) none (some (-1)))]=[aG (ya m).n,.tuple (ya m).ps,.int (ya m).b,stD (ya m).p (ya m).h,.tuple ((ya m).sts.map Stp.d)]:=by
 rw[ahi,a3o];rfl
def aw7:FS:=(jd (jk 12 (jf 2 zc (jb (ja 5) (jb (ja 11) jc))))
  (jd (jk 13 (fCB xc (jb (ja 11) jc)))
  (jd (jv (ag7 (ckT 12 4) (ji (fOp gNe (fCB xc (jb (ja 11) jc)) (ja 13)))) (ka (fC (.da (.bool false)))) jn)
  (jd (jk 14 (jf 2 zc (jb (ja 7) (jb (ja 11) jc))))
  (jd (jv (ckT 14 6) (ka (fC (.da (.bool false)))) jn)
  (jv (ckT 12 4) (ka (fC (.da (.bool false)))) jn))))))
structure Two (s:S) (n c w k w2 k2 rl:Nat) (m:Mc) (pl:List Int) (rows:List aa):Prop where
 wa:Wd s w k m pl
 wb:Wd s w2 k2 (ya m) pl
 fd:Fd s n c
 lr:s[rl]?=some (.lst (rows.map D.da))
 ne:w≠k2/\k≠k2/\w2≠k/\n≠k/\n≠k2/\rl≠k/\rl≠k2
theorem Fd.same{k:Nat}(h:Fd s n c)(x:PF.jr k s s')(hk:n≠k):Fd s' n c:=by
 obtain⟨xs,i,j,e,r⟩:=h.ex;exact⟨xs,i,j,by rw[x.get n hk (am.mp e).1];exact e,r⟩
theorem Two.ext{w k d e b:Nat}{m:Mc}{a:List aa}(h:Two s n c w k d e b m pl a)(x:Ext s s'):Two s' n c w k d e b m pl a:=⟨h.wa.ext x,h.wb.ext x,h.fd.ext x,x.get h.lr,h.ne⟩
structure RowJ (n c w k w2 k2 rl:Nat) (m:Mc) (pl:List Int) (rows:List aa) (u0 u2 u3 u8 u10:Option D) (r:List D) (ρ:En) (s:S):Prop where
 ex: ∃(je:List aa) (u11 u12 u13 u14:Option D),r=je.map D.da/\(∀x∈je,∃xs,x=.tuple xs/\RowK 40 xs)/\ρ=[u0,some (.ref n),u2,u3,some (.da m.d),some (.ref w),some (.da (ya m).d),some (.ref w2),u8,some (.ref rl),u10,u11,u12,u13,u14]/\Two s n c w k w2 k2 rl m pl rows
theorem awi{w k p u e:Nat}{m:Mc}{a:List aa}{E A C H h:Option D}{d:D}{r:List D}(hm:Mx m pl)(J:RowJ n c w k p u e m pl a E A C H h (d::r) ρ s):
  ∃ρ1,qg (.nm 11) d ρ=some ρ1/\(aw7 ρ1 s).W λfl s'=>∃l,fl=.nx l/\RowJ n c w k p u e m pl a E A C H h r l s':=by
 obtain⟨je,V,z,y,v,L,hr,rfl,t⟩:=J.ex;cases je with
 |nil=>cases L
 |cons x je=>
  cases L;obtain⟨xs,rfl,hx⟩:=hr x au;obtain⟨Z,rfl,b,M⟩:=hx.row;have q:Z.length <=40:=by have:=hx.len;rw[ao]at this;exact this
  have j:=atb hm;have I: ∀s:S,xc [.da (roD Z)] s=.ok (.str (roD Z).shown) s:=λs=>aok ((a2f q b).okS (by decide) (by decide))
  obtain⟨n1,n2,n3,Q,U,O,n7⟩:=t.ne;refine⟨[E,some (.ref n),A,C,some (.da m.d),some (.ref w),some (.da (ya m).d),some (.ref p),H,some (.ref e),h,some (.da (roD Z)),z,y,v],rfl,?_⟩;unfold aw7;walk_at "go";refine R.W_mono (ava hm t.wa b) ?_;rintro d1 s1 ⟨K,hw,sm⟩;have N:Two s1 n c w k p u e m pl a:=⟨hw,t.wb.same sm n3 (bu n2),t.fd.same sm Q,by rw[sm.get e O (am.mp t.lr).1];exact t.lr,t.ne⟩;walk_at "go";rw[I];walk_at "go";refine R.W_mono (arr hm q b K (λ_=>rfl) (λ_=>rfl) (λ_=>rfl)) ?_;rintro _ s2 ⟨rfl,x2⟩;have o:=N.ext x2;walk_at "go";rw[I];walk_at "go";rw[azi,decide_eq_true rfl];walk_at "go";refine R.W_mono (ava j o.wb b) ?_;rintro d2 Y ⟨F,hw2,sm2⟩;have P:Two Y n c w k p u e m pl a:=⟨o.wa.same sm2 n1 n2,hw2,o.fd.same sm2 U,by rw[sm2.get e n7 (am.mp o.lr).1];exact o.lr,t.ne⟩;walk_at "go";refine R.W_mono (arr j q b F (λ_=>rfl) (λ_=>rfl) (λ_=>rfl)) ?_;rintro _ s4 ⟨rfl,x4⟩;walk_at "go";refine R.W_mono (arr hm q b K (λ_=>rfl) (λ_=>rfl) (λ_=>rfl)) ?_;rintro _ s5 ⟨rfl,x5⟩;walk_at "go";exact⟨_,rfl,je,_,_,_,_,rfl,λx hx=>hr x (aq _ hx),rfl,(P.ext x4).ext x5⟩
def axl:FS:=(jd (jk 3 (fOp (jt false) (fC (.da (.int 1))) (jf 2 jg (jb (ja 1) (jb (fC (.da (.int 3))) jc)))))
  (jd (jk 4 (jf 4 v8 (jb (ja 1) (jb (ja 3) (jb (jf 2 yt (jb (ja 1) (jb (jf 2 jg (jb (ja 1) (jb (fC (.da (.int 5))) jc))) jc))) (jb (fC (.da (.int 6))) jc))))))
  (jd (jk 5 (jf 1 j8 (jb (ja 4) jc)))
  (jd (jk 6 (fOp (jt false) (fSl false (ja 4) fNo (kj (fC (.da (.int 4))))) (jq (jb (fSl false (fOp gIx (ja 4) (fC (.da (.int 4)))) fNo (kj (anr (fC (.da (.int 1)))))) jc))))
  (jd (jk 7 (jf 1 j8 (jb (ja 6) jc)))
  (jd (jk 8 (jf 3 xw (jb (ja 1) (jb (ja 4) (jb (fOp (jt false) (fC (.da (.int 6))) (jf 2 jg (jb (ja 1) (jb (fC (.da (.int 7))) jc)))) jc)))))
  (jd (jk 9 (kz true (jb (jq jc) (jb (ja 8) (jb (fSl false (ja 8) fNo (kj (fC (.da (.int 1))))) (jb (fCB k8 (jb (fLc false [1,4] 1 (aa8 (jb (fOp (jt false) (fC (.da (.int 1))) (jf 2 jg (jb (ja 1) (jb (fC (.da (.int 3))) jc)))) jc)) (.nm 0) vw (jf 2 qx (jb (ja 1) (jb (ja 2) jc)))) jc)) jc))))))
  (jd (ko (aa8 (jb (fC (.da (.int 3))) jc)) (.nm 10) (qq (fMt kc (ja 9) (jb (jf 3 yb (jb (ja 1) (jb (ja 4) (jb (ja 8) jc)))) jc))))
  (ko (fIt (ja 9)) (.nm 11) aw7)))))))))
structure OutJ (n c:Nat) (u0:Option D) (r:List D) (ρ:En) (s:S):Prop where
 ex: ∃(c':Nat) (u2 u3 u4 u5 u6 u7 u8 u9 u10 u11 u12 u13 u14:Option D),ρ=[u0,some (.ref n),u2,u3,u4,u5,u6,u7,u8,u9,u10,u11,u12,u13,u14]/\Fd s n c'/\c'+2000*r.length <=c
structure MmJ (s:S) (n c:Nat) (r acc:List D) (s':S):Prop where
 ex: ∃(zs:List aa) (c':Nat),acc=zs.map D.da/\RowK (3 - r.length) zs/\r.length <=3/\Fd s' n c'/\c'+10*r.length <=c+30/\jr n s s'
structure SpJ (n c w k w2 k2 rl:Nat) (m:Mc) (pl:List Int) (u0 u2 u3:Option D) (xs:List aa) (r:List D) (ρ:En) (s:S):Prop where
 ex: ∃(rows:List aa) (c':Nat) (u10 u11 u12 u13 u14:Option D),ρ=[u0,some (.ref n),u2,u3,some (.da m.d),some (.ref w),some (.da (ya m).d),some (.ref w2),some (.tup xs),some (.ref rl),u10,u11,u12,u13,u14]/\(∀x∈rows,∃xs,x=.tuple xs/\RowK 40 xs)/\rows.length+r.length <=7/\Two s n c' w k w2 k2 rl m pl rows/\n≠w/\n≠w2/\n≠rl/\rl≠w/\rl≠w2/\c'+12*r.length <=c
theorem azy{w k A M e:Nat}{m:Mc}{y u v:Option D}{d:D}{r:List D}(hm:Mx m pl)(hx:RowK 12 xs)(V:c <=100000)(J:SpJ n c w k A M e m pl y u v xs (d::r) ρ s):
  ∃ρ1,qg (.nm 10) d ρ=some ρ1/\((qq (fMt kc (ja 9) (jb (jf 3 yb (jb (ja 1) (jb (ja 4) (jb (ja 8) jc)))) jc))) ρ1 s).W λfl s'=>∃h,fl=.nx h/\SpJ n c w k A M e m pl y u v xs r h s':=by
 obtain⟨a,c',P,C,q,o,j,rfl,hr,S,t,L,I,E,H,K,l⟩:=J.ex;simp only[aE]at S l;obtain⟨n1,n2,n3,O,Q,N,U⟩:=t.ne;refine⟨[y,some (.ref n),u,v,some (.da m.d),some (.ref w),some (.da (ya m).d),some (.ref A),some (.tup xs),some (.ref e),some d,C,q,o,j],rfl,?_⟩;walk_at "go";rw[ac1 t.lr];walk_at "go";refine R.W_mono (atg hm t.fd hx (by lia)) ?_;rintro _ F ⟨p,rfl,hy,fd1,sm⟩;have g:F[e]?=some (.lst (a.map D.da)):=by rw[sm.get e (bu E) (am.mp t.lr).1];exact t.lr
 walk_at "go";rw[yc g (by rw[ao];lia)];walk_at "go";have b:PF.jr e F (F.set e (.lst (a.map D.da++ [.tup p]))):=aac;refine⟨_,rfl,a++ [.tuple p],c'+12,_,_,_,_,_,rfl,λx hx=>?_,by simp;lia,⟨(t.wa.same sm (bu L) (bu O)).same b (bu H) (bu N),(t.wb.same sm (bu I) (bu Q)).same b (bu K) (bu U),fd1.same b E,?_,t.ne⟩,L,I,E,H,K,by lia⟩
 ·rcases aS.mp hx with z|z
  ·exact hr x z
  ·exact⟨p,aA.mp z,hy⟩
 ·rw[aR (am.mp g).1];simp
theorem atx{m:Mc}:gSl false (.da m.d) none (some 4) s=.ok (.tup [aG m.n,.tuple m.ps,.int m.b,stD m.p m.h]) s:=by
 show gSl false (.tup [aG m.n,.tuple m.ps,.int m.b,stD m.p m.h,.tuple (m.sts.map Stp.d)]) none (some 4) s=_;rw[PF.ams];rfl
theorem ax9(s:S)(m:Mc)(pl:List Int):DW (j8 [.da m.d] s) λd s'=>∃k,d=.ref s.length/\s.length < k/\Wd s' s.length k m pl/\Ext s s':=⟨aws⟩
theorem awe{E:Option D}{d:D}{r:List D}(C:c <=10000)(J:OutJ n c E (d::r) ρ s):
  ∃ρ1,qg (.nm 2) d ρ=some ρ1/\(axl ρ1 s).W λfl s'=>∃o,fl=.nx o/\OutJ n c E r o s':=by
 obtain⟨c',u2,u3,u4,u5,u6,u7,u8,u9,u10,u11,u12,u13,u14,rfl,fd,hcc⟩:=J.ex;simp only[aE]at hcc;refine⟨_,a80,?_⟩;have w1:=λs n c k h hk C=>ayk (s:=s) (n:=n) (c:=c) (k:=k) h hk C
 have w2:=λs n c T ps h h0 hT hps hp5 nd C=>aqr (s:=s) (n:=n) (c:=c) (T:=T) (ps:=ps) h h0 hT hps hp5 nd C
 have w3:=ax9;have w4:=λs n c T m pl hm h hT C=>a23 (s:=s) (n:=n) (c:=c) (T:=T) (m:=m) (pl:=pl) hm h hT C
 unfold axl;generalize yt=F1 at w1⊢;generalize v8=F2 at w2⊢;generalize j8=F3 at w3⊢;generalize xw=F4 at w4⊢;walk_at "go";refine R.W_mono (kq fd (by decide) (by decide) (by lia)) λd1 s1 z=>?_
 obtain⟨i,e,i0,i1,fd1,_⟩:=z;rw[e];clear e;obtain⟨T,eT⟩: ∃T:Nat,1+i=(T:Int):=⟨(1+i).toNat,by lia⟩;walk_at "go";rw[eT];refine R.W_mono (kq fd1 (by decide) (by decide) (by lia)) λd2 P z=>?_
 obtain⟨k,e,k0,k1,x,_⟩:=z;rw[e];clear e;obtain⟨k,rfl⟩: ∃y:Nat,k=(y:Int):=⟨k.toNat,by lia⟩;walk_at "go";refine(w1 _ _ _ _ x (by lia) (by lia)).mono λd3 s3 z=>?_
 obtain⟨ps,e,pl5,pok,pnd,fd3,_⟩:=z;rw[e];clear e;walk_at "go";refine(w2 _ _ _ _ _ fd3 (by lia) (by lia) pok (by lia) pnd (by lia)).mono λd4 q z=>?_
 obtain⟨m,e,mok,_,K,_⟩:=z;rw[e];clear e;obtain⟨pl,hm⟩:=mok.mx;have hm2:=atb hm;walk_at "go";refine(w3 q m pl).mono λd5 A z=>?_
 obtain⟨N,e,hk,wa,x5⟩:=z;rw[e];clear e;have fd5:=K.ext x5;walk_at "go";rw[atx];walk_at "go";rw[show∀P,gIx (.da m.d) (.int 4) P=.ok (.tup (m.sts.map Stp.d)) P from λ_=>it4];walk_at "go";rw[qo (by simp),a8h,show(D.tup [aG (ya m).n,.tuple (ya m).ps,.int (ya m).b,stD (ya m).p (ya m).h,.tuple ((ya m).sts.map Stp.d)])=.da (ya m).d from rfl];walk_at "go";refine(w3 A (ya m) pl).mono λd6 s6 z=>?_
 obtain⟨F,e,hv,wb,x6⟩:=z;rw[e];clear e;have fd6:=fd5.ext x6;have U:=wa.ext x6;walk_at "go";refine R.W_mono (kq fd6 (by decide) (by decide) (by lia)) λd7 s7 z=>?_
 obtain⟨i2,e,j0,j1,fd7,Y⟩:=z;rw[e];clear e;obtain⟨T2,eT2⟩: ∃y:Nat,6+i2=(y:Int):=⟨(6+i2).toNat,by lia⟩;walk_at "go";rw[eT2];refine(w4 _ _ _ _ _ _ hm fd7 (by lia) (by lia)).mono λd8 s8 z=>?_
 obtain⟨xs,e,hx,fd8,sm8⟩:=z;rw[e];clear e;have xl:=hx.len;walk_at "go";refine R.W_mono (kq fd8 (by decide) (by decide) (by lia)) λd9 V z=>?_
 obtain⟨i3,e,q0,q1,fd9,Z⟩:=z;rw[e];clear e;obtain⟨T3,eT3⟩: ∃y:Nat,1+i3=(y:Int):=⟨(1+i3).toNat,by lia⟩;walk_at "go";rw[eT3,ze (by lia) (by lia),show((T3:Int)).toNat=T3 from bt _];walk_at "go";rw[zl (ρ0:=[none,some (.ref n),some (.da m.d)]) (by rw[qa];lia) rfl,R.W_bindk];refine R.W_mono (y4 (Q:=λds s'=>∃l:List aa,ds=l.map D.da/\RowK 3 l/\Fd s' n (c'+1100)/\jr n V s') (MmJ V n (c'+1060)) ?_ ?_ _ [] V ⟨[],_,rfl,RowK.nil.le (bn _),by rw[qa];lia,fd9,by rw[qa];lia,.refl _ _⟩) ?_
 ·rintro d r acc s' ⟨l,c2,rfl,hz,hl,fd,hcc2,sm⟩;simp only[aE]at hz hl hcc2;refine⟨[some d,some (.ref n),some (.da m.d)],rfl,?_⟩;walk_at "go";refine R.W_mono (af6 hm fd (by lia)) ?_;rintro _ P ⟨mo,rfl,hmo,x,sm2⟩;exact⟨l++ [moD mo],c2+10,by simp,(hz.app (RowK.one hmo)).le (by lia),by lia,x,by lia,sm.trans sm2⟩
 ·rintro acc s' ⟨l,c2,rfl,hz,hl,fd,hcc2,sm⟩;exact⟨l,rfl,hz.le (by lia),fd.le (by simp at hcc2;lia),sm⟩
 rintro ds j ⟨l,e,hz,fd10,sm10⟩;rw[dU]at e;subst e;walk_at "go";have hn:=K.lt;have lt: ∀{s:S} {w k:Nat} {m:Mc},Wd s w k m pl->k < s.length:=λ{s w k m} h=>by obtain⟨F,_,z,_⟩:=h.known;exact(am.mp z).1
 have lw:=lt wa;have lv:=lt wb;have l5:=x5.len;have sm:=((Y.trans sm8).trans Z).trans sm10;have l10:=sm.len;have H:=U.same sm (by lia) (by lia);have I:=wb.same sm (by lia) (by lia);have v:Ext j (j++ [O.lst [D.tup [],D.tup xs,D.tup (qh xs none (some 1)),D.tup l]]):=Ext.add _ _;have u:Two (j++ [O.lst [D.tup [],D.tup xs,D.tup (qh xs none (some 1)),D.tup l]]) n (c'+1100) q.length N A.length F j.length m pl [.tuple [],.tuple xs,.tuple (qh xs none (some 1)),.tuple l]:=
  ⟨H.ext v,I.ext v,fd10.ext v,by simp,by lia,by lia,by lia,by lia,by lia,by lia,by lia⟩
 generalize (j++ [O.lst [D.tup [],D.tup xs,D.tup (qh xs none (some 1)),D.tup l]])=s11 at u⊢;generalize j.length=M at u l10⊢;rw[ze (by decide) (by decide)];walk_at "go";refine R.W_mono (j6 (Q:=λfl s'=>∃ρ,fl=.nx ρ/\SpJ n (c'+1200) q.length N A.length F M m pl E (some d) (some (.int T)) xs [] ρ s') (SpJ n (c'+1200) q.length N A.length F M m pl E (some d) (some (.int T)) xs) (λd r ρ s J=>?_) (λρ s' J=>⟨ρ,rfl,J⟩) _ _ _ ⟨_,_,_,_,_,_,_,rfl,λy hy=>?_,by rw[qa];show 4+3 <=7;decide,u,by lia,by lia,by lia,by lia,by lia,by rw[qa];show c'+1100+12*3 <=_;lia⟩) ?_
 ·obtain⟨ρ1,e,w⟩:=azy hm hx (by lia) J;refine⟨ρ1,e,R.W_mono w ?_⟩;rintro _ q ⟨o,rfl,J2⟩;exact J2
 ·simp only[aL,cV,or_false]at hy;rcases hy with rfl|rfl|rfl|rfl
  ·exact⟨_,rfl,RowK.nil.le (by decide)⟩
  ·exact⟨_,rfl,hx.le (by decide)⟩
  ·exact⟨_,rfl,(hx.cut _ _).le (by decide)⟩
  ·exact⟨_,rfl,hz.le (by decide)⟩
 ·rintro _ s12 ⟨ρ,rfl,J⟩;obtain⟨a,c3,L,v11,v12,v13,v14,rfl,hr,_,t,_,_,_,_,_,hc3⟩:=J.ex;walk_at "go";rw[aik t.lr];walk_at "go";rw[show∀(g:Tg) (fb:FS) (ρ:En) (p:Wk) (s:S),kFor g fb ρ p s=chk p s (kb g fb p p.1 ρ s) from λ_ _ _ _ _=>rfl,qu (show kh (a.map D.da,some (M,O.lst (a.map D.da))) s12 from t.lr)];refine R.W_mono (aae (Q:=λfl s'=>∃ρ,fl=.nx ρ/\RowJ n c3 q.length N A.length F M m pl a E (some d) (some (.int T)) (some (.tup xs)) L [] ρ s') (RowJ n c3 q.length N A.length F M m pl a E (some d) (some (.int T)) (some (.tup xs)) L) (λr ρ s J=>?_) (λd r ρ s J=>?_) (λρ s' J=>⟨ρ,rfl,J⟩) _ _ _ ⟨a,v11,v12,v13,v14,rfl,hr,rfl,t⟩) ?_
  ·obtain⟨_,_,_,_,_,_,_,_,t⟩:=J.ex;exact t.lr
  ·obtain⟨ρ1,e,w⟩:=awi hm J;refine⟨ρ1,e,R.W_mono w ?_⟩;rintro _ q ⟨o,rfl,J2⟩;exact J2
  ·rintro _ s13 ⟨ρ,rfl,J⟩;obtain⟨_,_,_,_,_,_,_,rfl,t⟩:=J.ex;exact⟨_,rfl,_,_,_,_,_,_,_,_,_,_,_,_,_,_,rfl,t.fd,by lia⟩
theorem awu(ns:List Int):(axk [.frz (ns.map aG)] []).W λd _=>d=.bl true:=by
 rw[a8u];unfold Blaw;have a:=λs=>(⟨a2d (s:=s) (xs:=ns)⟩:DW _ _)
 generalize aat=FT at a⊢;walk_at "go";refine(a _).mono λh k q=>?_
 obtain⟨e,fd,_⟩:=q;rw[e];clear e;walk_at "go";rw[ze (by decide) (by decide)];walk_at "go";show(kb (.nm 2) axl _ _ _ _).W _;refine R.W_mono (j6 (Q:=λfl s'=>∃ρ,fl=.nx ρ/\OutJ 0 10000 (some (.frz (ns.map aG))) [] ρ s') (OutJ 0 10000 (some (.frz (ns.map aG)))) ?_ ?_ _ _ _ ⟨0,_,_,_,_,_,_,_,_,_,_,_,_,_,rfl,fd,by rw[qa];show 0+2000*2 <=_;lia⟩) ?_
 ·intro d r ρ s J;obtain⟨ρ1,e,w⟩:=awe (by decide) J;refine⟨ρ1,e,R.W_mono w ?_⟩;rintro _ j ⟨b,rfl,J2⟩;exact J2
 ·intro ρ c J;exact⟨ρ,rfl,J⟩
 ·rintro _ c ⟨ρ,rfl,c5,_,_,_,_,_,_,_,_,_,_,_,_,_,rfl,_,_⟩;walk_at "go"
  try rfl
def BN(x q:Str)(st:Stmt)(ps:List Str)(c:List ae):Prop:= ∀(kV b pm:ae) (an:Option Addr) (a ct:ae),bindArgs (cE x q (yu st) (vj st) (jh st) .none kV b pm an a ct) ⟨c,[]⟩=pure (ps.zip c)
theorem bd1{a:Str}(h: ∀a0,BN x q st [a] [a0]): ∀us,us.length=1->BN x q st [a] us|[a0],_=>h a0
theorem bd2{b a:Str}(h: ∀a0 a1,BN x q st [b,a] [a0,a1]): ∀us,us.length=2->BN x q st [b,a] us|[a0,a1],_=>h a0 a1
theorem bd3{c b a:Str}(h: ∀a0 a1 a2,BN x q st [c,b,a] [a0,a1,a2]): ∀us,us.length=3->BN x q st [c,b,a] us|[a0,a1,a2],_=>h a0 a1 a2
theorem bd4{e d b c:Str}(h: ∀a0 a1 a2 a,BN x q st [e,d,b,c] [a0,a1,a2,a]): ∀us,us.length=4->BN x q st [e,d,b,c] us|[a0,a1,a2,a],_=>h a0 a1 a2 a
theorem bd5{k j c e d:Str}(h: ∀a0 a1 a2 a b,BN x q st [k,j,c,e,d] [a0,a1,a2,a,b]): ∀us,us.length=5->BN x q st [k,j,c,e,d] us|[a0,a1,a2,a,b],_=>h a0 a1 a2 a b
theorem a4y(X:K.In h)(G:h.Ns a7 mg){f:Addr}{n kV o pm j ct:ae}(a:bG K a7 x=some (some (.ref f)))(l:K.lookup f=some ⟨n,od,.func (cE x x (yu st) (vj st) (jh st) .none kV o pm an j ct),sl⟩)(c:eD K j x=true)(k:cn K (.ref f)=true)(b: ∀us,us.length=ps.length->BN x x st ps us):Has K mg x st ps:=
 ⟨f,_,acl (st:=st) l c k,mq X G a,(acl (st:=st) l c k).binds λkV e pm an d ct us m=>b us m kV e pm an d ct⟩
theorem apu{f:Addr}{p kV r pm h ct:ae}(a:bG K a7 C=some (some (.ref Ca)))(t:eF K Ca cM=true)(c1:fh K Ca=true)(c2:gJ K Ca=true)(o:bO K (.ref Ca) "__setattr__"=some (some (.builtin "object.__setattr__")))(m:bO K (.ref Ca) x=some (some (.ref f)))(n:ig K (.ref f)=true)(l:K.lookup f=some ⟨p,od,.func (cE x q (yu st) (vj st) (jh st) .none kV r pm an h ct),sl⟩)(c:eD K h q=true)(k:cn K (.ref f)=true)(b: ∀us,us.length=ps.length->BN x q st ps us):HasM K C x q st ps:=
 ⟨Ca,f,_,a,⟨t,c1,c2,o⟩,⟨m,n,k⟩,acl (st:=st) l c k,(acl (st:=st) l c k).binds λkV e pm an d ct us j=>b us j kV e pm an d ct⟩
theorem a1s(X:K.In h)(G:h.Ns a7 mg){f:Addr}{r kV t pm j ct:ae}(a:bG K a7 C=some (some (.ref Ca)))(u:kX K Ca=true)(m:bO K (.ref Ca) "__init__"=some (some (.ref f)))(n:ig K (.ref f)=true)(o:cn K (.ref Ca)=true)(l:K.lookup f=some ⟨r,od,.func (cE "__init__" q (yu st) (vj st) (jh st) .none kV t pm an j ct),sl⟩)(c:eD K j q=true)(k:cn K (.ref f)=true)(b: ∀us,us.length=ps.length->BN "__init__" q st ps us):HasI K mg C q st ps:=
 ⟨Ca,f,_,a,mq X G a,⟨u,m,n,o⟩,acl (st:=st) l c k,(acl (st:=st) l c k).binds λkV e pm an d ct us p=>b us p kV e pm an d ct⟩
theorem a46:CTabs K []:=⟨λC fl h=>by cases h⟩
theorem a0s{fl:List Str}{r:abb}(t:CTabs K r)(a:bG K a7 C=some (some (.ref Ca)))(b:eF K Ca cM=true)(c1:fh K Ca=true)(c2:gJ K Ca=true)(d:bO K (.ref Ca) "__setattr__"=some (some (.builtin "object.__setattr__")))(n: ∀f∈fl,xy K Ca f):CTabs K ((C,fl)::r):=⟨λD c h=>by
 rw[b7]at h;split at h
 ·rename_i e;cases h;rw[eq_of_beq e];exact⟨Ca,a,⟨b,c1,c2,d⟩,n⟩
 ·exact t.ok D c h⟩
theorem a3w: ∀f∈([]:List Str),xy K Ca f:=λf h=>by cases h
theorem ap9{g:Str}{fl:List Str}(h:bO K (.ref Ca) g=some none)(t: ∀f∈fl,xy K Ca f): ∀f∈g::fl,xy K Ca f:=λf hf=>by
 rcases aL.mp hf with rfl|hf
 ·exact h
 ·exact t f hf
theorem a62{l:kZ}{w:aM}{m f:Addr}{n kV j pm b ct:ae}(X:K.In h)(G:h.Ns a7 mg)(d:mg "law"=some (.ref m))(a:bG K a7 "law"=some (some (.ref f)))(o:K.lookup f=some ⟨n,od,.func (cE "law" "law" (yu abe) (vj abe) (jh abe) .none kV j pm an b ct),sl⟩)(c:eD K b "law"=true)(k:cn K (.ref f)=true)(T:Txt0 K mg):
  ∃fd:dI,(∀(s:af) (v:ae),lF s fd ⟨[v],[]⟩ [("_law_script",v)])/\ ∀base:Heap,K.In base->base.Ns a7 mg->FnOk l.prog w K mg base CX0 11 m fd ["_law_script"] (aio K):=by
 have e:=d.symm.trans (mq X G a);cases e;exact⟨cE "law" "law" (yu abe) (vj abe) (jh abe) .none kV j pm an b ct,λs v=>.of_eq rfl,λbase _ _=>a68 (a8c (acl (st:=abe) o c k) T) λns _=>awu ns⟩
theorem a63{l:kZ}{q:aP}{b:List Str}{m:(Str->Option ae)->Heap->Prop}{e:aM->Heap->Prop}{d:DefRec}{K:Params->ak}(hn:l.most=some 63)(c:d.params.defaults=[])
  (o: ∀(w:aM) (h:Heap),e w h->(K w.params).In h)
  (F: ∀(w:aM) (mg:Str->Option ae) (j:Addr) (h:Heap),(K w.params).In h->h.Ns a7 mg->mg d.name=some (.ref j) ->
   ∃fd:dI,(∀(s:af) (u:ae),lF s fd ⟨[u],[]⟩ [("_law_script",u)])/\ ∀base:Heap,(K w.params).In base->base.Ns a7 mg->FnOk l.prog w (K w.params) mg base CX0 11 j fd ["_law_script"] (aio (K w.params))):
  PySem.W.WalkO q b m e l.row.toRowW d [] (λf vs=>PySem.call f vs):=
 L2.a0d (n:=63) (k:=11) (x:="_law_script") (CX:=λ_=>CX0) (sp:=λw=>aio (K w.params)) hn (by decide) c ⟨rfl,by decide,by decide,rfl⟩ o F (λ_ _ a ns p _ r=>⟨a,ns,rfl,r,p,λ_=>rfl⟩) λ_ _ _ _ _ z=>z
end Ln
open PySem PySem.W PyProof.Rows
local macro_rules | `(tactic| walk_at "hm") =>do
 let X := cj `KX
 let G := cj `G
 `(tactic| refine Ln.a4y $X $G (by k_is) (by k_is) (by k_is) (by k_is) ?_)
namespace PySem.W.Fast
def tw6844298765305394738:=()
def tw13844469184545437773:=()
def tw14701679359686550599:=()
def tw16846607902465868787:=()
def tw7471338733164330211:=()
def tw1499906896230699492:=()
def tw6251178890615347354:=()
def tw9946502417770057830:=()
def tw10552296350474022131:=()
def tw4514390045768616809:=()
def tw15635658543686757669:=()
def tw12418772722847860642:=()
def tw8171529272580979918:=()
def tw4175520284627502378:=()
def tw3593657789363874989:=()
def tw2284488002826921334:=()
def tw7005750645560965768:=()
def tw17527564000785157820:=()
def tw11062971127174232881:=()
def tw7312184362199602149:=()
def tw8267471771651859038:=()
def tw12380667055443583500:=()
def tw17523823137911720928:=()
def tw5703787502287761748:=()
def tw13148249465039899934:=()
def tw6546073924509361928:=()
def tw10990481117855870990:=()
def tw267873259697091197:=()
def tw5804539199093104196:=()
def tw13291453233514551622:=()
def tw2953613381178336149:=()
def tw11170643592192801787:=()
def tw12285619668215256242:=()
def tw10150238078376406835:=()
def tw16336615712096850021:=()
def tw3314469318055632389:=()
def tw10403039223850470995:=()
def tw12616934595626864215:=()
def tw13337463226354277293:=()
def tw11699541446498936048:=()
def tw3575966108335059925:=()
def tw17605994240805467283:=()
def tw11895389120860252984:=()
def tw14612353476667890172:=()
def tw6747212270035113822:=()
def tw9076950274803641105:=()
def tw13013904096352175801:=()
def tw17462470945614161848:=()
def tw17311186886985734973:=()
def tw7569698341714826456:=()
def tw18153673299253971726:=()
def tw14840174996501647689:=()
def tw10285844950168214343:=()
def tw40344693751011262:=()
def tw14256694840160193740:=()
def tw8203373773096811072:=()
def tw12327821294624569440:=()
def tw10785567187845656422:=()
def tw16371217087079206836:=()
def tw16780146069287556229:=()
def tw12065618910375859121:=()
def tw6938331407738824506:=()
def tw2664003345584413567:=()
def tw11301029068459995572:=()
def tw9575685358209717116:=()
def tw8813278530767487648:=()
def tw6008796962849621853:=()
def tw8023256679103768074:=()
def tw8631116590494239003:=()
def tw14300340369277496386:=()
def tw147872975372095613:=()
def tw10068313141448922490:=()
def tw18173131753169322189:=()
def tw8560695948498056180:=()
def tw16661455692111588437:=()
def tw17526631361842633368:=()
def tw12840383576518232350:=()
def tw16493837605545579042:=()
def tw384960648497132289:=()
def tw17692255975361157966:=()
def tw9102960813735174006:=()
def tw16770727563128495234:=()
def tw15386763758880582944:=()
end PySem.W.Fast
set_option maxRecDepth 100000 in
set_option maxHeartbeats 0 in
theorem PySem.Challenge.cw_mannerports_k27_rows_had_holds : PySem.Challenge.rw_mannerports_k27_rows_had.Holds := by
 w_on;o_law;k_head;(case hw=>w_witness2)
 k_fill
 refine Ln.a63 (l:=fg) rfl rfl (λw h Y=>PySem.W.kIn_of Y) ?F
 case F=>
  intro w mg b h KX G a;refine Ln.a62 KX G a (by k_is) (by k_is) (by k_is) (by k_is) ?_;constructor
  ·exact(Ln.a0s Ln.a46 (by k_is) (by k_is) (by k_is) (by k_is) (by k_is) (Ln.ap9 (by k_is) (Ln.ap9 (by k_is) Ln.a3w)))
  ·walk_at "hm";exact Ln.bd2 λ_ _ _ _ _ _ _ _=>rfl
  ·walk_at "hm";exact Ln.bd3 λ_ _ _ _ _ _ _ _ _=>rfl
  ·walk_at "hm";exact Ln.bd3 λ_ _ _ _ _ _ _ _ _=>rfl
  ·walk_at "hm";exact Ln.bd3 λ_ _ _ _ _ _ _ _ _=>rfl
  ·refine Ln.a1s KX G (by k_is) (by k_is) (by k_is) (by k_is) (by k_is) (by k_is) (by k_is) (by k_is) ?_;exact Ln.bd2 λ_ _ _ _ _ _ _ _=>rfl
  ·refine Ln.apu (by k_is) (by k_is) (by k_is) (by k_is) (by k_is) (by k_is) (by k_is) (by k_is) (by k_is) (by k_is) ?_;exact Ln.bd3 λ_ _ _ _ _ _ _ _ _=>rfl
  ·refine Ln.apu (by k_is) (by k_is) (by k_is) (by k_is) (by k_is) (by k_is) (by k_is) (by k_is) (by k_is) (by k_is) ?_;exact Ln.bd3 λ_ _ _ _ _ _ _ _ _=>rfl
  ·walk_at "hm";exact Ln.bd1 λ_ _ _ _ _ _ _=>rfl
  ·walk_at "hm";exact Ln.bd2 λ_ _ _ _ _ _ _ _=>rfl
  ·walk_at "hm";exact Ln.bd2 λ_ _ _ _ _ _ _ _=>rfl
  ·walk_at "hm";exact Ln.bd2 λ_ _ _ _ _ _ _ _=>rfl
  ·walk_at "hm";exact Ln.bd5 λ_ _ _ _ _ _ _ _ _ _ _=>rfl
  ·walk_at "hm";exact Ln.bd4 λ_ _ _ _ _ _ _ _ _ _=>rfl
  ·walk_at "hm";exact Ln.bd2 λ_ _ _ _ _ _ _ _=>rfl
  ·walk_at "hm";exact Ln.bd3 λ_ _ _ _ _ _ _ _ _=>rfl
  ·walk_at "hm";exact Ln.bd2 λ_ _ _ _ _ _ _ _=>rfl
  ·walk_at "hm";exact Ln.bd1 λ_ _ _ _ _ _ _=>rfl
  ·walk_at "hm";exact Ln.bd1 λ_ _ _ _ _ _ _=>rfl
  ·walk_at "hm";exact Ln.bd2 λ_ _ _ _ _ _ _ _=>rfl
  ·walk_at "hm";exact Ln.bd3 λ_ _ _ _ _ _ _ _ _=>rfl
  ·walk_at "hm";exact Ln.bd2 λ_ _ _ _ _ _ _ _=>rfl
  ·walk_at "hm";exact Ln.bd3 λ_ _ _ _ _ _ _ _ _=>rfl
  ·walk_at "hm";exact Ln.bd2 λ_ _ _ _ _ _ _ _=>rfl
  ·walk_at "hm";exact Ln.bd1 λ_ _ _ _ _ _ _=>rfl
  ·exact bU KX G (by k_is)
  ·exact bU KX G (by k_is)
  ·exact bU KX G (by k_is)
  ·exact bU KX G (by k_is)
  ·exact bU KX G (by k_is)
  ·exact bU KX G (by k_is)
  ·exact bU KX G (by k_is)
  ·exact bU KX G (by k_is)
  ·exact bU KX G (by k_is)
  ·exact bU KX G (by k_is)
  ·exact bU KX G (by k_is)
