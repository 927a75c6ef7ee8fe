import PyProof.Rows.All
import Wide.All
import OpenK.AllK
import Wide.FinOn
import PyProof.EqAt
import PyProof.EqKinds
import PyProof.TupleCall
import Open.SpecLaws
import KE.OsHead
import KE.OsGo
import KE.KSortTupG
import PyVbdtag
import PySem.Challenge.RW_rankedroom_s01_answers
set_option Elab.async false
set_option linter.all false
set_option maxRecDepth 100000
set_option maxHeartbeats 4000000
open PySem.W (Frag)
theorem DG:type_of% @beq_eq_false_iff_ne:=@beq_eq_false_iff_ne
theorem Jc:type_of% @beq_iff_eq:=@beq_iff_eq
theorem G9:type_of% @beq_self_eq_true:=@beq_self_eq_true
theorem Ju:type_of% @decide_eq_decide:=@decide_eq_decide
theorem Bf:type_of% @decide_eq_false:=@decide_eq_false
theorem Aj:type_of% @decide_eq_true:=@decide_eq_true
theorem Cj:type_of% @decide_eq_true_eq:=@decide_eq_true_eq
theorem Am:type_of% @if_neg:=@if_neg
theorem Aq:type_of% @if_pos:=@if_pos
theorem Qo:type_of% @of_decide_eq_false:=@of_decide_eq_false
theorem Ec:type_of% @of_decide_eq_true:=@of_decide_eq_true
open Array renaming getElem?_eq_getElem->Np,getElem?_toList->VJ,length_toList->Ku,mem_toList_iff->Akg,size_map->Bb4,toArray_toList->Akh,toList->Aty,toList_zip->Afa
open Array.Perm renaming refl->Bai
open Bool renaming and_assoc->ZR,and_eq_true->Cm,and_eq_true_iff->Aki,and_false->Lb,and_true->Oc,eq_iff_iff->Qz,false_and->Ib,false_eq_true->Tv,false_ne_true->Ac,false_or->Adw,not_eq_true'->Atz,not_false->Ck,not_true->CK,or_eq_true->Aif,true_and->HB
open False renaming elim->Fo
open ForInStep renaming yield->X7
open Function renaming comp->Ad2
open Int renaming eq_ofNat_of_zero_le->O1,mul_ediv_cancel_left->Ad3,mul_one->Ayv,natAbs_natCast->Asm,natCast_add->Bam,natCast_inj->X8,natCast_mul->Nr,ofNat_le->Y0,toNat->MK,toNat_natCast->Fq,toNat_of_nonneg->Gz
open List renaming Nodup->Bcb,all_append->Aig,all_cons->Jj,all_eq_true->Ep,any_cons->Wk,any_eq_false->At4,any_eq_true->Afd,append_assoc->Cg,append_nil->Ds,cons_append->Afe,contains_cons->PJ,contains_eq_mem->Ef,drop_drop->Bcc,drop_eq_getElem_cons->EY,drop_length->O2,drop_of_length_le->Jp,drop_zero->Ri,ext_getElem?->Abv,filter->Ayx,filterMap_cons->R5,filter_append->Gu,filter_append_perm->Lj,filter_congr->Ft,filter_cons->Cr,filter_eq_nil_iff->Gk,filter_eq_self->GC,filter_filter->Aso,filter_map->SQ,filter_nil->SX,filter_reverse->Ao0,filter_sublist->Iv,find?_append->Ur,find?_cons->Kz,find?_isSome->At5,find?_some->Bao,flatMap_append->Oo,flatMap_cons->GR,flatMap_map->Aw2,flatMap_nil->Afg,flatten_cons->QZ,foldl->Bcd,foldl_append->Lk,foldl_cons->J7,forIn_cons->Bap,forIn_nil->Akn,getElem?_eq_getElem->CP,getElem?_eq_none->IW,getElem?_eq_some_iff->BL,getElem?_map->Bk,getElem?_range->Kv,getElem?_reverse->Aj7,getElem?_set_ne->Xj,getElem?_set_self->Mi,length->Mv,length_append->Bg,length_cons->Ay,length_drop->Jq,length_eq_one_iff->GF,length_eq_zero_iff->G6,length_filter_le->CQ,length_map->Aa,length_nil->Ie,length_pos_iff->Ao1,length_range->GX,length_reverse->JC,length_set->Yb,length_singleton->VN,length_take->Er,lookup->JG,lookup_cons->MN,map->Ako,map_append->Bd,map_congr_left->Fv,map_cons->Bo,map_flatMap->Aw3,map_id->T9,map_map->Df,map_nil->Ru,map_reverse->O3,map_take->Apk,mem_append->Bw,mem_append_left->GP,mem_append_right->Cu,mem_cons->BP,mem_cons_of_mem->Bh,mem_cons_self->Bl,mem_filter->DP,mem_filterMap->Asp,mem_flatMap->Afh,mem_map->Dv,mem_map_of_mem->Cw,mem_of_find?_eq_some->RZ,mem_of_getElem?->BX,mem_of_mem_take->Xk,mem_range->O4,mem_reverse->KQ,mem_singleton->Bj,nil_append->KC,nodup_append->JH,nodup_cons->Gj,not_mem_nil->KR,of_mem_zip->Nt,pairwise_cons->DQ,pairwise_iff_getElem->Abq,pairwise_map->JK,pairwise_singleton->Ua,perm_append_comm->Ni,perm_append_right_iff->ZW,perm_append_singleton->Dt,perm_middle->KY,range->FJ,range_succ->S5,replicate->Dy,replicate_succ->Hu,reverse->At6,reverse_append->Oq,reverse_cons->Abw,reverse_reverse->Ld,set_set->Agn,size_toArray->Bv,sublist_append_left->K6,sum_append->Baq,sum_cons->Jk,take_append_drop->QV,take_length->DR,take_of_length_le->Mj,take_zero->Fb,toList_toArray->Kw,zip_cons_cons->Ka,zip_nil_left->Q0,zip_nil_right->PL
open List.Pairwise renaming nil->Gp,sublist->QT
open List.Perm renaming eq_of_pairwise->Ad4,trans->Ban
open List.Sublist renaming refl->At3
open Nat renaming add_comm->Aup,add_div_right->Ab1,div_eq_of_lt->Afj,div_le_self->Bas,gcd->Y4,gcd_pos_of_pos_right->Ad5,le_add_right->Aw4,le_antisymm->Bat,le_of_eq->PN,le_of_lt->Jr,le_of_mul_le_mul_left->Abr,le_of_succ_le->Us,le_refl->Bu,le_succ->Rj,le_trans->Az,lt_irrefl->Io,lt_of_le_of_lt->CJ,lt_of_lt_of_le->Dh,lt_of_mul_lt_mul_left->Abs,lt_succ_of_lt->Q5,lt_succ_self->V5,lt_trans->Auq,max->Bbp,min_eq_left->QC,min_eq_right->Aw5,min_le_right->Aw6,mul_comm->Y5,mul_le_mul_left->Ao2,mul_le_mul_right->Xl,ne_of_gt->Aur,ne_of_lt->Fd,not_lt_zero->Bau,pow_le_pow_right->Akv,succ_le_succ->Afk,succ_mul->PX,succ_ne_self->Aw7,succ_pos->Aus,zero_le->Hh
open Ne renaming symm->Js
open Option renaming getD_none->Aw8,getD_some->Aw9,isSome_map->Ab2,none_or->Z6
open Option.some renaming inj->Ae
open PyFlat renaming atMost->Bfl,call->Uc,calls->Gf,played->Ad8,told->Acb
open PyProof renaming noPylong_small->Agr
open PyProof.Rows renaming Call_->Ayt,callWith_type1->Gh,lexLt->Aaa,get?_update_seq->Ai4,listUpdate_at->Aei,subscriptTail_builtinR->Ah5
open PyProof.Rows.G renaming tupKeyC->An5
open PySem renaming Within->Auw,boot_len->Ej,intKind->Oh,mem_of_lookup->Fw,builtinLookup_eq_fast->Aj9,call_meets->Agx,codeAny_mono->Ql,pushCells_keeps->Ym,richCompare_meets_room->Vr,seqIndex_neg->Ah4,seqIndex_of->Ant,sizeLine_eq->Baf,wpAny_Call_Name_kw->Ji,wpAny_Name->Aia,wpAny_bind->Br,wpAny_call->Abm,wpAny_callSpecial?_slot->Uk,wpAny_call_entry->Agg,wpAny_execs_nil->Yy,wpAny_field->Adu,wpAny_forIn_list->Agh,wpAny_getItem_list_neg->Aib,wpAny_holding->Asf,wpAny_letOwnedTupleGo_enum->Abn,wpAny_loadName_cell->Api,wpAny_loadName_free->Apj,wpAny_loadName_local->X4,wpAny_loadPart'->LK,wpAny_mono->Ks,wpAny_newObj_type->Adv,wpAny_passesOwn->Ny,wpAny_pure->Eo,wpAny_pyIter_enum->VG,wpAny_pyIter_rangeiter->Aic,wpAny_pyIter_revIter->An3,wpAny_pyIter_tuple->Abo,wpAny_pyNext_range_end->Aid,wpAny_seqItems->An4,wpAny_specialOf->Aj5,wpAny_standAt->Asg
open PySem.Around renaming frames_deeper->Akf,under->Atx
open PySem.AutoSeq1 renaming sub_tuple_tuple->Oa,wpAny_loadPart'->Ob
open PySem.Builtin.List renaming listExtendWith->Mg,listItems->Agi,listSameRef->Adx,listTooLong->JT
open PySem.Builtin.Range renaming rangeSize->Lh,small->Aox
open PySem.Builtin.SmallTypes renaming nextOf->Nq
open PySem.Builtin.Tuple renaming tupleCompareSizes->Ol
open PySem.Calls renaming Name_function_global->Rh,evalArgs_plain->Akj,loadGlobal_global->Afb,spliced_cons->M4,spliced_nil->Ul
open PySem.Challenge renaming pw_rankedroom_s01_answers->Aip
open PySem.Code renaming isFrame->At0
open PySem.Data renaming seq->Bca
open PySem.F renaming args_list_extend_2->Akl,args_tuple_iterator_next_1->X6,entry_list_extend->Aoz,entry_tuple_iterator_next->YX,slot_enumerate_next->Aj6,slot_list_extend->Asl,slot_tuple_iterator_next->M5,plainAttrs_list->Dk,slot_list_append->Eu,slot_list_extend->JV,type_list_append->Ew,type_list_extend->JW
open PySem.Heap renaming SameBut->Agm,get?_none_of_le->Akm,get?_push_ne->At2,get?_push_of_some->Bs,get?_push_size->Dr,get?_update_other->Uq,get?_update_self->VL,lt_size->CN,size_push->Hg
open PySem.Heap.SameBut renaming update->LQ
open PySem.IsRange renaming new->Blw
open PySem.NameKind renaming cell->Wl,free->QH
open PySem.Obj renaming data_mapFields->Asq,mapSeq->G4
open PySem.PyData renaming canLay0->Ak0,canLayAll0->Lp,depth->Auu,depthAll->Nv,eqv->Z9,eqvAll->Sv,int->Qe
open PySem.SeqAt renaming canLay_of_shaped->Yd,EqAt->Bcs,shaped->Qh
open PySem.SeqAt.EqAt renaming int_int->Asv,int_str->Asw,str_int->Asx
open PySem.Str renaming ofString->UL
open PySem.Value renaming bool->Agu,int->Axe,isInt->Ak2,none->Lx,notImplemented->Xm,ref->G8,str->Bhf,type->TJ
open PySem.Value.type renaming inj->Aab
open PySem.W renaming CodeHd->GD,WRecords->Axb,callWith_K->M7,cellsFrom_some->Ags,codeIn->UJ,emptyDict->JL,envX->Agt,findIn->M8,fnOf->Ml,handedIn->Axc,hasDictIn->Acd,instObj->Lw,isFn->Biz,keepIn->Ig,kla_obj->Ih,length_le_weightAllW->Ye,lookIn->Ak1,makesIn->Aiq,methodObj->Ace,mg_of->Ap4,noTabs->Bci,nsIn->Qg,plainGet->Afn,plainOver->Auv,tabIn->Kg,tabObj->Rk,tab_of->Bcj,takerIn->Air
open PyVbdtag renaming answers->V8,answers_asked->Mp,calls->Bck,shape->Ek,whole->CT
open Sum renaming inl->Mq,inr->An8
open True renaming intro->Asz
open VbdtCore renaming Frac->Jl,frac->Ap5,«ints»->Hl,isBetween->Ax,sortBy->Ba3
open Vbdtag renaming Answer->Ho,Coming->Ad9,ITEMS->Bjg,LAST->Azb,RANKS->Au2,State->Ci,addUnlike->O6,best->Xn,bestC->Ze,better->Aea,bit->Aac,bounds0->Bct,canAll->Sw,changed->Bcu,cheaper->Aad,cheapest->Ba4,endsOf->Sx,fair->Xo,find->HN,gone->Acf,greatest->Td,greedy->Ap6,isThing->O7,keptOf->Fi,listRow->Ak3,living->Wu,mayGo->Qi,no->V9,numbers->Bcv,onItem->K7,onNew->Qj,onlineC->M9,otherOrder->UW,presentAt->Rx,rising->Aeb,setBounds->O8,start->Qk,step->Dc,taken->Agv
open VbdtagNeutral renaming asked->YF,asked1->Xp
section
namespace L2
open PySem PySem.Spec PyProof.Rows
abbrev Key:=Sum Int Str
def Ca0:Key->Value->Bool
 |.inl k,v=>Ak2 k v
 |.inr x,v=>Value.isStrOf x v
def Ce7(w:World):Key->Int
 |.inl k=>hashInt k
 |.inr x=>hashStr w x
theorem N5:∀{k:Key} {v:Value},Ca0 k v=true->(∃i t,k=Mq i/\v=Axe i t)\/(∃x t,k=An8 x/\v=Bhf x t)
 |.inl i,v,h=>by
  obtain⟨t,e⟩:=Value.isInt_shape (k:=i) (v:=v) h
  exact .inl ⟨i,t,rfl,e⟩
 |.inr x,v,h=>by
  obtain⟨t,e⟩:=Value.isStrOf_shape (x:=x) (v:=v) h
  exact .inr ⟨x,t,rfl,e⟩
theorem Cbq(a b:Int):decide ((Mq a:Key)=Mq b)=(a==b):=by
 by_cases e:a=b
 ·subst e;simp
 ·have h:¬(Mq a:Key)=Mq b:=λq=>e (Mq.inj q)
  rw[Bf h]
  exact(DG.mpr e).symm
theorem Cbt(a b:Str):decide ((An8 a:Key)=An8 b)=decide (a=b):=by
 by_cases e:a=b
 ·subst e;simp
 ·have h:¬(An8 a:Key)=An8 b:=λq=>e (An8.inj q)
  rw[Bf h,Bf e]
theorem Cbr(a:Int)(b:Str):decide ((Mq a:Key)=An8 b)=false:=Bf (λq=>nomatch q)
theorem Cbs(a:Str)(b:Int):decide ((An8 a:Key)=Mq b)=false:=Bf (λq=>nomatch q)
def Bsl(prog:Program)(w:World):PySem.KeyKind prog w Key where
 is:=Ca0
 hash:=Ce7 w
 inj:=λv a b ha hb=>by
  rcases N5 ha with⟨i,t,rfl,rfl⟩|⟨x,t,rfl,rfl⟩
  ·rcases N5 hb with⟨j,u,rfl,e⟩|⟨y,u,rfl,e⟩
   ·injection e with e1 _;rw[e1]
   ·exact nomatch e
  ·rcases N5 hb with⟨j,u,rfl,e⟩|⟨y,u,rfl,e⟩
   ·exact nomatch e
   ·injection e with e1 _;rw[e1]
 byValue:=λk v h=>by
  rcases N5 h with⟨i,t,rfl,rfl⟩|⟨x,t,rfl,rfl⟩<;>rfl
 pyHash:=λhv h=>by
  rcases N5 hv with⟨i,t,rfl,rfl⟩|⟨x,t,rfl,rfl⟩
  ·exact wpAny_pyHash_int h
  ·exact wpAny_pyHash_str h
 eqBool:=λhu hv h=>by
  rcases N5 hu with⟨i,t,rfl,rfl⟩|⟨x,t,rfl,rfl⟩
  ·rcases N5 hv with⟨j,u,rfl,rfl⟩|⟨y,u,rfl,rfl⟩
   ·rw[Cbq] at h;exact wpAny_eqBool_int h
   ·rw[Cbr] at h;exact Asw i t y u _ _ _ _ h
  ·rcases N5 hv with⟨j,u,rfl,rfl⟩|⟨y,u,rfl,rfl⟩
   ·rw[Cbs] at h;exact Asx x t j u _ _ _ _ h
   ·rw[Cbt] at h;exact wpAny_eqBool_str h
 «strs»:=λk x t v h=>by
  rcases N5 h with⟨i,u,rfl,e⟩|⟨y,u,rfl,e⟩
  ·exact nomatch e
  ·injection e with e1 _
   subst e1
   cases v<;>rfl
end L2
namespace L2
open PySem PySem.Spec PyProof.Rows
inductive V where
 |non|bl (b:Bool)|int (i:Int)|str (x:Str)|byt (b:Array UInt8)|flt (b:UInt64)|ref (a:Addr)|ty (n:String)
 deriving DecidableEq
def RelV:V->Value->Prop
 |.non,u=>u=Lx
 |.bl b,u=>u=Agu b
 |.int i,u=>∃t,u=Axe i t
 |.str x,u=>∃t,u=Bhf x t
 |.byt b,u=>∃t,u=Value.bytes b t
 |.flt b,u=>∃t,u=Value.float b t
 |.ref a,u=>u=G8 a
 |.ty n,u=>u=TJ n
abbrev Vals:List V->List Value->Prop:=Paired RelV
theorem Vals.length{xs:List V}{us:List Value}(r:Vals xs us):xs.length=us.length:=Paired.length r
theorem Vals.get:∀{xs:List V} {us:List Value} {i:Nat} {x:V},Vals xs us->xs[i]?=some x->∃u,us[i]?=some u/\RelV x u
 |_,_,_,_,.nil,e=>by simp at e
 |_,_,0,_,.cons r _,e=>by simp at e;subst e;exact⟨_,rfl,r⟩
 |_,_,i+1,x,.cons _ t,e=>by
  obtain⟨u,h1,h2⟩:=Vals.get (i:=i) (x:=x) t (by simpa using e)
  exact⟨u,by simpa using h1,h2⟩
theorem Vals.set{x:V}{u:Value}(r:RelV x u):∀{xs:List V} {us:List Value} (i:Nat),Vals xs us->Vals (xs.set i x) (us.set i u)
 |_,_,_,.nil=>.nil
 |_,_,0,.cons _ t=>.cons r t
 |_,_,i+1,.cons q t=>.cons q (Vals.set r i t)
theorem Vals.append:∀{xs ys:List V} {us ws:List Value},Vals xs us->Vals ys ws->Vals (xs++ys) (us++ws)
 |_,_,_,_,.nil,s=>s
 |_,_,_,_,.cons r t,s=>.cons r (Vals.append t s)
theorem Vals.take:∀{xs:List V} {us:List Value} (n:Nat),Vals xs us->Vals (xs.take n) (us.take n)
 |_,_,0,_=>.nil
 |_,_,_+1,.nil=>.nil
 |_,_,n+1,.cons r t=>.cons r (Vals.take n t)
theorem Vals.drop:∀{xs:List V} {us:List Value} (n:Nat),Vals xs us->Vals (xs.drop n) (us.drop n)
 |_,_,0,r=>r
 |_,_,_+1,.nil=>.nil
 |_,_,n+1,.cons _ t=>Vals.drop n t
def Bpa:Option V->Option Value->Prop
 |some v,some u=>RelV v u
 |none,none=>True
 |_,_=>False
def KV{κ:Type}:List (κ×V)->List (κ×Value)->Prop:=Paired λ(p:κ×V) (q:κ×Value)=>p.1=q.1/\RelV p.2 q.2
def kV:Key->V
 |.inl i=>.int i
 |.inr x=>.str x
inductive HO where
 |lst (xs:List V)
 |tup (xs:List V)
 |dK (kvs:List (Key×V))|dT (kvs:List (List Key×V))
 |set (S:Int->Bool) (n:Nat)
 |ins (C dx:Addr) (fs:List (Str×V))
 |own (x:Addr)
 |xd (fs:List (Str×V))
 |met (f x:Addr)
 |rng (lo hi:Int)
 |frz (o:Obj) (u:HO)
 |tbl (ps:Array Value)
 |ext (φ:Heap->Prop)
abbrev Hp:=Addr->Option HO
def upd(H:Hp)(a:Addr)(o:HO):Hp:=λb=>if b=a then some o else H b
theorem Ah{H:Hp}{a:Addr}{o:HO}:upd H a o a=some o:=by unfold upd;rw[Aq rfl]
theorem Cd{H:Hp}{a b:Addr}{o:HO}(h:b≠a):upd H a o b=H b:=by unfold upd;rw[Am h]
theorem Mu{H:Hp}{a:Addr}{o u:HO}:upd (upd H a o) a u=upd H a u:=by
 funext b;unfold upd;split<;>rfl
theorem Bh5{H:Hp}{a b:Addr}{o u:HO}(h:H a=some o)(h':H b=some u)(d:o≠u):a≠b:=by
 intro e;subst e;rw[h] at h';exact d (Ae h')
theorem FP{H:Hp}{a b:Addr}{o:HO}(h:H a=some o)(h':H b=none):a≠b:=by
 intro e;subst e;rw[h] at h';cases h'
section
variable (P:Program)(w:World)
def R0(H:Hp)(h:Heap)(a:Addr):HO->Prop
 |.lst xs=>xs.length<=sizeLine/\∃(its:List Value) (n:Nat),Vals xs its/\h.get? a=some {cls:=.type "list",data:=.seq its.toArray n}
 |.tup xs=>xs.length<=sizeLine/\∃its:List Value,Vals xs its/\IsTup h a its.toArray
 |.dK kvs=>kvs.length<=sizeLine/\(a==sysModules)=false/\∃vs,KV kvs vs/\h.DictOf (Bsl P w) a vs
 |.dT kvs=>kvs.length<=sizeLine/\(a==sysModules)=false/\∃xs:List (List Key×Addr×Value),
   Paired (λ(p:List Key×V) (q:List Key×Addr×Value)=>p.1=q.1/\H q.2.1=some (.tup (p.1.map kV))/\RelV p.2 q.2.2) kvs xs/\
   ∃o es ep,h.get? a=some o/\o.ExactDict/\o.data=.dict es ep/\es.toList=xs.map (entryOfKey (tupleKind (Bsl P w)))/\(xs.map (·.1)).Nodup
 |.set S n=>h.SetOf (intKind P w) a S n
 |.ins C dx fs=>H dx=some (.own a)/\fs.length<=1000/\dx≠a/\h.get? a=some (Lw C dx)/\
   ∃mA,h.Ns1 dx mA/\(∀f,Bpa (fs.lookup f) (mA f))/\Auw mA (fs.map (·.1))
 |.own _=>∃o,h.get? a=some o
 |.xd fs=>∃mA,h.Ns1 a mA/\∀f,Bpa (fs.lookup f) (mA f)
 |.rng lo hi=>∃t u v,h.get? a=some {cls:=.type "range",data:=.fields #[.int lo t,.int hi u,.int 1 v]}
 |.frz o u=>h.get? a=some o/\R0 H h a u
 |.tbl ps=>h.get? a=some {cls:=.none,data:=.fields ps}
 |.met f x=>h.get? a=some (Ace (.ref f) (.ref x))
 |.ext φ=>φ h/\(∃o,h.get? a=some o)/\∀h1 h2:Heap,φ h1->(∀o,h1.get? a=some o->h2.get? a=some o)->φ h2
def HOk(H:Hp)(h:Heap):Prop:=∀a o,H a=some o->R0 P w H h a o
end
section
variable {P:Program}{w:World}{H H':Hp}{h h':Heap}{a:Addr}{o:HO}
theorem R0.lt(x:R0 P w H h a o):a<h.objs.size:=by
 cases o with
 |lst xs=>obtain⟨_,_,_,_,e⟩:=x;exact CN e
 |tup xs=>obtain⟨_,_,_,p⟩:=x;exact p.lt
 |dK kvs=>obtain⟨_,_,_,_,o,_,_,e,_⟩:=x;exact CN e
 |dT kvs=>obtain⟨_,_,_,_,o,_,_,e,_⟩:=x;exact CN e
 |set S n=>obtain⟨o,_,_,_,e,_⟩:=x;exact CN e
 |ins C dx fs=>obtain⟨_,_,_,e,_⟩:=x;exact CN e
 |own y=>obtain⟨_,e⟩:=x;exact CN e
 |xd fs=>obtain⟨_,⟨_,_,_,e,_⟩,_⟩:=x;exact CN e
 |rng lo hi=>obtain⟨_,_,_,e⟩:=x;exact CN e
 |frz ob u=>obtain⟨e,_⟩:=x;exact CN e
 |tbl ps=>exact CN (show h.get? a=some _ from x)
 |met f y=>exact CN (show h.get? a=some _ from x)
 |ext φ=>obtain⟨_,⟨_,e⟩,_⟩:=x;exact CN e
theorem Paired.Bzr{α β:Type}{F G:α->β->Prop}:∀{l₁:List α} {l₂:List β},Paired F l₁ l₂->(∀a b,F a b->G a b)->Paired G l₁ l₂
 |_,_,.nil,_=>.nil
 |_,_,.cons r t,f=>.cons (f _ _ r) (Paired.Bzr t f)
theorem R0.stay(x:R0 P w H h a o)(k:∀b u,(b=a\/H b=some (.own a))->h.get? b=some u->h'.get? b=some u)
  (ho:∀b,H b=some (.own a)->H' b=some (.own a)) (ht:∀b xs,H b=some (.tup xs)->H' b=some (.tup xs)):R0 P w H' h' a o:=by
 induction o with
 |lst xs=>obtain⟨z,its,n,r,e⟩:=x;exact⟨z,its,n,r,k _ _ (.inl rfl) e⟩
 |tup xs=>obtain⟨z,its,r,ob,e,c⟩:=x;exact⟨z,its,r,ob,k _ _ (.inl rfl) e,c⟩
 |dK kvs=>obtain⟨z,y,vs,r,ob,es,ep,e,c⟩:=x;exact⟨z,y,vs,r,ob,es,ep,k _ _ (.inl rfl) e,c⟩
 |dT kvs=>
  obtain⟨z,y,xs,r,ob,es,ep,e,c⟩:=x
  exact⟨z,y,xs,Paired.Bzr r λp q z=>⟨z.1,ht _ _ z.2.1,z.2.2⟩,ob,es,ep,k _ _ (.inl rfl) e,c⟩
 |set S n=>obtain⟨ob,es,ep,t,e,c⟩:=x;exact⟨ob,es,ep,t,k _ _ (.inl rfl) e,c⟩
 |ins C dx fs=>
  obtain⟨d,z,ne,e,mA,⟨od,es,ep,e2,c⟩,r⟩:=x
  exact⟨ho _ d,z,ne,k _ _ (.inl rfl) e,mA,⟨od,es,ep,k _ _ (.inr d) e2,c⟩,r⟩
 |own y=>obtain⟨ob,e⟩:=x;exact⟨ob,k _ _ (.inl rfl) e⟩
 |xd fs=>obtain⟨mA,⟨od,es,ep,e,c⟩,r⟩:=x;exact⟨mA,⟨od,es,ep,k _ _ (.inl rfl) e,c⟩,r⟩
 |rng lo hi=>obtain⟨t,u,v,e⟩:=x;exact⟨t,u,v,k _ _ (.inl rfl) e⟩
 |frz ob u ih=>obtain⟨e,q⟩:=x;exact⟨k _ _ (.inl rfl) e,ih q⟩
 |tbl ps=>
  have e:h.get? a=some {cls:=.none,data:=.fields ps}:=x
  show h'.get? a=some {cls:=.none,data:=.fields ps}
  exact k a _ (.inl rfl) e
 |met f y=>
  have e:h.get? a=some (Ace (.ref f) (.ref y)):=x
  show h'.get? a=some (Ace (.ref f) (.ref y))
  exact k a _ (.inl rfl) e
 |ext φ=>obtain⟨p,⟨o,e⟩,st⟩:=x;exact⟨st _ _ p λo q=>k _ _ (.inl rfl) q,⟨o,k _ _ (.inl rfl) e⟩,st⟩
theorem HOk.lt(x:HOk P w H h)(e:H a=some o):a<h.objs.size:=(x a o e).lt
theorem HOk.fresh(x:HOk P w H h)(e:h.objs.size<=a):H a=none:=by
 cases q:H a with
 |none=>rfl
 |some u=>exact absurd (Dh (x.lt q) e) (Io _)
theorem HOk.kept(x:HOk P w H h)(k:∀b u,h.get? b=some u->h'.get? b=some u):HOk P w H h':=λa o e=>
 (x a o e).stay (λb u _ q=>k b u q) (λ_ q=>q) λ_ _ q=>q
theorem HOk.laid(x:HOk P w H h)(k:∀b u,h.get? b=some u->h'.get? b=some u)(hp:h.objs.size<=a)(new:R0 P w (upd H a o) h' a o):HOk P w (upd H a o) h':=λb u e=>by
 have hn:=x.fresh hp
 by_cases hb:b=a
 ·subst hb;rw[Ah] at e;cases e;exact new
 ·rw[Cd hb] at e
  exact(x b u e).stay (λc v _ q=>k c v q) (λc q=>by rw[Cd (FP q hn)];exact q) λc xs q=>by rw[Cd (FP q hn)];exact q
end
def Rd(H:Hp)(a:Addr)(u:HO):Prop:=H a=some u\/∃o,H a=some (.frz o u)
theorem Rd.ok{P:Program}{w:World}{H:Hp}{h:Heap}{a:Addr}{u:HO}(r:Rd H a u)(x:HOk P w H h):R0 P w H h a u:=by
 rcases r with r|⟨o,r⟩
 ·exact x a u r
 ·obtain⟨_,q⟩:=x a _ r
  exact q
def Mut:Option HO->Prop
 |some (.lst _)=>True
 |some (.dK _)=>True
 |some (.dT _)=>True
 |some (.set _ _)=>True
 |some (.ins _ _ _)=>True
 |some (.ext _)=>True
 |_=>False
section
variable {P:Program}{w:World}{H:Hp}{h h':Heap}{x e:Addr}{o':HO}
theorem HOk.write(ok:HOk P w H h)(mu:Mut (H x))(he:e=x\/H e=some (.own x))(k:∀b u,b≠e->h.get? b=some u->h'.get? b=some u)(heo:∃u,h'.get? e=some u)
  (new:R0 P w (upd H x o') h' x o'):HOk P w (upd H x o') h':=λb u q=>by
 have Cdu:∀c y,H c=some (.own y)->c≠x:=λc y r z=>by subst z;rw[r] at mu;exact mu
 have Cfd:∀c xs,H c=some (.tup xs)->c≠x:=λc xs r z=>by subst z;rw[r] at mu;exact mu
 by_cases hb:b=x
 ·subst hb;rw[Ah] at q;cases q;exact new
 ·rw[Cd hb] at q
  by_cases hbe:b=e
  ·have q':H b=some (.own x):=by
    rcases he with z|z
    ·exact absurd (hbe.trans z) hb
    ·rw[hbe];exact z
   rw[q] at q';cases q'
   obtain⟨v,hv⟩:=heo
   exact⟨v,by rw[hbe];exact hv⟩
  ·refine(ok b u q).stay (λc v hc r=>k c v ?_ r) (λc r=>by rw[Cd (Cdu c b r)];exact r) λc xs r=>by rw[Cd (Cfd c xs r)];exact r
   rcases hc with rfl|hc
   ·exact hbe
   ·rintro rfl
    rcases he with z|z
    ·exact Cdu c b hc z
    ·rw[hc] at z;cases z;exact hb rfl
end
structure Un(fs ex:List Addr)(H H':Hp)(h h':Heap):Prop where
 keep:∀b o,h.get? b=some o->H b=none->b∉fs->b∉ex->h'.get? b=some o
 slot:∀b o,h.get? b=some o->H b=none->b∈fs->b∉ex->∃sl,h'.get? b=some {o with slots:=sl}
 free:∀b o,h.get? b=some o->H b=none->b∉ex->H' b=none
 there:∀b o,h.get? b=some o->b∉ex->∃o',h'.get? b=some o'
 tups:∀b xs,H b=some (.tup xs)->H' b=some (.tup xs)
 Bdb:∀b o u,H b=some (.frz o u)->H' b=some (.frz o u)
 Bew:∀b ps,H b=some (.tbl ps)->∃more,H' b=some (.tbl (ps++more))
section
variable {fs fs' ex ex':List Addr}{H H1 H2:Hp}{h h1 h2 h':Heap}{a x e:Addr}{o:HO}
theorem Un.any(u:Un fs ex H H1 h h1){b:Addr}{ob:Obj}(q:h.get? b=some ob)(n:H b=none)(hx:b∉ex):∃sl,h1.get? b=some {ob with slots:=sl}:=by
 by_cases hb:b∈fs
 ·exact u.slot b ob q n hb hx
 ·exact⟨ob.slots,u.keep b ob q n hb hx⟩
theorem Un.kept(k:∀b u,h.get? b=some u->h'.get? b=some u):Un fs ex H H h h':=
 ⟨λb ob q _ _ _=>k b ob q,λb ob q _ _ _=>⟨ob.slots,k b ob q⟩,λ_ _ _ n _=>n,λb ob q _=>⟨ob,k b ob q⟩,λ_ _ q=>q,λ_ _ _ q=>q,λ_ ps q=>⟨#[],by rw[q];simp⟩⟩
theorem Un.refl:Un fs ex H H h h:=Un.kept λ_ _ q=>q
theorem Un.laid(k:∀b u,h.get? b=some u->h'.get? b=some u)(hp:h.objs.size<=a)(hn:H a=none):Un fs ex H (upd H a o) h h' where
 keep:=λb u q _ _ _=>k b u q
 slot:=λb u q _ _ _=>⟨u.slots,k b u q⟩
 free:=λb u q n _=>by rw[Cd (Fd (Dh (CN q) hp))];exact n
 there:=λb u q _=>⟨u,k b u q⟩
 tups:=λb xs q=>by rw[Cd (FP q hn)];exact q
 Bdb:=λb u xs q=>by rw[Cd (FP q hn)];exact q
 Bew:=λb ps q=>⟨#[],by rw[Cd (FP q hn),q];simp⟩
theorem Un.write(mu:Mut (H x))(he:e=x\/H e=some (.own x))(k:∀b u,b≠e->h.get? b=some u->h'.get? b=some u)(heo:∃u,h'.get? e=some u):Un fs ex H (upd H x o) h h':=by
 have hx:∀b,H b=none->b≠x:=λb n z=>by subst z;rw[n] at mu;exact mu
 have hb:∀b,H b=none->b≠e:=λb n z=>by
  subst z
  rcases he with r|r
  ·exact hx b n r
  ·rw[n] at r;cases r
 have hm:∀b u,H b=some u->¬Mut (some u)->b≠x:=λb u q nm z=>by subst z;rw[q] at mu;exact nm mu
 refine⟨λb u q n _ _=>k b u (hb b n) q,λb u q n _ _=>⟨u.slots,k b u (hb b n) q⟩,λb u q n _=>by rw[Cd (hx b n)];exact n,λb u q _=>?_,
  λb xs q=>by rw[Cd (hm b _ q λz=>z)];exact q,λb u xs q=>by rw[Cd (hm b _ q λz=>z)];exact q,λb ps q=>⟨#[],by rw[Cd (hm b _ q λz=>z),q];simp⟩⟩
 by_cases hbe:b=e
 ·subst hbe;exact heo
 ·exact⟨u,k b u hbe q⟩
end
def trk(h:Heap)(H:Hp):List Addr:=(FJ h.objs.size).filter λa=>(H a).isSome
def Bdm(h:Heap)(H:Hp):Heap:=PySem.W.hideAll h (trk h H)
theorem Bt3(h:Heap)(H:Hp):(Bdm h H).objs.size=h.objs.size:=PySem.W.hideAll_size _ _
theorem Bws{h:Heap}{H:Hp}{b:Addr}{o:Obj}(e:h.get? b=some o)(n:H b=none):(Bdm h H).get? b=some o:=
 PySem.W.hideAll_get _ e λhm=>by
  have q:(H b).isSome=true:=(DP.mp hm).2
  rw[n] at q;simp at q
theorem Bzx{h:Heap}{H:Hp}{b:Addr}{o:Obj}(e:(Bdm h H).get? b=some o):h.get? b=some o/\H b=none:=by
 have e':h.get? b=some o:=PySem.W.of_hideAll (trk h H) e
 refine⟨e',?_⟩
 cases q:H b with
 |none=>rfl
 |some x=>
  have hm:b∈trk h H:=DP.mpr ⟨O4.mpr (CN e'),by simp [q]⟩
  have z:(Bdm h H).get? b=none:=PySem.W.hideAll_none (trk h H) hm
  rw[z] at e;cases e
end L2
namespace L2
open PySem PySem.Spec PyProof.Rows
structure Mod(K:Frag)(mg:Str->Option Value)(base:Heap):Prop where
 kin:K.In base
 glob:base.Ns mainGlobals mg
 blt:∃mb,base.Ns builtinsNs mb/\∀x:Str,x≠"__name__"->mb x=bootBuiltins x
 nolimit:base.NoLimit
structure Cx where
 prog:Program
 w:World
 K:Frag
 mg:Str->Option Value
 base:Heap
 A:Around
 N:List Str
 s_0:Shared
 H_0:Hp
 env:Env
 outer:List Env
 stack:List Env
 ex:List Addr
 fn:Str->Bool
 calm:Bool
 pn:List (Addr×Obj)
 xe:Value->Shared->Prop
def frs(l:List Env):List Addr:=l.filterMap (·.frame)
abbrev Cx.fs(X:Cx):List Addr:=frs X.outer
def Vis(sc:Scope)(x:Str):Prop:=sc.names.lookup x=some .local\/sc.names.lookup x=some .cell\/sc.names.lookup x=some .free
def Loc(sc:Scope)(x:Str):Prop:=sc.names.lookup x=some .local\/sc.names.lookup x=some .cell
def Look(env:Env)(h:Heap)(m:Str->Option Value)(x:Str)(u:Value):Prop:=
 (env.kindOf x=some .local/\m x=some u)\/((env.kindOf x=some .cell\/env.kindOf x=some .free)/\∃c,env.cells.lookup x=some c/\h.IsCell c (some u))
structure Cx.Ok(X:Cx):Prop where
 mod:Mod X.K X.mg X.base
 kind:X.env.scope.kind=.function
 glob:X.env.globals=mainGlobals
 blt:X.env.builtins=builtinsNs
 above:X.s_0.heap.objs.size<=X.env.locals
 inj:∀x y c,X.env.cells.lookup x=some c->X.env.cells.lookup y=some c->x=y
 has:∀x,(X.env.kindOf x=some .cell\/X.env.kindOf x=some .free)->∃c,X.env.cells.lookup x=some c
 cab:∀x c,X.fn x=true->X.env.cells.lookup x=some c->X.s_0.heap.objs.size<=c
 hd:X.calm=true->X.A.handled=none
 frames:X.A.frames=some X.stack
 stk:X.stack=X.outer\/(X.stack=X.env::X.outer/\X.env.frame=some X.env.locals)
 exf:∀b∈X.ex,b≠X.env.locals/\∀x c,X.env.cells.lookup x=some c->c≠b
 bs:∀b o,X.base.get? b=some o->X.s_0.heap.get? b=some o/\X.H_0 b=none
 bsz:X.base.objs.size<=X.s_0.heap.objs.size
 Bxg:∀b o,X.base.get? b=some o->b∉X.ex
 Bwh:∀b∈X.ex,b∉X.fs
 Ao6:X.s_0.heap.FunFrames X.base X.outer
 frf:∀b∈X.fs,X.H_0 b=none
structure Inv(X:Cx)(pins:List (Addr×Obj))(σ:List (Option V))(H:Hp)(s:Shared):Prop where
 ok:X.Ok
 os:s.os=X.s_0.os
 bare:AllBare s.gens
 base:Un X.fs X.ex X.H_0 H X.s_0.heap s.heap
 loc:∃m,s.heap.Ns X.env.locals m/\∀(i:Nat) (x:Str) (v:V),X.N[i]?=some x->σ[i]?=some (some v)->Vis X.env.scope x->∃u,RelV v u/\Look X.env s.heap m x u
 cell:∀x c,X.env.cells.lookup x=some c->∃v,s.heap.IsCell c v
 free:H X.env.locals=none
 Ai3:∀x c,X.env.cells.lookup x=some c->H c=none
 pin:∀p∈X.pn++pins,s.heap.get? p.1=some p.2/\H p.1=none/\p.1≠X.env.locals/\p.1∉X.fs/\∀v,p.2.data≠.cell v
 hok:HOk X.prog X.w H s.heap
 len:σ.length=X.N.length
section
variable {X:Cx}{pins:List (Addr×Obj)}{σ:List (Option V)}{H H':Hp}{s:Shared}{h':Heap}
theorem Cx.Ok.Cfb(ok:X.Ok){b:Addr}{o:Obj}(e:X.base.get? b=some o):b∉X.fs:=λhb=>by
 have:=(ok.Ao6.mem hb).1
 rw[e] at this;cases this
theorem Inv.bs(I:Inv X pins σ H s):∀b o,X.base.get? b=some o->s.heap.get? b=some o/\H b=none:=λb o e=>
 ⟨I.base.keep b o (I.ok.bs b o e).1 (I.ok.bs b o e).2 (I.ok.Cfb e) (I.ok.Bxg b o e),I.base.free b o (I.ok.bs b o e).1 (I.ok.bs b o e).2 (I.ok.Bxg b o e)⟩
theorem Inv.bk(I:Inv X pins σ H s):∀b o,X.base.get? b=some o->s.heap.get? b=some o:=λb o e=>(I.bs b o e).1
theorem Inv.mod(I:Inv X pins σ H s):Mod X.K X.mg X.base:=I.ok.mod
theorem Inv.kIn(I:Inv X pins σ H s):X.K.In s.heap:=I.ok.mod.kin.keeps I.bk
theorem Inv.lt(I:Inv X pins σ H s):X.env.locals<s.heap.objs.size:=let⟨_,hn,_⟩:=I.loc;hn.lt
theorem Inv.sz(I:Inv X pins σ H s):X.s_0.heap.objs.size<=s.heap.objs.size:=Az I.ok.above (Jr I.lt)
theorem Inv.Cfc(I:Inv X pins σ H s){a:Addr}(h:s.heap.objs.size<=a):a∉X.fs:=λhb=>by
 obtain⟨_,o,ho,_⟩:=I.ok.Ao6.mem hb
 exact absurd (Dh (CN ho) (Az I.sz h)) (Io _)
theorem Inv.cne(I:Inv X pins σ H s):∀x c,X.env.cells.lookup x=some c->c≠X.env.locals:=λx c e z=>by
 obtain⟨v,o,ho,hd⟩:=I.cell x c e
 obtain⟨m,⟨o',es,ep,ho',hd',_⟩,_⟩:=I.loc
 rw[z,ho'] at ho;cases ho;rw[hd'] at hd;cases hd
theorem Inv.Ao6(I:Inv X pins σ H s):s.heap.FunFrames X.base X.outer:=by
 have all:∀(l:List Env),(∀b∈frs l,b∈X.fs)->X.s_0.heap.FunFrames X.base l->s.heap.FunFrames X.base l:=by
  intro l
  induction l with
  |nil=>intro _ _;trivial
  |cons env r ih=>
   intro hs hl
   obtain⟨hk,⟨L,o,hf,hn,ho,hd⟩,hr⟩:=hl
   have hL:L∈X.fs:=hs L (by unfold frs;rw[R5,hf];exact Bl)
   obtain⟨sl,e⟩:=I.base.slot L o ho (I.ok.frf L hL) hL λz=>I.ok.Bwh L z hL
   exact⟨hk,⟨L,_,hf,hn,e,hd⟩,ih (λb hb=>hs b (by unfold frs;rw[R5,hf];exact Bh _ hb)) hr⟩
 exact all X.outer (λ_ hb=>hb) I.ok.Ao6
theorem Inv.stack(I:Inv X pins σ H s):s.heap.FunFrames X.base X.stack:=by
 rcases I.ok.stk with e|⟨e,hf⟩
 ·rw[e];exact I.Ao6
 ·rw[e]
  obtain⟨m,hn,_⟩:=I.loc
  refine .cons (by rw[I.ok.kind];decide) hf hn ?_ I.Ao6
  exact Akm (Az I.ok.bsz I.ok.above)
theorem Inv.Bk2(I:Inv X pins σ H s):∀b∈frs X.stack,b∈X.env.locals::X.fs:=λb hb=>by
 rcases I.ok.stk with e|⟨e,hf⟩
 ·rw[e] at hb;exact Bh _ hb
 ·rw[e] at hb
  unfold frs at hb
  rw[R5,hf] at hb
  exact hb
theorem Inv.Bs6(I:Inv X pins σ H s):∀b∈frs X.stack,H b=none:=λb hb=>by
 rcases BP.mp (I.Bk2 b hb) with e|hb
 ·rw[e];exact I.free
 ·obtain⟨_,o,ho,_⟩:=I.ok.Ao6.mem hb
  exact I.base.free b o ho (I.ok.frf b hb) λz=>I.ok.Bwh b z hb
theorem Inv.step{g':Array GenState}{t':Nat}{d':Drawn}{ch:List Addr}(I:Inv X pins σ H s)
  (hch:∀b∈ch,(b∈X.ex\/X.s_0.heap.objs.size<=b)/\b≠X.env.locals/\(∀x c,X.env.cells.lookup x=some c->c≠b)/\∀p∈X.pn++pins,p.1≠b)
  (keep:∀b o,b≠X.env.locals->b∉X.fs->b∉ch->s.heap.get? b=some o->H b=none->h'.get? b=some o)
  (slot:∀b o,b≠X.env.locals->b∈X.fs->b∉ch->s.heap.get? b=some o->H b=none->∃sl,h'.get? b=some {o with slots:=sl}) (free:∀b o,b∉ch->s.heap.get? b=some o->H b=none->H' b=none)
  (there:∀b o,b∉ch->s.heap.get? b=some o->∃o',h'.get? b=some o')
  (tups:∀b xs,H b=some (.tup xs)->H' b=some (.tup xs)) (Bdb:∀b o u,H b=some (.frz o u)->H' b=some (.frz o u)) (Bew:∀b ps,H b=some (.tbl ps)->∃more,H' b=some (.tbl (ps++more)))
  (ns:∀m,s.heap.Ns X.env.locals m->h'.Ns X.env.locals m) (hok:HOk X.prog X.w H' h') (hg:AllBare g'):
  Inv X pins σ H' {s with heap:=h',gens:=g',drawn:=d',toks:=t'}:=by
 have neL:∀b o,X.s_0.heap.get? b=some o->b≠X.env.locals:=λb o e=>Fd (Dh (CN e) I.ok.above)
 have neC:∀b o,X.s_0.heap.get? b=some o->b∉X.ex->b∉ch:=λb o e hx hb=>by
  rcases(hch b hb).1 with z|z
  ·exact hx z
  ·exact absurd (Dh (CN e) z) (Io _)
 have cellK:∀x c,X.env.cells.lookup x=some c->∀v,s.heap.IsCell c v->h'.IsCell c v:=λx c e v ⟨o,ho,hd⟩=>by
  have nch:c∉ch:=λz=>(hch c z).2.2.1 x c e rfl
  by_cases hc:c∈X.fs
  ·obtain⟨sl,q⟩:=slot c o (I.cne x c e) hc nch ho (I.Ai3 x c e)
   exact⟨_,q,hd⟩
  ·exact⟨o,keep c o (I.cne x c e) hc nch ho (I.Ai3 x c e),hd⟩
 refine⟨I.ok,I.os,hg,⟨λb o e n hb hx=>?_,λb o e n hb hx=>?_,λb o e n hx=>?_,λb o e hx=>?_,λb xs e=>tups b xs (I.base.tups b xs e),λb o xs e=>Bdb b o xs (I.base.Bdb b o xs e),λb ps e=>?_⟩,?_,λx c e=>?_,?_,λx c e=>?_,λp hp=>?_,hok,I.len⟩
 ·exact keep b o (neL b o e) hb (neC b o e hx) (I.base.keep b o e n hb hx) (I.base.free b o e n hx)
 ·obtain⟨sl,e1⟩:=I.base.slot b o e n hb hx
  obtain⟨sl',e2⟩:=slot b _ (neL b o e) hb (neC b o e hx) e1 (I.base.free b o e n hx)
  exact⟨sl',e2⟩
 ·obtain⟨o',e1⟩:=I.base.there b o e hx
  exact free b o' (neC b o e hx) e1 (I.base.free b o e n hx)
 ·obtain⟨o',e1⟩:=I.base.there b o e hx
  exact there b o' (neC b o e hx) e1
 ·obtain⟨m1,e1⟩:=I.base.Bew b ps e
  obtain⟨m2,e2⟩:=Bew b _ e1
  exact⟨m1++m2,by rw[e2,Array.append_assoc]⟩
 ·obtain⟨m,hn,hl⟩:=I.loc
  refine⟨m,ns m hn,λi x v e1 e2 e3=>?_⟩
  obtain⟨u,r,l⟩:=hl i x v e1 e2 e3
  refine⟨u,r,?_⟩
  rcases l with l|⟨k,c,e,z⟩
  ·exact .inl l
  ·exact .inr ⟨k,c,e,cellK x c e _ z⟩
 ·obtain⟨v,z⟩:=I.cell x c e
  exact⟨v,cellK x c e v z⟩
 ·obtain⟨m,⟨o,_,_,ho,_⟩,_⟩:=I.loc
  exact free _ o (λz=>(hch _ z).2.1 rfl) ho I.free
 ·obtain⟨v,o,ho,hd⟩:=I.cell x c e
  exact free c o (λz=>(hch c z).2.2.1 x c e rfl) ho (I.Ai3 x c e)
 ·obtain⟨e,n,ne,nf,d⟩:=I.pin p hp
  have nch:p.1∉ch:=λz=>(hch p.1 z).2.2.2 p hp rfl
  exact⟨keep p.1 p.2 ne nf nch e n,free p.1 p.2 nch e n,ne,nf,d⟩
theorem Inv.un{t':Nat}(I:Inv X pins σ H s)(u:Un X.fs [] H H' s.heap h')(hok:HOk X.prog X.w H' h'):Inv X pins σ H' {s with heap:=h',toks:=t'}:=by
 obtain⟨m,⟨o,es,ep,ho,r⟩,_⟩:=id I.loc
 obtain⟨sl,hL⟩:=u.any ho I.free (by simp)
 exact I.step (g':=s.gens) (d':=s.drawn) (ch:=[]) (λ_ z=>nomatch z) (λb o _ hb _ e n=>u.keep b o e n hb (by simp)) (λb o _ hb _ e n=>u.slot b o e n hb (by simp)) (λb o _ e n=>u.free b o e n (by simp)) (λb o _ e=>u.there b o e (by simp)) u.tups u.Bdb u.Bew (λm' hm=>by
  obtain⟨o',es',ep',ho',r'⟩:=hm
  rw[ho] at ho';cases ho'
  exact⟨_,es',ep',hL,r'⟩) hok I.bare
theorem Inv.call{g':Array GenState}{t':Nat}{d':Drawn}{ch:List Addr}(I:Inv X pins σ H s)(u:Un (frs X.stack) ch H H' s.heap h')(hok:HOk X.prog X.w H' h')(hg:AllBare g')
  (hch:∀b∈ch,(b∈X.ex\/X.s_0.heap.objs.size<=b)/\b≠X.env.locals/\(∀x c,X.env.cells.lookup x=some c->c≠b)/\∀p∈X.pn++pins,p.1≠b):
  Inv X pins σ H' {s with heap:=h',gens:=g',drawn:=d',toks:=t'}:=by
 obtain⟨m,⟨o,es,ep,ho,r⟩,_⟩:=id I.loc
 obtain⟨sl,hL⟩:=u.any ho I.free λz=>(hch _ z).2.1 rfl
 exact I.step (ch:=ch) hch (λb o hL hb hc e n=>u.keep b o e n (λz=>(BP.mp (I.Bk2 b z)).elim hL hb) hc) (λb o _ _ hc e n=>u.any e n hc) (λb o hc e n=>u.free b o e n hc) (λb o hc e=>u.there b o e hc) u.tups u.Bdb u.Bew (λm' hm=>by
  obtain⟨o',es',ep',ho',r'⟩:=hm
  rw[ho] at ho';cases ho'
  exact⟨_,es',ep',hL,r'⟩) hok hg
theorem Inv.turned{t':Nat}{it:Addr}(I:Inv X pins σ H s)(k:∀b o,b≠it->s.heap.get? b=some o->h'.get? b=some o)(hn:H it=none)(hL:it≠X.env.locals)
  (h1:it∈X.ex\/X.s_0.heap.objs.size<=it) (h2:∀x c,X.env.cells.lookup x=some c->c≠it) (h3:∀p∈X.pn++pins,p.1≠it):Inv X pins σ H {s with heap:=h',toks:=t'}:=by
 have nit:∀b u,H b=some u->b≠it:=λb u e z=>by rw[z,hn] at e;cases e
 refine I.step (g':=s.gens) (d':=s.drawn) (ch:=[it]) (λb hb=>?_) (λb o _ _ hc e _=>k b o (λz=>hc (by simp [z])) e) (λb o _ _ hc e _=>⟨o.slots,k b o (λz=>hc (by simp [z])) e⟩) (λ_ _ _ _ n=>n)
  (λb o hc e=>⟨o,k b o (λz=>hc (by simp [z])) e⟩) (λ_ _ e=>e) (λ_ _ _ e=>e) (λb ps e=>⟨#[],by rw[e];simp⟩) (λm hm=>?_) (λb u e=>?_) I.bare
 ·have e:b=it:=by simpa using hb
  subst e
  exact⟨h1,hL,h2,h3⟩
 ·obtain⟨o,es,ep,ho,r⟩:=hm
  exact⟨o,es,ep,k _ o (Js hL) ho,r⟩
 ·refine(I.hok b u e).stay (λc v hc q=>k c v ?_ q) (λ_ q=>q) λ_ _ q=>q
  rcases hc with z|z
  ·rw[z];exact nit b u e
  ·exact nit c _ z
theorem Inv.tok(I:Inv X pins σ H s)(t:Nat):Inv X pins σ H {s with toks:=t}:=I.un (h':=s.heap) (t':=t) Un.refl I.hok
theorem Inv.kept{t':Nat}(I:Inv X pins σ H s)(k:∀b u,s.heap.get? b=some u->h'.get? b=some u):Inv X pins σ H {s with heap:=h',toks:=t'}:=I.un (Un.kept k) (I.hok.kept k)
theorem Inv.laid{a:Addr}{o:HO}{t':Nat}(I:Inv X pins σ H s)(k:∀b u,s.heap.get? b=some u->h'.get? b=some u)(hp:s.heap.objs.size<=a)(new:R0 X.prog X.w (upd H a o) h' a o):
  Inv X pins σ (upd H a o) {s with heap:=h',toks:=t'}:=I.un (Un.laid k hp (I.hok.fresh hp)) (I.hok.laid k hp new)
theorem Inv.write{x e:Addr}{o:HO}{t':Nat}(I:Inv X pins σ H s)(mu:Mut (H x))(he:e=x\/H e=some (.own x))(k:∀b u,b≠e->s.heap.get? b=some u->h'.get? b=some u)(heo:∃u,h'.get? e=some u)
  (new:R0 X.prog X.w (upd H x o) h' x o):Inv X pins σ (upd H x o) {s with heap:=h',toks:=t'}:=I.un (Un.write mu he k heo) (I.hok.write mu he k heo new)
theorem Inv.weak{σ':List (Option V)}(I:Inv X pins σ H s)(hl:σ'.length=σ.length)(w:∀(i:Nat) v,σ'[i]?=some (some v)->σ[i]?=some (some v)):Inv X pins σ' H s:=
 ⟨I.ok,I.os,I.bare,I.base,let⟨m,hn,hl'⟩:=I.loc;⟨m,hn,λi x v e1 e2 e3=>hl' i x v e1 (w i v e2) e3⟩,I.cell,I.free,I.Ai3,I.pin,I.hok,hl.trans I.len⟩
theorem Inv.Aol{Ca3:List (Addr×Obj)}(I:Inv X pins σ H s)(h:∀p∈Ca3,s.heap.get? p.1=some p.2/\H p.1=none/\p.1≠X.env.locals/\p.1∉X.fs/\∀v,p.2.data≠.cell v):Inv X Ca3 σ H s:=
 ⟨I.ok,I.os,I.bare,I.base,I.loc,I.cell,I.free,I.Ai3,λp hp=>(Bw.mp hp).elim (λz=>I.pin p (GP _ z)) (h p),I.hok,I.len⟩
theorem Bd3{N:List Str}(hN:N.Nodup){i j:Nat}{x:Str}(a:N[i]?=some x)(b:N[j]?=some x):i=j:=by
 obtain⟨h1,e1⟩:=BL.mp a
 obtain⟨h2,e2⟩:=BL.mp b
 exact(List.getElem_inj hN).mp (e1.trans e2.symm)
theorem Bii{M:Model}{A:Around}{E:Value->Shared->Prop}{i:Nat}{x:Str}{v:V}{u:Value}{Q:Unit->Shared->Prop}(I:Inv X pins σ H s)(hN:X.N.Nodup)(hi:X.N[i]?=some x)(hx:Loc X.env.scope x)(r:RelV v u)
  (h:∀s',Inv X pins (σ.set i (some v)) H s'->(∃a,Agm a s.heap s'.heap/\(a=X.env.locals\/X.env.cells.lookup x=some a))->Q () s') (hf:X.fn x=true\/X.env.scope.names.lookup x=some .local:=by first|exact .inl rfl|exact .inr rfl|assumption):wpAny M A (storeName X.env x u) Q E s:=by
 obtain⟨m,hn,hl⟩:=id I.loc
 have hcls:(X.env.scope.kind==.class||(X.env.scope.kind==.module&&X.env.locals !=X.env.globals))=false:=by rw[I.ok.kind];rfl
 have hiσ:i<σ.length:=by rw[I.len];exact(BL.mp hi).1
 have cne:=I.cne
 have tracked:∀{a:Addr} {h':Heap},(∃o,s.heap.get? a=some o/\H a=none)->Agm a s.heap h'->HOk X.prog X.w H h':=λ{a h'} ha hs b ob e=>by
  obtain⟨_,_,hfree⟩:=ha
  refine(I.hok b ob e).stay (λc w' hc q=>(hs.2 c ?_).trans q) (λ_ q=>q) λ_ _ q=>q
  rintro rfl
  rcases hc with rfl|hc
  ·rw[hfree] at e;cases e
  ·rw[hfree] at hc;cases hc
 rcases hx with hk|hk
 ·refine wpAny_storeName_local hk hn (λh' hn' hs=>?_) hcls
  obtain⟨oL,_,_,hoL,_⟩:=id hn
  refine h _ ⟨I.ok,I.os,I.bare,⟨λb o e n hb hx=>?_,λb o e n hb hx=>?_,I.base.free,λb o e hx=>?_,I.base.tups,I.base.Bdb,I.base.Bew⟩,⟨_,hn',λj y v' e1 e2 e3=>?_⟩,λy c e=>?_,I.free,I.Ai3,λp hp=>?_,tracked ⟨oL,hoL,I.free⟩ hs,by simpa using I.len⟩ ⟨_,hs,.inl rfl⟩
  ·exact(hs.2 b (Fd (Dh (CN e) I.ok.above))).trans (I.base.keep b o e n hb hx)
  ·obtain⟨sl,e1⟩:=I.base.slot b o e n hb hx
   exact⟨sl,(hs.2 b (Fd (Dh (CN e) I.ok.above))).trans e1⟩
  ·obtain⟨o',e1⟩:=I.base.there b o e hx
   exact⟨o',(hs.2 b (Fd (Dh (CN e) I.ok.above))).trans e1⟩
  ·by_cases hj:j=i
   ·subst hj
    rw[hi] at e1;cases e1
    rw[Mi hiσ] at e2
    cases e2
    exact⟨u,r,.inl ⟨hk,by simp⟩⟩
   ·rw[Xj (Js hj)] at e2
    obtain⟨u',r',q⟩:=hl j y v' e1 e2 e3
    refine⟨u',r',?_⟩
    rcases q with⟨k,e⟩|⟨k,c,e,z⟩
    ·refine .inl ⟨k,?_⟩
     have:y≠x:=λe=>hj (Bd3 hN e1 (e▸hi))
     simp [this,e]
    ·exact .inr ⟨k,c,e,z.sameBut hs (cne y c e)⟩
  ·obtain⟨w',z⟩:=I.cell y c e
   exact⟨w',z.sameBut hs (cne y c e)⟩
  ·obtain⟨e,n,ne,nf,d⟩:=I.pin p hp
   exact⟨(hs.2 p.1 ne).trans e,n,ne,nf,d⟩
 ·have hfn:X.fn x=true:=by
   rcases hf with z|z
   ·exact z
   ·rw[z] at hk;cases hk
  obtain⟨c,hc⟩:=I.ok.has x (.inl hk)
  obtain⟨w',z⟩:=I.cell x c hc
  refine wpAny_storeName_cell I.ok.kind hk hc z (λh' hc' hs=>?_)
  obtain⟨oc,hoc,Cbk⟩:=id z
  refine h {s with heap:=h'} ⟨I.ok,I.os,I.bare,⟨λb o e n hb hx=>?_,λb o e n hb hx=>?_,I.base.free,λb o e hx=>?_,I.base.tups,I.base.Bdb,I.base.Bew⟩,⟨m,hn.sameBut hs (Js (cne x c hc)),λj y v' e1 e2 e3=>?_⟩,λy c' e=>?_,I.free,I.Ai3,λp hp=>?_,tracked ⟨oc,hoc,I.Ai3 x c hc⟩ hs,by simpa using I.len⟩ ⟨c,hs,.inr hc⟩
  ·exact(hs.2 b (Fd (Dh (CN e) (I.ok.cab x c hfn hc)))).trans (I.base.keep b o e n hb hx)
  ·obtain⟨sl,e1⟩:=I.base.slot b o e n hb hx
   exact⟨sl,(hs.2 b (Fd (Dh (CN e) (I.ok.cab x c hfn hc)))).trans e1⟩
  ·obtain⟨o',e1⟩:=I.base.there b o e hx
   exact⟨o',(hs.2 b (Fd (Dh (CN e) (I.ok.cab x c hfn hc)))).trans e1⟩
  ·by_cases hj:j=i
   ·subst hj
    rw[hi] at e1;cases e1
    rw[Mi hiσ] at e2
    cases e2
    exact⟨u,r,.inr ⟨.inl hk,c,hc,hc'⟩⟩
   ·rw[Xj (Js hj)] at e2
    obtain⟨u',r',q⟩:=hl j y v' e1 e2 e3
    refine⟨u',r',?_⟩
    rcases q with q|⟨k,c',e,z'⟩
    ·exact .inl q
    ·refine .inr ⟨k,c',e,z'.sameBut hs ?_⟩
     rintro rfl
     exact hj (Bd3 hN e1 (I.ok.inj _ _ _ e hc▸hi))
  ·by_cases hcc:c'=c
   ·subst hcc;exact⟨_,hc'⟩
   ·obtain⟨w2,z2⟩:=I.cell y c' e
    exact⟨w2,z2.sameBut hs hcc⟩
  ·obtain⟨e,n,ne,nf,d⟩:=I.pin p hp
   refine⟨(hs.2 p.1 ?_).trans e,n,ne,nf,d⟩
   intro q
   rw[q,hoc] at e
   have q':oc=p.2:=Ae e
   exact d w' (by rw[<-q'];exact Cbk)
theorem Bes{M:Model}{A:Around}{E:Value->Shared->Prop}{i:Nat}{x:Str}{v:V}{u:Value}{Q:Unit->Shared->Prop}(I:Inv X pins σ H s)(hN:X.N.Nodup)(hi:X.N[i]?=some x)(hx:Loc X.env.scope x)(r:RelV v u)
  (h:∀s',Inv X pins (σ.set i (some v)) H s'->Q () s') (hf:X.fn x=true\/X.env.scope.names.lookup x=some .local:=by first|exact .inl rfl|exact .inr rfl|assumption):wpAny M A (storeName X.env x u) Q E s:=
 Bii I hN hi hx r (λs' I' _=>h s' I') hf
theorem Inv.call'{s':Shared}{ch:List Addr}(I:Inv X pins σ H s)(ho:s'.os=s.os)(u:Un (frs X.stack) ch H H' s.heap s'.heap)(hok:HOk X.prog X.w H' s'.heap)(hg:AllBare s'.gens)
  (hch:∀b∈ch,(b∈X.ex\/X.s_0.heap.objs.size<=b)/\b≠X.env.locals/\(∀x c,X.env.cells.lookup x=some c->c≠b)/\∀p∈X.pn++pins,p.1≠b):Inv X pins σ H' s':=by
 obtain⟨h',g',d',t',o'⟩:=s'
 have e:o'=s.os:=ho
 subst e
 exact I.call (g':=g') (t':=t') (d':=d') u hok hg hch
end
abbrev XK:=Value->Option Addr->Hp->Prop
abbrev St:=List (Option V)
abbrev VK:=V->Hp->Prop
abbrev TE:=St->Hp->VK->Prop
abbrev TT:=St->Hp->(Bool->Hp->Prop)->Prop
abbrev TA:=St->Hp->(List V->Hp->Prop)->Prop
structure Ends where
 nx:St->Hp->Prop
 rt:VK
 bk:St->Hp->Prop:=λ_ _=>False
 ct:St->Hp->Prop:=λ_ _=>False
abbrev TS:=Ends->St->Hp->Prop
def EP(X:Cx)(pins:List (Addr×Obj))(σ:St)(Q:VK)(u:Value)(s':Shared):Prop:=∃v H',Inv X pins σ H' s'/\RelV v u/\Q v H'
def TP(X:Cx)(pins:List (Addr×Obj))(σ:St)(Q:Bool->Hp->Prop)(b:Bool)(s':Shared):Prop:=∃H',Inv X pins σ H' s'/\Q b H'
def AP(X:Cx)(pins:List (Addr×Obj))(σ:St)(Q:List V->Hp->Prop)(us:List Value)(s':Shared):Prop:=∃vs H',Inv X pins σ H' s'/\Vals vs us/\Q vs H'
def SP(X:Cx)(pins:List (Addr×Obj))(D:Ends)(f:Flow)(s':Shared):Prop:=
 match f with
 |.next=>∃σ' H',Inv X pins σ' H' s'/\D.nx σ' H'
 |.brk=>∃σ' H',Inv X pins σ' H' s'/\D.bk σ' H'
 |.cont=>∃σ' H',Inv X pins σ' H' s'/\D.ct σ' H'
 |.ret u=>∃v σ' H',Inv X pins σ' H' s'/\RelV v u/\D.rt v H'
def PE(X:Cx)(e:Expr)(t:TE):Prop:=
 ∀(pins:List (Addr×Obj)) (s:Shared) (σ:St) (H:Hp) (Q:VK),Inv X pins σ H s->t σ H Q->wpAny (model X.prog X.w) X.A (eval e X.env) (EP X pins σ Q) X.xe s
def PT(X:Cx)(e:Expr)(t:TT):Prop:=
 ∀(pins:List (Addr×Obj)) (s:Shared) (σ:St) (H:Hp) (Q:Bool->Hp->Prop),Inv X pins σ H s->t σ H Q->wpAny (model X.prog X.w) X.A (isTrue e X.env (eval e X.env)) (TP X pins σ Q) X.xe s
def PW(X:Cx)(e:Expr)(t:TT):Prop:=
 ∀(whole:Sem Value) (pins:List (Addr×Obj)) (s:Shared) (σ:St) (H:Hp) (Q:Bool->Hp->Prop),Inv X pins σ H s->t σ H Q->wpAny (model X.prog X.w) X.A (isTrue e X.env whole) (TP X pins σ Q) X.xe s
theorem PW.pt{X:Cx}{e:Expr}{t:TT}(h:PW X e t):PT X e t:=h _
def PA(X:Cx)(es:List Expr)(t:TA):Prop:=
 ∀(pos:Pos) (pins:List (Addr×Obj)) (s:Shared) (σ:St) (H:Hp) (Q:List V->Hp->Prop),Inv X pins σ H s->t σ H Q->wpAny (model X.prog X.w) X.A (spliced (backTo pos (starEach es X.env))) (AP X pins σ Q) X.xe s
def PS(X:Cx)(st:Stmt)(t:TS):Prop:=
 ∀(pins:List (Addr×Obj)) (s:Shared) (σ:St) (H:Hp) (D:Ends),Inv X pins σ H s->t D σ H->wpAny (model X.prog X.w) X.A (exec st X.env) (SP X pins D) X.xe s
def PSs(X:Cx)(st:List Stmt)(t:TS):Prop:=
 ∀(pins:List (Addr×Obj)) (s:Shared) (σ:St) (H:Hp) (D:Ends),Inv X pins σ H s->t D σ H->wpAny (model X.prog X.w) X.A (execs st X.env) (SP X pins D) X.xe s
theorem thn{α:Type}{t:Sem α}{Q Q':α->Shared->Prop}{M:Model}{A:Around}{E:Value->Shared->Prop}{s:Shared}(h:wpAny M A t Q E s)(hQ:∀a s,Q a s->Q' a s):wpAny M A t Q' E s:=Ks h hQ λ_ _ x=>x
end L2
namespace L2
open PySem PySem.Spec PyProof.Rows
section
variable {X:Cx}
def Al(i:Nat):TE:=λσ H Q=>∃v,σ[i]?=some (some v)/\Q v H
def tC(v:V):TE:=λ_ H Q=>Q v H
theorem Bqh{i:Nat}{x:Str}{pos:Pos}(hN:X.N[i]?=some x)(hv:Vis X.env.scope x)(hd:(x==("__debug__":Str))=false:=by decide)(hcd:(x==("__classdict__":Str))=false:=by decide):PE X (.Name x pos) (Al i):=by
 intro pins s σ H Q I h
 obtain⟨v,e,h⟩:=h
 obtain⟨m,hn,hl⟩:=I.loc
 obtain⟨u,r,l⟩:=hl i x v hN e hv
 have fin:EP X pins σ Q u s:=⟨v,H,I,r,h⟩
 rcases l with⟨hk,hm⟩|⟨hk,c,hc,hcell⟩
 ·exact Aia (X4 I.ok.kind hk hn hm fin) hd
 ·rcases hk with hk|hk
  ·exact Aia (Api I.ok.kind hk hc hcell fin) hd
  ·exact Aia (Apj I.ok.kind hk hc hcell fin hcd) hd
theorem DW{i j pos}:PE X (.Constant (.int i) j pos) (tC (.int i)):=λ_ _ _ H _ I h=>wpAny_Constant_int ⟨.int i,H,I.tok _,⟨_,rfl⟩,h⟩
theorem Al5{b j pos}:PE X (.Constant (.bool b) j pos) (tC (.bl b)):=λ_ _ _ H _ I h=>Constant_bool ⟨.bl b,H,I,rfl,h⟩
theorem Qp{j pos}:PE X (.Constant .none j pos) (tC .non):=λ_ _ _ H _ I h=>Constant_none ⟨.non,H,I,rfl,h⟩
def Gl(X:Cx)(x:Str):Prop:=X.env.kindOf x=some .globalImplicit
theorem Aof{E:Value->Shared->Prop}{pins:List (Addr×Obj)}{s:Shared}{σ:St}{H:Hp}{x:Str}{u:Value}{pos:Pos}{Q:Value->Shared->Prop}(I:Inv X pins σ H s)(hg:Gl X x)(hm:X.mg x=some u)(h:Q u s)
  (hd:(x==("__debug__":Str))=false:=by decide):wpAny (model X.prog X.w) X.A (eval (.Name x pos) X.env) Q E s:=
 Rh I.ok.kind hg (Afb (by rw[I.ok.glob];exact I.mod.glob.keeps I.bk) hm h) hd
theorem Aaq{E:Value->Shared->Prop}{pins:List (Addr×Obj)}{s:Shared}{σ:St}{H:Hp}{x:Str}{u:Value}{pos:Pos}{Q:Value->Shared->Prop}(I:Inv X pins σ H s)(hg:Gl X x)(hm:X.mg x=none)(hv:bootBuiltins x=some u)(h:Q u s)
  (hn:x≠"__name__":=by decide) (hd:(x==("__debug__":Str))=false:=by decide):wpAny (model X.prog X.w) X.A (eval (.Name x pos) X.env) Q E s:=by
 obtain⟨mb,h1,h2⟩:=I.mod.blt
 exact Rh I.ok.kind hg (Calls.loadGlobal_builtin (by rw[I.ok.glob];exact I.mod.glob.keeps I.bk) hm (by rw[I.ok.blt];exact h1.keeps I.bk) ((h2 x hn).trans hv) h) hd
theorem Bsr{x:Str}{v:V}{u:Value}{pos:Pos}(hg:Gl X x)(hm:X.mg x=some u)(r:RelV v u)(hd:(x==("__debug__":Str))=false:=by decide):PE X (.Name x pos) (tC v):=
 λ_ _ _ H _ I h=>Aof I hg hm ⟨v,H,I,r,h⟩ hd
variable {a b:Expr}{ta tb:TE}{pos:Pos}
def tB(t:TE):TT:=λσ H Q=>t σ H λx H1=>∃c,x=.bl c/\Q c H1
theorem Ij{e:Expr}{t:TE}(h:PE X e t)(he:∀whole,isTrue e X.env whole=(do let v<-whole;standAt e.pos;holding [v] (truthy v)):=by intro _;rfl):PT X e (tB t):=by
 intro pins s σ H Q I hw
 refine isTrue_plain (thn (h pins s σ H _ I hw) λv s1 ⟨x,H1,I1,r1,q1⟩=>?_) (he _)
 obtain⟨d,rfl,q⟩:=q1
 cases r1
 exact wpAny_truthy_bool ⟨H1,I1,q⟩
variable {tA tB':TT}{rest:List Expr}
def Bu3(t u:TT):TT:=λσ H Q=>t σ H λc H1=>if c=true then u σ H1 Q else Q false H1
def tOr(t u:TT):TT:=λσ H Q=>t σ H λc H1=>if c=true then Q true H1 else u σ H1 Q
def Yx(t:TT):TT:=λσ H Q=>t σ H λc H1=>Q (!c) H1
theorem Av7(ha:PT X a tA):PW X (.BoolOp .And [a] pos) tA:=by
 intro wh pins s σ H Q I h
 refine isTrue_and (thn (ha pins s σ H Q I h) λc s1 e=>?_)
 cases c with
 |true=>exact isTrue_and_nil e
 |false=>exact e
theorem Bkt(ha:PT X a tA):PW X (.BoolOp .Or [a] pos) tA:=by
 intro wh pins s σ H Q I h
 refine isTrue_or (thn (ha pins s σ H Q I h) λc s1 e=>?_)
 cases c with
 |false=>exact isTrue_or_nil e
 |true=>exact e
theorem Bem(ha:PT X a tA)(hb:PW X (.BoolOp .And (b::rest) pos) tB'):PW X (.BoolOp .And (a::b::rest) pos) (Bu3 tA tB'):=by
 intro wh pins s σ H Q I h
 refine isTrue_and (thn (ha pins s σ H _ I h) λc s1 ⟨H1,I1,q1⟩=>?_)
 cases c with
 |true=>exact hb wh pins s1 σ H1 Q I1 q1
 |false=>exact⟨H1,I1,q1⟩
theorem Bn6(ha:PT X a tA)(hb:PW X (.BoolOp .Or (b::rest) pos) tB'):PW X (.BoolOp .Or (a::b::rest) pos) (tOr tA tB'):=by
 intro wh pins s σ H Q I h
 refine isTrue_or (thn (ha pins s σ H _ I h) λc s1 ⟨H1,I1,q1⟩=>?_)
 cases c with
 |true=>exact⟨H1,I1,q1⟩
 |false=>exact hb wh pins s1 σ H1 Q I1 q1
theorem Mt(ha:PT X a tA):PT X (.UnaryOp .Not a pos) (Yx tA):=by
 intro pins s σ H Q I h
 exact isTrue_not (ha pins s σ H (λc H1=>Q (!c) H1) I h)
def tIf(t:TT)(ta tb:TE):TE:=λσ H Q=>t σ H λc H1=>if c=true then ta σ H1 Q else tb σ H1 Q
theorem Al6{c:Expr}(hc:PT X c tA)(ha:PE X a ta)(hb:PE X b tb):PE X (.IfExp c a b pos) (tIf tA ta tb):=by
 intro pins s σ H Q I h
 refine wpAny_IfExp (thn (hc pins s σ H _ I h) λd s1 ⟨H1,I1,q1⟩=>?_)
 cases d with
 |true=>exact ha pins s1 σ H1 Q I1 q1
 |false=>exact hb pins s1 σ H1 Q I1 q1
end
end L2
namespace L2
open PySem PySem.Spec PyProof.Rows
def SqL(K:Frag)(H:Hp)(a:Addr)(xs:List V):Prop:=
 Rd H a (.lst xs)\/
  ∃(o:Obj) (its:Array Value) (n:Nat),K.lookup a=some o/\o.cls=.type "list"/\o.dict=none/\o.data=.seq its n/\its.size<=sizeLine/\Vals xs its.toList
def SqT(K:Frag)(H:Hp)(a:Addr)(xs:List V):Prop:=
 Rd H a (.tup xs)\/
  ∃(o:Obj) (its:Array Value) (n:Nat),K.lookup a=some o/\o.cls=.type "tuple"/\o.data=.seq its n/\its.size<=sizeLine/\Vals xs its.toList
def Cej:Value->Option V
 |.none=>some .non
 |.bool b=>some (.bl b)
 |.int i _=>some (.int i)
 |.str x _=>some (.str x)
 |.bytes b _=>some (.byt b)
 |.float b _=>some (.flt b)
 |.ref a=>some (.ref a)
 |.type n=>some (.ty n)
 |_=>none
theorem RelV.abs{x:V}{u:Value}(r:RelV x u):Cej u=some x:=by
 cases x with
 |non=>cases r;rfl
 |bl _=>cases r;rfl
 |int _=>obtain⟨t,rfl⟩:=r;rfl
 |str _=>obtain⟨t,rfl⟩:=r;rfl
 |byt _=>obtain⟨t,rfl⟩:=r;rfl
 |flt _=>obtain⟨t,rfl⟩:=r;rfl
 |ref _=>cases r;rfl
 |ty _=>cases r;rfl
theorem RelV.inj{x y:V}{u:Value}(r:RelV x u)(q:RelV y u):x=y:=Ae (r.abs.symm.trans q.abs)
theorem Vals.inj:∀{xs ys:List V} {us:List Value},Vals xs us->Vals ys us->xs=ys
 |_,_,_,.nil,.nil=>rfl
 |_,_,_,.cons r t,.cons r' t'=>by rw[r.inj r',Vals.inj t t']
section
variable {X:Cx}{pins:List (Addr×Obj)}{σ:St}{H:Hp}{s:Shared}{a:Addr}{xs ys:List V}
theorem SqL.of{K:Frag}(h:H a=some (.lst xs)):SqL K H a xs:=.inl (.inl h)
theorem SqT.of{K:Frag}(h:H a=some (.tup xs)):SqT K H a xs:=.inl (.inl h)
theorem Inv.list(I:Inv X pins σ H s)(h:SqL X.K H a xs):∃its:List Value,Vals xs its/\PlainL s.heap a its.toArray/\xs.length<=sizeLine:=by
 rcases h with h|⟨o,its,n,hk,hc,hd,hs,hz,r⟩
 ·obtain⟨z,its,n,r,e⟩:=h.ok I.hok
  exact⟨its,r,⟨_,n,e,rfl,rfl,rfl⟩,z⟩
 ·refine⟨its.toList,r,⟨o,n,I.kIn a o hk,hc,hd,by simpa using hs⟩,?_⟩
  have e:=r.length
  simp only [Ku] at e
  omega
theorem Inv.tuple(I:Inv X pins σ H s)(h:SqT X.K H a xs):∃its:List Value,Vals xs its/\IsTup s.heap a its.toArray/\xs.length<=sizeLine:=by
 rcases h with h|⟨o,its,n,hk,hc,hs,hz,r⟩
 ·obtain⟨z,its,r,p⟩:=h.ok I.hok
  exact⟨its,r,p,z⟩
 ·refine⟨its.toList,r,⟨o,I.kIn a o hk,hc,n,by simpa using hs⟩,?_⟩
  have e:=r.length
  simp only [Ku] at e
  omega
theorem Inv.Bdx(I:Inv X pins σ H s)(h:SqL X.K H a xs)(h':SqL X.K H a ys):xs=ys:=by
 obtain⟨its,r,⟨o,n,e,_,_,d⟩,_⟩:=I.list h
 obtain⟨its',r',⟨o',n',e',_,_,d'⟩,_⟩:=I.list h'
 rw[e] at e';cases e'
 rw[d] at d'
 injection d' with d1 _
 have:its=its':=by simpa using congrArg Aty d1
 subst this
 exact r.inj r'
theorem Inv.Bvb(I:Inv X pins σ H s)(h:SqT X.K H a xs)(h':SqT X.K H a ys):xs=ys:=by
 obtain⟨its,r,⟨o,e,_,n,d⟩,_⟩:=I.tuple h
 obtain⟨its',r',⟨o',e',_,n',d'⟩,_⟩:=I.tuple h'
 rw[e] at e';cases e'
 rw[d] at d'
 injection d' with d1 _
 have:its=its':=by simpa using congrArg Aty d1
 subst this
 exact r.inj r'
end
abbrev Cx.wish(X:Cx)(E:Value->Shared->Prop):Cx:={X with xe:=E}
abbrev Cx.nox(X:Cx):Cx:=X.wish λ_ _=>False
theorem Cx.Ok.wish{X:Cx}(ok:X.Ok)(E:Value->Shared->Prop):(X.wish E).Ok:=
 ⟨ok.mod,ok.kind,ok.glob,ok.blt,ok.above,ok.inj,ok.has,ok.cab,ok.hd,ok.frames,ok.stk,ok.exf,ok.bs,ok.bsz,ok.Bxg,ok.Bwh,ok.Ao6,ok.frf⟩
theorem Cx.Ok.Anx{X:Cx}{E:Value->Shared->Prop}(ok:(X.wish E).Ok):X.Ok:=
 ⟨ok.mod,ok.kind,ok.glob,ok.blt,ok.above,ok.inj,ok.has,ok.cab,ok.hd,ok.frames,ok.stk,ok.exf,ok.bs,ok.bsz,ok.Bxg,ok.Bwh,ok.Ao6,ok.frf⟩
section
variable {X:Cx}{pins:List (Addr×Obj)}{σ:St}{H:Hp}{s:Shared}{E:Value->Shared->Prop}
theorem Inv.wish(I:Inv X pins σ H s)(E:Value->Shared->Prop):Inv (X.wish E) pins σ H s:=⟨I.ok.wish E,I.os,I.bare,I.base,I.loc,I.cell,I.free,I.Ai3,I.pin,I.hok,I.len⟩
theorem Inv.Anx(I:Inv (X.wish E) pins σ H s):Inv X pins σ H s:=⟨I.ok.Anx,I.os,I.bare,I.base,I.loc,I.cell,I.free,I.Ai3,I.pin,I.hok,I.len⟩
theorem SP.Anx{D:Ends}{f:Flow}{s':Shared}(h:SP (X.wish E) pins D f s'):SP X pins D f s':=by
 cases f with
 |next=>obtain⟨σ',H',I,q⟩:=h;exact⟨σ',H',I.Anx,q⟩
 |brk=>obtain⟨σ',H',I,q⟩:=h;exact⟨σ',H',I.Anx,q⟩
 |cont=>obtain⟨σ',H',I,q⟩:=h;exact⟨σ',H',I.Anx,q⟩
 |ret u=>obtain⟨v,σ',H',I,r,q⟩:=h;exact⟨v,σ',H',I.Anx,r,q⟩
theorem PSs.nox{st:List Stmt}{t:TS}(h:PSs X.nox st t):PSs X st t:=λpins s σ H D I hw=>
 Ks (h pins s σ H D (I.wish _) hw) (λ_ _ q=>q.Anx) λ_ _ z=>Fo z
end
section
variable {X:Cx}{st:Stmt}{rest:List Stmt}{t u:TS}{e:Expr}{te:TE}{pos:Pos}
def Gx:TS:=λD σ H=>D.nx σ H
def CW(t u:TS):TS:=λD σ H=>t {D with nx:=u D} σ H
theorem Ea:PSs X [] Gx:=λ_ _ σ H _ I h=>Yy ⟨σ,H,I,h⟩
theorem Ak(h1:PS X st t)(h2:PSs X rest u):PSs X (st::rest) (CW t u):=by
 intro pins s σ H D I h
 refine wpAny_execs_cons (thn (h1 pins s σ H {D with nx:=u D} I h) λf s1 q=>?_)
 cases f with
 |next=>
  obtain⟨σ',H',I',q⟩:=q
  exact h2 pins s1 σ' H' D I' q
 |ret v=>exact q
 |brk=>exact q
 |cont=>exact q
theorem Bc(h1:PS X st t):PSs X [st] t:=by
 intro pins s σ H D I h
 refine wpAny_execs_cons (thn (h1 pins s σ H D I h) λf s1 q=>?_)
 cases f with
 |next=>exact Yy q
 |ret v=>exact q
 |brk=>exact q
 |cont=>exact q
theorem Inv.quiet{pins:List (Addr×Obj)}{σ:St}{H:Hp}{s:Shared}(I:Inv X pins σ H s):interactive X.env=false:=by simp [interactive,I.ok.kind]
def Om(te:TE):TS:=λD σ H=>te σ H λ_ H1=>D.nx σ H1
theorem JQ(he:PE X e te)(hs:swapsWith e none pos.line X.env=pure false:=by rfl):PS X (.Expr e pos) (Om te):=by
 intro pins s σ H D I h
 exact wpAny_Expr_any (thn (he pins s σ H _ I h) λv s1 ⟨x,H1,I1,r1,q1⟩=>⟨σ,H1,I1,q1⟩) I.quiet hs
def Ey(te:TE):TS:=λD σ H=>te σ H D.rt
theorem BR(he:PE X e te):PS X (.Return (some e) pos) (Ey te):=by
 intro pins s σ H D I h
 exact wpAny_Return_some (thn (he pins s σ H _ I h) λv s1 ⟨x,H1,I1,r1,q1⟩=>⟨x,σ,H1,I1,r1,q1⟩)
def Jh(c:TT)(t u:TS):TS:=λD σ H=>c σ H λb H1=>if b=true then t D σ H1 else u D σ H1
theorem Gs{c:Expr}{a b:List Stmt}{tc:TT}(hc:PT X c tc)(ha:PSs X a t)(hb:PSs X b u):PS X (.If c a b pos) (Jh tc t u):=by
 intro pins s σ H D I h
 refine wpAny_If (thn (hc pins s σ H _ I h) λd s1 ⟨H1,I1,q1⟩=>?_)
 cases d with
 |true=>exact ha pins s1 σ H1 D I1 q1
 |false=>exact hb pins s1 σ H1 D I1 q1
end
abbrev TG:=V->St->Hp->(St->Hp->Prop)->Prop
abbrev TGs:=List V->St->Hp->(St->Hp->Prop)->Prop
def PG(X:Cx)(target:Expr)(t:TG):Prop:=
 ∀(pins:List (Addr×Obj)) (s:Shared) (σ:St) (H:Hp) (v:V) (u:Value) (Q:St->Hp->Prop),Inv X pins σ H s->RelV v u->t v σ H Q->
  wpAny (model X.prog X.w) X.A (assign target X.env u) (λ_ s'=>∃σ' H',Inv X pins σ' H' s'/\Q σ' H') X.xe s
def PGs(X:Cx)(ts:List Expr)(t:TGs):Prop:=
 ∀(pins:List (Addr×Obj)) (s:Shared) (σ:St) (H:Hp) (vs:List V) (us:List Value) (Q:St->Hp->Prop),Inv X pins σ H s->Vals vs us->t vs σ H Q->
  wpAny (model X.prog X.w) X.A (assignInOrder ((assignEach ts X.env).map (·.2)) us) (λ_ s'=>∃σ' H',Inv X pins σ' H' s'/\Q σ' H') X.xe s
abbrev Ca9:=V->V->V->Hp->(Hp->Prop)->Prop
def Ccz(X:Cx)(t:Ca9):Prop:=
 ∀(pins:List (Addr×Obj)) (s:Shared) (σ:St) (H:Hp) (o i v:V) (ov iv u:Value) (Q:Hp->Prop),Inv X pins σ H s->RelV o ov->RelV i iv->RelV v u->t o i v H Q->
  wpAny (model X.prog X.w) X.A (setItem ov iv u) (λ_ s'=>∃H',Inv X pins σ H' s'/\Q H') X.xe s
abbrev TIp:=V->V->Hp->VK->Prop
def PIp(X:Cx)(op:Operator)(t:TIp):Prop:=
 ∀(pins:List (Addr×Obj)) (s:Shared) (σ:St) (H:Hp) (x y:V) (v u:Value) (Q:VK),Inv X pins σ H s->RelV x v->RelV y u->t x y H Q->
  wpAny (model X.prog X.w) X.A (inplaceOp op v u) (EP X pins σ Q) X.xe s
section
variable {X:Cx}{pos:Pos}
def Ce(i:Nat):TG:=λv σ H Q=>Q (σ.set i (some v)) H
theorem Bst{i:Nat}{x:Str}(hN:X.N.Nodup)(hi:X.N[i]?=some x)(hx:Loc X.env.scope x)(hf:X.fn x=true\/X.env.scope.names.lookup x=some .local:=by first|exact .inl rfl|exact .inr rfl|assumption):PG X (.Name x pos) (Ce i):=by
 intro pins s σ H v u Q I r h
 exact wpAny_assign_Name (Bes I hN hi hx r (λs' I'=>⟨_,H,I',h⟩) hf)
def Bdc:TGs:=λvs σ H Q=>vs=[]/\Q σ H
def Sy(t:TG)(u:TGs):TGs:=λvs σ H Q=>∃v r,vs=v::r/\t v σ H λσ' H'=>u r σ' H' Q
theorem Acv:PGs X [] Bdc:=by
 intro pins s σ H vs us Q I r h
 obtain⟨e,h⟩:=h
 subst e
 cases r
 exact assignInOrder_nil ⟨σ,H,I,h⟩
theorem Mf{e:Expr}{es:List Expr}{t:TG}{u:TGs}(h1:PG X e t)(h2:PGs X es u)
  (hs:(assignEach (e::es) X.env).map (·.2)=assign e X.env::(assignEach es X.env).map (·.2):=by rfl):PGs X (e::es) (Sy t u):=by
 intro pins s σ H vs us Q I r h
 obtain⟨v,vr,e1,h⟩:=h
 subst e1
 cases r with
 |cons r rr=>
  rw[hs]
  refine assignInOrder_cons (thn (h1 pins s σ H _ _ _ I r h) λ_ s1 ⟨σ1,H1,I1,q1⟩=>?_)
  exact h2 pins s1 σ1 H1 _ _ Q I1 rr q1
def Bdd(K:Frag)(n:Nat)(t:TGs):TG:=λv σ H Q=>∃a xs,v=.ref a/\SqT K H a xs/\xs.length=n/\t xs σ H Q
theorem Al7{es:List Expr}{k:Nat}{t:TGs}{n:Nat}(hc:X.calm=true)(h:PGs X es t)
  (hn:(assignEach es X.env).length=n:=by rfl) (hst:(assignEach es X.env).findIdx? (·.1)=none:=by rfl):PG X (.Tuple es k pos) (Bdd X.K n t):=by
 intro pins s σ H v u Q I r hw
 obtain⟨a,xs,e1,hq,hl,hw⟩:=hw
 subst e1
 cases r
 obtain⟨its,rv,ht,hz⟩:=I.tuple hq
 refine assign_Tuple_tuple (I.ok.hd hc) ht (by simp [hn,<-hl,rv.length]) hst λh' hx=>?_
 have I1:Inv X pins σ H {s with heap:=h'}:=I.kept (t':=s.toks) λb o e=>hx b o (Fd (CN e)) e
 exact h pins _ σ H xs _ Q I1 (by simpa using rv) hw
def Gn(te:TE)(g:TG):TS:=λD σ H=>te σ H λx H1=>g x σ H1 D.nx
theorem Ccj{i:Nat}{x:Str}{e:Expr}{te:TE}{pos':Pos}(hN:X.N.Nodup)(hi:X.N[i]?=some x)(hx:Loc X.env.scope x)(he:PE X e te)(hs:swapsWith e (some (.Name x pos')) pos.line X.env=pure false:=by rfl)(hf:X.fn x=true\/X.env.scope.names.lookup x=some .local:=by first|exact .inl rfl|exact .inr rfl|assumption):
  PS X (.Assign [.Name x pos'] e pos) (Gn te (Ce i)):=by
 intro pins s σ H D I h
 refine wpAny_Assign_Name (thn (he pins s σ H _ I h) λv s1 ⟨y,H1,I1,r1,q1⟩=>?_) hs
 exact Bes I1 hN hi hx r1 (λs2 I2=>⟨_,H1,I2,q1⟩) hf
def Cag(i:Nat)(te:TE)(ti:TIp):TS:=λD σ H=>∃x,σ[i]?=some (some x)/\te σ H λy H1=>ti x y H1 λz H2=>D.nx (σ.set i (some z)) H2
theorem Cch{i:Nat}{x:Str}{e:Expr}{te:TE}{op:Operator}{ti:TIp}{pos':Pos}(hN:X.N.Nodup)(hi:X.N[i]?=some x)(hx:Loc X.env.scope x)(he:PE X e te)(ho:PIp X op ti)(hf:X.fn x=true\/X.env.scope.names.lookup x=some .local:=by first|exact .inl rfl|exact .inr rfl|assumption):
  PS X (.AugAssign (.Name x pos') op e pos) (Cag i te ti):=by
 intro pins s σ H D I h
 obtain⟨v,e1,h⟩:=h
 obtain⟨m,hn,hl⟩:=I.loc
 have vis:Vis X.env.scope x:=by rcases hx with k|k;exact .inl k;exact .inr (.inl k)
 obtain⟨u,r,l⟩:=hl i x v hi e1 vis
 refine wpAny_AugAssign_Name ?_
 have go:wpAny (model X.prog X.w) X.A (eval e X.env) (λw s₂=>wpAny (model X.prog X.w) X.A (inplaceOp op u w) (λr s₃=>wpAny (model X.prog X.w) X.A (storeName X.env x r) (λ_=>SP X pins D .next) X.xe s₃) X.xe s₂) X.xe s:=by
  refine thn (he pins s σ H _ I h) λw s1 ⟨y,H1,I1,r1,q1⟩=>?_
  refine thn (ho pins s1 σ H1 v y u w _ I1 r r1 q1) λz s2 ⟨zv,H2,I2,r2,q2⟩=>?_
  exact Bes I2 hN hi hx r2 (λs3 I3=>⟨_,H2,I3,q2⟩) hf
 rcases l with⟨hk,hm⟩|⟨hk,c,hc,hcell⟩
 ·exact X4 I.ok.kind hk hn hm go
 ·rcases hk with hk|hk
  ·exact Api I.ok.kind hk hc hcell go
  ·rcases hx with k|k
   ·have:X.env.scope.names.lookup x=some .free:=hk
    rw[k] at this;cases this
   ·have:X.env.scope.names.lookup x=some .free:=hk
    rw[k] at this;cases this
def Bs7(to ti te:TE)(Cah:V->V->Hp->VK->Prop)(tip:TIp)(Caj:Ca9):TS:=λD σ H=>to σ H λo H1=>ti σ H1 λi H2=>Cah o i H2 λx H3=>te σ H3 λy H4=>tip x y H4 λz H5=>Caj o i z H5 λH6=>D.nx σ H6
def Ccy(X:Cx)(t:V->V->Hp->VK->Prop):Prop:=
 ∀(pins:List (Addr×Obj)) (s:Shared) (σ:St) (H:Hp) (o i:V) (ov iv:Value) (Q:VK),Inv X pins σ H s->RelV o ov->RelV i iv->t o i H Q->
  wpAny (model X.prog X.w) X.A (getItem ov iv) (EP X pins σ Q) X.xe s
theorem Bkr{o i e:Expr}{to ti te:TE}{Cah:V->V->Hp->VK->Prop}{tip:TIp}{Caj:Ca9}{op:Operator}{tpos:Pos}(ho:PE X o to)(hi:PE X i ti)(hg:Ccy X Cah)(he:PE X e te)(hp:PIp X op tip)(hs:Ccz X Caj)
  (ha:∀ov iv new,augStore i ov iv new=(do holding [new,ov,iv] (setItem ov iv new);release [new,ov,iv] [];pure .next):=by intros;rfl):PS X (.AugAssign (.Subscript o i tpos) op e pos) (Bs7 to ti te Cah tip Caj):=by
 intro pins s σ H D I h
 refine wpAny_AugAssign_SubscriptAny (thn (ho pins s σ H _ I h) λov s1 ⟨x1,H1,I1,r1,q1⟩=>?_) ha
 refine thn (hi pins s1 σ H1 _ I1 q1) λiv s2 ⟨x2,H2,I2,r2,q2⟩=>?_
 refine thn (hg pins s2 σ H2 x1 x2 ov iv _ I2 r1 r2 q2) λold s3 ⟨x3,H3,I3,r3,q3⟩=>?_
 refine thn (he pins s3 σ H3 _ I3 q3) λv s4 ⟨x4,H4,I4,r4,q4⟩=>?_
 refine thn (hp pins s4 σ H4 x3 x4 old v _ I4 r3 r4 q4) λnew s5 ⟨x5,H5,I5,r5,q5⟩=>?_
 exact thn (hs pins s5 σ H5 x1 x2 x5 ov iv new _ I5 r1 r2 r5 q5) λ_ s6 ⟨H6,I6,q6⟩=>⟨σ,H6,I6,q6⟩
def ipI(f:Int->Int->Int):TIp:=λx y H Q=>∃i j,x=.int i/\y=.int j/\Q (.int (f i j)) H
theorem Bpw:PIp X .Add (ipI λi j=>i+j):=by
 intro pins s σ H x y v u Q I r1 r2 h
 obtain⟨i,j,e1,e2,q⟩:=h
 subst e1;subst e2
 obtain⟨t,rfl⟩:=r1
 obtain⟨t',rfl⟩:=r2
 exact iadd_int ⟨.int _,H,I.tok _,⟨_,rfl⟩,q⟩
theorem Bw0:PIp X .Sub (ipI λi j=>i-j):=by
 intro pins s σ H x y v u Q I r1 r2 h
 obtain⟨i,j,e1,e2,q⟩:=h
 subst e1;subst e2
 obtain⟨t,rfl⟩:=r1
 obtain⟨t',rfl⟩:=r2
 exact isub_int ⟨.int _,H,I.tok _,⟨_,rfl⟩,q⟩
end
section
variable {X:Cx}{pos:Pos}
def Bk4(c:TT)(tb:TS):TS:=λD σ H=>∃W:Nat->St->Hp->Prop,(∃m,W m σ H)/\∀m σ H,W m σ H->
 c σ H λb H1=>if b=true then∃N:St->Hp->Prop,(∀σ' H',N σ' H'->∃m',m'<m/\W m' σ' H')/\tb {D with nx:=N,ct:=N,bk:=D.nx} σ H1 else D.nx σ H1
theorem Bxv{c:Expr}{body:List Stmt}{tc:TT}{tb:TS}(hp:PassesOwn (model X.prog X.w) X.A X.env X.xe)(hc:PT X c tc)(hb:PSs X body tb):PS X (.While c body [] pos) (Bk4 tc tb):=by
 intro pins s σ H D I h
 obtain⟨W,⟨m0,w0⟩,turn⟩:=h
 refine wpAny_While (codeAny_whileLoop (λn s'=>∃σ' H',Inv X pins σ' H' s'/\W n σ' H') ?_ m0 ⟨σ,H,I,w0⟩)
 rintro n s1 ⟨σ1,H1,I1,w1⟩
 refine Ny hp (thn (hc pins s1 σ1 H1 _ I1 (turn n σ1 H1 w1)) λb s2 ⟨H2,I2,q2⟩=>?_)
 cases b with
 |true=>
  obtain⟨N,hN,q2⟩:=q2
  rw[Aq rfl]
  refine Ny hp (thn (hb pins s2 σ1 H2 _ I2 q2) λf s3 q3=>?_)
  cases f with
  |next=>
   obtain⟨σ3,H3,I3,n3⟩:=q3
   obtain⟨m',hm,w3⟩:=hN σ3 H3 n3
   exact⟨m',hm,σ3,H3,I3,w3⟩
  |cont=>
   obtain⟨σ3,H3,I3,n3⟩:=q3
   obtain⟨m',hm,w3⟩:=hN σ3 H3 n3
   exact⟨m',hm,σ3,H3,I3,w3⟩
  |brk=>exact q3
  |ret v=>exact q3
 |false=>
  rw[Am Ac]
  exact Yy ⟨σ1,H2,I2,q2⟩
end
structure It where
 go:Nat->Hp->Prop
 yld:Nat->Hp->V->Hp->Prop
 stop:Nat->Hp->Prop
def Abp(X:Cx)(pins:List (Addr×Obj))(H:Hp)(b:Addr):Prop:=
 H b=none/\b≠X.env.locals/\b∉X.fs/\(b∈X.ex\/X.s_0.heap.objs.size<=b)/\(∀x c,X.env.cells.lookup x=some c->c≠b)/\∀p∈X.pn++pins,p.1≠b
theorem Inv.Bm4{X:Cx}{pins:List (Addr×Obj)}{σ:St}{H H':Hp}{s:Shared}{b:Addr}(I:Inv X pins σ H s)(hb:s.heap.objs.size<=b)(hn:H' b=none):Abp X pins H' b:=by
 refine⟨hn,Aur (Dh I.lt hb),I.Cfc hb,.inr (Az I.sz hb),λx c e z=>?_,λp hp z=>?_⟩
 ·obtain⟨v,q⟩:=I.cell x c e
  exact absurd (Dh q.lt (by rw[z];exact hb)) (Io _)
 ·exact absurd (Dh (CN (I.pin p hp).1) (by rw[z];exact hb)) (Io _)
structure Turn(P:Program)(w:World)(K:Frag)(tg:Expr)(J:It)(fp:List Addr)(it:Addr)(tn:Nat->Heap->Prop):Prop where
 mem:it∈fp
 obj:∀i h,tn i h->∀b∈fp,∃o,h.get? b=some o/\∀v,o.data≠.cell v
 keep:∀i h h',tn i h->(∀b∈fp,∀o,h.get? b=some o->h'.get? b=some o)->tn i h'
 item:∀(X:Cx),X.prog=P->X.w=w->X.K=K->X.calm=true->∀(i:Nat) (pins:List (Addr×Obj)) (s:Shared) (σ:St) (H:Hp) (E:Value->Shared->Prop),Inv X pins σ H s->(∀b∈fp,Abp X pins H b)->tn i s.heap->J.go i H->
  wpAny (model P w) X.A (pyNext (.ref it)) (λr s1=>∃u,r=some u/\
   wpAny (model P w) X.A (letOwnedTupleGo tg (.ref it) u) (λ_ s2=>∃x H',Inv X pins σ H' s2/\RelV x u/\J.yld i H x H'/\tn (i+1) s2.heap/\∀b∈fp,H' b=none) E s1) E s
 done:∀(X:Cx),X.prog=P->X.w=w->X.K=K->X.calm=true->∀(i:Nat) (pins:List (Addr×Obj)) (s:Shared) (σ:St) (H:Hp) (E:Value->Shared->Prop),Inv X pins σ H s->(∀b∈fp,Abp X pins H b)->tn i s.heap->J.stop i H->
  wpAny (model P w) X.A (pyNext (.ref it)) (λr s1=>r=none/\Inv X pins σ H s1) E s
 self:∀(A:Around) (i:Nat) (s:Shared) (Q:Value->Shared->Prop) (E:Value->Shared->Prop),tn i s.heap->Q (.ref it) s->wpAny (model P w) A (pyIter (.ref it)) Q E s
abbrev TI:=St->Hp->(It->Hp->Prop)->Prop
def PIE(X:Cx)(pins:List (Addr×Obj))(σ:St)(tg:Expr)(R:It->Hp->Prop)(itv:Value)(s2:Shared):Prop:=
 ∃(it:Addr) (fp:List Addr) (tn:Nat->Heap->Prop) (J:It) (H':Hp),itv=.ref it/\Inv X pins σ H' s2/\Turn X.prog X.w X.K tg J fp it tn/\tn 0 s2.heap/\(∀b∈fp,Abp X pins H' b)/\R J H'
def PI(X:Cx)(tg iter:Expr)(wi:TI):Prop:=
 ∀(pins:List (Addr×Obj)) (s:Shared) (σ:St) (H:Hp) (R:It->Hp->Prop),Inv X pins σ H s->wi σ H R->
  wpAny (model X.prog X.w) X.A (eval iter X.env) (λv s1=>wpAny (model X.prog X.w) X.A (pyIter v) (PIE X pins σ tg R) X.xe s1) X.xe s
theorem Brr{M:Model}{A:Around}{E:Value->Shared->Prop}{s:Shared}{tg:Expr}{it:Addr}{u:Value}{o:Obj}{n:String}{vs:Array Value}{Q:Unit->Shared->Prop}(ho:s.heap.get? it=some o)(hc:o.cls=.type n)(hd:o.data=.fields vs)
  (hn:["enumerate","zip","dict_itemiterator","dict_reverseitemiterator","odict_iterator","itertools.zip_longest","itertools.pairwise"].contains n=false) (hQ:Q () s):wpAny M A (letOwnedTupleGo tg (.ref it) u) Q E s:=by
 unfold letOwnedTupleGo
 cases tg<;>first
  |exact Eo hQ
  |(cases u<;>first
    |exact Eo hQ
    |(refine Br (wpAny_load ho ?_)
      rw[hc,hd]
      show wpAny M A (if(["enumerate","zip","dict_itemiterator","dict_reverseitemiterator","odict_iterator","itertools.zip_longest","itertools.pairwise"].contains n&&vs[0]?==some (rawInt _))=true then _ else _) Q E s
      rw[Am (by intro h;rw[hn,Ib] at h;cases h)]
      exact Eo hQ))
def Itl(K:Frag)(a:Addr):It:=
 ⟨λi H=>∃xs x,SqL K H a xs/\xs[i]?=some x,λi H x H'=>H'=H/\∀xs,SqL K H a xs->xs[i]?=some x,λi H=>∃xs,SqL K H a xs/\xs.length<=i⟩
def Itr(lo:Int)(n:Nat):It:=⟨λi _=>i<n,λi H x H'=>H'=H/\x=.int (lo+i),λi _=>n<=i⟩
theorem Bvd{P:Program}{w:World}{K:Frag}{tg:Expr}(a it:Addr):Turn P w K tg (Itl K a) [it] it (λi h=>h.IsListIter it a i) where
 mem:=by simp
 obj:=λi h st b hb=>by
  have e:b=it:=by simpa using hb
  subst e
  obtain⟨o,e,c,d⟩:=st
  exact⟨o,e,λv z=>by rw[d] at z;cases z⟩
 keep:=λi h h' st k=>st.at λo e=>k it (by simp) o e
 item:=by
  intro X hP hw hK hc i pins s σ H E I hf st hg
  subst hP hw hK
  obtain⟨xs,x,hq,hx⟩:=hg
  obtain⟨its,rv,p,hz⟩:=I.list hq
  obtain⟨u,hu,ru⟩:=rv.get hx
  obtain⟨f0,f1,f2,f3,f4,f5⟩:=hf it (by simp)
  refine wpAny_pyNext_list_item st p.isList (x:=u) (by simpa using hu) λh' st' sb=>?_
  have I1:Inv X pins σ H {s with heap:=h'}:=I.turned (t':=s.toks) (λb o hb e=>(sb.2 b hb).trans e) f0 f1 f3 f4 f5
  obtain⟨o,e,c,d⟩:=id st'
  exact⟨u,rfl,Brr (s:={s with heap:=h'}) e c d (by decide) ⟨x,H,I1,ru,⟨rfl,λys hy=>by rw[I.Bdx hy hq];exact hx⟩,st',λb hb=>(hf b hb).1⟩⟩
 done:=by
  intro X hP hw hK hc i pins s σ H E I hf st hg
  subst hP hw hK
  obtain⟨xs,hq,hx⟩:=hg
  obtain⟨its,rv,p,hz⟩:=I.list hq
  obtain⟨f0,f1,f2,f3,f4,f5⟩:=hf it (by simp)
  have hl:=rv.length
  exact wpAny_pyNext_list_end (I.ok.hd hc) st p.isList (by simp;omega) λh' eb=>⟨rfl,I.turned (t':=s.toks) (λb o hb e=>eb b o hb e) f0 f1 f3 f4 f5⟩
 self:=λ_ _ _ _ _ st h=>wpAny_pyIter_listiter st h
theorem Bq0{P:Program}{w:World}{K:Frag}{tg:Expr}(it:Addr)(lo:Int)(n:Nat):Turn P w K tg (Itr lo n) [it] it (λi h=>IsRangeIter h it (lo+(i:Nat)*1) ((n:Int)-(i:Nat)) 1) where
 mem:=by simp
 obj:=λi h st b hb=>by
  have e:b=it:=by simpa using hb
  subst e
  exact⟨_,st,λv z=>by
   have z':Data.fields _=Data.cell v:=z
   cases z'⟩
 keep:=λi h h' st k=>k it (by simp) _ st
 item:=by
  intro X hP hw hK hc i pins s σ H E I hf st hg
  subst hP hw hK
  obtain⟨f0,f1,f2,f3,f4,f5⟩:=hf it (by simp)
  have W:=Walks.range (prog:=X.prog) (w:=X.w) (I.ok.hd hc) it lo 1 n
  refine W.item i s _ _ hg st λv h' tk hv st' kk=>?_
  obtain⟨t,rfl⟩:=hv
  have I1:Inv X pins σ H {s with heap:=h',toks:=tk}:=I.turned (λb o hb e=>kk b o (by simpa using hb) e) f0 f1 f3 f4 f5
  refine⟨_,rfl,Brr (s:={s with heap:=h',toks:=tk}) (n:="range_iterator") st' rfl rfl (by decide) ⟨.int (lo+i),H,I1,⟨t,?_⟩,⟨rfl,rfl⟩,st',λb hb=>(hf b hb).1⟩⟩
  rw[Ayv]
 done:=by
  intro X hP hw hK hc i pins s σ H E I hf st hg
  subst hP hw hK
  obtain⟨f0,f1,f2,f3,f4,f5⟩:=hf it (by simp)
  exact Aid (I.ok.hd hc) st (by have:n<=i:=hg;omega) λh' eb=>⟨rfl,I.turned (t':=s.toks) (λb o hb e=>eb b o hb e) f0 f1 f3 f4 f5⟩
 self:=λ_ _ _ _ _ st h=>Aic st h
end L2
namespace L2
open PySem PySem.Spec PyProof.Rows
section
variable {X:Cx}{tg:Expr}
def Jy(K:Frag)(tl:TE):TI:=λσ H R=>tl σ H λx H1=>∃a,x=.ref a/\(∃xs,SqL K H1 a xs)/\R (Itl K a) H1
theorem G3{l:Expr}{tl:TE}(hl:PE X l tl):PI X tg l (Jy X.K tl):=by
 intro pins s σ H R I h
 refine thn (hl pins s σ H _ I h) λv s1 ⟨x,H1,I1,r1,q1⟩=>?_
 obtain⟨a,e,⟨xs,hq⟩,q⟩:=q1
 subst e
 cases r1
 obtain⟨its,rv,p,hz⟩:=I1.list hq
 refine wpAny_pyIter_list p.isList ?_
 refine⟨s1.heap.objs.size,[s1.heap.objs.size],_,_,H1,rfl,I1.kept (t':=s1.toks) λb o e=>Bs _ e,Bvd a _,⟨_,Dr _ rfl,rfl,rfl⟩,λb hb=>?_,q⟩
 have e:b=s1.heap.objs.size:=by simpa using hb
 subst e
 exact I1.Bm4 (Bu _) (I1.hok.fresh (Bu _))
theorem Boa{pins:List (Addr×Obj)}{σ:St}{H:Hp}{s:Shared}{R:It->Hp->Prop}{E:Value->Shared->Prop}{lo hi:Int}{t u v:Tok}{tk:Nat}(I:Inv X pins σ H s)(h1: -(2^62)<=lo)(h2:lo<2^62)(h3: -(2^62)<=hi)(h4:hi<2^62)
  (q:R (Itr lo (hi-lo).toNat) H):wpAny (model X.prog X.w) X.A (pyIter (.ref s.heap.objs.size)) (PIE X pins σ tg R) E {s with heap:=s.heap.push {cls:=.type "range",data:=.fields #[.int lo t,.int hi u,.int 1 v]},toks:=tk}:=by
 refine wpAny_pyIter_range (Blw ..) (small_one h1 h2 h3 h4) ?_
 have I1:Inv X pins σ H {s with heap:=s.heap.push {cls:=.type "range",data:=.fields #[.int lo t,.int hi u,.int 1 v]},toks:=tk}:=I.kept λb o e=>Bs _ e
 refine⟨(s.heap.push {cls:=.type "range",data:=.fields #[.int lo t,.int hi u,.int 1 v]}).objs.size,[(s.heap.push {cls:=.type "range",data:=.fields #[.int lo t,.int hi u,.int 1 v]}).objs.size],_,_,H,rfl,
  I1.kept (t':=tk) λb o e=>Bs _ e,Bq0 _ lo (hi-lo).toNat,?_,λb hb=>?_,q⟩
 ·have e1:lo+((0:Nat):Int)*1=lo:=by simp
  have e2:(((hi-lo).toNat:Nat):Int)-((0:Nat):Int)=Lh lo hi 1:=by rw[rangeSize_one];split<;>omega
  show IsRangeIter _ _ (lo+((0:Nat):Int)*1) ((((hi-lo).toNat:Nat):Int)-((0:Nat):Int)) 1
  rw[e1,e2]
  exact Dr _ rfl
 ·have e:b=(s.heap.push {cls:=.type "range",data:=.fields #[.int lo t,.int hi u,.int 1 v]}).objs.size:=by simpa using hb
  subst e
  exact I1.Bm4 (Bu _) (I1.hok.fresh (Bu _))
def Cay(ta:TA):TI:=λσ H R=>ta σ H λvs H1=>∃j:Int,vs=[.int j]/\ -(2^62)<=j/\j<2^62/\R (Itr 0 j.toNat) H1
def Caz(ta:TA):TI:=λσ H R=>ta σ H λvs H1=>∃i j:Int,vs=[.int i,.int j]/\(-(2^62)<=i/\i<2^62/\ -(2^62)<=j/\j<2^62)/\R (Itr i (j-i).toNat) H1
theorem Buu{a:Expr}{ta:TA}{p pos:Pos}(hg:Gl X "range")(hm:X.mg "range"=none)(ha:PA X [a] ta)(hs:starEach [a] X.env=[(false,eval a X.env)]:=by rfl):PI X tg (.Call (.Name "range" p) [a] [] pos) (Cay ta):=by
 intro pins s σ H R I h
 refine Ayt (Aaq I hg hm boot_range (Gh (thn (ha pos pins s σ H _ I h) λus s1 ⟨vs,H1,I1,r1,q1⟩=>?_) hs rfl))
 obtain⟨j,e,q1,q2,q⟩:=q1
 subst e
 cases r1 with
 |cons r rr=>
  cases rr
  obtain⟨t,rfl⟩:=r
  exact call_range_1 (Boa I1 (by omega) (by omega) q1 q2 (by simpa using q))
theorem Buv{a b:Expr}{ta:TA}{p pos:Pos}(hg:Gl X "range")(hm:X.mg "range"=none)(ha:PA X [a,b] ta)(hs:starEach [a,b] X.env=[(false,eval a X.env),(false,eval b X.env)]:=by rfl)(hs2:starEach [b] X.env=[(false,eval b X.env)]:=by rfl):
  PI X tg (.Call (.Name "range" p) [a,b] [] pos) (Caz ta):=by
 intro pins s σ H R I h
 refine Ayt (Aaq I hg hm boot_range (Gh (thn (ha pos pins s σ H _ I h) λus s1 ⟨vs,H1,I1,r1,q1⟩=>?_) (by rw[hs,hs2]) (by rw[hs2];rfl)))
 obtain⟨i,j,e,⟨q1,q2,q3,q4⟩,q⟩:=q1
 subst e
 cases r1 with
 |cons r rr=>
  cases rr with
  |cons r' rr=>
   cases rr
   obtain⟨t,rfl⟩:=r
   obtain⟨t',rfl⟩:=r'
   exact call_range_2 (Boa I1 q1 q2 q3 q4 q)
def SN(wi:TI)(g:TG)(tb:TS):TS:=λD σ H=>wi σ H λJ H1=>∃W:Nat->Nat->St->Hp->Prop,(∃m,W 0 m σ H1)/\∀i m σ H,W i m σ H->
 (J.stop i H/\D.nx σ H)\/(J.go i H/\∃N:St->Hp->Prop,(∀σ' H',N σ' H'->∃m',m'<m/\W (i+1) m' σ' H')/\∀x H',J.yld i H x H'->g x σ H' λσ2 H2=>tb {D with nx:=N,ct:=N,bk:=D.nx} σ2 H2)
def Bel(fp:List Addr)(h:Heap):List (Addr×Obj):=fp.filterMap λb=>(h.get? b).map λo=>(b,o)
theorem Ate{fp:List Addr}{h:Heap}{b:Addr}{o:Obj}(hb:b∈fp)(e:h.get? b=some o):(b,o)∈Bel fp h:=Asp.mpr ⟨b,hb,by rw[e];rfl⟩
theorem Bum{fp:List Addr}{h:Heap}{p:Addr×Obj}(hp:p∈Bel fp h):p.1∈fp/\h.get? p.1=some p.2:=by
 obtain⟨b,hb,e⟩:=Asp.mp hp
 cases q:h.get? b with
 |none=>rw[q] at e;cases e
 |some o=>
  rw[q] at e
  have e':(b,o)=p:=Ae e
  subst e'
  exact⟨hb,q⟩
theorem Inv.pinned{pins:List (Addr×Obj)}{σ:St}{H:Hp}{s:Shared}{fp:List Addr}(I:Inv X pins σ H s)(hf:∀b∈fp,Abp X pins H b)(ho:∀b∈fp,∃o,s.heap.get? b=some o/\∀v,o.data≠.cell v):Inv X (pins++Bel fp s.heap) σ H s:=
 I.Aol λp hp=>(Bw.mp hp).elim (λz=>I.pin p (Cu _ z)) λz=>by
  obtain⟨hb,e⟩:=Bum z
  obtain⟨f0,f1,f2,_⟩:=hf p.1 hb
  obtain⟨o,e',d⟩:=ho p.1 hb
  rw[e] at e';cases e'
  exact⟨e,f0,f1,f2,d⟩
theorem Inv.Awu{pins pl:List (Addr×Obj)}{σ:St}{H:Hp}{s:Shared}(I:Inv X (pins++pl) σ H s):Inv X pins σ H s:=I.Aol λp hp=>I.pin p (Cu _ (GP _ hp))
theorem Cci{iter:Expr}{body:List Stmt}{wi:TI}{g:TG}{tb:TS}{pos:Pos}(hp:PassesOwn (model X.prog X.w) X.A X.env X.xe)(hc:X.calm=true)(hi:PI X tg iter wi)(hg:PG X tg g)(hb:PSs X body tb)
  (hs:∀x,foldedSetIterable iter X.env x=pure x:=by intro _;rfl):PS X (.For tg iter body [] pos) (SN wi g tb):=by
 intro pins s σ H D I h
 refine wpAny_For (thn (hi pins s σ H _ I h) λv s1 h1=>thn h1 λitv s2 h2=>?_) hs
 obtain⟨it,fp,tn,J,H2,e,I2,T,st2,f2,W,⟨m0,w0⟩,turn⟩:=h2
 subst e
 have stat:∀{H':Hp},(∀b∈fp,H' b=none)->∀b∈fp,Abp X pins H' b:=λhn b hb=>⟨hn b hb,(f2 b hb).2⟩
 refine codeAny_forLoop_any (λn s'=>∃i σ' H',Inv X pins σ' H' s'/\tn i s'.heap/\(∀b∈fp,H' b=none)/\W i n σ' H') ?_ m0 ⟨0,σ,H2,I2,st2,λb hb=>(f2 b hb).1,w0⟩
 rintro n s3 ⟨i,σ3,H3,I3,st3,fr3,w3⟩
 rcases turn i n σ3 H3 w3 with⟨stop,qn⟩|⟨go,N,hN,step⟩
 ·refine Ny hp (thn (T.done X rfl rfl rfl hc i pins s3 σ3 H3 X.xe I3 (stat fr3) st3 stop) λr s4 ⟨hr,I4⟩=>?_)
  subst hr
  exact Yy ⟨σ3,H3,I4,qn⟩
 ·refine Ny hp (thn (T.item X rfl rfl rfl hc i pins s3 σ3 H3 X.xe I3 (stat fr3) st3 go) λr s4 ⟨u,hr,h4⟩=>?_)
  subst hr
  refine Ny hp (thn h4 λ_ s5 ⟨x,H5,I5,r5,y5,st5,fr5⟩=>?_)
  have I5':=I5.pinned (stat fr5) (T.obj _ _ st5)
  refine Ny hp (thn (hg _ s5 σ3 H5 x u _ I5' r5 (step x H5 y5)) λ_ s6 ⟨σ6,H6,I6,q6⟩=>?_)
  refine Ny hp (thn (hb _ s6 σ6 H6 _ I6 q6) λf s7 q7=>?_)
  have again:∀{σ7:St} {H7:Hp},Inv X (pins++Bel fp s5.heap) σ7 H7 s7->N σ7 H7->∃m,m<n/\∃i σ' H',Inv X pins σ' H' s7/\tn i s7.heap/\(∀b∈fp,H' b=none)/\W i m σ' H':=λ{σ7 H7} I7 n7=>by
   obtain⟨m',hm,w7⟩:=hN σ7 H7 n7
   refine⟨m',hm,i+1,σ7,H7,I7.Awu,T.keep _ _ _ st5 λb hb o e=>(I7.pin (b,o) (Cu _ (Cu _ (Ate hb e)))).1,λb hb=>?_,w7⟩
   obtain⟨o,e,d⟩:=T.obj _ _ st5 b hb
   exact(I7.pin (b,o) (Cu _ (Cu _ (Ate hb e)))).2.1
  cases f with
  |next=>obtain⟨σ7,H7,I7,n7⟩:=q7;exact again I7 n7
  |cont=>obtain⟨σ7,H7,I7,n7⟩:=q7;exact again I7 n7
  |brk=>obtain⟨σ7,H7,I7,q7⟩:=q7;exact⟨σ7,H7,I7.Awu,q7⟩
  |ret v=>obtain⟨x7,σ7,H7,I7,r7,q7⟩:=q7;exact⟨x7,σ7,H7,I7.Awu,r7,q7⟩
end
theorem JZ{K:Frag}{a:Addr}{xs:List V}{g:TG}{tb:TS}{D:Ends}{σ:St}{H:Hp}(Pv:Nat->St->Hp->Prop)(h0:Pv 0 σ H)(hl:∀i σ H,i<=xs.length->Pv i σ H->SqL K H a xs)
  (hs:∀i x σ H,xs[i]?=some x->Pv i σ H->g x σ H λσ2 H2=>tb {D with nx:=Pv (i+1),ct:=Pv (i+1),bk:=D.nx} σ2 H2) (hd:∀σ H,Pv xs.length σ H->D.nx σ H):
  ∃W:Nat->Nat->St->Hp->Prop,(∃m,W 0 m σ H)/\∀i m σ H,W i m σ H->
   ((Itl K a).stop i H/\D.nx σ H)\/((Itl K a).go i H/\∃N:St->Hp->Prop,(∀σ' H',N σ' H'->∃m',m'<m/\W (i+1) m' σ' H')/\∀x H',(Itl K a).yld i H x H'->g x σ H' λσ2 H2=>tb {D with nx:=N,ct:=N,bk:=D.nx} σ2 H2):=by
 refine⟨λi m σ H=>m=xs.length-i/\i<=xs.length/\Pv i σ H,⟨xs.length,by simp,Hh _,h0⟩,?_⟩
 rintro i m σ H ⟨rfl,hi,p⟩
 have q:=hl i σ H hi p
 by_cases hlt:i<xs.length
 ·refine .inr ⟨⟨xs,xs[i],q,by simp [hlt]⟩,Pv (i+1),λσ' H' p'=>⟨xs.length-(i+1),by omega,rfl,hlt,p'⟩,λx H' y=>?_⟩
  obtain⟨e,y⟩:=y
  subst e
  exact hs i x σ _ (y xs q) p
 ·have e:i=xs.length:=by omega
  subst e
  exact .inl ⟨⟨xs,q,Bu _⟩,hd σ H p⟩
theorem Bhw{lo:Int}{n:Nat}{g:TG}{tb:TS}{D:Ends}{σ:St}{H:Hp}(Pv:Nat->St->Hp->Prop)(h0:Pv 0 σ H)
  (hs:∀i σ H,i<n->Pv i σ H->g (.int (lo+i)) σ H λσ2 H2=>tb {D with nx:=Pv (i+1),ct:=Pv (i+1),bk:=D.nx} σ2 H2) (hd:∀σ H,Pv n σ H->D.nx σ H):
  ∃W:Nat->Nat->St->Hp->Prop,(∃m,W 0 m σ H)/\∀i m σ H,W i m σ H->
   ((Itr lo n).stop i H/\D.nx σ H)\/((Itr lo n).go i H/\∃N:St->Hp->Prop,(∀σ' H',N σ' H'->∃m',m'<m/\W (i+1) m' σ' H')/\∀x H',(Itr lo n).yld i H x H'->g x σ H' λσ2 H2=>tb {D with nx:=N,ct:=N,bk:=D.nx} σ2 H2):=by
 refine⟨λi m σ H=>m=n-i/\i<=n/\Pv i σ H,⟨n,by simp,Hh _,h0⟩,?_⟩
 rintro i m σ H ⟨rfl,hi,p⟩
 by_cases hlt:i<n
 ·refine .inr ⟨hlt,Pv (i+1),λσ' H' p'=>⟨n-(i+1),by omega,rfl,hlt,p'⟩,λx H' y=>?_⟩
  obtain⟨e,y⟩:=y
  subst e y
  exact hs i σ _ hlt p
 ·have e:i=n:=by omega
  subst e
  exact .inl ⟨Bu _,hd σ H p⟩
end L2
namespace L2
open PySem PySem.Spec PyProof.Rows
abbrev R2:=V->V->Hp->VK->Prop
def OpR(X:Cx)(f:Value->Value->Sem Value)(r:R2):Prop:=
 ∀(pins:List (Addr×Obj)) (s:Shared) (σ:St) (H:Hp) (x y:V) (v u:Value) (Q:VK),Inv X pins σ H s->RelV x v->RelV y u->r x y H Q->
  wpAny (model X.prog X.w) X.A (f v u) (EP X pins σ Q) X.xe s
def UnR(X:Cx)(f:Value->Sem Value)(r:V->Hp->VK->Prop):Prop:=
 ∀(pins:List (Addr×Obj)) (s:Shared) (σ:St) (H:Hp) (x:V) (v:Value) (Q:VK),Inv X pins σ H s->RelV x v->r x H Q->
  wpAny (model X.prog X.w) X.A (f v) (EP X pins σ Q) X.xe s
def Bb6(X:Cx)(f:Value)(r:List V->Hp->VK->Prop):Prop:=
 ∀(pins:List (Addr×Obj)) (s:Shared) (σ:St) (H:Hp) (xs:List V) (us:List Value) (Q:VK),Inv X pins σ H s->Vals xs us->r xs H Q->
  wpAny (model X.prog X.w) X.A (call f us) (EP X pins σ Q) X.xe s
def tOp(r:R2)(ta tb:TE):TE:=λσ H Q=>ta σ H λx H1=>tb σ H1 λy H2=>r x y H2 Q
def tUn(r:V->Hp->VK->Prop)(ta:TE):TE:=λσ H Q=>ta σ H λx H1=>r x H1 Q
def rI(C:Int->Int->Prop)(g:Int->Int->V):R2:=λx y H Q=>∃i j,x=.int i/\y=.int j/\C i j/\Q (g i j) H
def rI0(g:Int->Int->V):R2:=λx y H Q=>∃i j,x=.int i/\y=.int j/\Q (g i j) H
def rU(g:Int->V):V->Hp->VK->Prop:=λx H Q=>∃i,x=.int i/\Q (g i) H
section
variable {X:Cx}{a b c:Expr}{ta tb tc:TE}{pos:Pos}
theorem Cbc(ha:PE X a ta)(hb:PE X b tb){pins:List (Addr×Obj)}{s:Shared}{σ:St}{H:Hp}{R:V->V->Hp->Prop}(I:Inv X pins σ H s)
  (h:ta σ H λx H1=>tb σ H1 λy H2=>R x y H2) {Q:Value->Shared->Prop} {f:Value->Value->Sem Value}
  (hf:∀v u s2 x y H2,Inv X pins σ H2 s2->RelV x v->RelV y u->R x y H2->wpAny (model X.prog X.w) X.A (f v u) Q X.xe s2):
  wpAny (model X.prog X.w) X.A (eval a X.env) (λv s₁=>wpAny (model X.prog X.w) X.A (eval b X.env) (λu s₂=>wpAny (model X.prog X.w) X.A (f v u) Q X.xe s₂) X.xe s₁) X.xe s:=by
 refine thn (ha pins s σ H _ I h) λv s1 ⟨x,H1,I1,r1,q1⟩=>?_
 refine thn (hb pins s1 σ H1 _ I1 q1) λu s2 ⟨y,H2,I2,r2,q2⟩=>?_
 exact hf v u s2 x y H2 I2 r1 r2 q2
theorem J6{op:Operator}{r:R2}(ho:OpR X (binaryOp op) r)(ha:PE X a ta)(hb:PE X b tb):PE X (.BinOp a op b pos) (tOp r ta tb):=by
 intro pins s σ H Q I h
 exact wpAny_BinOp (Cbc ha hb I h λv u s2 x y H2 I2 rx ry q=>ho pins s2 σ H2 x y v u Q I2 rx ry q)
theorem Bss{op:UnaryOp}{r:V->Hp->VK->Prop}(ho:UnR X (unaryOp op) r)(ha:PE X a ta):PE X (.UnaryOp op a pos) (tUn r ta):=by
 intro pins s σ H Q I h
 exact UnaryOp_ (thn (ha pins s σ H _ I h) λv s1 ⟨x,H1,I1,r1,q1⟩=>ho pins s1 σ H1 x v Q I1 r1 q1)
theorem opI{f:Value->Value->Sem Value}{C:Int->Int->Prop}{g:Int->Int->Int}
  (rule:∀(i j:Int) (t u:Tok) (s:Shared) (Q:Value->Shared->Prop) (E:Value->Shared->Prop),C i j->Q (.int (g i j) s.toks) {s with toks:=s.toks+1}->wpAny (model X.prog X.w) X.A (f (.int i t) (.int j u)) Q E s):
  OpR X f (rI C λi j=>.int (g i j)):=by
 intro pins s σ H x y v u Q I rx ry h
 obtain⟨i,j,rfl,rfl,hc,q⟩:=h
 obtain⟨t,rfl⟩:=rx
 obtain⟨t',rfl⟩:=ry
 exact rule i j t t' s _ _ hc ⟨.int (g i j),H,I.tok _,⟨_,rfl⟩,q⟩
theorem Cdv{f:Value->Value->Sem Value}{g:Int->Int->Int}
  (rule:∀(i j:Int) (t u:Tok) (s:Shared) (Q:Value->Shared->Prop) (E:Value->Shared->Prop),Q (.int (g i j) s.toks) {s with toks:=s.toks+1}->wpAny (model X.prog X.w) X.A (f (.int i t) (.int j u)) Q E s):
  OpR X f (rI0 λi j=>.int (g i j)):=by
 intro pins s σ H x y v u Q I rx ry h
 obtain⟨i,j,rfl,rfl,q⟩:=h
 obtain⟨t,rfl⟩:=rx
 obtain⟨t',rfl⟩:=ry
 exact rule i j t t' s _ _ ⟨.int (g i j),H,I.tok _,⟨_,rfl⟩,q⟩
theorem Bzz{f:Value->Value->Sem Value}{g:Int->Int->Bool}
  (rule:∀(i j:Int) (t u:Tok) (s:Shared) (Q:Value->Shared->Prop) (E:Value->Shared->Prop),Q (.bool (g i j)) s->wpAny (model X.prog X.w) X.A (f (.int i t) (.int j u)) Q E s):
  OpR X f (rI0 λi j=>.bl (g i j)):=by
 intro pins s σ H x y v u Q I rx ry h
 obtain⟨i,j,rfl,rfl,q⟩:=h
 obtain⟨t,rfl⟩:=rx
 obtain⟨t',rfl⟩:=ry
 exact rule i j t t' s _ _ ⟨.bl (g i j),H,I,rfl,q⟩
def Ca5(i j:Int):Prop:=0<j/\j<1073741824
def Bvk(i j:Int):Prop:=(-(2^64)<i/\i<2^64)\/(-(2^64)<j/\j<2^64)
theorem Bvk.ok{i j:Int}(h:Bvk i j):IntMulOk i j:=by
 rcases h with⟨h1,h2⟩|⟨h1,h2⟩
 ·exact .of_left (intBits_le_64 h1 h2)
 ·exact .of_right (intBits_le_64 h1 h2)
theorem Ax7:OpR X (binaryOp .Add) (rI0 λi j=>.int (i+j)):=Cdv λ_ _ _ _ _ _ _ q=>add_int q
theorem Bqf:OpR X (binaryOp .Sub) (rI0 λi j=>.int (i-j)):=Cdv λ_ _ _ _ _ _ _ q=>sub_int q
theorem Bxq:OpR X (binaryOp .Mult) (rI Bvk λi j=>.int (i*j)):=opI λ_ _ _ _ _ _ _ hc q=>mul_int q hc.ok
theorem Bsp:OpR X (binaryOp .FloorDiv) (rI Ca5 λi j=>.int (i/j)):=opI λi j _ _ _ _ _ hc q=>by
 have h1:(0:Int)<j:=hc.1
 have h2:j<1073741824:=hc.2
 exact floordiv_int (by omega) (by rw[Int.fdiv_eq_ediv_of_nonneg i (by omega)];exact q) (.inl (Agr (by omega)))
theorem Cce:OpR X (binaryOp .Mod) (rI (λ_ j=>0<j) λi j=>.int (i%j)):=opI λi j _ _ _ _ _ hc q=>by
 have h1:(0:Int)<j:=hc
 exact mod_int' (by omega) (by rw[Int.fmod_eq_emod_of_nonneg i (by omega)];exact q)
theorem unI{f:Value->Sem Value}{g:Int->Int}
  (rule:∀(i:Int) (t:Tok) (s:Shared) (Q:Value->Shared->Prop) (E:Value->Shared->Prop),Q (.int (g i) s.toks) {s with toks:=s.toks+1}->wpAny (model X.prog X.w) X.A (f (.int i t)) Q E s):
  UnR X f (rU λi=>.int (g i)):=by
 intro pins s σ H x v Q I rx h
 obtain⟨i,rfl,q⟩:=h
 obtain⟨t,rfl⟩:=rx
 exact rule i t s _ _ ⟨.int (g i),H,I.tok _,⟨_,rfl⟩,q⟩
theorem Bln:UnR X (unaryOp .USub) (rU λi=>.int (-i)):=unI λ_ _ _ _ _ q=>neg_int q
end
def Cea:V->V->Bool
 |.non,.non=>true|.non,.int _=>true|.int _,.non=>true|.non,.bl _=>true|.bl _,.non=>true|.non,.str _=>true|.str _,.non=>true
 |.int _,.int _=>true|.bl _,.bl _=>true|.str _,.str _=>true|.byt _,.byt _=>true
 |.int _,.str _=>true|.str _,.int _=>true|.bl _,.str _=>true|.str _,.bl _=>true
 |_,_=>false
def rEq:R2:=λx y H Q=>Cea x y=true/\Q (.bl (decide (x=y))) H
def rNe:R2:=λx y H Q=>Cea x y=true/\Q (.bl (!decide (x=y))) H
theorem Brf{i j:Int}:decide (V.int i=V.int j)=(i==j):=by
 rw[Qz]
 simp
theorem Bwe{i j:Bool}:decide (V.bl i=V.bl j)=(i==j):=by
 rw[Qz]
 simp
theorem Brg{i j:Str}:decide (V.str i=V.str j)=(i==j):=by
 rw[Qz]
 simp
theorem Bre{i j:Array UInt8}:decide (V.byt i=V.byt j)=(i.toList==j.toList):=by
 rw[Qz]
 cases i
 cases j
 simp
section
variable {X:Cx}{a b c:Expr}{ta tb tc:TE}{pos:Pos}
theorem JX{pins:List (Addr×Obj)}{σ:St}{H:Hp}{s:Shared}{Q:VK}{k k':Bool}(I:Inv X pins σ H s)(q:Q (.bl k) H)(e:k=k'):EP X pins σ Q (.bool k') s:=by
 subst e
 exact⟨.bl k,H,I,rfl,q⟩
theorem Bnw:OpR X (compareOp .Eq) rEq:=by
 intro pins s σ H x y v u Q I rx ry h
 obtain⟨hs,q⟩:=h
 cases x with
 |non=>
  cases rx
  cases y with
  |non=>cases ry;exact PySem.EqNone.eq_none_none (JX I q (by simp))
  |bl j=>cases ry;exact PySem.EqNone.eq_none_bool (JX I q (by simp))
  |int j=>obtain⟨t',rfl⟩:=ry;exact PySem.EqNone.eq_none_int (JX I q (by simp))
  |str j=>obtain⟨t',rfl⟩:=ry;exact PySem.EqNone.eq_none_str (JX I q (by simp))
  |_=>exact absurd (show false=true from hs) Ac
 |bl i=>
  cases rx
  cases y with
  |non=>cases ry;exact PySem.EqNone.eq_bool_none (JX I q (by simp))
  |bl j=>cases ry;exact eq_bool (JX I q Bwe)
  |str j=>obtain⟨t',rfl⟩:=ry;exact PySem.EqMixed.eq_bool_str (JX I q (by simp))
  |_=>exact absurd (show false=true from hs) Ac
 |int i=>
  obtain⟨t,rfl⟩:=rx
  cases y with
  |non=>cases ry;exact PySem.EqNone.eq_int_none (JX I q (by simp))
  |int j=>obtain⟨t',rfl⟩:=ry;exact eq_int (JX I q Brf)
  |str j=>obtain⟨t',rfl⟩:=ry;exact PySem.EqMixed.eq_int_str (JX I q (by simp))
  |_=>exact absurd (show false=true from hs) Ac
 |str i=>
  obtain⟨t,rfl⟩:=rx
  cases y with
  |non=>cases ry;exact PySem.EqNone.eq_str_none (JX I q (by simp))
  |bl j=>cases ry;exact PySem.EqMixed.eq_str_bool (JX I q (by simp))
  |int j=>obtain⟨t',rfl⟩:=ry;exact PySem.EqMixed.eq_str_int (JX I q (by simp))
  |str j=>obtain⟨t',rfl⟩:=ry;exact eq_str (JX I q Brg)
  |_=>exact absurd (show false=true from hs) Ac
 |byt i=>
  obtain⟨t,rfl⟩:=rx
  cases y with
  |byt j=>obtain⟨t',rfl⟩:=ry;exact PySem.W.eq_bytes (JX I q Bre)
  |_=>exact absurd (show false=true from hs) Ac
 |_=>cases y<;>exact absurd (show false=true from hs) Ac
theorem Ai6:OpR X (compareOp .NotEq) rNe:=by
 intro pins s σ H x y v u Q I rx ry h
 obtain⟨hs,q⟩:=h
 cases x with
 |non=>
  cases rx
  cases y with
  |non=>cases ry;exact PySem.EqNone.ne_none_none (JX I q (by simp))
  |bl j=>cases ry;exact PySem.EqNone.ne_none_bool (JX I q (by simp))
  |int j=>obtain⟨t',rfl⟩:=ry;exact PySem.EqNone.ne_none_int (JX I q (by simp))
  |str j=>obtain⟨t',rfl⟩:=ry;exact PySem.EqNone.ne_none_str (JX I q (by simp))
  |_=>exact absurd (show false=true from hs) Ac
 |bl i=>
  cases rx
  cases y with
  |non=>cases ry;exact PySem.EqNone.ne_bool_none (JX I q (by simp))
  |bl j=>cases ry;exact ne_bool (JX I q (congrArg not Bwe))
  |str j=>obtain⟨t',rfl⟩:=ry;exact PySem.EqMixed.ne_bool_str (JX I q (by simp))
  |_=>exact absurd (show false=true from hs) Ac
 |int i=>
  obtain⟨t,rfl⟩:=rx
  cases y with
  |non=>cases ry;exact PySem.EqNone.ne_int_none (JX I q (by simp))
  |int j=>obtain⟨t',rfl⟩:=ry;exact ne_int (JX I q (congrArg not Brf))
  |str j=>obtain⟨t',rfl⟩:=ry;exact PySem.EqMixed.ne_int_str (JX I q (by simp))
  |_=>exact absurd (show false=true from hs) Ac
 |str i=>
  obtain⟨t,rfl⟩:=rx
  cases y with
  |non=>cases ry;exact PySem.EqNone.ne_str_none (JX I q (by simp))
  |bl j=>cases ry;exact PySem.EqMixed.ne_str_bool (JX I q (by simp))
  |int j=>obtain⟨t',rfl⟩:=ry;exact PySem.EqMixed.ne_str_int (JX I q (by simp))
  |str j=>obtain⟨t',rfl⟩:=ry;exact ne_str (JX I q (congrArg not Brg))
  |_=>exact absurd (show false=true from hs) Ac
 |byt i=>
  obtain⟨t,rfl⟩:=rx
  cases y with
  |byt j=>obtain⟨t',rfl⟩:=ry;exact PySem.W.ne_bytes (JX I q (congrArg not Bre))
  |_=>exact absurd (show false=true from hs) Ac
 |_=>cases y<;>exact absurd (show false=true from hs) Ac
theorem Bnx:OpR X (compareOp .Lt) (rI0 λi j=>.bl (decide (i<j))):=Bzz λ_ _ _ _ _ _ _ q=>lt_int q
theorem Beg:OpR X (compareOp .LtE) (rI0 λi j=>.bl (decide (i<=j))):=Bzz λ_ _ _ _ _ _ _ q=>le_int q
theorem Al3:OpR X (compareOp .Gt) (rI0 λi j=>.bl (decide (j<i))):=Bzz λ_ _ _ _ _ _ _ q=>gt_int q
theorem Ca2:OpR X (compareOp .GtE) (rI0 λi j=>.bl (decide (j<=i))):=Bzz λ_ _ _ _ _ _ _ q=>ge_int q
theorem Ahe:OpR X (compareOp .Is) (λx y H Q=>y=.non/\Q (.bl (decide (x=.non))) H):=by
 intro pins s σ H x y v u Q I rx ry h
 obtain⟨rfl,q⟩:=h
 cases ry
 refine is_none_gen (JX I q ?_)
 cases x<;>first
  |(cases rx;rfl)
  |(obtain⟨t,rfl⟩:=rx;rfl)
theorem Bz0:OpR X (compareOp .IsNot) (λx y H Q=>y=.non/\Q (.bl (!decide (x=.non))) H):=by
 intro pins s σ H x y v u Q I rx ry h
 obtain⟨rfl,q⟩:=h
 cases ry
 refine isnot_none_gen (JX I q ?_)
 cases x<;>first
  |(cases rx;rfl)
  |(obtain⟨t,rfl⟩:=rx;rfl)
theorem Gg(b:Expr){op:CmpOp}(h:op≠.In:=by decide)(h2:op≠.NotIn:=by decide):behindInMarks op b=false:=by
 have e1:(op==CmpOp.In)=false:=by cases op<;>first|rfl|exact absurd rfl h
 have e2:(op==CmpOp.NotIn)=false:=by cases op<;>first|rfl|exact absurd rfl h2
 cases b<;>simp [behindInMarks,e1,e2]
theorem Av4{op:CmpOp}{r:R2}(ho:OpR X (compareOp op) r)(ha:PE X a ta)(hb:PE X b tb)(hm:behindInMarks op b=false):PE X (.Compare a [op] [b] pos) (tOp r ta tb):=by
 intro pins s σ H Q I h
 exact wpAny_Compare1 (Cbc ha hb I h λv u s2 x y H2 I2 rx ry q=>ho pins s2 σ H2 x y v u Q I2 rx ry q) hm
def Hj(t:TE):TT:=λσ H Q=>t σ H λx H'=>∃k,x=.bl k/\Q k H'
theorem Ez{op:CmpOp}{r:R2}(ho:OpR X (compareOp op) r)(ha:PE X a ta)(hb:PE X b tb)(hm:behindInMarks op b=false):PT X (.Compare a [op] [b] pos) (Hj (tOp r ta tb)):=by
 intro pins s σ H Q I h
 refine wpAny_isTrue_Compare1 (thn (ha pins s σ H _ I h) λv s1 ⟨x,H1,I1,r1,q1⟩=>thn (hb pins s1 σ H1 _ I1 q1) λu s2 ⟨y,H2,I2,r2,q2⟩=>
  thn (ho pins s2 σ H2 x y v u _ I2 r1 r2 q2) λc s3 ⟨z,H3,I3,r3,k,e,q3⟩=>?_) hm
 subst e
 cases r3
 exact wpAny_truthy_bool ⟨H3,I3,q3⟩
theorem Bdw:(sizeLine:Nat)<2^63:=by rw[Baf];decide
theorem vals1{x:V}{us:List Value}(r:Vals [x] us):∃u,us=[u]/\RelV x u:=by
 cases r with
 |cons r1 r2=>cases r2;exact⟨_,rfl,r1⟩
theorem vals2{x y:V}{us:List Value}(r:Vals [x,y] us):∃u w',us=[u,w']/\RelV x u/\RelV y w':=by
 cases r with
 |cons r1 r2=>
  cases r2 with
  |cons r3 r4=>cases r4;exact⟨_,_,rfl,r1,r3⟩
theorem Btp(hc:X.calm=true):Bb6 X (.builtin "max") (λxs H Q=>∃i j,xs=[.int i,.int j]/\Q (.int (if j>i then j else i)) H):=by
 intro pins s σ H xs us Q I r h
 obtain⟨i,j,rfl,q⟩:=h
 obtain⟨u,w',rfl,⟨t,rfl⟩,⟨t',rfl⟩⟩:=vals2 r
 refine max_two_ints (I.ok.hd hc) λh' tk k=>⟨_,H,I.kept k,?_,q⟩
 by_cases hj:j>i
 ·rw[Aq hj,Aq hj];exact⟨_,rfl⟩
 ·rw[Am hj,Am hj];exact⟨_,rfl⟩
end
end L2
namespace L2
open PySem PySem.Spec PyProof.Rows
structure Bth(h:Heap)(x dx C:Addr)(mA:Str->Option Value):Prop where
 obj:h.get? x=some (Lw C dx)
 ns:h.Ns1 dx mA
 ne:dx≠x
theorem Bue{h:Heap}{dx:Addr}{mA:Str->Option Value}(n:h.Ns1 dx mA):∃od,h.get? dx=some od/\∀name,Ak1 name od=some (mA name):=by
 obtain⟨o,es,ep,ho,hd,hk,_,hm⟩:=n
 refine⟨o,ho,λname=>?_⟩
 have e:=hm name
 unfold nsFind findBy at e
 rw[<-Array.find?_toList] at e
 unfold Ak1
 rw[hd]
 dsimp only
 split
 ·rename_i y q
  rw[q] at e
  exact congrArg some e
 ·rename_i q
  rw[q] at e
  have a:es.toList.any (·.refKey)=false:=by
   rw[At4]
   intro y hy
   obtain⟨z,t,hkey⟩:=hk y (Akg.mp hy)
   simp [DictEntry.refKey,hkey]
  have a':¬es.toList.any (·.refKey)=true:=by rw[a];exact Ac
  rw[Am a']
  exact congrArg some e
theorem Bth.look{h:Heap}{x dx C:Addr}{mA:Str->Option Value}(I:Bth h x dx C mA):∃od,PySem.W.InstAt h x (Lw C dx) C (some od)/\∀name,Ak1 name od=some (mA name):=
 let⟨od,ho,hl⟩:=Bue I.ns
 ⟨od,⟨I.obj,rfl,rfl,ho⟩,hl⟩
section
variable {prog:Program}{w:World}{A:Around}{E:Value->Shared->Prop}{s:Shared}{K:Frag}{x dx C f:Addr}{mA:Str->Option Value}{name:Str}{v:Value}
theorem get_map{expr:Bool}{Q:Value->Shared->Prop}(X:K.In s.heap)(I:Bth s.heap x dx C mA)(hg:Afn K C name=true)(hh:Acd K C=true)
  (ha:M8 K (.ref C) name=some none) (hv:mA name=some v) (hv':Axc v=true) (h:Q v {s with toks:=s.toks+1}):
  wpAny (model prog w) A (getAttr (.ref x) name expr) Q E s:=by
 obtain⟨od,J,hl⟩:=I.look
 exact PySem.W.get_value X J (PySem.W.plainGet_of hg).1 (PySem.W.findObj_own hh ha rfl (by rw[hl,hv])) hv' h
theorem Bz7{ns:List Str}{Q:Unit->Shared->Prop}(X:K.In s.heap)(I:Bth s.heap x dx C mA)
  (hs:M8 K (.ref C) "__setattr__"=some (some (.builtin "object.__setattr__"))) (hp:Auv K C=true) (ht:Air K C name=some none) (hh:Acd K C=true)
  (hw:Auw mA ns) (hsz:ns.length<=sizeLine)
  (h:∀h',Bth h' x dx C (λy=>if y=name then some v else mA y)->Agm dx s.heap h'->Q () {s with heap:=h',toks:=s.toks+2}):
  wpAny (model prog w) A (setAttr (.ref x) name v) Q E s:=by
 obtain⟨od,J,hl⟩:=I.look
 refine PySem.W.set_plain X J hs (PySem.W.osa_open (s:={s with toks:=s.toks+1}) (r:=none) X J hp ht λb=>?_)
 obtain⟨cd,hc,hd'⟩:=PySem.W.any_some hh
 have hx:s.heap.get? x=some ⟨.ref C,some dx,.plain,#[]⟩:=I.obj
 refine Br (Eo (Br (Br (wpAny_loadPart hx (Br (PySem.W.Looks.here (s:={s with toks:=s.toks+1}) (PySem.W.looks_clsIn X hc) ?_))))))
 rw[hd']
 refine Eo (a:=some dx) (Br (Eo (Br ?_)))
 refine wpAny_nsSet1 (s:={s with toks:=s.toks+1}) I.ns λh' hn2 hs2=>?_
 obtain⟨oD,esD,epD,hoD,hdD,hcD⟩:=hn2.count (Auw.cons name v hw)
 refine Br (wpAny_lookBehind hoD (by rw[hdD];exact pastItsLine_dict (Az hcD (by rw[Ay];omega))) ?_)
 exact Eo (h _ ⟨(hs2.2 _ (Js I.ne)).trans I.obj,hn2,I.ne⟩ hs2)
theorem Bxd{R:Result->Shared->Prop}{vs:List Value}{kw:List (Str×Value)}(X:K.In s.heap)(hm:Aiq K C=true)
  (hi:M8 K (.ref C) "__init__"=some (some (.ref f))) (hf:PySem.W.typeIn K (.ref f)=some (.type "function"))
  (h:codeAny (model prog w) (A.under (.builtin "type.__call__" ⟨.ref C::vs,kw⟩)) (.call (.ref f) ⟨.ref (s.heap.objs.size+1)::vs,kw⟩) (PySem.W.InitBack (s.heap.objs.size+1) R)
   {s with heap:=(s.heap.push JL).push (Lw C s.heap.objs.size)}):
  codeAny (model prog w) A (.call (.ref C) ⟨vs,kw⟩) R s:=by
 obtain⟨hh,g,d,t,os⟩:=s
 exact PySem.W.make_core (PySem.W.makes_of X hm) (PySem.W.looks_findIn X hi) (λself=>PySem.W.bind_fn X self hf) (.inl rfl) h
end
def Nm(f:Str)(v:V):List (Str×V)->List (Str×V)
 |[]=>[(f,v)]
 |(g,x)::r=>if g=f then(g,v)::r else(g,x)::Nm f v r
theorem Azx(f g:Str)(v:V):∀fs:List (Str×V),(Nm f v fs).lookup g=if g=f then some v else fs.lookup g
 |[]=>by
  show JG g [(f,v)]=_
  by_cases h:g=f
  ·have hb:(g==f)=true:=Jc.mpr h
   simp only [JG,hb,Aq h]
  ·have hb:(g==f)=false:=DG.mpr h
   simp only [JG,hb,Am h]
 |(k,x)::r=>by
  have ih:=Azx f g v r
  rw[show Nm f v ((k,x)::r)=(if k=f then(k,v)::r else(k,x)::Nm f v r) from rfl]
  by_cases hk:k=f
  ·rw[Aq hk]
   by_cases h:g=k
   ·have hb:(g==k)=true:=Jc.mpr h
    simp only [JG,hb,Aq (h.trans hk)]
   ·have hb:(g==k)=false:=DG.mpr h
    simp only [JG,hb,Am (λe:g=f=>h (e.trans hk.symm))]
  ·rw[Am hk]
   by_cases h:g=k
   ·have hb:(g==k)=true:=Jc.mpr h
    simp only [JG,hb,Am (λe:g=f=>hk (h.symm.trans e))]
   ·have hb:(g==k)=false:=DG.mpr h
    simp only [JG,hb]
    exact ih
theorem Axo(f:Str)(v:V):∀fs:List (Str×V),f∈(Nm f v fs).map (·.1)/\∀g,g∈fs.map (·.1)->g∈(Nm f v fs).map (·.1)
 |[]=>⟨by simp [Nm],λg h=>by simp at h⟩
 |(k,x)::r=>by
  obtain⟨i1,i2⟩:=Axo f v r
  rw[show Nm f v ((k,x)::r)=(if k=f then(k,v)::r else(k,x)::Nm f v r) from rfl]
  by_cases hk:k=f
  ·rw[Aq hk]
   subst hk
   exact⟨by simp,λg h=>by simpa using h⟩
  ·rw[Am hk]
   refine⟨?_,λg h=>?_⟩
   ·rw[Bo]
    exact Bh _ i1
   ·rw[Bo] at h|-
    rcases BP.mp h with e|e
    ·exact BP.mpr (.inl e)
    ·exact Bh _ (i2 g e)
theorem Alr(f:Str)(v:V):∀fs:List (Str×V),(Nm f v fs).length<=fs.length+1
 |[]=>by simp [Nm]
 |(k,x)::r=>by
  have ih:=Alr f v r
  rw[show Nm f v ((k,x)::r)=(if k=f then(k,v)::r else(k,x)::Nm f v r) from rfl]
  by_cases hk:k=f
  ·rw[Aq hk,Ay,Ay];omega
  ·rw[Am hk,Ay,Ay];omega
theorem Bpa.some_of{v:V}{o:Option Value}(r:Bpa (some v) o):∃u,o=some u/\RelV v u:=by
 cases o with
 |none=>exact(show False from r).elim
 |some u=>exact⟨u,rfl,r⟩
theorem Bt0{v:V}{u:Value}(r:RelV v u):Axc u=true:=by
 cases v with
 |non=>cases(show u=Lx from r);rfl
 |bl b=>cases(show u=Agu b from r);rfl
 |int i=>obtain⟨t,e⟩:=(show∃t,u=Axe i t from r);cases e;rfl
 |str x=>obtain⟨t,e⟩:=(show∃t,u=Bhf x t from r);cases e;rfl
 |byt b=>obtain⟨t,e⟩:=(show∃t,u=Value.bytes b t from r);cases e;rfl
 |flt b=>obtain⟨t,e⟩:=(show∃t,u=Value.float b t from r);cases e;rfl
 |ref a=>cases(show u=G8 a from r);rfl
 |ty n=>cases(show u=TJ n from r);rfl
section
variable {P:Program}{w:World}{H H':Hp}{h h':Heap}{a C dx:Addr}{fs fs':List (Str×V)}
theorem Brv(hok:HOk P w H h)(e:H a=some (.ins C dx fs)):∃mA,Bth h a dx C mA/\(∀f,Bpa (fs.lookup f) (mA f))/\Auw mA (fs.map (·.1))/\fs.length<=1000/\H dx=some (.own a):=by
 obtain⟨d,z,ne,ob,mA,n,r,q⟩:=(show R0 P w H h a (.ins C dx fs) from hok a _ e)
 exact⟨mA,⟨ob,n,ne⟩,r,q,z,d⟩
end
structure Cls(K:Frag)(C:Addr):Prop where
 pg:Afn K C Str.empty=true
 hd:Acd K C=true
 po:Auv K C=true
 sa:M8 K (.ref C) "__setattr__"=some (some (.builtin "object.__setattr__"))
theorem Cls.get{K:Frag}{C:Addr}(c:Cls K C)(f:Str):Afn K C f=true:=c.pg
def HY(K:Frag)(C:Addr)(f:Str):Prop:=M8 K (.ref C) f=some none
theorem HY.taker{K:Frag}{C:Addr}{f:Str}(n:HY K C f):Air K C f=some none:=by
 unfold Air
 rw[show M8 K (.ref C) f=some none from n]
 rfl
section
variable {X:Cx}{pins:List (Addr×Obj)}{σ:St}{H:Hp}{s:Shared}{a C dx:Addr}{fs:List (Str×V)}{f:Str}{v:V}{A:Around}{E:Value->Shared->Prop}
theorem Bpt{b:Bool}{Q:Value->Shared->Prop}(I:Inv X pins σ H s)(e:H a=some (.ins C dx fs))(c:Cls X.K C)(n:HY X.K C f)(l:fs.lookup f=some v)
  (h:∀u s',Inv X pins σ H s'->RelV v u->Q u s'):wpAny (model X.prog X.w) A (getAttr (.ref a) f b) Q E s:=by
 obtain⟨mA,O,r,_,_,_⟩:=Brv I.hok e
 obtain⟨u,hu,ru⟩:=Bpa.some_of (v:=v) (o:=mA f) (by rw[<-l];exact r f)
 exact get_map I.kIn O (c.get f) c.hd n hu (Bt0 ru) (h u _ (I.tok _) ru)
theorem Bqo{y:V}{u:Value}{Q:Unit->Shared->Prop}(I:Inv X pins σ H s)(e:H a=some (.ins C dx fs))(c:Cls X.K C)(n:HY X.K C f)(hl:fs.length<1000)(ry:RelV y u)
  (h:∀s',Inv X pins σ (upd H a (.ins C dx (Nm f y fs))) s'->Q () s'):wpAny (model X.prog X.w) A (setAttr (.ref a) f u) Q E s:=by
 obtain⟨mA,O,r,wi,_,ho⟩:=Brv I.hok e
 have hz:(fs.map (·.1)).length<=sizeLine:=by rw[Aa,Baf];omega
 refine Bz7 I.kIn O c.sa c.po n.taker c.hd wi hz λh' O' sb=>h _ ?_
 have hd:∃o,h'.get? dx=some o:=let⟨o,_,_,e',_⟩:=O'.ns;⟨o,e'⟩
 refine I.write (x:=a) (e:=dx) (by rw[e];exact Asz) (.inr ho) (λb q hb z=>(sb.2 b hb).trans z) hd ?_
 refine⟨by rw[Cd O.ne];exact ho,?_,O.ne,O'.obj,_,O'.ns,λg=>?_,λg hg=>?_⟩
 ·have:=Alr f y fs;omega
 ·show Bpa ((Nm f y fs).lookup g) (if g=f then some u else mA g)
  rw[Azx]
  by_cases q:g=f
  ·rw[Aq q,Aq q];exact ry
  ·rw[Am q,Am q];exact r g
 ·by_cases q:g=f
  ·rw[q];exact(Axo f y fs).1
  ·refine(Axo f y fs).2 g (wi g λz=>hg ?_)
   show(if g=f then some u else mA g)=none
   rw[Am q];exact z
theorem Inv.made(I:Inv X pins σ H s):Inv X pins σ (upd (upd H s.heap.objs.size (.own (s.heap.objs.size+1))) (s.heap.objs.size+1) (.ins C s.heap.objs.size []))
  {s with heap:=(s.heap.push JL).push (Lw C s.heap.objs.size)}:=by
 have e1:(s.heap.push JL).get? s.heap.objs.size=some JL:=Dr s.heap rfl
 have e2:((s.heap.push JL).push (Lw C s.heap.objs.size)).get? (s.heap.objs.size+1)=some (Lw C s.heap.objs.size):=by
  have:=Dr (s.heap.push JL) (o:=Lw C s.heap.objs.size) rfl
  rwa [Hg] at this
 have e3:(s.heap.push JL).Ns s.heap.objs.size (λ_=>none):=⟨JL,#[],_,e1,rfl,(λe he=>absurd he (by simp)),λ_=>rfl⟩
 have I1:=I.laid (a:=s.heap.objs.size) (o:=.own (s.heap.objs.size+1)) (h':=s.heap.push JL) (t':=s.toks) (λb u q=>Bs _ q) (Bu _) ⟨_,e1⟩
 refine I1.laid (a:=s.heap.objs.size+1) (o:=.ins C s.heap.objs.size []) (t':=s.toks) (λb u q=>Bs _ q) (PN (Hg _ _)) ?_
 have ne:s.heap.objs.size≠s.heap.objs.size+1:=Fd (V5 _)
 refine⟨by rw[Cd ne,Ah],Hh _,ne,e2,λ_=>none,(Heap.Ns1.of_empty e3).at λo q=>Bs _ q,λ_=>Asz,λy hy=>absurd rfl hy⟩
theorem Byz{prog:Program}{w:World}{env:Env}{e:Expr}{f:Str}{pos:Pos}{s:Shared}{Q:Value->Shared->Prop}(hb:attributeBase e f env (eval e env)=eval e env)
  (h:wpAny (model prog w) A (eval e env) (λo s₁=>wpAny (model prog w) A (getAttr o f true) Q E s₁) E s):wpAny (model prog w) A (eval (.Attribute e f pos) env) Q E s:=
 Attribute_any_ h (by rw[arm_eval_Attribute,hb])
end
def Gm(K:Frag)(ta:TE)(f:Str):TE:=λσ H Q=>ta σ H λx H1=>∃a C dx fs v,x=.ref a/\H1 a=some (.ins C dx fs)/\Cls K C/\HY K C f/\fs.lookup f=some v/\Q v H1
def VH(K:Frag)(ta tv:TE)(f:Str):TS:=λD σ H=>tv σ H λy H1=>ta σ H1 λx H2=>∃a C dx fs,x=.ref a/\H2 a=some (.ins C dx fs)/\Cls K C/\HY K C f/\fs.length<1000/\
 D.nx σ (upd H2 a (.ins C dx (Nm f y fs)))
section
variable {X:Cx}{o e value:Expr}{f:Str}{pos pos' tpos:Pos}{ta tv:TE}
theorem CZ(he:PE X e ta)(hb:attributeBase e f X.env (eval e X.env)=eval e X.env):PE X (.Attribute e f pos) (Gm X.K ta f):=by
 intro pins s σ H Q I h
 refine Byz hb (thn (he pins s σ H _ I h) λu s1 ⟨x,H1,I1,rx,a,C,dx,fs,v,ex,ea,c,n,l,q⟩=>?_)
 subst ex
 obtain rfl:u=G8 a:=rx
 exact Bpt I1 ea c n l λu' s2 I2 ru=>⟨v,H1,I2,ru,q⟩
theorem K4(ha:PE X o ta)(hv:PE X value tv)(hs:swapsWith value (some (.Attribute o f pos')) pos.line X.env=pure false):PS X (.Assign [.Attribute o f pos'] value pos) (VH X.K ta tv f):=by
 intro pins s σ H D I h
 refine plainObj_wpAny_Assign_Attribute (thn (hv pins s σ H _ I h) λu s1 ⟨y,H1,I1,ry,q⟩=>thn (ha pins s1 σ H1 _ I1 q) λov s2 ⟨x,H2,I2,rx,a,C,dx,fs,ex,ea,c,n,l,q2⟩=>?_) hs
 subst ex
 obtain rfl:ov=G8 a:=rx
 exact Bqo I2 ea c n l ry λs3 I3=>⟨σ,_,I3,q2⟩
end
end L2
namespace L2
open PySem PySem.Spec PyProof.Rows
structure Room(k:Nat)(A:Around):Prop where
 hd:A.handled=none
 dp:A.depth+3*k+5<recursionLimit
 un:A.units+16*k+200<cLine
theorem Room.mono{j k:Nat}{A:Around}(r:Room k A)(h:j<=k):Room j A:=⟨r.hd,by have:=r.dp;omega,by have:=r.un;omega⟩
theorem Room.deeper{k:Nat}{A:Around}(r:Room (k+1) A)(env:Env):Room k (A.deeper env):=
 ⟨r.hd,by have:=r.dp;show A.depth+1+3*k+5<_;omega,by have:=r.un;show A.units+3+16*k+200<_;omega⟩
theorem Room.in1{k:Nat}{A:Around}(r:Room (k+1) A):Room k A.in1:=
 ⟨r.hd,by have:=r.dp;show A.depth+3*k+5<_;omega,by have:=r.un;show A.units+1+16*k+200<_;omega⟩
theorem Bp6{A:Around}{C:Addr}{us:List Value}{kw:List (Str×Value)}:(A.under (.builtin "type.__call__" ⟨.ref C::us,kw⟩)).depth=A.depth+1:=by
 first|rfl|simp [Atx,Code.weight,Code.isCreation,Code.isGuard,Code.isCaller,Code.frames,At0,guardIds]
theorem Bp7{A:Around}{C:Addr}{us:List Value}{kw:List (Str×Value)}:(A.under (.builtin "type.__call__" ⟨.ref C::us,kw⟩)).units=A.units+1:=by
 first|rfl|simp [Atx,Code.cUnits,Code.frames,At0]
theorem Room.make{k:Nat}{A:Around}(r:Room (k+1) A)(C:Addr)(us:List Value)(kw:List (Str×Value)):Room k (A.under (.builtin "type.__call__" ⟨.ref C::us,kw⟩)):=
 ⟨r.hd,by have:=r.dp;rw[Bp6];omega,by have:=r.un;rw[Bp7];omega⟩
theorem Room.depth{k:Nat}{A:Around}(r:Room k A):A.depth<recursionLimit:=by have:=r.dp;omega
theorem Room.units{k:Nat}{A:Around}(r:Room k A):A.units+64<cLine:=by have:=r.un;omega
theorem Room.Bq1{k:Nat}{A:Around}(r:Room k A):A.units<cLine:=by have:=r.un;omega
def Bq:TA:=λ_ H Q=>Q [] H
def Ad(ta:TE)(tr:TA):TA:=λσ H Q=>ta σ H λx H1=>tr σ H1 λxs H2=>Q (x::xs) H2
section
variable {X:Cx}{e:Expr}{es:List Expr}{te:TE}{t:TA}{pos:Pos}
theorem Ai:PA X [] Bq:=λ_ _ _ _ H Q I h=>Ul ⟨[],H,I,.nil,h⟩
theorem Ab(ha:PE X e te)(hr:PA X es t)(hs:starEach (e::es) X.env=(false,eval e X.env)::starEach es X.env:=by rfl):PA X (e::es) (Ad te t):=by
 intro pos pins s σ H Q I h
 rw[hs]
 show wpAny _ _ (spliced ((false,eval e X.env)::backTo pos (starEach es X.env))) _ _ s
 refine M4 (thn (ha pins s σ H _ I h) λu s1 ⟨x,H1,I1,r1,q1⟩=>?_)
 exact thn (hr pos pins s1 σ H1 _ I1 q1) λus s2 ⟨xs,H2,I2,r2,q2⟩=>⟨x::xs,H2,I2,.cons r1 r2,q2⟩
def Apc(t:TA):TE:=λσ H Q=>t σ H λxs H1=>xs.length<=sizeLine/\∀p,H1 p=none->Q (.ref p) (upd H1 p (.tup xs))
def GK(t:TA):TE:=λσ H Q=>t σ H λxs H1=>xs.length<=sizeLine/\∀p,H1 p=none->Q (.ref p) (upd H1 p (.lst xs))
theorem Vg{x1}(h:PA X es t):PE X (.Tuple es x1 pos) (Apc t):=by
 intro pins s σ H Q I hq
 refine wpAny_Tuple_spliced (thn (h pos pins s σ H _ I hq) λus s1 ⟨xs,H1,I1,r,z,q⟩=>⟨by rw[<-r.length];exact z,?_⟩)
 have hf:H1 s1.heap.objs.size=none:=I1.hok.fresh (Bu _)
 refine⟨.ref s1.heap.objs.size,upd H1 s1.heap.objs.size (.tup xs),I1.laid (t':=s1.toks) (λb u e=>Bs _ e) (Bu _) ?_,rfl,q _ hf⟩
 exact⟨z,us,r,⟨_,Dr _ rfl,rfl,_,rfl⟩⟩
theorem Dl(h:PA X es t):PE X (.List es pos) (GK t):=by
 intro pins s σ H Q I hq
 refine wpAny_List_spliced (thn (h pos pins s σ H _ I hq) λus s1 ⟨xs,H1,I1,r,z,q⟩=>⟨by rw[<-r.length];exact z,?_⟩)
 have hf:H1 s1.heap.objs.size=none:=I1.hok.fresh (Bu _)
 refine⟨.ref s1.heap.objs.size,upd H1 s1.heap.objs.size (.lst xs),I1.laid (t':=s1.toks) (λb u e=>Bs _ e) (Bu _) ?_,rfl,q _ hf⟩
 exact⟨z,us,0,r,Dr _ rfl⟩
end
abbrev Sp:=List V->Hp->VK->XK->Prop
abbrev CXT:=List Env->Hp->Shared->XK->Value->Shared->Prop
structure Aw1(P:Program)(w:World)(K:Frag)(mg:Str->Option Value)(base:Heap)(A:Around)(outer:List Env)(s:Shared)(H:Hp):Prop where
 frames:A.frames=some outer
 mod:Mod K mg base
 bs:∀b o,base.get? b=some o->s.heap.get? b=some o/\H b=none
 bsz:base.objs.size<=s.heap.objs.size
 Ao6:s.heap.FunFrames base outer
 frf:∀b∈frs outer,H b=none
 hok:HOk P w H s.heap
 bare:AllBare s.gens
def CE(outer:List Env)(P:Program)(w:World)(H:Hp)(s:Shared)(Q:VK)(u:Value)(s':Shared):Prop:=
 ∃v H',s'.os=s.os/\AllBare s'.gens/\Un (frs outer) [] H H' s.heap s'.heap/\HOk P w H' s'.heap/\RelV v u/\Q v H'
def CR(CX:CXT)(outer:List Env)(P:Program)(w:World)(H:Hp)(s:Shared)(Q:VK)(E:XK)(r:Result)(s':Shared):Prop:=
 match r with
 |.ok (.ret u)=>CE outer P w H s Q u s'
 |.ok _=>False
 |.error e=>CX outer H s E e s'
structure YZ(P:Program)(w:World)(K:Frag)(mg:Str->Option Value)(base:Heap)(CX:CXT)(k:Nat)(f:Addr)(fd:FuncData)(ps:List Str)(sp:Sp):Prop where
 len:∀vs H Q E,sp vs H Q E->vs.length=ps.length
 run:∀(A:Around) (outer:List Env) (s:Shared) (H:Hp) (args:Args) (us:List Value) (vs:List V) (Q:VK) (E:XK),Room k A->Aw1 P w K mg base A outer s H->BindsTo s fd args (ps.zip us)->Vals vs us->sp vs H Q E->
  codeAny (model P w) A (.call (.ref f) args) (CR CX outer P w H s Q E) s
theorem YZ.mono{P:Program}{w:World}{K:Frag}{mg:Str->Option Value}{base:Heap}{CX:CXT}{j k:Nat}{f:Addr}{fd:FuncData}{ps:List Str}{sp:Sp}(F:YZ P w K mg base CX j f fd ps sp)(h:j<=k):
  YZ P w K mg base CX k f fd ps sp:=⟨F.len,λA outer s H args us vs Q E hr=>F.run A outer s H args us vs Q E (hr.mono h)⟩
theorem Aw1.make{P:Program}{w:World}{K:Frag}{mg:Str->Option Value}{base:Heap}{A:Around}{outer:List Env}{s:Shared}{H:Hp}(e:Aw1 P w K mg base A outer s H)(C:Addr)(us:List Value)(kw:List (Str×Value)):
  Aw1 P w K mg base (A.under (.builtin "type.__call__" ⟨.ref C::us,kw⟩)) outer s H:=⟨by first|exact e.frames|(simpa [Atx,Code.envs,At0,pushEnvs] using e.frames),e.mod,e.bs,e.bsz,e.Ao6,e.frf,e.hok,e.bare⟩
theorem Aw1.in1{P:Program}{w:World}{K:Frag}{mg:Str->Option Value}{base:Heap}{A:Around}{outer:List Env}{s:Shared}{H:Hp}(e:Aw1 P w K mg base A outer s H):
  Aw1 P w K mg base A.in1 outer s H:=⟨e.frames,e.mod,e.bs,e.bsz,e.Ao6,e.frf,e.hok,e.bare⟩
section
variable {X:Cx}{pins:List (Addr×Obj)}{σ:St}{H:Hp}{s s':Shared}
theorem Inv.env0(I:Inv X pins σ H s):Aw1 X.prog X.w X.K X.mg X.base X.A X.stack s H:=
 ⟨I.ok.frames,I.ok.mod,I.bs,Az I.ok.bsz I.sz,I.stack,I.Bs6,I.hok,I.bare⟩
theorem Inv.after{Q:VK}{u:Value}(I:Inv X pins σ H s)(h:CE X.stack X.prog X.w H s Q u s'):EP X pins σ Q u s':=by
 obtain⟨v,H',os,bare,un,hok,r,q⟩:=h
 obtain⟨hh,g,d,t,os'⟩:=s'
 obtain rfl:os'=s.os:=os
 exact⟨v,H',I.call (h':=hh) (g':=g) (d':=d) (t':=t) (ch:=[]) un hok bare (λb z=>absurd z (by simp)),r,q⟩
end
def Cy(sp:Sp)(dvs:List V)(E:XK)(t:TA):TE:=λσ H Q=>t σ H λvs H1=>sp (vs++dvs) H1 Q E
def Uj(C:Addr)(sp:Sp)(dvs:List V)(E:XK)(t:TA):TE:=λσ H Q=>t σ H λvs H1=>∀x dx,H1 x=none->H1 dx=none->dx≠x->
 sp (.ref x::(vs++dvs)) (upd (upd H1 dx (.own x)) x (.ins C dx [])) (λv H2=>v=.non/\Q (.ref x) H2) E
def Binds(K:Frag)(fd:FuncData)(ps:List Str)(ds:List Value):Prop:=
 ∀(s:Shared) (us:List Value),K.In s.heap->(us++ds).length=ps.length->BindsTo s fd ⟨us,[]⟩ (ps.zip (us++ds))
theorem Binds.all{K:Frag}{fd:FuncData}{ps:List Str}(h:∀us:List Value,us.length=ps.length->bindArgs fd ⟨us,[]⟩=pure (ps.zip us)):Binds K fd ps []:=λs us _ hl=>by
 rw[Ds] at hl|-
 exact .of_eq (h us hl)
def Passes(CX:CXT)(X:Cx)(E:XK):Prop:=∀(pins:List (Addr×Obj)) (σ:St) (H:Hp) (s:Shared) (e:Value) (s':Shared),Inv X pins σ H s->CX X.stack H s E e s'->X.xe e s'
section
variable {X:Cx}{CX:CXT}{k:Nat}{f C:Addr}{fd:FuncData}{ps:List Str}{sp:Sp}{dvs:List V}{ds:List Value}{E:XK}{x m:Str}{p pos apos:Pos}{e o:Expr}{es:List Expr}{ta:TE}{t:TA}
theorem Bqm{pins:List (Addr×Obj)}{σ:St}{H:Hp}{s:Shared}{Q:VK}{us:List Value}{vs:List V}(F:YZ X.prog X.w X.K X.mg X.base CX k f fd ps sp)(hr:Room k X.A)(hb:Binds X.K fd ps ds)(hd:Vals dvs ds)(hx:Passes CX X E)
  (I:Inv X pins σ H s) (r:Vals vs us) (h:sp (vs++dvs) H Q E):wpAny (model X.prog X.w) X.A (call (.ref f) us) (EP X pins σ Q) X.xe s:=by
 have r2:Vals (vs++dvs) (us++ds):=r.append hd
 have hl:(us++ds).length=ps.length:=by rw[<-r2.length];exact F.len _ _ _ _ h
 refine Abm (Ql (F.run X.A X.stack s H ⟨us,[]⟩ (us++ds) (vs++dvs) Q E hr I.env0 (hb s us I.kIn hl) r2 h) λr s' hq=>?_)
 cases r with
 |error e=>exact hx pins σ H s e s' I hq
 |ok fl=>
  cases fl with
  |ret u=>exact I.after hq
  |next=>exact Fo hq
  |brk=>exact Fo hq
  |cont=>exact Fo hq
theorem Bz1(F:YZ X.prog X.w X.K X.mg X.base CX k f fd ps sp)(hr:Room k X.A)(hg:Gl X x)(hm:X.mg x=some (.ref f))(hk:Ig X.K (.ref f)=true)(hb:Binds X.K fd ps ds)(hd:Vals dvs ds)(hx:Passes CX X E)
  (ha:PA X (e::es) t) (hdb:(x==("__debug__":Str))=false:=by decide) (he:starEach (e::es) X.env=(false,eval e X.env)::starEach es X.env:=by rfl) (hpl:(backTo pos (starEach es X.env)).any (·.1)=false:=by rfl):
  PE X (.Call (.Name x p) (e::es) [] pos) (Cy sp dvs E t):=by
 intro pins s σ H Q I h
 refine Ji (Aof I hg hm ?_ hdb)
 refine M7 (h₀:=X.base) I.ok.mod.kin hk (thn (ha pos pins s σ H _ I h) λus s1 ⟨vs,H1,I1,r,q⟩=>⟨I1.kIn,?_⟩) he hpl
 exact Bqm F hr hb hd hx I1 r q
structure Mk(K:Frag)(C f:Addr):Prop where
 makes:Aiq K C=true
 init:M8 K (.ref C) "__init__"=some (some (.ref f))
 fn:Biz K (.ref f)=true
 kp:Ig K (.ref C)=true
theorem Boj{pins:List (Addr×Obj)}{σ:St}{H:Hp}{s:Shared}{Q:VK}{us:List Value}{vs:List V}(M:Mk X.K C f)(F:YZ X.prog X.w X.K X.mg X.base CX k f fd ps sp)(hr:Room (k+1) X.A)(hb:Binds X.K fd ps ds)(hd:Vals dvs ds)
  (hx:Passes CX X E) (I:Inv X pins σ H s) (r:Vals vs us)
  (h:∀x dx,H x=none->H dx=none->dx≠x->sp (.ref x::(vs++dvs)) (upd (upd H dx (.own x)) x (.ins C dx [])) (λv H2=>v=.non/\Q (.ref x) H2) E):
  wpAny (model X.prog X.w) X.A (call (.ref C) us) (EP X pins σ Q) X.xe s:=by
 have hq:=h (s.heap.objs.size+1) s.heap.objs.size (I.hok.fresh (Rj _)) (I.hok.fresh (Bu _)) (Fd (V5 _))
 have I2:=Inv.made (C:=C) I
 have r2:Vals (V.ref (s.heap.objs.size+1)::(vs++dvs)) (G8 (s.heap.objs.size+1)::(us++ds)):=.cons rfl (r.append hd)
 have hl:(G8 (s.heap.objs.size+1)::us++ds).length=ps.length:=by
  have e:=r2.length
  rw[F.len _ _ _ _ hq] at e
  exact e.symm
 refine Abm (Bxd (f:=f) I.kIn M.makes M.init (Jc.mp M.fn) (Ql (F.run _ X.stack _ _ ⟨G8 (s.heap.objs.size+1)::us,[]⟩ (G8 (s.heap.objs.size+1)::(us++ds)) _ _ E (hr.make C us [])
  (I2.env0.make C us []) (hb _ (G8 (s.heap.objs.size+1)::us) I2.kIn hl) r2 hq) λr s' hq'=>?_))
 cases r with
 |error e=>exact hx pins σ _ _ e s' I2 hq'
 |ok fl=>
  cases fl with
  |ret u=>
   obtain⟨v,H',I3,rv,ev,q3⟩:=I2.after hq'
   subst ev
   exact⟨rv,⟨V.ref (s.heap.objs.size+1),H',I3,rfl,q3⟩⟩
  |next=>exact Fo hq'
  |brk=>exact Fo hq'
  |cont=>exact Fo hq'
theorem Bz3(M:Mk X.K C f)(F:YZ X.prog X.w X.K X.mg X.base CX k f fd ps sp)(hr:Room (k+1) X.A)(hg:Gl X x)(hm:X.mg x=some (.ref C))(hb:Binds X.K fd ps ds)(hd:Vals dvs ds)(hx:Passes CX X E)
  (ha:PA X (e::es) t) (hdb:(x==("__debug__":Str))=false:=by decide) (he:starEach (e::es) X.env=(false,eval e X.env)::starEach es X.env:=by rfl) (hpl:(backTo pos (starEach es X.env)).any (·.1)=false:=by rfl):
  PE X (.Call (.Name x p) (e::es) [] pos) (Uj C sp dvs E t):=by
 intro pins s σ H Q I h
 refine Ji (Aof I hg hm ?_ hdb)
 refine M7 (h₀:=X.base) I.ok.mod.kin M.kp (thn (ha pos pins s σ H _ I h) λus s1 ⟨vs,H1,I1,r,q⟩=>⟨I1.kIn,?_⟩) he hpl
 exact Boj M F hr hb hd hx I1 r q
theorem Bxr(M:Mk X.K C f)(F:YZ X.prog X.w X.K X.mg X.base CX k f fd ps sp)(hr:Room (k+1) X.A)(hg:Gl X x)(hm:X.mg x=some (.ref C))(hb:Binds X.K fd ps ds)(hd:Vals dvs ds)(hx:Passes CX X E)
  (hdb:(x==("__debug__":Str))=false:=by decide):PE X (.Call (.Name x p) [] [] pos) (Uj C sp dvs E Bq):=by
 intro pins s σ H Q I h
 refine Ji (Aof I hg hm ?_ hdb)
 exact PySem.W.callWith_K0 I.kIn M.kp (Boj (us:=[]) M F hr hb hd hx I .nil h)
end
def PK(X:Cx)(kws:List Keyword)(t:TA):Prop:=
 ∀(pos:Pos) (pins:List (Addr×Obj)) (s:Shared) (σ:St) (H:Hp) (Q:List V->Hp->Prop),Inv X pins σ H s->t σ H Q->wpAny (model X.prog X.w) X.A (evalAll ((backToKw pos (keywordEach kws X.env)).map (·.2))) (AP X pins σ Q) X.xe s
section
variable {X:Cx}{CX:CXT}{k:Nat}{f C:Addr}{fd:FuncData}{ps ks:List Str}{sp:Sp}{E:XK}{x m:Str}{p pos apos kpos:Pos}{e o:Expr}{es:List Expr}{kws:List Keyword}{te ta:TE}{t tk:TA}{nm:Option Str}
theorem Ccg:PK X [] Bq:=λ_ _ _ _ H Q I h=>wpAny_evalAll_nil ⟨[],H,I,.nil,h⟩
theorem Bz5(ha:PE X e te)(hr:PK X kws t):PK X (⟨nm,e,kpos⟩::kws) (Ad te t):=by
 intro pos pins s σ H Q I h
 show wpAny _ _ (evalAll ((do let v<-eval e X.env;standAt pos;pure v)::(backToKw pos (keywordEach kws X.env)).map (·.2))) _ _ s
 refine wpAny_evalAll_cons (Br (thn (ha pins s σ H _ I h) λu s1 ⟨x,H1,I1,r1,q1⟩=>Br (Asg (Eo ?_))))
 exact thn (hr pos pins s1 σ H1 _ I1 q1) λus s2 ⟨xs,H2,I2,r2,q2⟩=>⟨x::xs,H2,I2,.cons r1 r2,q2⟩
variable {g:List Value->List Value->List Value}{gV:List V->List V->List V}
end
structure Cp(N P:List Str)(sc:Scope):Prop where
 kind:sc.kind=.function
 co:sc.isCoroutine=false
 gen:sc.isGenerator=false
 nd:N.Nodup
 pre:N.take P.length=P
 par:∀x∈P,sc.names.lookup x=some .local\/sc.names.lookup x=some .cell
 Cca:∀y∈sc.names,y.2≠.free
theorem Bhk{kindOf:Str->Option NameKind}{x:Str}:∀{binds:List (Str×Value)} {m:Str->Option Value},(∀v,(x,v)∉binds)->bindL kindOf binds m x=m x
 |[],_,_=>rfl
 |(n,v)::r,m,h=>by
  unfold bindL
  rw[Bhk λw hw=>h w (Bh _ hw)]
  split
  ·have:x≠n:=by rintro rfl;exact h v Bl
   simp [this]
  ·rfl
theorem Bhi{kindOf:Str->Option NameKind}{x:Str}:∀{binds:List (Str×Value)} {m:Str->Option Value},(∀v,(x,v)∉binds)->bindC kindOf binds m x=m x
 |[],_,_=>rfl
 |(n,v)::r,m,h=>by
  unfold bindC
  rw[Bhi λw hw=>h w (Bh _ hw)]
  split
  ·rfl
  ·have:x≠n:=by rintro rfl;exact h v Bl
   simp [this]
theorem Bhj{kindOf:Str->Option NameKind}{x:Str}{v:Value}:∀{P:List Str} {vs:List Value} {i:Nat} {m:Str->Option Value},P.Nodup->P[i]?=some x->vs[i]?=some v->kindOf x=some .local->
  bindL kindOf (P.zip vs) m x=some v
 |[],_,_,_,_,h,_,_=>by simp at h
 |_::_,[],_,_,_,_,h,_=>by simp at h
 |p::P,w::vs,0,m,nd,h1,h2,hk=>by
  simp at h1 h2;subst h1;subst h2
  show bindL kindOf ((p,w)::P.zip vs) m p=_
  unfold bindL
  rw[Bhk λv hv=>(Gj.mp nd).1 (Nt hv).1,Aq hk]
  simp
 |p::P,w::vs,i+1,m,nd,h1,h2,hk=>by
  show bindL kindOf ((p,w)::P.zip vs) m x=_
  unfold bindL
  exact Bhj (i:=i) (Gj.mp nd).2 (by simpa using h1) (by simpa using h2) hk
theorem Bhh{kindOf:Str->Option NameKind}{x:Str}{v:Value}:∀{P:List Str} {vs:List Value} {i:Nat} {m:Str->Option Value},P.Nodup->P[i]?=some x->vs[i]?=some v->kindOf x≠some .local->
  bindC kindOf (P.zip vs) m x=some v
 |[],_,_,_,_,h,_,_=>by simp at h
 |_::_,[],_,_,_,_,h,_=>by simp at h
 |p::P,w::vs,0,m,nd,h1,h2,hk=>by
  simp at h1 h2;subst h1;subst h2
  show bindC kindOf ((p,w)::P.zip vs) m p=_
  unfold bindC
  rw[Bhi λv hv=>(Gj.mp nd).1 (Nt hv).1,Am hk]
  simp
 |p::P,w::vs,i+1,m,nd,h1,h2,hk=>by
  show bindC kindOf ((p,w)::P.zip vs) m x=_
  unfold bindC
  exact Bhh (i:=i) (Gj.mp nd).2 (by simpa using h1) (by simpa using h2) hk
def start(N:List Str)(vs:List V):St:=vs.map some++Dy (N.length-vs.length) none
def Bmu(CX:CXT)(P:Program)(w:World)(K:Frag)(mg:Str->Option Value)(base:Heap)(N:List Str)(qual:Str)(scope:Scope)(f:Addr)(cd:Value)(A:Around)(outer:List Env)(s:Shared)(H:Hp)(E:XK):Cx where
 prog:=P
 w:=w
 K:=K
 mg:=mg
 base:=base
 A:=A.deeper (envOfC qual scope s.heap.objs.size f cd)
 N:=N
 s_0:=s
 H_0:=H
 env:=envOfC qual scope s.heap.objs.size f cd
 outer:=outer
 stack:=envOfC qual scope s.heap.objs.size f cd::outer
 ex:=[]
 calm:=true
 fn:=λ_=>true
 pn:=[]
 xe:=λe s'=>wpAny (model P w) (A.deeper (envOfC qual scope s.heap.objs.size f cd)) (leaving (envOfC qual scope s.heap.objs.size f cd) e) (λ_ s''=>CX outer H s E e s'') (λe' s''=>CX outer H s E e' s'') s'
theorem Bmp{sc:Scope}{n:Nat}{x:Str}(h:sc.names.lookup x=some .cell):∃c,(cellsFrom n sc.names []).lookup x=some c:=by
 have q:=Ags sc.names n [] (.inl h)
 exact Option.isSome_iff_exists.mp q
theorem Bt5{CX:CXT}{P:Program}{w:World}{K:Frag}{mg:Str->Option Value}{base:Heap}{N ps:List Str}{qual:Str}{scope:Scope}{f:Addr}{cd:Value}{A:Around}{outer:List Env}{s s1:Shared}{H:Hp}{E:XK}{us:List Value}{vs:List V}
  (S:Cp N ps scope) (hd:A.handled=none) (e0:Aw1 P w K mg base A outer s H) (hl:vs.length=ps.length) (r:Vals vs us)
  (x:InCallC s s.heap.objs.size (bindL (envOfC qual scope s.heap.objs.size f cd).kindOf (ps.zip us) λ_=>none) (cellsFrom (s.heap.objs.size+1) scope.names []) (bindC (envOfC qual scope s.heap.objs.size f cd).kindOf (ps.zip us) λ_=>none) s1):
  Inv (Bmu CX P w K mg base N qual scope f cd A outer s H E) [] (start N vs) H s1:=by
 have hpl:ps.length<=N.length:=by have:=congrArg Mv S.pre;rw[Er] at this;omega
 obtain⟨h1,tk,rfl,hk⟩:=x.done
 have noA:∀b:Addr,b∉(Bmu CX P w K mg base N qual scope f cd A outer s H E).ex:=λb z=>absurd (show b∈([]:List Addr) from z) (by simp)
 refine⟨⟨e0.mod,S.kind,rfl,rfl,Bu _,λy z c h1 h2=>?_,λy hy=>?_,λy c _ h=>?_,λ_=>hd,Akf e0.frames,.inr ⟨rfl,rfl⟩,λb z=>absurd z (noA b),e0.bs,e0.bsz,λb _ _=>noA b,λb z=>absurd z (noA b),e0.Ao6,e0.frf⟩,
  rfl,e0.bare,Un.kept hk,⟨_,x.toInCall.ns,λi y v h1 h2 h3=>?_⟩,λy c h=>⟨_,x.cell y c h⟩,e0.hok.fresh (Bu _),λy c h=>?_,λp hp=>absurd (show p∈([]:List (Addr×Obj)) from hp) (by simp),e0.hok.kept hk,?_⟩
 ·exact name_of_addr x.apart (Fw h1) (Fw h2)
 ·have hy:scope.names.lookup y=some .cell\/scope.names.lookup y=some .free:=hy
  rcases hy with hy|hy
  ·exact Bmp hy
  ·exact absurd rfl (S.Cca _ (Fw hy))
 ·exact Jr (x.above y c (Fw h))
 ·have hi:i<vs.length:=by
   unfold start at h2
   by_cases hi:i<vs.length
   ·exact hi
   ·rw[List.getElem?_append_right (by simpa using hi)] at h2
    rw[List.getElem?_replicate] at h2
    split at h2<;>cases h2
  have ha:vs[i]?=some v:=by
   unfold start at h2
   rw[List.getElem?_append_left (by simpa using hi),Bk] at h2
   cases e:vs[i]? with
   |none=>rw[e] at h2;cases h2
   |some a=>rw[e] at h2;cases h2;rfl
  obtain⟨u,hu,rv⟩:=r.get ha
  have hp:ps[i]?=some y:=by
   rw[<-S.pre,List.getElem?_take_of_lt (by omega)];exact h1
  have ndP:ps.Nodup:=by rw[<-S.pre];exact S.nd.sublist (List.take_sublist _ _)
  refine⟨u,rv,?_⟩
  rcases S.par y (BX hp) with k|k
  ·exact .inl ⟨k,Bhj ndP hp hu k⟩
  ·obtain⟨c,e⟩:=Bmp (n:=s.heap.objs.size+1) k
   refine .inr ⟨.inl k,c,e,?_⟩
   have q:=x.cell y c e
   rw[Bhh ndP hp hu (by show scope.names.lookup y≠_;rw[k];decide)] at q
   exact q
 ·exact e0.hok.fresh (Jr (x.above y c (Fw h)))
 ·unfold start
  show _=N.length
  rw[Bg,Aa,List.length_replicate]
  omega
theorem Cav{CX:CXT}{P:Program}{w:World}{K:Frag}{mg:Str->Option Value}{base:Heap}{k:Nat}{f:Addr}{name qual:Str}{params:Arguments}{body:List Stmt}{scope:Scope}{dV kV doc pm cdv ct oc:Value}{an od:Option Addr}
  {osl:Array (Option Value)} {N ps:List Str} {sp:Sp} (lk:K.lookup f=some ⟨oc,od,.func (Ml name qual params body scope dV kV doc pm an cdv ct),osl⟩) (hcd:UJ K cdv qual=true) (S:Cp N ps scope)
  (len:∀vs H Q E,sp vs H Q E->vs.length=ps.length)
  (hbody:∀(A:Around) (outer:List Env) (s:Shared) (H:Hp) (vs:List V) (Q:VK) (E:XK),Room k (A.deeper (envOfC qual scope s.heap.objs.size f cdv))->sp vs H Q E->
   ∃t,PSs (Bmu CX P w K mg base N qual scope f cdv A outer s H E) body t/\t {nx:=λ_ H'=>Q .non H',rt:=Q} (start N vs) H):
  YZ P w K mg base CX (k+1) f (Ml name qual params body scope dV kV doc pm an cdv ct) ps sp:=by
 refine⟨len,λA outer s H args us vs Q E hr e0 hb r hsp=>?_⟩
 have hl:=len _ _ _ _ hsp
 have KX:K.In s.heap:=e0.mod.kin.keeps λb o e=>(e0.bs b o e).1
 have lim:s.heap.NoLimit:=e0.mod.nolimit.keeps λb o e=>(e0.bs b o e).1
 have hkind:∀y∈ps.zip us,scope.names.lookup y.1=some .local\/(scope.names.lookup y.1=some .cell/\((cellsFrom (s.heap.objs.size+1) scope.names []).lookup y.1).isSome=true):=λ⟨n,v⟩ hy=>by
  rcases S.par n (Nt hy).1 with q|q
  ·exact .inl q
  ·exact .inr ⟨q,Ags _ _ _ (.inl q)⟩
 refine codeAny_call_function hr.depth (KX _ _ lk) rfl S.co S.gen rfl (PySem.W.codeRec_of KX hcd) (hb _ _ _ _ ?_)
 refine wpAny_newFunctionEnv_cells S.kind hkind λenv he s1 x=>?_
 subst he
 refine⟨lim.keeps x.toInCall.keep,codeAny_func ?_⟩
 obtain⟨t,ht,hq⟩:=hbody A outer s H vs Q E (hr.deeper _) hsp
 have I:Inv (Bmu CX P w K mg base N qual scope f cdv A outer s H E) [] (start N vs) H s1:=Bt5 S hr.hd e0 hl r x
 refine Ks (ht [] s1 (start N vs) H _ I hq) (λfl s' hs=>?_) λe s' hs=>hs
 have fin:∀{σ':St} {H':Hp} {v:V} {u:Value},Inv (Bmu CX P w K mg base N qual scope f cdv A outer s H E) [] σ' H' s'->RelV v u->Q v H'->CE outer P w H s Q u s':=
  λ{σ' H' v u} J rv q=>⟨v,H',J.os,J.bare,J.base,J.hok,rv,q⟩
 cases fl with
 |ret u=>
  obtain⟨v,σ',H',J,rv,q⟩:=hs
  exact fin J rv q
 |next=>
  obtain⟨σ',H',J,q⟩:=hs
  exact fin (v:=V.non) (u:=Lx) J rfl q
 |brk=>
  obtain⟨_,_,_,q⟩:=hs
  exact Fo q
 |cont=>
  obtain⟨_,_,_,q⟩:=hs
  exact Fo q
end L2
namespace L2
open PySem PySem.Spec PyProof.Rows
section
variable {X:Cx}{x:Str}{p pos:Pos}{e:Expr}{es:List Expr}{t:TA}{id T:String}{r:List V->Hp->VK->Prop}
def tCB(r:List V->Hp->VK->Prop)(t:TA):TE:=λσ H Q=>t σ H λvs H1=>r vs H1 Q
theorem G5(hc:Bb6 X (.builtin id) r)(hg:Gl X x)(hm:X.mg x=none)(hv:bootBuiltins x=some (.builtin id))(ha:PA X (e::es) t)(hn:x≠"__name__":=by decide)(hdb:(x==("__debug__":Str))=false:=by decide)
  (he:starEach (e::es) X.env=(false,eval e X.env)::starEach es X.env:=by rfl) (hpl:(backTo pos (starEach es X.env)).any (·.1)=false:=by rfl):PE X (.Call (.Name x p) (e::es) [] pos) (tCB r t):=by
 intro pins s σ H Q I h
 refine Ji (Aaq I hg hm hv ?_ hn hdb)
 exact PyProof.Rows.callWith_builtin1 (thn (ha pos pins s σ H _ I h) λus s1 ⟨vs,H1,I1,r1,q1⟩=>hc pins s1 σ H1 vs us Q I1 r1 q1) he hpl
end
end L2
namespace HT
open PySem PyProof.Rows
def lexLt:List Int->List Int->Bool
 |[],[]=>false
 |[],_::_=>true
 |_::_,[]=>false
 |x::xs,y::ys=>if x=y then lexLt xs ys else decide (x<y)
theorem lexLt_cons(x y:Int)(xs ys:List Int):lexLt (x::xs) (y::ys)=if x=y then lexLt xs ys else decide (x<y):=rfl
theorem lexLt_nil_nil:lexLt [] []=false:=rfl
theorem lexLt_nil_cons(y:Int)(ys:List Int):lexLt [] (y::ys)=true:=rfl
theorem lexLt_cons_nil(x:Int)(xs:List Int):lexLt (x::xs) []=false:=rfl
theorem eqAt_int(A:Around)(s:Shared)(a:Int)(t:Tok)(c:Int)(u:Tok):∃e,Bcs A s (.int a t) (.int c u) e/\(e=true↔a=c):=
 ⟨(a==c),Asv a t c u,by simp⟩
theorem Bx2(A:Around)(s:Shared)(a:Int)(t:Tok)(c:Int)(u:Tok)(prog:Program)(w:World)(E:Value->Shared->Prop)(Q:Value->Shared->Prop)(h:Q (.bool (decide (a<c))) s):
  wpAny (model prog w) A (richCompare .Lt (.int a t) (.int c u)) Q E s:=
 (PyProof.Rows.lt_int h:wpAny (model prog w) A (compareOp .Lt (.int a t) (.int c u)) Q E s)
section
open PySem.SeqAt
open PySem.AutoSeq1 (wpAny_loadPart')
open PySem.MeetsSeq PySem.MeetsSeq2 PySem.MeetsSeq3
theorem Bhb(l b:Addr)(items items2:Array Value)(n n2:Nat)(dd dd2:Option Addr)(sl sl2:Array (Option Value))(ns ms:List Int)(hi:IntsAre items.toList ns)(hj:IntsAre items2.toList ms):
  Meets (Builtin.«tuple.__lt__» ⟨[.ref l,.ref b],[]⟩)
   (λ_ R s=>s.heap.get? l=some {cls:=.type "tuple",dict:=dd,data:=.seq items n,slots:=sl}/\s.heap.get? b=some {cls:=.type "tuple",dict:=dd2,data:=.seq items2 n2,slots:=sl2}/\
    R (.ok (.ret (.bool (lexLt ns ms)))) s):=
 .of_wp λprog w A R s h=>by
  obtain⟨hp,g,d,tk,os⟩:=s;obtain⟨hl,hb,h⟩:=h
  have f2:=Oa
  have z1:items.size=ns.length:=by rw[<-hi.length];simp
  have z2:items2.size=ms.length:=by rw[<-hj.length];simp
  wp_walk using LK hl,LK hb,Agh _ (λrest b s'=>b.1=none/\s'=⟨hp,g,d,tk,os⟩/\∃(vs ws:List Value) (ns' ms':List Int),rest=vs.zip ws/\
   IntsAre vs ns'/\IntsAre ws ms'/\ns'.length+items2.size=ms'.length+items.size/\R (.ok (.ret (.bool (lexLt ns' ms')))) ⟨hp,g,d,tk,os⟩) _
  case turn=>
   rintro⟨y,x⟩ rest b s' ⟨hb',rfl,vs,ws,ns',ms',hz,hvi,hwi,hlen,hR⟩
   cases hvi with
   |nil=>rw[Q0] at hz;cases hz
   |cons a t Bwv=>
    cases hwi with
    |nil=>rw[PL] at hz;cases hz
    |cons c u Bww=>
     rw[Ka] at hz
     injection hz with hyx hrest
     injection hyx with hy hx
     subst hy hx
     rw[lexLt_cons] at hR
     simp only [Ay] at hlen
     obtain⟨e,he,hiff⟩:=eqAt_int A.in1 ⟨hp,g,d,tk,os⟩ a t c u
     refine Br (he prog w _ _ ?_)
     cases e with
     |true=>
      rw[Aq (hiff.mp rfl)] at hR
      wp_walk
      exact⟨rfl,rfl,_,_,_,_,hrest,Bwv,Bww,by omega,hR⟩
     |false=>
      rw[Am (λq=>absurd (hiff.mpr q) Ac)] at hR
      have hri:=Bx2 A.in1 ⟨hp,g,d,tk,os⟩ a t c u prog w
      wp_walk using hri
      exact⟨_,rfl,by simpa using hR⟩
  case fin=>
   rintro⟨b1,b2⟩ s' ⟨hb',rfl,vs,ws,ns',ms',hz,hvi,hwi,hlen,hR⟩
   simp only at hb'
   subst hb'
   have hv:lexLt ns' ms'=decide (items.size<items2.size):=by
    cases hvi with
    |nil=>
     cases hwi with
     |nil=>
      simp only [Ie] at hlen
      rw[lexLt_nil_nil]
      exact(Bf (by omega)).symm
     |cons c u hw=>
      simp only [Ie,Ay] at hlen
      rw[lexLt_nil_cons]
      exact(Aj (by omega)).symm
    |cons a t hv=>
     cases hwi with
     |nil=>
      simp only [Ie,Ay] at hlen
      rw[lexLt_cons_nil]
      exact(Bf (by omega)).symm
     |cons c u hw=>
      rw[Ka] at hz
      cases hz
   rw[hv] at hR
   wp_walk
   exact⟨_,rfl,by simpa [Ol] using hR⟩
  case h=>
   exact⟨rfl,rfl,items.toList,items2.toList,ns,ms,rfl,hi,hj,by omega,h⟩
end
section
variable {prog:Program}{w:World}{A:Around}{E:Value->Shared->Prop}{s:Shared}
theorem lt_tupInts{l b:Addr}{items items2:Array Value}{ns ms:List Int}{Q:Value->Shared->Prop}(hl:IsTup s.heap l items)(hb:IsTup s.heap b items2)(hi:IntsAre items.toList ns)(hj:IntsAre items2.toList ms)
  (hu:A.units<cLine) (h:Q (.bool (lexLt ns ms)) s):wpAny (model prog w) A (compareOp .Lt (.ref l) (.ref b)) Q E s:=by
 obtain⟨⟨cls,dd,data,sl⟩,ho,hc,n,hd⟩:=id hl
 obtain⟨⟨cls2,dd2,data2,sl2⟩,ho2,hc2,n2,hd2⟩:=id hb
 simp only at hc hd hc2 hd2
 subst hc hd hc2 hd2
 exact Vr (op:=.Lt) ⟨_,ho,rfl⟩ ⟨_,ho2,rfl⟩ PySem.F.slot_tuple_lt PySem.F.entry_tuple_lt (PySem.F.args_tuple_lt_2 _ _) (Bhb l b items items2 n n2 dd dd2 sl sl2 ns ms hi hj)
  ⟨ho,ho2,show Agu (lexLt ns ms)≠Xm/\Q (.bool (lexLt ns ms)) s from⟨(λx=>nomatch x),h⟩⟩ hu
def sIx(n d:Nat):Option Int->Nat
 |none=>d
 |some v=>if v<0 then(v+(n:Int)).toNat else min v.toNat n
theorem sIx_none(n d:Nat):sIx n d none=d:=rfl
theorem sIx_nat(n d k:Nat):sIx n d (some (k:Int))=min k n:=by
 show(if(k:Int)<0 then((k:Int)+(n:Int)).toNat else min (k:Int).toNat n)=min k n
 rw[Am (by omega),Fq]
end
end HT
namespace L2
open PySem PySem.Spec PyProof.Rows
abbrev TO:=St->Hp->(Option Int->Hp->Prop)->Prop
def PO(X:Cx)(e:Option Expr)(t:TO):Prop:=
 ∀(pins:List (Addr×Obj)) (s:Shared) (σ:St) (H:Hp) (Q:Option Int->Hp->Prop),Inv X pins σ H s->t σ H Q->
  wpAny (model X.prog X.w) X.A (evalPart e X.env) (λu s'=>∃o H',Inv X pins σ H' s'/\IsPart u o/\Q o H') X.xe s
def Bk3:TO:=λ_ H Q=>Q none H
def Awo(t:TE):TO:=λσ H Q=>t σ H λx H1=>∃i,x=.int i/\Q (some i) H1
theorem intsAre_of{ns:List Int}:∀{us:List Value},Vals (ns.map V.int) us->IntsAre us ns:=by
 induction ns with
 |nil=>intro us r;rw[Ru] at r;cases r;exact .nil
 |cons n ns ih=>
  intro us r
  rw[Bo] at r
  cases r with
  |cons r1 r2=>
   obtain⟨t,e⟩:=r1
   subst e
   exact .cons n t (ih r2)
section
variable {X:Cx}{e:Expr}{te:TE}{lo hi:Option Expr}{tl th:TO}{pos p2:Pos}
theorem Bsu:PO X none Bk3:=by
 intro pins s σ H Q I h
 rw[evalPart_none]
 exact Eo ⟨none,H,I,.none,h⟩
theorem Aom(h:PE X e te):PO X (some e) (Awo te):=by
 intro pins s σ H Q I hw
 rw[evalPart_some]
 refine thn (h pins s σ H _ I hw) λu s1 ⟨x,H1,I1,r1,q1⟩=>?_
 obtain⟨i,rfl,q⟩:=q1
 obtain⟨t,rfl⟩:=r1
 exact⟨some i,H1,I1,.int i t,q⟩
def SlR(X:Cx)(r:V->Option Int->Option Int->Hp->VK->Prop):Prop:=
 ∀(pins:List (Addr×Obj)) (s:Shared) (σ:St) (H:Hp) (x:V) (v vl vu:Value) (lo hi:Option Int) (sl:Addr) (Q:VK),Inv X pins σ H s->RelV x v->s.heap.IsSliceOf sl vl vu .none->IsPart vl lo->IsPart vu hi->r x lo hi H Q->
  ∃T id,typeLookup (.type T) "__getitem__"=pure (some (.builtin id))/\s.TypeIs v T/\wpAny (model X.prog X.w) X.A (getItem v (.ref sl)) (EP X pins σ Q) X.xe s
def tSl(r:V->Option Int->Option Int->Hp->VK->Prop)(te:TE)(tl th:TO):TE:=λσ H Q=>te σ H λx H1=>tl σ H1 λl H2=>th σ H2 λu H3=>r x l u H3 Q
theorem Av5{r:V->Option Int->Option Int->Hp->VK->Prop}(hr:SlR X r)(he:PE X e te)(hl:PO X lo tl)(hu:PO X hi th):PE X (.Subscript e (.Slice lo hi none p2) pos) (tSl r te tl th):=by
 intro pins s σ H Q I h
 refine Subscript_ (thn (he pins s σ H _ I h) λv s1 ⟨x,H1,I1,r1,q1⟩=>?_)
 refine wpAny_Slice (thn (hl pins s1 σ H1 _ I1 q1) λvl s2 ⟨l,H2,I2,pl,q2⟩=>thn (hu pins s2 σ H2 _ I2 q2) λvu s3 ⟨u,H3,I3,pu,q3⟩=>?_)
 rw[evalPart_none]
 refine Eo ?_
 have I4:Inv X pins σ H3 {s3 with heap:=s3.heap.push {cls:=.type "slice",data:=.fields #[vl,vu,.none]}}:=I3.kept (t':=s3.toks) λb ob q=>Bs _ q
 obtain⟨T,id,hT,ht,hg⟩:=hr pins {s3 with heap:=s3.heap.push {cls:=.type "slice",data:=.fields #[vl,vu,.none]}} σ H3 x v vl vu l u s3.heap.objs.size Q I4 r1 (Heap.IsSliceOf.new ..) pl pu q3
 show wpAny (model X.prog X.w) X.A (subscriptTail e (.Slice lo hi none p2) v (.ref s3.heap.objs.size)) (EP X pins σ Q) X.xe {s3 with heap:=s3.heap.push {cls:=.type "slice",data:=.fields #[vl,vu,.none]}}
 exact tail_any (ops:=[.ref s3.heap.objs.size,v]) ht hT hg (by with_unfolding_all rfl)
def Bf5(xs:List V)(lo hi:Option Int):List V:=(xs.drop (HT.sIx xs.length 0 lo)).take (HT.sIx xs.length xs.length hi-HT.sIx xs.length 0 lo)
theorem Bmr(xs:List V)(lo hi:Option Int):(Bf5 xs lo hi).length<=xs.length:=by
 unfold Bf5
 rw[Er,Jq]
 omega
def Cd4(K:Frag):R2:=λx y H Q=>∃a b ns ms,x=.ref a/\y=.ref b/\SqT K H a (ns.map V.int)/\SqT K H b (ms.map V.int)/\Q (.bl (HT.lexLt ns ms)) H
theorem Ccd(hu:X.A.units<cLine):OpR X (compareOp .Lt) (Cd4 X.K):=by
 intro pins s σ H x y v u Q I rx ry h
 obtain⟨a,b,ns,ms,rfl,rfl,ha,hb,q⟩:=h
 cases rx
 cases ry
 obtain⟨its,r1,p1,_⟩:=I.tuple ha
 obtain⟨its2,r2,p2,_⟩:=I.tuple hb
 have i1:IntsAre its.toArray.toList ns:=intsAre_of r1
 have i2:IntsAre its2.toArray.toList ms:=intsAre_of r2
 exact HT.lt_tupInts p1 p2 i1 i2 hu ⟨.bl (HT.lexLt ns ms),H,I,rfl,q⟩
end
end L2
namespace L2
open PySem PySem.Spec PyProof.Rows
def ixN(n:Nat)(i:Int):Option Nat:=if 0<=i then(if i<n then some i.toNat else none) else if -(n:Int)<=i then some (i+n).toNat else none
def atI{α:Type}(xs:List α)(i:Int):Option α:=(ixN xs.length i).bind λj=>xs[j]?
theorem Brz{n:Nat}{i:Int}{j:Nat}(h:ixN n i=some j):seqIndex? i n=some j/\j<n/\ -(n:Int)<=i/\i<n:=by
 unfold ixN at h
 by_cases h0:0<=i
 ·rw[Aq h0] at h
  by_cases h1:i<n
  ·rw[Aq h1] at h
   have e:i.toNat=j:=Ae h
   exact⟨by rw[Ant h0 h1,e],by omega,by omega,h1⟩
  ·rw[Am h1] at h;cases h
 ·rw[Am h0] at h
  by_cases h1: -(n:Int)<=i
  ·rw[Aq h1] at h
   have e:(i+n).toNat=j:=Ae h
   exact⟨by rw[Ah4 (by omega) h1,e],by omega,h1,by omega⟩
  ·rw[Am h1] at h;cases h
theorem Bji{α:Type}{xs:List α}{i:Int}{v:α}(h:atI xs i=some v):∃j,seqIndex? i xs.length=some j/\xs[j]?=some v/\j<xs.length/\ -(xs.length:Int)<=i/\i<xs.length:=by
 unfold atI at h
 cases e:ixN xs.length i with
 |none=>rw[e] at h;cases h
 |some j=>
  rw[e] at h
  obtain⟨h1,h2,h3,h4⟩:=Brz e
  exact⟨j,h1,h,h2,h3,h4⟩
theorem KJ{α:Type}{xs:List α}{j:Nat}{v:α}(h:xs[j]?=some v):atI xs (j:Int)=some v:=by
 have hj:j<xs.length:=(BL.mp h).1
 have e:ixN xs.length (j:Int)=some j:=by
  unfold ixN
  rw[Aq (by omega),Aq (by omega)];simp
 unfold atI;rw[e];exact h
def Byu(b:Expr):Prop:=∀o i,subscripted b false o i=operate [o,i] (getItem o i)
def IxR(X:Cx)(r:R2):Prop:=
 ∀(value slice:Expr) (pins:List (Addr×Obj)) (s:Shared) (σ:St) (H:Hp) (x y:V) (v u:Value) (Q:VK),Inv X pins σ H s->RelV x v->RelV y u->r x y H Q->
  subscripted slice false v u=operate [v,u] (getItem v u)->wpAny (model X.prog X.w) X.A (subscriptTail value slice v u) (EP X pins σ Q) X.xe s
def MtR(X:Cx)(id:String)(r:V->List V->Hp->VK->Prop):Prop:=
 ∀(pins:List (Addr×Obj)) (s:Shared) (σ:St) (H:Hp) (x:V) (xs:List V) (v:Value) (us:List Value) (Q:VK),Inv X pins σ H s->RelV x v->Vals xs us->r x xs H Q->
  wpAny (model X.prog X.w) X.A (call (.builtin id) (v::us)) (EP X pins σ Q) X.xe s
section
variable {X:Cx}{a b:Expr}{ta tb:TE}{pos:Pos}
theorem MtR.or{id:String}{r r':V->List V->Hp->VK->Prop}(h:MtR X id r)(h':MtR X id r'):MtR X id (λx xs H Q=>r x xs H Q\/r' x xs H Q):=by
 intro pins s σ H x xs v us Q I rx rs q
 rcases q with q|q
 ·exact h pins s σ H x xs v us Q I rx rs q
 ·exact h' pins s σ H x xs v us Q I rx rs q
theorem Km{r:R2}(hr:IxR X r)(ha:PE X a ta)(hb:PE X b tb)(hs:Byu b):PE X (.Subscript a b pos) (tOp r ta tb):=by
 intro pins s σ H Q I h
 exact Subscript_ (Cbc ha hb I h λv u s2 x y H2 I2 rx ry q=>hr a b pins s2 σ H2 x y v u Q I2 rx ry q (hs _ _))
def Qs(K:Frag):R2:=λx y H Q=>∃p xs i v,x=.ref p/\y=.int i/\SqL K H p xs/\atI xs i=some v/\Q v H
def Bgp(K:Frag):R2:=λx y H Q=>∃p xs i v,x=.ref p/\y=.int i/\SqT K H p xs/\atI xs i=some v/\Q v H
theorem HF:IxR X (Qs X.K):=by
 intro value slice pins s σ H x y v u Q I rx ry h hs
 obtain⟨p,xs,i,z,rfl,rfl,hq,he,q⟩:=h
 cases rx
 obtain⟨t,rfl⟩:=ry
 obtain⟨its,r,pl,hz⟩:=I.list hq
 obtain⟨j,h1,h2,h3,h4,h5⟩:=Bji he
 obtain⟨w,ew,rw'⟩:=r.get h2
 have hl:=r.length
 have hn:=Bdw
 have fin:EP X pins σ Q w s:=⟨z,H,I,rw',q⟩
 by_cases h0:0<=i
 ·have hj:i.toNat=j:=by
   rw[Ant h0 h5] at h1
   exact Ae h1
  exact item_listR pl.isList h0 (by omega) (by rw[hj];simpa using ew) fin hs
 ·have hj:(i+(its.toArray.size:Int)).toNat=j:=by
   rw[Ah4 (by omega) h4] at h1
   rw[Bv,<-hl]
   exact Ae h1
  exact Ah5 (x:=w) pl.isList.typeIs slot_list_getitem.lookup
   (Aib (Q:=λr s'=>r=w/\EP X pins σ Q r s') pl.isList (by omega) (by rw[Bv]<;>omega) (by omega) (by rw[hj];simpa using ew) ⟨rfl,fin⟩) hs
theorem As9:IxR X (Bgp X.K):=by
 intro value slice pins s σ H x y v u Q I rx ry h hs
 obtain⟨p,xs,i,z,rfl,rfl,hq,he,q⟩:=h
 cases rx
 obtain⟨t,rfl⟩:=ry
 obtain⟨its,r,pl,hz⟩:=I.tuple hq
 obtain⟨j,h1,h2,h3,h4,h5⟩:=Bji he
 obtain⟨w,ew,rw'⟩:=r.get h2
 have hl:=r.length
 have hn:=Bdw
 have fin:EP X pins σ Q w s:=⟨z,H,I,rw',q⟩
 exact Ah5 (x:=w) pl.typeIs slot_tuple_getitem.lookup
  (getItem_tuple (j:=j) (Q:=λr s'=>r=w/\EP X pins σ Q r s') pl (by omega) (by omega) (by rw[Bv,<-hl];exact h1) (by simpa using ew) ⟨rfl,fin⟩) hs
theorem Bp8(its:List Value)(n j:Nat)(u:Value):G4 (·.setIfInBounds j u) {cls:=.type "list",data:=.seq its.toArray n}={cls:=.type "list",data:=.seq (its.set j u).toArray n}:=by
 simp [G4]
theorem Inv.lst{pins:List (Addr×Obj)}{σ:St}{H:Hp}{s:Shared}{p:Addr}{xs:List V}(I:Inv X pins σ H s)(h:H p=some (.lst xs)):
  ∃(its:List Value) (n:Nat),Vals xs its/\s.heap.get? p=some {cls:=.type "list",data:=.seq its.toArray n}/\xs.length<=sizeLine:=by
 obtain⟨z,its,n,r,e⟩:=I.hok p _ h
 exact⟨its,n,r,e,z⟩
theorem Inv.Cb7{pins:List (Addr×Obj)}{σ:St}{H:Hp}{s:Shared}{p:Addr}{xs ys:List V}{its its':List Value}{n n':Nat}{f:Obj->Obj}(I:Inv X pins σ H s)(h:H p=some (.lst xs))
  (ho:s.heap.get? p=some {cls:=.type "list",data:=.seq its.toArray n}) (hf:f {cls:=.type "list",data:=.seq its.toArray n}={cls:=.type "list",data:=.seq its'.toArray n'}) (r:Vals ys its') (hz:ys.length<=sizeLine) (t:Nat):
  Inv X pins σ (upd H p (.lst ys)) {s with heap:=s.heap.update p f,toks:=t}:=by
 have e:(s.heap.update p f).get? p=some {cls:=.type "list",data:=.seq its'.toArray n'}:=by
  rw[VL f ho (by rw[hf]<;>rfl),hf]
 refine I.write (x:=p) (e:=p) (by rw[h];trivial) (.inl rfl) (λb u hb q=>(Uq _ _ (Js hb)).trans q) ⟨_,e⟩ ?_
 exact⟨hz,its',n',r,e⟩
def Bs0:V->V->V->Hp->(Hp->Prop)->Prop:=λo i v H Q=>∃p xs k j,o=.ref p/\i=.int k/\H p=some (.lst xs)/\ixN xs.length k=some j/\Q (upd H p (.lst (xs.set j v)))
theorem set_list:Ccz X Bs0:=by
 intro pins s σ H o i v ov iv u Q I ro ri rv h
 obtain⟨p,xs,k,j,rfl,rfl,hp,hj,q⟩:=h
 cases ro
 obtain⟨t,rfl⟩:=ri
 obtain⟨its,n,r,ho,hz⟩:=I.lst hp
 obtain⟨h1,h2,h3,h4⟩:=Brz hj
 have hl:=r.length
 have hn:=Bdw
 have I':Inv X pins σ (upd H p (.lst (xs.set j v))) {s with heap:=s.heap.update p (G4 (·.setIfInBounds j u))}:=
  I.Cb7 hp ho (Bp8 its n j u) (r.set rv j) (by rw[Yb];exact hz) s.toks
 by_cases h0:0<=k
 ·have hk:k.toNat=j:=by
   rw[Ant h0 h4] at h1
   exact Ae h1
  exact PySem.W.ki_setAt ho h0 (by omega) (by rw[Bv,<-hl];exact h4) (by rw[hk];exact⟨_,I',q⟩)
 ·have hk:(k+(its.toArray.size:Int)).toNat=j:=by
   rw[Ah4 (by omega) h3] at h1
   rw[Bv,<-hl]
   exact Ae h1
  exact PySem.W.ki_setBack ho (by omega) (by rw[Bv,<-hl];exact h3) (by omega) (by rw[hk];exact⟨_,I',q⟩)
theorem Bkz(lo hi:Option Int)(n:Nat):(sliceBounds lo hi none n).1=((HT.sIx n 0 lo:Nat):Int)/\(sliceBounds lo hi none n).2.1=((HT.sIx n n hi:Nat):Int)/\(sliceBounds lo hi none n).2.2=1:=by
 refine⟨?_,?_,rfl⟩
 ·cases lo with
  |none=>simp [sliceBounds,HT.sIx]
  |some i=>
   simp only [sliceBounds,HT.sIx,Aw8,show(1:Int)>0 by decide,if_true]
   by_cases h:i<0
   ·simp only [h,if_true]<;>omega
   ·simp only [h,if_false]<;>omega
 ·cases hi with
  |none=>simp [sliceBounds,HT.sIx]
  |some i=>
   simp only [sliceBounds,HT.sIx,Aw8,show(1:Int)>0 by decide,if_true]
   by_cases h:i<0
   ·simp only [h,if_true]<;>omega
   ·simp only [h,if_false]<;>omega
theorem Bgr(its:List Value)(lo hi:Option Int):slicePick its.toArray lo hi none=((its.drop (HT.sIx its.length 0 lo)).take (HT.sIx its.length its.length hi-HT.sIx its.length 0 lo)).toArray:=by
 obtain⟨h1,h2,h3⟩:=Bkz lo hi its.toArray.size
 unfold slicePick
 rw[h1,h2,h3]
 simp only [sliceRange_one,pick_run,Bv]<;>rfl
def Buy(K:Frag):V->Option Int->Option Int->Hp->VK->Prop:=λx lo hi H Q=>∃a xs,x=.ref a/\SqL K H a xs/\∀p,H p=none->Q (.ref p) (upd H p (.lst (Bf5 xs lo hi)))
theorem Bb2:SlR X (Buy X.K):=by
 intro pins s σ H x v vl vu lo hi sl Q I rx hs pl pu h
 obtain⟨a,xs,rfl,hx,q⟩:=h
 cases rx
 obtain⟨its,r,ht,hz⟩:=I.list hx
 have hlen:=r.length
 refine⟨"list",_,slot_list_getitem.lookup,ht.isList.typeIs,?_⟩
 refine wpAny_getItem_list_slice ht.isList hs pl pu .none (by simp) ?_ (by rw[Bv]<;>omega)
 rw[Bgr,<-hlen]
 refine⟨.ref s.heap.objs.size,_,I.laid (t':=s.toks) (o:=.lst (Bf5 xs lo hi)) (λb ob q=>Bs _ q) (Bu _) ?_,rfl,q _ (I.hok.fresh (Bu _))⟩
 exact⟨Az (Bmr xs lo hi) hz,_,0,(r.drop (HT.sIx xs.length 0 lo)).take (HT.sIx xs.length xs.length hi-HT.sIx xs.length 0 lo),Dr _ rfl⟩
def Aqy:V->Bool
 |.non=>true
 |.bl _=>true
 |.int _=>true
 |.str _=>true
 |_=>false
def eqV:V->V->Bool
 |.non,.non=>true
 |.bl a,.bl b=>a==b
 |.bl a,.int b=>(if a then 1 else 0)==b
 |.int a,.bl b=>a==(if b then 1 else 0)
 |.int a,.int b=>a==b
 |.str a,.str b=>a==b
 |_,_=>false
theorem Cbf{A:Around}{s:Shared}{y x:V}{u v:Value}(ry:RelV y u)(rx:RelV x v)(fy:Aqy y=true)(fx:Aqy x=true):Bcs A s u v (eqV y x):=by
 cases y with
 |non=>
  cases ry
  cases x with
  |non=>cases rx;exact Bcs.same _
  |bl b=>cases rx;exact Bcs.none_bool b
  |int b=>obtain⟨t,rfl⟩:=rx;exact Bcs.none_int b t
  |str b=>obtain⟨t,rfl⟩:=rx;exact Bcs.none_str b t
  |_=>exact absurd (show false=true from fx) Ac
 |bl a=>
  cases ry
  cases x with
  |non=>cases rx;exact Bcs.bool_none a
  |bl b=>cases rx;exact Bcs.bool_bool a b
  |int b=>obtain⟨t,rfl⟩:=rx;exact Bcs.bool_int a b t
  |str b=>obtain⟨t,rfl⟩:=rx;exact Bcs.bool_str a b t
  |_=>exact absurd (show false=true from fx) Ac
 |int a=>
  obtain⟨t',rfl⟩:=ry
  cases x with
  |non=>cases rx;exact Bcs.int_none a t'
  |bl b=>cases rx;exact Bcs.int_bool a t' b
  |int b=>obtain⟨t,rfl⟩:=rx;exact Asv a t' b t
  |str b=>obtain⟨t,rfl⟩:=rx;exact Asw a t' b t
  |_=>exact absurd (show false=true from fx) Ac
 |str a=>
  obtain⟨t',rfl⟩:=ry
  cases x with
  |non=>cases rx;exact Bcs.str_none a t'
  |bl b=>cases rx;exact Bcs.str_bool a t' b
  |int b=>obtain⟨t,rfl⟩:=rx;exact Asx a t' b t
  |str b=>obtain⟨t,rfl⟩:=rx;exact Bcs.str_str a t' b t
  |_=>exact absurd (show false=true from fx) Ac
 |_=>exact absurd (show false=true from fy) Ac
def eqU(x:V)(u:Value):Bool:=match u with
 |.none=>eqV .non x
 |.bool b=>eqV (.bl b) x
 |.int i _=>eqV (.int i) x
 |.str z _=>eqV (.str z) x
 |_=>false
theorem Bwg{x y:V}{u:Value}(r:RelV y u)(f:Aqy y=true):eqU x u=eqV y x:=by
 cases y with
 |non=>cases r;rfl
 |bl b=>cases r;rfl
 |int i=>obtain⟨t,rfl⟩:=r;rfl
 |str z=>obtain⟨t,rfl⟩:=r;rfl
 |_=>exact absurd (show false=true from f) Ac
theorem Au3{x:V}:∀{xs:List V} {us:List Value},Vals xs us->xs.all Aqy=true->us.any (eqU x)=xs.any λy=>eqV y x
 |_,_,.nil,_=>rfl
 |y::xs,u::us,.cons r t,f=>by
  rw[Jj,Cm] at f
  rw[Wk,Wk,Bwg r f.1,Au3 t f.2]
theorem Alu{A:Around}{s:Shared}{x:V}{v:Value}(rx:RelV x v)(fx:Aqy x=true):∀{xs:List V} {us:List Value},Vals xs us->xs.all Aqy=true->∀u∈us,Bcs A s u v (eqU x u)
 |_,_,.nil,_=>λu hu=>by cases hu
 |y::xs,u::us,.cons r t,f=>λu' hu=>by
  rw[Jj,Cm] at f
  rcases BP.mp hu with rfl|hu
  ·rw[Bwg r f.1];exact Cbf r rx f.1 fx
  ·exact Alu rx fx t f.2 u' hu
def inV(x:V)(xs:List V):Bool:=xs.any λy=>eqV y x
def rIn(K:Frag)(neg:Bool):R2:=λx y H Q=>∃p xs,y=.ref p/\(SqL K H p xs\/SqT K H p xs)/\Aqy x=true/\xs.all Aqy=true/\Q (.bl (if neg then !inV x xs else inV x xs)) H
theorem Buo:OpR X (compareOp .In) (rIn X.K false):=by
 intro pins s σ H x y v u Q I rx ry h
 obtain⟨p,xs,rfl,hq,fx,fs,q⟩:=h
 cases ry
 rcases hq with hq|hq
 ·obtain⟨its,r,pl,hz⟩:=I.list hq
  refine SeqAt.in_listAt (eqU x) pl.isList (λw hw=>Alu rx fx r fs w (by simpa using hw)) ⟨.bl _,H,I,rfl,?_⟩
  rw[show its.toArray.any (eqU x)=its.any (eqU x) by simp,Au3 r fs]
  exact q
 ·obtain⟨its,r,pl,hz⟩:=I.tuple hq
  refine SeqAt.in_tupleAt (eqU x) pl (λw hw=>Alu rx fx r fs w (by simpa using hw)) ⟨.bl _,H,I,rfl,?_⟩
  rw[show its.toArray.any (eqU x)=its.any (eqU x) by simp,Au3 r fs]
  exact q
theorem Bkk:OpR X (compareOp .NotIn) (rIn X.K true):=by
 intro pins s σ H x y v u Q I rx ry h
 obtain⟨p,xs,rfl,hq,fx,fs,q⟩:=h
 cases ry
 rcases hq with hq|hq
 ·obtain⟨its,r,pl,hz⟩:=I.list hq
  refine SeqAt.notIn_listAt (eqU x) pl.isList (λw hw=>Alu rx fx r fs w (by simpa using hw)) ⟨.bl _,H,I,rfl,?_⟩
  rw[show its.toArray.any (eqU x)=its.any (eqU x) by simp,Au3 r fs]
  exact q
 ·obtain⟨its,r,pl,hz⟩:=I.tuple hq
  refine SeqAt.notIn_tupleAt (eqU x) pl (λw hw=>Alu rx fx r fs w (by simpa using hw)) ⟨.bl _,H,I,rfl,?_⟩
  rw[show its.toArray.any (eqU x)=its.any (eqU x) by simp,Au3 r fs]
  exact q
theorem Fl:Bb6 X (.builtin "len") (λxs H Q=>∃p ys,xs=[.ref p]/\(SqL X.K H p ys\/SqT X.K H p ys)/\Q (.int ys.length) H):=by
 intro pins s σ H xs us Q I r h
 obtain⟨p,ys,rfl,hq,q⟩:=h
 obtain⟨u,rfl,rx⟩:=vals1 r
 cases rx
 have hn:=Bdw
 rcases hq with hq|hq
 ·obtain⟨its,r',pl,hz⟩:=I.list hq
  have hlen:=r'.length
  exact Calls.call_len_list pl.isList (by simp only [Bv]<;>omega) ⟨.int ys.length,H,I.tok _,⟨s.toks+1,by rw[Bv,hlen]⟩,q⟩
 ·obtain⟨its,r',pl,hz⟩:=I.tuple hq
  have hlen:=r'.length
  exact len_tuple pl (by simp only [Bv]<;>omega) ⟨.int ys.length,H,I.tok _,⟨s.toks+1,by rw[Bv,hlen]⟩,q⟩
def tyV(K:Frag)(T:String)(x:V)(H:Hp):Prop:=match x with
 |.str _=>T="str"
 |.int _=>T="int"
 |.ref p=>(T="list"/\∃xs,SqL K H p xs)\/(T="tuple"/\∃o,K.lookup p=some o/\o.cls=.type "tuple"/\o.dict=none)\/
   (T="dict"/\((∃kvs,H p=some (.dK kvs))\/∃kvs,H p=some (.dT kvs)))\/(T="set"/\∃S n,H p=some (.set S n))
 |_=>False
theorem Ccs{pins:List (Addr×Obj)}{σ:St}{H:Hp}{s:Shared}{T:String}{x:V}{v:Value}(I:Inv X pins σ H s)(r:RelV x v)(ty:tyV X.K T x H):
  s.TypeIs v T/\∀a,v=.ref a->∃ob,s.heap.get? a=some ob/\ob.dict=none:=by
 cases x with
 |str z=>
  obtain⟨t,rfl⟩:=r
  cases(show T="str" from ty)
  exact⟨typeIs_str s z t,λ_ e=>nomatch e⟩
 |int i=>
  obtain⟨t,rfl⟩:=r
  cases(show T="int" from ty)
  exact⟨typeIs_int s i t,λ_ e=>nomatch e⟩
 |ref p=>
  cases r
  rcases ty with⟨rfl,xs,hq⟩|⟨rfl,o,hk,hc,hd⟩|⟨rfl,hk⟩|⟨rfl,S,n,hk⟩
  ·obtain⟨its,_,pl,_⟩:=I.list hq
   refine⟨pl.isList.typeIs,λa e=>?_⟩
   cases e
   obtain⟨o,n,e,c,hd,_⟩:=pl
   exact⟨o,e,hd⟩
  ·refine⟨⟨o,I.kIn p o hk,hc⟩,λa e=>?_⟩
   cases e
   exact⟨o,I.kIn _ o hk,hd⟩
  ·have z:∃o,s.heap.get? p=some o/\o.ExactDict:=by
    rcases hk with⟨kvs,hk⟩|⟨kvs,hk⟩
    ·obtain⟨_,_,_,_,o,_,_,e,ex,_⟩:=I.hok p _ hk
     exact⟨o,e,ex⟩
    ·obtain⟨_,_,_,_,o,_,_,e,ex,_⟩:=I.hok p _ hk
     exact⟨o,e,ex⟩
   obtain⟨o,e,ex⟩:=z
   refine⟨⟨o,e,ex.1⟩,λa e2=>?_⟩
   cases e2
   exact⟨o,e,ex.2.1⟩
  ·obtain⟨o,_,_,_,e,ex,_⟩:=I.hok p _ hk
   refine⟨⟨o,e,ex.1⟩,λa e2=>?_⟩
   cases e2
   exact⟨o,e,ex.2.1⟩
 |_=>exact Fo ty
def tBM(K:Frag)(T:String)(r:V->List V->Hp->VK->Prop)(to:TE)(t:TA):TE:=λσ H Q=>to σ H λx H1=>tyV K T x H1/\t σ H1 λxs H2=>r x xs H2 Q
variable {o e:Expr}{es:List Expr}{to:TE}{t:TA}{name:Str}{apos cpos:Pos}{T id:String}{r:V->List V->Hp->VK->Prop}
theorem Vf(pa:PlainAttrs T)(slot:Slot T name id)(hty:typeOf (.builtin id)=pure (.type "method_descriptor"))(hm:MtR X id r)(ho:PE X o to)(ha:PA X (e::es) t)
  (hbase:attributeBase o name X.env (eval o X.env)=eval o X.env:=by rfl)
  (hfew:((backTo cpos (starEach (e::es) X.env)).all (λx=>!x.1)&&(backToKw cpos (keywordEach [] X.env)).all (λx=>x.1.isSome)
   &&decide ((e::es).length+([]:List Keyword).length+(if([]:List Keyword).isEmpty then 0 else 1)<30))=true:=by rfl)
  (hline:(apos.endLine==cpos.line)=true:=by rfl) (hs:starEach (e::es) X.env=(false,eval e X.env)::starEach es X.env:=by rfl) (hplain:(backTo cpos (starEach es X.env)).any (·.1)=false:=by rfl):
  PE X (.Call (.Attribute o name apos) (e::es) [] cpos) (tBM X.K T r to t):=by
 intro pins s σ H Q I h
 refine wpAny_Call_method_late hbase hfew hline rfl (thn (ho pins s σ H _ I h) λv s1 ⟨x,H1,I1,r1,ty,q1⟩=>?_)
 obtain⟨h1,h2⟩:=Ccs I1 r1 ty
 refine⟨T,id,pa,slot,hty,h1,h2,?_⟩
 have hA:=ha cpos pins s1 σ H1 _ I1 q1
 rw[hs] at hA|-
 refine Calls.callWith_builtin (by show(false||(backTo cpos (starEach es X.env)).any (·.1))=false;rw[hplain]<;>rfl) (Akj ?_)
 exact thn hA λus s2 ⟨vs,H2,I2,r2,q2⟩=>hm pins s2 σ H2 x vs v us Q I2 r1 r2 q2
end
end L2
namespace L2
open PySem PySem.Spec PyProof.Rows
def MtM(X:Cx)(id:String)(r:V->List V->Hp->VK->Prop):Prop:=
 ∀(pins:List (Addr×Obj)) (s:Shared) (σ:St) (H:Hp) (x:V) (xs:List V) (v:Value) (us:List Value) (Q:VK),Inv X pins σ H s->RelV x v->Vals xs us->r x xs H Q->
  wpAny (model X.prog X.w) X.A (call (.builtin id) (v::us)) (EP X pins σ Q) X.xe s
theorem Vals.one:∀{x:V} {us:List Value},Vals [x] us->∃u,us=[u]/\RelV x u
 |_,_,.cons r .nil=>⟨_,rfl,r⟩
theorem Vals.rep{xs:List V}{us:List Value}(h:Vals xs us):∀k:Nat,Vals (Dy k xs).flatten (Dy k us).flatten
 |0=>.nil
 |k+1=>by
  rw[Hu,Hu,QZ,QZ]
  exact Vals.append h (Vals.rep h k)
theorem foldl_rep(its:List Value):∀(k:Nat) (acc:List Value),
  Bcd (λx1 x2=>x1++x2) acc.toArray (Dy k its.toArray)=(acc++(Dy k its).flatten).toArray
 |0,acc=>by simp
 |k+1,acc=>by
  have e:acc.toArray++its.toArray=(acc++its).toArray:=by simp
  have e2:(acc++its)++(Dy k its).flatten=acc++(Dy (k+1) its).flatten:=by
   rw[Hu,QZ,Cg]
  rw[<-e2,<-foldl_rep its k (acc++its),<-e,Hu,J7]
section
variable {X:Cx}{pins:List (Addr×Obj)}{σ:St}{H:Hp}{s:Shared}{l b:Addr}{xs ys zs:List V}
theorem Inv.Cb6{its its':List Value}{n:Nat}{f:Array Value->Array Value}{t':Nat}(I:Inv X pins σ H s)(hH:H l=some (.lst xs))
  (e:s.heap.get? l=some {cls:=.type "list",data:=.seq its.toArray n}) (hf:f its.toArray=its'.toArray) (hv:Vals ys its') (hz:ys.length<=sizeLine):
  Inv X pins σ (upd H l (.lst ys)) {s with heap:=s.heap.update l (G4 f),toks:=t'}:=by
 have q:=PySem.IsL.update e f
 rw[hf] at q
 refine I.write (x:=l) (e:=l) (by rw[hH];exact trivial) (.inl rfl) (λb' u hb hu=>(Uq s.heap (G4 f) (Js hb)).trans hu) ⟨_,q⟩ ?_
 exact⟨hz,its',_,hv,q⟩
theorem Inv.Cdr{its:List Value}{t':Nat}(I:Inv X pins σ H s)(hv:Vals ys its)(hz:ys.length<=sizeLine):
  Inv X pins σ (upd H s.heap.objs.size (.lst ys)) {s with heap:=s.heap.push {cls:=.type "list",data:=.seq its.toArray},toks:=t'}:=
 I.laid (λ_ _ q=>Bs _ q) (Bu _) ⟨hz,its,0,hv,Dr _ rfl⟩
theorem Inv.fresh(I:Inv X pins σ H s):H s.heap.objs.size=none:=I.hok.fresh (Bu _)
theorem Inv.Bp5(I:Inv X pins σ H s)(hH:H l=some (.lst xs)):xs.length<=sizeLine/\∃(its:List Value) (n:Nat),Vals xs its/\xs.length=its.length/\s.heap.get? l=some {cls:=.type "list",data:=.seq its.toArray n}:=by
 obtain⟨z,its,n,r,e⟩:=I.hok l _ hH
 exact⟨z,its,n,r,r.length,e⟩
theorem Bd4{n:Nat}(h:n<=sizeLine):JT n=false:=by
 unfold JT
 exact Bf (by omega)
end
section
variable {X:Cx}
def Qq:V->List V->Hp->VK->Prop:=λx vs H Q=>∃l xs y,x=.ref l/\vs=[y]/\H l=some (.lst xs)/\xs.length<sizeLine/\Q .non (upd H l (.lst (xs++[y])))
theorem MP:MtM X "list.append" Qq:=by
 intro pins s σ H x vs v us Q I rx rv h
 obtain⟨l,xs,y,rfl,rfl,hH,hz,q⟩:=h
 cases rx
 obtain⟨u,rfl,ru⟩:=rv.one
 obtain⟨z,its,n,r,hl,e⟩:=I.Bp5 hH
 refine Agx F.slot_list_append ⟨_,e,rfl⟩ F.entry_list_append (F.args_list_append_2 _ _) (PySem.list_append l its.toArray n u (by rw[Bv];omega)) ⟨e,?_⟩
 refine⟨.non,_,I.Cb6 (its':=its++[u]) hH e (by simp) (r.append (.cons ru .nil)) ?_,rfl,q⟩
 rw[Bg,VN]
 omega
def Bsy:V->List V->Hp->VK->Prop:=λx vs H Q=>∃l b xs zs,x=.ref l/\vs=[.ref b]/\H l=some (.lst xs)/\H b=some (.lst zs)/\xs.length+zs.length<=sizeLine/\Q .non (upd H l (.lst (xs++zs)))
theorem Bul:MtM X "list.extend" Bsy:=by
 intro pins s σ H x vs v us Q I rx rv h
 obtain⟨l,b,xs,zs,rfl,rfl,hH,hB,hz,q⟩:=h
 cases rx
 obtain⟨u,rfl,ru⟩:=rv.one
 cases ru
 obtain⟨z,its,n,r,hl,e⟩:=I.Bp5 hH
 obtain⟨z2,its2,n2,r2,hl2,e2⟩:=I.Bp5 hB
 have hsz:its.toArray.size+its2.toArray.size<=sizeLine:=by rw[Bv,Bv];omega
 have Bnb:¬(!its.toArray.isEmpty&&JT (its.toArray.size+its2.toArray.size))=true:=by
  rw[Bd4 hsz,Lb]
  exact Ac
 refine Agx Asl ⟨_,e,rfl⟩ Aoz (Akl _ _)
  (AutoSeq1.list_extend_list_list_0 l its.toArray n b its2.toArray n2 Bnb (by rw[Bv];omega) (by omega)) ⟨e,e2,?_⟩
 refine⟨.non,_,I.Cb6 (its':=its++its2) hH e (by simp) (r.append r2) ?_,rfl,q⟩
 rw[Bg]
 omega
def Wi:R2:=λx y H Q=>∃l b xs zs,x=.ref l/\y=.ref b/\H l=some (.lst xs)/\H b=some (.lst zs)/\xs.length+zs.length<=sizeLine/\∀p,H p=none->Q (.ref p) (upd H p (.lst (xs++zs)))
theorem Ly:OpR X (binaryOp .Add) Wi:=by
 intro pins s σ H x y v u Q I rx ry h
 obtain⟨l,b,xs,zs,rfl,rfl,hH,hB,hz,q⟩:=h
 cases rx
 cases ry
 obtain⟨z,its,n,r,hl,e⟩:=I.Bp5 hH
 obtain⟨z2,its2,n2,r2,hl2,e2⟩:=I.Bp5 hB
 refine PySem.P.add_list e e2 ?_ (by rw[Bv,Bv];omega)
 have ea:its.toArray++its2.toArray=(its++its2).toArray:=by simp
 rw[ea]
 exact⟨.ref _,_,I.Cdr (t':=s.toks) (r.append r2) (by rw[Bg];omega),rfl,q _ I.fresh⟩
def Bxy:R2:=λx y H Q=>∃l k xs,x=.ref l/\y=.int k/\H l=some (.lst xs)/\ -(2^63)<=k/\k<2^63/\xs.length*k.toNat<=sizeLine/\
 ∀p,H p=none->Q (.ref p) (upd H p (.lst (Dy k.toNat xs).flatten))
theorem len_rep{α:Type}(xs:List α)(k:Nat):(Dy k xs).flatten.length=k*xs.length:=by
 induction k with
 |zero=>simp
 |succ k ih=>rw[Hu,QZ,Bg,ih,PX,Aup]
theorem Bkl:OpR X (binaryOp .Mult) Bxy:=by
 intro pins s σ H x y v u Q I rx ry h
 obtain⟨l,k,xs,rfl,rfl,hH,h1,h2,hz,q⟩:=h
 cases rx
 obtain⟨t,rfl⟩:=ry
 obtain⟨z,its,n,r,hl,e⟩:=I.Bp5 hH
 have hlen:its.toArray.size*k.toNat<=sizeLine:=by rw[Bv,<-hl];exact hz
 have hcap:¬its.toArray.size*k.toNat>(2^63-1)/8:=by
  have:(sizeLine:Nat)<=(2^63-1)/8:=by decide
  omega
 have hfit:¬(!Builtin.List.listFitsIndex k)=true:=by
  rw[fitsIndex_both h1 h2]
  exact Ac
 have Bnb:¬JT (its.toArray.size*k.toNat)=true:=by
  rw[Bd4 hlen]
  exact Ac
 have hnew:Bcd (λx1 x2=>x1++x2) #[] (Dy (if its.toArray.isEmpty=true then 0 else k.toNat) its.toArray)=(Dy k.toNat its).flatten.toArray:=by
  have f0:∀m:Nat,Bcd (λx1 x2=>x1++x2) #[] (Dy m its.toArray)=(Dy m its).flatten.toArray:=λm=>by
   have:=foldl_rep its m []
   rw[KC] at this
   exact this
  rw[f0]
  cases its with
  |nil=>simp
  |cons a r'=>rw[Am (by simp)]
 refine wpAny_binaryOp_repeat_ref (T:="list") (U:="int") (by decide) ⟨_,e,rfl⟩ (λs'=>typeIs_int s' k t) noFill_list_mul F.fills_int_mul F.slot_int_rmul repeat_list F.slot_int_index.lookup
  (Agx F.slot_int_rmul (typeIs_int s k t) F.entry_int_rmul (F.args_int_rmul_2 _ _) (int___rmul___int_list k t l its.toArray n)
   ⟨e,rfl,⟨_,e,rfl⟩,Agx F.slot_list_mul ⟨_,e,rfl⟩ F.entry_list_mul (F.args_list_mul_2 _ _) (AutoListH.list___mul___list_int_3 l its.toArray n k t hfit hcap Bnb) ⟨e,?_⟩⟩)
 rw[hnew]
 exact⟨.ref _,_,I.Cdr (t':=s.toks) (r.rep k.toNat) (by rw[len_rep,Y5];exact hz),rfl,q _ I.fresh⟩
end
end L2
namespace L2
open PySem PySem.Spec PyProof.Rows
theorem Vals.ints:∀{ns:List Int} {us:List Value},Vals (ns.map V.int) us->IntsAre us ns
 |[],us,h=>by
  rw[Ru] at h
  cases h
  exact IntsAre.nil
 |n::ns,us,h=>by
  rw[Bo] at h
  cases h with
  |cons r t=>
   obtain⟨k,rfl⟩:=r
   exact IntsAre.cons n k (Vals.ints t)
theorem Awy:∀{us:List Value} {ns:List Int},IntsAre us ns->Vals (ns.map V.int) us
 |_,_,.nil=>by rw[Ru];exact Paired.nil
 |_,_,.cons n t h=>by rw[Bo];exact Paired.cons (show RelV (V.int n) (Axe n t) from⟨t,rfl⟩) (Awy h)
theorem Vals.Boc{a:Addr}{us:List Value}(r:Vals [V.ref a] us):us=[G8 a]:=by
 cases r with
 |cons r t=>
  cases t
  cases r
  rfl
section
variable {prog:Program}{w:World}{A:Around}{E:Value->Shared->Prop}{s:Shared}{l:Addr}{its:List Value}{ns:List Int}{Q:Value->Shared->Prop}
theorem Cad(hh:A.handled=none)(hl:s.heap.IsList l its.toArray)(hi:IntsAre its ns)
  (h:∀h' tk t',(∀b o,s.heap.get? b=some o->h'.get? b=some o)->Q (.int ns.sum t') {s with heap:=h',toks:=tk}):wpAny (model prog w) A (call (.builtin "sum") [.ref l]) Q E s:=by
 obtain⟨xs,e⟩:=hi.allInts.items
 have hn:numsOf (intItems xs).toList=ns:=by rw[<-e];exact hi.numsOf
 rw[nums_intItems] at hn
 rw[e] at hl
 refine PySem.sum_intListG hh hl λh' tk t' hk=>?_
 have:=h h' tk t' hk
 rw[preSum_eq,Mj (by simp),hn];exact this
theorem Bzt(hh:A.handled=none)(hl:s.heap.IsList l its.toArray)(hi:IntsAre its ns)(hne:0<ns.length)
  (h:∀h' tk M t',(∀b o,s.heap.get? b=some o->h'.get? b=some o)->M∈ns->(∀a,a∈ns->a<=M)->Q (.int M t') {s with heap:=h',toks:=tk}):wpAny (model prog w) A (call (.builtin "max") [.ref l]) Q E s:=by
 obtain⟨xs,e⟩:=hi.allInts.items
 have hn:numsOf (intItems xs).toList=ns:=by rw[<-e];exact hi.numsOf
 rw[nums_intItems] at hn
 subst hn
 rw[e] at hl
 have hsz:0<xs.size:=by simpa using hne
 refine PySem.max_intList hh hl hsz λv h' tk hv hk=>?_
 obtain⟨t,rfl⟩:=intItems_at hv
 obtain⟨h1,h2⟩:=argBest_gt (numAt xs) (xs.size-1)
 refine h h' tk _ t hk ?_ λa ha=>?_
 ·rw[numAt_eq];exact PySem.getD_mem (by rw[Aa,Ku];omega)
 ·obtain⟨j,hj,rfl⟩:=mem_getD ha
  rw[Aa,Ku] at hj
  rw[<-numAt_eq];exact h2 j (by omega)
end
section
variable {X:Cx}
def Ccl(K:Frag):List V->Hp->VK->Prop:=λvs H Q=>∃(a:Addr) (ns:List Int),vs=[V.ref a]/\SqL K H a (ns.map V.int)/\Q (.int ns.sum) H
def Cd5(K:Frag):List V->Hp->VK->Prop:=λvs H Q=>∃(a:Addr) (ns:List Int),vs=[V.ref a]/\SqL K H a (ns.map V.int)/\0<ns.length/\∀m,m∈ns->(∀y,y∈ns->y<=m)->Q (.int m) H
theorem Bv8(hc:X.calm=true):Bb6 X (.builtin "sum") (Ccl X.K):=by
 intro pins s σ H vs us Q I r h
 obtain⟨a,ns,rfl,hs,q⟩:=h
 obtain⟨its,rv,hl,_⟩:=I.list hs
 rw[Vals.Boc r]
 exact Cad (I.ok.hd hc) hl.isList rv.ints λh' tk t' hk=>⟨.int _,H,I.kept hk,⟨_,rfl⟩,q⟩
theorem Cbd(hc:X.calm=true):Bb6 X (.builtin "max") (Cd5 X.K):=by
 intro pins s σ H vs us Q I r h
 obtain⟨a,ns,rfl,hs,hne,q⟩:=h
 obtain⟨its,rv,hl,_⟩:=I.list hs
 rw[Vals.Boc r]
 exact Bzt (I.ok.hd hc) hl.isList rv.ints hne λh' tk m t' hk h1 h2=>⟨.int _,H,I.kept hk,⟨_,rfl⟩,q m h1 h2⟩
def Bs1(K:Frag):List V->Hp->VK->Prop:=λvs H Q=>∃(a:Addr) (ns:List Int),vs=[V.ref a]/\SqL K H a (ns.map V.int)/\ns.length<64/\
 ∀(ns':List Int) (p:Addr),ns'.Perm ns->ns'.Pairwise (·<=·)->H p=none->Q (.ref p) (upd H p (.lst (ns'.map V.int)))
theorem Bz8{n:Nat}(h:n<64):n<=sizeLine:=by rw[Baf];omega
theorem Btr:Bb6 X (.builtin "sorted") (Bs1 X.K):=by
 intro pins s σ H vs us Q I r h
 obtain⟨a,ns,rfl,hs,h64,q⟩:=h
 obtain⟨its,rv,hl,_⟩:=I.list hs
 rw[Vals.Boc r]
 have hi:=rv.ints
 refine PyProof.Rows.sorted_ints hl.isList hi (by rw[hi.length];exact h64) λout ns' h1 h2 h3=>?_
 obtain⟨ep,he'⟩:=PyProof.Rows.sortedAll_at s.heap its out
 have hlen:(ns'.map V.int).length<=sizeLine:=by rw[Aa,h2.length_eq];exact Bz8 h64
 exact⟨.ref _,upd H (s.heap.objs.size+1) (.lst (ns'.map V.int)),I.laid (t':=s.toks) (λ_ _=>PyProof.Rows.sortedAll_old) (Rj _) ⟨hlen,out.toList,ep,Awy h1,he'⟩,rfl,q ns' _ h2 h3 (I.hok.fresh (Rj _))⟩
end
mutual
inductive Dp(K:Frag)(H:Hp):V->PyData->Prop
 |non:Dp K H .non .none
 |bl (b:Bool):Dp K H (.bl b) (.bool b)
 |int (i:Int):Dp K H (.int i) (.int i)
 |str (x:Str):Dp K H (.str x) (.str x)
 |lst {a:Addr} {xs:List V} {ds:List PyData}:SqL K H a xs->Ayu K H xs ds->Dp K H (.ref a) (.list ds)
 |tup {a:Addr} {xs:List V} {ds:List PyData}:SqT K H a xs->Ayu K H xs ds->Dp K H (.ref a) (.tuple ds)
inductive Ayu(K:Frag)(H:Hp):List V->List PyData->Prop
 |nil:Ayu K H [] []
 |cons {v:V} {vs:List V} {d:PyData} {ds:List PyData}:Dp K H v d->Ayu K H vs ds->Ayu K H (v::vs) (d::ds)
end
section
variable {X:Cx}{pins:List (Addr×Obj)}{σ:St}{H:Hp}{s:Shared}
mutual
theorem Dp.reads(I:Inv X pins σ H s):∀(d:PyData) (v:V) (u:Value),Dp X.K H v d->RelV v u->∃as,Reads s.heap u d as
 |.none,_,_,h,r=>by
  cases h
  cases r
  exact⟨_,Reads.none⟩
 |.bool b,_,_,h,r=>by
  cases h
  cases r
  exact⟨_,Reads.bool b⟩
 |.int i,_,_,h,r=>by
  cases h
  obtain⟨t,rfl⟩:=r
  exact⟨_,Reads.int i t⟩
 |.str x,_,_,h,r=>by
  cases h
  obtain⟨t,rfl⟩:=r
  exact⟨_,Reads.str x t⟩
 |.list ds,_,_,h,r=>by
  cases h with
  |lst hs ha=>
   cases r
   obtain⟨its,rv,⟨o,n,ho,hc,_,hd⟩,_⟩:=I.list hs
   obtain⟨as,hr⟩:=Dp.readsAll I ds _ its ha rv
   exact⟨_,Reads.list ho hc hd hr⟩
 |.tuple ds,_,_,h,r=>by
  cases h with
  |tup hs ha=>
   cases r
   obtain⟨its,rv,⟨o,ho,hc,n,hd⟩,_⟩:=I.tuple hs
   obtain⟨as,hr⟩:=Dp.readsAll I ds _ its ha rv
   exact⟨_,Reads.tuple ho hc hd hr⟩
 |.dict _,_,_,h,_=>by cases h
theorem Dp.readsAll(I:Inv X pins σ H s):∀(ds:List PyData) (vs:List V) (us:List Value),Ayu X.K H vs ds->Vals vs us->∃as,ReadsAll s.heap us ds as
 |[],_,_,h,r=>by
  cases h
  cases r
  exact⟨_,ReadsAll.nil⟩
 |d::ds,_,_,h,r=>by
  cases h with
  |cons h1 h2=>
   cases r with
   |cons r1 r2=>
    obtain⟨as,q1⟩:=Dp.reads I d _ _ h1 r1
    obtain⟨bs,q2⟩:=Dp.readsAll I ds _ _ h2 r2
    exact⟨_,ReadsAll.cons q1 q2⟩
end
end
section
variable {X:Cx}
def Cd7(K:Frag):R2:=λx y H Q=>∃d e,Dp K H x d/\Dp K H y e/\Qh d=true/\Qh e=true/\Q (.bl (!Z9 d e)) H
theorem Ccf(hu:X.A.units+64<cLine):OpR X (compareOp .NotEq) (Cd7 X.K):=by
 intro pins s σ H x y v u Q I rx ry h
 obtain⟨d,e,hd,he,sd,se,q⟩:=h
 obtain⟨as,r1⟩:=Dp.reads I d x v hd rx
 obtain⟨bs,r2⟩:=Dp.reads I e y u he ry
 exact SeqAt.compareNe_shaped r1 r2 sd se hu ⟨.bl _,H,I,rfl,q⟩
end
end L2
namespace L2
open PySem PySem.Spec PyProof.Rows
abbrev Bvl(h:Heap)(c:Addr)(v:Option Value):Prop:=h.IsCell c v
def Bx3(scope sc:Scope):Scope:=
 {scope with names:=scope.names.map λ(n,k)=>if(k==.free&&sc.kind==.function&&sc.names.lookup n==some .cell) then(n,.cell) else(n,k)}
def K8(cells:List (Str×Addr)):List (Str×NameKind)->List (Str×Addr)->List (Str×Addr)
 |[],acc=>acc
 |(n,k)::r,acc=>if k==.free then K8 cells r ((n,(cells.lookup n).getD 0)::acc) else K8 cells r acc
theorem Ava(env:Env)(f:Str×NameKind->List (Str×Addr)->Sem (ForInStep (List (Str×Addr))))
  (hf:∀n k c,f (n,k) c=if k==.free then(do let a<-cellOf env n;pure (.yield ((n,a)::c))) else pure (.yield c)):
  ∀(names:List (Str×NameKind)) (acc:List (Str×Addr)),(∀y∈names,y.2=.free->∃c,env.cells.lookup y.1=some c)->forIn names acc f=pure (K8 env.cells names acc)
 |[],acc,_=>by rw[Akn];rfl
 |(n,k)::r,acc,h=>by
  rw[Bap,hf]
  have ih:=λacc=>Ava env f hf r acc λy hy=>h y (Bh _ hy)
  unfold K8
  by_cases hk:(k==QH)=true
  ·rw[Aq hk,Aq hk]
   obtain⟨c,hc⟩:=h (n,k) Bl (by simpa using hk)
   have e:cellOf env n=pure c:=by unfold cellOf;rw[hc]
   rw[e]
   have e2:(env.cells.lookup n).getD 0=c:=by rw[hc];rfl
   rw[e2]
   exact ih _
  ·rw[Am hk,Am hk]
   exact ih _
theorem Bpm{scope:Scope}{env:Env}(h:∀y∈scope.names,y.2=.free->∃c,env.cells.lookup y.1=some c):closureFor scope env=pure (K8 env.cells scope.names []):=by
 simp only [closureFor]
 rw[Ava env _ (λn k c=>rfl) scope.names [] h]
 rfl
theorem mem_lookup{α:Type}:∀{l:List (Str×α)} {n:Str} {c:α},(n,c)∈l->∃c',l.lookup n=some c'
 |(k,v)::r,n,c,h=>by
  rw[MN]
  cases hb:n==k with
  |true=>exact⟨_,rfl⟩
  |false=>
   rcases BP.mp h with e|h
   ·cases e;simp at hb
   ·exact mem_lookup h
theorem Aci{cells:List (Str×Addr)}:∀{names:List (Str×NameKind)} {acc:List (Str×Addr)} {n:Str} {c:Addr},(n,c)∈K8 cells names acc->(n,c)∈acc\/((n,.free)∈names/\c=(cells.lookup n).getD 0)
 |[],_,_,_,h=>.inl h
 |(m,k)::r,acc,n,c,h=>by
  unfold K8 at h
  split at h
  ·rename_i hk
   have hk:k=.free:=by simpa using hk
   rcases Aci h with h|⟨h1,h2⟩
   ·rcases BP.mp h with e|h
    ·cases e;exact .inr ⟨hk▸Bl,rfl⟩
    ·exact .inl h
   ·exact .inr ⟨Bh _ h1,h2⟩
  ·rcases Aci h with h|⟨h1,h2⟩
   ·exact .inl h
   ·exact .inr ⟨Bh _ h1,h2⟩
theorem Ak9{cells:List (Str×Addr)}:∀{names:List (Str×NameKind)} {acc:List (Str×Addr)} {p:Str×Addr},p∈acc->p∈K8 cells names acc
 |[],_,_,h=>h
 |(m,k)::r,acc,p,h=>by
  unfold K8
  split
  ·exact Ak9 (Bh _ h)
  ·exact Ak9 h
theorem Ala{cells:List (Str×Addr)}:∀{names:List (Str×NameKind)} {acc:List (Str×Addr)} {n:Str},(n,.free)∈names->(n,(cells.lookup n).getD 0)∈K8 cells names acc
 |(m,k)::r,acc,n,h=>by
  unfold K8
  rcases BP.mp h with e|h
  ·cases e
   exact Ak9 Bl
  ·split
   ·exact Ala h
   ·exact Ala h
theorem Afq:∀{names:List (Str×NameKind)} {h:Heap} {acc:List (Str×Addr)} {x:Str} {c:Addr},(x,c)∈cellsFrom h.objs.size names acc->
  (x,c)∈acc\/((x,.cell)∈names/\h.objs.size<=c/\Bvl (pushCells h names) c none)
 |[],_,_,_,_,h=>.inl h
 |(n,k)::r,h,acc,x,c,hm=>by
  unfold cellsFrom at hm
  unfold pushCells
  split at hm
  ·rename_i hk
   rw[Aq hk]
   have hk:k=.cell:=by simpa using hk
   rw[<-Hg h {cls:=.type "cell",data:=.cell none}] at hm
   rcases Afq hm with hm|⟨h1,h2,h3⟩
   ·rcases BP.mp hm with e|hm
    ·cases e
     exact .inr ⟨hk▸Bl,Bu _,_,Ym r _ _ _ (Dr _ rfl),rfl⟩
    ·exact .inl hm
   ·rw[Hg] at h2
    exact .inr ⟨Bh _ h1,Us h2,h3⟩
  ·rename_i hk
   rw[Am hk]
   rcases Afq hm with hm|⟨h1,h2,h3⟩
   ·exact .inl hm
   ·exact .inr ⟨Bh _ h1,h2,h3⟩
theorem Aob:∀{names:List (Str×NameKind)} {n:Nat} {acc:List (Str×Addr)} {p:Str×Addr},p∈acc->p∈cellsFrom n names acc
 |[],_,_,_,h=>h
 |(m,k)::r,n,acc,p,h=>by
  unfold cellsFrom
  split
  ·exact Aob (Bh _ h)
  ·exact Aob h
theorem Axh:∀{names:List (Str×NameKind)} {n:Nat} {acc:List (Str×Addr)} {x:Str},(x,.cell)∈names->∃c,(x,c)∈cellsFrom n names acc
 |(m,k)::r,n,acc,x,h=>by
  unfold cellsFrom
  rcases BP.mp h with e|h
  ·cases e
   exact⟨n,Aob Bl⟩
  ·split
   ·exact Axh h
   ·exact Axh h
theorem Axi:∀{names:List (Str×NameKind)} {h:Heap} {acc:List (Str×Addr)} {x y:Str} {c:Addr},(∀p∈acc,p.2<h.objs.size)->(∀x y c,(x,c)∈acc->(y,c)∈acc->x=y)->
  (x,c)∈cellsFrom h.objs.size names acc->(y,c)∈cellsFrom h.objs.size names acc->x=y
 |[],_,_,_,_,_,_,hi,h1,h2=>hi _ _ _ h1 h2
 |(n,k)::r,h,acc,x,y,c,hl,hi,h1,h2=>by
  unfold cellsFrom at h1 h2
  split at h1
  ·rename_i hk
   rw[Aq hk] at h2
   rw[<-Hg h {cls:=.type "cell",data:=.cell none}] at h1 h2
   refine Axi (h:=h.push _) (λp hp=>?_) (λx y c a b=>?_) h1 h2
   ·rw[Hg]
    rcases BP.mp hp with rfl|hp
    ·exact V5 _
    ·exact Q5 (hl p hp)
   ·rcases BP.mp a with e|a<;>rcases BP.mp b with e'|b
    ·cases e;cases e';rfl
    ·cases e;exact absurd (hl _ b) (Io _)
    ·cases e';exact absurd (hl _ a) (Io _)
    ·exact hi _ _ _ a b
  ·rename_i hk
   rw[Am hk] at h2
   exact Axi hl hi h1 h2
theorem Bns{M:Model}{A:Around}{E:Value->Shared->Prop}{s:Shared}{scope:Scope}{globals:Addr}{closure:List (Str×Addr)}{qual:Str}{func:Option Addr}{code:Value}{around:Env}{builtins:Addr}{Q:Env->Shared->Prop}
  (h:Q (newEnv scope s.heap.objs.size globals (cellsFrom (s.heap.objs.size+1) scope.names closure) qual func code (some around) builtins)
   {s with heap:=pushCells (s.heap.push {cls:=.type "dict",data:=.dict #[]}) scope.names}):
  wpAny M A (newFunctionEnv scope globals closure [] qual func code (some around) builtins) Q E s:=by
 simp only [newFunctionEnv,Option.isSome_some,if_true]
 refine Br (wpAny_alloc ?_)
 refine Br (wpAny_layCells _ (λn k c=>rfl) scope.names closure _ _ ?_)
 rw[show({s with heap:=s.heap.push {cls:=.type "dict",data:=.dict #[]}}:Shared).heap.objs.size=s.heap.objs.size+1 from Hg ..]
 rw[Akn]
 exact Br (Eo (Eo h))
theorem Als{sc:Scope}:∀{names:List (Str×NameKind)} {x:Str} {k:NameKind},
  (names.map λ(n,k)=>if(k==QH&&sc.kind==.function&&sc.names.lookup n==some .cell) then(n,Wl) else(n,k)).lookup x=some k->
  ∃k',names.lookup x=some k'/\(k=k'\/(k'=.free/\k=.cell))
 |[],_,_,h=>by simp at h
 |(n,k₀)::r,x,k,h=>by
  have ih:=@Als sc r x k
  have h':JG x ((if(k₀==QH&&sc.kind==.function&&sc.names.lookup n==some .cell)=true then(n,Wl) else(n,k₀))::(r.map _))=some k:=h
  cases hx:x==n with
  |true=>
   simp only [MN,hx]
   by_cases hc:(k₀==QH&&sc.kind==.function&&sc.names.lookup n==some .cell)=true
   ·rw[Aq hc] at h'
    simp only [MN,hx] at h'
    cases h'
    simp only [Cm,Jc] at hc
    exact⟨k₀,rfl,.inr ⟨hc.1.1,rfl⟩⟩
   ·rw[Am hc] at h'
    simp only [MN,hx] at h'
    cases h'
    exact⟨_,rfl,.inl rfl⟩
  |false=>
   simp only [MN,hx]
   by_cases hc:(k₀==QH&&sc.kind==.function&&sc.names.lookup n==some .cell)=true
   ·rw[Aq hc] at h'
    simp only [MN,hx] at h'
    exact ih h'
   ·rw[Am hc] at h'
    simp only [MN,hx] at h'
    exact ih h'
structure Blv(N:List Str)(sc scope:Scope)(own:List (Str×Nat)):Prop where
 kind:scope.kind=.function
 uniq:∀y∈scope.names,scope.names.lookup y.1=some y.2
 ix:∀p∈own,N[p.2]?=some p.1
 free:∀y∈scope.names,y.2=.free->sc.names.lookup y.1=some .cell\/sc.names.lookup y.1=some .free
 own:∀y∈scope.names,y.2=.local\/y.2=.cell->y.1∈own.map (·.1)\/y.1∉N
def wipe(σ:St):List Nat->St
 |[]=>σ
 |v::vs=>(wipe σ vs).set v none
theorem An2(σ:St):∀vs:List Nat,(wipe σ vs).length=σ.length
 |[]=>rfl
 |v::vs=>by unfold wipe;rw[Yb,An2 σ vs]
theorem Ays{σ:St}{i:Nat}{x:V}:∀{vs:List Nat},(wipe σ vs)[i]?=some (some x)->σ[i]?=some (some x)/\i∉vs
 |[],h=>⟨h,by simp⟩
 |v::vs,h=>by
  unfold wipe at h
  by_cases hi:v=i
  ·subst hi
   by_cases hv:v<(wipe σ vs).length
   ·rw[Mi hv] at h;cases h
   ·rw[IW (by simpa using hv)] at h;cases h
  ·rw[Xj hi] at h
   obtain⟨h1,h2⟩:=Ays h
   exact⟨h1,by simp only [BP,not_or];exact⟨λe=>hi e.symm,h2⟩⟩
abbrev Cx.blk(X:Cx)(s:Shared)(H:Hp)(scope:Scope)(cenv:Env)(fp:List Addr):Cx:={X with s_0:=s,H_0:=H,env:=cenv,outer:=X.stack,ex:=fp,fn:=λx=>scope.names.lookup x==some .cell,pn:=[],xe:=λ_ _=>False}
section
variable {X:Cx}{pins:List (Addr×Obj)}{σ:St}{H:Hp}{s:Shared}
theorem Bmk{scope:Scope}{own:List (Str×Nat)}{fp:List Addr}(I:Inv X pins σ H s)(ok:Blv X.N X.env.scope scope own)(hN:X.N.Nodup)(hfp:∀b∈fp,Abp X pins H b/\b<s.heap.objs.size):
  Inv (X.blk s H scope (compEnvC scope (cellsFrom (s.heap.objs.size+1) scope.names (K8 X.env.cells scope.names [])) s.heap.objs.size X.env) fp) [] (wipe σ (own.map (·.2))) H {s with heap:=pushCells (s.heap.push {cls:=.type "dict",data:=.dict #[]}) scope.names}:=by
 have hfree:∀y∈scope.names,y.2=.free->∃c,X.env.cells.lookup y.1=some c:=λy hy e=>by
  rcases ok.free y hy e with k|k
  ·exact I.ok.has _ (.inl k)
  ·exact I.ok.has _ (.inr k)
 generalize Bna:compEnvC scope (cellsFrom (s.heap.objs.size+1) scope.names (K8 X.env.cells scope.names [])) s.heap.objs.size X.env=cenv
 have kp:∀b o,s.heap.get? b=some o->(pushCells (s.heap.push {cls:=.type "dict",data:=.dict #[]}) scope.names).get? b=some o:=λb o e=>Ym _ _ _ _ (Bs _ e)
 have hL:cenv.locals=s.heap.objs.size:=by rw[<-Bna];rfl
 have hcl:cenv.cells=cellsFrom (s.heap.objs.size+1) scope.names (K8 X.env.cells scope.names []):=by rw[<-Bna];rfl
 have hsc:cenv.scope=Bx3 scope X.env.scope:=by rw[<-Bna];rfl
 rw[<-Hg s.heap {cls:=.type "dict",data:=.dict #[]}] at hcl
 have cm:∀{y c},(y,c)∈K8 X.env.cells scope.names []->X.env.cells.lookup y=some c/\c<s.heap.objs.size:=λ{y c} hm=>by
  rcases Aci hm with hm|⟨h1,rfl⟩
  ·cases hm
  ·obtain⟨c,hc⟩:=hfree _ h1 rfl
   rw[hc]
   obtain⟨w,z⟩:=I.cell _ _ hc
   exact⟨rfl,z.lt⟩
 have mem:∀{y c},cenv.cells.lookup y=some c->(X.env.cells.lookup y=some c/\c<s.heap.objs.size)\/(s.heap.objs.size+1<=c/\Bvl (pushCells (s.heap.push {cls:=.type "dict",data:=.dict #[]}) scope.names) c none):=λ{y c} e=>by
  rw[hcl] at e
  rcases Afq (Fw e) with hm|⟨_,h2,h3⟩
  ·exact .inl (cm hm)
  ·rw[Hg] at h2;exact .inr ⟨h2,h3⟩
 have look:∀{y},scope.names.lookup y=some .free->∃c,cenv.cells.lookup y=some c/\X.env.cells.lookup y=some c:=λ{y} hl=>by
  have hy:(y,QH)∈scope.names:=Fw hl
  obtain⟨c',e'⟩:=mem_lookup (Aob (names:=scope.names) (n:=(s.heap.push {cls:=.type "dict",data:=.dict #[]}).objs.size) (Ala (cells:=X.env.cells) (acc:=[]) hy))
  rw[<-hcl] at e'
  refine⟨c',e',?_⟩
  rw[hcl] at e'
  rcases Afq (Fw e') with hm|⟨h1,_,_⟩
  ·exact(cm hm).1
  ·have:=ok.uniq _ h1
   rw[hl] at this;cases this
 have okB:(X.blk s H scope cenv fp).Ok:=by
  refine⟨I.ok.mod,by show cenv.scope.kind=_;rw[hsc];exact ok.kind,by show cenv.globals=_;rw[<-Bna];exact I.ok.glob,by show cenv.builtins=_;rw[<-Bna];exact I.ok.blt,by show s.heap.objs.size<=cenv.locals;rw[hL];exact Bu _,
   λy z c e1 e2=>?_,λy hy=>?_,λy c z e=>?_,I.ok.hd,I.ok.frames,.inl rfl,λb hb=>⟨?_,λy c e z=>?_⟩,I.bs,Az I.ok.bsz I.sz,λb o e hb=>?_,λb hb z=>?_,I.stack,I.Bs6⟩
  ·have e1:cenv.cells.lookup y=some c:=e1
   have e2:cenv.cells.lookup z=some c:=e2
   rw[hcl] at e1 e2
   refine Axi (λp hp=>?_) (λy z c a b=>I.ok.inj y z c (cm a).1 (cm b).1) (Fw e1) (Fw e2)
   rw[Hg]
   exact Q5 (cm (y:=p.1) (c:=p.2) hp).2
  ·show∃c,cenv.cells.lookup y=some c
   have key:∀k,cenv.kindOf y=some k->(k=.cell\/k=.free)->∃c,cenv.cells.lookup y=some c:=λk hk hk'=>by
    unfold Env.kindOf at hk
    rw[hsc] at hk
    obtain⟨k',e,r⟩:=Als hk
    have:k'=.cell\/k'=.free:=by
     rcases r with rfl|⟨rfl,_⟩
     ·exact hk'
     ·exact .inr rfl
    rcases this with rfl|rfl
    ·obtain⟨c,hm⟩:=Axh (n:=(s.heap.push {cls:=.type "dict",data:=.dict #[]}).objs.size) (acc:=K8 X.env.cells scope.names []) (Fw e)
     obtain⟨c',e'⟩:=mem_lookup hm
     exact⟨c',by rw[hcl];exact e'⟩
    ·obtain⟨c,h1,_⟩:=look e
     exact⟨c,h1⟩
   rcases hy with hy|hy
   ·exact key _ hy (.inl rfl)
   ·exact key _ hy (.inr rfl)
  ·have z:(scope.names.lookup y==some Wl)=true:=z
   have z:scope.names.lookup y=some .cell:=by simpa using z
   have e:cenv.cells.lookup y=some c:=e
   rw[hcl] at e
   rcases Afq (Fw e) with hm|⟨_,h2,_⟩
   ·rcases Aci hm with hm|⟨h1,_⟩
    ·cases hm
    ·have q:=ok.uniq _ h1
     rw[z] at q;cases q
   ·rw[Hg] at h2
    exact Us h2
  ·show b≠cenv.locals
   rw[hL];exact Fd (hfp b hb).2
  ·have e:cenv.cells.lookup y=some c:=e
   rcases mem e with⟨h1,_⟩|⟨h1,_⟩
   ·exact(hfp b hb).1.2.2.2.2.1 y c h1 z
   ·have h2:s.heap.objs.size+1<=b:=by rw[<-z];exact h1
    exact absurd (Dh (hfp b hb).2 (Us h2)) (Io _)
  ·rcases(hfp b hb).1.2.2.2.1 with z|z
   ·exact I.ok.Bxg b o e z
   ·exact absurd (Dh (CN e) (Az I.ok.bsz z)) (Io _)
  ·rcases BP.mp (I.Bk2 b z) with z|z
   ·exact(hfp b hb).1.2.1 z
   ·exact(hfp b hb).1.2.2.1 z
 refine⟨okB,rfl,I.bare,Un.kept kp,⟨λ_=>none,?_,λi y av e1 e2 e3=>?_⟩,λy c e=>?_,?_,λy c e=>?_,λp hp=>?_,I.hok.kept kp,by rw[An2];exact I.len⟩
 ·show Heap.Ns _ cenv.locals _
  rw[hL]
  exact Heap.Ns.keeps (Heap.Ns.new ..) λb o e=>Ym _ _ _ _ e
 ·obtain⟨e2,hne⟩:=Ays e2
  have hfr:scope.names.lookup y=some .free/\(cenv.kindOf y=some .cell\/cenv.kindOf y=some .free):=by
   have key:∀k,cenv.scope.names.lookup y=some k->k=.local\/k=.cell\/k=.free->scope.names.lookup y=some .free/\(cenv.kindOf y=some .cell\/cenv.kindOf y=some .free):=λk hk hk'=>by
    have hk0:=hk
    rw[hsc] at hk
    obtain⟨k',e,r⟩:=Als hk
    have no:¬(k'=.local\/k'=.cell):=λhh=>by
     rcases ok.own _ (Fw e) hh with e'|e'
     ·obtain⟨p,hp,hpy⟩:=Dv.mp e'
      have e3:=ok.ix p hp
      have:p.1=y:=hpy
      rw[this] at e3
      exact hne (Dv.mpr ⟨p,hp,Bd3 hN e3 e1⟩)
     ·exact e' (BX e1)
    rcases r with rfl|⟨rfl,rfl⟩
    ·rcases hk' with rfl|rfl|rfl
     ·exact absurd (.inl rfl) no
     ·exact absurd (.inr rfl) no
     ·exact⟨e,.inr hk0⟩
    ·exact⟨e,.inl hk0⟩
   have e3:Vis cenv.scope y:=e3
   rcases e3 with e3|e3|e3
   ·exact key _ e3 (.inl rfl)
   ·exact key _ e3 (.inr (.inl rfl))
   ·exact key _ e3 (.inr (.inr rfl))
  obtain⟨m,hn,hl⟩:=I.loc
  have Ce3:Vis X.env.scope y:=(ok.free _ (Fw hfr.1) rfl).elim (λk=>.inr (.inl k)) (λk=>.inr (.inr k))
  obtain⟨w,r,q⟩:=hl i y av e1 e2 Ce3
  refine⟨w,r,.inr ⟨hfr.2,?_⟩⟩
  obtain⟨c,h1,h2⟩:=look hfr.1
  rcases q with⟨k,_⟩|⟨_,c',e',z⟩
  ·have k:X.env.scope.names.lookup y=some .local:=k
   rcases ok.free _ (Fw hfr.1) rfl with k'|k'<;>rw[show X.env.scope.names.lookup y=_ from k'] at k<;>cases k
  ·rw[h2] at e';cases e'
   exact⟨c,h1,z.keeps kp⟩
 ·have e:cenv.cells.lookup y=some c:=e
  rcases mem e with⟨h1,_⟩|⟨_,z⟩
  ·obtain⟨w,z⟩:=I.cell y c h1
   exact⟨w,z.keeps kp⟩
  ·exact⟨_,z⟩
 ·show H cenv.locals=none
  rw[hL];exact I.hok.fresh (Bu _)
 ·have e:cenv.cells.lookup y=some c:=e
  rcases mem e with⟨h1,_⟩|⟨h1,_⟩
  ·exact I.Ai3 y c h1
  ·exact I.hok.fresh (Us h1)
 ·exact absurd (show p∈([]:List (Addr×Obj))++[] from hp) (by simp)
theorem Cbb{E:Value->Shared->Prop}{D:Addr}{xs:List V}{y:V}{v:Value}{Q:Value->Shared->Prop}(I:Inv X pins σ H s)(hD:H D=some (.lst xs))(hz:xs.length<sizeLine)(r:RelV y v)
  (h:∀s',Inv X pins σ (upd H D (.lst (xs++[y]))) s'->Q .none s'):wpAny (model X.prog X.w) X.A (call (.builtin "list.append") [.ref D,v]) Q E s:=by
 obtain⟨hz',its,n,ri,e⟩:=I.hok D _ hD
 have hl:=ri.length
 refine append_at (hsz:=by rw[Bv];omega) e λh' sb ho'=>?_
 refine h {s with heap:=h'} (I.write (t':=s.toks) (by rw[hD];trivial) (.inl rfl) (λb u hb q=>(sb.2 b hb).trans q) ⟨_,ho'⟩ ⟨by rw[Bg];exact hz,its++[v],n+1,ri.append (.cons r .nil),?_⟩)
 rw[ho']
 simp
def PTs(X:Cx)(ifs:List Expr)(t:TT):Prop:=
 ∀(pins:List (Addr×Obj)) (s:Shared) (σ:St) (H:Hp) (Q:Bool->Hp->Prop),Inv X pins σ H s->t σ H Q->
  wpAny (model X.prog X.w) X.A (forIn ifs true λc r=>if r=true then do let ok<-isTrue c X.env (eval c X.env);pure (X7 ok) else pure (X7 r)) (TP X pins σ Q) X.xe s
def Apd:TT:=λ_ H Q=>Q true H
theorem WQ:PTs X [] Apd:=λ_ _ _ H _ I h=>wpAny_tests_nil ⟨H,I,h⟩
theorem Ahg{c:Expr}{t:TT}(h:PT X c t):PTs X [c] t:=λpins s σ H Q I hw=>wpAny_tests_one (h pins s σ H Q I hw)
end
theorem Bu7{α:Type}{t:Sem α}{Q Q':α->Shared->Prop}{M:Model}{A:Around}{E:Value->Shared->Prop}{s:Shared}(h:wpAny M A t Q (λ_ _=>False) s)(hQ:∀a s,Q a s->Q' a s):wpAny M A t Q' E s:=Ks h hQ λ_ _ z=>Fo z
theorem Bjk{prog:Program}{w:World}{A:Around}{R:Result->Shared->Prop}{s:Shared}{elt target iter:Expr}{ifs:List Expr}{scope:Scope}{pos:Pos}{it acc:Value}{env:Env}(I:Nat->Shared->Prop)
  (turn:∀n s,I n s->wpAny (model prog w) A (pyNext it) (λr s₁=>match r with
   |none=>R (.ok .next) s₁
   |some v=>wpAny (model prog w) A (letOwnedTupleGo target it v) (λ_ s₁'=>wpAny (model prog w) A (assign target env v) (λ_ s₂=>
     wpAny (model prog w) A (forIn ifs true λc r=>if r=true then do let ok<-isTrue c env (eval c env);pure (X7 ok) else pure (X7 r)) (λok s₃=>
      if ok=true then wpAny (model prog w) A (eval elt env) (λx s₄=>
       wpAny (model prog w) A (call (.builtin "list.append") [acc,x]) (λ_ s₅=>∃m,m<n/\I m s₅) (notedBy (model prog w) A env λe s'=>R (.error e) s') s₄) (notedBy (model prog w) A env λe s'=>R (.error e) s') s₃
      else∃m,m<n/\I m s₃) (notedBy (model prog w) A env λe s'=>R (.error e) s') s₂) (notedBy (model prog w) A env λe s'=>R (.error e) s') s₁') (notedBy (model prog w) A env λe s'=>R (.error e) s') s₁) (notedBy (model prog w) A env λe s'=>R (.error e) s') s)
  (n:Nat) (h:I n s):
  codeAny (model prog w) A (.compLoop (.ListComp elt [⟨target,iter,ifs,0⟩] scope pos) 0 it acc env) R s:=by
 refine codeAny_loop rfl I (λn s hI=>?_) n h
 show wpAny _ A ((compTurn (.ListComp elt [⟨target,iter,ifs,0⟩] scope pos) 0 it acc env).onRaise (λx=>do noteFrame x env;theTreesLotGoes x)) _ _ s
 refine wpAny_noted ?_
 rw[compTurn_list]
 refine Br (Asg (Br (Ks (turn n s hI) (λr s₁ h₁=>?_) λ_ _ h'=>h')))
 cases r with
 |none=>exact Eo h₁
 |some v=>
  refine Br (Ks h₁ (λ_ s₁' h₁'=>?_) λ_ _ h'=>h')
  refine Br (Ks h₁' (λ_ s₂ h₂=>Br (Ks h₂ (λok s₃ h₃=>?_) λ_ _ h'=>h')) λ_ _ h'=>h')
  cases ok with
  |false=>exact Eo ⟨rfl,h₃⟩
  |true=>
   exact Br (Br (Ks h₃ (λx s₄ h₄=>Br (Ks h₄ (λ_ s₅ h₅=>Eo (Eo ⟨rfl,h₅⟩)) λ_ _ h'=>h')) λ_ _ h'=>h'))
section
variable {X:Cx}
def tLc(wi:TI)(g:TG)(tt:TT)(te:TE)(vs:List Nat):TE:=λσ H Q=>wi σ H λJ H1=>∀D,H1 D=none->∃W:Nat->Nat->Hp->Prop,(∃m,W 0 m (upd H1 D (.lst [])))/\∀i m H,W i m H->
 (J.stop i H/\Q (.ref D) H)\/(J.go i H/\∃Nx:Hp->Prop,(∀H',Nx H'->∃m',m'<m/\W (i+1) m' H')/\∀x H',J.yld i H x H'->g x (wipe σ vs) H' λσ2 H2=>wipe σ2 vs=wipe σ vs/\tt σ2 H2 λb H3=>
  if b=true then te σ2 H3 λy H4=>∃acc,H4 D=some (.lst acc)/\acc.length<sizeLine/\Nx (upd H4 D (.lst (acc++[y]))) else Nx H3)
theorem Bsa{pins:List (Addr×Obj)}{s:Shared}{σ:St}{H:Hp}{Q:VK}{elt tg iter:Expr}{ifs:List Expr}{scope:Scope}{own:List (Str×Nat)}{pos pos':Pos}{wi:TI}{g:TG}{tt:TT}{te:TE}{use:Option (Value->Sem Unit)}{Qf:Value->Shared->Prop}
  (hc:X.calm=true) (hN:X.N.Nodup) (I:Inv X pins σ H s) (hi:PI X tg iter wi) (ok:Blv X.N X.env.scope scope own)
  (hg:∀(s:Shared) (H:Hp) (C:Addr) (cl:List (Str×Addr)) (fp:List Addr),PG (X.blk s H scope (compEnvC scope cl C X.env) fp) tg g) (ht:∀(s:Shared) (H:Hp) (C:Addr) (cl:List (Str×Addr)) (fp:List Addr),PTs (X.blk s H scope (compEnvC scope cl C X.env) fp) ifs tt)
  (he:∀(s:Shared) (H:Hp) (C:Addr) (cl:List (Str×Addr)) (fp:List Addr),PE (X.blk s H scope (compEnvC scope cl C X.env) fp) elt te) (hs:∀x,foldedSetIterable iter X.env x=pure x)
  (h:tLc wi g tt te (own.map (·.2)) σ H Q)
  (hRR:∀D C s' m H',Inv X pins σ H' s'->Q (.ref D) H'->s'.heap.Ns C m->Abp X pins H' C->compPost (model X.prog X.w) X.A X.xe use Qf (.ref D) C (.ok .next) s'):
  wpAny (model X.prog X.w) X.A (comprehension (.ListComp elt [⟨tg,iter,ifs,0⟩] scope pos) scope X.env pos' (newList []) false (eval iter X.env) use) Qf X.xe s:=by
 have hfree:∀y∈scope.names,y.2=.free->∃c,X.env.cells.lookup y.1=some c:=λy hy e=>by
  rcases ok.free y hy e with k|k
  ·exact I.ok.has _ (.inl k)
  ·exact I.ok.has _ (.inr k)
 refine wpAny_comprehension_free (use:=use) rfl hs (Bpm hfree) ok.kind (λy hy e=>by rw[ok.uniq y hy,e])
  (thn (hi pins s σ H _ I h) λxv s1 hx=>thn hx λitv s2 h2=>?_)
 obtain⟨it,fp,tn,J,H2,e,I2,T,st2,f2,q⟩:=h2
 subst e
 refine Adv (Bns ?_) (by show 0<=sizeLine;decide)
 generalize hD:s2.heap.objs.size=D
 have hDn:H2 D=none:=I2.hok.fresh (PN hD)
 obtain⟨W,⟨m0,w0⟩,turn⟩:=q D hDn
 generalize hs3:({s2 with heap:=s2.heap.push {cls:=.type "list",data:=.seq ([]:List Value).toArray}}:Shared)=s3
 have I3:Inv X pins σ (upd H2 D (.lst [])) s3:=by
  rw[<-hs3]
  refine I2.laid (t':=s2.toks) (λb o e=>Bs _ e) (PN hD) ⟨Hh _,[],0,.nil,?_⟩
  rw[<-hD]
  exact Dr _ rfl
 have h3:s3.heap=s2.heap.push {cls:=.type "list",data:=.seq ([]:List Value).toArray}:=by rw[<-hs3]
 have sz:∀b∈fp,b<s2.heap.objs.size:=λb hb=>by
  obtain⟨o,e,_⟩:=T.obj _ _ st2 b hb
  exact CN e
 have f3:∀b∈fp,Abp X pins (upd H2 D (.lst [])) b/\b<s3.heap.objs.size:=λb hb=>by
  have hlt:=sz b hb
  refine⟨⟨?_,(f2 b hb).2⟩,by rw[h3,Hg];exact Q5 hlt⟩
  rw[Cd (by rw[<-hD];exact Fd hlt)]
  exact(f2 b hb).1
 have st3:tn 0 s3.heap:=T.keep _ _ _ st2 λb _ o e=>by rw[h3];exact Bs _ e
 have I4:=Bmk I3 ok hN f3
 have pg:=hg s3 (upd H2 D (.lst [])) s3.heap.objs.size (cellsFrom (s3.heap.objs.size+1) scope.names (K8 X.env.cells scope.names [])) fp
 have pt:=ht s3 (upd H2 D (.lst [])) s3.heap.objs.size (cellsFrom (s3.heap.objs.size+1) scope.names (K8 X.env.cells scope.names [])) fp
 have pe:=he s3 (upd H2 D (.lst [])) s3.heap.objs.size (cellsFrom (s3.heap.objs.size+1) scope.names (K8 X.env.cells scope.names [])) fp
 show codeAny _ _ (.compStart (.ListComp elt [⟨tg,iter,ifs,0⟩] scope pos) 0 (.ref it) (.ref D) (compEnvC scope (cellsFrom (s3.heap.objs.size+1) scope.names (K8 X.env.cells scope.names [])) s3.heap.objs.size X.env)) (compPost (model X.prog X.w) X.A X.xe use Qf (.ref D) s3.heap.objs.size) {s3 with heap:=pushCells (s3.heap.push {cls:=.type "dict",data:=.dict #[]}) scope.names}
 have nfp:∀b∈fp,(upd H2 D (.lst [])) b=none:=λb hb=>(f3 b hb).1.1
 generalize hce:compEnvC scope (cellsFrom (s3.heap.objs.size+1) scope.names (K8 X.env.cells scope.names [])) s3.heap.objs.size X.env=ce at I4 pg pt pe|-
 have cL:ce.locals=s3.heap.objs.size:=by subst hce;rfl
 generalize hH3:upd H2 D (.lst [])=H3 at I3 I4 pg pt pe w0 nfp f3
 generalize hs4:({s3 with heap:=pushCells (s3.heap.push {cls:=.type "dict",data:=.dict #[]}) scope.names}:Shared)=s4 at I4|-
 have st4:tn 0 s4.heap:=T.keep _ _ _ st3 λb _ o e=>by rw[<-hs4];exact Ym _ _ _ _ (Bs _ e)
 have stat:∀{σ':St} {H':Hp} {s':Shared},Inv (X.blk s3 H3 scope ce fp) [] σ' H' s'->(∀b∈fp,H' b=none)->∀b∈fp,Abp (X.blk s3 H3 scope ce fp) [] H' b:=λ{σ' H' s'} I' hn b hb=>
  ⟨hn b hb,(I'.ok.exf b hb).1,I'.ok.Bwh b hb,.inl hb,λx c e=>(I'.ok.exf b hb).2 x c e,λp hp=>absurd (show p∈([]:List (Addr×Obj))++[] from hp) (by simp)⟩
 have loop:codeAny (model X.prog X.w) X.A (.compLoop (.ListComp elt [⟨tg,iter,ifs,0⟩] scope pos) 0 (.ref it) (.ref D) ce) (compPost (model X.prog X.w) X.A X.xe use Qf (.ref D) s3.heap.objs.size) s4:=by
  refine Bjk (λn s'=>∃i H',Inv (X.blk s3 H3 scope ce fp) [] (wipe σ (own.map (·.2))) H' s'/\tn i s'.heap/\(∀b∈fp,H' b=none)/\W i n H') ?_ m0 ⟨0,H3,I4,st4,nfp,w0⟩
  rintro n s5 ⟨i,H5,I5,st5,n5,w5⟩
  rcases turn i n H5 w5 with⟨stop,qq⟩|⟨go,Nx,hNx,step⟩
  ·have td:=T.done (X.blk s3 H3 scope ce fp) rfl rfl rfl hc i [] s5 _ H5 (λ_ _=>False) I5 (stat I5 n5) st5 stop
   refine Bu7 td λr s6 ⟨hr,I6⟩=>?_
   subst hr
   have I7:Inv X pins σ H5 s6:=I3.call' (ch:=fp) I6.os I6.base I6.hok I6.bare λb hb=>⟨(f3 b hb).1.2.2.2.1,(f3 b hb).1.2.1,(f3 b hb).1.2.2.2.2.1,(f3 b hb).1.2.2.2.2.2⟩
   have nC:H5 s3.heap.objs.size=none:=by
    have z:H5 ce.locals=none:=I6.free
    rw[cL] at z
    exact z
   obtain⟨m,hn,_⟩:=I6.loc
   have hn:s6.heap.Ns ce.locals m:=hn
   rw[cL] at hn
   exact hRR D s3.heap.objs.size s6 m H5 I7 qq hn (I3.Bm4 (Bu _) nC)
  ·have ti:=T.item (X.blk s3 H3 scope ce fp) rfl rfl rfl hc i [] s5 _ H5 (λ_ _=>False) I5 (stat I5 n5) st5 go
   refine Bu7 ti λr s6 ⟨u,hr,h6⟩=>?_
   subst hr
   refine Bu7 h6 λ_ s7 ⟨x,H7,I7,r7,y7,st7,n7⟩=>?_
   have I7':=I7.pinned (stat I7 n7) (T.obj _ _ st7)
   refine Bu7 (pg _ s7 _ H7 x u _ I7' r7 (step x H7 y7)) λ_ s8 ⟨σ8,H8,I8,hw8,q8⟩=>?_
   refine Bu7 (pt _ s8 σ8 H8 _ I8 q8) λb s9 ⟨H9,I9,q9⟩=>?_
   have fin:∀{s':Shared} {H':Hp},Inv (X.blk s3 H3 scope ce fp) ([]++Bel fp s7.heap) σ8 H' s'->Nx H'->∃m,m<n/\∃i H',Inv (X.blk s3 H3 scope ce fp) [] (wipe σ (own.map (·.2))) H' s'/\tn i s'.heap/\(∀b∈fp,H' b=none)/\W i m H':=λ{s' H'} I' nx=>by
    obtain⟨m',hm,w'⟩:=hNx H' nx
    have Cdy:∀b∈fp,∀o,s7.heap.get? b=some o->s'.heap.get? b=some o/\H' b=none:=λb hb o e=>
     let z:=I'.pin (b,o) (Cu _ (Cu _ (Ate hb e)))
     ⟨z.1,z.2.1⟩
    have hl:(wipe σ (own.map (·.2))).length=σ8.length:=by rw[<-hw8,An2]
    refine⟨m',hm,i+1,H',(I'.Awu (pins:=[])).weak hl (λj v e=>?_),T.keep _ _ _ st7 λb hb o e=>(Cdy b hb o e).1,λb hb=>?_,w'⟩
    ·rw[<-hw8] at e
     exact(Ays e).1
    ·obtain⟨o,e,_⟩:=T.obj _ _ st7 b hb
     exact(Cdy b hb o e).2
   cases b with
   |false=>
    simp only [Tv,if_false] at q9|-
    exact fin I9 q9
   |true=>
    simp only [if_true] at q9|-
    refine Bu7 (pe _ s9 σ8 H9 _ I9 q9) λz s10 ⟨yv,H10,I10,r10,acc,Cen,Ce6,nx⟩=>?_
    exact Cbb (X:=X.blk s3 H3 scope ce fp) I10 Cen Ce6 r10 λs11 I11=>fin I11 nx
 exact codeAny_compStart_list loop (T.self X.A 0 _ _ _ st4 loop)
theorem Cdw{elt tg iter:Expr}{ifs:List Expr}{scope:Scope}{own:List (Str×Nat)}{pos:Pos}{wi:TI}{g:TG}{tt:TT}{te:TE}(hc:X.calm=true)(hN:X.N.Nodup)(hi:PI X tg iter wi)(ok:Blv X.N X.env.scope scope own)
  (hg:∀(s:Shared) (H:Hp) (C:Addr) (cl:List (Str×Addr)) (fp:List Addr),PG (X.blk s H scope (compEnvC scope cl C X.env) fp) tg g) (ht:∀(s:Shared) (H:Hp) (C:Addr) (cl:List (Str×Addr)) (fp:List Addr),PTs (X.blk s H scope (compEnvC scope cl C X.env) fp) ifs tt)
  (he:∀(s:Shared) (H:Hp) (C:Addr) (cl:List (Str×Addr)) (fp:List Addr),PE (X.blk s H scope (compEnvC scope cl C X.env) fp) elt te) (hs:∀x,foldedSetIterable iter X.env x=pure x:=by intro _;rfl):
  PE X (.ListComp elt [⟨tg,iter,ifs,0⟩] scope pos) (tLc wi g tt te (own.map (·.2))):=by
 intro pins s σ H Q I h
 rw[eval_ListComp]
 refine Bsa hc hN I hi ok hg ht he hs h λD C s' m H' I' q hn f=>⟨m,hn,λh'' sb=>?_⟩
 obtain⟨f0,f1,f2,f3,f4,f5⟩:=f
 exact⟨.ref D,H',I'.turned (t':=s'.toks) (λb o hb e=>(sb.2 b hb).trans e) f0 f1 f3 f4 f5,rfl,q⟩
theorem Bxu{i:Nat}{y:Str}{py:Pos}{elt tg iter:Expr}{ifs:List Expr}{scope:Scope}{own:List (Str×Nat)}{pos spos:Pos}{wi:TI}{g:TG}{tt:TT}{te:TE}(hc:X.calm=true)(hN:X.N.Nodup)(hy:X.N[i]?=some y)(hyl:X.env.scope.names.lookup y=some .local)
  (hsw:swapsWith (.ListComp elt [⟨tg,iter,ifs,0⟩] scope pos) (some (.Name y py)) spos.line X.env=pure true) (hi:PI X tg iter wi) (ok:Blv X.N X.env.scope scope own)
  (hg:∀(s:Shared) (H:Hp) (C:Addr) (cl:List (Str×Addr)) (fp:List Addr),PG (X.blk s H scope (compEnvC scope cl C X.env) fp) tg g) (ht:∀(s:Shared) (H:Hp) (C:Addr) (cl:List (Str×Addr)) (fp:List Addr),PTs (X.blk s H scope (compEnvC scope cl C X.env) fp) ifs tt)
  (he:∀(s:Shared) (H:Hp) (C:Addr) (cl:List (Str×Addr)) (fp:List Addr),PE (X.blk s H scope (compEnvC scope cl C X.env) fp) elt te) (hs:∀x,foldedSetIterable iter X.env x=pure x:=by intro _;rfl):
  PS X (.Assign [.Name y py] (.ListComp elt [⟨tg,iter,ifs,0⟩] scope pos) spos) (Gn (tLc wi g tt te (own.map (·.2))) (Ce i)):=by
 intro pins s σ H D I h
 rw[exec_Assign_Name_used _ _ _ _ hsw]
 refine Br (Asg (Br ?_))
 show wpAny _ X.A (do let _<-comprehension (.ListComp elt [⟨tg,iter,ifs,0⟩] scope pos) scope X.env (firstIterPos [⟨tg,iter,ifs,0⟩] pos) (newList []) false (eval iter X.env) (some (assign (.Name y py) X.env))) _ _ s
 have h:tLc wi g tt te (own.map (·.2)) σ H (λx H1=>Ce i x σ H1 D.nx):=h
 refine Br (thn (Bsa (Qf:=λ_ s'=>SP X pins D .next s') hc hN I hi ok hg ht he hs h λL C s' m H' I' q hn f=>?_) λ_ s' hq=>Eo (Eo hq))
 show wpAny _ _ (assign (.Name y py) X.env (.ref L)) _ _ _
 refine wpAny_assign_Name (Bii (v:=V.ref L) I' hN hy (.inl hyl) rfl (λs2 I2 ⟨a,sb,ha⟩=>?_) (.inr hyl))
 obtain⟨f0,f1,f2,f3,f4,f5⟩:=f
 have haC:C≠a:=by
  rcases ha with z|z
  ·rw[z];exact f1
  ·exact λe=>f4 y a z e.symm
 refine⟨m,hn.sameBut sb haC,λh3 sb3=>?_⟩
 exact⟨_,H',I2.turned (t':=s2.toks) (λb o hb e=>(sb3.2 b hb).trans e) f0 f1 f3 f4 f5,q⟩
theorem Caf{elt:Expr}{gs:List Comprehension}{scope:Scope}{pos py:Pos}{y:Str}{l:Nat}{env:Env}(hk:env.scope.kind=.function)(hy:env.scope.names.lookup y=some .local)(hl:(py.line==pos.line)=true)
  (ha:(scope.names.any λ(n,k)=>n==y&&(k==.local||k==.cell))=false):swapsWith (.ListComp elt gs scope pos) (some (.Name y py)) l env=pure true:=by
 have ky:env.kindOf y=some .local:=hy
 have hb:env.blockKind=.function:=by unfold Env.blockKind;rw[hk];rfl
 unfold swapsWith
 simp only [hb,ky,ha,Expr.pos,hl]
 rfl
end
theorem Avx{K:Frag}{a:Addr}{xs:List V}{g:TG}{tt:TT}{te:TE}{vs:List Nat}{σ:St}{H1:Hp}{D:Addr}{Qd:Hp->Prop}(Pv:Nat->Hp->Prop)(h0:Pv 0 (upd H1 D (.lst [])))(hl:∀i H,i<=xs.length->Pv i H->SqL K H a xs)
  (hs:∀i x H,xs[i]?=some x->Pv i H->g x (wipe σ vs) H λσ2 H2=>wipe σ2 vs=wipe σ vs/\tt σ2 H2 λb H3=>
   if b=true then te σ2 H3 λy H4=>∃acc,H4 D=some (.lst acc)/\acc.length<sizeLine/\Pv (i+1) (upd H4 D (.lst (acc++[y]))) else Pv (i+1) H3) (hd:∀H,Pv xs.length H->Qd H):
  ∃W:Nat->Nat->Hp->Prop,(∃m,W 0 m (upd H1 D (.lst [])))/\∀i m H,W i m H->
   ((Itl K a).stop i H/\Qd H)\/((Itl K a).go i H/\∃Nx:Hp->Prop,(∀H',Nx H'->∃m',m'<m/\W (i+1) m' H')/\∀x H',(Itl K a).yld i H x H'->g x (wipe σ vs) H' λσ2 H2=>wipe σ2 vs=wipe σ vs/\tt σ2 H2 λb H3=>
    if b=true then te σ2 H3 λy H4=>∃acc,H4 D=some (.lst acc)/\acc.length<sizeLine/\Nx (upd H4 D (.lst (acc++[y]))) else Nx H3):=by
 refine⟨λi m H=>m=xs.length-i/\i<=xs.length/\Pv i H,⟨xs.length,by simp,Hh _,h0⟩,?_⟩
 rintro i m H ⟨rfl,hi,p⟩
 have q:=hl i H hi p
 by_cases hlt:i<xs.length
 ·refine .inr ⟨⟨xs,xs[i],q,by simp [hlt]⟩,Pv (i+1),λH' p'=>⟨xs.length-(i+1),by omega,rfl,hlt,p'⟩,λx H' y=>?_⟩
  obtain⟨e,y⟩:=y
  subst e
  exact hs i x _ (y xs q) p
 ·have e:i=xs.length:=by omega
  subst e
  exact .inl ⟨⟨xs,q,Bu _⟩,hd H p⟩
def By1(N:List Str)(sc scope:Scope)(own:List (Str×Nat)):Bool:=
 (match scope.kind with|.function=>true|_=>false)&&(scope.names.all λy=>decide (scope.names.lookup y.1=some y.2))&&(own.all λp=>decide (N[p.2]?=some p.1))&&
  (scope.names.all λy=>match y.2 with
   |.free=>(match sc.names.lookup y.1 with|some .cell=>true|some .free=>true|_=>false)
   |.local=>decide (y.1∈own.map (·.1))||decide (y.1∉N)
   |.cell=>decide (y.1∈own.map (·.1))||decide (y.1∉N)
   |_=>true)
theorem Bmj{N:List Str}{sc scope:Scope}{own:List (Str×Nat)}(h:By1 N sc scope own=true):Blv N sc scope own:=by
 unfold By1 at h
 simp only [Cm,Ep,Cj] at h
 obtain⟨⟨⟨h1,h2⟩,h3⟩,h4⟩:=h
 refine⟨?_,h2,h3,λy hy e=>?_,λy hy e=>?_⟩
 ·split at h1
  ·assumption
  ·cases h1
 ·have q:=h4 y hy
  simp only [e] at q
  split at q<;>first|exact .inl (by assumption)|exact .inr (by assumption)|cases q
 ·have q:=h4 y hy
  rcases e with e|e<;>(simp only [e,Aif,Cj] at q;exact q)
end L2
namespace L2
open PySem PySem.Spec PyProof.Rows
end L2
namespace L2
open PySem PySem.Spec PyProof.Rows
def Ccx(i:Expr):Prop:=∀ov iv,subscripted i false ov iv=operate [ov,iv] (getItem ov iv)
theorem Cac{prog:Program}{w:World}{A:Around}{E:Value->Shared->Prop}{s:Shared}{env:Env}{value slice:Expr}{pos:Pos}{T id:String}{Q:Value->Shared->Prop}
  (hl:typeLookup (.type T) "__getitem__"=pure (some (.builtin id))) (hs:Ccx slice)
  (h:wpAny (model prog w) A (eval value env) (λo s₁=>wpAny (model prog w) A (eval slice env) (λi s₂=>s₂.TypeIs o T/\wpAny (model prog w) A (getItem o i) Q E s₂) E s₁) E s):
  wpAny (model prog w) A (eval (.Subscript value slice pos) env) Q E s:=by
 refine Subscript_ (Ks h (λo s₁ h₁=>Ks h₁ (λi s₂ h₂=>?_) λ_ _ x=>x) λ_ _ x=>x)
 obtain⟨hT,h₂⟩:=h₂
 unfold subscriptTail
 refine Br ?_
 rw[getitemInPython_of_ne hT.not_modules]
 refine Br (Aj5 hT hl ?_)
 have fin:wpAny (model prog w) A (subscripted slice false o i) (λr s₃=>wpAny (model prog w) A (letTemporaryGo value o r>>=λ_=>pure r) Q E s₃) E s₂:=by
  rw[hs o i]
  exact wpAny_operating (Ks h₂ (λr s₃ h₃=>Br (wpAny_letTemporaryGo (Eo h₃))) λ_ _ x=>x)
 first
  |exact Eo (Br fin)
  |exact Br (Eo (Br fin))
  |exact Br fin
end L2
namespace L2
open PySem PySem.Spec PyProof.Rows
end L2
namespace L2
open PySem PySem.Spec PyProof.Rows
theorem Ak6:bootBuiltins "reversed"=some (.type "reversed"):=by decide+kernel
section
variable {X:Cx}{pins:List (Addr×Obj)}{σ:St}{H:Hp}{s:Shared}{h':Heap}
theorem Inv.Bim{t':Nat}{ch:List Addr}{T:Addr}{ob:HO}(I:Inv X pins σ H s)(k:∀b o,b∉ch->s.heap.get? b=some o->h'.get? b=some o)(hf:∀b∈ch,Abp X pins H b)(hT:s.heap.objs.size<=T)
  (new:R0 X.prog X.w (upd H T ob) h' T ob):Inv X pins σ (upd H T ob) {s with heap:=h',toks:=t'}:=by
 have hn:H T=none:=I.hok.fresh hT
 have nit:∀b u,H b=some u->b∉ch:=λb u e z=>by
  have q:=(hf b z).1
  rw[q] at e;cases e
 refine I.step (g':=s.gens) (d':=s.drawn) (ch:=ch) (λb hb=>⟨(hf b hb).2.2.2.1,(hf b hb).2.1,(hf b hb).2.2.2.2.1,(hf b hb).2.2.2.2.2⟩) (λb o _ _ hc e _=>k b o hc e) (λb o _ _ hc e _=>⟨o.slots,k b o hc e⟩)
  (λb o _ e n=>?_) (λb o hc e=>⟨o,k b o hc e⟩) (λb xs e=>?_) (λb o u e=>?_) (λb ps e=>⟨#[],?_⟩) (λm hm=>?_) (λb u e=>?_) I.bare
 ·rw[Cd (Fd (Dh (CN e) hT))];exact n
 ·rw[Cd (FP e hn)];exact e
 ·rw[Cd (FP e hn)];exact e
 ·rw[Cd (FP e hn),e];simp
 ·obtain⟨o,es,ep,ho,r⟩:=hm
  exact⟨o,es,ep,k _ o (λz=>(hf _ z).2.1 rfl) ho,r⟩
 ·by_cases hb:b=T
  ·subst hb
   rw[Ah] at e
   cases e
   exact new
  ·rw[Cd hb] at e
   refine(I.hok b u e).stay (λc v hc q=>k c v ?_ q) (λc q=>by rw[Cd (FP q hn)];exact q) λc xs q=>by rw[Cd (FP q hn)];exact q
   rcases hc with z|z
   ·rw[z];exact nit b u e
   ·exact nit c _ z
end
section
variable {X:Cx}
theorem Bxt{tg:Expr}{pins:List (Addr×Obj)}{σ:St}{H:Hp}{s:Shared}{R:It->Hp->Prop}{J:It}{tn:Nat->Heap->Prop}{tk:Nat}(I:Inv X pins σ H s)(o:Obj)
  (T:Turn X.prog X.w X.K tg J [s.heap.objs.size] s.heap.objs.size tn) (st:tn 0 (s.heap.push o)) (q:R J H):PIE X pins σ tg R (.ref s.heap.objs.size) {s with heap:=s.heap.push o,toks:=tk}:=by
 refine⟨s.heap.objs.size,[s.heap.objs.size],tn,J,H,rfl,I.kept λb ob e=>Bs _ e,T,st,λb hb=>?_,q⟩
 have e:b=s.heap.objs.size:=by simpa using hb
 subst e
 exact I.Bm4 (Bu _) (I.hok.fresh (Bu _))
end
def Itc(lo c:Int)(n:Nat):It:=⟨λi _=>i<n,λi H x H'=>H'=H/\x=.int (lo+(i:Nat)*c),λi _=>n<=i⟩
theorem Bo3{P:Program}{w:World}{K:Frag}{tg:Expr}(it:Addr)(lo c:Int)(n:Nat):Turn P w K tg (Itc lo c n) [it] it (λi h=>IsRangeIter h it (lo+(i:Nat)*c) ((n:Int)-(i:Nat)) c) where
 mem:=by simp
 obj:=λi h st b hb=>by
  have e:b=it:=by simpa using hb
  subst e
  exact⟨_,st,λv z=>nomatch z⟩
 keep:=λi h h' st k=>k it (by simp) _ st
 item:=by
  intro X hP hw hK hc i pins s σ H E I hf st hg
  subst hP hw hK
  obtain⟨f0,f1,f2,f3,f4,f5⟩:=hf it (by simp)
  have W:=Walks.range (prog:=X.prog) (w:=X.w) (I.ok.hd hc) it lo c n
  refine W.item i s _ _ hg st λv h' tk hv st' kk=>?_
  obtain⟨t,rfl⟩:=hv
  have I1:Inv X pins σ H {s with heap:=h',toks:=tk}:=I.turned (λb o hb e=>kk b o (by simpa using hb) e) f0 f1 f3 f4 f5
  exact⟨_,rfl,Brr (s:={s with heap:=h',toks:=tk}) (n:="range_iterator") st' rfl rfl (by decide) ⟨.int (lo+(i:Nat)*c),H,I1,⟨t,rfl⟩,⟨rfl,rfl⟩,st',λb hb=>(hf b hb).1⟩⟩
 done:=by
  intro X hP hw hK hc i pins s σ H E I hf st hg
  subst hP hw hK
  obtain⟨f0,f1,f2,f3,f4,f5⟩:=hf it (by simp)
  exact Aid (I.ok.hd hc) st (by have:n<=i:=hg;omega) λh' eb=>⟨rfl,I.turned (t':=s.toks) (λb o hb e=>eb b o hb e) f0 f1 f3 f4 f5⟩
 self:=λA i s Q E st h=>Aic st h
def RgC(i j c:Int)(n:Nat):Prop:=c≠0/\c.natAbs<1073741824/\Aox i j c=true/\Lh i j c=n
theorem RgC.neg{i j:Int}(ha: -(2^62)<=i)(ha':i<2^62)(hb: -(2^62)<=j)(hb':j<2^62):RgC i j (-1) (i-j).toNat:=
 ⟨by decide,by decide,PySem.W.small_down ha ha' hb hb',PySem.W.rangeSize_downNat i j⟩
def Bwy(ta:TA):TI:=λσ H R=>ta σ H λvs H1=>∃(i j c:Int) (n:Nat),vs=[.int i,.int j,.int c]/\RgC i j c n/\R (Itc i c n) H1
section
variable {X:Cx}{tg:Expr}
theorem Bh8{a b c:Expr}{ta:TA}{p pos:Pos}(hg:Gl X "range")(hm:X.mg "range"=none)(ha:PA X [a,b,c] ta)
  (hs:starEach [a,b,c] X.env=(false,eval a X.env)::starEach [b,c] X.env:=by rfl) (hpl:(backTo pos (starEach [b,c] X.env)).any (·.1)=false:=by rfl):
  PI X tg (.Call (.Name "range" p) [a,b,c] [] pos) (Bwy ta):=by
 intro pins s σ H R I h
 refine Ayt (Aaq I hg hm boot_range (Gh (thn (ha pos pins s σ H _ I h) λus s1 ⟨vs,H1,I1,r1,q1⟩=>?_) hs hpl))
 obtain⟨i,j,k,n,e,⟨c0,c1,c2,c3⟩,q⟩:=q1
 subst e
 cases r1 with
 |cons r rr=>
  cases rr with
  |cons r' rr=>
   cases rr with
   |cons r'' rr=>
    cases rr
    obtain⟨t,rfl⟩:=r
    obtain⟨t',rfl⟩:=r'
    obtain⟨t'',rfl⟩:=r''
    refine call_range_3 c0 ?_ (.inl (Agr c1))
    refine wpAny_pyIter_range (Blw ..) c2 ?_
    have I2:Inv X pins σ H1 {s1 with heap:=s1.heap.push {cls:=.type "range",data:=.fields #[.int i t,.int j t',.int k t'']}}:=I1.kept (t':=s1.toks) λb o e=>Bs _ e
    refine Bxt (tk:=s1.toks) I2 _ (Bo3 _ i k n) ?_ q
    have e1:i+((0:Nat):Int)*k=i:=by simp
    have e2:(n:Int)-((0:Nat):Int)=Lh i j k:=by rw[c3];simp
    show IsRangeIter _ _ (i+((0:Nat):Int)*k) ((n:Int)-((0:Nat):Int)) k
    rw[e1,e2]
    exact Dr _ rfl
end
theorem Bpq{lo c:Int}{n:Nat}{g:TG}{tb:TS}{D:Ends}{σ:St}{H:Hp}(Pv:Nat->St->Hp->Prop)(h0:Pv 0 σ H)
  (hs:∀i σ H,i<n->Pv i σ H->g (.int (lo+(i:Nat)*c)) σ H λσ2 H2=>tb {D with nx:=Pv (i+1),ct:=Pv (i+1),bk:=D.nx} σ2 H2) (hd:∀σ H,Pv n σ H->D.nx σ H):
  ∃W:Nat->Nat->St->Hp->Prop,(∃m,W 0 m σ H)/\∀i m σ H,W i m σ H->
   ((Itc lo c n).stop i H/\D.nx σ H)\/((Itc lo c n).go i H/\∃N:St->Hp->Prop,(∀σ' H',N σ' H'->∃m',m'<m/\W (i+1) m' σ' H')/\∀x H',(Itc lo c n).yld i H x H'->g x σ H' λσ2 H2=>tb {D with nx:=N,ct:=N,bk:=D.nx} σ2 H2):=by
 refine⟨λi m σ H=>m=n-i/\i<=n/\Pv i σ H,⟨n,by simp,Hh _,h0⟩,?_⟩
 rintro i m σ H ⟨rfl,hi,p⟩
 by_cases hlt:i<n
 ·refine .inr ⟨hlt,Pv (i+1),λσ' H' p'=>⟨n-(i+1),by omega,rfl,hlt,p'⟩,λx H' y=>?_⟩
  obtain⟨e,y⟩:=y
  subst e y
  exact hs i σ _ hlt p
 ·have e:i=n:=by omega
  subst e
  exact .inl ⟨Bu _,hd σ H p⟩
def Itv(K:Frag)(a:Addr)(n:Nat):It:=
 ⟨λi H=>i<n/\∃(xs:List V) (x:V),SqL K H a xs/\xs[n-1-i]?=some x,λi H x H'=>H'=H/\∀xs,SqL K H a xs->xs[n-1-i]?=some x,λi _=>n<=i⟩
theorem Byl{P:Program}{w:World}{K:Frag}{tg:Expr}(a it:Addr)(n:Nat):Turn P w K tg (Itv K a n) [it] it (λi h=>i<=n/\h.IsRevIter it a ((n:Int)-1-(i:Nat))) where
 mem:=by simp
 obj:=λi h st b hb=>by
  have e:b=it:=by simpa using hb
  subst e
  obtain⟨_,o,e,c,d⟩:=st
  exact⟨o,e,λv z=>by rw[d] at z;cases z⟩
 keep:=λi h h' st k=>⟨st.1,st.2.at λo e=>k it (by simp) o e⟩
 item:=by
  intro X hP hw hK hc i pins s σ H E I hf st hg
  subst hP hw hK
  obtain⟨hin,xs,x,hq,hx⟩:=hg
  obtain⟨its,rv,p,hz⟩:=I.list hq
  obtain⟨u,hu,ru⟩:=rv.get hx
  obtain⟨f0,f1,f2,f3,f4,f5⟩:=hf it (by simp)
  obtain⟨_,hit⟩:=st
  have e1:(n:Int)-1-((i:Nat):Int)=((n-1-i:Nat):Int):=by omega
  rw[e1] at hit
  refine wpAny_pyNext_rev_item hit p.isList (x:=u) (by simpa using hu) λh' st' sb=>?_
  have e2:((n-1-i:Nat):Int)-1=(n:Int)-1-((i+1:Nat):Int):=by omega
  rw[e2] at st'
  have I1:Inv X pins σ H {s with heap:=h'}:=I.turned (t':=s.toks) (λb o hb e=>(sb.2 b hb).trans e) f0 f1 f3 f4 f5
  obtain⟨o,e,c,d⟩:=id st'
  exact⟨u,rfl,Brr (s:={s with heap:=h'}) e c d (by decide) ⟨x,H,I1,ru,⟨rfl,λys hy=>by rw[I.Bdx hy hq];exact hx⟩,⟨hin,st'⟩,λb hb=>(hf b hb).1⟩⟩
 done:=by
  intro X hP hw hK hc i pins s σ H E I hf st hg
  subst hP hw hK
  obtain⟨f0,f1,f2,f3,f4,f5⟩:=hf it (by simp)
  obtain⟨hin,hit⟩:=st
  have hge:n<=i:=hg
  have e1:(n:Int)-1-((i:Nat):Int)= -1:=by omega
  rw[e1] at hit
  exact wpAny_pyNext_rev_end (I.ok.hd hc) hit λh' eb=>⟨rfl,I.turned (t':=s.toks) (λb o hb e=>eb b o hb e) f0 f1 f3 f4 f5⟩
 self:=λA i s Q E st h=>An3 st.2 h
def Cdm(K:Frag)(ta:TA):TI:=λσ H R=>ta σ H λvs H1=>∃(a:Addr) (xs:List V),vs=[.ref a]/\SqL K H1 a xs/\R (Itv K a xs.length) H1
section
variable {X:Cx}{tg:Expr}
theorem Bn4{e:Expr}{ta:TA}{p pos:Pos}(hg:Gl X "reversed")(hm:X.mg "reversed"=none)(ha:PA X [e] ta)(hs:starEach [e] X.env=[(false,eval e X.env)]:=by rfl):PI X tg (.Call (.Name "reversed" p) [e] [] pos) (Cdm X.K ta):=by
 intro pins s σ H R I h
 refine Ayt (Aaq I hg hm Ak6 (Gh (thn (ha pos pins s σ H _ I h) λus s1 ⟨vs,H1,I1,r1,q1⟩=>?_) hs rfl))
 obtain⟨a,xs,e,hq,q⟩:=q1
 subst e
 cases r1 with
 |cons r rr=>
  cases rr
  cases r
  obtain⟨its,rv,p',hz⟩:=I1.list hq
  have hl:=rv.length
  have e1:((its.toArray.size:Nat):Int)-1=(xs.length:Int)-1-((0:Nat):Int):=by simp only [Bv];omega
  refine call_reversed_list p'.isList (An3 (l:=a) (i:=((its.toArray.size:Nat):Int)-1) ⟨_,Dr _ rfl,rfl,rfl⟩ ?_)
  refine Bxt (tk:=s1.toks) I1 _ (Byl a _ xs.length) ⟨Hh _,?_⟩ q
  rw[<-e1]
  exact⟨_,Dr _ rfl,rfl,rfl⟩
end
def Ite(K:Frag)(a:Addr):It:=
 ⟨λi H=>∃(xs:List V) (x:V),SqL K H a xs/\xs[i]?=some x,λi H v H'=>∃T x,v=.ref T/\H T=none/\H'=upd H T (.tup [.int (i:Nat),x])/\∀xs,SqL K H a xs->xs[i]?=some x,λi H=>∃xs:List V,SqL K H a xs/\xs.length<=i⟩
theorem Bvc{P:Program}{w:World}{K:Frag}{elts:List Expr}{kk:Nat}{tpos:Pos}(a e it:Addr):
  Turn P w K (.Tuple elts kk tpos) (Ite K a) [e,it] e (λi h=>(∃old,IsEnum h e it ((i:Nat):Int) old)/\h.IsListIter it a i/\e≠it) where
 mem:=by simp
 obj:=λi h st b hb=>by
  obtain⟨⟨old,he⟩,⟨o,ho,hc,hd⟩,_⟩:=st
  have e':b=e\/b=it:=by simpa using hb
  rcases e' with z|z
  ·rw[z];exact⟨_,he,λv q=>nomatch q⟩
  ·rw[z];exact⟨o,ho,λv q=>by rw[hd] at q;cases q⟩
 keep:=λi h h' st k=>let⟨⟨old,he⟩,hi,hne⟩:=st;⟨⟨old,k e (by simp) _ he⟩,hi.at λo q=>k it (by simp) o q,hne⟩
 item:=by
  intro X hP hw hK hc i pins s σ H E I hf st hg
  subst hP hw hK
  obtain⟨⟨old,he⟩,hit,hne⟩:=st
  obtain⟨xs,x,hq,hx⟩:=hg
  obtain⟨its,rv,p,hz⟩:=I.list hq
  obtain⟨u,hu,ru⟩:=rv.get hx
  have hel:e<s.heap.objs.size:=CN he
  have hil:it<s.heap.objs.size:=by obtain⟨_,q,_⟩:=hit;exact CN q
  refine wpAny_pyNext_enum_item he hit p.isList (x:=u) (by simpa using hu) hne λh' ho hit' hT hsz hk=>?_
  refine⟨_,rfl,Abn (s:={s with heap:=h',toks:=s.toks+1}) ho λh'' he' sb=>?_⟩
  have hT2:h''.get? s.heap.objs.size=some {cls:=.type "tuple",data:=.seq #[.int i s.toks,u]}:=(sb.2 _ (Aur hel)).trans hT
  have new:R0 X.prog X.w (upd H s.heap.objs.size (.tup [.int (i:Nat),x])) h'' s.heap.objs.size (.tup [.int (i:Nat),x]):=
   ⟨by show 2<=sizeLine;decide,[.int i s.toks,u],.cons ⟨_,rfl⟩ (.cons ru .nil),⟨_,hT2,rfl,_,rfl⟩⟩
  have I1:Inv X pins σ (upd H s.heap.objs.size (.tup [.int (i:Nat),x])) {s with heap:=h'',toks:=s.toks+1}:=
   I.Bim (ch:=[e,it]) (λb ob hb q=>(sb.2 b (λz=>hb (by simp [z]))).trans (hk b ob (λz=>hb (by simp [z])) (λz=>hb (by simp [z])) q)) hf (Bu _) new
  refine⟨.ref s.heap.objs.size,_,I1,rfl,⟨_,x,rfl,I.hok.fresh (Bu _),rfl,λys hy=>by rw[I.Bdx hy hq];exact hx⟩,⟨⟨u,?_⟩,hit'.at λo q=>(sb.2 it (Js hne)).trans q,hne⟩,λb hb=>?_⟩
  ·have e1:((i+1:Nat):Int)=(i:Int)+1:=by omega
   rw[e1];exact he'
  ·have hb':b<s.heap.objs.size:=by
    have e':b=e\/b=it:=by simpa using hb
    rcases e' with z|z
    ·rw[z];exact hel
    ·rw[z];exact hil
   rw[Cd (Fd hb')]
   exact(hf b hb).1
 done:=by
  intro X hP hw hK hc i pins s σ H E I hf st hg
  subst hP hw hK
  obtain⟨⟨old,he⟩,hit,hne⟩:=st
  obtain⟨xs,hq,hx⟩:=hg
  obtain⟨its,rv,p,hz⟩:=I.list hq
  obtain⟨f0,f1,f2,f3,f4,f5⟩:=hf it (by simp)
  have hl:=rv.length
  exact wpAny_pyNext_enum_end (I.ok.hd hc) he hit p.isList (by simp;omega) λh' eb=>⟨rfl,I.turned (t':=s.toks) (λb o hb q=>eb b o hb q) f0 f1 f3 f4 f5⟩
 self:=λA i s Q E st h=>let⟨⟨_,he⟩,_⟩:=st;VG he h
def Brs(K:Frag)(ta:TA):TI:=λσ H R=>ta σ H λvs H1=>∃a xs,vs=[.ref a]/\SqL K H1 a xs/\R (Ite K a) H1
theorem Bkn{X:Cx}{e:Expr}{ta:TA}{p pos tpos:Pos}{elts:List Expr}{kk:Nat}(hg:Gl X "enumerate")(hm:X.mg "enumerate"=none)(ha:PA X [e] ta)(hs:starEach [e] X.env=[(false,eval e X.env)]:=by rfl):
  PI X (.Tuple elts kk tpos) (.Call (.Name "enumerate" p) [e] [] pos) (Brs X.K ta):=by
 intro pins s σ H R I h
 refine Ayt (Aaq I hg hm boot_enumerate (Gh (thn (ha pos pins s σ H _ I h) λus s1 ⟨vs,H1,I1,r1,q1⟩=>?_) hs rfl))
 obtain⟨a,xs,ex,hq,q⟩:=q1
 subst ex
 cases r1 with
 |cons r rr=>
  cases rr
  cases r
  obtain⟨its,rv,p',hz⟩:=I1.list hq
  refine call_enumerate_list p'.isList λh' he hit hsz hk=>VG he ?_
  have I2:Inv X pins σ H1 {s1 with heap:=h'}:=I1.kept (t':=s1.toks) hk
  refine⟨s1.heap.objs.size+1,[s1.heap.objs.size+1,s1.heap.objs.size],_,_,H1,rfl,I2,Bvc a (s1.heap.objs.size+1) s1.heap.objs.size,⟨⟨.none,he⟩,hit,Aw7 _⟩,λb hb=>?_,q⟩
  have e':b=s1.heap.objs.size+1\/b=s1.heap.objs.size:=by simpa using hb
  have hle:s1.heap.objs.size<=b:=by
   rcases e' with z|z
   ·rw[z];exact Aw4 _ _
   ·rw[z];exact Bu _
  exact I1.Bm4 hle (I1.hok.fresh hle)
end L2
section
namespace Cei
open PySem PyProof.Rows
end Cei
end
section
namespace TL
open PySem PySem.Builtin PySem.Builtin.Str PySem.StrLaws
end TL
end
namespace L2
open PySem PySem.Spec PyProof.Rows
end L2
namespace L2
open PySem PySem.Spec PyProof.Rows
end L2
namespace Att
open PySem PySem.W PySem.Calls PyProof.Rows
end Att
namespace L2
open PySem PySem.Spec PyProof.Rows
end L2
namespace L2
open PySem PySem.Spec PyProof.Rows
end L2
namespace L2
open PySem PySem.Spec PyProof.Rows
def inClass(s:Stmt)(j:Nat):Stmt:=match s with
 |.ClassDef _ _ _ body _ _ _ _ _ _ _=>body.getD j (.Pass ⟨0,0,0,0⟩)
 |_=>.Pass ⟨0,0,0,0⟩
def Acj(s:Stmt):Arguments:=match s with
 |.FunctionDef _ a _ _ _ _ _ _ _ _=>a
 |_=>{posonlyargs:=[],args:=[],vararg:=none,kwonlyargs:=[],kw_defaults:=[],kwarg:=none,defaults:=[]}
def Ca(s:Stmt):List Stmt:=match s with
 |.FunctionDef _ _ b _ _ _ _ _ _ _=>b
 |_=>[]
def Ao(s:Stmt):Scope:=match s with
 |.FunctionDef _ _ _ _ _ _ sc _ _ _=>sc
 |_=>{kind:=.function,names:=[],isGenerator:=false,isCoroutine:=false}
abbrev CX0:CXT:=λ_ _ _ _ _ _=>False
abbrev E0:XK:=λ_ _ _=>False
theorem Bn2{X:Cx}:Passes CX0 X E0:=λ_ _ _ _ _ _ _ h=>h.elim
structure Fun(K:Frag)(x qual:Str)(st:Stmt)(f:Addr)(fd:FuncData):Prop where
 ex:∃(oc:Value) (od:Option Addr) (kV doc pm:Value) (an:Option Addr) (cdv ct:Value) (osl:Array (Option Value)),
  fd=Ml x qual (Acj st) (Ca st) (Ao st) .none kV doc pm an cdv ct/\K.lookup f=some ⟨oc,od,.func fd,osl⟩/\UJ K cdv qual=true
 kp:Ig K (.ref f)=true
section
variable {P:Program}{w:World}{K:Frag}{mg:Str->Option Value}{base:Heap}
theorem Fun.ok{x qual:Str}{st:Stmt}{f:Addr}{fd:FuncData}{N ps:List Str}{k:Nat}{sp:Sp}(F:Fun K x qual st f fd)(S:Cp N ps (Ao st))(len:∀vs H Q E,sp vs H Q E->vs.length=ps.length)
  (hbody:∀(cdv:Value) (A:Around) (outer:List Env) (s:Shared) (H:Hp) (vs:List V) (Q:VK) (E:XK),Room k (A.deeper (envOfC qual (Ao st) s.heap.objs.size f cdv))->sp vs H Q E->
   ∃t,PSs (Bmu CX0 P w K mg base N qual (Ao st) f cdv A outer s H E).nox (Ca st) t/\t {nx:=λ_ H'=>Q .non H',rt:=Q} (start N vs) H):YZ P w K mg base CX0 (k+1) f fd ps sp:=by
 obtain⟨oc,od,kV,doc,pm,an,cdv,ct,osl,rfl,lk,hcd⟩:=F.ex
 refine Cav lk hcd S len λA outer s H vs Q E hr hsp=>?_
 obtain⟨t,h,q⟩:=hbody cdv A outer s H vs Q E hr hsp
 exact⟨t,h.nox,q⟩
theorem Fun.binds{x qual:Str}{st:Stmt}{f:Addr}{fd:FuncData}{ps:List Str}(F:Fun K x qual st f fd)
  (h:∀(kV doc pm:Value) (an:Option Addr) (cdv ct:Value) (us:List Value),us.length=ps.length->bindArgs (Ml x qual (Acj st) (Ca st) (Ao st) .none kV doc pm an cdv ct) ⟨us,[]⟩=pure (ps.zip us)):Binds K fd ps []:=by
 obtain⟨oc,od,kV,doc,pm,an,cdv,ct,osl,rfl,lk,hcd⟩:=F.ex
 exact .all (h kV doc pm an cdv ct)
theorem Bjr{x qual:Str}{st:Stmt}{f:Addr}{oc:Value}{od an:Option Addr}{osl:Array (Option Value)}{kV doc pm cdv ct:Value}(l:K.lookup f=some ⟨oc,od,.func (Ml x qual (Acj st) (Ca st) (Ao st) .none kV doc pm an cdv ct),osl⟩)
  (c:UJ K cdv qual=true) (k:Ig K (.ref f)=true):Fun K x qual st f (Ml x qual (Acj st) (Ca st) (Ao st) .none kV doc pm an cdv ct):=⟨⟨oc,od,kV,doc,pm,an,cdv,ct,osl,rfl,l,c⟩,k⟩
end
def Same(H H':Hp):Prop:=∀b o,H b=some o->H' b=some o
theorem Same.refl(H:Hp):Same H H:=λ_ _ h=>h
theorem Same.trans{H H1 H2:Hp}(a:Same H H1)(b:Same H1 H2):Same H H2:=λc o h=>b c o (a c o h)
theorem Same.free{H H':Hp}(e:Same H H'){l:Addr}(h:H' l=Option.none):H l=Option.none:=by
 cases q:H l with
 |none=>rfl
 |some o=>
  rw[e l o q] at h
  cases h
theorem Same.seq{K:Frag}{H H':Hp}{a:Addr}{xs:List V}(e:Same H H')(h:SqL K H a xs):SqL K H' a xs:=by
 rcases h with(h|⟨o,h⟩)|h
 ·exact .inl (.inl (e _ _ h))
 ·exact .inl (.inr ⟨o,e _ _ h⟩)
 ·exact .inr h
theorem at_of{xs:List V}{z:Int}{j:Nat}{v:V}(e:z=(j:Int))(h:xs[j]?=some v):atI xs z=some v:=by
 rw[e]
 exact KJ h
end L2
end
section
section
namespace L2
open PySem PySem.Spec PyProof.Rows
open PySem.W (WData Codec OpenSpec Well WellAll ReadsW ReadsAllW)
mutual
inductive Dw(K:Frag)(H:Hp):V->WData->Prop
 |non:Dw K H .non .none
 |bl (b:Bool):Dw K H (.bl b) (.bool b)
 |int (i:Int):Dw K H (.int i) (.int i)
 |str (x:Str):Dw K H (.str x) (.str x)
 |byt (b:Array UInt8):Dw K H (.byt b) (.bytes b.toList)
 |lst {a:Addr} {xs:List V} {ds:List WData}:SqL K H a xs->Afc K H xs ds->Dw K H (.ref a) (.list ds)
 |tup {a:Addr} {xs:List V} {ds:List WData}:SqT K H a xs->Afc K H xs ds->Dw K H (.ref a) (.tuple ds)
inductive Afc(K:Frag)(H:Hp):List V->List WData->Prop
 |nil:Afc K H [] []
 |cons {v:V} {vs:List V} {d:WData} {ds:List WData}:Dw K H v d->Afc K H vs ds->Afc K H (v::vs) (d::ds)
end
theorem Brj{K:Frag}{H:Hp}:∀ns:List Int,Afc K H (ns.map V.int) (ns.map WData.int)
 |[]=>.nil
 |n::r=>.cons (.int n) (Brj r)
theorem Brw{K:Frag}{H:Hp}:∀(ns:List Int) (xs:List V),Afc K H xs (ns.map WData.int)->xs=ns.map V.int
 |[],xs,h=>by
  cases h
  rfl
 |n::r,xs,h=>by
  cases h with
  |cons h1 h2=>
   cases h1
   rw[Brw r _ h2]<;>rfl
section
variable {P:Program}{w:World}{K:Frag}{H:Hp}{h:Heap}{R:Axb}{cl:Str->Option Addr}
theorem Ccn{a:Addr}{xs:List V}(hok:HOk P w H h)(KX:K.In h)(q:SqL K H a xs):∃(its:List Value) (o:Obj) (n:Nat),Vals xs its/\h.get? a=some o/\o.cls=.type "list"/\o.data=.seq its.toArray n:=by
 rcases q with q|⟨o,its,n,e,hc,_,hd,_,hv⟩
 ·obtain⟨_,its,n,hv,e⟩:=(show R0 P w H h a (.lst xs) from q.ok hok)
  exact⟨its,_,n,hv,e,rfl,rfl⟩
 ·exact⟨its.toList,o,n,hv,KX _ _ e,hc,by simp [hd]⟩
theorem Cco{a:Addr}{xs:List V}(hok:HOk P w H h)(KX:K.In h)(q:SqT K H a xs):∃(its:List Value) (o:Obj) (n:Nat),Vals xs its/\h.get? a=some o/\o.cls=.type "tuple"/\o.data=.seq its.toArray n:=by
 rcases q with q|⟨o,its,n,e,hc,hd,_,hv⟩
 ·obtain⟨_,its,hv,o,e,hc,n,hd⟩:=(show R0 P w H h a (.tup xs) from q.ok hok)
  exact⟨its,o,n,hv,e,hc,hd⟩
 ·exact⟨its.toList,o,n,hv,KX _ _ e,hc,by simp [hd]⟩
mutual
theorem Dw.reads(hok:HOk P w H h)(KX:K.In h):∀(d:WData) (v:V) (u:Value),Dw K H v d->RelV v u->∃as,ReadsW R cl h u d as
 |.none,_,_,x,r=>by
  cases x
  cases r
  exact⟨_,ReadsW.none⟩
 |.bool b,_,_,x,r=>by
  cases x
  cases r
  exact⟨_,ReadsW.bool b⟩
 |.int i,_,_,x,r=>by
  cases x
  obtain⟨t,rfl⟩:=r
  exact⟨_,ReadsW.int i t⟩
 |.str s,_,_,x,r=>by
  cases x
  obtain⟨t,rfl⟩:=r
  exact⟨_,ReadsW.str s t⟩
 |.bytes b,_,_,x,r=>by
  cases x
  obtain⟨t,rfl⟩:=r
  exact⟨_,ReadsW.bytes _ t⟩
 |.list ds,_,_,x,r=>by
  cases x with
  |lst hs ha=>
   cases r
   obtain⟨its,o,n,rv,ho,hc,hd⟩:=Ccn hok KX hs
   obtain⟨as,hr⟩:=Dw.readsAll hok KX ds _ its ha rv
   exact⟨_,ReadsW.list ho hc hd hr⟩
 |.tuple ds,_,_,x,r=>by
  cases x with
  |tup hs ha=>
   cases r
   obtain⟨its,o,n,rv,ho,hc,hd⟩:=Cco hok KX hs
   obtain⟨as,hr⟩:=Dw.readsAll hok KX ds _ its ha rv
   exact⟨_,ReadsW.tuple ho hc hd hr⟩
 |.float _,_,_,x,_=>by cases x
 |.dict _,_,_,x,_=>by cases x
 |.bytearray _,_,_,x,_=>by cases x
 |.set _,_,_,x,_=>by cases x
 |.frozenset _,_,_,x,_=>by cases x
 |.obj _ _,_,_,x,_=>by cases x
theorem Dw.readsAll(hok:HOk P w H h)(KX:K.In h):∀(ds:List WData) (vs:List V) (us:List Value),Afc K H vs ds->Vals vs us->∃as,ReadsAllW R cl h us ds as
 |[],_,_,x,r=>by
  cases x
  cases r
  exact⟨_,ReadsAllW.nil⟩
 |d::ds,_,_,x,r=>by
  cases x with
  |cons h1 h2=>
   cases r with
   |cons r1 r2=>
    obtain⟨as,q1⟩:=Dw.reads hok KX d _ _ h1 r1
    obtain⟨bs,q2⟩:=Dw.readsAll hok KX ds _ _ h2 r2
    exact⟨_,ReadsAllW.cons q1 q2⟩
end
end
mutual
def plW:WData->Bool
 |.none=>true
 |.bool _=>true
 |.int _=>true
 |.str _=>true
 |.bytes _=>true
 |.list xs=>Bbh xs
 |.tuple xs=>Bbh xs
 |_=>false
def Bbh:List WData->Bool
 |[]=>true
 |x::r=>plW x&&Bbh r
end
theorem Bn5{α:Type}{f:α->WData}(h:∀a,plW (f a)=true):∀l:List α,Bbh (l.map f)=true
 |[]=>rfl
 |x::r=>by
  show(plW (f x)&&Bbh (r.map f))=true
  rw[h x,Bn5 h r]<;>rfl
theorem Al8:∀(c:Codec) (a:c.denote),plW (c.enc a)=true
 |.unit,_=>rfl
 |.bool,_=>rfl
 |.int _ _,_=>rfl
 |.nat _ _,_=>rfl
 |.u8,_=>rfl
 |.bytes _ _,_=>rfl
 |.text _ _ _ _,_=>rfl
 |.list _ _ c,a=>Bn5 (λx=>Al8 c x) a
 |.pair c d,a=>by
  show(plW (c.enc a.1)&&(plW (d.enc a.2)&&true))=true
  rw[Al8 c a.1,Al8 d a.2]<;>rfl
 |.triple c d e,a=>by
  show(plW (c.enc a.1)&&(plW (d.enc a.2.1)&&(plW (e.enc a.2.2)&&true)))=true
  rw[Al8 c a.1,Al8 d a.2.1,Al8 e a.2.2]<;>rfl
 |.option c,none=>rfl
 |.option c,some x=>Al8 c x
theorem Bia:∀(cs:List Codec) (a:Codec.denoteAll cs),Bbh (Codec.encAll cs a)=true
 |[],_=>rfl
 |c::cs,a=>by
  show(plW (c.enc a.1)&&Bbh (Codec.encAll cs a.2))=true
  rw[Al8 c a.1,Bia cs a.2]<;>rfl
theorem Atw:∀{xs:List WData} {d:WData},d∈xs->d.weight<=WData.weightAll xs
 |[],d,h=>absurd h (by simp)
 |x::r,d,h=>by
  show d.weight<=x.weight+1+WData.weightAll r
  rcases BP.mp h with e|m
  ·rw[e]
   omega
  ·have z:=Atw m
   omega
def toV:Value->V
 |.none=>.non
 |.bool b=>.bl b
 |.int i _=>.int i
 |.str x _=>.str x
 |.bytes b _=>.byt b
 |.ref a=>.ref a
 |_=>.non
def OkU(A:List Addr):Value->Prop
 |.none=>True
 |.bool _=>True
 |.int _ _=>True
 |.str _ _=>True
 |.bytes _ _=>True
 |.ref a=>a∈A
 |_=>False
theorem OkU.mono{A B:List Addr}(h:∀a∈A,a∈B):∀{u:Value},OkU A u->OkU B u:=λ{u} x=>by
 cases u with
 |ref a=>exact h a x
 |none=>trivial
 |bool b=>trivial
 |int i t=>trivial
 |str s t=>trivial
 |bytes b t=>trivial
 |_=>exact Fo x
theorem Bx4{A:List Addr}{u:Value}(x:OkU A u):RelV (toV u) u:=by
 cases u with
 |ref a=>rfl
 |none=>rfl
 |bool b=>rfl
 |int i t=>exact⟨t,rfl⟩
 |str s t=>exact⟨t,rfl⟩
 |bytes b t=>exact⟨t,rfl⟩
 |_=>exact Fo x
theorem Agf{A:List Addr}:∀{vs:List Value},(∀u∈vs,OkU A u)->Vals (vs.map toV) vs
 |[],_=>.nil
 |u::r,h=>.cons (Bx4 (h u (Bl ..))) (Agf λx hx=>h x (Bh _ hx))
def Aie(h:Heap)(A:List Addr)(a:Addr):Prop:=∃vs:List Value,vs.length<=sizeLine/\(∀u∈vs,OkU A u)/\
 (h.get? a=some {cls:=.type "list",data:=.seq vs.toArray}\/h.get? a=some {cls:=.type "tuple",data:=.seq vs.toArray})
theorem Aie.mono{h:Heap}{A B:List Addr}{a:Addr}(k:∀a∈A,a∈B)(x:Aie h A a):Aie h B a:=by
 obtain⟨vs,h1,h2,h3⟩:=x
 exact⟨vs,h1,λu hu=>(h2 u hu).mono k,h3⟩
theorem Adt{P:Params}{h:Heap}:∀{vs:List Value} {ds:List WData},WellAll P h vs ds->vs.length=ds.length
 |_,_,.nil=>rfl
 |_,_,.cons _ b=>by
  show _+1=_+1
  rw[Adt b]
theorem Bir{P:Params}{h:Heap}{v:Value}{ds:List WData}(x:Well P h v (.list ds)):∃(a:Addr) (vs:List Value),v=.ref a/\h.get? a=some {cls:=.type "list",data:=.seq vs.toArray}/\WellAll P h vs ds:=by
 cases x with
 |list ho hall=>exact⟨_,_,rfl,ho,hall⟩
theorem Bfh{P:Params}{h:Heap}{v:Value}{ds:List WData}(x:Well P h v (.tuple ds)):∃(a:Addr) (vs:List Value),v=.ref a/\h.get? a=some {cls:=.type "tuple",data:=.seq vs.toArray}/\WellAll P h vs ds:=by
 cases x with
 |tuple ho hall=>exact⟨_,_,rfl,ho,hall⟩
theorem Biq{P:Params}{h:Heap}{us:List Value}{d:WData}{ds:List WData}(x:WellAll P h us (d::ds)):∃(v:Value) (vs:List Value),us=v::vs/\Well P h v d/\WellAll P h vs ds:=by
 cases x with
 |cons a b=>exact⟨_,_,rfl,a,b⟩
theorem Bsg{n:Nat}(h:n<=1048576):n<=sizeLine:=Az h (by decide)
section
variable {P:Params}{h:Heap}
mutual
theorem Bvy:∀(d:WData) (v:Value),Well P h v d->plW d=true->d.weight<=1048576->∃A:List Addr,OkU A v/\∀a∈A,Aie h A a
 |.none,_,x,_,_=>by
  cases x
  exact⟨[],trivial,λa m=>absurd m (by simp)⟩
 |.bool b,_,x,_,_=>by
  cases x
  exact⟨[],trivial,λa m=>absurd m (by simp)⟩
 |.int i,_,x,_,_=>by
  cases x
  exact⟨[],trivial,λa m=>absurd m (by simp)⟩
 |.str s,_,x,_,_=>by
  cases x
  exact⟨[],trivial,λa m=>absurd m (by simp)⟩
 |.bytes b,_,x,_,_=>by
  cases x
  exact⟨[],trivial,λa m=>absurd m (by simp)⟩
 |.list ds,_,x,p,z=>by
  obtain⟨a,vs,rfl,ho,hall⟩:=Bir x
  have z2:WData.weightAll ds<=1048576:=z
  obtain⟨A,h1,h2⟩:=Au4 ds _ hall p λd hd=>Az (Atw hd) z2
  have k:∀b∈A,b∈a::A:=λb hb=>Bh _ hb
  refine⟨a::A,Bl ..,λb hb=>?_⟩
  rcases BP.mp hb with e|m
  ·rw[e]
   exact⟨vs,Bsg (by rw[Adt hall];exact Az (Ye ds) z2),λu hu=>(h1 u hu).mono k,.inl ho⟩
  ·exact(h2 b m).mono k
 |.tuple ds,_,x,p,z=>by
  obtain⟨a,vs,rfl,ho,hall⟩:=Bfh x
  have z2:WData.weightAll ds<=1048576:=z
  obtain⟨A,h1,h2⟩:=Au4 ds _ hall p λd hd=>Az (Atw hd) z2
  have k:∀b∈A,b∈a::A:=λb hb=>Bh _ hb
  refine⟨a::A,Bl ..,λb hb=>?_⟩
  rcases BP.mp hb with e|m
  ·rw[e]
   exact⟨vs,Bsg (by rw[Adt hall];exact Az (Ye ds) z2),λu hu=>(h1 u hu).mono k,.inr ho⟩
  ·exact(h2 b m).mono k
 |.float _,_,_,p,_=>Bool.noConfusion (show false=true from p)
 |.dict _,_,_,p,_=>Bool.noConfusion (show false=true from p)
 |.bytearray _,_,_,p,_=>Bool.noConfusion (show false=true from p)
 |.set _,_,_,p,_=>Bool.noConfusion (show false=true from p)
 |.frozenset _,_,_,p,_=>Bool.noConfusion (show false=true from p)
 |.obj _ _,_,_,p,_=>Bool.noConfusion (show false=true from p)
theorem Au4:∀(ds:List WData) (vs:List Value),WellAll P h vs ds->Bbh ds=true->(∀d∈ds,d.weight<=1048576)->∃A:List Addr,(∀u∈vs,OkU A u)/\∀a∈A,Aie h A a
 |[],_,x,_,_=>by
  cases x
  exact⟨[],λu m=>absurd m (by simp),λa m=>absurd m (by simp)⟩
 |d::ds,_,x,p,z=>by
  obtain⟨v,vs,rfl,x1,x2⟩:=Biq x
  have q:plW d=true/\Bbh ds=true:=Aki.mp p
  obtain⟨A,a1,a2⟩:=Bvy d v x1 q.1 (z d (Bl ..))
  obtain⟨B,b1,b2⟩:=Au4 ds vs x2 q.2 λe he=>z e (Bh _ he)
  have kA:∀b∈A,b∈A++B:=λb hb=>Bw.mpr (.inl hb)
  have kB:∀b∈B,b∈A++B:=λb hb=>Bw.mpr (.inr hb)
  refine⟨A++B,λu hu=>?_,λb hb=>?_⟩
  ·rcases BP.mp hu with e|m
   ·rw[e]
    exact a1.mono kA
   ·exact(b1 u m).mono kB
  ·rcases Bw.mp hb with m|m
   ·exact(a2 b m).mono kA
   ·exact(b2 b m).mono kB
end
end
def Bzc(o:Obj):Option HO:=match o.data with
 |.seq vs _=>if(o.cls==TJ "list")=true then some (.frz o (.lst (vs.toList.map toV))) else some (.frz o (.tup (vs.toList.map toV)))
 |_=>none
def Aec(K:Frag)(h:Heap)(A:List Addr):Hp:=λb=>if b∈A then(if(K.lookup b).isNone=true then(h.get? b).bind Bzc else none) else none
def Car(H:Hp):Prop:=∀b,H b=none\/∃o u,H b=some (.frz o u)
theorem Bnc(vs:List Value):Bzc {cls:=.type "list",data:=.seq vs.toArray}=some (.frz {cls:=.type "list",data:=.seq vs.toArray} (.lst (vs.map toV))):=by
 show(if(TJ "list"==TJ "list")=true then some (HO.frz {cls:=.type "list",data:=.seq vs.toArray} (.lst (vs.toArray.toList.map toV))) else some (HO.frz {cls:=.type "list",data:=.seq vs.toArray} (.tup (vs.toArray.toList.map toV))))=_
 rw[Aq (G9 _)]
theorem Bnd(vs:List Value):Bzc {cls:=.type "tuple",data:=.seq vs.toArray}=some (.frz {cls:=.type "tuple",data:=.seq vs.toArray} (.tup (vs.map toV))):=by
 show(if(TJ "tuple"==TJ "list")=true then some (HO.frz {cls:=.type "tuple",data:=.seq vs.toArray} (.lst (vs.toArray.toList.map toV))) else some (HO.frz {cls:=.type "tuple",data:=.seq vs.toArray} (.tup (vs.toArray.toList.map toV))))=_
 rw[Am (by decide)]
section
variable {P:Program}{w:World}{K:Frag}{h:Heap}{A:List Addr}
theorem Bbr{b:Addr}{o:Obj}(hb:b∈A)(hk:K.lookup b=none)(e:h.get? b=some o):Aec K h A b=Bzc o:=by
 unfold Aec
 rw[Aq hb,hk,Aq (show(none:Option Obj).isNone=true from rfl),e]<;>rfl
theorem Bzw{b:Addr}{u:HO}(q:Aec K h A b=some u):b∈A/\K.lookup b=none:=by
 unfold Aec at q
 by_cases hb:b∈A
 ·rw[Aq hb] at q
  cases hk:K.lookup b with
  |none=>exact⟨hb,rfl⟩
  |some o=>
   rw[hk,Am (by simp)] at q
   cases q
 ·rw[Am hb] at q
  cases q
theorem Au5(ar:∀a∈A,Aie h A a){b:Addr}{u:HO}(q:Aec K h A b=some u):K.lookup b=none/\∃vs:List Value,vs.length<=sizeLine/\(∀u∈vs,OkU A u)/\
  ((h.get? b=some {cls:=.type "list",data:=.seq vs.toArray}/\u=.frz {cls:=.type "list",data:=.seq vs.toArray} (.lst (vs.map toV)))\/
   (h.get? b=some {cls:=.type "tuple",data:=.seq vs.toArray}/\u=.frz {cls:=.type "tuple",data:=.seq vs.toArray} (.tup (vs.map toV)))):=by
 obtain⟨hb,hk⟩:=Bzw q
 obtain⟨vs,h1,h2,h3⟩:=ar b hb
 refine⟨hk,vs,h1,h2,?_⟩
 rcases h3 with e|e
 ·rw[Bbr hb hk e,Bnc] at q
  exact .inl ⟨e,(Ae q).symm⟩
 ·rw[Bbr hb hk e,Bnd] at q
  exact .inr ⟨e,(Ae q).symm⟩
theorem Btl(ar:∀a∈A,Aie h A a):Car (Aec K h A):=λb=>by
 cases q:Aec K h A b with
 |none=>exact .inl rfl
 |some u=>
  obtain⟨_,vs,_,_,⟨_,e⟩|⟨_,e⟩⟩:=Au5 ar q
  ·exact .inr ⟨_,_,by rw[e]⟩
  ·exact .inr ⟨_,_,by rw[e]⟩
theorem Byy(ar:∀a∈A,Aie h A a):HOk P w (Aec K h A) h:=λb u q=>by
 obtain⟨_,vs,h1,h2,⟨e,rfl⟩|⟨e,rfl⟩⟩:=Au5 ar q
 ·exact⟨e,by rw[Aa];exact h1,vs,_,Agf h2,e⟩
 ·exact⟨e,by rw[Aa];exact h1,vs,Agf h2,_,e,rfl,_,rfl⟩
theorem Bb1{c c':Value}{vs us:List Value}(e:(some {cls:=c,data:=.seq vs.toArray}:Option Obj)=some {cls:=c',data:=.seq us.toArray}):c=c'/\vs=us:=by
 have e1:=Ae e
 have e2:c=c':=congrArg Obj.cls e1
 have e3:Bca vs.toArray=Bca us.toArray:=congrArg Obj.data e1
 injection e3 with e4
 refine⟨e2,?_⟩
 have e5:=congrArg Aty e4
 simpa using e5
theorem Cek(KX:K.In h)(ar:∀a∈A,Aie h A a){a:Addr}{vs:List Value}(ha:a∈A)(e:h.get? a=some {cls:=.type "list",data:=.seq vs.toArray}):(∀u∈vs,OkU A u)/\SqL K (Aec K h A) a (vs.map toV):=by
 obtain⟨us,h1,h2,h3⟩:=ar a ha
 have hu:us=vs:=by
  rcases h3 with q|q
  ·rw[e] at q
   exact(Bb1 q).2.symm
  ·rw[e] at q
   exact absurd (Aab (Bb1 q).1) (by decide)
 subst hu
 refine⟨h2,?_⟩
 cases hk:K.lookup a with
 |none=>exact .inl (.inr ⟨_,by rw[Bbr ha hk e,Bnc]⟩)
 |some o=>
  have e2:=KX a o hk
  rw[e] at e2
  obtain rfl:=Ae e2
  exact .inr ⟨_,us.toArray,_,hk,rfl,rfl,rfl,by rw[Bv];exact h1,by simpa using Agf h2⟩
theorem Cel(KX:K.In h)(ar:∀a∈A,Aie h A a){a:Addr}{vs:List Value}(ha:a∈A)(e:h.get? a=some {cls:=.type "tuple",data:=.seq vs.toArray}):(∀u∈vs,OkU A u)/\SqT K (Aec K h A) a (vs.map toV):=by
 obtain⟨us,h1,h2,h3⟩:=ar a ha
 have hu:us=vs:=by
  rcases h3 with q|q
  ·rw[e] at q
   exact absurd (Aab (Bb1 q).1) (by decide)
  ·rw[e] at q
   exact(Bb1 q).2.symm
 subst hu
 refine⟨h2,?_⟩
 cases hk:K.lookup a with
 |none=>exact .inl (.inr ⟨_,by rw[Bbr ha hk e,Bnd]⟩)
 |some o=>
  have e2:=KX a o hk
  rw[e] at e2
  obtain rfl:=Ae e2
  exact .inr ⟨_,us.toArray,_,hk,rfl,rfl,by rw[Bv];exact h1,by simpa using Agf h2⟩
mutual
theorem Cbe{Pm:Params}(KX:K.In h)(ar:∀a∈A,Aie h A a):∀(d:WData) (v:Value),Well Pm h v d->plW d=true->OkU A v->Dw K (Aec K h A) (toV v) d
 |.none,_,x,_,_=>by
  cases x
  exact .non
 |.bool b,_,x,_,_=>by
  cases x
  exact .bl b
 |.int i,_,x,_,_=>by
  cases x
  exact .int i
 |.str s,_,x,_,_=>by
  cases x
  exact .str s
 |.bytes b,_,x,_,_=>by
  cases x
  have z:=Dw.byt (K:=K) (H:=Aec K h A) b.toArray
  exact z
 |.list ds,_,x,p,hu=>by
  obtain⟨a,vs,rfl,ho,hall⟩:=Bir x
  obtain⟨h2,hs⟩:=Cek KX ar hu ho
  exact .lst hs (Bjm KX ar ds _ hall p h2)
 |.tuple ds,_,x,p,hu=>by
  obtain⟨a,vs,rfl,ho,hall⟩:=Bfh x
  obtain⟨h2,hs⟩:=Cel KX ar hu ho
  exact .tup hs (Bjm KX ar ds _ hall p h2)
 |.float _,_,_,p,_=>Bool.noConfusion (show false=true from p)
 |.dict _,_,_,p,_=>Bool.noConfusion (show false=true from p)
 |.bytearray _,_,_,p,_=>Bool.noConfusion (show false=true from p)
 |.set _,_,_,p,_=>Bool.noConfusion (show false=true from p)
 |.frozenset _,_,_,p,_=>Bool.noConfusion (show false=true from p)
 |.obj _ _,_,_,p,_=>Bool.noConfusion (show false=true from p)
theorem Bjm{Pm:Params}(KX:K.In h)(ar:∀a∈A,Aie h A a):∀(ds:List WData) (vs:List Value),WellAll Pm h vs ds->Bbh ds=true->(∀u∈vs,OkU A u)->Afc K (Aec K h A) (vs.map toV) ds
 |[],_,x,_,_=>by
  cases x
  exact .nil
 |d::ds,_,x,p,hu=>by
  obtain⟨v,vs,rfl,x1,x2⟩:=Biq x
  have q:plW d=true/\Bbh ds=true:=Aki.mp p
  exact .cons (Cbe KX ar d v x1 q.1 (hu _ (Bl ..))) (Bjm KX ar ds vs x2 q.2 λu m=>hu u (Bh _ m))
end
end
theorem Bdr{ds:List WData}(h:WData.layableAll ds=true):∀d∈ds,d.weight<=1048576:=λd hd=>
 (PySem.W.layableW_iff.mp (Ep.mp h d hd)).2.2
theorem Bc0:∀(cs:List Codec) (a:Codec.denoteAll cs),(Codec.encAll cs a).length=cs.length
 |[],_=>rfl
 |c::cs,a=>by
  show(Codec.encAll cs a.2).length+1=cs.length+1
  rw[Bc0 cs a.2]
end L2
end
end
section
namespace RM
open Vbdtag VbdtCore
def ND(l:List Item):Prop:=(l.map λx=>x.num).Nodup
theorem Ayf{l m:List Item}(h:l.Perm m):sizeOf_ l=sizeOf_ m:=(h.map _).sum_nat
theorem Bx9(l m:List Item):sizeOf_ (l++m)=sizeOf_ l+sizeOf_ m:=by unfold sizeOf_;rw[Bd,Baq]
theorem Awm{l m:List Item}(h:l.Sublist m):sizeOf_ l<=sizeOf_ m:=by
 unfold sizeOf_
 induction h with
 |slnil=>exact Bu _
 |cons a _ ih=>rw[Bo,Jk];omega
 |cons_cons a _ ih=>rw[Bo,Bo,Jk,Jk];omega
def brk(b:Bounds)(l:List Item):List (Nat×Nat):=
 (if b.room<sizeOf_ l then [(0,0)] else [])++(((FJ 10).filter λr=>decide (b.limits.getD r 0<sizeOf_ (l.filter λx=>decide (x.rank<=r)))).map (λr=>(1,r))++
  ((FJ 8).filter λs=>decide (b.share<sizeOf_ (l.filter λx=>x.sender==s))).map λs=>(2,s))
theorem Avq(b:Bounds)(l:List Item):fits b l=decide ((brk b l).length=0):=by
 unfold fits brk RANKS SENDERS
 rw[Bg,Bg,Aa,Aa]
 rw[Qz,decide_eq_true_iff,Cm,Cm,decide_eq_true_iff,Ep,Ep]
 constructor
 ·rintro⟨h1,h2,h3⟩
  rw[Am (by omega),Gk.mpr,Gk.mpr]
  ·rfl
  ·intro s hs;have:=h3 s hs;simp at this|-;exact this
  ·intro s hs;have:=h2 s hs;simp at this|-;exact this
 ·intro h
  have h1:¬b.room<sizeOf_ l:=λq=>by rw[Aq q] at h;simp at h
  refine⟨by omega,λr hr=>?_,λs hs=>?_⟩
  ·have e:(FJ 10).filter (λr=>decide (b.limits.getD r 0<sizeOf_ (l.filter λx=>decide (x.rank<=r))))=[]:=G6.mp (by omega)
   have:=Gk.mp e r hr
   simp at this|-;exact this
  ·have e:(FJ 8).filter (λs=>decide (b.share<sizeOf_ (l.filter λx=>x.sender==s)))=[]:=G6.mp (by omega)
   have:=Gk.mp e s hs
   simp at this|-;exact this
theorem Bml(b:Bounds){l m:List Item}(h:l.Perm m):brk b l=brk b m:=by
 unfold brk
 rw[Ayf h]
 congr 1
 congr 1
 ·congr 1
  refine Ft λr _=>?_
  rw[Ayf (h.filter _)]
 ·congr 1
  refine Ft λr _=>?_
  rw[Ayf (h.filter _)]
theorem QJ(b:Bounds){l m:List Item}(h:l.Perm m):fits b l=fits b m:=by rw[Avq,Avq,Bml b h]
theorem Bc6(b:Bounds){l m:List Item}(h:l.Sublist m)(f:fits b m=true):fits b l=true:=by
 unfold fits at f|-
 rw[Cm,Cm,decide_eq_true_iff,Ep,Ep] at f|-
 obtain⟨h1,h2,h3⟩:=f
 refine⟨Az (Awm h) h1,λr hr=>?_,λs hs=>?_⟩
 ·have:=Ec (h2 r hr)
  exact Aj (Az (Awm (h.filter _)) this)
 ·have:=Ec (h3 s hs)
  exact Aj (Az (Awm (h.filter _)) this)
theorem Bhv(b:Bounds){l k m:List Item}(h:l.Perm k)(h2:k.Sublist m)(f:fits b m=true):fits b l=true:=by
 rw[QJ b h];exact Bc6 b h2 f
theorem Bz9{x y:Item}(h:stronger x y=true):stronger y x=false:=by
 unfold stronger at h|-
 simp at h|-
 omega
theorem Byc{x y z:Item}(h:stronger x y=true)(h2:stronger y z=true):stronger x z=true:=by
 unfold stronger at h h2|-
 simp at h h2|-
 omega
theorem Byb{x y:Item}(hn:x.num≠y.num)(h:stronger x y=false):stronger y x=true:=by
 unfold stronger at h|-
 simp at h|-
 omega
def Sd(l:List Item):Prop:=l.Pairwise λx y=>stronger x y=true
theorem Bsn{l:List Item}{x y:Item}(h:ND (x::l))(hy:y∈l):x.num≠y.num:=by
 unfold ND at h
 rw[Bo,Gj] at h
 intro e
 exact h.1 (by rw[e];exact Cw hy)
theorem Vc{l:List Item}{x:Item}(h:ND (x::l)):ND l:=by
 unfold ND at h|-
 rw[Bo,Gj] at h
 exact h.2
theorem Lq{l m:List Item}(h:l.Perm m):ND l↔ND m:=(h.map _).nodup_iff
theorem TY{l m:List Item}(h:l.Sublist m)(n:ND m):ND l:=(h.map _).nodup n
theorem Bj5{l:List Item}(n:ND l):∀{x y:Item},x∈l->y∈l->x.num=y.num->x=y:=by
 induction l with
 |nil=>intro x y hx;cases hx
 |cons a l ih=>
  intro x y hx hy e
  rcases BP.mp hx with e1|hx1
  ·subst e1
   rcases BP.mp hy with e2|hy1
   ·exact e2.symm
   ·exact absurd e (Bsn n hy1)
  ·rcases BP.mp hy with e2|hy1
   ·subst e2;exact absurd e.symm (Bsn n hx1)
   ·exact ih (Vc n) hx1 hy1 e
theorem Afx{l:List Item}(n:ND l):l.Nodup:=by
 unfold ND at n
 rw[Bcb,JK] at n
 exact n.imp λh e=>h (by rw[e])
theorem Aor{l m:List Item}(h:l.Perm m)(a:Sd l)(b:Sd m):l=m:=
 Ad4 (le:=λx y=>stronger x y=true) (λx y _ _ h1 h2=>by rw[Bz9 h1] at h2;cases h2) a b h
theorem Alp{α:Type}(before:α->α->Bool)(x:α):∀l:List α,(insertBy before x l).Perm (x::l)
 |[]=>.refl _
 |y::l=>by
  unfold insertBy
  split
  ·exact .refl _
  ·exact((Alp before x l).cons y).trans (.swap x y l)
theorem Al9(x:Item)(l:List Item):(put x l).Perm (x::l):=Alp _ _ _
theorem Bks{x:Item}:∀{l:List Item},Sd l->ND (x::l)->Sd (put x l)
 |[],_,_=>Ua ..
 |y::l,s,n=>by
  unfold put insertBy
  have hne:x.num≠y.num:=Bsn n Bl
  split
  ·rename_i h
   refine DQ.mpr ⟨λz hz=>?_,s⟩
   rcases BP.mp hz with rfl|hz
   ·exact h
   ·exact Byc h ((DQ.mp s).1 z hz)
  ·rename_i h
   have h':stronger y x=true:=Byb hne (by simpa using h)
   have n2:ND (x::l):=TY ((List.sublist_cons_self y l).cons_cons x) n
   refine DQ.mpr ⟨λz hz=>?_,Bks (DQ.mp s).2 n2⟩
   rcases BP.mp ((Al9 x l).mem_iff.mp hz) with rfl|hz
   ·exact h'
   ·exact(DQ.mp s).1 z hz
theorem Ke{α:Type}(before:α->α->Bool)(l:List α):(sortBy before l).Perm l:=by
 have go:∀(l a:List α),(l.foldl (λa x=>insertBy before x a) a).Perm (l++a):=by
  intro l
  induction l with
  |nil=>intro a;exact .refl _
  |cons x l ih=>
   intro a
   exact(ih _).trans (((Alp before x a).append_left l).trans (KY))
 have:=go l []
 rwa [Ds] at this
theorem Agd{l:List Item}(n:ND l):Sd (sortBy stronger l):=by
 have go:∀(l a:List Item),Sd a->ND (l++a)->Sd (l.foldl (λa x=>insertBy stronger x a) a):=by
  intro l
  induction l with
  |nil=>intro a s _;exact s
  |cons x l ih=>
   intro a s n
   have p:(l++x::a).Perm (x::l++a):=KY
   have n1:ND (x::a):=TY (List.sublist_append_right l (x::a)) ((Lq p).mpr n)
   refine ih _ (Bks s n1) ((Lq ?_).mpr n)
   exact((Al9 x a).append_left l).trans p
 exact go l [] Gp (by rw[Ds];exact n)
theorem Bqn{l:List Item}(n:ND l)(h:l.Pairwise λx y=>stronger y x=false):Sd l:=by
 unfold ND at n
 rw[Bcb,JK] at n
 exact(List.pairwise_and_iff.mpr ⟨n,h⟩).imp λ⟨a,b⟩=>Byb (λe=>a e.symm) b
theorem Bui{l g:List Item}{x:Item}:x∈minus l g↔x∈l/\∀y∈g,y.num≠x.num:=by
 unfold minus numbers
 rw[DP]
 refine and_congr_right λ_=>?_
 simp only [Atz,Ef,decide_eq_false_iff_not,Dv,not_exists,not_and]
theorem Azz{l g h:List Item}(e:∀x∈l,(x.num∈numbers g↔x.num∈numbers h)):minus l g=minus l h:=by
 unfold minus
 refine Ft λx hx=>?_
 have:=e x hx
 simp only [Ef]
 congr 1
 exact Ju.mpr this
theorem Aoh(l:List Item):minus l []=l:=by
 unfold minus numbers
 exact GC.mpr λx _=>by simp
theorem Az0(l g h:List Item):minus (minus l g) h=minus l (g++h):=by
 unfold minus numbers
 rw[Aso]
 refine Ft λx _=>?_
 simp only [Ef,Bd,Bw]
 by_cases h1:x.num∈g.map (λx=>x.num)<;>by_cases h2:x.num∈h.map (λx=>x.num)<;>simp [h1,h2]
theorem JR(l g:List Item):(minus l g).Sublist l:=Iv
theorem Aas{l:List Item}(n:ND l)(p:Item->Bool):minus l (l.filter p)=l.filter λx=>!p x:=by
 unfold minus
 refine Ft λx hx=>?_
 congr 1
 unfold numbers
 rw[Ef]
 by_cases h:p x=true
 ·rw[h]
  exact Aj (Cw (DP.mpr ⟨hx,h⟩))
 ·rw[Bool.not_eq_true] at h
  rw[h]
  refine Bf λhm=>?_
  obtain⟨y,hy,e⟩:=Dv.mp hm
  obtain⟨hy,hp⟩:=DP.mp hy
  rw[Bj5 n hy hx e,h] at hp
  cases hp
theorem Pg{α:Type}[DecidableEq α]{g l:List α}(h:g.Sublist l)(n:l.Nodup):l.filter (λx=>decide (x∈g))=g:=by
 induction h with
 |slnil=>rfl
 |@cons l₁ l₂ a h ih=>
  rw[Gj] at n
  rw[Cr,Am,ih n.2]
  intro q
  exact n.1 (h.subset (Ec q))
 |@cons_cons l₁ l₂ a h ih=>
  rw[Gj] at n
  rw[Cr,Aq (Aj Bl)]
  congr 1
  refine(Ft λx hx=>?_).trans (ih n.2)
  refine Ju.mpr ⟨λq=>?_,λq=>Bh _ q⟩
  rcases BP.mp q with e|q
  ·exact absurd (e▸hx) n.1
  ·exact q
end RM
end
section
namespace RM
open Vbdtag VbdtCore
def mg(x:Item)(l:List Item):List Item:=l.filter λy=>stronger x y&&!y.bound
def ng(x:Item)(l:List Item):List Item:=l.filter λy=>!(stronger x y&&!y.bound)
def walk(b:Bounds):List Item->List Item->List Item->List Item×List Item
 |there,gone,[]=>(there,gone)
 |there,gone,y::r=>if fits b (there++[y])=true then walk b (there++[y]) gone r else walk b there (gone++[y]) r
def GZ(b:Bounds)(x:Item)(l:List Item):List Item:=(walk b (ng x l++[x]) [] (mg x l)).2
def Xv(b:Bounds)(x:Item)(l:List Item):Bool:=fits b (ng x l++[x])
theorem Bo7(b:Bounds)(gone q:List Item):∀(r there:List Item),fits b (there++r)=true->walk b there gone (r++q)=walk b (there++r) gone q
 |[],there,_=>by rw[KC,Ds]
 |y::r,there,h=>by
  have e:there++y::r=(there++[y])++r:=by rw[Cg];rfl
  have hy:fits b (there++[y])=true:=by
   rw[e] at h
   exact Bc6 b (K6 _ _) h
  rw[Afe,walk,Aq hy,Bo7 b gone q r (there++[y]) (by rw[<-e];exact h),e]
theorem Ayq(b:Bounds):∀(q cur T gone:List Item),cur.Perm T->(comeBack b cur q).Perm (walk b T gone q).1
 |[],cur,T,gone,p=>p
 |y::q,cur,T,gone,p=>by
  have py:(y::cur).Perm (T++[y]):=(p.cons y).trans (Dt y T).symm
  unfold comeBack walk
  rw[QJ b py]
  split
  ·exact Ayq b q _ _ gone ((Al9 y cur).trans py)
  ·exact Ayq b q _ _ _ p
theorem Aow(b:Bounds):∀(q T gone:List Item),((walk b T gone q).1++(walk b T gone q).2).Perm (T++gone++q)
 |[],T,gone=>by rw[Ds];exact .refl _
 |y::q,T,gone=>by
  unfold walk
  split
  ·refine(Aow b q _ _).trans ?_
   have:(T++[y]++gone++q).Perm (T++(gone++[y])++q):=by
    rw[Cg T [y] gone]
    refine List.Perm.append_right q (List.Perm.append_left T ?_)
    exact Ni
   refine this.trans ?_
   rw[Cg,Cg,Cg]
   exact .refl _
  ·refine(Aow b q _ _).trans ?_
   rw[Cg,Cg,Cg]
   exact .refl _
theorem Aov(b:Bounds):∀(q T gone:List Item),∃r,(walk b T gone q).2=gone++r/\r.Sublist q
 |[],T,gone=>⟨[],by rw[Ds];rfl,At3 _⟩
 |y::q,T,gone=>by
  unfold walk
  split
  ·obtain⟨r,e,s⟩:=Aov b q (T++[y]) gone
   exact⟨r,e,s.cons y⟩
  ·obtain⟨r,e,s⟩:=Aov b q T (gone++[y])
   exact⟨y::r,by rw[e,Cg];rfl,s.cons_cons y⟩
theorem Alb(b:Bounds):∀(q cur:List Item),Sd cur->ND (cur++q)->Sd (comeBack b cur q)
 |[],cur,s,_=>s
 |y::q,cur,s,n=>by
  have p:(cur++y::q).Perm (y::cur++q):=KY
  have n1:ND (y::cur++q):=(Lq p).mp n
  unfold comeBack
  split
  ·refine Alb b q _ (Bks s (TY (K6 _ _) n1)) ((Lq ?_).mp n1)
   exact((Al9 y cur).symm).append_right q
  ·exact Alb b q _ s (Vc n1)
theorem Ww(b:Bounds)(x:Item)(l:List Item):∀(rest gone:List Item),(firstOut b x l gone rest=none/\fits b (x::minus l (gone++rest))=false)\/
  ∃g r,firstOut b x l gone rest=some g/\gone++rest=g++r/\fits b (x::minus l g)=true
 |[],gone=>by
  unfold firstOut
  split
  ·rename_i h;exact .inr ⟨gone,[],rfl,rfl,h⟩
  ·rename_i h;exact .inl ⟨rfl,by rw[Ds];simpa using h⟩
 |y::rest,gone=>by
  unfold firstOut
  split
  ·rename_i h;exact .inr ⟨gone,y::rest,rfl,rfl,h⟩
  ·have e:gone++y::rest=(gone++[y])++rest:=by rw[Cg];rfl
   rw[e]
   exact Ww b x l rest (gone++[y])
theorem Ax0(x:Item)(l:List Item):mayGo x l=(mg x l).reverse:=rfl
theorem Av1{x:Item}{l:List Item}(n:ND l):minus l (mayGo x l)=ng x l:=by
 rw[Azz (h:=mg x l) λy _=>?_]
 ·exact Aas n _
 ·rw[Ax0];unfold numbers;rw[O3,KQ]
theorem Bsk(x:Item)(l:List Item):(ng x l++mg x l).Perm l:=(Ni).trans (Lj _ l)
theorem Bd2{x:Item}{l g r:List Item}(n:ND l)(e:mayGo x l=g++r):(minus l g).Perm (ng x l++r.reverse):=by
 have hp:(ng x l++mg x l).Perm l:=Bsk x l
 have em:mg x l=r.reverse++g.reverse:=by
  have:=congrArg At6 e
  rw[Ax0,Ld,Oq] at this
  exact this
 have h1:(minus (ng x l++mg x l) g).Perm (minus l g):=hp.filter _
 refine h1.symm.trans ?_
 have nn:ND (ng x l++mg x l):=(Lq hp).mpr n
 rw[em] at nn|-
 have e2:minus (ng x l++(r.reverse++g.reverse)) g=ng x l++r.reverse:=by
  rw[<-Cg] at nn|-
  unfold minus
  rw[Gu,GC.mpr,Gk.mpr,Ds]
  ·intro y hy
   have:y.num∈numbers g:=Cw (KQ.mp hy)
   simp [this]
  ·intro y hy
   have:y.num∉numbers g:=λhm=>by
    obtain⟨z,hz,ez⟩:=Dv.mp hm
    unfold ND at nn
    rw[Bd] at nn
    exact(JH.mp nn).2.2 y.num (Cw hy) y.num (by rw[<-ez];exact Cw (KQ.mpr hz)) rfl
   simp [this]
 rw[e2]
theorem Atp{b:Bounds}{x:Item}{l:List Item}(n:ND l)(h:Xv b x l=false):taken b x l=none:=by
 unfold taken
 rcases Ww b x l (mayGo x l) [] with⟨e,_⟩|⟨g,r,e,e2,f⟩
 ·rw[e];rfl
 ·rw[KC] at e2
  have p:=Bd2 n e2
  have:fits b (ng x l++[x])=true:=by
   refine Bhv b (k:=x::ng x l) (m:=x::(ng x l++r.reverse)) (Dt _ _) ((K6 _ _).cons_cons x) ?_
   rw[<-QJ b (p.cons x)];exact f
  unfold Xv at h
  rw[this] at h;cases h
theorem Ah6{b:Bounds}{x:Item}{l:List Item}(n:ND l):(taken b x l).isSome=Xv b x l:=by
 cases h:Xv b x l with
 |false=>rw[Atp n h];rfl
 |true=>
  unfold taken
  rcases Ww b x l (mayGo x l) [] with⟨e,f⟩|⟨g,r,e,e2,f⟩
  ·rw[KC,Av1 n] at f
   unfold Xv at h
   rw[QJ b (Dt x (ng x l)),f] at h;cases h
  ·rw[e];rfl
theorem Atq{b:Bounds}{x:Item}{l:List Item}(n:ND (x::l))(s:Sd l)(h:Xv b x l=true):∃m,taken b x l=some m/\Sd m/\m.Perm (x::minus l (GZ b x l))/\minus l m=GZ b x l:=by
 have nl:=Vc n
 rcases Ww b x l (mayGo x l) [] with⟨e,f⟩|⟨g,r,e,e2,f⟩
 ·have:taken b x l=none:=by unfold taken;rw[e];rfl
  have h2:=Ah6 (b:=b) (x:=x) nl
  rw[this,h] at h2;cases h2
 ·rw[KC] at e2
  have p:=Bd2 nl e2
  have em:mg x l=r.reverse++g.reverse:=by
   have:=congrArg At6 e2
   rw[Ax0,Ld,Oq] at this
   exact this
  have fw:fits b (ng x l++[x]++r.reverse)=true:=by
   rw[<-f]
   refine QJ b ?_
   refine Ban ?_ (p.cons x).symm
   rw[Cg]
   exact KY
  have ew:walk b (ng x l++[x]) [] (mg x l)=walk b (ng x l++[x]++r.reverse) [] g.reverse:=by
   rw[em];exact Bo7 b [] g.reverse r.reverse _ fw
  have pT:(put x (minus l g)).Perm (ng x l++[x]++r.reverse):=by
   refine(Al9 x _).trans ((p.cons x).trans ?_)
   rw[Cg]
   exact KY.symm
  have pm:=Ayq b g.reverse (put x (minus l g)) _ [] pT
  rw[<-ew] at pm
  have pw:=Aow b (mg x l) (ng x l++[x]) []
  rw[Ds] at pw
  obtain⟨q,eq,sq⟩:=Aov b (mg x l) (ng x l++[x]) []
  rw[KC] at eq
  have px:(ng x l++[x]++mg x l).Perm (x::l):=by
   rw[Cg]
   exact(KY).trans ((Bsk x l).cons x)
  have Bn1:=pw.trans px
  generalize hT:(walk b (ng x l++[x]) [] (mg x l)).1=T at pm Bn1
  have hG:(walk b (ng x l++[x]) [] (mg x l)).2=GZ b x l:=rfl
  rw[hG] at Bn1 eq
  rw[<-eq] at sq
  generalize GZ b x l=G at Bn1 sq
  have sl:G.Sublist l:=sq.trans Iv
  have nall:ND (T++G):=(Lq Bn1).mpr n
  have hm:minus l (comeBack b (put x (minus l g)) g.reverse)=G:=by
   rw[Azz (h:=T) λy _=>by unfold numbers;exact(pm.map _).mem_iff]
   refine Eq.trans ?_ (Pg sl (Afx nl))
   unfold minus
   refine Ft λy hy=>?_
   have ym:y∈T++G:=Bn1.mem_iff.mpr (Bh _ hy)
   rw[Ef]
   by_cases hg:y∈G
   ·rw[Aj hg,Bf,Ck]
    intro hn
    unfold ND at nall
    rw[Bd] at nall
    exact(JH.mp nall).2.2 y.num hn y.num (Cw hg) rfl
   ·rw[Bf hg,Aj,CK]
    rcases Bw.mp ym with q|q
    ·exact Cw q
    ·exact absurd q hg
  refine⟨comeBack b (put x (minus l g)) g.reverse,by unfold taken;rw[e];rfl,Alb b _ _ ?_ ?_,?_,hm⟩
  ·exact Bks (QT (JR l g) s) (TY ((JR l g).cons_cons x) n)
  ·refine(Lq ?_).mpr n
   refine(pT.append_right _).trans ?_
   rw[Cg,<-em]
   exact px
  ·refine pm.trans ?_
   have e3:minus l G=l.filter λy=>!decide (y∈G):=by
    have h1:=Aas nl λy=>decide (y∈G)
    rw[Pg sl (Afx nl)] at h1
    exact h1
   have p1:(minus l G++G).Perm l:=by
    rw[e3]
    have:=Lj (λy=>decide (y∈G)) l
    rw[Pg sl (Afx nl)] at this
    exact Ni.trans this
   have p2:(T++G).Perm (x::minus l G++G):=Bn1.trans (p1.symm.cons x)
   exact(ZW G).mp p2
end RM
end
section
namespace RM
open Vbdtag VbdtCore
section
variable {α:Type}
def Ato(cs:List (List α×List α))(x:α):List (List α×List α):=(cs.map λc=>(c.1,c.2++[x]))++cs.map λc=>(c.1++[x],c.2)
def chs(l:List α):List (List α×List α):=l.foldl Ato [([],[])]
def Pa:List α->List (List α)
 |[]=>[[]]
 |x::l=>(Pa l).flatMap λr=>[x::r,r]
theorem Aqf(x:α):∀l:List α,Pa (l++[x])=(Pa l).map (·++[x])++Pa l
 |[]=>rfl
 |y::l=>by
  show(Pa (l++[x])).flatMap _=_
  rw[Aqf x l,Oo]
  congr 1
  show _=((Pa l).flatMap _).map _
  rw[Aw2,Aw3]
  rfl
theorem Aaf(l:List α)(x:α):chs (l++[x])=Ato (chs l) x:=by unfold chs;rw[Lk];rfl
theorem Aon{P:List α->Prop}(h0:P [])(hs:∀l x,P l->P (l++[x]))(l:List α):P l:=by
 have go:∀l:List α,P l.reverse:=by
  intro l
  induction l with
  |nil=>exact h0
  |cons x l ih=>rw[Abw];exact hs _ _ ih
 have:=go l.reverse
 rwa [Ld] at this
theorem Ach(l:List α):(chs l).map (·.1)=(Pa l).reverse:=by
 induction l using Aon with
 |h0=>rfl
 |hs l x ih=>
  rw[Aaf,Aqf,Oq,<-O3,<-ih]
  unfold Ato
  rw[Bd,Df,Df,Df]
  rfl
theorem Bv5(l:List α):∀c∈chs l,(c.1++c.2).Perm l:=by
 induction l using Aon with
 |h0=>intro c hc;rw[Bj.mp hc];exact .refl _
 |hs l x ih=>
  intro c hc
  rw[Aaf] at hc
  unfold Ato at hc
  rcases Bw.mp hc with h|h
  ·obtain⟨d,hd,rfl⟩:=Dv.mp h
   show(d.1++(d.2++[x])).Perm _
   rw[<-Cg]
   exact(ih d hd).append_right _
  ·obtain⟨d,hd,rfl⟩:=Dv.mp h
   show(d.1++[x]++d.2).Perm _
   rw[Cg]
   refine Ban ?_ ((ih d hd).append_right [x])
   rw[Cg]
   exact Ni.append_left _
theorem Aoc(l:List α):∀c∈chs l,c.1.Sublist l/\c.2.Sublist l:=by
 induction l using Aon with
 |h0=>intro c hc;rw[Bj.mp hc];exact⟨.refl _,.refl _⟩
 |hs l x ih=>
  intro c hc
  rw[Aaf] at hc
  unfold Ato at hc
  rcases Bw.mp hc with h|h
  ·obtain⟨d,hd,rfl⟩:=Dv.mp h
   exact⟨(ih d hd).1.trans (K6 _ _),(ih d hd).2.append (.refl _)⟩
  ·obtain⟨d,hd,rfl⟩:=Dv.mp h
   exact⟨(ih d hd).1.append (.refl _),(ih d hd).2.trans (K6 _ _)⟩
theorem As2(l:List α):(chs l).length=2^l.length:=by
 induction l using Aon with
 |h0=>rfl
 |hs l x ih=>
  rw[Aaf]
  unfold Ato
  rw[Bg,Aa,Aa,ih,Bg,VN,Nat.pow_succ];omega
theorem Aqe:∀l:List α,∃r,Pa l=l::r
 |[]=>⟨[],rfl⟩
 |x::l=>by
  obtain⟨r,e⟩:=Aqe l
  exact⟨l::r.flatMap λr=>[x::r,r],by show(Pa l).flatMap _=_;rw[e];rfl⟩
variable (bt:α->α->Bool)
def Pn(R:List α)(e:α):α:=R.foldl (λm c=>if bt c m=true then c else m) e
structure Ord(bt:α->α->Bool):Prop where
 irr:∀a,bt a a=false
 neg:∀a b c,bt a b=false->bt b c=false->bt a c=false
 Btn:∀a b,bt a b=true->bt b a=false
variable {bt}
theorem Av6(O:Ord bt):∀(R:List α) (e:α),bt e (Pn bt R e)=false
 |[],e=>O.irr e
 |c::R,e=>by
  show bt e (Pn bt R (if bt c e=true then c else e))=false
  split
  ·rename_i h
   exact O.neg _ _ _ (O.Btn _ _ h) (Av6 O R c)
  ·exact Av6 O R e
theorem Bek(O:Ord bt):∀(R:List α) (m e:α),bt e m=false->Pn bt R m=if bt (Pn bt R e) m=true then Pn bt R e else m
 |[],m,e,h=>by
  show m=if bt e m=true then e else m
  rw[h];rfl
 |c::R,m,e,h=>by
  show Pn bt R (if bt c m=true then c else m)=if bt (Pn bt R (if bt c e=true then c else e)) m=true then Pn bt R (if bt c e=true then c else e) else m
  by_cases h1:bt c m=true
  ·have h2:bt c e=true:=by
    cases q:bt c e with
    |true=>rfl
    |false=>
     have:=O.neg _ _ _ q h
     rw[h1] at this;cases this
   rw[Aq h1,Aq h2]
   have h3:bt (Pn bt R c) m=true:=by
    cases q:bt (Pn bt R c) m with
    |true=>rfl
    |false=>
     have:=O.neg _ _ _ (Av6 O R c) q
     rw[h1] at this;cases this
   rw[Aq h3]
  ·rw[Am h1]
   refine Bek O R m _ ?_
   split
   ·simpa using h1
   ·exact h
def Q9(bt:α->α->Bool)(ok:α->Bool)(L:List α)(e:α):α:=L.foldl (λm c=>if bt m c=false/\ok c=true then c else m) e
theorem Ax8(bt:α->α->Bool):∀(R:List α) (e:α),Pn bt R e=e\/Pn bt R e∈R
 |[],e=>.inl rfl
 |c::R,e=>by
  show Pn bt R (if bt c e=true then c else e)=e\/_
  split
  ·rcases Ax8 bt R c with h|h
   ·exact .inr (by show Pn bt R (if bt c e=true then c else e)∈_;rename_i q;rw[Aq q,h];exact Bl)
   ·exact .inr (by show Pn bt R (if bt c e=true then c else e)∈_;rename_i q;rw[Aq q];exact Bh _ h)
  ·rcases Ax8 bt R e with h|h
   ·exact .inl h
   ·exact .inr (by show Pn bt R (if bt c e=true then c else e)∈_;rename_i q;rw[Am q];exact Bh _ h)
theorem Bko(O:Ord bt)(ok:α->Bool)(e:α)(L:List α)(tie:∀c∈L,bt c e=false->bt e c=false->c=e):Q9 bt ok L e=Pn bt ((L.filter ok).reverse) e:=by
 induction L using Aon with
 |h0=>rfl
 |hs L c ih=>
  have ih:=ih λd hd=>tie d (GP _ hd)
  unfold Q9
  rw[Lk,Gu,Oq]
  show(if bt (Q9 bt ok L e) c=false/\ok c=true then c else Q9 bt ok L e)=_
  rw[ih]
  cases hc:ok c with
  |false=>
   rw[Am (λq=>Bool.noConfusion q.2)]
   rw[Cr,hc,Am Ac]
   rfl
  |true=>
   rw[Cr,hc,Aq rfl]
   show _=Pn bt (c::(L.filter ok).reverse) e
   show _=Pn bt ((L.filter ok).reverse) (if bt c e=true then c else e)
   generalize hR:(L.filter ok).reverse=R
   by_cases h1:bt c e=true
   ·rw[Aq h1,Bek O R c e (O.Btn _ _ h1)]
    cases h2:bt (Pn bt R e) c with
    |false=>rw[Aq ⟨rfl,rfl⟩,Am Ac]
    |true=>rw[Am (λq=>Bool.noConfusion q.1),Aq rfl]
   ·rw[Am h1]
    have h1':bt c e=false:=by simpa using h1
    cases h2:bt (Pn bt R e) c with
    |true=>rw[Am (λq=>Bool.noConfusion q.1)]
    |false=>
     rw[Aq ⟨rfl,rfl⟩]
     have hge:=Av6 O R e
     have c_e:c=e:=tie c (Cu _ Bl) h1' (O.neg _ _ _ hge h2)
     rcases Ax8 bt R e with q|q
     ·rw[q];exact c_e
     ·have hL:Pn bt R e∈L:=by
       have:Pn bt R e∈(L.filter ok).reverse:=hR▸q
       exact(DP.mp (KQ.mp this)).1
      have:=tie _ (GP _ hL) (O.neg _ _ _ h2 h1') hge
      rw[this];exact c_e
end
theorem Agy:∀l:List Item,choices l=Pa l
 |[]=>rfl
 |x::l=>by show(choices l).flatMap _=(Pa l).flatMap _;rw[Agy l]
theorem Aze:∀l:List Coming,choicesC l=Pa l
 |[]=>rfl
 |x::l=>by show(choicesC l).flatMap _=(Pa l).flatMap _;rw[Aze l]
theorem Ahf:Ord better where
 irr:=λa=>by unfold better;simp
 neg:=λa b c h1 h2=>by unfold better at*;simp at*;omega
 Btn:=λa b h=>by unfold better at*;simp at*;omega
theorem Bnz:Ord cheaper where
 irr:=λa=>by unfold cheaper;simp
 neg:=λa b c h1 h2=>by unfold cheaper at*;simp at*;omega
 Btn:=λa b h=>by unfold cheaper at*;simp at*;omega
theorem Bny:Ord betterC where
 irr:=λa=>Ahf.irr _
 neg:=λa b c h1 h2=>Ahf.neg _ _ _ h1 h2
 Btn:=λa b h=>Ahf.Btn _ _ h
theorem As4{α:Type}(p:α->Bool)(l:List α):l.reverse.filter p=(l.filter p).reverse:=Ao0
theorem Bmi(ok:List Item->Bool)(l:List Item):bestOf ok l=Q9 better ok ((chs l).map (·.1)) []:=by
 rw[Bko Ahf]
 ·unfold bestOf Pn
  rw[Agy,Ach,As4,Ld]
 ·intro c _ h1 h2
  unfold better at h1 h2
  simp at h1 h2
  have:worthOf ([]:List Item)=0:=rfl
  rw[this] at h1 h2
  exact h2.2 (by omega)
theorem Bph(b:Bounds)(l:List Coming):bestC b l=Q9 betterC (canAll b) ((chs l).map (·.1)) []:=by
 rw[Bko Bny]
 ·unfold bestC Pn
  rw[Aze,Ach,As4,Ld]
 ·intro c _ h1 h2
  unfold betterC better at h1 h2
  simp at h1 h2
  have:worthOf ([]:List Item)=0:=rfl
  rw[this] at h1 h2
  exact h2.2 (by omega)
theorem Aqd{b:Bounds}{x:Item}{l:List Item}(n:ND l)(ok:Xv b x l=true):
  cheapest b x l=some (Q9 cheaper (λg=>fits b (x::minus l g)) ((chs (mayGo x l)).map (·.1)) (mayGo x l)):=by
 rw[Bko Bnz]
 ·rw[Ach,As4,Ld]
  unfold cheapest ways
  rw[Agy]
  obtain⟨r,e⟩:=Aqe (mayGo x l)
  rw[e]
  have h:fits b (x::minus l (mayGo x l))=true:=by
   rw[Av1 n]
   unfold Xv at ok
   rw[<-QJ b (Dt x (ng x l))];exact ok
  rw[Cr,Aq h]
  show some _=some (Pn cheaper (mayGo x l::_) (mayGo x l))
  congr 1
  show _=Pn cheaper _ (if cheaper (mayGo x l) (mayGo x l)=true then mayGo x l else mayGo x l)
  rw[ite_self]
  rfl
 ·intro c hc h1 h2
  obtain⟨d,hd,rfl⟩:=Dv.mp hc
  have s:=(Aoc _ d hd).1
  refine s.eq_of_length ?_
  unfold cheaper at h1 h2
  simp at h1 h2
  have le:=s.length_le
  have:worthOf d.1=worthOf (mayGo x l):=by omega
  have:=h1.2 this
  omega
theorem Aqc{b:Bounds}{x:Item}{l:List Item}(n:ND l)(no:Xv b x l=false):cheapest b x l=none:=by
 have h:ways b x l=[]:=by
  unfold ways
  refine Gk.mpr λg hg f=>?_
  rw[Agy] at hg
  have hg2:g∈(chs (mayGo x l)).map (·.1):=by rw[Ach];exact KQ.mpr hg
  obtain⟨d,hd,rfl⟩:=Dv.mp hg2
  have s:=(Aoc _ d hd).1
  have:fits b (ng x l++[x])=true:=by
   refine Bhv b (k:=x::ng x l) (m:=x::minus l d.1) (Dt _ _) (List.Sublist.cons_cons x ?_) f
   rw[<-Av1 n]
   unfold minus
   have e:Ayx (λy=>!(numbers (mayGo x l)).contains y.num) l=Ayx (λy=>!(numbers (mayGo x l)).contains y.num) (Ayx (λy=>!(numbers d.1).contains y.num) l):=by
    rw[Aso]
    refine Ft λy _=>?_
    simp only [Ef]
    by_cases q:y.num∈numbers d.1
    ·have q2:y.num∈numbers (mayGo x l):=(s.map _).subset q
     simp [q,q2]
    ·simp [q]
   rw[e]
   exact Iv
  unfold Xv at no
  rw[this] at no;cases no
 unfold cheapest
 rw[h]
theorem Bub{x:Item}{l:List Item}(n:ND l){d:List Item×List Item}(hd:d∈chs (mayGo x l)):(x::minus l d.1).Perm (ng x l++[x]++d.2):=by
 have p:=Bv5 _ d hd
 have hp:(ng x l++mg x l).Perm l:=Bsk x l
 have pm:(ng x l++(d.1++d.2)).Perm l:=(p.append_left _).trans (((List.reverse_perm (mg x l)).append_left _).trans hp)
 have nn:ND (ng x l++(d.1++d.2)):=(Lq pm).mpr n
 have h1:(minus (ng x l++(d.1++d.2)) d.1).Perm (minus l d.1):=pm.filter _
 have e2:minus (ng x l++(d.1++d.2)) d.1=ng x l++d.2:=by
  unfold ND at nn
  rw[Bd,Bd] at nn
  obtain⟨_,n2,n3⟩:=JH.mp nn
  obtain⟨_,_,n4⟩:=JH.mp n2
  unfold minus
  rw[Gu,Gu,GC.mpr,Gk.mpr,GC.mpr,KC]
  ·intro y hy
   have:y.num∉numbers d.1:=λhm=>n4 y.num hm y.num (Cw hy) rfl
   simp [this]
  ·intro y hy
   have:y.num∈numbers d.1:=Cw hy
   simp [this]
  ·intro y hy
   have:y.num∉numbers d.1:=λhm=>n3 y.num (Cw hy) y.num (GP _ hm) rfl
   simp [this]
 rw[e2] at h1
 refine(h1.symm.cons x).trans ?_
 rw[Cg]
 exact KY.symm
def ext(ts:List Item):Nat->List Item->List (List Item)
 |0,o=>[o]
 |k+1,o=>(minus ts o).flatMap λt=>ext ts k (o++[t])
def layer(ts:List Item)(O:List (List Item)):List (List Item):=O.flatMap λo=>(minus ts o).map λt=>o++[t]
def layers(ts:List Item):Nat->List (List Item)->List (List Item)
 |0,O=>O
 |k+1,O=>layers ts k (layer ts O)
theorem Bds(ts:List Item):∀(k:Nat) (O:List (List Item)),layers ts k O=O.flatMap (ext ts k)
 |0,O=>by
  show O=O.flatMap λo=>[o]
  rw[List.flatMap_singleton' O]
 |k+1,O=>by
  show layers ts k (layer ts O)=_
  rw[Bds ts k]
  unfold layer
  rw[List.flatMap_assoc]
  congr 1
  funext o
  show((minus ts o).map λt=>o++[t]).flatMap (ext ts k)=(minus ts o).flatMap λt=>ext ts k (o++[t])
  rw[Aw2]
theorem Alk{α β:Type}{f g:α->List β}:∀{l:List α},(∀x∈l,f x=g x)->l.flatMap f=l.flatMap g
 |[],_=>rfl
 |x::l,h=>by rw[GR,GR,h x Bl,Alk λy hy=>h y (Bh _ hy)]
theorem Bh3{ts o:List Item}{t:Item}(n:ND ts)(h:t∈minus ts o):(minus ts (o++[t])).length+1=(minus ts o).length:=by
 rw[<-Az0]
 have nm:ND (minus ts o):=TY (JR ts o) n
 generalize minus ts o=m at h nm
 induction m with
 |nil=>cases h
 |cons a m ih=>
  unfold minus numbers at ih|-
  rw[Cr]
  by_cases e:a.num=t.num
  ·rw[Am (by simp [e])]
   rw[GC.mpr]
   ·rfl
   ·intro y hy
    have:a.num≠y.num:=Bsn nm hy
    rw[e] at this
    simp [Js this]
  ·rw[Aq (by simp [e])]
   have hm:t∈m:=by
    rcases BP.mp h with q|q
    ·exact absurd (by rw[q]) e
    ·exact q
   rw[Ay,Ay,ih hm (Vc nm)]
theorem Bc1{ts:List Item}(n:ND ts):∀(k:Nat) (o:List Item),(minus ts o).length=k->ext ts k o=(ordersOf k (minus ts o)).map (o++·)
 |0,o,_=>by
  show [o]=[o++[]]
  rw[Ds]
 |k+1,o,h=>by
  have hne:(minus ts o).isEmpty=false:=by
   cases q:minus ts o with
   |nil=>rw[q] at h;cases h
   |cons a r=>rfl
  show(minus ts o).flatMap (λt=>ext ts k (o++[t]))=((if(minus ts o).isEmpty=true then [[]] else(minus ts o).flatMap λx=>(ordersOf k (minus (minus ts o) [x])).map λr=>x::r)).map (o++·)
  rw[hne,Am Ac,Aw3]
  refine Alk λt ht=>?_
  rw[Bc1 n k (o++[t]) (by have:=Bh3 n ht;omega),Az0,Df]
  refine Fv λr _=>?_
  show o++[t]++r=o++t::r
  rw[Cg];rfl
theorem Buq{ts:List Item}(n:ND ts):layers ts ts.length [[]]=ordersOf ts.length ts:=by
 rw[Bds]
 show [[]].flatMap (ext ts ts.length)=_
 rw[GR,Afg,Ds,Bc1 n ts.length [] (by rw[Aoh]),Aoh]
 exact List.map_id' (ordersOf ts.length ts)
end RM
end
section
namespace RM
open Vbdtag VbdtCore
def cm:List Nat->Nat->Nat->Option (Nat×Nat)
 |[],_,_=>none
 |d::l,left,k=>if left<=d*k then some (left,k) else cm l (left-d) (k-1)
def Pb(L K a:Nat):Frac:=if a*K<=L then whole (a:Int) else frac (L:Int) K
theorem Atc(a b:Nat):less (whole (a:Int)) (whole (b:Int))=decide (a<b):=by
 unfold less whole
 simp
theorem Atf{a b:Nat}(h:a<=b):most (whole (a:Int)) (whole (b:Int))=whole (b:Int):=by
 unfold most
 rw[Atc]
 split
 ·rfl
 ·rename_i q
  have:a=b:=by simp at q;omega
  rw[this]
theorem Bm5(d k:Nat)(hk:0<k):frac ((k*d:Nat):Int) k=whole (d:Int):=by
 unfold frac whole
 rw[Am (by omega)]
 have g:Y4 (((k*d:Nat):Int)).natAbs k=k:=by
  rw[Asm]
  exact Nat.gcd_eq_right (Nat.dvd_mul_right k d)
 simp only [g]
 have h1:((k*d:Nat):Int)/((k:Nat):Int)=(d:Int):=by
  rw[Nr]
  exact Ad3 _ (by omega)
 rw[h1,Nat.div_self hk]
theorem Buc(L K a:Nat)(hk:0<K):less (frac (L:Int) K) (whole (a:Int))=decide (L<a*K):=by
 unfold less frac whole
 rw[Am (by omega)]
 have hg:0<Y4 L K:=Ad5 L hk
 obtain⟨u,hu⟩:=Nat.gcd_dvd_left L K
 obtain⟨v,hv⟩:=Nat.gcd_dvd_right L K
 rw[Asm]
 generalize Y4 L K=g at hg hu hv
 have e1:((L:Nat):Int)/(g:Int)=(u:Int):=by
  rw[hu,Nr]
  exact Ad3 _ (by omega)
 have e2:K/g=v:=by rw[hv];exact Nat.mul_div_cancel_left v hg
 simp only [e1,e2]
 refine Ju.mpr ?_
 rw[hu,hv]
 have:a*(g*v)=g*(a*v):=by rw[<-Nat.mul_assoc,Y5 a g,Nat.mul_assoc]
 rw[this]
 constructor
 ·intro h
  refine Nat.mul_lt_mul_of_pos_left ?_ hg
  have h':(u:Int)*1<(a:Int)*(v:Int):=h
  rw[Ayv,<-Nr] at h'
  omega
 ·intro h
  have h2:u<a*v:=Abs h
  show(u:Int)*1<(a:Int)*(v:Int)
  rw[Ayv,<-Nr]
  omega
def Bfm(l:List Nat):Prop:=l.Pairwise λx y=>x<=y
theorem Bnn:∀(l:List Nat) (d:Nat),(∀x∈l,d<=x)->levelOf l (l.length*d) l.length (whole (d:Int))=whole (d:Int)
 |[],d,_=>rfl
 |x::l,d,h=>by
  have hx:d<=x:=h x Bl
  unfold levelOf
  split
  ·rw[Ay];exact Bm5 d _ (Aus _)
  ·rename_i q
   have e:x=d:=by
    rw[Ay] at q
    have:(l.length+1)*d≥(l.length+1)*x:=by omega
    have:=Abr this (Aus _)
    omega
   subst e
   rw[Atf (Bu _),Ay]
   have e1:(l.length+1)*x-x=l.length*x:=by rw[PX];omega
   rw[e1]
   exact Bnn l x λy hy=>h y (Bh _ hy)
theorem Bdt:∀(l:List Nat) (left e:Nat) (a:Nat),Bfm l->(∀x∈l,e<=x)->
  least (whole (a:Int)) (levelOf l left l.length (whole (e:Int)))=match cm l left l.length with
   |some p=>Pb p.1 p.2 a
   |none=>least (whole (a:Int)) (whole ((l.getLastD e:Nat):Int))
 |[],left,e,a,_,_=>rfl
 |d::l,left,e,a,r,h=>by
  have hd:e<=d:=h d Bl
  have hl:=(DQ.mp r).1
  unfold cm levelOf
  have ml:(d::l).length*d=d*(d::l).length:=Y5 _ _
  by_cases h1:left<=d*(d::l).length
  ·rw[Aq h1]
   have hk:0<(d::l).length:=Aus _
   show _=Pb left (d::l).length a
   by_cases h2:left<(d::l).length*d
   ·rw[Aq h2]
    unfold least Pb
    rw[Buc _ _ _ hk]
    by_cases h3:a*(d::l).length<=left
    ·rw[Aq h3,Am (by simp only [Cj];omega)]
    ·rw[Am h3,Aq (Aj (by omega))]
   ·rw[Am h2]
    have e0:left=(d::l).length*d:=by omega
    have e1:left-d=l.length*d:=by rw[e0,Ay,PX];omega
    have e2:(d::l).length-1=l.length:=rfl
    rw[e1,e2,Atf hd,Bnn l d hl]
    unfold least Pb
    rw[Atc,e0]
    by_cases h3:a*(d::l).length<=(d::l).length*d
    ·rw[Aq h3,Am]
     have:a<=d:=by
      rw[Y5 a] at h3
      exact Abr h3 hk
     simp only [Cj];omega
    ·rw[Am h3,Aq,Bm5 d _ hk]
     refine Aj ?_
     rw[Y5 a] at h3
     have:(d::l).length*d<(d::l).length*a:=by omega
     exact Abs this
  ·rw[Am h1,Am (by omega),Atf hd]
   have e2:(d::l).length-1=l.length:=rfl
   rw[e2]
   have ih:=Bdt l (left-d) d a (DQ.mp r).2 hl
   rw[ih]
   cases l with
   |nil=>rfl
   |cons y l=>rfl
theorem Bof(x:Nat):∀l:List Nat,Bfm l->Bfm (insertBy (λx y=>decide (x<y)) x l)
 |[],_=>Ua ..
 |y::l,r=>by
  unfold insertBy
  split
  ·rename_i h
   have h:=Ec h
   refine DQ.mpr ⟨λz hz=>?_,r⟩
   rcases BP.mp hz with e|hz
   ·omega
   ·have:=(DQ.mp r).1 z hz;omega
  ·rename_i h
   have h:¬x<y:=λq=>h (Aj q)
   refine DQ.mpr ⟨λz hz=>?_,Bof x l (DQ.mp r).2⟩
   rcases BP.mp ((Alp _ x l).mem_iff.mp hz) with e|hz
   ·omega
   ·exact(DQ.mp r).1 z hz
theorem Ans(l:List Nat):Bfm (rising l):=by
 have go:∀(l a:List Nat),Bfm a->Bfm (l.foldl (λa x=>insertBy (λx y=>decide (x<y)) x a) a):=by
  intro l
  induction l with
  |nil=>intro a r;exact r
  |cons x l ih=>intro a r;exact ih _ (Bof x a r)
 exact go l [] Gp
theorem Bae{l m:List Nat}(p:l.Perm m)(a:Bfm l)(b:Bfm m):l=m:=Ad4 (le:=λx y=>x<=y) (λx y _ _ h1 h2=>Bat h1 h2) a b p
theorem Btt(room:Nat)(l S:List Nat)(p:S.Perm l)(r:Bfm S)(m:Nat)(hm:∀x∈l,x<=m)(hmem:m∈l):
  fair room l=l.map (Pb ((cm S room l.length).getD (m,1)).1 ((cm S room l.length).getD (m,1)).2):=by
 have e:rising l=S:=Bae ((Ke _ l).trans p.symm) (Ans l) r
 unfold fair
 simp only [e]
 refine Fv λa ha=>?_
 have hlen:l.length=S.length:=p.length_eq.symm
 rw[hlen]
 have:=Bdt S room 0 a r λx _=>Hh _
 show least (whole (a:Int)) (levelOf S room S.length (whole ((0:Nat):Int)))=_
 rw[this]
 cases h:cm S room S.length with
 |some q=>rfl
 |none=>
  show least _ _=Pb m 1 a
  have am:a<=m:=hm a ha
  have last:a<=S.getLastD 0:=by
   have hs:a∈S:=p.mem_iff.mpr ha
   have hne:S≠[]:=λq=>by rw[q] at hs;cases hs
   rw[List.getLastD_eq_getLast?,List.getLast?_eq_some_getLast hne,Aw9]
   obtain⟨i,hi,e⟩:=List.getElem_of_mem hs
   rw[List.getLast_eq_getElem,<-e]
   by_cases q:i=S.length-1
   ·subst q;exact Bu _
   ·exact Abq.mp r i (S.length-1) hi (by omega) (by omega)
  unfold least Pb
  rw[Atc,Am (by simp only [Cj];omega),Aq (by omega)]
theorem Bv6:∀(l:List Nat) (left k:Nat) (p:Nat×Nat),l.length<=k->cm l left k=some p->0<p.2/\p.2<=k/\p.1<=left
 |[],_,_,_,_,h=>by cases h
 |d::l,left,k,p,hk,h=>by
  unfold cm at h
  split at h
  ·cases h
   rw[Ay] at hk
   exact⟨by show 0<k;omega,Bu _,Bu _⟩
  ·rw[Ay] at hk
   obtain⟨a,b,c⟩:=Bv6 l (left-d) (k-1) p (by omega) h
   exact⟨a,by omega,by omega⟩
def cuts(w:Nat)(l:List Int):List (List Int):=(FJ ((l.length+w-1)/w)).map λi=>(l.drop (i*w)).take w
theorem Bmt(w:Nat)(hw:0<w):cuts w []=[]:=by
 unfold cuts
 have:([]:List Int).length+w-1=w-1:=by rw[Ie];omega
 rw[this,Afj (by omega)]
 rfl
theorem Bhq{w:Nat}(hw:0<w){a l:List Int}(ha:a.length=w):cuts w (a++l)=a::cuts w l:=by
 unfold cuts
 rw[Bg,ha]
 have e:(w+l.length+w-1)/w=(l.length+w-1)/w+1:=by
  have:w+l.length+w-1=(l.length+w-1)+w:=by omega
  rw[this,Ab1 _ hw]
 rw[e,List.range_succ_eq_map,Bo,Df]
 congr 1
 ·rw[Nat.zero_mul,Ri,<-ha,List.take_left]
 ·refine Fv λi _=>?_
  show((a++l).drop ((i+1)*w)).take w=(l.drop (i*w)).take w
  congr 1
  have:(i+1)*w=a.length+i*w:=by rw[PX,ha];omega
  rw[this,List.drop_append]
  rw[Jp (by omega),KC]
  congr 1;omega
theorem Nb{w:Nat}{l:List Int}(h0:l≠[])(h:l.length<w):cuts w l=[l]:=by
 unfold cuts
 have hl:0<l.length:=Ao1.mpr h0
 have e:(l.length+w-1)/w=1:=by
  have:l.length+w-1=(l.length-1)+w:=by omega
  rw[this,Ab1 _ (by omega),Afj (by omega)]
 rw[e]
 show [((l.drop (0*w)).take w)]=[l]
 rw[Nat.zero_mul,Ri,Mj (by omega)]
def Xy:List Int->Bool
 |[n,s,r,e,d,w]=>isThing n s r e d w
 |_=>false
def Ii:List Int->Item
 |[n,s,r,e,d,w]=>thing n s r e d w
 |_=>thing 0 0 0 0 0 0
def Ahb:List Int->Bool
 |[a,n,s,r,e,d,w]=>isBetween a 0 100000&&(decide (a<e)&&isThing n s r e d w)
 |_=>false
def Te:List Int->Coming
 |[a,n,s,r,e,d,w]=>⟨a.toNat,thing n s r e d w⟩
 |_=>⟨0,thing 0 0 0 0 0 0⟩
instance (l:List Item):Decidable (ND l):=by unfold ND;infer_instance
theorem X3:∀l:List Int,thingsIn l=if((cuts 6 l).all Xy=true/\ND ((cuts 6 l).map Ii)) then some ((cuts 6 l).map Ii) else none
 |[]=>by
  rw[Bmt 6 (by decide)]
  rfl
 |n::s::r::e::d::w::l=>by
  have ec:cuts 6 (n::s::r::e::d::w::l)=[n,s,r,e,d,w]::cuts 6 l:=Bhq (w:=6) (by decide) (a:=[n,s,r,e,d,w]) rfl
  rw[ec]
  unfold thingsIn
  rw[X3 l]
  by_cases h:(cuts 6 l).all Xy=true/\ND ((cuts 6 l).map Ii)
  ·rw[Aq h]
   show(if isThing n s r e d w=true/\(numbers ((cuts 6 l).map Ii)).contains n.toNat=false then some (thing n s r e d w::(cuts 6 l).map Ii) else none)=_
   by_cases h1:isThing n s r e d w=true/\(numbers ((cuts 6 l).map Ii)).contains n.toNat=false
   ·rw[Aq h1,Aq]
    ·rfl
    ·refine⟨?_,?_⟩
     ·rw[Jj,h.1,Oc];exact h1.1
     ·show((thing n s r e d w).num::((cuts 6 l).map Ii).map λx=>x.num).Nodup
      rw[Gj]
      refine⟨?_,h.2⟩
      have:=h1.2
      rw[Ef] at this
      exact Qo this
   ·rw[Am h1,Am]
    rintro⟨a,b⟩
    rw[Jj,Cm] at a
    refine h1 ⟨a.1,?_⟩
    have b':((thing n s r e d w).num::((cuts 6 l).map Ii).map λx=>x.num).Nodup:=b
    rw[Gj] at b'
    rw[Ef]
    exact Bf b'.1
  ·rw[Am h,Am]
   ·rfl
   ·rintro⟨a,b⟩
    rw[Jj,Cm] at a
    exact h ⟨a.2,Vc b⟩
 |[a]=>by rw[Nb (by simp) (by simp)];rfl
 |[a,b]=>by rw[Nb (by simp) (by simp)];rfl
 |[a,b,c]=>by rw[Nb (by simp) (by simp)];rfl
 |[a,b,c,d]=>by rw[Nb (by simp) (by simp)];rfl
 |[a,b,c,d,e]=>by rw[Nb (by simp) (by simp)];rfl
def NDC(l:List Coming):Prop:=ND (l.map λx=>x.item)
instance (l:List Coming):Decidable (NDC l):=by unfold NDC;infer_instance
theorem U0:∀l:List Int,comingsIn l=if((cuts 7 l).all Ahb=true/\NDC ((cuts 7 l).map Te)) then some ((cuts 7 l).map Te) else none
 |[]=>by
  rw[Bmt 7 (by decide)]
  rfl
 |a::n::s::r::e::d::w::l=>by
  have ec:cuts 7 (a::n::s::r::e::d::w::l)=[a,n,s,r,e,d,w]::cuts 7 l:=Bhq (w:=7) (by decide) (a:=[a,n,s,r,e,d,w]) rfl
  rw[ec]
  unfold comingsIn
  rw[U0 l]
  have em:∀m:List Coming,(m.map λx=>x.item.num)=(m.map λx=>x.item).map λx=>x.num:=λm=>by rw[Df];rfl
  by_cases h:(cuts 7 l).all Ahb=true/\NDC ((cuts 7 l).map Te)
  ·rw[Aq h]
   show(if isBetween a 0 100000=true/\a<e/\isThing n s r e d w=true/\(((cuts 7 l).map Te).map λx=>x.item.num).contains n.toNat=false then some (⟨a.toNat,thing n s r e d w⟩::(cuts 7 l).map Te) else none)=_
   by_cases h1:isBetween a 0 100000=true/\a<e/\isThing n s r e d w=true/\(((cuts 7 l).map Te).map λx=>x.item.num).contains n.toNat=false
   ·rw[Aq h1,Aq]
    ·rfl
    ·obtain⟨p1,p2,p3,p4⟩:=h1
     refine⟨?_,?_⟩
     ·rw[Jj,h.1,Oc]
      show(isBetween a 0 100000&&(decide (a<e)&&isThing n s r e d w))=true
      rw[p1,p3,Aj p2];rfl
     ·show((thing n s r e d w).num::(((cuts 7 l).map Te).map λx=>x.item).map λx=>x.num).Nodup
      rw[Gj]
      refine⟨?_,h.2⟩
      rw[Ef,em] at p4
      exact Qo p4
   ·rw[Am h1,Am]
    rintro⟨a',b⟩
    rw[Jj,Cm] at a'
    have q:(isBetween a 0 100000&&(decide (a<e)&&isThing n s r e d w))=true:=a'.1
    rw[Cm,Cm] at q
    refine h1 ⟨q.1,Ec q.2.1,q.2.2,?_⟩
    have b':((thing n s r e d w).num::(((cuts 7 l).map Te).map λx=>x.item).map λx=>x.num).Nodup:=b
    rw[Gj] at b'
    rw[Ef,em]
    exact Bf b'.1
  ·rw[Am h,Am]
   ·rfl
   ·rintro⟨a',b⟩
    rw[Jj,Cm] at a'
    exact h ⟨a'.2,Vc b⟩
 |[a]=>by rw[Nb (by simp) (by simp)];rfl
 |[a,b]=>by rw[Nb (by simp) (by simp)];rfl
 |[a,b,c]=>by rw[Nb (by simp) (by simp)];rfl
 |[a,b,c,d]=>by rw[Nb (by simp) (by simp)];rfl
 |[a,b,c,d,e]=>by rw[Nb (by simp) (by simp)];rfl
 |[a,b,c,d,e,f]=>by rw[Nb (by simp) (by simp)];rfl
end RM
end
section
namespace RM
open Vbdtag VbdtCore
structure IOk(x:Item):Prop where
 num:x.num<=1000
 Bx8:1<=x.size
 size:x.size<=50
 rank:x.rank<10
 last:x.last<=100000
 sender:x.sender<8
 worth:x.worth<=1000
theorem Alq{n s r e d w:Int}:isThing n s r e d w=true↔(0<=n/\n<=999)/\(1<=s/\s<=50)/\(0<=r/\r<=9)/\(1<=e/\e<=100000)/\(0<=d/\d<=7)/\(0<=w/\w<=1000):=by
 unfold isThing isBetween
 simp only [Cm,Cj]
theorem Aws{n s r e d w:Int}(h:isThing n s r e d w=true):IOk (thing n s r e d w):=by
 obtain⟨h1,h2,h3,h4,h5,h6⟩:=Alq.mp h
 constructor<;>(unfold thing;dsimp only;omega)
theorem Bnr{p:List Int}(h:Xy p=true):IOk (Ii p):=by
 match p,h with
 |[n,s,r,e,d,w],h=>exact Aws h
theorem Bqa{p:List Int}(h:Ahb p=true):IOk (Te p).item:=by
 match p,h with
 |[a,n,s,r,e,d,w],h=>
  have q:(isBetween a 0 100000&&(decide (a<e)&&isThing n s r e d w))=true:=h
  rw[Cm,Cm] at q
  exact Aws q.2.2
theorem Ayr(b:Bounds):∀(q T gone:List Item),fits b T=true->fits b (walk b T gone q).1=true
 |[],T,gone,h=>h
 |y::q,T,gone,h=>by
  unfold walk
  split
  ·rename_i q';exact Ayr b q _ _ q'
  ·exact Ayr b q _ _ h
def after(b:Bounds)(l:List Item)(x:Item):List Item:=if Xv b x l=true then sortBy stronger (minus l (GZ b x l)++[x]) else l
theorem Bdk(b:Bounds)(x:Item)(l:List Item):(GZ b x l).Sublist (mg x l):=by
 obtain⟨r,e,s⟩:=Aov b (mg x l) (ng x l++[x]) []
 unfold GZ
 rw[e,KC];exact s
theorem Alc{b:Bounds}{x:Item}{l:List Item}(n:ND (x::l))(s:Sd l):comes b l x=after b l x:=by
 unfold comes after
 cases h:Xv b x l with
 |false=>rw[Atp (Vc n) h];rfl
 |true=>
  obtain⟨m,e,sd,p,_⟩:=Atq n s h
  rw[e,Aq rfl]
  show m=_
  have p2:m.Perm (minus l (GZ b x l)++[x]):=p.trans (Dt _ _).symm
  have nm:ND (minus l (GZ b x l)++[x]):=(Lq ((Dt x _).trans (.refl _))).mpr (TY ((JR l _).cons_cons x) n)
  exact Aor (p2.trans (Ke _ _).symm) sd (Agd nm)
theorem An9{b:Bounds}{x y:Item}{l:List Item}(h:y∈after b l x):y=x\/y∈l:=by
 unfold after at h
 split at h
 ·have:=(Ke _ _).mem_iff.mp h
  rcases Bw.mp this with q|q
  ·exact .inr (Bui.mp q).1
  ·exact .inl (Bj.mp q)
 ·exact .inr h
theorem Ak4{b:Bounds}{x:Item}{l:List Item}(n:ND (x::l)):ND (after b l x):=by
 unfold after
 split
 ·refine(Lq ((Ke _ _).trans (Dt x _))).mpr ?_
  exact TY ((JR l _).cons_cons x) n
 ·exact Vc n
theorem Ak5{b:Bounds}{x:Item}{l:List Item}(n:ND (x::l))(s:Sd l):Sd (after b l x):=by
 unfold after
 split
 ·refine Agd ((Lq (Dt x _)).mpr ?_)
  exact TY ((JR l _).cons_cons x) n
 ·exact s
theorem Bpf{b:Bounds}{x:Item}{l:List Item}(n:ND (x::l))(s:Sd l)(f:fits b l=true):fits b (after b l x)=true:=by
 unfold after
 cases h:Xv b x l with
 |false=>rw[Am Ac];exact f
 |true=>
  rw[Aq rfl,QJ b ((Ke _ _).trans (Dt x _))]
  have pw:=Aow b (mg x l) (ng x l++[x]) []
  rw[Ds] at pw
  have px:(ng x l++[x]++mg x l).Perm (x::l):=by
   rw[Cg]
   exact(KY).trans ((Bsk x l).cons x)
  have Bn1:=pw.trans px
  have sl:(GZ b x l).Sublist l:=(Bdk b x l).trans Iv
  have nl:=Vc n
  have p1:(minus l (GZ b x l)++GZ b x l).Perm l:=by
   have h1:=Aas nl λy=>decide (y∈GZ b x l)
   rw[Pg sl (Afx nl)] at h1
   rw[h1]
   have:=Lj (λy=>decide (y∈GZ b x l)) l
   rw[Pg sl (Afx nl)] at this
   exact Ni.trans this
  have p2:((walk b (ng x l++[x]) [] (mg x l)).1++GZ b x l).Perm (x::minus l (GZ b x l)++GZ b x l):=Bn1.trans (p1.symm.cons x)
  have p3:=(ZW (GZ b x l)).mp p2
  rw[<-QJ b p3]
  exact Ayr b _ _ _ h
theorem Axf{b:Bounds}{x:Item}{l:List Item}:(after b l x).length<=l.length+1:=by
 unfold after
 split
 ·rw[(Ke _ _).length_eq,Bg]
  have:=(JR l (GZ b x l)).length_le
  show _+1<=_
  omega
 ·omega
theorem Br0{b:Bounds}:∀(r l p:List Item),ND (p++r)->(∀y∈l,y∈p)->ND l->Sd l->r.foldl (comes b) l=r.foldl (after b) l
 |[],l,p,_,_,_,_=>rfl
 |x::r,l,p,n,hp,nl,sl=>by
  have px:x.num∉l.map λy=>y.num:=λhm=>by
   obtain⟨y,hy,e⟩:=Dv.mp hm
   unfold ND at n
   rw[Bd] at n
   exact(JH.mp n).2.2 y.num (Cw (hp y hy)) x.num (by rw[Bo];exact Bl) e
  have nx:ND (x::l):=by
   unfold ND
   rw[Bo,Gj]
   exact⟨px,nl⟩
  rw[J7,J7,Alc nx sl]
  refine Br0 r _ (p++[x]) (by rw[Cg];exact n) (λy hy=>?_) (Ak4 nx) (Ak5 nx sl)
  rcases An9 hy with e|q
  ·exact Cu _ (by rw[e];exact Bj.mpr rfl)
  ·exact GP _ (hp y q)
theorem Axn{b:Bounds}{l:List Item}(n:ND l):keptOf b l=l.foldl (after b) []:=Br0 l [] [] n (λy hy=>nomatch hy) Gp Gp
theorem Ai2{b:Bounds}:∀(r l:List Item) (y:Item),y∈r.foldl (after b) l->y∈l\/y∈r
 |[],l,y,h=>.inl h
 |x::r,l,y,h=>by
  rw[J7] at h
  rcases Ai2 r _ y h with q|q
  ·rcases An9 q with e|q
   ·exact .inr (by rw[e];exact Bl)
   ·exact .inl q
  ·exact .inr (Bh _ q)
theorem Bw3{b:Bounds}{l:List Item}(n:ND l){y:Item}(h:y∈keptOf b l):y∈l:=by
 rw[Axn n] at h
 rcases Ai2 l [] y h with q|q
 ·cases q
 ·exact q
theorem Az1{ts:List Item}(n:ND ts):∀{l m:List Item},(∀x∈l,x∈ts)->(∀x∈m,x∈ts)->numbers l=numbers m->l=m
 |[],[],_,_,_=>rfl
 |[],_::_,_,_,h=>by unfold numbers at h;cases h
 |_::_,[],_,_,h=>by unfold numbers at h;cases h
 |x::l,y::m,hl,hm,h=>by
  unfold numbers at h
  rw[Bo,Bo,List.cons.injEq] at h
  rw[Bj5 n (hl x Bl) (hm y Bl) h.1,Az1 n (λz hz=>hl z (Bh _ hz)) (λz hz=>hm z (Bh _ hz)) h.2]
theorem Azw(b:Bounds)(l:List Item):greedy b l=(sortBy stronger l).foldl (λm x=>if fits b (m++[x])=true then m++[x] else m) []:=by
 unfold greedy
 congr 1
 funext m x
 rw[QJ b (Dt x m)]
theorem Avz{l:List Item}(n:ND l)(t:Nat):minus l (l.filter λy=>decide (y.last<=t))=living t l:=by
 rw[Aas n]
 unfold living
 refine Ft λx _=>?_
 by_cases h:x.last<=t
 ·rw[Aj h,Bf (by omega)];rfl
 ·rw[Bf h,Aj (by omega)];rfl
def runK(b:Bounds):List Coming->List Item->List Item->List Item×List Item
 |[],l,done=>(done,l)
 |x::r,l,done=>runK b r (after b (minus l (l.filter λy=>decide (y.last<=x.at_))) x.item) (done++l.filter λy=>decide (y.last<=x.at_))
theorem Boi{b:Bounds}:∀(r:List Coming) (l done p:List Item),ND (p++r.map λx=>x.item)->(∀y∈l,y∈p)->ND l->Sd l->runC b r l done=(runK b r l done).1++(runK b r l done).2
 |[],l,done,p,_,_,_,_=>rfl
 |x::r,l,done,p,n,hp,nl,sl=>by
  unfold runC runK
  dsimp only
  rw[Avz nl]
  have sub:(living x.at_ l).Sublist l:=Iv
  have px:x.item.num∉(living x.at_ l).map λy=>y.num:=λhm=>by
   obtain⟨y,hy,e⟩:=Dv.mp hm
   unfold ND at n
   rw[Bd,Bo,Bo] at n
   exact(JH.mp n).2.2 y.num (Cw (hp y (sub.subset hy))) x.item.num Bl e
  have nx:ND (x.item::living x.at_ l):=by
   unfold ND
   rw[Bo,Gj]
   exact⟨px,TY sub nl⟩
  have sx:Sd (living x.at_ l):=QT sub sl
  rw[Alc nx sx]
  refine Boi r _ _ (p++[x.item]) (by rw[Cg];exact n) (λy hy=>?_) (Ak4 nx) (Ak5 nx sx)
  rcases An9 hy with e|q
  ·exact Cu _ (by rw[e];exact Bj.mpr rfl)
  ·exact GP _ (hp y (sub.subset q))
theorem key_unique{α:Type}(k:α->Nat):∀{l m:List α},l.Pairwise (λa b=>k a<=k b)->m.Pairwise (λa b=>k a<=k b)->(∀c,l.filter (λa=>decide (k a=c))=m.filter λa=>decide (k a=c))->l=m
 |[],[],_,_,_=>rfl
 |[],b::m,_,_,h=>by
  have:=h (k b)
  rw[Cr,Aq (Aj rfl)] at this
  cases this
 |a::l,[],_,_,h=>by
  have:=h (k a)
  rw[Cr,Aq (Aj rfl)] at this
  cases this
 |a::l,b::m,h1,h2,h=>by
  have ha:=DQ.mp h1
  have hb:=DQ.mp h2
  have hk:k a=k b:=by
   have le1:k b<=k a:=by
    have ma:a∈(b::m).filter λz=>decide (k z=k a):=by
     rw[<-h (k a)];exact DP.mpr ⟨Bl,Aj rfl⟩
    rcases BP.mp (DP.mp ma).1 with e|q
    ·rw[e];exact Bu _
    ·exact hb.1 a q
   have le2:k a<=k b:=by
    have mb:b∈(a::l).filter λz=>decide (k z=k b):=by
     rw[h (k b)];exact DP.mpr ⟨Bl,Aj rfl⟩
    rcases BP.mp (DP.mp mb).1 with e|q
    ·rw[e];exact Bu _
    ·exact ha.1 b q
   omega
  have e0:=h (k a)
  rw[Cr,Cr,Aq (Aj rfl),Aq (Aj hk.symm),List.cons.injEq] at e0
  obtain⟨rfl,_⟩:=e0
  rw[key_unique k ha.2 hb.2 λc=>?_]
  have ec:=h c
  rw[Cr,Cr] at ec
  split at ec
  ·exact(List.cons.injEq .. ▸ec).2
  ·exact ec
theorem Bcx(x:Coming):∀l:List Coming,l.Pairwise (λa b=>a.at_<=b.at_)->(insertBy (λx y=>decide (x.at_<y.at_)) x l).Pairwise (λa b=>a.at_<=b.at_)
 |[],_=>Ua ..
 |y::l,r=>by
  unfold insertBy
  split
  ·rename_i h
   have h:=Ec h
   refine DQ.mpr ⟨λz hz=>?_,r⟩
   rcases BP.mp hz with e|hz
   ·rw[e];omega
   ·have:=(DQ.mp r).1 z hz;omega
  ·rename_i h
   have h:¬x.at_<y.at_:=λq=>h (Aj q)
   refine DQ.mpr ⟨λz hz=>?_,Bcx x l (DQ.mp r).2⟩
   rcases BP.mp ((Alp _ x l).mem_iff.mp hz) with e|hz
   ·rw[e];omega
   ·exact(DQ.mp r).1 z hz
theorem Bcy(x:Coming)(c:Nat):∀l:List Coming,l.Pairwise (λa b=>a.at_<=b.at_)->(insertBy (λx y=>decide (x.at_<y.at_)) x l).filter (λa=>decide (a.at_=c))=(l++[x]).filter λa=>decide (a.at_=c)
 |[],_=>rfl
 |y::l,r=>by
  unfold insertBy
  split
  ·rename_i h
   have h:=Ec h
   rw[Cr,Gu]
   by_cases e:x.at_=c
   ·rw[Aq (Aj e)]
    have e1:(y::l).filter (λa=>decide (a.at_=c))=[]:=by
     refine Gk.mpr λz hz=>?_
     have:x.at_<z.at_:=by
      rcases BP.mp hz with q|q
      ·rw[q];exact h
      ·have:=(DQ.mp r).1 z q;omega
     simp only [Cj];omega
    rw[e1]
    show [x]=[]++_
    rw[Cr,Aq (Aj e)];rfl
   ·rw[Am (by simp only [Cj];exact e)]
    rw[Cr (x:=x),Am (by simp only [Cj];exact e)]
    rw[SX,Ds]
  ·show(y::insertBy _ x l).filter _=(y::(l++[x])).filter _
   rw[Cr,Cr,Bcy x c l (DQ.mp r).2]
theorem Bhn(l:List Coming):(byTime l).Pairwise (λa b=>a.at_<=b.at_)/\∀c,(byTime l).filter (λa=>decide (a.at_=c))=l.filter λa=>decide (a.at_=c):=by
 have go:∀(l a:List Coming),a.Pairwise (λa b=>a.at_<=b.at_)->(l.foldl (λa x=>insertBy (λx y=>decide (x.at_<y.at_)) x a) a).Pairwise (λa b=>a.at_<=b.at_)/\
   ∀c,(l.foldl (λa x=>insertBy (λx y=>decide (x.at_<y.at_)) x a) a).filter (λa=>decide (a.at_=c))=(a++l).filter λa=>decide (a.at_=c):=by
  intro l
  induction l with
  |nil=>intro a h;exact⟨h,λc=>by rw[Ds];rfl⟩
  |cons x l ih=>
   intro a h
   obtain⟨i1,i2⟩:=ih _ (Bcx x a h)
   refine⟨i1,λc=>(i2 c).trans ?_⟩
   rw[Gu,Bcy x c a h,<-Gu,Cg]
   rfl
 exact go l [] Gp
theorem Bnv{b:Bounds}{l S:List Coming}(n:NDC l)(p:S.Perm l)(h1:S.Pairwise (λa b=>a.at_<=b.at_))(h2:∀c,S.filter (λa=>decide (a.at_=c))=l.filter λa=>decide (a.at_=c)):
  onlineC b l=(runK b S [] []).1++(runK b S [] []).2:=by
 have e:byTime l=S:=key_unique (λa=>a.at_) (Bhn l).1 h1 λc=>((Bhn l).2 c).trans (h2 c).symm
 unfold onlineC
 rw[e]
 refine Boi S [] [] [] ?_ (λy hy=>nomatch hy) Gp Gp
 exact(Lq (p.map _)).mpr n
end RM
end
section
namespace RM
open Vbdtag VbdtCore
theorem Bev{b:Bounds}{x:Item}{l:List Item}(n:ND (x::l))(s:Sd l):taken b x l=if Xv b x l=true then some (after b l x) else none:=by
 cases h:Xv b x l with
 |false=>rw[Atp (Vc n) h,Am Ac]
 |true=>
  obtain⟨m,e,_⟩:=Atq n s h
  have:=Alc (b:=b) n s
  unfold comes at this
  rw[e] at this
  rw[e,Aq rfl,<-this];rfl
theorem By7{b:Bounds}{x:Item}{l:List Item}(n:ND (x::l))(s:Sd l)(h:Xv b x l=true):gone l (after b l x)=GZ b x l:=by
 obtain⟨m,e,_,_,e2⟩:=Atq n s h
 have:=Bev (b:=b) n s
 rw[e,Aq h] at this
 unfold gone
 rw[<-Ae this];exact e2
structure SOk(s:State):Prop where
 lim:s.bounds.limits.length=10
 nd:ND s.items
 sd:Sd s.items
 ok:∀x∈s.items,IOk x
 fit:fits s.bounds s.items=true
 len:s.items.length<=40
theorem Bos:SOk start:=⟨rfl,Gp,Gp,λ_ h=>(nomatch h),by decide,by decide⟩
theorem Bvx{l:List Item}{x:Item}(n:ND l)(h:(l.any λy=>y.num==x.num)=false):ND (x::l):=by
 unfold ND
 rw[Bo,Gj]
 refine⟨λhm=>?_,n⟩
 obtain⟨y,hy,e⟩:=Dv.mp hm
 have:=At4.mp h y hy
 exact this (Jc.mpr e)
theorem Bu1{s:State}{x:Item}(h:SOk s)(n:ND (x::s.items))(ox:IOk x)(hl:s.items.length<40):SOk {s with items:=after s.bounds s.items x}:=
 ⟨h.lim,Ak4 n,Ak5 n h.sd,λy hy=>by
  rcases An9 hy with e|q
  ·rw[e];exact ox
  ·exact h.ok y q,Bpf n h.sd h.fit,by
  have:=Axf (b:=s.bounds) (x:=x) (l:=s.items)
  show(after s.bounds s.items x).length<=40
  omega⟩
theorem Bk0{s:State}{l:List Item}{t:Nat}(h:SOk s)(hs:l.Sublist s.items):SOk {s with now:=t,items:=l}:=
 ⟨h.lim,TY hs h.nd,QT hs h.sd,λx hx=>h.ok x (hs.subset hx),Bc6 _ hs h.fit,Az hs.length_le h.len⟩
theorem Bqq{s:State}{b:Bounds}(h:SOk s)(hb:b.limits.length=10)(f:fits b s.items=true):SOk {s with bounds:=b}:=⟨hb,h.nd,h.sd,h.ok,f,h.len⟩
def mark(n:Nat)(bd pr:Bool)(z:Item):Item:=if z.num=n then {z with bound:=bd,promised:=pr} else z
theorem Av0(n bd pr z):(mark n bd pr z).num=z.num:=by unfold mark;split<;>rfl
theorem Axz(n bd pr z):(mark n bd pr z).size=z.size:=by unfold mark;split<;>rfl
theorem Aog(n bd pr z):(mark n bd pr z).rank=z.rank:=by unfold mark;split<;>rfl
theorem Axy(n bd pr z):(mark n bd pr z).last=z.last:=by unfold mark;split<;>rfl
theorem Azy(n bd pr z):(mark n bd pr z).sender=z.sender:=by unfold mark;split<;>rfl
theorem Bp9(n bd pr z):(mark n bd pr z).worth=z.worth:=by unfold mark;split<;>rfl
theorem Xf(n bd pr)(p:Item->Bool)(hp:∀z,p (mark n bd pr z)=p z):∀l:List Item,sizeOf_ ((l.map (mark n bd pr)).filter p)=sizeOf_ (l.filter p)
 |[]=>rfl
 |z::l=>by
  have ih:=Xf n bd pr p hp l
  rw[Bo,Cr,Cr,hp]
  unfold sizeOf_ at ih|-
  split
  ·rw[Bo,Bo,Jk,Jk,ih,Axz]
  ·exact ih
theorem Bon{s:State}(n:Nat)(bd pr:Bool)(h:SOk s):SOk {s with items:=s.items.map (mark n bd pr)}:=by
 refine⟨h.lim,?_,?_,?_,?_,?_⟩
 ·show((s.items.map (mark n bd pr)).map λx=>x.num).Nodup
  rw[Df]
  have e:((λx:Item=>x.num)∘mark n bd pr)=λx=>x.num:=funext λz=>Av0 n bd pr z
  rw[e];exact h.nd
 ·refine JK.mpr (h.sd.imp λ{a c} q=>?_)
  unfold stronger at q|-
  rw[Av0,Av0,Aog,Aog,Axy,Axy];exact q
 ·intro x hx
  obtain⟨z,hz,rfl⟩:=Dv.mp hx
  have o:=h.ok z hz
  exact⟨by rw[Av0];exact o.num,by rw[Axz];exact o.Bx8,by rw[Axz];exact o.size,by rw[Aog];exact o.rank,by rw[Axy];exact o.last,by rw[Azy];exact o.sender,by rw[Bp9];exact o.worth⟩
 ·have f:=h.fit
  unfold fits at f|-
  have e0:sizeOf_ (s.items.map (mark n bd pr))=sizeOf_ s.items:=by
   have:=Xf n bd pr (λ_=>true) (λ_=>rfl) s.items
   rwa [GC.mpr λ_ _=>rfl,GC.mpr λ_ _=>rfl] at this
  rw[e0]
  have e1:∀r,sizeOf_ ((s.items.map (mark n bd pr)).filter λx=>decide (x.rank<=r))=sizeOf_ (s.items.filter λx=>decide (x.rank<=r)):=λr=>Xf n bd pr _ (λz=>by rw[Aog]) s.items
  have e2:∀d,sizeOf_ ((s.items.map (mark n bd pr)).filter λx=>x.sender==d)=sizeOf_ (s.items.filter λx=>x.sender==d):=λd=>Xf n bd pr _ (λz=>by rw[Azy]) s.items
  simp only [e1,e2]
  exact f
 ·rw[Aa];exact h.len
theorem Byq{b:Bounds}{x:Item}{l:List Item}(n:ND (x::l))(s:Sd l)(f:fits b l=true)(ox:x.sender<8):
  (if(taken b x l).isSome=true then [] else broken b x l)=brk b (ng x l++[x]):=by
 have nl:=Vc n
 rw[Ah6 nl]
 cases h:Xv b x l with
 |true=>
  rw[Aq rfl]
  have h':fits b (ng x l++[x])=true:=h
  rw[Avq] at h'
  exact(G6.mp (Ec h')).symm
 |false=>
  rw[Am Ac]
  rw[Bml b (Dt x (ng x l))]
  unfold broken brk
  rw[Av1 nl]
  dsimp only
  congr 1
  congr 1
  have other:∀d,d<8->d≠x.sender->¬b.share<sizeOf_ ((x::ng x l).filter λy=>y.sender==d):=λd hd8 hd q=>by
   rw[Cr,Am (by rw[Jc];exact λe=>hd e.symm)] at q
   have:sizeOf_ ((ng x l).filter λy=>y.sender==d)<=sizeOf_ (l.filter λy=>y.sender==d):=Awm (Iv.filter _)
   unfold fits at f
   rw[Cm,Cm,Ep,Ep] at f
   have:=Ec (f.2.2 d (O4.mpr hd8))
   omega
  have e:(FJ 8).filter (λd=>decide (b.share<sizeOf_ ((x::ng x l).filter λy=>y.sender==d)))=(FJ 8).filter λd=>decide (d=x.sender)&&decide (b.share<sizeOf_ ((x::ng x l).filter λy=>y.sender==x.sender)):=by
   refine Ft λd hd=>?_
   by_cases hx:d=x.sender
   ·subst hx;simp
   ·rw[Bf hx,Ib]
    exact Bf (other d (O4.mp hd) hx)
  rw[e]
  have one:∀c:Bool,(FJ 8).filter (λd=>decide (d=x.sender)&&c)=if c=true then [x.sender] else []:=by
   intro c
   cases c with
   |false=>rw[Am Ac];exact Gk.mpr λd _=>by simp
   |true=>
    rw[Aq rfl]
    generalize x.sender=k at ox
    match k,ox with
    |0,_=>rfl
    |1,_=>rfl
    |2,_=>rfl
    |3,_=>rfl
    |4,_=>rfl
    |5,_=>rfl
    |6,_=>rfl
    |7,_=>rfl
  rw[one]
  by_cases q:b.share<sizeOf_ ((x::ng x l).filter λy=>y.sender==x.sender)
  ·rw[Aq q,Aq (Aj q)];rfl
  ·rw[Am q,Am (by simpa using q)];rfl
def Yj(k:Nat):List Item->List Item->List Item
 |[],g=>g
 |x::r,g=>Yj k r (if x.bound=false/\sizeOf_ g<k then g++[x] else g)
theorem Bhy(l:List Item)(k:Nat):weakest l k=Yj k l.reverse []:=by
 have go:∀(r g:List Item),((r.filter λx=>!x.bound).foldl (λ(a:Nat×List Item) x=>if a.1<k then(a.1+x.size,a.2++[x]) else a) (sizeOf_ g,g)).2=Yj k r g:=by
  intro r
  induction r with
  |nil=>intro g;rfl
  |cons x r ih=>
   intro g
   unfold Yj
   rw[Cr]
   cases hb:x.bound with
   |true=>
    rw[Am (by simp),Am (λq=>Bool.noConfusion q.1)]
    exact ih g
   |false=>
    rw[Aq (by simp),J7]
    by_cases h:sizeOf_ g<k
    ·rw[Aq h,Aq ⟨rfl,h⟩]
     have:sizeOf_ g+x.size=sizeOf_ (g++[x]):=by rw[Bx9];unfold sizeOf_;simp
     rw[this]
     exact ih _
    ·rw[Am h,Am (λq=>h q.2)]
     exact ih g
 unfold weakest
 rw[<-go l.reverse [],Ao0]
 rfl
theorem Bge{b:Bounds}{x:Item}{l:List Item}(n:ND l):greatest b x l=((FJ 50).reverse.find? λi=>fits b (ng x l++[{x with size:=i+1}])).elim 0 λi=>i+1:=by
 unfold greatest
 congr 1
 refine congrArg (λp=>(FJ 50).reverse.find? p) (funext λi=>?_)
 rw[Ah6 n]
 rfl
open PyFlat
def un(c:List (List Int)):Int×List Int:=match c with
 |[p::a]=>(p,a)
 |[[p],r]=>(p,r)
 |_=>(0,[])
def mkC(p:Int)(a:List Int):List (List Int):=if [1,17,18,19,20,21,22,25,28].contains p=true then [[p],a] else [p::a]
theorem w_0(x0:Int):CT [[0,x0]]=[[0,x0]]:=rfl
theorem w_1(r:List Int):CT [[1],r]=[[1],r]:=rfl
theorem w_2(x0:Int):CT [[2,x0]]=[[2,x0]]:=rfl
theorem w_3(x0 x1 x2 x3 x4 x5:Int):CT [[3,x0,x1,x2,x3,x4,x5]]=[[3,x0,x1,x2,x3,x4,x5]]:=rfl
theorem w_4(x0 x1 x2 x3 x4 x5:Int):CT [[4,x0,x1,x2,x3,x4,x5]]=[[4,x0,x1,x2,x3,x4,x5]]:=rfl
theorem w_5(x0 x1 x2 x3 x4 x5:Int):CT [[5,x0,x1,x2,x3,x4,x5]]=[[5,x0,x1,x2,x3,x4,x5]]:=rfl
theorem w_6(x0:Int):CT [[6,x0]]=[[6,x0]]:=rfl
theorem w_7(x0 x1:Int):CT [[7,x0,x1]]=[[7,x0,x1]]:=rfl
theorem w_8(x0 x1 x2 x3 x4 x5:Int):CT [[8,x0,x1,x2,x3,x4,x5]]=[[8,x0,x1,x2,x3,x4,x5]]:=rfl
theorem w_9(x0:Int):CT [[9,x0]]=[[9,x0]]:=rfl
theorem Cfh(x0:Int):CT [[10,x0]]=[[10,x0]]:=rfl
theorem Cfi(x0:Int):CT [[11,x0]]=[[11,x0]]:=rfl
theorem Cfj:CT [[12]]=[[12]]:=rfl
theorem Cfk(x0:Int):CT [[13,x0]]=[[13,x0]]:=rfl
theorem Cfl:CT [[14]]=[[14]]:=rfl
theorem Cfm(x0 x1 x2:Int):CT [[15,x0,x1,x2]]=[[15,x0,x1,x2]]:=rfl
theorem Cfn(x0:Int):CT [[16,x0]]=[[16,x0]]:=rfl
theorem Cfo(r:List Int):CT [[17],r]=[[17],r]:=rfl
theorem Cfp(r:List Int):CT [[18],r]=[[18],r]:=rfl
theorem Cfq(r:List Int):CT [[19],r]=[[19],r]:=rfl
theorem Cfr(r:List Int):CT [[20],r]=[[20],r]:=rfl
theorem Cfs(r:List Int):CT [[21],r]=[[21],r]:=rfl
theorem Cft(r:List Int):CT [[22],r]=[[22],r]:=rfl
theorem Cfu(x0:Int):CT [[23,x0]]=[[23,x0]]:=rfl
theorem Cfv:CT [[24]]=[[24]]:=rfl
theorem Cfw(r:List Int):CT [[25],r]=[[25],r]:=rfl
theorem Cfx(x0:Int):CT [[26,x0]]=[[26,x0]]:=rfl
theorem Cfy(x0 x1 x2 x3 x4 x5:Int):CT [[27,x0,x1,x2,x3,x4,x5]]=[[27,x0,x1,x2,x3,x4,x5]]:=rfl
theorem Cfz(r:List Int):CT [[28],r]=[[28],r]:=rfl
theorem Cf0:CT [[29]]=[[29]]:=rfl
def Kr:List Int:=[1,17,18,19,20,21,22,25,28]
def Mz:List Nat:=[1,0,1,6,6,6,1,2,6,1,1,1,0,1,0,3,1,0,0,0,0,0,0,1,0,0,1,6,0,0]
def Bcz(m:Nat):Bool:=match Ek (m:Int) with
 |some q=>(q.2==1&&(q.1==0&&Kr.contains (m:Int)))||(q.2==0&&(!Kr.contains (m:Int)&&Mz[m]?==some q.1))
 |none=>true
theorem Bqp{p:Int}{n k:Nat}(h:Ek p=some (n,k)):0<=p/\p<30/\((k=1/\n=0/\p∈Kr)\/(k=0/\p∉Kr/\Mz[p.toNat]?=some n)):=by
 have hp:0<=p/\p<30:=by
  unfold Ek at h
  refine Classical.byContradiction λq=>?_
  repeat (first|(rw[Am (by omega)] at h)|(cases h;done))
 obtain⟨h0,h1⟩:=hp
 refine⟨h0,h1,?_⟩
 obtain⟨m,rfl⟩:=O1 h0
 have hm:m<30:=by omega
 have key:(FJ 30).all Bcz=true:=by decide
 have:=Ep.mp key m (O4.mpr hm)
 unfold Bcz at this
 rw[h] at this
 simp only [Aif,Cm,Jc,Atz,Ef,Cj,decide_eq_false_iff_not] at this
 exact this
theorem Bo8:∀(m:Nat) (a:List Int),(m:Int)∉Kr->Mz[m]?=some a.length->CT [(m:Int)::a]=[(m:Int)::a]
 |0,a,_,e=>by
  have e:1=a.length:=Ae e
  match a,e with
  |[x0],_=>exact w_0 x0
 |1,_,h,_=>absurd (by decide) h
 |2,a,_,e=>by
  have e:1=a.length:=Ae e
  match a,e with
  |[x0],_=>exact w_2 x0
 |3,a,_,e=>by
  have e:6=a.length:=Ae e
  match a,e with
  |[x0,x1,x2,x3,x4,x5],_=>exact w_3 x0 x1 x2 x3 x4 x5
 |4,a,_,e=>by
  have e:6=a.length:=Ae e
  match a,e with
  |[x0,x1,x2,x3,x4,x5],_=>exact w_4 x0 x1 x2 x3 x4 x5
 |5,a,_,e=>by
  have e:6=a.length:=Ae e
  match a,e with
  |[x0,x1,x2,x3,x4,x5],_=>exact w_5 x0 x1 x2 x3 x4 x5
 |6,a,_,e=>by
  have e:1=a.length:=Ae e
  match a,e with
  |[x0],_=>exact w_6 x0
 |7,a,_,e=>by
  have e:2=a.length:=Ae e
  match a,e with
  |[x0,x1],_=>exact w_7 x0 x1
 |8,a,_,e=>by
  have e:6=a.length:=Ae e
  match a,e with
  |[x0,x1,x2,x3,x4,x5],_=>exact w_8 x0 x1 x2 x3 x4 x5
 |9,a,_,e=>by
  have e:1=a.length:=Ae e
  match a,e with
  |[x0],_=>exact w_9 x0
 |10,a,_,e=>by
  have e:1=a.length:=Ae e
  match a,e with
  |[x0],_=>exact Cfh x0
 |11,a,_,e=>by
  have e:1=a.length:=Ae e
  match a,e with
  |[x0],_=>exact Cfi x0
 |12,a,_,e=>by
  have e:0=a.length:=Ae e
  match a,e with
  |[],_=>exact Cfj
 |13,a,_,e=>by
  have e:1=a.length:=Ae e
  match a,e with
  |[x0],_=>exact Cfk x0
 |14,a,_,e=>by
  have e:0=a.length:=Ae e
  match a,e with
  |[],_=>exact Cfl
 |15,a,_,e=>by
  have e:3=a.length:=Ae e
  match a,e with
  |[x0,x1,x2],_=>exact Cfm x0 x1 x2
 |16,a,_,e=>by
  have e:1=a.length:=Ae e
  match a,e with
  |[x0],_=>exact Cfn x0
 |17,_,h,_=>absurd (by decide) h
 |18,_,h,_=>absurd (by decide) h
 |19,_,h,_=>absurd (by decide) h
 |20,_,h,_=>absurd (by decide) h
 |21,_,h,_=>absurd (by decide) h
 |22,_,h,_=>absurd (by decide) h
 |23,a,_,e=>by
  have e:1=a.length:=Ae e
  match a,e with
  |[x0],_=>exact Cfu x0
 |24,a,_,e=>by
  have e:0=a.length:=Ae e
  match a,e with
  |[],_=>exact Cfv
 |25,_,h,_=>absurd (by decide) h
 |26,a,_,e=>by
  have e:1=a.length:=Ae e
  match a,e with
  |[x0],_=>exact Cfx x0
 |27,a,_,e=>by
  have e:6=a.length:=Ae e
  match a,e with
  |[x0,x1,x2,x3,x4,x5],_=>exact Cfy x0 x1 x2 x3 x4 x5
 |28,_,h,_=>absurd (by decide) h
 |29,a,_,e=>by
  have e:0=a.length:=Ae e
  match a,e with
  |[],_=>exact Cf0
 |m+30,a,_,e=>by rw[IW (by show 30<=m+30;omega)] at e;cases e
theorem Bvj:∀(m:Nat) (r:List Int),(m:Int)∈Kr->CT [[(m:Int)],r]=[[(m:Int)],r]:=by
 intro m r h
 unfold Kr at h
 simp only [BP,KR,or_false] at h
 rcases h with h|h|h|h|h|h|h|h|h
 ·rw[h];exact w_1 r
 ·rw[h];exact Cfo r
 ·rw[h];exact Cfp r
 ·rw[h];exact Cfq r
 ·rw[h];exact Cfr r
 ·rw[h];exact Cfs r
 ·rw[h];exact Cft r
 ·rw[h];exact Cfw r
 ·rw[h];exact Cfz r
theorem Axg{l:List Int}{c:List (List Int)}{t:List Int}(h:Uc Ek l=some (c,t)):
  ∃p r,l=p::r/\0<=p/\p<30/\c=mkC p (un c).2/\(un c).1=p/\
   ((p∈Kr/\∃m r',r=(m:Int)::r'/\0<=m/\m.toNat<=r'.length/\(un c).2=r'.take m.toNat/\t=r'.drop m.toNat)\/
    (p∉Kr/\∃n:Nat,Mz[p.toNat]?=some n/\n<=r.length/\(un c).2=r.take n/\t=r.drop n)):=by
 cases l with
 |nil=>cases h
 |cons p r=>
  unfold Uc at h
  dsimp only at h
  cases hs:Ek p with
  |none=>rw[hs] at h;cases h
  |some q=>
   obtain⟨n,k⟩:=q
   rw[hs] at h
   dsimp only at h
   obtain⟨h0,h1,hk⟩:=Bqp hs
   refine⟨p,r,rfl,h0,h1,?_⟩
   by_cases hn:r.length<n
   ·rw[Aq hn] at h;cases h
   ·rw[Am hn] at h
    rcases hk with⟨rfl,rfl,hr⟩|⟨rfl,hr,hc⟩
    ·rw[Ri,Fb] at h
     unfold rows at h
     cases hrow:row r with
     |none=>rw[hrow] at h;cases h
     |some y=>
      obtain⟨x,u⟩:=y
      rw[hrow] at h
      unfold rows at h
      dsimp only at h
      cases h
      cases r with
      |nil=>cases hrow
      |cons m r'=>
       unfold row at hrow
       dsimp only at hrow
       by_cases hm:0<=m/\m.toNat<=r'.length
       ·rw[Aq hm] at hrow
        cases hrow
        refine⟨?_,rfl,.inl ⟨hr,m,r',rfl,hm.1,hm.2,rfl,rfl⟩⟩
        show _=mkC p (r'.take m.toNat)
        unfold mkC
        rw[Aq (by rw[Ef];exact Aj hr)]
       ·rw[Am hm] at hrow;cases hrow
    ·unfold rows at h
     dsimp only at h
     cases h
     refine⟨?_,rfl,.inr ⟨hr,n,hc,by omega,rfl,rfl⟩⟩
     show _=mkC p (r.take n)
     unfold mkC
     rw[Am (by rw[Ef];exact λq=>hr (Ec q))]
theorem Bpk{l:List Int}{c:List (List Int)}{t:List Int}(h:Uc Ek l=some (c,t)):CT c=c:=by
 obtain⟨p,r,rfl,h0,h1,hc,_,hk⟩:=Axg h
 obtain⟨m,rfl⟩:=O1 h0
 rw[hc]
 unfold mkC
 rcases hk with⟨hr,_⟩|⟨hr,n,hn,hl,e,_⟩
 ·rw[Aq (by rw[Ef];exact Aj hr)]
  exact Bvj m _ hr
 ·rw[Am (by rw[Ef];exact λq=>hr (Ec q))]
  refine Bo8 m _ hr ?_
  rw[e,Er,QC hl]
  exact hn
theorem Aoa{f:Nat}{cs:List (List (List Int))}(h:Gf Ek f []=some cs):cs=[]:=by
 cases f<;>(unfold Gf at h;cases h;rfl)
theorem Bpl{f:Nat}{l:List Int}(hl:l≠[]){cs:List (List (List Int))}(h:Gf Ek f l=some cs):
  ∃f' c t cs',Uc Ek l=some (c,t)/\Gf Ek f' t=some cs'/\cs=c::cs':=by
 cases l with
 |nil=>exact absurd rfl hl
 |cons p r=>
  cases f with
  |zero=>unfold Gf at h;cases h
  |succ f=>
   unfold Gf at h
   cases hc:Uc Ek (p::r) with
   |none=>rw[hc] at h;cases h
   |some y=>
    obtain⟨c,t⟩:=y
    rw[hc] at h
    dsimp only at h
    cases hr:Gf Ek f t with
    |none=>rw[hr] at h;cases h
    |some cs'=>
     rw[hr] at h
     cases h
     exact⟨f,c,t,cs',rfl,hr,rfl⟩
theorem Azd:∀(f:Nat) (l:List Int) (cs:List (List (List Int))),Gf Ek f l=some cs->cs.map CT=cs:=by
 intro f
 induction f with
 |zero=>
  intro l cs h
  cases l with
  |nil=>rw[Aoa h];rfl
  |cons p r=>unfold Gf at h;cases h
 |succ f ih=>
  intro l cs h
  cases l with
  |nil=>rw[Aoa h];rfl
  |cons p r=>
   unfold Gf at h
   cases hc:Uc Ek (p::r) with
   |none=>rw[hc] at h;cases h
   |some y=>
    obtain⟨c,t⟩:=y
    rw[hc] at h
    dsimp only at h
    cases hr:Gf Ek f t with
    |none=>rw[hr] at h;cases h
    |some cs'=>
     rw[hr] at h
     cases h
     rw[Bo,Bpk hc,ih _ _ hr]
theorem Bpg{l:List Int}(h:Mp l=true):∃cs,Gf Ek l.length l=some cs/\cs.length<=400/\V8 l=Acb (Ad8 VbdtagNeutral.step VbdtagNeutral.start cs):=by
 unfold Mp at h
 unfold V8
 have e:Bck l=match Gf Ek l.length l with
   |none=>none
   |some cs=>some (cs.map CT):=rfl
 cases hc:Gf Ek l.length l with
 |none=>
  rw[hc] at e
  rw[e] at h
  exact absurd h (by decide)
 |some cs=>
  rw[hc] at e
  dsimp only at e
  rw[Azd _ _ _ hc] at e
  rw[e] at h|-
  refine⟨cs,rfl,?_,rfl⟩
  have h':(Bfl 400 cs&&YF cs)=true:=h
  rw[Cm] at h'
  exact Ec h'.1
theorem Av2{s:State}{x:Item}{f:State×Answer}(h:SOk s)(hf:ND (x::s.items)->¬x.last<=s.now->s.items.length<40->SOk f.1):SOk (onNew s x f).1:=by
 unfold onNew
 split
 ·exact h
 ·split
  ·exact h
  ·split
   ·exact h
   ·rename_i h1 h2 h3
    refine hf (Bvx h.nd (by simpa using h1)) h2 ?_
    unfold ITEMS at h3;omega
theorem Bhg{s:State}{x:Item}(h:SOk s)(ox:IOk x):SOk (doArrive s x).1:=by
 unfold doArrive
 refine Av2 h λn _ hl=>?_
 rw[Bev n h.sd]
 split
 ·exact h
 ·rename_i l e
  split at e
  ·cases e;exact Bu1 h n ox hl
  ·cases e
theorem Bkw{s:State}{b:Bounds}(h:SOk s)(hb:b.limits.length=10):SOk (setBounds s b).1:=by
 unfold setBounds
 split
 ·rename_i f;exact Bqq h hb f
 ·exact h
theorem Afz{s:State}{n:Int}{f:Item->State×Answer}(h:SOk s)(hf:∀x,find s n=some x->SOk (f x).1):SOk (onItem s n f).1:=by
 unfold onItem
 split
 ·exact h
 ·rename_i x e;exact hf x e
theorem Zf{s:State}{x:Item}(bd pr:Bool)(h:SOk s)(hx:x∈s.items):changed s x {x with bound:=bd,promised:=pr}={s with items:=s.items.map (mark x.num bd pr)}:=by
 unfold changed
 congr 1
 refine Fv λz hz=>?_
 unfold mark
 split
 ·rename_i e;rw[Bj5 h.nd hz hx e]
 ·rfl
theorem Bm3{s:State}{n:Int}{x:Item}(e:find s n=some x):x∈s.items/\x.num=n.toNat:=by
 unfold find at e
 exact⟨RZ e,Jc.mp (Bao (p:=λx:Item=>x.num==n.toNat) e)⟩
theorem Bu5{n s r e d w:Int}(h:isThing n s r e d w=true):IOk {thing n s r e d w with bound:=true,promised:=true}:=by
 have o:=Aws h
 exact⟨o.num,o.Bx8,o.size,o.rank,o.last,o.sender,o.worth⟩
theorem Cba{s:State}(h:SOk s):∀d:Call,inRange d=true->SOk (act s d).1
 |.room n,_=>Bkw h h.lim
 |.limits l,q=>Bkw h (by
   have q:(l.length==10&&l.all λn=>isBetween n 0 200)=true:=q
   rw[Cm,Jc] at q
   show(l.map MK).length=10
   rw[Aa];exact q.1)
 |.share n,_=>Bkw h h.lim
 |.arrive n z r e d w,q=>Bhg h (Aws q)
 |.would n z r e d w,_=>Av2 h λ_ _ _=>h
 |.why n z r e d w,_=>Av2 h λ_ _ _=>h
 |.drop n,_=>Afz h λx _=>by
   skip
   split
   ·exact h
   ·exact Bk0 (t:=s.now) h (JR _ _)
 |.bind n on,_=>Afz h λx e=>by
   skip
   split
   ·exact h
   ·have:=Zf (on==1) x.promised h (Bm3 e).1
    show SOk (changed s x {x with bound:=on==1})
    rw[show({x with bound:=on==1}:Item)={x with bound:=on==1,promised:=x.promised} from rfl,this]
    exact Bon _ _ _ h
 |.promise n z r e d w,q=>Bhg h (Bu5 q)
 |.fulfil n,_=>Afz h λx e=>by
   skip
   split
   ·exact h
   ·show SOk (changed s x {x with bound:=false,promised:=false})
    rw[Zf false false h (Bm3 e).1]
    exact Bon _ _ _ h
 |.cancel n,_=>Afz h λx _=>by
   skip
   split
   ·exact h
   ·exact Bk0 (t:=s.now) h (JR _ _)
 |.tick n,_=>by
   show SOk (if LAST<s.now+n.toNat then no s 3 else _).1
   split
   ·exact h
   ·exact Bk0 h Iv
 |.items,_=>h
 |.item n,_=>Afz h λ_ _=>h
 |.used,_=>h
 |.greatest r e d,_=>h
 |.goes k,_=>h
 |.kept l,_=>h
 |.order l,_=>h
 |.greedy l,_=>h
 |.best l,_=>h
 |.online l,_=>h
 |.known l,_=>h
 |.lasts e,_=>h
 |.senders,_=>h
 |.fair l,_=>h
 |.sure r,_=>h
 |.cheapest n z r e d w,_=>Av2 h λ_ _ _=>by
   split
   ·exact h
   ·exact h
 |.ends l,_=>h
 |.clear,_=>Bos
theorem Cab{s:State}(h:SOk s)(c:List (List Int)):SOk (step s c).1:=by
 unfold step
 split
 ·exact h
 ·rename_i d _
  split
  ·exact h
  ·rename_i q
   exact Cba h d (by simpa using q)
end RM
end
section
namespace RM
open Vbdtag VbdtCore
theorem Aej{l:List Item}{x:Item}(n:ND l)(h:x∈l):(minus l [x]).length+1=l.length:=by
 have:=Bh3 (ts:=l) (o:=[]) n (by rw[Aoh];exact h)
 rw[Aoh] at this
 exact this
theorem Bd1{l:List Item}{x:Item}(n:ND l)(h:x∈l):(x::minus l [x]).Perm l:=by
 have e:minus l [x]=l.filter λy=>!decide (y=x):=by
  unfold minus numbers
  refine Ft λy hy=>?_
  congr 1
  simp only [Bo,Ru,Ef,Bj]
  refine Ju.mpr ⟨λq=>Bj5 n hy h q,λq=>by rw[q]⟩
 rw[e]
 have f:l.filter (λy=>decide (y=x))=[x]:=by
  have hs:[x].Sublist l:=List.singleton_sublist.mpr h
  have:=Pg hs (Afx n)
  rw[<-this]
  refine Ft λy _=>Ju.mpr ⟨λq=>by rw[q];exact Bj.mpr rfl,λq=>Bj.mp q⟩
 have:=Lj (λy=>decide (y=x)) l
 rw[f] at this
 exact this
theorem Al4:∀(f:Nat) (l:List Item),l.length=f->ND l->∀o∈ordersOf f l,o.Perm l
 |0,l,hl,_,o,ho=>by
  have:l=[]:=G6.mp hl
  subst this
  have:o=[]:=Bj.mp ho
  rw[this]
 |f+1,l,hl,n,o,ho=>by
  unfold ordersOf at ho
  have hne:l.isEmpty=false:=by cases l with|nil=>cases hl|cons a r=>rfl
  rw[hne,Am Ac] at ho
  obtain⟨x,hx,ho⟩:=Afh.mp ho
  obtain⟨r,hr,rfl⟩:=Dv.mp ho
  have hlen:=Aej n hx
  have:=Al4 f (minus l [x]) (by omega) (TY (JR _ _) n) r hr
  exact(this.cons x).trans (Bd1 n hx)
theorem Axw(ts:List Item):∀O:List (List Item),(layer ts O).length<=O.length*ts.length
 |[]=>by unfold layer;simp
 |o::O=>by
  have ih:=Axw ts O
  unfold layer at ih|-
  rw[GR,Bg,Aa,Ay,PX]
  have:=(JR ts o).length_le
  omega
end RM
end
section
namespace RM
open Vbdtag VbdtCore
def Brx:Call->Prop
 |.kept _|.order _|.greedy _|.best _|.online _|.known _|.fair _|.ends _=>False
 |_=>True
theorem Aaz(xs:List Item):(numbersRow xs).length=xs.length+1:=by
 unfold numbersRow listRow Hl numbers
 rw[Ay,Aa,Aa]
theorem Bd0(l m:List Item):(minus l m).length<=l.length:=(JR l m).length_le
theorem Bdj(k:Nat):∀r g:List Item,(Yj k r g).length<=r.length+g.length
 |[],g=>by unfold Yj;omega
 |x::r,g=>by
  unfold Yj
  refine Az (Bdj k r _) ?_
  split
  ·rw[Bg,Ay (as:=r)]
   show r.length+(g.length+1)<=_
   omega
  ·rw[Ay];omega
theorem Bh9{α:Type}{bt:α->α->Bool}{ok:α->Bool}:∀(L:List α) (e:α),Q9 bt ok L e=e\/Q9 bt ok L e∈L
 |[],e=>.inl rfl
 |c::L,e=>by
  have ih:=Bh9 (bt:=bt) (ok:=ok) L (if bt e c=false/\ok c=true then c else e)
  have e1:Q9 bt ok (c::L) e=Q9 bt ok L (if bt e c=false/\ok c=true then c else e):=rfl
  rw[e1]
  rcases ih with h|h
  ·rw[h]
   split
   ·exact .inr Bl
   ·exact .inl rfl
  ·exact .inr (Bh _ h)
theorem Bjj{b:Bounds}{x:Item}{l g:List Item}(n:ND l)(h:cheapest b x l=some g):g.length<=l.length:=by
 have hm:(mayGo x l).length<=l.length:=by
  unfold mayGo
  rw[JC]
  exact CQ _ _
 cases ht:Xv b x l with
 |false=>rw[Aqc n ht] at h;cases h
 |true=>
  rw[Aqd n ht] at h
  cases h
  rcases Bh9 (bt:=cheaper) (ok:=λg=>fits b (x::minus l g)) ((chs (mayGo x l)).map (·.1)) (mayGo x l) with e|e
  ·rw[e];exact hm
  ·obtain⟨c,hc,e'⟩:=Dv.mp e
   rw[<-e']
   exact Az (Aoc _ c hc).1.length_le hm
theorem Bpi(b:Bounds)(x:Item)(l:List Item):(broken b x l).length<=12:=by
 unfold broken
 dsimp only
 rw[Bg,Bg,Aa]
 have h1:=CQ (λr=>decide (b.limits.getD r 0<sizeOf_ ((x::minus l (mayGo x l)).filter λy=>decide (y.rank<=r)))) (FJ RANKS)
 have h2:(FJ RANKS).length=10:=by rw[GX];rfl
 split<;>split<;>simp only [Ay,Ie]<;>omega
theorem pairs_len(ps:List (Nat×Nat)):(ps.flatMap λp=>[p.1,p.2]).length=2*ps.length:=by
 induction ps with
 |nil=>rfl
 |cons p r ih=>
  rw[GR,Bg,ih,Ay (as:=r)]
  show 2+_=_
  omega
theorem Aok{s:State}{x:Item}{f:State×Answer}{n:Nat}(hn:1<=n)(h:f.2.length<=n):(onNew s x f).2.length<=n:=by
 unfold onNew
 split
 ·exact hn
 ·split
  ·exact hn
  ·split
   ·exact hn
   ·exact h
theorem Aa2{s:State}{n:Int}{f:Item->State×Answer}{m:Nat}(hn:1<=m)(h:∀x,(f x).2.length<=m):(onItem s n f).2.length<=m:=by
 unfold onItem
 split
 ·exact hn
 ·exact h _
theorem Bkx(s:State)(b:Bounds):(setBounds s b).2.length<=100:=by
 unfold setBounds
 split
 ·show 1<=100;decide
 ·show 1<=100;decide
theorem Brc{s:State}(ok:SOk s)(x:Item):(doArrive s x).2.length<=100:=by
 unfold doArrive
 refine Aok (by decide) ?_
 split
 ·show 1<=100;decide
 ·rename_i l _
  show(1::numbersRow (gone s.items l)).length<=100
  rw[Ay,Aaz]
  have:=Bd0 s.items l
  have h2:=ok.len
  unfold gone
  omega
theorem Byx{s:State}(ok:SOk s):∀d:Call,Brx d->(act s d).2.length<=100
 |.room n,_=>Bkx s _
 |.limits l,_=>Bkx s _
 |.share n,_=>Bkx s _
 |.arrive n z r e d w,_=>Brc ok _
 |.would n z r e d w,_=>by
  refine Aok (by decide) ?_
  show(match taken s.bounds (thing n z r e d w) s.items with
    |none=>[0]
    |some l=>1::numbersRow (gone s.items l):Answer).length<=100
  split
  ·show 1<=100;decide
  ·rename_i l _
   rw[Ay,Aaz]
   have:=Bd0 s.items l
   have h2:=ok.len
   unfold gone
   omega
 |.why n z r e d w,_=>by
  refine Aok (by decide) ?_
  dsimp only
  rw[Ay]
  unfold Hl
  rw[Aa,pairs_len]
  split
  ·show 2*0+1<=100;decide
  ·have:=Bpi s.bounds (thing n z r e d w) s.items
   omega
 |.drop n,_=>Aa2 (by decide) λx=>by split<;>(show 1<=100;decide)
 |.bind n on,_=>Aa2 (by decide) λx=>by split<;>(show 1<=100;decide)
 |.promise n z r e d w,_=>Brc ok _
 |.fulfil n,_=>Aa2 (by decide) λx=>by split<;>(show 1<=100;decide)
 |.cancel n,_=>Aa2 (by decide) λx=>by split<;>(show 1<=100;decide)
 |.tick n,_=>by
  show(if LAST<s.now+n.toNat then no s 3 else _:State×Answer).2.length<=100
  split
  ·show 1<=100;decide
  ·dsimp only
   rw[Ay,Aaz]
   have:=Bd0 s.items (living (s.now+n.toNat) s.items)
   have h2:=ok.len
   unfold gone
   omega
 |.items,_=>by
  show(numbersRow s.items).length<=100
  rw[Aaz]
  have:=ok.len
  omega
 |.item n,_=>Aa2 (by decide) λx=>by show 8<=100;decide
 |.used,_=>by
  show(Hl ([s.now,s.bounds.room,sizeOf_ s.items,s.items.length]++usedBy s.items)).length<=100
  unfold Hl usedBy
  rw[Aa,Bg,Aa,GX]
  show 4+10<=100
  decide
 |.greatest r e d,_=>by show 1<=100;decide
 |.goes k,_=>by
  show(numbersRow (weakest s.items k.toNat)).length<=100
  rw[Aaz,Bhy]
  have h:=Bdj k.toNat s.items.reverse []
  have h0:([]:List Item).length=0:=rfl
  rw[JC] at h
  have:=ok.len
  omega
 |.lasts e,_=>by
  show(numbersRow _).length<=100
  rw[Aaz]
  have h:=CQ (λx:Item=>decide (x.last<=e.toNat)) s.items
  have:=ok.len
  omega
 |.senders,_=>by
  show(Hl ((FJ SENDERS).map λd=>sizeOf_ (s.items.filter λx=>x.sender==d))).length<=100
  unfold Hl
  rw[Aa,Aa,GX]
  show 8<=100
  decide
 |.sure r,_=>by show 1<=100;decide
 |.cheapest n z r e d w,_=>by
  refine Aok (by decide) ?_
  split
  ·show 1<=100;decide
  ·dsimp only
   split
   ·show 1<=100;decide
   ·rename_i g hg
    rw[Ay,Ay,Aaz]
    have:=Bjj ok.nd hg
    have h2:=ok.len
    omega
 |.clear,_=>by show 1<=100;decide
theorem Jz{s:State}(ok:SOk s){c:List (List Int)}{d:Call}(h:decode c=some d)(hs:Brx d):(step s c).2.length<=100:=by
 unfold step
 rw[h]
 dsimp only
 split
 ·show 1<=100;decide
 ·exact Byx ok d hs
theorem Bu2{s:State}(ok:SOk s):∀(m:Nat) (a:List Int),(m:Int)∉Kr->Mz[m]?=some a.length->(step s (mkC (m:Int) a)).2.length<=100
 |0,a,_,e=>by
  have e:1=a.length:=Ae e
  match a,e with
  |[x0],_=>exact Jz ok (show decode (mkC 0 [x0])=some (.room x0) from rfl) trivial
 |1,_,h,_=>absurd (by decide) h
 |2,a,_,e=>by
  have e:1=a.length:=Ae e
  match a,e with
  |[x0],_=>exact Jz ok (show decode (mkC 2 [x0])=some (.share x0) from rfl) trivial
 |3,a,_,e=>by
  have e:6=a.length:=Ae e
  match a,e with
  |[x0,x1,x2,x3,x4,x5],_=>exact Jz ok (show decode (mkC 3 [x0,x1,x2,x3,x4,x5])=some (.arrive x0 x1 x2 x3 x4 x5) from rfl) trivial
 |4,a,_,e=>by
  have e:6=a.length:=Ae e
  match a,e with
  |[x0,x1,x2,x3,x4,x5],_=>exact Jz ok (show decode (mkC 4 [x0,x1,x2,x3,x4,x5])=some (.would x0 x1 x2 x3 x4 x5) from rfl) trivial
 |5,a,_,e=>by
  have e:6=a.length:=Ae e
  match a,e with
  |[x0,x1,x2,x3,x4,x5],_=>exact Jz ok (show decode (mkC 5 [x0,x1,x2,x3,x4,x5])=some (.why x0 x1 x2 x3 x4 x5) from rfl) trivial
 |6,a,_,e=>by
  have e:1=a.length:=Ae e
  match a,e with
  |[x0],_=>exact Jz ok (show decode (mkC 6 [x0])=some (.drop x0) from rfl) trivial
 |7,a,_,e=>by
  have e:2=a.length:=Ae e
  match a,e with
  |[x0,x1],_=>exact Jz ok (show decode (mkC 7 [x0,x1])=some (.bind x0 x1) from rfl) trivial
 |8,a,_,e=>by
  have e:6=a.length:=Ae e
  match a,e with
  |[x0,x1,x2,x3,x4,x5],_=>exact Jz ok (show decode (mkC 8 [x0,x1,x2,x3,x4,x5])=some (.promise x0 x1 x2 x3 x4 x5) from rfl) trivial
 |9,a,_,e=>by
  have e:1=a.length:=Ae e
  match a,e with
  |[x0],_=>exact Jz ok (show decode (mkC 9 [x0])=some (.fulfil x0) from rfl) trivial
 |10,a,_,e=>by
  have e:1=a.length:=Ae e
  match a,e with
  |[x0],_=>exact Jz ok (show decode (mkC 10 [x0])=some (.cancel x0) from rfl) trivial
 |11,a,_,e=>by
  have e:1=a.length:=Ae e
  match a,e with
  |[x0],_=>exact Jz ok (show decode (mkC 11 [x0])=some (.tick x0) from rfl) trivial
 |12,a,_,e=>by
  have e:0=a.length:=Ae e
  match a,e with
  |[],_=>exact Jz ok (show decode (mkC 12 [])=some (.items) from rfl) trivial
 |13,a,_,e=>by
  have e:1=a.length:=Ae e
  match a,e with
  |[x0],_=>exact Jz ok (show decode (mkC 13 [x0])=some (.item x0) from rfl) trivial
 |14,a,_,e=>by
  have e:0=a.length:=Ae e
  match a,e with
  |[],_=>exact Jz ok (show decode (mkC 14 [])=some (.used) from rfl) trivial
 |15,a,_,e=>by
  have e:3=a.length:=Ae e
  match a,e with
  |[x0,x1,x2],_=>exact Jz ok (show decode (mkC 15 [x0,x1,x2])=some (.greatest x0 x1 x2) from rfl) trivial
 |16,a,_,e=>by
  have e:1=a.length:=Ae e
  match a,e with
  |[x0],_=>exact Jz ok (show decode (mkC 16 [x0])=some (.goes x0) from rfl) trivial
 |17,_,h,_=>absurd (by decide) h
 |18,_,h,_=>absurd (by decide) h
 |19,_,h,_=>absurd (by decide) h
 |20,_,h,_=>absurd (by decide) h
 |21,_,h,_=>absurd (by decide) h
 |22,_,h,_=>absurd (by decide) h
 |23,a,_,e=>by
  have e:1=a.length:=Ae e
  match a,e with
  |[x0],_=>exact Jz ok (show decode (mkC 23 [x0])=some (.lasts x0) from rfl) trivial
 |24,a,_,e=>by
  have e:0=a.length:=Ae e
  match a,e with
  |[],_=>exact Jz ok (show decode (mkC 24 [])=some (.senders) from rfl) trivial
 |25,_,h,_=>absurd (by decide) h
 |26,a,_,e=>by
  have e:1=a.length:=Ae e
  match a,e with
  |[x0],_=>exact Jz ok (show decode (mkC 26 [x0])=some (.sure x0) from rfl) trivial
 |27,a,_,e=>by
  have e:6=a.length:=Ae e
  match a,e with
  |[x0,x1,x2,x3,x4,x5],_=>exact Jz ok (show decode (mkC 27 [x0,x1,x2,x3,x4,x5])=some (.cheapest x0 x1 x2 x3 x4 x5) from rfl) trivial
 |28,_,h,_=>absurd (by decide) h
 |29,a,_,e=>by
  have e:0=a.length:=Ae e
  match a,e with
  |[],_=>exact Jz ok (show decode (mkC 29 [])=some (.clear) from rfl) trivial
 |m+30,a,_,e=>by rw[IW (by show 30<=m+30;omega)] at e;cases e
theorem Bp4{s:State}(ok:SOk s)(a:List Int):(step s (mkC 1 a)).2.length<=100:=Jz ok (show decode (mkC 1 a)=some (.limits a) from rfl) trivial
end RM
end
section
namespace RM
open Vbdtag VbdtCore
def Bb5(p:Int)(a:List Int):Prop:=(p∈Kr/\a.length<=120)\/∃m:Nat,p=(m:Int)/\(m:Int)∉Kr/\Mz[m]?=some a.length
theorem Btm{p:Int}{a:List Int}(hp:p∈Kr)(h:Xp (mkC p a)=true):a.length<=120:=by
 unfold Kr at hp
 simp only [BP,KR,or_false] at hp
 rcases hp with rfl|rfl|rfl|rfl|rfl|rfl|rfl|rfl|rfl<;>
 ·have h':(a.all VbdtagNeutral.whole64&&decide (a.length<=120))=true:=h
  rw[Cm] at h'
  exact Ec h'.2
theorem Bmo:∀(f:Nat) (l:List Int) (cs:List (List (List Int))),Gf Ek f l=some cs->cs.all Xp=true->
  (∀c∈cs,c=mkC (un c).1 (un c).2/\Bb5 (un c).1 (un c).2)/\l.length<=122*cs.length
 |f,[],cs,h,_=>by
  rw[Aoa h]
  exact⟨λc hc=>(nomatch hc),Hh _⟩
 |0,p::r,cs,h,_=>by unfold Gf at h;cases h
 |f+1,p::r,cs,h,ha=>by
  unfold Gf at h
  cases hc:Uc Ek (p::r) with
  |none=>rw[hc] at h;cases h
  |some y=>
   obtain⟨c,t⟩:=y
   rw[hc] at h
   dsimp only at h
   cases hr:Gf Ek f t with
   |none=>rw[hr] at h;cases h
   |some cs'=>
    rw[hr] at h
    cases h
    rw[Jj,Cm] at ha
    obtain⟨ih1,ih2⟩:=Bmo f t cs' hr ha.2
    obtain⟨q,r',hq,h0,h30,hm,hu,hk⟩:=Axg hc
    cases hq
    have hcc:Bb5 (un c).1 (un c).2/\(p::r).length<=t.length+122:=by
     rw[hu]
     rcases hk with⟨hrow,m,r2,e1,e2,e3,e4,e5⟩|⟨hrow,n,e1,e2,e3,e4⟩
     ·have hl:=Btm hrow (hm▸ha.1)
      refine⟨.inl ⟨hrow,hl⟩,?_⟩
      rw[e5,e1,Ay,Ay,Jq]
      rw[e4,Er] at hl
      omega
     ·refine⟨.inr ⟨p.toNat,by omega,by rw[Gz h0];exact hrow,by rw[e3,Er,QC e2];exact e1⟩,?_⟩
      have hn:n<=6:=by
       have:∀x∈Mz,x<=6:=by decide
       exact this n (BX e1)
      rw[e4,Ay,Jq]
      omega
    refine⟨λd hd=>?_,?_⟩
    ·rcases BP.mp hd with rfl|hd
     ·exact⟨hm.trans (by rw[hu]),hcc.1⟩
     ·exact ih1 d hd
    ·rw[Ay (as:=cs')]
     have:=hcc.2
     omega
theorem Bmf{l:List Int}(h:Mp l=true):∃cs,Gf Ek l.length l=some cs/\cs.length<=400/\l.length<=48800/\(∀c∈cs,c=mkC (un c).1 (un c).2/\Bb5 (un c).1 (un c).2)/\V8 l=Acb (Ad8 Dc Qk cs):=by
 obtain⟨cs,h1,h2,h3⟩:=Bpg h
 have ha:cs.all Xp=true:=by
  unfold Mp at h
  have e:Bck l=match Gf Ek l.length l with
    |none=>none
    |some cs=>some (cs.map CT):=rfl
  rw[h1] at e
  dsimp only at e
  rw[Azd _ _ _ h1] at e
  rw[e] at h
  have h':(Bfl 400 cs&&YF cs)=true:=h
  rw[Cm] at h'
  have h4:=h'.2
  unfold YF at h4
  rw[Cm] at h4
  exact h4.1
 obtain⟨k1,k2⟩:=Bmo _ _ _ h1 ha
 exact⟨cs,h1,h2,by omega,k1,h3⟩
end RM
end
section
namespace RB
open PySem PySem.Spec PyProof.Rows L2
structure Ctx(X:Cx)(N:List Str)(sc:Scope)(k:Nat):Prop where
 hN:X.N=N
 nd:N.Nodup
 hsc:X.env.scope=sc
 hk:sc.kind=.function
 calm:X.calm=true
 room:Room k X.A
 fn:∀x,X.fn x=true
 xe:X.xe=λ_ _=>False
theorem Brp{P:Program}{w:World}{K:Frag}{mg:Str->Option Value}{base:Heap}{x qual:Str}{st:Stmt}{f:Addr}{fd:FuncData}{N ps:List Str}{k:Nat}{sp:Sp}
  (F:Fun K x qual st f fd) (S:Cp N ps (Ao st)) (len:∀vs H Q E,sp vs H Q E->vs.length=ps.length)
  (hbody:∀X:Cx,X.prog=P->X.w=w->X.K=K->X.mg=mg->X.base=base->Ctx X N (Ao st) k->∀(H:Hp) (vs:List V) (Q:VK) (E:XK),sp vs H Q E->
   ∃t,PSs X (Ca st) t/\t {nx:=λ_ H'=>Q .non H',rt:=Q} (start N vs) H):YZ P w K mg base CX0 (k+1) f fd ps sp:=by
 refine F.ok S len λcdv A outer s H vs Q E hr h=>?_
 exact hbody (Bmu CX0 P w K mg base N qual (Ao st) f cdv A outer s H E).nox rfl rfl rfl rfl rfl ⟨rfl,S.nd,rfl,S.kind,rfl,hr,λ_=>rfl,rfl⟩ H vs Q E h
theorem Bh7{X:Cx}(h:X.xe=λ_ _=>False):PassesOwn (model X.prog X.w) X.A X.env X.xe:=by
 rw[h];exact PassesOwn.never
section
variable {X:Cx}{N:List Str}{sc:Scope}{k:Nat}{pos:Pos}{x:Str}
theorem Ced(h:sc.names.lookup x=some .local):Vis sc x:=.inl h
theorem Cec(h:sc.names.lookup x=some .cell):Vis sc x:=.inr (.inl h)
theorem qv(c:Ctx X N sc k)(i:Nat)(v:Vis sc x)(h:N[i]?=some x:=by rfl)(hd:(x==("__debug__":Str))=false:=by decide+kernel)(hcd:(x==("__classdict__":Str))=false:=by decide+kernel):PE X (.Name x pos) (Al i):=
 Bqh (by rw[c.hN];exact h) (by rw[c.hsc];exact v) hd hcd
theorem Cc4(c:Ctx X N sc k)(h:sc.names.lookup x=some .globalImplicit):Gl X x:=by
 show X.env.scope.names.lookup x=_
 rw[c.hsc];exact h
theorem Fp(g:Gl X x){n:Int}(h:∃t,X.mg x=some (.int n t))(hd:(x==("__debug__":Str))=false:=by decide+kernel):PE X (.Name x pos) (tC (.int n)):=by
 obtain⟨t,e⟩:=h
 exact Bsr g e ⟨t,rfl⟩ hd
theorem Nf(g:Gl X x){a:Addr}(h:X.mg x=some (.ref a))(hd:(x==("__debug__":Str))=false:=by decide+kernel):PE X (.Name x pos) (tC (.ref a)):=Bsr g h rfl hd
theorem Hi(c:Ctx X N sc k)(i:Nat)(v:Loc sc x)(h:N[i]?=some x:=by rfl):PG X (.Name x pos) (Ce i):=
 Bst (by rw[c.hN];exact c.nd) (by rw[c.hN];exact h) (by rw[c.hsc];exact v) (.inl (c.fn x))
theorem Dq(c:Ctx X N sc k)(i:Nat)(v:Loc sc x){e:Expr}{te:TE}{pos':Pos}(he:PE X e te)(hs:swapsWith e (some (.Name x pos')) pos.line X.env=pure false:=by rfl)(h:N[i]?=some x:=by rfl):
  PS X (.Assign [.Name x pos'] e pos) (Gn te (Ce i)):=
 Ccj (by rw[c.hN];exact c.nd) (by rw[c.hN];exact h) (by rw[c.hsc];exact v) he hs (.inl (c.fn x))
theorem Bxw(c:Ctx X N sc k)(i:Nat)(v:Loc sc x){e:Expr}{te:TE}{op:Operator}{ti:TIp}{pos':Pos}(he:PE X e te)(ho:PIp X op ti)(h:N[i]?=some x:=by rfl):PS X (.AugAssign (.Name x pos') op e pos) (Cag i te ti):=
 Cch (by rw[c.hN];exact c.nd) (by rw[c.hN];exact h) (by rw[c.hsc];exact v) he ho (.inl (c.fn x))
theorem Ko(c:Ctx X N sc k){tg iter:Expr}{body:List Stmt}{wi:TI}{g:TG}{tb:TS}(hi:PI X tg iter wi)(hg:PG X tg g)(hb:PSs X body tb)
  (hs:∀x,foldedSetIterable iter X.env x=pure x:=by intro _;rfl):PS X (.For tg iter body [] pos) (SN wi g tb):=Cci (Bh7 c.xe) c.calm hi hg hb hs
theorem Bn7(c:Ctx X N sc k){e:Expr}{body:List Stmt}{tc:TT}{tb:TS}(hc:PT X e tc)(hb:PSs X body tb):PS X (.While e body [] pos) (Bk4 tc tb):=Bxv (Bh7 c.xe) hc hb
end
theorem Bnp{f:Str×NameKind->NameKind}:∀(names:List (Str×NameKind)) (x:Str),(names.map λy=>(y.1,f y)).lookup x=(names.lookup x).map λk=>f (x,k)
 |[],_=>rfl
 |(n,k)::r,x=>by
  have ih:=Bnp (f:=f) r x
  rw[Bo]
  by_cases h:x=n
  ·have hb:(x==n)=true:=Jc.mpr h
   simp only [JG,hb]
   subst h
   rfl
  ·have hb:(x==n)=false:=DG.mpr h
   simp only [JG,hb]
   exact ih
def Bql(sc:Scope)(y:Str×NameKind):NameKind:=if(y.2==.free&&sc.kind==.function&&sc.names.lookup y.1==some .cell) then .cell else y.2
theorem Buz(scope sc:Scope):(Bx3 scope sc).names=scope.names.map λy=>(y.1,Bql sc y):=by
 unfold Bx3 Bql
 refine Fv λy _=>?_
 obtain⟨n,k⟩:=y
 show(if(k==.free&&sc.kind==.function&&sc.names.lookup n==some .cell)=true then(n,Wl) else(n,k))=_
 split<;>rfl
theorem Bod(scope sc:Scope)(x:Str):(Bx3 scope sc).names.lookup x=(scope.names.lookup x).map λk=>Bql sc (x,k):=by
 rw[Buz,Bnp]
section
variable {X:Cx}{N:List Str}{sc scope:Scope}{k:Nat}{pos:Pos}{x:Str}{s:Shared}{H:Hp}{C:Addr}{cl:List (Str×Addr)}{fp:List Addr}
theorem Bhl:(X.blk s H scope (compEnvC scope cl C X.env) fp).env.scope=Bx3 scope X.env.scope:=rfl
theorem Bbt{kd:NameKind}(h:scope.names.lookup x=some kd)(hn:kd≠.free):(X.blk s H scope (compEnvC scope cl C X.env) fp).env.scope.names.lookup x=some kd:=by
 rw[Bhl,Bod,h]
 show some (Bql X.env.scope (x,kd))=some kd
 unfold Bql
 have e:(kd==QH)=false:=by cases kd<;>first|rfl|exact absurd rfl hn
 simp [e]
theorem By0(h:scope.names.lookup x=some .free):Vis (X.blk s H scope (compEnvC scope cl C X.env) fp).env.scope x:=by
 have e:(X.blk s H scope (compEnvC scope cl C X.env) fp).env.scope.names.lookup x=some (Bql X.env.scope (x,.free)):=by
  rw[Bhl,Bod,h];rfl
 unfold Bql at e
 split at e
 ·exact .inr (.inl e)
 ·exact .inr (.inr e)
theorem Kf(c:Ctx X N sc k)(i:Nat)(v:scope.names.lookup x=some .local)(h:N[i]?=some x:=by rfl)(hd:(x==("__debug__":Str))=false:=by decide+kernel)(hcd:(x==("__classdict__":Str))=false:=by decide+kernel):
  PE (X.blk s H scope (compEnvC scope cl C X.env) fp) (.Name x pos) (Al i):=
 Bqh (X:=X.blk s H scope (compEnvC scope cl C X.env) fp) (by show X.N[i]?=_;rw[c.hN];exact h) (.inl (Bbt v (by decide))) hd hcd
theorem Wa(c:Ctx X N sc k)(i:Nat)(v:scope.names.lookup x=some .free)(h:N[i]?=some x:=by rfl)(hd:(x==("__debug__":Str))=false:=by decide+kernel)(hcd:(x==("__classdict__":Str))=false:=by decide+kernel):
  PE (X.blk s H scope (compEnvC scope cl C X.env) fp) (.Name x pos) (Al i):=
 Bqh (X:=X.blk s H scope (compEnvC scope cl C X.env) fp) (by show X.N[i]?=_;rw[c.hN];exact h) (By0 v) hd hcd
theorem Bv3(h:scope.names.lookup x=some .globalImplicit):Gl (X.blk s H scope (compEnvC scope cl C X.env) fp) x:=Bbt h (by decide)
theorem Mr(c:Ctx X N sc k)(i:Nat)(v:scope.names.lookup x=some .local)(h:N[i]?=some x:=by rfl):PG (X.blk s H scope (compEnvC scope cl C X.env) fp) (.Name x pos) (Ce i):=
 Bst (X:=X.blk s H scope (compEnvC scope cl C X.env) fp) (by show X.N.Nodup;rw[c.hN];exact c.nd) (by show X.N[i]?=_;rw[c.hN];exact h) (.inl (Bbt v (by decide))) (.inr (Bbt v (by decide)))
theorem Ben(c:Ctx X N sc k){elt tg iter:Expr}{ifs:List Expr}{own:List (Str×Nat)}{wi:TI}{g:TG}{tt:TT}{te:TE}(hi:PI X tg iter wi)(ok:By1 N sc scope own=true)
  (hg:∀(s:Shared) (H:Hp) (C:Addr) (cl:List (Str×Addr)) (fp:List Addr),PG (X.blk s H scope (compEnvC scope cl C X.env) fp) tg g) (ht:∀(s:Shared) (H:Hp) (C:Addr) (cl:List (Str×Addr)) (fp:List Addr),PTs (X.blk s H scope (compEnvC scope cl C X.env) fp) ifs tt)
  (he:∀(s:Shared) (H:Hp) (C:Addr) (cl:List (Str×Addr)) (fp:List Addr),PE (X.blk s H scope (compEnvC scope cl C X.env) fp) elt te) (hs:∀x,foldedSetIterable iter X.env x=pure x:=by intro _;rfl):
  PE X (.ListComp elt [⟨tg,iter,ifs,0⟩] scope pos) (tLc wi g tt te (own.map (·.2))):=
 Cdw c.calm (by rw[c.hN];exact c.nd) hi (by rw[c.hN,c.hsc];exact Bmj ok) hg ht he hs
theorem Af0(c:Ctx X N sc k){i:Nat}{y:Str}{py:Pos}{elt tg iter:Expr}{ifs:List Expr}{own:List (Str×Nat)}{spos:Pos}{wi:TI}{g:TG}{tt:TT}{te:TE}(hyl:sc.names.lookup y=some .local)(hi:PI X tg iter wi)(ok:By1 N sc scope own=true)
  (hg:∀(s:Shared) (H:Hp) (C:Addr) (cl:List (Str×Addr)) (fp:List Addr),PG (X.blk s H scope (compEnvC scope cl C X.env) fp) tg g) (ht:∀(s:Shared) (H:Hp) (C:Addr) (cl:List (Str×Addr)) (fp:List Addr),PTs (X.blk s H scope (compEnvC scope cl C X.env) fp) ifs tt)
  (he:∀(s:Shared) (H:Hp) (C:Addr) (cl:List (Str×Addr)) (fp:List Addr),PE (X.blk s H scope (compEnvC scope cl C X.env) fp) elt te)
  (ha:(scope.names.any λ(n,k)=>n==y&&(k==.local||k==.cell))=false)
  (hy:N[i]?=some y:=by rfl) (hl:(py.line==pos.line)=true:=by rfl) (hs:∀x,foldedSetIterable iter X.env x=pure x:=by intro _;rfl):
  PS X (.Assign [.Name y py] (.ListComp elt [⟨tg,iter,ifs,0⟩] scope pos) spos) (Gn (tLc wi g tt te (own.map (·.2))) (Ce i)):=
 Bxu c.calm (by rw[c.hN];exact c.nd) (by rw[c.hN];exact hy) (by rw[c.hsc];exact hyl) (Caf (by rw[c.hsc];exact c.hk) (by rw[c.hsc];exact hyl) hl ha) hi (by rw[c.hN,c.hsc];exact Bmj ok) hg ht he hs
end
structure Src(K:Frag)(mg:Str->Option Value)(x:Str)(st:Stmt)(ps:List Str):Prop where
 ex:∃(f:Addr) (fd:FuncData),Fun K x x st f fd/\mg x=some (.ref f)/\Binds K fd ps []
structure Mth(K:Frag)(C:Addr)(x qual:Str)(st:Stmt)(ps:List Str):Prop where
 ex:∃(f:Addr) (fd:FuncData),Fun K x qual st f fd/\Mk K C f/\Binds K fd ps []
structure Def(P:Program)(w:World)(K:Frag)(mg:Str->Option Value)(base:Heap)(k:Nat)(x:Str)(ps:List Str)(sp:Sp):Prop where
 ex:∃(f:Addr) (fd:FuncData),YZ P w K mg base CX0 k f fd ps sp/\mg x=some (.ref f)/\Ig K (.ref f)=true/\Binds K fd ps []
structure Mak(P:Program)(w:World)(K:Frag)(mg:Str->Option Value)(base:Heap)(k:Nat)(C:Addr)(x:Str)(ps:List Str)(sp:Sp):Prop where
 ex:∃(f:Addr) (fd:FuncData),YZ P w K mg base CX0 k f fd ps sp/\mg x=some (.ref C)/\Mk K C f/\Binds K fd ps []
theorem Def.mono{P:Program}{w:World}{K:Frag}{mg:Str->Option Value}{base:Heap}{j k:Nat}{x:Str}{ps:List Str}{sp:Sp}(D:Def P w K mg base j x ps sp)(h:j<=k):Def P w K mg base k x ps sp:=by
 obtain⟨f,fd,F,a,b,c⟩:=D.ex
 exact⟨⟨f,fd,F.mono h,a,b,c⟩⟩
theorem Ed{P:Program}{w:World}{K:Frag}{mg:Str->Option Value}{base:Heap}{x:Str}{st:Stmt}{N ps:List Str}{k:Nat}{sp:Sp}
  (R:Src K mg x st ps) (S:Cp N ps (Ao st)) (len:∀vs H Q E,sp vs H Q E->vs.length=ps.length)
  (hbody:∀X:Cx,X.prog=P->X.w=w->X.K=K->X.mg=mg->X.base=base->Ctx X N (Ao st) k->∀(H:Hp) (vs:List V) (Q:VK) (E:XK),sp vs H Q E->
   ∃t,PSs X (Ca st) t/\t {nx:=λ_ H'=>Q .non H',rt:=Q} (start N vs) H):Def P w K mg base (k+1) x ps sp:=by
 obtain⟨f,fd,F,a,b⟩:=R.ex
 exact⟨⟨f,fd,Brp F S len hbody,a,F.kp,b⟩⟩
theorem Bj2{P:Program}{w:World}{K:Frag}{mg:Str->Option Value}{base:Heap}{C:Addr}{x n qual:Str}{st:Stmt}{N ps:List Str}{k:Nat}{sp:Sp}(hm:mg x=some (.ref C))
  (R:Mth K C n qual st ps) (S:Cp N ps (Ao st)) (len:∀vs H Q E,sp vs H Q E->vs.length=ps.length)
  (hbody:∀X:Cx,X.prog=P->X.w=w->X.K=K->X.mg=mg->X.base=base->Ctx X N (Ao st) k->∀(H:Hp) (vs:List V) (Q:VK) (E:XK),sp vs H Q E->
   ∃t,PSs X (Ca st) t/\t {nx:=λ_ H'=>Q .non H',rt:=Q} (start N vs) H):Mak P w K mg base (k+1) C x ps sp:=by
 obtain⟨f,fd,F,a,b⟩:=R.ex
 exact⟨⟨f,fd,Brp F S len hbody,hm,a,b⟩⟩
section
variable {X:Cx}{k:Nat}{x:Str}{ps:List Str}{sp:Sp}{C:Addr}{p pos:Pos}{e:Expr}{es:List Expr}{t:TA}
theorem BJ(D:Def X.prog X.w X.K X.mg X.base k x ps sp)(hr:Room k X.A)(hg:Gl X x)(ha:PA X (e::es) t)(hdb:(x==("__debug__":Str))=false:=by decide+kernel)
  (he:starEach (e::es) X.env=(false,eval e X.env)::starEach es X.env:=by rfl) (hpl:(backTo pos (starEach es X.env)).any (·.1)=false:=by rfl):PE X (.Call (.Name x p) (e::es) [] pos) (Cy sp [] E0 t):=by
 obtain⟨f,fd,F,a,b,c⟩:=D.ex
 exact Bz1 F hr hg a b c .nil Bn2 ha hdb he hpl
theorem Vj(D:Mak X.prog X.w X.K X.mg X.base k C x ps sp)(hr:Room (k+1) X.A)(hg:Gl X x)(ha:PA X (e::es) t)(hdb:(x==("__debug__":Str))=false:=by decide+kernel)
  (he:starEach (e::es) X.env=(false,eval e X.env)::starEach es X.env:=by rfl) (hpl:(backTo pos (starEach es X.env)).any (·.1)=false:=by rfl):PE X (.Call (.Name x p) (e::es) [] pos) (Uj C sp [] E0 t):=by
 obtain⟨f,fd,F,a,b,c⟩:=D.ex
 exact Bz3 b F hr hg a c .nil Bn2 ha hdb he hpl
theorem Bsx(D:Mak X.prog X.w X.K X.mg X.base k C x ps sp)(hr:Room (k+1) X.A)(hg:Gl X x)(hdb:(x==("__debug__":Str))=false:=by decide+kernel):PE X (.Call (.Name x p) [] [] pos) (Uj C sp [] E0 Bq):=by
 obtain⟨f,fd,F,a,b,c⟩:=D.ex
 exact Bxr b F hr hg a c .nil Bn2 hdb
end
end RB
end
section
namespace RB
open PySem PySem.Spec PyProof.Rows L2
def QG(K:Frag):List V->Hp->VK->Prop:=λxs H Q=>∃p ys,xs=[.ref p]/\(SqL K H p ys\/SqT K H p ys)/\Q (.int ys.length) H
def Cd6:List V->Hp->VK->Prop:=λxs H Q=>∃i j,xs=[.int i,.int j]/\Q (.int (if j>i then j else i)) H
section
variable {X:Cx}
theorem Bdi:Ccy X (Qs X.K):=by
 intro pins s σ H o i ov iv Q I ro ri h
 obtain⟨p,xs,k,z,rfl,rfl,hq,he,q⟩:=h
 cases ro
 obtain⟨t,rfl⟩:=ri
 obtain⟨its,r,pl,hz⟩:=I.list hq
 obtain⟨j,h1,h2,h3,h4,h5⟩:=Bji he
 obtain⟨u,eu,ru⟩:=r.get h2
 have hl:=r.length
 have hn:=Bdw
 by_cases h0:0<=k
 ·have hj:k.toNat=j:=by
   rw[Ant h0 h5] at h1
   exact Ae h1
  exact wpAny_getItem_list pl.isList h0 (by omega) (by rw[hj];simpa using eu) ⟨z,H,I,ru,q⟩
 ·have hj:(k+(its.toArray.size:Int)).toNat=j:=by
   rw[Ah4 (by omega) h4] at h1
   rw[Bv,<-hl]
   exact Ae h1
  exact Aib pl.isList (by omega) (by rw[Bv]<;>omega) (by omega) (by rw[hj];simpa using eu) ⟨z,H,I,ru,q⟩
theorem Cae{elt:Expr}{gs:List Comprehension}{scope sc:Scope}{pos py:Pos}{y:Str}{l:Nat}(hsc:X.env.scope=sc)(hy:sc.names.lookup y=some .cell):swapsWith (.ListComp elt gs scope pos) (some (.Name y py)) l X.env=pure false:=by
 have ky:X.env.kindOf y=some .cell:=by
  show X.env.scope.names.lookup y=_
  rw[hsc];exact hy
 unfold swapsWith
 simp only [ky]
 cases(X.env.blockKind==ScopeKind.function)<;>rfl
end
def Bqv(X:Cx)(k:Nat)(i:Nat)(t:TA):TE:=λσ H Q=>∃f,σ[i]?=some (some (.ref f))/\Ig X.K (.ref f)=true/\t σ H λvs H1=>∃(fd:FuncData) (ps:List Str) (sp:Sp),
 YZ X.prog X.w X.K X.mg X.base CX0 k f fd ps sp/\Binds X.K fd ps []/\sp (vs++[]) H1 Q E0
section
variable {X:Cx}{N:List Str}{sc:Scope}{k j:Nat}{p pos:Pos}{x:Str}{e:Expr}{es:List Expr}{t:TA}
theorem Bsv(c:Ctx X N sc k)(i:Nat)(v:Vis sc x)(hr:Room j X.A)(ha:PA X (e::es) t)(h:N[i]?=some x:=by rfl)(hd:(x==("__debug__":Str))=false:=by decide+kernel)(hcd:(x==("__classdict__":Str))=false:=by decide+kernel)
  (he:starEach (e::es) X.env=(false,eval e X.env)::starEach es X.env:=by rfl) (hpl:(backTo pos (starEach es X.env)).any (·.1)=false:=by rfl):PE X (.Call (.Name x p) (e::es) [] pos) (Bqv X j i t):=by
 intro pins s σ H Q I hw
 obtain⟨f,hf,hk,hw⟩:=hw
 refine Ji (thn (qv (pos:=p) c i v h hd hcd pins s σ H (λv H1=>v=.ref f/\H1=H) I ⟨_,hf,rfl,rfl⟩) ?_)
 rintro u s1 ⟨v1,H1,I1,r1,rfl,rfl⟩
 cases r1
 refine M7 (h₀:=X.base) I1.ok.mod.kin hk (thn (ha pos pins s1 σ H1 _ I1 hw) λus s2 ⟨vs,H2,I2,r,fd,ps,sp,F,hb,q⟩=>⟨I2.kIn,?_⟩) he hpl
 exact Bqm F hr hb .nil Bn2 I2 r q
end
open AutoSeq1 in
theorem Bpn(l b:Addr)(us ws:Array Value)(n m:Nat)(dct:Option Addr)(sl:Array (Option Value))(h0:¬(!us.isEmpty&&JT (us.size+ws.size))=true)(h1:us.size<=sizeLine)(h2:us.size+ws.size<=sizeLine+1):
  Meets (Builtin.«list.extend» ⟨[.ref l,.ref b],[]⟩) (λ_ R s=>s.heap.get? l=some {cls:=.type "list",data:=.seq us n}/\s.heap.get? b=some {cls:=.type "tuple",dict:=dct,data:=.seq ws m,slots:=sl}/\
   R (.ok (.ret Lx)) {s with heap:=s.heap.update l (G4 (·++ws)),toks:=s.toks}):=
 .of_wp λprog w A R s h=>by
  obtain⟨hp,g,d,tk,os⟩:=s
  obtain⟨hl,hb,h⟩:=h
  have f2:=Oa
  have f5:=AutoSeq1.sub_list_tuple
  have hz:(us++ws).size<=sizeLine+1:=by rw[Array.size_append];exact h2
  wp_walk using (wpAny_updateSeq hl rfl (hz:=h1) (_hz':=hz)),LK hl,LK hb
  exact⟨_,rfl,h⟩
def Bn8(K:Frag):V->List V->Hp->VK->Prop:=λx vs H Q=>∃l b xs zs,x=.ref l/\vs=[.ref b]/\H l=some (.lst xs)/\SqT K H b zs/\xs.length+zs.length<=sizeLine/\Q .non (upd H l (.lst (xs++zs)))
def Aa3(K:Frag):V->List V->Hp->VK->Prop:=λx vs H Q=>Bsy x vs H Q\/Bn8 K x vs H Q
section
variable {X:Cx}
theorem Bqc:MtR X "list.extend" (Bn8 X.K):=by
 intro pins s σ H x vs v us Q I rx rv h
 obtain⟨l,b,xs,zs,rfl,rfl,hH,hB,hz,q⟩:=h
 cases rx
 obtain⟨u,rfl,ru⟩:=rv.one
 cases ru
 obtain⟨z,its,n,r,hl,e⟩:=I.Bp5 hH
 obtain⟨its2,r2,⟨⟨c2,d2,dt2,sl2⟩,e2,hc2,n2,hd2⟩,z2⟩:=I.tuple hB
 replace hc2:c2=.type "tuple":=hc2
 replace hd2:dt2=.seq its2.toArray n2:=hd2
 subst hc2 hd2
 have l2:=r2.length
 have hsz:its.toArray.size+its2.toArray.size<=sizeLine:=by rw[Bv,Bv];omega
 have Bnb:¬(!its.toArray.isEmpty&&JT (its.toArray.size+its2.toArray.size))=true:=by
  rw[Bd4 hsz,Lb]
  exact Ac
 refine Agx Asl ⟨_,e,rfl⟩ Aoz (Akl _ _) (Bpn l b its.toArray its2.toArray n n2 d2 sl2 Bnb (by omega) (by omega)) ⟨e,e2,?_⟩
 refine⟨.non,_,I.Cb6 (its':=its++its2) hH e (by simp) (r.append r2) ?_,rfl,q⟩
 rw[Bg]
 omega
theorem Wf:MtR X "list.extend" (Aa3 X.K):=MtR.or Bul Bqc
end
end RB
end
section
namespace RB
open PySem PySem.Spec PyProof.Rows L2
section
variable {prog:Program}{w:World}{A:Around}{E:Value->Shared->Prop}{s:Shared}
theorem Blm{it t:Addr}{i:Nat}{us:Array Value}{x:Value}{Q:Value->Shared->Prop}(hit:s.heap.IsTupleIter it t i)(ht:s.heap.IsTuple t us)(hx:us[i]?=some x)
  (hQ:∀h',h'.IsTupleIter it t (i+1)->Agm it s.heap h'->Q x {s with heap:=h'}):wpAny (model prog w) A (Nq (.ref it)) Q E s:=by
 obtain⟨o,ho,hc,hd⟩:=id hit
 obtain⟨ot,hot,_,nt,hdt⟩:=ht
 have nn:¬((G8 t==Lx)=true):=Ac
 have tree:wpAny (model prog w) A.in1 (Builtin.«tuple_iterator.__next__» ⟨[.ref it],[]⟩) (λfin s'=>∃v,fin=.done (.ret v)/\Q v s') E s:=by
  show wpAny _ _ (field (.ref it) 0>>=_) _ _ s
  refine Br (Adu ho hd (x:=.ref t) rfl ?_)
  show wpAny _ _ (if(G8 t==Lx)=true then _ else _) _ _ s
  rw[Am nn]
  show wpAny _ _ (field (.ref it) 1>>=_) _ _ s
  refine Br (Adu ho hd (x:=.int i 0) rfl ?_)
  show wpAny _ _ (seqItems? (.ref t)>>=_) _ _ s
  refine Br (An4 hot hdt ?_)
  simp only [Fq,hx]
  refine Br (wpAny_setField ho hd (by simp) (Eo ⟨x,rfl,hQ _ ?_ (LQ ..)⟩))
  exact⟨_,VL _ ho (Obj.isFreed_of_fields (Asq hd _)),(Obj.cls_mapFields ..).trans hc,by rw[Asq hd];simp [rawInt]⟩
 unfold Nq
 exact Br (Uk (name:=UL "__next__") hit.typeIs M5
  (Agg M5 hit.typeIs YX (thn tree λfin s' ⟨v,e,q⟩=>⟨v,e,Eo q⟩) (X6 _)))
theorem Bah{it t:Addr}{i:Nat}{us:Array Value}{Q:Value->Shared->Prop}(hh:A.handled=none)(hit:s.heap.IsTupleIter it t i)(ht:s.heap.IsTuple t us)(hx:us[i]?=none)
  (hE:∀h' e,Heap.ExtBut it s.heap h'->(∃o,h'.get? e=some o/\o.cls=.type "StopIteration")->E (.ref e) {s with heap:=h'}):wpAny (model prog w) A (Nq (.ref it)) Q E s:=by
 obtain⟨o,ho,hc,hd⟩:=id hit
 obtain⟨ot,hot,_,nt,hdt⟩:=ht
 have nn:¬((G8 t==Lx)=true):=Ac
 unfold Nq
 refine Br (Uk (name:=UL "__next__") hit.typeIs M5
  (Agg M5 hit.typeIs YX ?_ (X6 _)))
 show wpAny _ _ (field (.ref it) 0>>=_) _ _ s
 refine Br (Adu ho hd (x:=.ref t) rfl ?_)
 show wpAny _ _ (if(G8 t==Lx)=true then _ else _) _ _ s
 rw[Am nn]
 show wpAny _ _ (field (.ref it) 1>>=_) _ _ s
 refine Br (Adu ho hd (x:=.int i 0) rfl ?_)
 show wpAny _ _ (seqItems? (.ref t)>>=_) _ _ s
 refine Br (An4 hot hdt ?_)
 simp only [Fq,hx]
 refine Br (wpAny_rule (Br (wpAny_setField ho hd (by simp) ?_)))
 show wpAny _ _ (newExc (.type "StopIteration") []>>=_) _ _ _
 refine Br ?_
 simp only [newExc,newTuple]
 refine Br (Adv ?_ (by size_fits))
 refine Br (m:=firstArgMember _ _) (wpAny_of_eq (a:=Lx) (by first|rfl|(simp only [firstArgMember];rfl)) ?_)
 refine Adv ?_ (by size_fits)
 simp only [raiseNew]
 refine Br (wpAny_handled ?_)
 first|rw[show A.in1.handled=none from hh]|rw[hh]
 exact Br (Eo (wpAny_throw (hE _ _ (((LQ ..).extBut.push _).push _) ⟨_,Dr _ rfl,rfl⟩)))
theorem Byj(hh:A.handled=none)(it t:Addr)(us:Array Value)(hne:t≠it):Draws prog w A it [it,t] us.size (λi x=>us[i]?=some x) (λi h=>h.IsTupleIter it t i/\h.IsTuple t us) where
 live:=λi h ⟨⟨o,ho,_⟩,_⟩=>⟨o,ho⟩
 frame:=λi h h' ⟨⟨o,ho,r⟩,⟨ot,hot,rt⟩⟩ k=>⟨⟨o,k it (by simp) o ho,r⟩,⟨ot,k t (by simp) ot hot,rt⟩⟩
 item:=λi s Q E hi ⟨h1,h2⟩ hQ=>by
  obtain⟨x,hx⟩:∃x,us[i]?=some x:=⟨us[i],by simp [hi]⟩
  exact Blm h1 h2 hx λh' a b=>hQ x h' s.toks hx ⟨a,h2.extBut b.extBut hne⟩ b
 done:=λs Q E ⟨h1,h2⟩ hE=>Bah hh h1 h2 (by simp) hE
theorem Bts(t:Addr)(us:Array Value)(n:Nat)(dct:Option Addr)(sl:Array (Option Value)):
  Meets (Builtin.«enumerate.__new__» ⟨[.type "enumerate",.ref t],[]⟩) (λ_ R s=>s.heap.get? t=some {cls:=.type "tuple",dict:=dct,data:=.seq us n,slots:=sl}/\
   R (.ok (.ret (.ref (s.heap.push {cls:=.type "tuple_iterator",data:=.fields #[.ref t,.int 0 0]}).objs.size)))
    {s with heap:=(s.heap.push {cls:=.type "tuple_iterator",data:=.fields #[.ref t,.int 0 0]}).push {cls:=.type "enumerate",data:=.fields #[.none,.bool false,.ref s.heap.objs.size,rawInt 0,.none,.none]}}):=
 .of_wp λprog w A R s h=>by
  obtain⟨hp,g,d,tk,os⟩:=s
  obtain⟨ht,h⟩:=h
  have hs:=sub_enumerate
  have hT:Heap.IsTuple (Shared.heap ⟨hp,g,d,tk,os⟩) t us:=⟨_,ht,rfl,n,rfl⟩
  wp_walk using Ob ht
  refine wpAny_stack_any λst=>Eo ?_
  split
  ·rename_i c _ _ _ _ _
   cases(c==TJ "enumerate")
   ·wp_walk using Ob ht,Abo hT
    exact⟨_,rfl,h⟩
   ·wp_walk using Ob ht,Abo hT
    exact⟨_,rfl,h⟩
  ·wp_walk using Ob ht,Abo hT
   exact⟨_,rfl,h⟩
theorem Bpj{t:Addr}{us:Array Value}{Q:Value->Shared->Prop}(hT:s.heap.IsTuple t us)
  (h:∀h',IsEnum h' (s.heap.objs.size+1) s.heap.objs.size 0 .none->h'.IsTupleIter s.heap.objs.size t 0->(∀b o,s.heap.get? b=some o->h'.get? b=some o)->Q (.ref (s.heap.objs.size+1)) {s with heap:=h'}):
  wpAny (model prog w) A (call (.type "enumerate") [.ref t]) Q E s:=by
 obtain⟨⟨c,dct,dt,sl⟩,ht,hc,n,hd⟩:=hT
 replace hc:c=.type "tuple":=hc
 replace hd:dt=.seq us n:=hd
 subst hc hd
 refine callType_new F.called_enumerate (by decide) (F.typeCall_enumerate_1 _) (F.newCall_enumerate_1 _) (λobj=>F.args_object_init_2 obj _) F.entry_enumerate_new (Bts t us n dct sl) ⟨ht,?_⟩
 have hz:(s.heap.push {cls:=.type "tuple_iterator",data:=.fields #[.ref t,.int 0 0]}).objs.size=s.heap.objs.size+1:=Hg ..
 have he:=Dr (s.heap.push {cls:=.type "tuple_iterator",data:=.fields #[.ref t,.int 0 0]}) (o:={cls:=.type "enumerate",data:=.fields #[.none,.bool false,.ref s.heap.objs.size,rawInt 0,.none,.none]}) rfl
 show _/\_
 rw[hz] at he|-
 exact⟨⟨_,he,rfl⟩,h _ he ⟨_,Bs _ (Dr _ rfl),rfl,rfl⟩ λb o x=>Bs _ (Bs _ x)⟩
end
def Bvp(K:Frag)(a:Addr):It:=
 ⟨λi H=>∃(xs:List V) (x:V),SqT K H a xs/\xs[i]?=some x,λi H v H'=>∃T x,v=.ref T/\H T=none/\H'=upd H T (.tup [.int (i:Nat),x])/\∀xs,SqT K H a xs->xs[i]?=some x,λi H=>∃xs:List V,SqT K H a xs/\xs.length<=i⟩
theorem Bqz{P:Program}{w:World}{K:Frag}{elts:List Expr}{kk:Nat}{tpos:Pos}(a e it:Addr):
  Turn P w K (.Tuple elts kk tpos) (Bvp K a) [e,it] e (λi h=>(∃old,IsEnum h e it ((i:Nat):Int) old)/\h.IsTupleIter it a i/\e≠it) where
 mem:=by simp
 obj:=λi h ⟨⟨old,he⟩,⟨o,ho,hc,hd⟩,_⟩ b hb=>by
  rcases(show b=e\/b=it by simpa using hb) with z|z
  ·rw[z];exact⟨_,he,λv q=>nomatch q⟩
  ·rw[z];exact⟨o,ho,λv q=>by rw[hd] at q;cases q⟩
 keep:=λi h h' ⟨⟨old,he⟩,⟨o,ho,r⟩,hne⟩ k=>⟨⟨old,k e (by simp) _ he⟩,⟨o,k it (by simp) o ho,r⟩,hne⟩
 item:=by
  intro X hP hw hK hc i pins s σ H E I hf ⟨⟨old,he⟩,hit,hne⟩ ⟨xs,x,hq,hx⟩
  subst hP hw hK
  obtain⟨its,rv,p,hz⟩:=I.tuple hq
  obtain⟨u,hu,ru⟩:=rv.get hx
  have hel:e<s.heap.objs.size:=CN he
  have hil:it<s.heap.objs.size:=by obtain⟨_,q,_⟩:=hit;exact CN q
  have hai:a≠it:=by
   rintro rfl
   obtain⟨o1,h1,c1,_⟩:=p
   obtain⟨o2,h2,c2,_⟩:=hit
   rw[h1] at h2;cases h2
   exact absurd (Aab (c1.symm.trans c2)) (by decide)
  have hea:e∉[it,a]:=by
   intro z
   rcases(show e=it\/e=a by simpa using z) with z|z
   ·exact hne z
   ·obtain⟨o1,h1,c1,_⟩:=p
    have he2:s.heap.get? e=_:=he
    rw[z,h1] at he2
    exact absurd (Aab (c1.symm.trans (congrArg Obj.cls (Ae he2)))) (by decide)
  have hlt:i<its.toArray.size:=by rw[Bv];exact(BL.mp hu).1
  refine wpAny_pyNext_enum_itemD (Byj (A:=X.A.in1) (I.ok.hd hc) it a its.toArray hai) he ⟨hit,p⟩ hlt hne hea λx' h' tk hP ho hit' hT hsz hk=>?_
  have hxu:x'=u:=by
   have e1:its[i]?=some x':=by simpa using hP
   rw[hu] at e1;exact(Ae e1).symm
  subst hxu
  refine⟨_,rfl,Abn (s:={s with heap:=h',toks:=tk+1}) ho λh'' he' sb=>?_⟩
  have hT2:h''.get? s.heap.objs.size=some {cls:=.type "tuple",data:=.seq #[.int i tk,x']}:=(sb.2 _ (Aur hel)).trans hT
  have new:R0 X.prog X.w (upd H s.heap.objs.size (.tup [.int (i:Nat),x])) h'' s.heap.objs.size (.tup [.int (i:Nat),x]):=
   ⟨by show 2<=sizeLine;decide,[.int i tk,x'],.cons ⟨_,rfl⟩ (.cons ru .nil),⟨_,hT2,rfl,_,rfl⟩⟩
  have I1:Inv X pins σ (upd H s.heap.objs.size (.tup [.int (i:Nat),x])) {s with heap:=h'',toks:=tk+1}:=
   I.Bim (ch:=[e,it]) (λb ob hb q=>(sb.2 b (λz=>hb (by simp [z]))).trans (hk b ob (λz=>hb (by simp [z])) (λz=>hb (by simp [z])) q)) hf (Bu _) new
  refine⟨.ref s.heap.objs.size,_,I1,rfl,⟨_,x,rfl,I.hok.fresh (Bu _),rfl,λys hy=>by rw[I.Bvb hy hq];exact hx⟩,⟨⟨x',?_⟩,?_,hne⟩,λb hb=>?_⟩
  ·have e1:((i+1:Nat):Int)=(i:Int)+1:=by omega
   rw[e1];exact he'
  ·obtain⟨o2,h2,r2⟩:=hit'.1
   exact⟨o2,(sb.2 it (Js hne)).trans h2,r2⟩
  ·have hb':b<s.heap.objs.size:=by
    rcases(show b=e\/b=it by simpa using hb) with z|z
    ·rw[z];exact hel
    ·rw[z];exact hil
   rw[Cd (Fd hb')]
   exact(hf b hb).1
 done:=by
  intro X hP hw hK hc i pins s σ H E I hf ⟨⟨old,he⟩,hit,hne⟩ ⟨xs,hq,hx⟩
  subst hP hw hK
  obtain⟨its,rv,p,hz⟩:=I.tuple hq
  obtain⟨f0,f1,f2,f3,f4,f5⟩:=hf it (by simp)
  have hl:=rv.length
  have hT:s.TypeIs (.ref e) "enumerate":=⟨_,he,rfl⟩
  unfold pyNext
  refine Br (wpAny_attempt (Uk (name:=UL "__next__") hT Aj6 (Agg Aj6 hT F.entry_enumerate_next ?_ (F.args_enumerate_next_1 _))))
  show wpAny _ _ (field (.ref e) 2>>=_) _ _ _
  refine Br (Adu he rfl (x:=.ref it) rfl ?_)
  refine Br (Bah (I.ok.hd hc) hit p (by simp;omega) λh' x he' ⟨o,ho,hcl⟩=>?_)
  exact Br (wpAny_isInstance (T:="StopIteration") (b:=true) ⟨o,ho,hcl⟩ isSubtype_stop (Eo ⟨rfl,I.turned (t':=s.toks) (λb o hb q=>he' b o hb q) f0 f1 f3 f4 f5⟩))
 self:=λA i s Q E ⟨⟨_,he⟩,_⟩ h=>VG he h
def Bwx(K:Frag)(ta:TA):TI:=λσ H R=>ta σ H λvs H1=>∃a xs,vs=[.ref a]/\SqT K H1 a xs/\R (Bvp K a) H1
theorem Bxs{X:Cx}{e:Expr}{ta:TA}{p pos tpos:Pos}{elts:List Expr}{kk:Nat}(hg:Gl X "enumerate")(hm:X.mg "enumerate"=none)(ha:PA X [e] ta)(hs:starEach [e] X.env=[(false,eval e X.env)]:=by rfl):
  PI X (.Tuple elts kk tpos) (.Call (.Name "enumerate" p) [e] [] pos) (Bwx X.K ta):=by
 intro pins s σ H R I h
 refine Ayt (Aaq I hg hm boot_enumerate (Gh (thn (ha pos pins s σ H _ I h) λus s1 ⟨vs,H1,I1,r1,q1⟩=>?_) hs rfl))
 obtain⟨a,xs,ex,hq,q⟩:=q1
 subst ex
 have hu:us=[G8 a]:=Vals.Boc r1
 subst hu
 obtain⟨its,rv,p',hz⟩:=I1.tuple hq
 refine Bpj p' λh' he hit hk=>VG he ?_
 have I2:Inv X pins σ H1 {s1 with heap:=h'}:=I1.kept (t':=s1.toks) hk
 refine⟨s1.heap.objs.size+1,[s1.heap.objs.size+1,s1.heap.objs.size],_,_,H1,rfl,I2,Bqz a (s1.heap.objs.size+1) s1.heap.objs.size,⟨⟨.none,he⟩,hit,Aw7 _⟩,λb hb=>?_,q⟩
 have hle:s1.heap.objs.size<=b:=by
  rcases(show b=s1.heap.objs.size+1\/b=s1.heap.objs.size by simpa using hb) with z|z
  ·rw[z];exact Aw4 _ _
  ·rw[z];exact Bu _
 exact I1.Bm4 hle (I1.hok.fresh hle)
end RB
end
section
namespace RB
open PySem PySem.Spec PyProof.Rows L2
theorem Paired.perm{α β:Type}{F:α->β->Prop}{l l':List α}(p:l'.Perm l):∀{m:List β},Paired F l m->∃m',m'.Perm m/\Paired F l' m':=by
 induction p with
 |nil=>intro m h;cases h;exact⟨[],.nil,.nil⟩
 |cons x p ih=>
  intro m h
  cases h with
  |cons r t=>
   obtain⟨m',q,h'⟩:=ih t
   exact⟨_,q.cons _,.cons r h'⟩
 |swap x y l=>
  intro m h
  cases h with
  |cons r t=>
   cases t with
   |cons r2 t2=>exact⟨_,.swap _ _ _,.cons r2 (.cons r t2)⟩
 |trans p q ihp ihq=>
  intro m h
  obtain⟨m1,q1,h1⟩:=ihq h
  obtain⟨m2,q2,h2⟩:=ihp h1
  exact⟨m2,q2.trans q1,h2⟩
theorem Paired.at{α β:Type}{F:α->β->Prop}:∀{l:List α} {m:List β} {i:Nat} {a:α} {b:β},Paired F l m->l[i]?=some a->m[i]?=some b->F a b
 |_,_,_,_,_,.nil,h,_=>by simp at h
 |_,_,0,_,_,.cons r _,h1,h2=>by simp at h1 h2;subst h1 h2;exact r
 |_,_,i+1,_,_,.cons _ t,h1,h2=>Paired.at (i:=i) t (by simpa using h1) (by simpa using h2)
theorem Paired.Cee{F:Value->List Int->Prop}:∀{us:List Value} {kz:List (List Int)} {xs:List V} {its:List Value},Paired F us kz->Vals xs its->
  Paired (λ(p:Keyed) (q:List Int×V)=>F p.1 q.1/\RelV q.2 p.2) (us.zip its) (kz.zip xs)
 |_,_,_,_,.nil,_=>by rw[Q0,Q0];exact .nil
 |_,_,_,_,.cons _ _,.nil=>by rw[PL,PL];exact .nil
 |_,_,_,_,.cons r t,.cons q u=>.cons ⟨r,q⟩ (Paired.Cee t u)
theorem Paired.Cbg{α β:Type}{F:α->β->Prop}{p:α->Bool}{q:β->Bool}:∀{l:List α} {m:List β},Paired F l m->(∀a b,F a b->p a=q b)->Paired F (l.filter p) (m.filter q)
 |_,_,.nil,_=>.nil
 |_,_,.cons (a:=a) (b:=b) r t,h=>by
  have e:=h a b r
  have ih:=Paired.Cbg t h
  rw[Cr,Cr,e]
  cases q b with
  |true=>rw[Aq rfl,Aq rfl];exact .cons r ih
  |false=>rw[Am Ac,Am Ac];exact ih
theorem Paired.uniq{α β:Type}{F:α->β->Prop}(h:∀a b b',F a b->F a b'->b=b'):∀{l:List α} {m m':List β},Paired F l m->Paired F l m'->m=m'
 |_,_,_,.nil,.nil=>rfl
 |_,_,_,.cons r t,.cons r' t'=>by rw[h _ _ _ r r',Paired.uniq h t t']
theorem Paired.Bxe{α β:Type}{F:α->β->Prop}:∀{l:List α} {m:List β} {a:α},Paired F l m->a∈l->∃b,b∈m/\F a b
 |_,_,_,.nil,h=>by simp at h
 |_,_,a,.cons (b:=b) r t,h=>by
  rcases BP.mp h with e|h
  ·subst e;exact⟨b,Bl,r⟩
  ·obtain⟨b',m',q⟩:=Paired.Bxe t h
   exact⟨b',Bh _ m',q⟩
theorem Paired.Cds{α β:Type}{F:α->β->Prop}:∀{l:List α} {m:List β} {b:β},Paired F l m->b∈m->∃a,a∈l/\F a b
 |_,_,_,.nil,h=>by simp at h
 |_,_,b,.cons (a:=a) r t,h=>by
  rcases BP.mp h with e|h
  ·subst e;exact⟨a,Bl,r⟩
  ·obtain⟨a',m',q⟩:=Paired.Cds t h
   exact⟨a',Bh _ m',q⟩
theorem Bse:∀a b:List Int,HT.lexLt a b=false->HT.lexLt b a=false->a=b
 |[],[],_,_=>rfl
 |[],_::_,h,_=>by rw[HT.lexLt_nil_cons] at h;cases h
 |_::_,[],_,h=>by rw[HT.lexLt_nil_cons] at h;cases h
 |x::a,y::b,h1,h2=>by
  rw[HT.lexLt_cons] at h1 h2
  by_cases e:x=y
  ·subst e
   rw[Aq rfl] at h1 h2
   rw[Bse a b h1 h2]
  ·rw[Am e] at h1
   rw[Am (Js e)] at h2
   have:=Qo h1
   have:=Qo h2
   omega
theorem Bsd:∀a:List Int,HT.lexLt a a=false
 |[]=>rfl
 |x::a=>by rw[HT.lexLt_cons,Aq rfl];exact Bsd a
structure Bvq(prog:Program)(w:World)(s:Shared)(us:List Value)(kz:List (List Int))(κ:KeyKind)(kd:SortKind)(dec:κ.α->List Int):Prop where
 keys:Paired (λu k=>∃a,κ.keyOf u=some a/\dec a=k) us kz
 blt:∀u u' a b,u∈us->u'∈us->κ.keyOf u=some a->κ.keyOf u'=some b->κ.blt a b=HT.lexLt (dec a) (dec b)
 lt:G.LtAt prog w s κ kd
 kind:2<=us.length->∀(A:Around) (E:Value->Shared->Prop) (Q:SortKind->Shared->Prop),Q kd s->wpAny (model prog w) A (keyKind' us.toArray) Q E s
theorem Bzg{prog:Program}{w:World}{s:Shared}{us its:List Value}{kz:List (List Int)}{xs:List V}{κ:KeyKind}{kd:SortKind}{dec:κ.α->List Int}(R:Bvq prog w s us kz κ kd dec)(hv:Vals xs its)
  {arr:Array Keyed} (hp:arr.Perm (us.toArray.zip its.toArray)) (hs:SortedToK κ arr arr.size) (hst:Stable κ arr (us.toArray.zip its.toArray)):
  ∃ps:List (List Int×V),ps.Perm (kz.zip xs)/\ps.Pairwise (λp q=>HT.lexLt q.1 p.1=false)/\(∀c,ps.filter (λp=>decide (p.1=c))=(kz.zip xs).filter λp=>decide (p.1=c))/\Vals (ps.map (·.2)) (arr.map (·.2)).toList:=by
 have hp':arr.toList.Perm (us.zip its):=by
  have:=Array.perm_iff_toList_perm.mp hp
  rwa [Afa,Kw,Kw] at this
 have Z:=Paired.Cee R.keys hv
 obtain⟨ps,q1,Z1⟩:=Paired.perm hp' Z
 have hin:∀p∈arr.toList,p.1∈us:=λp hpm=>(Nt (hp'.mem_iff.mp hpm)).1
 have hlen:ps.length=arr.toList.length:=by rw[Paired.length Z1]
 refine⟨ps,q1,?_,λc=>?_,?_⟩
 ·refine Abq.mpr λi j hi hj hij=>?_
  have hj':j<arr.size:=by rw[<-Ku,<-hlen];exact hj
  have hi':i<arr.size:=by omega
  have ei:arr[i]?=some arr[i]:=Np hi'
  have ej:arr[j]?=some arr[j]:=Np hj'
  obtain⟨⟨a,ka,da⟩,_⟩:=Paired.at (i:=i) Z1 (by rw[VJ];exact ei) (CP hi)
  obtain⟨⟨b,kb,db⟩,_⟩:=Paired.at (i:=j) Z1 (by rw[VJ];exact ej) (CP hj)
  have h:=hs i j (Jr hij) hj'
  unfold KK at h
  rw[ei,ej] at h
  simp only [ka,kb,Aw9] at h
  have h':κ.blt b a=false:=h
  rw[<-da,<-db,<-R.blt arr[j].1 arr[i].1 b a (hin _ (by simp)) (hin _ (by simp)) kb ka]
  exact h'
 ·by_cases hc:∃q∈kz.zip xs,q.1=c
  ·obtain⟨q,hq,rfl⟩:=hc
   obtain⟨p0,hp0,⟨a0,k0,d0⟩,_⟩:=Paired.Cds Z hq
   have Cdf:p0.1∈us:=(Nt hp0).1
   have same:∀(p:Keyed) (z:List Int×V),p.1∈us->((∃a,κ.keyOf p.1=some a/\dec a=z.1)/\RelV z.2 p.2)->sameKey κ a0 p=decide (z.1=q.1):=λp z hpu ⟨⟨a,ka,da⟩,_⟩=>by
    unfold sameKey
    simp only [ka]
    rw[R.blt p.1 p0.1 a a0 hpu Cdf ka k0,R.blt p0.1 p.1 a0 a Cdf hpu k0 ka,da,d0]
    by_cases e:z.1=q.1
    ·rw[e,Bsd,Aj rfl];rfl
    ·rw[Bf e]
     cases h1:HT.lexLt z.1 q.1 with
     |true=>rfl
     |false=>
      cases h2:HT.lexLt q.1 z.1 with
      |true=>rfl
      |false=>exact absurd (Bse _ _ h1 h2) e
   have strong:∀{l:List Keyed} {m:List (List Int×V)},(∀p∈l,p.1∈us)->Paired (λ(p:Keyed) (q:List Int×V)=>(∃a,κ.keyOf p.1=some a/\dec a=q.1)/\RelV q.2 p.2) l m->
     Paired (λ(p:Keyed) (q:List Int×V)=>p.1∈us/\(∃a,κ.keyOf p.1=some a/\dec a=q.1)/\RelV q.2 p.2) l m:=by
    intro l m hl h
    induction h with
    |nil=>exact .nil
    |cons r t ih=>exact .cons ⟨hl _ Bl,r⟩ (ih λp hp=>hl p (Bh _ hp))
   have A1:=Paired.Cbg (p:=sameKey κ a0) (q:=λz=>decide (z.1=q.1)) (strong hin Z1) λp z h=>same p z h.1 h.2
   have A2:=Paired.Cbg (p:=sameKey κ a0) (q:=λz=>decide (z.1=q.1)) (strong (λp hp=>(Nt hp).1) Z) λp z h=>same p z h.1 h.2
   have e:=hst a0
   unfold rowOf at e
   rw[Afa,Kw,Kw] at e
   rw[e] at A1
   refine Paired.uniq (λa b b' h h'=>?_) A1 A2
   obtain⟨_,⟨k,kk,dk⟩,rv⟩:=h
   obtain⟨_,⟨k',kk',dk'⟩,rv'⟩:=h'
   rw[kk] at kk';cases kk'
   exact Prod.ext (dk.symm.trans dk') (rv.inj rv')
  ·rw[Gk.mpr λp hpm e=>hc ⟨p,q1.mem_iff.mp hpm,Ec e⟩,Gk.mpr λp hpm e=>hc ⟨p,hpm,Ec e⟩]
 ·rw[Array.toList_map]
  have go:∀{l:List Keyed} {m:List (List Int×V)},Paired (λ(p:Keyed) (q:List Int×V)=>(∃a,κ.keyOf p.1=some a/\dec a=q.1)/\RelV q.2 p.2) l m->Vals (m.map (·.2)) (l.map (·.2)):=by
   intro l m h
   induction h with
   |nil=>exact .nil
   |cons r t ih=>exact .cons r.2 ih
  exact go Z1
end RB
end
section
namespace RB
open PySem PySem.Spec PyProof.Rows L2
def Asn(sp:Sp):List V->Hp->(List V->Hp->Prop)->Prop
 |[],H,R=>R [] H
 |x::r,H,R=>sp [x] H (λv H1=>Asn sp r H1 λks H2=>R (v::ks) H2) E0
def KeysAre(K:Frag)(H:Hp)(ks:List V)(kz:List (List Int)):Prop:=
 (∃ns:List Int,ks=ns.map V.int/\kz=ns.map λn=>[n])\/Paired (λv k=>∃t,v=V.ref t/\SqT K H t (k.map V.int)/\k≠[]) ks kz
def An7(K:Frag)(xs:List V)(Q:VK)(ks:List V)(H:Hp):Prop:=∃kz,KeysAre K H ks kz/\∀ps:List (List Int×V),ps.Perm (kz.zip xs)->ps.Pairwise (λp q=>HT.lexLt q.1 p.1=false)->
 (∀c,ps.filter (λp=>decide (p.1=c))=(kz.zip xs).filter λp=>decide (p.1=c))->∀D,H D=none->Q (.ref D) (upd H D (.lst (ps.map (·.2))))
theorem Ase:∀{its:List Value} {k:List Int} (i:Nat),IntsAre its k->tupItems (λ_=>false) i its=some (k.map Mq)
 |_,_,_,.nil=>rfl
 |_,_,i,.cons n t h=>by
  show(if false=true then none else(tupItems (λ_=>false) (i+1) _).map (Mq n::·))=_
  rw[Am Ac,Ase (i+1) h]
  rfl
theorem Bsc:∀a b:List Int,Aaa itemOrd (a.map Mq) (b.map Mq)=HT.lexLt a b
 |[],[]=>rfl
 |[],_::_=>rfl
 |_::_,[]=>rfl
 |x::a,y::b=>by
  have ih:=Bsc a b
  show(decide (x<y)||(!decide (y<x)&&Aaa itemOrd (a.map Mq) (b.map Mq)))=_
  rw[ih,HT.lexLt_cons]
  by_cases e:x=y
  ·subst e;simp
  ·rw[Am e]
   by_cases h:x<y
   ·simp [h]
   ·have h2:y<x:=by omega
    simp [h,h2]
theorem Bt6{X:Cx}{pins:List (Addr×Obj)}{σ:L2.St}{H:Hp}{s:Shared}{ks:List V}{us:List Value}{kz:List (List Int)}(I:Inv X pins σ H s)(rv:Vals ks us)(h:KeysAre X.K H ks kz):
  ∃(κ:KeyKind) (kd:SortKind) (dec:κ.α->List Int),Bvq X.prog X.w s us kz κ kd dec:=by
 rcases h with⟨ns,rfl,rfl⟩|h
 ·have hi:=rv.ints
  have keys:∀{us:List Value} {ns:List Int},IntsAre us ns->Paired (λu k=>∃a:Int,intKind.keyOf u=some a/\[a]=k) us (ns.map λn=>[n]):=by
   intro us ns h
   induction h with
   |nil=>exact .nil
   |cons n t h ih=>exact .cons ⟨n,rfl,rfl⟩ ih
  refine⟨intKind,oneType',λn=>[n],keys hi,λu u' a b _ _ _ _=>?_,λA E x y a b Q hx hy hq=>?_,λh2 A E Q hq=>?_⟩
  ·show decide ((a:Int)<b)=_
   rw[HT.lexLt_cons]
   by_cases e:(a:Int)=b
   ·rw[Aq e]
    exact Bf (by rw[e];exact Int.lt_irrefl _)
   ·rw[Am e]
  ·have sh:∀(v:Value) (n:Int),intKind.keyOf v=some n->∃t,v=.int n t:=λv n e=>by
    cases v with
    |int m t=>exact⟨t,by rw[Ae (show some m=some n from e)]⟩
    |_=>exact absurd e (by simp)
   obtain⟨t,rfl⟩:=sh x a hx
   obtain⟨u,rfl⟩:=sh y b hy
   exact PySem.W.kat_lt_int hq
  ·rw[ksk_kind (keys:=us.toArray) (kz:=ns) (by simpa using hi) (by simpa using h2)]
   exact Eo hq
 ·have one:∀{v:V} {u:Value} {k:List Int},RelV v u->(∃t,v=V.ref t/\SqT X.K H t (k.map V.int)/\k≠[])->An5 s.heap (λ_=>false) u=some (k.map Mq)/\∃f,TupOf s.heap (λ_=>false) u f:=by
   intro v u k r ⟨t,e,hq,hne⟩
   subst e
   cases r
   obtain⟨its,r2,⟨o,ho,hc,n,hd⟩,_⟩:=I.tuple hq
   have hi:=r2.ints
   have hl:=hi.length
   obtain⟨f,r,rfl⟩:∃f r,its=f::r:=by
    cases its with
    |nil=>exact absurd (G6.mp hl.symm) hne
    |cons f r=>exact⟨f,r,rfl⟩
   refine⟨?_,f,t,o,_,n,rfl,ho,hc,hd,by simp,λ_=>?_,λz=>absurd z Ac⟩
   ·have e1:G.isTupObj s.heap (.ref t)=true:=by simp [G.isTupObj,ho,hc]
    unfold An5
    rw[Aq e1]
    show(match s.heap.get? t with|some o=>(match o.data with|.seq xs _=>tupItems (λ_=>false) 0 xs.toList|_=>none)|none=>none)=_
    rw[ho]
    simp only [hd]
    exact Ase 0 hi
   ·cases hi with
    |cons n t h=>exact⟨n,t,rfl⟩
  have all:∀{ks:List V} {us:List Value} {kz:List (List Int)},Vals ks us->Paired (λv k=>∃t,v=V.ref t/\SqT X.K H t (k.map V.int)/\k≠[]) ks kz->
    Paired (λu k=>An5 s.heap (λ_=>false) u=some (k.map Mq)) us kz/\∃fs,TupsOf s.heap (λ_=>false) us fs:=by
   intro ks us kz rv h
   induction h generalizing us with
   |nil=>cases rv;exact⟨.nil,[],.nil⟩
   |cons r t ih=>
    cases rv with
    |cons r1 t1=>
     obtain⟨a,f,b⟩:=one r1 r
     obtain⟨c,fs,d⟩:=ih t1
     exact⟨.cons a c,f::fs,.cons b d⟩
  obtain⟨hk,fs,ht⟩:=all rv h
  have cut:∀k:List Int,(k.map Mq:List (Int ⊕ List Nat)).map (Sum.elim id λ_=>0)=k:=λk=>by
   rw[Df]
   exact(Fv λ_ _=>rfl).trans (T9 k)
  refine⟨G.tupKindC s.heap λ_=>false,tuples' true,λl=>l.map (Sum.elim id λ_=>0),Paired.Bzr hk λu k e=>⟨_,e,cut k⟩,λu u' a b hu hu' ea eb=>?_,G.tupC_ltAt true (G.KeepsTups.refl _),λh2 A E Q hq=>?_⟩
  ·obtain⟨k,_,e1⟩:=Paired.Bxe hk hu
   obtain⟨k',_,e2⟩:=Paired.Bxe hk hu'
   have ea':An5 s.heap (λ_=>false) u=some a:=ea
   have eb':An5 s.heap (λ_=>false) u'=some b:=eb
   rw[e1] at ea';rw[e2] at eb'
   cases ea';cases eb'
   show Aaa itemOrd (k.map Mq) (k'.map Mq)=HT.lexLt ((k.map Mq).map _) ((k'.map Mq).map _)
   rw[cut,cut,Bsc]
  ·exact tup_kind (by rw[G.TupsOf.length ht];omega) ht hq
section
variable {X:Cx}{pins:List (Addr×Obj)}{σ:L2.St}{H:Hp}{s:Shared}
theorem Bz6{k:Nat}{f:Addr}{fd:FuncData}{ps:List Str}{sp:Sp}{Q:VK}{us:List Value}{vs:List V}(F:YZ X.prog X.w X.K X.mg X.base CX0 k f fd ps sp)(hr:Room k X.A.in1.in1)(hb:Binds X.K fd ps [])
  (I:Inv X pins σ H s) (r:Vals vs us) (h:sp vs H Q E0):wpAny (model X.prog X.w) X.A.in1.in1 (call (.ref f) us) (EP X pins σ Q) (λ_ _=>False) s:=by
 have hl:us.length=ps.length:=by rw[<-r.length];exact F.len _ _ _ _ h
 have hb':=hb s us I.kIn (by rw[Ds];exact hl)
 rw[Ds] at hb'
 refine Abm (Ql (F.run X.A.in1.in1 X.stack s H ⟨us,[]⟩ us vs Q E0 hr I.env0.in1.in1 hb' r h) λr s' hq=>?_)
 cases r with
 |error e=>exact hq
 |ok fl=>
  cases fl with
  |ret u=>exact I.after hq
  |next=>exact Fo hq
  |brk=>exact Fo hq
  |cont=>exact Fo hq
theorem Inv.track{t':Nat}{h':Heap}{D:Addr}{o:HO}(I:Inv X pins σ H s)(f:Abp X pins H D)(k:∀b ob,b≠D->s.heap.get? b=some ob->h'.get? b=some ob)(new:R0 X.prog X.w (upd H D o) h' D o):
  Inv X pins σ (upd H D o) {s with heap:=h',toks:=t'}:=by
 obtain⟨f0,f1,f2,f3,f4,f5⟩:=f
 refine I.step (g':=s.gens) (d':=s.drawn) (ch:=[D]) (λb hb=>?_) (λb ob _ _ hc e _=>k b ob (λz=>hc (by simp [z])) e) (λb ob _ _ hc e _=>⟨ob.slots,k b ob (λz=>hc (by simp [z])) e⟩)
  (λb ob hc _ n=>by rw[Cd (λz=>hc (by simp [z]))];exact n) (λb ob hc e=>⟨ob,k b ob (λz=>hc (by simp [z])) e⟩)
  (λb xs e=>by rw[Cd (FP e f0)];exact e) (λb ob u e=>by rw[Cd (FP e f0)];exact e) (λb ps e=>⟨#[],by rw[Cd (FP e f0),e];simp⟩) (λm hm=>?_) (λb u e=>?_) I.bare
 ·have e:b=D:=by simpa using hb
  subst e
  exact⟨f3,f1,f4,f5⟩
 ·obtain⟨ob,es,ep,ho,r⟩:=hm
  exact⟨ob,es,ep,k _ ob (Js f1) ho,r⟩
 ·by_cases hb:b=D
  ·subst hb
   rw[Ah] at e
   cases e
   exact new
  ·rw[Cd hb] at e
   refine(I.hok b u e).stay (λc v hc q=>k c v ?_ q) (λc q=>by rw[Cd (FP q f0)];exact q) λc xs q=>by rw[Cd (FP q f0)];exact q
   rcases hc with z|z
   ·rw[z];exact hb
   ·exact FP z f0
theorem Abp.heap{H':Hp}{b:Addr}(f:Abp X pins H b)(h:H' b=none):Abp X pins H' b:=⟨h,f.2⟩
end
end RB
end
section
namespace RB
open PySem PySem.Spec PyProof.Rows L2
section
variable {X:Cx}{pins:List (Addr×Obj)}{σ:L2.St}{H:Hp}{s:Shared}
theorem Bya{D kS:Addr}{e1 e:Nat}{us its:List Value}{ks xs:List V}{kz:List (List Int)}{P:PySem.Fin->Shared->Prop}{E:Value->Shared->Prop}{A:Around}
  (I:Inv X pins σ H s) (fD:Abp X pins H D) (fK:Abp X pins H kS) (hDK:D≠kS) (hD:s.heap.get? D=some (seqObj "list" #[] e1)) (hK:s.heap.get? kS=some (seqObj "list" us.toArray e))
  (rk:Vals ks us) (rx:Vals xs its) (hlen:us.length=its.length) (hz:its.length<=sizeLine) (hk:KeysAre X.K H ks kz)
  (h:∀ps:List (List Int×V),ps.Perm (kz.zip xs)->ps.Pairwise (λp q=>HT.lexLt q.1 p.1=false)->(∀c,ps.filter (λp=>decide (p.1=c))=(kz.zip xs).filter λp=>decide (p.1=c))->
   ∀s':Shared,Inv X pins σ (upd H D (.lst (ps.map (·.2)))) s'->P (.done (.ret .none)) s'):
  wpAny (model X.prog X.w) A (ksk_end D false its.toArray e1 (.ref kS) us.toArray) P E s:=by
 obtain⟨κ,kd,dec,R⟩:=Bt6 I rk hk
 have hzs:(us.toArray.zip its.toArray).size=its.length:=by rw[Array.size_zip,Bv,Bv,hlen,Nat.min_self]
 have tail:∀st:SortSt,(arrOf st).Perm (us.toArray.zip its.toArray)->failedOf st=none->SortedToK κ (arrOf st) (us.toArray.zip its.toArray).size->Stable κ (arrOf st) (us.toArray.zip its.toArray)->
   wpAny (model X.prog X.w) A (ksk_tail D false e1 (.ref kS) st) P E s:=by
  intro st hp hf hs hst
  have hsz:(arrOf st).size=its.length:=by rw[hp.size_eq,hzs]
  obtain⟨ps,q1,q2,q3,rv⟩:=Bzg R rx hp (by rw[hp.size_eq];exact hs) hst
  have s1:=LQ s.heap kS (G4 λ_=>(#[]:Array Value))
  have hD1:(s.heap.update kS (G4 λ_=>(#[]:Array Value))).get? D=some (seqObj "list" #[] e1):=(s1.2 D hDK).trans hD
  have s2:=LQ (s.heap.update kS (G4 λ_=>(#[]:Array Value))) D (G4 λ_=>(arrOf st).map (·.2))
  obtain⟨c2,hc2⟩:∃c2,((s.heap.update kS (G4 λ_=>(#[]:Array Value))).update D (G4 λ_=>(arrOf st).map (·.2))).get? D=some (seqObj "list" ((arrOf st).map (·.2)) c2):=
   ⟨_,Ai4 hD1 λ_=>(arrOf st).map (·.2)⟩
  have I1:=I.turned (t':=s.toks) (it:=kS) (λb o hb e=>(s1.2 b hb).trans e) fK.1 fK.2.1 fK.2.2.2.1 fK.2.2.2.2.1 fK.2.2.2.2.2
  have Cfa:ps.length=its.length:=by
   have e3:((arrOf st).map (·.2)).toList.length=its.length:=by rw[Ku,Bb4,hsz]
   rw[<-e3,<-rv.length,Aa]
  have I2:=Inv.track (t':=s.toks) (o:=.lst (ps.map (·.2))) I1 fD (λb o hb e=>(s2.2 b hb).trans e) ⟨by rw[Aa,Cfa];exact hz,((arrOf st).map (·.2)).toList,c2,rv,by rw[Akh];exact hc2⟩
  unfold ksk_tail
  try dsimp only
  refine Br (Aei hK rfl ?_ (by rw[Bv,hlen];exact hz) (Hh _))
  refine Br (wpAny_letGo ?_)
  refine Br (seqEpoch_at hD1 rfl ?_)
  refine Br (Aei hD1 rfl ?_ (Hh _) (by
   show((arrOf st).map (·.2)).size<=sizeLine+1
   rw[Bb4,hsz];omega))
  rw[hf]
  simp only [bne_self_eq_false,Tv,if_false]
  exact Eo (h ps q1 q2 q3 _ I2)
 unfold ksk_end
 try dsimp only
 simp only [Tv,if_false]
 by_cases h2:its.toArray.size<2
 ·rw[Aq h2,Aq h2]
  refine Br (Eo ?_)
  rw[StateT.run_pure]
  refine Br (Eo ?_)
  try dsimp only
  refine tail (SortSt.mk' general' (us.toArray.zip its.toArray) #[] 7 none) (Bai _) rfl ?_ (Stable.refl _)
  intro i j hij hj
  rw[hzs] at hj
  rw[Bv] at h2
  have e:i=j:=by omega
  subst e
  exact KeyOrd.kle_refl _
 ·rw[Am h2,Am h2]
  rw[Bv] at h2
  refine Br (R.kind (by omega) A E _ ?_)
  try dsimp only
  refine Br (Ks (G.wpS_sortRunsSt (κ:=κ) (kd:=kd) (a₀:=us.toArray.zip its.toArray) (st:=SortSt.mk' kd (us.toArray.zip its.toArray) #[] 7 none)
   (Q:=λ_ st'=>(arrOf st').Perm (us.toArray.zip its.toArray)/\failedOf st'=none/\SortedToK κ (arrOf st') (us.toArray.zip its.toArray).size/\Stable κ (arrOf st') (us.toArray.zip its.toArray))
   R.lt ?_ ⟨Bai _,rfl,rfl⟩ rfl (Stable.refl _) (by rw[hzs];omega) λst' a1 a2 a3 a4=>⟨a1,a2,a3,a4⟩) ?_ λ_ _ e=>e)
  ·intro p hp
   rw[Afa,Kw,Kw] at hp
   obtain⟨k,_,a,ka,_⟩:=Paired.Bxe R.keys (Nt hp).1
   exact⟨a,ka⟩
  ·rintro⟨⟨⟩,st'⟩ s' ⟨rfl,hp,hf,hs,hst⟩
   try dsimp only
   exact tail st' hp hf hs hst
theorem Bop{k:Nat}{l f:Addr}{xs:List V}{fd:FuncData}{ps:List Str}{sp:Sp}{Q:VK}{E:Value->Shared->Prop}(F:YZ X.prog X.w X.K X.mg X.base CX0 k f fd ps sp)(hb:Binds X.K fd ps [])(hr:Room k X.A.in1.in1)
  (I:Inv X pins σ H s) (hl:SqL X.K H l xs) (hw:Asn sp xs H (An7 X.K xs Q)):
  wpAny (model X.prog X.w) X.A (call (.builtin "sorted") [.ref l] [(UL "key",.ref f)]) (EP X pins σ Q) E s:=by
 obtain⟨its,rv,pl,hz⟩:=I.list hl
 have hlen:=rv.length
 refine call_function_entry_kw kind_sorted plain_sorted entry_sorted (ksk_s1 _ _) ?_
 unfold Builtin.«sorted»
 refine Br (m:=checkCount "sorted" 1 1 _) (Eo ?_)
 refine Br (collect_list pl.isList ?_ (by omega))
 refine Br (wpAny_newList ?_ (by omega))
 have hsz:((s.heap.push (seqObj "list" #[] 0)).update s.heap.objs.size (G4 (·++its.toArray))).objs.size=s.heap.objs.size+1:=by
  rw[Heap.size_update,size_push']
 have hoL:(((s.heap.push (seqObj "list" #[] 0)).update s.heap.objs.size (G4 (·++its.toArray))).push (seqObj "list" its.toArray 0)).get? (s.heap.objs.size+1)=some (seqObj "list" its.toArray 0):=by
  rw[<-hsz];exact Dr _ rfl
 have keep:∀b o,s.heap.get? b=some o->(((s.heap.push (seqObj "list" #[] 0)).update s.heap.objs.size (G4 (·++its.toArray))).push (seqObj "list" its.toArray 0)).get? b=some o:=λb o q=>by
  have hlt:b<s.heap.objs.size:=CN q
  rw[At2 _ _ _ (by rw[hsz];exact Fd (Q5 hlt)),Heap.get?_update_ne _ _ _ _ (Fd hlt),At2 _ _ _ (Fd hlt)]
  exact q
 show wpAny _ _ _ _ _ {s with heap:=((s.heap.push (seqObj "list" #[] 0)).update s.heap.objs.size (G4 (·++its.toArray))).push (seqObj "list" its.toArray 0)}
 rw[hsz]
 have fD0:Abp X pins H (s.heap.objs.size+1):=I.Bm4 (Rj _) (I.hok.fresh (Rj _))
 have I1:=I.kept (t':=s.toks) keep
 generalize hh1:((s.heap.push (seqObj "list" #[] 0)).update s.heap.objs.size (G4 (·++its.toArray))).push (seqObj "list" its.toArray 0)=h1 at hoL I1|-
 generalize hDn:s.heap.objs.size+1=D at hoL fD0|-
 clear keep hsz hh1
 refine Br (Asf (wpAny_call_entry_kw slot_list_sort ⟨_,hoL,rfl⟩ entry_list_sort ?body (ksk_l1 _ _)))
 case body=>
  show wpAny (model X.prog X.w) X.A.in1.in1 (Builtin.«list.sort» ⟨[.ref D],[(UL "key",.ref f)]⟩) _ _ _
  rw[ksk_t1]
  have s1:=LQ h1 D (G4 λ_=>(#[]:Array Value))
  obtain⟨e1,ho1⟩:∃e1,(h1.update D (G4 λ_=>(#[]:Array Value))).get? D=some (seqObj "list" #[] e1):=⟨_,Ai4 hoL λ_=>#[]⟩
  have I2:=I1.turned (t':=s.toks) (it:=D) (λb o hb e=>(s1.2 b hb).trans e) fD0.1 fD0.2.1 fD0.2.2.2.1 fD0.2.2.2.2.1 fD0.2.2.2.2.2
  unfold ksk_tree
  refine Br (listItems_at hoL rfl ?_)
  refine Br (Aei hoL rfl ?_ (by rw[Bv];omega) (Hh _))
  refine Br (seqEpoch_at ho1 rfl ?_)
  refine Br (wpAny_newTuple ?_ (by rw[Kw];omega))
  refine Br (wpAny_newList ?_ (Hh _))
  refine Asf ?_
  generalize h1.update D (G4 λ_=>(#[]:Array Value))=h2 at ho1 I2|-
  have I3:=I2.kept (h':=h2.push (seqObj "tuple" its.toArray 0)) (t':=s.toks) λb o e=>Bs _ e
  have ho3:(h2.push (seqObj "tuple" its.toArray 0)).get? D=some (seqObj "list" #[] e1):=Bs _ ho1
  have eT:(its.toArray.toList).toArray=its.toArray:=by simp
  show wpAny (model X.prog X.w) X.A.in1.in1 (ksk_rest D (.ref f) false its.toArray e1 (.ref (h2.push {cls:=.type "tuple",data:=.seq its.toArray.toList.toArray}).objs.size)) _ _ {s with heap:=(h2.push {cls:=.type "tuple",data:=.seq its.toArray.toList.toArray}).push (seqObj "list" #[] 0)}
  rw[eT]
  show wpAny (model X.prog X.w) X.A.in1.in1 (ksk_rest D (.ref f) false its.toArray e1 (.ref (h2.push (seqObj "tuple" its.toArray 0)).objs.size)) _ _ {s with heap:=(h2.push (seqObj "tuple" its.toArray 0)).push (seqObj "list" #[] 0)}
  generalize h2.push (seqObj "tuple" its.toArray 0)=h3 at I3 ho3|-
  have fK0:Abp X pins H h3.objs.size:=I3.Bm4 (s:={s with heap:=h3,toks:=s.toks}) (Bu _) (I3.hok.fresh (Bu _))
  have hDK:D≠h3.objs.size:=Fd (CN ho3)
  have I4:=I3.kept (h':=h3.push (seqObj "list" #[] 0)) (t':=s.toks) λb o e=>Bs _ e
  have ho4:(h3.push (seqObj "list" #[] 0)).get? D=some (seqObj "list" #[] e1):=Bs _ ho3
  have hk4:(h3.push (seqObj "list" #[] 0)).get? h3.objs.size=some (seqObj "list" #[] 0):=Dr _ rfl
  generalize h3.push (seqObj "list" #[] 0)=h4 at I4 ho4 hk4|-
  generalize h3.objs.size=kS at fK0 hDK hk4|-
  clear I3 ho3 I2 I1 ho1 hoL s1
  have Bz4:∀{H':Hp} {s':Shared} {o:Obj} {b:Addr},Abp X pins H b->s'.heap.get? b=some o->H' b=none->(∀v,o.data≠.cell v)->(s'.heap.get? b=some o/\H' b=none/\b≠X.env.locals/\b∉X.fs/\∀v,o.data≠.cell v):=
   λ{H' s' o b} f e n d=>⟨e,n,f.2.1,f.2.2.1,d⟩
  have nc:∀(us:Array Value) (e:Nat) (v:Option Value),(seqObj "list" us e).data≠.cell v:=λus e v z=>nomatch z
  unfold ksk_rest
  refine Br (wpAny_rule ?_)
  rw[List.forIn_toArray]
  refine Br (ksk_fold (λi s'=>∃(H':Hp) (us:List Value) (e:Nat) (ks:List V),Inv X (pins++[(D,seqObj "list" #[] e1),(kS,seqObj "list" us.toArray e)]) σ H' s'/\Vals ks us/\ks.length=i/\
   Asn sp (xs.drop i) H' (λr H2=>An7 X.K xs Q (ks++r) H2)) its 0 _ ⟨H,[],0,[],?start,.nil,rfl,?w0⟩ ?step ?done)
  case w0=>rw[Ri];exact hw
  case start=>
   refine I4.Aol λp hp=>?_
   rcases Bw.mp hp with hp|hp
   ·exact I4.pin p (Cu _ hp)
   ·rcases BP.mp hp with rfl|hp
    ·exact Bz4 fD0 ho4 fD0.1 (nc _ _)
    ·rw[Bj.mp hp]
     exact Bz4 fK0 hk4 fK0.1 (nc _ _)
  case step=>
   rintro j u s' hu ⟨H',us,e,ks,J,rk,hks,hrun⟩
   have hj:j<its.length:=(BL.mp hu).1
   have hjx:j<xs.length:=by omega
   have hus:us.length<=its.length:=by have:=rk.length;omega
   simp only [Nat.zero_add] at hks hrun|-
   obtain⟨x,hx⟩:∃x,xs[j]?=some x:=⟨_,CP hjx⟩
   obtain⟨u',hu',rx⟩:=rv.get hx
   rw[hu] at hu';cases hu'
   rw[EY hjx,(Ae (hx.symm.trans (CP hjx))).symm] at hrun
   refine Br (wpAny_attempt (Ks (Bz6 (vs:=[x]) (us:=[u]) F hr hb J (.cons rx .nil) hrun) (λv s'' he=>?_) λ_ _ hF=>hF.elim))
   obtain⟨y,H1,J1,ry,Cdi⟩:=he
   try dsimp only
   have pk:=J1.pin (kS,seqObj "list" us.toArray e) (Cu _ (Cu _ (by simp)))
   have pd:=J1.pin (D,seqObj "list" #[] e1) (Cu _ (Cu _ (by simp)))
   have sb:=LQ s''.heap kS (G4 (·.push v))
   obtain⟨c2,hc2⟩:∃c2,(s''.heap.update kS (G4 (·.push v))).get? kS=some (seqObj "list" (us.toArray.push v) c2):=⟨_,Ai4 pk.1 (·.push v)⟩
   have J2:Inv X pins σ H1 s'':=J1.Aol λp hp=>J1.pin p (Cu _ (GP _ hp))
   have J3:=J2.turned (t':=s''.toks) (it:=kS) (λb o hb e=>(sb.2 b hb).trans e) pk.2.1 fK0.2.1 fK0.2.2.2.1 fK0.2.2.2.2.1 fK0.2.2.2.2.2
   refine Br (Aei pk.1 rfl ?_ (by rw[Bv];omega) (Az (PN (Array.size_push ..)) (by rw[Bv];omega)))
   refine Eo ⟨rfl,H1,us++[v],c2,ks++[y],J3.Aol λp hp=>?_,rk.append (.cons ry .nil),by rw[Bg,hks];rfl,?_⟩
   ·rcases Bw.mp hp with hp|hp
    ·exact J3.pin p (Cu _ hp)
    ·rcases BP.mp hp with rfl|hp
     ·exact Bz4 fD0 ((sb.2 D hDK).trans pd.1) pd.2.1 (nc _ _)
     ·rw[Bj.mp hp]
      refine Bz4 fK0 ?_ pk.2.1 (nc _ _)
      have e4:(us++[v]).toArray=us.toArray.push v:=by simp
      show _=some (seqObj "list" (us++[v]).toArray c2)
      rw[e4]
      exact hc2
   ·have e3:(λr H2=>An7 X.K xs Q (ks++[y]++r) H2)=λr H2=>An7 X.K xs Q (ks++y::r) H2:=by
     funext r H2
     rw[Cg]
     rfl
    rw[e3]
    exact Cdi
  case done=>
   rintro s' ⟨H',us,e,ks,J,rk,hks,hrun⟩
   simp only [Nat.zero_add] at hks hrun
   rw[<-hlen,O2] at hrun
   have hrun:An7 X.K xs Q (ks++[]) H':=hrun
   rw[Ds] at hrun
   obtain⟨kz,hkz,hq⟩:=hrun
   have pk:=J.pin (kS,seqObj "list" us.toArray e) (Cu _ (Cu _ (by simp)))
   have pd:=J.pin (D,seqObj "list" #[] e1) (Cu _ (Cu _ (by simp)))
   have J2:Inv X pins σ H' s':=J.Aol λp hp=>J.pin p (Cu _ (GP _ hp))
   refine Br (listItems_at pk.1 rfl ?_)
   refine Bya J2 (Abp.heap fD0 pd.2.1) (Abp.heap fK0 pk.2.1) hDK pd.1 pk.1 rk rv (by have:=rk.length;omega) (by omega) hkz λps q1 q2 q3 s3 I3=>⟨_,rfl,?_⟩
   exact Eo ⟨_,rfl,.ref D,_,I3,rfl,hq ps q1 q2 q3 D pd.2.1⟩
end
def Awp(K:Frag)(sp:Sp)(t:TA):TE:=λσ H Q=>t σ H λvs H1=>∃l xs,vs=[.ref l]/\SqL K H1 l xs/\Asn sp xs H1 (An7 K xs Q)
section
variable {X:Cx}{k:Nat}{y:Str}{ps:List Str}{sp:Sp}{p py pos kpos:Pos}{e:Expr}{t:TA}
theorem Bid(D:Def X.prog X.w X.K X.mg X.base k y ps sp)(hr:Room (k+2) X.A)(hg:Gl X "sorted")(hm:X.mg "sorted"=none)(hgy:Gl X y)(ha:PA X [e] t)(hdb:(y==("__debug__":Str))=false:=by decide+kernel)
  (he:starEach [e] X.env=[(false,eval e X.env)]:=by rfl):PE X (.Call (.Name "sorted" p) [e] [⟨some "key",.Name y py,kpos⟩] pos) (Awp X.K sp t):=by
 intro pins s σ H Q I h
 obtain⟨f,fd,F,hf,hkp,hb⟩:=D.ex
 refine Ji (Aaq I hg hm boot_sorted ?_)
 refine callWith_kw (thn (ha pos pins s σ H _ I h) λus s1 ⟨vs,H1,I1,r,l,xs,hv,hl,hw⟩=>?_) (by rw[he];rfl) (by rw[he];rfl)
 subst hv
 have hu:us=[G8 l]:=Vals.Boc r
 subst hu
 refine thn (Bz5 (X:=X) (nm:=some "key") (kpos:=kpos) (Nf (pos:=py) hgy hf hdb) Ccg pos pins s1 σ H1 (λvs H2=>vs=[.ref f]/\H2=H1) I1 ⟨rfl,rfl⟩) ?_
 rintro ks s2 ⟨vs,H2,I2,r2,rfl,rfl⟩
 have hk:ks=[G8 f]:=Vals.Boc r2
 subst hk
 exact Bop F hb (Room.in1 (Room.in1 hr)) I2 hl hw
end
end RB
end
section
namespace RB
open PySem PySem.Spec PyProof.Rows L2
theorem Cdx{X:Cx}{tg it:Expr}{w1 w2:TI}(h1:PI X tg it w1)(h2:PI X tg it w2):PI X tg it (λσ H R=>w1 σ H R\/w2 σ H R):=by
 intro pins s σ H R I h
 rcases h with h|h
 ·exact h1 pins s σ H R I h
 ·exact h2 pins s σ H R I h
section
open PySem.SeqAt
open PySem.AutoSeq1 (wpAny_loadPart')
open PySem.MeetsSeq PySem.MeetsSeq2 PySem.MeetsSeq3
theorem Cd9(A:Around)(s:Shared)(a:Int)(t:Tok)(c:Int)(u:Tok)(prog:Program)(w:World)(E:Value->Shared->Prop)(Q:Value->Shared->Prop)(h:Q (.bool (decide (a<=c))) s):
  wpAny (model prog w) A (richCompare .LtE (.int a t) (.int c u)) Q E s:=
 (PyProof.Rows.le_int h:wpAny (model prog w) A (compareOp .LtE (.int a t) (.int c u)) Q E s)
theorem Cd8(A:Around)(s:Shared)(a:Int)(t:Tok)(c:Int)(u:Tok)(prog:Program)(w:World)(E:Value->Shared->Prop)(Q:Value->Shared->Prop)(h:Q (.bool (decide (c<=a))) s):
  wpAny (model prog w) A (richCompare .GtE (.int a t) (.int c u)) Q E s:=
 (PyProof.Rows.ge_int h:wpAny (model prog w) A (compareOp .GtE (.int a t) (.int c u)) Q E s)
theorem Bha(l b:Addr)(items items2:Array Value)(n n2:Nat)(dd dd2:Option Addr)(sl sl2:Array (Option Value))(ns ms:List Int)(hi:IntsAre items.toList ns)(hj:IntsAre items2.toList ms):
  Meets (Builtin.«tuple.__le__» ⟨[.ref l,.ref b],[]⟩)
   (λ_ R s=>s.heap.get? l=some {cls:=.type "tuple",dict:=dd,data:=.seq items n,slots:=sl}/\s.heap.get? b=some {cls:=.type "tuple",dict:=dd2,data:=.seq items2 n2,slots:=sl2}/\
    R (.ok (.ret (.bool (!HT.lexLt ms ns)))) s):=
 .of_wp λprog w A R s h=>by
  obtain⟨hp,g,d,tk,os⟩:=s;obtain⟨hl,hb,h⟩:=h
  have f2:=Oa
  have z1:items.size=ns.length:=by rw[<-hi.length];simp
  have z2:items2.size=ms.length:=by rw[<-hj.length];simp
  wp_walk using LK hl,LK hb,Agh _ (λrest b s'=>b.1=none/\s'=⟨hp,g,d,tk,os⟩/\∃(vs ws:List Value) (ns' ms':List Int),rest=vs.zip ws/\
   IntsAre vs ns'/\IntsAre ws ms'/\ns'.length+items2.size=ms'.length+items.size/\R (.ok (.ret (.bool (!HT.lexLt ms' ns')))) ⟨hp,g,d,tk,os⟩) _
  case turn=>
   rintro⟨y,x⟩ rest b s' ⟨hb',rfl,vs,ws,ns',ms',hz,hvi,hwi,hlen,hR⟩
   cases hvi with
   |nil=>rw[Q0] at hz;cases hz
   |cons a t Bwv=>
    cases hwi with
    |nil=>rw[PL] at hz;cases hz
    |cons c u Bww=>
     rw[Ka] at hz
     injection hz with hyx hrest
     injection hyx with hy hx
     subst hy hx
     rw[HT.lexLt_cons] at hR
     simp only [Ay] at hlen
     obtain⟨e,he,hiff⟩:=HT.eqAt_int A.in1 ⟨hp,g,d,tk,os⟩ a t c u
     refine Br (he prog w _ _ ?_)
     cases e with
     |true=>
      rw[Aq (hiff.mp rfl).symm] at hR
      wp_walk
      exact⟨rfl,rfl,_,_,_,_,hrest,Bwv,Bww,by omega,hR⟩
     |false=>
      have hne:a≠c:=λq=>absurd (hiff.mpr q) Ac
      rw[Am (Js hne),show(!decide (c<a))=decide (a<=c) by by_cases q:c<a<;>simp [q]<;>omega] at hR
      have hri:=Cd9 A.in1 ⟨hp,g,d,tk,os⟩ a t c u prog w
      wp_walk using hri
      exact⟨_,rfl,by simpa using hR⟩
  case fin=>
   rintro⟨b1,b2⟩ s' ⟨hb',rfl,vs,ws,ns',ms',hz,hvi,hwi,hlen,hR⟩
   simp only at hb'
   subst hb'
   have hv:(!HT.lexLt ms' ns')=decide (items.size<=items2.size):=by
    cases hvi with
    |nil=>
     cases hwi with
     |nil=>
      simp only [Ie] at hlen
      rw[HT.lexLt_nil_nil]
      exact(Aj (by omega)).symm
     |cons c u hw=>
      simp only [Ie,Ay] at hlen
      rw[HT.lexLt_cons_nil];exact(Aj (by omega)).symm
    |cons a t hv=>
     cases hwi with
     |nil=>
      simp only [Ie,Ay] at hlen
      rw[HT.lexLt_nil_cons];exact(Bf (by omega)).symm
     |cons c u hw=>
      rw[Ka] at hz
      cases hz
   rw[hv] at hR
   wp_walk
   exact⟨_,rfl,by simpa [Ol] using hR⟩
  case h=>
   exact⟨rfl,rfl,items.toList,items2.toList,ns,ms,rfl,hi,hj,by omega,h⟩
theorem Bp3{prog:Program}{w:World}{A:Around}{E:Value->Shared->Prop}{s:Shared}{l b:Addr}{items items2:Array Value}{ns ms:List Int}{Q:Value->Shared->Prop}(hl:IsTup s.heap l items)(hb:IsTup s.heap b items2)(hi:IntsAre items.toList ns)(hj:IntsAre items2.toList ms)
  (hu:A.units<cLine) (h:Q (.bool (!HT.lexLt ms ns)) s):wpAny (model prog w) A (compareOp .LtE (.ref l) (.ref b)) Q E s:=by
 obtain⟨⟨cls,dd,data,sl⟩,ho,hc,n,hd⟩:=id hl
 obtain⟨⟨cls2,dd2,data2,sl2⟩,ho2,hc2,n2,hd2⟩:=id hb
 simp only at hc hd hc2 hd2
 subst hc hd hc2 hd2
 exact Vr (op:=.LtE) ⟨_,ho,rfl⟩ ⟨_,ho2,rfl⟩ PySem.F.slot_tuple_le PySem.F.entry_tuple_le (PySem.F.args_tuple_le_2 _ _) (Bha l b items items2 n n2 dd dd2 sl sl2 ns ms hi hj)
  ⟨ho,ho2,show Agu (!HT.lexLt ms ns)≠Xm/\Q (.bool (!HT.lexLt ms ns)) s from⟨(λx=>nomatch x),h⟩⟩ hu
def Cd3(K:Frag):R2:=λx y H Q=>∃a b ns ms,x=.ref a/\y=.ref b/\SqT K H a (ns.map V.int)/\SqT K H b (ms.map V.int)/\Q (.bl (!HT.lexLt ms ns)) H
theorem Ccc{X:Cx}(hu:X.A.units<cLine):OpR X (compareOp .LtE) (Cd3 X.K):=by
 intro pins s σ H x y v u Q I rx ry h
 obtain⟨a,b,ns,ms,rfl,rfl,ha,hb,q⟩:=h
 cases rx
 cases ry
 obtain⟨its,r1,p1,_⟩:=I.tuple ha
 obtain⟨its2,r2,p2,_⟩:=I.tuple hb
 have i1:IntsAre its.toArray.toList ns:=intsAre_of r1
 have i2:IntsAre its2.toArray.toList ms:=intsAre_of r2
 exact Bp3 p1 p2 i1 i2 hu ⟨.bl (!HT.lexLt ms ns),H,I,rfl,q⟩
theorem Bg9(l b:Addr)(items items2:Array Value)(n n2:Nat)(dd dd2:Option Addr)(sl sl2:Array (Option Value))(ns ms:List Int)(hi:IntsAre items.toList ns)(hj:IntsAre items2.toList ms):
  Meets (Builtin.«tuple.__ge__» ⟨[.ref l,.ref b],[]⟩)
   (λ_ R s=>s.heap.get? l=some {cls:=.type "tuple",dict:=dd,data:=.seq items n,slots:=sl}/\s.heap.get? b=some {cls:=.type "tuple",dict:=dd2,data:=.seq items2 n2,slots:=sl2}/\
    R (.ok (.ret (.bool (!HT.lexLt ns ms)))) s):=
 .of_wp λprog w A R s h=>by
  obtain⟨hp,g,d,tk,os⟩:=s;obtain⟨hl,hb,h⟩:=h
  have f2:=Oa
  have z1:items.size=ns.length:=by rw[<-hi.length];simp
  have z2:items2.size=ms.length:=by rw[<-hj.length];simp
  wp_walk using LK hl,LK hb,Agh _ (λrest b s'=>b.1=none/\s'=⟨hp,g,d,tk,os⟩/\∃(vs ws:List Value) (ns' ms':List Int),rest=vs.zip ws/\
   IntsAre vs ns'/\IntsAre ws ms'/\ns'.length+items2.size=ms'.length+items.size/\R (.ok (.ret (.bool (!HT.lexLt ns' ms')))) ⟨hp,g,d,tk,os⟩) _
  case turn=>
   rintro⟨y,x⟩ rest b s' ⟨hb',rfl,vs,ws,ns',ms',hz,hvi,hwi,hlen,hR⟩
   cases hvi with
   |nil=>rw[Q0] at hz;cases hz
   |cons a t Bwv=>
    cases hwi with
    |nil=>rw[PL] at hz;cases hz
    |cons c u Bww=>
     rw[Ka] at hz
     injection hz with hyx hrest
     injection hyx with hy hx
     subst hy hx
     rw[HT.lexLt_cons] at hR
     simp only [Ay] at hlen
     obtain⟨e,he,hiff⟩:=HT.eqAt_int A.in1 ⟨hp,g,d,tk,os⟩ a t c u
     refine Br (he prog w _ _ ?_)
     cases e with
     |true=>
      rw[Aq (hiff.mp rfl)] at hR
      wp_walk
      exact⟨rfl,rfl,_,_,_,_,hrest,Bwv,Bww,by omega,hR⟩
     |false=>
      have hne:a≠c:=λq=>absurd (hiff.mpr q) Ac
      rw[Am hne,show(!decide (a<c))=decide (c<=a) by by_cases q:a<c<;>simp [q]<;>omega] at hR
      have hri:=Cd8 A.in1 ⟨hp,g,d,tk,os⟩ a t c u prog w
      wp_walk using hri
      exact⟨_,rfl,by simpa using hR⟩
  case fin=>
   rintro⟨b1,b2⟩ s' ⟨hb',rfl,vs,ws,ns',ms',hz,hvi,hwi,hlen,hR⟩
   simp only at hb'
   subst hb'
   have hv:(!HT.lexLt ns' ms')=decide (items2.size<=items.size):=by
    cases hvi with
    |nil=>
     cases hwi with
     |nil=>
      simp only [Ie] at hlen
      rw[HT.lexLt_nil_nil]
      exact(Aj (by omega)).symm
     |cons c u hw=>
      simp only [Ie,Ay] at hlen
      rw[HT.lexLt_nil_cons];exact(Bf (by omega)).symm
    |cons a t hv=>
     cases hwi with
     |nil=>
      simp only [Ie,Ay] at hlen
      rw[HT.lexLt_cons_nil];exact(Aj (by omega)).symm
     |cons c u hw=>
      rw[Ka] at hz
      cases hz
   rw[hv] at hR
   wp_walk
   exact⟨_,rfl,by simpa [Ol] using hR⟩
  case h=>
   exact⟨rfl,rfl,items.toList,items2.toList,ns,ms,rfl,hi,hj,by omega,h⟩
theorem Bps{prog:Program}{w:World}{A:Around}{E:Value->Shared->Prop}{s:Shared}{l b:Addr}{items items2:Array Value}{ns ms:List Int}{Q:Value->Shared->Prop}(hl:IsTup s.heap l items)(hb:IsTup s.heap b items2)(hi:IntsAre items.toList ns)(hj:IntsAre items2.toList ms)
  (hu:A.units<cLine) (h:Q (.bool (!HT.lexLt ns ms)) s):wpAny (model prog w) A (compareOp .GtE (.ref l) (.ref b)) Q E s:=by
 obtain⟨⟨cls,dd,data,sl⟩,ho,hc,n,hd⟩:=id hl
 obtain⟨⟨cls2,dd2,data2,sl2⟩,ho2,hc2,n2,hd2⟩:=id hb
 simp only at hc hd hc2 hd2
 subst hc hd hc2 hd2
 exact Vr (op:=.GtE) ⟨_,ho,rfl⟩ ⟨_,ho2,rfl⟩ PySem.F.slot_tuple_ge PySem.F.entry_tuple_ge (PySem.F.args_tuple_ge_2 _ _) (Bg9 l b items items2 n n2 dd dd2 sl sl2 ns ms hi hj)
  ⟨ho,ho2,show Agu (!HT.lexLt ns ms)≠Xm/\Q (.bool (!HT.lexLt ns ms)) s from⟨(λx=>nomatch x),h⟩⟩ hu
def Cd2(K:Frag):R2:=λx y H Q=>∃a b ns ms,x=.ref a/\y=.ref b/\SqT K H a (ns.map V.int)/\SqT K H b (ms.map V.int)/\Q (.bl (!HT.lexLt ns ms)) H
theorem Ccb{X:Cx}(hu:X.A.units<cLine):OpR X (compareOp .GtE) (Cd2 X.K):=by
 intro pins s σ H x y v u Q I rx ry h
 obtain⟨a,b,ns,ms,rfl,rfl,ha,hb,q⟩:=h
 cases rx
 cases ry
 obtain⟨its,r1,p1,_⟩:=I.tuple ha
 obtain⟨its2,r2,p2,_⟩:=I.tuple hb
 have i1:IntsAre its.toArray.toList ns:=intsAre_of r1
 have i2:IntsAre its2.toArray.toList ms:=intsAre_of r2
 exact Bps p1 p2 i1 i2 hu ⟨.bl (!HT.lexLt ns ms),H,I,rfl,q⟩
end
structure Bvv(K:Frag)(a:Addr)(kfs:List (Int×Addr)):Prop where
 ex:∃(es:Array DictEntry) (ep:Nat),K.lookup a=some ⟨.type "dict",none,.dict es ep,#[]⟩/\Paired (λ(e:DictEntry) (p:Int×Addr)=>(∃t,e.key=.int p.1 t)/\e.hash=hashInt p.1/\e.val=.ref p.2) es.toList kfs
 nd:(kfs.map (·.1)).Nodup
 ns:(a==sysModules)=false
def Bdh(kfs:List (Int×Addr))(n:Int):Option Addr:=(kfs.find? λp=>decide (p.1=n)).map (·.2)
theorem Bov{K:Frag}{a:Addr}{kfs:List (Int×Addr)}{P:Program}{w:World}{h:Heap}(T:Bvv K a kfs)(X:K.In h):h.DictOf (Oh P w) a (kfs.map λp=>(p.1,G8 p.2)):=by
 obtain⟨es,ep,e,r⟩:=T.ex
 have isI:∀(n:Int) (t:Tok),(Oh P w).is n (.int n t)=true:=λn t=>by simp [Oh,Ak2]
 refine⟨_,es,ep,X _ _ e,⟨rfl,rfl,rfl⟩,rfl,λx hx=>?_,?_,?_⟩
 ·obtain⟨p,_,⟨t,hk⟩,hh,_⟩:=Paired.Bxe r (Akg.mpr hx)
  exact⟨p.1,by rw[hk];exact isI _ _,hh⟩
 ·have go:∀{l:List DictEntry} {m:List (Int×Addr)},Paired (λ(e:DictEntry) (p:Int×Addr)=>(∃t,e.key=.int p.1 t)/\e.hash=hashInt p.1/\e.val=.ref p.2) l m->Pairs (Oh P w) l (m.map λp=>(p.1,G8 p.2)):=by
   intro l m q
   induction q with
   |nil=>exact .nil
   |cons r t ih=>
    obtain⟨⟨tk,hk⟩,_,hv⟩:=r
    exact .cons (by rw[hk];exact isI _ _) hv ih
  exact go r
 ·rw[Df];exact T.nd
theorem Blu(n:Int):∀kfs:List (Int×Addr),valueAt (kfs.map λp=>(p.1,G8 p.2)) n=(Bdh kfs n).map G8
 |[]=>rfl
 |p::r=>by
  have ih:=Blu n r
  unfold valueAt Bdh at ih|-
  rw[Bo,Kz,Kz]
  by_cases h:p.1=n
  ·simp only [h,decide_true];rfl
  ·simp only [h,decide_false];exact ih
section
variable {X:Cx}{a:Addr}{kfs:List (Int×Addr)}
def Bxx(a:Addr)(kfs:List (Int×Addr)):R2:=λx y H Q=>∃n,x=.int n/\y=.ref a/\Q (.bl (Bdh kfs n).isSome) H
def Bqj(a:Addr)(kfs:List (Int×Addr)):R2:=λx y H Q=>∃n f,x=.ref a/\y=.int n/\Bdh kfs n=some f/\Q (.ref f) H
theorem Bxp(T:Bvv X.K a kfs):OpR X (compareOp .In) (Bxx a kfs):=by
 intro pins s σ H x y v u Q I rx ry h
 obtain⟨n,rfl,rfl,q⟩:=h
 obtain⟨t,rfl⟩:=rx
 cases ry
 have dd:=Bov (P:=X.prog) (w:=X.w) T I.kIn
 refine wpAny_in_of (knd:=Oh X.prog X.w) (k:=n) (by simp [Oh,Ak2]) T.ns dd.mapOf ?_
 rw[Blu,Ab2]
 exact⟨.bl _,H,I.tok _,rfl,q⟩
theorem Bsw{o i:Expr}{to ti:TE}{pos:Pos}(T:Bvv X.K a kfs)(ho:PE X o to)(hi:PE X i ti)(hs:Ccx i):PE X (.Subscript o i pos) (tOp (Bqj a kfs) to ti):=by
 intro pins s σ H Q I h
 refine Cac PySem.F.slot_dict_getitem.lookup hs (thn (ho pins s σ H _ I h) λu s1 ⟨x,H1,I1,rx,q1⟩=>thn (hi pins s1 σ H1 _ I1 q1) λiv s2 ⟨y,H2,I2,ry,n,f,ex,ey,g,q2⟩=>?_)
 subst ex ey
 cases rx
 obtain⟨t,rfl⟩:=ry
 have dd:=Bov (P:=X.prog) (w:=X.w) T I2.kIn
 refine⟨dd.typeIs,wpAny_getItem_of (knd:=Oh X.prog X.w) (k:=n) (v:=.ref f) (by simp [Oh,Ak2]) dd.mapOf (by rw[Blu,g];rfl) ⟨.ref f,H2,I2.tok _,rfl,q2⟩⟩
end
structure Bis(K:Frag)(C:Addr)(m:Str)(f:Addr):Prop where
 ga:PySem.W.specialIn K (.ref C) "__getattribute__"=some (some (.builtin "type.__getattribute__"))
 rd:PySem.W.readsIn K C (.type "type")=true
 at_:PySem.W.findCls K (.ref C) (.type "type") m=some (.val (.ref f))
 kp:Ig K (.ref f)=true
section
variable {X:Cx}{k:Nat}{C f:Addr}{x m:Str}{fd:FuncData}{ps:List Str}{sp:Sp}{p pos apos:Pos}{e:Expr}{es:List Expr}{t:TA}
theorem Buw{pl:Sem Bool}(G:Bis X.K C m f)(F:YZ X.prog X.w X.K X.mg X.base CX0 k f fd ps sp)(hb:Binds X.K fd ps [])(hr:Room k X.A)(hg:Gl X x)(hm:X.mg x=some (.ref C))(ha:PA X (e::es) t)(hdb:(x==("__debug__":Str))=false:=by decide+kernel)
  (hst:starEach (e::es) X.env=(false,eval e X.env)::starEach es X.env:=by rfl) (hpl:(backTo pos (starEach es X.env)).any (·.1)=false:=by rfl)
  (ht:eval (.Call (.Attribute (.Name x p) m apos) (e::es) [] pos) X.env=(do
   let ov<-eval (.Name x p) X.env
   standAt apos.atName
   let(f,first)<-holding [ov] (getMethod ov m pl)
   callWith pos f first (backTo pos (starEach (e::es) X.env)) (backToKw pos (keywordEach [] X.env))):=by rfl):
  PE X (.Call (.Attribute (.Name x p) m apos) (e::es) [] pos) (Cy sp [] E0 t):=by
 intro pins s σ H Q I h
 refine PySem.W.methodCall_KW (pl:=pl) (Aof I hg hm ?_ hdb) ht
 refine PySem.W.method_cls I.kIn G.ga (PySem.W.cls_value I.kIn G.rd G.at_ rfl ?_)
 have I1:=I.tok (s.toks+1)
 refine M7 (first:=[]) (h₀:=X.base) I.ok.mod.kin G.kp (thn (ha pos pins _ σ H _ I1 h) λus s2 ⟨vs,H2,I2,r,q2⟩=>⟨I2.kIn,?_⟩) hst hpl
 exact Bqm F hr hb .nil Bn2 I2 r q2
end
def Bsz(K:Frag):R2:=λx y H Q=>∃d xs,Dp K H x d/\Dp K H y (.list xs)/\Qh d=true/\Qh (.list xs)=true/\Q (.bl (!(xs.any λy=>Z9 y d))) H
theorem Bup{X:Cx}(hu:X.A.units+65<cLine):OpR X (compareOp .NotIn) (Bsz X.K):=by
 intro pins s σ H x y v u Q I rx ry h
 obtain⟨d,xs,hd,he,sd,se,q⟩:=h
 obtain⟨as,r1⟩:=Dp.reads I d x v hd rx
 obtain⟨bs,r2⟩:=Dp.reads I (.list xs) y u he ry
 exact PySem.SeqAt.notIn_list_reads r2 r1 (Yd se) (Yd sd) (room_in_shaped sd hu) ⟨.bl _,H,I,rfl,q⟩
theorem Cak{k:Nat}{A:Around}(r:Room k A):A.units+65<cLine:=by have:=r.un;omega
theorem Bxh:typeLookup (.type "list_reverseiterator") "__len__"=pure none:=by rw[typeLookup_type,Aj9];kernel_rfl
theorem Bzb:typeLookup (.type "list_reverseiterator") "__length_hint__"=pure (some (.builtin "list_reverseiterator.__length_hint__")):=by rw[typeLookup_type,Aj9];kernel_rfl
section
variable {prog:Program}{w:World}{A:Around}{s:Shared}{R:Result->Shared->Prop}
variable {I:Addr}{fp wr:List Addr}{G:Array GenState->Array GenState->Prop}{n:Nat}{P:Nat->Value->Prop}{St:Nat->Shared->Prop}
theorem By4(W:WalksS prog w A.in1 I fp wr G n P St)(hT:∀i s,St i s->s.TypeIs (.ref I) "list_reverseiterator")(S:Addr)(res:Value)(c₀:Nat)(hst:St 0 s)(hSf:S∉fp)(hI:I∈fp)
  (hS:s.heap.get? S=some {cls:=.type "list",data:=.seq #[] c₀})
  (hR:∀s' acc' c',Moved (S::wr) G s s'->s'.heap.get? S=some {cls:=.type "list",dict:=none,data:=.seq acc' c',slots:=#[]}->ItemsOf P acc' n->R (.ok (.ret res)) s') (hn:n<=sizeLine):
  wpAny (model prog w) A.in1 (Mg (.ref S) (.ref I) res)
   (λfin s'=>match fin with|.done f=>R (.ok f) s'|.again c'=>c'.quiet=true/\codeAny (model prog w) A c' R s') (λe s'=>R (.error e) s') s:=by
 have hSI:S≠I:=λe=>hSf (e▸hI)
 have h1:Adx (.ref S) (.ref I)=false:=by simp [Adx,hSI]
 unfold Mg
 refine Br (wpAny_typeOf (hT 0 _ hst) ?_)
 rw[Am (by rw[h1];decide)]
 refine Br (W.self 0 _ _ _ hst ?_)
 refine Br (Asf ?_)
 unfold Builtin.List.listLengthHint
 refine Br (Aj5 (hT 0 _ hst) Bxh ?_)
 show wpAny _ A.in1 (specialOf (G8 I) (UL "__length_hint__")>>=_) _ _ _
 refine Br (Aj5 (hT 0 _ hst) Bzb ?_)
 (generalize hid:("list_reverseiterator.__length_hint__":String)=id0;(fail_if_success (clear hid id0));wp_delta;rw[show splitId id0=some ("list_reverseiterator","__length_hint__") from by subst hid;decide+kernel];subst hid)
 refine Br (wpAny_isInstance (b:=true) (hT 0 _ hst) (by rw[isSubtype_type];kernel_rfl) ?_)
 refine Eo ?_
 rw[Am (by decide)]
 exact Eo ⟨plainId_quiet F.plain_extend_loop _,codeAny_extend_loopS W hn _ hSf _ n 0 _ _ _ rfl (Hh _) hst hS (ItemsOf.nil P) λs' acc' c' hm hS' hacc=>hR s' acc' c' hm hS' hacc⟩
theorem Bwz(W:WalksS prog w A.in1 I fp wr G n P St)(hT:∀i s,St i s->s.TypeIs (.ref I) "list_reverseiterator")(S:Addr)(hst:St 0 s)(hSf:S∉fp)(hI:I∈fp)
  (hS:s.heap.get? S=some {cls:=.type "list",data:=.seq #[]})
  (hR:∀s' acc' c',Moved (S::wr) G s s'->s'.heap.get? S=some {cls:=.type "list",dict:=none,data:=.seq acc' c',slots:=#[]}->ItemsOf P acc' n->R (.ok (.ret .none)) s') (hn:n<=sizeLine):
  wpAny (model prog w) A.in1 (Builtin.«list.__init__» ⟨[.ref S,.ref I],[]⟩)
   (λfin s'=>match fin with|.done f=>R (.ok f) s'|.again c'=>c'.quiet=true/\codeAny (model prog w) A c' R s') (λe s'=>R (.error e) s') s:=by
 show wpAny _ A.in1 (do let old<-Agi (.ref S);Builtin.List.listUpdate (.ref S) (λ_=>#[]);letGo old.toList.reverse;Mg (.ref S) (.ref I) .none) _ _ s
 refine Br ?_
 unfold Agi
 refine Br (An4 hS rfl (Eo ?_))
 show wpAny _ A.in1 (updateSeq S (λ_=>#[])>>=λ_=>letGo (#[]:Array Value).toList.reverse>>=λ_=>Mg (.ref S) (.ref I) .none) _ _ s
 refine Br (wpAny_updateSeq hS rfl ?_)
 have hS₂:=VL (G4 (λ_=>(#[]:Array Value))) hS rfl
 have oth:∀b o,b≠S->s.heap.get? b=some o->(s.heap.update S (G4 (λ_=>(#[]:Array Value)))).get? b=some o:=
  λb o hb e=>(Uq _ _ (Js hb)).trans e
 refine Br (wpAny_letGo ?_)
 refine By4 W hT S .none _ (W.frame 0 s _ s.toks hst (Bu _) λb hb o e=>oth b o (λh=>hSf (h▸hb)) e) hSf hI hS₂ (λs' acc' c' hm hS' hacc=>?_) hn
 exact hR s' acc' c' (Moved.trans W.gtrans ((Moved.refl W.grefl).then_heap (Bu _) λb o hb e=>oth b o (λh=>hb (h▸Bl)) e) hm) hS' hacc
end
theorem Bf4{prog:Program}{w:World}{A:Around}{E:Value->Shared->Prop}{s:Shared}{I:Addr}{fp wr:List Addr}{G:Array GenState->Array GenState->Prop}{n:Nat}{P:Nat->Value->Prop}{St:Nat->Shared->Prop}{Q:Value->Shared->Prop}
  (W:WalksS prog w A.in1.in1 I fp wr G n P St) (hT:∀i s,St i s->s.TypeIs (.ref I) "list_reverseiterator") (hst:St 0 s) (hfp:∀b∈fp,b<s.heap.objs.size) (hI:I∈fp)
  (hQ:∀s' acc' c',Moved (s.heap.objs.size::wr) G {s with heap:=s.heap.push {cls:=.type "list",data:=.seq #[]}} s'->
   s'.heap.get? s.heap.objs.size=some {cls:=.type "list",dict:=none,data:=.seq acc' c',slots:=#[]}->ItemsOf P acc' n->Q (.ref s.heap.objs.size) s') (hn:n<=sizeLine):
  wpAny (model prog w) A (call (.type "list") [.ref I]) Q E s:=by
 have hSf:s.heap.objs.size∉fp:=λhm=>Io _ (hfp _ hm)
 refine callType_codes (Q₁:=λobj s₁=>obj=.ref s.heap.objs.size/\s₁={s with heap:=s.heap.push {cls:=.type "list",data:=.seq #[]}}) F.called_list (F.typeCall_list_1 _) F.entry_list_init
  (code_list_new _ ⟨rfl,rfl⟩) λobj s₁ h₁=>?_
 obtain⟨rfl,rfl⟩:=h₁
 have hS:(s.heap.push {cls:=.type "list",data:=.seq #[]}).get? s.heap.objs.size=some {cls:=.type "list",data:=.seq #[]}:=Dr _ rfl
 refine⟨⟨_,hS,rfl⟩,F.args_list_init_2 _ _,Bwz W hT _ (W.frame 0 s _ s.toks hst (Bu _) λb _ o e=>Bs _ e) hSf hI hS (λs' acc' c' hm hS' hacc=>?_) hn⟩
 exact⟨rfl,hQ s' acc' c' hm hS' hacc⟩
def Bn9(K:Frag):List V->Hp->VK->Prop:=λvs H Q=>∃(a:Addr) (xs:List V),vs=[V.ref a]/\SqL K H a xs/\∀D,H D=none->Q (.ref D) (upd H D (.lst xs.reverse))
theorem Byp{xs:List V}{its:List Value}(r:Vals xs its){acc:Array Value}(ha:ItemsOf (λi v=>its.toArray[its.toArray.size-1-i]?=some v) acc its.toArray.size):Vals xs.reverse acc.toList:=by
 obtain⟨hs,hi⟩:=ha
 have e:acc.toList=its.reverse:=by
  refine Abv λi=>?_
  by_cases hlt:i<acc.size
  ·have h1:=hi i acc[i] (Np hlt)
   have es:its.toArray.size=its.length:=Bv ..
   rw[es] at h1 hs
   have h2:its[its.length-1-i]?=some acc[i]:=by simpa using h1
   rw[VJ,Np hlt,Aj7 (by omega),h2]
  ·have es:its.toArray.size=its.length:=Bv ..
   rw[es] at hs
   rw[IW (by rw[Ku];omega),IW (by rw[JC];omega)]
 rw[e]
 have go:∀{xs:List V} {its:List Value},Vals xs its->Vals xs.reverse its.reverse:=by
  intro xs its q
  induction q with
  |nil=>exact .nil
  |cons r t ih=>rw[Abw,Abw];exact ih.append (.cons r .nil)
 exact go r
theorem Bux{X:Cx}{e:Expr}{ta:TA}{p p2 pos pos2:Pos}(hc:X.calm=true)(hg:Gl X "list")(hm:X.mg "list"=none)(hg2:Gl X "reversed")(hm2:X.mg "reversed"=none)(ha:PA X [e] ta)(hs:starEach [e] X.env=[(false,eval e X.env)]:=by rfl)
  (hs2:starEach [.Call (.Name "reversed" p2) [e] [] pos2] X.env=[(false,eval (.Call (.Name "reversed" p2) [e] [] pos2) X.env)]:=by rfl):
  PE X (.Call (.Name "list" p) [.Call (.Name "reversed" p2) [e] [] pos2] [] pos) (tCB (Bn9 X.K) ta):=by
 intro pins s σ H Q I h
 refine Ayt (Aaq I hg hm (by decide+kernel:bootBuiltins "list"=some (.type "list")) (Gh ?_ hs2 rfl))
 rw[hs2]
 show wpAny _ _ (spliced ((false,eval (.Call (.Name "reversed" p2) [e] [] pos2) X.env)::backTo pos [])) _ _ _
 refine M4 (Ayt (Aaq I hg2 hm2 Ak6 (Gh (thn (ha pos2 pins s σ H _ I h) λus s1 ⟨vs,H1,I1,r1,q1⟩=>?_) hs rfl)))
 obtain⟨a,xs,ex,hq,q⟩:=q1
 subst ex
 have hu:us=[G8 a]:=Vals.Boc r1
 subst hu
 obtain⟨its,rv,pl,hz⟩:=I1.list hq
 have hlen:=rv.length
 refine call_reversed_list pl.isList (Ul ?_)
 have hal:a<s1.heap.objs.size:=by obtain⟨o,ho,_⟩:=pl.isList;exact CN ho
 have hne:a≠s1.heap.objs.size:=Fd hal
 have hit:(s1.heap.push (revObj a ((its.toArray.size:Int)-1))).IsRevIter s1.heap.objs.size a ((its.toArray.size:Int)-1-((0:Nat):Int)):=⟨_,Dr _ rfl,rfl,by simp [revObj]⟩
 refine Bf4 (Walks.listRev (A:=X.A.in1.in1) (I1.ok.hd hc) s1.heap.objs.size a hne its.toArray).toS (λi s st=>st.2.1.typeIs) ⟨Hh _,hit,pl.isList.push _⟩ (λb hb=>?_) (by simp) (λs' acc c' hm hS' hacc=>?_) (by rw[Bv];omega)
 ·have hsz:(s1.heap.push (revObj a ((its.toArray.size:Int)-1))).objs.size=s1.heap.objs.size+1:=Hg ..
  show b<(s1.heap.push (revObj a ((its.toArray.size:Int)-1))).objs.size
  rw[hsz]
  rcases(show b=s1.heap.objs.size\/b=a by simpa using hb) with z|z
  ·rw[z];exact V5 _
  ·rw[z];exact Q5 hal
 ·have hsz:(s1.heap.push (revObj a ((its.toArray.size:Int)-1))).objs.size=s1.heap.objs.size+1:=Hg ..
  obtain⟨h',g',d',tk',os'⟩:=s'
  have eg:g'=s1.gens:=hm.gens
  have ed:d'=s1.drawn:=hm.drawn
  have eo:os'=s1.os:=hm.os
  subst eg;subst ed;subst eo
  have kp:∀b o,s1.heap.get? b=some o->h'.get? b=some o:=λb o e=>by
   have hb:=CN e
   refine hm.heap b o (λz=>?_) (Bs _ (Bs _ e))
   rcases(show b=(s1.heap.push (revObj a ((its.toArray.size:Int)-1))).objs.size\/b=s1.heap.objs.size by simpa using z) with z|z
   ·rw[hsz] at z;rw[z] at hb;exact absurd hb (Nat.not_lt.mpr (Rj _))
   ·rw[z] at hb;exact absurd hb (Io _)
  have hS2:h'.get? (s1.heap.objs.size+1)=some {cls:=.type "list",dict:=none,data:=.seq acc c',slots:=#[]}:=by rw[<-hsz];exact hS'
  show EP X pins σ Q (.ref (s1.heap.push (revObj a ((its.toArray.size:Int)-1))).objs.size) _
  rw[hsz]
  refine⟨.ref (s1.heap.objs.size+1),_,I1.laid (t':=tk') (o:=.lst xs.reverse) kp (Rj _) ⟨by rw[JC];exact hz,acc.toList,c',Byp rv hacc,by rw[Akh];exact hS2⟩,rfl,q _ (I1.hok.fresh (Rj _))⟩
def Bye(K:Frag)(ta:TA):TE:=λσ H Q=>ta σ H λvs H1=>∃(a:Addr) (ns:List Int),vs=[V.ref a]/\SqL K H1 a (ns.map V.int)/\ns.length<1000/\
 ∀S,H1 S=none->Q (.ref S) (upd H1 S (.set (λk'=>(firstMet (λi=>ns.getD i 0) ns.length).any (·==k')) (firstMet (λi=>ns.getD i 0) ns.length).length))
def Bif:List V->Hp->VK->Prop:=λvs H Q=>∃(S:Addr) (f:Int->Bool) (n:Nat),vs=[V.ref S]/\H S=some (.set f n)/\Q (.int n) H
theorem Bmm{X:Cx}:Bb6 X (.builtin "len") Bif:=by
 intro pins s σ H xs us Q I r h
 obtain⟨S,f,n,rfl,hS,q⟩:=h
 obtain⟨u,rfl,rx⟩:=vals1 r
 cases rx
 obtain⟨o,es,ep,t,ho,hex,hd,_,_,hb,hf,hn⟩:=(show R0 X.prog X.w H s.heap S (.set f n) from I.hok S _ hS)
 refine call_len_set ho hex hd hf (by unfold scanBound at hb;omega) ?_
 rw[hn]
 exact⟨.int n,H,I.tok _,⟨_,rfl⟩,q⟩
theorem Cck{X:Cx}{e:Expr}{ta:TA}{p2 pos2:Pos}(hc:X.calm=true)(hg2:Gl X "set")(hm2:X.mg "set"=none)(ha:PA X [e] ta)(hs:starEach [e] X.env=[(false,eval e X.env)]:=by rfl):PE X (.Call (.Name "set" p2) [e] [] pos2) (Bye X.K ta):=by
 intro pins s σ H Q I h
 refine Ayt (Aaq I hg2 hm2 (by decide+kernel:bootBuiltins "set"=some (.type "set")) (Gh (thn (ha pos2 pins s σ H _ I h) λus s1 ⟨vs,H1,I1,r1,q1⟩=>?_) hs rfl))
 obtain⟨a,ns,ex,hq,hl,q⟩:=q1
 subst ex
 have hu:us=[G8 a]:=Vals.Boc r1
 subst hu
 obtain⟨its,rv,pl,hz⟩:=I1.list hq
 have hi:IntsAre its.toArray.toList ns:=intsAre_of rv
 have hlen:its.length=ns.length:=by rw[<-rv.length,Aa]
 refine call_set_list (I1.ok.hd hc) pl.isList hi (by rw[Bv];unfold scanBound;omega) λh' tk hS hk=>?_
 have es:its.toArray.size=ns.length:=(Bv ..).trans hlen
 rw[es] at hS
 exact⟨.ref s1.heap.objs.size,_,I1.laid (t':=tk) (o:=.set (λk'=>(firstMet (λi=>ns.getD i 0) ns.length).any (·==k')) (firstMet (λi=>ns.getD i 0) ns.length).length) (λb o e=>hk b o (CN e) e) (Bu _) hS,rfl,q _ (I1.hok.fresh (Bu _))⟩
theorem Bjp:∀ns:List Int,((firstMet (λi=>ns.getD i 0) ns.length).length=ns.length↔ns.Nodup):=by
 have Bzs:∀ns:List Int,(FJ ns.length).map (λi=>ns.getD i 0)=ns:=λns=>by
  refine Abv λi=>?_
  rw[Bk]
  by_cases h:i<ns.length
  ·rw[Kv h,CP h]
   simp [List.getD,CP h]
  ·rw[IW (by simpa using h),IW (by simpa using h)];rfl
 have go:∀(l acc:List Int),acc.Nodup->((l.foldl step_dedup acc).length<=acc.length+l.length/\((l.foldl step_dedup acc).length=acc.length+l.length↔(acc++l).Nodup)):=by
  intro l
  induction l with
  |nil=>intro acc h;exact⟨Bu _,by simp [h]⟩
  |cons x l ih=>
   intro acc h
   rw[J7]
   by_cases hx:x∈acc
   ·have e:step_dedup acc x=acc:=by
     unfold step_dedup
     have q:(acc.any λy=>y==x)=true:=Afd.mpr ⟨x,hx,G9 _⟩
     rw[Aq q]
    rw[e]
    obtain⟨i1,_⟩:=ih acc h
    refine⟨by rw[Ay];omega,⟨λq=>by rw[Ay] at q;omega,λq=>?_⟩⟩
    exact absurd rfl ((JH.mp q).2.2 x hx x Bl)
   ·have e:step_dedup acc x=acc++[x]:=by
     unfold step_dedup
     have q:¬(acc.any λy=>y==x)=true:=λq=>by
      obtain⟨y,hy,e⟩:=Afd.mp q
      exact hx (Jc.mp e▸hy)
     rw[Am q]
    rw[e]
    have hn:(acc++[x]).Nodup:=JH.mpr ⟨h,by simp,λa ha b hb=>by rw[Bj.mp hb];exact λz=>hx (z▸ha)⟩
    obtain⟨i1,i2⟩:=ih (acc++[x]) hn
    rw[Bg,VN] at i1 i2
    rw[Ay]
    refine⟨by omega,?_⟩
    rw[Cg] at i2
    rw[show acc.length+(l.length+1)=acc.length+1+l.length by omega]
    exact i2
 intro ns
 unfold firstMet
 rw[Bzs]
 have:=(go ns [] Gp).2
 simpa using this
end RB
end
section
namespace RB
open PySem PySem.Spec PyProof.Rows L2
def Yc(a:Addr)(o:Obj):HO:=.ext λh=>h.get? a=some o
def Pin(H:Hp)(a:Addr)(o:Obj):Prop:=H a=some (Yc a o)
theorem Pin.here{P:Program}{w:World}{H:Hp}{h:Heap}{a:Addr}{o:Obj}(p:Pin H a o)(ok:HOk P w H h):h.get? a=some o:=(show R0 P w H h a (Yc a o) from ok a _ p).1
theorem Bkp{P:Program}{w:World}{H:Hp}{h:Heap}{a:Addr}{o:Obj}(e:h.get? a=some o):R0 P w H h a (Yc a o):=⟨e,⟨o,e⟩,λh1 h2 e1 k=>k o e1⟩
theorem Pin.same{H H':Hp}{a:Addr}{o:Obj}(p:Pin H a o)(s:Same H H'):Pin H' a o:=s _ _ p
structure Bq8(params:Arguments)(body:Expr)(scope:Scope)(g:Str):Prop where
 bod:∃p1 p2 p3 p4,body=.Call (.Name g p1) [.Name ("bounds":Str) p2,.Name ("chosen":Str) p3] [] p4
 nb:scope.names.lookup ("bounds":Str)=some .free
 nc:scope.names.lookup ("chosen":Str)=some .local
 ng:scope.names.lookup g=some .globalImplicit
 kind:scope.kind=.function
 co:scope.isCoroutine=false
 gen:scope.isGenerator=false
 Cb9:∀x∈scope.names,x.2≠.cell
 clos:∀(env:Env) (c:Addr),cellOf env ("bounds":Str)=pure c->closureFor scope env=pure [(("bounds":Str),c)]
 defs:∀env:Env,defaultsOf params env=([],[])
 bind:∀(name qual:Str) (cl:List (Str×Addr)) (pm cdv ct u:Value),bindArgs (PySem.W.kla_fn name qual params body scope cl pm cdv ct) ⟨[u],[]⟩=pure [(("chosen":Str),u)]
 dg:(g==("__debug__":Str))=false
def Ayw(H:Hp)(f:Addr)(g:Str)(b:V):Prop:=∃(qual:Str) (params:Arguments) (body:Expr) (scope:Scope) (c c':Addr) (pm ctv:Value) (oc ob:Obj) (vs:Array Value) (t:Tok) (u:Value),
 Bq8 params body scope g/\Pin H f (Ih "<lambda>" qual params body scope [(("bounds":Str),c)] pm c' ctv)/\Pin H c' oc/\oc.data=.fields vs/\vs[1]?=some (.str qual t)/\Pin H c ob/\ob.data=.cell (some u)/\RelV b u
theorem Ayw.same{H H':Hp}{f:Addr}{g:Str}{b:V}(l:Ayw H f g b)(s:Same H H'):Ayw H' f g b:=by
 obtain⟨qual,params,body,scope,c,c',pm,ctv,oc,ob,vs,t,u,h1,h2,h3,h4,h5,h6,h7,h8⟩:=l
 exact⟨qual,params,body,scope,c,c',pm,ctv,oc,ob,vs,t,u,h1,h2.same s,h3.same s,h4,h5,h6.same s,h7,h8⟩
theorem Bm6{env:Env}{outer:List Env}{L:Addr}(h:env.frame=some L):frs (env::outer)=L::frs outer:=by
 unfold frs;rw[R5,h]
theorem Bxb{P:Program}{w:World}{K:Frag}{mg:Str->Option Value}{base:Heap}{A:Around}{outer:List Env}{s:Shared}{H:Hp}{j:Nat}{f:Addr}{g:Str}{b v:V}{u:Value}{ps:List Str}{sp:Sp}{Q:VK}
  (e0:Aw1 P w K mg base A outer s H) (hr:Room (j+1) A) (LA:Ayw H f g b) (D:Def P w K mg base j g ps sp) (rv:RelV v u) (q:sp [b,v] H Q E0):
  codeAny (model P w) A (.call (.ref f) ⟨[u],[]⟩) (CR CX0 outer P w H s Q E0) s:=by
 obtain⟨qual,params,body,scope,c,c',pm,ctv,oc,ob,vs,t,ub,lo,pf,pc,hd,hv,Bsq,hcd,rb⟩:=LA
 obtain⟨fg,fd,F,hm,kp,hb⟩:=D.ex
 have hfo:=pf.here e0.hok
 have hrec:s.heap.CodeRec (.ref c') qual:=⟨c',oc,vs,t,rfl,pc.here e0.hok,hd,hv⟩
 refine PySem.W.kla_callFunE hr.depth hfo rfl lo.co lo.gen rfl hrec ?_
 rw[lo.bind]
 refine Eo (wpAny_newFunctionEnv lo.Cb9 (λx hx=>by rw[Bj.mp hx];exact lo.nc) (λh₁ hns hsb=>?_) lo.kind)
 have hk₁:∀b o,s.heap.get? b=some o->h₁.get? b=some o:=λb o e=>hsb.extBut b o (Fd (CN e)) (Bs _ e)
 have hbs:∀b o,base.get? b=some o->h₁.get? b=some o:=λb o e=>hk₁ b o (e0.bs b o e).1
 refine⟨e0.mod.nolimit.keeps hbs,?_⟩
 show codeAny _ _ (.expr body (Agt qual scope s.heap.objs.size f (.ref c') [(("bounds":Str),c)])) _ _
 refine PySem.W.kla_codeExpr ?_
 obtain⟨p1,p2,p3,p4,rfl⟩:=lo.bod
 have Ce1:s.heap.objs.size<h₁.objs.size:=hns.lt
 have hfun:h₁.FunFrames base (Agt qual scope s.heap.objs.size f (.ref c') [(("bounds":Str),c)]::outer):=
  .cons (by show scope.kind≠_;rw[lo.kind];decide) rfl hns (Akm e0.bsz) (e0.Ao6.of_keeps λb o e _=>⟨o,hk₁ b o e,rfl⟩)
 have e1:Aw1 P w K mg base (A.deeper (Agt qual scope s.heap.objs.size f (.ref c') [(("bounds":Str),c)])) (Agt qual scope s.heap.objs.size f (.ref c') [(("bounds":Str),c)]::outer) {s with heap:=h₁,toks:=s.toks+[(("chosen":Str),u)].length} H:=
  ⟨Akf e0.frames,e0.mod,λb o e=>⟨hbs b o e,(e0.bs b o e).2⟩,Az e0.bsz (Jr Ce1),hfun,λb hb=>by
   rw[Bm6 (L:=s.heap.objs.size) rfl] at hb
   rcases BP.mp hb with e|hb
   ·rw[e];exact e0.hok.fresh (Bu _)
   ·exact e0.frf b hb,e0.hok.kept hk₁,e0.bare⟩
 refine Ji (Rh lo.kind lo.ng (Afb (e0.mod.glob.keeps hbs) hm ?_) lo.dg)
 refine M7 (h₀:=base) e0.mod.kin kp ?_ rfl rfl
 show wpAny _ _ (spliced ((false,eval (.Name ("bounds":Str) p2) _)::backTo p4 (starEach [.Name ("chosen":Str) p3] _))) _ _ _
 refine M4 (Aia (Apj lo.kind lo.nb rfl ⟨ob,hk₁ _ _ (Bsq.here e0.hok),hcd⟩ ?_))
 show wpAny _ _ (spliced ((false,eval (.Name ("chosen":Str) p3) _)::backTo p4 (starEach [] _))) _ _ _
 refine M4 (Aia (X4 lo.kind lo.nc hns (v:=u) (by rfl) ?_))
 refine Ul ⟨e0.mod.kin.keeps hbs,?_⟩
 have r2:Vals [b,v] [ub,u]:=.cons rb (.cons rv .nil)
 have hl:([ub,u]++([]:List Value)).length=ps.length:=by rw[<-F.len _ _ _ _ q];rfl
 refine Abm (Ql (F.run _ _ _ H ⟨[ub,u],[]⟩ ([ub,u]++[]) [b,v] Q E0 (hr.deeper _) e1 (hb _ [ub,u] (e0.mod.kin.keeps hbs) hl) r2 q) λr s' hq=>?_)
 cases r with
 |error e=>exact Fo hq
 |ok fl=>
  cases fl with
  |ret u'=>
   obtain⟨v',H',os,bare,un,hok,rv',q'⟩:=hq
   rw[Bm6 (L:=s.heap.objs.size) rfl] at un
   refine⟨v',H',os,bare,⟨λb o e n hb hx=>?_,λb o e n hb hx=>?_,λb o e n hx=>un.free b o (hk₁ b o e) n hx,λb o e hx=>un.there b o (hk₁ b o e) hx,un.tups,un.Bdb,un.Bew⟩,hok,rv',q'⟩
   ·refine un.keep b o (hk₁ b o e) n (λz=>?_) hx
    rcases BP.mp z with z|z
    ·exact absurd (CN e) (by rw[z];exact Io _)
    ·exact hb z
   ·exact un.slot b o (hk₁ b o e) n (Bh _ hb) hx
  |next=>exact Fo hq
  |brk=>exact Fo hq
  |cont=>exact Fo hq
def Bou(X:Cx)(k i:Nat)(t:TA):TE:=λσ H Q=>∃f,σ[i]?=some (some (.ref f))/\t σ H λvs H1=>∃(v:V) (g:Str) (b:V) (ps:List Str) (sp:Sp),
 vs=[v]/\Ayw H1 f g b/\Def X.prog X.w X.K X.mg X.base k g ps sp/\sp [b,v] H1 Q E0
section
variable {X:Cx}{N:List Str}{sc:Scope}{k j:Nat}{p pos:Pos}{x:Str}{e:Expr}{es:List Expr}{t:TA}
theorem Cd1(c:Ctx X N sc k)(i:Nat)(v:Vis sc x)(hr:Room (j+1) X.A)(ha:PA X (e::es) t)(h:N[i]?=some x:=by rfl)(hd:(x==("__debug__":Str))=false:=by decide+kernel)(hcd:(x==("__classdict__":Str))=false:=by decide+kernel)
  (he:starEach (e::es) X.env=(false,eval e X.env)::starEach es X.env:=by rfl) (hpl:(backTo pos (starEach es X.env)).any (·.1)=false:=by rfl):PE X (.Call (.Name x p) (e::es) [] pos) (Bou X j i t):=by
 intro pins s σ H Q I hw
 obtain⟨f,hf,hw⟩:=hw
 refine Ji (thn (qv (pos:=p) c i v h hd hcd pins s σ H (λv H1=>v=.ref f/\H1=H) I ⟨_,hf,rfl,rfl⟩) ?_)
 rintro u s1 ⟨v1,H1,I1,r1,rfl,rfl⟩
 cases r1
 have key:wpAny (model X.prog X.w) X.A (spliced (backTo pos (starEach (e::es) X.env))) (λvs s₁=>PySem.W.FnAt f s₁.heap/\wpAny (model X.prog X.w) X.A (call (.ref f) ([]++vs)) (EP X pins σ Q) X.xe s₁) X.xe s1:=by
  refine thn (ha pos pins s1 σ H1 _ I1 hw) λus s2 ⟨vs,H2,I2,r,v,g,b,ps,sp,hv,LA,D,q⟩=>⟨?_,?_⟩
  ·obtain⟨qual,params,body,scope,c,c',pm,ctv,oc,ob,vs,t,ub,lo,pf,_⟩:=LA
   exact⟨_,_,_,_,pf.here I2.hok⟩
  ·subst hv
   cases r with
   |cons ru rr=>
    cases rr
    refine Abm (Ql (Bxb I2.env0 hr LA D ru q) λr s' hq=>?_)
    cases r with
    |error e=>exact Fo hq
    |ok fl=>
     cases fl with
     |ret u=>exact I2.after hq
     |next=>exact Fo hq
     |brk=>exact Fo hq
     |cont=>exact Fo hq
 rw[he] at key|-
 exact PySem.W.callWith_of (by show((false||(backTo pos (starEach es X.env)).any (·.1))||false)=false;rw[hpl];rfl) PySem.W.keeps_F (Akj key)
end
def VR(H:Hp)(Pt:Addr)(lq:Str)(lp:Pos):Prop:=
 H Pt=some (.tbl #[])\/∃c' oc vs t,H Pt=some (.tbl #[rawInt lp.line,rawInt lp.col,.ref c'])/\Pin H c' oc/\oc.data=.fields vs/\vs[1]?=some (.str lq t)
theorem VR.same{H H':Hp}{Pt:Addr}{lq:Str}{lp:Pos}(t:VR H Pt lq lp)(s:Same H H'):VR H' Pt lq lp:=by
 rcases t with t|⟨c',oc,vs,tk,t,h1,h2,h3⟩
 ·exact .inl (s _ _ t)
 ·exact .inr ⟨c',oc,vs,tk,s _ _ t,h1.same s,h2,h3⟩
def Afr(H:Hp)(c:Addr):Hp:=λb=>if b=c then none else H b
theorem Ry{H:Hp}{c b:Addr}(h:b≠c):Afr H c b=H b:=Am h
theorem Bjl{H:Hp}{c:Addr}:Afr H c c=none:=Aq rfl
structure Bq7(X:Cx)(cc Pt:Addr)(lq:Str):Prop where
 code:X.env.code=.ref cc
 hd:GD X.base cc Pt
 bm:∃bm o,X.mg "__builtins__"=some (.ref bm)/\bm≠builtinsNs/\bm≠mainGlobals/\X.base.get? bm=some o/\o.cls=.type "module"/\o.dict=some builtinsNs/\o.data=.plain
 qual:X.env.qual++"<lambda>"=lq
def Beu(Pt:Addr)(lq:Str)(lp:Pos)(i:Nat)(g:Str)(sp:Sp)(te:TE):TE:=λσ H Q=>te σ H λv H1=>∃b,σ[i]?=some (some b)/\VR H1 Pt lq lp/\
 ∀(H2:Hp) (f c:Addr),H1 c=none->(∃o,H2 c=some (Yc c o))->(∀a o,a≠Pt->H1 a=some o->H2 a=some o)->VR (Afr H2 c) Pt lq lp->Ayw H2 f g b->sp [v,.ref f] H2 (λr H3=>Same H2 H3/\Q r (Afr H3 c)) E0
section
variable {X:Cx}{N:List Str}{sc:Scope}{k j:Nat}{p pos lp:Pos}{x y g lq:Str}{e:Expr}{te:TE}{cc Pt:Addr}{params:Arguments}{body:Expr}{scope:Scope}{ps:List Str}{sp:Sp}
theorem Bie(c:Ctx X N sc k)(LC:Bq7 X cc Pt lq)(lo:Bq8 params body scope g)(i:Nat)(hy:sc.names.lookup ("bounds":Str)=some .cell)(D:Def X.prog X.w X.K X.mg X.base j x ps sp)(hr:Room j X.A)(hg:Gl X x)(ha:PE X e te)
  (hN:N[i]?=some ("bounds":Str):=by rfl) (hdb:(x==("__debug__":Str))=false:=by decide+kernel)
  (he:starEach [e,.Lambda params body scope lp] X.env=(false,eval e X.env)::starEach [.Lambda params body scope lp] X.env:=by rfl) (he2:starEach [.Lambda params body scope lp] X.env=[(false,eval (.Lambda params body scope lp) X.env)]:=by rfl)
  (hpl:(backTo pos (starEach [.Lambda params body scope lp] X.env)).any (·.1)=false:=by rfl):
  PE X (.Call (.Name x p) [e,.Lambda params body scope lp] [] pos) (Beu Pt lq lp i g sp te):=by
 intro pins s σ H Q I h
 obtain⟨fb,fd,F,hm,kp,hb⟩:=D.ex
 refine Ji (Aof I hg hm ?_ hdb)
 refine M7 (h₀:=X.base) I.ok.mod.kin kp ?_ he hpl
 rw[he]
 show wpAny _ _ (spliced ((false,eval e X.env)::backTo pos (starEach [.Lambda params body scope lp] X.env))) _ _ _
 refine M4 (thn (ha pins s σ H _ I h) λu s1 ⟨v,H1,I1,ru,b,hσ,tb,hq⟩=>?_)
 rw[he2]
 show wpAny _ _ (spliced ((false,eval (.Lambda params body scope lp) X.env)::backTo pos [])) _ _ _
 obtain⟨m,hns,hl⟩:=id I1.loc
 obtain⟨ub,rb,look⟩:=hl i ("bounds":Str) b (by rw[c.hN];exact hN) hσ (by rw[c.hsc];exact .inr (.inl hy))
 have hky:X.env.kindOf ("bounds":Str)=some .cell:=by show X.env.scope.names.lookup _=_;rw[c.hsc];exact hy
 obtain⟨cl,hcl,Ai5,hoc,Cbk⟩:∃cl,X.env.cells.lookup ("bounds":Str)=some cl/\s1.heap.IsCell cl (some ub):=by
  rcases look with⟨q,_⟩|⟨_,cl,q1,q2⟩
  ·rw[hky] at q;cases q
  ·exact⟨cl,q1,q2⟩
 have Bza:H1 cl=none:=I1.Ai3 _ _ hcl
 have hcab:X.s_0.heap.objs.size<=cl:=I1.ok.cab ("bounds":Str) cl (c.fn _) hcl
 have hcs:cl∉frs X.stack:=λz=>by
  rcases BP.mp (I1.Bk2 cl z) with z|z
  ·exact I1.cne _ _ hcl z
  ·obtain⟨_,o,ho,_⟩:=I1.ok.Ao6.mem z
   exact absurd (Dh (CN ho) hcab) (Io _)
 have hclos:closureFor scope X.env=pure [(("bounds":Str),cl)]:=lo.clos X.env cl (by unfold cellOf;rw[hcl])
 have hgs:s1.heap.Ns mainGlobals X.mg:=I1.mod.glob.keeps I1.bk
 obtain⟨bm,om,b1,b2,b3,b4,b5,b6,b7⟩:=LC.bm
 have hPn:∀{a:Addr} {o:Obj},X.base.get? a=some o->(∃q,H1 Pt=some q)->a≠Pt:=λe ⟨q,hq⟩ z=>by
  have:=(I1.bs _ _ e).2
  rw[z,hq] at this;cases this
 have after:∀(s2:Shared) (H2:Hp) (f c':Addr) (oc:Obj) (vs:Array Value) (t:Tok) (pm ctv:Value),Inv X pins σ H2 s2->s2.heap.get? cl=some Ai5->H2 cl=none->(∀a o,a≠Pt->H1 a=some o->H2 a=some o)->VR H2 Pt lq lp->
   Pin H2 f (Ih "<lambda>" lq params body scope [(("bounds":Str),cl)] pm c' ctv)->Pin H2 c' oc->oc.data=.fields vs->vs[1]?=some (.str lq t)->
   wpAny (model X.prog X.w) X.A (spliced (backTo pos [])) (λvs s₂=>(λvs s₁=>X.K.In s₁.heap/\wpAny (model X.prog X.w) X.A (call (.ref fb) ([]++vs)) (EP X pins σ Q) X.xe s₁) (u::(G8 f::vs)) s₂) X.xe s2:=by
  intro s2 H2 f c' oc vs t pm ctv I2 Cc7 hf2 hkeep tb2 pf pc hd hv
  refine Ul ⟨I2.kIn,?_⟩
  have sm:Same H2 (upd H2 cl (Yc cl Ai5)):=λa o ea=>by rw[Cd (FP ea hf2)];exact ea
  have Bsq:Pin (upd H2 cl (Yc cl Ai5)) cl Ai5:=Ah
  have LA:Ayw (upd H2 cl (Yc cl Ai5)) f g b:=⟨lq,params,body,scope,cl,c',pm,ctv,oc,Ai5,vs,t,ub,lo,pf.same sm,pc.same sm,hd,hv,Bsq,Cbk,rb⟩
  have hsp:=hq (upd H2 cl (Yc cl Ai5)) f cl Bza ⟨Ai5,Ah⟩ (λa o ha e1=>sm _ _ (hkeep a o ha e1)) (tb2.same λa o ea=>by rw[Ry (FP ea hf2)];exact sm _ _ ea) LA
  have hok:HOk X.prog X.w (upd H2 cl (Yc cl Ai5)) s2.heap:=λa o ea=>by
   by_cases ha:a=cl
   ·subst ha
    rw[Ah] at ea;cases ea
    exact Bkp Cc7
   ·rw[Cd ha] at ea
    exact(I2.hok a o ea).stay (λ_ _ _ q=>q) (λb q=>sm _ _ q) λb xs q=>sm _ _ q
  have e2:=I2.env0
  have e0:Aw1 X.prog X.w X.K X.mg X.base X.A X.stack s2 (upd H2 cl (Yc cl Ai5)):=⟨e2.frames,e2.mod,λa o ea=>⟨(e2.bs a o ea).1,by
   rw[Cd]
   ·exact(e2.bs a o ea).2
   ·intro z
    have:=Dh (CN ea) (Az I2.ok.bsz hcab)
    exact absurd this (by rw[z];exact Io _)⟩,e2.bsz,e2.Ao6,λa ha=>by
   rw[Cd (λz=>hcs (by rw[<-z];exact ha))];exact e2.frf a ha,hok,e2.bare⟩
  have r2:Vals [v,.ref f] [u,.ref f]:=.cons ru (.cons rfl .nil)
  have hl:([u,G8 f]++([]:List Value)).length=ps.length:=by rw[<-F.len _ _ _ _ hsp];rfl
  refine Abm (Ql (F.run X.A X.stack s2 (upd H2 cl (Yc cl Ai5)) ⟨[u,.ref f],[]⟩ ([u,.ref f]++[]) [v,.ref f] _ E0 hr e0 (hb s2 [u,.ref f] I2.kIn hl) r2 hsp) λr s' hq'=>?_)
  cases r with
  |error e=>exact Fo hq'
  |ok fl=>
   cases fl with
   |next=>exact Fo hq'
   |brk=>exact Fo hq'
   |cont=>exact Fo hq'
   |ret u'=>
    obtain⟨v',H3,os,bare,un,Cdd,rv',sm3,q'⟩:=hq'
    have hc3:Pin H3 cl Ai5:=sm3 _ _ Bsq
    refine I2.after ⟨v',Afr H3 cl,os,bare,⟨λa o ea na hb hx=>?_,λa o ea na hb hx=>?_,λa o ea na hx=>?_,λa o ea hx=>un.there a o ea hx,λa xs ea=>?_,λa o xs ea=>?_,λa q ea=>?_⟩,λa o ea=>?_,rv',q'⟩
    ·by_cases ha:a=cl
     ·subst ha
      rw[Cc7] at ea;cases ea
      exact hc3.here Cdd
     ·exact un.keep a o ea (by rw[Cd ha];exact na) hb hx
    ·have ha:a≠cl:=λz=>hcs (z▸hb)
     exact un.slot a o ea (by rw[Cd ha];exact na) hb hx
    ·by_cases ha:a=cl
     ·rw[ha];exact Bjl
     ·rw[Ry ha]
      exact un.free a o ea (by rw[Cd ha];exact na) hx
    ·have ha:a≠cl:=FP ea hf2
     rw[Ry ha]
     exact un.tups a xs (by rw[Cd ha];exact ea)
    ·have ha:a≠cl:=FP ea hf2
     rw[Ry ha]
     exact un.Bdb a o xs (by rw[Cd ha];exact ea)
    ·have ha:a≠cl:=FP ea hf2
     rw[Ry ha]
     exact un.Bew a q (by rw[Cd ha];exact ea)
    ·by_cases ha:a=cl
     ·rw[ha,Bjl] at ea;cases ea
     ·rw[Ry ha] at ea
      refine(Cdd a o ea).stay (λ_ _ _ q=>q) (λd q=>?_) λd xs q=>?_
      ·rw[Ry (Bh5 q hc3 (λz=>nomatch z))];exact q
      ·rw[Ry (Bh5 q hc3 (λz=>nomatch z))];exact q
 refine M4 (PySem.W.kla_eval (lo.defs _) ?_)
 rw[LC.qual]
 have hC:GD s1.heap cc Pt:=LC.hd.keeps I1.bk
 rcases tb with hP|⟨c',oc,vs,t,hP,pc,hd,hv⟩
 ·have hPo:s1.heap.get? Pt=some (Rk #[]):=I1.hok Pt _ hP
  have hgP:mainGlobals≠Pt:=λz=>by
   obtain⟨o,es,ep,e1,d1,_⟩:=hgs
   rw[z,hPo] at e1;cases e1;cases d1
  refine PySem.W.kla_makeFunction (mg:=X.mg) hclos I1.ok.glob hgs LC.code hC hPo Asz rfl hgP ⟨bm,om,b1,b2,b3,hPn b4 ⟨_,hP⟩,I1.bk _ _ b4,b5,b6,b7⟩ λc' ctv h' tk hx hge hlt hrec htb=>?_
  obtain⟨c2,oc,vs,t,e2,Cew,hd,hv⟩:=hrec
  cases e2
  have hsz:s1.heap.objs.size<=h'.objs.size:=Az hge (Jr hlt)
  generalize hH2:upd (upd (upd H1 Pt (.tbl #[rawInt lp.line,rawInt lp.col,.ref c'])) c' (Yc c' oc)) h'.objs.size (Yc h'.objs.size (Ih "<lambda>" lq params body scope [(("bounds":Str),cl)] ((X.mg "__name__").getD .none) c' ctv))=H2
  have hlow:∀a q,H1 a=some q->a<s1.heap.objs.size:=λa q e=>I1.hok.lt e
  have n1:∀a,a<s1.heap.objs.size->a≠c':=λa ha=>Fd (Dh ha hge)
  have n2:∀a,a<s1.heap.objs.size->a≠h'.objs.size:=λa ha=>Fd (Dh ha hsz)
  have n3:c'≠h'.objs.size:=Fd hlt
  have at2:∀a,a<s1.heap.objs.size->a≠Pt->H2 a=H1 a:=λa ha hp=>by rw[<-hH2,Cd (n2 a ha),Cd (n1 a ha),Cd hp]
  have atP:H2 Pt=some (.tbl #[rawInt lp.line,rawInt lp.col,.ref c']):=by rw[<-hH2,Cd (n2 _ (hlow _ _ hP)),Cd (n1 _ (hlow _ _ hP)),Ah]
  have atc:Pin H2 c' oc:=by unfold Pin;rw[<-hH2,Cd n3,Ah]
  have atf:Pin H2 h'.objs.size (Ih "<lambda>" lq params body scope [(("bounds":Str),cl)] ((X.mg "__name__").getD .none) c' ctv):=by unfold Pin;rw[<-hH2,Ah]
  have keep:∀a o,a≠Pt->s1.heap.get? a=some o->(h'.push (Ih "<lambda>" lq params body scope [(("bounds":Str),cl)] ((X.mg "__name__").getD .none) c' ctv)).get? a=some o:=λa o ha e=>Bs _ (hx a o ha e)
  have By9:∀a,H1 a=none->a≠Pt:=λa n z=>by rw[z,hP] at n;cases n
  have Cdn:∀a q,H2 a=some q->(a=Pt/\q=.tbl #[rawInt lp.line,rawInt lp.col,.ref c'])\/(a=c'/\q=Yc c' oc)\/(a=h'.objs.size/\q=Yc h'.objs.size (Ih "<lambda>" lq params body scope [(("bounds":Str),cl)] ((X.mg "__name__").getD .none) c' ctv))\/(a≠Pt/\H1 a=some q):=λa q e=>by
   rw[<-hH2] at e
   by_cases h1:a=h'.objs.size
   ·rw[h1,Ah] at e;exact .inr (.inr (.inl ⟨h1,(Ae e).symm⟩))
   ·rw[Cd h1] at e
    by_cases h2:a=c'
    ·rw[h2,Ah] at e;exact .inr (.inl ⟨h2,(Ae e).symm⟩)
    ·rw[Cd h2] at e
     by_cases h3:a=Pt
     ·rw[h3,Ah] at e;exact .inl ⟨h3,(Ae e).symm⟩
     ·rw[Cd h3] at e;exact .inr (.inr (.inr ⟨h3,e⟩))
  have Cex:HOk X.prog X.w H2 (h'.push (Ih "<lambda>" lq params body scope [(("bounds":Str),cl)] ((X.mg "__name__").getD .none) c' ctv)):=λa q e=>by
   rcases Cdn a q e with⟨rfl,rfl⟩|⟨rfl,rfl⟩|⟨rfl,rfl⟩|⟨ha,e1⟩
   ·exact Bs _ htb
   ·exact Bkp (Bs _ Cew)
   ·exact Bkp (Dr _ rfl)
   ·refine(I1.hok a q e1).stay (λd o hd q'=>keep d o ?_ q') (λd q'=>?_) λd xs q'=>?_
    ·rcases hd with rfl|hd
     ·exact ha
     ·intro z;rw[z,hP] at hd;cases hd
    ·rw[at2 d (hlow _ _ q') (λz=>by rw[z,hP] at q';cases q')];exact q'
    ·rw[at2 d (hlow _ _ q') (λz=>by rw[z,hP] at q';cases q')];exact q'
  have un2:Un X.fs [] H1 H2 s1.heap (h'.push (Ih "<lambda>" lq params body scope [(("bounds":Str),cl)] ((X.mg "__name__").getD .none) c' ctv)):=
   ⟨λa o e n _ _=>keep a o (By9 a n) e,λa o e n _ _=>⟨o.slots,keep a o (By9 a n) e⟩,λa o e n _=>by rw[at2 a (CN e) (By9 a n)];exact n,λa o e _=>by
    by_cases ha:a=Pt
    ·exact⟨_,by rw[ha];exact Bs _ htb⟩
    ·exact⟨o,keep a o ha e⟩,λa xs e=>by rw[at2 a (hlow _ _ e) (λz=>by rw[z,hP] at e;cases e)];exact e,λa o xs e=>by rw[at2 a (hlow _ _ e) (λz=>by rw[z,hP] at e;cases e)];exact e,λa q e=>by
    by_cases ha:a=Pt
    ·rw[ha] at e|-
     rw[hP] at e;cases e
     exact⟨#[rawInt lp.line,rawInt lp.col,.ref c'],by rw[atP];simp⟩
    ·exact⟨#[],by rw[at2 a (hlow _ _ e) ha,e];simp⟩⟩
  have I2:Inv X pins σ H2 {s1 with heap:=h'.push (Ih "<lambda>" lq params body scope [(("bounds":Str),cl)] ((X.mg "__name__").getD .none) c' ctv),toks:=tk}:=I1.un (t':=tk) un2 Cex
  have Cc8:cl≠Pt:=By9 cl Bza
  exact after _ H2 h'.objs.size c' oc vs t _ ctv I2 (keep _ _ Cc8 hoc) (by rw[at2 cl (CN hoc) Cc8];exact Bza) (λa o ha e=>by rw[at2 a (hlow _ _ e) ha];exact e) (.inr ⟨c',oc,vs,t,atP,atc,hd,hv⟩) atf atc hd hv
 ·have hPo:s1.heap.get? Pt=some (Rk #[rawInt lp.line,rawInt lp.col,.ref c']):=I1.hok Pt _ hP
  have hf:codeAmong lp [rawInt lp.line,rawInt lp.col,.ref c']=some (.ref c'):=by simp [codeAmong,rawInt]
  refine PySem.W.kla_makeFunctionHit (mg:=X.mg) (cv:=.ref c') hclos I1.ok.glob hgs LC.code hC hPo Asz hf ⟨bm,om,b1,b2,b3,hPn b4 ⟨_,hP⟩,I1.bk _ _ b4,b5,b6,b7⟩ λctv h' tk hk hsz=>?_
  have k2:∀a o,s1.heap.get? a=some o->(h'.push (Ih "<lambda>" lq params body scope [(("bounds":Str),cl)] ((X.mg "__name__").getD .none) c' ctv)).get? a=some o:=λa o e=>Bs _ (hk a o e)
  have I2:=I1.laid (t':=tk) (a:=h'.objs.size) (o:=Yc h'.objs.size (Ih "<lambda>" lq params body scope [(("bounds":Str),cl)] ((X.mg "__name__").getD .none) c' ctv)) k2 hsz (Bkp (Dr _ rfl))
  have fr:∀a q,H1 a=some q->a≠h'.objs.size:=λa q e=>Fd (Dh (I1.hok.lt e) hsz)
  have sm:Same H1 (upd H1 h'.objs.size (Yc h'.objs.size (Ih "<lambda>" lq params body scope [(("bounds":Str),cl)] ((X.mg "__name__").getD .none) c' ctv))):=λa o e=>by rw[Cd (fr a o e)];exact e
  exact after _ _ h'.objs.size c' oc vs t _ ctv I2 (k2 _ _ hoc) (by rw[Cd (Fd (Dh (CN hoc) hsz))];exact Bza) (λa o _ e=>sm _ _ e) (.inr ⟨c',oc,vs,t,sm _ _ hP,pc.same sm,hd,hv⟩) Ah (pc.same sm) hd hv
end
theorem Brd{env:Env}{c:Addr}(h:cellOf env ("bounds":Str)=pure c){scope:Scope}{n1 n2:Str}{k1 k2:NameKind}(hn:scope.names=[(n1,k1),(("bounds":Str),.free),(n2,k2)])(h1:(k1==.free)=false)(h2:(k2==.free)=false):closureFor scope env=pure [(("bounds":Str),c)]:=by
 unfold closureFor
 rw[hn]
 simp only [Bap,Akn,h1,h2,h,Tv,if_false,pure_bind,G9,if_true]
structure Blx(K:Frag)(C:Addr)(x qual:Str)(st:Stmt)(ps:List Str)(own:Bool):Prop where
 ex:∃(f:Addr) (fd:FuncData),Fun K x qual st f fd/\Mk K C f/\Binds K fd ps []/\(own=true->Bis K C x f)
theorem Blx.mth{K:Frag}{C:Addr}{x qual:Str}{st:Stmt}{ps:List Str}{own:Bool}(M:Blx K C x qual st ps own):Mth K C x qual st ps:=by
 obtain⟨f,fd,F,a,b,_⟩:=M.ex
 exact⟨⟨f,fd,F,a,b⟩⟩
structure Ini(P:Program)(w:World)(K:Frag)(mg:Str->Option Value)(base:Heap)(k:Nat)(C:Addr)(m:Str)(ps:List Str)(sp:Sp):Prop where
 ex:∃(f:Addr) (fd:FuncData),YZ P w K mg base CX0 k f fd ps sp/\Bis K C m f/\Binds K fd ps []
theorem Cbp{P:Program}{w:World}{K:Frag}{mg:Str->Option Value}{base:Heap}{C:Addr}{n qual:Str}{st:Stmt}{N ps:List Str}{k:Nat}{sp:Sp}
  (R:Blx K C n qual st ps true) (S:Cp N ps (Ao st)) (len:∀vs H Q E,sp vs H Q E->vs.length=ps.length)
  (hbody:∀X:Cx,X.prog=P->X.w=w->X.K=K->X.mg=mg->X.base=base->Ctx X N (Ao st) k->∀(H:Hp) (vs:List V) (Q:VK) (E:XK),sp vs H Q E->
   ∃t,PSs X (Ca st) t/\t {nx:=λ_ H'=>Q .non H',rt:=Q} (start N vs) H):Ini P w K mg base (k+1) C n ps sp:=by
 obtain⟨f,fd,F,a,b,g⟩:=R.ex
 exact⟨⟨f,fd,Brp F S len hbody,g rfl,b⟩⟩
theorem Cd0{X:Cx}{k:Nat}{C:Addr}{x m:Str}{ps:List Str}{sp:Sp}{p pos apos:Pos}{e:Expr}{es:List Expr}{t:TA}{pl:Sem Bool}(D:Ini X.prog X.w X.K X.mg X.base k C m ps sp)(hr:Room k X.A)(hg:Gl X x)(hm:X.mg x=some (.ref C))(ha:PA X (e::es) t)(hdb:(x==("__debug__":Str))=false:=by decide+kernel)
  (hst:starEach (e::es) X.env=(false,eval e X.env)::starEach es X.env:=by rfl) (hpl:(backTo pos (starEach es X.env)).any (·.1)=false:=by rfl)
  (ht:eval (.Call (.Attribute (.Name x p) m apos) (e::es) [] pos) X.env=(do
   let ov<-eval (.Name x p) X.env
   standAt apos.atName
   let(f,first)<-holding [ov] (getMethod ov m pl)
   callWith pos f first (backTo pos (starEach (e::es) X.env)) (backToKw pos (keywordEach [] X.env))):=by rfl):
  PE X (.Call (.Attribute (.Name x p) m apos) (e::es) [] pos) (Cy sp [] E0 t):=by
 obtain⟨f,fd,F,G,b⟩:=D.ex
 exact Buw G F b hr hg hm ha hdb hst hpl ht
theorem Brh{P:Program}{w:World}{K:Frag}{mg:Str->Option Value}{base:Heap}{x lq:Str}{st:Stmt}{N ps:List Str}{k:Nat}{sp:Sp}{cc Pt:Addr}
  (R:Src K mg x st ps) (S:Cp N ps (Ao st)) (len:∀vs H Q E,sp vs H Q E->vs.length=ps.length) (ht:Kg K x=some (cc,Pt)) (hns:∀f,mg x=some (.ref f)->Qg K mainGlobals x=some (some (.ref f)))
  (hcd:GD base cc Pt) (hbm:∃bm o,mg "__builtins__"=some (.ref bm)/\bm≠builtinsNs/\bm≠mainGlobals/\base.get? bm=some o/\o.cls=.type "module"/\o.dict=some builtinsNs/\o.data=.plain) (hq:x++".<locals>."++"<lambda>"=lq)
  (hbody:∀X:Cx,X.prog=P->X.w=w->X.K=K->X.mg=mg->X.base=base->Ctx X N (Ao st) k->Bq7 X cc Pt lq->∀(H:Hp) (vs:List V) (Q:VK) (E:XK),sp vs H Q E->
   ∃t,PSs X (Ca st) t/\t {nx:=λ_ H'=>Q .non H',rt:=Q} (start N vs) H):Def P w K mg base (k+1) x ps sp:=by
 obtain⟨f,fd,F,a,b⟩:=R.ex
 obtain⟨oc,od,kV,doc,pm,an,cdv,ct,osl,e,lk,hc⟩:=F.ex
 have ecd:cdv=.ref cc:=by
  unfold Kg at ht
  rw[hns f a] at ht
  dsimp only at ht
  rw[lk,e] at ht
  dsimp only at ht
  split at ht
  ·split at ht
   ·split at ht
    ·cases ht;first|rfl|assumption
    ·cases ht
   ·cases ht
  ·cases ht
 refine⟨⟨f,fd,?_,a,F.kp,b⟩⟩
 subst e
 refine Cav lk hc S len λA outer s H vs Q E hr hsp=>?_
 obtain⟨t,h,q⟩:=hbody (Bmu CX0 P w K mg base N x (Ao st) f cdv A outer s H E).nox rfl rfl rfl rfl rfl ⟨rfl,S.nd,rfl,S.kind,rfl,hr,λ_=>rfl,rfl⟩ ⟨ecd,hcd,hbm,hq⟩ H vs Q E hsp
 exact⟨t,h.nox,q⟩
end RB
end
section
namespace RB
open PySem PySem.Spec PyProof.Rows L2
theorem Bpp{J:It}{n:Nat}{g:TG}{tb:TS}{D:Ends}{σ:L2.St}{H:Hp}(Pv:Nat->L2.St->Hp->Prop)(h0:Pv 0 σ H)(hgo:∀i σ H,i<n->Pv i σ H->J.go i H)(hst:∀σ H,Pv n σ H->J.stop n H)
  (hs:∀i σ H x H',i<n->Pv i σ H->J.yld i H x H'->g x σ H' λσ2 H2=>tb {D with nx:=Pv (i+1),ct:=Pv (i+1),bk:=D.nx} σ2 H2) (hd:∀σ H,Pv n σ H->D.nx σ H):
  ∃W:Nat->Nat->L2.St->Hp->Prop,(∃m,W 0 m σ H)/\∀i m σ H,W i m σ H->
   (J.stop i H/\D.nx σ H)\/(J.go i H/\∃N:L2.St->Hp->Prop,(∀σ' H',N σ' H'->∃m',m'<m/\W (i+1) m' σ' H')/\∀x H',J.yld i H x H'->g x σ H' λσ2 H2=>tb {D with nx:=N,ct:=N,bk:=D.nx} σ2 H2):=by
 refine⟨λi m σ H=>m=n-i/\i<=n/\Pv i σ H,⟨n,by simp,Hh _,h0⟩,?_⟩
 rintro i m σ H ⟨rfl,hi,p⟩
 by_cases hlt:i<n
 ·exact .inr ⟨hgo i σ H hlt p,Pv (i+1),λσ' H' p'=>⟨n-(i+1),by omega,rfl,hlt,p'⟩,λx H' y=>hs i σ H x H' hlt p y⟩
 ·have e:i=n:=by omega
  subst e
  exact .inl ⟨hst σ H p,hd σ H p⟩
theorem Cdq{J:It}{n:Nat}{g:TG}{tt:TT}{te:TE}{vs:List Nat}{σ:L2.St}{H1:Hp}{D:Addr}{Qd:Hp->Prop}(Pv:Nat->Hp->Prop)(h0:Pv 0 (upd H1 D (.lst [])))(hgo:∀i H,i<n->Pv i H->J.go i H)(hst:∀H,Pv n H->J.stop n H)
  (hs:∀i H x H',i<n->Pv i H->J.yld i H x H'->g x (wipe σ vs) H' λσ2 H2=>wipe σ2 vs=wipe σ vs/\tt σ2 H2 λb H3=>
   if b=true then te σ2 H3 λy H4=>∃acc,H4 D=some (.lst acc)/\acc.length<sizeLine/\Pv (i+1) (upd H4 D (.lst (acc++[y]))) else Pv (i+1) H3) (hd:∀H,Pv n H->Qd H):
  ∃W:Nat->Nat->Hp->Prop,(∃m,W 0 m (upd H1 D (.lst [])))/\∀i m H,W i m H->
   (J.stop i H/\Qd H)\/(J.go i H/\∃Nx:Hp->Prop,(∀H',Nx H'->∃m',m'<m/\W (i+1) m' H')/\∀x H',J.yld i H x H'->g x (wipe σ vs) H' λσ2 H2=>wipe σ2 vs=wipe σ vs/\tt σ2 H2 λb H3=>
    if b=true then te σ2 H3 λy H4=>∃acc,H4 D=some (.lst acc)/\acc.length<sizeLine/\Nx (upd H4 D (.lst (acc++[y]))) else Nx H3):=by
 refine⟨λi m H=>m=n-i/\i<=n/\Pv i H,⟨n,by simp,Hh _,h0⟩,?_⟩
 rintro i m H ⟨rfl,hi,p⟩
 by_cases hlt:i<n
 ·exact .inr ⟨hgo i H hlt p,Pv (i+1),λH' p'=>⟨n-(i+1),by omega,rfl,hlt,p'⟩,λx H' y=>hs i H x H' hlt p y⟩
 ·have e:i=n:=by omega
  subst e
  exact .inl ⟨hst H p,hd H p⟩
theorem Bc7{K:Frag}{a:Addr}{xs:List V}{g:TG}{tb:TS}{D:Ends}{σ:L2.St}{H:Hp}(Pv:Nat->L2.St->Hp->Prop)(h0:Pv 0 σ H)(hl:∀i σ H,Pv i σ H->SqL K H a xs)
  (hs:∀i x σ H t,xs[i]?=some x->Pv i σ H->H t=none->g (.ref t) σ (upd H t (.tup [.int (i:Nat),x])) λσ2 H2=>tb {D with nx:=Pv (i+1),ct:=Pv (i+1),bk:=D.nx} σ2 H2) (hd:∀σ H,Pv xs.length σ H->D.nx σ H):
  ∃W:Nat->Nat->L2.St->Hp->Prop,(∃m,W 0 m σ H)/\∀i m σ H,W i m σ H->
   ((Ite K a).stop i H/\D.nx σ H)\/((Ite K a).go i H/\∃N:L2.St->Hp->Prop,(∀σ' H',N σ' H'->∃m',m'<m/\W (i+1) m' σ' H')/\∀x H',(Ite K a).yld i H x H'->g x σ H' λσ2 H2=>tb {D with nx:=N,ct:=N,bk:=D.nx} σ2 H2):=
 Bpp (n:=xs.length) Pv h0 (λi σ H h p=>⟨xs,xs[i],hl i σ H p,by simp [h]⟩) (λσ H p=>⟨xs,hl _ σ H p,Bu _⟩) (λi σ H x H' h p ⟨t,y,e1,e2,e3,e4⟩=>by
  subst e1 e3
  exact hs i y σ H t (e4 xs (hl i σ H p)) p e2) hd
theorem Btx{K:Frag}{a:Addr}{xs:List V}{g:TG}{tb:TS}{D:Ends}{σ:L2.St}{H:Hp}(Pv:Nat->L2.St->Hp->Prop)(h0:Pv 0 σ H)(hl:∀i σ H,Pv i σ H->SqT K H a xs)
  (hs:∀i x σ H t,xs[i]?=some x->Pv i σ H->H t=none->g (.ref t) σ (upd H t (.tup [.int (i:Nat),x])) λσ2 H2=>tb {D with nx:=Pv (i+1),ct:=Pv (i+1),bk:=D.nx} σ2 H2) (hd:∀σ H,Pv xs.length σ H->D.nx σ H):
  ∃W:Nat->Nat->L2.St->Hp->Prop,(∃m,W 0 m σ H)/\∀i m σ H,W i m σ H->
   ((Bvp K a).stop i H/\D.nx σ H)\/((Bvp K a).go i H/\∃N:L2.St->Hp->Prop,(∀σ' H',N σ' H'->∃m',m'<m/\W (i+1) m' σ' H')/\∀x H',(Bvp K a).yld i H x H'->g x σ H' λσ2 H2=>tb {D with nx:=N,ct:=N,bk:=D.nx} σ2 H2):=
 Bpp (n:=xs.length) Pv h0 (λi σ H h p=>⟨xs,xs[i],hl i σ H p,by simp [h]⟩) (λσ H p=>⟨xs,hl _ σ H p,Bu _⟩) (λi σ H x H' h p ⟨t,y,e1,e2,e3,e4⟩=>by
  subst e1 e3
  exact hs i y σ H t (e4 xs (hl i σ H p)) p e2) hd
theorem By5{K:Frag}{a:Addr}{xs:List V}{g:TG}{tb:TS}{D:Ends}{σ:L2.St}{H:Hp}(Pv:Nat->L2.St->Hp->Prop)(h0:Pv 0 σ H)(hl:∀i σ H,Pv i σ H->SqL K H a xs)
  (hs:∀i x σ H,xs.reverse[i]?=some x->Pv i σ H->g x σ H λσ2 H2=>tb {D with nx:=Pv (i+1),ct:=Pv (i+1),bk:=D.nx} σ2 H2) (hd:∀σ H,Pv xs.length σ H->D.nx σ H):
  ∃W:Nat->Nat->L2.St->Hp->Prop,(∃m,W 0 m σ H)/\∀i m σ H,W i m σ H->
   ((Itv K a xs.length).stop i H/\D.nx σ H)\/((Itv K a xs.length).go i H/\∃N:L2.St->Hp->Prop,(∀σ' H',N σ' H'->∃m',m'<m/\W (i+1) m' σ' H')/\∀x H',(Itv K a xs.length).yld i H x H'->g x σ H' λσ2 H2=>tb {D with nx:=N,ct:=N,bk:=D.nx} σ2 H2):=
 Bpp (n:=xs.length) Pv h0 (λi σ H h p=>⟨h,xs,xs[xs.length-1-i],hl i σ H p,by rw[CP]⟩) (λσ H p=>Bu _) (λi σ H x H' h p ⟨e1,e2⟩=>by
  subst e1
  refine hs i x σ _ ?_ p
  rw[Aj7 h]
  exact e2 xs (hl i σ _ p)) hd
end RB
end
section
namespace RT
open PySem PySem.Spec PyProof.Rows L2 RB
theorem knl{X:Cx}{N:List Str}{sc:Scope}{k:Nat}(_:Ctx X N sc k)(x:Str)(h:sc.names.lookup x=some NameKind.local:=by decide+kernel):Vis sc x/\Loc sc x:=⟨Ced h,.inl h⟩
theorem knc{X:Cx}{N:List Str}{sc:Scope}{k:Nat}(_:Ctx X N sc k)(x:Str)(h:sc.names.lookup x=some Wl:=by decide+kernel):Vis sc x/\Loc sc x:=⟨Cec h,.inr h⟩
theorem kng{X:Cx}{N:List Str}{sc:Scope}{k:Nat}(c:Ctx X N sc k)(x:Str)(h:sc.names.lookup x=some NameKind.globalImplicit:=by decide+kernel):Gl X x:=Cc4 c h
theorem knS{N P:List Str}{sc:Scope}(a:sc.kind=.function:=by rfl)(b:sc.isCoroutine=false:=by rfl)(d:sc.isGenerator=false:=by rfl)(e:N.Nodup:=by decide+kernel)(f:N.take P.length=P:=by rfl)(g:∀x∈P,sc.names.lookup x=some .local\/sc.names.lookup x=some .cell:=by decide+kernel)(i:∀y∈sc.names,y.2≠.free:=by decide+kernel):Cp N P sc:=⟨a,b,d,e,f,g,i⟩
abbrev DX(X:Cx)(k:Nat)(x:Str)(ps:List Str)(sp:Sp):Prop:=Def X.prog X.w X.K X.mg X.base k x ps sp
abbrev MX(X:Cx)(k:Nat)(C:Addr)(x:Str)(ps:List Str)(sp:Sp):Prop:=Mak X.prog X.w X.K X.mg X.base k C x ps sp
def top(i:Nat):Stmt:=Aip.main.body.getD i (.Pass ⟨0,0,0,0⟩)
abbrev ZD:Stmt:=top 4
abbrev Aun:List Str:=["things","thing"]
abbrev Rv:List Str:=["things"]
theorem Bje:Cp Aun Rv (Ao ZD):=knS
abbrev OD:Stmt:=top 5
abbrev YD:List Str:=["things","sizes","thing","rank"]
abbrev LR:List Str:=["things"]
theorem Ao5:Cp YD LR (Ao OD):=knS
abbrev Qw:Stmt:=top 6
abbrev Z5:List Str:=["things","sizes","thing"]
abbrev M6:List Str:=["things"]
theorem Asu:Cp Z5 M6 (Ao Qw):=knS
abbrev Tg:Stmt:=top 7
abbrev Aih:List Str:=["bounds","things","broken","rank","size","sender"]
abbrev QD:List Str:=["bounds","things"]
theorem Bav:Cp Aih QD (Ao Tg):=knS
abbrev Bs3:Stmt:=top 8
abbrev Caq:List Str:=["bounds","things"]
abbrev Aio:List Str:=["bounds","things"]
theorem Cc1:Cp Caq Aio (Ao Bs3):=knS
abbrev Ah2:Stmt:=top 13
abbrev Bcg:List Str:=["thing"]
abbrev Z8:List Str:=["thing"]
theorem Bpd:Cp Bcg Z8 (Ao Ah2):=knS
abbrev W5:Stmt:=top 14
abbrev Apw:List Str:=["one","other"]
abbrev Sq:List Str:=["one","other"]
theorem Bfw:Cp Apw Sq (Ao W5):=knS
abbrev Rf:Stmt:=top 15
abbrev Ab0:List Str:=["things"]
abbrev Ln:List Str:=["things"]
theorem Au1:Cp Ab0 Ln (Ao Rf):=knS
abbrev Aoq:Stmt:=top 16
abbrev Bhd:List Str:=["things","gone","numbers","thing"]
abbrev V7:List Str:=["things","gone"]
theorem Btk:Cp Bhd V7 (Ao Aoq):=knS
abbrev Xe:Stmt:=top 17
abbrev Ap3:List Str:=["things","thing"]
abbrev Og:List Str:=["things"]
theorem Bf3:Cp Ap3 Og (Ao Xe):=knS
abbrev Xd:Stmt:=top 18
abbrev Ap2:List Str:=["things","thing"]
abbrev HD:List Str:=["things"]
theorem Bf2:Cp Ap2 HD (Ao Xd):=knS
abbrev Awk:Stmt:=top 22
abbrev Blz:List Str:=["held","thing","other"]
abbrev Afl:List Str:=["held","thing"]
theorem Bvt:Cp Blz Afl (Ao Awk):=knS
abbrev Zw:Stmt:=top 23
abbrev Aui:List Str:=["held","thing","other"]
abbrev NP:List Str:=["held","thing"]
theorem Bi9:Cp Aui NP (Ao Zw):=knS
abbrev Ah1:Stmt:=top 24
abbrev Bcf:List Str:=["bounds","held","thing"]
abbrev TF:List Str:=["bounds","held","thing"]
theorem Bpc:Cp Bcf TF (Ao Ah1):=knS
abbrev Ah0:Stmt:=top 25
abbrev Bce:List Str:=["bounds","held","thing","there","gone","other"]
abbrev V6:List Str:=["bounds","held","thing"]
theorem Bpb:Cp Bce V6 (Ao Ah0):=knS
abbrev Tr:Stmt:=top 26
abbrev Aim:List Str:=["bounds","held","rank","end","sender","staying","size"]
abbrev S9:List Str:=["bounds","held","rank","end","sender"]
theorem Ba1:Cp Aim S9 (Ao Tr):=knS
abbrev WT:Stmt:=top 28
abbrev Apm:List Str:=["things","choices","thing","without_it","with_it","chosen","left"]
abbrev Sg:List Str:=["things"]
theorem Bfo:Cp Apm Sg (Ao WT):=knS
abbrev Bb0:Stmt:=top 29
abbrev Bq9:List Str:=["chosen"]
abbrev Bbq:List Str:=["chosen"]
theorem Byv:Cp Bq9 Bbq (Ao Bb0):=knS
abbrev Bkv:Stmt:=top 30
abbrev Bvr:List Str:=["chosen"]
abbrev Biy:List Str:=["chosen"]
theorem Ca8:Cp Bvr Biy (Ao Bkv):=knS
abbrev WY:Stmt:=top 31
abbrev Apq:List Str:=["things","allowed","best","chosen","left"]
abbrev Sh:List Str:=["things","allowed"]
theorem Bfr:Cp Apq Sh (Ao WY):=knS
abbrev Rb:Stmt:=top 32
abbrev Aby:List Str:=["bounds","held","thing","weakest_first","staying","cheapest","chosen","left"]
abbrev Q6:List Str:=["bounds","held","thing"]
theorem Auz:Cp Aby Q6 (Ao Rb):=knS
abbrev Zt:Stmt:=top 34
abbrev Aud:List Str:=["bounds","held","thing","gone"]
abbrev Uv:List Str:=["bounds","held","thing"]
theorem Bi5:Cp Aud Uv (Ao Zt):=knS
abbrev Vt:Stmt:=top 35
abbrev Akq:List Str:=["bounds","things","held","thing"]
abbrev O5:List Str:=["bounds","things"]
theorem Bcn:Cp Akq O5 (Ao Vt):=knS
abbrev Zo:Stmt:=top 36
abbrev Aua:List Str:=["things","orders","length","longer","order","thing"]
abbrev Uu:List Str:=["things"]
theorem Bi2:Cp Aua Uu (Ao Zo):=knS
abbrev Tt:Stmt:=top 37
abbrev Ain:List Str:=["bounds","things","kept","thing"]
abbrev Tc:List Str:=["bounds","things"]
theorem Ba2:Cp Ain Tc (Ao Tt):=knS
abbrev Tn:Stmt:=top 38
abbrev Aik:List Str:=["comer"]
abbrev S7:List Str:=["comer"]
theorem Bay:Cp Aik S7 (Ao Tn):=knS
abbrev Qv:Stmt:=top 39
abbrev Z4:List Str:=["bounds","comers","held","ended","comer","over","other"]
abbrev Qc:List Str:=["bounds","comers"]
theorem Ast:Cp Z4 Qc (Ao Qv):=knS
abbrev Ra:Stmt:=top 40
abbrev Abx:List Str:=["bounds","comers","comer","there","other"]
abbrev NK:List Str:=["bounds","comers"]
theorem Auy:Cp Abx NK (Ao Ra):=knS
abbrev Adj:Stmt:=top 51
abbrev Ay4:List Str:=["numbers","ranges","place","pair"]
abbrev Iw:List Str:=["numbers","ranges"]
theorem Bl8:Cp Ay4 Iw (Ao Adj):=knS
abbrev Xc:Stmt:=top 58
abbrev Ap1:List Str:=["calls","found","at","number","first","count"]
abbrev Wt:List Str:=["calls"]
theorem Bf1:Cp Ap1 Wt (Ao Xc):=knS
abbrev Bs2:Stmt:=top 59
abbrev Cap:List Str:=["numbers","width","at"]
abbrev Bl1:List Str:=["numbers","width"]
theorem Cc0:Cp Cap Bl1 (Ao Bs2):=knS
abbrev Rc:Stmt:=top 60
abbrev Abz:List Str:=["things","thing"]
abbrev NQ:List Str:=["things"]
theorem Au0:Cp Abz NQ (Ao Rc):=knS
abbrev Xb:Stmt:=top 61
abbrev Ap0:List Str:=["row","most","pieces","six","things"]
abbrev Mw:List Str:=["row","most"]
theorem Bf0:Cp Ap0 Mw (Ao Xb):=knS
abbrev Zy:Stmt:=top 62
abbrev Auk:List Str:=["seven","six","comer"]
abbrev Za:List Str:=["seven"]
theorem Bjb:Cp Auk Za (Ao Zy):=knS
abbrev Xa:Stmt:=top 63
abbrev Apz:List Str:=["row","most","pieces","comers","seven","comer"]
abbrev Ss:List Str:=["row","most"]
theorem Bfz:Cp Apz Ss (Ao Xa):=knS
abbrev Qu:Stmt:=top 65
abbrev Z2:List Str:=["one","other","rest"]
abbrev Qa:List Str:=["one","other"]
theorem Ass:Cp Z2 Qa (Ao Qu):=knS
abbrev Vv:Stmt:=top 66
abbrev Akr:List Str:=["above","below","divisor"]
abbrev Ux:List Str:=["above","below"]
theorem Bco:Cp Akr Ux (Ao Vv):=knS
abbrev Vw:Stmt:=top 67
abbrev Aks:List Str:=["whole","asked","left","waiting","ask"]
abbrev Uy:List Str:=["whole","asked"]
theorem Bcp:Cp Aks Uy (Ao Vw):=knS
abbrev W2:Stmt:=top 68
abbrev Apt:List Str:=["whole","asked","most","shares","ask"]
abbrev Wq:List Str:=["whole","asked"]
theorem Bft:Cp Apt Wq (Ao W2):=knS
abbrev Lr:Stmt:=top 75
abbrev Ub:List Str:=["things"]
abbrev Hy:List Str:=["things"]
theorem Afo:Cp Ub Hy (Ao Lr):=knS
abbrev Adl:Stmt:=top 76
abbrev Ay6:List Str:=["bounds","row","things"]
abbrev Akz:List Str:=["bounds","row"]
theorem Bma:Cp Ay6 Akz (Ao Adl):=knS
abbrev Zx:Stmt:=top 77
abbrev Auj:List Str:=["bounds","row","things","as_told","order","kept"]
abbrev Agp:List Str:=["bounds","row"]
theorem Bja:Cp Auj Agp (Ao Zx):=knS
abbrev W4:Stmt:=top 78
abbrev Apv:List Str:=["bounds","row","things"]
abbrev Ad6:List Str:=["bounds","row"]
theorem Bfv:Cp Apv Ad6 (Ao W4):=knS
abbrev XQ:Stmt:=top 79
abbrev Ayy:List Str:=["bounds","row","things"]
abbrev Akw:List Str:=["bounds","row"]
theorem Bl2:Cp Ayy Akw (Ao XQ):=knS
abbrev W9:Stmt:=top 80
abbrev Apy:List Str:=["bounds","row","comers"]
abbrev Ad7:List Str:=["bounds","row"]
theorem Bfy:Cp Apy Ad7 (Ao W9):=knS
abbrev Vu:Stmt:=top 81
abbrev Auf:List Str:=["bounds","row","comers"]
abbrev Ago:List Str:=["bounds","row"]
theorem Bi7:Cp Auf Ago (Ao Vu):=knS
abbrev Adh:Stmt:=top 82
abbrev Ay2:List Str:=["bounds","row","answer","share"]
abbrev Aky:List Str:=["bounds","row"]
theorem Bl6:Cp Ay2 Aky (Ao Adh):=knS
abbrev Adg:Stmt:=top 83
abbrev Ay1:List Str:=["bounds","row","things","ends","order","answer","end"]
abbrev Akx:List Str:=["bounds","row"]
theorem Bl5:Cp Ay1 Akx (Ao Adg):=knS
abbrev Vs:Stmt:=top 85
abbrev Akp:List Str:=["number"]
abbrev Uw:List Str:=["number"]
theorem Bcm:Cp Akp Uw (Ao Vs):=knS
abbrev Qt:Stmt:=top 86
abbrev Z0:List Str:=["bounds","number","row","call"]
abbrev P0:List Str:=["bounds","number","row"]
theorem Asr:Cp Z0 P0 (Ao Qt):=knS
abbrev ZC:Stmt:=top 89
abbrev Aum:List Str:=["state","fresh"]
abbrev Zc:List Str:=["state"]
theorem Bjd:Cp Aum Zc (Ao ZC):=knS
abbrev Zr:Stmt:=top 90
abbrev Auc:List Str:=["state","number","thing"]
abbrev Kh:List Str:=["state","number"]
theorem Bi4:Cp Auc Kh (Ao Zr):=knS
abbrev Awl:Stmt:=top 91
abbrev Bl0:List Str:=["state","thing"]
abbrev Aut:List Str:=["state","thing"]
theorem Bvu:Cp Bl0 Aut (Ao Awl):=knS
abbrev Awj:Stmt:=top 92
abbrev Bly:List Str:=["state","gone"]
abbrev Z7:List Str:=["state","gone"]
theorem Bvs:Cp Bly Z7 (Ao Awj):=knS
abbrev Ti:Stmt:=top 106
abbrev Aii:List Str:=["state","bounds"]
abbrev Nu:List Str:=["state","bounds"]
theorem Baw:Cp Aii Nu (Ao Ti):=knS
abbrev Adm:Stmt:=top 107
abbrev Ay7:List Str:=["state","numbers"]
abbrev Ab7:List Str:=["state","numbers"]
theorem Bmb:Cp Ay7 Ab7 (Ao Adm):=knS
abbrev W6:Stmt:=top 108
abbrev Apx:List Str:=["state","numbers"]
abbrev Ws:List Str:=["state","numbers"]
theorem Bfx:Cp Apx Ws (Ao W6):=knS
abbrev Zz:Stmt:=top 109
abbrev Aul:List Str:=["state","numbers"]
abbrev Zb:List Str:=["state","numbers"]
theorem Bjc:Cp Aul Zb (Ao Zz):=knS
abbrev RP:Stmt:=top 110
abbrev Afi:List Str:=["state","numbers","thing"]
abbrev Kc:List Str:=["state","numbers"]
theorem Axd:Cp Afi Kc (Ao RP):=knS
abbrev Aop:Stmt:=top 111
abbrev Bhc:List Str:=["state","thing","gone"]
abbrev Afm:List Str:=["state","thing"]
theorem Btj:Cp Bhc Afm (Ao Aop):=knS
abbrev WX:Stmt:=top 112
abbrev Apo:List Str:=["state","numbers","refusal"]
abbrev Wn:List Str:=["state","numbers"]
theorem Bfq:Cp Apo Wn (Ao WX):=knS
abbrev ZF:Stmt:=top 113
abbrev Auo:List Str:=["state","numbers","refusal","thing"]
abbrev Zd:List Str:=["state","numbers"]
theorem Bjf:Cp Auo Zd (Ao ZF):=knS
abbrev Ah3:Stmt:=top 114
abbrev Bch:List Str:=["state","numbers","refusal","thing","broken","answer","pair"]
abbrev Agq:List Str:=["state","numbers"]
theorem Bpe:Cp Bch Agq (Ao Ah3):=knS
abbrev Oz:Stmt:=top 115
abbrev YC:List Str:=["state","numbers","ranges"]
abbrev JD:List Str:=["state","numbers","ranges"]
theorem Ao4:Cp YC JD (Ao Oz):=knS
abbrev Adf:Stmt:=top 116
abbrev Ay0:List Str:=["state","numbers","refusal","thing"]
abbrev Ab4:List Str:=["state","numbers"]
theorem Bl4:Cp Ay0 Ab4 (Ao Adf):=knS
abbrev Ade:Stmt:=top 117
abbrev Ayz:List Str:=["state","numbers","refusal","thing"]
abbrev Ab3:List Str:=["state","numbers"]
theorem Bl3:Cp Ayz Ab3 (Ao Ade):=knS
abbrev Vx:Stmt:=top 118
abbrev Akt:List Str:=["state","numbers","refusal","thing"]
abbrev Uz:List Str:=["state","numbers"]
theorem Bcq:Cp Akt Uz (Ao Vx):=knS
abbrev Nk:Stmt:=top 119
abbrev VP:List Str:=["state","numbers","refusal"]
abbrev KN:List Str:=["state","numbers"]
theorem Aj8:Cp VP KN (Ao Nk):=knS
abbrev W3:Stmt:=top 120
abbrev Apu:List Str:=["state","numbers","refusal","thing"]
abbrev Wr:List Str:=["state","numbers"]
theorem Bfu:Cp Apu Wr (Ao W3):=knS
abbrev W0:Stmt:=top 121
abbrev Aps:List Str:=["state","numbers","refusal"]
abbrev Wo:List Str:=["state","numbers"]
theorem Bfs:Cp Aps Wo (Ao W0):=knS
abbrev Ado:Stmt:=top 122
abbrev Ay9:List Str:=["state","numbers","moment","ended","thing"]
abbrev Ab9:List Str:=["state","numbers"]
theorem Bmd:Cp Ay9 Ab9 (Ao Ado):=knS
abbrev Zu:Stmt:=top 123
abbrev Aue:List Str:=["state","numbers"]
abbrev Y8:List Str:=["state","numbers"]
theorem Bi6:Cp Aue Y8 (Ao Zu):=knS
abbrev Adk:Stmt:=top 124
abbrev Ay5:List Str:=["state","numbers","refusal","thing","six"]
abbrev Ab6:List Str:=["state","numbers"]
theorem Bl9:Cp Ay5 Ab6 (Ao Adk):=knS
abbrev Adp:Stmt:=top 125
abbrev Aza:List Str:=["state","numbers","answer"]
abbrev Aca:List Str:=["state","numbers"]
theorem Bme:Cp Aza Aca (Ao Adp):=knS
abbrev Tq:Stmt:=top 126
abbrev Ail:List Str:=["state","numbers"]
abbrev S8:List Str:=["state","numbers"]
theorem Ba0:Cp Ail S8 (Ao Tq):=knS
abbrev Adi:Stmt:=top 127
abbrev Ay3:List Str:=["state","numbers","going","thing"]
abbrev Ab5:List Str:=["state","numbers"]
theorem Bl7:Cp Ay3 Ab5 (Ao Adi):=knS
abbrev Zv:Stmt:=top 128
abbrev Auh:List Str:=["state","numbers","thing"]
abbrev Y9:List Str:=["state","numbers"]
theorem Bi8:Cp Auh Y9 (Ao Zv):=knS
abbrev Vy:Stmt:=top 129
abbrev Aku:List Str:=["state","numbers"]
abbrev UG:List Str:=["state","numbers"]
theorem Bcr:Cp Aku UG (Ao Vy):=knS
abbrev Adn:Stmt:=top 130
abbrev Ay8:List Str:=["state","numbers","rank"]
abbrev Ab8:List Str:=["state","numbers"]
theorem Bmc:Cp Ay8 Ab8 (Ao Adn):=knS
abbrev Tj:Stmt:=top 131
abbrev Aij:List Str:=["state","numbers","refusal","thing","chosen"]
abbrev S6:List Str:=["state","numbers"]
theorem Bax:Cp Aij S6 (Ao Tj):=knS
abbrev Zq:Stmt:=top 132
abbrev Aub:List Str:=["state","numbers"]
abbrev Y7:List Str:=["state","numbers"]
theorem Bi3:Cp Aub Y7 (Ao Zq):=knS
abbrev Ox:Stmt:=top 134
abbrev YB:List Str:=["state","number","numbers","call"]
abbrev Ou:List Str:=["state","number","numbers"]
theorem Ao3:Cp YB Ou (Ao Ox):=knS
abbrev WW:Stmt:=top 136
abbrev Apn:List Str:=["state","number","numbers"]
abbrev Wm:List Str:=["state","number","numbers"]
theorem Bfp:Cp Apn Wm (Ao WW):=knS
abbrev ZQ:Stmt:=top 137
abbrev An6:List Str:=["calls","state","told","number","numbers","answer"]
abbrev Axa:List Str:=["calls"]
theorem Bti:Cp An6 Axa (Ao ZQ):=knS
abbrev WR:Stmt:=inClass (top 3) 0
abbrev Apl:List Str:=["self","room","limits","share"]
abbrev Oe:List Str:=["self","room","limits","share"]
theorem Bfn:Cp Apl Oe (Ao WR):=knS
abbrev Zn:Stmt:=inClass (top 11) 0
abbrev At9:List Str:=["self","six"]
abbrev Jt:List Str:=["self","six"]
theorem Aux:Cp At9 Jt (Ao Zn):=knS
abbrev Zk:Stmt:=inClass (top 12) 0
abbrev At7:List Str:=["self","moment","six"]
abbrev Y6:List Str:=["self","moment","six"]
theorem Bi0:Cp At7 Y6 (Ao Zk):=knS
abbrev Zm:Stmt:=inClass (top 88) 0
abbrev At8:List Str:=["self"]
abbrev Ut:List Str:=["self"]
theorem Bi1:Cp At8 Ut (Ao Zm):=knS
def lamOf:Stmt->Expr
 |.Return (some (.Call _ [.Call _ [_,l] _ _] _ _)) _=>l
 |_=>.Constant .none 0 ⟨0,0,0,0⟩
def Axt:Expr->Pos
 |.Lambda _ _ _ p=>p
 |_=>⟨0,0,0,0⟩
def Br8:Expr->Arguments
 |.Lambda a _ _ _=>a
 |_=>{posonlyargs:=[],args:=[],vararg:=none,kwonlyargs:=[],kw_defaults:=[],kwarg:=none,defaults:=[]}
def Br9:Expr->Expr
 |.Lambda _ b _ _=>b
 |e=>e
def Bnk:Expr->Scope
 |.Lambda _ _ s _=>s
 |_=>{kind:=.function,names:=[],isGenerator:=false,isCoroutine:=false}
abbrev QK:Expr:=lamOf ((Ca XQ).getD 2 (.Pass ⟨0,0,0,0⟩))
theorem Bbb:Bq8 (Br8 QK) (Br9 QK) (Bnk QK) "fit":=⟨⟨_,_,_,_,rfl⟩,by decide+kernel,by decide+kernel,by decide+kernel,rfl,rfl,rfl,by decide+kernel,λenv c h=>Brd h rfl rfl rfl,λ_=>rfl,λ_ _ _ _ _ _ _=>rfl,by decide+kernel⟩
abbrev Pj:Expr:=lamOf ((Ca Vu).getD 2 (.Pass ⟨0,0,0,0⟩))
theorem Axu:Bq8 (Br8 Pj) (Br9 Pj) (Bnk Pj) "can_all_be_kept":=⟨⟨_,_,_,_,rfl⟩,by decide+kernel,by decide+kernel,by decide+kernel,rfl,rfl,rfl,by decide+kernel,λenv c h=>Brd h rfl rfl rfl,λ_=>rfl,λ_ _ _ _ _ _ _=>rfl,by decide+kernel⟩
structure Adr where
 Jb:Addr
 GJ:Addr
 JN:Addr
 Gq:Addr
 Lf:Addr
 Ads:Addr
 VD:Addr
 VB:Addr
 QL:Addr
 QM:Addr
 Vz:Addr
 Le:Addr
 Xg:Addr
 ZK:Addr
 Rg:Addr
 ZG:Addr
 Xh:Addr
 ZJ:Addr
 RW:Addr
 Xi:Addr
 Qn:List (Int×Addr)
 Aeh:List (Int×Addr)
def Bvw(K:Frag)(a:Addr)(l:List Int):Prop:=∀H,SqT K H a (l.map V.int)
def Ais(K:Frag)(a:Addr)(l:List (List Int)):Prop:=∃as:List Addr,(∀H,SqT K H a (as.map V.ref))/\Paired (λb p=>Bvw K b p) as l
structure Txt(K:Frag)(mg:Str->Option Value)(A:Adr):Prop where
 Avn:Src K mg "whole_size" ZD Rv
 YJ:Src K mg "sizes_up_to_ranks" OD LR
 Aaj:Src K mg "sizes_of_senders" Qw M6
 Aiv:Src K mg "broken_bounds" Tg QD
 Cau:Src K mg "fit" Bs3 Aio
 Bc4:Src K mg "strength" Ah2 Z8
 Aqq:Src K mg "is_stronger" W5 Sq
 Acn:Src K mg "strongest_first" Rf Ln
 Bhu:Src K mg "without" Aoq V7
 Aqx:Src K mg "whole_worth" Xe Og
 Aqw:Src K mg "tell_things" Xd HD
 Bmz:Src K mg "may_go" Awk Afl
 Avi:Src K mg "may_not_go" Zw NP
 Bc3:Src K mg "is_taken" Ah1 TF
 Bc2:Src K mg "gone_for" Ah0 V6
 Ai0:Src K mg "greatest_size" Tr S9
 Aqi:Src K mg "all_choices" WT Sg
 Brk:Src K mg "merit" Bb0 Bbq
 Bwi:Src K mg "cost" Bkv Biy
 Aql:Src K mg "best_choice" WY Sh
 Acl:Src K mg "cheapest_choice" Rb Q6
 Ave:Src K mg "held_after" Zt Uv
 Ale:Src K mg "kept_in_turn" Vt O5
 Avb:Src K mg "all_orders" Zo Uu
 Ai1:Src K mg "kept_greedily" Tt Tc
 Aiy:Src K mg "coming_moment" Tn S7
 Aai:Src K mg "kept_by_the_rule" Qv Qc
 Ack:Src K mg "can_all_be_kept" Ra NK
 Azn:Src K mg "in_ranges" Adj Iw
 Aqv:Src K mg "split_calls" Xc Wt
 Cat:Src K mg "cut" Bs2 Bl1
 Acm:Src K mg "no_number_twice" Rc NQ
 Aqu:Src K mg "read_things" Xb Mw
 Avk:Src K mg "read_comer" Zy Za
 Aqt:Src K mg "read_comers" Xa Ss
 Aah:Src K mg "greatest_divisor" Qu Qa
 Alf:Src K mg "lowest_terms" Vv Ux
 Alh:Src K mg "most_for_one" Vw Uy
 Aqn:Src K mg "fair_shares" W2 Wq
 Ud:Src K mg "tell_worth_and_things" Lr Hy
 Azp:Src K mg "kept_call" Adl Akz
 Avj:Src K mg "order_call" Zx Agp
 Aqp:Src K mg "greedy_call" W4 Ad6
 Azg:Src K mg "best_call" XQ Akw
 Aqs:Src K mg "online_call" W9 Ad7
 Avg:Src K mg "known_call" Vu Ago
 Azl:Src K mg "fair_call" Adh Aky
 Azk:Src K mg "ends_call" Adg Akx
 Ald:Src K mg "is_list_call" Vs Uw
 Aag:Src K mg "answer_list_call" Qt P0
 Avm:Src K mg "start_anew" ZC Zc
 Avd:Src K mg "find_thing" Zr Kh
 Bm0:Src K mg "put_in" Awl Aut
 Bmy:Src K mg "let_go" Awj Z7
 Aiw:Src K mg "change_bounds" Ti Nu
 Azq:Src K mg "room_call" Adm Ab7
 Aqr:Src K mg "limits_call" W6 Ws
 Avl:Src K mg "share_call" Zz Zb
 Aft:Src K mg "refusal_of_new" RP Kc
 Bht:Src K mg "take_in" Aop Afm
 Aqk:Src K mg "arrive_call" WX Wn
 Avo:Src K mg "would_call" ZF Zd
 Bc5:Src K mg "why_call" Ah3 Agq
 YH:Src K mg "refusal_of_number" Oz JD
 Azi:Src K mg "drop_call" Adf Ab4
 Azh:Src K mg "bind_call" Ade Ab3
 Ali:Src K mg "promise_call" Vx Uz
 V0:Src K mg "refusal_of_promised" Nk KN
 Aqo:Src K mg "fulfil_call" W3 Wr
 Aqm:Src K mg "cancel_call" W0 Wo
 Azs:Src K mg "tick_call" Ado Ab9
 Avf:Src K mg "items_call" Zu Y8
 Azo:Src K mg "item_call" Adk Ab6
 Azt:Src K mg "used_call" Adp Aca
 Aiz:Src K mg "greatest_call" Tq S8
 Azm:Src K mg "goes_call" Adi Ab5
 Avh:Src K mg "lasts_call" Zv Y9
 Alj:Src K mg "senders_call" Vy UG
 Azr:Src K mg "sure_call" Adn Ab8
 Aix:Src K mg "cheapest_call" Tj S6
 Avc:Src K mg "clear_call" Zq Y7
 YG:Src K mg "answer_store_call" Ox Ou
 Aqj:Src K mg "answer_call" WW Wm
 Bhs:Src K mg "answers" ZQ Axa
 Bnq:mg "Bounds"=some (.ref A.Jb)
 Xw:Cls K A.Jb
 Bne:Blx K A.Jb "__init__" "Bounds.__init__" WR Oe false
 Aek:HY K A.Jb "room"
 Tf:HY K A.Jb "limits"
 Aat:HY K A.Jb "share"
 Bj1:mg "Thing"=some (.ref A.GJ)
 U9:Cls K A.GJ
 Bjw:Blx K A.GJ "__init__" "Thing.__init__" Zn Jt true
 Aax:HY K A.GJ "number"
 Aha:HY K A.GJ "size"
 Ag9:HY K A.GJ "rank"
 Alw:HY K A.GJ "end"
 Aay:HY K A.GJ "sender"
 Aem:HY K A.GJ "worth"
 WM:HY K A.GJ "bound"
 RN:HY K A.GJ "promised"
 Bsh:mg "Comer"=some (.ref A.JN)
 RJ:Cls K A.JN
 Brt:Blx K A.JN "__init__" "Comer.__init__" Zk Y6 false
 Aav:HY K A.JN "number"
 Ag8:HY K A.JN "size"
 Ag7:HY K A.JN "rank"
 Alv:HY K A.JN "end"
 Aaw:HY K A.JN "sender"
 Ael:HY K A.JN "worth"
 WL:HY K A.JN "bound"
 RK:HY K A.JN "promised"
 Aau:HY K A.JN "moment"
 Bsi:mg "State"=some (.ref A.Gq)
 Acr:Cls K A.Gq
 Bru:Blx K A.Gq "__init__" "State.__init__" Zm Ut false
 Rn:HY K A.Gq "bounds"
 Ro:HY K A.Gq "moment"
 Pk:HY K A.Gq "things"
 Bbu:∃t,mg "RANKS"=some (.int 10 t)
 Bho:∃t,mg "SENDERS"=some (.int 8 t)
 J4:mg "THING_RANGES"=some (.ref A.Lf)
 Vi:Ais K A.Lf [[0,999],[1,50],[0,9],[1,100000],[0,7],[0,1000]]
 Ak8:∃t,mg "MOST_SIZE"=some (.int 50 t)
 Wb:∃t,mg "NUMBER_OF_NONE"=some (.int 1000 t)
 Hq:∃t,mg "NOT_REFUSED"=some (.int 0 t)
 FN:∃t,mg "OUT_OF_RANGE"=some (.int (-1) t)
 Yg:∃t,mg "BEYOND_BOUNDS"=some (.int (-3) t)
 Acg:∃t,mg "TOO_MANY_MAY_GO"=some (.int (-4) t)
 Azc:∃t,mg "NOT_THERE"=some (.int (-5) t)
 Aiu:∃t,mg "ALREADY_THERE"=some (.int (-6) t)
 Ait:∃t,mg "ALREADY_ENDED"=some (.int (-7) t)
 Au8:∃t,mg "STORE_FULL"=some (.int (-8) t)
 Ov:∃t,mg "NOT_IN_THAT_STATE"=some (.int (-9) t)
 Acp:mg "ROW_CALLS"=some (.ref A.Ads)
 Az5:Bvw K A.Ads [1,17,18,19,20,21,22,25,28]
 U5:mg "PLAIN_COUNTS"=some (.ref A.VD)
 Amc:Bvw K A.VD [1,0,1,6,6,6,1,2,6,1,1,1,0,1,0,3,1,0,0,0,0,0,0,1,0,0,1,6,0,0]
 U4:mg "MOMENT_RANGE"=some (.ref A.VB)
 Amb:Ais K A.VB [[0,100000]]
 Aqb:∃t,mg "THING_WIDTH"=some (.int 6 t)
 Ap7:∃t,mg "COMER_WIDTH"=some (.int 7 t)
 Ak7:∃t,mg "MOST_KEPT"=some (.int 20 t)
 Aae:∃t,mg "MOST_ORDERED"=some (.int 5 t)
 Wv:∃t,mg "MOST_CHOSEN"=some (.int 10 t)
 Ap9:∃t,mg "MOST_ASKING"=some (.int 8 t)
 Wx:mg "ASKED_RANGE"=some (.ref A.QL)
 Aq3:Bvw K A.QL [0,1000]
 Aqa:∃t,mg "MOST_THINGS"=some (.int 40 t)
 Ap8:∃t,mg "LAST_MOMENT"=some (.int 100000 t)
 Oi:mg "BOUND_RANGE"=some (.ref A.QM)
 Aeo:Ais K A.QM [[0,200]]
 U3:mg "LIMIT_RANGES"=some (.ref A.Vz)
 Ama:Ais K A.Vz [[0,200],[0,200],[0,200],[0,200],[0,200],[0,200],[0,200],[0,200],[0,200],[0,200]]
 J0:mg "NUMBER_RANGE"=some (.ref A.Le)
 Vh:Ais K A.Le [[0,999]]
 Wy:mg "BIND_RANGES"=some (.ref A.Xg)
 Aq4:Ais K A.Xg [[0,999],[0,1]]
 Zi:mg "TICK_RANGE"=some (.ref A.ZK)
 Awa:Ais K A.ZK [[0,1000]]
 Q7:mg "GREATEST_RANGES"=some (.ref A.Rg)
 Acw:Ais K A.Rg [[0,9],[1,100000],[0,7]]
 Zg:mg "GOES_RANGE"=some (.ref A.ZG)
 Av8:Ais K A.ZG [[0,200]]
 Wz:mg "LASTS_RANGE"=some (.ref A.Xh)
 Aq5:Ais K A.Xh [[0,100000]]
 Zh:mg "SURE_RANGE"=some (.ref A.ZJ)
 Av9:Ais K A.ZJ [[0,9]]
 Afp:∃t,mg "MOST_TO_CHOOSE"=some (.int 12 t)
 Qm:mg "LIST_CALLS"=some (.ref A.RW)
 Agz:Bvv K A.RW A.Qn
 Ag1:Paired (λ(p:Int×Addr) (q:Int×Str)=>p.1=q.1/\mg q.2=some (.ref p.2)) A.Qn [(17,"kept_call"),(18,"order_call"),(19,"greedy_call"),(20,"best_call"),(21,"online_call"),(22,"known_call"),(25,"fair_call"),(28,"ends_call")]
 WD:mg "STORE_CALLS"=some (.ref A.Xi)
 Aqg:Bvv K A.Xi A.Aeh
 Aqh:Paired (λ(p:Int×Addr) (q:Int×Str)=>p.1=q.1/\mg q.2=some (.ref p.2)) A.Aeh [(0,"room_call"),(1,"limits_call"),(2,"share_call"),(3,"arrive_call"),(4,"would_call"),(5,"why_call"),(6,"drop_call"),(7,"bind_call"),(8,"promise_call"),(9,"fulfil_call"),(10,"cancel_call"),(11,"tick_call"),(12,"items_call"),(13,"item_call"),(14,"used_call"),(15,"greatest_call"),(16,"goes_call"),(23,"lasts_call"),(24,"senders_call"),(26,"sure_call"),(27,"cheapest_call"),(29,"clear_call")]
 Xq:mg "enumerate"=none
 O9:mg "len"=none
 Bv0:mg "list"=none
 Bv1:mg "max"=none
 Au6:mg "range"=none
 As0:mg "reversed"=none
 Cas:mg "set"=none
 Au7:mg "sorted"=none
 Bv2:mg "sum"=none
def Ahy(K:Frag)(A:Adr):TS:=
   (Ey (tCB (Ccl K) (Ad (tLc (Jy K (Al 0)) (Ce 1) Apd (Gm K (Al 1) "size") [1]) Bq)))
theorem Bg7{X:Cx}{A:Adr}(T:Txt X.K X.mg A)(c:Ctx X Aun (Ao ZD) 0):PSs X (Ca ZD) (Ahy X.K A):=by
 have⟨Dz,HS⟩:=knl c "things"
 have Bwp:=kng c "sum"
 exact(Bc (BR (G5 (Bv8 c.calm) Bwp T.Bv2 boot_sum (Ab (Ben c (own:=[("thing",1)]) (G3 (qv c 0 Dz)) (by decide+kernel) (λs H C cl fp=>(Mr c 1 (by decide+kernel))) (λs H C cl fp=>WQ) (λs H C cl fp=>(CZ (Kf c 1 (by decide+kernel)) rfl))) Ai))))
def Ake(K:Frag)(A:Adr):TS:=
   (Ey (Al 1))
def Akd(K:Frag)(A:Adr):TS:=
   (CW (SN (Caz (Ad (tC (.int 1)) (Ad (tC (.int 10)) Bq))) (Ce 3)
   (Bs7 (Al 1) (Al 3) (tOp (Qs K) (Al 1) (tOp (rI0 λi j=>.int (i-j)) (Al 3) (tC (.int 1)))) (Qs K) (ipI λi j=>i+j) Bs0))
   (Ake K A))
def Akc(K:Frag)(A:Adr):TS:=
   (CW (SN (Jy K (Al 0)) (Ce 2)
   (Bs7 (Al 1) (Gm K (Al 2) "rank") (Gm K (Al 2) "size") (Qs K) (ipI λi j=>i+j) Bs0))
   (Akd K A))
def R9(K:Frag)(A:Adr):TS:=
   (CW (Gn (tOp Bxy (GK (Ad (tC (.int 0)) Bq)) (tC (.int 10))) (Ce 1))
   (Akc K A))
theorem Anw{X:Cx}{A:Adr}(T:Txt X.K X.mg A)(c:Ctx X YD (Ao OD) 0):PSs X (Ca OD) (R9 X.K A):=by
 have⟨Dz,HS⟩:=knl c "things"
 have⟨Ah9,Bj0⟩:=knl c "sizes"
 have⟨Dj,Gy⟩:=knl c "thing"
 have⟨Abk,Axr⟩:=knl c "rank"
 have Bbw:=kng c "RANKS"
 have Ag5:=kng c "range"
 exact(Ak (Dq c 1 Bj0 (J6 Bkl (Dl (Ab DW Ai)) (Fp Bbw T.Bbu)))
   (Ak (Ko c (G3 (qv c 0 Dz)) (Hi c 2 Gy) (Bc (Bkr (qv c 1 Ah9) (CZ (qv c 2 Dj) rfl) Bdi (CZ (qv c 2 Dj) rfl) Bpw set_list)))
   (Ak (Ko c (Buv Ag5 T.Au6 (Ab DW (Ab (Fp Bbw T.Bbu) Ai))) (Hi c 3 Axr) (Bc (Bkr (qv c 1 Ah9) (qv c 3 Abk) Bdi (Km HF (qv c 1 Ah9) (J6 Bqf (qv c 3 Abk) DW) (λ_ _=>rfl)) Bpw set_list)))
   (Bc (BR (qv c 1 Ah9))))))
def Ane(K:Frag)(A:Adr):TS:=
   (Ey (Al 1))
def Anc(K:Frag)(A:Adr):TS:=
   (CW (SN (Jy K (Al 0)) (Ce 2)
   (Bs7 (Al 1) (Gm K (Al 2) "sender") (Gm K (Al 2) "size") (Qs K) (ipI λi j=>i+j) Bs0))
   (Ane K A))
def T7(K:Frag)(A:Adr):TS:=
   (CW (Gn (tOp Bxy (GK (Ad (tC (.int 0)) Bq)) (tC (.int 8))) (Ce 1))
   (Anc K A))
theorem Aph{X:Cx}{A:Adr}(T:Txt X.K X.mg A)(c:Ctx X Z5 (Ao Qw) 0):PSs X (Ca Qw) (T7 X.K A):=by
 have⟨Dz,HS⟩:=knl c "things"
 have⟨Ah9,Bj0⟩:=knl c "sizes"
 have⟨Dj,Gy⟩:=knl c "thing"
 have Bty:=kng c "SENDERS"
 exact(Ak (Dq c 1 Bj0 (J6 Bkl (Dl (Ab DW Ai)) (Fp Bty T.Bho)))
   (Ak (Ko c (G3 (qv c 0 Dz)) (Hi c 2 Gy) (Bc (Bkr (qv c 1 Ah9) (CZ (qv c 2 Dj) rfl) Bdi (CZ (qv c 2 Dj) rfl) Bpw set_list)))
   (Bc (BR (qv c 1 Ah9)))))
def Acx(K:Frag)(A:Adr)(Dm CG Dn:Sp):TS:=
   (Ey (Al 2))
def Vm(K:Frag)(A:Adr)(Dm CG Dn:Sp):TS:=
   (CW (SN (Brs K (Ad (Cy Dn [] E0 (Ad (Al 1) Bq)) Bq)) (Bdd K 2 (Sy (Ce 5) (Sy (Ce 4) Bdc)))
   (Jh (Hj (tOp (rI0 λi j=>.bl (decide (j<i))) (Al 4) (Gm K (Al 0) "share")))
   (Om (tBM K "list" Qq (Al 2) (Ad (Apc (Ad (tC (.int 2)) (Ad (Al 5) Bq))) Bq)))
   Gx))
   (Acx K A Dm CG Dn))
def Vl(K:Frag)(A:Adr)(Dm CG Dn:Sp):TS:=
   (CW (SN (Brs K (Ad (Cy CG [] E0 (Ad (Al 1) Bq)) Bq)) (Bdd K 2 (Sy (Ce 3) (Sy (Ce 4) Bdc)))
   (Jh (Hj (tOp (rI0 λi j=>.bl (decide (j<i))) (Al 4) (tOp (Qs K) (Gm K (Al 0) "limits") (Al 3))))
   (Om (tBM K "list" Qq (Al 2) (Ad (Apc (Ad (tC (.int 1)) (Ad (Al 3) Bq))) Bq)))
   Gx))
   (Vm K A Dm CG Dn))
def Vk(K:Frag)(A:Adr)(Dm CG Dn:Sp):TS:=
   (CW (Jh (Hj (tOp (rI0 λi j=>.bl (decide (j<i))) (Cy Dm [] E0 (Ad (Al 1) Bq)) (Gm K (Al 0) "room")))
   (Om (tBM K "list" Qq (Al 2) (Ad (Apc (Ad (tC (.int 0)) (Ad (tC (.int 0)) Bq))) Bq)))
   Gx)
   (Vl K A Dm CG Dn))
def Yn(K:Frag)(A:Adr)(Dm CG Dn:Sp):TS:=
   (CW (Gn (GK Bq) (Ce 2))
   (Vk K A Dm CG Dn))
theorem Ayg{X:Cx}{A:Adr}{Dm CG Dn:Sp}(T:Txt X.K X.mg A)(c:Ctx X Aih (Ao Tg) 1)(Uo:DX X 1 "whole_size" Rv Dm)(R4:DX X 1 "sizes_up_to_ranks" LR CG)(Tz:DX X 1 "sizes_of_senders" M6 Dn):PSs X (Ca Tg) (Yn X.K A Dm CG Dn):=by
 have⟨Fe,Kd⟩:=knl c "bounds"
 have⟨Dz,HS⟩:=knl c "things"
 have⟨Abi,Bdn⟩:=knl c "broken"
 have⟨Abk,Axr⟩:=knl c "rank"
 have⟨Bfg,Bjz⟩:=knl c "size"
 have⟨Aww,Bnj⟩:=knl c "sender"
 have Xu:=kng c "enumerate"
 have U7:=kng c "whole_size"
 have R6:=kng c "sizes_up_to_ranks"
 have TV:=kng c "sizes_of_senders"
 exact(Ak (Dq c 2 Bdn (Dl Ai))
   (Ak (Gs (Ez Al3 (BJ Uo (c.room.mono (by decide)) U7 (Ab (qv c 1 Dz) Ai)) (CZ (qv c 0 Fe) rfl) (Gg _)) (Bc (JQ (Vf Dk Eu Ew MP (qv c 2 Abi) (Ab (Vg (Ab DW (Ab DW Ai))) Ai)))) Ea)
   (Ak (Ko c (Bkn Xu T.Xq (Ab (BJ R4 (c.room.mono (by decide)) R6 (Ab (qv c 1 Dz) Ai)) Ai)) (Al7 c.calm (Mf (Hi c 3 Axr) (Mf (Hi c 4 Bjz) Acv))) (Bc (Gs (Ez Al3 (qv c 4 Bfg) (Km HF (CZ (qv c 0 Fe) rfl) (qv c 3 Abk) (λ_ _=>rfl)) (Gg _)) (Bc (JQ (Vf Dk Eu Ew MP (qv c 2 Abi) (Ab (Vg (Ab DW (Ab (qv c 3 Abk) Ai))) Ai)))) Ea)))
   (Ak (Ko c (Bkn Xu T.Xq (Ab (BJ Tz (c.room.mono (by decide)) TV (Ab (qv c 1 Dz) Ai)) Ai)) (Al7 c.calm (Mf (Hi c 5 Bnj) (Mf (Hi c 4 Bjz) Acv))) (Bc (Gs (Ez Al3 (qv c 4 Bfg) (CZ (qv c 0 Fe) rfl) (Gg _)) (Bc (JQ (Vf Dk Eu Ew MP (qv c 2 Abi) (Ab (Vg (Ab DW (Ab (qv c 5 Aww) Ai))) Ai)))) Ea)))
   (Bc (BR (qv c 2 Abi)))))))
def Bx0(K:Frag)(A:Adr)(DY:Sp):TS:=
   (Ey (tOp rEq (tCB (QG K) (Ad (Cy DY [] E0 (Ad (Al 0) (Ad (Al 1) Bq))) Bq)) (tC (.int 0))))
theorem Ccq{X:Cx}{A:Adr}{DY:Sp}(T:Txt X.K X.mg A)(c:Ctx X Caq (Ao Bs3) 2)(X5:DX X 2 "broken_bounds" QD DY):PSs X (Ca Bs3) (Bx0 X.K A DY):=by
 have⟨Fe,Kd⟩:=knl c "bounds"
 have⟨Dz,HS⟩:=knl c "things"
 have Jm:=kng c "len"
 have Yi:=kng c "broken_bounds"
 exact(Bc (BR (Av4 Bnw (G5 Fl Jm T.O9 Ej (Ab (BJ X5 (c.room.mono (by decide)) Yi (Ab (qv c 0 Fe) (Ab (qv c 1 Dz) Ai))) Ai)) DW (Gg _))))
def Atm(K:Frag)(A:Adr):TS:=
   (Ey (Apc (Ad (tUn (rU λi=>.int (-i)) (Gm K (Al 0) "rank")) (Ad (tUn (rU λi=>.int (-i)) (Gm K (Al 0) "end")) (Ad (Gm K (Al 0) "number") Bq)))))
theorem Bo0{X:Cx}{A:Adr}(T:Txt X.K X.mg A)(c:Ctx X Bcg (Ao Ah2) 0):PSs X (Ca Ah2) (Atm X.K A):=by
 have⟨Dj,Gy⟩:=knl c "thing"
 exact(Bc (BR (Vg (Ab (Bss Bln (CZ (qv c 0 Dj) rfl)) (Ab (Bss Bln (CZ (qv c 0 Dj) rfl)) (Ab (CZ (qv c 0 Dj) rfl) Ai))))))
def Bgq(K:Frag)(A:Adr)(Jg:Sp):TS:=
   (Ey (tOp (Cd4 K) (Cy Jg [] E0 (Ad (Al 0) Bq)) (Cy Jg [] E0 (Ad (Al 1) Bq))))
theorem Be6{X:Cx}{A:Adr}{Jg:Sp}(T:Txt X.K X.mg A)(c:Ctx X Apw (Ao W5) 1)(Agl:DX X 1 "strength" Z8 Jg):PSs X (Ca W5) (Bgq X.K A Jg):=by
 have⟨Btf,Ca1⟩:=knl c "one"
 have⟨ZL,Bbx⟩:=knl c "other"
 have Ag6:=kng c "strength"
 exact(Bc (BR (Av4 (Ccd c.room.Bq1) (BJ Agl (c.room.mono (by decide)) Ag6 (Ab (qv c 0 Btf) Ai)) (BJ Agl (c.room.mono (by decide)) Ag6 (Ab (qv c 1 ZL) Ai)) (Gg _))))
def Vq(K:Frag)(A:Adr)(Jg:Sp):TS:=
   (Ey (Awp K Jg (Ad (Al 0) Bq)))
theorem Atv{X:Cx}{A:Adr}{Jg:Sp}(T:Txt X.K X.mg A)(c:Ctx X Ab0 (Ao Rf) 3)(Agl:DX X 1 "strength" Z8 Jg):PSs X (Ca Rf) (Vq X.K A Jg):=by
 have⟨Dz,HS⟩:=knl c "things"
 have Alo:=kng c "sorted"
 have Ag6:=kng c "strength"
 exact(Bc (BR (Bid Agl (c.room.mono (by decide)) Alo T.Au7 Ag6 (Ab (qv c 0 Dz) Ai))))
def Anl(K:Frag)(A:Adr):TS:=
   (Ey (tLc (Jy K (Al 0)) (Ce 3) (Hj (tOp (rIn K true) (Gm K (Al 3) "number") (Al 2))) (Al 3) [3]))
def Ayd(K:Frag)(A:Adr):TS:=
   (CW (Gn (tLc (Jy K (Al 1)) (Ce 3) Apd (Gm K (Al 3) "number") [3]) (Ce 2))
   (Anl K A))
theorem Bqy{X:Cx}{A:Adr}(T:Txt X.K X.mg A)(c:Ctx X Bhd (Ao Aoq) 0):PSs X (Ca Aoq) (Ayd X.K A):=by
 have⟨Dz,HS⟩:=knl c "things"
 have⟨Abj,Ata⟩:=knl c "gone"
 have⟨BK,FW⟩:=knc c "numbers"
 exact(Ak (Dq c 2 FW (Ben c (own:=[("thing",3)]) (G3 (qv c 1 Abj)) (by decide+kernel) (λs H C cl fp=>(Mr c 3 (by decide+kernel))) (λs H C cl fp=>WQ) (λs H C cl fp=>(CZ (Kf c 3 (by decide+kernel)) rfl))) (hs:=Cae c.hsc (by decide+kernel)))
   (Bc (BR (Ben c (own:=[("thing",3)]) (G3 (qv c 0 Dz)) (by decide+kernel) (λs H C cl fp=>(Mr c 3 (by decide+kernel))) (λs H C cl fp=>(Ahg (Ez Bkk (CZ (Kf c 3 (by decide+kernel)) rfl) (Wa c 2 (by decide+kernel)) (by with_unfolding_all rfl)))) (λs H C cl fp=>(Kf c 3 (by decide+kernel)))))))
def Ae8(K:Frag)(A:Adr):TS:=
   (Ey (tCB (Ccl K) (Ad (tLc (Jy K (Al 0)) (Ce 1) Apd (Gm K (Al 1) "worth") [1]) Bq)))
theorem Bfd{X:Cx}{A:Adr}(T:Txt X.K X.mg A)(c:Ctx X Ap3 (Ao Xe) 0):PSs X (Ca Xe) (Ae8 X.K A):=by
 have⟨Dz,HS⟩:=knl c "things"
 have Bwp:=kng c "sum"
 exact(Bc (BR (G5 (Bv8 c.calm) Bwp T.Bv2 boot_sum (Ab (Ben c (own:=[("thing",1)]) (G3 (qv c 0 Dz)) (by decide+kernel) (λs H C cl fp=>(Mr c 1 (by decide+kernel))) (λs H C cl fp=>WQ) (λs H C cl fp=>(CZ (Kf c 1 (by decide+kernel)) rfl))) Ai))))
def Ae7(K:Frag)(A:Adr):TS:=
   (Ey (tOp Wi (GK (Ad (tCB (QG K) (Ad (Al 0) Bq)) Bq)) (tLc (Jy K (Al 0)) (Ce 1) Apd (Gm K (Al 1) "number") [1])))
theorem Bfc{X:Cx}{A:Adr}(T:Txt X.K X.mg A)(c:Ctx X Ap2 (Ao Xd) 0):PSs X (Ca Xd) (Ae7 X.K A):=by
 have⟨Dz,HS⟩:=knl c "things"
 have Jm:=kng c "len"
 exact(Bc (BR (J6 Ly (Dl (Ab (G5 Fl Jm T.O9 Ej (Ab (qv c 0 Dz) Ai)) Ai)) (Ben c (own:=[("thing",1)]) (G3 (qv c 0 Dz)) (by decide+kernel) (λs H C cl fp=>(Mr c 1 (by decide+kernel))) (λs H C cl fp=>WQ) (λs H C cl fp=>(CZ (Kf c 1 (by decide+kernel)) rfl))))))
def Bep(K:Frag)(A:Adr)(Jf:Sp):TS:=
   (Ey (tLc (Jy K (Al 0)) (Ce 2) (Bu3 (tB (Cy Jf [] E0 (Ad (Al 1) (Ad (Al 2) Bq)))) (Yx (tB (Gm K (Al 2) "bound")))) (Al 2) [2]))
theorem Bu9{X:Cx}{A:Adr}{Jf:Sp}(T:Txt X.K X.mg A)(c:Ctx X Blz (Ao Awk) 2)(Ad0:DX X 2 "is_stronger" Sq Jf):PSs X (Ca Awk) (Bep X.K A Jf):=by
 have⟨Lz,Yk⟩:=knl c "held"
 have⟨Dj,Gy⟩:=knc c "thing"
 exact(Bc (BR (Ben c (own:=[("other",2)]) (G3 (qv c 0 Lz)) (by decide+kernel) (λs H C cl fp=>(Mr c 2 (by decide+kernel))) (λs H C cl fp=>(Ahg (PW.pt (Bem (Ij (BJ Ad0 (c.room.mono (by decide)) (Bv3 (by decide+kernel)) (Ab (Wa c 1 (by decide+kernel)) (Ab (Kf c 2 (by decide+kernel)) Ai)))) (Av7 (Mt (Ij (CZ (Kf c 2 (by decide+kernel)) rfl)))))))) (λs H C cl fp=>(Kf c 2 (by decide+kernel))))))
def Aht(K:Frag)(A:Adr)(Jf:Sp):TS:=
   (Ey (tLc (Jy K (Al 0)) (Ce 2) (tOr (tB (Gm K (Al 2) "bound")) (Yx (tB (Cy Jf [] E0 (Ad (Al 1) (Ad (Al 2) Bq)))))) (Al 2) [2]))
theorem Bg2{X:Cx}{A:Adr}{Jf:Sp}(T:Txt X.K X.mg A)(c:Ctx X Aui (Ao Zw) 2)(Ad0:DX X 2 "is_stronger" Sq Jf):PSs X (Ca Zw) (Aht X.K A Jf):=by
 have⟨Lz,Yk⟩:=knl c "held"
 have⟨Dj,Gy⟩:=knc c "thing"
 exact(Bc (BR (Ben c (own:=[("other",2)]) (G3 (qv c 0 Lz)) (by decide+kernel) (λs H C cl fp=>(Mr c 2 (by decide+kernel))) (λs H C cl fp=>(Ahg (PW.pt (Bn6 (Ij (CZ (Kf c 2 (by decide+kernel)) rfl)) (Bkt (Mt (Ij (BJ Ad0 (c.room.mono (by decide)) (Bv3 (by decide+kernel)) (Ab (Wa c 1 (by decide+kernel)) (Ab (Kf c 2 (by decide+kernel)) Ai)))))))))) (λs H C cl fp=>(Kf c 2 (by decide+kernel))))))
def Atk(K:Frag)(A:Adr)(Em Bt:Sp):TS:=
   (Ey (Cy Em [] E0 (Ad (Al 0) (Ad (tOp Wi (Cy Bt [] E0 (Ad (Al 1) (Ad (Al 2) Bq))) (GK (Ad (Al 2) Bq))) Bq))))
theorem Boz{X:Cx}{A:Adr}{Em Bt:Sp}(T:Txt X.K X.mg A)(c:Ctx X Bcf (Ao Ah1) 3)(Abu:DX X 3 "fit" Aio Em)(Mh:DX X 3 "may_not_go" NP Bt):PSs X (Ca Ah1) (Atk X.K A Em Bt):=by
 have⟨Fe,Kd⟩:=knl c "bounds"
 have⟨Lz,Yk⟩:=knl c "held"
 have⟨Dj,Gy⟩:=knl c "thing"
 have Afw:=kng c "fit"
 have Ms:=kng c "may_not_go"
 exact(Bc (BR (BJ Abu (c.room.mono (by decide)) Afw (Ab (qv c 0 Fe) (Ab (J6 Ly (BJ Mh (c.room.mono (by decide)) Ms (Ab (qv c 1 Lz) (Ab (qv c 2 Dj) Ai))) (Dl (Ab (qv c 2 Dj) Ai))) Ai)))))
def Awb(K:Frag)(A:Adr)(Ei Bt Em:Sp):TS:=
   (Ey (Al 4))
def Aho(K:Frag)(A:Adr)(Ei Bt Em:Sp):TS:=
   (CW (SN (Jy K (Cy Ei [] E0 (Ad (Al 1) (Ad (Al 2) Bq)))) (Ce 5)
   (Jh (tB (Cy Em [] E0 (Ad (Al 0) (Ad (tOp Wi (Al 3) (GK (Ad (Al 5) Bq))) Bq))))
   (Om (tBM K "list" Qq (Al 3) (Ad (Al 5) Bq)))
   (Om (tBM K "list" Qq (Al 4) (Ad (Al 5) Bq)))))
   (Awb K A Ei Bt Em))
def Ahn(K:Frag)(A:Adr)(Ei Bt Em:Sp):TS:=
   (CW (Gn (GK Bq) (Ce 4))
   (Aho K A Ei Bt Em))
def Atj(K:Frag)(A:Adr)(Ei Bt Em:Sp):TS:=
   (CW (Gn (tOp Wi (Cy Bt [] E0 (Ad (Al 1) (Ad (Al 2) Bq))) (GK (Ad (Al 2) Bq))) (Ce 3))
   (Ahn K A Ei Bt Em))
theorem Boy{X:Cx}{A:Adr}{Ei Bt Em:Sp}(T:Txt X.K X.mg A)(c:Ctx X Bce (Ao Ah0) 3)(Akk:DX X 3 "may_go" Afl Ei)(Mh:DX X 3 "may_not_go" NP Bt)(Abu:DX X 3 "fit" Aio Em):PSs X (Ca Ah0) (Atj X.K A Ei Bt Em):=by
 have⟨Fe,Kd⟩:=knl c "bounds"
 have⟨Lz,Yk⟩:=knl c "held"
 have⟨Dj,Gy⟩:=knl c "thing"
 have⟨Bb3,Br7⟩:=knl c "there"
 have⟨Abj,Ata⟩:=knl c "gone"
 have⟨ZL,Bbx⟩:=knl c "other"
 have Aln:=kng c "may_go"
 have Ms:=kng c "may_not_go"
 have Afw:=kng c "fit"
 exact(Ak (Dq c 3 Br7 (J6 Ly (BJ Mh (c.room.mono (by decide)) Ms (Ab (qv c 1 Lz) (Ab (qv c 2 Dj) Ai))) (Dl (Ab (qv c 2 Dj) Ai))))
   (Ak (Dq c 4 Ata (Dl Ai))
   (Ak (Ko c (G3 (BJ Akk (c.room.mono (by decide)) Aln (Ab (qv c 1 Lz) (Ab (qv c 2 Dj) Ai)))) (Hi c 5 Bbx) (Bc (Gs (Ij (BJ Abu (c.room.mono (by decide)) Afw (Ab (qv c 0 Fe) (Ab (J6 Ly (qv c 3 Bb3) (Dl (Ab (qv c 5 ZL) Ai))) Ai)))) (Bc (JQ (Vf Dk Eu Ew MP (qv c 3 Bb3) (Ab (qv c 5 ZL) Ai)))) (Bc (JQ (Vf Dk Eu Ew MP (qv c 4 Abj) (Ab (qv c 5 ZL) Ai)))))))
   (Bc (BR (qv c 4 Abj))))))
def Ac9(K:Frag)(A:Adr)(Bt Em Bm:Sp):TS:=
   (Ey (tC (.int 0)))
def Ac8(K:Frag)(A:Adr)(Bt Em Bm:Sp):TS:=
   (CW (SN (Bwy (Ad (tC (.int 50)) (Ad (tC (.int 0)) (Ad (tUn (rU λi=>.int (-i)) (tC (.int 1))) Bq)))) (Ce 6)
   (Jh (tB (Cy Em [] E0 (Ad (Al 0) (Ad (tOp Wi (Al 5) (GK (Ad (Uj A.GJ Bm [] E0 (Ad (GK (Ad (tC (.int 1000)) (Ad (Al 6) (Ad (Al 2) (Ad (Al 3) (Ad (Al 4) (Ad (tC (.int 0)) Bq))))))) Bq)) Bq))) Bq))))
   (Ey (Al 6))
   Gx))
   (Ac9 K A Bt Em Bm))
def Ys(K:Frag)(A:Adr)(Bt Em Bm:Sp):TS:=
   (CW (Gn (Cy Bt [] E0 (Ad (Al 1) (Ad (Uj A.GJ Bm [] E0 (Ad (GK (Ad (tC (.int 1000)) (Ad (tC (.int 50)) (Ad (Al 2) (Ad (Al 3) (Ad (Al 4) (Ad (tC (.int 0)) Bq))))))) Bq)) Bq))) (Ce 5))
   (Ac8 K A Bt Em Bm))
theorem Ayl{X:Cx}{A:Adr}{Bt Em Bm:Sp}(T:Txt X.K X.mg A)(c:Ctx X Aim (Ao Tr) 3)(Mh:DX X 3 "may_not_go" NP Bt)(Abu:DX X 3 "fit" Aio Em)(Ot:MX X 1 A.GJ "Thing" Jt Bm):PSs X (Ca Tr) (Ys X.K A Bt Em Bm):=by
 have⟨Fe,Kd⟩:=knl c "bounds"
 have⟨Lz,Yk⟩:=knl c "held"
 have⟨Abk,Axr⟩:=knl c "rank"
 have⟨Bio,Bw6⟩:=knl c "end"
 have⟨Aww,Bnj⟩:=knl c "sender"
 have⟨Ayp,Axs⟩:=knl c "staying"
 have⟨Bfg,Bjz⟩:=knl c "size"
 have Ms:=kng c "may_not_go"
 have Ag5:=kng c "range"
 have Azv:=kng c "MOST_SIZE"
 have Ow:=kng c "Thing"
 have Afw:=kng c "fit"
 have Afv:=kng c "NUMBER_OF_NONE"
 exact(Ak (Dq c 5 Axs (BJ Mh (c.room.mono (by decide)) Ms (Ab (qv c 1 Lz) (Ab (Vj Ot (c.room.mono (by decide)) Ow (Ab (Dl (Ab (Fp Afv T.Wb) (Ab (Fp Azv T.Ak8) (Ab (qv c 2 Abk) (Ab (qv c 3 Bio) (Ab (qv c 4 Aww) (Ab DW Ai))))))) Ai)) Ai))))
   (Ak (Ko c (Bh8 Ag5 T.Au6 (Ab (Fp Azv T.Ak8) (Ab DW (Ab (Bss Bln DW) Ai)))) (Hi c 6 Bjz) (Bc (Gs (Ij (BJ Abu (c.room.mono (by decide)) Afw (Ab (qv c 0 Fe) (Ab (J6 Ly (qv c 5 Ayp) (Dl (Ab (Vj Ot (c.room.mono (by decide)) Ow (Ab (Dl (Ab (Fp Afv T.Wb) (Ab (qv c 6 Bfg) (Ab (qv c 2 Abk) (Ab (qv c 3 Bio) (Ab (qv c 4 Aww) (Ab DW Ai))))))) Ai)) Ai))) Ai)))) (Bc (BR (qv c 6 Bfg))) Ea)))
   (Bc (BR DW))))
def Aja(K:Frag)(A:Adr):TS:=
   (Ey (Al 1))
def Ai9(K:Frag)(A:Adr):TS:=
   (CW (SN (Jy K (Al 0)) (Ce 2)
   (CW (Gn (tLc (Jy K (Al 1)) (Bdd K 2 (Sy (Ce 5) (Sy (Ce 6) Bdc))) Apd (Apc (Ad (Al 5) (Ad (tOp Wi (Al 6) (GK (Ad (Al 2) Bq))) Bq))) [5,6]) (Ce 3))
   (CW (Gn (tLc (Jy K (Al 1)) (Bdd K 2 (Sy (Ce 5) (Sy (Ce 6) Bdc))) Apd (Apc (Ad (tOp Wi (Al 5) (GK (Ad (Al 2) Bq))) (Ad (Al 6) Bq))) [5,6]) (Ce 4))
   (Gn (tOp Wi (Al 3) (Al 4)) (Ce 1)))))
   (Aja K A))
def Aeq(K:Frag)(A:Adr):TS:=
   (CW (Gn (GK (Ad (Apc (Ad (GK Bq) (Ad (GK Bq) Bq))) Bq)) (Ce 1))
   (Ai9 K A))
theorem Bey{X:Cx}{A:Adr}(T:Txt X.K X.mg A)(c:Ctx X Apm (Ao WT) 0):PSs X (Ca WT) (Aeq X.K A):=by
 have⟨Dz,HS⟩:=knl c "things"
 have⟨Ayn,Bhz⟩:=knl c "choices"
 have⟨Dj,Gy⟩:=knc c "thing"
 have⟨Blt,Bzo⟩:=knl c "without_it"
 have⟨Bvh,Ccw⟩:=knl c "with_it"
 exact(Ak (Dq c 1 Bhz (Dl (Ab (Vg (Ab (Dl Ai) (Ab (Dl Ai) Ai))) Ai)))
   (Ak (Ko c (G3 (qv c 0 Dz)) (Hi c 2 Gy) (Ak (Af0 c (i:=3) (by decide+kernel) (own:=[("chosen",5),("left",6)]) (G3 (qv c 1 Ayn)) (by decide+kernel) (λs H C cl fp=>(Al7 c.calm (Mf (Mr c 5 (by decide+kernel)) (Mf (Mr c 6 (by decide+kernel)) Acv)))) (λs H C cl fp=>WQ) (λs H C cl fp=>(Vg (Ab (Kf c 5 (by decide+kernel)) (Ab (J6 Ly (Kf c 6 (by decide+kernel)) (Dl (Ab (Wa c 2 (by decide+kernel)) Ai))) Ai)))) (by decide+kernel))
   (Ak (Af0 c (i:=4) (by decide+kernel) (own:=[("chosen",5),("left",6)]) (G3 (qv c 1 Ayn)) (by decide+kernel) (λs H C cl fp=>(Al7 c.calm (Mf (Mr c 5 (by decide+kernel)) (Mf (Mr c 6 (by decide+kernel)) Acv)))) (λs H C cl fp=>WQ) (λs H C cl fp=>(Vg (Ab (J6 Ly (Kf c 5 (by decide+kernel)) (Dl (Ab (Wa c 2 (by decide+kernel)) Ai))) (Ab (Kf c 6 (by decide+kernel)) Ai)))) (by decide+kernel))
   (Bc (Dq c 1 Bhz (J6 Ly (qv c 3 Blt) (qv c 4 Bvh)))))))
   (Bc (BR (qv c 1 Ayn)))))
def Bku(K:Frag)(A:Adr)(Dg:Sp):TS:=
   (Ey (Apc (Ad (Cy Dg [] E0 (Ad (Al 0) Bq)) (Ad (tUn (rU λi=>.int (-i)) (tCB (QG K) (Ad (Al 0) Bq))) Bq))))
theorem Byi{X:Cx}{A:Adr}{Dg:Sp}(T:Txt X.K X.mg A)(c:Ctx X Bq9 (Ao Bb0) 1)(Od:DX X 1 "whole_worth" Og Dg):PSs X (Ca Bb0) (Bku X.K A Dg):=by
 have⟨Nh,Aao⟩:=knl c "chosen"
 have Oj:=kng c "whole_worth"
 have Jm:=kng c "len"
 exact(Bc (BR (Vg (Ab (BJ Od (c.room.mono (by decide)) Oj (Ab (qv c 0 Nh) Ai)) (Ab (Bss Bln (G5 Fl Jm T.O9 Ej (Ab (qv c 0 Nh) Ai))) Ai)))))
def Bqk(K:Frag)(A:Adr)(Dg:Sp):TS:=
   (Ey (Apc (Ad (Cy Dg [] E0 (Ad (Al 0) Bq)) (Ad (tCB (QG K) (Ad (Al 0) Bq)) Bq))))
theorem Cai{X:Cx}{A:Adr}{Dg:Sp}(T:Txt X.K X.mg A)(c:Ctx X Bvr (Ao Bkv) 1)(Od:DX X 1 "whole_worth" Og Dg):PSs X (Ca Bkv) (Bqk X.K A Dg):=by
 have⟨Nh,Aao⟩:=knl c "chosen"
 have Oj:=kng c "whole_worth"
 have Jm:=kng c "len"
 exact(Bc (BR (Vg (Ab (BJ Od (c.room.mono (by decide)) Oj (Ab (qv c 0 Nh) Ai)) (Ab (G5 Fl Jm T.O9 Ej (Ab (qv c 0 Nh) Ai)) Ai)))))
def Ajf(X:Cx)(K:Frag)(A:Adr)(Es Rr:Sp):TS:=
   (Ey (Al 2))
def Aje(X:Cx)(K:Frag)(A:Adr)(Es Rr:Sp):TS:=
   (CW (SN (Jy K (Cy Es [] E0 (Ad (Al 0) Bq))) (Bdd K 2 (Sy (Ce 3) (Sy (Ce 4) Bdc)))
   (Jh (Bu3 (Hj (tOp (Cd2 K) (Cy Rr [] E0 (Ad (Al 3) Bq)) (Cy Rr [] E0 (Ad (Al 2) Bq)))) (tB (Bou X 6 1 (Ad (Al 3) Bq))))
   (Gn (Al 3) (Ce 2))
   Gx))
   (Ajf X K A Es Rr))
def Aeu(X:Cx)(K:Frag)(A:Adr)(Es Rr:Sp):TS:=
   (CW (Gn (GK Bq) (Ce 2))
   (Aje X K A Es Rr))
theorem Be1{X:Cx}{A:Adr}{Es Rr:Sp}(T:Txt X.K X.mg A)(c:Ctx X Apq (Ao WY) 7)(Ady:DX X 1 "all_choices" Sg Es)(Bq6:DX X 2 "merit" Bbq Rr):PSs X (Ca WY) (Aeu X X.K A Es Rr):=by
 have⟨Dz,HS⟩:=knl c "things"
 have⟨Bve,Ccv⟩:=knl c "allowed"
 have⟨Bym,Bw5⟩:=knl c "best"
 have⟨Nh,Aao⟩:=knl c "chosen"
 have⟨v_left,Axq⟩:=knl c "left"
 have Aed:=kng c "all_choices"
 have Brq:=kng c "merit"
 exact(Ak (Dq c 2 Bw5 (Dl Ai))
   (Ak (Ko c (G3 (BJ Ady (c.room.mono (by decide)) Aed (Ab (qv c 0 Dz) Ai))) (Al7 c.calm (Mf (Hi c 3 Aao) (Mf (Hi c 4 Axq) Acv))) (Bc (Gs (PW.pt (Bem (Ez (Ccb c.room.Bq1) (BJ Bq6 (c.room.mono (by decide)) Brq (Ab (qv c 3 Nh) Ai)) (BJ Bq6 (c.room.mono (by decide)) Brq (Ab (qv c 2 Bym) Ai)) (Gg _)) (Av7 (Ij (Cd1 (j:=6) c 1 Bve (c.room.mono (by decide)) (Ab (qv c 3 Nh) Ai)))))) (Bc (Dq c 2 Bw5 (qv c 3 Nh))) Ea)))
   (Bc (BR (qv c 2 Bym)))))
def YW(K:Frag)(A:Adr)(Es Bt Ei Em Qx:Sp):TS:=
   (Ey (Al 5))
def YT(K:Frag)(A:Adr)(Es Bt Ei Em Qx:Sp):TS:=
   (CW (SN (Jy K (Cy Es [] E0 (Ad (Al 3) Bq))) (Bdd K 2 (Sy (Ce 6) (Sy (Ce 7) Bdc)))
   (Jh (Bu3 (Hj (tOp (Cd3 K) (Cy Qx [] E0 (Ad (Al 6) Bq)) (Cy Qx [] E0 (Ad (Al 5) Bq)))) (tB (Cy Em [] E0 (Ad (Al 0) (Ad (tOp Wi (Al 4) (Al 7)) Bq)))))
   (Gn (Al 6) (Ce 5))
   Gx))
   (YW K A Es Bt Ei Em Qx))
def YS(K:Frag)(A:Adr)(Es Bt Ei Em Qx:Sp):TS:=
   (CW (Gn (Al 3) (Ce 5))
   (YT K A Es Bt Ei Em Qx))
def YQ(K:Frag)(A:Adr)(Es Bt Ei Em Qx:Sp):TS:=
   (CW (Gn (tOp Wi (Cy Bt [] E0 (Ad (Al 1) (Ad (Al 2) Bq))) (GK (Ad (Al 2) Bq))) (Ce 4))
   (YS K A Es Bt Ei Em Qx))
def Vo(K:Frag)(A:Adr)(Es Bt Ei Em Qx:Sp):TS:=
   (CW (Gn (tCB (Bn9 K) (Ad (Cy Ei [] E0 (Ad (Al 1) (Ad (Al 2) Bq))) Bq)) (Ce 3))
   (YQ K A Es Bt Ei Em Qx))
theorem Ats{X:Cx}{A:Adr}{Es Bt Ei Em Qx:Sp}(T:Txt X.K X.mg A)(c:Ctx X Aby (Ao Rb) 3)(Ady:DX X 1 "all_choices" Sg Es)(Mh:DX X 3 "may_not_go" NP Bt)(Akk:DX X 3 "may_go" Afl Ei)(Abu:DX X 3 "fit" Aio Em)(Bvm:DX X 2 "cost" Biy Qx):PSs X (Ca Rb) (Vo X.K A Es Bt Ei Em Qx):=by
 have⟨Fe,Kd⟩:=knl c "bounds"
 have⟨Lz,Yk⟩:=knl c "held"
 have⟨Dj,Gy⟩:=knl c "thing"
 have⟨Aj4,Bba⟩:=knl c "weakest_first"
 have⟨Ayp,Axs⟩:=knl c "staying"
 have⟨Bfe,Bdo⟩:=knl c "cheapest"
 have⟨Nh,Aao⟩:=knl c "chosen"
 have⟨v_left,Axq⟩:=knl c "left"
 have Cbh:=kng c "list"
 have Aed:=kng c "all_choices"
 have As8:=kng c "reversed"
 have Ms:=kng c "may_not_go"
 have Aln:=kng c "may_go"
 have Afw:=kng c "fit"
 have Bwl:=kng c "cost"
 exact(Ak (Dq c 3 Bba (Bux c.calm Cbh T.Bv0 As8 T.As0 (Ab (BJ Akk (c.room.mono (by decide)) Aln (Ab (qv c 1 Lz) (Ab (qv c 2 Dj) Ai))) Ai)))
   (Ak (Dq c 4 Axs (J6 Ly (BJ Mh (c.room.mono (by decide)) Ms (Ab (qv c 1 Lz) (Ab (qv c 2 Dj) Ai))) (Dl (Ab (qv c 2 Dj) Ai))))
   (Ak (Dq c 5 Bdo (qv c 3 Aj4))
   (Ak (Ko c (G3 (BJ Ady (c.room.mono (by decide)) Aed (Ab (qv c 3 Aj4) Ai))) (Al7 c.calm (Mf (Hi c 6 Aao) (Mf (Hi c 7 Axq) Acv))) (Bc (Gs (PW.pt (Bem (Ez (Ccc c.room.Bq1) (BJ Bvm (c.room.mono (by decide)) Bwl (Ab (qv c 6 Nh) Ai)) (BJ Bvm (c.room.mono (by decide)) Bwl (Ab (qv c 5 Bfe) Ai)) (Gg _)) (Av7 (Ij (BJ Abu (c.room.mono (by decide)) Afw (Ab (qv c 0 Fe) (Ab (J6 Ly (qv c 4 Ayp) (qv c 7 v_left)) Ai))))))) (Bc (Dq c 5 Bdo (qv c 6 Nh))) Ea)))
   (Bc (BR (qv c 5 Bfe)))))))
def Amy(K:Frag)(A:Adr)(Eb Di Cq Et:Sp):TS:=
   (Ey (Cy Di [] E0 (Ad (tOp Wi (Cy Et [] E0 (Ad (Al 1) (Ad (Al 3) Bq))) (GK (Ad (Al 2) Bq))) Bq)))
def Amx(K:Frag)(A:Adr)(Eb Di Cq Et:Sp):TS:=
   (CW (Gn (Cy Eb [] E0 (Ad (Al 0) (Ad (Al 1) (Ad (Al 2) Bq)))) (Ce 3))
   (Amy K A Eb Di Cq Et))
def Ahp(K:Frag)(A:Adr)(Eb Di Cq Et:Sp):TS:=
   (CW (Jh (Yx (tB (Cy Cq [] E0 (Ad (Al 0) (Ad (Al 1) (Ad (Al 2) Bq))))))
   (Ey (Al 1))
   Gx)
   (Amx K A Eb Di Cq Et))
theorem Bgy{X:Cx}{A:Adr}{Eb Di Cq Et:Sp}(T:Txt X.K X.mg A)(c:Ctx X Aud (Ao Zt) 4)(ZS:DX X 4 "gone_for" V6 Eb)(Nz:DX X 4 "strongest_first" Ln Di)(Tw:DX X 4 "is_taken" TF Cq)(V4:DX X 1 "without" V7 Et):PSs X (Ca Zt) (Ahp X.K A Eb Di Cq Et):=by
 have⟨Fe,Kd⟩:=knl c "bounds"
 have⟨Lz,Yk⟩:=knl c "held"
 have⟨Dj,Gy⟩:=knl c "thing"
 have⟨Abj,Ata⟩:=knl c "gone"
 have Aam:=kng c "gone_for"
 have NZ:=kng c "strongest_first"
 have TQ:=kng c "is_taken"
 have Wc:=kng c "without"
 exact(Ak (Gs (Mt (Ij (BJ Tw (c.room.mono (by decide)) TQ (Ab (qv c 0 Fe) (Ab (qv c 1 Lz) (Ab (qv c 2 Dj) Ai)))))) (Bc (BR (qv c 1 Lz))) Ea)
   (Ak (Dq c 3 Ata (BJ ZS (c.room.mono (by decide)) Aam (Ab (qv c 0 Fe) (Ab (qv c 1 Lz) (Ab (qv c 2 Dj) Ai)))))
   (Bc (BR (BJ Nz (c.room.mono (by decide)) NZ (Ab (J6 Ly (BJ V4 (c.room.mono (by decide)) Wc (Ab (qv c 1 Lz) (Ab (qv c 3 Abj) Ai))) (Dl (Ab (qv c 2 Dj) Ai))) Ai))))))
def Af2(K:Frag)(A:Adr)(Fz:Sp):TS:=
   (Ey (Al 2))
def Af1(K:Frag)(A:Adr)(Fz:Sp):TS:=
   (CW (SN (Jy K (Al 1)) (Ce 3)
   (Gn (Cy Fz [] E0 (Ad (Al 0) (Ad (Al 2) (Ad (Al 3) Bq)))) (Ce 2)))
   (Af2 K A Fz))
def Aa5(K:Frag)(A:Adr)(Fz:Sp):TS:=
   (CW (Gn (GK Bq) (Ce 2))
   (Af1 K A Fz))
theorem Bbj{X:Cx}{A:Adr}{Fz:Sp}(T:Txt X.K X.mg A)(c:Ctx X Akq (Ao Vt) 5)(Agk:DX X 5 "held_after" Uv Fz):PSs X (Ca Vt) (Aa5 X.K A Fz):=by
 have⟨Fe,Kd⟩:=knl c "bounds"
 have⟨Dz,HS⟩:=knl c "things"
 have⟨Lz,Yk⟩:=knl c "held"
 have⟨Dj,Gy⟩:=knl c "thing"
 have Ag4:=kng c "held_after"
 exact(Ak (Dq c 2 Yk (Dl Ai))
   (Ak (Ko c (G3 (qv c 1 Dz)) (Hi c 3 Gy) (Bc (Dq c 2 Yk (BJ Agk (c.room.mono (by decide)) Ag4 (Ab (qv c 0 Fe) (Ab (qv c 2 Lz) (Ab (qv c 3 Dj) Ai)))))))
   (Bc (BR (qv c 2 Lz)))))
def Amo(K:Frag)(A:Adr)(Et:Sp):TS:=
   (Ey (Al 1))
def Amn(K:Frag)(A:Adr)(Et:Sp):TS:=
   (CW (SN (Cay (Ad (tCB (QG K) (Ad (Al 0) Bq)) Bq)) (Ce 2)
   (CW (Gn (GK Bq) (Ce 3))
   (CW (SN (Jy K (Al 1)) (Ce 4)
   (Om (tBM K "list" (Aa3 K) (Al 3) (Ad (tLc (Jy K (Cy Et [] E0 (Ad (Al 0) (Ad (Al 4) Bq)))) (Ce 5) Apd (tOp Wi (Al 4) (GK (Ad (Al 5) Bq))) [5]) Bq))))
   (Gn (Al 3) (Ce 1)))))
   (Amo K A Et))
def Ahk(K:Frag)(A:Adr)(Et:Sp):TS:=
   (CW (Gn (GK (Ad (GK Bq) Bq)) (Ce 1))
   (Amn K A Et))
theorem Bgv{X:Cx}{A:Adr}{Et:Sp}(T:Txt X.K X.mg A)(c:Ctx X Aua (Ao Zo) 1)(V4:DX X 1 "without" V7 Et):PSs X (Ca Zo) (Ahk X.K A Et):=by
 have⟨Dz,HS⟩:=knl c "things"
 have⟨Bo6,Bni⟩:=knl c "orders"
 have⟨Ceb,Bw7⟩:=knl c "length"
 have⟨Bo5,Bw8⟩:=knl c "longer"
 have⟨Aou,Avw⟩:=knc c "order"
 have Ag5:=kng c "range"
 have Jm:=kng c "len"
 have Wc:=kng c "without"
 exact(Ak (Dq c 1 Bni (Dl (Ab (Dl Ai) Ai)))
   (Ak (Ko c (Buu Ag5 T.Au6 (Ab (G5 Fl Jm T.O9 Ej (Ab (qv c 0 Dz) Ai)) Ai)) (Hi c 2 Bw7) (Ak (Dq c 3 Bw8 (Dl Ai))
   (Ak (Ko c (G3 (qv c 1 Bo6)) (Hi c 4 Avw) (Bc (JQ (Vf Dk JV JW Wf (qv c 3 Bo5) (Ab (Ben c (own:=[("thing",5)]) (G3 (BJ V4 (c.room.mono (by decide)) Wc (Ab (qv c 0 Dz) (Ab (qv c 4 Aou) Ai)))) (by decide+kernel) (λs H C cl fp=>(Mr c 5 (by decide+kernel))) (λs H C cl fp=>WQ) (λs H C cl fp=>(J6 Ly (Wa c 4 (by decide+kernel)) (Dl (Ab (Kf c 5 (by decide+kernel)) Ai))))) Ai)))))
   (Bc (Dq c 1 Bni (qv c 3 Bo5))))))
   (Bc (BR (qv c 1 Bo6)))))
def Adb(K:Frag)(A:Adr)(Di Em:Sp):TS:=
   (Ey (Al 2))
def Ada(K:Frag)(A:Adr)(Di Em:Sp):TS:=
   (CW (SN (Jy K (Cy Di [] E0 (Ad (Al 1) Bq))) (Ce 3)
   (Jh (tB (Cy Em [] E0 (Ad (Al 0) (Ad (tOp Wi (Al 2) (GK (Ad (Al 3) Bq))) Bq))))
   (Om (tBM K "list" Qq (Al 2) (Ad (Al 3) Bq)))
   Gx))
   (Adb K A Di Em))
def Yu(K:Frag)(A:Adr)(Di Em:Sp):TS:=
   (CW (Gn (GK Bq) (Ce 2))
   (Ada K A Di Em))
theorem Aym{X:Cx}{A:Adr}{Di Em:Sp}(T:Txt X.K X.mg A)(c:Ctx X Ain (Ao Tt) 4)(Nz:DX X 4 "strongest_first" Ln Di)(Abu:DX X 3 "fit" Aio Em):PSs X (Ca Tt) (Yu X.K A Di Em):=by
 have⟨Fe,Kd⟩:=knl c "bounds"
 have⟨Dz,HS⟩:=knl c "things"
 have⟨Ayo,Bpz⟩:=knl c "kept"
 have⟨Dj,Gy⟩:=knl c "thing"
 have NZ:=kng c "strongest_first"
 have Afw:=kng c "fit"
 exact(Ak (Dq c 2 Bpz (Dl Ai))
   (Ak (Ko c (G3 (BJ Nz (c.room.mono (by decide)) NZ (Ab (qv c 1 Dz) Ai))) (Hi c 3 Gy) (Bc (Gs (Ij (BJ Abu (c.room.mono (by decide)) Afw (Ab (qv c 0 Fe) (Ab (J6 Ly (qv c 2 Ayo) (Dl (Ab (qv c 3 Dj) Ai))) Ai)))) (Bc (JQ (Vf Dk Eu Ew MP (qv c 2 Ayo) (Ab (qv c 3 Dj) Ai)))) Ea)))
   (Bc (BR (qv c 2 Ayo)))))
def Yq(K:Frag)(A:Adr):TS:=
   (Ey (Gm K (Al 0) "moment"))
theorem Ayj{X:Cx}{A:Adr}(T:Txt X.K X.mg A)(c:Ctx X Aik (Ao Tn) 0):PSs X (Ca Tn) (Yq X.K A):=by
 have⟨VF,Acs⟩:=knl c "comer"
 exact(Bc (BR (CZ (qv c 0 VF) rfl)))
def XM(K:Frag)(A:Adr)(Fz Et GQ:Sp):TS:=
   (Ey (tOp Wi (Al 3) (Al 2)))
def XJ(K:Frag)(A:Adr)(Fz Et GQ:Sp):TS:=
   (CW (SN (Jy K (Awp K GQ (Ad (Al 1) Bq))) (Ce 4)
   (CW (Gn (tLc (Jy K (Al 2)) (Ce 6) (Hj (tOp (rI0 λi j=>.bl (decide (i<=j))) (Gm K (Al 6) "end") (Gm K (Al 4) "moment"))) (Al 6) [6]) (Ce 5))
   (CW (Om (tBM K "list" (Aa3 K) (Al 3) (Ad (Al 5) Bq)))
   (Gn (Cy Fz [] E0 (Ad (Al 0) (Ad (Cy Et [] E0 (Ad (Al 2) (Ad (Al 5) Bq))) (Ad (Al 4) Bq)))) (Ce 2)))))
   (XM K A Fz Et GQ))
def XH(K:Frag)(A:Adr)(Fz Et GQ:Sp):TS:=
   (CW (Gn (GK Bq) (Ce 3))
   (XJ K A Fz Et GQ))
def T6(K:Frag)(A:Adr)(Fz Et GQ:Sp):TS:=
   (CW (Gn (GK Bq) (Ce 2))
   (XH K A Fz Et GQ))
theorem Apg{X:Cx}{A:Adr}{Fz Et GQ:Sp}(T:Txt X.K X.mg A)(c:Ctx X Z4 (Ao Qv) 5)(Agk:DX X 5 "held_after" Uv Fz)(V4:DX X 1 "without" V7 Et)(Baj:DX X 1 "coming_moment" S7 GQ):PSs X (Ca Qv) (T6 X.K A Fz Et GQ):=by
 have⟨Fe,Kd⟩:=knl c "bounds"
 have⟨N8,Aap⟩:=knl c "comers"
 have⟨Lz,Yk⟩:=knl c "held"
 have⟨Awv,Br3⟩:=knl c "ended"
 have⟨VF,Acs⟩:=knc c "comer"
 have⟨Byo,Ce8⟩:=knl c "over"
 have Alo:=kng c "sorted"
 have Ba7:=kng c "coming_moment"
 have Ag4:=kng c "held_after"
 have Wc:=kng c "without"
 exact(Ak (Dq c 2 Yk (Dl Ai))
   (Ak (Dq c 3 Br3 (Dl Ai))
   (Ak (Ko c (G3 (Bid Baj (c.room.mono (by decide)) Alo T.Au7 Ba7 (Ab (qv c 1 N8) Ai))) (Hi c 4 Acs) (Ak (Af0 c (i:=5) (by decide+kernel) (own:=[("other",6)]) (G3 (qv c 2 Lz)) (by decide+kernel) (λs H C cl fp=>(Mr c 6 (by decide+kernel))) (λs H C cl fp=>(Ahg (Ez Beg (CZ (Kf c 6 (by decide+kernel)) rfl) (CZ (Wa c 4 (by decide+kernel)) rfl) (Gg _)))) (λs H C cl fp=>(Kf c 6 (by decide+kernel))) (by decide+kernel))
   (Ak (JQ (Vf Dk JV JW Wf (qv c 3 Awv) (Ab (qv c 5 Byo) Ai)))
   (Bc (Dq c 2 Yk (BJ Agk (c.room.mono (by decide)) Ag4 (Ab (qv c 0 Fe) (Ab (BJ V4 (c.room.mono (by decide)) Wc (Ab (qv c 2 Lz) (Ab (qv c 5 Byo) Ai))) (Ab (qv c 4 VF) Ai)))))))))
   (Bc (BR (J6 Ly (qv c 3 Awv) (qv c 2 Lz)))))))
def YM(K:Frag)(A:Adr)(Em:Sp):TS:=
   (Ey (tC (.bl true)))
def Vn(K:Frag)(A:Adr)(Em:Sp):TS:=
   (CW (SN (Jy K (Al 1)) (Ce 2)
   (CW (Gn (tLc (Jy K (Al 1)) (Ce 4) (Bu3 (Hj (tOp (rI0 λi j=>.bl (decide (i<=j))) (Gm K (Al 4) "moment") (Gm K (Al 2) "moment"))) (Hj (tOp (rI0 λi j=>.bl (decide (j<i))) (Gm K (Al 4) "end") (Gm K (Al 2) "moment")))) (Al 4) [4]) (Ce 3))
   (Jh (Yx (tB (Cy Em [] E0 (Ad (Al 0) (Ad (Al 3) Bq)))))
   (Ey (tC (.bl false)))
   Gx)))
   (YM K A Em))
theorem Atr{X:Cx}{A:Adr}{Em:Sp}(T:Txt X.K X.mg A)(c:Ctx X Abx (Ao Ra) 3)(Abu:DX X 3 "fit" Aio Em):PSs X (Ca Ra) (Vn X.K A Em):=by
 have⟨Fe,Kd⟩:=knl c "bounds"
 have⟨N8,Aap⟩:=knl c "comers"
 have⟨VF,Acs⟩:=knc c "comer"
 have⟨Bb3,Br7⟩:=knl c "there"
 have Afw:=kng c "fit"
 exact(Ak (Ko c (G3 (qv c 1 N8)) (Hi c 2 Acs) (Ak (Af0 c (i:=3) (by decide+kernel) (own:=[("other",4)]) (G3 (qv c 1 N8)) (by decide+kernel) (λs H C cl fp=>(Mr c 4 (by decide+kernel))) (λs H C cl fp=>(Ahg (PW.pt (Bem (Ez Beg (CZ (Kf c 4 (by decide+kernel)) rfl) (CZ (Wa c 2 (by decide+kernel)) rfl) (Gg _)) (Av7 (Ez Al3 (CZ (Kf c 4 (by decide+kernel)) rfl) (CZ (Wa c 2 (by decide+kernel)) rfl) (Gg _))))))) (λs H C cl fp=>(Kf c 4 (by decide+kernel))) (by decide+kernel))
   (Bc (Gs (Mt (Ij (BJ Abu (c.room.mono (by decide)) Afw (Ab (qv c 0 Fe) (Ab (qv c 3 Bb3) Ai))))) (Bc (BR Al5)) Ea))))
   (Bc (BR Al5)))
def Ae0(K:Frag)(A:Adr):TS:=
   (Ey (tC (.bl true)))
def Arv(K:Frag)(A:Adr):TS:=
   (CW (SN (λσ H R=>Brs K (Ad (Al 1) Bq) σ H R\/Bwx K (Ad (Al 1) Bq) σ H R) (Bdd K 2 (Sy (Ce 2) (Sy (Ce 3) Bdc)))
   (Jh (tOr (Hj (tOp (rI0 λi j=>.bl (decide (i<j))) (tOp (Qs K) (Al 0) (Al 2)) (tOp (Bgp K) (Al 3) (tC (.int 0))))) (Hj (tOp (rI0 λi j=>.bl (decide (j<i))) (tOp (Qs K) (Al 0) (Al 2)) (tOp (Bgp K) (Al 3) (tC (.int 1))))))
   (Ey (tC (.bl false)))
   Gx))
   (Ae0 K A))
def Amz(K:Frag)(A:Adr):TS:=
   (CW (Jh (Hj (tOp rNe (tCB (QG K) (Ad (Al 0) Bq)) (tCB (QG K) (Ad (Al 1) Bq))))
   (Ey (tC (.bl false)))
   Gx)
   (Arv K A))
theorem Bld{X:Cx}{A:Adr}(T:Txt X.K X.mg A)(c:Ctx X Ay4 (Ao Adj) 0):PSs X (Ca Adj) (Amz X.K A):=by
 have⟨BK,FW⟩:=knl c "numbers"
 have⟨An1,Bw9⟩:=knl c "ranges"
 have⟨Btg,Bzm⟩:=knl c "place"
 have⟨v_pair,Bp1⟩:=knl c "pair"
 have Xu:=kng c "enumerate"
 have Jm:=kng c "len"
 exact(Ak (Gs (Ez Ai6 (G5 Fl Jm T.O9 Ej (Ab (qv c 0 BK) Ai)) (G5 Fl Jm T.O9 Ej (Ab (qv c 1 An1) Ai)) (Gg _)) (Bc (BR Al5)) Ea)
   (Ak (Ko c (Cdx (Bkn Xu T.Xq (Ab (qv c 1 An1) Ai)) (Bxs Xu T.Xq (Ab (qv c 1 An1) Ai))) (Al7 c.calm (Mf (Hi c 2 Bzm) (Mf (Hi c 3 Bp1) Acv))) (Bc (Gs (PW.pt (Bn6 (Ez Bnx (Km HF (qv c 0 BK) (qv c 2 Btg) (λ_ _=>rfl)) (Km As9 (qv c 3 v_pair) DW (λ_ _=>rfl)) (Gg _)) (Bkt (Ez Al3 (Km HF (qv c 0 BK) (qv c 2 Btg) (λ_ _=>rfl)) (Km As9 (qv c 3 v_pair) DW (λ_ _=>rfl)) (Gg _))))) (Bc (BR Al5)) Ea)))
   (Bc (BR Al5))))
def Aj3(K:Frag)(A:Adr):TS:=
   (Ey (Al 1))
def Aj2(K:Frag)(A:Adr):TS:=
   (CW (Bk4 (Hj (tOp (rI0 λi j=>.bl (decide (i<j))) (Al 2) (tCB (QG K) (Ad (Al 0) Bq))))
   (CW (Gn (tOp (Qs K) (Al 0) (Al 2)) (Ce 3))
   (CW (Jh (Hj (tOp (rIn K false) (Al 3) (tC (.ref A.Ads))))
   (CW (Gn (tOp (rI0 λi j=>.int (i+j)) (Al 2) (tC (.int 2))) (Ce 4))
   (Gn (tOp (Qs K) (Al 0) (tOp (rI0 λi j=>.int (i+j)) (Al 2) (tC (.int 1)))) (Ce 5)))
   (CW (Gn (tOp (rI0 λi j=>.int (i+j)) (Al 2) (tC (.int 1))) (Ce 4))
   (Gn (tOp (Bgp K) (tC (.ref A.VD)) (Al 3)) (Ce 5))))
   (CW (Gn (tOp (rI0 λi j=>.int (i+j)) (Al 4) (Al 5)) (Ce 2))
   (Om (tBM K "list" Qq (Al 1) (Ad (Apc (Ad (Al 3) (Ad (tSl (Buy K) (Al 0) (Awo (Al 4)) (Awo (Al 2))) Bq))) Bq)))))))
   (Aj3 K A))
def Aj1(K:Frag)(A:Adr):TS:=
   (CW (Gn (tC (.int 0)) (Ce 2))
   (Aj2 K A))
def Ae6(K:Frag)(A:Adr):TS:=
   (CW (Gn (GK Bq) (Ce 1))
   (Aj1 K A))
theorem Bfb{X:Cx}{A:Adr}(T:Txt X.K X.mg A)(c:Ctx X Ap1 (Ao Xc) 0):PSs X (Ca Xc) (Ae6 X.K A):=by
 have⟨Aot,Bzi⟩:=knl c "calls"
 have⟨Bte,Bzj⟩:=knl c "found"
 have⟨Bvg,Cdo⟩:=knl c "at"
 have⟨Lg,Xx⟩:=knl c "number"
 have⟨Btd,Br4⟩:=knl c "first"
 have⟨v_count,Br2⟩:=knl c "count"
 have Jm:=kng c "len"
 have Acp:=kng c "ROW_CALLS"
 have U5:=kng c "PLAIN_COUNTS"
 exact(Ak (Dq c 1 Bzj (Dl Ai))
   (Ak (Dq c 2 Cdo DW)
   (Ak (Bn7 c (Ez Bnx (qv c 2 Bvg) (G5 Fl Jm T.O9 Ej (Ab (qv c 0 Aot) Ai)) (Gg _)) (Ak (Dq c 3 Xx (Km HF (qv c 0 Aot) (qv c 2 Bvg) (λ_ _=>rfl)))
   (Ak (Gs (Ez Buo (qv c 3 Lg) (Nf Acp T.Acp) (by with_unfolding_all rfl)) (Ak (Dq c 4 Br4 (J6 Ax7 (qv c 2 Bvg) DW))
   (Bc (Dq c 5 Br2 (Km HF (qv c 0 Aot) (J6 Ax7 (qv c 2 Bvg) DW) (λ_ _=>rfl))))) (Ak (Dq c 4 Br4 (J6 Ax7 (qv c 2 Bvg) DW))
   (Bc (Dq c 5 Br2 (Km As9 (Nf U5 T.U5) (qv c 3 Lg) (λ_ _=>rfl))))))
   (Ak (Dq c 2 Cdo (J6 Ax7 (qv c 4 Btd) (qv c 5 v_count)))
   (Bc (JQ (Vf Dk Eu Ew MP (qv c 1 Bte) (Ab (Vg (Ab (qv c 3 Lg) (Ab (Av5 Bb2 (qv c 0 Aot) (Aom (qv c 4 Btd)) (Aom (qv c 2 Bvg))) Ai))) Ai))))))))
   (Bc (BR (qv c 1 Bte))))))
def Bxz(K:Frag)(A:Adr):TS:=
   (Ey (tLc (Bwy (Ad (tC (.int 0)) (Ad (tCB (QG K) (Ad (Al 0) Bq)) (Ad (Al 1) Bq)))) (Ce 2) Apd (tSl (Buy K) (Al 0) (Awo (Al 2)) (Awo (tOp (rI0 λi j=>.int (i+j)) (Al 2) (Al 1)))) [2]))
theorem Ccp{X:Cx}{A:Adr}(T:Txt X.K X.mg A)(c:Ctx X Cap (Ao Bs2) 0):PSs X (Ca Bs2) (Bxz X.K A):=by
 have⟨BK,FW⟩:=knc c "numbers"
 have⟨Cal,Ceh⟩:=knc c "width"
 have Ag5:=kng c "range"
 have Jm:=kng c "len"
 exact(Bc (BR (Ben c (own:=[("at",2)]) (Bh8 Ag5 T.Au6 (Ab DW (Ab (G5 Fl Jm T.O9 Ej (Ab (qv c 0 BK) Ai)) (Ab (qv c 1 Cal) Ai)))) (by decide+kernel) (λs H C cl fp=>(Mr c 2 (by decide+kernel))) (λs H C cl fp=>WQ) (λs H C cl fp=>(Av5 Bb2 (Wa c 0 (by decide+kernel)) (Aom (Kf c 2 (by decide+kernel))) (Aom (J6 Ax7 (Kf c 2 (by decide+kernel)) (Wa c 1 (by decide+kernel)))))))))
def Vp(K:Frag)(A:Adr):TS:=
   (Ey (tOp rEq (tCB Bif (Ad (Bye K (Ad (tLc (Jy K (Al 0)) (Ce 1) Apd (Gm K (Al 1) "number") [1]) Bq)) Bq)) (tCB (QG K) (Ad (Al 0) Bq))))
theorem Atu{X:Cx}{A:Adr}(T:Txt X.K X.mg A)(c:Ctx X Abz (Ao Rc) 0):PSs X (Ca Rc) (Vp X.K A):=by
 have⟨Dz,HS⟩:=knl c "things"
 have Jm:=kng c "len"
 have Cc3:=kng c "set"
 exact(Bc (BR (Av4 Bnw (G5 Bmm Jm T.O9 Ej (Ab (Cck c.calm Cc3 T.Cas (Ab (Ben c (own:=[("thing",1)]) (G3 (qv c 0 Dz)) (by decide+kernel) (λs H C cl fp=>(Mr c 1 (by decide+kernel))) (λs H C cl fp=>WQ) (λs H C cl fp=>(CZ (Kf c 1 (by decide+kernel)) rfl))) Ai)) Ai)) (G5 Fl Jm T.O9 Ej (Ab (qv c 0 Dz) Ai)) (Gg _))))
def Yw(K:Frag)(A:Adr)(KH Cv Ag Bm:Sp):TS:=
   (Ey (tIf (tB (Cy Cv [] E0 (Ad (Al 4) Bq))) (Al 4) (tC .non)))
def Aj0(K:Frag)(A:Adr)(KH Cv Ag Bm:Sp):TS:=
   (CW (Gn (tLc (Jy K (Al 2)) (Ce 3) Apd (Uj A.GJ Bm [] E0 (Ad (Al 3) Bq)) [3]) (Ce 4))
   (Yw K A KH Cv Ag Bm))
def Ajz(K:Frag)(A:Adr)(KH Cv Ag Bm:Sp):TS:=
   (CW (SN (Jy K (Al 2)) (Ce 3)
   (Jh (Yx (tB (Cy Ag [] E0 (Ad (Al 3) (Ad (tC (.ref A.Lf)) Bq)))))
   (Ey (tC .non))
   Gx))
   (Aj0 K A KH Cv Ag Bm))
def Ajy(K:Frag)(A:Adr)(KH Cv Ag Bm:Sp):TS:=
   (CW (Jh (Hj (tOp (rI0 λi j=>.bl (decide (j<i))) (tCB (QG K) (Ad (Al 2) Bq)) (Al 1)))
   (Ey (tC .non))
   Gx)
   (Ajz K A KH Cv Ag Bm))
def Ae5(K:Frag)(A:Adr)(KH Cv Ag Bm:Sp):TS:=
   (CW (Gn (Cy KH [] E0 (Ad (Al 0) (Ad (tC (.int 6)) Bq))) (Ce 2))
   (Ajy K A KH Cv Ag Bm))
theorem Bfa{X:Cx}{A:Adr}{KH Cv Ag Bm:Sp}(T:Txt X.K X.mg A)(c:Ctx X Ap0 (Ao Xb) 2)(Bvn:DX X 1 "cut" Bl1 KH)(Um:DX X 1 "no_number_twice" NQ Cv)(Fx:DX X 1 "in_ranges" Iw Ag)(Ot:MX X 1 A.GJ "Thing" Jt Bm):PSs X (Ca Xb) (Ae5 X.K A KH Cv Ag Bm):=by
 have⟨PB,Aqz⟩:=knl c "row"
 have⟨An0,Bp0⟩:=knl c "most"
 have⟨Age,Bdp⟩:=knl c "pieces"
 have⟨Abl,Bdq⟩:=knl c "six"
 have⟨Dz,HS⟩:=knl c "things"
 have Bwm:=kng c "cut"
 have Bga:=kng c "THING_WIDTH"
 have Jm:=kng c "len"
 have U6:=kng c "no_number_twice"
 have Fy:=kng c "in_ranges"
 have J4:=kng c "THING_RANGES"
 exact(Ak (Dq c 2 Bdp (BJ Bvn (c.room.mono (by decide)) Bwm (Ab (qv c 0 PB) (Ab (Fp Bga T.Aqb) Ai))))
   (Ak (Gs (Ez Al3 (G5 Fl Jm T.O9 Ej (Ab (qv c 2 Age) Ai)) (qv c 1 An0) (Gg _)) (Bc (BR Qp)) Ea)
   (Ak (Ko c (G3 (qv c 2 Age)) (Hi c 3 Bdq) (Bc (Gs (Mt (Ij (BJ Fx (c.room.mono (by decide)) Fy (Ab (qv c 3 Abl) (Ab (Nf J4 T.J4) Ai))))) (Bc (BR Qp)) Ea)))
   (Ak (Af0 c (i:=4) (by decide+kernel) (own:=[("six",3)]) (G3 (qv c 2 Age)) (by decide+kernel) (λs H C cl fp=>(Mr c 3 (by decide+kernel))) (λs H C cl fp=>WQ) (λs H C cl fp=>(Vj Ot (c.room.mono (by decide)) (Bv3 (by decide+kernel)) (Ab (Kf c 3 (by decide+kernel)) Ai))) (by decide+kernel))
   (Bc (BR (Al6 (Ij (BJ Um (c.room.mono (by decide)) U6 (Ab (qv c 4 Dz) Ai))) (qv c 4 Dz) Qp)))))))
def Am9(K:Frag)(A:Adr)(Ag Px:Sp):TS:=
   (Ey (tIf (Hj (tOp (rI0 λi j=>.bl (decide (i<j))) (Gm K (Al 2) "moment") (Gm K (Al 2) "end"))) (Al 2) (tC .non)))
def Am8(K:Frag)(A:Adr)(Ag Px:Sp):TS:=
   (CW (Gn (Uj A.JN Px [] E0 (Ad (tOp (Qs K) (Al 0) (tC (.int 0))) (Ad (Al 1) Bq))) (Ce 2))
   (Am9 K A Ag Px))
def Am7(K:Frag)(A:Adr)(Ag Px:Sp):TS:=
   (CW (Jh (tOr (Yx (tB (Cy Ag [] E0 (Ad (tSl (Buy K) (Al 0) Bk3 (Awo (tC (.int 1)))) (Ad (tC (.ref A.VB)) Bq))))) (Yx (tB (Cy Ag [] E0 (Ad (Al 1) (Ad (tC (.ref A.Lf)) Bq))))))
   (Ey (tC .non))
   Gx)
   (Am8 K A Ag Px))
def Ahv(K:Frag)(A:Adr)(Ag Px:Sp):TS:=
   (CW (Gn (tSl (Buy K) (Al 0) (Awo (tC (.int 1))) Bk3) (Ce 1))
   (Am7 K A Ag Px))
theorem Bg4{X:Cx}{A:Adr}{Ag Px:Sp}(T:Txt X.K X.mg A)(c:Ctx X Auk (Ao Zy) 3)(Fx:DX X 1 "in_ranges" Iw Ag)(Byt:MX X 2 A.JN "Comer" Y6 Px):PSs X (Ca Zy) (Ahv X.K A Ag Px):=by
 have⟨Awx,Br5⟩:=knl c "seven"
 have⟨Abl,Bdq⟩:=knl c "six"
 have⟨VF,Acs⟩:=knl c "comer"
 have By6:=kng c "Comer"
 have Fy:=kng c "in_ranges"
 have U4:=kng c "MOMENT_RANGE"
 have J4:=kng c "THING_RANGES"
 exact(Ak (Dq c 1 Bdq (Av5 Bb2 (qv c 0 Awx) (Aom DW) Bsu))
   (Ak (Gs (PW.pt (Bn6 (Mt (Ij (BJ Fx (c.room.mono (by decide)) Fy (Ab (Av5 Bb2 (qv c 0 Awx) Bsu (Aom DW)) (Ab (Nf U4 T.U4) Ai))))) (Bkt (Mt (Ij (BJ Fx (c.room.mono (by decide)) Fy (Ab (qv c 1 Abl) (Ab (Nf J4 T.J4) Ai)))))))) (Bc (BR Qp)) Ea)
   (Ak (Dq c 2 Acs (Vj Byt (c.room.mono (by decide)) By6 (Ab (Km HF (qv c 0 Awx) DW (λ_ _=>rfl)) (Ab (qv c 1 Abl) Ai))))
   (Bc (BR (Al6 (Ez Bnx (CZ (qv c 2 VF) rfl) (CZ (qv c 2 VF) rfl) (Gg _)) (qv c 2 VF) Qp))))))
def Ajx(K:Frag)(A:Adr)(KH HJ Cv:Sp):TS:=
   (Ey (tIf (tB (Cy Cv [] E0 (Ad (Al 3) Bq))) (Al 3) (tC .non)))
def Ajw(K:Frag)(A:Adr)(KH HJ Cv:Sp):TS:=
   (CW (SN (Jy K (Al 2)) (Ce 4)
   (CW (Gn (Cy HJ [] E0 (Ad (Al 4) Bq)) (Ce 5))
   (CW (Jh (Hj (tOp (λx y H Q=>y=.non/\Q (.bl (decide (x=.non))) H) (Al 5) (tC .non)))
   (Ey (tC .non))
   Gx)
   (Om (tBM K "list" Qq (Al 3) (Ad (Al 5) Bq))))))
   (Ajx K A KH HJ Cv))
def Ajv(K:Frag)(A:Adr)(KH HJ Cv:Sp):TS:=
   (CW (Gn (GK Bq) (Ce 3))
   (Ajw K A KH HJ Cv))
def Aju(K:Frag)(A:Adr)(KH HJ Cv:Sp):TS:=
   (CW (Jh (Hj (tOp (rI0 λi j=>.bl (decide (j<i))) (tCB (QG K) (Ad (Al 2) Bq)) (Al 1)))
   (Ey (tC .non))
   Gx)
   (Ajv K A KH HJ Cv))
def Ae4(K:Frag)(A:Adr)(KH HJ Cv:Sp):TS:=
   (CW (Gn (Cy KH [] E0 (Ad (Al 0) (Ad (tC (.int 7)) Bq))) (Ce 2))
   (Aju K A KH HJ Cv))
theorem Be9{X:Cx}{A:Adr}{KH HJ Cv:Sp}(T:Txt X.K X.mg A)(c:Ctx X Apz (Ao Xa) 4)(Bvn:DX X 1 "cut" Bl1 KH)(Biu:DX X 4 "read_comer" Za HJ)(Um:DX X 1 "no_number_twice" NQ Cv):PSs X (Ca Xa) (Ae4 X.K A KH HJ Cv):=by
 have⟨PB,Aqz⟩:=knl c "row"
 have⟨An0,Bp0⟩:=knl c "most"
 have⟨Age,Bdp⟩:=knl c "pieces"
 have⟨N8,Aap⟩:=knl c "comers"
 have⟨Awx,Br5⟩:=knl c "seven"
 have⟨VF,Acs⟩:=knl c "comer"
 have Bwm:=kng c "cut"
 have Bf6:=kng c "COMER_WIDTH"
 have Jm:=kng c "len"
 have Bju:=kng c "read_comer"
 have U6:=kng c "no_number_twice"
 exact(Ak (Dq c 2 Bdp (BJ Bvn (c.room.mono (by decide)) Bwm (Ab (qv c 0 PB) (Ab (Fp Bf6 T.Ap7) Ai))))
   (Ak (Gs (Ez Al3 (G5 Fl Jm T.O9 Ej (Ab (qv c 2 Age) Ai)) (qv c 1 An0) (Gg _)) (Bc (BR Qp)) Ea)
   (Ak (Dq c 3 Aap (Dl Ai))
   (Ak (Ko c (G3 (qv c 2 Age)) (Hi c 4 Br5) (Ak (Dq c 5 Acs (BJ Biu (c.room.mono (by decide)) Bju (Ab (qv c 4 Awx) Ai)))
   (Ak (Gs (Ez Ahe (qv c 5 VF) Qp (Gg _)) (Bc (BR Qp)) Ea)
   (Bc (JQ (Vf Dk Eu Ew MP (qv c 3 N8) (Ab (qv c 5 VF) Ai)))))))
   (Bc (BR (Al6 (Ij (BJ Um (c.room.mono (by decide)) U6 (Ab (qv c 3 N8) Ai))) (qv c 3 N8) Qp)))))))
def XF(K:Frag)(A:Adr):TS:=
   (Ey (Al 0))
def T5(K:Frag)(A:Adr):TS:=
   (CW (Bk4 (Hj (tOp (rI0 λi j=>.bl (decide (j<i))) (Al 1) (tC (.int 0))))
   (CW (Gn (tOp (rI (λ_ j=>0<j) λi j=>.int (i%j)) (Al 0) (Al 1)) (Ce 2))
   (CW (Gn (Al 1) (Ce 0))
   (Gn (Al 2) (Ce 1)))))
   (XF K A))
theorem Apf{X:Cx}{A:Adr}(T:Txt X.K X.mg A)(c:Ctx X Z2 (Ao Qu) 0):PSs X (Ca Qu) (T5 X.K A):=by
 have⟨Btf,Ca1⟩:=knl c "one"
 have⟨ZL,Bbx⟩:=knl c "other"
 have⟨v_rest,Cbw⟩:=knl c "rest"
 exact(Ak (Bn7 c (Ez Al3 (qv c 1 ZL) DW (Gg _)) (Ak (Dq c 2 Cbw (J6 Cce (qv c 0 Btf) (qv c 1 ZL)))
   (Ak (Dq c 0 Ca1 (qv c 1 ZL))
   (Bc (Dq c 1 Bbx (qv c 2 v_rest))))))
   (Bc (BR (qv c 0 Btf))))
def Af3(K:Frag)(A:Adr)(IV:Sp):TS:=
   (Ey (Apc (Ad (tOp (rI Ca5 λi j=>.int (i/j)) (Al 0) (Al 2)) (Ad (tOp (rI Ca5 λi j=>.int (i/j)) (Al 1) (Al 2)) Bq))))
def Aa7(K:Frag)(A:Adr)(IV:Sp):TS:=
   (CW (Gn (Cy IV [] E0 (Ad (Al 0) (Ad (Al 1) Bq))) (Ce 2))
   (Af3 K A IV))
theorem Bbk{X:Cx}{A:Adr}{IV:Sp}(T:Txt X.K X.mg A)(c:Ctx X Akr (Ao Vv) 1)(Asi:DX X 1 "greatest_divisor" Qa IV):PSs X (Ca Vv) (Aa7 X.K A IV):=by
 have⟨Btb,Cef⟩:=knl c "above"
 have⟨Btc,Ceg⟩:=knl c "below"
 have⟨Bin,Bua⟩:=knl c "divisor"
 have As6:=kng c "greatest_divisor"
 exact(Ak (Dq c 2 Bua (BJ Asi (c.room.mono (by decide)) As6 (Ab (qv c 0 Btb) (Ab (qv c 1 Btc) Ai))))
   (Bc (BR (Vg (Ab (J6 Bsp (qv c 0 Btb) (qv c 2 Bin)) (Ab (J6 Bsp (qv c 1 Btc) (qv c 2 Bin)) Ai))))))
def Af6(K:Frag)(A:Adr):TS:=
   (Ey (Apc (Ad (tCB (Cd5 K) (Ad (Al 1) Bq)) (Ad (tC (.int 1)) Bq))))
def Af5(K:Frag)(A:Adr):TS:=
   (CW (SN (Jy K (tCB (Bs1 K) (Ad (Al 1) Bq))) (Ce 4)
   (CW (Jh (Hj (tOp (rI0 λi j=>.bl (decide (j<=i))) (tOp (rI Bvk λi j=>.int (i*j)) (Al 4) (Al 3)) (Al 2)))
   (Ey (Apc (Ad (Al 2) (Ad (Al 3) Bq))))
   Gx)
   (CW (Cag 2 (Al 4) (ipI λi j=>i-j))
   (Cag 3 (tC (.int 1)) (ipI λi j=>i-j)))))
   (Af6 K A))
def Af4(K:Frag)(A:Adr):TS:=
   (CW (Gn (tCB (QG K) (Ad (Al 1) Bq)) (Ce 3))
   (Af5 K A))
def Aa8(K:Frag)(A:Adr):TS:=
   (CW (Gn (Al 0) (Ce 2))
   (Af4 K A))
theorem Bbl{X:Cx}{A:Adr}(T:Txt X.K X.mg A)(c:Ctx X Aks (Ao Vw) 0):PSs X (Ca Vw) (Aa8 X.K A):=by
 have⟨Bls,Bzn⟩:=knl c "whole"
 have⟨Aos,Bzh⟩:=knl c "asked"
 have⟨v_left,Axq⟩:=knl c "left"
 have⟨Bip,Bh0⟩:=knl c "waiting"
 have⟨Bo4,Bw4⟩:=knl c "ask"
 have Jm:=kng c "len"
 have Alo:=kng c "sorted"
 have Bwn:=kng c "max"
 exact(Ak (Dq c 2 Axq (qv c 0 Bls))
   (Ak (Dq c 3 Bh0 (G5 Fl Jm T.O9 Ej (Ab (qv c 1 Aos) Ai)))
   (Ak (Ko c (G3 (G5 Btr Alo T.Au7 boot_sorted (Ab (qv c 1 Aos) Ai))) (Hi c 4 Bw4) (Ak (Gs (Ez Ca2 (J6 Bxq (qv c 4 Bo4) (qv c 3 Bip)) (qv c 2 v_left) (Gg _)) (Bc (BR (Vg (Ab (qv c 2 v_left) (Ab (qv c 3 Bip) Ai))))) Ea)
   (Ak (Bxw c 2 Axq (qv c 4 Bo4) Bw0)
   (Bc (Bxw c 3 Bh0 DW Bw0)))))
   (Bc (BR (Vg (Ab (G5 (Cbd c.calm) Bwn T.Bv1 boot_max (Ab (qv c 1 Aos) Ai)) (Ab DW Ai))))))))
def Ajl(K:Frag)(A:Adr)(Hw Hv:Sp):TS:=
   (Ey (Al 3))
def Ajk(K:Frag)(A:Adr)(Hw Hv:Sp):TS:=
   (CW (SN (Jy K (Al 1)) (Ce 4)
   (Jh (Hj (tOp (rI0 λi j=>.bl (decide (i<=j))) (tOp (rI Bvk λi j=>.int (i*j)) (Al 4) (tOp (Bgp K) (Al 2) (tC (.int 1)))) (tOp (Bgp K) (Al 2) (tC (.int 0)))))
   (Om (tBM K "list" Qq (Al 3) (Ad (Apc (Ad (Al 4) (Ad (tC (.int 1)) Bq))) Bq)))
   (Om (tBM K "list" Qq (Al 3) (Ad (Cy Hv [] E0 (Ad (tOp (Bgp K) (Al 2) (tC (.int 0))) (Ad (tOp (Bgp K) (Al 2) (tC (.int 1))) Bq))) Bq)))))
   (Ajl K A Hw Hv))
def Ajj(K:Frag)(A:Adr)(Hw Hv:Sp):TS:=
   (CW (Gn (GK Bq) (Ce 3))
   (Ajk K A Hw Hv))
def Aex(K:Frag)(A:Adr)(Hw Hv:Sp):TS:=
   (CW (Gn (Cy Hw [] E0 (Ad (Al 0) (Ad (Al 1) Bq))) (Ce 2))
   (Ajj K A Hw Hv))
theorem Be3{X:Cx}{A:Adr}{Hw Hv:Sp}(T:Txt X.K X.mg A)(c:Ctx X Apt (Ao W2) 2)(Bb9:DX X 1 "most_for_one" Uy Hw)(Bb8:DX X 2 "lowest_terms" Ux Hv):PSs X (Ca W2) (Aex X.K A Hw Hv):=by
 have⟨Bls,Bzn⟩:=knl c "whole"
 have⟨Aos,Bzh⟩:=knl c "asked"
 have⟨An0,Bp0⟩:=knl c "most"
 have⟨Bff,Bxa⟩:=knl c "shares"
 have⟨Bo4,Bw4⟩:=knl c "ask"
 have Bdg:=kng c "most_for_one"
 have Bdf:=kng c "lowest_terms"
 exact(Ak (Dq c 2 Bp0 (BJ Bb9 (c.room.mono (by decide)) Bdg (Ab (qv c 0 Bls) (Ab (qv c 1 Aos) Ai))))
   (Ak (Dq c 3 Bxa (Dl Ai))
   (Ak (Ko c (G3 (qv c 1 Aos)) (Hi c 4 Bw4) (Bc (Gs (Ez Beg (J6 Bxq (qv c 4 Bo4) (Km As9 (qv c 2 An0) DW (λ_ _=>rfl))) (Km As9 (qv c 2 An0) DW (λ_ _=>rfl)) (Gg _)) (Bc (JQ (Vf Dk Eu Ew MP (qv c 3 Bff) (Ab (Vg (Ab (qv c 4 Bo4) (Ab DW Ai))) Ai)))) (Bc (JQ (Vf Dk Eu Ew MP (qv c 3 Bff) (Ab (BJ Bb8 (c.room.mono (by decide)) Bdf (Ab (Km As9 (qv c 2 An0) DW (λ_ _=>rfl)) (Ab (Km As9 (qv c 2 An0) DW (λ_ _=>rfl)) Ai))) Ai)))))))
   (Bc (BR (qv c 3 Bff))))))
def Pq(K:Frag)(A:Adr)(Af Dg:Sp):TS:=
   (Ey (tOp Wi (GK (Ad (Cy Dg [] E0 (Ad (Al 0) Bq)) Bq)) (Cy Af [] E0 (Ad (Al 0) Bq))))
theorem Ae9{X:Cx}{A:Adr}{Af Dg:Sp}(T:Txt X.K X.mg A)(c:Ctx X Ub (Ao Lr) 1)(Fg:DX X 1 "tell_things" HD Af)(Od:DX X 1 "whole_worth" Og Dg):PSs X (Ca Lr) (Pq X.K A Af Dg):=by
 have⟨Dz,HS⟩:=knl c "things"
 have Fj:=kng c "tell_things"
 have Oj:=kng c "whole_worth"
 exact(Bc (BR (J6 Ly (Dl (Ab (BJ Od (c.room.mono (by decide)) Oj (Ab (qv c 0 Dz) Ai)) Ai)) (BJ Fg (c.room.mono (by decide)) Fj (Ab (qv c 0 Dz) Ai)))))
def Ar0(K:Frag)(A:Adr)(Bp Af BZ:Sp):TS:=
   (Ey (Cy Af [] E0 (Ad (Cy BZ [] E0 (Ad (Al 0) (Ad (Al 2) Bq))) Bq)))
def Ae1(K:Frag)(A:Adr)(Bp Af BZ:Sp):TS:=
   (CW (Jh (Hj (tOp (λx y H Q=>y=.non/\Q (.bl (decide (x=.non))) H) (Al 2) (tC .non)))
   (Ey (GK (Ad (tC (.int (-1))) Bq)))
   Gx)
   (Ar0 K A Bp Af BZ))
def Am1(K:Frag)(A:Adr)(Bp Af BZ:Sp):TS:=
   (CW (Gn (Cy Bp [] E0 (Ad (Al 1) (Ad (tC (.int 20)) Bq))) (Ce 2))
   (Ae1 K A Bp Af BZ))
theorem Blf{X:Cx}{A:Adr}{Bp Af BZ:Sp}(T:Txt X.K X.mg A)(c:Ctx X Ay6 (Ao Adl) 6)(K5:DX X 3 "read_things" Mw Bp)(Fg:DX X 1 "tell_things" HD Af)(OJ:DX X 6 "kept_in_turn" O5 BZ):PSs X (Ca Adl) (Am1 X.K A Bp Af BZ):=by
 have⟨Fe,Kd⟩:=knl c "bounds"
 have⟨PB,Aqz⟩:=knl c "row"
 have⟨Dz,HS⟩:=knl c "things"
 have K9:=kng c "read_things"
 have Alm:=kng c "MOST_KEPT"
 have Fj:=kng c "tell_things"
 have CV:=kng c "OUT_OF_RANGE"
 have Ph:=kng c "kept_in_turn"
 exact(Ak (Dq c 2 HS (BJ K5 (c.room.mono (by decide)) K9 (Ab (qv c 1 PB) (Ab (Fp Alm T.Ak7) Ai))))
   (Ak (Gs (Ez Ahe (qv c 2 Dz) Qp (Gg _)) (Bc (BR (Dl (Ab (Fp CV T.FN) Ai)))) Ea)
   (Bc (BR (BJ Fg (c.room.mono (by decide)) Fj (Ab (BJ OJ (c.room.mono (by decide)) Ph (Ab (qv c 0 Fe) (Ab (qv c 2 Dz) Ai))) Ai))))))
def Am6(K:Frag)(A:Adr)(Bp Af Du BZ:Sp):TS:=
   (Ey (GK (Ad (tC (.int 1)) Bq)))
def Am5(K:Frag)(A:Adr)(Bp Af Du BZ:Sp):TS:=
   (CW (SN (Jy K (Cy Du [] E0 (Ad (Al 2) Bq))) (Ce 4)
   (CW (Gn (Cy Af [] E0 (Ad (Cy BZ [] E0 (Ad (Al 0) (Ad (Al 4) Bq))) Bq)) (Ce 5))
   (Jh (Hj (tOp (Cd7 K) (Al 5) (Al 3)))
   (Ey (tOp Wi (tOp Wi (GK (Ad (tC (.int 0)) Bq)) (Cy Af [] E0 (Ad (Al 4) Bq))) (Al 5)))
   Gx)))
   (Am6 K A Bp Af Du BZ))
def Am4(K:Frag)(A:Adr)(Bp Af Du BZ:Sp):TS:=
   (CW (Gn (Cy Af [] E0 (Ad (Cy BZ [] E0 (Ad (Al 0) (Ad (Al 2) Bq))) Bq)) (Ce 3))
   (Am5 K A Bp Af Du BZ))
def Aa9(K:Frag)(A:Adr)(Bp Af Du BZ:Sp):TS:=
   (CW (Jh (Hj (tOp (λx y H Q=>y=.non/\Q (.bl (decide (x=.non))) H) (Al 2) (tC .non)))
   (Ey (GK (Ad (tC (.int (-1))) Bq)))
   Gx)
   (Am4 K A Bp Af Du BZ))
def Ahu(K:Frag)(A:Adr)(Bp Af Du BZ:Sp):TS:=
   (CW (Gn (Cy Bp [] E0 (Ad (Al 1) (Ad (tC (.int 5)) Bq))) (Ce 2))
   (Aa9 K A Bp Af Du BZ))
theorem Bg3{X:Cx}{A:Adr}{Bp Af Du BZ:Sp}(T:Txt X.K X.mg A)(c:Ctx X Auj (Ao Zx) 6)(K5:DX X 3 "read_things" Mw Bp)(Fg:DX X 1 "tell_things" HD Af)(Agj:DX X 2 "all_orders" Uu Du)(OJ:DX X 6 "kept_in_turn" O5 BZ):PSs X (Ca Zx) (Ahu X.K A Bp Af Du BZ):=by
 have⟨Fe,Kd⟩:=knl c "bounds"
 have⟨PB,Aqz⟩:=knl c "row"
 have⟨Dz,HS⟩:=knl c "things"
 have⟨Bvf,Bt9⟩:=knl c "as_told"
 have⟨Aou,Avw⟩:=knl c "order"
 have⟨Ayo,Bpz⟩:=knl c "kept"
 have K9:=kng c "read_things"
 have Aal:=kng c "MOST_ORDERED"
 have Fj:=kng c "tell_things"
 have Ag3:=kng c "all_orders"
 have CV:=kng c "OUT_OF_RANGE"
 have Ph:=kng c "kept_in_turn"
 exact(Ak (Dq c 2 HS (BJ K5 (c.room.mono (by decide)) K9 (Ab (qv c 1 PB) (Ab (Fp Aal T.Aae) Ai))))
   (Ak (Gs (Ez Ahe (qv c 2 Dz) Qp (Gg _)) (Bc (BR (Dl (Ab (Fp CV T.FN) Ai)))) Ea)
   (Ak (Dq c 3 Bt9 (BJ Fg (c.room.mono (by decide)) Fj (Ab (BJ OJ (c.room.mono (by decide)) Ph (Ab (qv c 0 Fe) (Ab (qv c 2 Dz) Ai))) Ai)))
   (Ak (Ko c (G3 (BJ Agj (c.room.mono (by decide)) Ag3 (Ab (qv c 2 Dz) Ai))) (Hi c 4 Avw) (Ak (Dq c 5 Bpz (BJ Fg (c.room.mono (by decide)) Fj (Ab (BJ OJ (c.room.mono (by decide)) Ph (Ab (qv c 0 Fe) (Ab (qv c 4 Aou) Ai))) Ai)))
   (Bc (Gs (Ez (Ccf c.room.units) (qv c 5 Ayo) (qv c 3 Bvf) (Gg _)) (Bc (BR (J6 Ly (J6 Ly (Dl (Ab DW Ai)) (BJ Fg (c.room.mono (by decide)) Fj (Ab (qv c 4 Aou) Ai))) (qv c 5 Ayo)))) Ea))))
   (Bc (BR (Dl (Ab DW Ai))))))))
def Ajr(K:Frag)(A:Adr)(Bp Af Iu:Sp):TS:=
   (Ey (Cy Af [] E0 (Ad (Cy Iu [] E0 (Ad (Al 0) (Ad (Al 2) Bq))) Bq)))
def Yt(K:Frag)(A:Adr)(Bp Af Iu:Sp):TS:=
   (CW (Jh (Hj (tOp (λx y H Q=>y=.non/\Q (.bl (decide (x=.non))) H) (Al 2) (tC .non)))
   (Ey (GK (Ad (tC (.int (-1))) Bq)))
   Gx)
   (Ajr K A Bp Af Iu))
def Aez(K:Frag)(A:Adr)(Bp Af Iu:Sp):TS:=
   (CW (Gn (Cy Bp [] E0 (Ad (Al 1) (Ad (tC (.int 20)) Bq))) (Ce 2))
   (Yt K A Bp Af Iu))
theorem Be5{X:Cx}{A:Adr}{Bp Af Iu:Sp}(T:Txt X.K X.mg A)(c:Ctx X Apv (Ao W4) 5)(K5:DX X 3 "read_things" Mw Bp)(Fg:DX X 1 "tell_things" HD Af)(Bal:DX X 5 "kept_greedily" Tc Iu):PSs X (Ca W4) (Aez X.K A Bp Af Iu):=by
 have⟨Fe,Kd⟩:=knl c "bounds"
 have⟨PB,Aqz⟩:=knl c "row"
 have⟨Dz,HS⟩:=knl c "things"
 have K9:=kng c "read_things"
 have Alm:=kng c "MOST_KEPT"
 have Fj:=kng c "tell_things"
 have CV:=kng c "OUT_OF_RANGE"
 have Ba9:=kng c "kept_greedily"
 exact(Ak (Dq c 2 HS (BJ K5 (c.room.mono (by decide)) K9 (Ab (qv c 1 PB) (Ab (Fp Alm T.Ak7) Ai))))
   (Ak (Gs (Ez Ahe (qv c 2 Dz) Qp (Gg _)) (Bc (BR (Dl (Ab (Fp CV T.FN) Ai)))) Ea)
   (Bc (BR (BJ Fg (c.room.mono (by decide)) Fj (Ab (BJ Bal (c.room.mono (by decide)) Ba9 (Ab (qv c 0 Fe) (Ab (qv c 2 Dz) Ai))) Ai))))))
def Aq6(K:Frag)(A:Adr)(Pt:Addr)(Bp Ba FQ Em:Sp):TS:=
   (Ey (Cy Ba [] E0 (Ad (Beu Pt "best_call.<locals>.<lambda>" (Axt QK) 0 "fit" FQ (Al 2)) Bq)))
def Aet(K:Frag)(A:Adr)(Pt:Addr)(Bp Ba FQ Em:Sp):TS:=
   (CW (Jh (Hj (tOp (λx y H Q=>y=.non/\Q (.bl (decide (x=.non))) H) (Al 2) (tC .non)))
   (Ey (GK (Ad (tC (.int (-1))) Bq)))
   Gx)
   (Aq6 K A Pt Bp Ba FQ Em))
def Amp(K:Frag)(A:Adr)(Pt:Addr)(Bp Ba FQ Em:Sp):TS:=
   (CW (Gn (Cy Bp [] E0 (Ad (Al 1) (Ad (tC (.int 10)) Bq))) (Ce 2))
   (Aet K A Pt Bp Ba FQ Em))
theorem Bk6{X:Cx}{A:Adr}{Bp Ba FQ Em:Sp}(T:Txt X.K X.mg A)(c:Ctx X Ayy (Ao XQ) 8){cc Pt:Addr}(LC:Bq7 X cc Pt "best_call.<locals>.<lambda>")(K5:DX X 3 "read_things" Mw Bp)(Hx:DX X 2 "tell_worth_and_things" Hy Ba)(Adz:DX X 8 "best_choice" Sh FQ)(Abu:DX X 3 "fit" Aio Em):PSs X (Ca XQ) (Amp X.K A Pt Bp Ba FQ Em):=by
 have⟨Fe,Kd⟩:=knc c "bounds"
 have⟨PB,Aqz⟩:=knl c "row"
 have⟨Dz,HS⟩:=knl c "things"
 have K9:=kng c "read_things"
 have SJ:=kng c "MOST_CHOSEN"
 have Hz:=kng c "tell_worth_and_things"
 have CV:=kng c "OUT_OF_RANGE"
 have Aee:=kng c "best_choice"
 exact(Ak (Dq c 2 HS (BJ K5 (c.room.mono (by decide)) K9 (Ab (qv c 1 PB) (Ab (Fp SJ T.Wv) Ai))))
   (Ak (Gs (Ez Ahe (qv c 2 Dz) Qp (Gg _)) (Bc (BR (Dl (Ab (Fp CV T.FN) Ai)))) Ea)
   (Bc (BR (BJ Hx (c.room.mono (by decide)) Hz (Ab (Bie c LC Bbb 0 (by decide+kernel) Adz (c.room.mono (by decide)) Aee (qv c 2 Dz)) Ai))))))
def Ajt(K:Frag)(A:Adr)(FT Ba G7:Sp):TS:=
   (Ey (Cy Ba [] E0 (Ad (Cy G7 [] E0 (Ad (Al 0) (Ad (Al 2) Bq))) Bq)))
def Yv(K:Frag)(A:Adr)(FT Ba G7:Sp):TS:=
   (CW (Jh (Hj (tOp (λx y H Q=>y=.non/\Q (.bl (decide (x=.non))) H) (Al 2) (tC .non)))
   (Ey (GK (Ad (tC (.int (-1))) Bq)))
   Gx)
   (Ajt K A FT Ba G7))
def Ae3(K:Frag)(A:Adr)(FT Ba G7:Sp):TS:=
   (CW (Gn (Cy FT [] E0 (Ad (Al 1) (Ad (tC (.int 10)) Bq))) (Ce 2))
   (Yv K A FT Ba G7))
theorem Be8{X:Cx}{A:Adr}{FT Ba G7:Sp}(T:Txt X.K X.mg A)(c:Ctx X Apy (Ao W9) 6)(Ad1:DX X 5 "read_comers" Ss FT)(Hx:DX X 2 "tell_worth_and_things" Hy Ba)(Asj:DX X 6 "kept_by_the_rule" Qc G7):PSs X (Ca W9) (Ae3 X.K A FT Ba G7):=by
 have⟨Fe,Kd⟩:=knl c "bounds"
 have⟨PB,Aqz⟩:=knl c "row"
 have⟨N8,Aap⟩:=knl c "comers"
 have Aef:=kng c "read_comers"
 have SJ:=kng c "MOST_CHOSEN"
 have Hz:=kng c "tell_worth_and_things"
 have CV:=kng c "OUT_OF_RANGE"
 have As7:=kng c "kept_by_the_rule"
 exact(Ak (Dq c 2 Aap (BJ Ad1 (c.room.mono (by decide)) Aef (Ab (qv c 1 PB) (Ab (Fp SJ T.Wv) Ai))))
   (Ak (Gs (Ez Ahe (qv c 2 N8) Qp (Gg _)) (Bc (BR (Dl (Ab (Fp CV T.FN) Ai)))) Ea)
   (Bc (BR (BJ Hx (c.room.mono (by decide)) Hz (Ab (BJ Asj (c.room.mono (by decide)) As7 (Ab (qv c 0 Fe) (Ab (qv c 2 N8) Ai))) Ai))))))
def Am2(K:Frag)(A:Adr)(Pt:Addr)(FT Ba FQ Hr:Sp):TS:=
   (Ey (Cy Ba [] E0 (Ad (Beu Pt "known_call.<locals>.<lambda>" (Axt Pj) 0 "can_all_be_kept" FQ (Al 2)) Bq)))
def Aa6(K:Frag)(A:Adr)(Pt:Addr)(FT Ba FQ Hr:Sp):TS:=
   (CW (Jh (Hj (tOp (λx y H Q=>y=.non/\Q (.bl (decide (x=.non))) H) (Al 2) (tC .non)))
   (Ey (GK (Ad (tC (.int (-1))) Bq)))
   Gx)
   (Am2 K A Pt FT Ba FQ Hr))
def Ahr(K:Frag)(A:Adr)(Pt:Addr)(FT Ba FQ Hr:Sp):TS:=
   (CW (Gn (Cy FT [] E0 (Ad (Al 1) (Ad (tC (.int 10)) Bq))) (Ce 2))
   (Aa6 K A Pt FT Ba FQ Hr))
theorem Bg0{X:Cx}{A:Adr}{FT Ba FQ Hr:Sp}(T:Txt X.K X.mg A)(c:Ctx X Auf (Ao Vu) 8){cc Pt:Addr}(LC:Bq7 X cc Pt "known_call.<locals>.<lambda>")(Ad1:DX X 5 "read_comers" Ss FT)(Hx:DX X 2 "tell_worth_and_things" Hy Ba)(Adz:DX X 8 "best_choice" Sh FQ)(Bq5:DX X 4 "can_all_be_kept" NK Hr):PSs X (Ca Vu) (Ahr X.K A Pt FT Ba FQ Hr):=by
 have⟨Fe,Kd⟩:=knc c "bounds"
 have⟨PB,Aqz⟩:=knl c "row"
 have⟨N8,Aap⟩:=knl c "comers"
 have Aef:=kng c "read_comers"
 have SJ:=kng c "MOST_CHOSEN"
 have Hz:=kng c "tell_worth_and_things"
 have CV:=kng c "OUT_OF_RANGE"
 have Aee:=kng c "best_choice"
 exact(Ak (Dq c 2 Aap (BJ Ad1 (c.room.mono (by decide)) Aef (Ab (qv c 1 PB) (Ab (Fp SJ T.Wv) Ai))))
   (Ak (Gs (Ez Ahe (qv c 2 N8) Qp (Gg _)) (Bc (BR (Dl (Ab (Fp CV T.FN) Ai)))) Ea)
   (Bc (BR (BJ Hx (c.room.mono (by decide)) Hz (Ab (Bie c LC Axu 0 (by decide+kernel) Adz (c.room.mono (by decide)) Aee (qv c 2 N8)) Ai))))))
def Arq(K:Frag)(A:Adr)(Il Ag:Sp):TS:=
   (Ey (Al 2))
def Arp(K:Frag)(A:Adr)(Il Ag:Sp):TS:=
   (CW (SN (Jy K (Cy Il [] E0 (Ad (Gm K (Al 0) "room") (Ad (Al 1) Bq)))) (Ce 3)
   (Om (tBM K "list" (Aa3 K) (Al 2) (Ad (Al 3) Bq))))
   (Arq K A Il Ag))
def Aro(K:Frag)(A:Adr)(Il Ag:Sp):TS:=
   (CW (Gn (GK (Ad (tCB (QG K) (Ad (Al 1) Bq)) Bq)) (Ce 2))
   (Arp K A Il Ag))
def Amu(K:Frag)(A:Adr)(Il Ag:Sp):TS:=
   (CW (Jh (tOr (Hj (tOp (rI0 λi j=>.bl (decide (i<j))) (tCB (QG K) (Ad (Al 1) Bq)) (tC (.int 1)))) (tOr (Hj (tOp (rI0 λi j=>.bl (decide (j<i))) (tCB (QG K) (Ad (Al 1) Bq)) (tC (.int 8)))) (Yx (tB (Cy Ag [] E0 (Ad (Al 1) (Ad (tOp Bxy (GK (Ad (tC (.ref A.QL)) Bq)) (tCB (QG K) (Ad (Al 1) Bq))) Bq)))))))
   (Ey (GK (Ad (tC (.int (-1))) Bq)))
   Gx)
   (Aro K A Il Ag))
theorem Blb{X:Cx}{A:Adr}{Il Ag:Sp}(T:Txt X.K X.mg A)(c:Ctx X Ay2 (Ao Adh) 3)(Bfj:DX X 3 "fair_shares" Wq Il)(Fx:DX X 1 "in_ranges" Iw Ag):PSs X (Ca Adh) (Amu X.K A Il Ag):=by
 have⟨Fe,Kd⟩:=knl c "bounds"
 have⟨PB,Aqz⟩:=knl c "row"
 have⟨Py,Va⟩:=knl c "answer"
 have⟨Blr,Br6⟩:=knl c "share"
 have Bgc:=kng c "fair_shares"
 have Bf8:=kng c "MOST_ASKING"
 have CV:=kng c "OUT_OF_RANGE"
 have Jm:=kng c "len"
 have Fy:=kng c "in_ranges"
 have Wx:=kng c "ASKED_RANGE"
 exact(Ak (Gs (PW.pt (Bn6 (Ez Bnx (G5 Fl Jm T.O9 Ej (Ab (qv c 1 PB) Ai)) DW (Gg _)) (Bn6 (Ez Al3 (G5 Fl Jm T.O9 Ej (Ab (qv c 1 PB) Ai)) (Fp Bf8 T.Ap9) (Gg _)) (Bkt (Mt (Ij (BJ Fx (c.room.mono (by decide)) Fy (Ab (qv c 1 PB) (Ab (J6 Bkl (Dl (Ab (Nf Wx T.Wx) Ai)) (G5 Fl Jm T.O9 Ej (Ab (qv c 1 PB) Ai))) Ai))))))))) (Bc (BR (Dl (Ab (Fp CV T.FN) Ai)))) Ea)
   (Ak (Dq c 2 Va (Dl (Ab (G5 Fl Jm T.O9 Ej (Ab (qv c 1 PB) Ai)) Ai)))
   (Ak (Ko c (G3 (BJ Bfj (c.room.mono (by decide)) Bgc (Ab (CZ (qv c 0 Fe) rfl) (Ab (qv c 1 PB) Ai)))) (Hi c 3 Br6) (Bc (JQ (Vf Dk JV JW Wf (qv c 2 Py) (Ab (qv c 3 Blr) Ai)))))
   (Bc (BR (qv c 2 Py))))))
def Arn(K:Frag)(A:Adr)(Bp Du Ba BZ:Sp):TS:=
   (Ey (Al 5))
def Arm(K:Frag)(A:Adr)(Bp Du Ba BZ:Sp):TS:=
   (CW (SN (Jy K (Al 3)) (Ce 6)
   (Om (tBM K "list" (Aa3 K) (Al 5) (Ad (Al 6) Bq))))
   (Arn K A Bp Du Ba BZ))
def Arl(K:Frag)(A:Adr)(Bp Du Ba BZ:Sp):TS:=
   (CW (Gn (GK (Ad (tCB (QG K) (Ad (Al 3) Bq)) Bq)) (Ce 5))
   (Arm K A Bp Du Ba BZ))
def Ark(K:Frag)(A:Adr)(Bp Du Ba BZ:Sp):TS:=
   (CW (SN (Jy K (Cy Du [] E0 (Ad (Al 2) Bq))) (Ce 4)
   (CW (Gn (Cy Ba [] E0 (Ad (Cy BZ [] E0 (Ad (Al 0) (Ad (Al 4) Bq))) Bq)) (Ce 6))
   (Jh (Hj (tOp (Bsz K) (Al 6) (Al 3)))
   (Om (tBM K "list" Qq (Al 3) (Ad (Al 6) Bq)))
   Gx)))
   (Arl K A Bp Du Ba BZ))
def Arj(K:Frag)(A:Adr)(Bp Du Ba BZ:Sp):TS:=
   (CW (Gn (GK Bq) (Ce 3))
   (Ark K A Bp Du Ba BZ))
def Aew(K:Frag)(A:Adr)(Bp Du Ba BZ:Sp):TS:=
   (CW (Jh (Hj (tOp (λx y H Q=>y=.non/\Q (.bl (decide (x=.non))) H) (Al 2) (tC .non)))
   (Ey (GK (Ad (tC (.int (-1))) Bq)))
   Gx)
   (Arj K A Bp Du Ba BZ))
def Amt(K:Frag)(A:Adr)(Bp Du Ba BZ:Sp):TS:=
   (CW (Gn (Cy Bp [] E0 (Ad (Al 1) (Ad (tC (.int 5)) Bq))) (Ce 2))
   (Aew K A Bp Du Ba BZ))
theorem Bk9{X:Cx}{A:Adr}{Bp Du Ba BZ:Sp}(T:Txt X.K X.mg A)(c:Ctx X Ay1 (Ao Adg) 6)(K5:DX X 3 "read_things" Mw Bp)(Agj:DX X 2 "all_orders" Uu Du)(Hx:DX X 2 "tell_worth_and_things" Hy Ba)(OJ:DX X 6 "kept_in_turn" O5 BZ):PSs X (Ca Adg) (Amt X.K A Bp Du Ba BZ):=by
 have⟨Fe,Kd⟩:=knl c "bounds"
 have⟨PB,Aqz⟩:=knl c "row"
 have⟨Dz,HS⟩:=knl c "things"
 have⟨Blo,Cbu⟩:=knl c "ends"
 have⟨Aou,Avw⟩:=knl c "order"
 have⟨Py,Va⟩:=knl c "answer"
 have⟨Bio,Bw6⟩:=knl c "end"
 have K9:=kng c "read_things"
 have Aal:=kng c "MOST_ORDERED"
 have Ag3:=kng c "all_orders"
 have CV:=kng c "OUT_OF_RANGE"
 have Hz:=kng c "tell_worth_and_things"
 have Jm:=kng c "len"
 have Ph:=kng c "kept_in_turn"
 exact(Ak (Dq c 2 HS (BJ K5 (c.room.mono (by decide)) K9 (Ab (qv c 1 PB) (Ab (Fp Aal T.Aae) Ai))))
   (Ak (Gs (Ez Ahe (qv c 2 Dz) Qp (Gg _)) (Bc (BR (Dl (Ab (Fp CV T.FN) Ai)))) Ea)
   (Ak (Dq c 3 Cbu (Dl Ai))
   (Ak (Ko c (G3 (BJ Agj (c.room.mono (by decide)) Ag3 (Ab (qv c 2 Dz) Ai))) (Hi c 4 Avw) (Ak (Dq c 6 Bw6 (BJ Hx (c.room.mono (by decide)) Hz (Ab (BJ OJ (c.room.mono (by decide)) Ph (Ab (qv c 0 Fe) (Ab (qv c 4 Aou) Ai))) Ai)))
   (Bc (Gs (Ez (Bup (Cak c.room)) (qv c 6 Bio) (qv c 3 Blo) (by with_unfolding_all rfl)) (Bc (JQ (Vf Dk Eu Ew MP (qv c 3 Blo) (Ab (qv c 6 Bio) Ai)))) Ea))))
   (Ak (Dq c 5 Va (Dl (Ab (G5 Fl Jm T.O9 Ej (Ab (qv c 3 Blo) Ai)) Ai)))
   (Ak (Ko c (G3 (qv c 3 Blo)) (Hi c 6 Bw6) (Bc (JQ (Vf Dk JV JW Wf (qv c 5 Py) (Ab (qv c 6 Bio) Ai)))))
   (Bc (BR (qv c 5 Py)))))))))
def Aa4(K:Frag)(A:Adr):TS:=
   (Ey (tOp (Bxx A.RW A.Qn) (Al 0) (tC (.ref A.RW))))
theorem Bbi{X:Cx}{A:Adr}(T:Txt X.K X.mg A)(c:Ctx X Akp (Ao Vs) 10):PSs X (Ca Vs) (Aa4 X.K A):=by
 have⟨Lg,Xx⟩:=knl c "number"
 have Qm:=kng c "LIST_CALLS"
 exact(Bc (BR (Av4 (Bxp T.Agz) (qv c 0 Lg) (Nf Qm T.Qm) (by with_unfolding_all rfl))))
def XD(X:Cx)(K:Frag)(A:Adr):TS:=
   (Ey (Bqv X 9 3 (Ad (Al 0) (Ad (Al 2) Bq))))
def T4(X:Cx)(K:Frag)(A:Adr):TS:=
   (CW (Gn (tOp (Bqj A.RW A.Qn) (tC (.ref A.RW)) (Al 1)) (Ce 3))
   (XD X K A))
theorem Ape{X:Cx}{A:Adr}(T:Txt X.K X.mg A)(c:Ctx X Z0 (Ao Qt) 10):PSs X (Ca Qt) (T4 X X.K A):=by
 have⟨Fe,Kd⟩:=knl c "bounds"
 have⟨Lg,Xx⟩:=knl c "number"
 have⟨PB,Aqz⟩:=knl c "row"
 have⟨Bq2,Bpy⟩:=knl c "call"
 have Qm:=kng c "LIST_CALLS"
 exact(Ak (Dq c 3 Bpy (Bsw T.Agz (Nf Qm T.Qm) (qv c 1 Lg) (λ_ _=>rfl)))
   (Bc (BR (Bsv (j:=9) c 3 Bq2 (c.room.mono (by decide)) (Ab (qv c 0 Fe) (Ab (qv c 2 PB) Ai))))))
def Anh(K:Frag)(A:Adr)(Je:Sp):TS:=
   (VH K (Al 0) (Gm K (Al 1) "things") "things")
def Ang(K:Frag)(A:Adr)(Je:Sp):TS:=
   (CW (VH K (Al 0) (Gm K (Al 1) "moment") "moment")
   (Anh K A Je))
def Anf(K:Frag)(A:Adr)(Je:Sp):TS:=
   (CW (VH K (Al 0) (Gm K (Al 1) "bounds") "bounds")
   (Ang K A Je))
def Ahx(K:Frag)(A:Adr)(Je:Sp):TS:=
   (CW (Gn (Uj A.Gq Je [] E0 Bq) (Ce 1))
   (Anf K A Je))
theorem Bg6{X:Cx}{A:Adr}{Je:Sp}(T:Txt X.K X.mg A)(c:Ctx X Aum (Ao ZC) 4)(Bix:MX X 3 A.Gq "State" Ut Je):PSs X (Ca ZC) (Ahx X.K A Je):=by
 have⟨Bx,Hs⟩:=knl c "state"
 have⟨Blp,Bzk⟩:=knl c "fresh"
 have Bjt:=kng c "State"
 exact(Ak (Dq c 1 Bzk (Bsx Bix (c.room.mono (by decide)) Bjt))
   (Ak (K4 (qv c 0 Bx) (CZ (qv c 1 Blp) rfl) rfl)
   (Ak (K4 (qv c 0 Bx) (CZ (qv c 1 Blp) rfl) rfl)
   (Bc (K4 (qv c 0 Bx) (CZ (qv c 1 Blp) rfl) rfl)))))
def Amv(K:Frag)(A:Adr):TS:=
   (Ey (tC .non))
def Ahm(K:Frag)(A:Adr):TS:=
   (CW (SN (Jy K (Gm K (Al 0) "things")) (Ce 2)
   (Jh (Hj (tOp rEq (Gm K (Al 2) "number") (Al 1)))
   (Ey (Al 2))
   Gx))
   (Amv K A))
theorem Bgx{X:Cx}{A:Adr}(T:Txt X.K X.mg A)(c:Ctx X Auc (Ao Zr) 0):PSs X (Ca Zr) (Ahm X.K A):=by
 have⟨Bx,Hs⟩:=knl c "state"
 have⟨Lg,Xx⟩:=knl c "number"
 have⟨Dj,Gy⟩:=knl c "thing"
 exact(Ak (Ko c (G3 (CZ (qv c 0 Bx) rfl)) (Hi c 2 Gy) (Bc (Gs (Ez Bnw (CZ (qv c 2 Dj) rfl) (qv c 1 Lg) (Gg _)) (Bc (BR (qv c 2 Dj))) Ea)))
   (Bc (BR Qp)))
def Beq(K:Frag)(A:Adr)(Di:Sp):TS:=
   (VH K (Al 0) (Cy Di [] E0 (Ad (tOp Wi (Gm K (Al 0) "things") (GK (Ad (Al 1) Bq))) Bq)) "things")
theorem Bva{X:Cx}{A:Adr}{Di:Sp}(T:Txt X.K X.mg A)(c:Ctx X Bl0 (Ao Awl) 4)(Nz:DX X 4 "strongest_first" Ln Di):PSs X (Ca Awl) (Beq X.K A Di):=by
 have⟨Bx,Hs⟩:=knl c "state"
 have⟨Dj,Gy⟩:=knl c "thing"
 have NZ:=kng c "strongest_first"
 exact(Bc (K4 (qv c 0 Bx) (BJ Nz (c.room.mono (by decide)) NZ (Ab (J6 Ly (CZ (qv c 0 Bx) rfl) (Dl (Ab (qv c 1 Dj) Ai))) Ai)) rfl))
def Beo(K:Frag)(A:Adr)(Et:Sp):TS:=
   (VH K (Al 0) (Cy Et [] E0 (Ad (Gm K (Al 0) "things") (Ad (Al 1) Bq))) "things")
theorem Bu8{X:Cx}{A:Adr}{Et:Sp}(T:Txt X.K X.mg A)(c:Ctx X Bly (Ao Awj) 1)(V4:DX X 1 "without" V7 Et):PSs X (Ca Awj) (Beo X.K A Et):=by
 have⟨Bx,Hs⟩:=knl c "state"
 have⟨Abj,Ata⟩:=knl c "gone"
 have Wc:=kng c "without"
 exact(Bc (K4 (qv c 0 Bx) (BJ V4 (c.room.mono (by decide)) Wc (Ab (CZ (qv c 0 Bx) rfl) (Ab (qv c 1 Abj) Ai))) rfl))
def Acz(K:Frag)(A:Adr)(Em:Sp):TS:=
   (Ey (GK (Ad (tC (.int 0)) Bq)))
def Acy(K:Frag)(A:Adr)(Em:Sp):TS:=
   (CW (VH K (Al 0) (Al 1) "bounds")
   (Acz K A Em))
def Yo(K:Frag)(A:Adr)(Em:Sp):TS:=
   (CW (Jh (Yx (tB (Cy Em [] E0 (Ad (Al 1) (Ad (Gm K (Al 0) "things") Bq)))))
   (Ey (GK (Ad (tC (.int (-3))) Bq)))
   Gx)
   (Acy K A Em))
theorem Ayh{X:Cx}{A:Adr}{Em:Sp}(T:Txt X.K X.mg A)(c:Ctx X Aii (Ao Ti) 3)(Abu:DX X 3 "fit" Aio Em):PSs X (Ca Ti) (Yo X.K A Em):=by
 have⟨Bx,Hs⟩:=knl c "state"
 have⟨Fe,Kd⟩:=knl c "bounds"
 have Afw:=kng c "fit"
 have Yh:=kng c "BEYOND_BOUNDS"
 exact(Ak (Gs (Mt (Ij (BJ Abu (c.room.mono (by decide)) Afw (Ab (qv c 1 Fe) (Ab (CZ (qv c 0 Bx) rfl) Ai))))) (Bc (BR (Dl (Ab (Fp Yh T.Yg) Ai)))) Ea)
   (Ak (K4 (qv c 0 Bx) (qv c 1 Fe) rfl)
   (Bc (BR (Dl (Ab DW Ai))))))
def Ar1(K:Frag)(A:Adr)(Eh Ag Gd:Sp):TS:=
   (Ey (Cy Eh [] E0 (Ad (Al 0) (Ad (Uj A.Jb Gd [] E0 (Ad (tOp (Qs K) (Al 1) (tC (.int 0))) (Ad (Gm K (Gm K (Al 0) "bounds") "limits") (Ad (Gm K (Gm K (Al 0) "bounds") "share") Bq)))) Bq))))
def Ana(K:Frag)(A:Adr)(Eh Ag Gd:Sp):TS:=
   (CW (Jh (Yx (tB (Cy Ag [] E0 (Ad (Al 1) (Ad (tC (.ref A.QM)) Bq)))))
   (Ey (GK (Ad (tC (.int (-1))) Bq)))
   Gx)
   (Ar1 K A Eh Ag Gd))
theorem Blg{X:Cx}{A:Adr}{Eh Ag Gd:Sp}(T:Txt X.K X.mg A)(c:Ctx X Ay7 (Ao Adm) 4)(QB:DX X 4 "change_bounds" Nu Eh)(Fx:DX X 1 "in_ranges" Iw Ag)(ZX:MX X 1 A.Jb "Bounds" Oe Gd):PSs X (Ca Adm) (Ana X.K A Eh Ag Gd):=by
 have⟨Bx,Hs⟩:=knl c "state"
 have⟨BK,FW⟩:=knl c "numbers"
 have QF:=kng c "change_bounds"
 have Fy:=kng c "in_ranges"
 have Oi:=kng c "BOUND_RANGE"
 have CV:=kng c "OUT_OF_RANGE"
 have Aak:=kng c "Bounds"
 exact(Ak (Gs (Mt (Ij (BJ Fx (c.room.mono (by decide)) Fy (Ab (qv c 1 BK) (Ab (Nf Oi T.Oi) Ai))))) (Bc (BR (Dl (Ab (Fp CV T.FN) Ai)))) Ea)
   (Bc (BR (BJ QB (c.room.mono (by decide)) QF (Ab (qv c 0 Bx) (Ab (Vj ZX (c.room.mono (by decide)) Aak (Ab (Km HF (qv c 1 BK) DW (λ_ _=>rfl)) (Ab (CZ (CZ (qv c 0 Bx) rfl) rfl) (Ab (CZ (CZ (qv c 0 Bx) rfl) rfl) Ai)))) Ai))))))
def Ajs(K:Frag)(A:Adr)(Eh Ag Gd:Sp):TS:=
   (Ey (Cy Eh [] E0 (Ad (Al 0) (Ad (Uj A.Jb Gd [] E0 (Ad (Gm K (Gm K (Al 0) "bounds") "room") (Ad (Al 1) (Ad (Gm K (Gm K (Al 0) "bounds") "share") Bq)))) Bq))))
def Ae2(K:Frag)(A:Adr)(Eh Ag Gd:Sp):TS:=
   (CW (Jh (Yx (tB (Cy Ag [] E0 (Ad (Al 1) (Ad (tC (.ref A.Vz)) Bq)))))
   (Ey (GK (Ad (tC (.int (-1))) Bq)))
   Gx)
   (Ajs K A Eh Ag Gd))
theorem Be7{X:Cx}{A:Adr}{Eh Ag Gd:Sp}(T:Txt X.K X.mg A)(c:Ctx X Apx (Ao W6) 4)(QB:DX X 4 "change_bounds" Nu Eh)(Fx:DX X 1 "in_ranges" Iw Ag)(ZX:MX X 1 A.Jb "Bounds" Oe Gd):PSs X (Ca W6) (Ae2 X.K A Eh Ag Gd):=by
 have⟨Bx,Hs⟩:=knl c "state"
 have⟨BK,FW⟩:=knl c "numbers"
 have QF:=kng c "change_bounds"
 have Fy:=kng c "in_ranges"
 have U3:=kng c "LIMIT_RANGES"
 have CV:=kng c "OUT_OF_RANGE"
 have Aak:=kng c "Bounds"
 exact(Ak (Gs (Mt (Ij (BJ Fx (c.room.mono (by decide)) Fy (Ab (qv c 1 BK) (Ab (Nf U3 T.U3) Ai))))) (Bc (BR (Dl (Ab (Fp CV T.FN) Ai)))) Ea)
   (Bc (BR (BJ QB (c.room.mono (by decide)) QF (Ab (qv c 0 Bx) (Ab (Vj ZX (c.room.mono (by decide)) Aak (Ab (CZ (CZ (qv c 0 Bx) rfl) rfl) (Ab (qv c 1 BK) (Ab (CZ (CZ (qv c 0 Bx) rfl) rfl) Ai)))) Ai))))))
def Anb(K:Frag)(A:Adr)(Eh Ag Gd:Sp):TS:=
   (Ey (Cy Eh [] E0 (Ad (Al 0) (Ad (Uj A.Jb Gd [] E0 (Ad (Gm K (Gm K (Al 0) "bounds") "room") (Ad (Gm K (Gm K (Al 0) "bounds") "limits") (Ad (tOp (Qs K) (Al 1) (tC (.int 0))) Bq)))) Bq))))
def Ahw(K:Frag)(A:Adr)(Eh Ag Gd:Sp):TS:=
   (CW (Jh (Yx (tB (Cy Ag [] E0 (Ad (Al 1) (Ad (tC (.ref A.QM)) Bq)))))
   (Ey (GK (Ad (tC (.int (-1))) Bq)))
   Gx)
   (Anb K A Eh Ag Gd))
theorem Bg5{X:Cx}{A:Adr}{Eh Ag Gd:Sp}(T:Txt X.K X.mg A)(c:Ctx X Aul (Ao Zz) 4)(QB:DX X 4 "change_bounds" Nu Eh)(Fx:DX X 1 "in_ranges" Iw Ag)(ZX:MX X 1 A.Jb "Bounds" Oe Gd):PSs X (Ca Zz) (Ahw X.K A Eh Ag Gd):=by
 have⟨Bx,Hs⟩:=knl c "state"
 have⟨BK,FW⟩:=knl c "numbers"
 have QF:=kng c "change_bounds"
 have Fy:=kng c "in_ranges"
 have Oi:=kng c "BOUND_RANGE"
 have CV:=kng c "OUT_OF_RANGE"
 have Aak:=kng c "Bounds"
 exact(Ak (Gs (Mt (Ij (BJ Fx (c.room.mono (by decide)) Fy (Ab (qv c 1 BK) (Ab (Nf Oi T.Oi) Ai))))) (Bc (BR (Dl (Ab (Fp CV T.FN) Ai)))) Ea)
   (Bc (BR (BJ QB (c.room.mono (by decide)) QF (Ab (qv c 0 Bx) (Ab (Vj ZX (c.room.mono (by decide)) Aak (Ab (CZ (CZ (qv c 0 Bx) rfl) rfl) (Ab (CZ (CZ (qv c 0 Bx) rfl) rfl) (Ab (Km HF (qv c 1 BK) DW (λ_ _=>rfl)) Ai)))) Ai))))))
def Atl(K:Frag)(A:Adr)(Ag Ar Bm:Sp):TS:=
   (Ey (tC (.int 0)))
def Abf(K:Frag)(A:Adr)(Ag Ar Bm:Sp):TS:=
   (CW (Jh (Hj (tOp (rI0 λi j=>.bl (decide (j<=i))) (tCB (QG K) (Ad (Gm K (Al 0) "things") Bq)) (tC (.int 40))))
   (Ey (tC (.int (-8))))
   Gx)
   (Atl K A Ag Ar Bm))
def Abe(K:Frag)(A:Adr)(Ag Ar Bm:Sp):TS:=
   (CW (Jh (Hj (tOp (rI0 λi j=>.bl (decide (i<=j))) (Gm K (Al 2) "end") (Gm K (Al 0) "moment")))
   (Ey (tC (.int (-7))))
   Gx)
   (Abf K A Ag Ar Bm))
def Abd(K:Frag)(A:Adr)(Ag Ar Bm:Sp):TS:=
   (CW (Jh (Hj (tOp (λx y H Q=>y=.non/\Q (.bl (!decide (x=.non))) H) (Cy Ar [] E0 (Ad (Al 0) (Ad (Gm K (Al 2) "number") Bq))) (tC .non)))
   (Ey (tC (.int (-6))))
   Gx)
   (Abe K A Ag Ar Bm))
def Abb(K:Frag)(A:Adr)(Ag Ar Bm:Sp):TS:=
   (CW (Gn (Uj A.GJ Bm [] E0 (Ad (Al 1) Bq)) (Ce 2))
   (Abd K A Ag Ar Bm))
def Wj(K:Frag)(A:Adr)(Ag Ar Bm:Sp):TS:=
   (CW (Jh (Yx (tB (Cy Ag [] E0 (Ad (Al 1) (Ad (tC (.ref A.Lf)) Bq)))))
   (Ey (tC (.int (-1))))
   Gx)
   (Abb K A Ag Ar Bm))
theorem Awt{X:Cx}{A:Adr}{Ag Ar Bm:Sp}(T:Txt X.K X.mg A)(c:Ctx X Afi (Ao RP) 2)(Fx:DX X 1 "in_ranges" Iw Ag)(HX:DX X 1 "find_thing" Kh Ar)(Ot:MX X 1 A.GJ "Thing" Jt Bm):PSs X (Ca RP) (Wj X.K A Ag Ar Bm):=by
 have⟨Bx,Hs⟩:=knl c "state"
 have⟨BK,FW⟩:=knl c "numbers"
 have⟨Dj,Gy⟩:=knl c "thing"
 have En:=kng c "NOT_REFUSED"
 have CV:=kng c "OUT_OF_RANGE"
 have Ow:=kng c "Thing"
 have Ba6:=kng c "ALREADY_THERE"
 have Ba5:=kng c "ALREADY_ENDED"
 have Bf9:=kng c "MOST_THINGS"
 have Bjs:=kng c "STORE_FULL"
 have Fy:=kng c "in_ranges"
 have J4:=kng c "THING_RANGES"
 have Ia:=kng c "find_thing"
 have Jm:=kng c "len"
 exact(Ak (Gs (Mt (Ij (BJ Fx (c.room.mono (by decide)) Fy (Ab (qv c 1 BK) (Ab (Nf J4 T.J4) Ai))))) (Bc (BR (Fp CV T.FN))) Ea)
   (Ak (Dq c 2 Gy (Vj Ot (c.room.mono (by decide)) Ow (Ab (qv c 1 BK) Ai)))
   (Ak (Gs (Ez Bz0 (BJ HX (c.room.mono (by decide)) Ia (Ab (qv c 0 Bx) (Ab (CZ (qv c 2 Dj) rfl) Ai))) Qp (Gg _)) (Bc (BR (Fp Ba6 T.Aiu))) Ea)
   (Ak (Gs (Ez Beg (CZ (qv c 2 Dj) rfl) (CZ (qv c 0 Bx) rfl) (Gg _)) (Bc (BR (Fp Ba5 T.Ait))) Ea)
   (Ak (Gs (Ez Ca2 (G5 Fl Jm T.O9 Ej (Ab (CZ (qv c 0 Bx) rfl) Ai)) (Fp Bf9 T.Aqa) (Gg _)) (Bc (BR (Fp Bjs T.Au8))) Ea)
   (Bc (BR (Fp En T.Hq))))))))
def Bac(K:Frag)(A:Adr)(Eb Dd Ls Cq Af:Sp):TS:=
   (Ey (tOp Wi (GK (Ad (tC (.int 1)) Bq)) (Cy Af [] E0 (Ad (Al 2) Bq))))
def Bab(K:Frag)(A:Adr)(Eb Dd Ls Cq Af:Sp):TS:=
   (CW (Om (Cy Ls [] E0 (Ad (Al 0) (Ad (Al 1) Bq))))
   (Bac K A Eb Dd Ls Cq Af))
def Baa(K:Frag)(A:Adr)(Eb Dd Ls Cq Af:Sp):TS:=
   (CW (Om (Cy Dd [] E0 (Ad (Al 0) (Ad (Al 2) Bq))))
   (Bab K A Eb Dd Ls Cq Af))
def Az9(K:Frag)(A:Adr)(Eb Dd Ls Cq Af:Sp):TS:=
   (CW (Gn (Cy Eb [] E0 (Ad (Gm K (Al 0) "bounds") (Ad (Gm K (Al 0) "things") (Ad (Al 1) Bq)))) (Ce 2))
   (Baa K A Eb Dd Ls Cq Af))
def Ayc(K:Frag)(A:Adr)(Eb Dd Ls Cq Af:Sp):TS:=
   (CW (Jh (Yx (tB (Cy Cq [] E0 (Ad (Gm K (Al 0) "bounds") (Ad (Gm K (Al 0) "things") (Ad (Al 1) Bq))))))
   (Ey (GK (Ad (tC (.int 0)) Bq)))
   Gx)
   (Az9 K A Eb Dd Ls Cq Af))
theorem Bqx{X:Cx}{A:Adr}{Eb Dd Ls Cq Af:Sp}(T:Txt X.K X.mg A)(c:Ctx X Bhc (Ao Aop) 5)(ZS:DX X 4 "gone_for" V6 Eb)(ZV:DX X 2 "let_go" Z7 Dd)(Bvo:DX X 5 "put_in" Aut Ls)(Tw:DX X 4 "is_taken" TF Cq)(Fg:DX X 1 "tell_things" HD Af):PSs X (Ca Aop) (Ayc X.K A Eb Dd Ls Cq Af):=by
 have⟨Bx,Hs⟩:=knl c "state"
 have⟨Dj,Gy⟩:=knl c "thing"
 have⟨Abj,Ata⟩:=knl c "gone"
 have Aam:=kng c "gone_for"
 have Aan:=kng c "let_go"
 have Bwo:=kng c "put_in"
 have TQ:=kng c "is_taken"
 have Fj:=kng c "tell_things"
 exact(Ak (Gs (Mt (Ij (BJ Tw (c.room.mono (by decide)) TQ (Ab (CZ (qv c 0 Bx) rfl) (Ab (CZ (qv c 0 Bx) rfl) (Ab (qv c 1 Dj) Ai)))))) (Bc (BR (Dl (Ab DW Ai)))) Ea)
   (Ak (Dq c 2 Ata (BJ ZS (c.room.mono (by decide)) Aam (Ab (CZ (qv c 0 Bx) rfl) (Ab (CZ (qv c 0 Bx) rfl) (Ab (qv c 1 Dj) Ai)))))
   (Ak (JQ (BJ ZV (c.room.mono (by decide)) Aan (Ab (qv c 0 Bx) (Ab (qv c 2 Abj) Ai))))
   (Ak (JQ (BJ Bvo (c.room.mono (by decide)) Bwo (Ab (qv c 0 Bx) (Ab (qv c 1 Dj) Ai))))
   (Bc (BR (J6 Ly (Dl (Ab DW Ai)) (BJ Fg (c.room.mono (by decide)) Fj (Ab (qv c 2 Abj) Ai)))))))))
def Ajd(K:Frag)(A:Adr)(Aw Gv Bm:Sp):TS:=
   (Ey (Cy Gv [] E0 (Ad (Al 0) (Ad (Uj A.GJ Bm [] E0 (Ad (Al 1) Bq)) Bq))))
def Ajc(K:Frag)(A:Adr)(Aw Gv Bm:Sp):TS:=
   (CW (Jh (Hj (tOp rNe (Al 2) (tC (.int 0))))
   (Ey (GK (Ad (Al 2) Bq)))
   Gx)
   (Ajd K A Aw Gv Bm))
def Aes(K:Frag)(A:Adr)(Aw Gv Bm:Sp):TS:=
   (CW (Gn (Cy Aw [] E0 (Ad (Al 0) (Ad (Al 1) Bq))) (Ce 2))
   (Ajc K A Aw Gv Bm))
theorem Be0{X:Cx}{A:Adr}{Aw Gv Bm:Sp}(T:Txt X.K X.mg A)(c:Ctx X Apo (Ao WX) 6)(Jo:DX X 3 "refusal_of_new" Kc Aw)(Aw0:DX X 6 "take_in" Afm Gv)(Ot:MX X 1 A.GJ "Thing" Jt Bm):PSs X (Ca WX) (Aes X.K A Aw Gv Bm):=by
 have⟨Bx,Hs⟩:=knl c "state"
 have⟨BK,FW⟩:=knl c "numbers"
 have⟨Ge,Ip⟩:=knl c "refusal"
 have Jw:=kng c "refusal_of_new"
 have En:=kng c "NOT_REFUSED"
 have Axm:=kng c "take_in"
 have Ow:=kng c "Thing"
 exact(Ak (Dq c 2 Ip (BJ Jo (c.room.mono (by decide)) Jw (Ab (qv c 0 Bx) (Ab (qv c 1 BK) Ai))))
   (Ak (Gs (Ez Ai6 (qv c 2 Ge) (Fp En T.Hq) (Gg _)) (Bc (BR (Dl (Ab (qv c 2 Ge) Ai)))) Ea)
   (Bc (BR (BJ Aw0 (c.room.mono (by decide)) Axm (Ab (qv c 0 Bx) (Ab (Vj Ot (c.room.mono (by decide)) Ow (Ab (qv c 1 BK) Ai)) Ai)))))))
def Anp(K:Frag)(A:Adr)(Aw Cq Af Eb Bm:Sp):TS:=
   (Ey (tOp Wi (GK (Ad (tC (.int 1)) Bq)) (Cy Af [] E0 (Ad (Cy Eb [] E0 (Ad (Gm K (Al 0) "bounds") (Ad (Gm K (Al 0) "things") (Ad (Al 3) Bq)))) Bq))))
def Ano(K:Frag)(A:Adr)(Aw Cq Af Eb Bm:Sp):TS:=
   (CW (Jh (Yx (tB (Cy Cq [] E0 (Ad (Gm K (Al 0) "bounds") (Ad (Gm K (Al 0) "things") (Ad (Al 3) Bq))))))
   (Ey (GK (Ad (tC (.int 0)) Bq)))
   Gx)
   (Anp K A Aw Cq Af Eb Bm))
def Ann(K:Frag)(A:Adr)(Aw Cq Af Eb Bm:Sp):TS:=
   (CW (Gn (Uj A.GJ Bm [] E0 (Ad (Al 1) Bq)) (Ce 3))
   (Ano K A Aw Cq Af Eb Bm))
def Anm(K:Frag)(A:Adr)(Aw Cq Af Eb Bm:Sp):TS:=
   (CW (Jh (Hj (tOp rNe (Al 2) (tC (.int 0))))
   (Ey (GK (Ad (Al 2) Bq)))
   Gx)
   (Ann K A Aw Cq Af Eb Bm))
def Ahz(K:Frag)(A:Adr)(Aw Cq Af Eb Bm:Sp):TS:=
   (CW (Gn (Cy Aw [] E0 (Ad (Al 0) (Ad (Al 1) Bq))) (Ce 2))
   (Anm K A Aw Cq Af Eb Bm))
theorem Bg8{X:Cx}{A:Adr}{Aw Cq Af Eb Bm:Sp}(T:Txt X.K X.mg A)(c:Ctx X Auo (Ao ZF) 4)(Jo:DX X 3 "refusal_of_new" Kc Aw)(Tw:DX X 4 "is_taken" TF Cq)(Fg:DX X 1 "tell_things" HD Af)(ZS:DX X 4 "gone_for" V6 Eb)(Ot:MX X 1 A.GJ "Thing" Jt Bm):PSs X (Ca ZF) (Ahz X.K A Aw Cq Af Eb Bm):=by
 have⟨Bx,Hs⟩:=knl c "state"
 have⟨BK,FW⟩:=knl c "numbers"
 have⟨Ge,Ip⟩:=knl c "refusal"
 have⟨Dj,Gy⟩:=knl c "thing"
 have Jw:=kng c "refusal_of_new"
 have En:=kng c "NOT_REFUSED"
 have Ow:=kng c "Thing"
 have TQ:=kng c "is_taken"
 have Fj:=kng c "tell_things"
 have Aam:=kng c "gone_for"
 exact(Ak (Dq c 2 Ip (BJ Jo (c.room.mono (by decide)) Jw (Ab (qv c 0 Bx) (Ab (qv c 1 BK) Ai))))
   (Ak (Gs (Ez Ai6 (qv c 2 Ge) (Fp En T.Hq) (Gg _)) (Bc (BR (Dl (Ab (qv c 2 Ge) Ai)))) Ea)
   (Ak (Dq c 3 Gy (Vj Ot (c.room.mono (by decide)) Ow (Ab (qv c 1 BK) Ai)))
   (Ak (Gs (Mt (Ij (BJ Tw (c.room.mono (by decide)) TQ (Ab (CZ (qv c 0 Bx) rfl) (Ab (CZ (qv c 0 Bx) rfl) (Ab (qv c 3 Dj) Ai)))))) (Bc (BR (Dl (Ab DW Ai)))) Ea)
   (Bc (BR (J6 Ly (Dl (Ab DW Ai)) (BJ Fg (c.room.mono (by decide)) Fj (Ab (BJ ZS (c.room.mono (by decide)) Aam (Ab (CZ (qv c 0 Bx) rfl) (Ab (CZ (qv c 0 Bx) rfl) (Ab (qv c 3 Dj) Ai)))) Ai)))))))))
def Awh(K:Frag)(A:Adr)(Aw DY Bt Bm:Sp):TS:=
   (Ey (Al 5))
def Awg(K:Frag)(A:Adr)(Aw DY Bt Bm:Sp):TS:=
   (CW (SN (Jy K (Al 4)) (Ce 6)
   (Om (tBM K "list" (Aa3 K) (Al 5) (Ad (Al 6) Bq))))
   (Awh K A Aw DY Bt Bm))
def Awf(K:Frag)(A:Adr)(Aw DY Bt Bm:Sp):TS:=
   (CW (Gn (GK (Ad (tCB (QG K) (Ad (Al 4) Bq)) Bq)) (Ce 5))
   (Awg K A Aw DY Bt Bm))
def Awe(K:Frag)(A:Adr)(Aw DY Bt Bm:Sp):TS:=
   (CW (Gn (Cy DY [] E0 (Ad (Gm K (Al 0) "bounds") (Ad (tOp Wi (Cy Bt [] E0 (Ad (Gm K (Al 0) "things") (Ad (Al 3) Bq))) (GK (Ad (Al 3) Bq))) Bq))) (Ce 4))
   (Awf K A Aw DY Bt Bm))
def Awd(K:Frag)(A:Adr)(Aw DY Bt Bm:Sp):TS:=
   (CW (Gn (Uj A.GJ Bm [] E0 (Ad (Al 1) Bq)) (Ce 3))
   (Awe K A Aw DY Bt Bm))
def Awc(K:Frag)(A:Adr)(Aw DY Bt Bm:Sp):TS:=
   (CW (Jh (Hj (tOp rNe (Al 2) (tC (.int 0))))
   (Ey (GK (Ad (Al 2) Bq)))
   Gx)
   (Awd K A Aw DY Bt Bm))
def Atn(K:Frag)(A:Adr)(Aw DY Bt Bm:Sp):TS:=
   (CW (Gn (Cy Aw [] E0 (Ad (Al 0) (Ad (Al 1) Bq))) (Ce 2))
   (Awc K A Aw DY Bt Bm))
theorem Bo1{X:Cx}{A:Adr}{Aw DY Bt Bm:Sp}(T:Txt X.K X.mg A)(c:Ctx X Bch (Ao Ah3) 3)(Jo:DX X 3 "refusal_of_new" Kc Aw)(X5:DX X 2 "broken_bounds" QD DY)(Mh:DX X 3 "may_not_go" NP Bt)(Ot:MX X 1 A.GJ "Thing" Jt Bm):PSs X (Ca Ah3) (Atn X.K A Aw DY Bt Bm):=by
 have⟨Bx,Hs⟩:=knl c "state"
 have⟨BK,FW⟩:=knl c "numbers"
 have⟨Ge,Ip⟩:=knl c "refusal"
 have⟨Dj,Gy⟩:=knl c "thing"
 have⟨Abi,Bdn⟩:=knl c "broken"
 have⟨Py,Va⟩:=knl c "answer"
 have⟨v_pair,Bp1⟩:=knl c "pair"
 have Jw:=kng c "refusal_of_new"
 have En:=kng c "NOT_REFUSED"
 have Ow:=kng c "Thing"
 have Yi:=kng c "broken_bounds"
 have Jm:=kng c "len"
 have Ms:=kng c "may_not_go"
 exact(Ak (Dq c 2 Ip (BJ Jo (c.room.mono (by decide)) Jw (Ab (qv c 0 Bx) (Ab (qv c 1 BK) Ai))))
   (Ak (Gs (Ez Ai6 (qv c 2 Ge) (Fp En T.Hq) (Gg _)) (Bc (BR (Dl (Ab (qv c 2 Ge) Ai)))) Ea)
   (Ak (Dq c 3 Gy (Vj Ot (c.room.mono (by decide)) Ow (Ab (qv c 1 BK) Ai)))
   (Ak (Dq c 4 Bdn (BJ X5 (c.room.mono (by decide)) Yi (Ab (CZ (qv c 0 Bx) rfl) (Ab (J6 Ly (BJ Mh (c.room.mono (by decide)) Ms (Ab (CZ (qv c 0 Bx) rfl) (Ab (qv c 3 Dj) Ai))) (Dl (Ab (qv c 3 Dj) Ai))) Ai))))
   (Ak (Dq c 5 Va (Dl (Ab (G5 Fl Jm T.O9 Ej (Ab (qv c 4 Abi) Ai)) Ai)))
   (Ak (Ko c (G3 (qv c 4 Abi)) (Hi c 6 Bp1) (Bc (JQ (Vf Dk JV JW Wf (qv c 5 Py) (Ab (qv c 6 v_pair) Ai)))))
   (Bc (BR (qv c 5 Py)))))))))
def Akb(K:Frag)(A:Adr)(Ag Ar:Sp):TS:=
   (Ey (tC (.int 0)))
def V3(K:Frag)(A:Adr)(Ag Ar:Sp):TS:=
   (CW (Jh (Hj (tOp (λx y H Q=>y=.non/\Q (.bl (decide (x=.non))) H) (Cy Ar [] E0 (Ad (Al 0) (Ad (tOp (Qs K) (Al 1) (tC (.int 0))) Bq))) (tC .non)))
   (Ey (tC (.int (-5))))
   Gx)
   (Akb K A Ag Ar))
def R8(K:Frag)(A:Adr)(Ag Ar:Sp):TS:=
   (CW (Jh (Yx (tB (Cy Ag [] E0 (Ad (Al 1) (Ad (Al 2) Bq)))))
   (Ey (tC (.int (-1))))
   Gx)
   (V3 K A Ag Ar))
theorem Anv{X:Cx}{A:Adr}{Ag Ar:Sp}(T:Txt X.K X.mg A)(c:Ctx X YC (Ao Oz) 1)(Fx:DX X 1 "in_ranges" Iw Ag)(HX:DX X 1 "find_thing" Kh Ar):PSs X (Ca Oz) (R8 X.K A Ag Ar):=by
 have⟨Bx,Hs⟩:=knl c "state"
 have⟨BK,FW⟩:=knl c "numbers"
 have⟨An1,Bw9⟩:=knl c "ranges"
 have En:=kng c "NOT_REFUSED"
 have CV:=kng c "OUT_OF_RANGE"
 have Bm7:=kng c "NOT_THERE"
 have Fy:=kng c "in_ranges"
 have Ia:=kng c "find_thing"
 exact(Ak (Gs (Mt (Ij (BJ Fx (c.room.mono (by decide)) Fy (Ab (qv c 1 BK) (Ab (qv c 2 An1) Ai))))) (Bc (BR (Fp CV T.FN))) Ea)
   (Ak (Gs (Ez Ahe (BJ HX (c.room.mono (by decide)) Ia (Ab (qv c 0 Bx) (Ab (Km HF (qv c 1 BK) DW (λ_ _=>rfl)) Ai))) Qp (Gg _)) (Bc (BR (Fp Bm7 T.Azc))) Ea)
   (Bc (BR (Fp En T.Hq)))))
def Ari(K:Frag)(A:Adr)(Bb Ar Dd:Sp):TS:=
   (Ey (GK (Ad (tCB (QG K) (Ad (Gm K (Al 0) "things") Bq)) Bq)))
def Arh(K:Frag)(A:Adr)(Bb Ar Dd:Sp):TS:=
   (CW (Om (Cy Dd [] E0 (Ad (Al 0) (Ad (GK (Ad (Al 3) Bq)) Bq))))
   (Ari K A Bb Ar Dd))
def Arf(K:Frag)(A:Adr)(Bb Ar Dd:Sp):TS:=
   (CW (Jh (tB (Gm K (Al 3) "bound"))
   (Ey (GK (Ad (tC (.int (-9))) Bq)))
   Gx)
   (Arh K A Bb Ar Dd))
def Ard(K:Frag)(A:Adr)(Bb Ar Dd:Sp):TS:=
   (CW (Gn (Cy Ar [] E0 (Ad (Al 0) (Ad (tOp (Qs K) (Al 1) (tC (.int 0))) Bq))) (Ce 3))
   (Arf K A Bb Ar Dd))
def Arc(K:Frag)(A:Adr)(Bb Ar Dd:Sp):TS:=
   (CW (Jh (Hj (tOp rNe (Al 2) (tC (.int 0))))
   (Ey (GK (Ad (Al 2) Bq)))
   Gx)
   (Ard K A Bb Ar Dd))
def Ams(K:Frag)(A:Adr)(Bb Ar Dd:Sp):TS:=
   (CW (Gn (Cy Bb [] E0 (Ad (Al 0) (Ad (Al 1) (Ad (tC (.ref A.Le)) Bq)))) (Ce 2))
   (Arc K A Bb Ar Dd))
theorem Bk8{X:Cx}{A:Adr}{Bb Ar Dd:Sp}(T:Txt X.K X.mg A)(c:Ctx X Ay0 (Ao Adf) 2)(JB:DX X 2 "refusal_of_number" JD Bb)(HX:DX X 1 "find_thing" Kh Ar)(ZV:DX X 2 "let_go" Z7 Dd):PSs X (Ca Adf) (Ams X.K A Bb Ar Dd):=by
 have⟨Bx,Hs⟩:=knl c "state"
 have⟨BK,FW⟩:=knl c "numbers"
 have⟨Ge,Ip⟩:=knl c "refusal"
 have⟨Dj,Gy⟩:=knl c "thing"
 have JF:=kng c "refusal_of_number"
 have J0:=kng c "NUMBER_RANGE"
 have En:=kng c "NOT_REFUSED"
 have Ia:=kng c "find_thing"
 have Aan:=kng c "let_go"
 have Ma:=kng c "NOT_IN_THAT_STATE"
 have Jm:=kng c "len"
 exact(Ak (Dq c 2 Ip (BJ JB (c.room.mono (by decide)) JF (Ab (qv c 0 Bx) (Ab (qv c 1 BK) (Ab (Nf J0 T.J0) Ai)))))
   (Ak (Gs (Ez Ai6 (qv c 2 Ge) (Fp En T.Hq) (Gg _)) (Bc (BR (Dl (Ab (qv c 2 Ge) Ai)))) Ea)
   (Ak (Dq c 3 Gy (BJ HX (c.room.mono (by decide)) Ia (Ab (qv c 0 Bx) (Ab (Km HF (qv c 1 BK) DW (λ_ _=>rfl)) Ai))))
   (Ak (Gs (Ij (CZ (qv c 3 Dj) rfl)) (Bc (BR (Dl (Ab (Fp Ma T.Ov) Ai)))) Ea)
   (Ak (JQ (BJ ZV (c.room.mono (by decide)) Aan (Ab (qv c 0 Bx) (Ab (Dl (Ab (qv c 3 Dj) Ai)) Ai))))
   (Bc (BR (Dl (Ab (G5 Fl Jm T.O9 Ej (Ab (CZ (qv c 0 Bx) rfl) Ai)) Ai)))))))))
def Arb(K:Frag)(A:Adr)(Bb Ar:Sp):TS:=
   (Ey (GK (Ad (tC (.int 0)) Bq)))
def Ara(K:Frag)(A:Adr)(Bb Ar:Sp):TS:=
   (CW (VH K (Al 3) (tOp rEq (tOp (Qs K) (Al 1) (tC (.int 1))) (tC (.int 1))) "bound")
   (Arb K A Bb Ar))
def Aq9(K:Frag)(A:Adr)(Bb Ar:Sp):TS:=
   (CW (Jh (tB (Gm K (Al 3) "promised"))
   (Ey (GK (Ad (tC (.int (-9))) Bq)))
   Gx)
   (Ara K A Bb Ar))
def Aq8(K:Frag)(A:Adr)(Bb Ar:Sp):TS:=
   (CW (Gn (Cy Ar [] E0 (Ad (Al 0) (Ad (tOp (Qs K) (Al 1) (tC (.int 0))) Bq))) (Ce 3))
   (Aq9 K A Bb Ar))
def Aq7(K:Frag)(A:Adr)(Bb Ar:Sp):TS:=
   (CW (Jh (Hj (tOp rNe (Al 2) (tC (.int 0))))
   (Ey (GK (Ad (Al 2) Bq)))
   Gx)
   (Aq8 K A Bb Ar))
def Amq(K:Frag)(A:Adr)(Bb Ar:Sp):TS:=
   (CW (Gn (Cy Bb [] E0 (Ad (Al 0) (Ad (Al 1) (Ad (tC (.ref A.Xg)) Bq)))) (Ce 2))
   (Aq7 K A Bb Ar))
theorem Bk7{X:Cx}{A:Adr}{Bb Ar:Sp}(T:Txt X.K X.mg A)(c:Ctx X Ayz (Ao Ade) 2)(JB:DX X 2 "refusal_of_number" JD Bb)(HX:DX X 1 "find_thing" Kh Ar):PSs X (Ca Ade) (Amq X.K A Bb Ar):=by
 have⟨Bx,Hs⟩:=knl c "state"
 have⟨BK,FW⟩:=knl c "numbers"
 have⟨Ge,Ip⟩:=knl c "refusal"
 have⟨Dj,Gy⟩:=knl c "thing"
 have JF:=kng c "refusal_of_number"
 have Wy:=kng c "BIND_RANGES"
 have En:=kng c "NOT_REFUSED"
 have Ia:=kng c "find_thing"
 have Ma:=kng c "NOT_IN_THAT_STATE"
 exact(Ak (Dq c 2 Ip (BJ JB (c.room.mono (by decide)) JF (Ab (qv c 0 Bx) (Ab (qv c 1 BK) (Ab (Nf Wy T.Wy) Ai)))))
   (Ak (Gs (Ez Ai6 (qv c 2 Ge) (Fp En T.Hq) (Gg _)) (Bc (BR (Dl (Ab (qv c 2 Ge) Ai)))) Ea)
   (Ak (Dq c 3 Gy (BJ HX (c.room.mono (by decide)) Ia (Ab (qv c 0 Bx) (Ab (Km HF (qv c 1 BK) DW (λ_ _=>rfl)) Ai))))
   (Ak (Gs (Ij (CZ (qv c 3 Dj) rfl)) (Bc (BR (Dl (Ab (Fp Ma T.Ov) Ai)))) Ea)
   (Ak (K4 (qv c 3 Dj) (Av4 Bnw (Km HF (qv c 1 BK) DW (λ_ _=>rfl)) DW (Gg _)) rfl)
   (Bc (BR (Dl (Ab DW Ai)))))))))
def Agb(K:Frag)(A:Adr)(Aw Gv Bm:Sp):TS:=
   (Ey (Cy Gv [] E0 (Ad (Al 0) (Ad (Al 3) Bq))))
def Aga(K:Frag)(A:Adr)(Aw Gv Bm:Sp):TS:=
   (CW (VH K (Al 3) (tC (.bl true)) "promised")
   (Agb K A Aw Gv Bm))
def Af9(K:Frag)(A:Adr)(Aw Gv Bm:Sp):TS:=
   (CW (VH K (Al 3) (tC (.bl true)) "bound")
   (Aga K A Aw Gv Bm))
def Af8(K:Frag)(A:Adr)(Aw Gv Bm:Sp):TS:=
   (CW (Gn (Uj A.GJ Bm [] E0 (Ad (Al 1) Bq)) (Ce 3))
   (Af9 K A Aw Gv Bm))
def Af7(K:Frag)(A:Adr)(Aw Gv Bm:Sp):TS:=
   (CW (Jh (Hj (tOp rNe (Al 2) (tC (.int 0))))
   (Ey (GK (Ad (Al 2) Bq)))
   Gx)
   (Af8 K A Aw Gv Bm))
def Aba(K:Frag)(A:Adr)(Aw Gv Bm:Sp):TS:=
   (CW (Gn (Cy Aw [] E0 (Ad (Al 0) (Ad (Al 1) Bq))) (Ce 2))
   (Af7 K A Aw Gv Bm))
theorem Bbm{X:Cx}{A:Adr}{Aw Gv Bm:Sp}(T:Txt X.K X.mg A)(c:Ctx X Akt (Ao Vx) 6)(Jo:DX X 3 "refusal_of_new" Kc Aw)(Aw0:DX X 6 "take_in" Afm Gv)(Ot:MX X 1 A.GJ "Thing" Jt Bm):PSs X (Ca Vx) (Aba X.K A Aw Gv Bm):=by
 have⟨Bx,Hs⟩:=knl c "state"
 have⟨BK,FW⟩:=knl c "numbers"
 have⟨Ge,Ip⟩:=knl c "refusal"
 have⟨Dj,Gy⟩:=knl c "thing"
 have Jw:=kng c "refusal_of_new"
 have En:=kng c "NOT_REFUSED"
 have Ow:=kng c "Thing"
 have Axm:=kng c "take_in"
 exact(Ak (Dq c 2 Ip (BJ Jo (c.room.mono (by decide)) Jw (Ab (qv c 0 Bx) (Ab (qv c 1 BK) Ai))))
   (Ak (Gs (Ez Ai6 (qv c 2 Ge) (Fp En T.Hq) (Gg _)) (Bc (BR (Dl (Ab (qv c 2 Ge) Ai)))) Ea)
   (Ak (Dq c 3 Gy (Vj Ot (c.room.mono (by decide)) Ow (Ab (qv c 1 BK) Ai)))
   (Ak (K4 (qv c 3 Dj) Al5 rfl)
   (Ak (K4 (qv c 3 Dj) Al5 rfl)
   (Bc (BR (BJ Aw0 (c.room.mono (by decide)) Axm (Ab (qv c 0 Bx) (Ab (qv c 3 Dj) Ai))))))))))
def Agc(K:Frag)(A:Adr)(Bb Ar:Sp):TS:=
   (Ey (tC (.int 0)))
def Ug(K:Frag)(A:Adr)(Bb Ar:Sp):TS:=
   (CW (Jh (Yx (tB (Gm K (Cy Ar [] E0 (Ad (Al 0) (Ad (tOp (Qs K) (Al 1) (tC (.int 0))) Bq))) "promised")))
   (Ey (tC (.int (-9))))
   Gx)
   (Agc K A Bb Ar))
def Ue(K:Frag)(A:Adr)(Bb Ar:Sp):TS:=
   (CW (Jh (Hj (tOp rNe (Al 2) (tC (.int 0))))
   (Ey (Al 2))
   Gx)
   (Ug K A Bb Ar))
def QX(K:Frag)(A:Adr)(Bb Ar:Sp):TS:=
   (CW (Gn (Cy Bb [] E0 (Ad (Al 0) (Ad (Al 1) (Ad (tC (.ref A.Le)) Bq)))) (Ce 2))
   (Ue K A Bb Ar))
theorem Ah8{X:Cx}{A:Adr}{Bb Ar:Sp}(T:Txt X.K X.mg A)(c:Ctx X VP (Ao Nk) 2)(JB:DX X 2 "refusal_of_number" JD Bb)(HX:DX X 1 "find_thing" Kh Ar):PSs X (Ca Nk) (QX X.K A Bb Ar):=by
 have⟨Bx,Hs⟩:=knl c "state"
 have⟨BK,FW⟩:=knl c "numbers"
 have⟨Ge,Ip⟩:=knl c "refusal"
 have En:=kng c "NOT_REFUSED"
 have JF:=kng c "refusal_of_number"
 have J0:=kng c "NUMBER_RANGE"
 have Ma:=kng c "NOT_IN_THAT_STATE"
 have Ia:=kng c "find_thing"
 exact(Ak (Dq c 2 Ip (BJ JB (c.room.mono (by decide)) JF (Ab (qv c 0 Bx) (Ab (qv c 1 BK) (Ab (Nf J0 T.J0) Ai)))))
   (Ak (Gs (Ez Ai6 (qv c 2 Ge) (Fp En T.Hq) (Gg _)) (Bc (BR (qv c 2 Ge))) Ea)
   (Ak (Gs (Mt (Ij (CZ (BJ HX (c.room.mono (by decide)) Ia (Ab (qv c 0 Bx) (Ab (Km HF (qv c 1 BK) DW (λ_ _=>rfl)) Ai))) rfl))) (Bc (BR (Fp Ma T.Ov))) Ea)
   (Bc (BR (Fp En T.Hq))))))
def Ajq(K:Frag)(A:Adr)(BW Ar:Sp):TS:=
   (Ey (GK (Ad (tC (.int 0)) Bq)))
def Ajp(K:Frag)(A:Adr)(BW Ar:Sp):TS:=
   (CW (VH K (Al 3) (tC (.bl false)) "promised")
   (Ajq K A BW Ar))
def Ajo(K:Frag)(A:Adr)(BW Ar:Sp):TS:=
   (CW (VH K (Al 3) (tC (.bl false)) "bound")
   (Ajp K A BW Ar))
def Ajn(K:Frag)(A:Adr)(BW Ar:Sp):TS:=
   (CW (Gn (Cy Ar [] E0 (Ad (Al 0) (Ad (tOp (Qs K) (Al 1) (tC (.int 0))) Bq))) (Ce 3))
   (Ajo K A BW Ar))
def Ajm(K:Frag)(A:Adr)(BW Ar:Sp):TS:=
   (CW (Jh (Hj (tOp rNe (Al 2) (tC (.int 0))))
   (Ey (GK (Ad (Al 2) Bq)))
   Gx)
   (Ajn K A BW Ar))
def Aey(K:Frag)(A:Adr)(BW Ar:Sp):TS:=
   (CW (Gn (Cy BW [] E0 (Ad (Al 0) (Ad (Al 1) Bq))) (Ce 2))
   (Ajm K A BW Ar))
theorem Be4{X:Cx}{A:Adr}{BW Ar:Sp}(T:Txt X.K X.mg A)(c:Ctx X Apu (Ao W3) 3)(QS:DX X 3 "refusal_of_promised" KN BW)(HX:DX X 1 "find_thing" Kh Ar):PSs X (Ca W3) (Aey X.K A BW Ar):=by
 have⟨Bx,Hs⟩:=knl c "state"
 have⟨BK,FW⟩:=knl c "numbers"
 have⟨Ge,Ip⟩:=knl c "refusal"
 have⟨Dj,Gy⟩:=knl c "thing"
 have QW:=kng c "refusal_of_promised"
 have En:=kng c "NOT_REFUSED"
 have Ia:=kng c "find_thing"
 exact(Ak (Dq c 2 Ip (BJ QS (c.room.mono (by decide)) QW (Ab (qv c 0 Bx) (Ab (qv c 1 BK) Ai))))
   (Ak (Gs (Ez Ai6 (qv c 2 Ge) (Fp En T.Hq) (Gg _)) (Bc (BR (Dl (Ab (qv c 2 Ge) Ai)))) Ea)
   (Ak (Dq c 3 Gy (BJ HX (c.room.mono (by decide)) Ia (Ab (qv c 0 Bx) (Ab (Km HF (qv c 1 BK) DW (λ_ _=>rfl)) Ai))))
   (Ak (K4 (qv c 3 Dj) Al5 rfl)
   (Ak (K4 (qv c 3 Dj) Al5 rfl)
   (Bc (BR (Dl (Ab DW Ai)))))))))
def Aji(K:Frag)(A:Adr)(BW Dd Ar:Sp):TS:=
   (Ey (GK (Ad (tCB (QG K) (Ad (Gm K (Al 0) "things") Bq)) Bq)))
def Ajh(K:Frag)(A:Adr)(BW Dd Ar:Sp):TS:=
   (CW (Om (Cy Dd [] E0 (Ad (Al 0) (Ad (GK (Ad (Cy Ar [] E0 (Ad (Al 0) (Ad (tOp (Qs K) (Al 1) (tC (.int 0))) Bq))) Bq)) Bq))))
   (Aji K A BW Dd Ar))
def Ajg(K:Frag)(A:Adr)(BW Dd Ar:Sp):TS:=
   (CW (Jh (Hj (tOp rNe (Al 2) (tC (.int 0))))
   (Ey (GK (Ad (Al 2) Bq)))
   Gx)
   (Ajh K A BW Dd Ar))
def Aev(K:Frag)(A:Adr)(BW Dd Ar:Sp):TS:=
   (CW (Gn (Cy BW [] E0 (Ad (Al 0) (Ad (Al 1) Bq))) (Ce 2))
   (Ajg K A BW Dd Ar))
theorem Be2{X:Cx}{A:Adr}{BW Dd Ar:Sp}(T:Txt X.K X.mg A)(c:Ctx X Aps (Ao W0) 3)(QS:DX X 3 "refusal_of_promised" KN BW)(ZV:DX X 2 "let_go" Z7 Dd)(HX:DX X 1 "find_thing" Kh Ar):PSs X (Ca W0) (Aev X.K A BW Dd Ar):=by
 have⟨Bx,Hs⟩:=knl c "state"
 have⟨BK,FW⟩:=knl c "numbers"
 have⟨Ge,Ip⟩:=knl c "refusal"
 have QW:=kng c "refusal_of_promised"
 have En:=kng c "NOT_REFUSED"
 have Aan:=kng c "let_go"
 have Jm:=kng c "len"
 have Ia:=kng c "find_thing"
 exact(Ak (Dq c 2 Ip (BJ QS (c.room.mono (by decide)) QW (Ab (qv c 0 Bx) (Ab (qv c 1 BK) Ai))))
   (Ak (Gs (Ez Ai6 (qv c 2 Ge) (Fp En T.Hq) (Gg _)) (Bc (BR (Dl (Ab (qv c 2 Ge) Ai)))) Ea)
   (Ak (JQ (BJ ZV (c.room.mono (by decide)) Aan (Ab (qv c 0 Bx) (Ab (Dl (Ab (BJ HX (c.room.mono (by decide)) Ia (Ab (qv c 0 Bx) (Ab (Km HF (qv c 1 BK) DW (λ_ _=>rfl)) Ai))) Ai)) Ai))))
   (Bc (BR (Dl (Ab (G5 Fl Jm T.O9 Ej (Ab (CZ (qv c 0 Bx) rfl) Ai)) Ai)))))))
def Asa(K:Frag)(A:Adr)(Dd Ag Af:Sp):TS:=
   (Ey (tOp Wi (GK (Ad (Al 2) Bq)) (Cy Af [] E0 (Ad (Al 3) Bq))))
def Ar9(K:Frag)(A:Adr)(Dd Ag Af:Sp):TS:=
   (CW (Om (Cy Dd [] E0 (Ad (Al 0) (Ad (Al 3) Bq))))
   (Asa K A Dd Ag Af))
def Ar8(K:Frag)(A:Adr)(Dd Ag Af:Sp):TS:=
   (CW (Gn (tLc (Jy K (Gm K (Al 0) "things")) (Ce 4) (Hj (tOp (rI0 λi j=>.bl (decide (i<=j))) (Gm K (Al 4) "end") (Al 2))) (Al 4) [4]) (Ce 3))
   (Ar9 K A Dd Ag Af))
def Ar7(K:Frag)(A:Adr)(Dd Ag Af:Sp):TS:=
   (CW (VH K (Al 0) (Al 2) "moment")
   (Ar8 K A Dd Ag Af))
def Ar6(K:Frag)(A:Adr)(Dd Ag Af:Sp):TS:=
   (CW (Jh (Hj (tOp (rI0 λi j=>.bl (decide (j<i))) (Al 2) (tC (.int 100000))))
   (Ey (GK (Ad (tC (.int (-3))) Bq)))
   Gx)
   (Ar7 K A Dd Ag Af))
def Ar5(K:Frag)(A:Adr)(Dd Ag Af:Sp):TS:=
   (CW (Gn (tOp (rI0 λi j=>.int (i+j)) (Gm K (Al 0) "moment") (tOp (Qs K) (Al 1) (tC (.int 0)))) (Ce 2))
   (Ar6 K A Dd Ag Af))
def Anj(K:Frag)(A:Adr)(Dd Ag Af:Sp):TS:=
   (CW (Jh (Yx (tB (Cy Ag [] E0 (Ad (Al 1) (Ad (tC (.ref A.ZK)) Bq)))))
   (Ey (GK (Ad (tC (.int (-1))) Bq)))
   Gx)
   (Ar5 K A Dd Ag Af))
theorem Bli{X:Cx}{A:Adr}{Dd Ag Af:Sp}(T:Txt X.K X.mg A)(c:Ctx X Ay9 (Ao Ado) 2)(ZV:DX X 2 "let_go" Z7 Dd)(Fx:DX X 1 "in_ranges" Iw Ag)(Fg:DX X 1 "tell_things" HD Af):PSs X (Ca Ado) (Anj X.K A Dd Ag Af):=by
 have⟨Bx,Hs⟩:=knl c "state"
 have⟨BK,FW⟩:=knl c "numbers"
 have⟨Anz,Bnh⟩:=knc c "moment"
 have⟨Awv,Br3⟩:=knl c "ended"
 have Bf7:=kng c "LAST_MOMENT"
 have Aan:=kng c "let_go"
 have Fy:=kng c "in_ranges"
 have Zi:=kng c "TICK_RANGE"
 have CV:=kng c "OUT_OF_RANGE"
 have Yh:=kng c "BEYOND_BOUNDS"
 have Fj:=kng c "tell_things"
 exact(Ak (Gs (Mt (Ij (BJ Fx (c.room.mono (by decide)) Fy (Ab (qv c 1 BK) (Ab (Nf Zi T.Zi) Ai))))) (Bc (BR (Dl (Ab (Fp CV T.FN) Ai)))) Ea)
   (Ak (Dq c 2 Bnh (J6 Ax7 (CZ (qv c 0 Bx) rfl) (Km HF (qv c 1 BK) DW (λ_ _=>rfl))))
   (Ak (Gs (Ez Al3 (qv c 2 Anz) (Fp Bf7 T.Ap8) (Gg _)) (Bc (BR (Dl (Ab (Fp Yh T.Yg) Ai)))) Ea)
   (Ak (K4 (qv c 0 Bx) (qv c 2 Anz) rfl)
   (Ak (Af0 c (i:=3) (by decide+kernel) (own:=[("thing",4)]) (G3 (CZ (qv c 0 Bx) rfl)) (by decide+kernel) (λs H C cl fp=>(Mr c 4 (by decide+kernel))) (λs H C cl fp=>(Ahg (Ez Beg (CZ (Kf c 4 (by decide+kernel)) rfl) (Wa c 2 (by decide+kernel)) (Gg _)))) (λs H C cl fp=>(Kf c 4 (by decide+kernel))) (by decide+kernel))
   (Ak (JQ (BJ ZV (c.room.mono (by decide)) Aan (Ab (qv c 0 Bx) (Ab (qv c 3 Awv) Ai))))
   (Bc (BR (J6 Ly (Dl (Ab (qv c 2 Anz) Ai)) (BJ Fg (c.room.mono (by decide)) Fj (Ab (qv c 3 Awv) Ai)))))))))))
def Ahq(K:Frag)(A:Adr)(Af:Sp):TS:=
   (Ey (Cy Af [] E0 (Ad (Gm K (Al 0) "things") Bq)))
theorem Bgz{X:Cx}{A:Adr}{Af:Sp}(T:Txt X.K X.mg A)(c:Ctx X Aue (Ao Zu) 1)(Fg:DX X 1 "tell_things" HD Af):PSs X (Ca Zu) (Ahq X.K A Af):=by
 have⟨Bx,Hs⟩:=knl c "state"
 have⟨BK,FW⟩:=knl c "numbers"
 have Fj:=kng c "tell_things"
 exact(Bc (BR (BJ Fg (c.room.mono (by decide)) Fj (Ab (CZ (qv c 0 Bx) rfl) Ai))))
def Arz(K:Frag)(A:Adr)(Bb Ar:Sp):TS:=
   (Ey (tOp Wi (Al 4) (GK (Ad (tIf (tB (Gm K (Al 3) "bound")) (tC (.int 1)) (tC (.int 0))) (Ad (tIf (tB (Gm K (Al 3) "promised")) (tC (.int 1)) (tC (.int 0))) Bq)))))
def Ary(K:Frag)(A:Adr)(Bb Ar:Sp):TS:=
   (CW (Gn (GK (Ad (Gm K (Al 3) "number") (Ad (Gm K (Al 3) "size") (Ad (Gm K (Al 3) "rank") (Ad (Gm K (Al 3) "end") (Ad (Gm K (Al 3) "sender") (Ad (Gm K (Al 3) "worth") Bq))))))) (Ce 4))
   (Arz K A Bb Ar))
def Arx(K:Frag)(A:Adr)(Bb Ar:Sp):TS:=
   (CW (Gn (Cy Ar [] E0 (Ad (Al 0) (Ad (tOp (Qs K) (Al 1) (tC (.int 0))) Bq))) (Ce 3))
   (Ary K A Bb Ar))
def Arw(K:Frag)(A:Adr)(Bb Ar:Sp):TS:=
   (CW (Jh (Hj (tOp rNe (Al 2) (tC (.int 0))))
   (Ey (GK (Ad (Al 2) Bq)))
   Gx)
   (Arx K A Bb Ar))
def Am0(K:Frag)(A:Adr)(Bb Ar:Sp):TS:=
   (CW (Gn (Cy Bb [] E0 (Ad (Al 0) (Ad (Al 1) (Ad (tC (.ref A.Le)) Bq)))) (Ce 2))
   (Arw K A Bb Ar))
theorem Ble{X:Cx}{A:Adr}{Bb Ar:Sp}(T:Txt X.K X.mg A)(c:Ctx X Ay5 (Ao Adk) 2)(JB:DX X 2 "refusal_of_number" JD Bb)(HX:DX X 1 "find_thing" Kh Ar):PSs X (Ca Adk) (Am0 X.K A Bb Ar):=by
 have⟨Bx,Hs⟩:=knl c "state"
 have⟨BK,FW⟩:=knl c "numbers"
 have⟨Ge,Ip⟩:=knl c "refusal"
 have⟨Dj,Gy⟩:=knl c "thing"
 have⟨Abl,Bdq⟩:=knl c "six"
 have JF:=kng c "refusal_of_number"
 have J0:=kng c "NUMBER_RANGE"
 have En:=kng c "NOT_REFUSED"
 have Ia:=kng c "find_thing"
 exact(Ak (Dq c 2 Ip (BJ JB (c.room.mono (by decide)) JF (Ab (qv c 0 Bx) (Ab (qv c 1 BK) (Ab (Nf J0 T.J0) Ai)))))
   (Ak (Gs (Ez Ai6 (qv c 2 Ge) (Fp En T.Hq) (Gg _)) (Bc (BR (Dl (Ab (qv c 2 Ge) Ai)))) Ea)
   (Ak (Dq c 3 Gy (BJ HX (c.room.mono (by decide)) Ia (Ab (qv c 0 Bx) (Ab (Km HF (qv c 1 BK) DW (λ_ _=>rfl)) Ai))))
   (Ak (Dq c 4 Bdq (Dl (Ab (CZ (qv c 3 Dj) rfl) (Ab (CZ (qv c 3 Dj) rfl) (Ab (CZ (qv c 3 Dj) rfl) (Ab (CZ (qv c 3 Dj) rfl) (Ab (CZ (qv c 3 Dj) rfl) (Ab (CZ (qv c 3 Dj) rfl) Ai))))))))
   (Bc (BR (J6 Ly (qv c 4 Abl) (Dl (Ab (Al6 (Ij (CZ (qv c 3 Dj) rfl)) DW DW) (Ab (Al6 (Ij (CZ (qv c 3 Dj) rfl)) DW DW) Ai))))))))))
def Asb(K:Frag)(A:Adr)(Dm CG:Sp):TS:=
   (Ey (tOp Wi (Al 2) (Cy CG [] E0 (Ad (Gm K (Al 0) "things") Bq))))
def Ank(K:Frag)(A:Adr)(Dm CG:Sp):TS:=
   (CW (Gn (GK (Ad (Gm K (Al 0) "moment") (Ad (Gm K (Gm K (Al 0) "bounds") "room") (Ad (Cy Dm [] E0 (Ad (Gm K (Al 0) "things") Bq)) (Ad (tCB (QG K) (Ad (Gm K (Al 0) "things") Bq)) Bq))))) (Ce 2))
   (Asb K A Dm CG))
theorem Blj{X:Cx}{A:Adr}{Dm CG:Sp}(T:Txt X.K X.mg A)(c:Ctx X Aza (Ao Adp) 1)(Uo:DX X 1 "whole_size" Rv Dm)(R4:DX X 1 "sizes_up_to_ranks" LR CG):PSs X (Ca Adp) (Ank X.K A Dm CG):=by
 have⟨Bx,Hs⟩:=knl c "state"
 have⟨BK,FW⟩:=knl c "numbers"
 have⟨Py,Va⟩:=knl c "answer"
 have U7:=kng c "whole_size"
 have Jm:=kng c "len"
 have R6:=kng c "sizes_up_to_ranks"
 exact(Ak (Dq c 2 Va (Dl (Ab (CZ (qv c 0 Bx) rfl) (Ab (CZ (CZ (qv c 0 Bx) rfl) rfl) (Ab (BJ Uo (c.room.mono (by decide)) U7 (Ab (CZ (qv c 0 Bx) rfl) Ai)) (Ab (G5 Fl Jm T.O9 Ej (Ab (CZ (qv c 0 Bx) rfl) Ai)) Ai))))))
   (Bc (BR (J6 Ly (qv c 2 Py) (BJ R4 (c.room.mono (by decide)) R6 (Ab (CZ (qv c 0 Bx) rfl) Ai))))))
def Ac7(K:Frag)(A:Adr)(Ag Ir:Sp):TS:=
   (Ey (GK (Ad (Cy Ir [] E0 (Ad (Gm K (Al 0) "bounds") (Ad (Gm K (Al 0) "things") (Ad (tOp (Qs K) (Al 1) (tC (.int 0))) (Ad (tOp (Qs K) (Al 1) (tC (.int 1))) (Ad (tOp (Qs K) (Al 1) (tC (.int 2))) Bq)))))) Bq)))
def Ac6(K:Frag)(A:Adr)(Ag Ir:Sp):TS:=
   (CW (Jh (Hj (tOp (rI0 λi j=>.bl (decide (i<=j))) (tOp (Qs K) (Al 1) (tC (.int 1))) (Gm K (Al 0) "moment")))
   (Ey (GK (Ad (tC (.int 0)) Bq)))
   Gx)
   (Ac7 K A Ag Ir))
def Yr(K:Frag)(A:Adr)(Ag Ir:Sp):TS:=
   (CW (Jh (Yx (tB (Cy Ag [] E0 (Ad (Al 1) (Ad (tC (.ref A.Rg)) Bq)))))
   (Ey (GK (Ad (tC (.int (-1))) Bq)))
   Gx)
   (Ac6 K A Ag Ir))
theorem Ayk{X:Cx}{A:Adr}{Ag Ir:Sp}(T:Txt X.K X.mg A)(c:Ctx X Ail (Ao Tq) 4)(Fx:DX X 1 "in_ranges" Iw Ag)(Bak:DX X 4 "greatest_size" S9 Ir):PSs X (Ca Tq) (Yr X.K A Ag Ir):=by
 have⟨Bx,Hs⟩:=knl c "state"
 have⟨BK,FW⟩:=knl c "numbers"
 have Fy:=kng c "in_ranges"
 have Q7:=kng c "GREATEST_RANGES"
 have CV:=kng c "OUT_OF_RANGE"
 have Ba8:=kng c "greatest_size"
 exact(Ak (Gs (Mt (Ij (BJ Fx (c.room.mono (by decide)) Fy (Ab (qv c 1 BK) (Ab (Nf Q7 T.Q7) Ai))))) (Bc (BR (Dl (Ab (Fp CV T.FN) Ai)))) Ea)
   (Ak (Gs (Ez Beg (Km HF (qv c 1 BK) DW (λ_ _=>rfl)) (CZ (qv c 0 Bx) rfl) (Gg _)) (Bc (BR (Dl (Ab DW Ai)))) Ea)
   (Bc (BR (Dl (Ab (BJ Bak (c.room.mono (by decide)) Ba8 (Ab (CZ (qv c 0 Bx) rfl) (Ab (CZ (qv c 0 Bx) rfl) (Ab (Km HF (qv c 1 BK) DW (λ_ _=>rfl)) (Ab (Km HF (qv c 1 BK) DW (λ_ _=>rfl)) (Ab (Km HF (qv c 1 BK) DW (λ_ _=>rfl)) Ai)))))) Ai))))))
def Aru(K:Frag)(A:Adr)(Af Ag Dm:Sp):TS:=
   (Ey (Cy Af [] E0 (Ad (Al 2) Bq)))
def Art(K:Frag)(A:Adr)(Af Ag Dm:Sp):TS:=
   (CW (SN (Cdm K (Ad (Gm K (Al 0) "things") Bq)) (Ce 3)
   (Jh (Bu3 (Yx (tB (Gm K (Al 3) "bound"))) (Hj (tOp (rI0 λi j=>.bl (decide (i<j))) (Cy Dm [] E0 (Ad (Al 2) Bq)) (tOp (Qs K) (Al 1) (tC (.int 0))))))
   (Om (tBM K "list" Qq (Al 2) (Ad (Al 3) Bq)))
   Gx))
   (Aru K A Af Ag Dm))
def Ars(K:Frag)(A:Adr)(Af Ag Dm:Sp):TS:=
   (CW (Gn (GK Bq) (Ce 2))
   (Art K A Af Ag Dm))
def Amw(K:Frag)(A:Adr)(Af Ag Dm:Sp):TS:=
   (CW (Jh (Yx (tB (Cy Ag [] E0 (Ad (Al 1) (Ad (tC (.ref A.ZG)) Bq)))))
   (Ey (GK (Ad (tC (.int (-1))) Bq)))
   Gx)
   (Ars K A Af Ag Dm))
theorem Blc{X:Cx}{A:Adr}{Af Ag Dm:Sp}(T:Txt X.K X.mg A)(c:Ctx X Ay3 (Ao Adi) 1)(Fg:DX X 1 "tell_things" HD Af)(Fx:DX X 1 "in_ranges" Iw Ag)(Uo:DX X 1 "whole_size" Rv Dm):PSs X (Ca Adi) (Amw X.K A Af Ag Dm):=by
 have⟨Bx,Hs⟩:=knl c "state"
 have⟨BK,FW⟩:=knl c "numbers"
 have⟨Blq,Bzl⟩:=knl c "going"
 have⟨Dj,Gy⟩:=knl c "thing"
 have As8:=kng c "reversed"
 have Fj:=kng c "tell_things"
 have Fy:=kng c "in_ranges"
 have Zg:=kng c "GOES_RANGE"
 have CV:=kng c "OUT_OF_RANGE"
 have U7:=kng c "whole_size"
 exact(Ak (Gs (Mt (Ij (BJ Fx (c.room.mono (by decide)) Fy (Ab (qv c 1 BK) (Ab (Nf Zg T.Zg) Ai))))) (Bc (BR (Dl (Ab (Fp CV T.FN) Ai)))) Ea)
   (Ak (Dq c 2 Bzl (Dl Ai))
   (Ak (Ko c (Bn4 As8 T.As0 (Ab (CZ (qv c 0 Bx) rfl) Ai)) (Hi c 3 Gy) (Bc (Gs (PW.pt (Bem (Mt (Ij (CZ (qv c 3 Dj) rfl))) (Av7 (Ez Bnx (BJ Uo (c.room.mono (by decide)) U7 (Ab (qv c 2 Blq) Ai)) (Km HF (qv c 1 BK) DW (λ_ _=>rfl)) (Gg _))))) (Bc (JQ (Vf Dk Eu Ew MP (qv c 2 Blq) (Ab (qv c 3 Dj) Ai)))) Ea)))
   (Bc (BR (BJ Fg (c.room.mono (by decide)) Fj (Ab (qv c 2 Blq) Ai)))))))
def Am3(K:Frag)(A:Adr)(Af Ag:Sp):TS:=
   (Ey (Cy Af [] E0 (Ad (tLc (Jy K (Gm K (Al 0) "things")) (Ce 2) (Hj (tOp (rI0 λi j=>.bl (decide (i<=j))) (Gm K (Al 2) "end") (tOp (Qs K) (Al 1) (tC (.int 0))))) (Al 2) [2]) Bq)))
def Ahs(K:Frag)(A:Adr)(Af Ag:Sp):TS:=
   (CW (Jh (Yx (tB (Cy Ag [] E0 (Ad (Al 1) (Ad (tC (.ref A.Xh)) Bq)))))
   (Ey (GK (Ad (tC (.int (-1))) Bq)))
   Gx)
   (Am3 K A Af Ag))
theorem Bg1{X:Cx}{A:Adr}{Af Ag:Sp}(T:Txt X.K X.mg A)(c:Ctx X Auh (Ao Zv) 1)(Fg:DX X 1 "tell_things" HD Af)(Fx:DX X 1 "in_ranges" Iw Ag):PSs X (Ca Zv) (Ahs X.K A Af Ag):=by
 have⟨Bx,Hs⟩:=knl c "state"
 have⟨BK,FW⟩:=knc c "numbers"
 have Fj:=kng c "tell_things"
 have Fy:=kng c "in_ranges"
 have Wz:=kng c "LASTS_RANGE"
 have CV:=kng c "OUT_OF_RANGE"
 exact(Ak (Gs (Mt (Ij (BJ Fx (c.room.mono (by decide)) Fy (Ab (qv c 1 BK) (Ab (Nf Wz T.Wz) Ai))))) (Bc (BR (Dl (Ab (Fp CV T.FN) Ai)))) Ea)
   (Bc (BR (BJ Fg (c.room.mono (by decide)) Fj (Ab (Ben c (own:=[("thing",2)]) (G3 (CZ (qv c 0 Bx) rfl)) (by decide+kernel) (λs H C cl fp=>(Mr c 2 (by decide+kernel))) (λs H C cl fp=>(Ahg (Ez Beg (CZ (Kf c 2 (by decide+kernel)) rfl) (Km HF (Wa c 1 (by decide+kernel)) DW (λ_ _=>rfl)) (Gg _)))) (λs H C cl fp=>(Kf c 2 (by decide+kernel)))) Ai)))))
def Abg(K:Frag)(A:Adr)(Dn:Sp):TS:=
   (Ey (Cy Dn [] E0 (Ad (Gm K (Al 0) "things") Bq)))
theorem Bbn{X:Cx}{A:Adr}{Dn:Sp}(T:Txt X.K X.mg A)(c:Ctx X Aku (Ao Vy) 1)(Tz:DX X 1 "sizes_of_senders" M6 Dn):PSs X (Ca Vy) (Abg X.K A Dn):=by
 have⟨Bx,Hs⟩:=knl c "state"
 have⟨BK,FW⟩:=knl c "numbers"
 have TV:=kng c "sizes_of_senders"
 exact(Bc (BR (BJ Tz (c.room.mono (by decide)) TV (Ab (CZ (qv c 0 Bx) rfl) Ai))))
def Ar4(K:Frag)(A:Adr)(Ag:Sp):TS:=
   (Ey (GK (Ad (tCB Cd6 (Ad (tC (.int 0)) (Ad (tOp (rI0 λi j=>.int (i-j)) (Gm K (Gm K (Al 0) "bounds") "room") (tOp (Qs K) (Gm K (Gm K (Al 0) "bounds") "limits") (tOp (rI0 λi j=>.int (i-j)) (Al 2) (tC (.int 1))))) Bq))) Bq)))
def Ar3(K:Frag)(A:Adr)(Ag:Sp):TS:=
   (CW (Jh (Hj (tOp rEq (Al 2) (tC (.int 0))))
   (Ey (GK (Ad (tC (.int 0)) Bq)))
   Gx)
   (Ar4 K A Ag))
def Ar2(K:Frag)(A:Adr)(Ag:Sp):TS:=
   (CW (Gn (tOp (Qs K) (Al 1) (tC (.int 0))) (Ce 2))
   (Ar3 K A Ag))
def Ani(K:Frag)(A:Adr)(Ag:Sp):TS:=
   (CW (Jh (Yx (tB (Cy Ag [] E0 (Ad (Al 1) (Ad (tC (.ref A.ZJ)) Bq)))))
   (Ey (GK (Ad (tC (.int (-1))) Bq)))
   Gx)
   (Ar2 K A Ag))
theorem Blh{X:Cx}{A:Adr}{Ag:Sp}(T:Txt X.K X.mg A)(c:Ctx X Ay8 (Ao Adn) 1)(Fx:DX X 1 "in_ranges" Iw Ag):PSs X (Ca Adn) (Ani X.K A Ag):=by
 have⟨Bx,Hs⟩:=knl c "state"
 have⟨BK,FW⟩:=knl c "numbers"
 have⟨Abk,Axr⟩:=knl c "rank"
 have Fy:=kng c "in_ranges"
 have Zh:=kng c "SURE_RANGE"
 have CV:=kng c "OUT_OF_RANGE"
 have Bwn:=kng c "max"
 exact(Ak (Gs (Mt (Ij (BJ Fx (c.room.mono (by decide)) Fy (Ab (qv c 1 BK) (Ab (Nf Zh T.Zh) Ai))))) (Bc (BR (Dl (Ab (Fp CV T.FN) Ai)))) Ea)
   (Ak (Dq c 2 Axr (Km HF (qv c 1 BK) DW (λ_ _=>rfl)))
   (Ak (Gs (Ez Bnw (qv c 2 Abk) DW (Gg _)) (Bc (BR (Dl (Ab DW Ai)))) Ea)
   (Bc (BR (Dl (Ab (G5 (Btp c.calm) Bwn T.Bv1 boot_max (Ab DW (Ab (J6 Bqf (CZ (CZ (qv c 0 Bx) rfl) rfl) (Km HF (CZ (CZ (qv c 0 Bx) rfl) rfl) (J6 Bqf (qv c 2 Abk) DW) (λ_ _=>rfl))) Ai))) Ai)))))))
def Ac5(K:Frag)(A:Adr)(Aw El Cq Af Ei Dg Bm:Sp):TS:=
   (Ey (tOp Wi (GK (Ad (tC (.int 1)) (Ad (Cy Dg [] E0 (Ad (Al 4) Bq)) Bq))) (Cy Af [] E0 (Ad (Al 4) Bq))))
def Ac4(K:Frag)(A:Adr)(Aw El Cq Af Ei Dg Bm:Sp):TS:=
   (CW (Gn (Cy El [] E0 (Ad (Gm K (Al 0) "bounds") (Ad (Gm K (Al 0) "things") (Ad (Al 3) Bq)))) (Ce 4))
   (Ac5 K A Aw El Cq Af Ei Dg Bm))
def Ac3(K:Frag)(A:Adr)(Aw El Cq Af Ei Dg Bm:Sp):TS:=
   (CW (Jh (Yx (tB (Cy Cq [] E0 (Ad (Gm K (Al 0) "bounds") (Ad (Gm K (Al 0) "things") (Ad (Al 3) Bq))))))
   (Ey (GK (Ad (tC (.int 0)) Bq)))
   Gx)
   (Ac4 K A Aw El Cq Af Ei Dg Bm))
def Ac2(K:Frag)(A:Adr)(Aw El Cq Af Ei Dg Bm:Sp):TS:=
   (CW (Jh (Hj (tOp (rI0 λi j=>.bl (decide (j<i))) (tCB (QG K) (Ad (Cy Ei [] E0 (Ad (Gm K (Al 0) "things") (Ad (Al 3) Bq))) Bq)) (tC (.int 12))))
   (Ey (GK (Ad (tC (.int (-4))) Bq)))
   Gx)
   (Ac3 K A Aw El Cq Af Ei Dg Bm))
def Ac1(K:Frag)(A:Adr)(Aw El Cq Af Ei Dg Bm:Sp):TS:=
   (CW (Gn (Uj A.GJ Bm [] E0 (Ad (Al 1) Bq)) (Ce 3))
   (Ac2 K A Aw El Cq Af Ei Dg Bm))
def Ac0(K:Frag)(A:Adr)(Aw El Cq Af Ei Dg Bm:Sp):TS:=
   (CW (Jh (Hj (tOp rNe (Al 2) (tC (.int 0))))
   (Ey (GK (Ad (Al 2) Bq)))
   Gx)
   (Ac1 K A Aw El Cq Af Ei Dg Bm))
def Yp(K:Frag)(A:Adr)(Aw El Cq Af Ei Dg Bm:Sp):TS:=
   (CW (Gn (Cy Aw [] E0 (Ad (Al 0) (Ad (Al 1) Bq))) (Ce 2))
   (Ac0 K A Aw El Cq Af Ei Dg Bm))
theorem Ayi{X:Cx}{A:Adr}{Aw El Cq Af Ei Dg Bm:Sp}(T:Txt X.K X.mg A)(c:Ctx X Aij (Ao Tj) 4)(Jo:DX X 3 "refusal_of_new" Kc Aw)(At1:DX X 4 "cheapest_choice" Q6 El)(Tw:DX X 4 "is_taken" TF Cq)(Fg:DX X 1 "tell_things" HD Af)(Akk:DX X 3 "may_go" Afl Ei)(Od:DX X 1 "whole_worth" Og Dg)(Ot:MX X 1 A.GJ "Thing" Jt Bm):PSs X (Ca Tj) (Yp X.K A Aw El Cq Af Ei Dg Bm):=by
 have⟨Bx,Hs⟩:=knl c "state"
 have⟨BK,FW⟩:=knl c "numbers"
 have⟨Ge,Ip⟩:=knl c "refusal"
 have⟨Dj,Gy⟩:=knl c "thing"
 have⟨Nh,Aao⟩:=knl c "chosen"
 have Jw:=kng c "refusal_of_new"
 have En:=kng c "NOT_REFUSED"
 have Ow:=kng c "Thing"
 have Axl:=kng c "MOST_TO_CHOOSE"
 have Avs:=kng c "cheapest_choice"
 have Jm:=kng c "len"
 have Avr:=kng c "TOO_MANY_MAY_GO"
 have TQ:=kng c "is_taken"
 have Fj:=kng c "tell_things"
 have Aln:=kng c "may_go"
 have Oj:=kng c "whole_worth"
 exact(Ak (Dq c 2 Ip (BJ Jo (c.room.mono (by decide)) Jw (Ab (qv c 0 Bx) (Ab (qv c 1 BK) Ai))))
   (Ak (Gs (Ez Ai6 (qv c 2 Ge) (Fp En T.Hq) (Gg _)) (Bc (BR (Dl (Ab (qv c 2 Ge) Ai)))) Ea)
   (Ak (Dq c 3 Gy (Vj Ot (c.room.mono (by decide)) Ow (Ab (qv c 1 BK) Ai)))
   (Ak (Gs (Ez Al3 (G5 Fl Jm T.O9 Ej (Ab (BJ Akk (c.room.mono (by decide)) Aln (Ab (CZ (qv c 0 Bx) rfl) (Ab (qv c 3 Dj) Ai))) Ai)) (Fp Axl T.Afp) (Gg _)) (Bc (BR (Dl (Ab (Fp Avr T.Acg) Ai)))) Ea)
   (Ak (Gs (Mt (Ij (BJ Tw (c.room.mono (by decide)) TQ (Ab (CZ (qv c 0 Bx) rfl) (Ab (CZ (qv c 0 Bx) rfl) (Ab (qv c 3 Dj) Ai)))))) (Bc (BR (Dl (Ab DW Ai)))) Ea)
   (Ak (Dq c 4 Aao (BJ At1 (c.room.mono (by decide)) Avs (Ab (CZ (qv c 0 Bx) rfl) (Ab (CZ (qv c 0 Bx) rfl) (Ab (qv c 3 Dj) Ai)))))
   (Bc (BR (J6 Ly (Dl (Ab DW (Ab (BJ Od (c.room.mono (by decide)) Oj (Ab (qv c 4 Nh) Ai)) Ai))) (BJ Fg (c.room.mono (by decide)) Fj (Ab (qv c 4 Nh) Ai)))))))))))
def Amr(K:Frag)(A:Adr)(MJ:Sp):TS:=
   (Ey (GK (Ad (tC (.int 0)) Bq)))
def Ahl(K:Frag)(A:Adr)(MJ:Sp):TS:=
   (CW (Om (Cy MJ [] E0 (Ad (Al 0) Bq)))
   (Amr K A MJ))
theorem Bgw{X:Cx}{A:Adr}{MJ:Sp}(T:Txt X.K X.mg A)(c:Ctx X Aub (Ao Zq) 5)(Biv:DX X 5 "start_anew" Zc MJ):PSs X (Ca Zq) (Ahl X.K A MJ):=by
 have⟨Bx,Hs⟩:=knl c "state"
 have⟨BK,FW⟩:=knl c "numbers"
 have Bjv:=kng c "start_anew"
 exact(Ak (JQ (BJ Biv (c.room.mono (by decide)) Bjv (Ab (qv c 0 Bx) Ai)))
   (Bc (BR (Dl (Ab DW Ai)))))
def V2(X:Cx)(K:Frag)(A:Adr):TS:=
   (Ey (Bqv X 7 3 (Ad (Al 0) (Ad (Al 2) Bq))))
def R7(X:Cx)(K:Frag)(A:Adr):TS:=
   (CW (Gn (tOp (Bqj A.Xi A.Aeh) (tC (.ref A.Xi)) (Al 1)) (Ce 3))
   (V2 X K A))
theorem Anu{X:Cx}{A:Adr}(T:Txt X.K X.mg A)(c:Ctx X YB (Ao Ox) 8):PSs X (Ca Ox) (R7 X X.K A):=by
 have⟨Bx,Hs⟩:=knl c "state"
 have⟨Lg,Xx⟩:=knl c "number"
 have⟨BK,FW⟩:=knl c "numbers"
 have⟨Bq2,Bpy⟩:=knl c "call"
 have WD:=kng c "STORE_CALLS"
 exact(Ak (Dq c 3 Bpy (Bsw T.Aqg (Nf WD T.WD) (qv c 1 Lg) (λ_ _=>rfl)))
   (Bc (BR (Bsv (j:=7) c 3 Bq2 (c.room.mono (by decide)) (Ab (qv c 0 Bx) (Ab (qv c 2 BK) Ai))))))
def Ajb(K:Frag)(A:Adr)(KD HW IK:Sp):TS:=
   (Ey (Cy HW [] E0 (Ad (Al 0) (Ad (Al 1) (Ad (Al 2) Bq)))))
def Aer(K:Frag)(A:Adr)(KD HW IK:Sp):TS:=
   (CW (Jh (tB (Cy KD [] E0 (Ad (Al 1) Bq)))
   (Ey (Cy IK [] E0 (Ad (Gm K (Al 0) "bounds") (Ad (Al 1) (Ad (Al 2) Bq)))))
   Gx)
   (Ajb K A KD HW IK))
theorem Bez{X:Cx}{A:Adr}{KD HW IK:Sp}(T:Txt X.K X.mg A)(c:Ctx X Apn (Ao WW) 11)(Bb7:DX X 11 "is_list_call" Uw KD)(Aoy:DX X 9 "answer_store_call" Ou HW)(Ash:DX X 11 "answer_list_call" P0 IK):PSs X (Ca WW) (Aer X.K A KD HW IK):=by
 have⟨Bx,Hs⟩:=knl c "state"
 have⟨Lg,Xx⟩:=knl c "number"
 have⟨BK,FW⟩:=knl c "numbers"
 have Bde:=kng c "is_list_call"
 have Ao7:=kng c "answer_store_call"
 have As5:=kng c "answer_list_call"
 exact(Ak (Gs (Ij (BJ Bb7 (c.room.mono (by decide)) Bde (Ab (qv c 1 Lg) Ai))) (Bc (BR (BJ Ash (c.room.mono (by decide)) As5 (Ab (CZ (qv c 0 Bx) rfl) (Ab (qv c 1 Lg) (Ab (qv c 2 BK) Ai)))))) Ea)
   (Bc (BR (BJ Aoy (c.room.mono (by decide)) Ao7 (Ab (qv c 0 Bx) (Ab (qv c 1 Lg) (Ab (qv c 2 BK) Ai)))))))
def Az8(K:Frag)(A:Adr)(Im Ik Je:Sp):TS:=
   (Ey (Al 2))
def Az7(K:Frag)(A:Adr)(Im Ik Je:Sp):TS:=
   (CW (SN (Jy K (Cy Im [] E0 (Ad (Al 0) Bq))) (Bdd K 2 (Sy (Ce 3) (Sy (Ce 4) Bdc)))
   (CW (Gn (Cy Ik [] E0 (Ad (Al 1) (Ad (Al 3) (Ad (Al 4) Bq)))) (Ce 5))
   (CW (Om (tBM K "list" Qq (Al 2) (Ad (tCB (QG K) (Ad (Al 5) Bq)) Bq)))
   (Om (tBM K "list" (Aa3 K) (Al 2) (Ad (Al 5) Bq))))))
   (Az8 K A Im Ik Je))
def Az6(K:Frag)(A:Adr)(Im Ik Je:Sp):TS:=
   (CW (Gn (GK Bq) (Ce 2))
   (Az7 K A Im Ik Je))
def Ayb(K:Frag)(A:Adr)(Im Ik Je:Sp):TS:=
   (CW (Gn (Uj A.Gq Je [] E0 Bq) (Ce 1))
   (Az6 K A Im Ik Je))
theorem Bqw{X:Cx}{A:Adr}{Im Ik Je:Sp}(T:Txt X.K X.mg A)(c:Ctx X An6 (Ao ZQ) 12)(Bfk:DX X 1 "split_calls" Wt Im)(Bfi:DX X 12 "answer_call" Wm Ik)(Bix:MX X 3 A.Gq "State" Ut Je):PSs X (Ca ZQ) (Ayb X.K A Im Ik Je):=by
 have⟨Aot,Bzi⟩:=knl c "calls"
 have⟨Bx,Hs⟩:=knl c "state"
 have⟨Bq3,Cbx⟩:=knl c "told"
 have⟨Lg,Xx⟩:=knl c "number"
 have⟨BK,FW⟩:=knl c "numbers"
 have⟨Py,Va⟩:=knl c "answer"
 have Bjt:=kng c "State"
 have Bgd:=kng c "split_calls"
 have Bgb:=kng c "answer_call"
 have Jm:=kng c "len"
 exact(Ak (Dq c 1 Hs (Bsx Bix (c.room.mono (by decide)) Bjt))
   (Ak (Dq c 2 Cbx (Dl Ai))
   (Ak (Ko c (G3 (BJ Bfk (c.room.mono (by decide)) Bgd (Ab (qv c 0 Aot) Ai))) (Al7 c.calm (Mf (Hi c 3 Xx) (Mf (Hi c 4 FW) Acv))) (Ak (Dq c 5 Va (BJ Bfi (c.room.mono (by decide)) Bgb (Ab (qv c 1 Bx) (Ab (qv c 3 Lg) (Ab (qv c 4 BK) Ai)))))
   (Ak (JQ (Vf Dk Eu Ew MP (qv c 2 Bq3) (Ab (G5 Fl Jm T.O9 Ej (Ab (qv c 5 Py) Ai)) Ai)))
   (Bc (JQ (Vf Dk JV JW Wf (qv c 2 Bq3) (Ab (qv c 5 Py) Ai)))))))
   (Bc (BR (qv c 2 Bq3))))))
def Ai8(K:Frag)(A:Adr):TS:=
   (VH K (Al 0) (Al 3) "share")
def Ai7(K:Frag)(A:Adr):TS:=
   (CW (VH K (Al 0) (Al 2) "limits")
   (Ai8 K A))
def Aep(K:Frag)(A:Adr):TS:=
   (CW (VH K (Al 0) (Al 1) "room")
   (Ai7 K A))
theorem Bex{X:Cx}{A:Adr}(T:Txt X.K X.mg A)(c:Ctx X Apl (Ao WR) 0):PSs X (Ca WR) (Aep X.K A):=by
 have⟨Qy,Bp2⟩:=knl c "self"
 have⟨Cct,Ce9⟩:=knl c "room"
 have⟨Byn,Cdp⟩:=knl c "limits"
 have⟨Blr,Br6⟩:=knl c "share"
 exact(Ak (K4 (qv c 0 Qy) (qv c 1 Cct) rfl)
   (Ak (K4 (qv c 0 Qy) (qv c 2 Byn) rfl)
   (Bc (K4 (qv c 0 Qy) (qv c 3 Blr) rfl))))
def Amm(K:Frag)(A:Adr):TS:=
   (VH K (Al 0) (tC (.bl false)) "promised")
def Aml(K:Frag)(A:Adr):TS:=
   (CW (VH K (Al 0) (tC (.bl false)) "bound")
   (Amm K A))
def Amk(K:Frag)(A:Adr):TS:=
   (CW (VH K (Al 0) (tOp (Qs K) (Al 1) (tC (.int 5))) "worth")
   (Aml K A))
def Amj(K:Frag)(A:Adr):TS:=
   (CW (VH K (Al 0) (tOp (Qs K) (Al 1) (tC (.int 4))) "sender")
   (Amk K A))
def Ami(K:Frag)(A:Adr):TS:=
   (CW (VH K (Al 0) (tOp (Qs K) (Al 1) (tC (.int 3))) "end")
   (Amj K A))
def Amh(K:Frag)(A:Adr):TS:=
   (CW (VH K (Al 0) (tOp (Qs K) (Al 1) (tC (.int 2))) "rank")
   (Ami K A))
def Amg(K:Frag)(A:Adr):TS:=
   (CW (VH K (Al 0) (tOp (Qs K) (Al 1) (tC (.int 1))) "size")
   (Amh K A))
def Ahj(K:Frag)(A:Adr):TS:=
   (CW (VH K (Al 0) (tOp (Qs K) (Al 1) (tC (.int 0))) "number")
   (Amg K A))
theorem Asd{X:Cx}{A:Adr}(T:Txt X.K X.mg A)(c:Ctx X At9 (Ao Zn) 0):PSs X (Ca Zn) (Ahj X.K A):=by
 have⟨Qy,Bp2⟩:=knl c "self"
 have⟨Abl,Bdq⟩:=knl c "six"
 exact(Ak (K4 (qv c 0 Qy) (Km HF (qv c 1 Abl) DW (λ_ _=>rfl)) rfl)
   (Ak (K4 (qv c 0 Qy) (Km HF (qv c 1 Abl) DW (λ_ _=>rfl)) rfl)
   (Ak (K4 (qv c 0 Qy) (Km HF (qv c 1 Abl) DW (λ_ _=>rfl)) rfl)
   (Ak (K4 (qv c 0 Qy) (Km HF (qv c 1 Abl) DW (λ_ _=>rfl)) rfl)
   (Ak (K4 (qv c 0 Qy) (Km HF (qv c 1 Abl) DW (λ_ _=>rfl)) rfl)
   (Ak (K4 (qv c 0 Qy) (Km HF (qv c 1 Abl) DW (λ_ _=>rfl)) rfl)
   (Ak (K4 (qv c 0 Qy) Al5 rfl)
   (Bc (K4 (qv c 0 Qy) Al5 rfl)))))))))
def Amd(K:Frag)(A:Adr)(Bm:Sp):TS:=
   (VH K (Al 0) (Al 1) "moment")
def Ahh(K:Frag)(A:Adr)(Bm:Sp):TS:=
   (CW (Om (Cy Bm [] E0 (Ad (Al 0) (Ad (Al 2) Bq))))
   (Amd K A Bm))
theorem Bgt{X:Cx}{A:Adr}{Bm:Sp}(T:Txt X.K X.mg A)(c:Ctx X At7 (Ao Zk) 1)(Byw:Ini X.prog X.w X.K X.mg X.base 1 A.GJ "__init__" Jt Bm):PSs X (Ca Zk) (Ahh X.K A Bm):=by
 have⟨Qy,Bp2⟩:=knl c "self"
 have⟨Anz,Bnh⟩:=knl c "moment"
 have⟨Abl,Bdq⟩:=knl c "six"
 have Ow:=kng c "Thing"
 exact(Ak (JQ (Cd0 Byw (c.room.mono (by decide)) Ow T.Bj1 (Ab (qv c 0 Qy) (Ab (qv c 2 Abl) Ai))))
   (Bc (K4 (qv c 0 Qy) (qv c 1 Anz) rfl)))
def Amf(K:Frag)(A:Adr)(Gd:Sp):TS:=
   (VH K (Al 0) (GK Bq) "things")
def Ame(K:Frag)(A:Adr)(Gd:Sp):TS:=
   (CW (VH K (Al 0) (tC (.int 0)) "moment")
   (Amf K A Gd))
def Ahi(K:Frag)(A:Adr)(Gd:Sp):TS:=
   (CW (VH K (Al 0) (Uj A.Jb Gd [] E0 (Ad (tC (.int 20)) (Ad (tOp Bxy (GK (Ad (tC (.int 200)) Bq)) (tC (.int 10))) (Ad (tC (.int 200)) Bq)))) "bounds")
   (Ame K A Gd))
theorem Bgu{X:Cx}{A:Adr}{Gd:Sp}(T:Txt X.K X.mg A)(c:Ctx X At8 (Ao Zm) 2)(ZX:MX X 1 A.Jb "Bounds" Oe Gd):PSs X (Ca Zm) (Ahi X.K A Gd):=by
 have⟨Qy,Bp2⟩:=knl c "self"
 have Aak:=kng c "Bounds"
 have Bbw:=kng c "RANKS"
 exact(Ak (K4 (qv c 0 Qy) (Vj ZX (c.room.mono (by decide)) Aak (Ab DW (Ab (J6 Bkl (Dl (Ab DW Ai)) (Fp Bbw T.Bbu)) (Ab DW Ai)))) rfl)
   (Ak (K4 (qv c 0 Qy) DW rfl)
   (Bc (K4 (qv c 0 Qy) (Dl Ai) rfl))))
end RT
end
set_option hygiene false in
local macro_rules | `(tactic| tm_at "r") => `(tactic| (dsimp only [Ey, CW, Gx, Om, Gn, tCB, Ad, Bq, Jh, Hj, tOp, tUn, tB, Yx, Bu3, tOr, Cy, Uj, Apc, GK, Ce, Cag, Bs7, tC, tBM, tIf, VH, tSl, Awo, Bk3]))
set_option hygiene false in
local macro_rules | `(tactic| tm_at "s") => `(tactic| subst e1 e2 e3 e4 e5)
set_option hygiene false in
local macro_rules | `(tactic| tm_at "o") => `(tactic| obtain ⟨s, r, Ta, st, ns, rfl, ⟨dx, b, lp, l, zs, hz⟩, ok, hr, hrT, hT, hc, k⟩ := h)
set_option hygiene false in
local macro_rules | `(tactic| tm_at "b") => `(tactic| exact Aka fun p hp => k p _ (Same.fr (s1.trans (Av hp))) (s1.free hp) (hz.same (s1.trans (Av hp))).at Ah)
set_option hygiene false in
local macro_rules | `(tactic| tm_at "e") => `(tactic| exact ⟨_, rfl, Aka fun p hp => k p _ (Same.fr (s1.trans (Av hp))) (s1.free hp) (hz.same (s1.trans (Av hp))).at Ah⟩)
section
namespace RT
open PySem PySem.Spec PyProof.Rows L2 RB
open Vbdtag (Item sizeOf_ worthOf)
theorem J8{α β:Type}{o:Option α}{f:α->β}{v:β}(h:o.map f=some v):∃z,o=some z/\f z=v:=by
 cases o with
 |none=>cases h
 |some z=>exact⟨z,rfl,Ae h⟩
theorem YK{f:Str}{v:V}{r:List (Str×V)}:JG f ((f,v)::r)=some v:=by
 simp only [JG,G9]
theorem J5{f g:Str}{v:V}{r:List (Str×V)}(h:(f==g)=false):JG f ((g,v)::r)=JG f r:=by
 simp only [JG,h]
theorem Bn3{f:Str}{v x:V}{r:List (Str×V)}:Nm f v ((f,x)::r)=(f,v)::r:=Aq rfl
theorem R3{f g:Str}{v x:V}{r:List (Str×V)}(h:(f==g)=false):Nm f v ((g,x)::r)=(g,x)::Nm f v r:=Am λe=>by rw[e,G9] at h;cases h
def T8(K:Frag)(H:Hp)(a:Addr)(f:Str)(v:V):Prop:=∃C dx fs,H a=some (.ins C dx fs)/\Cls K C/\HY K C f/\fs.lookup f=some v
section
variable {K:Frag}{σ:L2.St}{H:Hp}{Q:VK}{i:Nat}{f g:Str}{a b:Addr}{v:V}
theorem fk{K:Frag}{H:Hp}{Q:VK}{f:Str}{a:Addr}{v:V}(h:T8 K H a f v)(q:Q v H):∃a' C dx fs v',V.ref a=.ref a'/\H a'=some (.ins C dx fs)/\Cls K C/\HY K C f/\fs.lookup f=some v'/\Q v' H:=by
 obtain⟨C,dx,fs,h1,h2,h3,h4⟩:=h
 exact⟨a,C,dx,fs,v,rfl,h1,h2,h3,h4,q⟩
theorem fv(hv:σ[i]?=some (some (.ref a)))(h:T8 K H a f v)(q:Q v H):Gm K (Al i) f σ H Q:=⟨_,hv,fk h q⟩
theorem fv2(hv:σ[i]?=some (some (.ref a)))(h:T8 K H a g (.ref b))(h2:T8 K H b f v)(q:Q v H):Gm K (Gm K (Al i) g) f σ H Q:=by
 obtain⟨C,dx,fs,h1,h3,h4,h5⟩:=h
 exact⟨_,hv,a,C,dx,fs,_,rfl,h1,h3,h4,h5,fk h2 q⟩
end
def thF(x:Item):List (Str×V):=[("number",.int x.num),("size",.int x.size),("rank",.int x.rank),("end",.int x.last),("sender",.int x.sender),("worth",.int x.worth),("bound",.bl x.bound),("promised",.bl x.promised)]
theorem Ng(x:Item)(ex:List (Str×V)):thF x++ex=(("number":Str),V.int x.num)::(("size":Str),V.int x.size)::(("rank":Str),V.int x.rank)::(("end":Str),V.int x.last)::(("sender":Str),V.int x.sender)::(("worth":Str),V.int x.worth)::(("bound":Str),V.bl x.bound)::(("promised":Str),V.bl x.promised)::ex:=rfl
theorem Bik(x:Item)(ex:List (Str×V)):(thF x++ex).lookup ("number":Str)=some (.int x.num):=by rw[Ng,YK]
theorem Bs9(x:Item)(ex:List (Str×V)):(thF x++ex).lookup ("size":Str)=some (.int x.size):=by rw[Ng,J5 (by decide+kernel),YK]
theorem Bs8(x:Item)(ex:List (Str×V)):(thF x++ex).lookup ("rank":Str)=some (.int x.rank):=by rw[Ng,J5 (by decide+kernel),J5 (by decide+kernel),YK]
theorem Byh(x:Item)(ex:List (Str×V)):(thF x++ex).lookup ("end":Str)=some (.int x.last):=by rw[Ng,J5 (by decide+kernel),J5 (by decide+kernel),J5 (by decide+kernel),YK]
theorem Bil(x:Item)(ex:List (Str×V)):(thF x++ex).lookup ("sender":Str)=some (.int x.sender):=by rw[Ng,J5 (by decide+kernel),J5 (by decide+kernel),J5 (by decide+kernel),J5 (by decide+kernel),YK]
theorem Box(x:Item)(ex:List (Str×V)):(thF x++ex).lookup ("worth":Str)=some (.int x.worth):=by rw[Ng,J5 (by decide+kernel),J5 (by decide+kernel),J5 (by decide+kernel),J5 (by decide+kernel),J5 (by decide+kernel),YK]
theorem Bow(x:Item)(ex:List (Str×V)):(thF x++ex).lookup ("bound":Str)=some (.bl x.bound):=by rw[Ng,J5 (by decide+kernel),J5 (by decide+kernel),J5 (by decide+kernel),J5 (by decide+kernel),J5 (by decide+kernel),J5 (by decide+kernel),YK]
theorem Bag(x:Item)(ex:List (Str×V)):(thF x++ex).lookup ("promised":Str)=some (.bl x.promised):=by rw[Ng,J5 (by decide+kernel),J5 (by decide+kernel),J5 (by decide+kernel),J5 (by decide+kernel),J5 (by decide+kernel),J5 (by decide+kernel),J5 (by decide+kernel),YK]
theorem Bu4(x:Item)(m:V):(thF x++[(("moment":Str),m)]).lookup ("moment":Str)=some m:=by rw[Ng,J5 (by decide+kernel),J5 (by decide+kernel),J5 (by decide+kernel),J5 (by decide+kernel),J5 (by decide+kernel),J5 (by decide+kernel),J5 (by decide+kernel),J5 (by decide+kernel),YK]
def Tail(A:Adr)(C:Addr)(ex:List (Str×V)):Prop:=(C=A.GJ/\ex=[])\/(C=A.JN/\∃m:Nat,ex=[(("moment":Str),V.int m)])
def Gi(A:Adr)(H:Hp)(a:Addr)(x:Item):Prop:=∃C dx ex,H a=some (.ins C dx (thF x++ex))/\Tail A C ex
theorem Gi.same{A:Adr}{H H':Hp}{a:Addr}{x:Item}(h:Gi A H a x)(s:Same H H'):Gi A H' a x:=let⟨C,dx,ex,e,t⟩:=h;⟨C,dx,ex,s _ _ e,t⟩
def Li(A:Adr)(H:Hp)(a:Addr)(c:Ad9):Prop:=∃dx,H a=some (.ins A.JN dx (thF c.item++[(("moment":Str),V.int c.at_)]))
theorem Li.same{A:Adr}{H H':Hp}{a:Addr}{c:Ad9}(h:Li A H a c)(s:Same H H'):Li A H' a c:=let⟨dx,e⟩:=h;⟨dx,s _ _ e⟩
theorem Li.thing{A:Adr}{H:Hp}{a:Addr}{c:Ad9}(h:Li A H a c):Gi A H a c.item:=let⟨dx,e⟩:=h;⟨_,dx,_,e,.inr ⟨rfl,_,rfl⟩⟩
section
variable {K:Frag}{mg:Str->Option Value}{A:Adr}{H:Hp}{a:Addr}{x:Item}
theorem Xr(T:Txt K mg A)(h:Gi A H a x):T8 K H a "number" (.int x.num):=by
 obtain⟨C,dx,ex,e,t⟩:=h
 rcases t with⟨rfl,_⟩|⟨rfl,_⟩
 ·exact⟨_,dx,_,e,T.U9,T.Aax,Bik x ex⟩
 ·exact⟨_,dx,_,e,T.RJ,T.Aav,Bik x ex⟩
theorem Bjo(T:Txt K mg A)(h:Gi A H a x):T8 K H a "size" (.int x.size):=by
 obtain⟨C,dx,ex,e,t⟩:=h
 rcases t with⟨rfl,_⟩|⟨rfl,_⟩
 ·exact⟨_,dx,_,e,T.U9,T.Aha,Bs9 x ex⟩
 ·exact⟨_,dx,_,e,T.RJ,T.Ag8,Bs9 x ex⟩
theorem Bpo(T:Txt K mg A)(h:Gi A H a x):T8 K H a "rank" (.int x.rank):=by
 obtain⟨C,dx,ex,e,t⟩:=h
 rcases t with⟨rfl,_⟩|⟨rfl,_⟩
 ·exact⟨_,dx,_,e,T.U9,T.Ag9,Bs8 x ex⟩
 ·exact⟨_,dx,_,e,T.RJ,T.Ag7,Bs8 x ex⟩
theorem Azj(T:Txt K mg A)(h:Gi A H a x):T8 K H a "end" (.int x.last):=by
 obtain⟨C,dx,ex,e,t⟩:=h
 rcases t with⟨rfl,_⟩|⟨rfl,_⟩
 ·exact⟨_,dx,_,e,T.U9,T.Alw,Byh x ex⟩
 ·exact⟨_,dx,_,e,T.RJ,T.Alv,Byh x ex⟩
theorem Bm1(T:Txt K mg A)(h:Gi A H a x):T8 K H a "sender" (.int x.sender):=by
 obtain⟨C,dx,ex,e,t⟩:=h
 rcases t with⟨rfl,_⟩|⟨rfl,_⟩
 ·exact⟨_,dx,_,e,T.U9,T.Aay,Bil x ex⟩
 ·exact⟨_,dx,_,e,T.RJ,T.Aaw,Bil x ex⟩
theorem Brl(T:Txt K mg A)(h:Gi A H a x):T8 K H a "worth" (.int x.worth):=by
 obtain⟨C,dx,ex,e,t⟩:=h
 rcases t with⟨rfl,_⟩|⟨rfl,_⟩
 ·exact⟨_,dx,_,e,T.U9,T.Aem,Box x ex⟩
 ·exact⟨_,dx,_,e,T.RJ,T.Ael,Box x ex⟩
theorem f_bound(T:Txt K mg A)(h:Gi A H a x):T8 K H a "bound" (.bl x.bound):=by
 obtain⟨C,dx,ex,e,t⟩:=h
 rcases t with⟨rfl,_⟩|⟨rfl,_⟩
 ·exact⟨_,dx,_,e,T.U9,T.WM,Bow x ex⟩
 ·exact⟨_,dx,_,e,T.RJ,T.WL,Bow x ex⟩
theorem Ag2(T:Txt K mg A)(h:Gi A H a x):T8 K H a "promised" (.bl x.promised):=by
 obtain⟨C,dx,ex,e,t⟩:=h
 rcases t with⟨rfl,_⟩|⟨rfl,_⟩
 ·exact⟨_,dx,_,e,T.U9,T.RN,Bag x ex⟩
 ·exact⟨_,dx,_,e,T.RJ,T.RK,Bag x ex⟩
theorem Afs{c:Ad9}(T:Txt K mg A)(h:Li A H a c):T8 K H a "moment" (.int c.at_):=let⟨dx,e⟩:=h;⟨_,dx,_,e,T.RJ,T.Aau,Bu4 _ _⟩
end
def TLz(A:Adr)(H:Hp)(l:Addr)(zs:List (Addr×Item)):Prop:=H l=some (.lst (zs.map λz=>V.ref z.1))/\∀z∈zs,Gi A H z.1 z.2
def TL(A:Adr)(H:Hp)(l:Addr)(xs:List Item):Prop:=∃zs,TLz A H l zs/\zs.map (·.2)=xs
theorem TLz.same{A:Adr}{H H':Hp}{l:Addr}{zs:List (Addr×Item)}(h:TLz A H l zs)(s:Same H H'):TLz A H' l zs:=⟨s _ _ h.1,λz hz=>(h.2 z hz).same s⟩
theorem TL.same{A:Adr}{H H':Hp}{l:Addr}{xs:List Item}(h:TL A H l xs)(s:Same H H'):TL A H' l xs:=let⟨zs,e,t⟩:=h;⟨zs,e.same s,t⟩
theorem Av{H:Hp}{p:Addr}{o:HO}(h:H p=none):Same H (upd H p o):=λb o' e=>by rw[Cd (FP e h)];exact e
theorem FZ{H0 H:Hp}{p:Addr}{o:HO}(s:Same H0 H)(h:H0 p=none):Same H0 (upd H p o):=λb o' e=>by rw[Cd (FP e h)];exact s _ _ e
theorem take_snoc{α:Type}{l:List α}{i:Nat}{x:α}(h:l[i]?=some x):l.take (i+1)=l.take i++[x]:=by rw[List.take_add_one,h];rfl
theorem Bh1{K:Frag}{A:Adr}{σ:L2.St}{H:Hp}{Q:VK}{j:Nat}{l:Addr}{zs:List (Addr×Item)}{tl:TE}{tt:TT}{te:TE}(p:Item->Bool)(f:Addr->Item->V)(hv:∀R:VK,R (.ref l) H->tl σ H R)(hl:TLz A H l zs)(hz:zs.length<=sizeLine)
  (ht:∀(z:Addr×Item) (H':Hp) (R:Bool->Hp->Prop),z∈zs->Same H H'->(∀H'',Same H' H''->R (p z.2) H'')->tt ((wipe σ [j]).set j (some (.ref z.1))) H' R)
  (he:∀(z:Addr×Item) (H':Hp) (R:VK),z∈zs->p z.2=true->Same H H'->(∀H'',Same H' H''->R (f z.1 z.2) H'')->te ((wipe σ [j]).set j (some (.ref z.1))) H' R)
  (hd:∀(D:Addr) (H':Hp),Same H H'->H D=none->H' D=some (.lst ((zs.filter λz=>p z.2).map λz=>f z.1 z.2))->Q (.ref D) H'):tLc (Jy K tl) (Ce j) tt te [j] σ H Q:=by
 refine hv _ ⟨l,rfl,⟨_,SqL.of hl.1⟩,λD hD=>?_⟩
 refine Avx (K:=K) (a:=l) (xs:=zs.map λz=>V.ref z.1) (λn H'=>Same H H'/\H' D=some (.lst (((zs.take n).filter λz=>p z.2).map λz=>f z.1 z.2))) ⟨Av hD,by rw[Fb];exact Ah⟩ (λn H' _ ⟨s,_⟩=>s.seq (SqL.of hl.1)) ?_ ?_
 ·rintro n x H' hx ⟨s,hDl⟩
  rw[Bk] at hx
  obtain⟨z,hn,rfl⟩:∃z,zs[n]?=some z/\V.ref z.1=x:=J8 hx
  have hm:z∈zs:=BX hn
  show wipe ((wipe σ [j]).set j (some (.ref z.1))) [j]=wipe σ [j]/\_
  refine⟨by show((σ.set j none).set j (some (.ref z.1))).set j none=σ.set j none;rw[Agn,Agn],?_⟩
  refine ht z H' _ hm s λH1 s1=>?_
  cases hp:p z.2 with
  |false=>
   rw[Am Ac]
   refine⟨s.trans s1,?_⟩
   rw[take_snoc hn,Gu,Cr,hp,Am Ac,SX,Ds]
   exact s1 _ _ hDl
  |true=>
   rw[Aq rfl]
   refine he z H1 _ hm hp (s.trans s1) λH2 s2=>?_
   have hlt:n<zs.length:=(BL.mp hn).1
   refine⟨_,s2 _ _ (s1 _ _ hDl),?_,FZ ((s.trans s1).trans s2) hD,?_⟩
   ·rw[Aa]
    refine CJ (CQ _ _) ?_
    rw[Er];omega
   ·rw[Ah,take_snoc hn,Gu,Cr,hp,Aq rfl,SX,Bd]
    rfl
 ·rintro H' ⟨s,hDl⟩
  rw[Aa,DR] at hDl
  exact hd D H' s hD hDl
theorem As3(p:Item->Bool):∀zs:List (Addr×Item),(zs.filter λz=>p z.2).map (·.2)=(zs.map (·.2)).filter p
 |[]=>rfl
 |z::r=>by
  have ih:=As3 p r
  rw[Bo,Cr,Cr]
  cases p z.2 with
  |true=>rw[Aq rfl,Aq rfl,Bo,ih]
  |false=>rw[Am Ac,Am Ac,ih]
theorem Avy{K:Frag}{A:Adr}{σ:L2.St}{H:Hp}{Q:VK}{j:Nat}{l:Addr}{xs:List Item}{tl:TE}{tt:TT}{te:TE}(p:Item->Bool)(f:Item->V)(hv:∀R:VK,R (.ref l) H->tl σ H R)(hl:TL A H l xs)(hz:xs.length<=sizeLine)
  (ht:∀(a:Addr) (x:Item) (H':Hp) (R:Bool->Hp->Prop),x∈xs->Gi A H' a x->Same H H'->(∀H'',Same H' H''->R (p x) H'')->tt ((wipe σ [j]).set j (some (.ref a))) H' R)
  (he:∀(a:Addr) (x:Item) (H':Hp) (R:VK),x∈xs->p x=true->Gi A H' a x->Same H H'->(∀H'',Same H' H''->R (f x) H'')->te ((wipe σ [j]).set j (some (.ref a))) H' R)
  (hd:∀(D:Addr) (H':Hp),Same H H'->H D=none->H' D=some (.lst ((xs.filter p).map f))->Q (.ref D) H'):tLc (Jy K tl) (Ce j) tt te [j] σ H Q:=by
 obtain⟨zs,hl,rfl⟩:=hl
 rw[Aa] at hz
 refine Bh1 (A:=A) p (λ_ x=>f x) hv hl hz (λz H' R hm s h=>ht z.1 z.2 H' R (Cw hm) ((hl.2 z hm).same s) s h) (λz H' R hm hp s h=>he z.1 z.2 H' R (Cw hm) hp ((hl.2 z hm).same s) s h) λD H' s hD h=>hd D H' s hD ?_
 rw[<-As3,Df]
 exact h
theorem Axx{K:Frag}{A:Adr}{σ:L2.St}{H:Hp}{Q:VK}{j:Nat}{l:Addr}{zs:List (Addr×Item)}{tl:TE}{tt:TT}(p:Item->Bool)(hv:∀R:VK,R (.ref l) H->tl σ H R)(hl:TLz A H l zs)(hz:zs.length<=sizeLine)(hj:j<σ.length)
  (ht:∀(a:Addr) (x:Item) (H':Hp) (R:Bool->Hp->Prop),(a,x)∈zs->Gi A H' a x->Same H H'->(∀H'',Same H' H''->R (p x) H'')->tt ((wipe σ [j]).set j (some (.ref a))) H' R)
  (hd:∀(D:Addr) (H':Hp),Same H H'->H D=none->TLz A H' D (zs.filter λz=>p z.2)->Q (.ref D) H'):tLc (Jy K tl) (Ce j) tt (Al j) [j] σ H Q:=by
 refine Bh1 (A:=A) p (λa _=>.ref a) hv hl hz (λz H' R hm s h=>ht z.1 z.2 H' R hm ((hl.2 z hm).same s) s h) (λz H' R hm hp s h=>⟨_,Mi (by show j<(σ.set j none).length;rw[Yb];exact hj),h H' (Same.refl _)⟩)
  λD H' s hD h=>hd D H' s hD ⟨h,λz hm=>(hl.2 z (DP.mp hm).1).same s⟩
end RT
end
section
namespace RT
open PySem PySem.Spec PyProof.Rows L2 RB
open Vbdtag (Item sizeOf_ worthOf stronger)
section
variable {P:Program}{w:World}{K:Frag}{mg:Str->Option Value}{base:Heap}{A:Adr}
theorem Bij:∀xs:List Item,(xs.map λx=>(x.size:Int)).sum=(sizeOf_ xs:Int)
 |[]=>rfl
 |x::r=>by
  have ih:=Bij r
  rw[Bo,Jk,ih]
  show _=(((x.size::r.map λx=>x.size).sum:Nat):Int)
  rw[Jk]
  unfold sizeOf_
  omega
def Dm(A:Adr):Sp:=λvs H Q _=>∃l xs,vs=[.ref l]/\TL A H l xs/\xs.length<=sizeLine/\∀H',Same H H'->Q (.int (sizeOf_ xs)) H'
theorem Aen(T:Txt K mg A):Def P w K mg base 1 "whole_size" Rv (Dm A):=by
 refine Ed T.Avn Bje (λvs H Q E h=>?_) (λX e1 e2 e3 e4 e5 c H vs Q E h=>?_)
 ·obtain⟨l,xs,rfl,_⟩:=h;rfl
 ·tm_at"s"
  obtain⟨l,xs,rfl,hl,hz,k⟩:=h
  refine⟨_,Bg7 T c,?_⟩
  show Ahy X.K A _ [some (.ref l),none] H
  unfold Ahy
  tm_at"r"
  refine Avy (A:=A) (xs:=xs) (λ_=>true) (λx=>.int x.size) (λR q=>⟨_,rfl,q⟩) hl hz (λa x H' R hx hT s h=>h H' (Same.refl _)) (λa x H' R hx _ hT s h=>fv rfl (Bjo T hT) (h H' (Same.refl _))) λD H' s hD h=>?_
  refine⟨D,xs.map λx=>(x.size:Int),rfl,SqL.of ?_,?_⟩
  ·rw[h,GC.mpr λ_ _=>rfl,Df];rfl
  ·rw[Bij];exact k H' s
def stK(x:Item):List Int:=[-(x.rank:Int), -(x.last:Int),(x.num:Int)]
def Jg(A:Adr):Sp:=λvs H Q _=>∃a x,vs=[.ref a]/\Gi A H a x/\∀t H',Same H H'->H' t=some (.tup ((stK x).map V.int))->Q (.ref t) H'
theorem Az3(T:Txt K mg A):Def P w K mg base 1 "strength" Z8 (Jg A):=by
 refine Ed T.Bc4 Bpd (λvs H Q E h=>?_) (λX e1 e2 e3 e4 e5 c H vs Q E h=>?_)
 ·obtain⟨a,x,rfl,_⟩:=h;rfl
 ·tm_at"s"
  obtain⟨a,x,rfl,hx,k⟩:=h
  refine⟨_,Bo0 T c,?_⟩
  show Atm X.K A _ [some (.ref a)] H
  unfold Atm
  tm_at"r"
  refine fv rfl (Bpo T hx) ⟨_,rfl,fv rfl (Azj T hx) ⟨_,rfl,fv rfl (Xr T hx) ⟨by show 3<=sizeLine;decide,λt ht=>k t _ (Av ht) Ah⟩⟩⟩
theorem Awn(x y:Item):HT.lexLt (stK x) (stK y)=stronger x y:=by
 unfold stK stronger
 rw[HT.lexLt_cons,HT.lexLt_cons,HT.lexLt_cons,HT.lexLt_nil_nil]
 by_cases h1:y.rank<x.rank
 ·rw[Am (by omega),Aj (by omega),Aj h1];rfl
 ·rw[Bf h1,Adw]
  by_cases h2:x.rank=y.rank
  ·rw[Aq (by omega),h2,G9,HB]
   by_cases h3:y.last<x.last
   ·rw[Am (by omega),Aj (by omega),Aj h3];rfl
   ·rw[Bf h3,Adw]
    by_cases h4:x.last=y.last
    ·rw[Aq (by omega),h4,G9,HB]
     by_cases h5:x.num<y.num
     ·rw[Am (by omega),Aj (by omega),Aj h5]
     ·rw[Bf h5]
      by_cases h6:(x.num:Int)=y.num
      ·rw[Aq h6]
      ·rw[Am h6];exact Bf (by omega)
    ·rw[Am (by omega),DG.mpr h4,Ib];exact Bf (by omega)
  ·rw[Am (by omega),DG.mpr h2,Ib];exact Bf (by omega)
def Jf(A:Adr):Sp:=λvs H Q _=>∃a b x y,vs=[.ref a,.ref b]/\Gi A H a x/\Gi A H b y/\∀H',Same H H'->Q (.bl (stronger x y)) H'
theorem Al1(T:Txt K mg A):Def P w K mg base 2 "is_stronger" Sq (Jf A):=by
 refine Ed T.Aqq Bfw (λvs H Q E h=>?_) (λX e1 e2 e3 e4 e5 c H vs Q E h=>?_)
 ·obtain⟨a,b,x,y,rfl,_⟩:=h;rfl
 ·tm_at"s"
  obtain⟨a,b,x,y,rfl,hx,hy,k⟩:=h
  refine⟨_,Be6 T c (Az3 T),?_⟩
  refine⟨_,rfl,a,x,rfl,hx,λt H1 s1 h1=>?_⟩
  refine⟨_,rfl,b,y,rfl,hy.same s1,λu H2 s2 h2=>?_⟩
  refine⟨t,u,stK x,stK y,rfl,rfl,SqT.of (s2 _ _ h1),SqT.of h2,?_⟩
  rw[Awn]
  exact k H2 (s1.trans s2)
end
end RT
end
section
namespace RT
open PySem PySem.Spec PyProof.Rows L2 RB
open Vbdtag (Item sizeOf_ worthOf stronger numbersRow)
section
variable {P:Program}{w:World}{K:Frag}{mg:Str->Option Value}{base:Heap}{A:Adr}
def Af(A:Adr):Sp:=λvs H Q _=>∃l xs,vs=[.ref l]/\TL A H l xs/\xs.length<sizeLine/\∀D H',Same H H'->H D=none->H' D=some (.lst ((numbersRow xs).map V.int))->Q (.ref D) H'
theorem Bxj(xs:List Item):[V.int xs.length]++xs.map (λx=>V.int x.num)=(numbersRow xs).map V.int:=by
 unfold numbersRow Ak3 Hl Bcv
 rw[Bo,Aa,Df,Df]
 rfl
theorem Jd(T:Txt K mg A):Def P w K mg base 1 "tell_things" HD (Af A):=by
 refine Ed T.Aqw Bf2 (λvs H Q E h=>?_) (λX e1 e2 e3 e4 e5 c H vs Q E h=>?_)
 ·obtain⟨l,xs,rfl,_⟩:=h;rfl
 ·tm_at"s"
  obtain⟨l,xs,rfl,hl,hz,k⟩:=h
  refine⟨_,Bfc T c,?_⟩
  show Ae7 X.K A _ [some (.ref l),none] H
  unfold Ae7
  tm_at"r"
  obtain⟨zs,hl',rfl⟩:=id hl
  refine⟨_,rfl,l,_,rfl,.inl (SqL.of hl'.1),by show 1<=sizeLine;decide,λp hp=>?_⟩
  refine Avy (A:=A) (λ_=>true) (λx=>.int x.num) (λR q=>⟨_,rfl,q⟩) (hl.same (Av hp)) (Jr hz) (λa x H' R hx hT s h=>h H' (Same.refl _)) (λa x H' R hx _ hT s h=>fv rfl (Xr T hT) (h H' (Same.refl _))) λD H' s hD h=>?_
  rw[GC.mpr λ_ _=>rfl] at h
  refine⟨p,D,_,_,rfl,rfl,s _ _ Ah,h,?_,λq hq=>k q _ ((Av hp).trans (s.trans (Av hq))) (((Av hp).trans s).free hq) ?_⟩
  ·simp only [Aa,Ay,Ie] at hz|-;omega
  ·rw[Ah,Aa,<-Bxj,Aa]
def Ei(A:Adr):Sp:=λvs H Q _=>∃l a zs x,vs=[.ref l,.ref a]/\TLz A H l zs/\Gi A H a x/\zs.length<=sizeLine/\∀D H',Same H H'->H D=none->TLz A H' D (zs.filter λz=>stronger x z.2&&!z.2.bound)->Q (.ref D) H'
theorem Ax6(T:Txt K mg A):Def P w K mg base 3 "may_go" Afl (Ei A):=by
 refine Ed T.Bmz Bvt (λvs H Q E h=>?_) (λX e1 e2 e3 e4 e5 c H vs Q E h=>?_)
 ·obtain⟨l,a,zs,x,rfl,_⟩:=h;rfl
 ·tm_at"s"
  obtain⟨l,a,zs,x,rfl,hl,hx,hz,k⟩:=h
  refine⟨_,Bu9 T c (Al1 T),?_⟩
  show Bep X.K A _ _ [some (.ref l),some (.ref a),none] H
  unfold Bep
  tm_at"r"
  refine Axx (A:=A) (λy=>stronger x y&&!y.bound) (λR q=>⟨_,rfl,q⟩) hl hz (by show 2<3;decide) (λb y H' R hy hT s h=>?_) λD H' s hD h=>k D H' s hD h
  refine⟨_,rfl,_,rfl,a,b,x,y,rfl,hx.same s,hT,λH1 s1=>⟨_,rfl,?_⟩⟩
  cases e:stronger x y with
  |false=>
   rw[Am Ac]
   have:=h H1 s1
   simp only [e,Ib] at this
   exact this
  |true=>
   rw[Aq rfl]
   tm_at"r"
   refine fv rfl (f_bound T (hT.same s1)) ⟨_,rfl,?_⟩
   have:=h H1 s1
   simp only [e,HB] at this
   exact this
def Bt(A:Adr):Sp:=λvs H Q _=>∃l a zs x,vs=[.ref l,.ref a]/\TLz A H l zs/\Gi A H a x/\zs.length<=sizeLine/\∀D H',Same H H'->H D=none->TLz A H' D (zs.filter λz=>!(stronger x z.2&&!z.2.bound))->Q (.ref D) H'
theorem SM(T:Txt K mg A):Def P w K mg base 3 "may_not_go" NP (Bt A):=by
 refine Ed T.Avi Bi9 (λvs H Q E h=>?_) (λX e1 e2 e3 e4 e5 c H vs Q E h=>?_)
 ·obtain⟨l,a,zs,x,rfl,_⟩:=h;rfl
 ·tm_at"s"
  obtain⟨l,a,zs,x,rfl,hl,hx,hz,k⟩:=h
  refine⟨_,Bg2 T c (Al1 T),?_⟩
  show Aht X.K A _ _ [some (.ref l),some (.ref a),none] H
  unfold Aht
  tm_at"r"
  refine Axx (A:=A) (λy=>!(stronger x y&&!y.bound)) (λR q=>⟨_,rfl,q⟩) hl hz (by show 2<3;decide) (λb y H' R hy hT s h=>?_) λD H' s hD h=>k D H' s hD h
  tm_at"r"
  refine fv rfl (f_bound T hT) ⟨_,rfl,?_⟩
  cases e:y.bound with
  |true=>
   rw[Aq rfl]
   have:=h H' (Same.refl _)
   simp only [e,CK,Lb,Ck] at this
   exact this
  |false=>
   rw[Am Ac]
   refine⟨_,rfl,_,rfl,a,b,x,y,rfl,hx.same s,hT,λH1 s1=>⟨_,rfl,?_⟩⟩
   have:=h H1 s1
   simp only [e,Ck,Oc] at this
   exact this
end
end RT
end
section
namespace RT
open PySem PySem.Spec PyProof.Rows L2 RB
open Vbdtag (Item sizeOf_ worthOf stronger numbersRow usedBy)
theorem Bc8{K:Frag}{A:Adr}{l:Addr}{zs:List (Addr×Item)}{j:Nat}{tl:TE}{tb:TS}{D:Ends}{σ:L2.St}{H:Hp}(hv:∀R:VK,R (.ref l) H->tl σ H R)(hl:H l=some (.lst (zs.map λz=>V.ref z.1)))
  (Pv:Nat->L2.St->Hp->Prop) (h0:Pv 0 σ H) (st:∀n σ H',Pv n σ H'->H' l=some (.lst (zs.map λz=>V.ref z.1)))
  (turn:∀n z σ H',zs[n]?=some z->Pv n σ H'->tb {D with nx:=Pv (n+1),ct:=Pv (n+1),bk:=D.nx} (σ.set j (some (.ref z.1))) H') (fin:∀σ H',Pv zs.length σ H'->D.nx σ H'):SN (Jy K tl) (Ce j) tb D σ H:=by
 refine hv _ ⟨l,rfl,⟨_,SqL.of hl⟩,JZ (K:=K) (a:=l) (xs:=zs.map λz=>V.ref z.1) Pv h0 (λn σ H' _ p=>SqL.of (st n σ H' p)) (λn x σ H' hx p=>?_) λσ H' p=>fin σ H' (by rw[Aa] at p;exact p)⟩
 rw[Bk] at hx
 cases e:zs[n]? with
 |none=>rw[e] at hx;cases hx
 |some z=>
  rw[e] at hx
  rw[<-Ae hx]
  exact turn n z σ H' e p
theorem Bqb{β:Type}{f:Nat->β}{n j:Nat}(v:β):((FJ n).map f).set j v=(FJ n).map λr=>if r=j then v else f r:=by
 refine Abv λi=>?_
 rw[List.getElem?_set,Bk,Bk]
 simp only [Aa,GX]
 by_cases hi:i<n
 ·by_cases e:j=i
  ·subst e;simp [hi,Kv]
  ·simp [hi,e,Js e,Kv]
 ·simp [hi,Kv]
  omega
theorem Bsm{β:Type}{f:Nat->β}{n j:Nat}(h:j<n):((FJ n).map f)[j]?=some (f j):=by
 rw[Bk,Kv h];rfl
theorem Bih(p:Item->Bool)(xs:List Item)(x:Item):sizeOf_ ((xs++[x]).filter p)=sizeOf_ (xs.filter p)+if p x=true then x.size else 0:=by
 unfold sizeOf_
 rw[Gu,Bd,Baq,Cr]
 cases p x<;>simp
section
variable {P:Program}{w:World}{K:Frag}{mg:Str->Option Value}{base:Heap}{A:Adr}
def Pz(xs:List Item):List Int:=(FJ 8).map λd=>(sizeOf_ (xs.filter λx=>x.sender==d):Int)
def Dn(A:Adr):Sp:=λvs H Q _=>∃l xs,vs=[.ref l]/\TL A H l xs/\(∀x∈xs,x.sender<8)/\∀D H',Same H H'->H D=none->H' D=some (.lst ((Pz xs).map V.int))->Q (.ref D) H'
theorem Aye{β:Type}(v:β):∀n,(Dy n [v]).flatten=(FJ n).map λ_=>v
 |0=>rfl
 |n+1=>by
  rw[List.replicate_succ',List.flatten_append,Aye v n,S5,Bd]
  simp
theorem YL(T:Txt K mg A):Def P w K mg base 1 "sizes_of_senders" M6 (Dn A):=by
 refine Ed T.Aaj Asu (λvs H Q E h=>?_) (λX e1 e2 e3 e4 e5 c H vs Q E h=>?_)
 ·obtain⟨l,xs,rfl,_⟩:=h;rfl
 ·tm_at"s"
  obtain⟨l,xs,rfl,⟨zs,hl,rfl⟩,hr,k⟩:=h
  refine⟨_,Aph T c,?_⟩
  show T7 X.K A _ [some (.ref l),none,none] H
  unfold T7
  tm_at"r"
  refine⟨by show 1<=sizeLine;decide,λq hq=>⟨q,8,_,rfl,rfl,Ah,by decide,by decide,by decide,λp hp=>?_⟩⟩
  have s0:Same H (upd (upd H q (.lst [.int 0])) p (.lst (Dy (MK 8) [V.int 0]).flatten)):=(Av hq).trans (Av hp)
  have hpH:H p=none:=(Av hq).free hp
  refine Bc8 (K:=X.K) (A:=A) (l:=l) (zs:=zs) (λR r=>⟨_,rfl,r⟩) (s0 _ _ hl.1)
   (λn σ H'=>∃v,σ=[some (.ref l),some (.ref p),v]/\Same H H'/\H' p=some (.lst ((FJ 8).map λd=>V.int (sizeOf_ (((zs.take n).map (·.2)).filter λx=>x.sender==d)))))
   ⟨none,rfl,s0,?_⟩ (λn σ H' ⟨_,_,s,_⟩=>s _ _ hl.1) ?_ ?_
  ·rw[Ah]
   show some (HO.lst (Dy 8 [V.int 0]).flatten)=_
   rw[Aye]
   rfl
  ·rintro n z σ H' hz ⟨v,rfl,s,hp'⟩
   have hm:z∈zs:=BX hz
   have hT:=(hl.2 z hm).same s
   have hlt:z.2.sender<8:=hr z.2 (Cw hm)
   refine⟨_,rfl,fv rfl (Bm1 T hT) ⟨p,_,_,_,rfl,rfl,SqL.of hp',KJ (Bsm hlt),fv rfl (Bjo T hT) ⟨_,_,rfl,rfl,p,_,_,z.2.sender,rfl,rfl,hp',?_,?_⟩⟩⟩
   ·rw[Aa,GX]
    unfold ixN
    rw[Aq (by omega),Aq (by omega)]
    simp
   ·refine⟨_,rfl,FZ s hpH,?_⟩
    rw[Ah,Bqb,take_snoc hz,Bd]
    refine congrArg (λl=>some (HO.lst l)) (Fv λd hd=>?_)
    show _=V.int (sizeOf_ (((zs.take n).map (·.2)++[z.2]).filter λx=>x.sender==d))
    rw[Bih]
    by_cases e:d=z.2.sender
    ·rw[Aq e,Aq (by rw[e];exact G9 _),e]
     show V.int (((_:Nat):Int)+((_:Nat):Int))=_
     congr 1
    ·rw[Am e,Am (by rw[Jc];exact λq=>e q.symm)]
     rfl
  ·rintro σ H' ⟨v,rfl,s,hp'⟩
   refine⟨_,rfl,k p H' s hpH ?_⟩
   rw[hp',DR]
   unfold Pz
   rw[Df]
   rfl
theorem Bv9(xs:List Item)(r:Nat):sizeOf_ (xs.filter λx=>decide (x.rank<=r+1))=sizeOf_ (xs.filter λx=>decide (x.rank<=r))+sizeOf_ (xs.filter λx=>x.rank==r+1):=by
 induction xs with
 |nil=>rfl
 |cons x xs ih=>
  unfold sizeOf_ at ih|-
  rw[Cr,Cr,Cr]
  by_cases h1:x.rank<=r
  ·rw[Aq (Aj (show x.rank<=r+1 by omega)),Aq (Aj h1),Am (by rw[Jc];omega),Bo,Bo,Jk,Jk,ih];omega
  ·by_cases h2:x.rank=r+1
   ·rw[Aq (Aj (show x.rank<=r+1 by omega)),Am (by simp;omega),Aq (by rw[Jc];exact h2),Bo,Bo,Jk,Jk,ih];omega
   ·rw[Am (by simp;omega),Am (by simp;omega),Am (by rw[Jc];exact h2),ih]
def Pu(xs:List Item):List Int:=(usedBy xs).map λ(n:Nat)=>(n:Int)
def CG(A:Adr):Sp:=λvs H Q _=>∃l xs,vs=[.ref l]/\TL A H l xs/\(∀x∈xs,x.rank<10)/\∀D H',Same H H'->H D=none->H' D=some (.lst ((Pu xs).map V.int))->Q (.ref D) H'
def Bby(xs:List Item)(m r:Nat):Nat:=if r<=m then sizeOf_ (xs.filter λx=>decide (x.rank<=r)) else sizeOf_ (xs.filter λx=>x.rank==r)
theorem Bry{n j:Nat}(h:j<n):ixN n (j:Int)=some j:=by
 unfold ixN
 rw[Aq (by omega),Aq (by omega)]
 simp
theorem XC(T:Txt K mg A):Def P w K mg base 1 "sizes_up_to_ranks" LR (CG A):=by
 refine Ed T.YJ Ao5 (λvs H Q E h=>?_) (λX e1 e2 e3 e4 e5 c H vs Q E h=>?_)
 ·obtain⟨l,xs,rfl,_⟩:=h;rfl
 ·tm_at"s"
  obtain⟨l,xs,rfl,⟨zs,hl,rfl⟩,hr,k⟩:=h
  refine⟨_,Anw T c,?_⟩
  show R9 X.K A _ [some (.ref l),none,none,none] H
  unfold R9
  tm_at"r"
  refine⟨by show 1<=sizeLine;decide,λq hq=>⟨q,10,_,rfl,rfl,Ah,by decide,by decide,by decide,λp hp=>?_⟩⟩
  have s0:Same H (upd (upd H q (.lst [.int 0])) p (.lst (Dy (MK 10) [V.int 0]).flatten)):=(Av hq).trans (Av hp)
  have hpH:H p=none:=(Av hq).free hp
  refine Bc8 (K:=X.K) (A:=A) (l:=l) (zs:=zs) (λR r=>⟨_,rfl,r⟩) (s0 _ _ hl.1)
   (λn σ H'=>∃v,σ=[some (.ref l),some (.ref p),v,none]/\Same H H'/\H' p=some (.lst ((FJ 10).map λd=>V.int (sizeOf_ (((zs.take n).map (·.2)).filter λx=>x.rank==d)))))
   ⟨none,rfl,s0,?_⟩ (λn σ H' ⟨_,_,s,_⟩=>s _ _ hl.1) ?_ ?_
  ·rw[Ah]
   show some (HO.lst (Dy 10 [V.int 0]).flatten)=_
   rw[Aye]
   rfl
  ·rintro n z σ H' hz ⟨v,rfl,s,hp'⟩
   have hm:z∈zs:=BX hz
   have hT:=(hl.2 z hm).same s
   have hlt:z.2.rank<10:=hr z.2 (Cw hm)
   refine⟨_,rfl,fv rfl (Bpo T hT) ⟨p,_,_,_,rfl,rfl,SqL.of hp',KJ (Bsm hlt),fv rfl (Bjo T hT) ⟨_,_,rfl,rfl,p,_,_,z.2.rank,rfl,rfl,hp',by rw[Aa,GX];exact Bry hlt,?_⟩⟩⟩
   refine⟨_,rfl,FZ s hpH,?_⟩
   rw[Ah,Bqb,take_snoc hz,Bd]
   refine congrArg (λl=>some (HO.lst l)) (Fv λd hd=>?_)
   show _=V.int (sizeOf_ (((zs.take n).map (·.2)++[z.2]).filter λx=>x.rank==d))
   rw[Bih]
   by_cases e:d=z.2.rank
   ·rw[Aq e,Aq (by rw[e];exact G9 _),e]
    show V.int (((_:Nat):Int)+((_:Nat):Int))=_
    congr 1
   ·rw[Am e,Am (by rw[Jc];exact λq=>e q.symm)]
    rfl
  ·rintro σ H' ⟨v,rfl,s,hp'⟩
   rw[DR] at hp'
   dsimp only
   refine⟨1,10,rfl,by decide,?_⟩
   refine Bhw (lo:=1) (n:=9) (λm σ H'=>∃v w,σ=[some (.ref l),some (.ref p),v,w]/\Same H H'/\H' p=some (.lst ((FJ 10).map λr=>V.int (Bby (zs.map (·.2)) m r)))) ⟨v,none,rfl,s,?_⟩ ?_ ?_
   ·rw[hp']
    refine congrArg (λl=>some (HO.lst l)) (Fv λd hd=>?_)
    unfold Bby
    by_cases e:d<=0
    ·rw[Aq e]
     have e0:d=0:=by omega
     subst e0
     refine congrArg (λl=>V.int ((sizeOf_ l:Nat):Int)) (Ft λx _=>?_)
     cases h:x.rank with
     |zero=>rfl
     |succ m=>rfl
    ·rw[Am e]
   ·rintro m σ H' hm ⟨v,w,rfl,s,hp'⟩
    have e1:(1:Int)+(m:Int)=((m+1:Nat):Int):=by omega
    have e2:(1:Int)+(m:Int)-1=((m:Nat):Int):=by omega
    refine⟨_,rfl,_,rfl,p,_,_,_,rfl,rfl,SqL.of hp',at_of e1 (Bsm (show m+1<10 by omega)),_,rfl,_,rfl,⟨_,_,rfl,rfl,p,_,_,_,rfl,rfl,SqL.of hp',at_of e2 (Bsm (show m<10 by omega)),_,_,rfl,rfl,p,_,_,m+1,rfl,rfl,hp',?_,?_⟩⟩
    ·rw[Aa,GX,e1];exact Bry (by omega)
    ·refine⟨_,_,rfl,FZ s hpH,?_⟩
     rw[Ah,Bqb]
     refine congrArg (λl=>some (HO.lst l)) (Fv λd hd=>?_)
     unfold Bby
     by_cases e:d=m+1
     ·subst e
      rw[Aq rfl,Aq (Bu _),Am (by omega),Aq (Bu _),Bv9]
      show V.int (((_:Nat):Int)+((_:Nat):Int))=_
      rw[<-Bam,Aup]
     ·rw[Am e]
      by_cases h:d<=m
      ·rw[Aq h,Aq (by omega)]
      ·rw[Am h,Am (by omega)]
   ·rintro σ H' ⟨v,w,rfl,s,hp'⟩
    refine⟨_,rfl,k p H' s hpH ?_⟩
    rw[hp']
    unfold Pu usedBy
    rw[Df,Df]
    refine congrArg (λl=>some (HO.lst l)) (Fv λd hd=>?_)
    have hd':d<10:=O4.mp hd
    unfold Bby
    rw[Aq (by omega)]
    rfl
end
end RT
end
section
namespace RT
open PySem PySem.Spec PyProof.Rows L2 RB
open Vbdtag (Item Bounds sizeOf_ worthOf stronger numbersRow usedBy fits)
def bdF(B:Bounds)(lp:Addr):List (Str×V):=[("room",.int B.room),("limits",.ref lp),("share",.int B.share)]
def Bgf(B:Bounds):List V:=B.limits.map λ(n:Nat)=>V.int n
def Ja(A:Adr)(H:Hp)(b:Addr)(B:Bounds):Prop:=∃dx lp,H b=some (.ins A.Jb dx (bdF B lp))/\H lp=some (.lst (Bgf B))/\B.limits.length=10
theorem Ja.same{A:Adr}{H H':Hp}{b:Addr}{B:Bounds}(h:Ja A H b B)(s:Same H H'):Ja A H' b B:=let⟨dx,lp,e,e2,l⟩:=h;⟨dx,lp,s _ _ e,s _ _ e2,l⟩
section
variable {K:Frag}{mg:Str->Option Value}{A:Adr}{H:Hp}{b:Addr}{B:Bounds}
theorem Axj(T:Txt K mg A)(h:Ja A H b B):T8 K H b "room" (.int B.room):=let⟨dx,lp,e,_⟩:=h;⟨_,dx,_,e,T.Xw,T.Aek,YK⟩
theorem Bjn(T:Txt K mg A)(h:Ja A H b B):T8 K H b "share" (.int B.share):=let⟨dx,lp,e,_⟩:=h;⟨_,dx,_,e,T.Xw,T.Aat,by unfold bdF;rw[J5 (by decide+kernel),J5 (by decide+kernel),YK]⟩
theorem Bwj(T:Txt K mg A)(h:Ja A H b B):∃lp,T8 K H b "limits" (.ref lp)/\H lp=some (.lst (Bgf B)):=let⟨dx,lp,e,e2,_⟩:=h;⟨lp,⟨_,dx,_,e,T.Xw,T.Tf,by unfold bdF;rw[J5 (by decide+kernel),YK]⟩,e2⟩
end
theorem Bsf{B:Bounds}{r:Nat}(hl:B.limits.length=10)(h:r<10):(Bgf B)[r]?=some (V.int (B.limits.getD r 0)):=by
 unfold Bgf
 rw[Bk,CP (by omega)]
 simp [List.getD,CP (show r<B.limits.length by omega)]
def Rw(H:Hp)(D:Addr)(ps:List (Nat×Nat)):Prop:=∃ts:List Addr,H D=some (.lst (ts.map V.ref))/\Paired (λt (p:Nat×Nat)=>H t=some (.tup [.int p.1,.int p.2])) ts ps
theorem Paired.snoc{α β:Type}{F:α->β->Prop}{a:α}{b:β}(r:F a b):∀{l:List α} {m:List β},Paired F l m->Paired F (l++[a]) (m++[b])
 |_,_,.nil=>.cons r .nil
 |_,_,.cons q t=>.cons q (Paired.snoc r t)
theorem Paired.up{α β:Type}{F G:α->β->Prop}(h:∀a b,F a b->G a b){l:List α}{m:List β}(p:Paired F l m):Paired G l m:=Paired.Bzr p h
theorem Ati{H:Hp}{D t:Addr}{ps:List (Nat×Nat)}{i j:Nat}(h:Rw H D ps)(ht:H t=none):∃xs,(upd H t (.tup [.int i,.int j])) D=some (.lst xs)/\xs.length=ps.length/\Rw (upd (upd H t (.tup [.int i,.int j])) D (.lst (xs++[.ref t]))) D (ps++[(i,j)]):=by
 obtain⟨ts,e,r⟩:=h
 have hne:D≠t:=FP e ht
 refine⟨ts.map V.ref,by rw[Cd hne];exact e,by rw[Aa,Paired.length r],ts++[t],by rw[Ah,Bd];rfl,Paired.snoc ?_ (Paired.up (λa p q=>?_) r)⟩
 ·rw[Cd (Js hne),Ah]
 ·have h1:a≠t:=FP q ht
  have h2:a≠D:=Bh5 q e (λz=>nomatch z)
  rw[Cd h2,Cd h1];exact q
theorem Rw.keep{H H':Hp}{D:Addr}{ps:List (Nat×Nat)}(h:Rw H D ps)(s:Same H H'):Rw H' D ps:=by
 obtain⟨ts,e,r⟩:=h
 exact⟨ts,s _ _ e,Paired.up (λa p q=>s _ _ q) r⟩
theorem Rw.sq{K:Frag}{H:Hp}{D:Addr}{ps:List (Nat×Nat)}(h:Rw H D ps):∃xs,SqL K H D xs:=let⟨ts,e,_⟩:=h;⟨_,SqL.of e⟩
def Fit(xs:List Item):Prop:=xs.length<=5000/\∀x∈xs,x.rank<10/\x.sender<8
theorem big5:(5000:Nat)<sizeLine:=by decide
section
variable {P:Program}{w:World}{K:Frag}{mg:Str->Option Value}{base:Heap}{A:Adr}
def DY(A:Adr):Sp:=λvs H Q _=>∃b l B xs,vs=[.ref b,.ref l]/\Ja A H b B/\TL A H l xs/\Fit xs/\∀D H',Same H H'->H D=none->Rw H' D (RM.brk B xs)->Q (.ref D) H'
theorem Azu{α:Type}(p:α->Bool)(l:List α)(x:α):(l++[x]).filter p=l.filter p++if p x=true then [x] else []:=by
 rw[Gu,Cr]
 cases p x<;>rfl
def pre(B:Bounds)(xs:List Item):List (Nat×Nat):=if B.room<sizeOf_ xs then [(0,0)] else []
def Bdu(B:Bounds)(xs:List Item)(n:Nat):List (Nat×Nat):=((FJ n).filter λr=>decide (B.limits.getD r 0<sizeOf_ (xs.filter λx=>decide (x.rank<=r)))).map λr=>(1,r)
def Bky(B:Bounds)(xs:List Item)(n:Nat):List (Nat×Nat):=((FJ n).filter λs=>decide (B.share<sizeOf_ (xs.filter λx=>x.sender==s))).map λs=>(2,s)
theorem Bhm(B:Bounds)(xs:List Item):RM.brk B xs=pre B xs++(Bdu B xs 10++Bky B xs 8):=rfl
theorem Bh2(B:Bounds)(xs:List Item)(n:Nat):Bdu B xs (n+1)=Bdu B xs n++if B.limits.getD n 0<sizeOf_ (xs.filter λx=>decide (x.rank<=n)) then [(1,n)] else []:=by
 unfold Bdu
 rw[S5,Azu,Bd]
 by_cases h:B.limits.getD n 0<sizeOf_ (xs.filter λx=>decide (x.rank<=n))
 ·rw[Aq h,Aq (Aj h)];rfl
 ·rw[Am h,Am (by simpa using h)];rfl
theorem Big(B:Bounds)(xs:List Item)(n:Nat):Bky B xs (n+1)=Bky B xs n++if B.share<sizeOf_ (xs.filter λx=>x.sender==n) then [(2,n)] else []:=by
 unfold Bky
 rw[S5,Azu,Bd]
 by_cases h:B.share<sizeOf_ (xs.filter λx=>x.sender==n)
 ·rw[Aq h,Aq (Aj h)];rfl
 ·rw[Am h,Am (by simpa using h)];rfl
theorem Bkq(B:Bounds)(xs:List Item):(pre B xs).length<=1:=by unfold pre;split<;>simp
theorem Bdv(B:Bounds)(xs:List Item)(n:Nat):(Bdu B xs n).length<=n:=by
 unfold Bdu
 rw[Aa]
 exact Az (CQ _ _) (PN GX)
theorem Bom(B:Bounds)(xs:List Item)(n:Nat):(Bky B xs n).length<=n:=by
 unfold Bky
 rw[Aa]
 exact Az (CQ _ _) (PN GX)
theorem Afy(T:Txt K mg A):Def P w K mg base 2 "broken_bounds" QD (DY A):=by
 refine Ed T.Aiv Bav (λvs H Q E h=>?_) (λX e1 e2 e3 e4 e5 c H vs Q E h=>?_)
 ·obtain⟨b,l,B,xs,rfl,_⟩:=h;rfl
 ·tm_at"s"
  obtain⟨b,l,B,xs,rfl,hb,hl,hf,k⟩:=h
  refine⟨_,Ayg T c (Aen T) (XC T) (YL T),?_⟩
  show Yn X.K A _ _ _ _ [some (.ref b),some (.ref l),none,none,none,none] H
  unfold Yn
  tm_at"r"
  refine⟨by show 0<=sizeLine;decide,λD hD=>?_⟩
  have s0:Same H (upd H D (.lst [])):=Av hD
  have Cet:B.limits.length=10:=by obtain⟨_,_,_,_,q⟩:=hb;exact q
  have k3:∀H2 v3 v4 v5,Same H H2->Rw H2 D (pre B xs++Bdu B xs 10)->
    Vm X.K A (Dm A) (CG A) (Dn A) {nx:=λ_ H'=>Q .non H',rt:=Q} [some (.ref b),some (.ref l),some (.ref D),v3,v4,v5] H2:=by
   intro H2 v3 v4 v5 s2 hp
   unfold Vm
   tm_at"r"
   refine⟨_,rfl,l,xs,rfl,hl.same s2,λx hx=>(hf.2 x hx).2,λa H3 s3 ha hal=>?_⟩
   have hne:a≠D:=λz=>by obtain⟨ts,e,_⟩:=hp;rw[z,e] at ha;cases ha
   refine⟨a,_,rfl,SqL.of hal,Bc7 (xs:=(Pz xs).map V.int) (λn σ H'=>∃v3 v4 v5,σ=[some (.ref b),some (.ref l),some (.ref D),v3,v4,v5]/\Same H H'/\H' a=some (.lst ((Pz xs).map V.int))/\
    Rw H' D (pre B xs++(Bdu B xs 10++Bky B xs n)))
    ⟨v3,v4,v5,rfl,s2.trans s3,hal,by simpa [Bdu,Bky] using hp.keep s3⟩ (λi σ H' ⟨_,_,_,_,_,q,_⟩=>SqL.of q) ?turn ?fin⟩
   case turn=>
    rintro n x σ H' t hx ⟨w3,w4,w5,rfl,sH,Bpu,hp'⟩ ht
    have hn:n<8:=by
     have:=(BL.mp hx).1
     rw[Aa] at this
     unfold Pz at this
     simpa using this
    have ex:x=V.int (sizeOf_ (xs.filter λx=>x.sender==n)):=by
     rw[Bk] at hx
     unfold Pz at hx
     rw[Bk,Kv hn] at hx
     exact(Ae hx).symm
    subst ex
    have st:Same H' (upd H' t (.tup [.int (n:Nat),.int (sizeOf_ (xs.filter λx=>x.sender==n))])):=Av ht
    refine⟨t,_,rfl,SqT.of Ah,rfl,_,_,rfl,_,_,rfl,rfl,?_⟩
    refine⟨_,rfl,fv rfl (Bjn T (hb.same (sH.trans st))) ⟨_,_,rfl,rfl,_,rfl,?_⟩⟩
    have hpt:=hp'.keep st
    tm_at"r"
    by_cases hc:B.share<sizeOf_ (xs.filter λx=>x.sender==n)
    ·rw[Aq (Aj (by omega))]
     refine⟨_,rfl,.inl ⟨rfl,hpt.sq⟩,_,rfl,by show 2<=sizeLine;decide,λq hq=>?_⟩
     obtain⟨ys,ey,el,hnew⟩:=Ati (i:=2) (j:=n) hpt hq
     refine⟨D,ys,_,rfl,rfl,ey,?_,_,_,_,rfl,?_,?_,by rw[Big,Aq hc,<-Cg,<-Cg,Cg (pre B xs)];exact hnew⟩
     ·rw[el,Bg,Bg]
      have h1:=Bdv B xs 10
      have h2:=Bom B xs n
      have h3:=Bkq B xs
      have:(20:Nat)<sizeLine:=by decide
      omega
     ·exact FZ ((sH.trans st).trans (Av hq)) hD
     ·rw[Cd hne,Cd (FP (st _ _ Bpu) hq)]
      exact st _ _ Bpu
    ·rw[Am (by simp only [Cj];omega)]
     exact⟨_,_,_,rfl,sH.trans st,st _ _ Bpu,by rw[Big,Am hc,Ds];exact hpt⟩
   case fin=>
    rintro σ H' ⟨w3,w4,w5,rfl,sH,_,hp'⟩
    rw[Aa] at hp'
    dsimp only
    unfold Acx
    refine⟨_,rfl,k D H' sH hD ?_⟩
    unfold Pz at hp'
    rw[Aa,GX] at hp'
    rw[Bhm]
    exact hp'
  have k2:∀H2 v3 v4 v5,Same H H2->Rw H2 D (pre B xs)->
    Vl X.K A (Dm A) (CG A) (Dn A) {nx:=λ_ H'=>Q .non H',rt:=Q} [some (.ref b),some (.ref l),some (.ref D),v3,v4,v5] H2:=by
   intro H2 v3 v4 v5 s2 hp
   unfold Vl
   tm_at"r"
   refine⟨_,rfl,l,xs,rfl,hl.same s2,λx hx=>(hf.2 x hx).1,λa H3 s3 ha hal=>?_⟩
   have hne:a≠D:=λz=>by obtain⟨ts,e,_⟩:=hp;rw[z,e] at ha;cases ha
   refine⟨a,_,rfl,SqL.of hal,Bc7 (xs:=(Pu xs).map V.int) (λn σ H'=>∃v3 v4 v5,σ=[some (.ref b),some (.ref l),some (.ref D),v3,v4,v5]/\Same H H'/\H' a=some (.lst ((Pu xs).map V.int))/\
    Rw H' D (pre B xs++Bdu B xs n))
    ⟨v3,v4,v5,rfl,s2.trans s3,hal,by simpa [Bdu,Bky] using hp.keep s3⟩ (λi σ H' ⟨_,_,_,_,_,q,_⟩=>SqL.of q) ?turn ?fin⟩
   case turn=>
    rintro n x σ H' t hx ⟨w3,w4,w5,rfl,sH,Bpu,hp'⟩ ht
    have hn:n<10:=by
     have:=(BL.mp hx).1
     rw[Aa] at this
     unfold Pu usedBy at this
     simpa [Au2] using this
    have ex:x=V.int (sizeOf_ (xs.filter λx=>decide (x.rank<=n))):=by
     rw[Bk] at hx
     unfold Pu usedBy at hx
     rw[Bk,Bk,Kv (show n<Au2 from hn)] at hx
     exact(Ae hx).symm
    subst ex
    have st:Same H' (upd H' t (.tup [.int (n:Nat),.int (sizeOf_ (xs.filter λx=>decide (x.rank<=n)))])):=Av ht
    obtain⟨lp,hfl,hlp⟩:=Bwj T (hb.same (sH.trans st))
    refine⟨t,_,rfl,SqT.of Ah,rfl,_,_,rfl,_,_,rfl,rfl,?_⟩
    refine⟨_,rfl,fv rfl hfl ⟨_,rfl,lp,_,_,_,rfl,rfl,SqL.of hlp,KJ (Bsf Cet hn),_,_,rfl,rfl,_,rfl,?_⟩⟩
    have hpt:=hp'.keep st
    tm_at"r"
    by_cases hc:B.limits.getD n 0<sizeOf_ (xs.filter λx=>decide (x.rank<=n))
    ·rw[Aq (Aj (by omega))]
     refine⟨_,rfl,.inl ⟨rfl,hpt.sq⟩,_,rfl,by show 2<=sizeLine;decide,λq hq=>?_⟩
     obtain⟨ys,ey,el,hnew⟩:=Ati (i:=1) (j:=n) hpt hq
     refine⟨D,ys,_,rfl,rfl,ey,?_,_,_,_,rfl,?_,?_,by rw[Bh2,Aq hc,<-Cg];exact hnew⟩
     ·rw[el,Bg]
      have h1:=Bdv B xs n
      have h3:=Bkq B xs
      have:(20:Nat)<sizeLine:=by decide
      omega
     ·exact FZ ((sH.trans st).trans (Av hq)) hD
     ·rw[Cd hne,Cd (FP (st _ _ Bpu) hq)]
      exact st _ _ Bpu
    ·rw[Am (by simp only [Cj];omega)]
     exact⟨_,_,_,rfl,sH.trans st,st _ _ Bpu,by rw[Bh2,Am hc,Ds];exact hpt⟩
   case fin=>
    rintro σ H' ⟨w3,w4,w5,rfl,sH,_,hp'⟩
    rw[Aa] at hp'
    unfold Pu usedBy at hp'
    rw[Aa,Aa,GX] at hp'
    exact k3 H' _ _ _ sH hp'
  show Vk X.K A (Dm A) (CG A) (Dn A) {nx:=λ_ H'=>Q .non H',rt:=Q} [some (.ref b),some (.ref l),some (.ref D),none,none,none] _
  unfold Vk
  tm_at"r"
  refine⟨_,rfl,l,xs,rfl,hl.same s0,Az hf.1 (Jr big5),λH1 s1=>?_⟩
  have s01:=s0.trans s1
  have hD1:Rw H1 D []:=⟨[],s1 _ _ Ah,.nil⟩
  refine fv rfl (Axj T (hb.same s01)) ⟨_,_,rfl,rfl,_,rfl,?_⟩
  by_cases hc:B.room<sizeOf_ xs
  ·rw[Aq (Aj (by omega))]
   refine⟨_,rfl,.inl ⟨rfl,hD1.sq⟩,by show 2<=sizeLine;decide,λq hq=>?_⟩
   obtain⟨ys,ey,el,hnew⟩:=Ati (i:=0) (j:=0) hD1 hq
   refine⟨D,ys,_,rfl,rfl,ey,by rw[el];decide,k2 _ none none none (FZ (s01.trans (Av hq)) hD) ?_⟩
   unfold pre
   rw[Aq hc]
   exact hnew
  ·rw[Am (by simp only [Cj];omega)]
   exact k2 _ none none none s01 (by unfold pre;rw[Am hc];exact hD1)
def Em(A:Adr):Sp:=λvs H Q _=>∃b l B xs,vs=[.ref b,.ref l]/\Ja A H b B/\TL A H l xs/\Fit xs/\∀H',Same H H'->Q (.bl (fits B xs)) H'
theorem Ahc(T:Txt K mg A):Def P w K mg base 3 "fit" Aio (Em A):=by
 refine Ed T.Cau Cc1 (λvs H Q E h=>?_) (λX e1 e2 e3 e4 e5 c H vs Q E h=>?_)
 ·obtain⟨b,l,B,xs,rfl,_⟩:=h;rfl
 ·tm_at"s"
  obtain⟨b,l,B,xs,rfl,hb,hl,hf,k⟩:=h
  refine⟨_,Ccq T c (Afy T),?_⟩
  show Bx0 X.K A _ _ [some (.ref b),some (.ref l)] H
  unfold Bx0
  tm_at"r"
  refine⟨_,rfl,_,rfl,b,l,B,xs,rfl,hb,hl,hf,λD H' s hD hp=>?_⟩
  obtain⟨ts,e,r⟩:=hp
  refine⟨D,_,rfl,.inl (SqL.of e),rfl,?_⟩
  rw[RM.Avq] at k
  have hl:=Paired.length r
  have:=k H' s
  rw[Aa]
  refine Eq.mp (congrArg (λc=>Q (.bl c) H') ?_) this
  rw[<-hl]
  by_cases h0:ts.length=0
  ·rw[h0];rfl
  ·rw[Bf h0]
   exact(Bf λz=>h0 (by have:=V.int.inj z;omega)).symm
end
end RT
end
section
namespace RT
open PySem PySem.Spec PyProof.Rows L2 RB
open Vbdtag (Item Bounds sizeOf_ worthOf stronger numbersRow usedBy fits minus numbers)
abbrev Zs:=List (Addr×Item)
def its(zs:Zs):List Item:=zs.map (·.2)
theorem TLz.tl{A:Adr}{H:Hp}{l:Addr}{zs:Zs}(h:TLz A H l zs):TL A H l (its zs):=⟨zs,h,rfl⟩
theorem Nj(zs ys:Zs):its (zs++ys)=its zs++its ys:=Bd
theorem TX(p:Item->Bool)(zs:Zs):its (zs.filter λz=>p z.2)=(its zs).filter p:=As3 p zs
theorem Gi.upd{A:Adr}{H:Hp}{a p:Addr}{x:Item}{xs ys:List V}(h:Gi A H a x)(e:H p=some (.lst xs)):Gi A (upd H p (.lst ys)) a x:=by
 obtain⟨C,dx,ex,e1,t⟩:=h
 exact⟨C,dx,ex,by rw[Cd (Bh5 e1 e (λz=>nomatch z))];exact e1,t⟩
section
variable {P:Program}{w:World}{K:Frag}{mg:Str->Option Value}{base:Heap}{A:Adr}
theorem Bet:∀xs:List Item,(xs.map λx=>(x.worth:Int)).sum=(worthOf xs:Int)
 |[]=>rfl
 |x::r=>by
  have ih:=Bet r
  rw[Bo,Jk,ih]
  show _=(((x.worth::r.map λx=>x.worth).sum:Nat):Int)
  rw[Jk]
  unfold worthOf
  omega
def Dg(A:Adr):Sp:=λvs H Q _=>∃l xs,vs=[.ref l]/\TL A H l xs/\xs.length<=sizeLine/\∀H',Same H H'->Q (.int (worthOf xs)) H'
theorem Ve(T:Txt K mg A):Def P w K mg base 1 "whole_worth" Og (Dg A):=by
 refine Ed T.Aqx Bf3 (λvs H Q E h=>?_) (λX e1 e2 e3 e4 e5 c H vs Q E h=>?_)
 ·obtain⟨l,xs,rfl,_⟩:=h;rfl
 ·tm_at"s"
  obtain⟨l,xs,rfl,hl,hz,k⟩:=h
  refine⟨_,Bfd T c,?_⟩
  show Ae8 X.K A _ [some (.ref l),none] H
  unfold Ae8
  tm_at"r"
  refine Avy (A:=A) (xs:=xs) (λ_=>true) (λx=>.int x.worth) (λR q=>⟨_,rfl,q⟩) hl hz (λa x H' R hx hT s h=>h H' (Same.refl _)) (λa x H' R hx _ hT s h=>fv rfl (Brl T hT) (h H' (Same.refl _))) λD H' s hD h=>?_
  refine⟨D,xs.map λx=>(x.worth:Int),rfl,SqL.of ?_,?_⟩
  ·rw[h,GC.mpr λ_ _=>rfl,Df];rfl
  ·rw[Bet];exact k H' s
theorem Bng(n:Nat):∀xs:List Item,inV (.int n) (xs.map λx=>V.int x.num)=(numbers xs).contains n
 |[]=>rfl
 |x::r=>by
  have ih:=Bng n r
  unfold inV at ih|-
  unfold numbers at ih|-
  rw[Bo,Wk,Bo,PJ,ih]
  congr 1
  show((x.num:Int)==(n:Int))=(n==x.num)
  by_cases h:n=x.num
  ·subst h;simp
  ·rw[DG.mpr h]
   exact DG.mpr (by omega)
theorem Btw:∀xs:List Item,(xs.map λx=>V.int x.num).all Aqy=true:=λxs=>by
 rw[List.all_map]
 exact Ep.mpr λ_ _=>rfl
def Et(A:Adr):Sp:=λvs H Q _=>∃l g zs ys,vs=[.ref l,.ref g]/\TLz A H l zs/\TL A H g ys/\zs.length<=sizeLine/\ys.length<=sizeLine/\
 ∀D H',Same H H'->H D=none->TLz A H' D (zs.filter λz=>!(numbers ys).contains z.2.num)->Q (.ref D) H'
theorem Ahd(T:Txt K mg A):Def P w K mg base 1 "without" V7 (Et A):=by
 refine Ed T.Bhu Btk (λvs H Q E h=>?_) (λX e1 e2 e3 e4 e5 c H vs Q E h=>?_)
 ·obtain⟨l,g,zs,ys,rfl,_⟩:=h;rfl
 ·tm_at"s"
  obtain⟨l,g,zs,ys,rfl,hl,hg,hz,hy,k⟩:=h
  refine⟨_,Bqy T c,?_⟩
  show Ayd X.K A _ [some (.ref l),some (.ref g),none,none] H
  unfold Ayd
  tm_at"r"
  refine Avy (A:=A) (xs:=ys) (λ_=>true) (λx=>.int x.num) (λR q=>⟨_,rfl,q⟩) hg hy (λa x H' R hx hT s h=>h H' (Same.refl _)) (λa x H' R hx _ hT s h=>fv rfl (Xr T hT) (h H' (Same.refl _))) λD H1 s1 hD h1=>?_
  rw[GC.mpr λ_ _=>rfl] at h1
  show Anl X.K A _ [some (.ref l),some (.ref g),some (.ref D),none] H1
  unfold Anl
  tm_at"r"
  refine Axx (A:=A) (λy=>!(numbers ys).contains y.num) (λR q=>⟨_,rfl,q⟩) (hl.same s1) hz (by show 3<4;decide) (λb y H' R hy' hT s h=>?_) λD2 H2 s2 hD2 h2=>k D2 H2 (s1.trans s2) (s1.free hD2) h2
  tm_at"r"
  refine fv rfl (Xr T hT) ⟨_,rfl,D,_,rfl,.inl (SqL.of (s _ _ h1)),rfl,Btw ys,_,rfl,?_⟩
  have:=h H' (Same.refl _)
  rw[Bng]
  exact this
theorem Bt8{A:Adr}(Q:List V->Hp->Prop):∀(zs:Zs) (H:Hp),(∀z∈zs,Gi A H z.1 z.2)->(∀(ts:List Addr) (H':Hp),Same H H'->Paired (λt (z:Addr×Item)=>H' t=some (.tup ((stK z.2).map V.int))) ts zs->Q (ts.map V.ref) H')->
  Asn (Jg A) (zs.map λz=>V.ref z.1) H Q:=by
 intro zs
 induction zs generalizing Q with
 |nil=>intro H _ k;exact k [] H (Same.refl _) .nil
 |cons z zs ih=>
  intro H hz k
  show Jg A [.ref z.1] H (λv H1=>Asn (Jg A) (zs.map λz=>V.ref z.1) H1 λks H2=>Q (v::ks) H2) E0
  refine⟨z.1,z.2,rfl,hz z Bl,λt H1 s1 h1=>?_⟩
  refine ih (λks H2=>Q (.ref t::ks) H2) H1 (λy hy=>(hz y (Bh _ hy)).same s1) λts H2 s2 r=>?_
  exact k (t::ts) H2 (s1.trans s2) (.cons (s2 _ _ h1) r)
theorem Br1{K:Frag}{H:Hp}:∀{ts:List Addr} {zs:Zs},Paired (λt (z:Addr×Item)=>H t=some (.tup ((stK z.2).map V.int))) ts zs->Paired (λv k=>∃t,v=V.ref t/\SqT K H t (k.map V.int)/\k≠[]) (ts.map V.ref) (zs.map λz=>stK z.2)
 |_,_,.nil=>.nil
 |_,_,.cons r t=>.cons ⟨_,rfl,SqT.of r,by unfold stK;simp⟩ (Br1 t)
theorem Cam(zs:Zs):(zs.map λz=>stK z.2).zip (zs.map λz=>V.ref z.1)=zs.map λz=>(stK z.2,V.ref z.1):=by
 induction zs with
 |nil=>rfl
 |cons z zs ih=>rw[Bo,Bo,Ka,ih];rfl
theorem Bej{α β:Type}{f:α->β}{l:List α}{m:List β}(h:m.Perm (l.map f)):∃l':List α,l'.Perm l/\m=l'.map f:=by
 have go:∀{a b:List β},a.Perm b->∀l:List α,b=l.map f->∃l':List α,l'.Perm l/\a=l'.map f:=by
  intro a b h
  induction h with
  |nil=>
   intro l e
   cases l with
   |nil=>exact⟨[],.refl _,rfl⟩
   |cons _ _=>cases e
  |cons x _ ih=>
   intro l e
   cases l with
   |nil=>cases e
   |cons y l=>
    rw[Bo,List.cons.injEq] at e
    obtain⟨l',p,q⟩:=ih l e.2
    exact⟨y::l',p.cons y,by rw[Bo,e.1,q]⟩
  |swap x y r=>
   intro l e
   match l,e with
   |a::b::l,e=>
    rw[Bo,Bo,List.cons.injEq,List.cons.injEq] at e
    exact⟨b::a::l,.swap _ _ _,by rw[Bo,Bo,e.1,e.2.1,e.2.2]⟩
  |trans _ _ ih1 ih2=>
   intro l e
   obtain⟨l1,p1,e1⟩:=ih2 l e
   obtain⟨l2,p2,e2⟩:=ih1 l1 e1
   exact⟨l2,p2.trans p1,e2⟩
 exact go h l rfl
def Di(A:Adr):Sp:=λvs H Q _=>∃l zs,vs=[.ref l]/\TLz A H l zs/\RM.ND (its zs)/\
 ∀D H' zs',Same H H'->H D=none->zs'.Perm zs->RM.Sd (its zs')->TLz A H' D zs'->Q (.ref D) H'
theorem T3(T:Txt K mg A):Def P w K mg base 4 "strongest_first" Ln (Di A):=by
 refine Ed T.Acn Au1 (λvs H Q E h=>?_) (λX e1 e2 e3 e4 e5 c H vs Q E h=>?_)
 ·obtain⟨l,zs,rfl,_⟩:=h;rfl
 ·tm_at"s"
  obtain⟨l,zs,rfl,hl,nd,k⟩:=h
  refine⟨_,Atv T c (Az3 T),?_⟩
  show Vq X.K A _ _ [some (.ref l)] H
  unfold Vq
  show Awp X.K _ _ _ _ _
  refine⟨_,rfl,l,_,rfl,SqL.of hl.1,Bt8 _ zs H hl.2 λts H' s r=>?_⟩
  refine⟨zs.map λz=>stK z.2,.inr (Br1 r),λps p1 p2 p3 D hD=>?_⟩
  rw[Cam] at p1
  obtain⟨zs',pz,rfl⟩:=Bej p1
  rw[Df]
  refine k D _ zs' (s.trans (Av hD)) (s.free hD) pz ?_ ⟨Ah,λz hz=>(hl.2 z (pz.mem_iff.mp hz)).same (s.trans (Av hD))⟩
  refine RM.Bqn ((RM.Lq (pz.map _)).mpr nd) ?_
  rw[JK] at p2
  unfold its
  rw[JK]
  refine p2.imp λ{a b} h=>?_
  rw[Awn] at h
  exact h
theorem Bj6(x:Item)(zs:Zs):its (zs.filter λz=>!(stronger x z.2&&!z.2.bound))=RM.ng x (its zs):=TX (λy=>!(stronger x y&&!y.bound)) zs
theorem Cb8(x:Item)(zs:Zs):its (zs.filter λz=>stronger x z.2&&!z.2.bound)=RM.mg x (its zs):=TX (λy=>stronger x y&&!y.bound) zs
def Cq(A:Adr):Sp:=λvs H Q _=>∃b l a B zs x,vs=[.ref b,.ref l,.ref a]/\Ja A H b B/\TLz A H l zs/\Gi A H a x/\Fit (x::its zs)/\∀H',Same H H'->Q (.bl (RM.Xv B x (its zs))) H'
theorem Bjq{x:Item}{l m:List Item}(f:Fit (x::l))(hm:∀y∈m,y=x\/y∈l)(hn:m.length<=l.length+1):Fit m:=by
 refine⟨by have:=f.1;rw[Ay] at this;omega,λy hy=>?_⟩
 rcases hm y hy with e|q
 ·rw[e];exact f.2 x Bl
 ·exact f.2 y (Bh _ q)
theorem Acu(T:Txt K mg A):Def P w K mg base 4 "is_taken" TF (Cq A):=by
 refine Ed T.Bc3 Bpc (λvs H Q E h=>?_) (λX e1 e2 e3 e4 e5 c H vs Q E h=>?_)
 ·obtain⟨b,l,a,B,zs,x,rfl,_⟩:=h;rfl
 ·tm_at"s"
  obtain⟨b,l,a,B,zs,x,rfl,hb,hl,hx,hf,k⟩:=h
  refine⟨_,Boz T c (Ahc T) (SM T),?_⟩
  show Atk X.K A _ _ _ [some (.ref b),some (.ref l),some (.ref a)] H
  unfold Atk
  tm_at"r"
  have hz:zs.length<=5000:=by have:=hf.1;rw[Ay] at this;unfold its at this;rw[Aa] at this;omega
  refine⟨_,rfl,_,rfl,_,rfl,l,a,zs,x,rfl,hl,hx,Az hz (Jr big5),λD H1 s1 hD h1=>?_⟩
  refine⟨_,rfl,by show 1<=sizeLine;decide,λp hp=>?_⟩
  have hln:=CQ (λz=>!(stronger x z.2&&!z.2.bound)) zs
  refine⟨D,p,_,[.ref a],rfl,rfl,(Av hp) _ _ h1.1,Ah,?_,λq hq=>?_⟩
  ·rw[Aa]
   have:=big5
   show _+1<=_
   omega
  ·have s3:=(Av hp).trans (Av (o:=.lst (Ako (λz=>V.ref z.1) (zs.filter λz=>!(stronger x z.2&&!z.2.bound))++[.ref a])) hq)
   have s13:=s1.trans s3
   refine⟨b,q,B,RM.ng x (its zs)++[x],rfl,hb.same s13,⟨(zs.filter λz=>!(stronger x z.2&&!z.2.bound))++[(a,x)],⟨by rw[Ah,Bd];rfl,λz hz=>?_⟩,?_⟩,?_,λH' s=>k H' (s13.trans s)⟩
   ·rcases Bw.mp hz with hz|hz
    ·exact(h1.2 z hz).same s3
    ·rw[Bj.mp hz];exact hx.same s13
   ·rw[Bd,<-Bj6];rfl
   ·refine Bjq hf (λy hy=>?_) ?_
    ·rcases Bw.mp hy with hy|hy
     ·exact .inr (DP.mp hy).1
     ·exact .inl (Bj.mp hy)
    ·rw[Bg]
     have:=CQ (λy=>!(stronger x y&&!y.bound)) (its zs)
     show _+1<=_
     unfold RM.ng
     omega
end
end RT
end
section
namespace RT
open PySem PySem.Spec PyProof.Rows L2 RB
open Vbdtag (Item Bounds sizeOf_ worthOf stronger numbersRow usedBy fits minus numbers)
abbrev rf(zs:Zs):List V:=zs.map λz=>V.ref z.1
theorem Aoo(zs:Zs)(z:Addr×Item):rf (zs++[z])=rf zs++[V.ref z.1]:=Bd
theorem Bw1(z:Addr×Item)(zs:Zs):its (z::zs)=z.2::its zs:=rfl
theorem Bvi(B:Bounds)(T G:List Item)(y:Item)(r:List Item):RM.walk B T G (y::r)=if fits B (T++[y])=true then RM.walk B (T++[y]) G r else RM.walk B T (G++[y]) r:=rfl
theorem DK(zs:Zs):(its zs).length=zs.length:=Aa ..
theorem Rz{zs:Zs}{z:Addr×Item}(h:z∈zs):z.2∈its zs:=Cw h
theorem U8{zs:Zs}{x:Item}(h:x∈its zs):∃z∈zs,z.2=x:=Dv.mp h
section
variable {P:Program}{w:World}{K:Frag}{mg:Str->Option Value}{base:Heap}{A:Adr}
def Eb(A:Adr):Sp:=λvs H Q _=>∃b l a B zs x,vs=[.ref b,.ref l,.ref a]/\Ja A H b B/\TLz A H l zs/\Gi A H a x/\Fit (x::its zs)/\
 ∀D H',Same H H'->H D=none->TL A H' D (RM.GZ B x (its zs))->Q (.ref D) H'
theorem Al0(T:Txt K mg A):Def P w K mg base 4 "gone_for" V6 (Eb A):=by
 refine Ed T.Bc2 Bpb (λvs H Q E h=>?_) (λX e1 e2 e3 e4 e5 c H vs Q E h=>?_)
 ·obtain⟨b,l,a,B,zs,x,rfl,_⟩:=h;rfl
 ·tm_at"s"
  obtain⟨b,l,a,B,zs,x,rfl,hb,hl,hx,hf,k⟩:=h
  refine⟨_,Boy T c (Ax6 T) (SM T) (Ahc T),?_⟩
  show Atj X.K A _ _ _ _ [some (.ref b),some (.ref l),some (.ref a),none,none,none] H
  unfold Atj
  tm_at"r"
  have hz:zs.length<=4999:=by have:=hf.1;rw[Ay,DK] at this;omega
  have hzl:zs.length<=sizeLine:=Az hz (by decide)
  refine⟨_,rfl,_,rfl,l,a,zs,x,rfl,hl,hx,hzl,λN H1 s1 hN h1=>?_⟩
  refine⟨_,rfl,by show 1<=sizeLine;decide,λp hp=>?_⟩
  have hln:=CQ (λz=>!(stronger x z.2&&!z.2.bound)) zs
  refine⟨N,p,_,[.ref a],rfl,rfl,(Av hp) _ _ h1.1,Ah,?_,λTp hT=>?_⟩
  ·rw[Aa]
   have:=big5
   show _+1<=_
   omega
  have s2:=s1.trans ((Av hp).trans (Av (o:=.lst (rf (zs.filter λz=>!(stronger x z.2&&!z.2.bound))++[.ref a])) hT))
  have hTH:H Tp=none:=(s1.trans (Av hp)).free hT
  show Ahn X.K A (Ei A) (Bt A) (Em A) _ [some (.ref b),some (.ref l),some (.ref a),some (.ref Tp),none,none] _
  unfold Ahn
  tm_at"r"
  refine⟨by show 0<=sizeLine;decide,λG hG=>?_⟩
  have s3:=s2.trans (Av (o:=.lst []) hG)
  have hGH:H G=none:=s2.free hG
  have hGT:Tp≠G:=λz=>by rw[<-z,Ah] at hG;cases hG
  show Aho X.K A (Ei A) (Bt A) (Em A) _ [some (.ref b),some (.ref l),some (.ref a),some (.ref Tp),some (.ref G),none] _
  unfold Aho
  tm_at"r"
  refine⟨_,rfl,_,rfl,l,a,zs,x,rfl,hl.same s3,hx.same s3,hzl,λM H4 s4 hM h4=>?_⟩
  have s34:=s3.trans s4
  have hT4:H4 Tp=some (.lst (rf ((zs.filter λz=>!(stronger x z.2&&!z.2.bound))++[(a,x)]))):=s4 _ _ (by rw[Cd hGT,Ah,Aoo])
  have hG4:H4 G=some (.lst (rf [])):=s4 _ _ Ah
  have hMT:M≠Tp:=λz=>by rw[z,Cd hGT,Ah] at hM;cases hM
  have hMG:M≠G:=λz=>by rw[z,Ah] at hM;cases hM
  generalize hmz:(zs.filter λz=>stronger x z.2&&!z.2.bound)=mz at h4
  have Cf3:mz.length<=zs.length:=by rw[<-hmz];exact CQ _ _
  have hsum:(zs.filter λz=>!(stronger x z.2&&!z.2.bound)).length+mz.length=zs.length:=by
   rw[<-hmz]
   have:=(Lj (λz:Addr×Item=>stronger x z.2&&!z.2.bound) zs).length_eq
   rw[Bg] at this;omega
  have hmem:∀z∈mz,z∈zs:=λz hz=>by rw[<-hmz] at hz;exact(DP.mp hz).1
  refine⟨M,rfl,⟨_,SqL.of h4.1⟩,JZ (K:=X.K) (a:=M) (xs:=rf mz) (λn σ H'=>∃v5 tz gz,σ=[some (.ref b),some (.ref l),some (.ref a),some (.ref Tp),some (.ref G),v5]/\Same H H'/\H' Tp=some (.lst (rf tz))/\H' G=some (.lst (rf gz))/\H' M=some (.lst (rf mz))/\
   (∀z∈tz,z=(a,x)\/z∈zs)/\(∀z∈gz,z∈zs)/\tz.length+gz.length<=(zs.filter λz=>!(stronger x z.2&&!z.2.bound)).length+1+n/\RM.walk B (its tz) (its gz) (its (mz.drop n))=RM.walk B (RM.ng x (its zs)++[x]) [] (RM.mg x (its zs)))
   ⟨none,_,[],rfl,s34,hT4,hG4,h4.1,?i1,(λz hz=>nomatch hz),?i2,?i3⟩ (λi σ H' _ ⟨_,_,_,_,_,_,_,q,_⟩=>SqL.of q) ?turn ?fin⟩
  case i1=>
   intro z hz
   rcases Bw.mp hz with hz|hz
   ·exact .inr (DP.mp hz).1
   ·exact .inl (Bj.mp hz)
  case i2=>rw[Bg];exact Bu _
  case i3=>
   rw[Ri,Nj,Bj6,<-hmz,Cb8]
   rfl
  case turn=>
   rintro n v σ H' hv ⟨v5,tz,gz,rfl,sH,hT',hG',hM',ht,hg,hlen,hw⟩
   rw[Bk] at hv
   obtain⟨z,hn,rfl⟩:∃z,mz[n]?=some z/\V.ref z.1=v:=J8 hv
   have hnl:n<mz.length:=(BL.mp hn).1
   have hzm:z∈mz:=BX hn
   have hzz:=hmem z hzm
   have hzT:Gi A H' z.1 z.2:=(hl.2 z hzz).same sH
   have hd:mz.drop n=z::mz.drop (n+1):=by
    rw[EY hnl]
    congr 1
    exact Ae ((CP hnl).symm.trans hn)
   rw[hd,Bw1,Bvi] at hw
   refine⟨_,rfl,_,rfl,_,rfl,by show 1<=sizeLine;decide,λp hp=>?_⟩
   have hb5:=big5
   have hlz:tz.length+1<=5001+mz.length:=by omega
   refine⟨Tp,p,rf tz,[.ref z.1],rfl,rfl,(Av hp) _ _ hT',Ah,?_,λq hq=>?_⟩
   ·rw[Aa]
    have:(11000:Nat)<sizeLine:=by decide
    show _+1<=_
    omega
   have sq:=(Av (o:=.lst [.ref z.1]) hp).trans (Av (o:=.lst (rf tz++[.ref z.1])) hq)
   refine⟨b,q,B,its tz++[z.2],rfl,hb.same (sH.trans sq),⟨tz++[z],⟨by rw[Ah,Bd];rfl,λy hy=>?_⟩,by rw[Bd];rfl⟩,?_,λH5 s5=>⟨_,rfl,?_⟩⟩
   ·rcases Bw.mp hy with hy|hy
    ·rcases ht y hy with e|q'
     ·rw[e];exact hx.same (sH.trans sq)
     ·exact(hl.2 y q').same (sH.trans sq)
    ·rw[Bj.mp hy];exact hzT.same sq
   ·refine⟨by rw[Bg,DK];show _+1<=_;omega,λy hy=>?_⟩
    rcases Bw.mp hy with hy|hy
    ·obtain⟨y',hy',rfl⟩:=U8 hy
     rcases ht y' hy' with e|q'
     ·rw[e];exact hf.2 x Bl
     ·exact hf.2 _ (Bh _ (Rz q'))
    ·rw[Bj.mp hy];exact hf.2 _ (Bh _ (Rz hzz))
   ·have hT5:=s5 _ _ (sq _ _ hT')
    have hG5:=s5 _ _ (sq _ _ hG')
    have hM5:=s5 _ _ (sq _ _ hM')
    have sH5:=sH.trans (sq.trans s5)
    tm_at"r"
    cases hfit:fits B (its tz++[z.2]) with
    |true=>
     rw[Aq rfl]
     rw[hfit,Aq rfl] at hw
     refine⟨_,rfl,.inl ⟨rfl,_,SqL.of hT5⟩,_,rfl,Tp,rf tz,_,rfl,rfl,hT5,?_,_,tz++[z],gz,rfl,FZ sH5 hTH,by rw[Ah,Aoo],by rw[Cd (Js hGT)];exact hG5,by rw[Cd hMT];exact hM5,λy hy=>?_,hg,by rw[Bg];show _+1+_<=_;omega,by rw[Nj];exact hw⟩
     ·rw[Aa]
      have:(11000:Nat)<sizeLine:=by decide
      omega
     ·rcases Bw.mp hy with hy|hy
      ·exact ht y hy
      ·rw[Bj.mp hy];exact .inr hzz
    |false=>
     rw[Am Ac]
     rw[hfit,Am Ac] at hw
     refine⟨_,rfl,.inl ⟨rfl,_,SqL.of hG5⟩,_,rfl,G,rf gz,_,rfl,rfl,hG5,?_,_,tz,gz++[z],rfl,FZ sH5 hGH,by rw[Cd hGT];exact hT5,by rw[Ah,Aoo],by rw[Cd hMG];exact hM5,ht,λy hy=>?_,by rw[Bg];show _+(_+1)<=_;omega,by rw[Nj];exact hw⟩
     ·rw[Aa]
      have:(11000:Nat)<sizeLine:=by decide
      omega
     ·rcases Bw.mp hy with hy|hy
      ·exact hg y hy
      ·rw[Bj.mp hy];exact hzz
  case fin=>
   rintro σ H' ⟨v5,tz,gz,rfl,sH,hT',hG',hM',ht,hg,hlen,hw⟩
   rw[Aa,O2] at hw
   dsimp only
   unfold Awb
   refine⟨_,rfl,k G H' sH hGH ⟨gz,⟨hG',λz hz=>(hl.2 z (hg z hz)).same sH⟩,?_⟩⟩
   have e:(RM.walk B (its tz) (its gz) []).2=its gz:=rfl
   show its gz=RM.GZ B x (its zs)
   rw[<-e]
   show(RM.walk B (its tz) (its gz) (its [])).2=_
   rw[hw]
   rfl
end
end RT
end
section
namespace RT
open PySem PySem.Spec PyProof.Rows L2 RB
open Vbdtag (Item Bounds Coming sizeOf_ worthOf stronger numbersRow usedBy fits minus numbers thingsIn comingsIn)
def Bu0(x:Item):List V:=[V.int x.num,V.int x.size,V.int x.rank,V.int x.last,V.int x.sender,V.int x.worth]
section
variable {P:Program}{w:World}{K:Frag}{mg:Str->Option Value}{base:Heap}{A:Adr}
def Bm(A:Adr):Sp:=λvs H Q _=>∃s six C dx x,vs=[.ref s,.ref six]/\H s=some (.ins C dx [])/\(C=A.GJ\/C=A.JN)/\H six=some (.lst (Bu0 x))/\x.bound=false/\x.promised=false/\Q .non (upd H s (.ins C dx (thF x)))
theorem Cfe(x:Item)(hb:x.bound=false)(hp:x.promised=false):Nm "promised" (.bl false) (Nm "bound" (.bl false) (Nm "worth" (.int x.worth) (Nm "sender" (.int x.sender) (Nm "end" (.int x.last) (Nm "rank" (.int x.rank) (Nm "size" (.int x.size) (Nm "number" (.int x.num) [])))))))=thF x:=by
 have n:∀(f:Str) (v:V),Nm f v []=[(f,v)]:=λf v=>rfl
 repeat (first|rw[n]|rw[R3 (by decide+kernel)])
 unfold thF
 rw[hb,hp]
theorem Kl{f:Str}{v:V}{fs:List (Str×V)}{n:Nat}(h:fs.length<=n):(Nm f v fs).length<=n+1:=Az (Alr f v fs) (Afk h)
theorem Rm{f:Str}{v:V}:(Nm f v []).length<=1:=Bu _
theorem Bcw{X:Cx}(T:Txt X.K X.mg A){H:Hp}{Q:VK}{s six C dx:Addr}{x:Item}(hs:H s=some (.ins C dx []))(hC:C=A.GJ\/C=A.JN)(h6:H six=some (.lst (Bu0 x)))(hb:x.bound=false)(hp:x.promised=false)(q:Q .non (upd H s (.ins C dx (thF x)))):
  Ahj X.K A {nx:=λ_ H'=>Q .non H',rt:=Q} [some (.ref s),some (.ref six)] H:=by
 have hne:six≠s:=Bh5 h6 hs (λz=>nomatch z)
 have cls:Cls X.K C:=by rcases hC with e|e<;>rw[e];exact T.U9;exact T.RJ
 have na:∀f:Str,HY X.K A.GJ f->HY X.K A.JN f->HY X.K C f:=λf h1 h2=>by rcases hC with e|e<;>rw[e];exact h1;exact h2
 rw[<-Cfe x hb hp] at q
 unfold Ahj Amg Amh Ami Amj Amk Aml Amm
 tm_at"r"
 refine⟨_,rfl,six,_,_,_,rfl,rfl,SqL.of h6,KJ (j:=0) (v:=V.int x.num) rfl,_,rfl,s,C,dx,_,rfl,hs,cls,na _ T.Aax T.Aav,by decide,?_⟩
 refine⟨_,rfl,six,_,_,_,rfl,rfl,SqL.of (by rw[Cd hne];exact h6),KJ (j:=1) (v:=V.int x.size) rfl,_,rfl,s,C,dx,_,rfl,Ah,cls,na _ T.Aha T.Ag8,CJ Rm (by decide),?_⟩
 rw[Mu]
 refine⟨_,rfl,six,_,_,_,rfl,rfl,SqL.of (by rw[Cd hne];exact h6),KJ (j:=2) (v:=V.int x.rank) rfl,_,rfl,s,C,dx,_,rfl,Ah,cls,na _ T.Ag9 T.Ag7,CJ (Kl Rm) (by decide),?_⟩
 rw[Mu]
 refine⟨_,rfl,six,_,_,_,rfl,rfl,SqL.of (by rw[Cd hne];exact h6),KJ (j:=3) (v:=V.int x.last) rfl,_,rfl,s,C,dx,_,rfl,Ah,cls,na _ T.Alw T.Alv,CJ (Kl (Kl Rm)) (by decide),?_⟩
 rw[Mu]
 refine⟨_,rfl,six,_,_,_,rfl,rfl,SqL.of (by rw[Cd hne];exact h6),KJ (j:=4) (v:=V.int x.sender) rfl,_,rfl,s,C,dx,_,rfl,Ah,cls,na _ T.Aay T.Aaw,CJ (Kl (Kl (Kl Rm))) (by decide),?_⟩
 rw[Mu]
 refine⟨_,rfl,six,_,_,_,rfl,rfl,SqL.of (by rw[Cd hne];exact h6),KJ (j:=5) (v:=V.int x.worth) rfl,_,rfl,s,C,dx,_,rfl,Ah,cls,na _ T.Aem T.Ael,CJ (Kl (Kl (Kl (Kl Rm)))) (by decide),?_⟩
 rw[Mu]
 refine⟨_,rfl,s,C,dx,_,rfl,Ah,cls,na _ T.WM T.WL,CJ (Kl (Kl (Kl (Kl (Kl Rm))))) (by decide),?_⟩
 rw[Mu]
 refine⟨_,rfl,s,C,dx,_,rfl,Ah,cls,na _ T.RN T.RK,CJ (Kl (Kl (Kl (Kl (Kl (Kl Rm)))))) (by decide),?_⟩
 rw[Mu]
 exact q
theorem Xz(T:Txt K mg A):Mak P w K mg base 1 A.GJ "Thing" Jt (Bm A):=by
 refine Bj2 T.Bj1 T.Bjw.mth Aux (λvs H Q E h=>?_) (λX e1 e2 e3 e4 e5 c H vs Q E h=>?_)
 ·obtain⟨s,six,C,dx,x,rfl,_⟩:=h;rfl
 ·tm_at"s"
  obtain⟨s,six,C,dx,x,rfl,hs,hC,h6,hb,hp,q⟩:=h
  exact⟨_,Asd T c,Bcw T hs hC h6 hb hp q⟩
theorem Bt4(T:Txt K mg A):Ini P w K mg base 1 A.GJ "__init__" Jt (Bm A):=by
 refine Cbp T.Bjw Aux (λvs H Q E h=>?_) (λX e1 e2 e3 e4 e5 c H vs Q E h=>?_)
 ·obtain⟨s,six,C,dx,x,rfl,_⟩:=h;rfl
 ·tm_at"s"
  obtain⟨s,six,C,dx,x,rfl,hs,hC,h6,hb,hp,q⟩:=h
  exact⟨_,Asd T c,Bcw T hs hC h6 hb hp q⟩
theorem Vb{Q:Addr->Hp->Prop}{H:Hp}{six:Addr}{x:Item}(h6:H six=some (.lst (Bu0 x)))(hb:x.bound=false)(hp:x.promised=false)(k:∀a H2,Same H H2->H a=none->Gi A H2 a x->Q a H2):
  ∀a dx,H a=none->H dx=none->dx≠a->Bm A (.ref a::([.ref six]++[])) (upd (upd H dx (.own a)) a (.ins A.GJ dx [])) (λv H2=>v=.non/\Q a H2) E0:=by
 intro a dx ha hd hne
 have s1:Same H (upd (upd H dx (.own a)) a (.ins A.GJ dx [])):=FZ (Av hd) ha
 refine⟨a,six,A.GJ,dx,x,rfl,Ah,.inl rfl,s1 _ _ h6,hb,hp,rfl,k a _ (FZ s1 ha) ha ⟨A.GJ,dx,[],by rw[Ah,Ds],.inl ⟨rfl,rfl⟩⟩⟩
def Px(A:Adr):Sp:=λvs H Q _=>∃s m six dx x,vs=[.ref s,.int (m:Nat),.ref six]/\H s=some (.ins A.JN dx [])/\H six=some (.lst (Bu0 x))/\x.bound=false/\x.promised=false/\Q .non (upd H s (.ins A.JN dx (thF x++[(("moment":Str),V.int (m:Nat))])))
theorem Bqi(x:Item)(m:V):Nm "moment" m (thF x)=thF x++[(("moment":Str),m)]:=by
 have n:∀(f:Str) (v:V),Nm f v []=[(f,v)]:=λf v=>rfl
 unfold thF
 repeat (first|rw[n]|rw[R3 (by decide+kernel)])
 rfl
theorem Bxk(T:Txt K mg A):Mak P w K mg base 2 A.JN "Comer" Y6 (Px A):=by
 refine Bj2 T.Bsh T.Brt.mth Bi0 (λvs H Q E h=>?_) (λX e1 e2 e3 e4 e5 c H vs Q E h=>?_)
 ·obtain⟨s,m,six,dx,x,rfl,_⟩:=h;rfl
 ·tm_at"s"
  obtain⟨s,m,six,dx,x,rfl,hs,h6,hb,hp,q⟩:=h
  refine⟨_,Bgt T c (Bt4 T),?_⟩
  show Ahh X.K A _ _ [some (.ref s),some (.int (m:Nat)),some (.ref six)] H
  unfold Ahh Amd
  tm_at"r"
  refine⟨_,rfl,_,rfl,s,six,A.JN,dx,x,rfl,hs,.inr rfl,h6,hb,hp,_,rfl,_,rfl,s,A.JN,dx,_,rfl,Ah,T.RJ,T.Aau,by show 8<1000;decide,?_⟩
  rw[Mu,Bqi]
  exact q
theorem Bxf{Q:Addr->Hp->Prop}{H:Hp}{six:Addr}{x:Item}{m:Nat}(h6:H six=some (.lst (Bu0 x)))(hb:x.bound=false)(hp:x.promised=false)(k:∀a H2,Same H H2->H a=none->Li A H2 a ⟨m,x⟩->Q a H2):
  ∀a dx,H a=none->H dx=none->dx≠a->Px A (.ref a::([.int (m:Nat),.ref six]++[])) (upd (upd H dx (.own a)) a (.ins A.JN dx [])) (λv H2=>v=.non/\Q a H2) E0:=by
 intro a dx ha hd hne
 have s1:Same H (upd (upd H dx (.own a)) a (.ins A.JN dx [])):=FZ (Av hd) ha
 exact⟨a,m,six,dx,x,rfl,Ah,s1 _ _ h6,hb,hp,rfl,k a _ (FZ s1 ha) ha ⟨dx,Ah⟩⟩
def Gd(A:Adr):Sp:=λvs H Q _=>∃s dx r l sh,vs=[.ref s,r,l,sh]/\H s=some (.ins A.Jb dx [])/\Q .non (upd H s (.ins A.Jb dx [(("room":Str),r),(("limits":Str),l),(("share":Str),sh)]))
theorem Aoi(T:Txt K mg A):Mak P w K mg base 1 A.Jb "Bounds" Oe (Gd A):=by
 refine Bj2 T.Bnq T.Bne.mth Bfn (λvs H Q E h=>?_) (λX e1 e2 e3 e4 e5 c H vs Q E h=>?_)
 ·obtain⟨s,dx,r,l,sh,rfl,_⟩:=h;rfl
 ·tm_at"s"
  obtain⟨s,dx,r,l,sh,rfl,hs,q⟩:=h
  refine⟨_,Bex T c,?_⟩
  show Aep X.K A _ [some (.ref s),some r,some l,some sh] H
  unfold Aep Ai7 Ai8
  tm_at"r"
  refine⟨_,rfl,_,rfl,s,A.Jb,dx,_,rfl,hs,T.Xw,T.Aek,by decide,?_⟩
  refine⟨_,rfl,_,rfl,s,A.Jb,dx,_,rfl,Ah,T.Xw,T.Tf,CJ Rm (by decide),?_⟩
  rw[Mu]
  refine⟨_,rfl,_,rfl,s,A.Jb,dx,_,rfl,Ah,T.Xw,T.Aat,CJ (Kl Rm) (by decide),?_⟩
  rw[Mu]
  have n:∀(f:Str) (v:V),Nm f v []=[(f,v)]:=λf v=>rfl
  repeat (first|rw[n]|rw[R3 (by decide+kernel)])
  exact q
def inR:List Int->List (Int×Int)->Bool
 |[],[]=>true
 |n::ns,p::rs=>decide (p.1<=n)&&(decide (n<=p.2)&&inR ns rs)
 |_,_=>false
theorem Acq:∀{ns:List Int} {rs:List (Int×Int)},ns.length≠rs.length->inR ns rs=false
 |[],[],h=>absurd rfl h
 |[],_::_,_=>rfl
 |_::_,[],_=>rfl
 |n::ns,p::rs,h=>by
  show(decide (p.1<=n)&&(decide (n<=p.2)&&inR ns rs))=false
  rw[Acq (λe=>h (by rw[Ay,Ay,e])),Lb,Lb]
def Bcl(K:Frag)(H:Hp)(r:Addr)(rs:List (Int×Int)):Prop:=∃as:List Addr,(SqL K H r (as.map V.ref)\/SqT K H r (as.map V.ref))/\Paired (λa (p:Int×Int)=>∀H',Same H H'->SqT K H' a [.int p.1,.int p.2]) as rs
def Ag(K:Frag):Sp:=λvs H Q _=>∃l r ns rs,vs=[.ref l,.ref r]/\H l=some (.lst (ns.map V.int))/\Bcl K H r rs/\∀H',Same H H'->Q (.bl (inR ns rs)) H'
theorem Bor{K:Frag}{H H':Hp}{a:Addr}{xs:List V}(s:Same H H')(h:SqT K H a xs):SqT K H' a xs:=by
 rcases h with(h|⟨o,h⟩)|h
 ·exact .inl (.inl (s _ _ h))
 ·exact .inl (.inr ⟨o,s _ _ h⟩)
 ·exact .inr h
theorem KZ{α β:Type}{F:α->β->Prop}:∀{l:List α} {m:List β} {i:Nat} {a:α},Paired F l m->l[i]?=some a->∃b,m[i]?=some b/\F a b
 |_,_,_,_,.nil,h=>by simp at h
 |_,_,0,_,.cons r _,h=>by simp at h;subst h;exact⟨_,rfl,r⟩
 |_,_,i+1,_,.cons _ t,h=>by
  obtain⟨b,e,q⟩:=KZ (i:=i) t (by simpa using h)
  exact⟨b,by simpa using e,q⟩
theorem Jx(T:Txt K mg A):Def P w K mg base 1 "in_ranges" Iw (Ag K):=by
 refine Ed T.Azn Bl8 (λvs H Q E h=>?_) (λX e1 e2 e3 e4 e5 c H vs Q E h=>?_)
 ·obtain⟨l,r,ns,rs,rfl,_⟩:=h;rfl
 ·tm_at"s"
  obtain⟨l,r,ns,rs,rfl,hl,⟨as,hr,hp⟩,k⟩:=h
  refine⟨_,Bld T c,?_⟩
  show Amz X.K A _ [some (.ref l),some (.ref r),none,none] H
  have hal:=Paired.length hp
  unfold Amz
  tm_at"r"
  refine⟨_,rfl,l,_,rfl,.inl (SqL.of hl),_,rfl,r,_,rfl,hr,rfl,_,rfl,?_⟩
  rw[Aa,Aa]
  by_cases hlen:ns.length=rs.length
  ·have e:(!decide (V.int (ns.length:Int)=V.int (as.length:Int)))=false:=by rw[hal,hlen];simp
   rw[e,Am Ac]
   have body:∀(tb:TS) (D:Ends),tb=(Jh (tOr (Hj (tOp (rI0 λi j=>.bl (decide (i<j))) (tOp (Qs X.K) (Al 0) (Al 2)) (tOp (Bgp X.K) (Al 3) (tC (.int 0))))) (Hj (tOp (rI0 λi j=>.bl (decide (j<i))) (tOp (Qs X.K) (Al 0) (Al 2)) (tOp (Bgp X.K) (Al 3) (tC (.int 1))))))
     (Ey (tC (.bl false))) Gx)->D.rt=Q->∀(i:Nat) (x:V) (σ:L2.St) (H':Hp) (t:Addr),(as.map V.ref)[i]?=some x->(∃v2 v3,σ=[some (.ref l),some (.ref r),v2,v3]/\Same H H'/\inR ns rs=inR (ns.drop i) (rs.drop i))->H' t=none->
     Bdd X.K 2 (Sy (Ce 2) (Sy (Ce 3) Bdc)) (.ref t) σ (upd H' t (.tup [.int (i:Nat),x])) λσ2 H2=>tb {D with nx:=λσ H'=>∃v2 v3,σ=[some (.ref l),some (.ref r),v2,v3]/\Same H H'/\inR ns rs=inR (ns.drop (i+1)) (rs.drop (i+1)),ct:=λσ H'=>∃v2 v3,σ=[some (.ref l),some (.ref r),v2,v3]/\Same H H'/\inR ns rs=inR (ns.drop (i+1)) (rs.drop (i+1)),bk:=D.nx} σ2 H2:=by
    rintro tb D rfl hD i x σ H' t hx ⟨v2,v3,rfl,sH,hin⟩ ht
    rw[Bk] at hx
    obtain⟨a,ha,rfl⟩:∃a,as[i]?=some a/\V.ref a=x:=J8 hx
    obtain⟨p,hpi,hpa⟩:=KZ hp ha
    have hil:i<rs.length:=(BL.mp hpi).1
    have st:Same H' (upd H' t (.tup [.int (i:Nat),.ref a])):=Av ht
    have hs:=sH.trans st
    have hn:ns[i]?=some ns[i]:=CP (by omega)
    have hnv:(ns.map V.int)[i]?=some (V.int ns[i]):=by rw[Bk,hn];rfl
    have d1:ns.drop i=ns[i]::ns.drop (i+1):=EY (by omega)
    have d2:rs.drop i=p::rs.drop (i+1):=by
     rw[EY hil]
     congr 1
     exact Ae ((CP hil).symm.trans hpi)
    rw[d1,d2] at hin
    have hin:inR ns rs=(decide (p.1<=ns[i])&&(decide (ns[i]<=p.2)&&inR (ns.drop (i+1)) (rs.drop (i+1)))):=hin
    refine⟨t,_,rfl,SqT.of Ah,rfl,_,_,rfl,_,_,rfl,rfl,?_⟩
    tm_at"r"
    refine⟨_,rfl,_,rfl,l,_,_,_,rfl,rfl,SqL.of (hs _ _ hl),KJ hnv,_,rfl,a,_,_,_,rfl,rfl,hpa _ hs,KJ (j:=0) (v:=V.int p.1) rfl,_,_,rfl,rfl,_,rfl,?_⟩
    by_cases c1:ns[i]<p.1
    ·rw[Aq (Aj c1),Aq rfl,hD]
     have:=k _ hs
     rw[hin,Bf (by omega:¬p.1<=ns[i])] at this
     exact this
    ·rw[Am (by simpa using c1)]
     refine⟨_,rfl,_,rfl,l,_,_,_,rfl,rfl,SqL.of (hs _ _ hl),KJ hnv,_,rfl,a,_,_,_,rfl,rfl,hpa _ hs,KJ (j:=1) (v:=V.int p.2) rfl,_,_,rfl,rfl,_,rfl,?_⟩
     by_cases c2:p.2<ns[i]
     ·rw[Aq (Aj c2),hD]
      have:=k _ hs
      rw[hin,Bf (by omega:¬ns[i]<=p.2),Ib,Lb] at this
      exact this
     ·rw[Am (by simpa using c2)]
      refine⟨_,_,rfl,hs,?_⟩
      rw[hin,Aj (by omega:p.1<=ns[i]),Aj (by omega:ns[i]<=p.2),HB,HB]
   have fin:∀(D:Ends) (σ:L2.St) (H':Hp),D.rt=Q->(∃v2 v3,σ=[some (.ref l),some (.ref r),v2,v3]/\Same H H'/\inR ns rs=inR (ns.drop as.length) (rs.drop as.length))->Ae0 X.K A D σ H':=by
    rintro D σ H' hD ⟨v2,v3,rfl,sH,hin⟩
    unfold Ae0
    rw[Jp (by omega),Jp (by omega)] at hin
    show D.rt (.bl true) H'
    rw[hD]
    have:=k _ sH
    rw[hin] at this
    exact this
   unfold Arv
   tm_at"r"
   rcases hr with hr|hr
   ·refine .inl ⟨_,rfl,r,_,rfl,hr,Bc7 (xs:=as.map V.ref) (λi σ H'=>∃v2 v3,σ=[some (.ref l),some (.ref r),v2,v3]/\Same H H'/\inR ns rs=inR (ns.drop i) (rs.drop i)) ⟨none,none,rfl,Same.refl _,rfl⟩ (λi σ H' ⟨_,_,_,s,_⟩=>s.seq hr) (λi x σ H' t hx p ht=>body _ _ rfl rfl i x σ H' t hx p ht) λσ H' p=>?_⟩
    rw[Aa] at p
    exact fin {nx:=λ_ H'=>Q .non H',rt:=Q} σ H' rfl p
   ·refine .inr ⟨_,rfl,r,_,rfl,hr,Btx (xs:=as.map V.ref) (λi σ H'=>∃v2 v3,σ=[some (.ref l),some (.ref r),v2,v3]/\Same H H'/\inR ns rs=inR (ns.drop i) (rs.drop i)) ⟨none,none,rfl,Same.refl _,rfl⟩ (λi σ H' ⟨_,_,_,s,_⟩=>Bor s hr) (λi x σ H' t hx p ht=>body _ _ rfl rfl i x σ H' t hx p ht) λσ H' p=>?_⟩
    rw[Aa] at p
    exact fin {nx:=λ_ H'=>Q .non H',rt:=Q} σ H' rfl p
  ·have e:(!decide (V.int (ns.length:Int)=V.int (as.length:Int)))=true:=by
    rw[Bf];rfl
    intro z
    have:=V.int.inj z
    omega
   rw[e,Aq rfl]
   have:=k _ (Same.refl H)
   rw[Acq hlen] at this
   exact this
end
end RT
end
section
namespace RT
open PySem PySem.Spec PyProof.Rows L2 RB
open Vbdtag (Item Bounds Coming sizeOf_ worthOf stronger numbersRow usedBy fits minus numbers thingsIn comingsIn)
section
variable {P:Program}{w:World}{K:Frag}{mg:Str->Option Value}{base:Heap}{A:Adr}
theorem Paired.upM{α β:Type}{F G:α->β->Prop}:∀{l:List α} {m:List β},(∀a b,a∈l->F a b->G a b)->Paired F l m->Paired G l m
 |_,_,_,.nil=>.nil
 |_,_,h,.cons r t=>.cons (h _ _ Bl r) (Paired.upM (λa b ha=>h a b (Bh _ ha)) t)
theorem Ccm{n w:Nat}(hw:0<w)(hw2:w<1000)(hn:n<=20000):RgC 0 (n:Int) (w:Int) ((n+w-1)/w):=by
 have hsz:Lh 0 (n:Int) (w:Int)=(((n+w-1)/w:Nat):Int):=by
  unfold Lh
  rw[Aq (by omega)]
  by_cases h0:n=0
  ·subst h0
   rw[Am (by omega),Afj (by omega)];rfl
  ·rw[Aq (by omega)]
   have e:n+w-1=(n-1)+w:=by omega
   rw[e,Ab1 _ hw]
   have:(n:Int)-0-1=((n-1:Nat):Int):=by omega
   rw[this,Bam,Int.natCast_ediv];rfl
 have hb:(n+w-1)/w<=30000:=Az (Bas _ _) (by omega)
 refine⟨by omega,by omega,?_,hsz⟩
 unfold Aox
 rw[hsz]
 simp only [Builtin.Range.rangeFitsLong,Cm,Aif,Cj,Jc]
 have hw':(w:Int)>0:=by omega
 simp only [hw',if_true]
 have hb':(((n+w-1)/w:Nat):Int)<=30000:=by omega
 have hz0:0<=(((n+w-1)/w:Nat):Int):=Int.natCast_nonneg _
 generalize (((n+w-1)/w:Nat):Int)=z at hb' hz0
 refine⟨⟨⟨⟨by omega,by omega⟩,by omega⟩,?_⟩,?_⟩
 ·omega
 ·right
  rw[Cm,Cj,Cj];omega
def Ca7(H:Hp)(D:Addr)(rows:List (List Int)):Prop:=∃ps:List Addr,H D=some (.lst (ps.map V.ref))/\Paired (λp (r:List Int)=>H p=some (.lst (r.map V.int))) ps rows
theorem Bhp(ns:List Int)(i w:Nat):Bf5 (ns.map V.int) (some ((i:Nat):Int)) (some (((i+w:Nat):Nat):Int))=((ns.drop i).take w).map V.int:=by
 unfold Bf5
 rw[HT.sIx_nat,HT.sIx_nat,Aa,<-List.map_drop,<-Apk]
 congr 1
 by_cases h:i<=ns.length
 ·rw[QC h]
  by_cases h2:i+w<=ns.length
  ·rw[QC h2]
   congr 1;omega
  ·rw[Aw5 (by omega)]
   rw[Mj (by rw[Jq];omega),Mj (by rw[Jq];omega)]
 ·rw[Aw5 (show ns.length<=i by omega),Jp (Bu _),Jp (show ns.length<=i by omega),List.take_nil,List.take_nil]
def KH:Sp:=λvs H Q _=>∃l ns wd,vs=[.ref l,.int (wd:Nat)]/\H l=some (.lst (ns.map V.int))/\0<wd/\wd<1000/\ns.length<=20000/\∀D H',Same H H'->H D=none->Ca7 H' D (RM.cuts wd ns)->Q (.ref D) H'
theorem Bxl(T:Txt K mg A):Def P w K mg base 1 "cut" Bl1 KH:=by
 refine Ed T.Cat Cc0 (λvs H Q E h=>?_) (λX e1 e2 e3 e4 e5 c H vs Q E h=>?_)
 ·obtain⟨l,ns,wd,rfl,_⟩:=h;rfl
 ·tm_at"s"
  obtain⟨l,ns,wd,rfl,hl,hw,hw2,hn,k⟩:=h
  refine⟨_,Ccp T c,?_⟩
  show Bxz X.K A _ [some (.ref l),some (.int (wd:Nat)),none] H
  unfold Bxz
  tm_at"r"
  have Bt1:(ns.length+wd-1)/wd<=30000:=Az (Bas _ _) (by omega)
  refine⟨_,rfl,l,_,rfl,.inl (SqL.of hl),_,rfl,0,(ns.length:Nat),(wd:Nat),(ns.length+wd-1)/wd,by rw[Aa],Ccm hw hw2 hn,λD hD=>?_⟩
  refine Cdq (n:=(ns.length+wd-1)/wd) (λi H'=>Same H H'/\∃ps:List Addr,D∉ps/\H' D=some (.lst (ps.map V.ref))/\Paired (λp (r:List Int)=>H' p=some (.lst (r.map V.int))) ps ((FJ i).map λi=>(ns.drop (i*wd)).take wd)) ⟨Av hD,[],KR,Ah,.nil⟩ (λi H' h _=>h) (λH' _=>Bu _) ?_ ?_
  ·rintro i H' x H2 hi ⟨s,ps,hDn,hDl,hr⟩ ⟨rfl,rfl⟩
   refine⟨rfl,?_⟩
   dsimp only [Apd]
   rw[Aq rfl]
   tm_at"r"
   have e1:(0:Int)+(i:Nat)*(wd:Nat)=(((i*wd:Nat)):Int):=by rw[Int.zero_add,Nr]
   refine⟨_,rfl,_,rfl,_,rfl,_,rfl,_,rfl,_,_,rfl,rfl,_,rfl,l,_,rfl,SqL.of (s _ _ hl),λp hp=>?_⟩
   have hne:D≠p:=FP hDl hp
   have hpl:=Paired.length hr
   rw[Aa,GX] at hpl
   refine⟨ps.map V.ref,by rw[Cd hne];exact hDl,by rw[Aa,hpl];exact Auq (Dh hi Bt1) (by decide),?_⟩
   refine⟨FZ (s.trans (Av hp)) hD,ps++[p],λz=>(Bw.mp z).elim hDn (λz=>hne (Bj.mp z)),by rw[Ah,Bd];rfl,?_⟩
   rw[S5,Bd]
   refine Paired.snoc ?_ (Paired.upM (λa r hm q=>?_) hr)
   ·rw[Cd (Js hne),Ah,e1]
    have e2:(((i*wd:Nat)):Int)+(wd:Nat)=((i*wd+wd:Nat):Int):=by omega
    rw[e2,Bhp]
   ·have h1:a≠p:=FP q hp
    have h2:a≠D:=λz=>hDn (z▸hm)
    rw[Cd h2,Cd h1];exact q
  ·rintro H' ⟨s,ps,hDn,hDl,hr⟩
   exact k D H' s hD ⟨ps,hDl,hr⟩
def Cv(A:Adr):Sp:=λvs H Q _=>∃l xs,vs=[.ref l]/\TL A H l xs/\xs.length<1000/\∀H',Same H H'->Q (.bl (decide (RM.ND xs))) H'
theorem Bzv(xs:List Item):(xs.map λx=>(x.num:Int)).Nodup↔RM.ND xs:=by
 unfold RM.ND Bcb
 rw[JK,JK]
 constructor
 ·exact λh=>h.imp λ{a b} q e=>q (by rw[e])
 ·exact λh=>h.imp λ{a b} q e=>q (by omega)
theorem Aa1(T:Txt K mg A):Def P w K mg base 1 "no_number_twice" NQ (Cv A):=by
 refine Ed T.Acm Au0 (λvs H Q E h=>?_) (λX e1 e2 e3 e4 e5 c H vs Q E h=>?_)
 ·obtain⟨l,xs,rfl,_⟩:=h;rfl
 ·tm_at"s"
  obtain⟨l,xs,rfl,hl,hz,k⟩:=h
  refine⟨_,Atu T c,?_⟩
  show Vp X.K A _ [some (.ref l),none] H
  unfold Vp
  tm_at"r"
  dsimp only [Bye]
  have hzl:xs.length<=sizeLine:=Jr (Auq hz (by decide))
  refine Avy (A:=A) (xs:=xs) (λ_=>true) (λx=>.int x.num) (λR q=>⟨_,rfl,q⟩) hl hzl (λa x H' R hx hT s h=>h H' (Same.refl _)) (λa x H' R hx _ hT s h=>fv rfl (Xr T hT) (h H' (Same.refl _))) λD H' s hD h=>?_
  rw[GC.mpr λ_ _=>rfl] at h
  obtain⟨zs,hlz,rfl⟩:=id hl
  refine⟨D,(zs.map (·.2)).map λx=>(x.num:Int),rfl,SqL.of (by rw[h];simp only [Df];rfl),by rw[Aa];exact hz,λS hS=>⟨S,_,_,rfl,Ah,_,rfl,l,_,rfl,.inl (SqL.of (Av hS _ _ (s _ _ hlz.1))),rfl,?_⟩⟩
  have:=k _ (s.trans (Av (o:=.set (λk'=>(firstMet (λi=>((zs.map (·.2)).map λx=>(x.num:Int)).getD i 0) ((zs.map (·.2)).map λx=>(x.num:Int)).length).any (·==k')) (firstMet (λi=>((zs.map (·.2)).map λx=>(x.num:Int)).getD i 0) ((zs.map (·.2)).map λx=>(x.num:Int)).length).length) hS))
  refine Eq.mp (congrArg (λc=>Q (.bl c) _) ?_) this
  refine Ju.mpr ?_
  rw[<-Bzv,<-Bjp]
  rw[Aa,Aa,Aa]
  constructor
  ·intro e;rw[e]
  ·intro e
   have:=V.int.inj e
   omega
def Adc(ns:List Int)(most:Nat):Option (List Item):=if(RM.cuts 6 ns).length<=most then thingsIn ns else none
def Bp(A:Adr):Sp:=λvs H Q _=>∃l ns most,vs=[.ref l,.int (most:Nat)]/\H l=some (.lst (ns.map V.int))/\ns.length<=20000/\most<=100/\
 (∀H',Same H H'->Adc ns most=none->Q .non H')/\∀D H' zs,Same H H'->H D=none->Adc ns most=some (its zs)->TLz A H' D zs->Q (.ref D) H'
def XS:List (Int×Int):=[(0,999),(1,50),(0,9),(1,100000),(0,7),(0,1000)]
theorem Ky{K:Frag}{a:Addr}{ls:List (List Int)}{rs:List (Int×Int)}(h:Ais K a ls)(e:ls=rs.map λp=>[p.1,p.2])(H:Hp):Bcl K H a rs:=by
 obtain⟨as,h1,h2⟩:=h
 refine⟨as,.inr (h1 H),?_⟩
 subst e
 have go:∀{as:List Addr} {rs:List (Int×Int)},Paired (λb p=>Bvw K b p) as (rs.map λp=>[p.1,p.2])->Paired (λa (p:Int×Int)=>∀H',Same H H'->SqT K H' a [.int p.1,.int p.2]) as rs:=by
  intro as
  induction as with
  |nil=>
   intro rs q
   cases rs with
   |nil=>exact .nil
   |cons p rs=>cases q
  |cons a as ih=>
   intro rs q
   cases rs with
   |nil=>cases q
   |cons p rs=>
    cases q with
    |cons r t=>exact .cons (λH' _=>r H') (ih t)
 exact go h2
theorem Bjy(p:List Int):inR p XS=RM.Xy p:=by
 unfold XS
 match p with
 |[n,s,r,e,d,w]=>
  show inR _ _=O7 n s r e d w
  unfold O7 Ax
  simp only [inR,Oc,ZR]
 |[]=>rfl
 |[_]=>exact Acq (by simp)
 |[_,_]=>exact Acq (by simp)
 |[_,_,_]=>exact Acq (by simp)
 |[_,_,_,_]=>exact Acq (by simp)
 |[_,_,_,_,_]=>exact Acq (by simp)
 |_::_::_::_::_::_::_::_=>exact Acq (by simp)
theorem Ui{p:List Int}(h:RM.Xy p=true):p.map V.int=Bu0 (RM.Ii p)/\(RM.Ii p).bound=false/\(RM.Ii p).promised=false:=by
 match p,h with
 |[n,s,r,e,d,w],h=>
  obtain⟨h1,h2,h3,h4,h5,h6⟩:=RM.Alq.mp h
  refine⟨?_,rfl,rfl⟩
  show [V.int n,V.int s,V.int r,V.int e,V.int d,V.int w]=[V.int ((n.toNat:Nat):Int),V.int ((s.toNat:Nat):Int),V.int ((r.toNat:Nat):Int),V.int ((e.toNat:Nat):Int),V.int ((d.toNat:Nat):Int),V.int ((w.toNat:Nat):Int)]
  rw[Gz h1.1,Gz (by omega:0<=s),Gz h3.1,Gz (by omega:0<=e),Gz h5.1,Gz h6.1]
theorem Rp(T:Txt K mg A):Def P w K mg base 3 "read_things" Mw (Bp A):=by
 refine Ed T.Aqu Bf0 (λvs H Q E h=>?_) (λX e1 e2 e3 e4 e5 c H vs Q E h=>?_)
 ·obtain⟨l,ns,most,rfl,_⟩:=h;rfl
 ·tm_at"s"
  obtain⟨l,ns,most,rfl,hl,hn,hm,k0,k1⟩:=h
  refine⟨_,Bfa T c (Bxl T) (Aa1 T) (Jx T) (Xz T),?_⟩
  show Ae5 X.K A _ _ _ _ _ [some (.ref l),some (.int (most:Nat)),none,none,none] H
  unfold Ae5
  tm_at"r"
  refine⟨_,rfl,l,ns,6,rfl,hl,by decide,by decide,hn,λD H1 s1 hD hr=>?_⟩
  obtain⟨ps,hDl,hp⟩:=hr
  have hpl:=Paired.length hp
  unfold Ajy
  tm_at"r"
  refine⟨_,rfl,D,_,rfl,.inl (SqL.of hDl),_,rfl,_,_,rfl,rfl,_,rfl,?_⟩
  rw[Aa,hpl]
  by_cases hc:most<(RM.cuts 6 ns).length
  ·rw[Aq (Aj (by omega))]
   exact k0 H1 s1 (by unfold Adc;rw[Am (by omega)])
  ·rw[Am (by simp only [Cj];omega)]
   have hrd:Adc ns most=thingsIn ns:=by unfold Adc;rw[Aq (by omega)]
   rw[hrd] at k0
   simp only [hrd] at k1
   unfold Ajz
   tm_at"r"
   refine⟨_,rfl,D,rfl,⟨_,SqL.of hDl⟩,JZ (K:=X.K) (a:=D) (xs:=ps.map V.ref) (λi σ H'=>∃v,σ=[some (.ref l),some (.int (most:Nat)),some (.ref D),v,none]/\Same H1 H'/\((RM.cuts 6 ns).take i).all RM.Xy=true) ⟨none,rfl,Same.refl _,by rw[Fb];rfl⟩ (λi σ H' _ ⟨_,_,s,_⟩=>SqL.of (s _ _ hDl)) ?turn ?fin⟩
   case turn=>
    rintro i x σ H' hx ⟨v,rfl,s,hall⟩
    rw[Bk] at hx
    obtain⟨a,ha,rfl⟩:∃a,ps[i]?=some a/\V.ref a=x:=J8 hx
    obtain⟨r,hri,hra⟩:=KZ hp ha
    tm_at"r"
    refine⟨_,rfl,a,A.Lf,r,XS,rfl,s _ _ hra,Ky T.Vi rfl _,λH2 s2=>⟨_,rfl,?_⟩⟩
    rw[Bjy]
    cases hok:RM.Xy r with
    |false=>
     rw[Ck,Aq rfl]
     refine k0 H2 (s1.trans (s.trans s2)) ?_
     rw[RM.X3,Am]
     rintro⟨h1,_⟩
     have:=Ep.mp h1 r (BX hri)
     rw[hok] at this;cases this
    |true=>
     rw[CK,Am Ac]
     refine⟨_,rfl,s.trans s2,?_⟩
     rw[take_snoc hri,Aig,hall,Jj,hok];rfl
   case fin=>
    rintro σ H' ⟨v,rfl,s,hall⟩
    rw[Aa,hpl,DR] at hall
    dsimp only
    unfold Aj0
    tm_at"r"
    refine⟨_,rfl,D,rfl,⟨_,SqL.of (s _ _ hDl)⟩,λD2 hD2=>?_⟩
    refine Avx (K:=X.K) (a:=D) (xs:=ps.map V.ref) (λi H2=>Same H' H2/\∃zs:Zs,H2 D2=some (.lst (rf zs))/\(∀z∈zs,Gi A H2 z.1 z.2)/\its zs=((RM.cuts 6 ns).take i).map RM.Ii) ⟨Av hD2,[],Ah,λ_ h=>(nomatch h),by rw[Fb];rfl⟩ (λi H2 _ ⟨s2,_⟩=>SqL.of (s2 _ _ (s _ _ hDl))) ?_ ?_
    ·rintro i x H2 hx ⟨s2,zs,hz,ht,hi⟩
     rw[Bk] at hx
     obtain⟨a,ha,rfl⟩:∃a,ps[i]?=some a/\V.ref a=x:=J8 hx
     obtain⟨r,hri,hra⟩:=KZ hp ha
     have hok:RM.Xy r=true:=Ep.mp hall r (BX hri)
     obtain⟨e6,hb,hpr⟩:=Ui hok
     refine⟨rfl,?_⟩
     dsimp only [Apd]
     rw[Aq rfl]
     tm_at"r"
     refine⟨_,rfl,?_⟩
     dsimp only
     refine Vb (A:=A) (H:=H2) (six:=a) (x:=RM.Ii r) (by rw[s2 _ _ (s _ _ hra),e6]) hb hpr λa2 H3 s3 ha2 hT3=>?_
     have hlen:zs.length<=100:=by
      have:=congrArg Mv hi
      rw[DK,Aa,Er] at this
      omega
     refine⟨rf zs,s3 _ _ hz,by rw[Aa];exact CJ hlen (by decide),FZ (s2.trans s3) hD2,zs++[(a2,RM.Ii r)],by rw[Ah,Aoo],λz hz'=>?_,?_⟩
     ·rcases Bw.mp hz' with q|q
      ·exact((ht z q).same s3).upd (s3 _ _ hz)
      ·rw[Bj.mp q];exact hT3.upd (s3 _ _ hz)
     ·rw[Nj,hi,take_snoc hri,Bd];rfl
    ·rintro H2 ⟨s2,zs,hz,ht,hi⟩
     rw[Aa,hpl,DR] at hi
     show Yw X.K A KH (Cv A) (Ag X.K) (Bm A) _ [some (.ref l),some (.int (most:Nat)),some (.ref D),_,some (.ref D2)] H2
     unfold Yw
     tm_at"r"
     have hlen:zs.length<=100:=by
      have:=congrArg Mv hi
      rw[DK,Aa] at this
      omega
     refine⟨_,rfl,D2,its zs,rfl,⟨zs,⟨hz,ht⟩,rfl⟩,by rw[DK];omega,λH3 s3=>⟨_,rfl,?_⟩⟩
     by_cases hnd:RM.ND (its zs)
     ·rw[Aq (Aj hnd)]
      refine⟨_,rfl,k1 D2 H3 zs (s1.trans (s.trans (s2.trans s3))) ((s1.trans s).free hD2) ?_ (TLz.same ⟨hz,ht⟩ s3)⟩
      rw[RM.X3,Aq ⟨hall,by rw[<-hi];exact hnd⟩,hi]
     ·rw[Am (by simpa using hnd)]
      refine k0 H3 (s1.trans (s.trans (s2.trans s3))) ?_
      rw[RM.X3,Am]
      rintro⟨_,h2⟩
      exact hnd (by rw[hi];exact h2)
def HJ(A:Adr):Sp:=λvs H Q _=>∃l ns,vs=[.ref l]/\H l=some (.lst (ns.map V.int))/\ns.length<=7/\0<ns.length/\
 (∀H',Same H H'->RM.Ahb ns=false->Q .non H')/\∀a H',Same H H'->H a=none->RM.Ahb ns=true->Li A H' a (RM.Te ns)->Q (.ref a) H'
theorem Bwb(ns:List Int):Bf5 (ns.map V.int) (some 1) none=(ns.drop 1).map V.int:=by
 unfold Bf5
 have e:HT.sIx (ns.map V.int).length 0 (some 1)=min 1 (ns.map V.int).length:=HT.sIx_nat _ _ 1
 rw[e,HT.sIx_none,Aa,<-List.map_drop,<-Apk]
 cases ns with
 |nil=>rfl
 |cons a r=>
  rw[QC (by rw[Ay];omega)]
  rw[Mj (by rw[Jq];exact Bu _)]
theorem Bwa(ns:List Int):Bf5 (ns.map V.int) none (some 1)=(ns.take 1).map V.int:=by
 unfold Bf5
 have e:HT.sIx (ns.map V.int).length (ns.map V.int).length (some 1)=min 1 (ns.map V.int).length:=HT.sIx_nat _ _ 1
 rw[e,HT.sIx_none,Ri,<-Apk,Aa]
 cases ns with
 |nil=>rfl
 |cons a r=>rw[QC (by rw[Ay];omega)]
theorem Bgl(T:Txt K mg A):Def P w K mg base 4 "read_comer" Za (HJ A):=by
 refine Ed T.Avk Bjb (λvs H Q E h=>?_) (λX e1 e2 e3 e4 e5 c H vs Q E h=>?_)
 ·obtain⟨l,ns,rfl,_⟩:=h;rfl
 ·tm_at"s"
  obtain⟨l,ns,rfl,hl,hn,hn0,k0,k1⟩:=h
  refine⟨_,Bg4 T c (Jx T) (Bxk T),?_⟩
  show Ahv X.K A _ _ _ [some (.ref l),none,none] H
  unfold Ahv
  tm_at"r"
  refine⟨_,rfl,_,rfl,l,_,rfl,SqL.of hl,λp hp=>?_⟩
  rw[Bwb]
  have s1:Same H (upd H p (.lst ((ns.drop 1).map V.int))):=Av hp
  unfold Am7
  tm_at"r"
  refine⟨_,rfl,_,rfl,l,_,rfl,SqL.of (s1 _ _ hl),λq hq=>?_⟩
  rw[Bwa]
  have s2:Same (upd H p (.lst ((ns.drop 1).map V.int))) (upd (upd H p (.lst ((ns.drop 1).map V.int))) q (.lst ((ns.take 1).map V.int))):=Av hq
  refine⟨q,A.VB,ns.take 1,[(0,100000)],rfl,Ah,Ky T.Amb rfl _,λH3 s3=>⟨_,rfl,?_⟩⟩
  have s13:=s1.trans (s2.trans s3)
  cases hm:inR (ns.take 1) [(0,100000)] with
  |false=>
   rw[Ck,Aq rfl,Aq rfl]
   refine k0 H3 s13 ?_
   match ns,hm with
   |[],_=>rfl
   |[a,n,s,r,e,d,w],hm=>
    show(Ax a 0 100000&&_)=false
    have:Ax a 0 100000=false:=by simpa [inR,Ax] using hm
    rw[this];rfl
   |[_],_=>rfl
   |[_,_],_=>rfl
   |[_,_,_],_=>rfl
   |[_,_,_,_],_=>rfl
   |[_,_,_,_,_],_=>rfl
   |[_,_,_,_,_,_],_=>rfl
   |_::_::_::_::_::_::_::_::_,_=>rfl
  |true=>
   rw[CK,Am Ac]
   refine⟨_,rfl,p,A.Lf,ns.drop 1,XS,rfl,(s2.trans s3) _ _ Ah,Ky T.Vi rfl _,λH4 s4=>⟨_,rfl,?_⟩⟩
   have s14:=s13.trans s4
   have hp4:H4 p=some (.lst ((ns.drop 1).map V.int)):=(s2.trans (s3.trans s4)) _ _ Ah
   rw[Bjy]
   cases hok:RM.Xy (ns.drop 1) with
   |false=>
    rw[Ck,Aq rfl]
    refine k0 H4 s14 ?_
    match ns,hok with
    |[],_=>rfl
    |[a,n,s,r,e,d,w],hok=>
     show(_&&(_&&O7 n s r e d w))=false
     have:O7 n s r e d w=false:=hok
     rw[this,Lb,Lb]
    |[_],_=>rfl
    |[_,_],_=>rfl
    |[_,_,_],_=>rfl
    |[_,_,_,_],_=>rfl
    |[_,_,_,_,_],_=>rfl
    |[_,_,_,_,_,_],_=>rfl
    |_::_::_::_::_::_::_::_::_,_=>rfl
   |true=>
    rw[CK,Am Ac]
    match ns,hok with
    |a::n::s::r::e::d::w::[],hok=>
     obtain⟨e6,hb,hpr⟩:=Ui hok
     have hm:0<=a/\a<=100000:=by simpa [inR] using hm
     unfold Am8
     tm_at"r"
     refine⟨_,rfl,l,_,_,_,rfl,rfl,SqL.of (s14 _ _ hl),KJ (j:=0) (v:=V.int a) rfl,_,rfl,?_⟩
     have ea:V.int a=V.int ((a.toNat:Nat):Int):=by rw[Gz hm.1]
     rw[ea]
     dsimp only
     refine Bxf (A:=A) (H:=H4) (six:=p) (x:=RM.Ii [n,s,r,e,d,w]) (m:=a.toNat) (by rw[hp4];exact congrArg (λl=>some (HO.lst l)) e6) hb hpr λo H5 s5 ho hc=>?_
     unfold Am9
     tm_at"r"
     have s15:=s14.trans s5
     refine fv rfl (Afs T hc) (fv rfl (Azj T hc.thing) ⟨_,_,rfl,rfl,_,rfl,?_⟩)
     obtain⟨_,_,_,h4,_⟩:=RM.Alq.mp (show O7 n s r e d w=true from hok)
     have he:(((RM.Ii [n,s,r,e,d,w]).last:Nat):Int)=e:=Gz (by omega)
     have hma:((a.toNat:Nat):Int)=a:=Gz hm.1
     have ok7:RM.Ahb [a,n,s,r,e,d,w]=decide (a<e):=by
      show(Ax a 0 100000&&(decide (a<e)&&O7 n s r e d w))=_
      have h1:Ax a 0 100000=true:=by unfold Ax;simp [hm.1,hm.2]
      have h2:O7 n s r e d w=true:=hok
      rw[h1,h2,Oc,HB]
     rw[he,hma]
     by_cases hlt:a<e
     ·rw[Aq (Aj hlt)]
      exact⟨_,rfl,k1 o H5 s15 (s14.free ho) (by rw[ok7];exact Aj hlt) hc⟩
     ·rw[Am (by simpa using hlt)]
      exact k0 H5 s15 (by rw[ok7];exact Bf hlt)
abbrev Cz:=List (Addr×Coming)
def CLz(A:Adr)(H:Hp)(l:Addr)(zs:Cz):Prop:=H l=some (.lst (zs.map λz=>V.ref z.1))/\∀z∈zs,Li A H z.1 z.2
theorem CLz.same{A:Adr}{H H':Hp}{l:Addr}{zs:Cz}(h:CLz A H l zs)(s:Same H H'):CLz A H' l zs:=⟨s _ _ h.1,λz hz=>(h.2 z hz).same s⟩
def thz(zs:Cz):Zs:=zs.map λz=>(z.1,z.2.item)
theorem CLz.things{A:Adr}{H:Hp}{l:Addr}{zs:Cz}(h:CLz A H l zs):TLz A H l (thz zs):=⟨by rw[h.1];unfold thz;rw[Df];rfl,λz hz=>by
 obtain⟨y,hy,rfl⟩:=Dv.mp hz
 exact(h.2 y hy).thing⟩
def ics(zs:Cz):List Coming:=zs.map (·.2)
theorem Avu(zs:Cz):its (thz zs)=(ics zs).map λx=>x.item:=by unfold its thz ics;rw[Df,Df];rfl
theorem Li.upd{A:Adr}{H:Hp}{a p:Addr}{x:Coming}{xs ys:List V}(h:Li A H a x)(e:H p=some (.lst xs)):Li A (upd H p (.lst ys)) a x:=by
 obtain⟨dx,e1⟩:=h
 exact⟨dx,by rw[Cd (Bh5 e1 e (λz=>nomatch z))];exact e1⟩
def Anq(ns:List Int)(most:Nat):Option (List Coming):=if(RM.cuts 7 ns).length<=most then comingsIn ns else none
def FT(A:Adr):Sp:=λvs H Q _=>∃l ns most,vs=[.ref l,.int (most:Nat)]/\H l=some (.lst (ns.map V.int))/\ns.length<=20000/\most<=100/\
 (∀H',Same H H'->Anq ns most=none->Q .non H')/\∀D H' zs,Same H H'->H D=none->Anq ns most=some (ics zs)->CLz A H' D zs->Q (.ref D) H'
theorem Bwd{w:Nat}{l r:List Int}(h:r∈RM.cuts w l):r.length<=w:=by
 unfold RM.cuts at h
 obtain⟨i,_,rfl⟩:=Dv.mp h
 rw[Er];omega
theorem Bwc{w:Nat}{l r:List Int}(hw:0<w)(h:r∈RM.cuts w l):0<r.length:=by
 unfold RM.cuts at h
 obtain⟨i,hi,rfl⟩:=Dv.mp h
 rw[Er,Jq]
 have hi:=O4.mp hi
 have h2:i*w<l.length:=by
  have:=Dh hi (Bu _)
  have h3:(i+1)*w<=l.length+w-1:=Az (Xl w hi) (Nat.div_mul_le_self _ _)
  rw[PX] at h3
  omega
 omega
theorem Al2(T:Txt K mg A):Def P w K mg base 5 "read_comers" Ss (FT A):=by
 refine Ed T.Aqt Bfz (λvs H Q E h=>?_) (λX e1 e2 e3 e4 e5 c H vs Q E h=>?_)
 ·obtain⟨l,ns,most,rfl,_⟩:=h;rfl
 ·tm_at"s"
  obtain⟨l,ns,most,rfl,hl,hn,hm,k0,k1⟩:=h
  refine⟨_,Be9 T c (Bxl T) (Bgl T) (Aa1 T),?_⟩
  show Ae4 X.K A _ _ _ _ [some (.ref l),some (.int (most:Nat)),none,none,none,none] H
  unfold Ae4
  tm_at"r"
  refine⟨_,rfl,l,ns,7,rfl,hl,by decide,by decide,hn,λD H1 s1 hD hr=>?_⟩
  obtain⟨ps,hDl,hp⟩:=hr
  have hpl:=Paired.length hp
  unfold Aju
  tm_at"r"
  refine⟨_,rfl,D,_,rfl,.inl (SqL.of hDl),_,rfl,_,_,rfl,rfl,_,rfl,?_⟩
  rw[Aa,hpl]
  by_cases hc:most<(RM.cuts 7 ns).length
  ·rw[Aq (Aj (by omega))]
   exact k0 H1 s1 (by unfold Anq;rw[Am (by omega)])
  ·rw[Am (by simp only [Cj];omega)]
   have hrd:Anq ns most=comingsIn ns:=by unfold Anq;rw[Aq (by omega)]
   rw[hrd] at k0
   simp only [hrd] at k1
   unfold Ajv
   tm_at"r"
   refine⟨by show 0<=sizeLine;decide,λD2 hD2=>?_⟩
   have s2:Same H1 (upd H1 D2 (.lst [])):=Av hD2
   unfold Ajw
   tm_at"r"
   refine⟨_,rfl,D,rfl,⟨_,SqL.of (s2 _ _ hDl)⟩,JZ (K:=X.K) (a:=D) (xs:=ps.map V.ref) (λi σ H'=>∃v4 v5 zs,σ=[some (.ref l),some (.int (most:Nat)),some (.ref D),some (.ref D2),v4,v5]/\Same H1 H'/\((RM.cuts 7 ns).take i).all RM.Ahb=true/\CLz A H' D2 zs/\ics zs=((RM.cuts 7 ns).take i).map RM.Te)
    ⟨none,none,[],rfl,s2,by rw[Fb];rfl,⟨Ah,λ_ h=>(nomatch h)⟩,by rw[Fb];rfl⟩ (λi σ H' _ ⟨_,_,_,_,s,_⟩=>SqL.of (s _ _ hDl)) ?turn ?fin⟩
   case turn=>
    rintro i x σ H' hx ⟨v4,v5,zs,rfl,s,hall,hcz,hi⟩
    rw[Bk] at hx
    obtain⟨a,ha,rfl⟩:∃a,ps[i]?=some a/\V.ref a=x:=J8 hx
    obtain⟨r,hri,hra⟩:=KZ hp ha
    have hrm:r∈RM.cuts 7 ns:=BX hri
    have hlen:zs.length<=100:=by
     have:=congrArg Mv hi
     unfold ics at this
     rw[Aa,Aa,Er] at this
     omega
    tm_at"r"
    refine⟨_,rfl,a,r,rfl,s _ _ hra,Bwd hrm,Bwc (by decide) hrm,λH2 h2 hbad=>?_,λo H2 h2 ho hok hc=>?_⟩
    ·refine⟨_,rfl,rfl,_,rfl,?_⟩
     rw[Aq (by decide)]
     refine k0 H2 (s1.trans (s.trans h2)) ?_
     rw[RM.U0,Am]
     rintro⟨q,_⟩
     have:=Ep.mp q r hrm
     rw[hbad] at this;cases this
    ·refine⟨_,rfl,rfl,_,rfl,?_⟩
     rw[Am (by simp)]
     have Bwq:=hcz.same h2
     refine⟨_,rfl,.inl ⟨rfl,_,SqL.of Bwq.1⟩,_,rfl,D2,_,_,rfl,rfl,Bwq.1,by rw[Aa];exact CJ hlen (by decide),_,_,zs++[(o,RM.Te r)],rfl,FZ (s.trans h2) hD2,?_,⟨by rw[Ah,Bd];rfl,λz hz=>?_⟩,?_⟩
     ·rw[take_snoc hri,Aig,hall,Jj,hok];rfl
     ·rcases Bw.mp hz with q|q
      ·exact(Bwq.2 z q).upd Bwq.1
      ·rw[Bj.mp q];exact hc.upd Bwq.1
     ·rw[take_snoc hri,Bd,<-hi];unfold ics;rw[Bd];rfl
   case fin=>
    rintro σ H' ⟨v4,v5,zs,rfl,s,hall,hcz,hi⟩
    rw[Aa,hpl,DR] at hall hi
    have hlen:zs.length<=100:=by
     have:=congrArg Mv hi
     unfold ics at this
     rw[Aa,Aa] at this
     omega
    dsimp only
    unfold Ajx
    tm_at"r"
    refine⟨_,rfl,D2,its (thz zs),rfl,hcz.things.tl,by rw[DK];unfold thz;rw[Aa];omega,λH3 s3=>⟨_,rfl,?_⟩⟩
    rw[Avu]
    by_cases hnd:RM.ND ((ics zs).map λx=>x.item)
    ·rw[Aq (Aj hnd)]
     refine⟨_,rfl,k1 D2 H3 zs (s1.trans (s.trans s3)) (s1.free hD2) ?_ (hcz.same s3)⟩
     rw[RM.U0,Aq ⟨hall,by rw[<-hi];exact hnd⟩,hi]
    ·rw[Am (by simpa using hnd)]
     refine k0 H3 (s1.trans (s.trans s3)) ?_
     rw[RM.U0,Am]
     rintro⟨_,h2⟩
     exact hnd (by rw[hi];exact h2)
theorem Rt(zs:Zs)(ys:List Item):its (zs.filter λz=>!(numbers ys).contains z.2.num)=minus (its zs) ys:=TX (λx=>!(numbers ys).contains x.num) zs
def Fz(A:Adr):Sp:=λvs H Q _=>∃b l a B zs x,vs=[.ref b,.ref l,.ref a]/\Ja A H b B/\TLz A H l zs/\Gi A H a x/\Fit (x::its zs)/\RM.ND (x::its zs)/\
 ∀D H' zs',Same H H'->(D=l\/H D=none)->TLz A H' D zs'->its zs'=RM.after B (its zs) x->(∀z∈zs',z∈zs\/z=(a,x))->Q (.ref D) H'
theorem Aq2(T:Txt K mg A):Def P w K mg base 5 "held_after" Uv (Fz A):=by
 refine Ed T.Ave Bi5 (λvs H Q E h=>?_) (λX e1 e2 e3 e4 e5 c H vs Q E h=>?_)
 ·obtain⟨b,l,a,B,zs,x,rfl,_⟩:=h;rfl
 ·tm_at"s"
  obtain⟨b,l,a,B,zs,x,rfl,hb,hl,hx,hf,hnd,k⟩:=h
  refine⟨_,Bgy T c (Al0 T) (T3 T) (Acu T) (Ahd T),?_⟩
  show Ahp X.K A _ _ _ _ _ [some (.ref b),some (.ref l),some (.ref a),none] H
  unfold Ahp
  tm_at"r"
  refine⟨_,rfl,_,rfl,_,rfl,b,l,a,B,zs,x,rfl,hb,hl,hx,hf,λH1 s1=>⟨_,rfl,?_⟩⟩
  cases ht:RM.Xv B x (its zs) with
  |false=>
   rw[Ck,Aq rfl]
   refine⟨_,rfl,k l H1 zs s1 (.inl rfl) (hl.same s1) ?_ λz hz=>.inl hz⟩
   unfold RM.after
   rw[ht,Am Ac]
  |true=>
   rw[CK,Am Ac]
   unfold Amx
   tm_at"r"
   refine⟨_,rfl,_,rfl,_,rfl,b,l,a,B,zs,x,rfl,hb.same s1,hl.same s1,hx.same s1,hf,λG H2 s2 hG hgo=>?_⟩
   unfold Amy
   tm_at"r"
   have hz:zs.length<=4999:=by have:=hf.1;rw[Ay,DK] at this;omega
   have hgl:(RM.GZ B x (its zs)).length<=sizeLine:=by
    have h1:=((RM.Bdk B x (its zs)).trans Iv).length_le
    rw[DK] at h1
    exact Az h1 (Az hz (by decide))
   refine⟨_,rfl,_,rfl,l,G,zs,_,rfl,hl.same (s1.trans s2),hgo,Az hz (by decide),hgl,λW H3 s3 hW h3=>?_⟩
   refine⟨_,rfl,by show 1<=sizeLine;decide,λp hp=>?_⟩
   have hln:=CQ (λz:Addr×Item=>!(numbers (RM.GZ B x (its zs))).contains z.2.num) zs
   refine⟨W,p,_,[.ref a],rfl,rfl,(Av hp) _ _ h3.1,Ah,?_,λq hq=>?_⟩
   ·rw[Aa]
    have:=big5
    show _+1<=_
    omega
   have s4:=(Av (o:=.lst [.ref a]) hp).trans (Av (o:=.lst (rf (zs.filter λz=>!(numbers (RM.GZ B x (its zs))).contains z.2.num)++[.ref a])) hq)
   have s14:=s1.trans (s2.trans (s3.trans s4))
   have hi:its ((zs.filter λz=>!(numbers (RM.GZ B x (its zs))).contains z.2.num)++[(a,x)])=minus (its zs) (RM.GZ B x (its zs))++[x]:=by rw[Nj,Rt];rfl
   have hnd2:RM.ND (minus (its zs) (RM.GZ B x (its zs))++[x]):=(RM.Lq (Dt x _)).mpr (RM.TY ((RM.JR _ _).cons_cons x) hnd)
   refine⟨q,(zs.filter λz=>!(numbers (RM.GZ B x (its zs))).contains z.2.num)++[(a,x)],rfl,⟨by rw[Ah,Bd];rfl,λz hz=>?_⟩,by rw[hi];exact hnd2,λD H5 zs' s5 hD hp' hsd htl=>?_⟩
   ·rcases Bw.mp hz with hz|hz
    ·exact(h3.2 z hz).same s4
    ·rw[Bj.mp hz];exact hx.same s14
   ·refine k D H5 zs' (s14.trans s5) (.inr (s14.free hD)) htl ?_ λz hz=>?_
    ·unfold RM.after
     rw[ht,Aq rfl]
     have pi:(its zs').Perm (minus (its zs) (RM.GZ B x (its zs))++[x]):=by rw[<-hi];exact hp'.map _
     exact RM.Aor (pi.trans (RM.Ke _ _).symm) hsd (RM.Agd hnd2)
    ·rcases Bw.mp (hp'.mem_iff.mp hz) with q|q
     ·exact .inl (DP.mp q).1
     ·exact .inr (Bj.mp q)
def BZ(A:Adr):Sp:=λvs H Q _=>∃b l B zs,vs=[.ref b,.ref l]/\Ja A H b B/\TLz A H l zs/\Fit (its zs)/\zs.length<=100/\RM.ND (its zs)/\
 ∀D H' zs',Same H H'->TLz A H' D zs'->its zs'=Fi B (its zs)->(∀z∈zs',z∈zs)->Q (.ref D) H'
theorem Agw{B:Bounds}:∀(l m:List Item),(l.foldl (RM.after B) m).length<=m.length+l.length
 |[],m=>Bu _
 |x::l,m=>by
  rw[J7]
  have h1:=Agw (B:=B) l (RM.after B m x)
  have h2:=RM.Axf (b:=B) (x:=x) (l:=m)
  rw[Ay];omega
theorem Bh4{l m:List Item}{x:Item}(n:RM.ND (l++x::m)){ks:List Item}(hk:∀y∈ks,y∈l)(nk:RM.ND ks):RM.ND (x::ks):=by
 unfold RM.ND
 rw[Bo,Gj]
 refine⟨λhm=>?_,nk⟩
 obtain⟨y,hy,e⟩:=Dv.mp hm
 unfold RM.ND at n
 rw[Bd,Bo] at n
 exact(JH.mp n).2.2 y.num (Cw (hk y hy)) x.num Bl e
theorem Yl(T:Txt K mg A):Def P w K mg base 6 "kept_in_turn" O5 (BZ A):=by
 refine Ed T.Ale Bcn (λvs H Q E h=>?_) (λX e1 e2 e3 e4 e5 c H vs Q E h=>?_)
 ·obtain⟨b,l,B,zs,rfl,_⟩:=h;rfl
 ·tm_at"s"
  obtain⟨b,l,B,zs,rfl,hb,hl,hf,hzl,hnd,k⟩:=h
  refine⟨_,Bbj T c (Aq2 T),?_⟩
  show Aa5 X.K A _ _ [some (.ref b),some (.ref l),none,none] H
  unfold Aa5
  tm_at"r"
  refine⟨by show 0<=sizeLine;decide,λD0 hD0=>?_⟩
  have s0:Same H (upd H D0 (.lst [])):=Av hD0
  unfold Af1
  tm_at"r"
  refine⟨_,rfl,l,rfl,⟨_,SqL.of (s0 _ _ hl.1)⟩,JZ (K:=X.K) (a:=l) (xs:=rf zs) (λi σ H'=>∃v D ks,σ=[some (.ref b),some (.ref l),some (.ref D),v]/\Same H H'/\TLz A H' D ks/\its ks=(its (zs.take i)).foldl (RM.after B) []/\(∀z∈ks,z∈zs.take i)/\RM.ND (its ks)/\RM.Sd (its ks))
   ⟨none,D0,[],rfl,s0,⟨Ah,λ_ h=>(nomatch h)⟩,by rw[Fb];rfl,λ_ h=>(nomatch h),Gp,Gp⟩ (λi σ H' _ ⟨_,_,_,_,s,_⟩=>SqL.of (s _ _ hl.1)) ?turn ?fin⟩
  case turn=>
   rintro i v σ H' hv ⟨v3,D,ks,rfl,s,hk,hi,hm,nk,sk⟩
   rw[Bk] at hv
   obtain⟨z,hn,rfl⟩:∃z,zs[i]?=some z/\V.ref z.1=v:=J8 hv
   have hzm:z∈zs:=BX hn
   have hil:i<zs.length:=(BL.mp hn).1
   have hsplit:its zs=its (zs.take i)++z.2::its (zs.drop (i+1)):=by
    have:zs=zs.take i++z::zs.drop (i+1):=by
     have h1:zs.drop i=z::zs.drop (i+1):=by
      rw[EY hil]
      congr 1
      exact Ae ((CP hil).symm.trans hn)
     rw[<-h1,QV]
    conv=>lhs;rw[this]
    rw[Nj];rfl
   have hkm:∀y∈its ks,y∈its (zs.take i):=λy hy=>by
    obtain⟨z',hz',rfl⟩:=U8 hy
    exact Rz (hm z' hz')
   have nx:RM.ND (z.2::its ks):=Bh4 (by rw[<-hsplit];exact hnd) hkm nk
   have hlen:ks.length<=100:=by
    have h1:=congrArg Mv hi
    have h2:=Agw (B:=B) (its (zs.take i)) []
    rw[DK] at h1
    rw[<-h1,DK,Er] at h2
    have:([]:List Item).length=0:=rfl
    omega
   tm_at"r"
   refine⟨_,rfl,_,rfl,_,rfl,b,D,z.1,B,ks,z.2,rfl,hb.same s,hk,(hl.2 z hzm).same s,⟨by rw[Ay,DK];omega,λy hy=>?_⟩,nx,λD' H2 ks' s2 hD' hk' hi' hm'=>?_⟩
   ·rcases BP.mp hy with e|hy
    ·rw[e];exact hf.2 _ (Rz hzm)
    ·obtain⟨z',hz',rfl⟩:=U8 hy
     exact hf.2 _ (Rz (Xk (hm z' hz')))
   ·refine⟨_,D',ks',rfl,s.trans s2,hk',?_,λy hy=>?_,?_,?_⟩
    ·rw[hi',hi,take_snoc hn,Nj,Lk];rfl
    ·rw[take_snoc hn]
     rcases hm' y hy with q|q
     ·exact GP _ (hm y q)
     ·exact Cu _ (by rw[q];exact Bj.mpr rfl)
    ·rw[hi'];exact RM.Ak4 nx
    ·rw[hi'];exact RM.Ak5 nx sk
  case fin=>
   rintro σ H' ⟨v3,D,ks,rfl,s,hk,hi,hm,nk,sk⟩
   rw[Aa,DR] at hi hm
   dsimp only
   unfold Af2
   refine⟨_,rfl,k D H' ks s hk ?_ hm⟩
   rw[hi,RM.Axn hnd]
def Iu(A:Adr):Sp:=λvs H Q _=>∃b l B zs,vs=[.ref b,.ref l]/\Ja A H b B/\TLz A H l zs/\Fit (its zs)/\zs.length<=100/\RM.ND (its zs)/\
 ∀D H',Same H H'->TL A H' D (Ap6 B (its zs))->Q (.ref D) H'
theorem Ax5(T:Txt K mg A):Def P w K mg base 5 "kept_greedily" Tc (Iu A):=by
 refine Ed T.Ai1 Ba2 (λvs H Q E h=>?_) (λX e1 e2 e3 e4 e5 c H vs Q E h=>?_)
 ·obtain⟨b,l,B,zs,rfl,_⟩:=h;rfl
 ·tm_at"s"
  obtain⟨b,l,B,zs,rfl,hb,hl,hf,hzl,hnd,k⟩:=h
  refine⟨_,Aym T c (T3 T) (Ahc T),?_⟩
  show Yu X.K A _ _ _ [some (.ref b),some (.ref l),none,none] H
  unfold Yu
  tm_at"r"
  refine⟨by show 0<=sizeLine;decide,λD hD=>?_⟩
  have s0:Same H (upd H D (.lst [])):=Av hD
  unfold Ada
  tm_at"r"
  refine⟨_,rfl,l,zs,rfl,hl.same s0,hnd,λM H1 ms s1 hM hp hsd hm=>?_⟩
  have hMD:D≠M:=λz=>by rw[<-z,Ah] at hM;cases hM
  have hms:its ms=Ba3 stronger (its zs):=RM.Aor ((hp.map _).trans (RM.Ke _ _).symm) hsd (RM.Agd hnd)
  have hml:ms.length=zs.length:=hp.length_eq
  refine⟨M,rfl,⟨_,SqL.of hm.1⟩,JZ (K:=X.K) (a:=M) (xs:=rf ms) (λi σ H'=>∃v ks,σ=[some (.ref b),some (.ref l),some (.ref D),v]/\Same H H'/\H' M=some (.lst (rf ms))/\H' D=some (.lst (rf ks))/\(∀z∈ks,z∈ms)/\ks.length<=i/\its ks=(its (ms.take i)).foldl (λm x=>if fits B (m++[x])=true then m++[x] else m) [])
   ⟨none,[],rfl,s0.trans s1,hm.1,s1 _ _ Ah,λ_ h=>(nomatch h),Bu _,by rw[Fb];rfl⟩ (λi σ H' _ ⟨_,_,_,_,q,_⟩=>SqL.of q) ?turn ?fin⟩
  case turn=>
   rintro i v σ H' hv ⟨v3,ks,rfl,s,hM',hD',hks,hkl,hi⟩
   rw[Bk] at hv
   obtain⟨z,hn,rfl⟩:∃z,ms[i]?=some z/\V.ref z.1=v:=J8 hv
   have hil:i<ms.length:=(BL.mp hn).1
   have hzz:∀y∈ms,y∈zs:=λy hy=>hp.mem_iff.mp hy
   have hzm:=hzz z (BX hn)
   tm_at"r"
   refine⟨_,rfl,_,rfl,_,rfl,by show 1<=sizeLine;decide,λp hpn=>?_⟩
   refine⟨D,p,rf ks,[.ref z.1],rfl,rfl,(Av hpn) _ _ hD',Ah,?_,λq hq=>?_⟩
   ·rw[Aa]
    have:(200:Nat)<sizeLine:=by decide
    show _+1<=_
    omega
   have sq:=(Av (o:=.lst [.ref z.1]) hpn).trans (Av (o:=.lst (rf ks++[.ref z.1])) hq)
   refine⟨b,q,B,its ks++[z.2],rfl,hb.same (s.trans sq),⟨ks++[z],⟨by rw[Ah,Bd];rfl,λy hy=>?_⟩,by rw[Bd];rfl⟩,⟨by rw[Bg,DK];show _+1<=_;omega,λy hy=>?_⟩,λH5 s5=>⟨_,rfl,?_⟩⟩
   ·rcases Bw.mp hy with hy|hy
    ·exact(hl.2 y (hzz y (hks y hy))).same (s.trans sq)
    ·rw[Bj.mp hy];exact(hl.2 z hzm).same (s.trans sq)
   ·rcases Bw.mp hy with hy|hy
    ·obtain⟨y',hy',rfl⟩:=U8 hy
     exact hf.2 _ (Rz (hzz _ (hks _ hy')))
    ·rw[Bj.mp hy];exact hf.2 _ (Rz hzm)
   ·have hD5:=s5 _ _ (sq _ _ hD')
    have hM5:=s5 _ _ (sq _ _ hM')
    have sH5:=s.trans (sq.trans s5)
    have hst:its (ms.take (i+1))=its (ms.take i)++[z.2]:=by rw[take_snoc hn,Nj];rfl
    try dsimp only
    cases hfit:fits B (its ks++[z.2]) with
    |true=>
     rw[Aq rfl]
     refine⟨_,rfl,.inl ⟨rfl,_,SqL.of hD5⟩,_,rfl,D,rf ks,_,rfl,rfl,hD5,?_,_,ks++[z],rfl,FZ sH5 hD,by rw[Cd (Js hMD)];exact hM5,by rw[Ah,Aoo],λy hy=>?_,by rw[Bg];show _+1<=_;omega,?_⟩
     ·rw[Aa]
      have:(200:Nat)<sizeLine:=by decide
      omega
     ·rcases Bw.mp hy with hy|hy
      ·exact hks y hy
      ·rw[Bj.mp hy];exact BX hn
     ·rw[hst,Lk,<-hi,Nj]
      show _=if fits B (its ks++[z.2])=true then _ else _
      rw[hfit,Aq rfl];rfl
    |false=>
     rw[Am Ac]
     refine⟨_,ks,rfl,sH5,hM5,hD5,hks,by omega,?_⟩
     rw[hst,Lk,<-hi]
     show _=if fits B (its ks++[z.2])=true then _ else _
     rw[hfit,Am Ac]
  case fin=>
   rintro σ H' ⟨v3,ks,rfl,s,hM',hD',hks,hkl,hi⟩
   rw[Aa,DR,hms] at hi
   dsimp only
   unfold Adb
   refine⟨_,rfl,k D H' s ⟨ks,⟨hD',λz hz=>(hl.2 z (hp.mem_iff.mp (hks z hz))).same s⟩,?_⟩⟩
   show its ks=_
   rw[hi,RM.Azw]
def Bhe(A:Adr)(H:Hp)(D:Addr)(ps:List Addr)(os:List Zs):Prop:=H D=some (.lst (ps.map V.ref))/\Paired (λp zs=>TLz A H p zs) ps os
theorem Bhe.same{A:Adr}{H H':Hp}{D:Addr}{ps:List Addr}{os:List Zs}(h:Bhe A H D ps os)(s:Same H H'):Bhe A H' D ps os:=⟨s _ _ h.1,Paired.up (λ_ _ q=>q.same s) h.2⟩
theorem TLz.upd{A:Adr}{H:Hp}{l p:Addr}{zs:Zs}{xs ys:List V}(h:TLz A H l zs)(hne:l≠p)(e:H p=some (.lst xs)):TLz A (upd H p (.lst ys)) l zs:=⟨by rw[Cd hne];exact h.1,λz hz=>(h.2 z hz).upd e⟩
theorem Paired.app{α β:Type}{F:α->β->Prop}:∀{l l':List α} {m m':List β},Paired F l m->Paired F l' m'->Paired F (l++l') (m++m')
 |_,_,_,_,.nil,q=>q
 |_,_,_,_,.cons r t,q=>.cons r (Paired.app t q)
def Du(A:Adr):Sp:=λvs H Q _=>∃l zs,vs=[.ref l]/\TLz A H l zs/\zs.length<=5/\RM.ND (its zs)/\
 ∀D H' ps os,Same H H'->H D=none->(∀p∈ps,H p=none)->Bhe A H' D ps os->os.map its=Vbdtag.ordersOf (its zs).length (its zs)->(∀o∈os,∀z∈o,z∈zs)->os.length<=3125->Q (.ref D) H'
def WK(zs:Zs)(o:Zs):List Zs:=(zs.filter λz=>!(numbers (its o)).contains z.2.num).map λz=>o++[z]
theorem Bno(zs o:Zs):(WK zs o).map its=(minus (its zs) (its o)).map λt=>its o++[t]:=by
 unfold WK
 rw[Df,<-Rt]
 unfold its
 rw[Df]
 refine Fv λz _=>?_
 show(o++[z]).map (·.2)=_
 rw[Bd];rfl
theorem Aoe(zs:Zs):∀os:List Zs,(os.flatMap (WK zs)).map its=RM.layer (its zs) (os.map its)
 |[]=>rfl
 |o::os=>by
  have ih:=Aoe zs os
  unfold RM.layer at ih|-
  rw[GR,Bd,Bno,ih,Bo,GR]
theorem Cdz{i n:Nat}(h:i<=5)(hn:n<=5^i):n<=3125:=Az hn (Akv (by decide) h)
theorem Aq1(T:Txt K mg A):Def P w K mg base 2 "all_orders" Uu (Du A):=by
 refine Ed T.Avb Bi2 (λvs H Q E h=>?_) (λX e1 e2 e3 e4 e5 c H vs Q E h=>?_)
 ·obtain⟨l,zs,rfl,_⟩:=h;rfl
 ·tm_at"s"
  obtain⟨l,zs,rfl,hl,hz,hnd,k⟩:=h
  refine⟨_,Bgv T c (Ahd T),?_⟩
  show Ahk X.K A _ _ [some (.ref l),none,none,none,none,none] H
  unfold Ahk
  tm_at"r"
  refine⟨by show 0<=sizeLine;decide,λp0 hp0=>⟨by show 1<=sizeLine;decide,λD0 hD0=>?_⟩⟩
  have s0:Same H (upd (upd H p0 (.lst [])) D0 (.lst [.ref p0])):=(Av hp0).trans (Av hD0)
  unfold Amn
  tm_at"r"
  have hzL:(rf zs).length=zs.length:=Aa ..
  refine⟨_,rfl,l,_,rfl,.inl (SqL.of (s0 _ _ hl.1)),(zs.length:Nat),by rw[hzL],by omega,by omega,?_⟩
  rw[Fq]
  have hDp:D0∉[p0]:=λz=>by
   rw[Bj.mp z,Ah] at hD0;cases hD0
  have hmm:∀o∈([[]]:List Zs),∀z∈o,z∈zs:=λo ho z hz'=>by
   rw[Bj.mp ho] at hz';cases hz'
  have hll:∀o∈([[]]:List Zs),o.length<=0:=λo ho=>by
   rw[Bj.mp ho];exact Bu _
  refine Bhw (n:=zs.length) (λi σ H'=>∃D v2 v3 v4 v5 ps os,σ=[some (.ref l),some (.ref D),v2,v3,v4,v5]/\Same H H'/\Bhe A H' D ps os/\(D∉ps/\H D=none/\∀p∈ps,H p=none)/\RM.layers (its zs) (zs.length-i) (os.map its)=RM.layers (its zs) zs.length [[]]/\(∀o∈os,∀z∈o,z∈zs)/\os.length<=5^i/\∀o∈os,o.length<=i)
   ⟨D0,none,none,none,none,[p0],[[]],rfl,s0,⟨by rw[Ah];rfl,.cons ⟨(Av hD0) _ _ Ah,λ_ h=>(nomatch h)⟩ .nil⟩,⟨hDp,(Av hp0).free hD0,λp hp=>by rw[Bj.mp hp];exact hp0⟩,rfl,hmm,by decide,hll⟩ ?turn ?fin
  case turn=>
   rintro i σ H1 hi ⟨D,v2,v3,v4,v5,ps,os,rfl,s1,ho,⟨hDn,hDf,hpf⟩,hlay,hmem,Bt1,Bwu⟩
   tm_at"r"
   refine⟨by show 0<=sizeLine;decide,λL hL=>?_⟩
   have hLD:L≠D:=λz=>by rw[z,ho.1] at hL;cases hL
   have s2:Same H1 (upd H1 L (.lst [])):=Av hL
   have hpl:=Paired.length ho.2
   refine⟨_,rfl,D,rfl,⟨_,SqL.of (s2 _ _ ho.1)⟩,JZ (K:=X.K) (a:=D) (xs:=ps.map V.ref) (λj σ H'=>∃v4 v5 qs,σ=[some (.ref l),some (.ref D),some (.int (0+(i:Nat))),some (.ref L),v4,v5]/\Same H1 H'/\Bhe A H' L qs ((os.take j).flatMap (WK zs))/\(L∉qs/\∀q∈qs,H q=none))
    ⟨v4,v5,[],rfl,s2,⟨Ah,by rw[Fb];exact .nil⟩,KR,λ_ h=>(nomatch h)⟩ (λj σ H' _ ⟨_,_,_,_,s,_⟩=>SqL.of (s _ _ ho.1)) ?Byk ?fin2⟩
   case Byk=>
    rintro j v σ H2 hv ⟨w4,w5,qs,rfl,s3,hq,hLq,hqf⟩
    rw[Bk] at hv
    obtain⟨a,ha,rfl⟩:∃a,ps[j]?=some a/\V.ref a=v:=J8 hv
    obtain⟨o,hoj,hoa⟩:=KZ ho.2 ha
    have hom:o∈os:=BX hoj
    have hol:=Bwu o hom
    have Cdb:=hoa.same s3
    have Cda:=hl.same (s1.trans s3)
    tm_at"r"
    refine⟨_,rfl,.inl ⟨rfl,_,SqL.of hq.1⟩,_,rfl,_,rfl,l,a,zs,its o,rfl,Cda,Cdb.tl,by rw[show zs.length<=sizeLine↔zs.length<=sizeLine from Iff.rfl];exact Az hz (by decide),by rw[DK];exact Az hol (Az (Jr hi) (Az hz (by decide))),λW H3 s4 hW hw=>?_⟩
    generalize hws:(zs.filter λz=>!(numbers (its o)).contains z.2.num)=ws at hw
    have hwl:ws.length<=5:=by rw[<-hws];exact Az (CQ _ _) hz
    have hwm:∀z∈ws,z∈zs:=λz hz'=>by rw[<-hws] at hz';exact(DP.mp hz').1
    refine⟨W,rfl,⟨_,SqL.of hw.1⟩,λE hE=>?_⟩
    refine Avx (K:=X.K) (a:=W) (xs:=rf ws) (λm H'=>Same H3 H'/\∃rs:List Addr,E∉rs/\(L∉rs/\∀q∈rs,H q=none)/\H' E=some (.lst (rs.map V.ref))/\Paired (λp zs=>TLz A H' p zs) rs ((ws.take m).map λz=>o++[z])) ⟨Av hE,[],KR,⟨KR,λ_ h=>(nomatch h)⟩,Ah,by rw[Fb];exact .nil⟩ (λm H' _ ⟨s,_⟩=>SqL.of (s _ _ hw.1)) ?_ ?_
    ·rintro m v H4 hv ⟨s5,rs,hEr,⟨hLr,hrf⟩,hEl,hr⟩
     rw[Bk] at hv
     obtain⟨z,hzm,rfl⟩:∃z,ws[m]?=some z/\V.ref z.1=v:=J8 hv
     have hml:m<ws.length:=(BL.mp hzm).1
     refine⟨rfl,?_⟩
     dsimp only [Apd]
     rw[Aq rfl]
     tm_at"r"
     refine⟨_,rfl,_,rfl,by show 1<=sizeLine;decide,λp hp=>?_⟩
     have s45:=s4.trans s5
     have Cdc:=Cdb.same s45
     refine⟨a,p,rf o,[.ref z.1],rfl,rfl,(Av hp) _ _ Cdc.1,Ah,?_,λq hq'=>?_⟩
     ·rw[Aa]
      have:(100:Nat)<sizeLine:=by decide
      show _+1<=_
      omega
     have sq:=(Av (o:=.lst [.ref z.1]) hp).trans (Av (o:=.lst (rf o++[.ref z.1])) hq')
     have Btz:=sq _ _ hEl
     have hqE:q≠E:=λzz=>by rw[zz] at hq';rw[(Av hp) _ _ hEl] at hq';cases hq'
     have hrl:=Paired.length hr
     rw[Aa,Er] at hrl
     have hLn:H4 L≠none:=λzz=>by rw[s45 _ _ hq.1] at zz;cases zz
     have hqL:q≠L:=λzz=>by
      rw[zz] at hq'
      rw[(Av hp) _ _ (s45 _ _ hq.1)] at hq';cases hq'
     refine⟨rs.map V.ref,Btz,by rw[Aa,hrl];exact CJ (Aw6 _ _) (CJ hwl (by decide)),FZ (s5.trans sq) hE,rs++[q],λzz=>(Bw.mp zz).elim hEr λzz=>hqE (Bj.mp zz).symm,⟨λzz=>(Bw.mp zz).elim hLr λzz=>hqL (Bj.mp zz).symm,λu hu=>(Bw.mp hu).elim (hrf u) λzz=>by rw[Bj.mp zz];exact s1.free (s3.free (s45.free ((Av hp).free hq')))⟩,by rw[Ah,Bd];rfl,?_⟩
     rw[take_snoc hzm,Bd]
     refine Paired.snoc ?_ (Paired.upM (λb zs' hb q'=>(q'.same sq).upd (λzz=>hEr (zz▸hb)) Btz) hr)
     refine⟨by rw[Cd hqE,Ah,Bd];rfl,λy hy=>?_⟩
     rcases Bw.mp hy with hy|hy
     ·exact((Cdc.2 y hy).same sq).upd Btz
     ·rw[Bj.mp hy]
      exact(((Cda.2 z (hwm z (BX hzm))).same s45).same sq).upd Btz
    ·rintro H4 ⟨s5,rs,hEr,⟨hLr,hrf⟩,hEl,hr⟩
     rw[Aa,DR] at hr
     have Bze:=hq.same (s4.trans s5)
     have hLE:L≠E:=λzz=>by
      rw[<-zz,s4 _ _ hq.1] at hE;cases hE
     have hql:=Paired.length hq.2
     have hrl:=Paired.length hr
     rw[Aa] at hrl
     have hfl:∀os':List Zs,(os'.flatMap (WK zs)).length<=os'.length*5:=λos'=>by
      have h1:=congrArg Mv (Aoe zs os')
      rw[Aa] at h1
      rw[h1]
      have h2:=RM.Axw (its zs) (os'.map its)
      rw[Aa,DK] at h2
      exact Az h2 (Ao2 _ hz)
     have Cde:os.length<=3125:=Cdz (by omega) Bt1
     refine .inl ⟨L,E,qs.map V.ref,rs.map V.ref,rfl,rfl,Bze.1,hEl,?_,_,_,qs++rs,rfl,?_,⟨by rw[Ah,Bd],?_⟩,λzz=>(Bw.mp zz).elim hLq hLr,λu hu=>(Bw.mp hu).elim (hqf u) (hrf u)⟩
     ·rw[Aa,Aa,hql,hrl]
      have h1:=hfl (os.take j)
      rw[Er] at h1
      have h2:=Aw6 j os.length
      have:(20000:Nat)<sizeLine:=by decide
      omega
     ·exact FZ (s3.trans (s4.trans s5)) hL
     ·rw[take_snoc hoj,Oo]
      refine Paired.app (Paired.upM (λb zs' hb q'=>q'.upd (λzz=>hLq (zz▸hb)) Bze.1) Bze.2) ?_
      have e:[o].flatMap (WK zs)=ws.map λz=>o++[z]:=by
       rw[GR,Afg,Ds]
       unfold WK
       rw[hws]
      rw[e]
      exact Paired.upM (λb zs' hb q'=>q'.upd (λzz=>hLr (zz▸hb)) Bze.1) hr
   case fin2=>
    rintro σ H2 ⟨w4,w5,qs,rfl,s3,hq,hLq,hqf⟩
    rw[Aa,hpl,DR] at hq
    refine⟨_,rfl,L,_,_,_,_,qs,os.flatMap (WK zs),rfl,s1.trans s3,hq,⟨hLq,s1.free hL,hqf⟩,?_,λo' ho' z hz'=>?_,?_,λo' ho'=>?_⟩
    ·rw[Aoe,<-hlay]
     have:zs.length-i=(zs.length-(i+1))+1:=by omega
     rw[this];rfl
    ·obtain⟨o,hom,ho''⟩:=Afh.mp ho'
     unfold WK at ho''
     obtain⟨y,hy,rfl⟩:=Dv.mp ho''
     rcases Bw.mp hz' with q|q
     ·exact hmem o hom z q
     ·rw[Bj.mp q];exact(DP.mp hy).1
    ·have h1:=congrArg Mv (Aoe zs os)
     rw[Aa] at h1
     rw[h1]
     have h2:=RM.Axw (its zs) (os.map its)
     rw[Aa,DK] at h2
     rw[Nat.pow_succ]
     exact Az h2 (Nat.mul_le_mul Bt1 hz)
    ·obtain⟨o,hom,ho''⟩:=Afh.mp ho'
     unfold WK at ho''
     obtain⟨y,hy,rfl⟩:=Dv.mp ho''
     rw[Bg]
     have:=Bwu o hom
     show _+1<=_
     omega
  case fin=>
   rintro σ H1 ⟨D,v2,v3,v4,v5,ps,os,rfl,s1,ho,⟨hDn,hDf,hpf⟩,hlay,hmem,Bt1,Bwu⟩
   dsimp only
   unfold Amo
   rw[Nat.sub_self] at hlay
   refine⟨_,rfl,k D H1 ps os s1 hDf hpf ho ?_ hmem (Cdz hz Bt1)⟩
   have e:os.map its=RM.layers (its zs) zs.length [[]]:=hlay
   rw[e,<-DK zs,RM.Buq hnd]
def Hr(A:Adr):Sp:=λvs H Q _=>∃b l B zs,vs=[.ref b,.ref l]/\Ja A H b B/\CLz A H l zs/\(∀c∈ics zs,c.item.rank<10/\c.item.sender<8)/\zs.length<=100/\∀H',Same H H'->Q (.bl (Sw B (ics zs))) H'
theorem Bzq{K:Frag}{A:Adr}{σ:L2.St}{H:Hp}{Q:VK}{j:Nat}{l:Addr}{zs:Cz}{tl:TE}{tt:TT}(p:Coming->Bool)(hv:∀R:VK,R (.ref l) H->tl σ H R)(hl:CLz A H l zs)(hz:zs.length<=sizeLine)(hj:j<σ.length)
  (ht:∀(a:Addr) (x:Coming) (H':Hp) (R:Bool->Hp->Prop),(a,x)∈zs->Li A H' a x->Same H H'->(∀H'',Same H' H''->R (p x) H'')->tt ((wipe σ [j]).set j (some (.ref a))) H' R)
  (hd:∀(D:Addr) (H':Hp),Same H H'->H D=none->CLz A H' D (zs.filter λz=>p z.2)->Q (.ref D) H'):tLc (Jy K tl) (Ce j) tt (Al j) [j] σ H Q:=by
 refine hv _ ⟨l,rfl,⟨_,SqL.of hl.1⟩,λD hD=>?_⟩
 refine Avx (K:=K) (a:=l) (xs:=zs.map λz=>V.ref z.1) (λn H'=>Same H H'/\H' D=some (.lst (((zs.take n).filter λz=>p z.2).map λz=>V.ref z.1))) ⟨Av hD,by rw[Fb];exact Ah⟩ (λn H' _ ⟨s,_⟩=>s.seq (SqL.of hl.1)) ?_ ?_
 ·rintro n x H' hx ⟨s,hDl⟩
  rw[Bk] at hx
  obtain⟨z,hn,rfl⟩:∃z,zs[n]?=some z/\V.ref z.1=x:=J8 hx
  have hm:z∈zs:=BX hn
  show wipe ((wipe σ [j]).set j (some (.ref z.1))) [j]=wipe σ [j]/\_
  refine⟨by show((σ.set j none).set j (some (.ref z.1))).set j none=σ.set j none;rw[Agn,Agn],?_⟩
  refine ht z.1 z.2 H' _ hm ((hl.2 z hm).same s) s λH1 s1=>?_
  cases hp:p z.2 with
  |false=>
   rw[Am Ac]
   refine⟨s.trans s1,?_⟩
   rw[take_snoc hn,Gu,Cr,hp,Am Ac,SX,Ds]
   exact s1 _ _ hDl
  |true=>
   rw[Aq rfl]
   refine⟨_,Mi (by show j<(σ.set j none).length;rw[Yb];exact hj),?_⟩
   have hlt:n<zs.length:=(BL.mp hn).1
   refine⟨_,s1 _ _ hDl,?_,FZ (s.trans s1) hD,?_⟩
   ·rw[Aa]
    refine CJ (CQ _ _) ?_
    rw[Er];omega
   ·rw[Ah,take_snoc hn,Gu,Cr,hp,Aq rfl,SX,Bd]
    rfl
 ·rintro H' ⟨s,hDl⟩
  rw[Aa,DR] at hDl
  exact hd D H' s hD ⟨hDl,λz hm=>(hl.2 z (DP.mp hm).1).same s⟩
theorem Az4(t:Nat)(zs:Cz):its (thz (zs.filter λz=>decide (z.2.at_<=t)&&decide (t<z.2.item.last)))=Rx t (ics zs):=by
 rw[Avu]
 unfold Rx ics
 congr 1
 rw[SQ]
 congr 1
 refine Ft λz _=>?_
 simp [Ad2]
theorem Aa0(T:Txt K mg A):Def P w K mg base 4 "can_all_be_kept" NK (Hr A):=by
 refine Ed T.Ack Auy (λvs H Q E h=>?_) (λX e1 e2 e3 e4 e5 c H vs Q E h=>?_)
 ·obtain⟨b,l,B,zs,rfl,_⟩:=h;rfl
 ·tm_at"s"
  obtain⟨b,l,B,zs,rfl,hb,hl,hf,hzl,k⟩:=h
  refine⟨_,Atr T c (Ahc T),?_⟩
  show Vn X.K A _ _ [some (.ref b),some (.ref l),none,none,none] H
  unfold Vn
  tm_at"r"
  refine⟨_,rfl,l,rfl,⟨_,SqL.of hl.1⟩,JZ (K:=X.K) (a:=l) (xs:=zs.map λz=>V.ref z.1) (λi σ H'=>∃v2 v3,σ=[some (.ref b),some (.ref l),v2,v3,none]/\Same H H'/\(ics (zs.take i)).all (λx=>fits B (Rx x.at_ (ics zs)))=true) ⟨none,none,rfl,Same.refl _,by rw[Fb];rfl⟩ (λi σ H' _ ⟨_,_,_,s,_⟩=>SqL.of (s _ _ hl.1)) ?turn ?fin⟩
  case turn=>
   rintro i v σ H' hv ⟨v2,v3,rfl,s,hall⟩
   rw[Bk] at hv
   obtain⟨z,hn,rfl⟩:∃z,zs[i]?=some z/\V.ref z.1=v:=J8 hv
   have hzm:z∈zs:=BX hn
   have hcz:=(hl.2 z hzm).same s
   tm_at"r"
   refine Bzq (A:=A) (λy=>decide (y.at_<=z.2.at_)&&decide (z.2.at_<y.item.last)) (λR q=>⟨_,rfl,q⟩) (hl.same s) (Az hzl (by decide)) (by show 4<5;decide) (λa y H2 R hy hT s2 h=>?_) λD H2 s2 hD hc=>?_
   ·tm_at"r"
    refine fv rfl (Afs T hT) (fv rfl (Afs T (hcz.same s2)) ⟨_,_,rfl,rfl,_,rfl,?_⟩)
    by_cases c1:y.at_<=z.2.at_
    ·rw[Aq (Aj (by omega))]
     refine fv rfl (Azj T hT.thing) (fv rfl (Afs T (hcz.same s2)) ⟨_,_,rfl,rfl,_,rfl,?_⟩)
     have:=h H2 (Same.refl _)
     rw[Aj c1,HB] at this
     refine Eq.mp (congrArg (λc=>R c H2) (Ju.mpr ?_)) this
     omega
    ·rw[Am (by simp only [Cj];omega)]
     have:=h H2 (Same.refl _)
     rw[Bf c1,Ib] at this
     exact this
   ·have Cf5:(thz (zs.filter λy=>decide (y.2.at_<=z.2.at_)&&decide (z.2.at_<y.2.item.last))).length<=100:=by
     unfold thz
     rw[Aa]
     exact Az (CQ _ _) hzl
    refine⟨_,rfl,_,rfl,b,D,B,_,rfl,hb.same (s.trans s2),hc.things.tl,⟨by rw[DK];omega,λx hx=>?_⟩,λH3 s3=>⟨_,rfl,?_⟩⟩
    ·rw[Az4] at hx
     unfold Rx at hx
     obtain⟨cx,hcx,rfl⟩:=Dv.mp hx
     exact hf cx (DP.mp hcx).1
    ·rw[Az4]
     have hst:ics (zs.take (i+1))=ics (zs.take i)++[z.2]:=by unfold ics;rw[take_snoc hn,Bd];rfl
     cases hfit:fits B (Rx z.2.at_ (ics zs)) with
     |false=>
      rw[Ck,Aq rfl]
      have:=k H3 (s.trans (s2.trans s3))
      have e:Sw B (ics zs)=false:=by
       unfold Sw
       refine Bool.eq_false_iff.mpr λq=>?_
       have:=Ep.mp q z.2 (Cw hzm)
       rw[hfit] at this;cases this
      rw[e] at this
      exact this
     |true=>
      rw[CK,Am Ac]
      refine⟨_,_,rfl,s.trans (s2.trans s3),?_⟩
      rw[hst,Aig,hall,Jj,hfit];rfl
  case fin=>
   rintro σ H' ⟨v2,v3,rfl,s,hall⟩
   rw[Aa,DR] at hall
   dsimp only
   unfold YM
   have:=k H' s
   have e:Sw B (ics zs)=true:=hall
   rw[e] at this
   exact this
def GQ(A:Adr):Sp:=λvs H Q _=>∃a c,vs=[.ref a]/\Li A H a c/\Q (.int (c.at_:Nat)) H
theorem Ax2(T:Txt K mg A):Def P w K mg base 1 "coming_moment" S7 (GQ A):=by
 refine(Ed (k:=0) T.Aiy Bay (λvs H Q E h=>?_) (λX e1 e2 e3 e4 e5 c H vs Q E h=>?_))
 ·obtain⟨a,x,rfl,_⟩:=h;rfl
 ·tm_at"s"
  obtain⟨a,x,rfl,ha,k⟩:=h
  refine⟨_,Ayj T c,?_⟩
  show Yq X.K A _ [some (.ref a)] H
  unfold Yq
  tm_at"r"
  exact fv rfl (Afs T ha) k
theorem Bt7{A:Adr}(Q:List V->Hp->Prop):∀(zs:Cz) (H:Hp),(∀z∈zs,Li A H z.1 z.2)->Q (zs.map λz=>V.int (z.2.at_:Nat)) H->Asn (GQ A) (zs.map λz=>V.ref z.1) H Q:=by
 intro zs
 induction zs generalizing Q with
 |nil=>intro H _ k;exact k
 |cons z zs ih=>
  intro H hz k
  exact⟨z.1,z.2,rfl,hz z Bl,ih _ H (λy hy=>hz y (Bh _ hy)) k⟩
theorem Ccu(zs:Cz):(zs.map λz=>[((z.2.at_:Nat):Int)]).zip (zs.map λz=>V.ref z.1)=zs.map λz=>([((z.2.at_:Nat):Int)],V.ref z.1):=by
 induction zs with
 |nil=>rfl
 |cons z zs ih=>rw[Bo,Bo,Ka,ih];rfl
theorem Btq{A:Adr}{H:Hp}{a:Addr}{c d:Coming}(h:Li A H a c)(g:Li A H a d):c=d:=by
 obtain⟨dx,e⟩:=h
 obtain⟨dy,e'⟩:=g
 rw[e] at e'
 have e2:thF c.item++[(("moment":Str),V.int (c.at_:Nat))]=thF d.item++[(("moment":Str),V.int (d.at_:Nat))]:=by
  injection e' with e'
  injection e'
 rw[Ng,Ng] at e2
 obtain⟨t,⟨n,s,r,l,sd,wo,bd,pr⟩⟩:=c
 obtain⟨t',⟨n',s',r',l',sd',wo',bd',pr'⟩⟩:=d
 simp only [List.cons.injEq,Prod.mk.injEq,V.int.injEq,V.bl.injEq,true_and,and_true,X8] at e2
 simp_all
theorem Bdy{α β:Type}{f:α->β}{P:α->Prop}(hf:∀a b,P a->P b->f a=f b->a=b):∀{l m:List α},(∀a∈l,P a)->(∀a∈m,P a)->l.map f=m.map f->l=m
 |[],[],_,_,_=>rfl
 |[],_::_,_,_,h=>by cases h
 |_::_,[],_,_,h=>by cases h
 |a::l,b::m,h1,h2,h=>by
  rw[Bo,Bo,List.cons.injEq] at h
  rw[hf a b (h1 a Bl) (h2 b Bl) h.1,Bdy hf (λx hx=>h1 x (Bh _ hx)) (λx hx=>h2 x (Bh _ hx)) h.2]
def G7(A:Adr):Sp:=λvs H Q _=>∃b l B zs,vs=[.ref b,.ref l]/\Ja A H b B/\CLz A H l zs/\(∀c∈ics zs,c.item.rank<10/\c.item.sender<8)/\zs.length<=20/\RM.NDC (ics zs)/\
 ∀D H',Same H H'->TL A H' D (M9 B (ics zs))->(M9 B (ics zs)).length<=1000->Q (.ref D) H'
theorem Av3(t:Nat)(zs:Zs):its (zs.filter λz=>decide (z.2.last<=t))=(its zs).filter λy=>decide (y.last<=t):=TX (λy=>decide (y.last<=t)) zs
theorem Apa(T:Txt K mg A):Def P w K mg base 6 "kept_by_the_rule" Qc (G7 A):=by
 refine Ed T.Aai Ast (λvs H Q E h=>?_) (λX e1 e2 e3 e4 e5 c H vs Q E h=>?_)
 ·obtain⟨b,l,B,zs,rfl,_⟩:=h;rfl
 ·tm_at"s"
  obtain⟨b,l,B,zs,rfl,hb,hl,hf,hzl,hnd,k⟩:=h
  refine⟨_,Apg T c (Aq2 T) (Ahd T) (Ax2 T),?_⟩
  show T6 X.K A _ _ _ _ [some (.ref b),some (.ref l),none,none,none,none,none] H
  unfold T6
  tm_at"r"
  refine⟨by show 0<=sizeLine;decide,λD0 hD0=>?_⟩
  unfold XH
  tm_at"r"
  refine⟨by show 0<=sizeLine;decide,λDe hDe=>?_⟩
  have sD0:Same H (upd H D0 (.lst [])):=Av hD0
  have s0:Same H (upd (upd H D0 (.lst [])) De (.lst [])):=sD0.trans (Av hDe)
  have Ceo:H De=none:=sD0.free hDe
  have hne0:D0≠De:=λz=>by rw[<-z,Ah] at hDe;cases hDe
  unfold XJ
  tm_at"r"
  refine⟨_,rfl,l,_,rfl,SqL.of (s0 _ _ hl.1),Bt7 _ zs _ (λz hz=>(hl.2 z hz).same s0) ?_⟩
  refine⟨zs.map λz=>[((z.2.at_:Nat):Int)],.inl ⟨zs.map λz=>((z.2.at_:Nat):Int),by rw[Df];rfl,by rw[Df];rfl⟩,λps p1 p2 p3 M hM=>?_⟩
  rw[Ccu] at p1 p3
  obtain⟨ms,pz,rfl⟩:=Bej p1
  have hmz:∀z∈ms,z∈zs:=λz hz=>pz.mem_iff.mp hz
  have hml:ms.length=zs.length:=pz.length_eq
  have hon:M9 B (ics zs)=(RM.runK B (ics ms) [] []).1++(RM.runK B (ics ms) [] []).2:=by
   refine RM.Bnv hnd (pz.map _) ?_ λc=>?_
   ·unfold ics
    rw[JK] at p2|-
    refine p2.imp λ{x y} h=>?_
    rw[HT.lexLt_cons] at h
    by_cases e:(y.2.at_:Int)=x.2.at_
    ·omega
    ·rw[Am e] at h
     have:=Qo h
     omega
   ·have h3:=p3 [(c:Int)]
    rw[SQ,SQ] at h3
    have h4:=Bdy (P:=λz=>z∈zs) (λx y hx hy e=>by
     rw[Prod.mk.injEq] at e
     have e1:x.1=y.1:=by injection e.2
     have h1:=hl.2 x hx
     rw[e1] at h1
     exact Prod.ext e1 (Btq h1 (hl.2 y hy))) (λa ha=>hmz a (DP.mp ha).1) (λa ha=>(DP.mp ha).1) h3
    unfold ics
    rw[SQ,SQ]
    refine congrArg _ (Eq.trans (Ft λz _=>?_) (h4.trans (Ft λz _=>?_)))
    ·simp only [Ad2,List.cons.injEq,and_true,X8]
    ·simp only [Ad2,List.cons.injEq,and_true,X8]
  rw[Df]
  have s1:Same (upd (upd H D0 (.lst [])) De (.lst [])) (upd (upd (upd H D0 (.lst [])) De (.lst [])) M (.lst (ms.map λz=>V.ref z.1))):=Av hM
  have hMe:M≠De:=λz=>by rw[z,Ah] at hM;cases hM
  have hcm:∀z∈ms,Li A H z.1 z.2:=λz hz=>hl.2 z (hmz z hz)
  refine⟨M,rfl,⟨_,SqL.of Ah⟩,JZ (K:=X.K) (a:=M) (xs:=ms.map λz=>V.ref z.1) (λi σ H'=>∃v4 v5 D ks es,σ=[some (.ref b),some (.ref l),some (.ref D),some (.ref De),v4,v5,none]/\Same H H'/\H' M=some (.lst (ms.map λz=>V.ref z.1))/\TLz A H' D ks/\TLz A H' De es/\D≠De/\
    RM.runK B (ics (ms.drop i)) (its ks) (its es)=RM.runK B (ics ms) [] []/\(∀z∈ks,z∈thz (ms.take i))/\RM.ND (its ks)/\RM.Sd (its ks)/\ks.length<=i/\es.length<=i*20)
   ⟨none,none,D0,[],[],rfl,s0.trans s1,Ah,⟨s1 _ _ (by rw[Cd hne0];exact Ah),λ_ h=>(nomatch h)⟩,⟨s1 _ _ Ah,λ_ h=>(nomatch h)⟩,hne0,rfl,λ_ h=>(nomatch h),Gp,Gp,Bu _,Bu _⟩ (λi σ H' _ ⟨_,_,_,_,_,_,_,q,_⟩=>SqL.of q) ?turn ?fin⟩
  case turn=>
   rintro i v σ H' hv ⟨v4,v5,D,ks,es,rfl,s,hM',hk,he,hne,hrun,hkm,nk,sk,hkl,hel⟩
   rw[Bk] at hv
   obtain⟨z,hn,rfl⟩:∃z,ms[i]?=some z/\V.ref z.1=v:=J8 hv
   have hil:i<ms.length:=(BL.mp hn).1
   have hzm:z∈ms:=BX hn
   have hdr:ms.drop i=z::ms.drop (i+1):=by
    rw[EY hil]
    congr 1
    exact Ae ((CP hil).symm.trans hn)
   have hcz:=(hcm z hzm).same s
   have hk20:ks.length<=20:=by omega
   tm_at"r"
   refine Axx (A:=A) (λy=>decide (y.last<=z.2.at_)) (λR q=>⟨_,rfl,q⟩) hk (Az hk20 (by decide)) (by show 6<7;decide) (λa y H2 R hy hT s2 h=>?_) λO H2 s2 hO ho=>?_
   ·tm_at"r"
    refine fv rfl (Azj T hT) (fv rfl (Afs T (hcz.same s2)) ⟨_,_,rfl,rfl,_,rfl,?_⟩)
    have:=h H2 (Same.refl _)
    refine Eq.mp (congrArg (λc=>R c H2) (Ju.mpr ?_)) this
    omega
   ·generalize hos:(ks.filter λz'=>decide (z'.2.last<=z.2.at_))=os at ho
    have Cde:os.length<=20:=by rw[<-hos];exact Az (CQ _ _) hk20
    have hOe:O≠De:=λq=>by rw[q,he.1] at hO;cases hO
    have he2:=he.same s2
    refine⟨_,rfl,.inl ⟨rfl,_,SqL.of he2.1⟩,_,rfl,.inl ⟨De,O,rf es,rf os,rfl,rfl,he2.1,ho.1,?_,?_⟩⟩
    ·rw[Aa,Aa]
     have:(1000:Nat)<sizeLine:=by decide
     omega
    have sH3:Same H (upd H2 De (.lst (rf es++rf os))):=FZ (s.trans s2) Ceo
    have hk3:TLz A (upd H2 De (.lst (rf es++rf os))) D ks:=(hk.same s2).upd hne he2.1
    have ho3:TLz A (upd H2 De (.lst (rf es++rf os))) O os:=ho.upd hOe he2.1
    have he3:TLz A (upd H2 De (.lst (rf es++rf os))) De (es++os):=⟨by rw[Ah,<-Bd],λy hy=>by
     rcases Bw.mp hy with q|q
     ·exact(he2.2 y q).upd he2.1
     ·exact(ho.2 y q).upd he2.1⟩
    refine⟨_,rfl,_,rfl,_,rfl,D,O,ks,its os,rfl,hk3,ho3.tl,Az hk20 (by decide),by rw[DK];exact Az Cde (by decide),λW H4 s4 hW hw=>?_⟩
    generalize hws:(ks.filter λz=>!(numbers (its os)).contains z.2.num)=ws at hw
    have hwk:∀y∈ws,y∈ks:=λy hy=>by rw[<-hws] at hy;exact(DP.mp hy).1
    have hwi:its ws=minus (its ks) ((its ks).filter λy=>decide (y.last<=z.2.at_)):=by rw[<-hws,Rt,<-hos,Av3]
    have hwl:ws.length<=ks.length:=by rw[<-hws];exact CQ _ _
    have Ce4:RM.ND (its ws):=by rw[hwi];exact RM.TY (RM.JR _ _) nk
    have Ce5:RM.Sd (its ws):=by rw[hwi];exact QT (RM.JR _ _) sk
    have hsplit:(ics ms).map (λx=>x.item)=its (thz (ms.take i))++z.2.item::its (thz (ms.drop (i+1))):=by
     have:ms=ms.take i++z::ms.drop (i+1):=by rw[<-hdr,QV]
     conv=>lhs;rw[this]
     rw[Avu,Avu]
     unfold ics
     rw[Bd,Bd];rfl
    have Cev:RM.ND (its (thz (ms.take i))++z.2.item::its (thz (ms.drop (i+1)))):=by
     rw[<-hsplit]
     unfold RM.NDC at hnd
     exact(RM.Lq ((pz.map _).map _)).mpr hnd
    have nx:RM.ND (z.2.item::its ws):=Bh4 Cev (λy hy=>by
     obtain⟨z',hz',rfl⟩:=U8 hy
     exact Rz (hkm z' (hwk z' hz'))) Ce4
    have hrk:∀y∈thz ms,y.2.rank<10/\y.2.sender<8:=λy hy=>by
     unfold thz at hy
     obtain⟨u,hu,rfl⟩:=Dv.mp hy
     exact hf u.2 (Cw (hmz u hu))
    have htk:∀y∈thz (ms.take i),y∈thz ms:=λy hy=>by
     unfold thz at hy|-
     obtain⟨u,hu,rfl⟩:=Dv.mp hy
     exact Cw (Xk hu)
    refine⟨_,rfl,b,W,z.1,B,ws,z.2.item,rfl,hb.same (sH3.trans s4),hw,(hcm z hzm).thing.same (sH3.trans s4),⟨by rw[Ay,DK];omega,λy hy=>?_⟩,nx,λD' H5 ks' s5 hD' hk' hi' hm'=>?_⟩
    ·rcases BP.mp hy with e|hy
     ·rw[e];exact hf z.2 (Cw (hmz z hzm))
     ·obtain⟨z',hz',rfl⟩:=U8 hy
      exact hrk z' (htk z' (hkm z' (hwk z' hz')))
    ·have Cep:D'≠De:=by
      rcases hD' with rfl|q
      ·exact λq=>by rw[q,Ah] at hW;cases hW
      ·exact λr=>by rw[r,(s4 _ _ he3.1)] at q;cases q
     have hlen':ks'.length<=i+1:=by
      rw[<-DK,hi']
      refine Az RM.Axf ?_
      rw[DK];omega
     refine⟨_,_,D',ks',es++os,rfl,sH3.trans (s4.trans s5),?_,hk',he3.same (s4.trans s5),Cep,?_,λy hy=>?_,?_,?_,hlen',?_⟩
     ·refine s5 _ _ (s4 _ _ ?_)
      rw[Cd hMe]
      exact s2 _ _ hM'
     ·rw[<-hrun,hdr]
      show RM.runK B (ics (ms.drop (i+1))) (its ks') (its (es++os))=RM.runK B (z.2::ics (ms.drop (i+1))) (its ks) (its es)
      conv=>rhs;unfold RM.runK
      rw[hi',hwi,Nj,<-hos,Av3]
     ·have:thz (ms.take (i+1))=thz (ms.take i)++[(z.1,z.2.item)]:=by unfold thz;rw[take_snoc hn,Bd];rfl
      rw[this]
      rcases hm' y hy with q|q
      ·exact GP _ (hkm y (hwk y q))
      ·exact Cu _ (by rw[q];exact Bj.mpr rfl)
     ·rw[hi'];exact RM.Ak4 nx
     ·rw[hi'];exact RM.Ak5 nx Ce5
     ·rw[Bg];omega
  case fin=>
   rintro σ H' ⟨v4,v5,D,ks,es,rfl,s,hM',hk,he,hne,hrun,hkm,nk,sk,hkl,hel⟩
   rw[Aa] at hrun hkl hel
   rw[O2] at hrun
   dsimp only
   unfold XM
   tm_at"r"
   refine⟨_,rfl,_,rfl,De,D,rf es,rf ks,rfl,rfl,he.1,hk.1,?_,λp hp=>?_⟩
   ·rw[Aa,Aa]
    have:(1000:Nat)<sizeLine:=by decide
    omega
   ·have hr2:M9 B (ics zs)=its es++its ks:=by
     rw[hon,<-hrun];rfl
    refine k p _ (s.trans (Av hp)) ⟨es++ks,⟨by rw[Ah,<-Bd],λz hz=>?_⟩,?_⟩ ?_
    ·rcases Bw.mp hz with q|q
     ·exact(he.2 z q).same (Av hp)
     ·exact(hk.2 z q).same (Av hp)
    ·show its (es++ks)=_
     rw[Nj,hr2]
    ·rw[hr2,Bg,DK,DK];omega
def Bdz(xs:List Item):List Int:=[(worthOf xs:Int), -(xs.length:Int)]
def Bmq(xs:List Item):List Int:=[(worthOf xs:Int),(xs.length:Int)]
def Rr(A:Adr):Sp:=λvs H Q _=>∃l xs,vs=[.ref l]/\TL A H l xs/\xs.length<=sizeLine/\∀t H',Same H H'->H' t=some (.tup ((Bdz xs).map V.int))->Q (.ref t) H'
def Qx(A:Adr):Sp:=λvs H Q _=>∃l xs,vs=[.ref l]/\TL A H l xs/\xs.length<=sizeLine/\∀t H',Same H H'->H' t=some (.tup ((Bmq xs).map V.int))->Q (.ref t) H'
theorem Bxm(T:Txt K mg A):Def P w K mg base 2 "merit" Bbq (Rr A):=by
 refine Ed T.Brk Byv (λvs H Q E h=>?_) (λX e1 e2 e3 e4 e5 c H vs Q E h=>?_)
 ·obtain⟨l,xs,rfl,_⟩:=h;rfl
 ·tm_at"s"
  obtain⟨l,xs,rfl,hl,hz,k⟩:=h
  refine⟨_,Byi T c (Ve T),?_⟩
  show Bku X.K A _ _ [some (.ref l)] H
  unfold Bku
  tm_at"r"
  refine⟨_,rfl,l,xs,rfl,hl,hz,λH1 s1=>?_⟩
  obtain⟨zs,hzs,rfl⟩:=hl
  refine⟨_,rfl,l,_,rfl,.inl (SqL.of (s1 _ _ hzs.1)),?_⟩
  refine⟨_,rfl,by show 2<=sizeLine;decide,λp hp=>?_⟩
  refine k p _ (s1.trans (Av hp)) ?_
  rw[Ah]
  unfold Bdz
  rw[Aa,Aa]
  rfl
theorem Bzy(T:Txt K mg A):Def P w K mg base 2 "cost" Biy (Qx A):=by
 refine Ed T.Bwi Ca8 (λvs H Q E h=>?_) (λX e1 e2 e3 e4 e5 c H vs Q E h=>?_)
 ·obtain⟨l,xs,rfl,_⟩:=h;rfl
 ·tm_at"s"
  obtain⟨l,xs,rfl,hl,hz,k⟩:=h
  refine⟨_,Cai T c (Ve T),?_⟩
  show Bqk X.K A _ _ [some (.ref l)] H
  unfold Bqk
  tm_at"r"
  refine⟨_,rfl,l,xs,rfl,hl,hz,λH1 s1=>?_⟩
  obtain⟨zs,hzs,rfl⟩:=hl
  refine⟨_,rfl,l,_,rfl,.inl (SqL.of (s1 _ _ hzs.1)),by show 2<=sizeLine;decide,λp hp=>?_⟩
  refine k p _ (s1.trans (Av hp)) ?_
  rw[Ah]
  unfold Bmq
  rw[Aa,Aa]
  rfl
theorem Buj(c m:List Item):HT.lexLt (Bdz c) (Bdz m)=Aea m c:=by
 unfold Bdz Aea
 rw[HT.lexLt_cons,HT.lexLt_cons,HT.lexLt_nil_nil]
 by_cases h1:worthOf c<worthOf m
 ·rw[Am (by omega),Aj (by omega),Aj h1];rfl
 ·rw[Bf h1,Adw]
  by_cases h2:worthOf m=worthOf c
  ·rw[Aq (by omega),h2,G9,HB]
   by_cases h3:m.length<c.length
   ·rw[Am (by omega),Aj (by omega),Aj h3]
   ·rw[Bf h3]
    by_cases h4: -(c.length:Int)= -(m.length:Int)
    ·rw[Aq h4]
    ·rw[Am h4];exact Bf (by omega)
  ·rw[Am (by omega),DG.mpr h2,Ib];exact Bf (by omega)
theorem Bv7(m c:List Item):HT.lexLt (Bmq m) (Bmq c)=Aad m c:=by
 unfold Bmq Aad
 rw[HT.lexLt_cons,HT.lexLt_cons,HT.lexLt_nil_nil]
 by_cases h1:worthOf m<worthOf c
 ·rw[Am (by omega),Aj (by omega),Aj h1];rfl
 ·rw[Bf h1,Adw]
  by_cases h2:worthOf m=worthOf c
  ·rw[Aq (by omega),h2,G9,HB]
   by_cases h3:m.length<c.length
   ·rw[Am (by omega),Aj (by omega),Aj h3]
   ·rw[Bf h3]
    by_cases h4:(m.length:Int)=(c.length:Int)
    ·rw[Aq h4]
    ·rw[Am h4];exact Bf (by omega)
  ·rw[Am (by omega),DG.mpr h2,Ib];exact Bf (by omega)
abbrev Ch:=List V×List V
def PrE(H:Hp)(E t:Addr)(c:Ch):Prop:=∃p q,H t=some (.tup [.ref p,.ref q])/\H p=some (.lst c.1)/\H q=some (.lst c.2)/\p≠E/\q≠E
def Pr(H:Hp)(t:Addr)(c:Ch):Prop:=∃p q,H t=some (.tup [.ref p,.ref q])/\H p=some (.lst c.1)/\H q=some (.lst c.2)
theorem Pr.same{H H':Hp}{t:Addr}{c:Ch}(h:Pr H t c)(s:Same H H'):Pr H' t c:=let⟨p,q,a,b,d⟩:=h;⟨p,q,s _ _ a,s _ _ b,s _ _ d⟩
theorem PrE.same{H H':Hp}{E t:Addr}{c:Ch}(h:PrE H E t c)(s:Same H H'):PrE H' E t c:=let⟨p,q,a,b,d,e,f⟩:=h;⟨p,q,s _ _ a,s _ _ b,s _ _ d,e,f⟩
theorem PrE.pr{H:Hp}{E t:Addr}{c:Ch}(h:PrE H E t c):Pr H t c:=let⟨p,q,a,b,d,_⟩:=h;⟨p,q,a,b,d⟩
theorem PrE.upd{H:Hp}{E t:Addr}{c:Ch}{xs ys:List V}(h:PrE H E t c)(e:H E=some (.lst xs)):PrE (upd H E (.lst ys)) E t c:=by
 obtain⟨p,q,a,b,d,h1,h2⟩:=h
 have ht:t≠E:=λz=>by rw[z,e] at a;cases a
 exact⟨p,q,by rw[Cd ht];exact a,by rw[Cd h1];exact b,by rw[Cd h2];exact d,h1,h2⟩
theorem Pr.fresh{H:Hp}{E t:Addr}{c:Ch}(h:Pr H t c)(e:H E=none):PrE H E t c:=by
 obtain⟨p,q,a,b,d⟩:=h
 exact⟨p,q,a,b,d,λz=>by rw[z,e] at b;(cases b),λz=>by rw[z,e] at d;(cases d)⟩
theorem Bnm{K:Frag}{x0 x1 x2 x3 x4:Option V}{H:Hp}{Q:VK}{D:Addr}{ts:List Addr}{cs:List Ch}{tl te:TE}(g:Ch->Ch)
  (hv:∀R:VK,R (.ref D) H->tl [x0,x1,x2,x3,x4,none,none] H R) (hD:H D=some (.lst (ts.map V.ref))) (hp:Paired (Pr H) ts cs) (hz:ts.length<=sizeLine)
  (ht:∀(E t p q:Addr) (c:Ch) (acc:List V) (H':Hp) (R:VK),Same H H'->H' p=some (.lst c.1)->H' q=some (.lst c.2)->p≠E->q≠E->H' E=some (.lst acc)->c∈cs->(∀t' H'',Same H' H''->PrE H'' E t' (g c)->R (.ref t') H'')->te [x0,x1,x2,x3,x4,some (.ref p),some (.ref q)] H' R)
  (hd:∀(E:Addr) (us:List Addr) (H':Hp),Same H H'->H E=none->H' E=some (.lst (us.map V.ref))->Paired (Pr H') us (cs.map g)->Q (.ref E) H'):
  tLc (Jy K tl) (Bdd K 2 (Sy (Ce 5) (Sy (Ce 6) Bdc))) Apd te [5,6] [x0,x1,x2,x3,x4,none,none] H Q:=by
 refine hv _ ⟨D,rfl,⟨_,SqL.of hD⟩,λE hE=>?_⟩
 have hcl:=Paired.length hp
 refine Avx (K:=K) (a:=D) (xs:=ts.map V.ref) (λn H'=>Same H H'/\∃us:List Addr,H' E=some (.lst (us.map V.ref))/\Paired (PrE H' E) us ((cs.take n).map g)) ⟨Av hE,[],Ah,by rw[Fb];exact .nil⟩ (λn H' _ ⟨s,_⟩=>s.seq (SqL.of hD)) ?_ ?_
 ·rintro n x H' hx ⟨s,us,hEl,hu⟩
  rw[Bk] at hx
  obtain⟨t,hn,rfl⟩:∃t,ts[n]?=some t/\V.ref t=x:=J8 hx
  obtain⟨c,hc,hpr⟩:=KZ hp hn
  obtain⟨p,q,h1,h2,h3,h4,h5⟩:=(hpr.fresh hE).same s
  refine⟨t,[.ref p,.ref q],rfl,SqT.of h1,rfl,_,_,rfl,_,_,rfl,rfl,rfl,?_⟩
  dsimp only [Apd]
  rw[Aq rfl]
  refine ht E t p q c _ H' _ s h2 h3 h4 h5 hEl (BX hc) λt' H2 s2 Cey=>?_
  have hE2:=s2 _ _ hEl
  have hul:=Paired.length hu
  rw[Aa,Er] at hul
  have hlt:n<ts.length:=(BL.mp hn).1
  refine⟨_,hE2,by rw[Aa,hul];omega,FZ (s.trans s2) hE,us++[t'],by rw[Ah,Bd];rfl,?_⟩
  rw[take_snoc hc,Bd]
  exact Paired.snoc (Cey.upd hE2) (Paired.up (λa b h=>(h.same s2).upd hE2) hu)
 ·rintro H' ⟨s,us,hEl,hu⟩
  rw[Aa,hcl,DR] at hu
  exact hd E us H' s hE hEl (Paired.up (λa b h=>h.pr) hu)
def Es:Sp:=λvs H Q _=>∃l xs,vs=[.ref l]/\H l=some (.lst xs)/\xs.length<=12/\∀D H' ts,Same H H'->H' D=some (.lst (ts.map V.ref))->Paired (Pr H') ts (RM.chs xs)->Q (.ref D) H'
theorem Alx(T:Txt K mg A):Def P w K mg base 1 "all_choices" Sg Es:=by
 refine Ed T.Aqi Bfo (λvs H Q E h=>?_) (λX e1 e2 e3 e4 e5 c H vs Q E h=>?_)
 ·obtain⟨l,xs,rfl,_⟩:=h;rfl
 ·tm_at"s"
  obtain⟨l,xs,rfl,hl,hz,k⟩:=h
  refine⟨_,Bey T c,?_⟩
  show Aeq X.K A _ [some (.ref l),none,none,none,none,none,none] H
  unfold Aeq
  tm_at"r"
  refine⟨by show 0<=sizeLine;decide,λp0 hp0=>⟨by show 0<=sizeLine;decide,λq0 hq0=>⟨by show 2<=sizeLine;decide,λt0 ht0=>⟨by show 1<=sizeLine;decide,λD0 hD0=>?_⟩⟩⟩⟩
  have hpq:p0≠q0:=λz=>by rw[<-z,Ah] at hq0;cases hq0
  have s1:Same H (upd H p0 (.lst [])):=Av hp0
  have s2:=Av (o:=.lst []) hq0
  have s3:=Av (o:=.tup [.ref p0,.ref q0]) ht0
  have s4:=Av (o:=.lst [.ref t0]) hD0
  unfold Ai9
  tm_at"r"
  have s04:=s1.trans (s2.trans (s3.trans s4))
  refine⟨_,rfl,l,rfl,⟨_,SqL.of (s04 _ _ hl)⟩,JZ (K:=X.K) (a:=l) (xs:=xs) (λi σ H'=>∃v2 v3 v4 D ts,σ=[some (.ref l),some (.ref D),v2,v3,v4,none,none]/\Same H H'/\H' D=some (.lst (ts.map V.ref))/\Paired (Pr H') ts (RM.chs (xs.take i)))
   ⟨none,none,none,D0,[t0],rfl,s04,Ah,by rw[Fb];exact .cons ⟨p0,q0,s4 _ _ Ah,(s2.trans (s3.trans s4)) _ _ Ah,(s3.trans s4) _ _ Ah⟩ .nil⟩ (λi σ H' _ ⟨_,_,_,_,_,_,s,_⟩=>SqL.of (s _ _ hl)) ?turn ?fin⟩
  case turn=>
   rintro i v σ H' hv ⟨v2,v3,v4,D,ts,rfl,s,hD,hp⟩
   have hlen:ts.length<=4096:=by
    rw[Paired.length hp,RM.As2]
    have ht:(xs.take i).length<=12:=by rw[Er];omega
    exact Az (Akv (show 2>0 by decide) ht) (by decide)
   have hi:i<xs.length:=(BL.mp hv).1
   tm_at"r"
   have h5:(5000:Nat)<=sizeLine:=by decide
   have hcl:∀c∈RM.chs (xs.take i),c.1.length<=12/\c.2.length<=12:=λc hc=>by
    have:=RM.Aoc _ c hc
    have h1:=this.1.length_le
    have h2:=this.2.length_le
    rw[Er] at h1 h2
    omega
   refine Bnm (λc=>(c.1,c.2++[v])) (λR q=>⟨_,rfl,q⟩) hD hp (by omega) (λE t p q c acc H2 R s2 h1 h2 h3 h4 hE hc hR=>?_) λE us H2 s2 hE hEl hu=>?_
   ·refine⟨_,rfl,_,rfl,_,rfl,by show 1<=sizeLine;decide,λa ha=>?_⟩
    have hc2:=(hcl c hc).2
    refine⟨q,a,_,_,rfl,rfl,(Av ha) _ _ h2,Ah,?_,λb hb=>⟨by show 2<=sizeLine;decide,λt' ht'=>?_⟩⟩
    ·show c.2.length+1<=_
     have:(100:Nat)<=sizeLine:=by decide
     omega
    have sa:=Av (o:=.lst [v]) ha
    have sb:=Av (o:=.lst (c.2++[v])) hb
    have st:=Av (o:=.tup [.ref p,.ref b]) ht'
    refine hR t' _ (sa.trans (sb.trans st)) ⟨p,b,Ah,(sa.trans (sb.trans st)) _ _ h1,st _ _ Ah,h3,λz=>?_⟩
    rw[z,sa _ _ hE] at hb;cases hb
   ·refine Bnm (λc=>(c.1++[v],c.2)) (λR q=>⟨_,rfl,q⟩) (s2 _ _ hD) (Paired.up (λa b h=>h.same s2) hp) (by omega) (λE' t p q c acc H3 R s3 h1 h2 h3 h4 hE' hc hR=>?_) λE' us' H3 s3 hE' Btz hu'=>?_
    ·refine⟨_,rfl,_,rfl,by show 1<=sizeLine;decide,λa ha=>?_⟩
     have hc2:=(hcl c hc).1
     refine⟨p,a,_,_,rfl,rfl,(Av ha) _ _ h1,Ah,?_,λb hb=>⟨_,rfl,by show 2<=sizeLine;decide,λt' ht'=>?_⟩⟩
     ·show c.1.length+1<=_
      have:(100:Nat)<=sizeLine:=by decide
      omega
     have sa:=Av (o:=.lst [v]) ha
     have sb:=Av (o:=.lst (c.1++[v])) hb
     have st:=Av (o:=.tup [.ref b,.ref q]) ht'
     refine hR t' _ (sa.trans (sb.trans st)) ⟨b,q,Ah,st _ _ Ah,(sa.trans (sb.trans st)) _ _ h2,λz=>?_,h4⟩
     rw[z,sa _ _ hE'] at hb;cases hb
    ·have hul:=Paired.length hu
     have Cdk:=Paired.length hu'
     have hpl:=Paired.length hp
     rw[Aa] at hul Cdk
     refine⟨_,rfl,_,rfl,E,E',_,_,rfl,rfl,s3 _ _ hEl,Btz,?_,λp hp'=>?_⟩
     ·rw[Aa,Aa,hul,Cdk,<-hpl]
      have:(10000:Nat)<=sizeLine:=by decide
      omega
     ·have sp:=Av (o:=.lst (us.map V.ref++us'.map V.ref)) hp'
      refine⟨_,_,_,p,us++us',rfl,s.trans (s2.trans (s3.trans sp)),by rw[Ah,Bd],?_⟩
      rw[take_snoc hv,RM.Aaf]
      exact Paired.app (Paired.up (λa b h=>h.same (s3.trans sp)) hu) (Paired.up (λa b h=>h.same sp) hu')
  case fin=>
   rintro σ H' ⟨v2,v3,v4,D,ts,rfl,s,hD,hp⟩
   rw[DR] at hp
   dsimp only
   unfold Aja
   exact⟨_,rfl,k D H' ts s hD hp⟩
theorem Au9{α β:Type}(f:α->β)(l:List α):RM.chs (l.map f)=(RM.chs l).map λc=>(c.1.map f,c.2.map f):=by
 refine RM.Aon (P:=λl=>RM.chs (l.map f)=(RM.chs l).map λc=>(c.1.map f,c.2.map f)) rfl (λl x ih=>?_) l
 rw[Bd,Bo,Ru,RM.Aaf,RM.Aaf,ih]
 unfold RM.Ato
 simp only [Bd,Df,Bo,Ru]
 congr 1<;>refine Fv λc _=>?_<;>simp only [Ad2,Bd,Bo,Ru]
theorem Ax9{α β:Type}{bt:α->α->Bool}{ok:α->Bool}{bt':β->β->Bool}{ok':β->Bool}(f:α->β)(h1:∀x y,bt' (f x) (f y)=bt x y):∀(L:List α) (e:α),(∀x∈L,ok' (f x)=ok x)->RM.Q9 bt' ok' (L.map f) (f e)=f (RM.Q9 bt ok L e)
 |[],e,_=>rfl
 |c::L,e,h=>by
  unfold RM.Q9
  rw[Bo,J7,J7,h1,h c Bl]
  have ih:=Ax9 (bt:=bt) (ok:=ok) (bt':=bt') (ok':=ok') f h1 L
  unfold RM.Q9 at ih
  have:=ih (if bt e c=false/\ok c=true then c else e) λx hx=>h x (Bh _ hx)
  rw[<-this]
  congr 1
  split<;>rfl
theorem Wh{α:Type}{bt:α->α->Bool}{ok:α->Bool}(L:List α)(c e:α):RM.Q9 bt ok (L++[c]) e=if bt (RM.Q9 bt ok L e) c=false/\ok c=true then c else RM.Q9 bt ok L e:=by
 unfold RM.Q9;rw[Lk];rfl
def bz{α:Type}(e:α->Addr×Item)(x y:List α):Bool:=Aea (its (x.map e)) (its (y.map e))
def FQ(P:Program)(w:World)(K:Frag)(mg:Str->Option Value)(base:Heap)(A:Adr):Sp:=λvs H Q _=>∃(α:Type) (e:α->Addr×Item) (zs:List α) (ok:List α->Bool) (l f:Addr) (g:Str) (b:V) (ps:List Str) (sp:Sp),
 vs=[.ref l,.ref f]/\TLz A H l (zs.map e)/\zs.length<=12/\Ayw H f g b/\Def P w K mg base 6 g ps sp/\
 (∀(cs:List α) (p:Addr) (H':Hp) (R:VK),cs.Sublist zs->Same H H'->H' p=some (.lst (rf (cs.map e)))->(∀H'',Same H' H''->R (.bl (ok cs)) H'')->sp [b,.ref p] H' R E0)/\
 ∀(D:Addr) (H':Hp) (cs:List α),Same H H'->H' D=some (.lst (rf (cs.map e)))->cs.Sublist zs->cs=RM.Q9 (bz e) ok ((RM.chs zs).map (·.1)) []->Q (.ref D) H'
theorem Alz(T:Txt K mg A):Def P w K mg base 8 "best_choice" Sh (FQ P w K mg base A):=by
 refine Ed T.Aql Bfr (λvs H Q E h=>?_) (λX e1 e2 e3 e4 e5 c H vs Q E h=>?_)
 ·obtain⟨α,e,zs,ok,l,f,g,b,ps,sp,rfl,_⟩:=h;rfl
 ·tm_at"s"
  obtain⟨α,e,zs,ok,l,f,g,b,ps,sp,rfl,hl,hz,Bwt,hdef,hok,k⟩:=h
  refine⟨_,Be1 T c (Alx T) (Bxm T),?_⟩
  show Aeu X X.K A _ _ _ [some (.ref l),some (.ref f),none,none,none] H
  unfold Aeu
  tm_at"r"
  refine⟨by show 0<=sizeLine;decide,λD0 hD0=>?_⟩
  have s0:Same H (upd H D0 (.lst [])):=Av hD0
  unfold Aje
  tm_at"r"
  refine⟨_,rfl,l,_,rfl,s0 _ _ hl.1,by rw[Aa,Aa];exact hz,λD H1 ts s1 hD hp=>?_⟩
  have hcm:(zs.map e).map (λz=>V.ref z.1)=zs.map λz=>V.ref (e z).1:=by rw[Df];rfl
  rw[hcm,Au9] at hp
  have hD0:H1 D0=some (.lst (rf (([]:List α).map e))):=s1 _ _ Ah
  refine⟨D,rfl,⟨_,SqL.of hD⟩,JZ (K:=X.K) (a:=D) (xs:=ts.map V.ref) (λi σ H'=>∃v3 v4 p cs,σ=[some (.ref l),some (.ref f),some (.ref p),v3,v4]/\Same H1 H'/\H' p=some (.lst (rf (cs.map e)))/\cs.Sublist zs/\cs=RM.Q9 (bz e) ok (((RM.chs zs).take i).map (·.1)) [])
   ⟨none,none,D0,[],rfl,Same.refl _,hD0,List.nil_sublist _,by rw[Fb];rfl⟩ (λi σ H' _ ⟨_,_,_,_,_,s,_⟩=>SqL.of (s _ _ hD)) ?turn ?fin⟩
  case turn=>
   rintro i v σ H' hv ⟨v3,v4,p,cs,rfl,s,hpl,hcs,hpk⟩
   rw[Bk] at hv
   obtain⟨t,hn,rfl⟩:∃t,ts[i]?=some t/\V.ref t=v:=J8 hv
   obtain⟨c',hc',hpr⟩:=KZ hp hn
   rw[Bk] at hc'
   obtain⟨d,hd,rfl⟩:∃d,(RM.chs zs)[i]?=some d/\(d.1.map (λz=>V.ref (e z).1),d.2.map (λz=>V.ref (e z).1))=c':=by
    cases e':(RM.chs zs)[i]? with
    |none=>rw[e'] at hc';cases hc'
    |some z=>rw[e'] at hc';exact⟨z,rfl,Ae hc'⟩
   obtain⟨a,q,h1,h2,h3⟩:=hpr.same s
   have hds:d.1.Sublist zs:=(RM.Aoc zs d (BX hd)).1
   refine⟨t,[.ref a,.ref q],rfl,SqT.of h1,rfl,_,_,rfl,_,_,rfl,rfl,?_⟩
   tm_at"r"
   have sH:Same H H':=s0.trans (s1.trans s)
   have hth:∀{ys:List α},ys.Sublist zs->∀z∈ys.map e,Gi A H' z.1 z.2:=λhy z hz'=>by
    obtain⟨u,hu,rfl⟩:=Dv.mp hz'
    exact(hl.2 _ (Cw (hy.subset hu))).same sH
   have hlen:∀{ys:List α},ys.Sublist zs->(its (ys.map e)).length<=sizeLine:=λhy=>by
    rw[DK,Aa]
    exact Az (Az hy.length_le hz) (by decide)
   have ha:H' a=some (.lst (rf (d.1.map e))):=by rw[h2];unfold rf;rw[Df];rfl
   refine⟨_,rfl,a,its (d.1.map e),rfl,⟨_,⟨ha,hth hds⟩,rfl⟩,hlen hds,λt1 H2 s2 ht1=>?_⟩
   refine⟨_,rfl,p,its (cs.map e),rfl,⟨_,TLz.same ⟨hpl,hth hcs⟩ s2,rfl⟩,hlen hcs,λt2 H3 s3 ht2=>?_⟩
   refine⟨t1,t2,_,_,rfl,rfl,SqT.of (s3 _ _ ht1),SqT.of ht2,_,rfl,?_⟩
   rw[Buj]
   have hst:((RM.chs zs).take (i+1)).map (·.1)=((RM.chs zs).take i).map (·.1)++[d.1]:=by rw[take_snoc hd,Bd];rfl
   have s23:=s2.trans s3
   cases hb:Aea (its (cs.map e)) (its (d.1.map e)) with
   |true=>
    rw[CK,Am Ac,Am Ac]
    refine⟨_,_,p,cs,rfl,s.trans s23,s23 _ _ hpl,hcs,?_⟩
    rw[hst,Wh,<-hpk]
    have:bz e cs d.1=true:=hb
    rw[this,Am (λh=>Bool.noConfusion h.1)]
   |false=>
    rw[Ck,Aq rfl]
    refine⟨f,rfl,_,rfl,_,g,b,ps,sp,rfl,Bwt.same (sH.trans s23),hdef,?_⟩
    refine hok d.1 a H3 _ hds (sH.trans s23) (s23 _ _ ha) λH4 s4=>⟨_,rfl,?_⟩
    have s24:=s23.trans s4
    have hbz:bz e cs d.1=false:=hb
    cases hk:ok d.1 with
    |true=>
     rw[Aq rfl]
     refine⟨_,rfl,_,_,a,d.1,rfl,s.trans s24,s24 _ _ ha,hds,?_⟩
     rw[hst,Wh,<-hpk,hbz,hk,Aq ⟨rfl,rfl⟩]
    |false=>
     rw[Am Ac]
     refine⟨_,_,p,cs,rfl,s.trans s24,s24 _ _ hpl,hcs,?_⟩
     rw[hst,Wh,<-hpk,hbz,hk,Am (λh=>Bool.noConfusion h.2)]
  case fin=>
   rintro σ H' ⟨v3,v4,p,cs,rfl,s,hpl,hcs,hpk⟩
   have e1:ts.length=(RM.chs zs).length:=by rw[Paired.length hp,Aa]
   rw[Aa,e1,DR] at hpk
   dsimp only
   unfold Ajf
   exact⟨_,rfl,k p H' cs (s0.trans (s1.trans s)) hpl hcs hpk⟩
def El(A:Adr):Sp:=λvs H Q _=>∃b l a B zs x,vs=[.ref b,.ref l,.ref a]/\Ja A H b B/\TLz A H l zs/\Gi A H a x/\Fit (x::its zs)/\RM.ND (its zs)/\(Qi x (its zs)).length<=12/\RM.Xv B x (its zs)=true/\
 ∀D H' ys,Same H H'->TL A H' D ys->ys.length<=12->Ba4 B x (its zs)=some ys->Q (.ref D) H'
theorem Atg(T:Txt K mg A):Def P w K mg base 4 "cheapest_choice" Q6 (El A):=by
 refine Ed T.Acl Auz (λvs H Q E h=>?_) (λX e1 e2 e3 e4 e5 c H vs Q E h=>?_)
 ·obtain⟨b,l,a,B,zs,x,rfl,_⟩:=h;rfl
 ·tm_at"s"
  obtain⟨b,l,a,B,zs,x,rfl,hb,hl,hx,hf,hnd,h12,htk,k⟩:=h
  refine⟨_,Ats T c (Alx T) (SM T) (Ax6 T) (Ahc T) (Bzy T),?_⟩
  show Vo X.K A _ _ _ _ _ _ [some (.ref b),some (.ref l),some (.ref a),none,none,none,none,none] H
  unfold Vo
  tm_at"r"
  have hzl:zs.length<=5000:=by have:=hf.1;rw[Ay,DK] at this;omega
  have hzs:zs.length<=sizeLine:=Az hzl (by decide)
  refine⟨_,rfl,_,rfl,l,a,zs,x,rfl,hl,hx,hzs,λM H1 s1 hM hm=>?_⟩
  refine⟨M,_,rfl,SqL.of hm.1,λWd hW=>?_⟩
  have sW:=s1.trans (Av (o:=.lst (rf (zs.filter λz=>stronger x z.2&&!z.2.bound)).reverse) hW)
  generalize hws:(zs.filter λz=>stronger x z.2&&!z.2.bound).reverse=ws
  have hwi:its ws=Qi x (its zs):=by
   rw[<-hws]
   unfold its Qi
   rw[O3]
   exact congrArg At6 (TX (λy=>stronger x y&&!y.bound) zs)
  have hwl:ws.length<=12:=by rw[<-DK,hwi];exact h12
  have hwm:∀z∈ws,z∈zs:=λz hz=>by rw[<-hws] at hz;exact(DP.mp (KQ.mp hz)).1
  rw[<-O3,hws] at sW|-
  have hWl:(upd H1 Wd (.lst (ws.map λz=>V.ref z.1))) Wd=some (.lst (rf ws)):=Ah
  generalize upd H1 Wd (.lst (ws.map λz=>V.ref z.1))=H2 at sW hWl|-
  unfold YQ
  tm_at"r"
  refine⟨_,rfl,_,rfl,l,a,zs,x,rfl,hl.same sW,hx.same sW,hzs,λN H3 s3 hN hn=>⟨_,rfl,by show 1<=sizeLine;decide,λp hp=>?_⟩⟩
  have hnl:=CQ (λz:Addr×Item=>!(stronger x z.2&&!z.2.bound)) zs
  refine⟨N,p,_,[.ref a],rfl,rfl,(Av hp) _ _ hn.1,Ah,?_,λq hq=>?_⟩
  ·rw[Aa]
   have:=big5
   show _+1<=_
   omega
  have s4:=(Av (o:=.lst [.ref a]) hp).trans (Av (o:=.lst (rf (zs.filter λz=>!(stronger x z.2&&!z.2.bound))++[.ref a])) hq)
  have s04:=sW.trans (s3.trans s4)
  generalize hss:(zs.filter λz=>!(stronger x z.2&&!z.2.bound))++[(a,x)]=ss
  have hsi:its ss=RM.ng x (its zs)++[x]:=by rw[<-hss,Nj,Bj6];rfl
  have hsm:∀z∈ss,z∈zs\/z=(a,x):=λz hz=>by
   rw[<-hss] at hz
   rcases Bw.mp hz with h|h
   ·exact .inl (DP.mp h).1
   ·exact .inr (Bj.mp h)
  have hsq:(upd (upd H3 p (.lst [.ref a])) q (.lst (rf (zs.filter λz=>!(stronger x z.2&&!z.2.bound))++[.ref a]))) q=some (.lst (rf ss)):=by rw[Ah,<-hss,Aoo]
  have hW4:=(s3.trans s4) _ _ hWl
  generalize upd (upd H3 p (.lst [.ref a])) q (.lst (rf (zs.filter λz=>!(stronger x z.2&&!z.2.bound))++[.ref a]))=H4 at s04 hsq hW4|-
  have hsl:ss.length<=zs.length+1:=by rw[<-hss,Bg];show _+1<=_;omega
  unfold YS
  tm_at"r"
  refine⟨_,rfl,?_⟩
  unfold YT
  tm_at"r"
  refine⟨_,rfl,Wd,_,rfl,hW4,by rw[Aa];exact hwl,λD H5 ts s5 hD hp'=>?_⟩
  rw[Au9] at hp'
  have s05:=s04.trans s5
  have Cdh:=RM.Aqd hnd htk
  refine⟨D,rfl,⟨_,SqL.of hD⟩,JZ (K:=X.K) (a:=D) (xs:=ts.map V.ref) (λi σ H'=>∃v6 v7 p cs,σ=[some (.ref b),some (.ref l),some (.ref a),some (.ref Wd),some (.ref q),some (.ref p),v6,v7]/\Same H5 H'/\H' p=some (.lst (rf cs))/\cs.Sublist ws/\its cs=RM.Q9 Aad (λg=>fits B (x::minus (its zs) g)) (((RM.chs (its ws)).take i).map (·.1)) (its ws))
   ⟨none,none,Wd,ws,rfl,Same.refl _,s5 _ _ hW4,At3 _,by rw[Fb];rfl⟩ (λi σ H' _ ⟨_,_,_,_,_,s,_⟩=>SqL.of (s _ _ hD)) ?turn ?fin⟩
  case turn=>
   rintro i v σ H' hv ⟨v6,v7,p',cs,rfl,s,hpl,hcs,hpk⟩
   rw[Bk] at hv
   obtain⟨t,hn',rfl⟩:∃t,ts[i]?=some t/\V.ref t=v:=J8 hv
   obtain⟨c',hc',hpr⟩:=KZ hp' hn'
   rw[Bk] at hc'
   obtain⟨d,hd,rfl⟩:∃d,(RM.chs ws)[i]?=some d/\(rf d.1,rf d.2)=c':=by
    cases e':(RM.chs ws)[i]? with
    |none=>rw[e'] at hc';cases hc'
    |some z=>rw[e'] at hc';exact⟨z,rfl,Ae hc'⟩
   obtain⟨a',q',h1,h2,h3⟩:=hpr.same s
   have hds:=RM.Aoc ws d (BX hd)
   have hdi:(RM.chs (its ws))[i]?=some (its d.1,its d.2):=by
    unfold its
    rw[Au9,Bk,hd];rfl
   refine⟨t,[.ref a',.ref q'],rfl,SqT.of h1,rfl,_,_,rfl,_,_,rfl,rfl,?_⟩
   tm_at"r"
   have sH:Same H H':=s05.trans s
   have hth:∀{ys:Zs},ys.Sublist ws->∀z∈ys,Gi A H' z.1 z.2:=λhy z hz'=>(hl.2 _ (hwm z (hy.subset hz'))).same sH
   have hlen:∀{ys:Zs},ys.Sublist ws->(its ys).length<=sizeLine:=λhy=>by
    rw[DK]
    exact Az (Az hy.length_le hwl) (by decide)
   refine⟨_,rfl,a',its d.1,rfl,⟨_,⟨h2,hth hds.1⟩,rfl⟩,hlen hds.1,λt1 H6 s6 ht1=>?_⟩
   refine⟨_,rfl,p',its cs,rfl,⟨_,TLz.same ⟨hpl,hth hcs⟩ s6,rfl⟩,hlen hcs,λt2 H7 s7 ht2=>?_⟩
   refine⟨t1,t2,_,_,rfl,rfl,SqT.of (s7 _ _ ht1),SqT.of ht2,_,rfl,?_⟩
   rw[Bv7]
   have hst:((RM.chs (its ws)).take (i+1)).map (·.1)=((RM.chs (its ws)).take i).map (·.1)++[its d.1]:=by rw[take_snoc hdi,Bd];rfl
   have s67:=s6.trans s7
   cases hbt:Aad (its cs) (its d.1) with
   |true=>
    rw[CK,Am Ac,Am Ac]
    refine⟨_,_,p',cs,rfl,s.trans s67,s67 _ _ hpl,hcs,?_⟩
    rw[hst,Wh,<-hpk,hbt,Am (λh=>Bool.noConfusion h.1)]
   |false=>
    rw[Ck,Aq rfl]
    have hd2:d.2.length<=12:=Az hds.2.length_le hwl
    refine⟨_,rfl,_,rfl,_,rfl,q,q',rf ss,rf d.2,rfl,rfl,(s5.trans (s.trans s67)) _ _ hsq,s67 _ _ h3,?_,λr hr=>?_⟩
    ·rw[Aa,Aa]
     have:(6000:Nat)<sizeLine:=by decide
     omega
    have s8:=Av (o:=.lst (rf ss++rf d.2)) hr
    have s08:=sH.trans (s67.trans s8)
    have Cdg:=RM.Bub (x:=x) hnd (d:=(its d.1,its d.2)) (by rw[<-hwi];exact BX hdi)
    have hsum:its (ss++d.2)=RM.ng x (its zs)++[x]++its d.2:=by rw[Nj,hsi]
    refine⟨b,r,B,its (ss++d.2),rfl,hb.same s08,⟨ss++d.2,⟨by rw[Ah,Bd],λz hz=>?_⟩,rfl⟩,Bjq hf (λy hy=>?_) ?_,λH8 s9=>⟨_,rfl,?_⟩⟩
    ·rcases Bw.mp hz with hz|hz
     ·rcases hsm z hz with h|h
      ·exact(hl.2 z h).same s08
      ·rw[h];exact hx.same s08
     ·exact(hl.2 z (hwm z (hds.2.subset hz))).same s08
    ·obtain⟨z,hz,rfl⟩:=U8 hy
     rcases Bw.mp hz with hz|hz
     ·rcases hsm z hz with h|h
      ·exact .inr (Rz h)
      ·rw[h];exact .inl rfl
     ·exact .inr (Rz (hwm z (hds.2.subset hz)))
    ·rw[hsum]
     rw[<-Cdg.length_eq,Ay]
     exact Afk (RM.JR (its zs) (its d.1)).length_le
    ·rw[hsum,<-RM.QJ B Cdg]
     have s69:=s67.trans (s8.trans s9)
     cases hk:fits B (x::minus (its zs) (its d.1)) with
     |true=>
      rw[Aq rfl]
      refine⟨_,rfl,_,_,a',d.1,rfl,s.trans s69,s69 _ _ h2,hds.1,?_⟩
      rw[hst,Wh,<-hpk,hbt,hk,Aq ⟨rfl,rfl⟩]
     |false=>
      rw[Am Ac]
      refine⟨_,_,p',cs,rfl,s.trans s69,s69 _ _ hpl,hcs,?_⟩
      rw[hst,Wh,<-hpk,hbt,hk,Am (λh=>Bool.noConfusion h.2)]
  case fin=>
   rintro σ H' ⟨v6,v7,p',cs,rfl,s,hpl,hcs,hpk⟩
   have e1:ts.length=(RM.chs (its ws)).length:=by rw[Paired.length hp',Aa,RM.As2,RM.As2,DK]
   rw[Aa,e1,DR,hwi] at hpk
   dsimp only
   unfold YW
   refine⟨_,rfl,k p' H' (its cs) (s05.trans s) ⟨cs,⟨hpl,λz hz=>(hl.2 z (hwm z (hcs.subset hz))).same (s05.trans s)⟩,rfl⟩ (by rw[DK];exact Az hcs.length_le hwl) ?_⟩
   rw[Cdh,hpk]
theorem Brm(p:Nat->Bool):∀(n i:Nat),i<n->p (n-1-i)=true->(∀j,j<i->p (n-1-j)=false)->(FJ n).reverse.find? p=some (n-1-i)
 |0,i,h,_,_=>absurd h (Bau _)
 |n+1,i,h,hp,hn=>by
  rw[S5,Oq,List.reverse_singleton,List.singleton_append,Kz]
  cases i with
  |zero=>
   have:p n=true:=hp
   rw[this];rfl
  |succ i=>
   have h0:p n=false:=hn 0 (by omega)
   rw[h0]
   dsimp only
   have e:n+1-1-(i+1)=n-1-i:=by omega
   rw[e] at hp|-
   refine Brm p n i (by omega) hp λj hj=>?_
   have:=hn (j+1) (by omega)
   rw[show n+1-1-(j+1)=n-1-j by omega] at this
   exact this
theorem fd_none(p:Nat->Bool)(n:Nat)(hn:∀j,j<n->p (n-1-j)=false):(FJ n).reverse.find? p=none:=by
 rw[List.find?_eq_none]
 intro x hx
 have:=O4.mp (KQ.mp hx)
 have h:=hn (n-1-x) (by omega)
 rw[show n-1-(n-1-x)=x by omega] at h
 rw[h];exact Ac
def none_of(r e d:Nat)(s:Nat):Item:=⟨1000,s,r,e,d,0,false,false⟩
def Ir(A:Adr):Sp:=λvs H Q _=>∃b l r e d B zs,vs=[.ref b,.ref l,.int (r:Nat),.int (e:Nat),.int (d:Nat)]/\Ja A H b B/\TLz A H l zs/\Fit (its zs)/\zs.length<5000/\r<10/\d<8/\RM.ND (its zs)/\
 ∀H',Same H H'->Q (.int (Td B (none_of r e d 1) (its zs):Nat)) H'
theorem Ax4(T:Txt K mg A):Def P w K mg base 4 "greatest_size" S9 (Ir A):=by
 refine Ed T.Ai0 Ba1 (λvs H Q E h=>?_) (λX e1 e2 e3 e4 e5 c H vs Q E h=>?_)
 ·obtain⟨b,l,r,e,d,B,zs,rfl,_⟩:=h;rfl
 ·tm_at"s"
  obtain⟨b,l,r,e,d,B,zs,rfl,hb,hl,hf,hz,hr,hd,hnd,k⟩:=h
  refine⟨_,Ayl T c (SM T) (Ahc T) (Xz T),?_⟩
  show Ys X.K A _ _ _ _ [some (.ref b),some (.ref l),some (.int (r:Nat)),some (.int (e:Nat)),some (.int (d:Nat)),none,none] H
  unfold Ys
  tm_at"r"
  have hzs:zs.length<=sizeLine:=Az (Jr hz) (by decide)
  refine⟨_,rfl,_,rfl,_,rfl,_,rfl,by show 6<=sizeLine;decide,λp hp=>Vb (x:=none_of r e d 50) Ah rfl rfl λa H2 s2 ha h2=>?_⟩
  have s02:=(Av (o:=.lst [.int 1000,.int 50,.int (r:Nat),.int (e:Nat),.int (d:Nat),.int 0]) hp).trans s2
  refine⟨l,a,zs,none_of r e d 50,rfl,hl.same s02,h2,hzs,λM H3 s3 hM hm=>?_⟩
  have s03:=s02.trans s3
  have hng:its (zs.filter λz=>!(stronger (none_of r e d 50) z.2&&!z.2.bound))=RM.ng (none_of r e d 1) (its zs):=TX (λy=>!(stronger (none_of r e d 1) y&&!y.bound)) zs
  have hml:=CQ (λz:Addr×Item=>!(stronger (none_of r e d 50) z.2&&!z.2.bound)) zs
  generalize hms:(zs.filter λz=>!(stronger (none_of r e d 50) z.2&&!z.2.bound))=ms at hm hng hml
  have hmm:∀z∈ms,z∈zs:=λz hz=>by rw[<-hms] at hz;exact(DP.mp hz).1
  have hcode:Td B (none_of r e d 1) (its zs)=((FJ 50).reverse.find? λi=>fits B (RM.ng (none_of r e d 1) (its zs)++[none_of r e d (i+1)])).elim 0 λi=>i+1:=RM.Bge hnd
  unfold Ac8
  tm_at"r"
  refine⟨_,rfl,50,0, -1,_,rfl,RgC.neg (by decide) (by decide) (by decide) (by decide),?_⟩
  show∃W:Nat->Nat->L2.St->Hp->Prop,_
  refine Bpq (lo:=50) (c:= -1) (n:=50) (λi σ H'=>∃v,σ=[some (.ref b),some (.ref l),some (.int (r:Nat)),some (.int (e:Nat)),some (.int (d:Nat)),some (.ref M),v]/\Same H3 H'/\∀j,j<i->fits B (RM.ng (none_of r e d 1) (its zs)++[none_of r e d (50-1-j+1)])=false)
   ⟨none,rfl,Same.refl _,λj hj=>absurd hj (Bau _)⟩ ?turn ?fin
  case turn=>
   rintro i σ H' hi ⟨v,rfl,s,hno⟩
   tm_at"r"
   have esz:(50:Int)+(i:Nat)* -1=((50-1-i+1:Nat):Int):=by omega
   rw[esz]
   refine⟨_,rfl,_,rfl,_,rfl,_,rfl,_,rfl,_,rfl,by show 6<=sizeLine;decide,λp2 hp2=>Vb (x:=none_of r e d (50-1-i+1)) Ah rfl rfl λa2 H5 s5 ha2 h5=>?_⟩
   refine⟨by show 1<=sizeLine;decide,λq hq=>?_⟩
   have s45:=(Av (o:=.lst [.int 1000,.int ((50-1-i+1:Nat):Int),.int (r:Nat),.int (e:Nat),.int (d:Nat),.int 0]) hp2).trans (s5.trans (Av (o:=.lst [.ref a2]) hq))
   refine⟨M,q,rf ms,[.ref a2],rfl,rfl,s45 _ _ (s _ _ hm.1),Ah,?_,λu hu=>?_⟩
   ·rw[Aa]
    have:=big5
    show _+1<=_
    omega
   have s46:=s45.trans (Av (o:=.lst (rf ms++[.ref a2])) hu)
   have s56:=(Av (o:=.lst [.ref a2]) hq).trans (Av (o:=.lst (rf ms++[.ref a2])) hu)
   refine⟨b,u,B,its (ms++[(a2,none_of r e d (50-1-i+1))]),rfl,hb.same (s03.trans (s.trans s46)),⟨_,⟨by rw[Ah,Bd];rfl,λz hz'=>?_⟩,rfl⟩,⟨by rw[DK,Bg];show _+1<=_;omega,λy hy=>?_⟩,λH7 s7=>⟨_,rfl,?_⟩⟩
   ·rcases Bw.mp hz' with q'|q'
    ·exact(hl.2 z (hmm z q')).same (s03.trans (s.trans s46))
    ·rw[Bj.mp q'];exact h5.same s56
   ·obtain⟨z,hz',rfl⟩:=U8 hy
    rcases Bw.mp hz' with q'|q'
    ·exact hf.2 _ (Rz (hmm z q'))
    ·rw[Bj.mp q'];exact⟨hr,hd⟩
   ·have hi2:its (ms++[(a2,none_of r e d (50-1-i+1))])=RM.ng (none_of r e d 1) (its zs)++[none_of r e d (50-1-i+1)]:=by rw[Nj,hng];rfl
    rw[hi2]
    cases hfit:fits B (RM.ng (none_of r e d 1) (its zs)++[none_of r e d (50-1-i+1)]) with
    |true=>
     rw[Aq rfl]
     refine⟨_,rfl,?_⟩
     have h8:=k H7 (s03.trans (s.trans (s46.trans s7)))
     have e9:Td B (none_of r e d 1) (its zs)=50-1-i+1:=by
      rw[hcode,Brm (λi=>fits B (RM.ng (none_of r e d 1) (its zs)++[none_of r e d (i+1)])) 50 i hi hfit hno];rfl
     rw[e9] at h8
     exact h8
    |false=>
     rw[Am Ac]
     refine⟨_,rfl,s.trans (s46.trans s7),λj hj=>?_⟩
     by_cases e:j=i
     ·rw[e];exact hfit
     ·exact hno j (by omega)
  case fin=>
   rintro σ H' ⟨v,rfl,s,hno⟩
   dsimp only
   unfold Ac9
   have h8:=k H' (s03.trans s)
   have e9:Td B (none_of r e d 1) (its zs)=0:=by
    rw[hcode,fd_none (λi=>fits B (RM.ng (none_of r e d 1) (its zs)++[none_of r e d (i+1)])) 50 hno];rfl
   rw[e9] at h8
   exact h8
def IV:Sp:=λvs H Q _=>∃a b:Nat,vs=[.int a,.int b]/\Q (.int (Y4 a b:Nat)) H
theorem Ao9(T:Txt K mg A):Def P w K mg base 1 "greatest_divisor" Qa IV:=by
 refine Ed T.Aah Ass (λvs H Q E h=>?_) (λX e1 e2 e3 e4 e5 c H vs Q E h=>?_)
 ·obtain⟨a,b,rfl,_⟩:=h;rfl
 ·tm_at"s"
  obtain⟨a,b,rfl,k⟩:=h
  refine⟨_,Apf T c,?_⟩
  show T5 X.K A _ [some (.int (a:Nat)),some (.int (b:Nat)),none] H
  unfold T5
  tm_at"r"
  refine⟨λm σ H'=>∃a' b' v,m=b'/\σ=[some (.int (a':Nat)),some (.int (b':Nat)),v]/\H'=H/\Y4 a' b'=Y4 a b,⟨b,a,b,none,rfl,rfl,rfl,rfl⟩,?_⟩
  rintro m σ H' ⟨a',b',v,rfl,rfl,rfl,hg⟩
  refine⟨_,rfl,_,_,rfl,rfl,_,rfl,?_⟩
  dsimp only
  by_cases h0:0<m
  ·rw[Aq (Aj (by omega))]
   refine⟨λσ' H''=>∃m',m'<m/\∃a' b' v,m'=b'/\σ'=[some (.int (a':Nat)),some (.int (b':Nat)),v]/\H''=H'/\Y4 a' b'=Y4 a b,λσ' H'' h=>h,?_⟩
   refine⟨_,rfl,_,rfl,_,_,rfl,rfl,by omega,_,rfl,_,rfl,?_⟩
   exact⟨a'%m,Nat.mod_lt _ h0,m,a'%m,_,rfl,rfl,rfl,by rw[<-hg,Nat.gcd_comm m,<-Nat.gcd_rec,Nat.gcd_comm]⟩
  ·rw[Am (by simp only [Cj];omega)]
   have e0:m=0:=by omega
   subst e0
   unfold XF
   refine⟨_,rfl,?_⟩
   rw[Nat.gcd_zero_right] at hg
   rw[hg];exact k
def Hv:Sp:=λvs H Q _=>∃a b:Nat,vs=[.int a,.int b]/\0<b/\b<1000000/\∀t H',Same H H'->H' t=some (.tup [.int (Ap5 (a:Int) b).num,.int ((Ap5 (a:Int) b).den:Nat)])->Q (.ref t) H'
theorem Bbd(T:Txt K mg A):Def P w K mg base 2 "lowest_terms" Ux Hv:=by
 refine Ed T.Alf Bco (λvs H Q E h=>?_) (λX e1 e2 e3 e4 e5 c H vs Q E h=>?_)
 ·obtain⟨a,b,rfl,_⟩:=h;rfl
 ·tm_at"s"
  obtain⟨a,b,rfl,hb0,hb,k⟩:=h
  refine⟨_,Bbk T c (Ao9 T),?_⟩
  show Aa7 X.K A _ _ [some (.int (a:Nat)),some (.int (b:Nat)),none] H
  unfold Aa7
  tm_at"r"
  have hg0:0<Y4 a b:=Ad5 a hb0
  have hgb:Y4 a b<=b:=Nat.gcd_le_right a hb0
  refine⟨_,rfl,_,rfl,a,b,rfl,?_⟩
  unfold Af3
  tm_at"r"
  refine⟨_,rfl,_,rfl,_,_,rfl,rfl,⟨by omega,by omega⟩,_,rfl,_,rfl,_,_,rfl,rfl,⟨by omega,by omega⟩,by show 2<=sizeLine;decide,λt ht=>k t _ (Av ht) ?_⟩
  rw[Ah]
  unfold Ap5
  rw[Am (by omega)]
  rfl
def Ba(A:Adr):Sp:=λvs H Q _=>∃l xs,vs=[.ref l]/\TL A H l xs/\xs.length<=20000/\∀D H',Same H H'->H D=none->H' D=some (.lst (((worthOf xs:Int)::numbersRow xs).map V.int))->Q (.ref D) H'
theorem Iz(xs:List Item):(numbersRow xs).length=xs.length+1:=by
 unfold numbersRow Ak3 Hl Bcv
 rw[Ay,Aa,Aa]
theorem La(T:Txt K mg A):Def P w K mg base 2 "tell_worth_and_things" Hy (Ba A):=by
 refine Ed T.Ud Afo (λvs H Q E h=>?_) (λX e1 e2 e3 e4 e5 c H vs Q E h=>?_)
 ·obtain⟨l,xs,rfl,_⟩:=h;rfl
 ·tm_at"s"
  obtain⟨l,xs,rfl,hl,hz,k⟩:=h
  refine⟨_,Ae9 T c (Jd T) (Ve T),?_⟩
  show Pq X.K A _ _ _ [some (.ref l)] H
  unfold Pq
  tm_at"r"
  refine⟨_,rfl,l,xs,rfl,hl,Az hz (by decide),λH1 s1=>⟨by show 1<=sizeLine;decide,λp hp=>?_⟩⟩
  have sp:=Av (o:=.lst [V.int (worthOf xs:Nat)]) hp
  refine⟨_,rfl,l,xs,rfl,(hl.same s1).same sp,CJ hz (by decide),λD H2 s2 hD h2=>?_⟩
  refine⟨p,D,_,_,rfl,rfl,s2 _ _ Ah,h2,?_,λq hq=>?_⟩
  ·rw[Aa,Iz]
   have:(30000:Nat)<sizeLine:=by decide
   show 1+_<=_
   omega
  ·exact k q _ (s1.trans (sp.trans (s2.trans (Av hq)))) (s1.free (sp.free (s2.free hq))) (by rw[Ah];rfl)
def Q8(l:List Nat):List Int:=l.map λ(n:Nat)=>(n:Int)
def Bbo(l:List Nat):Nat:=l.foldr Bbp 0
theorem Bll:∀(l:List Nat) (x:Nat),x∈l->x<=Bbo l
 |y::l,x,h=>by
  show x<=Bbp y (Bbo l)
  rcases BP.mp h with rfl|h
  ·exact Nat.le_max_left _ _
  ·exact Az (Bll l x h) (Nat.le_max_right _ _)
theorem Bta:∀(l:List Nat) (m:Nat),(∀x∈l,x<=m)->Bbo l<=m
 |[],m,_=>Hh _
 |y::l,m,h=>Nat.max_le.mpr ⟨h y Bl,Bta l m λx hx=>h x (Bh _ hx)⟩
theorem Bo2:∀(l:List Nat),l≠[]->Bbo l∈l
 |[],h=>absurd rfl h
 |y::l,_=>by
  show Bbp y (Bbo l)∈_
  by_cases h:Bbo l<=y
  ·rw[show Bbp y (Bbo l)=y from Nat.max_eq_left h];exact Bl
  ·rw[show Bbp y (Bbo l)=Bbo l from Nat.max_eq_right (by omega)]
   refine Bh _ (Bo2 l λe=>?_)
   subst e
   exact h (Hh _)
def Aq0(room:Nat)(l:List Nat):Nat×Nat:=(RM.cm (Aeb l) room l.length).getD (Bbo l,1)
theorem Bqd{l:List Nat}{ns:List Int}(h:ns.Perm (Q8 l)):∃S:List Nat,S.Perm l/\ns=Q8 S:=Bej h
def Hw:Sp:=λvs H Q _=>∃(room:Nat) (l:Addr) (ns:List Nat),vs=[.int room,.ref l]/\H l=some (.lst ((Q8 ns).map V.int))/\ns≠[]/\ns.length<=8/\(∀x∈ns,x<=1000)/\
 ∀t H',Same H H'->H' t=some (.tup [.int (Aq0 room ns).1,.int (Aq0 room ns).2])->Q (.ref t) H'
theorem Bbe(T:Txt K mg A):Def P w K mg base 1 "most_for_one" Uy Hw:=by
 refine Ed T.Alh Bcp (λvs H Q E h=>?_) (λX e1 e2 e3 e4 e5 c H vs Q E h=>?_)
 ·obtain⟨room,l,ns,rfl,_⟩:=h;rfl
 ·tm_at"s"
  obtain⟨room,l,ns,rfl,hl,hne,hz,hns,k⟩:=h
  refine⟨_,Bbl T c,?_⟩
  show Aa8 X.K A _ [some (.int room),some (.ref l),none,none,none] H
  unfold Aa8
  tm_at"r"
  refine⟨_,rfl,?_⟩
  unfold Af4
  tm_at"r"
  have hnl:((Q8 ns).map V.int).length=ns.length:=by unfold Q8;rw[Aa,Aa]
  refine⟨_,rfl,l,_,rfl,.inl (SqL.of hl),?_⟩
  rw[hnl]
  unfold Af5
  tm_at"r"
  refine⟨_,rfl,l,Q8 ns,rfl,SqL.of hl,by unfold Q8;rw[Aa];omega,λns' D hp hs hD=>?_⟩
  obtain⟨S,hpS,rfl⟩:=Bqd hp
  have hri:RM.Bfm S:=by
   unfold Q8 at hs
   rw[JK] at hs
   exact hs.imp λ{a b} h=>by omega
  have hSe:Aeb ns=S:=RM.Bae ((RM.Ke _ ns).trans hpS.symm) (RM.Ans ns) hri
  have hSl:S.length=ns.length:=hpS.length_eq
  have s0:Same H (upd H D (.lst ((Q8 S).map V.int))):=Av hD
  refine⟨D,rfl,⟨_,SqL.of Ah⟩,JZ (K:=X.K) (a:=D) (xs:=(Q8 S).map V.int) (λi σ H'=>∃(v:Option V) (left:Nat),σ=[some (.int room),some (.ref l),some (.int (left:Nat)),some (.int ((ns.length-i:Nat):Int)),v]/\H'=upd H D (.lst ((Q8 S).map V.int))/\left<=room/\RM.cm (S.drop i) left (ns.length-i)=RM.cm S room ns.length)
   ⟨none,room,rfl,rfl,Bu _,rfl⟩ (λi σ H' _ ⟨_,_,_,e,_⟩=>by rw[e];exact SqL.of Ah) ?turn ?fin⟩
  case turn=>
   rintro i v σ H' hv ⟨v4,left,rfl,rfl,hle,hcm⟩
   unfold Q8 at hv
   rw[Bk,Bk] at hv
   obtain⟨d,hn,rfl⟩:∃d,S[i]?=some d/\V.int (d:Nat)=v:=by
    cases e:S[i]? with
    |none=>rw[e] at hv;cases hv
    |some z=>rw[e] at hv;exact⟨z,rfl,Ae hv⟩
   have hil:i<S.length:=(BL.mp hn).1
   have hdr:S.drop i=d::S.drop (i+1):=by
    rw[EY hil]
    congr 1
    exact Ae ((CP hil).symm.trans hn)
   have hd:d<=1000:=hns d (hpS.mem_iff.mp (BX hn))
   rw[hdr] at hcm
   replace hcm:(if left<=d*(ns.length-i) then some (left,ns.length-i) else RM.cm (S.drop (i+1)) (left-d) (ns.length-i-1))=RM.cm S room ns.length:=hcm
   tm_at"r"
   refine⟨_,rfl,_,rfl,_,_,rfl,rfl,.inl ⟨by omega,by omega⟩,_,rfl,_,_,rfl,rfl,_,rfl,?_⟩
   have Cem:(d:Int)*((ns.length-i:Nat):Int)=((d*(ns.length-i):Nat):Int):=by rw[Nr]
   rw[Cem]
   by_cases hc:left<=d*(ns.length-i)
   ·rw[Aq (Aj (Y0.mpr hc))]
    rw[Aq hc] at hcm
    refine⟨_,rfl,_,rfl,by show 2<=sizeLine;decide,λt ht=>k t _ (s0.trans (Av ht)) ?_⟩
    rw[Ah]
    unfold Aq0
    rw[hSe,<-hcm];rfl
   ·rw[Am (by simp only [Cj];exact λq=>hc (Y0.mp q))]
    rw[Am hc] at hcm
    have hdl:d<=left:=by
     have:d*1<=d*(ns.length-i):=Ao2 _ (by omega)
     omega
    refine⟨_,rfl,_,rfl,_,_,rfl,rfl,_,rfl,_,_,rfl,rfl,?_⟩
    refine⟨some (.int (d:Nat)),left-d,?_,rfl,by omega,?_⟩
    ·rw[show((left-d:Nat):Int)=(left:Int)-(d:Int) by omega,show((ns.length-(i+1):Nat):Int)=((ns.length-i:Nat):Int)-1 by omega]
     rfl
    ·rw[show ns.length-(i+1)=ns.length-i-1 by omega]
     exact hcm
  case fin=>
   rintro σ H' ⟨v4,left,rfl,rfl,hle,hcm⟩
   have e1:((Q8 S).map V.int).length=S.length:=by unfold Q8;rw[Aa,Aa]
   rw[e1,O2] at hcm
   dsimp only
   unfold Af6
   tm_at"r"
   refine⟨_,rfl,l,Q8 ns,rfl,SqL.of (s0 _ _ hl),by unfold Q8;rw[Aa];exact Ao1.mpr hne,λm hm hmx=>⟨by show 2<=sizeLine;decide,λt ht=>k t _ (s0.trans (Av ht)) ?_⟩⟩
   unfold Q8 at hm hmx
   obtain⟨m',hm',rfl⟩:=Dv.mp hm
   have em:m'=Bbo ns:=Bat (Bll ns m' hm') (Bta ns m' λx hx=>by
    have:=hmx x (Cw hx)
    omega)
   rw[Ah]
   unfold Aq0
   rw[hSe,<-hcm,em];rfl
theorem Buk{room:Nat}{l:List Nat}(h:l.length<=8):0<(Aq0 room l).2/\(Aq0 room l).2<=8:=by
 unfold Aq0
 cases e:RM.cm (Aeb l) room l.length with
 |none=>exact⟨Nat.one_pos,by show 1<=8;decide⟩
 |some p=>
  have:=RM.Bv6 _ _ _ p (PN ((RM.Ke _ l).length_eq)) e
  exact⟨this.1,Az this.2.1 h⟩
theorem Btu(room:Nat)(l:List Nat)(h:l≠[]):Xo room l=l.map (RM.Pb (Aq0 room l).1 (Aq0 room l).2):=
 RM.Btt room l (Aeb l) (RM.Ke _ l) (RM.Ans l) (Bbo l) (Bll l) (Bo2 l h)
def Byr(H:Hp)(D:Addr)(fs:List Jl):Prop:=∃ts:List Addr,H D=some (.lst (ts.map V.ref))/\Paired (λt (f:Jl)=>H t=some (.tup [.int f.num,.int (f.den:Nat)])) ts fs
def Il:Sp:=λvs H Q _=>∃(room:Nat) (l:Addr) (ns:List Nat),vs=[.int room,.ref l]/\H l=some (.lst ((Q8 ns).map V.int))/\ns≠[]/\ns.length<=8/\(∀x∈ns,x<=1000)/\
 ∀D H',Same H H'->Byr H' D (Xo room ns)->Q (.ref D) H'
theorem Bda{H0 H:Hp}{D t:Addr}{fs:List Jl}{ts:List Addr}{f:Jl}(h:H D=some (.lst (ts.map V.ref)))(hp:Paired (λt (f:Jl)=>H t=some (.tup [.int f.num,.int (f.den:Nat)])) ts fs)(ht:H t=some (.tup [.int f.num,.int (f.den:Nat)])):
  Paired (λt' (f:Jl)=>(upd H D (.lst (ts.map V.ref++[.ref t]))) t'=some (.tup [.int f.num,.int (f.den:Nat)])) (ts++[t]) (fs++[f]):=by
 have key:∀a (f:Jl),H a=some (.tup [.int f.num,.int (f.den:Nat)])->(upd H D (.lst (ts.map V.ref++[.ref t]))) a=some (.tup [.int f.num,.int (f.den:Nat)]):=λa f e=>by
  rw[Cd (λz=>by rw[z,h] at e;cases e)];exact e
 exact Paired.snoc (F:=λt' (f:Jl)=>(upd H D (.lst (ts.map V.ref++[.ref t]))) t'=some (.tup [.int f.num,.int (f.den:Nat)])) (key _ _ ht) (Paired.up key hp)
theorem Bd8(T:Txt K mg A):Def P w K mg base 3 "fair_shares" Wq Il:=by
 refine Ed T.Aqn Bft (λvs H Q E h=>?_) (λX e1 e2 e3 e4 e5 c H vs Q E h=>?_)
 ·obtain⟨room,l,ns,rfl,_⟩:=h;rfl
 ·tm_at"s"
  obtain⟨room,l,ns,rfl,hl,hne,hz,hns,k⟩:=h
  refine⟨_,Be3 T c (Bbe T) (Bbd T),?_⟩
  show Aex X.K A _ _ _ [some (.int room),some (.ref l),none,none,none] H
  unfold Aex
  tm_at"r"
  refine⟨_,rfl,_,rfl,room,l,ns,rfl,hl,hne,hz,hns,λt H1 s1 ht=>?_⟩
  unfold Ajj
  tm_at"r"
  refine⟨by show 0<=sizeLine;decide,λD hD=>?_⟩
  have s2:=Av (o:=.lst []) hD
  unfold Ajk
  tm_at"r"
  have hpos:=Buk (room:=room) hz
  generalize hM:Aq0 room ns=M at ht hpos
  obtain⟨m1,m2⟩:=M
  have hDn:H D=none:=s1.free hD
  have hlD:l≠D:=λz=>by rw[z,hDn] at hl;cases hl
  have htD:t≠D:=λz=>by rw[z,hD] at ht;cases ht
  refine⟨_,rfl,l,rfl,⟨_,SqL.of ((s1.trans s2) _ _ hl)⟩,JZ (K:=X.K) (a:=l) (xs:=(Q8 ns).map V.int) (λi σ H'=>∃v ts,σ=[some (.int room),some (.ref l),some (.ref t),some (.ref D),v]/\Same H1 H'/\H' D=some (.lst (ts.map V.ref))/\Paired (λt (f:Jl)=>H' t=some (.tup [.int f.num,.int (f.den:Nat)])) ts ((ns.take i).map (RM.Pb m1 m2)))
   ⟨none,[],rfl,s2,Ah,by rw[Fb];exact .nil⟩ (λi σ H' _ ⟨_,_,_,s,_⟩=>SqL.of ((s1.trans s) _ _ hl)) ?turn ?fin⟩
  case turn=>
   rintro i v σ H' hv ⟨v4,ts,rfl,s,hDl,hp⟩
   unfold Q8 at hv
   rw[Bk,Bk] at hv
   obtain⟨d,hn,rfl⟩:∃d,ns[i]?=some d/\V.int (d:Nat)=v:=by
    cases e:ns[i]? with
    |none=>rw[e] at hv;cases hv
    |some z=>rw[e] at hv;exact⟨z,rfl,Ae hv⟩
   have hd:d<=1000:=hns d (BX hn)
   have hpl:=Paired.length hp
   rw[Aa,Er] at hpl
   have htl:(ts.map V.ref).length<sizeLine:=by
    rw[Aa,hpl]
    have:(10:Nat)<sizeLine:=by decide
    omega
   have ht':=s _ _ ht
   tm_at"r"
   refine⟨_,rfl,_,rfl,t,_,1,_,rfl,rfl,SqT.of ht',rfl,?_⟩
   refine⟨_,_,rfl,rfl,.inl ⟨by omega,by omega⟩,_,rfl,t,_,0,_,rfl,rfl,SqT.of ht',rfl,?_⟩
   refine⟨_,_,rfl,rfl,_,rfl,?_⟩
   dsimp only
   rw[show(d:Int)*(m2:Int)=((d*m2:Nat):Int) by rw[Nr]]
   rw[take_snoc hn,Bd]
   by_cases hc:d*m2<=m1
   ·rw[Aq (Aj (Y0.mpr hc))]
    refine⟨_,rfl,.inl ⟨rfl,_,SqL.of hDl⟩,_,rfl,by show 2<=sizeLine;decide,λu hu=>?_⟩
    have su:=Av (o:=.tup [.int (d:Nat),.int 1]) hu
    refine⟨D,_,_,rfl,rfl,su _ _ hDl,htl,_,ts++[u],rfl,FZ (s.trans su) hD,by rw[Ah,Bd];rfl,?_⟩
    refine Bda (H0:=H1) (su _ _ hDl) (Paired.up (λa b h=>su _ _ h) hp) ?_
    unfold RM.Pb
    rw[Aq hc]
    exact Ah
   ·rw[Am (by simp only [Cj];exact λq=>hc (Y0.mp q))]
    refine⟨_,rfl,.inl ⟨rfl,_,SqL.of hDl⟩,_,rfl,t,_,0,_,rfl,rfl,SqT.of ht',rfl,_,rfl,t,_,1,_,rfl,rfl,SqT.of ht',rfl,?_⟩
    refine⟨m1,m2,rfl,hpos.1,CJ hpos.2 (by decide),λu H2 su hu=>?_⟩
    refine⟨D,_,_,rfl,rfl,su _ _ hDl,htl,_,ts++[u],rfl,FZ (s.trans su) hD,by rw[Ah,Bd];rfl,?_⟩
    refine Bda (H0:=H1) (su _ _ hDl) (Paired.up (λa b h=>su _ _ h) hp) ?_
    unfold RM.Pb
    rw[Am hc]
    exact hu
  case fin=>
   rintro σ H' ⟨v4,ts,rfl,s,hDl,hp⟩
   have e1:((Q8 ns).map V.int).length=ns.length:=by unfold Q8;rw[Aa,Aa]
   rw[e1,DR] at hp
   dsimp only
   unfold Ajl
   refine⟨_,rfl,k D H' (s1.trans s) ⟨ts,hDl,?_⟩⟩
   rw[Btu room ns hne,hM]
   exact hp
theorem Bnf(p:Int):∀l:List Int,inV (.int p) (l.map V.int)=l.contains p
 |[]=>rfl
 |x::r=>by
  have ih:=Bnf p r
  unfold inV at ih|-
  rw[Bo,Wk,PJ,ih]
  congr 1
  show(x==p)=(p==x)
  by_cases h:p=x
  ·subst h;rfl
  ·rw[DG.mpr h]
   exact DG.mpr (Js h)
theorem Btv(l:List Int):(l.map V.int).all Aqy=true:=by
 rw[List.all_map]
 exact Ep.mpr λ_ _=>rfl
def CallAt(H0 H:Hp)(t:Addr)(c:List (List Int)):Prop:=∃r,H0 r=none/\H t=some (.tup [.int (RM.un c).1,.ref r])/\H r=some (.lst ((RM.un c).2.map V.int))
def Cao(H0 H:Hp)(D t:Addr)(c:List (List Int)):Prop:=∃r,(r≠D/\H0 r=none)/\H t=some (.tup [.int (RM.un c).1,.ref r])/\H r=some (.lst ((RM.un c).2.map V.int))
def Im(K:Frag):Sp:=λvs H Q _=>∃l ns f cs,vs=[.ref l]/\SqL K H l (ns.map V.int)/\ns.length<=100000/\Gf Ek f ns=some cs/\cs.length<=400/\
 ∀D H' ts,Same H H'->H D=none->H' D=some (.lst (ts.map V.ref))->Paired (CallAt H H') ts cs->Q (.ref D) H'
theorem Bmv{ns:List Int}{k:Nat}{p:Int}{r:List Int}(h:ns.drop k=p::r):ns[k]?=some p/\ns.drop (k+1)=r:=by
 have hk:k<ns.length:=by
  by_cases hk:k<ns.length
  ·exact hk
  ·rw[Jp (by omega)] at h;cases h
 rw[EY hk,List.cons.injEq] at h
 exact⟨by rw[CP hk,h.1],h.2⟩
def Bra(ns:List Int)(cs:List (List (List Int)))(H:Hp)(l D:Addr)(m:Nat)(σ:L2.St)(H':Hp):Prop:=∃(v3 v4 v5:Option V) (at_ f':Nat) (ts:List Addr) (done rest:List (List (List Int))),m=ns.length-at_/\σ=[some (.ref l),some (.ref D),some (.int (at_:Nat)),v3,v4,v5]/\Same H H'/\at_<=ns.length/\H' D=some (.lst (ts.map V.ref))/\Paired (Cao H H' D) ts done/\cs=done++rest/\Gf Ek f' (ns.drop at_)=some rest
theorem Bed(T:Txt K mg A):Def P w K mg base 1 "split_calls" Wt (Im K):=by
 refine Ed T.Aqv Bf1 (λvs H Q E h=>?_) (λX e1 e2 e3 e4 e5 c H vs Q E h=>?_)
 ·obtain⟨l,ns,f,cs,rfl,_⟩:=h;rfl
 ·tm_at"s"
  obtain⟨l,ns,f,cs,rfl,hl,hz,hcs,hcl,k⟩:=h
  refine⟨_,Bfb T c,?_⟩
  show Ae6 X.K A _ [some (.ref l),none,none,none,none,none] H
  unfold Ae6
  tm_at"r"
  refine⟨by show 0<=sizeLine;decide,λD hD=>?_⟩
  have s0:Same H (upd H D (.lst [])):=Av hD
  unfold Aj1
  tm_at"r"
  unfold Aj2
  tm_at"r"
  refine⟨Bra ns cs H l D,
   ⟨ns.length,none,none,none,0,f,[],[],cs,rfl,rfl,s0,Hh _,Ah,.nil,rfl,hcs⟩,?_⟩
  rintro m σ H' ⟨v3,v4,v5,at_,f',ts,done,rest,rfl,rfl,s,hat,hDl,hp,hsp,hrest⟩
  have hl':=s.seq hl
  have hnl:(ns.map V.int).length=ns.length:=Aa ..
  refine⟨_,rfl,_,rfl,l,_,rfl,.inl (hl'),_,_,rfl,rfl,_,rfl,?_⟩
  dsimp only
  rw[hnl]
  by_cases hlt:at_<ns.length
  ·rw[Aq (Aj (Int.ofNat_lt.mpr hlt))]
   have Ces:ns.drop at_≠[]:=λe=>by
    have:=congrArg Mv e
    rw[Jq] at this
    have h0:([]:List Int).length=0:=rfl
    omega
   obtain⟨f2,c1,t1,cs',hcall,hrest',rfl⟩:=RM.Bpl Ces hrest
   obtain⟨p,r,hpr,hp0,Cf4,hcm,hcp,hcase⟩:=RM.Axg hcall
   obtain⟨hget,Bwr⟩:=Bmv hpr
   have hpl:=Paired.length hp
   have hdl:done.length<400:=by
    rw[hsp,Bg,Ay] at hcl
    omega
   have htl:(ts.map V.ref).length<sizeLine:=by
    rw[Aa,hpl]
    exact Auq hdl (by decide)
   have hge:atI (ns.map V.int) (at_:Int)=some (.int p):=KJ (by rw[Bk,hget];rfl)
   refine⟨λσ' H''=>∃m',m'<ns.length-at_/\Bra ns cs H l D m' σ' H'',λσ' H'' h=>h,?_⟩
   have last:∀(first cnt:Nat),at_<first->first+cnt<=ns.length->(RM.un c1).2=(ns.drop first).take cnt->t1=ns.drop (first+cnt)->∀v4 v5,
     (CW (Gn (tOp (rI0 λi j=>.int (i+j)) (Al 4) (Al 5)) (Ce 2))
      (Om (tBM X.K "list" Qq (Al 1) (Ad (Apc (Ad (Al 3) (Ad (tSl (Buy X.K) (Al 0) (Awo (Al 4)) (Awo (Al 2))) Bq))) Bq))))
      {nx:=λσ' H''=>∃m',m'<ns.length-at_/\Bra ns cs H l D m' σ' H'',rt:=v4,bk:=(v5:L2.St->Hp->Prop),ct:=λσ' H''=>∃m',m'<ns.length-at_/\Bra ns cs H l D m' σ' H''}
      [some (.ref l),some (.ref D),some (.int (at_:Nat)),some (.int p),some (.int (first:Nat)),some (.int (cnt:Nat))] H':=by
    intro first cnt h1 h2 h3 h4 v4 v5
    tm_at"r"
    refine⟨_,rfl,_,rfl,_,_,rfl,rfl,?_⟩
    dsimp only
    rw[show(first:Int)+(cnt:Int)=((first+cnt:Nat):Int) by omega]
    refine⟨_,rfl,.inl ⟨rfl,_,SqL.of hDl⟩,_,rfl,_,rfl,_,rfl,_,rfl,_,rfl,_,rfl,l,_,rfl,hl',λq hq=>?_⟩
    rw[Bhp,<-h3]
    have sq:=Av (o:=.lst ((RM.un c1).2.map V.int)) hq
    refine⟨by show 2<=sizeLine;decide,λt ht=>?_⟩
    have st:=Av (o:=.tup [.int p,.ref q]) ht
    have sqt:=sq.trans st
    have hqD:q≠D:=λz=>by rw[z,hDl] at hq;cases hq
    have hD2:=sqt _ _ hDl
    have htD:t≠D:=λz=>by rw[z,sq _ _ hDl] at ht;cases ht
    refine⟨D,_,_,rfl,rfl,hD2,htl,ns.length-(first+cnt),by omega,_,_,_,first+cnt,f2,ts++[t],done++[c1],cs',rfl,rfl,FZ (s.trans sqt) hD,h2,by rw[Ah,Bd];rfl,?_,by rw[hsp,Cg];rfl,by rw[<-h4];exact hrest'⟩
    refine Paired.snoc (F:=Cao H (upd (upd (upd H' q (.lst ((RM.un c1).2.map V.int))) t (.tup [.int p,.ref q])) D (.lst (ts.map V.ref++[.ref t]))) D) ⟨q,⟨hqD,s.free hq⟩,by rw[Cd htD,Ah,hcp],by rw[Cd hqD];exact st _ _ Ah⟩ (Paired.up (λa b ⟨r,hr,h5,h6⟩=>⟨r,hr,?_,by rw[Cd hr.1];exact sqt _ _ h6⟩) hp)
    rw[Cd (λz=>by rw[z,hDl] at h5;cases h5)]
    exact sqt _ _ h5
   tm_at"r"
   refine⟨_,rfl,_,rfl,l,_,_,_,rfl,rfl,hl',hge,?_⟩
   refine⟨_,rfl,A.Ads,_,rfl,.inr (T.Az5 H'),rfl,Btv _,_,rfl,?_⟩
   rw[Am Ac,Bnf]
   have Cf1:r.length=ns.length-at_-1:=by
    rw[<-Bwr,Jq];omega
   rcases hcase with⟨hrow,m',r',hr,hm0,hml,hun,ht1⟩|⟨hrow,n,hpc,hn,hun,ht1⟩
   ·rw[Aq (by rw[Ef];exact Aj hrow)]
    obtain⟨mm,rfl⟩:=O1 hm0
    rw[Fq] at hml hun ht1
    rw[hr] at Bwr
    obtain⟨Cax,Cbi⟩:=Bmv Bwr
    have Cf2:r'.length=ns.length-at_-2:=by rw[<-Cbi,Jq];omega
    have hlt2:at_+1<ns.length:=(BL.mp Cax).1
    refine⟨_,rfl,_,_,rfl,rfl,_,rfl,_,rfl,_,_,rfl,rfl,l,_,_,_,rfl,rfl,hl',(show atI (ns.map V.int) ((at_:Int)+1)=some (.int (mm:Nat)) from ?_),?_⟩
    ·rw[show(at_:Int)+1=((at_+1:Nat):Int) by omega]
     exact KJ (by rw[Bk,Cax];rfl)
    ·dsimp only
     rw[show(at_:Int)+2=((at_+2:Nat):Int) by omega]
     exact last (at_+2) mm (by omega) (by omega) (by rw[hun,Cbi]) (by rw[ht1,<-Cbi,Bcc]) (λ_ _=>True) (λ_ _=>True)
   ·rw[Am (by rw[Ef];exact λq=>hrow (Ec q))]
    obtain⟨pp,rfl⟩:=O1 hp0
    rw[Fq] at hpc
    refine⟨_,rfl,_,_,rfl,rfl,_,rfl,A.VD,_,_,_,rfl,rfl,T.Amc H',(show atI (Ako V.int [1,0,1,6,6,6,1,2,6,1,1,1,0,1,0,3,1,0,0,0,0,0,0,1,0,0,1,6,0,0]) ((pp:Nat):Int)=some (.int (n:Nat)) from ?_),?_⟩
    ·refine KJ ?_
     have e:Ako V.int [1,0,1,6,6,6,1,2,6,1,1,1,0,1,0,3,1,0,0,0,0,0,0,1,0,0,1,6,0,0]=RM.Mz.map λ(n:Nat)=>V.int (n:Int):=rfl
     rw[e,Bk,hpc];rfl
    ·dsimp only
     rw[show(at_:Int)+1=((at_+1:Nat):Int) by omega]
     exact last (at_+1) n (by omega) (by omega) (by rw[hun,Bwr]) (by rw[ht1,<-Bwr,Bcc]) (λ_ _=>True) (λ_ _=>True)
  ·rw[Am (by simp only [Cj];omega)]
   have e0:at_=ns.length:=by omega
   subst e0
   rw[O2] at hrest
   have:=RM.Aoa hrest
   subst this
   rw[Ds] at hsp
   subst hsp
   unfold Aj3
   refine⟨_,rfl,k D H' ts s hD hDl (Paired.up (λa b ⟨r,hr,h5,h6⟩=>⟨r,hr.2,h5,h6⟩) hp)⟩
def stF(b l:Addr)(m:Nat):List (Str×V):=[(("bounds":Str),.ref b),(("moment":Str),.int m),(("things":Str),.ref l)]
def Yz(A:Adr)(H:Hp)(b lp:Addr)(B:Bounds):Prop:=(∃dx,H b=some (.ins A.Jb dx (bdF B lp)))/\H lp=some (.lst (Bgf B))/\B.limits.length=10
theorem Yz.at{A:Adr}{H:Hp}{b lp:Addr}{B:Bounds}(h:Yz A H b lp B):Ja A H b B:=let⟨⟨dx,e⟩,e2,l⟩:=h;⟨dx,lp,e,e2,l⟩
theorem Yz.same{A:Adr}{H H':Hp}{b lp:Addr}{B:Bounds}(h:Yz A H b lp B)(s:Same H H'):Yz A H' b lp B:=let⟨⟨dx,e⟩,e2,l⟩:=h;⟨⟨dx,s _ _ e⟩,s _ _ e2,l⟩
theorem Bj3{Q:Addr->Hp->Prop}{H:Hp}{lp:Addr}{B:Bounds}(hl:H lp=some (.lst (Bgf B)))(h10:B.limits.length=10)(k:∀a H2,Same H H2->H a=none->Yz A H2 a lp B->Q a H2):
  ∀a dx,H a=none->H dx=none->dx≠a->Gd A (.ref a::([.int B.room,.ref lp,.int B.share]++[])) (upd (upd H dx (.own a)) a (.ins A.Jb dx [])) (λv H2=>v=.non/\Q a H2) E0:=by
 intro a dx ha hd hne
 have s1:Same H (upd (upd H dx (.own a)) a (.ins A.Jb dx [])):=FZ (Av hd) ha
 exact⟨a,dx,_,_,_,rfl,Ah,rfl,k a _ (FZ s1 ha) ha ⟨⟨dx,Ah⟩,(FZ s1 ha) _ _ hl,h10⟩⟩
structure StZ(A:Adr)(H:Hp)(s0 T:Addr)(st:Ci)(dx b0 lp l0:Addr)(zs:Zs):Prop where
 s:H s0=some (.ins A.Gq dx (stF b0 l0 st.now))
 b:Yz A H b0 lp st.bounds
 l:TLz A H l0 zs
 i:its zs=st.items
 hp:lp≠T
 hl:l0≠T
def Asy(A:Adr)(H:Hp)(s T:Addr)(st:Ci):Prop:=∃dx b lp l zs,StZ A H s T st dx b lp l zs
def Fr(H H':Hp):Prop:=∀a o,H a=some o->(∀C dx fs,o≠.ins C dx fs)->H' a=some o
theorem Same.fr{H H':Hp}(s:Same H H'):Fr H H':=λa o h _=>s a o h
theorem Fr.trans{H H1 H2:Hp}(a:Fr H H1)(b:Fr H1 H2):Fr H H2:=λc o h n=>b c o (a c o h n) n
def KS(s:Addr)(H H':Hp):Prop:=∀a o,a≠s->H a=some o->H' a=some o
theorem Same.ks{s:Addr}{H H':Hp}(e:Same H H'):KS s H H':=λa o _ h=>e a o h
theorem KS.trans{s:Addr}{H H1 H2:Hp}(a:KS s H H1)(b:KS s H1 H2):KS s H H2:=λc o n h=>b c o n (a c o n h)
theorem Axp{s:Addr}{H:Hp}{o:HO}:KS s H (upd H s o):=λa o' n h=>by rw[Cd n];exact h
theorem KS.fr{s:Addr}{H H':Hp}{C dx:Addr}{fs:List (Str×V)}(k:KS s H H')(hs:H s=some (.ins C dx fs)):Fr H H':=λa o h n=>k a o (λz=>by
 rw[z,hs] at h
 exact n _ _ _ (Ae h).symm) h
theorem KS.lst{s a C dx:Addr}{H H':Hp}{fs:List (Str×V)}{xs:List V}(k:KS s H H')(hs:H s=some (.ins C dx fs))(h:H a=some (.lst xs)):H' a=some (.lst xs):=k a _ (λz=>by rw[z,hs] at h;cases h) h
theorem Caa{A:Adr}{H:Hp}{s dx b l b' lp:Addr}{m:Nat}{B:Bounds}(hs:H s=some (.ins A.Gq dx (stF b l m)))(h:Yz A H b' lp B):b'≠s:=λz=>by
 obtain⟨⟨dx',e⟩,_⟩:=h
 rw[z,hs] at e
 have:stF b l m=bdF B lp:=by injection e with e;injection e
 unfold stF bdF at this
 rw[List.cons.injEq,Prod.mk.injEq] at this
 exact absurd this.1.1 (by decide+kernel)
theorem Bs5{A:Adr}{H:Hp}{s dx b l a:Addr}{m:Nat}{x:Item}(hs:H s=some (.ins A.Gq dx (stF b l m)))(h:Gi A H a x):a≠s:=λz=>by
 obtain⟨C,dx',ex,e,_⟩:=h
 rw[z,hs] at e
 have:stF b l m=thF x++ex:=by injection e with e;injection e
 unfold stF thF at this
 rw[Afe,List.cons.injEq,Prod.mk.injEq] at this
 exact absurd this.1.1 (by decide+kernel)
theorem KS.bnd{A:Adr}{H H':Hp}{s dx b l b' lp:Addr}{m:Nat}{B:Bounds}(k:KS s H H')(hs:H s=some (.ins A.Gq dx (stF b l m)))(h:Yz A H b' lp B):Yz A H' b' lp B:=by
 have hne:=Caa hs h
 obtain⟨⟨dx',e⟩,e2,l10⟩:=h
 exact⟨⟨dx',k _ _ hne e⟩,k.lst hs e2,l10⟩
theorem KS.thing{A:Adr}{H H':Hp}{s dx b l a:Addr}{m:Nat}{x:Item}(k:KS s H H')(hs:H s=some (.ins A.Gq dx (stF b l m)))(h:Gi A H a x):Gi A H' a x:=by
 have hne:=Bs5 hs h
 obtain⟨C,dx',ex,e,t⟩:=h
 exact⟨C,dx',ex,k _ _ hne e,t⟩
theorem KS.tlz{A:Adr}{H H':Hp}{s dx b l a:Addr}{m:Nat}{zs:Zs}(k:KS s H H')(hs:H s=some (.ins A.Gq dx (stF b l m)))(h:TLz A H a zs):TLz A H' a zs:=⟨k.lst hs h.1,λz hz=>k.thing hs (h.2 z hz)⟩
theorem StZ.same{A:Adr}{H H':Hp}{s T dx b lp l:Addr}{st:Ci}{zs:Zs}(h:StZ A H s T st dx b lp l zs)(e:Same H H'):StZ A H' s T st dx b lp l zs:=⟨e _ _ h.s,h.b.same e,h.l.same e,h.i,h.hp,h.hl⟩
theorem Jv(T:Txt K mg A){H:Hp}{s dx b l:Addr}{m:Nat}(h:H s=some (.ins A.Gq dx (stF b l m))):T8 K H s "bounds" (.ref b):=⟨_,dx,_,h,T.Acr,T.Rn,YK⟩
theorem Afu(T:Txt K mg A){H:Hp}{s dx b l:Addr}{m:Nat}(h:H s=some (.ins A.Gq dx (stF b l m))):T8 K H s "moment" (.int (m:Nat)):=⟨_,dx,_,h,T.Acr,T.Ro,by unfold stF;rw[J5 (by decide+kernel),YK]⟩
theorem Hf(T:Txt K mg A){H:Hp}{s dx b l:Addr}{m:Nat}(h:H s=some (.ins A.Gq dx (stF b l m))):T8 K H s "things" (.ref l):=⟨_,dx,_,h,T.Acr,T.Pk,by unfold stF;rw[J5 (by decide+kernel),J5 (by decide+kernel),YK]⟩
theorem Bib(b l b':Addr)(m:Nat):Nm "bounds" (.ref b') (stF b l m)=stF b' l m:=Bn3
theorem Bic(b l:Addr)(m m':Nat):Nm "moment" (.int (m':Nat)) (stF b l m)=stF b l m':=by unfold stF;rw[R3 (by decide+kernel),Bn3]
theorem Aya(b l l':Addr)(m:Nat):Nm "things" (.ref l') (stF b l m)=stF b l' m:=by unfold stF;rw[R3 (by decide+kernel),R3 (by decide+kernel),Bn3]
theorem sf(T:Txt K mg A){R:Hp->Prop}{H:Hp}{s dx b l:Addr}{m:Nat}{f:Str}{v:V}(h:H s=some (.ins A.Gq dx (stF b l m)))(hn:HY K A.Gq f)(q:R (upd H s (.ins A.Gq dx (Nm f v (stF b l m))))):
  ∃a C dx fs,V.ref s=.ref a/\H a=some (.ins C dx fs)/\Cls K C/\HY K C f/\fs.length<1000/\R (upd H a (.ins C dx (Nm f v fs))):=
 ⟨s,_,dx,_,rfl,h,T.Acr,hn,by show 3<1000;decide,q⟩
def Je(A:Adr):Sp:=λvs H Q _=>∃s dx,vs=[.ref s]/\H s=some (.ins A.Gq dx [])/\∀b lp l H',KS s H H'->H b=none->H lp=none->H l=none->H' s=some (.ins A.Gq dx (stF b l 0))->Yz A H' b lp Bct->H' l=some (.lst [])->Q .non H'
theorem Bnt(T:Txt K mg A):Mak P w K mg base 3 A.Gq "State" Ut (Je A):=by
 refine Bj2 T.Bsi T.Bru.mth Bi1 (λvs H Q E h=>?_) (λX e1 e2 e3 e4 e5 c H vs Q E h=>?_)
 ·obtain⟨s,dx,rfl,_⟩:=h;rfl
 ·tm_at"s"
  obtain⟨s,dx,rfl,hs,q⟩:=h
  refine⟨_,Bgu T c (Aoi T),?_⟩
  show Ahi X.K A _ _ [some (.ref s)] H
  unfold Ahi
  tm_at"r"
  refine⟨by show 1<=sizeLine;decide,λp hp=>⟨p,10,_,rfl,rfl,Ah,by decide,by decide,by decide,λlp hlp=>?_⟩⟩
  have sp:=Av (o:=.lst [.int 200]) hp
  have sl:=Av (o:=.lst (Dy (10:Int).toNat [V.int 200]).flatten) hlp
  refine Bj3 (B:=Bct) (by rw[Ah];rfl) rfl λb H1 s1 hb hB=>?_
  have s01:=sp.trans (sl.trans s1)
  refine⟨_,rfl,s,A.Gq,dx,_,rfl,s01 _ _ hs,T.Acr,T.Rn,by decide,?_⟩
  unfold Ame
  tm_at"r"
  refine⟨_,rfl,s,A.Gq,dx,_,rfl,Ah,T.Acr,T.Ro,CJ Rm (by decide),?_⟩
  rw[Mu]
  unfold Amf
  tm_at"r"
  refine⟨by show 0<=sizeLine;decide,λl hl=>⟨_,rfl,s,A.Gq,dx,_,rfl,(Av hl) _ _ Ah,T.Acr,T.Pk,CJ (Kl Rm) (by decide),?_⟩⟩
  have n:∀(f:Str) (v:V),Nm f v []=[(f,v)]:=λf v=>rfl
  have e:Nm "things" (.ref l) (Nm "moment" (.int 0) (Nm "bounds" (.ref b) []))=stF b l 0:=by
   rw[n,R3 (by decide+kernel),n,R3 (by decide+kernel),R3 (by decide+kernel),n];rfl
  rw[e]
  have hbs:b≠s:=λz=>by rw[z,sl _ _ (sp _ _ hs)] at hb;cases hb
  have hls:l≠s:=λz=>by rw[z,Ah] at hl;cases hl
  have Ceu:lp≠s:=λz=>by rw[z,sp _ _ hs] at hlp;cases hlp
  have hl1:H1 l=none:=by rw[Cd hls] at hl;exact hl
  have k1:∀a o,a≠s->H1 a=some o->(upd (upd (upd H1 s (.ins A.Gq dx (Nm "moment" (.int 0) (Nm "bounds" (.ref b) [])))) l (.lst [])) s (.ins A.Gq dx (stF b l 0))) a=some o:=λa o ha h=>by
   rw[Cd ha,Cd (λz=>by rw[z,hl1] at h;cases h),Cd ha];exact h
  refine q b lp l _ (λa o ha h=>k1 a o ha (s01 _ _ h)) (sp.free (sl.free hb)) (sp.free hlp) (s01.free hl1) Ah ?_ ?_
  ·obtain⟨⟨dx',e1⟩,e2,e3⟩:=hB
   exact⟨⟨dx',k1 _ _ hbs e1⟩,k1 _ _ Ceu e2,e3⟩
  ·rw[Cd hls];exact Ah
def MJ(A:Adr):Sp:=λvs H Q _=>∃s T st dx b lp l zs,vs=[.ref s]/\StZ A H s T st dx b lp l zs/\H T≠none/\∀H',KS s H H'->Asy A H' s T Qk->Q .non H'
theorem Bgn(T:Txt K mg A):Def P w K mg base 5 "start_anew" Zc (MJ A):=by
 refine Ed T.Avm Bjd (λvs H Q E h=>?_) (λX e1 e2 e3 e4 e5 c H vs Q E h=>?_)
 ·obtain⟨s,Ta,st,dx,b,lp,l,zs,rfl,_⟩:=h;rfl
 ·tm_at"s"
  obtain⟨s,Ta,st,dx,b,lp,l,zs,rfl,hz,hT,k⟩:=h
  refine⟨_,Bg6 T c (Bnt T),?_⟩
  show Ahx X.K A _ _ [some (.ref s),none] H
  unfold Ahx
  tm_at"r"
  intro x dx2 hx hd hne
  have s1:Same H (upd (upd H dx2 (.own x)) x (.ins A.Gq dx2 [])):=FZ (Av hd) hx
  refine⟨x,dx2,rfl,Ah,λb' lp' l' H1 k1 hb hlp hl hs hB hL=>⟨rfl,?_⟩⟩
  have s2:Same H H1:=λa o h=>k1 a o (λz=>by rw[z,hx] at h;cases h) (s1 _ _ h)
  have hsx:s≠x:=λz=>by rw[<-z,hz.s] at hx;cases hx
  unfold Anf
  tm_at"r"
  refine fv rfl (Jv T hs) ⟨_,rfl,sf T (s2 _ _ hz.s) T.Rn ?_⟩
  rw[Bib]
  unfold Ang
  tm_at"r"
  have hx2:∀o,(upd H1 s o) x=some (.ins A.Gq dx2 (stF b' l' 0)):=λo=>by rw[Cd (Js hsx)];exact hs
  refine fv rfl (Afu T (hx2 _)) ⟨_,rfl,sf T Ah T.Ro ?_⟩
  rw[Mu,show V.int ((0:Nat):Int)=V.int ((0:Nat):Int) from rfl,Bic]
  unfold Anh
  tm_at"r"
  refine fv rfl (Hf T (hx2 _)) ⟨_,rfl,sf T Ah T.Pk ?_⟩
  rw[Mu,Aya]
  have ks:KS s H1 (upd H1 s (.ins A.Gq dx (stF b' l' 0))):=Axp
  refine k _ (λa o ha h=>ks a o ha (s2 _ _ h)) ⟨dx,b',lp',l',[],Ah,ks.bnd (s2 _ _ hz.s) hB,⟨ks.lst (s2 _ _ hz.s) hL,λ_ h=>(nomatch h)⟩,rfl,λz=>?_,λz=>?_⟩
  ·rw[z] at hlp;exact hT (s1.free hlp)
  ·rw[z] at hl;exact hT (s1.free hl)
def Ar(A:Adr):Sp:=λvs H Q _=>∃(s T:Addr) (st:Ci) (dx b lp l:Addr) (zs:Zs) (n:Nat),vs=[.ref s,.int n]/\StZ A H s T st dx b lp l zs/\(zs.find? (λz=>z.2.num==n)=none->Q .non H)/\∀z,zs.find? (λz=>z.2.num==n)=some z->Q (.ref z.1) H
theorem Mx(T:Txt K mg A):Def P w K mg base 1 "find_thing" Kh (Ar A):=by
 refine Ed T.Avd Bi4 (λvs H Q E h=>?_) (λX e1 e2 e3 e4 e5 c H vs Q E h=>?_)
 ·obtain⟨s,Ta,st,dx,b,lp,l,zs,n,rfl,_⟩:=h;rfl
 ·tm_at"s"
  obtain⟨s,Ta,st,dx,b,lp,l,zs,n,rfl,hz,k0,k1⟩:=h
  refine⟨_,Bgx T c,?_⟩
  show Ahm X.K A _ [some (.ref s),some (.int n),none] H
  unfold Ahm
  tm_at"r"
  obtain⟨C',dx',fs',h1,h2,h3,h4⟩:=Hf T hz.s
  refine⟨_,rfl,s,C',dx',fs',_,rfl,h1,h2,h3,h4,l,rfl,⟨_,SqL.of hz.l.1⟩,JZ (K:=X.K) (a:=l) (xs:=rf zs) (λi σ H'=>∃v,σ=[some (.ref s),some (.int n),v]/\H'=H/\(zs.take i).find? (λz=>z.2.num==n)=none) ⟨none,rfl,rfl,by rw[Fb];rfl⟩ (λi σ H' _ ⟨_,_,e,_⟩=>by rw[e];exact SqL.of hz.l.1) ?turn ?fin⟩
  case turn=>
   rintro i v σ H' hv ⟨v2,rfl,rfl,hno⟩
   rw[Bk] at hv
   obtain⟨z,hn,rfl⟩:∃z,zs[i]?=some z/\V.ref z.1=v:=J8 hv
   tm_at"r"
   refine fv rfl (Xr T (hz.l.2 z (BX hn))) ⟨_,rfl,rfl,_,rfl,?_⟩
   have hil:i<zs.length:=(BL.mp hn).1
   by_cases e:z.2.num=n
   ·rw[Aq (Aj (by rw[e]))]
    refine⟨_,rfl,k1 z ?_⟩
    have:zs=zs.take i++z::zs.drop (i+1):=by
     have h1:zs.drop i=z::zs.drop (i+1):=by
      rw[EY hil]
      congr 1
      exact Ae ((CP hil).symm.trans hn)
     rw[<-h1,QV]
    rw[this,Ur,hno,Z6,Kz,e,G9]
   ·rw[Am (by simp only [Cj,V.int.injEq];omega)]
    refine⟨_,rfl,rfl,?_⟩
    rw[take_snoc hn,Ur,hno,Z6,Kz,DG.mpr e]
    rfl
  case fin=>
   rintro σ H' ⟨v2,rfl,rfl,hno⟩
   rw[Aa,DR] at hno
   dsimp only
   unfold Amv
   exact k0 hno
def Ls(A:Adr):Sp:=λvs H Q _=>∃s T st dx b lp l zs a x,vs=[.ref s,.ref a]/\StZ A H s T st dx b lp l zs/\H T≠none/\Gi A H a x/\RM.ND (x::st.items)/\zs.length<=5000/\
 ∀H' l' zs',KS s H H'->StZ A H' s T {st with items:=its zs'} dx b lp l' zs'->zs'.Perm (zs++[(a,x)])->RM.Sd (its zs')->Q .non H'
theorem Bun(T:Txt K mg A):Def P w K mg base 5 "put_in" Aut (Ls A):=by
 refine Ed T.Bm0 Bvu (λvs H Q E h=>?_) (λX e1 e2 e3 e4 e5 c H vs Q E h=>?_)
 ·obtain⟨s,Ta,st,dx,b,lp,l,zs,a,x,rfl,_⟩:=h;rfl
 ·tm_at"s"
  obtain⟨s,Ta,st,dx,b,lp,l,zs,a,x,rfl,hz,hT,hx,hnd,hlen,k⟩:=h
  refine⟨_,Bva T c (T3 T),?_⟩
  show Beq X.K A _ _ [some (.ref s),some (.ref a)] H
  unfold Beq
  tm_at"r"
  refine fv rfl (Hf T hz.s) ⟨_,rfl,by show 1<=sizeLine;decide,λp hp=>?_⟩
  refine⟨l,p,rf zs,[.ref a],rfl,rfl,(Av hp) _ _ hz.l.1,Ah,?_,λq hq=>?_⟩
  ·rw[Aa]
   have:=big5
   show _+1<=_
   omega
  have s1:=(Av (o:=.lst [.ref a]) hp).trans (Av (o:=.lst (rf zs++[.ref a])) hq)
  refine⟨q,zs++[(a,x)],rfl,⟨by rw[Ah,Bd];rfl,λz hz'=>?_⟩,?_,λD H2 zs' s2 hD hpz hsd htl=>?_⟩
  ·rcases Bw.mp hz' with h|h
   ·exact(hz.l.2 z h).same s1
   ·rw[Bj.mp h];exact hx.same s1
  ·rw[Nj,hz.i]
   exact(RM.Lq (Dt x _)).mpr hnd
  ·refine⟨_,rfl,sf T (s2 _ _ (s1 _ _ hz.s)) T.Pk ?_⟩
   rw[Aya]
   have s12:=s1.trans s2
   have ks:KS s H2 (upd H2 s (.ins A.Gq dx (stF b D st.now))):=Axp
   have hs2:=s12 _ _ hz.s
   exact k _ D zs' (λa o ha h=>ks a o ha (s12 _ _ h)) ⟨Ah,ks.bnd hs2 (hz.b.same s12),ks.tlz hs2 htl,rfl,hz.hp,λz=>hT (by rw[<-z];exact s1.free hD)⟩ hpz hsd
def Dd(A:Adr):Sp:=λvs H Q _=>∃s T st dx b lp l zs g ys,vs=[.ref s,.ref g]/\StZ A H s T st dx b lp l zs/\H T≠none/\TL A H g ys/\zs.length<=sizeLine/\ys.length<=sizeLine/\
 ∀H' l',KS s H H'->StZ A H' s T {st with items:=minus st.items ys} dx b lp l' (zs.filter λz=>!(numbers ys).contains z.2.num)->Q .non H'
theorem Aoj(T:Txt K mg A):Def P w K mg base 2 "let_go" Z7 (Dd A):=by
 refine Ed T.Bmy Bvs (λvs H Q E h=>?_) (λX e1 e2 e3 e4 e5 c H vs Q E h=>?_)
 ·obtain⟨s,Ta,st,dx,b,lp,l,zs,g,ys,rfl,_⟩:=h;rfl
 ·tm_at"s"
  obtain⟨s,Ta,st,dx,b,lp,l,zs,g,ys,rfl,hz,hT,hg,hl1,hl2,k⟩:=h
  refine⟨_,Bu8 T c (Ahd T),?_⟩
  show Beo X.K A _ _ [some (.ref s),some (.ref g)] H
  unfold Beo
  tm_at"r"
  refine fv rfl (Hf T hz.s) ⟨_,rfl,l,g,zs,ys,rfl,hz.l,hg,hl1,hl2,λD H2 s2 hD htl=>?_⟩
  refine⟨_,rfl,sf T (s2 _ _ hz.s) T.Pk ?_⟩
  rw[Aya]
  have ks:KS s H2 (upd H2 s (.ins A.Gq dx (stF b D st.now))):=Axp
  have hs2:=s2 _ _ hz.s
  exact k _ D (λa o ha h=>ks a o ha (s2 _ _ h)) ⟨Ah,ks.bnd hs2 (hz.b.same s2),ks.tlz hs2 htl,by rw[Rt,hz.i],hz.hp,λz=>hT (by rw[<-z];exact hD)⟩
def Eh(A:Adr):Sp:=λvs H Q _=>∃s T st dx b lp l zs b' lp' B,vs=[.ref s,.ref b']/\StZ A H s T st dx b lp l zs/\H T≠none/\Yz A H b' lp' B/\lp'≠T/\RM.SOk st/\
 ∀D H',KS s H H'->H D=none->Asy A H' s T (O8 st B).1->H' D=some (.lst ((O8 st B).2.map V.int))->Q (.ref D) H'
theorem Bs4{st:Ci}(h:RM.SOk st):Fit st.items:=⟨Az h.len (by decide),λx hx=>⟨(h.ok x hx).rank,(h.ok x hx).sender⟩⟩
theorem Wg(T:Txt K mg A):Def P w K mg base 4 "change_bounds" Nu (Eh A):=by
 refine Ed T.Aiw Baw (λvs H Q E h=>?_) (λX e1 e2 e3 e4 e5 c H vs Q E h=>?_)
 ·obtain⟨s,Ta,st,dx,b,lp,l,zs,b',lp',B,rfl,_⟩:=h;rfl
 ·tm_at"s"
  obtain⟨s,Ta,st,dx,b,lp,l,zs,b',lp',B,rfl,hz,hT,hB,hne,hok,k⟩:=h
  refine⟨_,Ayh T c (Ahc T),?_⟩
  show Yo X.K A _ _ [some (.ref s),some (.ref b')] H
  unfold Yo
  tm_at"r"
  refine⟨_,rfl,fv rfl (Hf T hz.s) ⟨b',l,B,st.items,rfl,hB.at,⟨zs,hz.l,hz.i⟩,Bs4 hok,λH1 s1=>⟨_,rfl,?_⟩⟩⟩
  unfold O8 at k
  cases hf:fits B st.items with
  |false=>
   rw[hf,Am Ac] at k
   rw[Ck,Aq rfl]
   exact⟨by show 1<=sizeLine;decide,λp hp=>k p _ (Same.ks (s1.trans (Av hp))) (s1.free hp) ⟨dx,b,lp,l,zs,hz.same (s1.trans (Av hp))⟩ Ah⟩
  |true=>
   rw[hf,Aq rfl] at k
   rw[CK,Am Ac]
   unfold Acy
   tm_at"r"
   refine⟨_,rfl,_,rfl,sf T (s1 _ _ hz.s) T.Rn ?_⟩
   rw[Bib]
   unfold Acz
   tm_at"r"
   have hs1:=s1 _ _ hz.s
   have ks:KS s H1 (upd H1 s (.ins A.Gq dx (stF b' l st.now))):=Axp
   refine⟨by show 1<=sizeLine;decide,λp hp=>?_⟩
   have sp:=Av (o:=.lst [.int 0]) hp
   have hps:p≠s:=λz=>by rw[z,Ah] at hp;cases hp
   rw[Cd hps] at hp
   exact k p _ (λa o ha h=>sp _ _ (ks a o ha (s1 _ _ h))) (s1.free hp) ⟨dx,b',lp',l,zs,StZ.same ⟨Ah,ks.bnd hs1 (hB.same s1),ks.tlz hs1 (hz.l.same s1),hz.i,hne,hz.hl⟩ sp⟩ Ah
theorem StZ.at{A:Adr}{H:Hp}{s T dx b lp l:Addr}{st:Ci}{zs:Zs}(h:StZ A H s T st dx b lp l zs):Asy A H s T st:=⟨dx,b,lp,l,zs,h⟩
theorem Brn(n:Nat)(zs:Zs):(its zs).find? (λx=>x.num==n)=(zs.find? λz=>z.2.num==n).map (·.2):=by
 unfold its
 rw[List.find?_map]
 rfl
def Zj(st:Ci)(ns:List Int):Int:=
 if RM.Xy ns=true then(if(st.items.any λy=>y.num==(RM.Ii ns).num)=true then -6 else if(RM.Ii ns).last<=st.now then -7 else if 40<=st.items.length then -8 else 0) else -1
theorem ZP{st:Ci}{ns:List Int}(ok:RM.SOk st)(h:Zj st ns=0):RM.Xy ns=true/\RM.ND (RM.Ii ns::st.items)/\st.items.length<40/\RM.IOk (RM.Ii ns):=by
 unfold Zj at h
 split at h
 ·rename_i h6
  split at h
  ·exact absurd h (by decide)
  ·rename_i ha
   split at h
   ·exact absurd h (by decide)
   ·split at h
    ·exact absurd h (by decide)
    ·exact⟨h6,RM.Bvx ok.nd (by simpa using ha),by omega,RM.Bnr h6⟩
 ·exact absurd h (by decide)
theorem Bef(st:Ci)(ns:List Int)(f:Ci×Ho):(if RM.Xy ns=false then(st,[-1]) else Qj st (RM.Ii ns) f)=if Zj st ns=0 then f else(st,[Zj st ns]):=by
 unfold Zj Qj
 cases h6:RM.Xy ns with
 |false=>rw[Aq rfl,Am Ac,Am (by decide)]
 |true=>
  rw[Am Bool.noConfusion,Aq rfl]
  by_cases h1:(st.items.any λy=>y.num==(RM.Ii ns).num)=true
  ·rw[Aq h1,Aq h1,Am (by decide)];rfl
  ·rw[Am h1,Am h1]
   by_cases h2:(RM.Ii ns).last<=st.now
   ·rw[Aq h2,Aq h2,Am (by decide)];rfl
   ·rw[Am h2,Am h2]
    by_cases h3:40<=st.items.length
    ·rw[Aq h3,Aq (show Bjg<=_ from h3),Am (by decide)];rfl
    ·rw[Am h3,Am (show ¬Bjg<=_ from h3),Aq rfl]
def Aw(A:Adr):Sp:=λvs H Q _=>∃s T st dx b lp l zs r ns,vs=[.ref s,.ref r]/\StZ A H s T st dx b lp l zs/\H r=some (.lst (ns.map V.int))/\∀H',Same H H'->Q (.int (Zj st ns)) H'
theorem Bmh(zs:Zs)(n:Nat):((its zs).any λy=>y.num==n)=(zs.find? λz=>z.2.num==n).isSome:=by
 have h1:((its zs).find? λx=>x.num==n).isSome=(its zs).any λy=>y.num==n:=by
  rw[Qz,At5,Afd]
 rw[<-h1,Brn,Ab2]
theorem N6(T:Txt K mg A):Def P w K mg base 3 "refusal_of_new" Kc (Aw A):=by
 refine Ed T.Aft Axd (λvs H Q E h=>?_) (λX e1 e2 e3 e4 e5 c H vs Q E h=>?_)
 ·obtain⟨s,Ta,st,dx,b,lp,l,zs,r,ns,rfl,_⟩:=h;rfl
 ·tm_at"s"
  obtain⟨s,Ta,st,dx,b,lp,l,zs,r,ns,rfl,hz,hr,k⟩:=h
  refine⟨_,Awt T c (Jx T) (Mx T) (Xz T),?_⟩
  show Wj X.K A _ _ _ _ [some (.ref s),some (.ref r),none] H
  unfold Wj
  tm_at"r"
  refine⟨_,rfl,r,A.Lf,ns,XS,rfl,hr,Ky T.Vi rfl _,λH1 s1=>⟨_,rfl,?_⟩⟩
  rw[Bjy]
  unfold Zj at k
  cases h6:RM.Xy ns with
  |false=>
   rw[h6,Am Ac] at k
   rw[Ck,Aq rfl]
   exact k H1 s1
  |true=>
   rw[h6,Aq rfl] at k
   rw[CK,Am Ac]
   obtain⟨e6,e7,e8⟩:=Ui h6
   generalize RM.Ii ns=x at k e6 e7 e8
   unfold Abb
   tm_at"r"
   refine⟨_,rfl,Vb (x:=x) (by rw[<-e6];exact s1 _ _ hr) e7 e8 λa H2 s2 ha h2=>?_⟩
   have s02:=s1.trans s2
   unfold Abd
   tm_at"r"
   refine⟨_,rfl,fv rfl (Xr T h2) ⟨s,Ta,st,dx,b,lp,l,zs,x.num,rfl,hz.same s02,λhn=>⟨rfl,_,rfl,?_⟩,λz hn=>⟨rfl,_,rfl,?_⟩⟩⟩
   ·have e1:(st.items.any λy=>y.num==x.num)=false:=by rw[<-hz.i,Bmh,hn];rfl
    rw[e1,Am Ac] at k
    rw[Aj rfl,CK,Am Ac]
    unfold Abe
    tm_at"r"
    refine fv rfl (Azj T h2) (fv rfl (Afu T (s02 _ _ hz.s)) ⟨_,_,rfl,rfl,_,rfl,?_⟩)
    by_cases h7:x.last<=st.now
    ·rw[Aq h7] at k
     rw[Aq (Aj (Y0.mpr h7))]
     exact k H2 s02
    ·rw[Am h7] at k
     rw[Am (by simp only [Cj];omega)]
     unfold Abf
     tm_at"r"
     refine fv rfl (Hf T (s02 _ _ hz.s)) ⟨l,_,rfl,.inl (SqL.of (s02 _ _ hz.l.1)),_,_,rfl,rfl,_,rfl,?_⟩
     have e2:((zs.map λz=>V.ref z.1).length:Nat)=st.items.length:=by rw[Aa,<-hz.i,DK]
     rw[e2]
     by_cases h8:40<=st.items.length
     ·rw[Aq h8] at k
      rw[Aq (Aj (by omega))]
      exact k H2 s02
     ·rw[Am h8] at k
      rw[Am (by simp only [Cj];omega)]
      exact k H2 s02
   ·have e1:(st.items.any λy=>y.num==x.num)=true:=by rw[<-hz.i,Bmh,hn];rfl
    rw[e1,Aq rfl] at k
    rw[Bf (by exact λq=>V.noConfusion q),Ck,Aq rfl]
    exact k H2 s02
def arr(st:Ci)(x:Item):Ci×Ho:=match Agv st.bounds x st.items with
 |none=>(st,[0])
 |some l=>({st with items:=l},1::numbersRow (Acf st.items l))
theorem Bvz{st:Ci}{x:Item}(ok:RM.SOk st)(n:RM.ND (x::st.items)):arr st x=if RM.Xv st.bounds x st.items=true then({st with items:=RM.after st.bounds st.items x},1::numbersRow (RM.GZ st.bounds x st.items)) else(st,[0]):=by
 unfold arr
 rw[RM.Bev n ok.sd]
 cases h:RM.Xv st.bounds x st.items with
 |false=>rfl
 |true=>
  rw[Aq rfl,Aq rfl]
  dsimp only
  rw[RM.By7 n ok.sd h]
def Gv(A:Adr):Sp:=λvs H Q _=>∃s T st dx b lp l zs a x,vs=[.ref s,.ref a]/\StZ A H s T st dx b lp l zs/\H T≠none/\RM.SOk st/\Gi A H a x/\RM.ND (x::st.items)/\RM.IOk x/\
 ∀D H',Fr H H'->H D=none->Asy A H' s T (arr st x).1->H' D=some (.lst ((arr st x).2.map V.int))->Q (.ref D) H'
theorem Avp{st:Ci}{x:Item}(ok:RM.SOk st)(ox:RM.IOk x):Fit (x::st.items):=⟨by rw[Ay];have:=ok.len;omega,λy hy=>by
 rcases BP.mp hy with e|hy
 ·rw[e];exact⟨ox.rank,ox.sender⟩
 ·exact⟨(ok.ok y hy).rank,(ok.ok y hy).sender⟩⟩
theorem Bm8(st:Ci)(x:Item)(ok:RM.SOk st):(RM.GZ st.bounds x st.items).length<=40:=by
 have h1:=((RM.Bdk st.bounds x st.items).trans Iv).length_le
 have:=ok.len
 omega
theorem Bee(T:Txt K mg A):Def P w K mg base 6 "take_in" Afm (Gv A):=by
 refine Ed T.Bht Btj (λvs H Q E h=>?_) (λX e1 e2 e3 e4 e5 c H vs Q E h=>?_)
 ·obtain⟨s,Ta,st,dx,b,lp,l,zs,a,x,rfl,_⟩:=h;rfl
 ·tm_at"s"
  obtain⟨s,Ta,st,dx,b,lp,l,zs,a,x,rfl,hz,hT,ok,hx,hnd,ox,k⟩:=h
  rw[Bvz ok hnd] at k
  refine⟨_,Bqx T c (Al0 T) (Aoj T) (Bun T) (Acu T) (Jd T),?_⟩
  show Ayc X.K A _ _ _ _ _ _ [some (.ref s),some (.ref a),none] H
  unfold Ayc
  tm_at"r"
  have hfit:=Avp ok ox
  rw[<-hz.i] at hfit
  refine fv rfl (Jv T hz.s) (fv rfl (Hf T hz.s) ⟨_,rfl,b,l,a,st.bounds,zs,x,rfl,hz.b.at,hz.l,hx,hfit,λH1 s1=>⟨_,rfl,?_⟩⟩)
  rw[hz.i]
  cases ht:RM.Xv st.bounds x st.items with
  |false=>
   rw[ht,Am Ac] at k
   rw[Ck,Aq rfl]
   refine⟨by show 1<=sizeLine;decide,λp hp=>k p _ (Same.fr (s1.trans (Av hp))) (s1.free hp) (hz.same (s1.trans (Av hp))).at Ah⟩
  |true=>
   rw[ht,Aq rfl] at k
   rw[CK,Am Ac]
   unfold Az9
   tm_at"r"
   have hz1:=hz.same s1
   refine fv rfl (Jv T hz1.s) (fv rfl (Hf T hz1.s) ⟨_,rfl,b,l,a,st.bounds,zs,x,rfl,hz1.b.at,hz1.l,hx.same s1,hfit,λG H2 s2 hG hgo=>?_⟩)
   rw[hz.i] at hgo
   have hz2:=hz1.same s2
   have hx2:=hx.same (s1.trans s2)
   have hgl:=Bm8 st x ok
   have hzl:zs.length<=40:=by rw[<-DK,hz.i];exact ok.len
   unfold Baa
   tm_at"r"
   refine⟨_,rfl,_,rfl,s,Ta,st,dx,b,lp,l,zs,G,_,rfl,hz2,λq=>hT ((s1.trans s2).free q),hgo,Az hzl (by decide),Az hgl (by decide),λH3 l3 k3 hz3=>?_⟩
   have hx3:=k3.thing hz2.s hx2
   obtain⟨gz,hgz,hgi⟩:=hgo
   have hg3:=k3.tlz hz2.s hgz
   unfold Bab
   tm_at"r"
   have hT3:H3 Ta≠none:=λq=>by
    cases e:H Ta with
    |none=>exact hT e
    |some o=>
     have e2:=(s1.trans s2) _ _ e
     by_cases hts:Ta=s
     ·rw[hts,hz3.s] at q;cases q
     ·rw[k3 _ _ hts e2] at q;cases q
   refine⟨_,rfl,_,rfl,s,Ta,_,dx,b,lp,l3,_,a,x,rfl,hz3,hT3,hx3,RM.TY ((RM.JR _ _).cons_cons x) hnd,Az (CQ _ _) (Az hzl (by decide)),λH4 l4 zs4 k4 hz4 hp4 Ce0=>?_⟩
   have hg4:=k4.tlz hz3.s hg3
   have hit:its zs4=RM.after st.bounds st.items x:=by
    unfold RM.after
    rw[ht,Aq rfl]
    have pi:(its zs4).Perm (minus st.items (RM.GZ st.bounds x st.items)++[x]):=by
     have e5:its (zs.filter (λz=>!(numbers (RM.GZ st.bounds x st.items)).contains z.2.num)++[(a,x)])=minus st.items (RM.GZ st.bounds x st.items)++[x]:=by rw[Nj,Rt,hz.i];rfl
     rw[<-e5]
     exact hp4.map _
    have nd2:RM.ND (minus st.items (RM.GZ st.bounds x st.items)++[x]):=(RM.Lq (Dt x _)).mpr (RM.TY ((RM.JR _ _).cons_cons x) hnd)
    exact RM.Aor (pi.trans (RM.Ke _ _).symm) Ce0 (RM.Agd nd2)
   unfold Bac
   tm_at"r"
   refine⟨by show 1<=sizeLine;decide,λp hp=>⟨_,rfl,G,_,rfl,⟨gz,hg4.same (Av hp),hgi⟩,CJ hgl (by decide),λD H5 s5 hD h5=>?_⟩⟩
   have sp:=Av (o:=.lst [.int 1]) hp
   refine⟨p,D,_,_,rfl,rfl,s5 _ _ Ah,h5,?_,λq hq=>?_⟩
   ·rw[Aa,Iz]
    have:(100:Nat)<sizeLine:=by decide
    show 1+_<=_
    omega
   have s46:=sp.trans (s5.trans (Av (o:=.lst ([.int 1]++(numbersRow (RM.GZ st.bounds x st.items)).map V.int)) hq))
   have fr:Fr H H4:=(Same.fr (s1.trans s2)).trans ((k3.fr hz2.s).trans (k4.fr hz3.s))
   refine k q _ (fr.trans (Same.fr s46)) ?_ ?_ (by rw[Ah];rfl)
   ·have q4:H4 q=none:=sp.free (s5.free hq)
    cases e:H q with
    |none=>rfl
    |some o=>
     exfalso
     have e2:=(s1.trans s2) _ _ e
     by_cases hqs:q=s
     ·rw[hqs,hz4.s] at q4;cases q4
     ·rw[k4 _ _ hqs (k3 _ _ hqs e2)] at q4;cases q4
   ·rw[hit] at hz4
    exact(hz4.same s46).at
theorem at0(n:Int)(ms:List Int):atI (Ako V.int (n::ms)) 0=some (.int n):=KJ (j:=0) rfl
theorem at1(n m:Int)(ms:List Int):atI (Ako V.int (n::m::ms)) 1=some (.int m):=KJ (j:=1) rfl
theorem at2(n m o:Int)(ms:List Int):atI (Ako V.int (n::m::o::ms)) 2=some (.int o):=KJ (j:=2) rfl
def Rq(st:Ci)(ok:Bool)(ns:List Int):Int:=if ok=true then(if(HN st (ns.headD 0)).isSome=true then 0 else -5) else -1
def Bb(K:Frag)(A:Adr):Sp:=λvs H Q _=>∃s T st dx b lp l zs r ns ra rs,vs=[.ref s,.ref r,.ref ra]/\StZ A H s T st dx b lp l zs/\H r=some (.lst (ns.map V.int))/\Bcl K H ra rs/\(inR ns rs=true->∃(n:Nat) (ms:List Int),ns=(n:Int)::ms)/\
 ∀H',Same H H'->Q (.int (Rq st (inR ns rs) ns)) H'
theorem Aco{st:Ci}{zs:Zs}(h:its zs=st.items)(n:Nat)(ms:List Int):HN st (((n:Int)::ms).headD 0)=(zs.find? λz=>z.2.num==n).map (·.2):=by
 unfold HN
 rw[<-h,<-Brn]
 rfl
theorem N7(T:Txt K mg A):Def P w K mg base 2 "refusal_of_number" JD (Bb K A):=by
 refine Ed T.YH Ao4 (λvs H Q E h=>?_) (λX e1 e2 e3 e4 e5 c H vs Q E h=>?_)
 ·obtain⟨s,Ta,st,dx,b,lp,l,zs,r,ns,ra,rs,rfl,_⟩:=h;rfl
 ·tm_at"s"
  obtain⟨s,Ta,st,dx,b,lp,l,zs,r,ns,ra,rs,rfl,hz,hr,hra,hin,k⟩:=h
  refine⟨_,Anv T c (Jx T) (Mx T),?_⟩
  show R8 X.K A _ _ _ [some (.ref s),some (.ref r),some (.ref ra)] H
  unfold R8
  tm_at"r"
  refine⟨_,rfl,_,rfl,r,ra,ns,rs,rfl,hr,hra,λH1 s1=>⟨_,rfl,?_⟩⟩
  unfold Rq at k
  cases h6:inR ns rs with
  |false=>
   rw[h6,Am Ac] at k
   rw[Ck,Aq rfl]
   exact k H1 s1
  |true=>
   rw[h6,Aq rfl] at k
   obtain⟨n,ms,rfl⟩:=hin h6
   rw[CK,Am Ac]
   unfold V3
   tm_at"r"
   refine⟨_,rfl,_,rfl,r,_,0,_,rfl,rfl,SqL.of (s1 _ _ hr),at0 _ _,?_⟩
   rw[Aco hz.i] at k
   refine⟨s,Ta,st,dx,b,lp,l,zs,n,rfl,hz.same s1,λhn=>⟨rfl,_,rfl,?_⟩,λz hn=>⟨rfl,_,rfl,?_⟩⟩
   ·rw[hn] at k
    rw[Aj rfl,Aq rfl]
    exact k H1 s1
   ·rw[hn] at k
    rw[Bf (λq=>V.noConfusion q),Am Ac]
    exact k H1 s1
def Awi(st:Ci)(ok:Bool)(ns:List Int):Int:=if Rq st ok ns=0 then(if((HN st (ns.headD 0)).map λx=>x.promised)=some true then 0 else -9) else Rq st ok ns
def BW(A:Adr):Sp:=λvs H Q _=>∃s T st dx b lp l zs r ns,vs=[.ref s,.ref r]/\StZ A H s T st dx b lp l zs/\H r=some (.lst (ns.map V.int))/\∀H',Same H H'->Q (.int (Awi st (inR ns [(0,999)]) ns)) H'
theorem Avt{ns:List Int}{hi:Int}{rs:List (Int×Int)}(h:inR ns ((0,hi)::rs)=true):∃(n:Nat) (ms:List Int),ns=(n:Int)::ms:=by
 cases ns with
 |nil=>cases h
 |cons m ms=>
  unfold inR at h
  rw[Cm] at h
  have:=Ec h.1
  exact⟨m.toNat,ms,by rw[Gz this]⟩
theorem Uh{st:Ci}{ok:Bool}{ns:List Int}(h:Rq st ok ns=0):ok=true/\(HN st (ns.headD 0)).isSome=true:=by
 unfold Rq at h
 split at h
 ·rename_i h1
  split at h
  ·rename_i h2;exact⟨h1,h2⟩
  ·exact absurd h (by decide)
 ·exact absurd h (by decide)
theorem Vd(T:Txt K mg A):Def P w K mg base 3 "refusal_of_promised" KN (BW A):=by
 refine Ed T.V0 Aj8 (λvs H Q E h=>?_) (λX e1 e2 e3 e4 e5 c H vs Q E h=>?_)
 ·obtain⟨s,Ta,st,dx,b,lp,l,zs,r,ns,rfl,_⟩:=h;rfl
 ·tm_at"s"
  obtain⟨s,Ta,st,dx,b,lp,l,zs,r,ns,rfl,hz,hr,k⟩:=h
  refine⟨_,Ah8 T c (N7 T) (Mx T),?_⟩
  show QX X.K A _ _ _ [some (.ref s),some (.ref r),none] H
  unfold QX
  tm_at"r"
  refine⟨_,rfl,_,rfl,s,Ta,st,dx,b,lp,l,zs,r,ns,A.Le,[(0,999)],rfl,hz,hr,Ky T.Vh rfl _,Avt,λH1 s1=>?_⟩
  unfold Ue
  tm_at"r"
  refine⟨_,rfl,rfl,_,rfl,?_⟩
  unfold Awi at k
  by_cases h0:Rq st (inR ns [(0,999)]) ns=0
  ·rw[Aq h0] at k
   rw[h0,Aj rfl,CK,Am Ac]
   obtain⟨h1,h2⟩:=Uh h0
   obtain⟨n,ms,rfl⟩:=Avt h1
   unfold Ug
   tm_at"r"
   refine⟨_,rfl,_,rfl,r,_,0,_,rfl,rfl,SqL.of (s1 _ _ hr),at0 _ _,?_⟩
   rw[Aco hz.i] at k h2
   refine⟨s,Ta,st,dx,b,lp,l,zs,n,rfl,hz.same s1,λhn=>?_,λz hn=>?_⟩
   ·rw[hn] at h2;cases h2
   ·rw[hn] at k
    have hzm:=RZ hn
    obtain⟨C',dx',fs',g1,g2,g3,g4⟩:=Ag2 T ((hz.l.2 z hzm).same s1)
    refine⟨z.1,C',dx',fs',_,rfl,g1,g2,g3,g4,_,rfl,?_⟩
    cases hpr:z.2.promised with
    |false=>
     have:((some z).map (·.2)).map (λx:Item=>x.promised)=some false:=by rw[<-hpr];rfl
     rw[this,Am (λq=>by cases q)] at k
     rw[Ck,Aq rfl]
     exact k H1 s1
    |true=>
     have:((some z).map (·.2)).map (λx:Item=>x.promised)=some true:=by rw[<-hpr];rfl
     rw[this,Aq rfl] at k
     rw[CK,Am Ac]
     exact k H1 s1
  ·rw[Am h0] at k
   rw[Bf (λq=>h0 (by injection q)),Ck,Aq rfl]
   exact⟨_,rfl,k H1 s1⟩
def J9(A:Adr)(p:Int)(cnt:Nat->Prop):Sp:=λvs H Q _=>∃s r T st ns,vs=[.ref s,.ref r]/\Asy A H s T st/\RM.SOk st/\H r=some (.lst (ns.map V.int))/\r≠T/\H T≠none/\cnt ns.length/\
 ∀D H',Fr H H'->H D=none->Asy A H' s T (Dc st (RM.mkC p ns)).1->H' D=some (.lst ((Dc st (RM.mkC p ns)).2.map V.int))->Q (.ref D) H'
theorem Gw{A:Adr}{p:Int}{cnt:Nat->Prop}{vs:List V}{H:Hp}{Q:VK}{E:XK}(h:J9 A p cnt vs H Q E):vs.length=2:=by
 obtain⟨s,r,T,st,ns,rfl,_⟩:=h;rfl
theorem in1(n lo hi:Int):inR [n] [(lo,hi)]=Ax n lo hi:=by
 unfold Ax
 show(decide (lo<=n)&&(decide (n<=hi)&&true))=_
 rw[Oc]
theorem Bjx(lo hi:Int):∀(ns:List Int) (k:Nat),inR ns (Dy k (lo,hi))=(ns.length==k&&ns.all λn=>Ax n lo hi)
 |[],0=>rfl
 |[],k+1=>rfl
 |n::ns,0=>rfl
 |n::ns,k+1=>by
  have ih:=Bjx lo hi ns k
  rw[Hu]
  show(decide (lo<=n)&&(decide (n<=hi)&&inR ns (Dy k (lo,hi))))=_
  rw[ih,Jj]
  unfold Ax
  have e:((n::ns).length==k+1)=(ns.length==k):=by
   rw[Ay]
   by_cases h:ns.length=k
   ·rw[h];simp
   ·rw[DG.mpr h,DG.mpr (by omega)]
  rw[e]
  cases(ns.length==k)<;>cases(decide (lo<=n))<;>cases(decide (n<=hi))<;>rfl
theorem JM{n hi:Int}(h:Ax n 0 hi=true):∃m:Nat,n=(m:Int)/\(m:Int)<=hi:=by
 unfold Ax at h
 rw[Cm] at h
 have h1:=Ec h.1
 exact⟨n.toNat,by omega,by rw[Gz h1];exact Ec h.2⟩
theorem Axk(T:Txt K mg A){H:Hp}{b lp:Addr}{B:Bounds}(h:Yz A H b lp B):T8 K H b "limits" (.ref lp):=let⟨⟨dx,e⟩,e2,_⟩:=h;⟨_,dx,_,e,T.Xw,T.Tf,by unfold bdF;rw[J5 (by decide+kernel),YK]⟩
theorem Aka{H:Hp}{Q:VK}{v:Int}(k:∀p,H p=none->Q (.ref p) (upd H p (.lst [V.int v]))):[V.int v].length<=sizeLine/\∀p,H p=none->Q (.ref p) (upd H p (.lst [V.int v])):=⟨by show 1<=sizeLine;decide,k⟩
theorem Bkf(T:Txt K mg A):Def P w K mg base 5 "room_call" Ab7 (J9 A 0 (·=1)):=by
 refine Ed T.Azq Bmb (λvs H Q E h=>Gw h) (λX e1 e2 e3 e4 e5 c H vs Q E h=>?_)
 tm_at"s"
 tm_at"o"
 obtain⟨n,rfl⟩:=GF.mp hc
 have ek:Dc st (RM.mkC 0 [n])=if Ax n 0 200=false then(st,[-1]) else O8 st {st.bounds with room:=n.toNat}:=rfl
 rw[ek] at k
 refine⟨_,Blg T c (Wg T) (Jx T) (Aoi T),?_⟩
 show Ana X.K A _ _ _ _ [some (.ref s),some (.ref r)] H
 unfold Ana
 tm_at"r"
 refine⟨_,rfl,r,A.QM,[n],[(0,200)],rfl,hr,Ky T.Aeo rfl _,λH1 s1=>⟨_,rfl,?_⟩⟩
 rw[in1]
 cases hb:Ax n 0 200 with
 |false=>
  rw[hb,Aq rfl] at k
  rw[Ck,Aq rfl]
  tm_at"b"
 |true=>
  rw[hb,Am Bool.noConfusion] at k
  rw[CK,Am Ac]
  obtain⟨m,rfl,_⟩:=JM hb
  rw[Fq] at k
  have hz1:=hz.same s1
  unfold Ar1
  tm_at"r"
  refine⟨_,rfl,_,rfl,r,_,0,_,rfl,rfl,SqL.of (s1 _ _ hr),at0 _ _,?_⟩
  refine fv2 rfl (Jv T hz1.s) (Axk T hz1.b) (fv2 rfl (Jv T hz1.s) (Bjn T hz1.b.at) ?_)
  refine Bj3 (B:={st.bounds with room:=m}) hz1.b.2.1 hz1.b.2.2 λb' H2 s2 hb' hB=>?_
  refine⟨s,Ta,st,dx,b,lp,l,zs,b',lp,_,rfl,hz1.same s2,λq=>hT ((s1.trans s2).free q),hB,hz.hp,ok,λD H3 k3 hD h3 hl=>?_⟩
  exact k D H3 ((Same.fr (s1.trans s2)).trans (k3.fr ((s1.trans s2) _ _ hz.s))) ((s1.trans s2).free hD) h3 hl
theorem Bgm(T:Txt K mg A):Def P w K mg base 5 "share_call" Zb (J9 A 2 (·=1)):=by
 refine Ed T.Avl Bjc (λvs H Q E h=>Gw h) (λX e1 e2 e3 e4 e5 c H vs Q E h=>?_)
 tm_at"s"
 tm_at"o"
 obtain⟨n,rfl⟩:=GF.mp hc
 have ek:Dc st (RM.mkC 2 [n])=if Ax n 0 200=false then(st,[-1]) else O8 st {st.bounds with share:=n.toNat}:=rfl
 rw[ek] at k
 refine⟨_,Bg5 T c (Wg T) (Jx T) (Aoi T),?_⟩
 show Ahw X.K A _ _ _ _ [some (.ref s),some (.ref r)] H
 unfold Ahw
 tm_at"r"
 refine⟨_,rfl,r,A.QM,[n],[(0,200)],rfl,hr,Ky T.Aeo rfl _,λH1 s1=>⟨_,rfl,?_⟩⟩
 rw[in1]
 cases hb:Ax n 0 200 with
 |false=>
  rw[hb,Aq rfl] at k
  rw[Ck,Aq rfl]
  tm_at"b"
 |true=>
  rw[hb,Am Bool.noConfusion] at k
  rw[CK,Am Ac]
  obtain⟨m,rfl,_⟩:=JM hb
  rw[Fq] at k
  have hz1:=hz.same s1
  unfold Anb
  tm_at"r"
  refine⟨_,rfl,fv2 rfl (Jv T hz1.s) (Axj T hz1.b.at) (fv2 rfl (Jv T hz1.s) (Axk T hz1.b) ⟨_,rfl,r,_,0,_,rfl,rfl,SqL.of (s1 _ _ hr),at0 _ _,?_⟩)⟩
  refine Bj3 (B:={st.bounds with share:=m}) hz1.b.2.1 hz1.b.2.2 λb' H2 s2 hb' hB=>?_
  refine⟨s,Ta,st,dx,b,lp,l,zs,b',lp,_,rfl,hz1.same s2,λq=>hT ((s1.trans s2).free q),hB,hz.hp,ok,λD H3 k3 hD h3 hl=>?_⟩
  exact k D H3 ((Same.fr (s1.trans s2)).trans (k3.fr ((s1.trans s2) _ _ hz.s))) ((s1.trans s2).free hD) h3 hl
theorem Bud{ns:List Int}(h:(ns.all λn=>Ax n 0 200)=true):(ns.map MK).map (λ(n:Nat)=>V.int n)=ns.map V.int:=by
 rw[Df]
 refine Fv λn hn=>?_
 obtain⟨m,rfl,_⟩:=JM (Ep.mp h n hn)
 rfl
theorem Beb(T:Txt K mg A):Def P w K mg base 5 "limits_call" Ws (J9 A 1 (λ_=>True)):=by
 refine Ed T.Aqr Bfx (λvs H Q E h=>Gw h) (λX e1 e2 e3 e4 e5 c H vs Q E h=>?_)
 tm_at"s"
 tm_at"o"
 have ek:Dc st (RM.mkC 1 ns)=if(ns.length==10&&ns.all λn=>Ax n 0 200)=false then(st,[-1]) else O8 st {st.bounds with limits:=ns.map MK}:=rfl
 rw[ek] at k
 refine⟨_,Be7 T c (Wg T) (Jx T) (Aoi T),?_⟩
 show Ae2 X.K A _ _ _ _ [some (.ref s),some (.ref r)] H
 unfold Ae2
 tm_at"r"
 refine⟨_,rfl,r,A.Vz,ns,Dy 10 (0,200),rfl,hr,Ky T.Ama rfl _,λH1 s1=>⟨_,rfl,?_⟩⟩
 rw[Bjx]
 cases hb:(ns.length==10&&ns.all λn=>Ax n 0 200) with
 |false=>
  rw[hb,Aq rfl] at k
  rw[Ck,Aq rfl]
  tm_at"b"
 |true=>
  rw[hb,Am Bool.noConfusion] at k
  rw[CK,Am Ac]
  rw[Cm] at hb
  have hz1:=hz.same s1
  unfold Ajs
  tm_at"r"
  refine⟨_,rfl,fv2 rfl (Jv T hz1.s) (Axj T hz1.b.at) ⟨_,rfl,fv2 rfl (Jv T hz1.s) (Bjn T hz1.b.at) ?_⟩⟩
  refine Bj3 (B:={st.bounds with limits:=ns.map MK}) (lp:=r) (by unfold Bgf;rw[Bud hb.2];exact s1 _ _ hr) (by show(ns.map MK).length=10;rw[Aa];exact eq_of_beq hb.1) λb' H2 s2 hb' hB=>?_
  refine⟨s,Ta,st,dx,b,lp,l,zs,b',r,_,rfl,hz1.same s2,λq=>hT ((s1.trans s2).free q),hB,hrT,ok,λD H3 k3 hD h3 hl=>?_⟩
  exact k D H3 ((Same.fr (s1.trans s2)).trans (k3.fr ((s1.trans s2) _ _ hz.s))) ((s1.trans s2).free hD) h3 hl
theorem Bxc{ns:List Int}(h:ns.length=6):∃a b c d e f,ns=[a,b,c,d,e,f]:=by
 match ns,h with
 |[a,b,c,d,e,f],_=>exact⟨a,b,c,d,e,f,rfl⟩
theorem Bot(st:Ci){ns:List Int}(h:ns.length=6):Dc st (RM.mkC 3 ns)=if Zj st ns=0 then arr st (RM.Ii ns) else(st,[Zj st ns]):=by
 rw[<-Bef]
 obtain⟨a,b,c,d,e,f,rfl⟩:=Bxc h
 rfl
theorem Bqs(st:Ci){ns:List Int}(h:ns.length=6):Dc st (RM.mkC 4 ns)=if Zj st ns=0 then(st,(arr st (RM.Ii ns)).2) else(st,[Zj st ns]):=by
 rw[<-Bef]
 obtain⟨a,b,c,d,e,f,rfl⟩:=Bxc h
 have e2:Dc st (RM.mkC 4 [a,b,c,d,e,f])=if RM.Xy [a,b,c,d,e,f]=false then(st,[-1]) else Qj st (RM.Ii [a,b,c,d,e,f]) (st,match Agv st.bounds (RM.Ii [a,b,c,d,e,f]) st.items with
    |none=>[0]
    |some l=>1::numbersRow (Acf st.items l)):=rfl
 rw[e2]
 unfold arr
 cases Agv st.bounds (RM.Ii [a,b,c,d,e,f]) st.items<;>rfl
theorem Bd6(T:Txt K mg A):Def P w K mg base 7 "arrive_call" Wn (J9 A 3 (·=6)):=by
 refine Ed T.Aqk Bfq (λvs H Q E h=>Gw h) (λX e1 e2 e3 e4 e5 c H vs Q E h=>?_)
 tm_at"s"
 tm_at"o"
 rw[Bot st hc] at k
 refine⟨_,Be0 T c (N6 T) (Bee T) (Xz T),?_⟩
 show Aes X.K A _ _ _ _ [some (.ref s),some (.ref r),none] H
 unfold Aes
 tm_at"r"
 refine⟨_,rfl,_,rfl,s,Ta,st,dx,b,lp,l,zs,r,ns,rfl,hz,hr,λH1 s1=>?_⟩
 have hz1:=hz.same s1
 unfold Ajc
 tm_at"r"
 refine⟨_,rfl,rfl,_,rfl,?_⟩
 by_cases h0:Zj st ns=0
 ·rw[Aq h0] at k
  rw[h0,Aj rfl,CK,Am Ac]
  obtain⟨h6,hnd,h40,ox⟩:=ZP ok h0
  obtain⟨e6,e7,e8⟩:=Ui h6
  unfold Ajd
  tm_at"r"
  refine⟨_,rfl,_,rfl,Vb (x:=RM.Ii ns) (by rw[<-e6];exact s1 _ _ hr) e7 e8 λa H2 s2 ha h2=>?_⟩
  exact⟨s,Ta,st,dx,b,lp,l,zs,a,_,rfl,hz1.same s2,λq=>hT ((s1.trans s2).free q),ok,h2,hnd,ox,λD H3 fr hD h3 hl=>k D H3 ((Same.fr (s1.trans s2)).trans fr) ((s1.trans s2).free hD) h3 hl⟩
 ·rw[Am h0] at k
  rw[Bf (λq=>h0 (by injection q)),Ck,Aq rfl]
  tm_at"e"
theorem Bgo(T:Txt K mg A):Def P w K mg base 5 "would_call" Zd (J9 A 4 (·=6)):=by
 refine Ed T.Avo Bjf (λvs H Q E h=>Gw h) (λX e1 e2 e3 e4 e5 c H vs Q E h=>?_)
 tm_at"s"
 tm_at"o"
 rw[Bqs st hc] at k
 refine⟨_,Bg8 T c (N6 T) (Acu T) (Jd T) (Al0 T) (Xz T),?_⟩
 show Ahz X.K A _ _ _ _ _ _ [some (.ref s),some (.ref r),none,none] H
 unfold Ahz
 tm_at"r"
 refine⟨_,rfl,_,rfl,s,Ta,st,dx,b,lp,l,zs,r,ns,rfl,hz,hr,λH1 s1=>?_⟩
 have hz1:=hz.same s1
 unfold Anm
 tm_at"r"
 refine⟨_,rfl,rfl,_,rfl,?_⟩
 by_cases h0:Zj st ns=0
 ·rw[Aq h0] at k
  rw[h0,Aj rfl,CK,Am Ac]
  obtain⟨h6,hnd,h40,ox⟩:=ZP ok h0
  obtain⟨e6,e7,e8⟩:=Ui h6
  rw[Bvz ok hnd] at k
  unfold Ann
  tm_at"r"
  refine⟨_,rfl,Vb (x:=RM.Ii ns) (by rw[<-e6];exact s1 _ _ hr) e7 e8 λa H2 s2 ha h2=>?_⟩
  generalize RM.Ii ns=x at k h2 ox hnd
  have hz2:=hz1.same s2
  have hfit:=Avp ok ox
  rw[<-hz.i] at hfit
  unfold Ano
  tm_at"r"
  refine fv rfl (Jv T hz2.s) (fv rfl (Hf T hz2.s) ⟨_,rfl,b,l,a,st.bounds,zs,x,rfl,hz2.b.at,hz2.l,h2,hfit,λH3 s3=>⟨_,rfl,?_⟩⟩)
  rw[hz.i]
  have hz3:=hz2.same s3
  have s03:=s1.trans (s2.trans s3)
  cases ht:RM.Xv st.bounds x st.items with
  |false=>
   rw[ht,Am Ac] at k
   rw[Ck,Aq rfl]
   exact Aka λp hp=>k p _ (Same.fr (s03.trans (Av hp))) (s03.free hp) (hz3.same (Av hp)).at Ah
  |true=>
   rw[ht,Aq rfl] at k
   rw[CK,Am Ac]
   unfold Anp
   tm_at"r"
   refine⟨by show 1<=sizeLine;decide,λp hp=>?_⟩
   have sp:=Av (o:=.lst [.int 1]) hp
   have hz4:=hz3.same sp
   refine fv rfl (Jv T hz4.s) (fv rfl (Hf T hz4.s) ⟨_,rfl,b,l,a,st.bounds,zs,x,rfl,hz4.b.at,hz4.l,h2.same (s3.trans sp),hfit,λG H5 s5 hG hgo=>?_⟩)
   rw[hz.i] at hgo
   have hgl:=Bm8 st x ok
   refine⟨G,_,rfl,hgo,CJ hgl (by decide),λD H6 s6 hD h6'=>?_⟩
   refine⟨p,D,_,_,rfl,rfl,s6 _ _ (s5 _ _ Ah),h6',?_,λq hq=>?_⟩
   ·rw[Aa,Iz]
    have:(100:Nat)<sizeLine:=by decide
    show 1+_<=_
    omega
   have s36:=sp.trans (s5.trans (s6.trans (Av (o:=.lst ([.int 1]++(numbersRow (RM.GZ st.bounds x st.items)).map V.int)) hq)))
   exact k q _ (Same.fr (s03.trans s36)) (s03.free (sp.free (s5.free (s6.free hq)))) (hz3.same s36).at (by rw[Ah];rfl)
 ·rw[Am h0] at k
  rw[Bf (λq=>h0 (by injection q)),Ck,Aq rfl]
  tm_at"e"
theorem Byd{st:Ci}(ok:RM.SOk st){ns:List Int}(h:ns.length=6):Dc st (RM.mkC 5 ns)=if Zj st ns=0 then(st,let q:=RM.brk st.bounds (RM.ng (RM.Ii ns) st.items++[RM.Ii ns]);(q.length:Int)::Hl (q.flatMap λp=>[p.1,p.2])) else(st,[Zj st ns]):=by
 have e2:Dc st (RM.mkC 5 ns)=if RM.Xy ns=false then(st,[-1]) else Qj st (RM.Ii ns) (st,let q:=if(Agv st.bounds (RM.Ii ns) st.items).isSome=true then [] else Vbdtag.broken st.bounds (RM.Ii ns) st.items;(q.length:Int)::Hl (q.flatMap λp=>[p.1,p.2])):=by
  obtain⟨a,b,c,d,e,f,rfl⟩:=Bxc h
  rfl
 rw[e2,Bef]
 by_cases h0:Zj st ns=0
 ·rw[Aq h0,Aq h0]
  obtain⟨_,hnd,_,ox⟩:=ZP ok h0
  rw[RM.Byq hnd ok.sd ok.fit ox.sender]
 ·rw[Am h0,Am h0]
theorem By2(B:Bounds)(xs:List Item):(RM.brk B xs).length<=19:=by
 rw[Bhm,Bg,Bg]
 have h1:=Bkq B xs
 have h2:=Bdv B xs 10
 have h3:=Bom B xs 8
 omega
def Ath(ps:List (Nat×Nat)):List V:=(Hl (ps.flatMap λp=>[p.1,p.2])).map V.int
theorem Bqg(ps:List (Nat×Nat)):(Ath ps).length=2*ps.length:=by
 unfold Ath Hl
 rw[Aa,Aa]
 induction ps with
 |nil=>rfl
 |cons p r ih=>
  rw[GR,Bg,ih,Ay (as:=r)]
  show 2+_=_
  omega
theorem Bn0(ps:List (Nat×Nat))(p:Nat×Nat):Ath (ps++[p])=Ath ps++[V.int p.1,V.int p.2]:=by
 unfold Ath Hl
 rw[Oo,Bd,Bd];rfl
theorem Bnu(T:Txt K mg A):Def P w K mg base 4 "why_call" Agq (J9 A 5 (·=6)):=by
 refine Ed T.Bc5 Bpe (λvs H Q E h=>Gw h) (λX e1 e2 e3 e4 e5 c H vs Q E h=>?_)
 tm_at"s"
 tm_at"o"
 rw[Byd ok hc] at k
 refine⟨_,Bo1 T c (N6 T) (Afy T) (SM T) (Xz T),?_⟩
 show Atn X.K A _ _ _ _ _ [some (.ref s),some (.ref r),none,none,none,none,none] H
 unfold Atn
 tm_at"r"
 refine⟨_,rfl,_,rfl,s,Ta,st,dx,b,lp,l,zs,r,ns,rfl,hz,hr,λH1 s1=>?_⟩
 have hz1:=hz.same s1
 unfold Awc
 tm_at"r"
 refine⟨_,rfl,rfl,_,rfl,?_⟩
 by_cases h0:Zj st ns=0
 ·rw[Aq h0] at k
  rw[h0,Aj rfl,CK,Am Ac]
  obtain⟨h6,hnd,h40,ox⟩:=ZP ok h0
  obtain⟨e6,e7,e8⟩:=Ui h6
  unfold Awd
  tm_at"r"
  refine⟨_,rfl,Vb (x:=RM.Ii ns) (by rw[<-e6];exact s1 _ _ hr) e7 e8 λa H2 s2 ha h2=>?_⟩
  generalize RM.Ii ns=x at k h2 ox hnd
  have hz2:=hz1.same s2
  have hzl:zs.length<=40:=by rw[<-DK,hz.i];exact ok.len
  unfold Awe
  tm_at"r"
  refine fv rfl (Jv T hz2.s) (fv rfl (Hf T hz2.s) ⟨_,rfl,l,a,zs,x,rfl,hz2.l,h2,Az hzl (by decide),λN H3 s3 hN hn=>⟨_,rfl,by show 1<=sizeLine;decide,λp hp=>?_⟩⟩)
  have hnl:=CQ (λz:Addr×Item=>!(stronger x z.2&&!z.2.bound)) zs
  refine⟨N,p,_,[.ref a],rfl,rfl,(Av hp) _ _ hn.1,Ah,?_,λq hq=>?_⟩
  ·rw[Aa]
   have:=big5
   show _+1<=_
   omega
  have s4:=(Av (o:=.lst [.ref a]) hp).trans (Av (o:=.lst (rf (zs.filter λz=>!(stronger x z.2&&!z.2.bound))++[.ref a])) hq)
  have hss:its (zs.filter (λz=>!(stronger x z.2&&!z.2.bound))++[(a,x)])=RM.ng x st.items++[x]:=by rw[Nj,Bj6,hz.i];rfl
  have s34:=s3.trans s4
  refine⟨b,q,st.bounds,RM.ng x st.items++[x],rfl,hz2.b.at.same s34,⟨_,⟨by rw[Ah,Bd];rfl,λz hz'=>?_⟩,hss⟩,Bjq (Avp ok ox) (λy hy=>?_) ?_,λD H5 s5 hD hp5=>?_⟩
  ·rcases Bw.mp hz' with h|h
   ·exact(hn.2 z h).same s4
   ·rw[Bj.mp h];exact h2.same s34
  ·rcases Bw.mp hy with h|h
   ·exact .inr (DP.mp h).1
   ·exact .inl (Bj.mp h)
  ·rw[Bg]
   exact Afk (CQ _ _)
  have hbl:=By2 st.bounds (RM.ng x st.items++[x])
  generalize RM.brk st.bounds (RM.ng x st.items++[x])=ps at hp5 hbl k
  have s05:=s1.trans (s2.trans (s34.trans s5))
  have hz5:=hz.same s05
  obtain⟨ts,hDl,hps⟩:=hp5
  have htl:=Paired.length hps
  unfold Awf
  tm_at"r"
  refine⟨_,rfl,D,_,rfl,.inl (SqL.of hDl),by show 1<=sizeLine;decide,λR hR=>?_⟩
  rw[Aa,htl]
  have sR:=Av (o:=.lst [V.int (ps.length:Nat)]) hR
  have hRD:D≠R:=λz=>by rw[<-z,hDl] at hR;cases hR
  unfold Awg
  tm_at"r"
  refine⟨_,rfl,D,rfl,⟨_,SqL.of (sR _ _ hDl)⟩,JZ (K:=X.K) (a:=D) (xs:=ts.map V.ref) (λi σ H'=>∃v,σ=[some (.ref s),some (.ref r),some (.int (Zj st ns)),some (.ref a),some (.ref D),some (.ref R),v]/\H'=upd H5 R (.lst (V.int (ps.length:Nat)::Ath (ps.take i))))
   ⟨none,by rw[h0];rfl,by rw[Fb];rfl⟩ (λi σ H' _ ⟨_,_,e⟩=>by rw[e];exact SqL.of (by rw[Cd hRD];exact hDl)) ?turn ?fin⟩
  case turn=>
   rintro i v σ H' hv ⟨v6,rfl,rfl⟩
   rw[Bk] at hv
   obtain⟨t,hn',rfl⟩:∃t,ts[i]?=some t/\V.ref t=v:=J8 hv
   obtain⟨pr,hpr,hpt⟩:=KZ hps hn'
   have htR:t≠R:=λz=>by rw[z,hR] at hpt;cases hpt
   tm_at"r"
   refine⟨_,rfl,.inl ⟨rfl,_,SqL.of Ah⟩,_,rfl,.inr ⟨R,t,_,_,rfl,rfl,Ah,SqT.of (by rw[Cd htR];exact hpt),?_,_,rfl,?_⟩⟩
   ·rw[Ay,Bqg,Er]
    have:(100:Nat)<sizeLine:=by decide
    show _+2<=_
    omega
   ·rw[Mu,take_snoc hpr,Bn0];rfl
  case fin=>
   rintro σ H' ⟨v6,rfl,rfl⟩
   rw[Aa,htl,DR]
   dsimp only
   unfold Awh
   have sR':=Av (o:=.lst (V.int (ps.length:Nat)::Ath ps)) hR
   exact⟨_,rfl,k R _ (Same.fr (s05.trans sR')) (s05.free hR) (hz5.same sR').at Ah⟩
 ·rw[Am h0] at k
  rw[Bf (λq=>h0 (by injection q)),Ck,Aq rfl]
  tm_at"e"
theorem Bkj{st:Ci}{n:Int}(f:Item->Ci×Ho):(if Ax n 0 999=false then(st,[-1]) else K7 st n f)=if Rq st (Ax n 0 999) [n]=0 then(match HN st n with|some x=>f x|none=>(st,[-5])) else(st,[Rq st (Ax n 0 999) [n]]):=by
 unfold Rq K7
 cases Ax n 0 999 with
 |false=>rfl
 |true=>
  rw[Am Bool.noConfusion,Aq rfl]
  show(match HN st n with|none=>V9 st 5|some x=>f x)=if(if(HN st n).isSome=true then(0:Int) else -5)=0 then _ else(st,[if(HN st n).isSome=true then(0:Int) else -5])
  cases HN st n with
  |none=>rfl
  |some x=>rfl
theorem Awz{zs:Zs}{st:Ci}(h:its zs=st.items){m:Nat}{z:Addr×Item}(e:(zs.find? λz=>z.2.num==m)=some z):HN st (m:Int)=some z.2/\z∈zs/\z.2∈st.items/\z.2.num=m:=by
 have h1:=Aco h m []
 rw[e] at h1
 have h2:=RZ e
 have h3:=Bao e
 exact⟨h1,h2,by rw[<-h];exact Rz h2,eq_of_beq h3⟩
theorem Bsb{X:Cx}(T:Txt X.K X.mg A){H:Hp}{s Ta dx b lp l:Addr}{st:Ci}{zs:Zs}{z:Addr×Item}{Q:VK}{G:Addr}(hz:StZ A H s Ta st dx b lp l zs)(hT:H Ta≠none)(ok:RM.SOk st)(hzm:z∈zs)(hG:H G=none)
  (k:∀H' l',KS s (upd H G (.lst [.ref z.1])) H'->StZ A H' s Ta {st with items:=minus st.items [z.2]} dx b lp l' (zs.filter λu=>!(numbers [z.2]).contains u.2.num)->Q .non H'):Dd A [.ref s,.ref G] (upd H G (.lst [.ref z.1])) Q E0:=by
 have hzl:zs.length<=40:=by rw[<-DK,hz.i];exact ok.len
 have sG:=Av (o:=.lst [.ref z.1]) hG
 exact⟨s,Ta,st,dx,b,lp,l,zs,G,[z.2],rfl,hz.same sG,λq=>hT (sG.free q),⟨[z],⟨Ah,λu hu=>by rw[Bj.mp hu];exact(hz.l.2 z hzm).same sG⟩,rfl⟩,Az hzl (by decide),by show 1<=sizeLine;decide,k⟩
theorem Bbz{H H1 H2:Hp}{s Ta:Addr}{A:Adr}{dx b lp l:Addr}{st:Ci}{zs:Zs}(s1:Same H H1)(k:KS s H1 H2)(hz:StZ A H2 s Ta st dx b lp l zs){q:Addr}(h:H2 q=none):H q=none:=by
 cases e:H q with
 |none=>rfl
 |some o=>
  exfalso
  by_cases hqs:q=s
  ·rw[hqs,hz.s] at h;cases h
  ·rw[k _ _ hqs (s1 _ _ e)] at h;cases h
theorem Bj9(T:Txt K mg A):Def P w K mg base 3 "drop_call" Ab4 (J9 A 6 (·=1)):=by
 refine Ed T.Azi Bl4 (λvs H Q E h=>Gw h) (λX e1 e2 e3 e4 e5 c H vs Q E h=>?_)
 tm_at"s"
 tm_at"o"
 obtain⟨n,rfl⟩:=GF.mp hc
 have ek:Dc st (RM.mkC 6 [n])=if Ax n 0 999=false then(st,[-1]) else K7 st n λx=>if x.bound=true then V9 st 9 else({st with items:=minus st.items [x]},[(st.items.length:Int)-1]):=rfl
 rw[ek,Bkj] at k
 refine⟨_,Bk8 T c (N7 T) (Mx T) (Aoj T),?_⟩
 show Ams X.K A _ _ _ _ [some (.ref s),some (.ref r),none,none] H
 unfold Ams
 tm_at"r"
 refine⟨_,rfl,_,rfl,s,Ta,st,dx,b,lp,l,zs,r,[n],A.Le,[(0,999)],rfl,hz,hr,Ky T.Vh rfl _,Avt,λH1 s1=>?_⟩
 rw[in1]
 have hz1:=hz.same s1
 unfold Arc
 tm_at"r"
 refine⟨_,rfl,rfl,_,rfl,?_⟩
 by_cases h0:Rq st (Ax n 0 999) [n]=0
 ·rw[Aq h0] at k
  rw[h0,Aj rfl,CK,Am Ac]
  obtain⟨h1,h2⟩:=Uh h0
  obtain⟨m,rfl,_⟩:=JM h1
  unfold Ard
  tm_at"r"
  refine⟨_,rfl,_,rfl,r,_,0,_,rfl,rfl,SqL.of (s1 _ _ hr),at0 _ _,s,Ta,st,dx,b,lp,l,zs,m,rfl,hz1,λhn=>?_,λz hn=>?_⟩
  ·rw[Aco hz.i,hn] at h2;cases h2
  obtain⟨g1,g2,g3,g4⟩:=Awz hz.i hn
  rw[g1] at k
  dsimp only at k
  unfold Arf
  tm_at"r"
  refine fv rfl (f_bound T ((hz.l.2 z g2).same s1)) ⟨_,rfl,?_⟩
  cases hb:z.2.bound with
  |true=>
   rw[hb,Aq rfl] at k
   rw[Aq rfl]
   tm_at"b"
  |false=>
   rw[hb,Am Ac] at k
   rw[Am Ac]
   unfold Arh
   tm_at"r"
   refine⟨_,rfl,_,rfl,by show 1<=sizeLine;decide,λG hG=>Bsb T hz1 (λq=>hT (s1.free q)) ok g2 hG λH3 l3 k3 hz3=>?_⟩
   have sG:=Av (o:=.lst [.ref z.1]) hG
   unfold Ari
   tm_at"r"
   refine fv rfl (Hf T hz3.s) ⟨l3,_,rfl,.inl (SqL.of hz3.l.1),Aka λp hp=>?_⟩
   have hln:=RM.Aej ok.nd g3
   refine k p _ ((Same.fr (s1.trans sG)).trans ((k3.fr (sG _ _ hz1.s)).trans (Same.fr (Av hp)))) (Bbz (s1.trans sG) k3 hz3 hp) (hz3.same (Av hp)).at ?_
   have e3:((zs.filter λu=>!(numbers [z.2]).contains u.2.num).map λz=>V.ref z.1).length=(minus st.items [z.2]).length:=by rw[Aa,<-DK,Rt,hz.i]
   rw[Ah,e3]
   show _=some (HO.lst [V.int ((st.items.length:Int)-1)])
   rw[<-hln]
   congr 3
   congr 1
   omega
 ·rw[Am h0] at k
  rw[Bf (λq=>h0 (by injection q)),Ck,Aq rfl]
  tm_at"e"
theorem Bso{st:Ci}{n:Int}(f:Item->Ci×Ho):(if Ax n 0 999=false then(st,[-1]) else K7 st n λx=>if x.promised=false then V9 st 9 else f x)=if Awi st (Ax n 0 999) [n]=0 then(match HN st n with|some x=>f x|none=>(st,[-5])) else(st,[Awi st (Ax n 0 999) [n]]):=by
 rw[Bkj]
 unfold Awi
 by_cases h0:Rq st (Ax n 0 999) [n]=0
 ·rw[Aq h0,Aq h0]
  obtain⟨_,h2⟩:=Uh h0
  have e:HN st (([n]:List Int).headD 0)=HN st n:=rfl
  rw[e] at h2|-
  cases hf:HN st n with
  |none=>rw[hf] at h2;cases h2
  |some x=>
   dsimp only
   cases hp:x.promised with
   |false=>
    have:(some x).map (λy:Item=>y.promised)=some false:=by rw[<-hp];rfl
    rw[this,Aq rfl,Am (by intro q;simp at q)]
    rfl
   |true=>
    have:(some x).map (λy:Item=>y.promised)=some true:=by rw[<-hp];rfl
    rw[this,Am Bool.noConfusion,Aq rfl,Aq rfl]
 ·rw[Am h0,Am h0,Am h0]
theorem Ber{st:Ci}{ok:Bool}{ns:List Int}(h:Awi st ok ns=0):ok=true/\(HN st (ns.headD 0)).isSome=true:=by
 unfold Awi at h
 split at h
 ·rename_i h1;exact Uh h1
 ·rename_i h1;exact absurd h h1
theorem Bd7(T:Txt K mg A):Def P w K mg base 4 "cancel_call" Wo (J9 A 10 (·=1)):=by
 refine Ed T.Aqm Bfs (λvs H Q E h=>Gw h) (λX e1 e2 e3 e4 e5 c H vs Q E h=>?_)
 tm_at"s"
 tm_at"o"
 obtain⟨n,rfl⟩:=GF.mp hc
 have ek:Dc st (RM.mkC 10 [n])=if Ax n 0 999=false then(st,[-1]) else K7 st n λx=>if x.promised=false then V9 st 9 else({st with items:=minus st.items [x]},[(st.items.length:Int)-1]):=rfl
 rw[ek,Bso] at k
 refine⟨_,Be2 T c (Vd T) (Aoj T) (Mx T),?_⟩
 show Aev X.K A _ _ _ _ [some (.ref s),some (.ref r),none] H
 unfold Aev
 tm_at"r"
 refine⟨_,rfl,_,rfl,s,Ta,st,dx,b,lp,l,zs,r,[n],rfl,hz,hr,λH1 s1=>?_⟩
 rw[in1]
 have hz1:=hz.same s1
 unfold Ajg
 tm_at"r"
 refine⟨_,rfl,rfl,_,rfl,?_⟩
 by_cases h0:Awi st (Ax n 0 999) [n]=0
 ·rw[Aq h0] at k
  rw[h0,Aj rfl,CK,Am Ac]
  obtain⟨h1,h2⟩:=Ber h0
  obtain⟨m,rfl,_⟩:=JM h1
  unfold Ajh
  tm_at"r"
  refine⟨_,rfl,_,rfl,_,rfl,r,_,0,_,rfl,rfl,SqL.of (s1 _ _ hr),at0 _ _,s,Ta,st,dx,b,lp,l,zs,m,rfl,hz1,λhn=>?_,λz hn=>?_⟩
  ·rw[Aco hz.i,hn] at h2;cases h2
  obtain⟨g1,g2,g3,g4⟩:=Awz hz.i hn
  rw[g1] at k
  dsimp only at k
  refine⟨by show 1<=sizeLine;decide,λG hG=>Bsb T hz1 (λq=>hT (s1.free q)) ok g2 hG λH3 l3 k3 hz3=>?_⟩
  have sG:=Av (o:=.lst [.ref z.1]) hG
  unfold Aji
  tm_at"r"
  refine fv rfl (Hf T hz3.s) ⟨l3,_,rfl,.inl (SqL.of hz3.l.1),Aka λp hp=>?_⟩
  have hln:=RM.Aej ok.nd g3
  refine k p _ ((Same.fr (s1.trans sG)).trans ((k3.fr (sG _ _ hz1.s)).trans (Same.fr (Av hp)))) (Bbz (s1.trans sG) k3 hz3 hp) (hz3.same (Av hp)).at ?_
  have e3:((zs.filter λu=>!(numbers [z.2]).contains u.2.num).map λz=>V.ref z.1).length=(minus st.items [z.2]).length:=by rw[Aa,<-DK,Rt,hz.i]
  rw[Ah,e3]
  show _=some (HO.lst [V.int ((st.items.length:Int)-1)])
  rw[<-hln]
  congr 3
  congr 1
  omega
 ·rw[Am h0] at k
  rw[Bf (λq=>h0 (by injection q)),Ck,Aq rfl]
  tm_at"e"
theorem Bh6{α β:Type}{f:α->β}:∀{l:List α},(l.map f).Nodup->∀{a b:α},a∈l->b∈l->f a=f b->a=b
 |[],_,_,_,h,_,_=>nomatch h
 |x::l,n,a,b,ha,hb,e=>by
  rw[Bo,Gj] at n
  rcases BP.mp ha with h1|h1
  ·rcases BP.mp hb with h2|h2
   ·rw[h1,h2]
   ·exact absurd (by rw[<-h1,e];exact Cw h2) n.1
  ·rcases BP.mp hb with h2|h2
   ·exact absurd (by rw[<-h2,<-e];exact Cw h1) n.1
   ·exact Bh6 n.2 h1 h2 e
theorem Cdt{zs:Zs}(n:RM.ND (its zs)){u z:Addr×Item}(hu:u∈zs)(hz:z∈zs)(e:u.2.num=z.2.num):u=z:=by
 unfold RM.ND its at n
 rw[Df] at n
 exact Bh6 n hu hz e
theorem Bu6{A:Adr}{H:Hp}{a:Addr}{x y:Item}(h:Gi A H a x)(g:Gi A H a y):x=y:=by
 obtain⟨C,dx,ex,e,_⟩:=h
 obtain⟨C',dx',ex',e',_⟩:=g
 rw[e] at e'
 have e2:thF x++ex=thF y++ex':=by
  injection e' with e'
  injection e'
 rw[Ng,Ng] at e2
 obtain⟨n,s,r,l,sd,wo,bd,pr⟩:=x
 obtain⟨n',s',r',l',sd',wo',bd',pr'⟩:=y
 simp only [List.cons.injEq,Prod.mk.injEq,V.int.injEq,V.bl.injEq,true_and,X8] at e2
 simp_all
theorem Bkm(x:Item)(ex:List (Str×V))(v:Bool):Nm "bound" (.bl v) (thF x++ex)=thF {x with bound:=v}++ex:=by
 rw[Ng,R3 (by decide+kernel),R3 (by decide+kernel),R3 (by decide+kernel),R3 (by decide+kernel),R3 (by decide+kernel),R3 (by decide+kernel),Bn3];rfl
theorem Beh(x:Item)(ex:List (Str×V))(v:Bool):Nm "promised" (.bl v) (thF x++ex)=thF {x with promised:=v}++ex:=by
 rw[Ng,R3 (by decide+kernel),R3 (by decide+kernel),R3 (by decide+kernel),R3 (by decide+kernel),R3 (by decide+kernel),R3 (by decide+kernel),R3 (by decide+kernel),Bn3];rfl
theorem Awr(T:Txt K mg A){C:Addr}{ex:List (Str×V)}(t:Tail A C ex)(x:Item):Cls K C/\HY K C "bound"/\HY K C "promised"/\(thF x++ex).length<1000:=by
 rcases t with⟨rfl,rfl⟩|⟨rfl,m,rfl⟩
 ·exact⟨T.U9,T.WM,T.RN,by show 8<1000;decide⟩
 ·exact⟨T.RJ,T.WL,T.RK,by show 9<1000;decide⟩
theorem Bv4{A:Adr}{H:Hp}{b lp a:Addr}{B:Bounds}{x:Item}(h:Yz A H b lp B)(g:Gi A H a x):b≠a:=λz=>by
 obtain⟨⟨dx,e⟩,_⟩:=h
 obtain⟨C,dx',ex,e',_⟩:=g
 rw[z,e'] at e
 have:thF x++ex=bdF B lp:=by injection e with e;injection e
 unfold thF bdF at this
 rw[Afe,List.cons.injEq,Prod.mk.injEq] at this
 exact absurd this.1.1 (by decide+kernel)
theorem Bsj{A:Adr}{H:Hp}{s Ta dx b lp l:Addr}{st:Ci}{zs:Zs}{z:Addr×Item}{C dx':Addr}{ex:List (Str×V)}(hz:StZ A H s Ta st dx b lp l zs)(nd:RM.ND st.items)(hm:z∈zs)(e:H z.1=some (.ins C dx' (thF z.2++ex)))(t:Tail A C ex)(bd pr:Bool):
  StZ A (upd H z.1 (.ins C dx' (thF {z.2 with bound:=bd,promised:=pr}++ex))) s Ta {st with items:=st.items.map (RM.mark z.2.num bd pr)} dx b lp l (zs.map λu=>(u.1,RM.mark z.2.num bd pr u.2)):=by
 have ht:=hz.l.2 z hm
 have hl:∀{a:Addr} {xs:List V},H a=some (.lst xs)->a≠z.1:=λh q=>by rw[q,e] at h;cases h
 refine⟨by rw[Cd (Js (Bs5 hz.s ht))];exact hz.s,?_,⟨?_,λu' hu'=>?_⟩,?_,hz.hp,hz.hl⟩
 ·obtain⟨⟨dx2,e2⟩,e3,e4⟩:=hz.b
  exact⟨⟨dx2,by rw[Cd (Bv4 hz.b ht)];exact e2⟩,by rw[Cd (hl e3)];exact e3,e4⟩
 ·rw[Cd (hl hz.l.1),hz.l.1,Df];rfl
 ·obtain⟨u,hu,rfl⟩:=Dv.mp hu'
  dsimp only
  by_cases hu1:u.1=z.1
  ·have:u.2=z.2:=by
    have h1:=hz.l.2 u hu
    rw[hu1] at h1
    exact Bu6 h1 ht
   rw[this,hu1]
   unfold RM.mark
   rw[Aq rfl]
   exact⟨C,dx',ex,Ah,t⟩
  ·have hne:u.2.num≠z.2.num:=λq=>hu1 (by rw[Cdt (by rw[hz.i];exact nd) hu hm q])
   unfold RM.mark
   rw[Am hne]
   obtain⟨C2,dx2,ex2,e2,t2⟩:=hz.l.2 u hu
   exact⟨C2,dx2,ex2,by rw[Cd hu1];exact e2,t2⟩
 ·show its (zs.map _)=st.items.map _
  rw[<-hz.i]
  unfold its
  rw[Df,Df];rfl
theorem Bwk{H:Hp}{a C dx C' dx':Addr}{fs fs':List (Str×V)}(e:H a=some (.ins C dx fs)):Fr H (upd H a (.ins C' dx' fs')):=λc o h n=>by
 rw[Cd (λz=>by
  rw[z,e] at h
  exact n _ _ _ (Ae h).symm)]
 exact h
theorem Bxn{st:Ci}{n:Int}{ns:List Int}(hn:ns.headD 0=n)(ok:Bool)(f:Item->Ci×Ho):(if ok=false then(st,[-1]) else K7 st n f)=if Rq st ok ns=0 then(match HN st n with|some x=>f x|none=>(st,[-5])) else(st,[Rq st ok ns]):=by
 unfold Rq K7
 rw[hn]
 cases ok with
 |false=>rfl
 |true=>
  rw[Am Bool.noConfusion,Aq rfl]
  cases HN st n with
  |none=>rfl
  |some x=>rfl
theorem in2(n m lo hi lo' hi':Int):inR [n,m] [(lo,hi),(lo',hi')]=(Ax n lo hi&&Ax m lo' hi'):=by
 unfold Ax
 show(decide (lo<=n)&&(decide (n<=hi)&&(decide (lo'<=m)&&(decide (m<=hi')&&true))))=_
 rw[Oc,ZR]
theorem in3(n m o lo hi lo' hi' lo2 hi2:Int):inR [n,m,o] [(lo,hi),(lo',hi'),(lo2,hi2)]=(Ax n lo hi&&(Ax m lo' hi'&&Ax o lo2 hi2)):=by
 unfold Ax
 show(decide (lo<=n)&&(decide (n<=hi)&&(decide (lo'<=m)&&(decide (m<=hi')&&(decide (lo2<=o)&&(decide (o<=hi2)&&true))))))=_
 rw[Oc,ZR,ZR]
theorem Bj8(T:Txt K mg A):Def P w K mg base 3 "bind_call" Ab3 (J9 A 7 (·=2)):=by
 refine Ed T.Azh Bl3 (λvs H Q E h=>Gw h) (λX e1 e2 e3 e4 e5 c H vs Q E h=>?_)
 tm_at"s"
 tm_at"o"
 obtain⟨n,on,rfl⟩:∃n on,ns=[n,on]:=by
  match ns,hc with
  |[n,on],_=>exact⟨n,on,rfl⟩
 have ek:Dc st (RM.mkC 7 [n,on])=if(Ax n 0 999&&Ax on 0 1)=false then(st,[-1]) else K7 st n λx=>if x.promised=true then V9 st 9 else(Bcu st x {x with bound:=on==1},[0]):=rfl
 rw[ek,Bxn (n:=n) (ns:=[n,on]) rfl] at k
 refine⟨_,Bk7 T c (N7 T) (Mx T),?_⟩
 show Amq X.K A _ _ _ [some (.ref s),some (.ref r),none,none] H
 unfold Amq
 tm_at"r"
 refine⟨_,rfl,_,rfl,s,Ta,st,dx,b,lp,l,zs,r,[n,on],A.Xg,[(0,999),(0,1)],rfl,hz,hr,Ky T.Aq4 rfl _,Avt,λH1 s1=>?_⟩
 rw[in2]
 have hz1:=hz.same s1
 unfold Aq7
 tm_at"r"
 refine⟨_,rfl,rfl,_,rfl,?_⟩
 by_cases h0:Rq st (Ax n 0 999&&Ax on 0 1) [n,on]=0
 ·rw[Aq h0] at k
  rw[h0,Aj rfl,CK,Am Ac]
  obtain⟨h1,h2⟩:=Uh h0
  rw[Cm] at h1
  obtain⟨m,rfl,_⟩:=JM h1.1
  unfold Aq8
  tm_at"r"
  refine⟨_,rfl,_,rfl,r,_,0,_,rfl,rfl,SqL.of (s1 _ _ hr),at0 _ _,s,Ta,st,dx,b,lp,l,zs,m,rfl,hz1,λhn=>?_,λz hn=>?_⟩
  ·rw[Aco hz.i,hn] at h2;cases h2
  obtain⟨g1,g2,g3,g4⟩:=Awz hz.i hn
  rw[g1] at k
  dsimp only at k
  have hzt:=(hz.l.2 z g2).same s1
  unfold Aq9
  tm_at"r"
  refine fv rfl (Ag2 T hzt) ⟨_,rfl,?_⟩
  cases hb:z.2.promised with
  |true=>
   rw[hb,Aq rfl] at k
   rw[Aq rfl]
   tm_at"b"
  |false=>
   rw[Am (by rw[hb];exact Ac)] at k
   rw[Am Ac]
   have ec:=RM.Zf (on==1) z.2.promised ok g3
   rw[ec] at k
   obtain⟨C,dx',ex,e,t⟩:=hzt
   obtain⟨t1,t2,t3,t4⟩:=Awr T t z.2
   unfold Ara
   tm_at"r"
   refine⟨_,rfl,r,_,1,_,rfl,rfl,SqL.of (s1 _ _ hr),at1 _ _ _,rfl,_,rfl,z.1,C,dx',_,rfl,e,t1,t2,t4,?_⟩
   rw[Bkm]
   unfold Arb
   tm_at"r"
   have hm:=Bsj hz1 ok.nd g2 e t (on==1) z.2.promised
   have ed:decide (V.int on=V.int 1)=(on==1):=by
    by_cases q:on=1
    ·rw[q];rfl
    ·rw[DG.mpr q]
     exact Bf λq'=>q (by injection q')
   rw[ed]
   refine Aka λp hp=>k p _ ((Same.fr s1).trans ((Bwk e).trans (Same.fr (Av hp)))) ?_ (hm.same (Av hp)).at Ah
   refine s1.free ?_
   by_cases q:p=z.1
   ·rw[q,Ah] at hp;cases hp
   ·rw[Cd q] at hp;exact hp
 ·rw[Am h0] at k
  rw[Bf (λq=>h0 (by injection q)),Ck,Aq rfl]
  tm_at"e"
theorem Bd9(T:Txt K mg A):Def P w K mg base 4 "fulfil_call" Wr (J9 A 9 (·=1)):=by
 refine Ed T.Aqo Bfu (λvs H Q E h=>Gw h) (λX e1 e2 e3 e4 e5 c H vs Q E h=>?_)
 tm_at"s"
 tm_at"o"
 obtain⟨n,rfl⟩:=GF.mp hc
 have ek:Dc st (RM.mkC 9 [n])=if Ax n 0 999=false then(st,[-1]) else K7 st n λx=>if x.promised=false then V9 st 9 else(Bcu st x {x with bound:=false,promised:=false},[0]):=rfl
 rw[ek,Bso] at k
 refine⟨_,Be4 T c (Vd T) (Mx T),?_⟩
 show Aey X.K A _ _ _ [some (.ref s),some (.ref r),none,none] H
 unfold Aey
 tm_at"r"
 refine⟨_,rfl,_,rfl,s,Ta,st,dx,b,lp,l,zs,r,[n],rfl,hz,hr,λH1 s1=>?_⟩
 rw[in1]
 have hz1:=hz.same s1
 unfold Ajm
 tm_at"r"
 refine⟨_,rfl,rfl,_,rfl,?_⟩
 by_cases h0:Awi st (Ax n 0 999) [n]=0
 ·rw[Aq h0] at k
  rw[h0,Aj rfl,CK,Am Ac]
  obtain⟨h1,h2⟩:=Ber h0
  obtain⟨m,rfl,_⟩:=JM h1
  unfold Ajn
  tm_at"r"
  refine⟨_,rfl,_,rfl,r,_,0,_,rfl,rfl,SqL.of (s1 _ _ hr),at0 _ _,s,Ta,st,dx,b,lp,l,zs,m,rfl,hz1,λhn=>?_,λz hn=>?_⟩
  ·rw[Aco hz.i,hn] at h2;cases h2
  obtain⟨g1,g2,g3,g4⟩:=Awz hz.i hn
  rw[g1] at k
  dsimp only at k
  rw[RM.Zf false false ok g3] at k
  have hzt:=(hz.l.2 z g2).same s1
  obtain⟨C,dx',ex,e,t⟩:=hzt
  obtain⟨t1,t2,t3,t4⟩:=Awr T t z.2
  unfold Ajo
  tm_at"r"
  refine⟨_,rfl,z.1,C,dx',_,rfl,e,t1,t2,t4,?_⟩
  rw[Bkm]
  unfold Ajp
  tm_at"r"
  refine⟨_,rfl,z.1,C,dx',_,rfl,Ah,t1,t3,(Awr T t _).2.2.2,?_⟩
  rw[Beh,Mu]
  unfold Ajq
  tm_at"r"
  have hm:=Bsj hz1 ok.nd g2 e t false false
  refine Aka λp hp=>k p _ ((Same.fr s1).trans ((Bwk e).trans (Same.fr (Av hp)))) ?_ (hm.same (Av hp)).at Ah
  refine s1.free ?_
  by_cases q:p=z.1
  ·rw[q,Ah] at hp;cases hp
  ·rw[Cd q] at hp;exact hp
 ·rw[Am h0] at k
  rw[Bf (λq=>h0 (by injection q)),Ck,Aq rfl]
  tm_at"e"
theorem Bqe(st:Ci)(x y:Item)(f:Ci×Ho)(h1:x.num=y.num)(h2:x.last=y.last):Qj st x f=Qj st y f:=by unfold Qj;rw[h1,h2]
theorem Bk1(st:Ci){ns:List Int}(h:ns.length=6):Dc st (RM.mkC 8 ns)=if Zj st ns=0 then arr st {RM.Ii ns with bound:=true,promised:=true} else(st,[Zj st ns]):=by
 have e2:Dc st (RM.mkC 8 ns)=if RM.Xy ns=false then(st,[-1]) else Qj st {RM.Ii ns with bound:=true,promised:=true} (arr st {RM.Ii ns with bound:=true,promised:=true}):=by
  obtain⟨a,b,c,d,e,f,rfl⟩:=Bxc h
  rfl
 rw[e2,<-Bef,Bqe st {RM.Ii ns with bound:=true,promised:=true} (RM.Ii ns) _ rfl rfl]
theorem Bbf(T:Txt K mg A):Def P w K mg base 7 "promise_call" Uz (J9 A 8 (·=6)):=by
 refine Ed T.Ali Bcq (λvs H Q E h=>Gw h) (λX e1 e2 e3 e4 e5 c H vs Q E h=>?_)
 tm_at"s"
 tm_at"o"
 rw[Bk1 st hc] at k
 refine⟨_,Bbm T c (N6 T) (Bee T) (Xz T),?_⟩
 show Aba X.K A _ _ _ _ [some (.ref s),some (.ref r),none,none] H
 unfold Aba
 tm_at"r"
 refine⟨_,rfl,_,rfl,s,Ta,st,dx,b,lp,l,zs,r,ns,rfl,hz,hr,λH1 s1=>?_⟩
 have hz1:=hz.same s1
 unfold Af7
 tm_at"r"
 refine⟨_,rfl,rfl,_,rfl,?_⟩
 by_cases h0:Zj st ns=0
 ·rw[Aq h0] at k
  rw[h0,Aj rfl,CK,Am Ac]
  obtain⟨h6,hnd,h40,ox⟩:=ZP ok h0
  obtain⟨e6,e7,e8⟩:=Ui h6
  unfold Af8
  tm_at"r"
  refine⟨_,rfl,Vb (x:=RM.Ii ns) (by rw[<-e6];exact s1 _ _ hr) e7 e8 λa H2 s2 ha h2=>?_⟩
  generalize RM.Ii ns=x at k h2 ox hnd
  obtain⟨C,dx',ex,e,t⟩:=h2
  obtain⟨t1,t2,t3,t4⟩:=Awr T t x
  unfold Af9
  tm_at"r"
  refine⟨_,rfl,a,C,dx',_,rfl,e,t1,t2,t4,?_⟩
  rw[Bkm]
  unfold Aga
  tm_at"r"
  refine⟨_,rfl,a,C,dx',_,rfl,Ah,t1,t3,(Awr T t _).2.2.2,?_⟩
  rw[Beh,Mu]
  unfold Agb
  tm_at"r"
  have s3:Same H1 (upd H2 a (.ins C dx' (thF {x with bound:=true,promised:=true}++ex))):=FZ s2 ha
  have s03:=s1.trans s3
  refine⟨_,rfl,_,rfl,s,Ta,st,dx,b,lp,l,zs,a,{x with bound:=true,promised:=true},rfl,hz.same s03,λq=>hT (s03.free q),ok,⟨C,dx',ex,Ah,t⟩,?_,⟨ox.num,ox.Bx8,ox.size,ox.rank,ox.last,ox.sender,ox.worth⟩,λD H4 fr hD h3 hl=>k D H4 ((Same.fr s03).trans fr) (s03.free hD) h3 hl⟩
  unfold RM.ND at hnd|-
  exact hnd
 ·rw[Am h0] at k
  rw[Bf (λq=>h0 (by injection q)),Ck,Aq rfl]
  tm_at"e"
theorem Bm9{l:List Item}(n:RM.ND l)(t:Nat):Acf l (Wu t l)=l.filter λy=>decide (y.last<=t):=by
 unfold Acf Wu
 rw[RM.Aas n]
 refine Ft λx _=>?_
 by_cases h:x.last<=t
 ·rw[Aj h,Bf (by omega)];rfl
 ·rw[Bf h,Aj (by omega)];rfl
theorem Bkh(T:Txt K mg A):Def P w K mg base 3 "tick_call" Ab9 (J9 A 11 (·=1)):=by
 refine Ed T.Azs Bmd (λvs H Q E h=>Gw h) (λX e1 e2 e3 e4 e5 c H vs Q E h=>?_)
 tm_at"s"
 tm_at"o"
 obtain⟨n,rfl⟩:=GF.mp hc
 have ek:Dc st (RM.mkC 11 [n])=if Ax n 0 1000=false then(st,[-1]) else if Azb<st.now+n.toNat then V9 st 3 else({st with now:=st.now+n.toNat,items:=Wu (st.now+n.toNat) st.items},((st.now+n.toNat:Nat):Int)::numbersRow (Acf st.items (Wu (st.now+n.toNat) st.items))):=rfl
 rw[ek,Bm9 ok.nd] at k
 refine⟨_,Bli T c (Aoj T) (Jx T) (Jd T),?_⟩
 show Anj X.K A _ _ _ _ [some (.ref s),some (.ref r),none,none,none] H
 unfold Anj
 tm_at"r"
 refine⟨_,rfl,r,A.ZK,[n],[(0,1000)],rfl,hr,Ky T.Awa rfl _,λH1 s1=>⟨_,rfl,?_⟩⟩
 rw[in1]
 have hz1:=hz.same s1
 have hzl:zs.length<=40:=by rw[<-DK,hz.i];exact ok.len
 cases hb:Ax n 0 1000 with
 |false=>
  rw[hb,Aq rfl] at k
  rw[Ck,Aq rfl]
  tm_at"b"
 |true=>
  rw[hb,Am Bool.noConfusion] at k
  rw[CK,Am Ac]
  obtain⟨m,rfl,_⟩:=JM hb
  rw[Fq] at k
  unfold Ar5
  tm_at"r"
  refine fv rfl (Afu T hz1.s) ⟨_,rfl,r,_,0,_,rfl,rfl,SqL.of (s1 _ _ hr),at0 _ _,_,_,rfl,rfl,?_⟩
  dsimp only
  rw[show(st.now:Int)+(m:Int)=((st.now+m:Nat):Int) by omega]
  generalize st.now+m=t at k
  unfold Ar6
  tm_at"r"
  refine⟨_,rfl,_,_,rfl,rfl,_,rfl,?_⟩
  by_cases ht:100000<t
  ·rw[Aq (show Azb<t from ht)] at k
   rw[Aq (Aj (by omega))]
   tm_at"b"
  ·rw[Am (show ¬Azb<t from ht)] at k
   rw[Am (by simp only [Cj];omega)]
   unfold Ar7
   tm_at"r"
   refine⟨_,rfl,_,rfl,sf T hz1.s T.Ro ?_⟩
   rw[Bic]
   have ks2:KS s H1 (upd H1 s (.ins A.Gq dx (stF b l t))):=Axp
   have hz2:StZ A (upd H1 s (.ins A.Gq dx (stF b l t))) s Ta {st with now:=t} dx b lp l zs:=⟨Ah,ks2.bnd hz1.s hz1.b,ks2.tlz hz1.s hz1.l,hz.i,hz.hp,hz.hl⟩
   have fr2:Fr H1 (upd H1 s (.ins A.Gq dx (stF b l t))):=ks2.fr hz1.s
   generalize upd H1 s (.ins A.Gq dx (stF b l t))=H2 at hz2 fr2 ks2|-
   unfold Ar8
   tm_at"r"
   refine Axx (A:=A) (λy=>decide (y.last<=t)) (λR q=>fv rfl (Hf T hz2.s) q) hz2.l (Az hzl (by decide)) (by show 4<5;decide) (λa y H3 R hy hT' s3 h=>?_) λG H3 s3 hG hg=>?_
   ·tm_at"r"
    refine fv rfl (Azj T hT') ⟨_,rfl,_,_,rfl,rfl,_,rfl,?_⟩
    have:=h H3 (Same.refl _)
    refine Eq.mp (congrArg (λc=>R c H3) (Ju.mpr ?_)) this
    omega
   have hgi:its (zs.filter λz=>decide (z.2.last<=t))=st.items.filter λy=>decide (y.last<=t):=by rw[Av3,hz.i]
   have hgl:(st.items.filter λy=>decide (y.last<=t)).length<=40:=Az (CQ _ _) ok.len
   have hz3:=hz2.same s3
   have hT3:H3 Ta≠none:=λq=>by
    have q2:=s3.free q
    cases e:H Ta with
    |none=>exact hT e
    |some o=>
     have e2:=s1 _ _ e
     by_cases hts:Ta=s
     ·rw[hts,hz2.s] at q2;cases q2
     ·rw[ks2 _ _ hts e2] at q2;cases q2
   unfold Ar9
   tm_at"r"
   refine⟨_,rfl,_,rfl,s,Ta,_,dx,b,lp,l,zs,G,_,rfl,hz3,hT3,⟨_,hg,hgi⟩,Az hzl (by decide),Az hgl (by decide),λH4 l4 k4 hz4=>?_⟩
   have hg4:=k4.tlz hz3.s hg
   have em:minus st.items (st.items.filter λy=>decide (y.last<=t))=Wu t st.items:=RM.Avz ok.nd t
   unfold Asa
   tm_at"r"
   refine⟨_,rfl,by show 1<=sizeLine;decide,λp hp=>⟨_,rfl,G,_,rfl,⟨_,hg4.same (Av hp),hgi⟩,CJ hgl (by decide),λD H5 s5 hD h5=>?_⟩⟩
   have sp:=Av (o:=.lst [.int (t:Nat)]) hp
   refine⟨p,D,_,_,rfl,rfl,s5 _ _ Ah,h5,?_,λq hq=>?_⟩
   ·rw[Aa,Iz]
    have:(100:Nat)<sizeLine:=by decide
    show 1+_<=_
    omega
   have s46:=sp.trans (s5.trans (Av (o:=.lst ([.int (t:Nat)]++(numbersRow (st.items.filter λy=>decide (y.last<=t))).map V.int)) hq))
   refine k q _ ((Same.fr s1).trans (fr2.trans ((Same.fr s3).trans ((k4.fr hz3.s).trans (Same.fr s46))))) ?_ ?_ (by rw[Ah];rfl)
   ·have q4:H4 q=none:=sp.free (s5.free hq)
    exact Bbz s1 (ks2.trans ((Same.ks s3).trans k4)) hz4 q4
   ·have:=(hz4.same s46).at
    dsimp only at this
    rw[em] at this
    exact this
theorem Bgh(T:Txt K mg A):Def P w K mg base 2 "items_call" Y8 (J9 A 12 (·=0)):=by
 refine Ed T.Avf Bi6 (λvs H Q E h=>Gw h) (λX e1 e2 e3 e4 e5 c H vs Q E h=>?_)
 tm_at"s"
 tm_at"o"
 obtain rfl:=G6.mp hc
 have ek:Dc st (RM.mkC 12 [])=(st,numbersRow st.items):=rfl
 rw[ek] at k
 refine⟨_,Bgz T c (Jd T),?_⟩
 show Ahq X.K A _ _ [some (.ref s),some (.ref r)] H
 unfold Ahq
 tm_at"r"
 exact fv rfl (Hf T hz.s) ⟨l,st.items,rfl,⟨zs,hz.l,hz.i⟩,CJ ok.len (by decide),λD H1 s1 hD h1=>k D H1 (Same.fr s1) hD (hz.same s1).at h1⟩
theorem Bbg(T:Txt K mg A):Def P w K mg base 2 "senders_call" UG (J9 A 24 (·=0)):=by
 refine Ed T.Alj Bcr (λvs H Q E h=>Gw h) (λX e1 e2 e3 e4 e5 c H vs Q E h=>?_)
 tm_at"s"
 tm_at"o"
 obtain rfl:=G6.mp hc
 have ek:Dc st (RM.mkC 24 [])=(st,Pz st.items):=rfl
 rw[ek] at k
 refine⟨_,Bbn T c (YL T),?_⟩
 show Abg X.K A _ _ [some (.ref s),some (.ref r)] H
 unfold Abg
 tm_at"r"
 exact fv rfl (Hf T hz.s) ⟨l,st.items,rfl,⟨zs,hz.l,hz.i⟩,λx hx=>(ok.ok x hx).sender,λD H1 s1 hD h1=>k D H1 (Same.fr s1) hD (hz.same s1).at h1⟩
theorem Bx1(xs:List Item):(Pu xs).length=10:=by unfold Pu;simp [Vbdtag.usedBy,Hl,Au2]
theorem Bki(T:Txt K mg A):Def P w K mg base 2 "used_call" Aca (J9 A 14 (·=0)):=by
 refine Ed T.Azt Bme (λvs H Q E h=>Gw h) (λX e1 e2 e3 e4 e5 c H vs Q E h=>?_)
 tm_at"s"
 tm_at"o"
 obtain rfl:=G6.mp hc
 have ek:Dc st (RM.mkC 14 [])=(st,[(st.now:Int),(st.bounds.room:Int),(sizeOf_ st.items:Int),(st.items.length:Int)]++Pu st.items):=rfl
 rw[ek] at k
 refine⟨_,Blj T c (Aen T) (XC T),?_⟩
 show Ank X.K A _ _ _ [some (.ref s),some (.ref r),none] H
 unfold Ank
 tm_at"r"
 refine fv rfl (Afu T hz.s) (fv2 rfl (Jv T hz.s) (Axj T hz.b.at) (fv rfl (Hf T hz.s) ⟨l,st.items,rfl,⟨zs,hz.l,hz.i⟩,Az ok.len (by decide),λH1 s1=>?_⟩))
 have hz1:=hz.same s1
 refine fv rfl (Hf T hz1.s) ⟨l,_,rfl,.inl (SqL.of hz1.l.1),by show 4<=sizeLine;decide,λp hp=>?_⟩
 have e2:((zs.map λz=>V.ref z.1).length:Nat)=st.items.length:=by rw[Aa,<-hz.i,DK]
 rw[e2]
 have sp:=Av (o:=.lst [.int (st.now:Nat),.int (st.bounds.room:Nat),.int (sizeOf_ st.items:Nat),.int (st.items.length:Nat)]) hp
 have hz2:=hz1.same sp
 have hpl:=(Ah:(upd H1 p (.lst [.int (st.now:Nat),.int (st.bounds.room:Nat),.int (sizeOf_ st.items:Nat),.int (st.items.length:Nat)])) p=_)
 generalize upd H1 p (.lst [.int (st.now:Nat),.int (st.bounds.room:Nat),.int (sizeOf_ st.items:Nat),.int (st.items.length:Nat)])=H2 at sp hz2 hpl
 unfold Asb
 tm_at"r"
 refine⟨_,rfl,fv rfl (Hf T hz2.s) ⟨l,st.items,rfl,⟨zs,hz2.l,hz.i⟩,λx hx=>(ok.ok x hx).rank,λD H3 s3 hD h3=>?_⟩⟩
 refine⟨p,D,_,_,rfl,rfl,s3 _ _ hpl,h3,?_,λq hq=>?_⟩
 ·rw[Aa,Bx1];show 14<=sizeLine;decide
 ·have s03:=s1.trans (sp.trans (s3.trans (Av (o:=.lst ([.int (st.now:Nat),.int (st.bounds.room:Nat),.int (sizeOf_ st.items:Nat),.int (st.items.length:Nat)]++(Pu st.items).map V.int)) hq)))
  exact k q _ (Same.fr s03) (s1.free (sp.free (s3.free hq))) (hz.same s03).at (by rw[Ah,Bd];rfl)
theorem Bkd(T:Txt K mg A):Def P w K mg base 3 "item_call" Ab6 (J9 A 13 (·=1)):=by
 refine Ed T.Azo Bl9 (λvs H Q E h=>Gw h) (λX e1 e2 e3 e4 e5 c H vs Q E h=>?_)
 tm_at"s"
 tm_at"o"
 obtain⟨n,rfl⟩:=GF.mp hc
 have ek:Dc st (RM.mkC 13 [n])=if Ax n 0 999=false then(st,[-1]) else K7 st n λx=>(st,Hl (Vbdtag.itemRow x)):=rfl
 rw[ek,Bkj] at k
 refine⟨_,Ble T c (N7 T) (Mx T),?_⟩
 show Am0 X.K A _ _ _ [some (.ref s),some (.ref r),none,none,none] H
 unfold Am0
 tm_at"r"
 refine⟨_,rfl,_,rfl,s,Ta,st,dx,b,lp,l,zs,r,[n],A.Le,[(0,999)],rfl,hz,hr,Ky T.Vh rfl _,Avt,λH1 s1=>?_⟩
 rw[in1]
 have hz1:=hz.same s1
 unfold Arw
 tm_at"r"
 refine⟨_,rfl,rfl,_,rfl,?_⟩
 by_cases h0:Rq st (Ax n 0 999) [n]=0
 ·rw[Aq h0] at k
  rw[h0,Aj rfl,CK,Am Ac]
  obtain⟨h1,h2⟩:=Uh h0
  obtain⟨m,rfl,_⟩:=JM h1
  unfold Arx
  tm_at"r"
  refine⟨_,rfl,_,rfl,r,_,0,_,rfl,rfl,SqL.of (s1 _ _ hr),at0 _ _,s,Ta,st,dx,b,lp,l,zs,m,rfl,hz1,λhn=>?_,λz hn=>?_⟩
  ·rw[Aco hz.i,hn] at h2;cases h2
  obtain⟨g1,g2,g3,g4⟩:=Awz hz.i hn
  rw[g1] at k
  dsimp only at k
  have hzt:=(hz.l.2 z g2).same s1
  unfold Ary
  tm_at"r"
  refine fv rfl (Xr T hzt) (fv rfl (Bjo T hzt) (fv rfl (Bpo T hzt) (fv rfl (Azj T hzt) (fv rfl (Bm1 T hzt) (fv rfl (Brl T hzt) ⟨by show 6<=sizeLine;decide,λp hp=>?_⟩)))))
  have sp:=Av (o:=.lst [.int (z.2.num:Nat),.int (z.2.size:Nat),.int (z.2.rank:Nat),.int (z.2.last:Nat),.int (z.2.sender:Nat),.int (z.2.worth:Nat)]) hp
  have Cbo:=hzt.same sp
  unfold Arz
  tm_at"r"
  refine⟨_,rfl,fv rfl (f_bound T Cbo) ⟨_,rfl,?_⟩⟩
  have fin:∀b1 b2:Bool,z.2.bound=b1->z.2.promised=b2->[V.int (Aac b1:Nat),V.int (Aac b2:Nat)].length<=sizeLine/\∀p_1,(upd H1 p (.lst [.int (z.2.num:Nat),.int (z.2.size:Nat),.int (z.2.rank:Nat),.int (z.2.last:Nat),.int (z.2.sender:Nat),.int (z.2.worth:Nat)])) p_1=none->Wi (.ref p) (.ref p_1) (upd (upd H1 p (.lst [.int (z.2.num:Nat),.int (z.2.size:Nat),.int (z.2.rank:Nat),.int (z.2.last:Nat),.int (z.2.sender:Nat),.int (z.2.worth:Nat)])) p_1 (.lst [V.int (Aac b1:Nat),V.int (Aac b2:Nat)])) Q:=by
   intro b1 b2 hb1 hb2
   refine⟨by show 2<=sizeLine;decide,λq hq=>⟨p,q,_,_,rfl,rfl,(Av hq) _ _ Ah,Ah,by show 8<=sizeLine;decide,λu hu=>?_⟩⟩
   have s02:=s1.trans (sp.trans ((Av hq).trans (Av (o:=.lst ([.int (z.2.num:Nat),.int (z.2.size:Nat),.int (z.2.rank:Nat),.int (z.2.last:Nat),.int (z.2.sender:Nat),.int (z.2.worth:Nat)]++[V.int (Aac b1:Nat),V.int (Aac b2:Nat)])) hu)))
   refine k u _ (Same.fr s02) (s1.free (sp.free ((Av hq).free hu))) (hz.same s02).at ?_
   rw[Ah,<-hb1,<-hb2];rfl
  cases hb1:z.2.bound with
  |true=>
   rw[Aq rfl]
   refine fv rfl (Ag2 T Cbo) ⟨_,rfl,?_⟩
   cases hb2:z.2.promised with
   |true=>rw[Aq rfl];exact fin true true hb1 hb2
   |false=>rw[Am Ac];exact fin true false hb1 hb2
  |false=>
   rw[Am Ac]
   refine fv rfl (Ag2 T Cbo) ⟨_,rfl,?_⟩
   cases hb2:z.2.promised with
   |true=>rw[Aq rfl];exact fin false true hb1 hb2
   |false=>rw[Am Ac];exact fin false false hb1 hb2
 ·rw[Am h0] at k
  rw[Bf (λq=>h0 (by injection q)),Ck,Aq rfl]
  tm_at"e"
theorem Bgg(T:Txt K mg A):Def P w K mg base 6 "clear_call" Y7 (J9 A 29 (·=0)):=by
 refine Ed T.Avc Bi3 (λvs H Q E h=>Gw h) (λX e1 e2 e3 e4 e5 c H vs Q E h=>?_)
 tm_at"s"
 tm_at"o"
 obtain rfl:=G6.mp hc
 have ek:Dc st (RM.mkC 29 [])=(Qk,[0]):=rfl
 rw[ek] at k
 refine⟨_,Bgw T c (Bgn T),?_⟩
 show Ahl X.K A _ _ [some (.ref s),some (.ref r)] H
 unfold Ahl
 tm_at"r"
 refine⟨_,rfl,s,Ta,st,dx,b,lp,l,zs,rfl,hz,hT,λH1 k1 h1=>?_⟩
 unfold Amr
 tm_at"r"
 obtain⟨dx',b',lp',l',zs',hz'⟩:=h1
 exact Aka λp hp=>k p _ ((k1.fr hz.s).trans (Same.fr (Av hp))) (Bbz (Same.refl _) k1 hz' hp) (hz'.same (Av hp)).at Ah
theorem As1{n lo hi:Int}(h0:0<=lo)(h:Ax n lo hi=true):∃m:Nat,n=(m:Int)/\lo<=(m:Int)/\(m:Int)<=hi:=by
 unfold Ax at h
 rw[Cm] at h
 have h1:=Ec h.1
 have h2:=Ec h.2
 exact⟨n.toNat,by omega,by omega,by omega⟩
theorem Ax3(T:Txt K mg A):Def P w K mg base 5 "greatest_call" S8 (J9 A 15 (·=3)):=by
 refine Ed T.Aiz Ba0 (λvs H Q E h=>Gw h) (λX e1 e2 e3 e4 e5 c H vs Q E h=>?_)
 tm_at"s"
 tm_at"o"
 obtain⟨rk,e,d,rfl⟩:∃rk e d,ns=[rk,e,d]:=by
  match ns,hc with
  |[a,b,c],_=>exact⟨a,b,c,rfl⟩
 have ek:Dc st (RM.mkC 15 [rk,e,d])=if(Ax rk 0 9&&(Ax e 1 100000&&Ax d 0 7))=false then(st,[-1]) else(st,[((if e.toNat<=st.now then 0 else Td st.bounds (none_of rk.toNat e.toNat d.toNat 1) st.items:Nat):Int)]):=rfl
 rw[ek] at k
 refine⟨_,Ayk T c (Jx T) (Ax4 T),?_⟩
 show Yr X.K A _ _ _ [some (.ref s),some (.ref r)] H
 unfold Yr
 tm_at"r"
 refine⟨_,rfl,r,A.Rg,[rk,e,d],[(0,9),(1,100000),(0,7)],rfl,hr,Ky T.Acw rfl _,λH1 s1=>⟨_,rfl,?_⟩⟩
 rw[in3]
 have hz1:=hz.same s1
 cases hb:(Ax rk 0 9&&(Ax e 1 100000&&Ax d 0 7)) with
 |false=>
  rw[hb,Aq rfl] at k
  rw[Ck,Aq rfl]
  tm_at"b"
 |true=>
  rw[hb,Am Bool.noConfusion] at k
  rw[CK,Am Ac]
  rw[Cm,Cm] at hb
  obtain⟨rk,rfl,_,h9⟩:=As1 (by decide) hb.1
  obtain⟨e,rfl,_,_⟩:=As1 (by decide) hb.2.1
  obtain⟨d,rfl,_,h7⟩:=As1 (by decide) hb.2.2
  rw[Fq,Fq,Fq] at k
  unfold Ac6
  tm_at"r"
  refine⟨_,rfl,r,_,1,_,rfl,rfl,SqL.of (s1 _ _ hr),at1 _ _ _,fv rfl (Afu T hz1.s) ⟨_,_,rfl,rfl,_,rfl,?_⟩⟩
  by_cases he:e<=st.now
  ·rw[Aq he] at k
   rw[Aq (Aj (by omega))]
   tm_at"b"
  ·rw[Am he] at k
   rw[Am (by simp only [Cj];omega)]
   unfold Ac7
   tm_at"r"
   have hr1:=SqL.of (K:=X.K) (s1 _ _ hr)
   have hzl:zs.length<=40:=by rw[<-DK,hz.i];exact ok.len
   refine fv rfl (Jv T hz1.s) (fv rfl (Hf T hz1.s) ⟨_,rfl,r,_,0,_,rfl,rfl,hr1,at0 _ _,_,rfl,r,_,1,_,rfl,rfl,hr1,at1 _ _ _,_,rfl,r,_,2,_,rfl,rfl,hr1,at2 _ _ _ _,?_⟩)
   refine⟨b,l,rk,e,d,st.bounds,zs,rfl,hz1.b.at,hz1.l,by rw[hz.i];exact Bs4 ok,by omega,by omega,by omega,by rw[hz.i];exact ok.nd,λH2 s2=>?_⟩
   rw[hz.i]
   have s12:=s1.trans s2
   exact Aka λp hp=>k p _ (Same.fr (s12.trans (Av hp))) (s12.free hp) (hz.same (s12.trans (Av hp))).at Ah
theorem Bkc(T:Txt K mg A):Def P w K mg base 2 "goes_call" Ab5 (J9 A 16 (·=1)):=by
 refine Ed T.Azm Bl7 (λvs H Q E h=>Gw h) (λX e1 e2 e3 e4 e5 c H vs Q E h=>?_)
 tm_at"s"
 tm_at"o"
 obtain⟨n,rfl⟩:=GF.mp hc
 have ek:Dc st (RM.mkC 16 [n])=if Ax n 0 200=false then(st,[-1]) else(st,numbersRow (Vbdtag.weakest st.items n.toNat)):=rfl
 rw[ek] at k
 refine⟨_,Blc T c (Jd T) (Jx T) (Aen T),?_⟩
 show Amw X.K A _ _ _ _ [some (.ref s),some (.ref r),none,none] H
 unfold Amw
 tm_at"r"
 refine⟨_,rfl,r,A.ZG,[n],[(0,200)],rfl,hr,Ky T.Av8 rfl _,λH1 s1=>⟨_,rfl,?_⟩⟩
 rw[in1]
 have hz1:=hz.same s1
 cases hb:Ax n 0 200 with
 |false=>
  rw[hb,Aq rfl] at k
  rw[Ck,Aq rfl]
  tm_at"b"
 |true=>
  rw[hb,Am Bool.noConfusion] at k
  rw[CK,Am Ac]
  obtain⟨m,rfl,_⟩:=JM hb
  rw[Fq,RM.Bhy] at k
  have hzl:zs.length<=40:=by rw[<-DK,hz.i];exact ok.len
  unfold Ars
  tm_at"r"
  refine⟨by show 0<=sizeLine;decide,λG hG=>?_⟩
  have sG:=Av (o:=.lst []) hG
  have hz2:=hz1.same sG
  have hGl:l≠G:=λq=>by rw[<-q,hz1.l.1] at hG;cases hG
  unfold Art
  tm_at"r"
  obtain⟨C',dx',fs',g1,g2,g3,g4⟩:=Hf T hz2.s
  have hrl:(rf zs).length=zs.length:=Aa ..
  refine⟨_,rfl,s,C',dx',fs',_,rfl,g1,g2,g3,g4,l,_,rfl,SqL.of hz2.l.1,By5 (K:=X.K) (a:=l) (xs:=rf zs) (λi σ H'=>∃v gs,σ=[some (.ref s),some (.ref r),some (.ref G),v]/\Same H1 H'/\H' l=some (.lst (rf zs))/\TLz A H' G gs/\(∀z∈gs,z∈zs)/\gs.length<=i/\RM.Yj m ((its zs).reverse.drop i) (its gs)=RM.Yj m (its zs).reverse [])
   ⟨none,[],rfl,sG,hz2.l.1,⟨Ah,λ_ h=>(nomatch h)⟩,λ_ h=>(nomatch h),Bu _,rfl⟩ (λi σ H' ⟨_,_,_,_,q,_⟩=>SqL.of q) ?turn ?fin⟩
  case turn=>
   rintro i v σ H' hv ⟨v3,gs,rfl,s2,hl2,hgs,hgm,hgl,hrun⟩
   rw[<-O3,Bk] at hv
   obtain⟨z,hn,rfl⟩:∃z,zs.reverse[i]?=some z/\V.ref z.1=v:=J8 hv
   have hzm:z∈zs:=KQ.mp (BX hn)
   have hil:i<zs.length:=by have:=(BL.mp hn).1;rw[JC] at this;exact this
   have hzt:=(hz1.l.2 z hzm).same s2
   have hdr:(its zs).reverse.drop i=z.2::(its zs).reverse.drop (i+1):=by
    have hlen:i<(its zs).reverse.length:=by rw[JC,DK];exact hil
    rw[EY hlen]
    congr 1
    have h1:(its zs).reverse[i]?=some z.2:=by
     unfold its
     rw[<-O3,Bk,hn];rfl
    exact Ae ((CP hlen).symm.trans h1)
   rw[hdr] at hrun
   replace hrun:RM.Yj m ((its zs).reverse.drop (i+1)) (if z.2.bound=false/\sizeOf_ (its gs)<m then its gs++[z.2] else its gs)=RM.Yj m (its zs).reverse []:=hrun
   tm_at"r"
   refine fv rfl (f_bound T hzt) ⟨_,rfl,?_⟩
   cases hbd:z.2.bound with
   |true=>
    rw[CK,Am Ac,Am Ac]
    rw[hbd,Am (λq=>Bool.noConfusion q.1)] at hrun
    exact⟨_,gs,rfl,s2,hl2,hgs,hgm,by omega,hrun⟩
   |false=>
    rw[Ck,Aq rfl]
    refine⟨_,rfl,G,its gs,rfl,hgs.tl,by rw[DK];exact Az hgl (Az (Jr hil) (Az hzl (by decide))),λH3 s3=>⟨_,rfl,r,_,0,_,rfl,rfl,SqL.of (s3 _ _ (s2 _ _ (s1 _ _ hr))),at0 _ _,_,_,rfl,rfl,_,rfl,?_⟩⟩
    have Bt2:=hgs.same s3
    by_cases hsz:sizeOf_ (its gs)<m
    ·rw[Aq (Aj (by omega))]
     rw[hbd,Aq ⟨rfl,hsz⟩] at hrun
     have hG2:l≠G:=hGl
     refine⟨_,rfl,.inl ⟨rfl,_,SqL.of Bt2.1⟩,_,rfl,G,rf gs,_,rfl,rfl,Bt2.1,?_,_,gs++[z],rfl,FZ (s2.trans s3) hG,by rw[Cd hG2];exact s3 _ _ hl2,⟨by rw[Ah,Bd];rfl,λy hy=>?_⟩,λy hy=>?_,by rw[Bg];show _+1<=_;omega,by rw[Nj];exact hrun⟩
     ·rw[Aa]
      have:(100:Nat)<sizeLine:=by decide
      omega
     ·rcases Bw.mp hy with q|q
      ·exact(Bt2.2 y q).upd Bt2.1
      ·rw[Bj.mp q];exact(hzt.same s3).upd Bt2.1
     ·rcases Bw.mp hy with q|q
      ·exact hgm y q
      ·rw[Bj.mp q];exact hzm
    ·rw[Am (by simp only [Cj];omega)]
     rw[hbd,Am (λq=>hsz q.2)] at hrun
     exact⟨_,gs,rfl,s2.trans s3,s3 _ _ hl2,Bt2,hgm,by omega,hrun⟩
  case fin=>
   rintro σ H' ⟨v3,gs,rfl,s2,hl2,hgs,hgm,hgl,hrun⟩
   rw[hrl] at hgl hrun
   have e0:(its zs).reverse.drop zs.length=[]:=Jp (by rw[JC,DK];exact Bu _)
   rw[e0] at hrun
   replace hrun:its gs=RM.Yj m (its zs).reverse []:=hrun
   rw[hz.i] at hrun
   dsimp only
   unfold Aru
   tm_at"r"
   have s12:=s1.trans s2
   refine⟨_,rfl,G,its gs,rfl,hgs.tl,by rw[DK];exact CJ (Az hgl hzl) (by decide),λD H3 s3 hD h3=>?_⟩
   rw[hrun] at h3
   exact k D H3 (Same.fr (s12.trans s3)) (s12.free hD) (hz.same (s12.trans s3)).at h3
theorem Bgj(T:Txt K mg A):Def P w K mg base 2 "lasts_call" Y9 (J9 A 23 (·=1)):=by
 refine Ed T.Avh Bi8 (λvs H Q E h=>Gw h) (λX e1 e2 e3 e4 e5 c H vs Q E h=>?_)
 tm_at"s"
 tm_at"o"
 obtain⟨n,rfl⟩:=GF.mp hc
 have ek:Dc st (RM.mkC 23 [n])=if Ax n 0 100000=false then(st,[-1]) else(st,numbersRow (st.items.filter λx=>decide (x.last<=n.toNat))):=rfl
 rw[ek] at k
 refine⟨_,Bg1 T c (Jd T) (Jx T),?_⟩
 show Ahs X.K A _ _ _ [some (.ref s),some (.ref r),none] H
 unfold Ahs
 tm_at"r"
 refine⟨_,rfl,r,A.Xh,[n],[(0,100000)],rfl,hr,Ky T.Aq5 rfl _,λH1 s1=>⟨_,rfl,?_⟩⟩
 rw[in1]
 have hz1:=hz.same s1
 cases hb:Ax n 0 100000 with
 |false=>
  rw[hb,Aq rfl] at k
  rw[Ck,Aq rfl]
  tm_at"b"
 |true=>
  rw[hb,Am Bool.noConfusion] at k
  rw[CK,Am Ac]
  obtain⟨m,rfl,_⟩:=JM hb
  rw[Fq] at k
  have hzl:zs.length<=40:=by rw[<-DK,hz.i];exact ok.len
  unfold Am3
  tm_at"r"
  refine Axx (A:=A) (λy=>decide (y.last<=m)) (λR q=>fv rfl (Hf T hz1.s) q) hz1.l (Az hzl (by decide)) (by show 2<3;decide) (λa y H3 R hy hT' s3 h=>?_) λG H3 s3 hG hg=>?_
  ·tm_at"r"
   refine fv rfl (Azj T hT') ⟨_,rfl,r,_,0,_,rfl,rfl,SqL.of (s3 _ _ (s1 _ _ hr)),at0 _ _,_,_,rfl,rfl,_,rfl,?_⟩
   have:=h H3 (Same.refl _)
   refine Eq.mp (congrArg (λc=>R c H3) (Ju.mpr ?_)) this
   omega
  ·have hgi:its (zs.filter λz=>decide (z.2.last<=m))=st.items.filter λy=>decide (y.last<=m):=by rw[Av3,hz.i]
   have hgl:(st.items.filter λy=>decide (y.last<=m)).length<=40:=Az (CQ _ _) ok.len
   have s13:=s1.trans s3
   refine⟨G,_,rfl,⟨_,hg,hgi⟩,CJ hgl (by decide),λD H4 s4 hD h4=>?_⟩
   exact k D H4 (Same.fr (s13.trans s4)) (s13.free hD) (hz.same (s13.trans s4)).at h4
theorem Bkg(T:Txt K mg A):Def P w K mg base 2 "sure_call" Ab8 (J9 A 26 (·=1)):=by
 refine Ed T.Azr Bmc (λvs H Q E h=>Gw h) (λX e1 e2 e3 e4 e5 c H vs Q E h=>?_)
 tm_at"s"
 tm_at"o"
 obtain⟨n,rfl⟩:=GF.mp hc
 have ek:Dc st (RM.mkC 26 [n])=if Ax n 0 9=false then(st,[-1]) else(st,[(Vbdtag.sure st.bounds n.toNat:Int)]):=rfl
 rw[ek] at k
 refine⟨_,Blh T c (Jx T),?_⟩
 show Ani X.K A _ _ [some (.ref s),some (.ref r),none] H
 unfold Ani
 tm_at"r"
 refine⟨_,rfl,r,A.ZJ,[n],[(0,9)],rfl,hr,Ky T.Av9 rfl _,λH1 s1=>⟨_,rfl,?_⟩⟩
 rw[in1]
 have hz1:=hz.same s1
 cases hb:Ax n 0 9 with
 |false=>
  rw[hb,Aq rfl] at k
  rw[Ck,Aq rfl]
  tm_at"b"
 |true=>
  rw[hb,Am Bool.noConfusion] at k
  rw[CK,Am Ac]
  obtain⟨m,rfl,hm9⟩:=JM hb
  rw[Fq] at k
  unfold Ar2
  tm_at"r"
  refine⟨_,rfl,r,_,0,_,rfl,rfl,SqL.of (s1 _ _ hr),at0 _ _,?_⟩
  unfold Ar3
  tm_at"r"
  refine⟨_,rfl,rfl,_,rfl,?_⟩
  unfold Vbdtag.sure at k
  by_cases h0:m=0
  ·rw[Aq h0] at k
   rw[Aq (Aj (by rw[h0];rfl))]
   tm_at"b"
  ·rw[Am h0] at k
   rw[Am (by simp only [Cj,V.int.injEq];omega)]
   unfold Ar4
   tm_at"r"
   refine fv2 rfl (Jv T hz1.s) (Axj T hz1.b.at) (fv2 rfl (Jv T hz1.s) (Axk T hz1.b) ⟨_,rfl,_,_,rfl,rfl,lp,_,_,_,rfl,rfl,SqL.of hz1.b.2.1,(show atI (Bgf st.bounds) ((m:Int)-1)=some (.int (st.bounds.limits.getD (m-1) 0:Nat)) from ?_),_,_,rfl,rfl,_,_,rfl,?_⟩)
   ·rw[show(m:Int)-1=((m-1:Nat):Int) by omega]
    exact KJ (Bsf ok.lim (by omega))
   ·have e:(if(st.bounds.room:Int)-((st.bounds.limits.getD (m-1) 0:Nat):Int)>0 then(st.bounds.room:Int)-((st.bounds.limits.getD (m-1) 0:Nat):Int) else 0)=((st.bounds.room-st.bounds.limits.getD (m-1) 0:Nat):Int):=by
     split<;>omega
    dsimp only
    rw[e]
    tm_at"b"
theorem Bgs(st:Ci){ns:List Int}(h:ns.length=6):Dc st (RM.mkC 27 ns)=if Zj st ns=0 then(if 12<(Qi (RM.Ii ns) st.items).length then V9 st 4 else(st,match Ba4 st.bounds (RM.Ii ns) st.items with
    |none=>[0]
    |some g=>1::(worthOf g:Int)::numbersRow g)) else(st,[Zj st ns]):=by
 rw[<-Bef]
 obtain⟨a,b,c,d,e,f,rfl⟩:=Bxc h
 rfl
theorem Buh(x:Item)(zs:Zs):(zs.filter λz=>stronger x z.2&&!z.2.bound).length=(Qi x (its zs)).length:=by
 unfold Qi
 rw[JC,<-DK]
 exact congrArg Mv (TX (λy=>stronger x y&&!y.bound) zs)
theorem Ax1(T:Txt K mg A):Def P w K mg base 5 "cheapest_call" S6 (J9 A 27 (·=6)):=by
 refine Ed T.Aix Bax (λvs H Q E h=>Gw h) (λX e1 e2 e3 e4 e5 c H vs Q E h=>?_)
 tm_at"s"
 tm_at"o"
 rw[Bgs st hc] at k
 refine⟨_,Ayi T c (N6 T) (Atg T) (Acu T) (Jd T) (Ax6 T) (Ve T) (Xz T),?_⟩
 show Yp X.K A _ _ _ _ _ _ _ _ [some (.ref s),some (.ref r),none,none,none] H
 unfold Yp
 tm_at"r"
 refine⟨_,rfl,_,rfl,s,Ta,st,dx,b,lp,l,zs,r,ns,rfl,hz,hr,λH1 s1=>?_⟩
 have hz1:=hz.same s1
 unfold Ac0
 tm_at"r"
 refine⟨_,rfl,rfl,_,rfl,?_⟩
 by_cases h0:Zj st ns=0
 ·rw[Aq h0] at k
  rw[h0,Aj rfl,CK,Am Ac]
  obtain⟨h6,hnd,h40,ox⟩:=ZP ok h0
  obtain⟨e6,e7,e8⟩:=Ui h6
  unfold Ac1
  tm_at"r"
  refine⟨_,rfl,Vb (x:=RM.Ii ns) (by rw[<-e6];exact s1 _ _ hr) e7 e8 λa H2 s2 ha h2=>?_⟩
  generalize RM.Ii ns=x at k h2 ox hnd
  have hz2:=hz1.same s2
  have hfit:=Avp ok ox
  rw[<-hz.i] at hfit
  have hzl:zs.length<=40:=by rw[<-DK,hz.i];exact ok.len
  unfold Ac2
  tm_at"r"
  refine fv rfl (Hf T hz2.s) ⟨_,rfl,l,a,zs,x,rfl,hz2.l,h2,Az hzl (by decide),λM H3 s3 hM hm=>⟨M,_,rfl,.inl (SqL.of hm.1),_,_,rfl,rfl,_,rfl,?_⟩⟩
  have e3:((zs.filter λz=>stronger x z.2&&!z.2.bound).map λz=>V.ref z.1).length=(Qi x st.items).length:=by rw[Aa,Buh,hz.i]
  rw[e3]
  have s03:=s1.trans (s2.trans s3)
  have hz3:=hz2.same s3
  by_cases h12:12<(Qi x st.items).length
  ·rw[Aq h12] at k
   rw[Aq (Aj (by omega))]
   exact Aka λp hp=>k p _ (Same.fr (s03.trans (Av hp))) (s03.free hp) (hz3.same (Av hp)).at Ah
  ·rw[Am h12] at k
   rw[Am (by simp only [Cj];omega)]
   unfold Ac3
   tm_at"r"
   refine fv rfl (Jv T hz3.s) (fv rfl (Hf T hz3.s) ⟨_,rfl,b,l,a,st.bounds,zs,x,rfl,hz3.b.at,hz3.l,h2.same s3,hfit,λH4 s4=>⟨_,rfl,?_⟩⟩)
   rw[hz.i]
   have hz4:=hz3.same s4
   have s04:=s03.trans s4
   cases ht:RM.Xv st.bounds x st.items with
   |false=>
    rw[RM.Aqc ok.nd ht] at k
    rw[Ck,Aq rfl]
    exact Aka λp hp=>k p _ (Same.fr (s04.trans (Av hp))) (s04.free hp) (hz4.same (Av hp)).at Ah
   |true=>
    rw[CK,Am Ac]
    unfold Ac4
    tm_at"r"
    refine fv rfl (Jv T hz4.s) (fv rfl (Hf T hz4.s) ⟨_,rfl,b,l,a,st.bounds,zs,x,rfl,hz4.b.at,hz4.l,h2.same (s3.trans s4),hfit,by rw[hz.i];exact ok.nd,by rw[hz.i];omega,by rw[hz.i];exact ht,λG H5 ys s5 hg hgl hch=>?_⟩)
    rw[hz.i] at hch
    rw[hch] at k
    dsimp only at k
    have s05:=s04.trans s5
    unfold Ac5
    tm_at"r"
    refine⟨_,rfl,G,ys,rfl,hg,Az hgl (by decide),λH6 s6=>⟨by show 2<=sizeLine;decide,λp hp=>?_⟩⟩
    have sp:=Av (o:=.lst [.int 1,.int (worthOf ys:Nat)]) hp
    refine⟨_,rfl,G,ys,rfl,(hg.same s6).same sp,CJ hgl (by decide),λD H7 s7 hD h7=>?_⟩
    refine⟨p,D,_,_,rfl,rfl,s7 _ _ Ah,h7,?_,λq hq=>?_⟩
    ·rw[Aa,Iz]
     have:(100:Nat)<sizeLine:=by decide
     show 2+_<=_
     omega
    have s57:=s6.trans (sp.trans (s7.trans (Av (o:=.lst ([.int 1,.int (worthOf ys:Nat)]++(numbersRow ys).map V.int)) hq)))
    exact k q _ (Same.fr (s05.trans s57)) (s05.free (s6.free (sp.free (s7.free hq)))) (hz.same (s05.trans s57)).at (by rw[Ah];rfl)
 ·rw[Am h0] at k
  rw[Bf (λq=>h0 (by injection q)),Ck,Aq rfl]
  tm_at"e"
def V1(ns:List Int):PyData:=.list (ns.map Qe)
theorem Bwf(H:Hp):∀ns:List Int,Ayu K H (ns.map V.int) (ns.map Qe)
 |[]=>.nil
 |n::ns=>.cons (.int n) (Bwf H ns)
theorem Bbv{H:Hp}{a:Addr}{ns:List Int}(h:H a=some (.lst (ns.map V.int))):Dp K H (.ref a) (V1 ns):=.lst (SqL.of h) (Bwf H ns)
theorem Azf:∀ns ms:List Int,Sv (ns.map Qe) (ms.map Qe)=decide (ns=ms)
 |[],[]=>by simp [Sv]
 |[],_::_=>by simp [Sv]
 |_::_,[]=>by simp [Sv]
 |a::r,b::t=>by
  simp only [Bo,Sv,Z9,Azf r t]
  by_cases h:a=b<;>by_cases h':r=t<;>simp [h,h']
theorem Bmx(ns ms:List Int):Z9 (V1 ns) (V1 ms)=decide (ns=ms):=by
 unfold V1
 rw[show Z9 (.list (ns.map Qe)) (.list (ms.map Qe))=Sv (ns.map Qe) (ms.map Qe) by simp [Z9],Azf]
theorem lay_ints:∀ns:List Int,Lp (ns.map Qe)=true/\Nv (ns.map Qe)<=1
 |[]=>by simp [Lp,Nv]
 |n::ns=>by
  have:=lay_ints ns
  simp only [Bo,Lp,Ak0,Nv,Auu,this.1,HB]
  exact⟨trivial,by omega⟩
theorem Axv(ns:List Int):(V1 ns).canLay0=true/\(V1 ns).depth<=2:=by
 have:=lay_ints ns
 unfold V1
 simp only [Ak0,Auu,this.1]
 exact⟨trivial,by omega⟩
theorem shaped_ints(ns:List Int):Qh (V1 ns)=true:=by
 unfold Qh
 rw[(Axv ns).1,Aj (Az (Axv ns).2 (by decide))];rfl
theorem Bnl:∀rs:List (List Int),Lp (rs.map V1)=true/\Nv (rs.map V1)<=3
 |[]=>by simp [Lp,Nv]
 |r::rs=>by
  have h1:=Bnl rs
  have h2:=Axv r
  simp only [Bo,Lp,Nv,h1.1,h2.1,HB]
  exact⟨trivial,by omega⟩
theorem Bol(rs:List (List Int)):Qh (.list (rs.map V1))=true:=by
 have:=Bnl rs
 unfold Qh
 rw[show(PyData.list (rs.map V1)).canLay0=Lp (rs.map V1) by simp [Ak0],this.1,HB]
 refine Aj ?_
 rw[show(PyData.list (rs.map V1)).depth=Nv (rs.map V1)+1 by simp [Auu,Aup]]
 omega
theorem any_rows(ns:List Int):∀rs:List (List Int),((rs.map V1).any λy=>Z9 y (V1 ns))=rs.contains ns
 |[]=>rfl
 |r::rs=>by
  rw[Bo,Wk,any_rows ns rs,Bmx,PJ]
  congr 1
  by_cases h:r=ns
  ·subst h;simp
  ·rw[Bf h,DG.mpr (Js h)]
theorem Bri{H:Hp}:∀{ps:List Addr} {rs:List (List Int)},Paired (λp (r:List Int)=>H p=some (.lst (r.map V.int))) ps rs->Ayu K H (ps.map V.ref) (rs.map V1)
 |_,_,.nil=>.nil
 |_,_,.cons r t=>.cons (Bbv r) (Bri t)
theorem Bms(w:Nat)(l:List Int):(RM.cuts w l).length=(l.length+w-1)/w:=by unfold RM.cuts;rw[Aa,GX]
theorem Anr{ns:List Int}{most:Nat}{xs:List Item}(h:Adc ns most=some xs):RM.ND xs/\(∀x∈xs,RM.IOk x)/\xs.length<=most:=by
 unfold Adc at h
 split at h
 ·rename_i hl
  rw[RM.X3] at h
  split at h
  ·rename_i hc
   cases h
   refine⟨hc.2,λx hx=>?_,by rw[Aa];exact hl⟩
   obtain⟨p,hp,rfl⟩:=Dv.mp hx
   exact RM.Bnr (Ep.mp hc.1 p hp)
  ·cases h
 ·cases h
theorem Bob{ns:List Int}{most:Nat}{xs:List Coming}(h:Anq ns most=some xs):RM.NDC xs/\(∀x∈xs,RM.IOk x.item)/\xs.length<=most:=by
 unfold Anq at h
 split at h
 ·rename_i hl
  rw[RM.U0] at h
  split at h
  ·rename_i hc
   cases h
   refine⟨hc.2,λx hx=>?_,by rw[Aa];exact hl⟩
   obtain⟨p,hp,rfl⟩:=Dv.mp hx
   exact RM.Bqa (Ep.mp hc.1 p hp)
  ·cases h
 ·cases h
theorem Bx7(n m:Nat):(n+6-1)/6<=m↔n<=6*m:=by omega
theorem Bok(n m:Nat):(n+7-1)/7<=m↔n<=7*m:=by omega
theorem Boh{β:Type}(ns:List Int)(most k:Nat)(hk:k=6*most)(a:β)(f:List Item->β):(if(decide (ns.length<=k)&&(thingsIn ns).isSome)=false then a else f ((thingsIn ns).getD []))=match Adc ns most with|none=>a|some xs=>f xs:=by
 unfold Adc
 rw[Bms]
 by_cases h:ns.length<=k
 ·rw[Aq ((Bx7 _ _).mpr (by omega)),Aj h,HB]
  cases thingsIn ns<;>rfl
 ·rw[Am (show ¬(ns.length+6-1)/6<=most from λq=>h (by have:=(Bx7 _ _).mp q;omega)),Bf h,Ib,Aq rfl]
theorem Ca4{β:Type}(ns:List Int)(most k:Nat)(hk:k=7*most)(a:β)(f:List Coming->β):(if(decide (ns.length<=k)&&(comingsIn ns).isSome)=false then a else f ((comingsIn ns).getD []))=match Anq ns most with|none=>a|some xs=>f xs:=by
 unfold Anq
 rw[Bms]
 by_cases h:ns.length<=k
 ·rw[Aq ((Bok _ _).mpr (by omega)),Aj h,HB]
  cases comingsIn ns<;>rfl
 ·rw[Am (show ¬(ns.length+7-1)/7<=most from λq=>h (by have:=(Bok _ _).mp q;omega)),Bf h,Ib,Aq rfl]
def Atb(B:Bounds)(p:Int)(ns:List Int):List Int:=(Dc ⟨B,0,[]⟩ (RM.mkC p ns)).2
def XR(A:Adr)(p:Int):Sp:=λvs H Q _=>∃b r B ns,vs=[.ref b,.ref r]/\Ja A H b B/\H r=some (.lst (ns.map V.int))/\ns.length<=120/\∀D H',Same H H'->H D=none->(Atb B p ns).length<=30000->H' D=some (.lst ((Atb B p ns).map V.int))->Q (.ref D) H'
theorem RQ{A:Adr}{p:Int}{vs:List V}{H:Hp}{Q:VK}{E:XK}(h:XR A p vs H Q E):vs.length=2:=by
 obtain⟨b,r,B,ns,rfl,_⟩:=h;rfl
theorem ZM{xs:List Item}(h:∀x∈xs,RM.IOk x)(hl:xs.length<=100):Fit xs:=⟨Az hl (by decide),λx hx=>⟨(h x hx).rank,(h x hx).sender⟩⟩
theorem Adq{α β:Type}(c:Prop)[Decidable c](x y:α×β):(if c then x else y).2=if c then x.2 else y.2:=by split<;>rfl
theorem Cby(B:Bounds)(ns:List Int):Atb B 17 ns=match Adc ns 20 with|none=>[-1]|some xs=>numbersRow (Fi B xs):=by
 rw[<-Boh ns 20 120 rfl]
 show(if _ then _ else _:Ci×Ho).2=_
 rw[Adq];rfl
theorem Cbz(B:Bounds)(ns:List Int):Atb B 18 ns=match Adc ns 5 with|none=>[-1]|some xs=>(match UW B xs with|none=>[1]|some r=>0::(numbersRow r++numbersRow (Fi B r))):=by
 rw[<-Boh ns 5 30 rfl]
 show(if _ then _ else _:Ci×Ho).2=_
 rw[Adq];rfl
theorem Cb0(B:Bounds)(ns:List Int):Atb B 19 ns=match Adc ns 20 with|none=>[-1]|some xs=>numbersRow (Ap6 B xs):=by
 rw[<-Boh ns 20 120 rfl]
 show(if _ then _ else _:Ci×Ho).2=_
 rw[Adq];rfl
theorem Cb1(B:Bounds)(ns:List Int):Atb B 20 ns=match Adc ns 10 with|none=>[-1]|some xs=>(worthOf (Xn B xs):Int)::numbersRow (Xn B xs):=by
 rw[<-Boh ns 10 60 rfl (f:=λxs=>(worthOf (Xn B xs):Int)::numbersRow (Xn B xs))]
 show(if _ then _ else _:Ci×Ho).2=_
 rw[Adq];rfl
theorem Cb5(B:Bounds)(ns:List Int):Atb B 28 ns=match Adc ns 5 with|none=>[-1]|some xs=>((Sx B xs).length:Int)::(Sx B xs).flatMap λk=>(worthOf k:Int)::numbersRow k:=by
 rw[<-Boh ns 5 30 rfl (f:=λxs=>((Sx B xs).length:Int)::(Sx B xs).flatMap λk=>(worthOf k:Int)::numbersRow k)]
 show(if _ then _ else _:Ci×Ho).2=_
 rw[Adq];rfl
theorem Cb2(B:Bounds)(ns:List Int):Atb B 21 ns=match Anq ns 10 with|none=>[-1]|some xs=>(worthOf (M9 B xs):Int)::numbersRow (M9 B xs):=by
 rw[<-Ca4 ns 10 70 rfl (f:=λxs=>(worthOf (M9 B xs):Int)::numbersRow (M9 B xs))]
 show(if _ then _ else _:Ci×Ho).2=_
 rw[Adq];rfl
theorem Cb3(B:Bounds)(ns:List Int):Atb B 22 ns=match Anq ns 10 with|none=>[-1]|some xs=>(worthOf ((Ze B xs).map λc=>c.item):Int)::numbersRow ((Ze B xs).map λc=>c.item):=by
 rw[<-Ca4 ns 10 70 rfl (f:=λxs=>(worthOf ((Ze B xs).map λc=>c.item):Int)::numbersRow ((Ze B xs).map λc=>c.item))]
 show(if _ then _ else _:Ci×Ho).2=_
 rw[Adq];rfl
theorem Cb4(B:Bounds)(ns:List Int):Atb B 25 ns=if(decide (1<=ns.length/\ns.length<=8)&&ns.all λn=>Ax n 0 1000)=false then [-1] else(ns.length:Int)::(Xo B.room (ns.map MK)).flatMap λx=>[x.num,(x.den:Int)]:=by
 show(if _ then _ else _:Ci×Ho).2=_
 rw[Adq];rfl
theorem Avv{B:Bounds}{xs:List Item}(n:RM.ND xs):(Fi B xs).length<=xs.length:=by
 rw[RM.Axn n]
 have:=Agw (B:=B) xs []
 have h0:([]:List Item).length=0:=rfl
 omega
theorem Bdl(B:Bounds)(xs:List Item):(Ap6 B xs).length<=xs.length:=by
 rw[RM.Azw]
 have go:∀(l m:List Item),(l.foldl (λm x=>if fits B (m++[x])=true then m++[x] else m) m).length<=m.length+l.length:=λl=>by
  induction l with
  |nil=>intro m;exact Bu _
  |cons x l ih=>
   intro m
   rw[J7]
   refine Az (ih _) ?_
   split
   ·rw[Bg,Ay (as:=l)]
    show m.length+1+l.length<=_
    omega
   ·rw[Ay];omega
 have h:=go (Ba3 stronger xs) []
 have h0:([]:List Item).length=0:=rfl
 rw[(RM.Ke stronger xs).length_eq] at h
 omega
theorem Bke(T:Txt K mg A):Def P w K mg base 7 "kept_call" Akz (XR A 17):=by
 refine Ed T.Azp Bma (λvs H Q E h=>RQ h) (λX e1 e2 e3 e4 e5 c H vs Q E h=>?_)
 tm_at"s"
 obtain⟨b,r,B,ns,rfl,hb,hr,hn,k⟩:=h
 rw[Cby] at k
 refine⟨_,Blf T c (Rp T) (Jd T) (Yl T),?_⟩
 show Am1 X.K A _ _ _ _ [some (.ref b),some (.ref r),none] H
 unfold Am1
 tm_at"r"
 refine⟨_,rfl,r,ns,20,rfl,hr,Az hn (by decide),by decide,λH1 s1 hnone=>?_,λL H1 zs s1 hL hsome hl=>?_⟩
 ·rw[hnone] at k
  unfold Ae1
  tm_at"r"
  refine⟨_,rfl,rfl,_,rfl,?_⟩
  rw[Aj rfl,Aq rfl]
  exact Aka λp hp=>k p _ (s1.trans (Av hp)) (s1.free hp) (show 1<=30000 by decide) Ah
 ·rw[hsome] at k
  dsimp only at k
  obtain⟨hnd,hok,hlen⟩:=Anr hsome
  have hzl:zs.length<=20:=by rw[<-DK];exact hlen
  unfold Ae1
  tm_at"r"
  refine⟨_,rfl,rfl,_,rfl,?_⟩
  rw[Bf (λq=>V.noConfusion q),Am Ac]
  unfold Ar0
  tm_at"r"
  refine⟨_,rfl,_,rfl,b,L,B,zs,rfl,hb.same s1,hl,ZM hok (by omega),by omega,hnd,λD H2 zs' s2 htl hi hm=>?_⟩
  have hkl:=Avv (B:=B) hnd
  refine⟨D,_,rfl,htl.tl,by rw[hi];exact CJ (Az hkl hlen) (by decide),λD' H3 s3 hD h3=>?_⟩
  rw[hi] at h3
  exact k D' H3 (s1.trans (s2.trans s3)) (s1.free (s2.free hD)) (by rw[Iz];omega) h3
theorem Bea(T:Txt K mg A):Def P w K mg base 6 "greedy_call" Ad6 (XR A 19):=by
 refine Ed T.Aqp Bfv (λvs H Q E h=>RQ h) (λX e1 e2 e3 e4 e5 c H vs Q E h=>?_)
 tm_at"s"
 obtain⟨b,r,B,ns,rfl,hb,hr,hn,k⟩:=h
 rw[Cb0] at k
 refine⟨_,Be5 T c (Rp T) (Jd T) (Ax5 T),?_⟩
 show Aez X.K A _ _ _ _ [some (.ref b),some (.ref r),none] H
 unfold Aez
 tm_at"r"
 refine⟨_,rfl,r,ns,20,rfl,hr,Az hn (by decide),by decide,λH1 s1 hnone=>?_,λL H1 zs s1 hL hsome hl=>?_⟩
 ·rw[hnone] at k
  unfold Yt
  tm_at"r"
  refine⟨_,rfl,rfl,_,rfl,?_⟩
  rw[Aj rfl,Aq rfl]
  exact Aka λp hp=>k p _ (s1.trans (Av hp)) (s1.free hp) (show 1<=30000 by decide) Ah
 ·rw[hsome] at k
  dsimp only at k
  obtain⟨hnd,hok,hlen⟩:=Anr hsome
  have hzl:zs.length<=20:=by rw[<-DK];exact hlen
  unfold Yt
  tm_at"r"
  refine⟨_,rfl,rfl,_,rfl,?_⟩
  rw[Bf (λq=>V.noConfusion q),Am Ac]
  unfold Ajr
  tm_at"r"
  refine⟨_,rfl,_,rfl,b,L,B,zs,rfl,hb.same s1,hl,ZM hok (by omega),by omega,hnd,λD H2 s2 htl=>?_⟩
  refine⟨D,_,rfl,htl,CJ (Az (Bdl B _) hlen) (by decide),λD' H3 s3 hD h3=>?_⟩
  exact k D' H3 (s1.trans (s2.trans s3)) (s1.free (s2.free hD)) (by rw[Iz];have:=Bdl B (its zs);omega) h3
theorem Bec(T:Txt K mg A):Def P w K mg base 7 "online_call" Ad7 (XR A 21):=by
 refine Ed T.Aqs Bfy (λvs H Q E h=>RQ h) (λX e1 e2 e3 e4 e5 c H vs Q E h=>?_)
 tm_at"s"
 obtain⟨b,r,B,ns,rfl,hb,hr,hn,k⟩:=h
 rw[Cb2] at k
 refine⟨_,Be8 T c (Al2 T) (La T) (Apa T),?_⟩
 show Ae3 X.K A _ _ _ _ [some (.ref b),some (.ref r),none] H
 unfold Ae3
 tm_at"r"
 refine⟨_,rfl,r,ns,10,rfl,hr,Az hn (by decide),by decide,λH1 s1 hnone=>?_,λL H1 zs s1 hL hsome hl=>?_⟩
 ·rw[hnone] at k
  unfold Yv
  tm_at"r"
  refine⟨_,rfl,rfl,_,rfl,?_⟩
  rw[Aj rfl,Aq rfl]
  exact Aka λp hp=>k p _ (s1.trans (Av hp)) (s1.free hp) (show 1<=30000 by decide) Ah
 ·rw[hsome] at k
  dsimp only at k
  obtain⟨hnd,hok,hlen⟩:=Bob hsome
  have hzl:zs.length<=10:=by have:(ics zs).length=zs.length:=Aa ..;omega
  unfold Yv
  tm_at"r"
  refine⟨_,rfl,rfl,_,rfl,?_⟩
  rw[Bf (λq=>V.noConfusion q),Am Ac]
  unfold Ajt
  tm_at"r"
  refine⟨_,rfl,_,rfl,b,L,B,zs,rfl,hb.same s1,hl,λx hx=>⟨(hok x hx).rank,(hok x hx).sender⟩,by omega,hnd,λD H2 s2 htl hol=>?_⟩
  refine⟨D,_,rfl,htl,Az hol (by decide),λD' H3 s3 hD h3=>?_⟩
  exact k D' H3 (s1.trans (s2.trans s3)) (s1.free (s2.free hD)) (by rw[Ay,Iz];omega) h3
structure Biw(K:Frag)(mg:Str->Option Value)(base:Heap)(x lq:Str)(cc Pt:Addr):Prop where
 ht:Kg K x=some (cc,Pt)
 hns:∀f,mg x=some (.ref f)->Qg K mainGlobals x=some (some (.ref f))
 hcd:GD base cc Pt
 hbm:∃bm o,mg "__builtins__"=some (.ref bm)/\bm≠builtinsNs/\bm≠mainGlobals/\base.get? bm=some o/\o.cls=.type "module"/\o.dict=some builtinsNs/\o.data=.plain
 hq:x++".<locals>."++"<lambda>"=lq
def Boq(A:Adr)(p:Int)(Pt:Addr)(lq:Str)(lp:Pos):Sp:=λvs H Q _=>∃b r B ns,vs=[.ref b,.ref r]/\Ja A H b B/\H r=some (.lst (ns.map V.int))/\ns.length<=120/\VR H Pt lq lp/\
 ∀D H',KS Pt H H'->VR H' Pt lq lp->H D=none->(Atb B p ns).length<=30000->H' D=some (.lst ((Atb B p ns).map V.int))->Q (.ref D) H'
theorem Ah7{H:Hp}{Pt:Addr}{lq:Str}{lp:Pos}(t:VR H Pt lq lp):∃q,H Pt=some (.tbl q):=by
 rcases t with t|⟨c',oc,vs,tk,t,_⟩
 ·exact⟨_,t⟩
 ·exact⟨_,t⟩
def NT(H H':Hp):Prop:=∀a o,H a=some o->(∀q,o≠.tbl q)->H' a=some o
theorem KS.nt{H H':Hp}{Pt:Addr}(k:KS Pt H H')(t:∃q,H Pt=some (.tbl q)):NT H H':=λa o h n=>k a o (λz=>by
 obtain⟨q,hq⟩:=t
 rw[z,hq] at h
 exact n q (Ae h).symm) h
theorem NT.thing{A:Adr}{H H':Hp}{a:Addr}{x:Item}(k:NT H H')(h:Gi A H a x):Gi A H' a x:=let⟨C,dx,ex,e,t⟩:=h;⟨C,dx,ex,k _ _ e (λq z=>HO.noConfusion z),t⟩
theorem NT.Cc2{A:Adr}{H H':Hp}{a:Addr}{x:Coming}(k:NT H H')(h:Li A H a x):Li A H' a x:=let⟨dx,e⟩:=h;⟨dx,k _ _ e (λq z=>HO.noConfusion z)⟩
theorem NT.lst{H H':Hp}{a:Addr}{xs:List V}(k:NT H H')(h:H a=some (.lst xs)):H' a=some (.lst xs):=k _ _ h (λq z=>HO.noConfusion z)
theorem NT.tlz{A:Adr}{H H':Hp}{a:Addr}{zs:Zs}(k:NT H H')(h:TLz A H a zs):TLz A H' a zs:=⟨k.lst h.1,λz hz=>k.thing (h.2 z hz)⟩
theorem NT.clz{A:Adr}{H H':Hp}{a:Addr}{zs:Cz}(k:NT H H')(h:CLz A H a zs):CLz A H' a zs:=⟨k.lst h.1,λz hz=>k.Cc2 (h.2 z hz)⟩
theorem NT.bounds{A:Adr}{H H':Hp}{b:Addr}{B:Bounds}(k:NT H H')(h:Ja A H b B):Ja A H' b B:=let⟨dx,lp,e,e2,l⟩:=h;⟨dx,lp,k _ _ e (λq z=>HO.noConfusion z),k.lst e2,l⟩
theorem Bhr{H:Hp}{c a:Addr}{o:Obj}{x:HO}(hc:H c=some (Yc c o))(h:H a=some x)(n:∀q,x≠.ext q):Afr H c a=some x:=by
 rw[Ry (λz=>by
  rw[z,hc] at h
  exact n _ (Ae h).symm)]
 exact h
theorem Bmw{A:Adr}{H:Hp}{c a:Addr}{o:Obj}{zs:Zs}(hc:H c=some (Yc c o))(h:TLz A H a zs):TLz A (Afr H c) a zs:=⟨Bhr hc h.1 (λq z=>HO.noConfusion z),λz hz=>by
 obtain⟨C,dx,ex,e,t⟩:=h.2 z hz
 exact⟨C,dx,ex,Bhr hc e (λq z=>HO.noConfusion z),t⟩⟩
theorem Aod{H H1 H2 H3 H4:Hp}{Pt c:Addr}{lq:Str}{lp:Pos}{oc:Obj}(s1:Same H H1)(t1:VR H1 Pt lq lp)(hc1:H1 c=none)(hc2:H2 c=some (Yc c oc))(k2:KS Pt H1 H2)(t2:VR (Afr H2 c) Pt lq lp)(s3:Same H2 H3)(s4:Same (Afr H3 c) H4):
  KS Pt H H4/\VR H4 Pt lq lp/\∀D,H4 D=none->H D=none:=by
 have sd:Same (Afr H2 c) (Afr H3 c):=λa o e=>by
  by_cases h:a=c
  ·rw[h,Bjl] at e;cases e
  ·rw[Ry h] at e|-
   exact s3 _ _ e
 refine⟨λa o ha e=>s4 _ _ ?_,t2.same (sd.trans s4),λD hD=>?_⟩
 ·have e1:=s1 _ _ e
  rw[Ry (λz=>by rw[z,hc1] at e1;cases e1)]
  exact s3 _ _ (k2 _ _ ha e1)
 ·have hd:=s4.free hD
  by_cases h:D=c
  ·rw[h];exact s1.free hc1
  ·rw[Ry h] at hd
   have h2:=s3.free hd
   refine s1.free ?_
   by_cases hp:D=Pt
   ·obtain⟨q,hq⟩:=Ah7 t2
    rw[<-hp,Ry h,h2] at hq;cases hq
   ·cases e:H1 D with
    |none=>rfl
    |some o=>rw[k2 _ _ hp e] at h2;cases h2
theorem Bto(B:Bounds)(zs:Zs):its (RM.Q9 (bz id) (λcs=>fits B (its cs)) ((RM.chs zs).map (·.1)) [])=Xn B (its zs):=by
 unfold Xn
 rw[RM.Bmi]
 have e:(RM.chs (its zs)).map (·.1)=((RM.chs zs).map (·.1)).map its:=by
  unfold its
  rw[Au9,Df,Df];rfl
 rw[e]
 exact(Ax9 its (λx y=>by unfold bz;rw[T9,T9]) _ _ λx _=>rfl).symm
theorem Bj7(T:Txt K mg A){cc Pt:Addr}(L:Biw K mg base "best_call" "best_call.<locals>.<lambda>" cc Pt):Def P w K mg base 9 "best_call" Akw (Boq A 20 Pt "best_call.<locals>.<lambda>" (Axt QK)):=by
 refine Brh T.Azg Bl2 (λvs H Q E h=>by obtain⟨b,r,B,ns,rfl,_⟩:=h;rfl) L.ht L.hns L.hcd L.hbm L.hq (λX e1 e2 e3 e4 e5 c LC H vs Q E h=>?_)
 tm_at"s"
 obtain⟨b,r,B,ns,rfl,hb,hr,hn,ht,k⟩:=h
 rw[Cb1] at k
 refine⟨_,Bk6 T c LC (Rp T) (La T) (Alz T) (Ahc T),?_⟩
 show Amp X.K A Pt _ _ _ _ _ [some (.ref b),some (.ref r),none] H
 unfold Amp
 tm_at"r"
 refine⟨_,rfl,r,ns,10,rfl,hr,Az hn (by decide),by decide,λH1 s1 hnone=>?_,λL H1 zs s1 hL hsome hl=>?_⟩
 ·rw[hnone] at k
  unfold Aet
  tm_at"r"
  refine⟨_,rfl,rfl,_,rfl,?_⟩
  rw[Aj rfl,Aq rfl]
  exact Aka λp hp=>k p _ (Same.ks (s1.trans (Av hp))) (ht.same (s1.trans (Av hp))) (s1.free hp) (show 1<=30000 by decide) Ah
 ·rw[hsome] at k
  dsimp only at k
  obtain⟨hnd,hok,hlen⟩:=Anr hsome
  have hzl:zs.length<=10:=by rw[<-DK];exact hlen
  unfold Aet
  tm_at"r"
  refine⟨_,rfl,rfl,_,rfl,?_⟩
  rw[Bf (λq=>V.noConfusion q),Am Ac]
  unfold Aq6
  tm_at"r"
  have ht1:=ht.same s1
  refine⟨_,rfl,.ref b,rfl,ht1,λH2 f c' hc1 ⟨oc,hc2⟩ k2 t2 Bwt=>?_⟩
  have nt:=KS.nt k2 (Ah7 ht1)
  refine⟨Addr×Item,id,zs,λcs=>fits B (its cs),L,f,"fit",.ref b,Aio,Em A,rfl,by rw[T9];exact nt.tlz hl,by omega,Bwt,(Ahc T).mono (by decide),λcs p H' R hcs s hp hR=>?_,λD H3 cs s3 hD hcs hpk=>⟨s3,?_⟩⟩
  ·rw[T9] at hp
   refine⟨b,p,B,its cs,rfl,(nt.bounds (hb.same s1)).same s,⟨cs,⟨hp,λz hz=>((nt.tlz hl).2 z (hcs.subset hz)).same s⟩,rfl⟩,ZM (λx hx=>?_) ?_,hR⟩
   ·obtain⟨z,hz,rfl⟩:=U8 hx
    exact hok _ (Rz (hcs.subset hz))
   ·rw[DK]
    have:=hcs.length_le
    omega
  ·rw[T9] at hD
   have hc3:H3 c'=some (Yc c' oc):=s3 _ _ hc2
   have htl:TLz A (Afr H3 c') D cs:=Bmw hc3 ⟨hD,λz hz=>((nt.tlz hl).2 z (hcs.subset hz)).same s3⟩
   have hcl:cs.length<=10:=Az hcs.length_le hzl
   refine⟨D,its cs,rfl,htl.tl,by rw[DK];omega,λD' H4 s4 hD' h4=>?_⟩
   obtain⟨f1,f2,f3⟩:=Aod s1 ht1 hc1 hc2 k2 t2 s3 s4
   have hl4:((worthOf (its cs):Int)::numbersRow (its cs)).length<=30000:=by rw[Ay,Iz,DK];omega
   rw[hpk,Bto] at h4 hl4
   refine k D' H4 f1 f2 ?_ hl4 h4
   have f4:=Aod s1 ht1 hc1 hc2 k2 t2 s3 (Same.refl _)
   exact f4.2.2 D' hD'
theorem Bw2(cs:Cz):its (cs.map λz=>(z.1,z.2.item))=(ics cs).map λx=>x.item:=Avu cs
theorem Bpx(B:Bounds)(zs:Cz):ics (RM.Q9 (bz λz:Addr×Coming=>(z.1,z.2.item)) (λcs=>Sw B (ics cs)) ((RM.chs zs).map (·.1)) [])=Ze B (ics zs):=by
 rw[RM.Bph]
 have e:(RM.chs (ics zs)).map (·.1)=((RM.chs zs).map (·.1)).map ics:=by
  unfold ics
  rw[Au9,Df,Df];rfl
 rw[e]
 exact(Ax9 ics (λx y=>by unfold bz Vbdtag.betterC;rw[Bw2,Bw2]) _ _ λx _=>rfl).symm
theorem Bgi(T:Txt K mg A){cc Pt:Addr}(L:Biw K mg base "known_call" "known_call.<locals>.<lambda>" cc Pt):Def P w K mg base 9 "known_call" Ago (Boq A 22 Pt "known_call.<locals>.<lambda>" (Axt Pj)):=by
 refine Brh T.Avg Bi7 (λvs H Q E h=>by obtain⟨b,r,B,ns,rfl,_⟩:=h;rfl) L.ht L.hns L.hcd L.hbm L.hq (λX e1 e2 e3 e4 e5 c LC H vs Q E h=>?_)
 tm_at"s"
 obtain⟨b,r,B,ns,rfl,hb,hr,hn,ht,k⟩:=h
 rw[Cb3] at k
 refine⟨_,Bg0 T c LC (Al2 T) (La T) (Alz T) (Aa0 T),?_⟩
 show Ahr X.K A Pt _ _ _ _ _ [some (.ref b),some (.ref r),none] H
 unfold Ahr
 tm_at"r"
 refine⟨_,rfl,r,ns,10,rfl,hr,Az hn (by decide),by decide,λH1 s1 hnone=>?_,λL H1 zs s1 hL hsome hl=>?_⟩
 ·rw[hnone] at k
  unfold Aa6
  tm_at"r"
  refine⟨_,rfl,rfl,_,rfl,?_⟩
  rw[Aj rfl,Aq rfl]
  exact Aka λp hp=>k p _ (Same.ks (s1.trans (Av hp))) (ht.same (s1.trans (Av hp))) (s1.free hp) (show 1<=30000 by decide) Ah
 ·rw[hsome] at k
  dsimp only at k
  obtain⟨hnd,hok,hlen⟩:=Bob hsome
  have hzl:zs.length<=10:=by have:(ics zs).length=zs.length:=Aa ..;omega
  unfold Aa6
  tm_at"r"
  refine⟨_,rfl,rfl,_,rfl,?_⟩
  rw[Bf (λq=>V.noConfusion q),Am Ac]
  unfold Am2
  tm_at"r"
  have ht1:=ht.same s1
  refine⟨_,rfl,.ref b,rfl,ht1,λH2 f c' hc1 ⟨oc,hc2⟩ k2 t2 Bwt=>?_⟩
  have nt:=KS.nt k2 (Ah7 ht1)
  have hl2:=nt.clz hl
  have hrf:∀cs:Cz,rf (cs.map λz=>(z.1,z.2.item))=cs.map λz=>V.ref z.1:=λcs=>by unfold rf;rw[Df];rfl
  refine⟨Addr×Coming,λz=>(z.1,z.2.item),zs,λcs=>Sw B (ics cs),L,f,"can_all_be_kept",.ref b,NK,Hr A,rfl,hl2.things,by omega,Bwt,(Aa0 T).mono (by decide),λcs p H' R hcs s hp hR=>?_,λD H3 cs s3 hD hcs hpk=>⟨s3,?_⟩⟩
  ·rw[hrf] at hp
   refine⟨b,p,B,cs,rfl,(nt.bounds (hb.same s1)).same s,⟨hp,λz hz=>(hl2.2 z (hcs.subset hz)).same s⟩,λx hx=>?_,?_,hR⟩
   ·unfold ics at hx
    obtain⟨z,hz,rfl⟩:=Dv.mp hx
    have:=hok z.2 (Cw (hcs.subset hz))
    exact⟨this.rank,this.sender⟩
   ·have:=hcs.length_le
    omega
  ·have hc3:H3 c'=some (Yc c' oc):=s3 _ _ hc2
   have htl:TLz A (Afr H3 c') D (cs.map λz=>(z.1,z.2.item)):=Bmw hc3 ⟨hD,λz hz=>by
    obtain⟨u,hu,rfl⟩:=Dv.mp hz
    exact((hl2.2 u (hcs.subset hu)).same s3).thing⟩
   have hcl:cs.length<=10:=Az hcs.length_le hzl
   refine⟨D,_,rfl,htl.tl,by rw[DK,Aa];omega,λD' H4 s4 hD' h4=>?_⟩
   obtain⟨f1,f2,f3⟩:=Aod s1 ht1 hc1 hc2 k2 t2 s3 s4
   have hl4:((worthOf (its (cs.map λz=>(z.1,z.2.item))):Int)::numbersRow (its (cs.map λz=>(z.1,z.2.item)))).length<=30000:=by rw[Ay,Iz,DK,Aa];omega
   rw[Bw2,hpk,Bpx] at h4 hl4
   refine k D' H4 f1 f2 ?_ hl4 h4
   have f4:=Aod s1 ht1 hc1 hc2 k2 t2 s3 (Same.refl _)
   exact f4.2.2 D' hD'
theorem Boe{α:Type}(v:α):∀n,(Dy n [v]).flatten=Dy n v
 |0=>rfl
 |n+1=>by rw[Hu,QZ,Boe v n,Hu];rfl
theorem Bei{α β:Type}{F:α->β->Prop}{a:α}{b:β}(h:F a b):∀n,Paired F (Dy n a) (Dy n b)
 |0=>.nil
 |n+1=>by rw[Hu,Hu];exact .cons h (Bei h n)
theorem Bzu{ns:List Int}(h:(ns.all λn=>Ax n 0 1000)=true):Q8 (ns.map MK)=ns/\∀x∈ns.map MK,x<=1000:=by
 constructor
 ·unfold Q8
  rw[Df]
  conv=>rhs;rw[<-T9 ns]
  refine Fv λn hn=>?_
  obtain⟨m,rfl,_⟩:=JM (Ep.mp h n hn)
  rfl
 ·intro x hx
  obtain⟨n,hn,rfl⟩:=Dv.mp hx
  obtain⟨m,rfl,hm⟩:=JM (Ep.mp h n hn)
  omega
def Bc9(fs:List Jl):List Int:=fs.flatMap λx=>[x.num,(x.den:Int)]
theorem Bpr(fs:List Jl)(f:Jl):Bc9 (fs++[f])=Bc9 fs++[f.num,(f.den:Int)]:=by
 unfold Bc9;rw[Oo];rfl
theorem Bhx(fs:List Jl):(Bc9 fs).length=2*fs.length:=by
 unfold Bc9
 induction fs with
 |nil=>rfl
 |cons p r ih=>
  rw[GR,Bg,ih,Ay (as:=r)]
  show 2+_=_
  omega
theorem Bm2(room:Nat)(l:List Nat):(Xo room l).length=l.length:=by unfold Xo;rw[Aa]
theorem Bkb(T:Txt K mg A):Def P w K mg base 4 "fair_call" Aky (XR A 25):=by
 refine Ed T.Azl Bl6 (λvs H Q E h=>RQ h) (λX e1 e2 e3 e4 e5 c H vs Q E h=>?_)
 tm_at"s"
 obtain⟨b,r,B,ns,rfl,hb,hr,hn,k⟩:=h
 rw[Cb4] at k
 refine⟨_,Blb T c (Bd8 T) (Jx T),?_⟩
 show Amu X.K A _ _ _ [some (.ref b),some (.ref r),none,none] H
 unfold Amu
 tm_at"r"
 have hrl:(ns.map V.int).length=ns.length:=Aa ..
 refine⟨_,rfl,r,_,rfl,.inl (SqL.of hr),_,_,rfl,rfl,_,rfl,?_⟩
 rw[hrl]
 have bad:∀H1,Same H H1->(decide (1<=ns.length/\ns.length<=8)&&ns.all λn=>Ax n 0 1000)=false->[V.int (-1)].length<=sizeLine/\∀p,H1 p=none->Q (.ref p) (upd H1 p (.lst [V.int (-1)])):=λH1 s1 hf=>by
  rw[hf,Aq rfl] at k
  exact Aka λp hp=>k p _ (s1.trans (Av hp)) (s1.free hp) (show 1<=30000 by decide) Ah
 by_cases h1:ns.length<1
 ·rw[Aq (Aj (by omega)),Aq rfl]
  exact bad H (Same.refl _) (by rw[Bf (by omega),Ib])
 ·rw[Am (by simp only [Cj];omega)]
  refine⟨_,rfl,r,_,rfl,.inl (SqL.of hr),_,_,rfl,rfl,_,rfl,?_⟩
  rw[hrl]
  by_cases h8:8<ns.length
  ·rw[Aq (Aj (by omega)),Aq rfl]
   exact bad H (Same.refl _) (by rw[Bf (by omega),Ib])
  ·rw[Am (by simp only [Cj];omega)]
   refine⟨_,rfl,by show 1<=sizeLine;decide,λp hp=>?_⟩
   have sp:=Av (o:=.lst [.ref A.QL]) hp
   refine⟨_,rfl,r,_,rfl,.inl (SqL.of (sp _ _ hr)),?_⟩
   rw[hrl]
   refine⟨p,(ns.length:Nat),_,rfl,rfl,Ah,by omega,by omega,?_,λq hq=>?_⟩
   ·rw[Fq]
    show 1*_<=_
    have:(100:Nat)<sizeLine:=by decide
    omega
   rw[Fq,Boe]
   have sq:=Av (o:=.lst (Dy ns.length (V.ref A.QL))) hq
   have s2:=sp.trans sq
   refine⟨r,q,ns,Dy ns.length (0,1000),rfl,s2 _ _ hr,⟨Dy ns.length A.QL,.inl (SqL.of (by rw[Ah,List.map_replicate])),Bei (λH' _=>T.Aq3 H') _⟩,λH3 s3=>⟨_,rfl,?_⟩⟩
   have s03:=s2.trans s3
   rw[Bjx,G9,HB]
   cases hall:(ns.all λn=>Ax n 0 1000) with
   |false=>
    rw[Ck,Aq rfl]
    exact bad H3 s03 (by rw[hall,Lb])
   |true=>
    rw[hall,Aj (show 1<=ns.length/\ns.length<=8 by omega),Am (by decide)] at k
    rw[CK,Am Ac]
    obtain⟨en,Cc5⟩:=Bzu hall
    unfold Aro
    tm_at"r"
    refine⟨_,rfl,r,_,rfl,.inl (SqL.of (s03 _ _ hr)),by show 1<=sizeLine;decide,λR hR=>?_⟩
    rw[hrl]
    have sR:=Av (o:=.lst [V.int (ns.length:Nat)]) hR
    have s04:=s03.trans sR
    unfold Arp
    tm_at"r"
    obtain⟨C',dx',fs',g1,g2,g3,g4⟩:=Axj T (hb.same s04)
    have hml:(ns.map MK).length=ns.length:=Aa ..
    refine⟨_,rfl,b,C',dx',fs',_,rfl,g1,g2,g3,g4,_,rfl,B.room,r,ns.map MK,rfl,by rw[en];exact s04 _ _ hr,λe=>by rw[e] at hml;(have h0:([]:List Nat).length=0:=rfl);omega,by omega,Cc5,λD H5 s5 hfr=>?_⟩
    obtain⟨ts,hDl,hps⟩:=hfr
    have htl:=Paired.length hps
    rw[Bm2,hml] at htl
    have hfl:=Bm2 B.room (ns.map MK)
    rw[hml] at hfl
    have hR5:=s5 _ _ (Ah:(upd H3 R (.lst [V.int (ns.length:Nat)])) R=_)
    have hRD:D≠R:=λz=>by
     rw[z,hR5] at hDl
     have:[V.int (ns.length:Nat)]=ts.map V.ref:=by injection hDl with e;injection e
     cases ts with
     |nil=>cases this
     |cons t ts=>rw[Bo,List.cons.injEq] at this;cases this.1
    generalize Xo B.room (ns.map MK)=fs at hps k hfl
    refine⟨D,rfl,⟨_,SqL.of hDl⟩,JZ (K:=X.K) (a:=D) (xs:=ts.map V.ref) (λi σ H'=>∃v,σ=[some (.ref b),some (.ref r),some (.ref R),v]/\H'=upd H5 R (.lst (V.int (ns.length:Nat)::(Bc9 (fs.take i)).map V.int)))
     ⟨none,rfl,?_⟩ (λi σ H' _ ⟨_,_,e⟩=>by rw[e];exact SqL.of (by rw[Cd hRD];exact hDl)) ?turn ?fin⟩
    ·funext a
     by_cases ha:a=R
     ·rw[ha,Ah,hR5,Fb];rfl
     ·rw[Cd ha]
    case turn=>
     rintro i v σ H' hv ⟨v6,rfl,rfl⟩
     rw[Bk] at hv
     obtain⟨t,hn',rfl⟩:∃t,ts[i]?=some t/\V.ref t=v:=J8 hv
     obtain⟨fr,hfr,hpt⟩:=KZ hps hn'
     have htR:t≠R:=λz=>by rw[z,hR5] at hpt;cases hpt
     tm_at"r"
     refine⟨_,rfl,.inl ⟨rfl,_,SqL.of Ah⟩,_,rfl,.inr ⟨R,t,_,_,rfl,rfl,Ah,SqT.of (by rw[Cd htR];exact hpt),?_,_,rfl,?_⟩⟩
     ·rw[Ay,Aa,Bhx,Er]
      have:(100:Nat)<sizeLine:=by decide
      show _+2<=_
      omega
     ·rw[Mu,take_snoc hfr,Bpr,Bd];rfl
    case fin=>
     rintro σ H' ⟨v6,rfl,rfl⟩
     rw[Aa,htl,<-hfl,DR]
     dsimp only
     unfold Arq
     have s45:=s03.trans (sR.trans s5)
     refine⟨_,rfl,k R _ (λa o e=>?_) (s03.free hR) (by rw[Ay];show(Bc9 fs).length+1<=_;rw[Bhx];omega) (by rw[Ah,hfl];rfl)⟩
     have ha:a≠R:=λz=>by rw[z,s03.free hR] at e;cases e
     rw[Cd ha]
     exact s45 _ _ e
theorem Az2{xs k m:List Item}(n:RM.ND xs)(hk:∀x∈k,x∈xs)(hm:∀x∈m,x∈xs)(h:numbersRow k=numbersRow m):k=m:=by
 unfold numbersRow Ak3 Hl at h
 rw[List.cons.injEq] at h
 refine RM.Az1 n hk hm ?_
 have:=h.2
 exact List.map_inj_right (λa b e=>by omega)|>.mp this
theorem Aeg{B:Bounds}{xs o:List Item}(n:RM.ND xs)(p:o.Perm xs):∀x∈Fi B o,x∈xs:=λx hx=>p.mem_iff.mp (RM.Bw3 ((RM.Lq p).mpr n) hx)
theorem Bgk(T:Txt K mg A):Def P w K mg base 7 "order_call" Agp (XR A 18):=by
 refine Ed T.Avj Bja (λvs H Q E h=>RQ h) (λX e1 e2 e3 e4 e5 c H vs Q E h=>?_)
 tm_at"s"
 obtain⟨b,r,B,ns,rfl,hb,hr,hn,k⟩:=h
 rw[Cbz] at k
 refine⟨_,Bg3 T c (Rp T) (Jd T) (Aq1 T) (Yl T),?_⟩
 show Ahu X.K A _ _ _ _ _ [some (.ref b),some (.ref r),none,none,none,none] H
 unfold Ahu
 tm_at"r"
 refine⟨_,rfl,r,ns,5,rfl,hr,Az hn (by decide),by decide,λH1 s1 hnone=>?_,λL H1 zs s1 hL hsome hl=>?_⟩
 ·rw[hnone] at k
  unfold Aa9
  tm_at"r"
  refine⟨_,rfl,rfl,_,rfl,?_⟩
  rw[Aj rfl,Aq rfl]
  exact Aka λp hp=>k p _ (s1.trans (Av hp)) (s1.free hp) (show 1<=30000 by decide) Ah
 ·rw[hsome] at k
  dsimp only at k
  obtain⟨hnd,hok,hlen⟩:=Anr hsome
  have hzl:zs.length<=5:=by rw[<-DK];exact hlen
  unfold Aa9
  tm_at"r"
  refine⟨_,rfl,rfl,_,rfl,?_⟩
  rw[Bf (λq=>V.noConfusion q),Am Ac]
  unfold Am4
  tm_at"r"
  refine⟨_,rfl,_,rfl,b,L,B,zs,rfl,hb.same s1,hl,ZM hok (by omega),by omega,hnd,λD H2 zs' s2 htl hi hm=>?_⟩
  have hkl:=Avv (B:=B) hnd
  have big:(100:Nat)<sizeLine:=by decide
  refine⟨D,_,rfl,htl.tl,by rw[hi];omega,λW H3 s3 hW h3=>?_⟩
  rw[hi] at h3
  have s03:=s1.trans (s2.trans s3)
  have hl3:=hl.same (s2.trans s3)
  unfold Am5
  tm_at"r"
  refine⟨_,rfl,L,zs,rfl,hl3,hzl,hnd,λM H4 ps os s4 hMf hpf hM hos hmem hol=>?_⟩
  obtain⟨hMl,hps⟩:=hM
  have s04:=s03.trans s4
  have hW4:=s4 _ _ h3
  have hpl:=Paired.length hps
  have hfind:UW B (its zs)=(os.map its).find? λr=>Fi B r !=Fi B (its zs):=by unfold UW;rw[hos]
  refine⟨M,rfl,⟨_,SqL.of hMl⟩,JZ (K:=X.K) (a:=M) (xs:=ps.map V.ref) (λi σ H'=>∃v4 v5,σ=[some (.ref b),some (.ref r),some (.ref L),some (.ref W),v4,v5]/\Same H4 H'/\((os.map its).take i).find? (λr=>Fi B r !=Fi B (its zs))=none)
   ⟨none,none,rfl,Same.refl _,by rw[Fb];rfl⟩ (λi σ H' _ ⟨_,_,_,s,_⟩=>SqL.of (s _ _ hMl)) ?turn ?fin⟩
  case turn=>
   rintro i v σ H' hv ⟨v4,v5,rfl,s5,hno⟩
   rw[Bk] at hv
   obtain⟨p,hpi,rfl⟩:∃p,ps[i]?=some p/\V.ref p=v:=J8 hv
   obtain⟨o,hoi,hpo⟩:=KZ hps hpi
   have Bpv:(os.map its)[i]?=some (its o):=by rw[Bk,hoi];rfl
   have hperm:(its o).Perm (its zs):=RM.Al4 _ _ rfl hnd _ (by rw[<-hos];exact BX Bpv)
   have Bxo:RM.ND (its o):=(RM.Lq hperm).mpr hnd
   have hol':o.length<=5:=by rw[<-DK,hperm.length_eq];exact hlen
   have Bzd:=hpo.same s5
   have hsplit:(os.map its)=(os.map its).take i++its o::(os.map its).drop (i+1):=by
    have hil:i<(os.map its).length:=(BL.mp Bpv).1
    have h1:(os.map its).drop i=its o::(os.map its).drop (i+1):=by
     rw[EY hil]
     congr 1
     exact Ae ((CP hil).symm.trans Bpv)
    rw[<-h1,QV]
   tm_at"r"
   refine⟨_,rfl,_,rfl,b,p,B,o,rfl,hb.same (s04.trans s5),Bzd,ZM (λx hx=>hok x (hperm.mem_iff.mp hx)) (by rw[DK];omega),by omega,Bxo,λD6 H6 zs6 s6 Cbn hi6 hm6=>?_⟩
   have Cbj:=Avv (B:=B) Bxo
   rw[DK] at Cbj
   refine⟨D6,_,rfl,Cbn.tl,by rw[hi6];omega,λW7 H7 s7 hW7 h7=>?_⟩
   rw[hi6] at h7
   have s57:=s5.trans (s6.trans s7)
   refine⟨_,rfl,_,rfl,_,_,Bbv h7,Bbv (s57 _ _ hW4),shaped_ints _,shaped_ints _,_,rfl,?_⟩
   rw[Bmx]
   by_cases heq:Fi B (its o)=Fi B (its zs)
   ·rw[heq,Aj rfl,CK,Am Ac]
    refine⟨_,_,rfl,s57,?_⟩
    rw[take_snoc Bpv,Ur,hno,Z6,Kz,heq]
    simp
   ·have hne:numbersRow (Fi B (its o))≠numbersRow (Fi B (its zs)):=λq=>heq (Az2 hnd (Aeg hnd hperm) (Aeg hnd (List.Perm.refl _)) q)
    rw[Bf hne,Ck,Aq rfl]
    have hfo:UW B (its zs)=some (its o):=by
     rw[hfind,hsplit,Ur,hno,Z6,Kz]
     have:(Fi B (its o) !=Fi B (its zs))=true:=by simpa using heq
     rw[this]
    rw[hfo] at k
    dsimp only at k
    refine⟨by show 1<=sizeLine;decide,λq hq=>?_⟩
    have sq:=Av (o:=.lst [.int 0]) hq
    refine⟨_,rfl,p,its o,rfl,(Bzd.same ((s6.trans s7).trans sq)).tl,by rw[DK];omega,λW8 H8 s8 hW8 h8=>?_⟩
    refine⟨q,W8,_,_,rfl,rfl,s8 _ _ Ah,h8,?_,λu hu=>?_⟩
    ·rw[Aa,Iz,DK]
     show 1+_<=_
     omega
    have su:=Av (o:=.lst ([.int 0]++(numbersRow (its o)).map V.int)) hu
    refine⟨_,rfl,u,W7,_,_,rfl,rfl,Ah,(sq.trans (s8.trans su)) _ _ h7,?_,λy hy=>?_⟩
    ·rw[Bg,Aa,Aa,Iz,Iz,DK]
     show 1+_+_<=_
     omega
    have Cff:=s04.trans (s57.trans (sq.trans (s8.trans (su.trans (Av (o:=.lst ([.int 0]++(numbersRow (its o)).map V.int++(numbersRow (Fi B (its o))).map V.int)) hy)))))
    refine k y _ Cff (s04.free (s57.free (sq.free (s8.free (su.free hy))))) (by rw[Ay,Bg,Iz,Iz,DK];omega) ?_
    rw[Ah,Bo,Bd];rfl
  case fin=>
   rintro σ H' ⟨v4,v5,rfl,s5,hno⟩
   have e1:(ps.map V.ref).length=(os.map its).length:=by rw[Aa,Aa,hpl]
   rw[e1,DR,<-hfind] at hno
   rw[hno] at k
   dsimp only
   unfold Am6
   tm_at"r"
   have s05:=s04.trans s5
   exact Aka λp hp=>k p _ (s05.trans (Av hp)) (s05.free hp) (show 1<=30000 by decide) Ah
def Apb(k:List Item):List Int:=(worthOf k:Int)::numbersRow k
theorem Bog(k:List Item):(Apb k).length=k.length+2:=by unfold Apb;rw[Ay,Iz]
theorem Bx5{xs k m:List Item}(n:RM.ND xs)(hk:∀x∈k,x∈xs)(hm:∀x∈m,x∈xs)(h:Apb k=Apb m):k=m:=by
 unfold Apb at h
 rw[List.cons.injEq] at h
 exact Az2 n hk hm h.2
theorem Asc{xs m:List Item}(n:RM.ND xs)(hm:∀x∈m,x∈xs):∀KE:List (List Item),(∀k∈KE,∀x∈k,x∈xs)->(KE.map Apb).contains (Apb m)=KE.contains m
 |[],_=>rfl
 |k::KE,h=>by
  rw[Bo,PJ,PJ,Asc n hm KE λq hq=>h q (Bh _ hq)]
  congr 1
  by_cases e:m=k
  ·subst e;simp
  ·rw[DG.mpr e]
   exact DG.mpr λq=>e (Bx5 n hm (h k Bl) q)
def Ca6(H:Hp)(E q:Addr)(r:List Int):Prop:=q≠E/\H q=some (.lst (r.map V.int))
theorem Bro{k:Nat}:∀KE:List (List Item),(∀k'∈KE,k'.length<=k)->(KE.flatMap Apb).length<=KE.length*(k+2)
 |[],_=>by simp
 |q::KE,h=>by
  rw[GR,Bg,Bog,Ay]
  have h1:=Bro KE λk' hk=>h k' (Bh _ hk)
  have h2:=h q Bl
  rw[PX]
  omega
theorem Bka(T:Txt K mg A):Def P w K mg base 7 "ends_call" Akx (XR A 28):=by
 refine Ed T.Azk Bl5 (λvs H Q E h=>RQ h) (λX e1 e2 e3 e4 e5 c H vs Q E h=>?_)
 tm_at"s"
 obtain⟨b,r,B,ns,rfl,hb,hr,hn,k⟩:=h
 rw[Cb5] at k
 refine⟨_,Bk9 T c (Rp T) (Aq1 T) (La T) (Yl T),?_⟩
 show Amt X.K A _ _ _ _ _ [some (.ref b),some (.ref r),none,none,none,none,none] H
 unfold Amt
 tm_at"r"
 refine⟨_,rfl,r,ns,5,rfl,hr,Az hn (by decide),by decide,λH1 s1 hnone=>?_,λL H1 zs s1 hL hsome hl=>?_⟩
 ·rw[hnone] at k
  unfold Aew
  tm_at"r"
  refine⟨_,rfl,rfl,_,rfl,?_⟩
  rw[Aj rfl,Aq rfl]
  exact Aka λp hp=>k p _ (s1.trans (Av hp)) (s1.free hp) (show 1<=30000 by decide) Ah
 ·rw[hsome] at k
  dsimp only at k
  obtain⟨hnd,hok,hlen⟩:=Anr hsome
  have hzl:zs.length<=5:=by rw[<-DK];exact hlen
  unfold Aew
  tm_at"r"
  refine⟨_,rfl,rfl,_,rfl,?_⟩
  rw[Bf (λq=>V.noConfusion q),Am Ac]
  unfold Arj
  tm_at"r"
  refine⟨by show 0<=sizeLine;decide,λE' hE=>?_⟩
  have sE:=Av (o:=.lst []) hE
  unfold Ark
  tm_at"r"
  refine⟨_,rfl,L,zs,rfl,hl.same sE,hzl,hnd,λM H4 ps os s4 hMf hpf hM hos hmem hol=>?_⟩
  obtain⟨hMl,hps⟩:=hM
  have hE0:(upd H1 E' (.lst [])) E'=some (.lst []):=Ah
  have hE4:=s4 _ _ hE0
  have s14:=sE.trans s4
  have hpl:=Paired.length hps
  have big:(40000:Nat)<sizeLine:=by decide
  have hends:Sx B (its zs)=(os.map its).foldl (λa r=>O6 (Fi B r) a) []:=by unfold Sx;rw[hos]
  have hME:M≠E':=λz=>by rw[z,hE0] at hMf;cases hMf
  have hpE:∀p∈ps,p≠E':=λp hp z=>by
   have:=hpf p hp
   rw[z,hE0] at this;cases this
  refine⟨M,rfl,⟨_,SqL.of hMl⟩,JZ (K:=X.K) (a:=M) (xs:=ps.map V.ref) (λi σ H'=>∃v4 v6 qs KE,σ=[some (.ref b),some (.ref r),some (.ref L),some (.ref E'),v4,none,v6]/\KS E' H4 H'/\H' E'=some (.lst (qs.map V.ref))/\Paired (Ca6 H' E') qs (KE.map Apb)/\(∀k∈KE,(∀x∈k,x∈its zs)/\k.length<=5)/\KE.length<=i/\KE=((os.map its).take i).foldl (λa r=>O6 (Fi B r) a) [])
   ⟨none,none,[],[],rfl,λa o _ h=>h,hE4,.nil,λ_ h=>(nomatch h),Bu _,by rw[Fb];rfl⟩ (λi σ H' _ ⟨_,_,_,_,_,k',_⟩=>SqL.of (k' _ _ hME hMl)) ?turn ?fin⟩
  case turn=>
   rintro i v σ H' hv ⟨v4,v6,qs,KE,rfl,k5,hEl,hqs,hKm,hKl,hKE⟩
   rw[Bk] at hv
   obtain⟨p,hpi,rfl⟩:∃p,ps[i]?=some p/\V.ref p=v:=J8 hv
   obtain⟨o,hoi,hpo⟩:=KZ hps hpi
   have Bpv:(os.map its)[i]?=some (its o):=by rw[Bk,hoi];rfl
   have hil:i<os.length:=(BL.mp hoi).1
   have hperm:(its o).Perm (its zs):=RM.Al4 _ _ rfl hnd _ (by rw[<-hos];exact BX Bpv)
   have Bxo:RM.ND (its o):=(RM.Lq hperm).mpr hnd
   have hol':o.length<=5:=by rw[<-DK,hperm.length_eq];exact hlen
   have Bzd:TLz A H' p o:=⟨k5 _ _ (hpE p (BX hpi)) hpo.1,λz hz=>by
    obtain⟨C,dx,ex,e,t⟩:=hpo.2 z hz
    exact⟨C,dx,ex,k5 _ _ (λq=>by rw[q,hE4] at e;cases e) e,t⟩⟩
   have hb5:Ja A H' b B:=by
    obtain⟨dx,lp,e,e2,l10⟩:=hb.same (s1.trans s14)
    refine⟨dx,lp,k5 _ _ (λq=>by rw[q,hE4] at e;cases e) e,k5 _ _ (λq=>?_) e2,l10⟩
    rw[q,hE4] at e2
    have:[]=Bgf B:=by injection e2 with e;injection e
    have h10:=congrArg Mv this
    unfold Bgf at h10
    rw[Aa,l10] at h10
    cases h10
   tm_at"r"
   have Cbj:=Avv (B:=B) Bxo
   rw[DK] at Cbj
   refine⟨_,rfl,_,rfl,b,p,B,o,rfl,hb5,Bzd,ZM (λx hx=>hok x (hperm.mem_iff.mp hx)) (by rw[DK];omega),by omega,Bxo,λD6 H6 zs6 s6 Cbn hi6 hm6=>?_⟩
   refine⟨D6,_,rfl,Cbn.tl,by rw[hi6];omega,λW7 H7 s7 hW7 h7=>?_⟩
   rw[hi6] at h7
   replace h7:H7 W7=some (.lst ((Apb (Fi B (its o))).map V.int)):=h7
   have s57:=s6.trans s7
   have By8:=s57 _ _ hEl
   have Cbm:Paired (Ca6 H7 E') qs (KE.map Apb):=Paired.up (λa b ⟨h1,h2⟩=>⟨h1,s57 _ _ h2⟩) hqs
   have hmk:∀x∈Fi B (its o),x∈its zs:=Aeg hnd hperm
   have hql:=Paired.length hqs
   rw[Aa] at hql
   refine⟨_,rfl,_,rfl,_,_,Bbv h7,.lst (SqL.of By8) (Bri (Paired.up (λa b h=>h.2) Cbm)),shaped_ints _,Bol _,_,rfl,?_⟩
   rw[any_rows,Asc hnd hmk KE λk hk=>(hKm k hk).1]
   have hk7:KS E' H4 H7:=k5.trans (Same.ks s57)
   have hstep:((os.map its).take (i+1)).foldl (λa r=>O6 (Fi B r) a) []=O6 (Fi B (its o)) KE:=by
    rw[take_snoc Bpv,Lk,<-hKE];rfl
   cases hc:KE.contains (Fi B (its o)) with
   |true=>
    rw[CK,Am Ac]
    refine⟨_,_,qs,KE,rfl,hk7,By8,Cbm,hKm,by omega,?_⟩
    rw[hstep]
    unfold O6
    rw[hc,Aq rfl]
   |false=>
    rw[Ck,Aq rfl]
    have hWE:W7≠E':=λz=>by
     rw[z] at hW7
     rw[s6 _ _ hEl] at hW7;cases hW7
    refine⟨_,rfl,.inl ⟨rfl,_,SqL.of By8⟩,_,rfl,E',_,_,rfl,rfl,By8,by rw[Aa];omega,_,_,qs++[W7],KE++[Fi B (its o)],rfl,λa o' ha e=>by rw[Cd ha];exact hk7 _ _ ha e,by rw[Ah,Bd];rfl,?_,λk' hk'=>?_,by rw[Bg];show _+1<=_;omega,?_⟩
    ·rw[Bd]
     exact Paired.snoc (F:=Ca6 (upd H7 E' (.lst (qs.map V.ref++[.ref W7]))) E') ⟨hWE,by rw[Cd hWE];exact h7⟩ (Paired.up (λa b ⟨h1,h2⟩=>⟨h1,by rw[Cd h1];exact h2⟩) Cbm)
    ·rcases Bw.mp hk' with h|h
     ·exact hKm k' h
     ·rw[Bj.mp h]
      exact⟨hmk,by omega⟩
    ·rw[hstep]
     unfold O6
     rw[hc,Am Ac]
  case fin=>
   rintro σ H' ⟨v4,v6,qs,KE,rfl,k5,hEl,hqs,hKm,hKl,hKE⟩
   have e1:(ps.map V.ref).length=(os.map its).length:=by rw[Aa,Aa,hpl]
   rw[e1,DR,<-hends] at hKE
   rw[Aa,hpl] at hKl
   rw[<-hKE] at k
   have hql:=Paired.length hqs
   rw[Aa] at hql
   have Caw:∀j,((KE.take j).flatMap Apb).length<=21875:=λj=>by
    have h1:=Bro (k:=5) (KE.take j) λk' hk'=>(hKm k' (Xk hk')).2
    rw[Er] at h1
    have h2:min j KE.length<=3125:=by omega
    have h3:=Xl (5+2) h2
    omega
   have sH':Same H1 H':=λa o e=>by
    have ha:a≠E':=λz=>by rw[z,hE] at e;cases e
    exact k5 _ _ ha (s14 _ _ e)
   have s0':=s1.trans sH'
   dsimp only
   unfold Arl
   tm_at"r"
   refine⟨_,rfl,E',_,rfl,.inl (SqL.of hEl),by show 1<=sizeLine;decide,λR hR=>?_⟩
   rw[Aa,hql]
   have sR:=Av (o:=.lst [V.int (KE.length:Nat)]) hR
   have hRE:E'≠R:=λz=>by rw[<-z,hEl] at hR;cases hR
   unfold Arm
   tm_at"r"
   refine⟨_,rfl,E',rfl,⟨_,SqL.of (sR _ _ hEl)⟩,JZ (K:=X.K) (a:=E') (xs:=qs.map V.ref) (λi σ H2=>∃v6,σ=[some (.ref b),some (.ref r),some (.ref L),some (.ref E'),v4,some (.ref R),v6]/\H2=upd H' R (.lst (V.int (KE.length:Nat)::((KE.take i).flatMap Apb).map V.int)))
    ⟨v6,rfl,by rw[Fb];rfl⟩ (λi σ H2 _ ⟨_,_,e⟩=>by rw[e];exact SqL.of (by rw[Cd hRE];exact hEl)) ?Byk ?fin2⟩
   case Byk=>
    rintro i v σ H2 hv ⟨v7,rfl,rfl⟩
    rw[Bk] at hv
    obtain⟨q,hqi,rfl⟩:∃q,qs[i]?=some q/\V.ref q=v:=J8 hv
    obtain⟨rw',hri,hqE,hrow⟩:=KZ hqs hqi
    rw[Bk] at hri
    obtain⟨k',hk',rfl⟩:∃k',KE[i]?=some k'/\Apb k'=rw':=J8 hri
    have hqR:q≠R:=λz=>by rw[z,hR] at hrow;cases hrow
    have hk5:=(hKm k' (BX hk')).2
    tm_at"r"
    refine⟨_,rfl,.inl ⟨rfl,_,SqL.of Ah⟩,_,rfl,.inl ⟨R,q,_,_,rfl,rfl,Ah,by rw[Cd hqR];exact hrow,?_,_,rfl,?_⟩⟩
    ·rw[Ay,Aa,Aa,Bog]
     have:=Caw i
     omega
    ·rw[Mu,take_snoc hk',Oo,Bd,GR,Afg,Ds];rfl
   case fin2=>
    rintro σ H2 ⟨v7,rfl,rfl⟩
    rw[Aa,hql,DR]
    dsimp only
    unfold Arn
    have sR':=Av (o:=.lst (V.int (KE.length:Nat)::(KE.flatMap Apb).map V.int)) hR
    refine⟨_,rfl,k R _ (s0'.trans sR') (s0'.free hR) ?_ Ah⟩
    have:=Caw KE.length
    rw[DR] at this
    rw[Ay]
    show(KE.flatMap Apb).length+1<=30000
    omega
def Bqt:List (Int×Str):=[(0,"room_call"),(1,"limits_call"),(2,"share_call"),(3,"arrive_call"),(4,"would_call"),(5,"why_call"),(6,"drop_call"),(7,"bind_call"),(8,"promise_call"),(9,"fulfil_call"),(10,"cancel_call"),(11,"tick_call"),(12,"items_call"),(13,"item_call"),(14,"used_call"),(15,"greatest_call"),(16,"goes_call"),(23,"lasts_call"),(24,"senders_call"),(26,"sure_call"),(27,"cheapest_call"),(29,"clear_call")]
def Aar:List (Int×Str):=[(17,"kept_call"),(18,"order_call"),(19,"greedy_call"),(20,"best_call"),(21,"online_call"),(22,"known_call"),(25,"fair_call"),(28,"ends_call")]
def nameOf(L:List (Int×Str))(n:Int):Option Str:=(L.find? λq=>decide (q.1=n)).map (·.2)
theorem Bk5{n:Int}:∀{l:List (Int×Addr)} {L:List (Int×Str)},Paired (λ(p:Int×Addr) (q:Int×Str)=>p.1=q.1/\mg q.2=some (.ref p.2)) l L->(∀x,nameOf L n=some x->∃f,Bdh l n=some f/\mg x=some (.ref f))/\(nameOf L n=none->Bdh l n=none)
 |_,_,.nil=>⟨λx h=>by(cases h),λ_=>rfl⟩
 |p::l,q::L,.cons r t=>by
  have ih:=Bk5 (n:=n) t
  unfold nameOf Bdh at ih|-
  rw[Kz,Kz,r.1]
  by_cases h:q.1=n
  ·rw[Aj h]
   exact⟨λx hx=>⟨p.2,rfl,by(cases hx);exact r.2⟩,λhx=>by(cases hx)⟩
  ·rw[Bf h]
   exact ih
theorem Bmn{l:List (Int×Addr)}{L:List (Int×Str)}{n:Int}{x:Str}{k:Nat}{ps:List Str}{sp:Sp}(h:Paired (λ(p:Int×Addr) (q:Int×Str)=>p.1=q.1/\mg q.2=some (.ref p.2)) l L)(e:nameOf L n=some x)(D:Def P w K mg base k x ps sp):
  ∃f,Bdh l n=some f/\Ig K (.ref f)=true/\∃fd,YZ P w K mg base CX0 k f fd ps sp/\Binds K fd ps []:=by
 obtain⟨f,h1,h2⟩:=(Bk5 h).1 x e
 obtain⟨f',fd,h3,h4,h5,h6⟩:=D.ex
 rw[h2] at h4
 cases h4
 exact⟨f,h1,h5,fd,h3,h6⟩
theorem Bqu(T:Txt K mg A):∀(m:Nat) (a:List Int),(m:Int)∉RM.Kr->RM.Mz[m]?=some a.length->∃x ps cnt,nameOf Bqt (m:Int)=some x/\Def P w K mg base 7 x ps (J9 A (m:Int) cnt)/\cnt a.length
 |0,a,_,e=>⟨"room_call",Ab7,(·=1),rfl,(Bkf T).mono (by decide),(Ae e).symm⟩
 |1,_,h,_=>absurd (by decide) h
 |2,a,_,e=>⟨"share_call",Zb,(·=1),rfl,(Bgm T).mono (by decide),(Ae e).symm⟩
 |3,a,_,e=>⟨"arrive_call",Wn,(·=6),rfl,(Bd6 T).mono (by decide),(Ae e).symm⟩
 |4,a,_,e=>⟨"would_call",Zd,(·=6),rfl,(Bgo T).mono (by decide),(Ae e).symm⟩
 |5,a,_,e=>⟨"why_call",Agq,(·=6),rfl,(Bnu T).mono (by decide),(Ae e).symm⟩
 |6,a,_,e=>⟨"drop_call",Ab4,(·=1),rfl,(Bj9 T).mono (by decide),(Ae e).symm⟩
 |7,a,_,e=>⟨"bind_call",Ab3,(·=2),rfl,(Bj8 T).mono (by decide),(Ae e).symm⟩
 |8,a,_,e=>⟨"promise_call",Uz,(·=6),rfl,(Bbf T).mono (by decide),(Ae e).symm⟩
 |9,a,_,e=>⟨"fulfil_call",Wr,(·=1),rfl,(Bd9 T).mono (by decide),(Ae e).symm⟩
 |10,a,_,e=>⟨"cancel_call",Wo,(·=1),rfl,(Bd7 T).mono (by decide),(Ae e).symm⟩
 |11,a,_,e=>⟨"tick_call",Ab9,(·=1),rfl,(Bkh T).mono (by decide),(Ae e).symm⟩
 |12,a,_,e=>⟨"items_call",Y8,(·=0),rfl,(Bgh T).mono (by decide),(Ae e).symm⟩
 |13,a,_,e=>⟨"item_call",Ab6,(·=1),rfl,(Bkd T).mono (by decide),(Ae e).symm⟩
 |14,a,_,e=>⟨"used_call",Aca,(·=0),rfl,(Bki T).mono (by decide),(Ae e).symm⟩
 |15,a,_,e=>⟨"greatest_call",S8,(·=3),rfl,(Ax3 T).mono (by decide),(Ae e).symm⟩
 |16,a,_,e=>⟨"goes_call",Ab5,(·=1),rfl,(Bkc T).mono (by decide),(Ae e).symm⟩
 |17,_,h,_=>absurd (by decide) h
 |18,_,h,_=>absurd (by decide) h
 |19,_,h,_=>absurd (by decide) h
 |20,_,h,_=>absurd (by decide) h
 |21,_,h,_=>absurd (by decide) h
 |22,_,h,_=>absurd (by decide) h
 |23,a,_,e=>⟨"lasts_call",Y9,(·=1),rfl,(Bgj T).mono (by decide),(Ae e).symm⟩
 |24,a,_,e=>⟨"senders_call",UG,(·=0),rfl,(Bbg T).mono (by decide),(Ae e).symm⟩
 |25,_,h,_=>absurd (by decide) h
 |26,a,_,e=>⟨"sure_call",Ab8,(·=1),rfl,(Bkg T).mono (by decide),(Ae e).symm⟩
 |27,a,_,e=>⟨"cheapest_call",S6,(·=6),rfl,(Ax1 T).mono (by decide),(Ae e).symm⟩
 |28,_,h,_=>absurd (by decide) h
 |29,a,_,e=>⟨"clear_call",Y7,(·=0),rfl,(Bgg T).mono (by decide),(Ae e).symm⟩
 |m+30,a,_,e=>by rw[IW (by show 30<=m+30;omega)] at e;cases e
def Brb(p:Int)(ns:List Int):Prop:=p=1\/∃m:Nat,p=(m:Int)/\(m:Int)∉RM.Kr/\RM.Mz[m]?=some ns.length
def HW(A:Adr):Sp:=λvs H Q _=>∃s r T st p ns,vs=[.ref s,.int p,.ref r]/\Asy A H s T st/\RM.SOk st/\H r=some (.lst (ns.map V.int))/\r≠T/\H T≠none/\Brb p ns/\
 ∀D H',Fr H H'->H D=none->Asy A H' s T (Dc st (RM.mkC p ns)).1->(Dc st (RM.mkC p ns)).2.length<=30000->H' D=some (.lst ((Dc st (RM.mkC p ns)).2.map V.int))->Q (.ref D) H'
theorem Aly(T:Txt K mg A):Def P w K mg base 9 "answer_store_call" Ou (HW A):=by
 refine Ed T.YG Ao3 (λvs H Q E h=>?_) (λX e1 e2 e3 e4 e5 c H vs Q E h=>?_)
 ·obtain⟨s,r,Ta,st,p,ns,rfl,_⟩:=h;rfl
 tm_at"s"
 obtain⟨s,r,Ta,st,p,ns,rfl,hst,ok,hr,hrT,hT,hso,k⟩:=h
 refine⟨_,Anu T c,?_⟩
 show R7 X X.K A _ [some (.ref s),some (.int p),some (.ref r),none] H
 unfold R7
 tm_at"r"
 have key:(Dc st (RM.mkC p ns)).2.length<=30000/\∃x ps cnt,nameOf Bqt p=some x/\Def X.prog X.w X.K X.mg X.base 7 x ps (J9 A p cnt)/\cnt ns.length:=by
  rcases hso with rfl|⟨m,rfl,h1,h2⟩
  ·exact⟨Az (RM.Bp4 ok ns) (by decide),"limits_call",Ws,λ_=>True,rfl,(Beb T).mono (by decide),trivial⟩
  ·exact⟨Az (RM.Bu2 ok m ns h1 h2) (by decide),Bqu T m ns h1 h2⟩
 obtain⟨hlen,x,ps,cnt,hx,D,hc⟩:=key
 obtain⟨f,g1,g2,fd,g3,g4⟩:=Bmn (L:=Bqt) T.Aqh hx D
 refine⟨_,rfl,p,f,rfl,rfl,g1,?_⟩
 unfold V2
 tm_at"r"
 refine⟨f,rfl,g2,_,rfl,_,rfl,fd,ps,_,g3,g4,s,r,Ta,st,ns,rfl,hst,ok,hr,hrT,hT,hc,λD H' fr hD h1 h2=>k D H' fr hD h1 hlen h2⟩
def KS2(P1 P2:Addr)(H H':Hp):Prop:=∀a o,a≠P1->a≠P2->H a=some o->H' a=some o
structure Tbs(H:Hp)(P1 P2:Addr):Prop where
 ne:P1≠P2
 t1:VR H P1 "best_call.<locals>.<lambda>" (Axt QK)
 t2:VR H P2 "known_call.<locals>.<lambda>" (Axt Pj)
theorem Tbs.same{H H':Hp}{P1 P2:Addr}(t:Tbs H P1 P2)(s:Same H H'):Tbs H' P1 P2:=⟨t.ne,t.t1.same s,t.t2.same s⟩
theorem Byg{H H':Hp}{P1 P2:Addr}{lq:Str}{lp:Pos}(t:VR H P2 lq lp)(k:KS P1 H H')(ne:P2≠P1)(h:∃q,H P1=some (.tbl q)):VR H' P2 lq lp:=by
 rcases t with t|⟨c',oc,vs,tk,t,h1,h2,h3⟩
 ·exact .inl (k _ _ ne t)
 ·refine .inr ⟨c',oc,vs,tk,k _ _ ne t,k _ _ (λz=>?_) h1,h2,h3⟩
  obtain⟨q,hq⟩:=h
  have h1':H c'=some (Yc c' oc):=h1
  rw[z,hq] at h1';cases h1'
def IK(A:Adr)(P1 P2:Addr):Sp:=λvs H Q _=>∃b r B p ns,vs=[.ref b,.int p,.ref r]/\Ja A H b B/\H r=some (.lst (ns.map V.int))/\ns.length<=120/\Tbs H P1 P2/\(nameOf Aar p).isSome=true/\
 ∀D H',KS2 P1 P2 H H'->Tbs H' P1 P2->H D=none->(Atb B p ns).length<=30000->H' D=some (.lst ((Atb B p ns).map V.int))->Q (.ref D) H'
structure Bys(K:Frag)(mg:Str->Option Value)(base:Heap)(P1 P2:Addr):Prop where
 l1:∃cc,Biw K mg base "best_call" "best_call.<locals>.<lambda>" cc P1
 l2:∃cc,Biw K mg base "known_call" "known_call.<locals>.<lambda>" cc P2
theorem Atd{p:Int}(h:(nameOf Aar p).isSome=true):p=17\/p=18\/p=19\/p=20\/p=21\/p=22\/p=25\/p=28:=by
 unfold nameOf Aar at h
 rw[Ab2,At5] at h
 obtain⟨q,hq,e⟩:=h
 have e:=Ec e
 simp only [BP,KR,or_false] at hq
 rcases hq with rfl|rfl|rfl|rfl|rfl|rfl|rfl|rfl<;>simp_all
theorem Ao8(T:Txt K mg A){P1 P2:Addr}(L:Bys K mg base P1 P2):Def P w K mg base 11 "answer_list_call" P0 (IK A P1 P2):=by
 refine Ed T.Aag Asr (λvs H Q E h=>?_) (λX e1 e2 e3 e4 e5 c H vs Q E h=>?_)
 ·obtain⟨b,r,B,p,ns,rfl,_⟩:=h;rfl
 tm_at"s"
 obtain⟨b,r,B,p,ns,rfl,hb,hr,hn,ht,hp,k⟩:=h
 refine⟨_,Ape T c,?_⟩
 show T4 X X.K A _ [some (.ref b),some (.int p),some (.ref r),none] H
 unfold T4
 tm_at"r"
 have go:∀x ps sp,nameOf Aar p=some x->Def X.prog X.w X.K X.mg X.base 9 x ps sp->sp [.ref b,.ref r] H Q E0->∃f,Bdh A.Qn p=some f/\Ig X.K (.ref f)=true/\∃fd ps sp,YZ X.prog X.w X.K X.mg X.base CX0 9 f fd ps sp/\Binds X.K fd ps []/\sp [.ref b,.ref r] H Q E0:=λx ps sp hx D hs=>by
  obtain⟨f,g1,g2,fd,g3,g4⟩:=Bmn (L:=Aar) T.Ag1 hx D
  exact⟨f,g1,g2,fd,ps,sp,g3,g4,hs⟩
 have plain:XR A p [.ref b,.ref r] H Q E0:=⟨b,r,B,ns,rfl,hb,hr,hn,λD H' s hD hl h=>k D H' (λa o _ _ e=>s _ _ e) (ht.same s) hD hl h⟩
 have key:∃f,Bdh A.Qn p=some f/\Ig X.K (.ref f)=true/\∃fd ps sp,YZ X.prog X.w X.K X.mg X.base CX0 9 f fd ps sp/\Binds X.K fd ps []/\sp [.ref b,.ref r] H Q E0:=by
  rcases Atd hp with rfl|rfl|rfl|rfl|rfl|rfl|rfl|rfl
  ·exact go "kept_call" _ _ rfl ((Bke T).mono (by decide)) plain
  ·exact go "order_call" _ _ rfl ((Bgk T).mono (by decide)) plain
  ·exact go "greedy_call" _ _ rfl ((Bea T).mono (by decide)) plain
  ·obtain⟨cc,l1⟩:=L.l1
   exact go "best_call" _ _ rfl ((Bj7 T l1).mono (by decide)) ⟨b,r,B,ns,rfl,hb,hr,hn,ht.t1,λD H' kk t1 hD hl h=>k D H' (λa o n1 _ e=>kk _ _ n1 e) ⟨ht.ne,t1,Byg ht.t2 kk (Js ht.ne) (Ah7 ht.t1)⟩ hD hl h⟩
  ·exact go "online_call" _ _ rfl ((Bec T).mono (by decide)) plain
  ·obtain⟨cc,l2⟩:=L.l2
   exact go "known_call" _ _ rfl ((Bgi T l2).mono (by decide)) ⟨b,r,B,ns,rfl,hb,hr,hn,ht.t2,λD H' kk t2 hD hl h=>k D H' (λa o _ n2 e=>kk _ _ n2 e) ⟨ht.ne,Byg ht.t1 kk ht.ne (Ah7 ht.t2),t2⟩ hD hl h⟩
  ·exact go "fair_call" _ _ rfl ((Bkb T).mono (by decide)) plain
  ·exact go "ends_call" _ _ rfl ((Bka T).mono (by decide)) plain
 obtain⟨f,g1,g2,fd,ps,sp,g3,g4,g5⟩:=key
 refine⟨_,rfl,p,f,rfl,rfl,g1,?_⟩
 unfold XD
 tm_at"r"
 exact⟨f,rfl,g2,_,rfl,_,rfl,fd,ps,sp,g3,g4,g5⟩
def KD:Sp:=λvs H Q _=>∃p,vs=[.int p]/\Q (.bl (nameOf Aar p).isSome) H
theorem Bbc(T:Txt K mg A):Def P w K mg base 11 "is_list_call" Uw KD:=by
 refine Ed T.Ald Bcm (λvs H Q E h=>?_) (λX e1 e2 e3 e4 e5 c H vs Q E h=>?_)
 ·obtain⟨p,rfl,_⟩:=h;rfl
 tm_at"s"
 obtain⟨p,rfl,k⟩:=h
 refine⟨_,Bbi T c,?_⟩
 show Aa4 X.K A _ [some (.int p)] H
 unfold Aa4
 tm_at"r"
 refine⟨_,rfl,p,rfl,rfl,?_⟩
 have h:=Bk5 (mg:=X.mg) (n:=p) (L:=Aar) T.Ag1
 have e:(Bdh A.Qn p).isSome=(nameOf Aar p).isSome:=by
  cases hn:nameOf Aar p with
  |none=>rw[h.2 hn];rfl
  |some x=>
   obtain⟨f,hf,_⟩:=h.1 x hn
   rw[hf];rfl
 rw[e]
 exact k
def FrT(P1 P2:Addr)(H H':Hp):Prop:=∀a o,H a=some o->(∀C dx fs,o≠.ins C dx fs)->a≠P1->a≠P2->H' a=some o
theorem Bx6{p:Int}(hp:p∈RM.Kr):p=1\/(nameOf Aar p).isSome=true:=by
 unfold RM.Kr at hp
 simp only [BP,KR,or_false] at hp
 rcases hp with rfl|rfl|rfl|rfl|rfl|rfl|rfl|rfl|rfl
 ·exact .inl rfl
 all_goals exact .inr rfl
theorem Bxi{p:Int}(hp:p∉RM.Kr):(nameOf Aar p).isSome=false:=by
 cases h:(nameOf Aar p).isSome with
 |false=>rfl
 |true=>
  exfalso
  apply hp
  rcases Atd h with rfl|rfl|rfl|rfl|rfl|rfl|rfl|rfl<;>decide
theorem lstep(st:Ci){p:Int}(ns:List Int)(h:(nameOf Aar p).isSome=true):Dc st (RM.mkC p ns)=(st,Atb st.bounds p ns):=by
 have go:∀(c:Prop) [Decidable c] (x:Ho) (s2:Ci),(if c then(st,[-1]) else(st,x))=(st,(if c then(s2,[-1]) else(s2,x):Ci×Ho).2):=λc _ x s2=>by split<;>rfl
 rcases Atd h with rfl|rfl|rfl|rfl|rfl|rfl|rfl|rfl
 all_goals exact go _ _ _
theorem NT.bnd{A:Adr}{H H':Hp}{b lp:Addr}{B:Bounds}(k:NT H H')(h:Yz A H b lp B):Yz A H' b lp B:=let⟨⟨dx,e⟩,e2,l⟩:=h;⟨⟨dx,k _ _ e (λq z=>HO.noConfusion z)⟩,k.lst e2,l⟩
theorem NT.st{A:Adr}{H H':Hp}{s T:Addr}{st:Ci}(k:NT H H')(h:Asy A H s T st):Asy A H' s T st:=by
 obtain⟨dx,b,lp,l,zs,hz⟩:=h
 exact⟨dx,b,lp,l,zs,k _ _ hz.s (λq z=>HO.noConfusion z),k.bnd hz.b,k.tlz hz.l,hz.i,hz.hp,hz.hl⟩
theorem KS2.nt{H H':Hp}{P1 P2:Addr}(k:KS2 P1 P2 H H')(t:Tbs H P1 P2):NT H H':=λa o h n=>k a o (λz=>by
  obtain⟨q,hq⟩:=Ah7 t.t1
  rw[z,hq] at h
  exact n q (Ae h).symm) (λz=>by
  obtain⟨q,hq⟩:=Ah7 t.t2
  rw[z,hq] at h
  exact n q (Ae h).symm) h
theorem Byf{H H':Hp}{P1:Addr}{lq:Str}{lp:Pos}(t:VR H P1 lq lp)(k:Fr H H'):VR H' P1 lq lp:=by
 rcases t with t|⟨c',oc,vs,tk,t,h1,h2,h3⟩
 ·exact .inl (k _ _ t (λ_ _ _ z=>HO.noConfusion z))
 ·exact .inr ⟨c',oc,vs,tk,k _ _ t (λ_ _ _ z=>HO.noConfusion z),k _ _ h1 (λ_ _ _ z=>HO.noConfusion z),h2,h3⟩
def Ik(A:Adr)(P1 P2:Addr):Sp:=λvs H Q _=>∃s r T st p ns,vs=[.ref s,.int p,.ref r]/\Asy A H s T st/\RM.SOk st/\H r=some (.lst (ns.map V.int))/\r≠T/\H T≠none/\RM.Bb5 p ns/\Tbs H P1 P2/\
 ∀D H',FrT P1 P2 H H'->Tbs H' P1 P2->H D=none->Asy A H' s T (Dc st (RM.mkC p ns)).1->(Dc st (RM.mkC p ns)).2.length<=30000->H' D=some (.lst ((Dc st (RM.mkC p ns)).2.map V.int))->Q (.ref D) H'
theorem Bd5(T:Txt K mg A){P1 P2:Addr}(L:Bys K mg base P1 P2):Def P w K mg base 12 "answer_call" Wm (Ik A P1 P2):=by
 refine Ed T.Aqj Bfp (λvs H Q E h=>?_) (λX e1 e2 e3 e4 e5 c H vs Q E h=>?_)
 ·obtain⟨s,r,Ta,st,p,ns,rfl,_⟩:=h;rfl
 tm_at"s"
 obtain⟨s,r,Ta,st,p,ns,rfl,hst,ok,hr,hrT,hT,hc,ht,k⟩:=h
 refine⟨_,Bez T c (Bbc T) (Aly T) (Ao8 T L),?_⟩
 show Aer X.K A _ _ _ _ [some (.ref s),some (.int p),some (.ref r)] H
 unfold Aer
 tm_at"r"
 refine⟨_,rfl,p,rfl,_,rfl,?_⟩
 have hsome:((nameOf Aar p).isSome=true/\ns.length<=120)\/((nameOf Aar p).isSome=false/\Brb p ns):=by
  rcases hc with⟨h1,h2⟩|⟨m,rfl,h1,h2⟩
  ·rcases Bx6 h1 with rfl|h
   ·exact .inr ⟨rfl,.inl rfl⟩
   ·exact .inl ⟨h,h2⟩
  ·exact .inr ⟨Bxi h1,.inr ⟨m,rfl,h1,h2⟩⟩
 rcases hsome with⟨h1,h2⟩|⟨h1,h2⟩
 ·rw[h1,Aq rfl]
  rw[lstep st ns h1] at k
  obtain⟨dx,b,lp,l,zs,hz⟩:=id hst
  refine fv rfl (Jv T hz.s) ⟨_,rfl,_,rfl,b,r,st.bounds,p,ns,rfl,hz.b.at,hr,h2,ht,h1,λD H' k2 t' hD hl h=>?_⟩
  exact k D H' (λa o e n n1 n2=>k2 a o n1 n2 e) t' hD ((k2.nt ht).st hst) hl h
 ·rw[h1,Am Ac]
  unfold Ajb
  tm_at"r"
  refine⟨_,rfl,_,rfl,_,rfl,s,r,Ta,st,p,ns,rfl,hst,ok,hr,hrT,hT,h2,λD H' fr hD h3 hl h=>?_⟩
  exact k D H' (λa o e n _ _=>fr a o e n) ⟨ht.ne,Byf ht.t1 fr,Byf ht.t2 fr⟩ hD h3 hl h
def outI(st:Ci)(cs:List (List (List Int))):List Int:=Acb (Ad8 Dc st cs)
theorem Bur(st:Ci)(c:List (List Int))(cs:List (List (List Int))):outI st (c::cs)=(((Dc st c).2.length:Int)::(Dc st c).2)++outI (Dc st c).1 cs:=by
 show Acb ((Dc st c).2::Ad8 Dc (Dc st c).1 cs)=_
 unfold outI Acb
 rw[GR]
def Abh(K:Frag)(P1 P2:Addr):Sp:=λvs H Q _=>∃l ns f cs,vs=[.ref l]/\SqL K H l (ns.map V.int)/\ns.length<=100000/\Gf Ek f ns=some cs/\cs.length<=400/\(∀c∈cs,c=RM.mkC (RM.un c).1 (RM.un c).2/\RM.Bb5 (RM.un c).1 (RM.un c).2)/\Tbs H P1 P2/\
 ∀D H',FrT P1 P2 H H'->Tbs H' P1 P2->H D=none->H' D=some (.lst ((outI Qk cs).map V.int))->Q (.ref D) H'
theorem Bmg(vs:List V)(H:Hp)(Q:VK)(E:XK){P1 P2:Addr}(h:Abh K P1 P2 vs H Q E):vs.length=Axa.length:=by
 obtain⟨l,ns,f,cs,rfl,_⟩:=h;rfl
theorem Bjh(T:Txt K mg A){P1 P2:Addr}(L:Bys K mg base P1 P2)(X:Cx)(e1:X.prog=P)(e2:X.w=w)(e3:X.K=K)(e4:X.mg=mg)(e5:X.base=base)(c:Ctx X An6 (Ao ZQ) 12)(H:Hp)(vs:List V)(Q:VK)(E:XK)(h:Abh K P1 P2 vs H Q E):
  ∃t,PSs X (Ca ZQ) t/\t {nx:=λ_ H'=>Q .non H',rt:=Q} (start An6 vs) H:=by
 tm_at"s"
 obtain⟨l,ns,f,cs,rfl,hl,hn,hcs,hcl,Cer,ht,k⟩:=h
 refine⟨_,Bqw T c (Bed T) (Bd5 T L) (Bnt T),?_⟩
 show Ayb X.K A _ _ _ _ [some (.ref l),none,none,none,none,none] H
 unfold Ayb
 tm_at"r"
 intro s dx hs hd hne
 have s0:Same H (upd (upd H dx (.own s)) s (.ins A.Gq dx [])):=FZ (Av hd) hs
 refine⟨s,dx,rfl,Ah,λb lp l0 H1 k1 hb hlp hl0 hs1 hB hL0=>⟨rfl,?_⟩⟩
 have s1:Same H H1:=λa o h=>k1 a o (λz=>by rw[z,hs] at h;cases h) (s0 _ _ h)
 unfold Az6
 tm_at"r"
 refine⟨by show 0<=sizeLine;decide,λTa hTa=>?_⟩
 have sT:=Av (o:=.lst []) hTa
 have hT0:(upd H1 Ta (.lst [])) Ta=some (.lst []):=Ah
 have Cdj:Asy A (upd H1 Ta (.lst [])) s Ta Qk:=⟨dx,b,lp,l0,[],sT _ _ hs1,hB.same sT,⟨sT _ _ hL0,λ_ h=>(nomatch h)⟩,rfl,λz=>(by rw[<-z,hB.2.1] at hTa;cases hTa),λz=>(by rw[<-z,hL0] at hTa;cases hTa)⟩
 have s2:=s1.trans sT
 have ht2:=ht.same s2
 generalize hH2:upd H1 Ta (.lst [])=H2 at sT hT0 Cdj s2 ht2
 have hTn:H Ta=none:=s1.free hTa
 unfold Az7
 tm_at"r"
 refine⟨_,rfl,l,ns,f,cs,rfl,s2.seq hl,hn,hcs,hcl,λM H3 ts s3 hM hMl hp=>?_⟩
 have hMT:M≠Ta:=λz=>by rw[z,hT0] at hM;cases hM
 have s03:=s2.trans s3
 have nP:∀{a:Addr} {o:HO},H3 a=some o->(∀q,o≠.tbl q)->a≠P1/\a≠P2:=λe n=>by
  have t3:=ht2.same s3
  constructor
  ·intro z
   obtain⟨q,hq⟩:=Ah7 t3.t1
   rw[z,hq] at e
   exact n q (Ae e).symm
  ·intro z
   obtain⟨q,hq⟩:=Ah7 t3.t2
   rw[z,hq] at e
   exact n q (Ae e).symm
 have hMP:=nP hMl (λq z=>HO.noConfusion z)
 have hst3:Asy A H3 s Ta Qk:=by
  obtain⟨dx',b',lp',l',zs',hz'⟩:=Cdj
  exact(hz'.same s3).at
 refine⟨M,rfl,⟨_,SqL.of hMl⟩,JZ (K:=X.K) (a:=M) (xs:=ts.map V.ref) (λi σ H'=>∃v3 v4 v5 st done,σ=[some (.ref l),some (.ref s),some (.ref Ta),v3,v4,v5]/\
   (∀a o,H3 a=some o->a≠Ta->(∀C dx fs,o≠.ins C dx fs)->a≠P1->a≠P2->H' a=some o)/\Tbs H' P1 P2/\Asy A H' s Ta st/\RM.SOk st/\H' Ta=some (.lst (done.map V.int))/\done.length<=i*30001/\done++outI st (cs.drop i)=outI Qk cs)
  ⟨none,none,none,Qk,[],rfl,λa o h _ _ _ _=>h,ht2.same s3,hst3,RM.Bos,s3 _ _ hT0,Bu _,rfl⟩ (λi σ H' _ ⟨_,_,_,_,_,_,kk,_⟩=>SqL.of (kk _ _ hMl hMT (λ_ _ _ z=>HO.noConfusion z) hMP.1 hMP.2)) ?turn ?fin⟩
 case turn=>
  rintro i v σ H' hv ⟨v3,v4,v5,st,done,rfl,kk,t',hst,ok,hTl,hdl,hout⟩
  rw[Bk] at hv
  obtain⟨t,hti,rfl⟩:∃t,ts[i]?=some t/\V.ref t=v:=J8 hv
  obtain⟨cc,hci,r,hrf,htt,hrr⟩:=KZ hp hti
  have hil:i<cs.length:=(BL.mp hci).1
  have hcm:=BX hci
  obtain⟨hmk,hok⟩:=Cer cc hcm
  have hdr:cs.drop i=cc::cs.drop (i+1):=by
   rw[EY hil]
   congr 1
   exact Ae ((CP hil).symm.trans hci)
  rw[hdr,Bur] at hout
  have htP:=nP htt (λq z=>HO.noConfusion z)
  have hrP:=nP hrr (λq z=>HO.noConfusion z)
  have hrT:r≠Ta:=λz=>by rw[z,hT0] at hrf;cases hrf
  have htT:t≠Ta:=λz=>by rw[z,s3 _ _ hT0] at htt;cases htt
  have Ce2:=kk _ _ htt htT (λ_ _ _ z=>HO.noConfusion z) htP.1 htP.2
  have Cez:=kk _ _ hrr hrT (λ_ _ _ z=>HO.noConfusion z) hrP.1 hrP.2
  refine⟨t,_,rfl,SqT.of Ce2,rfl,_,_,rfl,_,_,rfl,rfl,?_⟩
  tm_at"r"
  refine⟨_,rfl,_,rfl,_,rfl,s,r,Ta,st,(RM.un cc).1,(RM.un cc).2,rfl,hst,ok,Cez,hrT,(λz=>by rw[hTl] at z;cases z),hok,t',λD H4 fr t4 hD Bzf hlen hDl=>?_⟩
  rw[<-hmk] at Bzf hlen hDl
  have hTP:Ta≠P1/\Ta≠P2:=nP (s3 _ _ hT0) (λq z=>HO.noConfusion z)
  have hT4:=fr _ _ hTl (λ_ _ _ z=>HO.noConfusion z) hTP.1 hTP.2
  have hDT:D≠Ta:=λz=>by rw[z,hTl] at hD;cases hD
  have ok4:RM.SOk (Dc st cc).1:=RM.Cab ok cc
  generalize hres:Dc st cc=res at Bzf hlen hDl hout ok4
  obtain⟨st',an⟩:=res
  dsimp only at Bzf hlen hDl hout ok4
  have Cc6:(an.map V.int).length=an.length:=Aa ..
  have Cc9:(done.map V.int).length=done.length:=Aa ..
  have big:(400*30001+30001:Nat)<sizeLine:=by decide
  have hdb:done.length<=400*30001:=Az hdl (Xl _ (Az (Jr hil) hcl))
  refine⟨_,rfl,.inl ⟨rfl,_,SqL.of hT4⟩,_,rfl,D,_,rfl,.inl (SqL.of hDl),Ta,_,_,rfl,rfl,hT4,by rw[Cc9];omega,?_⟩
  rw[Cc6]
  have hD5:(upd H4 Ta (.lst (done.map V.int++[V.int (an.length:Nat)]))) D=some (.lst (an.map V.int)):=by rw[Cd hDT];exact hDl
  refine⟨_,rfl,.inl ⟨rfl,_,SqL.of Ah⟩,_,rfl,.inl ⟨Ta,D,_,_,rfl,rfl,Ah,hD5,?_,?_⟩⟩
  ·rw[Bg,Cc9,Cc6]
   show done.length+1+an.length<=_
   omega
  rw[Mu]
  have kT:KS Ta H4 (upd H4 Ta (.lst (done.map V.int++[V.int (an.length:Nat)]++an.map V.int))):=Axp
  refine⟨_,_,_,st',done++((an.length:Int)::an),rfl,λa o e na ni n1 n2=>?_,?_,?_,ok4,?_,?_,?_⟩
  ·rw[Cd na]
   exact fr _ _ (kk _ _ e na ni n1 n2) ni n1 n2
  ·refine⟨t4.ne,?_,?_⟩
   ·rcases t4.t1 with q|⟨c',oc,vs,tk,q,h1,h2,h3⟩
    ·exact .inl (by rw[Cd (Js hTP.1)];exact q)
    ·exact .inr ⟨c',oc,vs,tk,by rw[Cd (Js hTP.1)];exact q,kT _ _ (λz=>by
      have h1':H4 c'=some (Yc c' oc):=h1
      rw[z,hT4] at h1';cases h1') h1,h2,h3⟩
   ·rcases t4.t2 with q|⟨c',oc,vs,tk,q,h1,h2,h3⟩
    ·exact .inl (by rw[Cd (Js hTP.2)];exact q)
    ·exact .inr ⟨c',oc,vs,tk,by rw[Cd (Js hTP.2)];exact q,kT _ _ (λz=>by
      have h1':H4 c'=some (Yc c' oc):=h1
      rw[z,hT4] at h1';cases h1') h1,h2,h3⟩
  ·obtain⟨dx',b',lp',l',zs',hz'⟩:=Bzf
   refine⟨dx',b',lp',l',zs',kT _ _ (λz=>by have:=hz'.s;rw[z,hT4] at this;cases this) hz'.s,?_,?_,hz'.i,hz'.hp,hz'.hl⟩
   ·obtain⟨⟨dx2,e2⟩,e3,e4⟩:=hz'.b
    exact⟨⟨dx2,kT _ _ (λz=>by rw[z,hT4] at e2;cases e2) e2⟩,kT _ _ hz'.hp e3,e4⟩
   ·exact hz'.l.upd hz'.hl hT4
  ·rw[Ah,Bd,Cg];rfl
  ·rw[Bg,Ay]
   rw[PX]
   omega
  ·rw[Cg];exact hout
 case fin=>
  rintro σ H' ⟨v3,v4,v5,st,done,rfl,kk,t',hst,ok,hTl,hdl,hout⟩
  have e1:(ts.map V.ref).length=cs.length:=by rw[Aa,Paired.length hp]
  rw[e1,O2] at hout
  have e2:outI st []=[]:=rfl
  rw[e2,Ds] at hout
  rw[hout] at hTl
  dsimp only
  unfold Az8
  refine⟨_,rfl,k Ta H' (λa o e ni n1 n2=>kk _ _ (s03 _ _ e) (λz=>by rw[z,hTn] at e;cases e) ni n1 n2) t' hTn hTl⟩
end
end RT
end
section
namespace RT
open PySem PySem.Spec PyProof.Rows L2 RB
open PySem.W (WData Codec OpenSpec Well WellAll ReadsW ReadsAllW)
section
variable {K:Frag}{H H':Hp}
mutual
theorem By3(s:Same H H'):∀(d:WData) (v:V),Dw K H v d->Dw K H' v d
 |.none,_,x=>by cases x;exact .non
 |.bool b,_,x=>by cases x;exact .bl b
 |.int i,_,x=>by cases x;exact .int i
 |.str t,_,x=>by cases x;exact .str t
 |.bytes b,_,x=>by cases x;exact .byt _
 |.list ds,_,x=>by
  cases x with
  |lst hs ha=>exact .lst (s.seq hs) (Ag0 s ds _ ha)
 |.tuple ds,_,x=>by
  cases x with
  |tup hs ha=>exact .tup (Bor s hs) (Ag0 s ds _ ha)
 |.float _,_,x=>by cases x
 |.dict _,_,x=>by cases x
 |.bytearray _,_,x=>by cases x
 |.set _,_,x=>by cases x
 |.frozenset _,_,x=>by cases x
 |.obj _ _,_,x=>by cases x
theorem Ag0(s:Same H H'):∀(ds:List WData) (vs:List V),Afc K H vs ds->Afc K H' vs ds
 |[],_,x=>by cases x;exact .nil
 |d::ds,_,x=>by
  cases x with
  |cons h1 h2=>exact .cons (By3 s d _ h1) (Ag0 s ds _ h2)
end
end
def Bo9(mg:Str->Option Value)(base:Heap):Prop:=∃bm o,mg "__builtins__"=some (.ref bm)/\bm≠builtinsNs/\bm≠mainGlobals/\base.get? bm=some o/\o.cls=.type "module"/\o.dict=some builtinsNs/\o.data=.plain
theorem Bqr{P:Program}{w:World}{K:Frag}{mg mb:Str->Option Value}{k:Nat}{fa:Addr}{fd:FuncData}{ps:List Str}{sp:Sp}{s₁:Shared}{vals:List Value}{ds:List WData}{R:Axb}{cl:Str->Option Addr}{d0:WData}{c1 P1 c2 P2:Addr}
  (KX:K.In s₁.heap) (hns:s₁.heap.Ns mainGlobals mg) (hb:s₁.heap.Ns builtinsNs mb) (hbb:∀x:Str,x≠"__name__"->mb x=bootBuiltins x) (hlim:s₁.heap.NoLimit) (hg:s₁.gens=#[])
  (hwl:WellAll w.params s₁.heap vals ds) (hpl:Bbh ds=true) (hwt:∀d∈ds,d.weight<=1048576) (hr:Room k callerA)
  (hnt:Bci K=true) (h1:GD s₁.heap c1 P1/\s₁.heap.get? P1=some (Rk #[])) (h2:GD s₁.heap c2 P2/\s₁.heap.get? P2=some (Rk #[])) (hne:P1≠P2) (hbm:Bo9 mg s₁.heap)
  (F:∀base:Heap,K.In base->base.Ns mainGlobals mg->GD base c1 P1->GD base c2 P2->Bo9 mg base->YZ P w K mg base CX0 k fa fd ps sp) (hbind:Binds K fd ps []) (hlen:ds.length=ps.length)
  (hsp:∀(H:Hp) (xs:List V),H P1=some (.tbl #[])->H P2=some (.tbl #[])->Afc K H xs ds->sp xs H (λv H'=>Dw K H' v d0) λ_ _ _=>False):
  codeAny (model P w) callerA (.call (.ref fa) ⟨vals,[]⟩) (λr s'=>∃u as,r=.ok (.ret u)/\ReadsW R cl s'.heap u d0 as/\OldK s₁.heap s'.heap/\s'.os=s₁.os/\AllBare s'.gens) s₁:=by
 obtain⟨A,ho,ar⟩:=Au4 ds vals hwl hpl hwt
 have hO0:Car (Aec K s₁.heap A):=Btl ar
 have Cbl:HOk P w (Aec K s₁.heap A) s₁.heap:=Byy ar
 have hS0:=Bjm KX ar ds vals hwl hpl ho
 have hV:=Agf ho
 have hK0:∀b u,Aec K s₁.heap A b=some u->K.lookup b=none:=λb u q=>(Au5 ar q).1
 have is0:∀{b:Addr} {o:Obj},s₁.heap.get? b=some o->o.cls≠.type "list"->o.cls≠.type "tuple"->Aec K s₁.heap A b=none:=λ{b o} e n1 n2=>by
  cases q:Aec K s₁.heap A b with
  |none=>rfl
  |some u=>
   obtain⟨_,vs,_,_,⟨e2,_⟩|⟨e2,_⟩⟩:=Au5 ar q
   ·rw[e2] at e;cases e;exact absurd rfl n1
   ·rw[e2] at e;cases e;exact absurd rfl n2
 have noD:∀{b:Addr} {o:Obj} {es:Array DictEntry} {ep:Nat},s₁.heap.get? b=some o->o.data=.dict es ep->Aec K s₁.heap A b=none:=λ{b o es ep} e d=>by
  cases q:Aec K s₁.heap A b with
  |none=>rfl
  |some u=>
   obtain⟨_,vs,_,_,⟨e2,_⟩|⟨e2,_⟩⟩:=Au5 ar q
   ·rw[e2] at e
    cases e
    have d':Bca vs.toArray _=Data.dict es ep:=d
    cases d'
   ·rw[e2] at e
    cases e
    have d':Bca vs.toArray _=Data.dict es ep:=d
    cases d'
 generalize Aec K s₁.heap A=H0 at hO0 Cbl hS0 hK0 is0 noD
 have e1:H0 P1=none:=is0 h1.2 (by show Lx≠_;exact λz=>Value.noConfusion z) (by show Lx≠_;exact λz=>Value.noConfusion z)
 have e2:H0 P2=none:=is0 h2.2 (by show Lx≠_;exact λz=>Value.noConfusion z) (by show Lx≠_;exact λz=>Value.noConfusion z)
 obtain⟨H,hH⟩:∃H,H=upd (upd H0 P1 (.tbl #[])) P2 (.tbl #[]):=⟨_,rfl⟩
 have at1:H P1=some (.tbl #[]):=by rw[hH,Cd hne,Ah]
 have at2:H P2=some (.tbl #[]):=by rw[hH,Ah]
 have atn:∀b,b≠P1->b≠P2->H b=H0 b:=λb n1 n2=>by rw[hH,Cd n2,Cd n1]
 have sm:Same H0 H:=λb o e=>by rw[atn b (λz=>by rw[z,e1] at e;cases e) (λz=>by rw[z,e2] at e;cases e)];exact e
 have isH:∀b u,H b=some u->(b=P1/\u=.tbl #[])\/(b=P2/\u=.tbl #[])\/(b≠P1/\b≠P2/\H0 b=some u):=λb u e=>by
  by_cases q1:b=P1
  ·rw[q1,at1] at e;exact .inl ⟨q1,(Ae e).symm⟩
  ·by_cases q2:b=P2
   ·rw[q2,at2] at e;exact .inr (.inl ⟨q2,(Ae e).symm⟩)
   ·rw[atn b q1 q2] at e;exact .inr (.inr ⟨q1,q2,e⟩)
 have hok:HOk P w H s₁.heap:=λb u e=>by
  rcases isH b u e with⟨rfl,rfl⟩|⟨rfl,rfl⟩|⟨_,_,e0⟩
  ·exact h1.2
  ·exact h2.2
  ·exact(Cbl b u e0).stay (λ_ _ _ q=>q) (λd q=>sm _ _ q) λd xs q=>sm _ _ q
 have noT:∀{Q:Addr},s₁.heap.get? Q=some (Rk #[])->K.lookup Q=none:=λ{Q} e=>by
  cases q:K.lookup Q with
  |none=>rfl
  |some o=>
   exfalso
   have e3:=KX _ _ q
   rw[e] at e3
   cases e3
   have h3:=Ep.mp hnt _ (PySem.W.mem_of_lookupK q)
   exact absurd (show false=true from h3) Ac
 have hK:∀b u,H b=some u->K.lookup b=none:=λb u e=>by
  rcases isH b u e with⟨rfl,rfl⟩|⟨rfl,rfl⟩|⟨_,_,e0⟩
  ·exact noT h1.2
  ·exact noT h2.2
  ·exact hK0 b u e0
 have isC:∀{b:Addr} {o:Obj},s₁.heap.get? b=some o->o.cls≠.type "list"->o.cls≠.type "tuple"->o.cls≠.none->H b=none:=λ{b o} e n1 n2 n3=>by
  rw[atn b (λz=>by rw[z,h1.2] at e;cases e;exact n3 rfl) (λz=>by rw[z,h2.2] at e;cases e;exact n3 rfl)]
  exact is0 e n1 n2
 have noA:∀{b:Addr} {o:Obj} {es:Array DictEntry} {ep:Nat},s₁.heap.get? b=some o->o.data=.dict es ep->H b=none:=λ{b o es ep} e d=>by
  rw[atn b (λz=>by rw[z,h1.2] at e;cases e;cases d) (λz=>by rw[z,h2.2] at e;cases e;cases d)]
  exact noD e d
 have Bbs:∀{b:Addr} {o:Obj},s₁.heap.get? b=some o->H b=none->(Bdm s₁.heap H).get? b=some o:=λe n=>Bws e n
 have nsK:∀{b:Addr} {m:Str->Option Value},s₁.heap.Ns b m->(Bdm s₁.heap H).Ns b m:=λ{b m} ⟨o,es,ep,e,d,r⟩=>⟨o,es,ep,Bbs e (noA e d),d,r⟩
 have nK:∀b o,K.lookup b=some o->H b=none:=λb o e=>by
  cases q:H b with
  |none=>rfl
  |some u=>
   rw[hK b u q] at e
   cases e
 have hKb:K.In (Bdm s₁.heap H):=λb o e=>Bbs (KX b o e) (nK b o e)
 have hM:Mod K mg (Bdm s₁.heap H):=⟨hKb,nsK hns,⟨mb,nsK hb,hbb⟩,let⟨mc,h1,h2⟩:=hlim;⟨mc,nsK h1,h2⟩⟩
 have cd:∀{c Q:Addr},GD s₁.heap c Q->GD (Bdm s₁.heap H) c Q:=λ⟨o,vs,file,tf,flags,tg,inF,text,tt,e,ec,r⟩=>
  ⟨o,vs,file,tf,flags,tg,inF,text,tt,Bbs e (isC e (by rw[ec];decide) (by rw[ec];decide) (by rw[ec];exact λz=>Value.noConfusion z)),ec,r⟩
 have bm':Bo9 mg (Bdm s₁.heap H):=let⟨bm,o,b1,b2,b3,b4,b5,r⟩:=hbm;⟨bm,o,b1,b2,b3,Bbs b4 (isC b4 (by rw[b5];decide) (by rw[b5];decide) (by rw[b5];exact λz=>Value.noConfusion z)),b5,r⟩
 have e0:Aw1 P w K mg (Bdm s₁.heap H) callerA [] s₁ H:=⟨rfl,hM,λb o e=>Bzx e,PN (Bt3 _ _),trivial,λb hb=>absurd (show b∈([]:List Addr) from hb) (by simp),hok,.of_eq hg⟩
 have hl:vals.length=ps.length:=by rw[Adt hwl];exact hlen
 have hbd:BindsTo s₁ fd ⟨vals,[]⟩ (ps.zip vals):=by
  have:=hbind s₁ vals KX (by rw[Ds];exact hl)
  rw[Ds] at this
  exact this
 refine Ql ((F _ hKb (nsK hns) (cd h1.1) (cd h2.1) bm').run callerA [] s₁ H ⟨vals,[]⟩ vals (vals.map toV) _ _ hr e0 hbd hV (hsp H _ at1 at2 (Ag0 sm ds _ hS0))) λr s' x=>?_
 cases r with
 |error e=>exact Fo x
 |ok fl=>
  cases fl with
  |next=>exact Fo x
  |brk=>exact Fo x
  |cont=>exact Fo x
  |ret u=>
   obtain⟨v,H',os,bare,un,hok',r',q⟩:=x
   have kept:∀b o,b≠P1->b≠P2->s₁.heap.get? b=some o->s'.heap.get? b=some o:=λb o n1 n2 e=>by
    cases q2:H b with
    |none=>exact un.keep b o e q2 (by intro z;exact absurd (show b∈([]:List Addr) from z) (by simp)) (by simp)
    |some u2=>
     rw[atn b n1 n2] at q2
     rcases hO0 b with z|⟨ob,u3,z⟩
     ·rw[q2] at z
      cases z
     ·have z2:=un.Bdb b ob _ (by rw[atn b n1 n2];exact z)
      obtain⟨e1,_⟩:=Cbl b _ z
      obtain⟨e2,_⟩:=hok' b _ z2
      rw[e] at e1
      cases e1
      exact e2
   have KX':K.In s'.heap:=λb o e=>kept b o (λz=>by rw[z,noT h1.2] at e;cases e) (λz=>by rw[z,noT h2.2] at e;cases e) (KX b o e)
   obtain⟨as,hrd⟩:=Dw.reads (R:=R) (cl:=cl) hok' KX' d0 v u q r'
   have tab:∀{c Q:Addr},GD s₁.heap c Q->s₁.heap.get? Q=some (Rk #[])->H Q=some (.tbl #[])->∀o,s₁.heap.get? Q=some o->asItWas s₁.heap s'.heap Q o/\∃o',s'.heap.get? Q=some o':=λ{c Q} hc hq ha o e=>by
    obtain⟨more,hm⟩:=un.Bew Q _ ha
    have h3:s'.heap.get? Q=some {cls:=.none,data:=.fields (#[]++more)}:=hok' Q _ hm
    rw[hq] at e
    cases e
    exact⟨.inr (.inl ⟨(hc.tab hq).isCodeTable,rfl,#[],more,rfl,h3⟩),_,h3⟩
   have old:OldK s₁.heap s'.heap:=⟨λb o e=>by
    by_cases q1:b=P1
    ·subst q1;exact(tab h1.1 h1.2 at1 o e).1
    ·by_cases q2:b=P2
     ·subst q2;exact(tab h2.1 h2.2 at2 o e).1
     ·exact .inl (kept b o q1 q2 e),λb o e=>by
    by_cases q1:b=P1
    ·subst q1;exact(tab h1.1 h1.2 at1 o e).2
    ·by_cases q2:b=P2
     ·subst q2;exact(tab h2.1 h2.2 at2 o e).2
     ·exact⟨o,kept b o q1 q2 e⟩⟩
   exact⟨u,as,rfl,hrd,old,os,bare⟩
theorem Bq4{r:OpenSpec}{k:Nat}{q:Program}{loose:List Str}{XP:(Str->Option Value)->Heap->Prop}{YP:World->Heap->Prop}{d d1 d2:DefRec}{K:Params->Frag}{ps:List Str}{sp:Frag->Sp}{x1 x2:Str}{c1 P1 c2 P2:Addr}
  (Cdl:r.wellSaid=true) (hlen:r.args.length=ps.length) (hr:Room k callerA)
  (hY:∀(w:World) (h:Heap),YP w h->(K w.params).In h)
  (hnt:∀pr:Params,Bci (K pr)=true) (hr1:(recsOf q).find? (λe=>e.name==x1)=some d1) (hr2:(recsOf q).find? (λe=>e.name==x2)=some d2) (ht1:∀pr:Params,Kg (K pr) x1=some (c1,P1)) (ht2:∀pr:Params,Kg (K pr) x2=some (c2,P2)) (hne:P1≠P2)
  (F:∀(w:World) (mg:Str->Option Value) (fa:Addr) (h:Heap),YP w h->(K w.params).In h->h.Ns mainGlobals mg->mg d.name=some (.ref fa)->
   ∃fd:FuncData,Binds (K w.params) fd ps []/\∀base:Heap,(K w.params).In base->base.Ns mainGlobals mg->GD base c1 P1->GD base c2 P2->Bo9 mg base->YZ r.prog w (K w.params) mg base CX0 k fa fd ps (sp (K w.params)))
  (hsp:∀(K:Frag) (H:Hp) (xs:List V) (a:Codec.denoteAll r.args),H P1=some (.tbl #[])->H P2=some (.tbl #[])->Codec.withinAll r.args a=true->Codec.app r.args r.asked a=true->Afc K H xs (Codec.encAll r.args a)->
   sp K xs H (λv H'=>Dw K H' v (r.ret.enc (Codec.app r.args r.f a))) λ_ _ _=>False):
  PySem.W.WalkOS q loose XP YP r d [] (λf vs=>PySem.call f vs):=by
 intro w s_0 s₁ mg mb G Y fa o pm cd doc dV kV ho hd hcd hD hmg hg args vals as hpre hlay hrd hwl hlo
 obtain⟨a,e1,e2⟩:=PySem.W.os_pre_some hpre
 obtain⟨e3,hwi⟩:=Codec.encAll_of_decAll r.args args a e1
 subst e3
 have KX:=hY w _ Y
 obtain⟨fd,hb,hF⟩:=F w mg fa _ Y KX G.T.g hmg
 have bm:Bo9 mg s₁.heap:=by
  obtain⟨bm,ob,b1,b2,b3,b4,b5,b6⟩:=G.T.bmain
  refine⟨bm,ob,b1,b2,λz=>?_,b3,b4,b5,b6⟩
  obtain⟨o',es,ep,e',hd',_⟩:=G.T.g
  rw[z,e'] at b3
  cases b3
  rw[hd'] at b6;cases b6
 refine PySem.W.enter_call (Ql (Bqr (R:=[]) (cl:=classAt s_0.heap) (d0:=r.ret.enc (Codec.app r.args r.f a)) KX G.T.g G.T.b G.T.builtins G.T.nolimit hg hwl (Bia _ _) (Bdr hlay) hr (hnt w.params)
  (Bcj G.T KX hr1 (ht1 w.params)) (Bcj G.T KX hr2 (ht2 w.params)) hne bm hF hb (by rw[Bc0];exact hlen)
  (λH xs a1 a2 hS=>hsp (K w.params) H xs a a1 a2 hwi e2 hS)) λr' s' hq=>?_)
 obtain⟨u,as',rfl,h1,h2,h3,h4⟩:=hq
 exact⟨.inl ⟨u,_,as',rfl,λ_=>rfl,h1,(OpenSpec.post_iff Cdl hwi _ _).mpr rfl,λz=>Bool.noConfusion (show false=true from z)⟩,h2,h3,h4⟩
end RT
end
section
namespace RT
open PySem PySem.Spec PyProof.Rows L2 RB
section
variable {K:Frag}{h:Heap}{mg:Str->Option Value}
theorem DN(X:K.In h)(G:h.Ns mainGlobals mg){x:Str}{st:Stmt}{ps:List Str}{f:Addr}{oc kV doc pm cdv ct:Value}{od an:Option Addr}{osl:Array (Option Value)}(a:Qg K mainGlobals x=some (some (.ref f)))
  (l:K.lookup f=some ⟨oc,od,.func (Ml x x (Acj st) (Ca st) (Ao st) .none kV doc pm an cdv ct),osl⟩) (c:UJ K cdv x=true) (k:Ig K (.ref f)=true)
  (b:∀(kV doc pm:Value) (an:Option Addr) (cdv ct:Value) (us:List Value),us.length=ps.length->bindArgs (Ml x x (Acj st) (Ca st) (Ao st) .none kV doc pm an cdv ct) ⟨us,[]⟩=pure (ps.zip us)):Src K mg x st ps:=
 ⟨⟨_,_,Bjr (st:=st) l c k,Ap4 X G a,(Bjr (st:=st) l c k).binds b⟩⟩
theorem Bj4{C:Addr}{qual:Str}{st:Stmt}{ps:List Str}{own:Bool}{f:Addr}{oc kV doc pm cdv ct:Value}{od an:Option Addr}{osl:Array (Option Value)}(a:M8 K (.ref C) "__init__"=some (some (.ref f)))
  (l:K.lookup f=some ⟨oc,od,.func (Ml "__init__" qual (Acj st) (Ca st) (Ao st) .none kV doc pm an cdv ct),osl⟩) (c:UJ K cdv qual=true) (k:Ig K (.ref f)=true)
  (i:Biz K (.ref f)=true) (m:Aiq K C=true) (kc:Ig K (.ref C)=true)
  (b:∀(kV doc pm:Value) (an:Option Addr) (cdv ct:Value) (us:List Value),us.length=ps.length->bindArgs (Ml "__init__" qual (Acj st) (Ca st) (Ao st) .none kV doc pm an cdv ct) ⟨us,[]⟩=pure (ps.zip us))
  (o:own=true->Bis K C "__init__" f):Blx K C "__init__" qual st ps own:=
 ⟨⟨_,_,Bjr (st:=st) l c k,⟨m,a,i,kc⟩,(Bjr (st:=st) l c k).binds b,o⟩⟩
theorem Ht{t:Addr}{od:Option Addr}{its:Array Value}{n:Nat}{sl:Array (Option Value)}{xs:List V}(l:K.lookup t=some ⟨.type "tuple",od,.seq its n,sl⟩)(z:its.size<=sizeLine)(v:Vals xs its.toList):∀H,SqT K H t xs:=λH=>.inr ⟨_,its,n,l,rfl,rfl,z,v⟩
theorem Awq{x:Str}{f c Pt:Addr}{oc oc2:Value}{od od2:Option Addr}{fd:FuncData}{sl sl2:Array (Option Value)}{vs:Array Value}(a:Qg K mainGlobals x=some (some (.ref f)))(l:K.lookup f=some ⟨oc,od,.func fd,sl⟩)(e:fd.code=.ref c)
  (l2:K.lookup c=some ⟨oc2,od2,.fields vs,sl2⟩) (v:(vs[11]?:Option Value)=some (.ref Pt)):Kg K x=some (c,Pt):=by
 unfold Kg
 rw[a]
 dsimp only
 rw[l]
 dsimp only
 rw[e]
 dsimp only
 rw[l2]
 dsimp only
 rw[v]
theorem Bzp(X:K.In h)(G:h.Ns mainGlobals mg){base:Heap}{c1 P1 c2 P2 f1 f2:Addr}(t1:Kg K "best_call"=some (c1,P1))(t2:Kg K "known_call"=some (c2,P2))(a1:Qg K mainGlobals "best_call"=some (some (.ref f1)))(a2:Qg K mainGlobals "known_call"=some (some (.ref f2)))
  (d1:GD base c1 P1) (d2:GD base c2 P2) (bm:Bo9 mg base):Bys K mg base P1 P2:=
 ⟨⟨c1,t1,λf e=>by rw[Ap4 X G a1] at e;cases e;exact a1,d1,bm,by decide+kernel⟩,⟨c2,t2,λf e=>by rw[Ap4 X G a2] at e;cases e;exact a2,d2,bm,by decide+kernel⟩⟩
theorem fin2{P:Program}{w:World}{A:Adr}{fa c1 P1 c2 P2 f1 f2:Addr}(X:K.In h)(G:h.Ns mainGlobals mg)(t1:Kg K "best_call"=some (c1,P1))(t2:Kg K "known_call"=some (c2,P2))(a1:Qg K mainGlobals "best_call"=some (some (.ref f1)))(a2:Qg K mainGlobals "known_call"=some (some (.ref f2)))
  (T:Txt K mg A) (hmg:mg "answers"=some (.ref fa)):∃fd:FuncData,Binds K fd ["calls"] []/\∀base:Heap,K.In base->base.Ns mainGlobals mg->GD base c1 P1->GD base c2 P2->Bo9 mg base->YZ P w K mg base CX0 13 fa fd ["calls"] (Abh K P1 P2):=by
 obtain⟨f,fd,F,a,b⟩:=T.Bhs.ex
 rw[hmg] at a
 cases a
 exact⟨fd,b,λbase _ _ d1 d2 bm=>Brp F Bti (λvs H Q E h=>Bmg vs H Q E h) λX' e1 e2 e3 e4 e5 c H vs Q E h=>Bjh T (Bzp X G t1 t2 a1 a2 d1 d2 bm) X' e1 e2 e3 e4 e5 c H vs Q E h⟩
end
theorem Ccr{K:Frag}{H:Hp}{a:Addr}{ns:List Int}{P1 P2:Addr}(hs:SqL K H a (ns.map V.int))(ha:Mp ns=true)(h1:H P1=some (.tbl #[]))(h2:H P2=some (.tbl #[]))(hne:P1≠P2):
  Abh K P1 P2 [.ref a] H (λv H'=>Dw K H' v (.list ((V8 ns).map PySem.W.WData.int))) λ_ _ _=>False:=by
 obtain⟨cs,k1,k2,k3,k4,k5⟩:=RM.Bmf ha
 refine⟨a,ns,ns.length,cs,rfl,hs,by omega,k1,k2,k4,⟨hne,.inl h1,.inl h2⟩,λD H' _ _ _ hD=>?_⟩
 rw[k5]
 exact .lst (SqL.of hD) (Brj _)
end RT
end
structure PySem.W.Fast:Prop where(tw18338632646813775168 tw7417549136938233368 tw7825793834468626277 tw18267878840876050725 tw14907692735812527273 tw14409099737381745137 tw17704997797962108885 tw15178756307906335463 tw6819867335897018007 tw4594858658288803698 tw3051733496900132426 tw13193355860790474589 tw5030318634074935573 tw11514737896098158932 tw10967562408206852564 tw14389507505565698081 tw14870854306001099066 tw8057700363408987772 tw16331196066159680568 tw3104228918592890143 tw7962596873883072692 tw3179427318496825490 tw6099149074282666257 tw12362515123860528418 tw8539270161017226100 tw14774641662747715299 tw15934855386851275505 tw15219428374268809311 tw4560004580348405402 tw238016703976565073 tw15107826901119283678 tw2407494770371924436 tw1379024540045644928 tw16679167435039160790 tw911583865260272689 tw587746676558182088 tw14635875644631805629 tw4898438464916171642 tw8979840705748720126 tw12310080210194155628 tw6321147633461154788 tw15748613882715857902 tw8653111300539213399 tw14084742698286831284 tw4364370746143559428 tw11126488776385810642 tw5283829345551751737 tw18180266709567886198 tw9967432147916660323 tw8483181579766020817 tw13393109835476857401 tw9149170591932080253 tw2624370314440317501 tw13047712794800294199 tw15512959271531669263 tw5600697845123988737 tw11338236071992934809 tw17897174239516011743 tw13199999308360403561 tw16235320967232464361 tw1918283144556825136 tw6039100184211288029 tw12250501362125715548 tw589061353715336333 tw6771443254566700729 tw814286979754772475 tw14028199481963126335 tw9161083164738158230 tw605224761965794727 tw12027332046337005433 tw12432833810946505510 tw9158112658901663408 tw933073199555399161 tw2926782651351020366 tw9646450214336717378 tw18221677532294295924 tw12584902466265888067 tw8773427871692128615 tw5424974970731627057 tw80444526895041781 tw931885936107416812 tw9340899070535454907 tw3797222101379467313 tw17929461782550780965 tw6462868723755159073 tw17811330252042757111 tw13712328784202734616 tw15443860017743149686 tw14723197385511658734 tw17999694785861205842 tw14666033251302892906 tw4830593418907615057 tw5409738179497373123 tw10154250364817046895 tw13013658023336124382 tw7659763077950051805 tw13592889642458411244 tw17244561253279528582 tw10645900559089896222 tw16148086549500892360 tw1553300804263712725 tw9013460789277989608 tw3706416065427126647 tw11392736376736921666 tw11616444579844663418 tw8790006882936814014 tw13931529792089885589 tw8909168406075415645 tw13043951154783369263 tw2612265175721810757 tw7976332072015909109 tw4199280349658432261 tw38986308751688880 tw11790716161759039981 tw15633614135075508121 tw4878196588390061230 tw14175464768942644840 tw13124118676903809356 tw12375186458460362447 tw8411306088985532505 tw17670064306046618070 tw18325697574088576255 tw9475184111583418347 tw1847150323165027203 tw665439362555690045 tw15322073193653484276 tw3542515731390468514 tw17718804662636290930 tw16941698083981150091 tw12767313540785359238 tw7363747318250554145 tw14611270408117297229 tw3006376919711957845 tw5247031699084427720 tw17800343069990712475 tw10553336799363463923 tw1613094762478595822 tw10732739593086827687 tw11497123874527445317 tw6591686392635725827 tw1212808133720869841 tw7357681340436990850 tw7434745962753243298 tw7501704544854094300 tw2208226211438306432 tw1742644120449221863 tw3531289091757490881 tw16157778416183655693 tw18230623046821883129 tw7002004818803473787 tw9818877694672554608 tw12352754228504516840 tw10669485084588746528 tw7730264784103881865 tw10757609930053985793 tw13083023861502272495 tw6624344130096748436 tw8215858651469134101 tw10409875760217565145 tw10054295197946054664 tw12701690234833693248 tw4995707272592969576 tw1957968591544470016 tw13141034676845916249 tw10421043106616984972 tw6055815753586215258 tw5018739279823147169 tw8931643637832739486 tw8028636182983533606 tw11187000047501822543:True)
section
open PySem PySem.W PyProof.Rows RT
theorem el1{P:List Value->Prop}(h:∀a,P [a]):∀us:List Value,us.length=1->P us
 |[a],_=>h a
theorem el2{P:List Value->Prop}(h:∀a b,P [a,b]):∀us:List Value,us.length=2->P us
 |[a,b],_=>h a b
theorem el3{P:List Value->Prop}(h:∀a b c,P [a,b,c]):∀us:List Value,us.length=3->P us
 |[a,b,c],_=>h a b c
theorem el4{P:List Value->Prop}(h:∀a b c d,P [a,b,c,d]):∀us:List Value,us.length=4->P us
 |[a,b,c,d],_=>h a b c d
theorem el5{P:List Value->Prop}(h:∀a b c d e,P [a,b,c,d,e]):∀us:List Value,us.length=5->P us
 |[a,b,c,d,e],_=>h a b c d e
local macro_rules | `(tactic| tm_at "n") => `(tactic| (intro _ _ _ _ _ _; first | exact el1 fun _ => rfl | exact el2 fun _ _ => rfl | exact el3 fun _ _ _ => rfl | exact el4 fun _ _ _ _ => rfl | exact el5 fun _ _ _ _ _ => rfl))
local macro_rules | `(tactic| tm_at "k") => `(tactic| first | k_is | (dsimp only; k_is) | (dsimp only [L2.HY]; k_is))
local macro_rules | `(tactic| tm_at "v") => `(tactic| (repeat (first | exact Paired.nil | refine Paired.cons ⟨_, rfl⟩ ?_ | refine Paired.cons rfl ?_)))
local macro_rules | `(tactic| tm_at "d") => `(tactic| (repeat (first | exact Paired.nil | refine Paired.cons ⟨⟨_, rfl⟩, by decide +kernel, rfl⟩ ?_)))
set_option maxRecDepth 100000 in
set_option maxHeartbeats 0 in
theorem PySem.Challenge.cw_rankedroom_s01_answers_holds : PySem.Challenge.rw_rankedroom_s01_answers.Holds := by
 w_on;k_headS;(case hw=>exact⟨[.list [.int 12]],by decide+kernel,by decide+kernel⟩)
 k_fillS
 refine' RT.Bq4 (r:=PySem.Challenge.rw_rankedroom_s01_answers) (k:=13) (ps:=["calls"]) (sp:=λK=>RT.Abh K ?zP1 ?zP2) (x1:="best_call") (x2:="known_call") ?zW ?zL ?zR (λw h Y=>PySem.W.kIn_of Y) ?zN ?zr1 ?zr2 ?zt1 ?zt2 ?zne ?zF ?zS
 case zW=>decide+kernel
 case zL=>rfl
 case zR=>exact⟨rfl,by decide,by decide⟩
 case zN=>intro pr;kernel_rfl
 case zr1=>rfl
 case zr2=>rfl
 case zt1=>intro pr;exact RT.Awq (by k_is) (by k_is) (by rfl) (by k_is) (by rfl)
 case zt2=>intro pr;exact RT.Awq (by k_is) (by k_is) (by rfl) (by k_is) (by rfl)
 case zne=>decide
 case zF=>
  intro w mg fa h Y X G hmg
  exact RT.fin2 (A:=⟨_,_,_,_,_,_,_,_,_,_,_,_,_,_,_,_,_,_,_,_,[(17,_),(18,_),(19,_),(20,_),(21,_),(22,_),(25,_),(28,_)],[(0,_),(1,_),(2,_),(3,_),(4,_),(5,_),(6,_),(7,_),(8,_),(9,_),(10,_),(11,_),(12,_),(13,_),(14,_),(15,_),(16,_),(23,_),(24,_),(26,_),(27,_),(29,_)]⟩) X G (RT.Awq (by k_is) (by k_is) (by rfl) (by k_is) (by rfl)) (RT.Awq (by k_is) (by k_is) (by rfl) (by k_is) (by rfl)) (by k_is) (by k_is)
   {
    Avn:=DN X G (by tm_at"k") (by tm_at"k") (by tm_at"k") (by tm_at"k") (by tm_at"n"),
    YJ:=DN X G (by tm_at"k") (by tm_at"k") (by tm_at"k") (by tm_at"k") (by tm_at"n"),
    Aaj:=DN X G (by tm_at"k") (by tm_at"k") (by tm_at"k") (by tm_at"k") (by tm_at"n"),
    Aiv:=DN X G (by tm_at"k") (by tm_at"k") (by tm_at"k") (by tm_at"k") (by tm_at"n"),
    Cau:=DN X G (by tm_at"k") (by tm_at"k") (by tm_at"k") (by tm_at"k") (by tm_at"n"),
    Bc4:=DN X G (by tm_at"k") (by tm_at"k") (by tm_at"k") (by tm_at"k") (by tm_at"n"),
    Aqq:=DN X G (by tm_at"k") (by tm_at"k") (by tm_at"k") (by tm_at"k") (by tm_at"n"),
    Acn:=DN X G (by tm_at"k") (by tm_at"k") (by tm_at"k") (by tm_at"k") (by tm_at"n"),
    Bhu:=DN X G (by tm_at"k") (by tm_at"k") (by tm_at"k") (by tm_at"k") (by tm_at"n"),
    Aqx:=DN X G (by tm_at"k") (by tm_at"k") (by tm_at"k") (by tm_at"k") (by tm_at"n"),
    Aqw:=DN X G (by tm_at"k") (by tm_at"k") (by tm_at"k") (by tm_at"k") (by tm_at"n"),
    Bmz:=DN X G (by tm_at"k") (by tm_at"k") (by tm_at"k") (by tm_at"k") (by tm_at"n"),
    Avi:=DN X G (by tm_at"k") (by tm_at"k") (by tm_at"k") (by tm_at"k") (by tm_at"n"),
    Bc3:=DN X G (by tm_at"k") (by tm_at"k") (by tm_at"k") (by tm_at"k") (by tm_at"n"),
    Bc2:=DN X G (by tm_at"k") (by tm_at"k") (by tm_at"k") (by tm_at"k") (by tm_at"n"),
    Ai0:=DN X G (by tm_at"k") (by tm_at"k") (by tm_at"k") (by tm_at"k") (by tm_at"n"),
    Aqi:=DN X G (by tm_at"k") (by tm_at"k") (by tm_at"k") (by tm_at"k") (by tm_at"n"),
    Brk:=DN X G (by tm_at"k") (by tm_at"k") (by tm_at"k") (by tm_at"k") (by tm_at"n"),
    Bwi:=DN X G (by tm_at"k") (by tm_at"k") (by tm_at"k") (by tm_at"k") (by tm_at"n"),
    Aql:=DN X G (by tm_at"k") (by tm_at"k") (by tm_at"k") (by tm_at"k") (by tm_at"n"),
    Acl:=DN X G (by tm_at"k") (by tm_at"k") (by tm_at"k") (by tm_at"k") (by tm_at"n"),
    Ave:=DN X G (by tm_at"k") (by tm_at"k") (by tm_at"k") (by tm_at"k") (by tm_at"n"),
    Ale:=DN X G (by tm_at"k") (by tm_at"k") (by tm_at"k") (by tm_at"k") (by tm_at"n"),
    Avb:=DN X G (by tm_at"k") (by tm_at"k") (by tm_at"k") (by tm_at"k") (by tm_at"n"),
    Ai1:=DN X G (by tm_at"k") (by tm_at"k") (by tm_at"k") (by tm_at"k") (by tm_at"n"),
    Aiy:=DN X G (by tm_at"k") (by tm_at"k") (by tm_at"k") (by tm_at"k") (by tm_at"n"),
    Aai:=DN X G (by tm_at"k") (by tm_at"k") (by tm_at"k") (by tm_at"k") (by tm_at"n"),
    Ack:=DN X G (by tm_at"k") (by tm_at"k") (by tm_at"k") (by tm_at"k") (by tm_at"n"),
    Azn:=DN X G (by tm_at"k") (by tm_at"k") (by tm_at"k") (by tm_at"k") (by tm_at"n"),
    Aqv:=DN X G (by tm_at"k") (by tm_at"k") (by tm_at"k") (by tm_at"k") (by tm_at"n"),
    Cat:=DN X G (by tm_at"k") (by tm_at"k") (by tm_at"k") (by tm_at"k") (by tm_at"n"),
    Acm:=DN X G (by tm_at"k") (by tm_at"k") (by tm_at"k") (by tm_at"k") (by tm_at"n"),
    Aqu:=DN X G (by tm_at"k") (by tm_at"k") (by tm_at"k") (by tm_at"k") (by tm_at"n"),
    Avk:=DN X G (by tm_at"k") (by tm_at"k") (by tm_at"k") (by tm_at"k") (by tm_at"n"),
    Aqt:=DN X G (by tm_at"k") (by tm_at"k") (by tm_at"k") (by tm_at"k") (by tm_at"n"),
    Aah:=DN X G (by tm_at"k") (by tm_at"k") (by tm_at"k") (by tm_at"k") (by tm_at"n"),
    Alf:=DN X G (by tm_at"k") (by tm_at"k") (by tm_at"k") (by tm_at"k") (by tm_at"n"),
    Alh:=DN X G (by tm_at"k") (by tm_at"k") (by tm_at"k") (by tm_at"k") (by tm_at"n"),
    Aqn:=DN X G (by tm_at"k") (by tm_at"k") (by tm_at"k") (by tm_at"k") (by tm_at"n"),
    Ud:=DN X G (by tm_at"k") (by tm_at"k") (by tm_at"k") (by tm_at"k") (by tm_at"n"),
    Azp:=DN X G (by tm_at"k") (by tm_at"k") (by tm_at"k") (by tm_at"k") (by tm_at"n"),
    Avj:=DN X G (by tm_at"k") (by tm_at"k") (by tm_at"k") (by tm_at"k") (by tm_at"n"),
    Aqp:=DN X G (by tm_at"k") (by tm_at"k") (by tm_at"k") (by tm_at"k") (by tm_at"n"),
    Azg:=DN X G (by tm_at"k") (by tm_at"k") (by tm_at"k") (by tm_at"k") (by tm_at"n"),
    Aqs:=DN X G (by tm_at"k") (by tm_at"k") (by tm_at"k") (by tm_at"k") (by tm_at"n"),
    Avg:=DN X G (by tm_at"k") (by tm_at"k") (by tm_at"k") (by tm_at"k") (by tm_at"n"),
    Azl:=DN X G (by tm_at"k") (by tm_at"k") (by tm_at"k") (by tm_at"k") (by tm_at"n"),
    Azk:=DN X G (by tm_at"k") (by tm_at"k") (by tm_at"k") (by tm_at"k") (by tm_at"n"),
    Ald:=DN X G (by tm_at"k") (by tm_at"k") (by tm_at"k") (by tm_at"k") (by tm_at"n"),
    Aag:=DN X G (by tm_at"k") (by tm_at"k") (by tm_at"k") (by tm_at"k") (by tm_at"n"),
    Avm:=DN X G (by tm_at"k") (by tm_at"k") (by tm_at"k") (by tm_at"k") (by tm_at"n"),
    Avd:=DN X G (by tm_at"k") (by tm_at"k") (by tm_at"k") (by tm_at"k") (by tm_at"n"),
    Bm0:=DN X G (by tm_at"k") (by tm_at"k") (by tm_at"k") (by tm_at"k") (by tm_at"n"),
    Bmy:=DN X G (by tm_at"k") (by tm_at"k") (by tm_at"k") (by tm_at"k") (by tm_at"n"),
    Aiw:=DN X G (by tm_at"k") (by tm_at"k") (by tm_at"k") (by tm_at"k") (by tm_at"n"),
    Azq:=DN X G (by tm_at"k") (by tm_at"k") (by tm_at"k") (by tm_at"k") (by tm_at"n"),
    Aqr:=DN X G (by tm_at"k") (by tm_at"k") (by tm_at"k") (by tm_at"k") (by tm_at"n"),
    Avl:=DN X G (by tm_at"k") (by tm_at"k") (by tm_at"k") (by tm_at"k") (by tm_at"n"),
    Aft:=DN X G (by tm_at"k") (by tm_at"k") (by tm_at"k") (by tm_at"k") (by tm_at"n"),
    Bht:=DN X G (by tm_at"k") (by tm_at"k") (by tm_at"k") (by tm_at"k") (by tm_at"n"),
    Aqk:=DN X G (by tm_at"k") (by tm_at"k") (by tm_at"k") (by tm_at"k") (by tm_at"n"),
    Avo:=DN X G (by tm_at"k") (by tm_at"k") (by tm_at"k") (by tm_at"k") (by tm_at"n"),
    Bc5:=DN X G (by tm_at"k") (by tm_at"k") (by tm_at"k") (by tm_at"k") (by tm_at"n"),
    YH:=DN X G (by tm_at"k") (by tm_at"k") (by tm_at"k") (by tm_at"k") (by tm_at"n"),
    Azi:=DN X G (by tm_at"k") (by tm_at"k") (by tm_at"k") (by tm_at"k") (by tm_at"n"),
    Azh:=DN X G (by tm_at"k") (by tm_at"k") (by tm_at"k") (by tm_at"k") (by tm_at"n"),
    Ali:=DN X G (by tm_at"k") (by tm_at"k") (by tm_at"k") (by tm_at"k") (by tm_at"n"),
    V0:=DN X G (by tm_at"k") (by tm_at"k") (by tm_at"k") (by tm_at"k") (by tm_at"n"),
    Aqo:=DN X G (by tm_at"k") (by tm_at"k") (by tm_at"k") (by tm_at"k") (by tm_at"n"),
    Aqm:=DN X G (by tm_at"k") (by tm_at"k") (by tm_at"k") (by tm_at"k") (by tm_at"n"),
    Azs:=DN X G (by tm_at"k") (by tm_at"k") (by tm_at"k") (by tm_at"k") (by tm_at"n"),
    Avf:=DN X G (by tm_at"k") (by tm_at"k") (by tm_at"k") (by tm_at"k") (by tm_at"n"),
    Azo:=DN X G (by tm_at"k") (by tm_at"k") (by tm_at"k") (by tm_at"k") (by tm_at"n"),
    Azt:=DN X G (by tm_at"k") (by tm_at"k") (by tm_at"k") (by tm_at"k") (by tm_at"n"),
    Aiz:=DN X G (by tm_at"k") (by tm_at"k") (by tm_at"k") (by tm_at"k") (by tm_at"n"),
    Azm:=DN X G (by tm_at"k") (by tm_at"k") (by tm_at"k") (by tm_at"k") (by tm_at"n"),
    Avh:=DN X G (by tm_at"k") (by tm_at"k") (by tm_at"k") (by tm_at"k") (by tm_at"n"),
    Alj:=DN X G (by tm_at"k") (by tm_at"k") (by tm_at"k") (by tm_at"k") (by tm_at"n"),
    Azr:=DN X G (by tm_at"k") (by tm_at"k") (by tm_at"k") (by tm_at"k") (by tm_at"n"),
    Aix:=DN X G (by tm_at"k") (by tm_at"k") (by tm_at"k") (by tm_at"k") (by tm_at"n"),
    Avc:=DN X G (by tm_at"k") (by tm_at"k") (by tm_at"k") (by tm_at"k") (by tm_at"n"),
    YG:=DN X G (by tm_at"k") (by tm_at"k") (by tm_at"k") (by tm_at"k") (by tm_at"n"),
    Aqj:=DN X G (by tm_at"k") (by tm_at"k") (by tm_at"k") (by tm_at"k") (by tm_at"n"),
    Bhs:=DN X G (by tm_at"k") (by tm_at"k") (by tm_at"k") (by tm_at"k") (by tm_at"n"),
    Bnq:=PySem.W.mg_of X G (by tm_at"k"),
    Xw:=⟨(by tm_at"k"),(by tm_at"k"),(by tm_at"k"),(by tm_at"k")⟩,
    Bne:=Bj4 (by tm_at"k") (by tm_at"k") (by tm_at"k") (by tm_at"k") (by tm_at"k") (by tm_at"k") (by tm_at"k") (by tm_at"n") (λz=>Bool.noConfusion z),
    Aek:=(by tm_at"k"),
    Tf:=(by tm_at"k"),
    Aat:=(by tm_at"k"),
    Bj1:=PySem.W.mg_of X G (by tm_at"k"),
    U9:=⟨(by tm_at"k"),(by tm_at"k"),(by tm_at"k"),(by tm_at"k")⟩,
    Bjw:=Bj4 (by tm_at"k") (by tm_at"k") (by tm_at"k") (by tm_at"k") (by tm_at"k") (by tm_at"k") (by tm_at"k") (by tm_at"n") (λ_=>⟨(by tm_at"k"),(by tm_at"k"),(by tm_at"k"),(by tm_at"k")⟩),
    Aax:=(by tm_at"k"),
    Aha:=(by tm_at"k"),
    Ag9:=(by tm_at"k"),
    Alw:=(by tm_at"k"),
    Aay:=(by tm_at"k"),
    Aem:=(by tm_at"k"),
    WM:=(by tm_at"k"),
    RN:=(by tm_at"k"),
    Bsh:=PySem.W.mg_of X G (by tm_at"k"),
    RJ:=⟨(by tm_at"k"),(by tm_at"k"),(by tm_at"k"),(by tm_at"k")⟩,
    Brt:=Bj4 (by tm_at"k") (by tm_at"k") (by tm_at"k") (by tm_at"k") (by tm_at"k") (by tm_at"k") (by tm_at"k") (by tm_at"n") (λz=>Bool.noConfusion z),
    Aav:=(by tm_at"k"),
    Ag8:=(by tm_at"k"),
    Ag7:=(by tm_at"k"),
    Alv:=(by tm_at"k"),
    Aaw:=(by tm_at"k"),
    Ael:=(by tm_at"k"),
    WL:=(by tm_at"k"),
    RK:=(by tm_at"k"),
    Aau:=(by tm_at"k"),
    Bsi:=PySem.W.mg_of X G (by tm_at"k"),
    Acr:=⟨(by tm_at"k"),(by tm_at"k"),(by tm_at"k"),(by tm_at"k")⟩,
    Bru:=Bj4 (by tm_at"k") (by tm_at"k") (by tm_at"k") (by tm_at"k") (by tm_at"k") (by tm_at"k") (by tm_at"k") (by tm_at"n") (λz=>Bool.noConfusion z),
    Rn:=(by tm_at"k"),
    Ro:=(by tm_at"k"),
    Pk:=(by tm_at"k"),
    Bbu:=⟨_,PySem.W.mg_of X G (by tm_at"k")⟩,
    Bho:=⟨_,PySem.W.mg_of X G (by tm_at"k")⟩,
    J4:=PySem.W.mg_of X G (by tm_at"k"),
    Vi:=⟨[_,_,_,_,_,_],Ht (by tm_at"k") (by show 6<=sizeLine;decide) (by tm_at"v"),(.cons (Ht (by tm_at"k") (by show 2<=sizeLine;decide) (by tm_at"v")) (.cons (Ht (by tm_at"k") (by show 2<=sizeLine;decide) (by tm_at"v")) (.cons (Ht (by tm_at"k") (by show 2<=sizeLine;decide) (by tm_at"v")) (.cons (Ht (by tm_at"k") (by show 2<=sizeLine;decide) (by tm_at"v")) (.cons (Ht (by tm_at"k") (by show 2<=sizeLine;decide) (by tm_at"v")) (.cons (Ht (by tm_at"k") (by show 2<=sizeLine;decide) (by tm_at"v")) .nil))))))⟩,
    Ak8:=⟨_,PySem.W.mg_of X G (by tm_at"k")⟩,
    Wb:=⟨_,PySem.W.mg_of X G (by tm_at"k")⟩,
    Hq:=⟨_,PySem.W.mg_of X G (by tm_at"k")⟩,
    FN:=⟨_,PySem.W.mg_of X G (by tm_at"k")⟩,
    Yg:=⟨_,PySem.W.mg_of X G (by tm_at"k")⟩,
    Acg:=⟨_,PySem.W.mg_of X G (by tm_at"k")⟩,
    Azc:=⟨_,PySem.W.mg_of X G (by tm_at"k")⟩,
    Aiu:=⟨_,PySem.W.mg_of X G (by tm_at"k")⟩,
    Ait:=⟨_,PySem.W.mg_of X G (by tm_at"k")⟩,
    Au8:=⟨_,PySem.W.mg_of X G (by tm_at"k")⟩,
    Ov:=⟨_,PySem.W.mg_of X G (by tm_at"k")⟩,
    Acp:=PySem.W.mg_of X G (by tm_at"k"),
    Az5:=Ht (by tm_at"k") (by show 9<=sizeLine;decide) (by tm_at"v"),
    U5:=PySem.W.mg_of X G (by tm_at"k"),
    Amc:=Ht (by tm_at"k") (by show 30<=sizeLine;decide) (by tm_at"v"),
    U4:=PySem.W.mg_of X G (by tm_at"k"),
    Amb:=⟨[_],Ht (by tm_at"k") (by show 1<=sizeLine;decide) (by tm_at"v"),(.cons (Ht (by tm_at"k") (by show 2<=sizeLine;decide) (by tm_at"v")) .nil)⟩,
    Aqb:=⟨_,PySem.W.mg_of X G (by tm_at"k")⟩,
    Ap7:=⟨_,PySem.W.mg_of X G (by tm_at"k")⟩,
    Ak7:=⟨_,PySem.W.mg_of X G (by tm_at"k")⟩,
    Aae:=⟨_,PySem.W.mg_of X G (by tm_at"k")⟩,
    Wv:=⟨_,PySem.W.mg_of X G (by tm_at"k")⟩,
    Ap9:=⟨_,PySem.W.mg_of X G (by tm_at"k")⟩,
    Wx:=PySem.W.mg_of X G (by tm_at"k"),
    Aq3:=Ht (by tm_at"k") (by show 2<=sizeLine;decide) (by tm_at"v"),
    Aqa:=⟨_,PySem.W.mg_of X G (by tm_at"k")⟩,
    Ap8:=⟨_,PySem.W.mg_of X G (by tm_at"k")⟩,
    Oi:=PySem.W.mg_of X G (by tm_at"k"),
    Aeo:=⟨[_],Ht (by tm_at"k") (by show 1<=sizeLine;decide) (by tm_at"v"),(.cons (Ht (by tm_at"k") (by show 2<=sizeLine;decide) (by tm_at"v")) .nil)⟩,
    U3:=PySem.W.mg_of X G (by tm_at"k"),
    Ama:=⟨[_,_,_,_,_,_,_,_,_,_],Ht (by tm_at"k") (by show 10<=sizeLine;decide) (by tm_at"v"),(.cons (Ht (by tm_at"k") (by show 2<=sizeLine;decide) (by tm_at"v")) (.cons (Ht (by tm_at"k") (by show 2<=sizeLine;decide) (by tm_at"v")) (.cons (Ht (by tm_at"k") (by show 2<=sizeLine;decide) (by tm_at"v")) (.cons (Ht (by tm_at"k") (by show 2<=sizeLine;decide) (by tm_at"v")) (.cons (Ht (by tm_at"k") (by show 2<=sizeLine;decide) (by tm_at"v")) (.cons (Ht (by tm_at"k") (by show 2<=sizeLine;decide) (by tm_at"v")) (.cons (Ht (by tm_at"k") (by show 2<=sizeLine;decide) (by tm_at"v")) (.cons (Ht (by tm_at"k") (by show 2<=sizeLine;decide) (by tm_at"v")) (.cons (Ht (by tm_at"k") (by show 2<=sizeLine;decide) (by tm_at"v")) (.cons (Ht (by tm_at"k") (by show 2<=sizeLine;decide) (by tm_at"v")) .nil))))))))))⟩,
    J0:=PySem.W.mg_of X G (by tm_at"k"),
    Vh:=⟨[_],Ht (by tm_at"k") (by show 1<=sizeLine;decide) (by tm_at"v"),(.cons (Ht (by tm_at"k") (by show 2<=sizeLine;decide) (by tm_at"v")) .nil)⟩,
    Wy:=PySem.W.mg_of X G (by tm_at"k"),
    Aq4:=⟨[_,_],Ht (by tm_at"k") (by show 2<=sizeLine;decide) (by tm_at"v"),(.cons (Ht (by tm_at"k") (by show 2<=sizeLine;decide) (by tm_at"v")) (.cons (Ht (by tm_at"k") (by show 2<=sizeLine;decide) (by tm_at"v")) .nil))⟩,
    Zi:=PySem.W.mg_of X G (by tm_at"k"),
    Awa:=⟨[_],Ht (by tm_at"k") (by show 1<=sizeLine;decide) (by tm_at"v"),(.cons (Ht (by tm_at"k") (by show 2<=sizeLine;decide) (by tm_at"v")) .nil)⟩,
    Q7:=PySem.W.mg_of X G (by tm_at"k"),
    Acw:=⟨[_,_,_],Ht (by tm_at"k") (by show 3<=sizeLine;decide) (by tm_at"v"),(.cons (Ht (by tm_at"k") (by show 2<=sizeLine;decide) (by tm_at"v")) (.cons (Ht (by tm_at"k") (by show 2<=sizeLine;decide) (by tm_at"v")) (.cons (Ht (by tm_at"k") (by show 2<=sizeLine;decide) (by tm_at"v")) .nil)))⟩,
    Zg:=PySem.W.mg_of X G (by tm_at"k"),
    Av8:=⟨[_],Ht (by tm_at"k") (by show 1<=sizeLine;decide) (by tm_at"v"),(.cons (Ht (by tm_at"k") (by show 2<=sizeLine;decide) (by tm_at"v")) .nil)⟩,
    Wz:=PySem.W.mg_of X G (by tm_at"k"),
    Aq5:=⟨[_],Ht (by tm_at"k") (by show 1<=sizeLine;decide) (by tm_at"v"),(.cons (Ht (by tm_at"k") (by show 2<=sizeLine;decide) (by tm_at"v")) .nil)⟩,
    Zh:=PySem.W.mg_of X G (by tm_at"k"),
    Av9:=⟨[_],Ht (by tm_at"k") (by show 1<=sizeLine;decide) (by tm_at"v"),(.cons (Ht (by tm_at"k") (by show 2<=sizeLine;decide) (by tm_at"v")) .nil)⟩,
    Afp:=⟨_,PySem.W.mg_of X G (by tm_at"k")⟩,
    Qm:=PySem.W.mg_of X G (by tm_at"k"),
    Agz:=⟨⟨_,_,(by tm_at"k"),by tm_at"d"⟩,by show [(17:Int),(18:Int),(19:Int),(20:Int),(21:Int),(22:Int),(25:Int),(28:Int)].Nodup;decide,by dsimp only;decide+kernel⟩,
    Ag1:=(.cons ⟨rfl,PySem.W.mg_of X G (by tm_at"k")⟩ (.cons ⟨rfl,PySem.W.mg_of X G (by tm_at"k")⟩ (.cons ⟨rfl,PySem.W.mg_of X G (by tm_at"k")⟩ (.cons ⟨rfl,PySem.W.mg_of X G (by tm_at"k")⟩ (.cons ⟨rfl,PySem.W.mg_of X G (by tm_at"k")⟩ (.cons ⟨rfl,PySem.W.mg_of X G (by tm_at"k")⟩ (.cons ⟨rfl,PySem.W.mg_of X G (by tm_at"k")⟩ (.cons ⟨rfl,PySem.W.mg_of X G (by tm_at"k")⟩ .nil)))))))),
    WD:=PySem.W.mg_of X G (by tm_at"k"),
    Aqg:=⟨⟨_,_,(by tm_at"k"),by tm_at"d"⟩,by show [(0:Int),(1:Int),(2:Int),(3:Int),(4:Int),(5:Int),(6:Int),(7:Int),(8:Int),(9:Int),(10:Int),(11:Int),(12:Int),(13:Int),(14:Int),(15:Int),(16:Int),(23:Int),(24:Int),(26:Int),(27:Int),(29:Int)].Nodup;decide,by dsimp only;decide+kernel⟩,
    Aqh:=(.cons ⟨rfl,PySem.W.mg_of X G (by tm_at"k")⟩ (.cons ⟨rfl,PySem.W.mg_of X G (by tm_at"k")⟩ (.cons ⟨rfl,PySem.W.mg_of X G (by tm_at"k")⟩ (.cons ⟨rfl,PySem.W.mg_of X G (by tm_at"k")⟩ (.cons ⟨rfl,PySem.W.mg_of X G (by tm_at"k")⟩ (.cons ⟨rfl,PySem.W.mg_of X G (by tm_at"k")⟩ (.cons ⟨rfl,PySem.W.mg_of X G (by tm_at"k")⟩ (.cons ⟨rfl,PySem.W.mg_of X G (by tm_at"k")⟩ (.cons ⟨rfl,PySem.W.mg_of X G (by tm_at"k")⟩ (.cons ⟨rfl,PySem.W.mg_of X G (by tm_at"k")⟩ (.cons ⟨rfl,PySem.W.mg_of X G (by tm_at"k")⟩ (.cons ⟨rfl,PySem.W.mg_of X G (by tm_at"k")⟩ (.cons ⟨rfl,PySem.W.mg_of X G (by tm_at"k")⟩ (.cons ⟨rfl,PySem.W.mg_of X G (by tm_at"k")⟩ (.cons ⟨rfl,PySem.W.mg_of X G (by tm_at"k")⟩ (.cons ⟨rfl,PySem.W.mg_of X G (by tm_at"k")⟩ (.cons ⟨rfl,PySem.W.mg_of X G (by tm_at"k")⟩ (.cons ⟨rfl,PySem.W.mg_of X G (by tm_at"k")⟩ (.cons ⟨rfl,PySem.W.mg_of X G (by tm_at"k")⟩ (.cons ⟨rfl,PySem.W.mg_of X G (by tm_at"k")⟩ (.cons ⟨rfl,PySem.W.mg_of X G (by tm_at"k")⟩ (.cons ⟨rfl,PySem.W.mg_of X G (by tm_at"k")⟩ .nil)))))))))))))))))))))),
    Xq:=PySem.W.mg_none_of X G (by tm_at"k"),
    O9:=PySem.W.mg_none_of X G (by tm_at"k"),
    Bv0:=PySem.W.mg_none_of X G (by tm_at"k"),
    Bv1:=PySem.W.mg_none_of X G (by tm_at"k"),
    Au6:=PySem.W.mg_none_of X G (by tm_at"k"),
    As0:=PySem.W.mg_none_of X G (by tm_at"k"),
    Cas:=PySem.W.mg_none_of X G (by tm_at"k"),
    Au7:=PySem.W.mg_none_of X G (by tm_at"k"),
    Bv2:=PySem.W.mg_none_of X G (by tm_at"k")} hmg
 case zS=>
  intro K H xs a h1 h2 hwi Ceq hx
  cases hx with
  |cons g1 g2=>
   cases g2
   cases g1 with
   |lst hs ha=>
    have e:=L2.Brw a.1 _ ha
    subst e
    exact RT.Ccr hs Ceq h1 h2 (by decide)
end
