import PyProof.Rows.All
import Wide.All
import OpenK.AllK
import Wide.FinOn
import Lean
import PyProof.EqAt
import PyProof.EqKinds
import PyProof.TupleCall
import PySem.Challenge.RW_pagenames_k35_whole_rows_by_other_names
set_option Elab.async false
set_option linter.all false
set_option maxRecDepth 100000
open List renaming length_map->AA,mem_map->AD,map_map->AE,mem_singleton->AF,getElem?_eq_getElem->AG,mem_cons_self->AJ,mem_cons_of_mem->AL,size_toArray->AO,mem_cons->AQ,map_cons->AR,getElem?_map->AS,getD_eq_getElem?_getD->AT,mem_append_right->AU,length_append->AW,map_append->AX,mem_append->AY,pairwise_map->Aa,length_cons->Ac,map_congr_left->Ah,length_singleton->Ai,mem_filter->Ao,length_filter_le->Ap,range->Av,nodup_append->Aw,length_take->Ax,length->Ay,mem_of_getElem?->Az,append_nil->A5,lookup_cons->A7,mem_append_left->BD,take_add_one->BG,take_of_length_le->BH,getElem_mem->BJ,length_pos_iff->BN,getElem?_eq_none->BO,nodup_cons->BT,getElem?_eq_some_iff->BW,append_assoc->BX,nodup_nil->BZ,mem_range->Ba,filter_map->Bb,take_length->Bd,length_nil->Bj,getElem?_zip_eq_some->Bk,length_drop->Bl,take_zero->Bp,length_zip->Bs,find?_cons->Bt,filter_eq_self->Bx,pairwise_cons->Bz,getElem?_append_right->B0,mem_iff_getElem->B3,filter_sublist->B6,map_snd_zip->B7,map_drop->CD,map_id'->CJ,getElem?_append_left->CP,map_take->CU,forIn_cons->CV,zip_cons_cons->Ca,filter_append->Cb,zip_nil_left->Cj,replicate->Ck,filter_congr->Cm,ext_getElem?->Cn,mem_iff_getElem?->Cq,cons_append->Ct,any_eq_true->Cu,mem_of_mem_take->Cz,mem_of_mem_drop->C3,idxOf_cons->C5,map_eq_nil_iff->C7,idxOf_lt_length_of_mem->C9,drop_eq_getElem_cons->DD,any_cons->DH,map_fst_zip->DL,getElem?_replicate->DM,range_succ_eq_map->DU,length_pos_of_mem->DV,drop_of_length_le->DW,length_replicate->Dc,not_lt->Dh,forIn_nil->Di,getElem?_range->Dl,filterMap_cons->Dm,map->Ds,any_map->Dt,map_id->D4,lookup->D6,eq_nil_of_length_eq_zero->D7,of_mem_zip->D9,pairwise_iff_getElem->ET,getElem?_eq_none_iff->EU,length_erase_of_mem->EW,pairwise_singleton->EX,length_eq_zero_iff->EY,not_of_lt_findIdx->Ea,getElem?_set_self->Eb,filter_eq_nil_iff->Ec,mem_erase_of_ne->Eg,getElem?_set_ne->Eh,dropLast_concat->Ei,getD_cons_succ->Ek,zip_nil_right->Ep,mem_filterMap->Er,length_range->Ev
open PySem.W renaming Frag->AB,nsIn->AZ,keepIn->Ad,mg_of->Ae,codeIn->Ak,fnOf->Al,mg_none_of->A3,excIn->Dg,methodObj->Do,kdx_alive->Dp,cellsFrom_some->EQ,kdl_extend->Ed,callWith_K->Ee,kas_asc->Fd,kas_desc->Fg,kas_rev->Ft,kas_sort->GD,kas_count->GF,kas_place->GG,kas_descPart->GW,kas_tail3->Gm,kas_bin->Gu
open PySem.Heap renaming get?_push_of_some->AC,lt_size->AI,get?_push_size->AN,get?_update_other->Ar,get?_none_of_le->BA,size_push->BE,get?_update_self->BP,size_after_update->DX
open Sum renaming inr->AH,inl->Dv
open Nat renaming le_refl->AK,ne_of_lt->AV,lt_of_lt_of_le->Af,zero_le->Aq,le_trans->As,ne_of_gt->A4,lt_irrefl->BM,lt_succ_self->Bm,lt_trans->B4,le_succ->CI,le_of_lt->CN,le_add_right->CO,le_of_not_lt->DQ,add_assoc->Dr,lt_succ_of_lt->Dx,add_le_add_left->Eo,not_lt->Et,lt_of_le_of_lt->Eu
open Bool renaming false_ne_true->AM,false_eq_true->Am,and_eq_true->BK,eq_iff_iff->B1,not_true->Cw
open PySem.Value renaming ref->Ab,none->At,type->BQ,bool->Bc,builtin->CB,str->Df,int->Es
open Or renaming inl->Ag,inr->Db
open Option.some renaming inj->Aj
open PySem.Around renaming under_plainId->An
open Array renaming length_toList->Au,getElem?_toList->A8,getElem?_eq_some_iff->BR,getElem?_eq_getElem->BV,forIn_toList->CZ,getElem?_eq_none->Ci,getD->DS,toList_inj->Dy,getD_eq_getD_getElem?->EB,size_extract->Em,toList_map->Ex
open PySem.Str renaming ofString->A2,empty->B2
open PySem.F renaming excBase_ValueError->A6,plain_max_loop->Bf,plainAttrs_list->Bo,slot_dict_itemiterator_next->Br,slot_dict_keyiterator_next->By,plain_min_loop->B9,type_list_append->CL,slot_list_append->CM,slot_list_index->CS,plain_list_iadd->CT,plain_extend_loop->CW,kt_typeCall_dict_1->C8,slot_zip_next->DA,plainAttrs_dict->DF,args_dict_init_2->DG,entry_max_loop->DJ,slot_tuple_getattribute->DK,slot_tuple_hash->DN,entry_dict_init->DO,slot_dict_get->DP,slot_list_getattribute->DR,slot_zip_getattribute->DZ,kt_called_dict->Da,slot_tuple_eq->Dj,plain_proto_collect->Dz,entry_proto_collect->D1,args_list_index_2->D8,args_dict_itemiterator_next_1->EA,entry_list_index->EC,args_tuple_add_2->ED,entry_min_loop->EE,entry_dict_itemiterator_next->EF,args_dict_keyiterator_next_1->EG,type_list_index->EH,type_dict_items->EI,slot_dict_items->EJ,entry_tuple_add->EK,entry_list_iadd->EL,args_dict_get_3->EM,entry_dict_keyiterator_next->EO,slot_tuple_add->ER,entry_dict_get->ES,slot_tuple_iterator_next->EZ,slot_dict_items_iter->El
open Ne renaming symm->A9
open PySem.NameKind renaming free->BB,cell->Bw
open List.cons renaming injEq->BC
open PySem.Obj renaming mapSeq->BF,mapFields->CF,data_mapFields->Cc,isFreed_of_fields->Cs,cls_mapFields->Dw
open PySem.Builtin.Dict renaming updateFrom->BI,selfAndRest->CG,addKeywords->CH,pairItems->CQ,showsAll->CY
open PyProof.Rows renaming slot_tuple_getitem->BL,callWith_type1->BY,get?_update_seq->GX
open PySem.Heap.SameBut renaming update->BS,refl->C4
open List.Pairwise renaming imp_of_mem->BU,nil->DY
open PySem.Builtin.Tuple renaming tupleHashOf->Be,tupleExact->Bh,tupleItemsOf->Cr
open False renaming elim->Bg
open PySem.Builtin.Dict_items renaming ownsTuple->Bi,ownedTupleIsFree->DB,ownedTupleFields->DC,pairFromOwner->DI
open PySem.Builtin.List renaming listExtendWith->Bq,listTooLong->C6,listSameRef->Du
open Int renaming toNat_natCast->Bu,emod_lt_of_pos->Ew
open PySem renaming mem_of_lookup->Bv,boot_len->Ce,evalArgs_none->Ef,call->Ej,wpAny_bind->Ey,Addr->Ez,Value->E2,Str->E3,Shared->E4,wpAny_pure->E5,wpAny->E6,Program->E7,mainGlobals->E8,Heap->E9,World->FA,Around->FC,Expr->FD,wpAny_mono->FE,Obj->FF,starEach->FG,wpAny_newObj_type->FH,codeAny_builtin->FI,FuncData->FJ,wpAny_holding->FK,wpAny_field->FM,plainId_quiet->FN,rawInt->FO,sizeLine_eq->FP,wpAny_call_entry->FQ,wpAny_seqItems->FR,Stmt->FS,wpAny_setField_rec->FT,wpAny_tryCatch->FU,tupleKind->FV,wpAny_callSpecial?_slot->FW,sysModules->FX,pyNext->FY,DictEntry->FZ,wpAny_truthy_bool->Fa,wpAny_typeOf->Fb,wpAny_Call_Name_kw->Fc,wpAny_rule->Fe,bootBuiltins->Ff,compareOp->Fh,wpAny_updateSeq->Fi,codeAny->Fj,wpAny_notOrdered_dict->Fk,wpAny_letGo->Fl,wpAny_typeNameOfWhole_itemiter->Fm,wpAny_pyIter_list->Fo,wpAny_typeNameOfWhole_keyiter->Fp,getattributeRaised->Fq,wpAny_passesOwn->Fs,wpAny_dictEntries->Fu,wpAny_typeNameOf_itemiter->Fv,wpAny_setField->Fw,codeAny_mono->Fx,wpAny_typeNameOf_keyiter->Fy,wpAny_isInstance->Fz,Scope->F0,wpAny_pyIter_tuple->GA,tupleKind_room_in1->GB,wpAny_dictEpoch->GC,builtinLookup_eq_fast->GE,wpAny_forIn_list->GH,wpAny_attempt->GI,wpAny_execs_nil->GJ,wpAny_specialOf->GK,wpAny_load->GL,call_meets->GM,wpAny_pyNext_tuple_item->GN,wpAny_pyNext_tuple_end->GO,codeAny_compStart_list->GP,wpAny_isOneOf_itemiter->GQ,NameKind->GR,kt_code_dict_new->GS,wpAny_formatField_str->GT,isSubtype_tuple_tuple->GU,wpAny_newFunctionEnv->GV,typeLookup_type->GY,wpAny_dictSet_pairs->GZ,wpAny_newTuple->Ga,wpAny_fieldsOf->Gb,sub_AttributeError->Gc,wpAny_tupleItemsOf->Gd,wpAny_standAt->Ge,wpAny_pyIter_slot->Gf,wpAny_FormattedValue_repr->Gg,wpAny_execs_cons->Gh,wpAny_comprehension_free->Gi,wpAny_Call_method0_late->Gj,wpAny_nextOf_ascii_item->Gk,wpAny_pyNext_list_item->Gn,wpAny_Assign_Subscript->Go,wpAny_of_eq->Gp,wpAny_nextOf_ascii_end->Gq,wpAny_isTrue_Compare1->Gr,wpAny_pyNext_list_end->Gs,wpAny_runValue->Gv,wpAny_isOneOf_keyiter->Gw,isSubtype_stop->Gx,wpAny_updateSeq_pair->Gy,wpAny_newList->Gz,wpAny_onRaise->G1
open PySem.Builtin.Builtins renaming bindParams->B5
open Array.Perm renaming refl->B8
open PySem.Calls renaming spliced_cons->CA,spliced_nil->Cf,callWith_builtin->Cg,evalArgs_plain->De
open PySem.Builtin.Slice renaming slicePlaces->CC,sliceAdjust->Cv,sliceApplied->Dq
open ForInStep renaming yield->CK
open Option renaming isSome_map->Cd,map_some->Cy,isNone_some->Dk,isSome_iff_exists->EN,map_eq_some_iff->EV,getD_none->En
open Sum.inr renaming inj->Cp
open PySem.Heap.DictOf renaming new->DE
open True renaming intro->DT
open PySem.Heap.IsTuple renaming push->Dd
namespace L2
open PySem PySem.Spec PyProof.Rows
abbrev Key:=Sum Int E3
def ZG5:Key->E2->Bool
 | .inl k,v=>Value.isInt k v
 | .inr x,v=>Value.isStrOf x v
def keyH (w:FA):Key->Int
 | .inl k=>hashInt k
 | .inr x=>hashStr w x
theorem ZAh:∀{k:Key} {v:E2},ZG5 k v=true->(∃i t,k=Dv i/\v=Es i t)\/(∃x t,k=AH x/\v=Df x t)
 | .inl i,v,h=>by
  obtain⟨t,e⟩:=Value.isInt_shape (k:=i) (v:=v) h
  exact .inl ⟨i,t,rfl,e⟩
 | .inr x,v,h=>by
  obtain⟨t,e⟩:=Value.isStrOf_shape (x:=x) (v:=v) h
  exact .inr ⟨x,t,rfl,e⟩
theorem ZLP (i:Int)(t:Tok):ZG5 (.inl i) (.int i t)=true:=by simp[ZG5,Value.isInt]
theorem ZLO (x:E3)(t:Tok):ZG5 (.inr x) (.str x t)=true:=by simp[ZG5,Value.isStrOf]
theorem key_ll (a b:Int):decide ((Dv a:Key)=Dv b)=(a==b):=by
 by_cases e:a=b
 ·subst e;simp
 ·have h:¬(Dv a:Key)=Dv b:=λq=>e (Sum.inl.inj q)
  rw[decide_eq_false h]
  exact(beq_eq_false_iff_ne.mpr e).symm
theorem ZNf (a b:E3):decide ((AH a:Key)=AH b)=decide (a=b):=by
 by_cases e:a=b
 ·subst e;simp
 ·have h:¬(AH a:Key)=AH b:=λq=>e (Cp q)
  rw[decide_eq_false h,decide_eq_false e]
theorem key_lr (a:Int)(b:E3):decide ((Dv a:Key)=AH b)=false:=decide_eq_false (λq=>nomatch q)
theorem key_rl (a:E3)(b:Int):decide ((AH a:Key)=Dv b)=false:=decide_eq_false (λq=>nomatch q)
def ZAU (prog:E7)(w:FA):PySem.KeyKind prog w Key where
 is:=ZG5
 hash:=keyH w
 inj:=λv a b ha hb=>by
  rcases ZAh ha with⟨i,t,rfl,rfl⟩|⟨x,t,rfl,rfl⟩
  ·rcases ZAh hb with⟨j,u,rfl,e⟩|⟨y,u,rfl,e⟩
   ·injection e with e1 _;rw[e1]
   ·exact nomatch e
  ·rcases ZAh hb with⟨j,u,rfl,e⟩|⟨y,u,rfl,e⟩
   ·exact nomatch e
   ·injection e with e1 _;rw[e1]
 byValue:=λk v h=>by
  rcases ZAh h with⟨i,t,rfl,rfl⟩|⟨x,t,rfl,rfl⟩<;>rfl
 pyHash:=λhv h=>by
  rcases ZAh hv with⟨i,t,rfl,rfl⟩|⟨x,t,rfl,rfl⟩
  ·exact wpAny_pyHash_int h
  ·exact wpAny_pyHash_str h
 eqBool:=λhu hv h=>by
  rcases ZAh hu with⟨i,t,rfl,rfl⟩|⟨x,t,rfl,rfl⟩
  ·rcases ZAh hv with⟨j,u,rfl,rfl⟩|⟨y,u,rfl,rfl⟩
   ·rw[key_ll] at h;exact wpAny_eqBool_int h
   ·rw[key_lr] at h;exact SeqAt.EqAt.int_str i t y u _ _ _ _ h
  ·rcases ZAh hv with⟨j,u,rfl,rfl⟩|⟨y,u,rfl,rfl⟩
   ·rw[key_rl] at h;exact SeqAt.EqAt.str_int x t j u _ _ _ _ h
   ·rw[ZNf] at h;exact wpAny_eqBool_str h
 «strs»:=λk x t v h=>by
  rcases ZAh h with⟨i,u,rfl,e⟩|⟨y,u,rfl,e⟩
  ·exact nomatch e
  ·injection e with e1 _
   subst e1
   cases v<;>rfl
theorem ZH9 (prog:E7)(w:FA)(i:Int)(t:Tok):(ZAU prog w).is (.inl i) (.int i t)=true:=ZLP i t
theorem ZEZ (prog:E7)(w:FA)(x:E3)(t:Tok):(ZAU prog w).is (.inr x) (.str x t)=true:=ZLO x t
inductive V where
 |non|bl (b:Bool)|int (i:Int)|str (x:E3)|byt (b:Array UInt8)|flt (b:UInt64)|ref (a:Ez)|ty (n:String)
 deriving DecidableEq
def RelV:V->E2->Prop
 | .non,u=>u=At
 | .bl b,u=>u=Bc b
 | .int i,u=>∃t,u=Es i t
 | .str x,u=>∃t,u=Df x t
 | .byt b,u=>∃t,u=Value.bytes b t
 | .flt b,u=>∃t,u=Value.float b t
 | .ref a,u=>u=Ab a
 | .ty n,u=>u=BQ n
abbrev Vals:List V->List E2->Prop:=Paired RelV
theorem Vals.length {xs:List V}{us:List E2}(r:Vals xs us):xs.length=us.length:=Paired.length r
theorem Vals.get:∀{xs:List V} {us:List E2} {i:Nat} {x:V},Vals xs us->xs[i]?=some x->∃u,us[i]?=some u/\RelV x u
 |_,_,_,_,.nil,e=>by simp at e
 |_,_,0,_,.cons r _,e=>by simp at e;subst e;exact⟨_,rfl,r⟩
 |_,_,i+1,x,.cons _ t,e=>by
  obtain⟨u,h1,h2⟩:=Vals.get (i:=i) (x:=x) t (by simpa using e)
  exact⟨u,by simpa using h1,h2⟩
theorem Vals.append:∀{xs ys:List V} {us ws:List E2},Vals xs us->Vals ys ws->Vals (xs++ys) (us++ws)
 |_,_,_,_,.nil,s=>s
 |_,_,_,_,.cons r t,s=> .cons r (Vals.append t s)
theorem Vals.take:∀{xs:List V} {us:List E2} (n:Nat),Vals xs us->Vals (xs.take n) (us.take n)
 |_,_,0,_=> .nil
 |_,_,_+1,.nil=> .nil
 |_,_,n+1,.cons r t=> .cons r (Vals.take n t)
theorem Vals.drop:∀{xs:List V} {us:List E2} (n:Nat),Vals xs us->Vals (xs.drop n) (us.drop n)
 |_,_,0,r=>r
 |_,_,_+1,.nil=> .nil
 |_,_,n+1,.cons _ t=>Vals.drop n t
def RelO:Option V->Option E2->Prop
 |some v,some u=>RelV v u
 |none,none=>True
 |_,_=>False
def KV {κ:Type}:List (κ×V)->List (κ×E2)->Prop:=Paired λ(p:κ×V) (q:κ×E2)=>p.1=q.1/\RelV p.2 q.2
def kV:Key->V
 | .inl i=> .int i
 | .inr x=> .str x
inductive HO where
 /--a list-/
 |lst (xs:List V)
 /--a tuple (never changes)-/
 |tup (xs:List V)
 /--a dict whose keys are ints and texts;one whose keys are tuples of ints and texts (the empty one is both)-/
 |dK (kvs:List (Key×V))|dT (kvs:List (List Key×V))
 /--a set of ints:its members,its size-/
 |set (S:Int->Bool) (n:Nat)
 /--an instance of the class at C,its dict at dx,its attributes-/
 |ins (C dx:Ez) (fs:List (E3×V))
 /--the dict of the instance at x-/
 |own (x:Ez)
 /--the dict of an exception-/
 |xd (fs:List (E3×V))
 /--a bound method,f of x-/
 |met (f x:Ez)
 /--a range object lo,lo+1,.. below hi-/
 |rng (lo hi:Int)
 /--a thing that is known to the object (the script;a dict while a loop walks it):read,never written while it is so-/
 |frz (o:FF) (u:HO)
 /--a code object's table-/
 |tbl (ps:Array E2)
 /--any other thing,by what is true of its one object (a def of one's own:SetO a S n:=HO.ext λh=> ..)-/
 |ext (φ:E9->Prop)
def ZDv (h:E9)(a:Ez)(items:Array E2):Prop:=IsTup h a items/\∃o,h.get? a=some o/\o.dict=none
theorem ZDv.new (h:E9)(xs:Array E2):ZDv (h.push {cls:= .type "tuple",data:= .seq xs}) h.objs.size xs:=⟨IsTup.new h xs,_,AN _ rfl,rfl⟩
abbrev Hp:=Ez->Option HO
def upd (H:Hp)(a:Ez)(o:HO):Hp:=λb=>if b=a then some o else H b
theorem ZAB {H:Hp}{a:Ez}{o:HO}:upd H a o a=some o:=by unfold upd;rw[if_pos rfl]
theorem ZAN {H:Hp}{a b:Ez}{o:HO}(h:b≠a):upd H a o b=H b:=by unfold upd;rw[if_neg h]
theorem ne_of {H:Hp}{a b:Ez}{o u:HO}(h:H a=some o)(h':H b=some u)(d:o≠u):a≠b:=by
 intro e;subst e;rw[h] at h';exact d (Aj h')
theorem ZAJ {H:Hp}{a b:Ez}{o:HO}(h:H a=some o)(h':H b=none):a≠b:=by
 intro e;subst e;rw[h] at h';cases h'
section
variable (P:E7)(w:FA)
def ZBA (H:Hp)(h:E9)(a:Ez):HO->Prop
 | .lst xs=>xs.length<=sizeLine/\∃(its:List E2) (n:Nat),Vals xs its/\h.get? a=some {cls:= .type "list",data:= .seq its.toArray n}
 | .tup xs=>xs.length<=sizeLine/\∃its:List E2,Vals xs its/\ZDv h a its.toArray
 | .dK kvs=>kvs.length<=sizeLine/\(a==FX)=false/\∃vs,KV kvs vs/\h.DictOf (ZAU P w) a vs
 | .dT kvs=>kvs.length<=sizeLine/\(a==FX)=false/\∃xs:List (List Key×Ez×E2),
   Paired (λ(p:List Key×V) (q:List Key×Ez×E2)=>p.1=q.1/\H q.2.1=some (.tup (p.1.map kV))/\RelV p.2 q.2.2) kvs xs/\
   ∃o es ep,h.get? a=some o/\o.ExactDict/\o.data= .dict es ep/\es.toList=xs.map (entryOfKey (FV (ZAU P w)))/\(xs.map (·.1)).Nodup
 | .set S n=>h.SetOf (intKind P w) a S n
 | .ins C dx fs=>H dx=some (.own a)/\fs.length<=1000/\dx≠a/\h.get? a=some (PySem.W.instObj C dx)/\
   ∃mA,h.Ns1 dx mA/\(∀f,RelO (fs.lookup f) (mA f))/\PySem.Within mA (fs.map (·.1))
 | .own _=>∃o,h.get? a=some o
 | .xd fs=>∃mA,h.Ns1 a mA/\∀f,RelO (fs.lookup f) (mA f)
 | .rng lo hi=>∃t u v,h.get? a=some {cls:= .type "range",data:= .fields #[.int lo t,.int hi u,.int 1 v]}
 | .frz o u=>h.get? a=some o/\ZBA H h a u
 | .tbl ps=>h.get? a=some {cls:= .none,data:= .fields ps}
 | .met f x=>h.get? a=some (Do (.ref f) (.ref x))
 | .ext φ=>φ h/\(∃o,h.get? a=some o)/\∀h1 h2:E9,φ h1->(∀o,h1.get? a=some o->h2.get? a=some o)->φ h2
def HOk (H:Hp)(h:E9):Prop:=∀a o,H a=some o->ZBA P w H h a o
end
section
variable {P:E7}{w:FA}{H H':Hp}{h h':E9}{a:Ez}{o:HO}
theorem ZBA.lt (x:ZBA P w H h a o):a<h.objs.size:=by
 cases o with
 |lst xs=>obtain⟨_,_,_,_,e⟩:=x;exact AI e
 |tup xs=>obtain⟨_,_,_,p,_⟩:=x;exact p.lt
 |dK kvs=>obtain⟨_,_,_,_,o,_,_,e,_⟩:=x;exact AI e
 |dT kvs=>obtain⟨_,_,_,_,o,_,_,e,_⟩:=x;exact AI e
 |set S n=>obtain⟨o,_,_,_,e,_⟩:=x;exact AI e
 |ins C dx fs=>obtain⟨_,_,_,e,_⟩:=x;exact AI e
 |own y=>obtain⟨_,e⟩:=x;exact AI e
 |xd fs=>obtain⟨_,⟨_,_,_,e,_⟩,_⟩:=x;exact AI e
 |rng lo hi=>obtain⟨_,_,_,e⟩:=x;exact AI e
 |frz ob u=>obtain⟨e,_⟩:=x;exact AI e
 |tbl ps=>exact AI (show h.get? a=some _ from x)
 |met f y=>exact AI (show h.get? a=some _ from x)
 |ext φ=>obtain⟨_,⟨_,e⟩,_⟩:=x;exact AI e
theorem Paired.mapP {α β:Type}{F G:α->β->Prop}:∀{l₁:List α} {l₂:List β},Paired F l₁ l₂->(∀a b,F a b->G a b)->Paired G l₁ l₂
 |_,_,.nil,_=> .nil
 |_,_,.cons r t,f=> .cons (f _ _ r) (Paired.mapP t f)
theorem ZBA.stay (x:ZBA P w H h a o)(k:∀b u,(b=a\/H b=some (.own a))->h.get? b=some u->h'.get? b=some u)
  (ho:∀b,H b=some (.own a)->H' b=some (.own a)) (ht:∀b xs,H b=some (.tup xs)->H' b=some (.tup xs)):ZBA P w H' h' a o:=by
 induction o with
 |lst xs=>obtain⟨z,its,n,r,e⟩:=x;exact⟨z,its,n,r,k _ _ (.inl rfl) e⟩
 |tup xs=>obtain⟨z,its,r,⟨ob,e,c⟩,od,e',c'⟩:=x;exact⟨z,its,r,⟨ob,k _ _ (.inl rfl) e,c⟩,od,k _ _ (.inl rfl) e',c'⟩
 |dK kvs=>obtain⟨z,y,vs,r,ob,es,ep,e,c⟩:=x;exact⟨z,y,vs,r,ob,es,ep,k _ _ (.inl rfl) e,c⟩
 |dT kvs=>
  obtain⟨z,y,xs,r,ob,es,ep,e,c⟩:=x
  exact⟨z,y,xs,Paired.mapP r λp q z=>⟨z.1,ht _ _ z.2.1,z.2.2⟩,ob,es,ep,k _ _ (.inl rfl) e,c⟩
 |set S n=>obtain⟨ob,es,ep,t,e,c⟩:=x;exact⟨ob,es,ep,t,k _ _ (.inl rfl) e,c⟩
 |ins C dx fs=>
  obtain⟨d,z,ne,e,mA,⟨od,es,ep,e2,c⟩,r⟩:=x
  exact⟨ho _ d,z,ne,k _ _ (.inl rfl) e,mA,⟨od,es,ep,k _ _ (.inr d) e2,c⟩,r⟩
 |own y=>obtain⟨ob,e⟩:=x;exact⟨ob,k _ _ (.inl rfl) e⟩
 |xd fs=>obtain⟨mA,⟨od,es,ep,e,c⟩,r⟩:=x;exact⟨mA,⟨od,es,ep,k _ _ (.inl rfl) e,c⟩,r⟩
 |rng lo hi=>obtain⟨t,u,v,e⟩:=x;exact⟨t,u,v,k _ _ (.inl rfl) e⟩
 |frz ob u ih=>obtain⟨e,q⟩:=x;exact⟨k _ _ (.inl rfl) e,ih q⟩
 |tbl ps=>
  have e:h.get? a=some {cls:= .none,data:= .fields ps}:=x
  show h'.get? a=some {cls:= .none,data:= .fields ps}
  exact k a _ (.inl rfl) e
 |met f y=>
  have e:h.get? a=some (Do (.ref f) (.ref y)):=x
  show h'.get? a=some (Do (.ref f) (.ref y))
  exact k a _ (.inl rfl) e
 |ext φ=>obtain⟨p,⟨o,e⟩,st⟩:=x;exact⟨st _ _ p λo q=>k _ _ (.inl rfl) q,⟨o,k _ _ (.inl rfl) e⟩,st⟩
theorem HOk.lt (x:HOk P w H h)(e:H a=some o):a<h.objs.size:=(x a o e).lt
theorem HOk.fresh (x:HOk P w H h)(e:h.objs.size<=a):H a=none:=by
 cases q:H a with
 |none=>rfl
 |some u=>exact absurd (Af (x.lt q) e) (BM _)
theorem HOk.kept (x:HOk P w H h)(k:∀b u,h.get? b=some u->h'.get? b=some u):HOk P w H h':=λa o e=>
 (x a o e).stay (λb u _ q=>k b u q) (λ_ q=>q) λ_ _ q=>q
theorem HOk.laid (x:HOk P w H h)(k:∀b u,h.get? b=some u->h'.get? b=some u)(hp:h.objs.size<=a)(new:ZBA P w (upd H a o) h' a o):HOk P w (upd H a o) h':=λb u e=>by
 have hn:=x.fresh hp
 by_cases hb:b=a
 ·subst hb;rw[ZAB] at e;cases e;exact new
 ·rw[ZAN hb] at e
  exact(x b u e).stay (λc v _ q=>k c v q) (λc q=>by rw[ZAN (ZAJ q hn)];exact q) λc xs q=>by rw[ZAN (ZAJ q hn)];exact q
end
def Rd (H:Hp)(a:Ez)(u:HO):Prop:=H a=some u\/∃o,H a=some (.frz o u)
theorem Rd.ok {P:E7}{w:FA}{H:Hp}{h:E9}{a:Ez}{u:HO}(r:Rd H a u)(x:HOk P w H h):ZBA P w H h a u:=by
 rcases r with r|⟨o,r⟩
 ·exact x a u r
 ·obtain⟨_,q⟩:=x a _ r
  exact q
def Mut:Option HO->Prop
 |some (.lst _)=>True
 |some (.dK _)=>True
 |some (.dT _)=>True
 |some (.set _ _)=>True
 |some (.ins _ _ _)=>True
 |some (.ext _)=>True
 |_=>False
section
variable {P:E7}{w:FA}{H:Hp}{h h':E9}{x e:Ez}{o':HO}
theorem HOk.write (ok:HOk P w H h)(mu:Mut (H x))(he:e=x\/H e=some (.own x))(k:∀b u,b≠e->h.get? b=some u->h'.get? b=some u)(heo:∃u,h'.get? e=some u)
  (new:ZBA P w (upd H x o') h' x o'):HOk P w (upd H x o') h':=λb u q=>by
 have nown:∀c y,H c=some (.own y)->c≠x:=λc y r z=>by subst z;rw[r] at mu;exact mu
 have ntup:∀c xs,H c=some (.tup xs)->c≠x:=λc xs r z=>by subst z;rw[r] at mu;exact mu
 by_cases hb:b=x
 ·subst hb;rw[ZAB] at q;cases q;exact new
 ·rw[ZAN hb] at q
  by_cases hbe:b=e
  ·have q':H b=some (.own x):=by
    rcases he with z|z
    ·exact absurd (hbe.trans z) hb
    ·rw[hbe];exact z
   rw[q] at q';cases q'
   obtain⟨v,hv⟩:=heo
   exact⟨v,by rw[hbe];exact hv⟩
  ·refine(ok b u q).stay (λc v hc r=>k c v ?_ r) (λc r=>by rw[ZAN (nown c b r)];exact r) λc xs r=>by rw[ZAN (ntup c xs r)];exact r
   rcases hc with rfl|hc
   ·exact hbe
   ·rintro rfl
    rcases he with z|z
    ·exact nown c b hc z
    ·rw[hc] at z;cases z;exact hb rfl
end
structure Un (fs ex:List Ez)(H H':Hp)(h h':E9):Prop where
 keep:∀b o,h.get? b=some o->H b=none->b∉fs->b∉ex->h'.get? b=some o
 slot:∀b o,h.get? b=some o->H b=none->b∈fs->b∉ex->∃sl,h'.get? b=some {o with slots:=sl}
 free:∀b o,h.get? b=some o->H b=none->b∉ex->H' b=none
 there:∀b o,h.get? b=some o->b∉ex->∃o',h'.get? b=some o'
 tups:∀b xs,H b=some (.tup xs)->H' b=some (.tup xs)
 frzs:∀b o u,H b=some (.frz o u)->H' b=some (.frz o u)
 tbls:∀b ps,H b=some (.tbl ps)->∃more,H' b=some (.tbl (ps++more))
section
variable {fs fs' ex ex':List Ez}{H H1 H2:Hp}{h h1 h2 h':E9}{a x e:Ez}{o:HO}
theorem Un.any (u:Un fs ex H H1 h h1){b:Ez}{ob:FF}(q:h.get? b=some ob)(n:H b=none)(hx:b∉ex):∃sl,h1.get? b=some {ob with slots:=sl}:=by
 by_cases hb:b∈fs
 ·exact u.slot b ob q n hb hx
 ·exact⟨ob.slots,u.keep b ob q n hb hx⟩
theorem Un.kept (k:∀b u,h.get? b=some u->h'.get? b=some u):Un fs ex H H h h':=
 ⟨λb ob q _ _ _=>k b ob q,λb ob q _ _ _=>⟨ob.slots,k b ob q⟩,λ_ _ _ n _=>n,λb ob q _=>⟨ob,k b ob q⟩,λ_ _ q=>q,λ_ _ _ q=>q,λ_ ps q=>⟨#[],by rw[q];simp⟩⟩
theorem Un.refl:Un fs ex H H h h:=Un.kept λ_ _ q=>q
theorem Un.laid (k:∀b u,h.get? b=some u->h'.get? b=some u)(hp:h.objs.size<=a)(hn:H a=none):Un fs ex H (upd H a o) h h' where
 keep:=λb u q _ _ _=>k b u q
 slot:=λb u q _ _ _=>⟨u.slots,k b u q⟩
 free:=λb u q n _=>by rw[ZAN (AV (Af (AI q) hp))];exact n
 there:=λb u q _=>⟨u,k b u q⟩
 tups:=λb xs q=>by rw[ZAN (ZAJ q hn)];exact q
 frzs:=λb u xs q=>by rw[ZAN (ZAJ q hn)];exact q
 tbls:=λb ps q=>⟨#[],by rw[ZAN (ZAJ q hn),q];simp⟩
theorem Un.write (mu:Mut (H x))(he:e=x\/H e=some (.own x))(k:∀b u,b≠e->h.get? b=some u->h'.get? b=some u)(heo:∃u,h'.get? e=some u):Un fs ex H (upd H x o) h h':=by
 have hx:∀b,H b=none->b≠x:=λb n z=>by subst z;rw[n] at mu;exact mu
 have hb:∀b,H b=none->b≠e:=λb n z=>by
  subst z
  rcases he with r|r
  ·exact hx b n r
  ·rw[n] at r;cases r
 have hm:∀b u,H b=some u->¬Mut (some u)->b≠x:=λb u q nm z=>by subst z;rw[q] at mu;exact nm mu
 refine⟨λb u q n _ _=>k b u (hb b n) q,λb u q n _ _=>⟨u.slots,k b u (hb b n) q⟩,λb u q n _=>by rw[ZAN (hx b n)];exact n,λb u q _=>?_,
  λb xs q=>by rw[ZAN (hm b _ q λz=>z)];exact q,λb u xs q=>by rw[ZAN (hm b _ q λz=>z)];exact q,λb ps q=>⟨#[],by rw[ZAN (hm b _ q λz=>z),q];simp⟩⟩
 by_cases hbe:b=e
 ·subst hbe;exact heo
 ·exact⟨u,k b u hbe q⟩
end
def trk (h:E9)(H:Hp):List Ez:=(Av h.objs.size).filter λa=>(H a).isSome
def hidT (h:E9)(H:Hp):E9:=PySem.W.hideAll h (trk h H)
theorem ZLS (h:E9)(H:Hp):(hidT h H).objs.size=h.objs.size:=PySem.W.hideAll_size _ _
theorem ZM4 {h:E9}{H:Hp}{b:Ez}{o:FF}(e:h.get? b=some o)(n:H b=none):(hidT h H).get? b=some o:=
 PySem.W.hideAll_get _ e λhm=>by
  have q:(H b).isSome=true:=(Ao.mp hm).2
  rw[n] at q;simp at q
theorem ZOl {h:E9}{H:Hp}{b:Ez}{o:FF}(e:(hidT h H).get? b=some o):h.get? b=some o/\H b=none:=by
 have e':h.get? b=some o:=PySem.W.of_hideAll (trk h H) e
 refine⟨e',?_⟩
 cases q:H b with
 |none=>rfl
 |some x=>
  have hm:b∈trk h H:=Ao.mpr ⟨Ba.mpr (AI e'),by simp[q]⟩
  have z:(hidT h H).get? b=none:=PySem.W.hideAll_none (trk h H) hm
  rw[z] at e;cases e
def ZO9 (g h:E9)(L:Ez):List (Ez×FF):=(Av h.objs.size).filterMap λa=>if a=L\/(g.get? a).isSome=true then none else(h.get? a).map λo=>(a,o)
def rest (g h:E9)(L d:Ez):List (Ez×FF):=(ZO9 g h L).filter λp=>decide (p.1≠d)
structure Mod (K:AB)(mg:E3->Option E2)(base:E9):Prop where
 kin:K.In base
 glob:base.Ns E8 mg
 blt:∃mb,base.Ns builtinsNs mb/\∀x:E3,x≠"__name__"->mb x=Ff x
 nolimit:base.NoLimit
structure Cx where
 prog:E7
 w:FA
 K:AB
 mg:E3->Option E2
 base:E9
 A:FC
 N:List E3
 s₀:E4
 H₀:Hp
 env:Env
 outer:List Env
 stack:List Env
 ex:List Ez
 fn:E3->Bool
 calm:Bool
 pn:List (Ez×FF)
 xe:E2->E4->Prop
def frs (l:List Env):List Ez:=l.filterMap (·.frame)
abbrev Cx.fs (X:Cx):List Ez:=frs X.outer
def Vis (sc:F0)(x:E3):Prop:=sc.names.lookup x=some .local\/sc.names.lookup x=some .cell\/sc.names.lookup x=some .free
def Loc (sc:F0)(x:E3):Prop:=sc.names.lookup x=some .local\/sc.names.lookup x=some .cell
def Look (env:Env)(h:E9)(m:E3->Option E2)(x:E3)(u:E2):Prop:=
 (env.kindOf x=some .local/\m x=some u)\/((env.kindOf x=some .cell\/env.kindOf x=some .free)/\∃c,env.cells.lookup x=some c/\h.IsCell c (some u))
structure Cx.Ok (X:Cx):Prop where
 mod:Mod X.K X.mg X.base
 kind:X.env.scope.kind= .function
 glob:X.env.globals=E8
 blt:X.env.builtins=builtinsNs
 above:X.s₀.heap.objs.size<=X.env.locals
 inj:∀x y c,X.env.cells.lookup x=some c->X.env.cells.lookup y=some c->x=y
 has:∀x,(X.env.kindOf x=some .cell\/X.env.kindOf x=some .free)->∃c,X.env.cells.lookup x=some c
 cab:∀x c,X.fn x=true->X.env.cells.lookup x=some c->X.s₀.heap.objs.size<=c
 hd:X.calm=true->X.A.handled=none
 frames:X.A.frames=some X.stack
 stk:X.stack=X.outer\/(X.stack=X.env::X.outer/\X.env.frame=some X.env.locals)
 exf:∀b∈X.ex,b≠X.env.locals/\∀x c,X.env.cells.lookup x=some c->c≠b
 bs:∀b o,X.base.get? b=some o->X.s₀.heap.get? b=some o/\X.H₀ b=none
 bsz:X.base.objs.size<=X.s₀.heap.objs.size
 noex:∀b o,X.base.get? b=some o->b∉X.ex
 exfs:∀b∈X.ex,b∉X.fs
 funs:X.s₀.heap.FunFrames X.base X.outer
 frf:∀b∈X.fs,X.H₀ b=none
structure Inv (X:Cx)(pins:List (Ez×FF))(Z:List (Option V))(H:Hp)(s:E4):Prop where
 ok:X.Ok
 os:s.os=X.s₀.os
 bare:AllBare s.gens
 base:Un X.fs X.ex X.H₀ H X.s₀.heap s.heap
 loc:∃m,s.heap.Ns X.env.locals m/\∀(i:Nat) (x:E3) (v:V),X.N[i]?=some x->Z[i]?=some (some v)->Vis X.env.scope x->∃u,RelV v u/\Look X.env s.heap m x u
 cell:∀x c,X.env.cells.lookup x=some c->∃v,s.heap.IsCell c v
 free:H X.env.locals=none
 freeC:∀x c,X.env.cells.lookup x=some c->H c=none
 pin:∀p∈X.pn++pins,s.heap.get? p.1=some p.2/\H p.1=none/\p.1≠X.env.locals/\p.1∉X.fs/\∀v,p.2.data≠ .cell v
 hok:HOk X.prog X.w H s.heap
 len:Z.length=X.N.length
section
variable {X:Cx}{pins:List (Ez×FF)}{Z:List (Option V)}{H H':Hp}{s:E4}{h':E9}
theorem Cx.Ok.nofr (ok:X.Ok){b:Ez}{o:FF}(e:X.base.get? b=some o):b∉X.fs:=λhb=>by
 have:=(ok.funs.mem hb).1
 rw[e] at this;cases this
theorem Inv.bs (I:Inv X pins Z H s):∀b o,X.base.get? b=some o->s.heap.get? b=some o/\H b=none:=λb o e=>
 ⟨I.base.keep b o (I.ok.bs b o e).1 (I.ok.bs b o e).2 (I.ok.nofr e) (I.ok.noex b o e),I.base.free b o (I.ok.bs b o e).1 (I.ok.bs b o e).2 (I.ok.noex b o e)⟩
theorem Inv.bk (I:Inv X pins Z H s):∀b o,X.base.get? b=some o->s.heap.get? b=some o:=λb o e=>(I.bs b o e).1
theorem Inv.mod (I:Inv X pins Z H s):Mod X.K X.mg X.base:=I.ok.mod
theorem Inv.kIn (I:Inv X pins Z H s):X.K.In s.heap:=I.ok.mod.kin.keeps I.bk
theorem Inv.fr (I:Inv X pins Z H s):∃m,Fr X.base X.env.locals s.heap m:=
 let⟨m,hn,_⟩:=I.loc
 ⟨m,hn,I.bk,As I.ok.bsz I.ok.above⟩
theorem Inv.lt (I:Inv X pins Z H s):X.env.locals<s.heap.objs.size:=let⟨_,hn,_⟩:=I.loc;hn.lt
theorem Inv.sz (I:Inv X pins Z H s):X.s₀.heap.objs.size<=s.heap.objs.size:=As I.ok.above (CN I.lt)
theorem Inv.nofs (I:Inv X pins Z H s){a:Ez}(h:s.heap.objs.size<=a):a∉X.fs:=λhb=>by
 obtain⟨_,o,ho,_⟩:=I.ok.funs.mem hb
 exact absurd (Af (AI ho) (As I.sz h)) (BM _)
theorem Inv.cne (I:Inv X pins Z H s):∀x c,X.env.cells.lookup x=some c->c≠X.env.locals:=λx c e z=>by
 obtain⟨v,o,ho,hd⟩:=I.cell x c e
 obtain⟨m,⟨o',es,ep,ho',hd',_⟩,_⟩:=I.loc
 rw[z,ho'] at ho;cases ho;rw[hd'] at hd;cases hd
theorem Inv.funs (I:Inv X pins Z H s):s.heap.FunFrames X.base X.outer:=by
 have all:∀(l:List Env),(∀b∈frs l,b∈X.fs)->X.s₀.heap.FunFrames X.base l->s.heap.FunFrames X.base l:=by
  intro l
  induction l with
  |nil=>intro _ _;trivial
  |cons env r ih=>
   intro hs hl
   obtain⟨hk,⟨L,o,hf,hn,ho,hd⟩,hr⟩:=hl
   have hL:L∈X.fs:=hs L (by unfold frs;rw[Dm,hf];exact AJ)
   obtain⟨sl,e⟩:=I.base.slot L o ho (I.ok.frf L hL) hL λz=>I.ok.exfs L z hL
   exact⟨hk,⟨L,_,hf,hn,e,hd⟩,ih (λb hb=>hs b (by unfold frs;rw[Dm,hf];exact AL _ hb)) hr⟩
 exact all X.outer (λ_ hb=>hb) I.ok.funs
theorem Inv.stack (I:Inv X pins Z H s):s.heap.FunFrames X.base X.stack:=by
 rcases I.ok.stk with e|⟨e,hf⟩
 ·rw[e];exact I.funs
 ·rw[e]
  obtain⟨m,hn,_⟩:=I.loc
  refine .cons (by rw[I.ok.kind];decide) hf hn ?_ I.funs
  exact BA (As I.ok.bsz I.ok.above)
theorem Inv.stkSub (I:Inv X pins Z H s):∀b∈frs X.stack,b∈X.env.locals::X.fs:=λb hb=>by
 rcases I.ok.stk with e|⟨e,hf⟩
 ·rw[e] at hb;exact AL _ hb
 ·rw[e] at hb
  unfold frs at hb
  rw[Dm,hf] at hb
  exact hb
theorem Inv.stkFree (I:Inv X pins Z H s):∀b∈frs X.stack,H b=none:=λb hb=>by
 rcases AQ.mp (I.stkSub b hb) with e|hb
 ·rw[e];exact I.free
 ·obtain⟨_,o,ho,_⟩:=I.ok.funs.mem hb
  exact I.base.free b o ho (I.ok.frf b hb) λz=>I.ok.exfs b z hb
theorem Inv.step {g':Array GenState}{t':Nat}{d':Drawn}{ch:List Ez}(I:Inv X pins Z H s)
  (hch:∀b∈ch,(b∈X.ex\/X.s₀.heap.objs.size<=b)/\b≠X.env.locals/\(∀x c,X.env.cells.lookup x=some c->c≠b)/\∀p∈X.pn++pins,p.1≠b)
  (keep:∀b o,b≠X.env.locals->b∉X.fs->b∉ch->s.heap.get? b=some o->H b=none->h'.get? b=some o)
  (slot:∀b o,b≠X.env.locals->b∈X.fs->b∉ch->s.heap.get? b=some o->H b=none->∃sl,h'.get? b=some {o with slots:=sl}) (free:∀b o,b∉ch->s.heap.get? b=some o->H b=none->H' b=none)
  (there:∀b o,b∉ch->s.heap.get? b=some o->∃o',h'.get? b=some o')
  (tups:∀b xs,H b=some (.tup xs)->H' b=some (.tup xs)) (frzs:∀b o u,H b=some (.frz o u)->H' b=some (.frz o u)) (tbls:∀b ps,H b=some (.tbl ps)->∃more,H' b=some (.tbl (ps++more)))
  (ns:∀m,s.heap.Ns X.env.locals m->h'.Ns X.env.locals m) (hok:HOk X.prog X.w H' h') (hg:AllBare g'):
  Inv X pins Z H' {s with heap:=h',gens:=g',drawn:=d',toks:=t'}:=by
 have neL:∀b o,X.s₀.heap.get? b=some o->b≠X.env.locals:=λb o e=>AV (Af (AI e) I.ok.above)
 have neC:∀b o,X.s₀.heap.get? b=some o->b∉X.ex->b∉ch:=λb o e hx hb=>by
  rcases(hch b hb).1 with z|z
  ·exact hx z
  ·exact absurd (Af (AI e) z) (BM _)
 have cellK:∀x c,X.env.cells.lookup x=some c->∀v,s.heap.IsCell c v->h'.IsCell c v:=λx c e v ⟨o,ho,hd⟩=>by
  have nch:c∉ch:=λz=>(hch c z).2.2.1 x c e rfl
  by_cases hc:c∈X.fs
  ·obtain⟨sl,q⟩:=slot c o (I.cne x c e) hc nch ho (I.freeC x c e)
   exact⟨_,q,hd⟩
  ·exact⟨o,keep c o (I.cne x c e) hc nch ho (I.freeC x c e),hd⟩
 refine⟨I.ok,I.os,hg,⟨λb o e n hb hx=>?_,λb o e n hb hx=>?_,λb o e n hx=>?_,λb o e hx=>?_,λb xs e=>tups b xs (I.base.tups b xs e),λb o xs e=>frzs b o xs (I.base.frzs b o xs e),λb ps e=>?_⟩,?_,λx c e=>?_,?_,λx c e=>?_,λp hp=>?_,hok,I.len⟩
 ·exact keep b o (neL b o e) hb (neC b o e hx) (I.base.keep b o e n hb hx) (I.base.free b o e n hx)
 ·obtain⟨sl,e1⟩:=I.base.slot b o e n hb hx
  obtain⟨sl',e2⟩:=slot b _ (neL b o e) hb (neC b o e hx) e1 (I.base.free b o e n hx)
  exact⟨sl',e2⟩
 ·obtain⟨o',e1⟩:=I.base.there b o e hx
  exact free b o' (neC b o e hx) e1 (I.base.free b o e n hx)
 ·obtain⟨o',e1⟩:=I.base.there b o e hx
  exact there b o' (neC b o e hx) e1
 ·obtain⟨m1,e1⟩:=I.base.tbls b ps e
  obtain⟨m2,e2⟩:=tbls b _ e1
  exact⟨m1++m2,by rw[e2,Array.append_assoc]⟩
 ·obtain⟨m,hn,hl⟩:=I.loc
  refine⟨m,ns m hn,λi x v e1 e2 e3=>?_⟩
  obtain⟨u,r,l⟩:=hl i x v e1 e2 e3
  refine⟨u,r,?_⟩
  rcases l with l|⟨k,c,e,z⟩
  ·exact .inl l
  ·exact .inr ⟨k,c,e,cellK x c e _ z⟩
 ·obtain⟨v,z⟩:=I.cell x c e
  exact⟨v,cellK x c e v z⟩
 ·obtain⟨m,⟨o,_,_,ho,_⟩,_⟩:=I.loc
  exact free _ o (λz=>(hch _ z).2.1 rfl) ho I.free
 ·obtain⟨v,o,ho,hd⟩:=I.cell x c e
  exact free c o (λz=>(hch c z).2.2.1 x c e rfl) ho (I.freeC x c e)
 ·obtain⟨e,n,ne,nf,d⟩:=I.pin p hp
  have nch:p.1∉ch:=λz=>(hch p.1 z).2.2.2 p hp rfl
  exact⟨keep p.1 p.2 ne nf nch e n,free p.1 p.2 nch e n,ne,nf,d⟩
theorem Inv.un {t':Nat}(I:Inv X pins Z H s)(u:Un X.fs [] H H' s.heap h')(hok:HOk X.prog X.w H' h'):Inv X pins Z H' {s with heap:=h',toks:=t'}:=by
 obtain⟨m,⟨o,es,ep,ho,r⟩,_⟩:=id I.loc
 obtain⟨sl,hL⟩:=u.any ho I.free (by simp)
 exact I.step (g':=s.gens) (d':=s.drawn) (ch:= []) (λ_ z=>nomatch z) (λb o _ hb _ e n=>u.keep b o e n hb (by simp)) (λb o _ hb _ e n=>u.slot b o e n hb (by simp)) (λb o _ e n=>u.free b o e n (by simp)) (λb o _ e=>u.there b o e (by simp)) u.tups u.frzs u.tbls (λm' hm=>by
  obtain⟨o',es',ep',ho',r'⟩:=hm
  rw[ho] at ho';cases ho'
  exact⟨_,es',ep',hL,r'⟩) hok I.bare
theorem Inv.call {g':Array GenState}{t':Nat}{d':Drawn}{ch:List Ez}(I:Inv X pins Z H s)(u:Un (frs X.stack) ch H H' s.heap h')(hok:HOk X.prog X.w H' h')(hg:AllBare g')
  (hch:∀b∈ch,(b∈X.ex\/X.s₀.heap.objs.size<=b)/\b≠X.env.locals/\(∀x c,X.env.cells.lookup x=some c->c≠b)/\∀p∈X.pn++pins,p.1≠b):
  Inv X pins Z H' {s with heap:=h',gens:=g',drawn:=d',toks:=t'}:=by
 obtain⟨m,⟨o,es,ep,ho,r⟩,_⟩:=id I.loc
 obtain⟨sl,hL⟩:=u.any ho I.free λz=>(hch _ z).2.1 rfl
 exact I.step (ch:=ch) hch (λb o hL hb hc e n=>u.keep b o e n (λz=>(AQ.mp (I.stkSub b z)).elim hL hb) hc) (λb o _ _ hc e n=>u.any e n hc) (λb o hc e n=>u.free b o e n hc) (λb o hc e=>u.there b o e hc) u.tups u.frzs u.tbls (λm' hm=>by
  obtain⟨o',es',ep',ho',r'⟩:=hm
  rw[ho] at ho';cases ho'
  exact⟨_,es',ep',hL,r'⟩) hok hg
theorem Inv.turned {t':Nat}{it:Ez}(I:Inv X pins Z H s)(k:∀b o,b≠it->s.heap.get? b=some o->h'.get? b=some o)(hn:H it=none)(hL:it≠X.env.locals)
  (h1:it∈X.ex\/X.s₀.heap.objs.size<=it) (h2:∀x c,X.env.cells.lookup x=some c->c≠it) (h3:∀p∈X.pn++pins,p.1≠it):Inv X pins Z H {s with heap:=h',toks:=t'}:=by
 have nit:∀b u,H b=some u->b≠it:=λb u e z=>by rw[z,hn] at e;cases e
 refine I.step (g':=s.gens) (d':=s.drawn) (ch:= [it]) (λb hb=>?_) (λb o _ _ hc e _=>k b o (λz=>hc (by simp[z])) e) (λb o _ _ hc e _=>⟨o.slots,k b o (λz=>hc (by simp[z])) e⟩) (λ_ _ _ _ n=>n)
  (λb o hc e=>⟨o,k b o (λz=>hc (by simp[z])) e⟩) (λ_ _ e=>e) (λ_ _ _ e=>e) (λb ps e=>⟨#[],by rw[e];simp⟩) (λm hm=>?_) (λb u e=>?_) I.bare
 ·have e:b=it:=by simpa using hb
  subst e
  exact⟨h1,hL,h2,h3⟩
 ·obtain⟨o,es,ep,ho,r⟩:=hm
  exact⟨o,es,ep,k _ o (A9 hL) ho,r⟩
 ·refine(I.hok b u e).stay (λc v hc q=>k c v ?_ q) (λ_ q=>q) λ_ _ q=>q
  rcases hc with z|z
  ·rw[z];exact nit b u e
  ·exact nit c _ z
theorem Inv.tok (I:Inv X pins Z H s)(t:Nat):Inv X pins Z H {s with toks:=t}:=I.un (h':=s.heap) (t':=t) Un.refl I.hok
theorem Inv.kept {t':Nat}(I:Inv X pins Z H s)(k:∀b u,s.heap.get? b=some u->h'.get? b=some u):Inv X pins Z H {s with heap:=h',toks:=t'}:=I.un (Un.kept k) (I.hok.kept k)
theorem Inv.laid {a:Ez}{o:HO}{t':Nat}(I:Inv X pins Z H s)(k:∀b u,s.heap.get? b=some u->h'.get? b=some u)(hp:s.heap.objs.size<=a)(new:ZBA X.prog X.w (upd H a o) h' a o):
  Inv X pins Z (upd H a o) {s with heap:=h',toks:=t'}:=I.un (Un.laid k hp (I.hok.fresh hp)) (I.hok.laid k hp new)
theorem Inv.write {x e:Ez}{o:HO}{t':Nat}(I:Inv X pins Z H s)(mu:Mut (H x))(he:e=x\/H e=some (.own x))(k:∀b u,b≠e->s.heap.get? b=some u->h'.get? b=some u)(heo:∃u,h'.get? e=some u)
  (new:ZBA X.prog X.w (upd H x o) h' x o):Inv X pins Z (upd H x o) {s with heap:=h',toks:=t'}:=I.un (Un.write mu he k heo) (I.hok.write mu he k heo new)
theorem Inv.pins_of {pins':List (Ez×FF)}(I:Inv X pins Z H s)(h:∀p∈pins',s.heap.get? p.1=some p.2/\H p.1=none/\p.1≠X.env.locals/\p.1∉X.fs/\∀v,p.2.data≠ .cell v):Inv X pins' Z H s:=
 ⟨I.ok,I.os,I.bare,I.base,I.loc,I.cell,I.free,I.freeC,λp hp=>(AY.mp hp).elim (λz=>I.pin p (BD _ z)) (h p),I.hok,I.len⟩
theorem ZIp {N:List E3}(hN:N.Nodup){i j:Nat}{x:E3}(a:N[i]?=some x)(b:N[j]?=some x):i=j:=by
 obtain⟨h1,e1⟩:=BW.mp a
 obtain⟨h2,e2⟩:=BW.mp b
 exact(List.getElem_inj hN).mp (e1.trans e2.symm)
theorem ZKA {M:Model}{A:FC}{E:E2->E4->Prop}{i:Nat}{x:E3}{v:V}{u:E2}{Q:Unit->E4->Prop}(I:Inv X pins Z H s)(hN:X.N.Nodup)(hi:X.N[i]?=some x)(hx:Loc X.env.scope x)(r:RelV v u)
  (h:∀s',Inv X pins (Z.set i (some v)) H s'->(∃a,Heap.SameBut a s.heap s'.heap/\(a=X.env.locals\/X.env.cells.lookup x=some a))->Q () s') (hf:X.fn x=true\/X.env.scope.names.lookup x=some .local:=by first|exact .inl rfl|exact .inr rfl|assumption):E6 M A (storeName X.env x u) Q E s:=by
 obtain⟨m,hn,hl⟩:=id I.loc
 have hcls:(X.env.scope.kind== .class||(X.env.scope.kind== .module&&X.env.locals !=X.env.globals))=false:=by rw[I.ok.kind];rfl
 have hiσ:i<Z.length:=by rw[I.len];exact(BW.mp hi).1
 have cne:=I.cne
 have tracked:∀{a:Ez} {h':E9},(∃o,s.heap.get? a=some o/\H a=none)->Heap.SameBut a s.heap h'->HOk X.prog X.w H h':=λ{a h'} ha hs b ob e=>by
  obtain⟨_,_,hfree⟩:=ha
  refine(I.hok b ob e).stay (λc w' hc q=>(hs.2 c ?_).trans q) (λ_ q=>q) λ_ _ q=>q
  rintro rfl
  rcases hc with rfl|hc
  ·rw[hfree] at e;cases e
  ·rw[hfree] at hc;cases hc
 rcases hx with hk|hk
 ·refine wpAny_storeName_local hk hn (λh' hn' hs=>?_) hcls
  obtain⟨oL,_,_,hoL,_⟩:=id hn
  refine h _ ⟨I.ok,I.os,I.bare,⟨λb o e n hb hx=>?_,λb o e n hb hx=>?_,I.base.free,λb o e hx=>?_,I.base.tups,I.base.frzs,I.base.tbls⟩,⟨_,hn',λj y v' e1 e2 e3=>?_⟩,λy c e=>?_,I.free,I.freeC,λp hp=>?_,tracked ⟨oL,hoL,I.free⟩ hs,by simpa using I.len⟩ ⟨_,hs,.inl rfl⟩
  ·exact(hs.2 b (AV (Af (AI e) I.ok.above))).trans (I.base.keep b o e n hb hx)
  ·obtain⟨sl,e1⟩:=I.base.slot b o e n hb hx
   exact⟨sl,(hs.2 b (AV (Af (AI e) I.ok.above))).trans e1⟩
  ·obtain⟨o',e1⟩:=I.base.there b o e hx
   exact⟨o',(hs.2 b (AV (Af (AI e) I.ok.above))).trans e1⟩
  ·by_cases hj:j=i
   ·subst hj
    rw[hi] at e1;cases e1
    rw[Eb hiσ] at e2
    cases e2
    exact⟨u,r,.inl ⟨hk,by simp⟩⟩
   ·rw[Eh (A9 hj)] at e2
    obtain⟨u',r',q⟩:=hl j y v' e1 e2 e3
    refine⟨u',r',?_⟩
    rcases q with⟨k,e⟩|⟨k,c,e,z⟩
    ·refine .inl ⟨k,?_⟩
     have:y≠x:=λe=>hj (ZIp hN e1 (e▸hi))
     simp[this,e]
    ·exact .inr ⟨k,c,e,z.sameBut hs (cne y c e)⟩
  ·obtain⟨w',z⟩:=I.cell y c e
   exact⟨w',z.sameBut hs (cne y c e)⟩
  ·obtain⟨e,n,ne,nf,d⟩:=I.pin p hp
   exact⟨(hs.2 p.1 ne).trans e,n,ne,nf,d⟩
 ·have hfn:X.fn x=true:=by
   rcases hf with z|z
   ·exact z
   ·rw[z] at hk;cases hk
  obtain⟨c,hc⟩:=I.ok.has x (.inl hk)
  obtain⟨w',z⟩:=I.cell x c hc
  refine wpAny_storeName_cell I.ok.kind hk hc z (λh' hc' hs=>?_)
  obtain⟨oc,hoc,hocd⟩:=id z
  refine h {s with heap:=h'} ⟨I.ok,I.os,I.bare,⟨λb o e n hb hx=>?_,λb o e n hb hx=>?_,I.base.free,λb o e hx=>?_,I.base.tups,I.base.frzs,I.base.tbls⟩,⟨m,hn.sameBut hs (A9 (cne x c hc)),λj y v' e1 e2 e3=>?_⟩,λy c' e=>?_,I.free,I.freeC,λp hp=>?_,tracked ⟨oc,hoc,I.freeC x c hc⟩ hs,by simpa using I.len⟩ ⟨c,hs,.inr hc⟩
  ·exact(hs.2 b (AV (Af (AI e) (I.ok.cab x c hfn hc)))).trans (I.base.keep b o e n hb hx)
  ·obtain⟨sl,e1⟩:=I.base.slot b o e n hb hx
   exact⟨sl,(hs.2 b (AV (Af (AI e) (I.ok.cab x c hfn hc)))).trans e1⟩
  ·obtain⟨o',e1⟩:=I.base.there b o e hx
   exact⟨o',(hs.2 b (AV (Af (AI e) (I.ok.cab x c hfn hc)))).trans e1⟩
  ·by_cases hj:j=i
   ·subst hj
    rw[hi] at e1;cases e1
    rw[Eb hiσ] at e2
    cases e2
    exact⟨u,r,.inr ⟨.inl hk,c,hc,hc'⟩⟩
   ·rw[Eh (A9 hj)] at e2
    obtain⟨u',r',q⟩:=hl j y v' e1 e2 e3
    refine⟨u',r',?_⟩
    rcases q with q|⟨k,c',e,z'⟩
    ·exact .inl q
    ·refine .inr ⟨k,c',e,z'.sameBut hs ?_⟩
     rintro rfl
     exact hj (ZIp hN e1 (I.ok.inj _ _ _ e hc▸hi))
  ·by_cases hcc:c'=c
   ·subst hcc;exact⟨_,hc'⟩
   ·obtain⟨w2,z2⟩:=I.cell y c' e
    exact⟨w2,z2.sameBut hs hcc⟩
  ·obtain⟨e,n,ne,nf,d⟩:=I.pin p hp
   refine⟨(hs.2 p.1 ?_).trans e,n,ne,nf,d⟩
   intro q
   rw[q,hoc] at e
   have q':oc=p.2:=Aj e
   exact d w' (by rw[<-q'];exact hocd)
theorem ZD2 {M:Model}{A:FC}{E:E2->E4->Prop}{i:Nat}{x:E3}{v:V}{u:E2}{Q:Unit->E4->Prop}(I:Inv X pins Z H s)(hN:X.N.Nodup)(hi:X.N[i]?=some x)(hx:Loc X.env.scope x)(r:RelV v u)
  (h:∀s',Inv X pins (Z.set i (some v)) H s'->Q () s') (hf:X.fn x=true\/X.env.scope.names.lookup x=some .local:=by first|exact .inl rfl|exact .inr rfl|assumption):E6 M A (storeName X.env x u) Q E s:=
 ZKA I hN hi hx r (λs' I' _=>h s' I') hf
theorem Inv.call' {s':E4}{ch:List Ez}(I:Inv X pins Z H s)(ho:s'.os=s.os)(u:Un (frs X.stack) ch H H' s.heap s'.heap)(hok:HOk X.prog X.w H' s'.heap)(hg:AllBare s'.gens)
  (hch:∀b∈ch,(b∈X.ex\/X.s₀.heap.objs.size<=b)/\b≠X.env.locals/\(∀x c,X.env.cells.lookup x=some c->c≠b)/\∀p∈X.pn++pins,p.1≠b):Inv X pins Z H' s':=by
 obtain⟨h',g',d',t',o'⟩:=s'
 have e:o'=s.os:=ho
 subst e
 exact I.call (g':=g') (t':=t') (d':=d') u hok hg hch
end
abbrev XK:=E2->Option Ez->Hp->Prop
abbrev St:=List (Option V)
abbrev VK:=V->Hp->Prop
abbrev TE:=St->Hp->VK->Prop
abbrev TT:=St->Hp->(Bool->Hp->Prop)->Prop
abbrev TA:=St->Hp->(List V->Hp->Prop)->Prop
structure Ends where
 nx:St->Hp->Prop
 rt:VK
 bk:St->Hp->Prop:=λ_ _=>False
 ct:St->Hp->Prop:=λ_ _=>False
abbrev TS:=Ends->St->Hp->Prop
inductive EP (X:Cx)(pins:List (Ez×FF))(Z:St)(Q:VK)(u:E2)(s':E4):Prop
 |mk:∀v H',(Inv X pins Z H' s')->(RelV v u)->(Q v H')->EP X pins Z Q u s'
inductive TP (X:Cx)(pins:List (Ez×FF))(Z:St)(Q:Bool->Hp->Prop)(b:Bool)(s':E4):Prop
 |mk:∀H',(Inv X pins Z H' s')->(Q b H')->TP X pins Z Q b s'
inductive AP (X:Cx)(pins:List (Ez×FF))(Z:St)(Q:List V->Hp->Prop)(us:List E2)(s':E4):Prop
 |mk:∀vs H',(Inv X pins Z H' s')->(Vals vs us)->(Q vs H')->AP X pins Z Q us s'
def SP (X:Cx)(pins:List (Ez×FF))(D:Ends)(f:Flow)(s':E4):Prop:=
 match f with
 | .next=>∃Z' H',Inv X pins Z' H' s'/\D.nx Z' H'
 | .brk=>∃Z' H',Inv X pins Z' H' s'/\D.bk Z' H'
 | .cont=>∃Z' H',Inv X pins Z' H' s'/\D.ct Z' H'
 | .ret u=>∃v Z' H',Inv X pins Z' H' s'/\RelV v u/\D.rt v H'
def PE (X:Cx)(e:FD)(t:TE):Prop:=
 ∀(pins:List (Ez×FF)) (s:E4) (Z:St) (H:Hp) (Q:VK),Inv X pins Z H s->t Z H Q->E6 (model X.prog X.w) X.A (eval e X.env) (EP X pins Z Q) X.xe s
def PT (X:Cx)(e:FD)(t:TT):Prop:=
 ∀(pins:List (Ez×FF)) (s:E4) (Z:St) (H:Hp) (Q:Bool->Hp->Prop),Inv X pins Z H s->t Z H Q->E6 (model X.prog X.w) X.A (isTrue e X.env (eval e X.env)) (TP X pins Z Q) X.xe s
def PW (X:Cx)(e:FD)(t:TT):Prop:=
 ∀(whole:Sem E2) (pins:List (Ez×FF)) (s:E4) (Z:St) (H:Hp) (Q:Bool->Hp->Prop),Inv X pins Z H s->t Z H Q->E6 (model X.prog X.w) X.A (isTrue e X.env whole) (TP X pins Z Q) X.xe s
theorem PW.pt {X:Cx}{e:FD}{t:TT}(h:PW X e t):PT X e t:=h _
def PA (X:Cx)(es:List FD)(t:TA):Prop:=
 ∀(pos:Pos) (pins:List (Ez×FF)) (s:E4) (Z:St) (H:Hp) (Q:List V->Hp->Prop),Inv X pins Z H s->t Z H Q->E6 (model X.prog X.w) X.A (spliced (backTo pos (FG es X.env))) (AP X pins Z Q) X.xe s
def PS (X:Cx)(st:FS)(t:TS):Prop:=
 ∀(pins:List (Ez×FF)) (s:E4) (Z:St) (H:Hp) (D:Ends),Inv X pins Z H s->t D Z H->E6 (model X.prog X.w) X.A (exec st X.env) (SP X pins D) X.xe s
def PSs (X:Cx)(st:List FS)(t:TS):Prop:=
 ∀(pins:List (Ez×FF)) (s:E4) (Z:St) (H:Hp) (D:Ends),Inv X pins Z H s->t D Z H->E6 (model X.prog X.w) X.A (execs st X.env) (SP X pins D) X.xe s
theorem thn {α:Type}{t:Sem α}{Q Q':α->E4->Prop}{M:Model}{A:FC}{E:E2->E4->Prop}{s:E4}(h:E6 M A t Q E s)(hQ:∀a s,Q a s->Q' a s):E6 M A t Q' E s:=FE h hQ λ_ _ x=>x
section
variable {X:Cx}
theorem bin {a b:FD}{ta tb:TE}(ha:PE X a ta)(hb:PE X b tb){pins:List (Ez×FF)}{s:E4}{Z:St}{H:Hp}{R:V->V->Hp->Prop}(I:Inv X pins Z H s)(h:ta Z H λx H1=>tb Z H1 λy H2=>R x y H2)
  {α:Type} {Q:α->E4->Prop} {f:E2->E2->Sem α}
  (hf:∀v u s2 x y H2,Inv X pins Z H2 s2->RelV x v->RelV y u->R x y H2->E6 (model X.prog X.w) X.A (f v u) Q X.xe s2):
  E6 (model X.prog X.w) X.A (eval a X.env) (λv s₁=>E6 (model X.prog X.w) X.A (eval b X.env) (λu s₂=>E6 (model X.prog X.w) X.A (f v u) Q X.xe s₂) X.xe s₁) X.xe s:=by
 refine thn (ha pins s Z H _ I h) λv s1 ⟨x,H1,I1,r1,q1⟩=>?_
 refine thn (hb pins s1 Z H1 _ I1 q1) λu s2 ⟨y,H2,I2,r2,q2⟩=>?_
 exact hf v u s2 x y H2 I2 r1 r2 q2
inductive ZNp (i:Nat)(Z:St)(H:Hp)(Q:VK):Prop
 |mk:∀v,(Z[i]?=some (some v))->(Q v H)->ZNp i Z H Q
def tVar (i:Nat):TE:=λZ H Q=>ZNp i Z H Q
def tC (v:V):TE:=λ_ H Q=>Q v H
theorem pe_var {i:Nat}{x:E3}{pos:Pos}(hN:X.N[i]?=some x)(hv:Vis X.env.scope x)(hd:(x==("__debug__":E3))=false:=by decide)(hcd:(x==("__classdict__":E3))=false:=by decide):PE X (.Name x pos) (tVar i):=by
 intro pins s Z H Q I h
 obtain⟨v,e,h⟩:=h
 obtain⟨m,hn,hl⟩:=I.loc
 obtain⟨u,r,l⟩:=hl i x v hN e hv
 have fin:EP X pins Z Q u s:=⟨v,H,I,r,h⟩
 rcases l with⟨hk,hm⟩|⟨hk,c,hc,hcell⟩
 ·exact wpAny_Name (wpAny_loadName_local I.ok.kind hk hn hm fin) hd
 ·rcases hk with hk|hk
  ·exact wpAny_Name (wpAny_loadName_cell I.ok.kind hk hc hcell fin) hd
  ·exact wpAny_Name (wpAny_loadName_free I.ok.kind hk hc hcell fin hcd) hd
theorem ZAV {i j pos}:PE X (.Constant (.int i) j pos) (tC (.int i)):=λ_ _ _ H _ I h=>wpAny_Constant_int ⟨.int i,H,I.tok _,⟨_,rfl⟩,h⟩
theorem ZJm {b j pos}:PE X (.Constant (.bool b) j pos) (tC (.bl b)):=λ_ _ _ H _ I h=>Constant_bool ⟨.bl b,H,I,rfl,h⟩
theorem ZDp {j pos}:PE X (.Constant .none j pos) (tC .non):=λ_ _ _ H _ I h=>Constant_none ⟨.non,H,I,rfl,h⟩
theorem ZAu {x j pos}:PE X (.Constant (.str x) j pos) (tC (.str x)):=λ_ _ _ H _ I h=>Calls.Constant_str ⟨.str x,H,I.tok _,⟨_,rfl⟩,h⟩
def Gl (X:Cx)(x:E3):Prop:=X.env.kindOf x=some .globalImplicit
theorem ZEe {E:E2->E4->Prop}{pins:List (Ez×FF)}{s:E4}{Z:St}{H:Hp}{x:E3}{u:E2}{pos:Pos}{Q:E2->E4->Prop}(I:Inv X pins Z H s)(hg:Gl X x)(hm:X.mg x=some u)(h:Q u s)
  (hd:(x==("__debug__":E3))=false:=by decide):E6 (model X.prog X.w) X.A (eval (.Name x pos) X.env) Q E s:=
 Calls.Name_function_global I.ok.kind hg (Calls.loadGlobal_global (by rw[I.ok.glob];exact I.mod.glob.keeps I.bk) hm h) hd
theorem ZDs {E:E2->E4->Prop}{pins:List (Ez×FF)}{s:E4}{Z:St}{H:Hp}{x:E3}{u:E2}{pos:Pos}{Q:E2->E4->Prop}(I:Inv X pins Z H s)(hg:Gl X x)(hm:X.mg x=none)(hv:Ff x=some u)(h:Q u s)
  (hn:x≠"__name__":=by decide) (hd:(x==("__debug__":E3))=false:=by decide):E6 (model X.prog X.w) X.A (eval (.Name x pos) X.env) Q E s:=by
 obtain⟨mb,h1,h2⟩:=I.mod.blt
 exact Calls.Name_function_global I.ok.kind hg (Calls.loadGlobal_builtin (by rw[I.ok.glob];exact I.mod.glob.keeps I.bk) hm (by rw[I.ok.blt];exact h1.keeps I.bk) ((h2 x hn).trans hv) h) hd
theorem ZAQ {x:E3}{v:V}{u:E2}{pos:Pos}(hg:Gl X x)(hm:X.mg x=some u)(r:RelV v u)(hd:(x==("__debug__":E3))=false:=by decide):PE X (.Name x pos) (tC v):=
 λ_ _ _ H _ I h=>ZEe I hg hm ⟨v,H,I,r,h⟩ hd
variable {a b:FD}{ta tb:TE}{pos:Pos}
def PC (X:Cx)(op:CmpOp)(a b:FD)(t:TE):Prop:=
 ∀(pins:List (Ez×FF)) (s:E4) (Z:St) (H:Hp) (Q:VK),Inv X pins Z H s->t Z H Q->
  E6 (model X.prog X.w) X.A (eval a X.env) (λv s₁=>E6 (model X.prog X.w) X.A (eval b X.env) (λu s₂=>E6 (model X.prog X.w) X.A (Fh op v u) (EP X pins Z Q) X.xe s₂) X.xe s₁) X.xe s
theorem ZIq (b:FD){op:CmpOp}(h:op≠ .In)(h2:op≠ .NotIn):behindInMarks op b=false:=by
 have e1:(op==CmpOp.In)=false:=by cases op<;>first|rfl|exact absurd rfl h
 have e2:(op==CmpOp.NotIn)=false:=by cases op<;>first|rfl|exact absurd rfl h2
 cases b<;>simp[behindInMarks,e1,e2]
def tIsN (ta:TE):TE:=λZ H Q=>ta Z H λx H1=>Q (.bl (decide (x= .non))) H1
def tNotN (ta:TE):TE:=λZ H Q=>ta Z H λx H1=>Q (.bl (!decide (x= .non))) H1
theorem RelV.none_iff {x:V}{v:E2}(r:RelV x v):(v==At)=decide (x= .non):=by
 cases x with
 |non=>cases r;rfl
 |bl _=>cases r;rfl
 |int _=>obtain⟨t,rfl⟩:=r;rfl
 |str _=>obtain⟨t,rfl⟩:=r;rfl
 |byt _=>obtain⟨t,rfl⟩:=r;rfl
 |flt _=>obtain⟨t,rfl⟩:=r;rfl
 |ref _=>cases r;rfl
 |ty _=>cases r;rfl
theorem ZIm {j pos'}(ha:PE X a ta):PC X .Is a (.Constant .none j pos') (tIsN ta):=by
 intro pins s Z H Q I h
 refine thn (ha pins s Z H _ I h) λv s1 ⟨x,H1,I1,r1,q1⟩=>?_
 exact Constant_none (is_none_gen ⟨.bl _,H1,I1,by rw[r1.none_iff];rfl,q1⟩)
theorem ZOW {j pos'}(ha:PE X a ta):PC X .IsNot a (.Constant .none j pos') (tNotN ta):=by
 intro pins s Z H Q I h
 refine thn (ha pins s Z H _ I h) λv s1 ⟨x,H1,I1,r1,q1⟩=>?_
 exact Constant_none (isnot_none_gen ⟨.bl _,H1,I1,by rw[r1.none_iff];rfl,q1⟩)
inductive I_tB (Q:Bool->Hp->Prop)(x:V)(H1:Hp):Prop
 |mk:∀c,(x= .bl c)->(Q c H1)->I_tB Q x H1
def tB (t:TE):TT:=λZ H Q=>t Z H λx H1=>I_tB Q x H1
theorem ZIk {op:CmpOp}{t:TE}(h:PC X op a b t)(h1:behindInMarks op b=false:=by first|exact ZIq _ (by decide) (by decide)|rfl):PE X (.Compare a [op] [b] pos) t:=λpins s Z H Q I hw=>wpAny_Compare1 (h pins s Z H Q I hw) h1
theorem ZBO {op:CmpOp}{t:TE}(h:PC X op a b t)(h1:behindInMarks op b=false:=by first|exact ZIq _ (by decide) (by decide)|rfl):PT X (.Compare a [op] [b] pos) (tB t):=by
 intro pins s Z H Q I hw
 refine Gr (thn (h pins s Z H _ I hw) λv s1 h1=>thn h1 λu s2 h2=>thn h2 λc s3 ⟨x,H1,I1,r1,q1⟩=>?_) h1
 obtain⟨d,rfl,q⟩:=q1
 cases r1
 exact Fa ⟨H1,I1,q⟩
theorem ZFI {e:FD}{t:TE}(h:PE X e t)(he:∀whole,isTrue e X.env whole=(do let v<-whole;standAt e.pos;holding [v] (truthy v)):=by intro _;rfl):PT X e (tB t):=by
 intro pins s Z H Q I hw
 refine isTrue_plain (thn (h pins s Z H _ I hw) λv s1 ⟨x,H1,I1,r1,q1⟩=>?_) (he _)
 obtain⟨d,rfl,q⟩:=q1
 cases r1
 exact Fa ⟨H1,I1,q⟩
variable {tA tB':TT}{rest:List FD}
def tAnd (t u:TT):TT:=λZ H Q=>t Z H λc H1=>if c=true then u Z H1 Q else Q false H1
def tOr (t u:TT):TT:=λZ H Q=>t Z H λc H1=>if c=true then Q true H1 else u Z H1 Q
def tNot (t:TT):TT:=λZ H Q=>t Z H λc H1=>Q (!c) H1
theorem ZKc (ha:PT X a tA):PW X (.BoolOp .And [a] pos) tA:=by
 intro wh pins s Z H Q I h
 refine isTrue_and (thn (ha pins s Z H Q I h) λc s1 e=>?_)
 cases c with
 |true=>exact isTrue_and_nil e
 |false=>exact e
theorem ZIg (ha:PT X a tA):PW X (.BoolOp .Or [a] pos) tA:=by
 intro wh pins s Z H Q I h
 refine isTrue_or (thn (ha pins s Z H Q I h) λc s1 e=>?_)
 cases c with
 |false=>exact isTrue_or_nil e
 |true=>exact e
theorem ZNT (ha:PT X a tA)(hb:PW X (.BoolOp .And (b::rest) pos) tB'):PW X (.BoolOp .And (a::b::rest) pos) (tAnd tA tB'):=by
 intro wh pins s Z H Q I h
 refine isTrue_and (thn (ha pins s Z H _ I h) λc s1 ⟨H1,I1,q1⟩=>?_)
 cases c with
 |true=>exact hb wh pins s1 Z H1 Q I1 q1
 |false=>exact⟨H1,I1,q1⟩
theorem ZMV (ha:PT X a tA)(hb:PW X (.BoolOp .Or (b::rest) pos) tB'):PW X (.BoolOp .Or (a::b::rest) pos) (tOr tA tB'):=by
 intro wh pins s Z H Q I h
 refine isTrue_or (thn (ha pins s Z H _ I h) λc s1 ⟨H1,I1,q1⟩=>?_)
 cases c with
 |true=>exact⟨H1,I1,q1⟩
 |false=>exact hb wh pins s1 Z H1 Q I1 q1
theorem ZIi (ha:PT X a tA):PT X (.UnaryOp .Not a pos) (tNot tA):=by
 intro pins s Z H Q I h
 exact isTrue_not (thn (ha pins s Z H (λc H1=>Q (!c) H1) I h) λc s1 ⟨H1,I1,q1⟩=>⟨H1,I1,q1⟩)
inductive ZLz (Q:VK)(x:V)(H1:Hp):Prop
 |mk:∀c,(x= .bl c)->(Q (.bl (!c)) H1)->ZLz Q x H1
def tNotV (ta:TE):TE:=λZ H Q=>ta Z H λx H1=>ZLz Q x H1
theorem ZNW (ha:PE X a ta):PE X (.UnaryOp .Not a pos) (tNotV ta):=by
 intro pins s Z H Q I h
 refine UnaryOp_ (thn (ha pins s Z H _ I h) λv s1 ⟨x,H1,I1,r1,q1⟩=>?_)
 obtain⟨c,rfl,q1⟩:=q1
 cases r1
 exact not_of (Fa ⟨.bl (!c),H1,I1,rfl,q1⟩)
def tIf (t:TT)(ta tb:TE):TE:=λZ H Q=>t Z H λc H1=>if c=true then ta Z H1 Q else tb Z H1 Q
theorem ZGE {c:FD}(hc:PT X c tA)(ha:PE X a ta)(hb:PE X b tb):PE X (.IfExp c a b pos) (tIf tA ta tb):=by
 intro pins s Z H Q I h
 refine wpAny_IfExp (thn (hc pins s Z H _ I h) λd s1 ⟨H1,I1,q1⟩=>?_)
 cases d with
 |true=>exact ha pins s1 Z H1 Q I1 q1
 |false=>exact hb pins s1 Z H1 Q I1 q1
end
def SqL (K:AB)(H:Hp)(a:Ez)(xs:List V):Prop:=
 Rd H a (.lst xs)\/
  ∃(o:FF) (its:Array E2) (n:Nat),K.lookup a=some o/\o.cls= .type "list"/\o.dict=none/\o.data= .seq its n/\its.size<=sizeLine/\Vals xs its.toList
def SqT (K:AB)(H:Hp)(a:Ez)(xs:List V):Prop:=
 Rd H a (.tup xs)\/
  ∃(o:FF) (its:Array E2) (n:Nat),K.lookup a=some o/\o.cls= .type "tuple"/\o.data= .seq its n/\its.size<=sizeLine/\Vals xs its.toList
def absV:E2->Option V
 | .none=>some .non
 | .bool b=>some (.bl b)
 | .int i _=>some (.int i)
 | .str x _=>some (.str x)
 | .bytes b _=>some (.byt b)
 | .float b _=>some (.flt b)
 | .ref a=>some (.ref a)
 | .type n=>some (.ty n)
 |_=>none
theorem RelV.abs {x:V}{u:E2}(r:RelV x u):absV u=some x:=by
 cases x with
 |non=>cases r;rfl
 |bl _=>cases r;rfl
 |int _=>obtain⟨t,rfl⟩:=r;rfl
 |str _=>obtain⟨t,rfl⟩:=r;rfl
 |byt _=>obtain⟨t,rfl⟩:=r;rfl
 |flt _=>obtain⟨t,rfl⟩:=r;rfl
 |ref _=>cases r;rfl
 |ty _=>cases r;rfl
theorem RelV.inj {x y:V}{u:E2}(r:RelV x u)(q:RelV y u):x=y:=Aj (r.abs.symm.trans q.abs)
theorem Vals.inj {xs ys:List V}{us:List E2}(h:Vals xs us)(h':Vals ys us):xs=ys:=by
 induction h generalizing ys with
 |nil=>cases h';rfl
 |cons r _ ih=>cases h' with|cons r' t'=>rw[r.inj r',ih t']
section
variable {X:Cx}{pins:List (Ez×FF)}{Z:St}{H:Hp}{s:E4}{a:Ez}{xs ys:List V}
theorem SqL.of {K:AB}(h:H a=some (.lst xs)):SqL K H a xs:= .inl (.inl h)
theorem SqT.of {K:AB}(h:H a=some (.tup xs)):SqT K H a xs:= .inl (.inl h)
theorem Inv.list (I:Inv X pins Z H s)(h:SqL X.K H a xs):∃its:List E2,Vals xs its/\PlainL s.heap a its.toArray/\xs.length<=sizeLine:=by
 rcases h with h|⟨o,its,n,hk,hc,hd,hs,hz,r⟩
 ·obtain⟨z,its,n,r,e⟩:=h.ok I.hok
  exact⟨its,r,⟨_,n,e,rfl,rfl,rfl⟩,z⟩
 ·refine⟨its.toList,r,⟨o,n,I.kIn a o hk,hc,hd,by simpa using hs⟩,?_⟩
  have e:=r.length
  simp only[Au] at e
  lia
theorem Inv.tuple (I:Inv X pins Z H s)(h:SqT X.K H a xs):∃its:List E2,Vals xs its/\IsTup s.heap a its.toArray/\xs.length<=sizeLine:=by
 rcases h with h|⟨o,its,n,hk,hc,hs,hz,r⟩
 ·obtain⟨z,its,r,p,_⟩:=h.ok I.hok
  exact⟨its,r,p,z⟩
 ·refine⟨its.toList,r,⟨o,I.kIn a o hk,hc,n,by simpa using hs⟩,?_⟩
  have e:=r.length
  simp only[Au] at e
  lia
theorem Inv.list_inj (I:Inv X pins Z H s)(h:SqL X.K H a xs)(h':SqL X.K H a ys):xs=ys:=by
 obtain⟨its,r,⟨o,n,e,_,_,d⟩,_⟩:=I.list h
 obtain⟨its',r',⟨o',n',e',_,_,d'⟩,_⟩:=I.list h'
 rw[e] at e';cases e'
 rw[d] at d'
 injection d' with d1 _
 have:its=its':=by simpa using congrArg Array.toList d1
 subst this
 exact r.inj r'
theorem Inv.tuple_inj (I:Inv X pins Z H s)(h:SqT X.K H a xs)(h':SqT X.K H a ys):xs=ys:=by
 obtain⟨its,r,⟨o,e,_,n,d⟩,_⟩:=I.tuple h
 obtain⟨its',r',⟨o',e',_,n',d'⟩,_⟩:=I.tuple h'
 rw[e] at e';cases e'
 rw[d] at d'
 injection d' with d1 _
 have:its=its':=by simpa using congrArg Array.toList d1
 subst this
 exact r.inj r'
end
abbrev Cx.wish (X:Cx)(E:E2->E4->Prop):Cx:={X with xe:=E}
abbrev Cx.nox (X:Cx):Cx:=X.wish λ_ _=>False
theorem Cx.Ok.wish {X:Cx}(ok:X.Ok)(E:E2->E4->Prop):(X.wish E).Ok:=
 ⟨ok.mod,ok.kind,ok.glob,ok.blt,ok.above,ok.inj,ok.has,ok.cab,ok.hd,ok.frames,ok.stk,ok.exf,ok.bs,ok.bsz,ok.noex,ok.exfs,ok.funs,ok.frf⟩
theorem Cx.Ok.unwish {X:Cx}{E:E2->E4->Prop}(ok:(X.wish E).Ok):X.Ok:=
 ⟨ok.mod,ok.kind,ok.glob,ok.blt,ok.above,ok.inj,ok.has,ok.cab,ok.hd,ok.frames,ok.stk,ok.exf,ok.bs,ok.bsz,ok.noex,ok.exfs,ok.funs,ok.frf⟩
section
variable {X:Cx}{pins:List (Ez×FF)}{Z:St}{H:Hp}{s:E4}{E:E2->E4->Prop}
theorem Inv.wish (I:Inv X pins Z H s)(E:E2->E4->Prop):Inv (X.wish E) pins Z H s:=⟨I.ok.wish E,I.os,I.bare,I.base,I.loc,I.cell,I.free,I.freeC,I.pin,I.hok,I.len⟩
theorem Inv.unwish (I:Inv (X.wish E) pins Z H s):Inv X pins Z H s:=⟨I.ok.unwish,I.os,I.bare,I.base,I.loc,I.cell,I.free,I.freeC,I.pin,I.hok,I.len⟩
theorem SP.unwish {D:Ends}{f:Flow}{s':E4}(h:SP (X.wish E) pins D f s'):SP X pins D f s':=by
 cases f with
 |next=>obtain⟨Z',H',I,q⟩:=h;exact⟨Z',H',I.unwish,q⟩
 |brk=>obtain⟨Z',H',I,q⟩:=h;exact⟨Z',H',I.unwish,q⟩
 |cont=>obtain⟨Z',H',I,q⟩:=h;exact⟨Z',H',I.unwish,q⟩
 |ret u=>obtain⟨v,Z',H',I,r,q⟩:=h;exact⟨v,Z',H',I.unwish,r,q⟩
theorem PSs.nox {st:List FS}{t:TS}(h:PSs X.nox st t):PSs X st t:=λpins s Z H D I hw=>
 FE (h pins s Z H D (I.wish _) hw) (λ_ _ q=>q.unwish) λ_ _ z=>Bg z
end
section
variable {X:Cx}{st:FS}{rest:List FS}{t u:TS}{e:FD}{te:TE}{pos:Pos}
def tNext:TS:=λD Z H=>D.nx Z H
def tSeq (t u:TS):TS:=λD Z H=>t {D with nx:=u D} Z H
theorem ZAg:PSs X [] tNext:=λ_ _ Z H _ I h=>GJ ⟨Z,H,I,h⟩
theorem ZAD (h1:PS X st t)(h2:PSs X rest u):PSs X (st::rest) (tSeq t u):=by
 intro pins s Z H D I h
 refine Gh (thn (h1 pins s Z H {D with nx:=u D} I h) λf s1 q=>?_)
 cases f with
 |next=>
  obtain⟨Z',H',I',q⟩:=q
  exact h2 pins s1 Z' H' D I' q
 |ret v=>exact q
 |brk=>exact q
 |cont=>exact q
theorem ZAH (h1:PS X st t):PSs X [st] t:=by
 intro pins s Z H D I h
 refine Gh (thn (h1 pins s Z H D I h) λf s1 q=>?_)
 cases f with
 |next=>exact GJ q
 |ret v=>exact q
 |brk=>exact q
 |cont=>exact q
theorem Inv.quiet {pins:List (Ez×FF)}{Z:St}{H:Hp}{s:E4}(I:Inv X pins Z H s):interactive X.env=false:=by simp[interactive,I.ok.kind]
def tDrop (te:TE):TS:=λD Z H=>te Z H λ_ H1=>D.nx Z H1
theorem ZGC (he:PE X e te)(hs:swapsWith e none pos.line X.env=pure false:=by rfl):PS X (.Expr e pos) (tDrop te):=by
 intro pins s Z H D I h
 exact wpAny_Expr_any (thn (he pins s Z H _ I h) λv s1 ⟨x,H1,I1,r1,q1⟩=>⟨Z,H1,I1,q1⟩) I.quiet hs
def tRet (te:TE):TS:=λD Z H=>te Z H D.rt
theorem ZAT (he:PE X e te):PS X (.Return (some e) pos) (tRet te):=by
 intro pins s Z H D I h
 exact wpAny_Return_some (thn (he pins s Z H _ I h) λv s1 ⟨x,H1,I1,r1,q1⟩=>⟨x,Z,H1,I1,r1,q1⟩)
def tIfS (c:TT)(t u:TS):TS:=λD Z H=>c Z H λb H1=>if b=true then t D Z H1 else u D Z H1
theorem ZBc {c:FD}{a b:List FS}{tc:TT}(hc:PT X c tc)(ha:PSs X a t)(hb:PSs X b u):PS X (.If c a b pos) (tIfS tc t u):=by
 intro pins s Z H D I h
 refine wpAny_If (thn (hc pins s Z H _ I h) λd s1 ⟨H1,I1,q1⟩=>?_)
 cases d with
 |true=>exact ha pins s1 Z H1 D I1 q1
 |false=>exact hb pins s1 Z H1 D I1 q1
def tNever:TS:=λ_ _ _=>False
theorem ZAo {sts:List FS}:PSs X sts tNever:=λ_ _ _ _ _ _ h=>h.elim
end
abbrev TG:=V->St->Hp->(St->Hp->Prop)->Prop
abbrev TGs:=List V->St->Hp->(St->Hp->Prop)->Prop
def PG (X:Cx)(target:FD)(t:TG):Prop:=
 ∀(pins:List (Ez×FF)) (s:E4) (Z:St) (H:Hp) (v:V) (u:E2) (Q:St->Hp->Prop),Inv X pins Z H s->RelV v u->t v Z H Q->
  E6 (model X.prog X.w) X.A (assign target X.env u) (λ_ s'=>∃Z' H',Inv X pins Z' H' s'/\Q Z' H') X.xe s
def PGs (X:Cx)(ts:List FD)(t:TGs):Prop:=
 ∀(pins:List (Ez×FF)) (s:E4) (Z:St) (H:Hp) (vs:List V) (us:List E2) (Q:St->Hp->Prop),Inv X pins Z H s->Vals vs us->t vs Z H Q->
  E6 (model X.prog X.w) X.A (assignInOrder ((assignEach ts X.env).map (·.2)) us) (λ_ s'=>∃Z' H',Inv X pins Z' H' s'/\Q Z' H') X.xe s
section
variable {X:Cx}{pos:Pos}
def ZBg (i:Nat):TG:=λv Z H Q=>Q (Z.set i (some v)) H
theorem ZAK {i:Nat}{x:E3}(hN:X.N.Nodup)(hi:X.N[i]?=some x)(hx:Loc X.env.scope x)(hf:X.fn x=true\/X.env.scope.names.lookup x=some .local:=by first|exact .inl rfl|exact .inr rfl|assumption):PG X (.Name x pos) (ZBg i):=by
 intro pins s Z H v u Q I r h
 exact wpAny_assign_Name (ZD2 I hN hi hx r (λs' I'=>⟨_,H,I',h⟩) hf)
def gNil:TGs:=λvs Z H Q=>vs= []/\Q Z H
inductive ZMD (t:TG)(u:TGs)(vs:List V)(Z:St)(H:Hp)(Q:St->Hp->Prop):Prop
 |mk:∀v r,(vs=v::r)->(t v Z H λZ' H'=>u r Z' H' Q)->ZMD t u vs Z H Q
def ZGQ (t:TG)(u:TGs):TGs:=λvs Z H Q=>ZMD t u vs Z H Q
theorem ZH3:PGs X [] gNil:=by
 intro pins s Z H vs us Q I r h
 obtain⟨e,h⟩:=h
 subst e
 cases r
 exact assignInOrder_nil ⟨Z,H,I,h⟩
theorem ZCa {e:FD}{es:List FD}{t:TG}{u:TGs}(h1:PG X e t)(h2:PGs X es u)
  (hs:(assignEach (e::es) X.env).map (·.2)=assign e X.env::(assignEach es X.env).map (·.2):=by rfl):PGs X (e::es) (ZGQ t u):=by
 intro pins s Z H vs us Q I r h
 obtain⟨v,vr,e1,h⟩:=h
 subst e1
 cases r with
 |cons r rr=>
  rw[hs]
  refine assignInOrder_cons (thn (h1 pins s Z H _ _ _ I r h) λ_ s1 ⟨Z1,H1,I1,q1⟩=>?_)
  exact h2 pins s1 Z1 H1 _ _ Q I1 rr q1
inductive ZN7 (K:AB)(n:Nat)(t:TGs)(v:V)(Z:St)(H:Hp)(Q:St->Hp->Prop):Prop
 |mk:∀a xs,(v= .ref a)->(SqT K H a xs)->(xs.length=n)->(t xs Z H Q)->ZN7 K n t v Z H Q
def gTup (K:AB)(n:Nat)(t:TGs):TG:=λv Z H Q=>ZN7 K n t v Z H Q
theorem ZKk {es:List FD}{k:Nat}{t:TGs}{n:Nat}(hc:X.calm=true)(h:PGs X es t)
  (hn:(assignEach es X.env).length=n:=by rfl) (hst:(assignEach es X.env).findIdx? (·.1)=none:=by rfl):PG X (.Tuple es k pos) (gTup X.K n t):=by
 intro pins s Z H v u Q I r hw
 obtain⟨a,xs,e1,hq,hl,hw⟩:=hw
 subst e1
 cases r
 obtain⟨its,rv,ht,hz⟩:=I.tuple hq
 refine assign_Tuple_tuple (I.ok.hd hc) ht (by simp[hn,<-hl,rv.length]) hst λh' hx=>?_
 have I1:Inv X pins Z H {s with heap:=h'}:=I.kept (t':=s.toks) λb o e=>hx b o (AV (AI e)) e
 exact h pins _ Z H xs _ Q I1 (by simpa using rv) hw
def tAsg (te:TE)(g:TG):TS:=λD Z H=>te Z H λx H1=>g x Z H1 D.nx
theorem ZAL {i:Nat}{x:E3}{e:FD}{te:TE}{pos':Pos}(hN:X.N.Nodup)(hi:X.N[i]?=some x)(hx:Loc X.env.scope x)(he:PE X e te)(hs:swapsWith e (some (.Name x pos')) pos.line X.env=pure false:=by rfl)(hf:X.fn x=true\/X.env.scope.names.lookup x=some .local:=by first|exact .inl rfl|exact .inr rfl|assumption):
  PS X (.Assign [.Name x pos'] e pos) (tAsg te (ZBg i)):=by
 intro pins s Z H D I h
 refine wpAny_Assign_Name (thn (he pins s Z H _ I h) λv s1 ⟨y,H1,I1,r1,q1⟩=>?_) hs
 exact ZD2 I1 hN hi hx r1 (λs2 I2=>⟨_,H1,I2,q1⟩) hf
inductive ZNq (i j:Nat)(D:Ends)(Z:St)(vs:List V)(H1:Hp):Prop
 |mk:∀v w,(vs= [v,w])->(D.nx ((Z.set i (some v)).set j (some w)) H1)->ZNq i j D Z vs H1
def tPar (i j:Nat)(ta:TA):TS:=λD Z H=>ta Z H λvs H1=>ZNq i j D Z vs H1
theorem ZKh {i j:Nat}{x y:E3}{a b:FD}{ta:TA}{px py pt:Pos}{kt k2 pt2}(hc:X.calm=true)(hN:X.N.Nodup)(hi:X.N[i]?=some x)(hj:X.N[j]?=some y)(hij:i≠j)
  (hx:X.env.scope.names.lookup x=some .local) (hy:X.env.scope.names.lookup y=some .local) (ha:PA X [a,b] ta)
  (hw:swappedStores [.Tuple [.Name x px,.Name y py] kt pt] (.Tuple [a,b] k2 pt2) X.env=pure (some [x,y]))
  (hs:swapsWithSole [.Tuple [.Name x px,.Name y py] kt pt] (.Tuple [a,b] k2 pt2) pos.line X.env=pure false:=by rfl):
  PS X (.Assign [.Tuple [.Name x px,.Name y py] kt pt] (.Tuple [a,b] k2 pt2) pos) (tPar i j ta):=by
 intro pins s Z H D I h
 rw[exec_Assign_arm]
 refine Ey (Ge ?_)
 rw[hs]
 refine Ey (E5 ?_)
 rw[if_neg (by decide)]
 refine Ey (Tuple_ (thn (ha _ pins s Z H _ I h) λus s1 ⟨vs,H1,I1,r1,q1⟩=>?_))
 obtain⟨v,w,e1,q1⟩:=q1
 subst e1
 obtain⟨u1,u2,rfl,rv,rw'⟩:∃u1 u2,us= [u1,u2]/\RelV v u1/\RelV w u2:=by
  cases r1 with
  |cons p q=>
   cases q with
   |cons p' q'=>
    cases q'
    exact⟨_,_,rfl,p,p'⟩
 refine FH ?_ (by show 2<=sizeLine;decide)
 have I2:Inv X pins Z H1 {s1 with heap:=s1.heap.push {cls:= .type "tuple",data:= .seq [u1,u2].toArray}}:=I1.kept (t':=s1.toks) λb o e=>AC _ e
 rw[hw]
 refine Ey (E5 ?_)
 show E6 (model X.prog X.w) X.A (do rule "assign.swapped-stores";let items<-unpackItems (.ref s1.heap.objs.size) 2 none;assignInOrder [λv=>bindName X.env y v,λv=>bindName X.env x v] items.reverse;pure Flow.next) _ _ _
 refine Ey (Fe (Ey (unpackItems_tuple (items:=#[u1,u2]) (I.ok.hd hc) (IsTup.new s1.heap _) λh' hx'=>?_)))
 have I3:=I2.kept (h':=h') (t':=s1.toks) λb o e=>hx' b o (AV (AI e)) e
 show E6 _ _ (assignInOrder [λv=>bindName X.env y v,λv=>bindName X.env x v] [u2,u1] >>= λ_=>pure Flow.next) _ _ _
 refine Ey (assignInOrder_cons (wpAny_bindName (ZD2 I3 hN hj (.inl hy) rw' (λs2 I4=>?_) (.inr hy))))
 refine assignInOrder_cons (wpAny_bindName (ZD2 I4 hN hi (.inl hx) rv (λs3 I5=>assignInOrder_nil (E5 ?_)) (.inr hx)))
 rw[List.set_comm _ _ (A9 hij)] at I5
 exact⟨_,H1,I5,q1⟩
def tWhile (c:TT)(tb:TS):TS:=λD Z H=>∃W:Nat->St->Hp->Prop,(∃m,W m Z H)/\∀m Z H,W m Z H->
 c Z H λb H1=>if b=true then∃N:St->Hp->Prop,(∀Z' H',N Z' H'->∃m',m'<m/\W m' Z' H')/\tb {D with nx:=N,ct:=N,bk:=D.nx} Z H1 else D.nx Z H1
theorem ZC9 {c:FD}{body:List FS}{tc:TT}{tb:TS}(hp:PassesOwn (model X.prog X.w) X.A X.env X.xe)(hc:PT X c tc)(hb:PSs X body tb):PS X (.While c body [] pos) (tWhile tc tb):=by
 intro pins s Z H D I h
 obtain⟨W,⟨m0,w0⟩,turn⟩:=h
 refine wpAny_While (codeAny_whileLoop (λn s'=>∃Z' H',Inv X pins Z' H' s'/\W n Z' H') ?_ m0 ⟨Z,H,I,w0⟩)
 rintro n s1 ⟨Z1,H1,I1,w1⟩
 refine Fs hp (thn (hc pins s1 Z1 H1 _ I1 (turn n Z1 H1 w1)) λb s2 ⟨H2,I2,q2⟩=>?_)
 cases b with
 |true=>
  obtain⟨N,hN,q2⟩:=q2
  rw[if_pos rfl]
  refine Fs hp (thn (hb pins s2 Z1 H2 _ I2 q2) λf s3 q3=>?_)
  cases f with
  |next=>
   obtain⟨Z3,H3,I3,n3⟩:=q3
   obtain⟨m',hm,w3⟩:=hN Z3 H3 n3
   exact⟨m',hm,Z3,H3,I3,w3⟩
  |cont=>
   obtain⟨Z3,H3,I3,n3⟩:=q3
   obtain⟨m',hm,w3⟩:=hN Z3 H3 n3
   exact⟨m',hm,Z3,H3,I3,w3⟩
  |brk=>exact q3
  |ret v=>exact q3
 |false=>
  rw[if_neg AM]
  exact GJ ⟨Z1,H2,I2,q2⟩
end
structure It where
 go:Nat->Hp->Prop
 yld:Nat->Hp->V->Hp->Prop
 stop:Nat->Hp->Prop
def FpOk (X:Cx)(pins:List (Ez×FF))(H:Hp)(b:Ez):Prop:=
 H b=none/\b≠X.env.locals/\b∉X.fs/\(b∈X.ex\/X.s₀.heap.objs.size<=b)/\(∀x c,X.env.cells.lookup x=some c->c≠b)/\∀p∈X.pn++pins,p.1≠b
theorem Inv.fpOk {X:Cx}{pins:List (Ez×FF)}{Z:St}{H H':Hp}{s:E4}{b:Ez}(I:Inv X pins Z H s)(hb:s.heap.objs.size<=b)(hn:H' b=none):FpOk X pins H' b:=by
 refine⟨hn,A4 (Af I.lt hb),I.nofs hb,.inr (As I.sz hb),λx c e z=>?_,λp hp z=>?_⟩
 ·obtain⟨v,q⟩:=I.cell x c e
  exact absurd (Af q.lt (by rw[z];exact hb)) (BM _)
 ·exact absurd (Af (AI (I.pin p hp).1) (by rw[z];exact hb)) (BM _)
structure Turn (P:E7)(w:FA)(K:AB)(tg:FD)(J:It)(fp:List Ez)(it:Ez)(tn:Nat->E9->Prop):Prop where
 mem:it∈fp
 obj:∀i h,tn i h->∀b∈fp,∃o,h.get? b=some o/\∀v,o.data≠ .cell v
 keep:∀i h h',tn i h->(∀b∈fp,∀o,h.get? b=some o->h'.get? b=some o)->tn i h'
 item:∀(X:Cx),X.prog=P->X.w=w->X.K=K->X.calm=true->∀(i:Nat) (pins:List (Ez×FF)) (s:E4) (Z:St) (H:Hp) (E:E2->E4->Prop),Inv X pins Z H s->(∀b∈fp,FpOk X pins H b)->tn i s.heap->J.go i H->
  E6 (model P w) X.A (FY (.ref it)) (λr s1=>∃u,r=some u/\
   E6 (model P w) X.A (letOwnedTupleGo tg (.ref it) u) (λ_ s2=>∃x H',Inv X pins Z H' s2/\RelV x u/\J.yld i H x H'/\tn (i+1) s2.heap/\∀b∈fp,H' b=none) E s1) E s
 done:∀(X:Cx),X.prog=P->X.w=w->X.K=K->X.calm=true->∀(i:Nat) (pins:List (Ez×FF)) (s:E4) (Z:St) (H:Hp) (E:E2->E4->Prop),Inv X pins Z H s->(∀b∈fp,FpOk X pins H b)->tn i s.heap->J.stop i H->
  E6 (model P w) X.A (FY (.ref it)) (λr s1=>r=none/\Inv X pins Z H s1) E s
 self:∀(A:FC) (i:Nat) (s:E4) (Q:E2->E4->Prop) (E:E2->E4->Prop),tn i s.heap->Q (.ref it) s->E6 (model P w) A (pyIter (.ref it)) Q E s
abbrev TI:=St->Hp->(It->Hp->Prop)->Prop
def PIE (X:Cx)(pins:List (Ez×FF))(Z:St)(tg:FD)(R:It->Hp->Prop)(itv:E2)(s2:E4):Prop:=
 ∃(it:Ez) (fp:List Ez) (tn:Nat->E9->Prop) (J:It) (H':Hp),itv= .ref it/\Inv X pins Z H' s2/\Turn X.prog X.w X.K tg J fp it tn/\tn 0 s2.heap/\(∀b∈fp,FpOk X pins H' b)/\R J H'
def PI (X:Cx)(tg iter:FD)(wi:TI):Prop:=
 ∀(pins:List (Ez×FF)) (s:E4) (Z:St) (H:Hp) (R:It->Hp->Prop),Inv X pins Z H s->wi Z H R->
  E6 (model X.prog X.w) X.A (eval iter X.env) (λv s1=>E6 (model X.prog X.w) X.A (pyIter v) (PIE X pins Z tg R) X.xe s1) X.xe s
theorem ZM6 {M:Model}{A:FC}{E:E2->E4->Prop}{s:E4}{tg:FD}{it:Ez}{u:E2}{o:FF}{n:String}{vs:Array E2}{Q:Unit->E4->Prop}(ho:s.heap.get? it=some o)(hc:o.cls= .type n)(hd:o.data= .fields vs)
  (hn: ["enumerate","zip","dict_itemiterator","dict_reverseitemiterator","odict_iterator","itertools.zip_longest","itertools.pairwise"].contains n=false) (hQ:Q () s):E6 M A (letOwnedTupleGo tg (.ref it) u) Q E s:=by
 unfold letOwnedTupleGo
 cases tg<;>first
  |exact E5 hQ
  |(cases u<;>first
     |exact E5 hQ
     |(refine Ey (GL ho ?_)
       rw[hc,hd]
       show E6 M A (if(["enumerate","zip","dict_itemiterator","dict_reverseitemiterator","odict_iterator","itertools.zip_longest","itertools.pairwise"].contains n&&vs[0]?==some (FO _))=true then _ else _) Q E s
       rw[if_neg (by intro h;rw[hn,Bool.false_and] at h;cases h)]
       exact E5 hQ))
def Itl (K:AB)(a:Ez):It:=
 ⟨λi H=>∃xs x,SqL K H a xs/\xs[i]?=some x,λi H x H'=>H'=H/\∀xs,SqL K H a xs->xs[i]?=some x,λi H=>∃xs,SqL K H a xs/\xs.length<=i⟩
def Itt (K:AB)(a:Ez):It:=
 ⟨λi H=>∃xs x,SqT K H a xs/\xs[i]?=some x,λi H x H'=>H'=H/\∀xs,SqT K H a xs->xs[i]?=some x,λi H=>∃xs,SqT K H a xs/\xs.length<=i⟩
def Itr (lo:Int)(n:Nat):It:=⟨λi _=>i<n,λi H x H'=>H'=H/\x= .int (lo+i),λi _=>n<=i⟩
theorem ZGb {P:E7}{w:FA}{K:AB}{tg:FD}(a it:Ez):Turn P w K tg (Itl K a) [it] it (λi h=>h.IsListIter it a i) where
 mem:=by simp
 obj:=λi h st b hb=>by
  have e:b=it:=by simpa using hb
  subst e
  obtain⟨o,e,c,d⟩:=st
  exact⟨o,e,λv z=>by rw[d] at z;cases z⟩
 keep:=λi h h' st k=>st.at λo e=>k it (by simp) o e
 item:=by
  intro X hP hw hK hc i pins s Z H E I hf st hg
  subst hP hw hK
  obtain⟨xs,x,hq,hx⟩:=hg
  obtain⟨its,rv,p,hz⟩:=I.list hq
  obtain⟨u,hu,ru⟩:=rv.get hx
  obtain⟨f0,f1,f2,f3,f4,f5⟩:=hf it (by simp)
  refine Gn st p.isList (x:=u) (by simpa using hu) λh' st' sb=>?_
  have I1:Inv X pins Z H {s with heap:=h'}:=I.turned (t':=s.toks) (λb o hb e=>(sb.2 b hb).trans e) f0 f1 f3 f4 f5
  obtain⟨o,e,c,d⟩:=id st'
  exact⟨u,rfl,ZM6 (s:={s with heap:=h'}) e c d (by decide) ⟨x,H,I1,ru,⟨rfl,λys hy=>by rw[I.list_inj hy hq];exact hx⟩,st',λb hb=>(hf b hb).1⟩⟩
 done:=by
  intro X hP hw hK hc i pins s Z H E I hf st hg
  subst hP hw hK
  obtain⟨xs,hq,hx⟩:=hg
  obtain⟨its,rv,p,hz⟩:=I.list hq
  obtain⟨f0,f1,f2,f3,f4,f5⟩:=hf it (by simp)
  have hl:=rv.length
  exact Gs (I.ok.hd hc) st p.isList (by simp;lia) λh' eb=>⟨rfl,I.turned (t':=s.toks) (λb o hb e=>eb b o hb e) f0 f1 f3 f4 f5⟩
 self:=λ_ _ _ _ _ st h=>wpAny_pyIter_listiter st h
theorem ZE5 {P:E7}{w:FA}{K:AB}{tg:FD}(a it:Ez):Turn P w K tg (Itt K a) [it] it (λi h=>h.IsTupleIter it a i) where
 mem:=by simp
 obj:=λi h st b hb=>by
  have e:b=it:=by simpa using hb
  subst e
  obtain⟨o,e,c,d⟩:=st
  exact⟨o,e,λv z=>by rw[d] at z;cases z⟩
 keep:=λi h h' st k=>st.at λo e=>k it (by simp) o e
 item:=by
  intro X hP hw hK hc i pins s Z H E I hf st hg
  subst hP hw hK
  obtain⟨xs,x,hq,hx⟩:=hg
  obtain⟨its,rv,p,hz⟩:=I.tuple hq
  obtain⟨u,hu,ru⟩:=rv.get hx
  obtain⟨f0,f1,f2,f3,f4,f5⟩:=hf it (by simp)
  refine GN st (show s.heap.IsTuple a its.toArray from p) (x:=u) (by simpa using hu) λh' st' sb=>?_
  have I1:Inv X pins Z H {s with heap:=h'}:=I.turned (t':=s.toks) (λb o hb e=>(sb.2 b hb).trans e) f0 f1 f3 f4 f5
  obtain⟨o,e,c,d⟩:=id st'
  exact⟨u,rfl,ZM6 (s:={s with heap:=h'}) e c d (by decide) ⟨x,H,I1,ru,⟨rfl,λys hy=>by rw[I.tuple_inj hy hq];exact hx⟩,st',λb hb=>(hf b hb).1⟩⟩
 done:=by
  intro X hP hw hK hc i pins s Z H E I hf st hg
  subst hP hw hK
  obtain⟨xs,hq,hx⟩:=hg
  obtain⟨its,rv,p,hz⟩:=I.tuple hq
  obtain⟨f0,f1,f2,f3,f4,f5⟩:=hf it (by simp)
  have hl:=rv.length
  exact GO (I.ok.hd hc) st (show s.heap.IsTuple a its.toArray from p) (by simp;lia) λh' eb=>⟨rfl,I.turned (t':=s.toks) (λb o hb e=>eb b o hb e) f0 f1 f3 f4 f5⟩
 self:=λ_ _ _ _ _ st h=>wpAny_pyIter_tupleiter st h
theorem ZJQ {P:E7}{w:FA}{K:AB}{tg:FD}(it:Ez)(lo:Int)(n:Nat):Turn P w K tg (Itr lo n) [it] it (λi h=>IsRangeIter h it (lo+(i:Nat)*1) ((n:Int)-(i:Nat)) 1) where
 mem:=by simp
 obj:=λi h st b hb=>by
  have e:b=it:=by simpa using hb
  subst e
  exact⟨_,st,λv z=>by
   have z':Data.fields _=Data.cell v:=z
   cases z'⟩
 keep:=λi h h' st k=>k it (by simp) _ st
 item:=by
  intro X hP hw hK hc i pins s Z H E I hf st hg
  subst hP hw hK
  obtain⟨f0,f1,f2,f3,f4,f5⟩:=hf it (by simp)
  have W:=Walks.range (prog:=X.prog) (w:=X.w) (I.ok.hd hc) it lo 1 n
  refine W.item i s _ _ hg st λv h' tk hv st' kk=>?_
  obtain⟨t,rfl⟩:=hv
  have I1:Inv X pins Z H {s with heap:=h',toks:=tk}:=I.turned (λb o hb e=>kk b o (by simpa using hb) e) f0 f1 f3 f4 f5
  refine⟨_,rfl,ZM6 (s:={s with heap:=h',toks:=tk}) (n:="range_iterator") st' rfl rfl (by decide) ⟨.int (lo+i),H,I1,⟨t,?_⟩,⟨rfl,rfl⟩,st',λb hb=>(hf b hb).1⟩⟩
  rw[Int.mul_one]
 done:=by
  intro X hP hw hK hc i pins s Z H E I hf st hg
  subst hP hw hK
  obtain⟨f0,f1,f2,f3,f4,f5⟩:=hf it (by simp)
  exact wpAny_pyNext_range_end (I.ok.hd hc) st (by have:n<=i:=hg;lia) λh' eb=>⟨rfl,I.turned (t':=s.toks) (λb o hb e=>eb b o hb e) f0 f1 f3 f4 f5⟩
 self:=λ_ _ _ _ _ st h=>wpAny_pyIter_rangeiter st h
section
variable {X:Cx}{tg:FD}
inductive ZMC (K:AB)(R:It->Hp->Prop)(x:V)(H1:Hp):Prop
 |mk:∀a,(x= .ref a)->((∃xs,SqL K H1 a xs))->(R (Itl K a) H1)->ZMC K R x H1
def iList (K:AB)(tl:TE):TI:=λZ H R=>tl Z H λx H1=>ZMC K R x H1
inductive ZN4 (K:AB)(R:It->Hp->Prop)(x:V)(H1:Hp):Prop
 |mk:∀a,(x= .ref a)->((∃xs,SqT K H1 a xs))->(R (Itt K a) H1)->ZN4 K R x H1
def iTup (K:AB)(tl:TE):TI:=λZ H R=>tl Z H λx H1=>ZN4 K R x H1
theorem ZCC {l:FD}{tl:TE}(hl:PE X l tl):PI X tg l (iList X.K tl):=by
 intro pins s Z H R I h
 refine thn (hl pins s Z H _ I h) λv s1 ⟨x,H1,I1,r1,q1⟩=>?_
 obtain⟨a,e,⟨xs,hq⟩,q⟩:=q1
 subst e
 cases r1
 obtain⟨its,rv,p,hz⟩:=I1.list hq
 refine Fo p.isList ?_
 refine⟨s1.heap.objs.size,[s1.heap.objs.size],_,_,H1,rfl,I1.kept (t':=s1.toks) λb o e=>AC _ e,ZGb a _,⟨_,AN _ rfl,rfl,rfl⟩,λb hb=>?_,q⟩
 have e:b=s1.heap.objs.size:=by simpa using hb
 subst e
 exact I1.fpOk (AK _) (I1.hok.fresh (AK _))
theorem ZAp {l:FD}{tl:TE}(hl:PE X l tl):PI X tg l (iTup X.K tl):=by
 intro pins s Z H R I h
 refine thn (hl pins s Z H _ I h) λv s1 ⟨x,H1,I1,r1,q1⟩=>?_
 obtain⟨a,e,⟨xs,hq⟩,q⟩:=q1
 subst e
 cases r1
 obtain⟨its,rv,p,hz⟩:=I1.tuple hq
 refine GA (show s1.heap.IsTuple a its.toArray from p) ?_
 refine⟨s1.heap.objs.size,[s1.heap.objs.size],_,_,H1,rfl,I1.kept (t':=s1.toks) λb o e=>AC _ e,ZE5 a _,⟨_,AN _ rfl,rfl,rfl⟩,λb hb=>?_,q⟩
 have e:b=s1.heap.objs.size:=by simpa using hb
 subst e
 exact I1.fpOk (AK _) (I1.hok.fresh (AK _))
theorem ZMU {pins:List (Ez×FF)}{Z:St}{H:Hp}{s:E4}{R:It->Hp->Prop}{E:E2->E4->Prop}{lo hi:Int}{t u v:Tok}{tk:Nat}(I:Inv X pins Z H s)(h1: -(2 ^ 62)<=lo)(h2:lo<2 ^ 62)(h3: -(2 ^ 62)<=hi)(h4:hi<2 ^ 62)
  (q:R (Itr lo (hi-lo).toNat) H):E6 (model X.prog X.w) X.A (pyIter (.ref s.heap.objs.size)) (PIE X pins Z tg R) E {s with heap:=s.heap.push {cls:= .type "range",data:= .fields #[.int lo t,.int hi u,.int 1 v]},toks:=tk}:=by
 refine wpAny_pyIter_range (IsRange.new ..) (small_one h1 h2 h3 h4) ?_
 have I1:Inv X pins Z H {s with heap:=s.heap.push {cls:= .type "range",data:= .fields #[.int lo t,.int hi u,.int 1 v]},toks:=tk}:=I.kept λb o e=>AC _ e
 refine⟨(s.heap.push {cls:= .type "range",data:= .fields #[.int lo t,.int hi u,.int 1 v]}).objs.size,[(s.heap.push {cls:= .type "range",data:= .fields #[.int lo t,.int hi u,.int 1 v]}).objs.size],_,_,H,rfl,
  I1.kept (t':=tk) λb o e=>AC _ e,ZJQ _ lo (hi-lo).toNat,?_,λb hb=>?_,q⟩
 ·have e1:lo+((0:Nat):Int)*1=lo:=by simp
  have e2:(((hi-lo).toNat:Nat):Int)-((0:Nat):Int)=Builtin.Range.rangeSize lo hi 1:=by rw[rangeSize_one];split<;>lia
  show IsRangeIter _ _ (lo+((0:Nat):Int)*1) ((((hi-lo).toNat:Nat):Int)-((0:Nat):Int)) 1
  rw[e1,e2]
  exact AN _ rfl
 ·have e:b=(s.heap.push {cls:= .type "range",data:= .fields #[.int lo t,.int hi u,.int 1 v]}).objs.size:=by simpa using hb
  subst e
  exact I1.fpOk (AK _) (I1.hok.fresh (AK _))
inductive ZMB (R:It->Hp->Prop)(vs:List V)(H1:Hp):Prop
 |mk:∀(j:Int),(vs= [.int j])->(-(2 ^ 62)<=j)->(j<2 ^ 62)->(R (Itr 0 j.toNat) H1)->ZMB R vs H1
def iRng1 (ta:TA):TI:=λZ H R=>ta Z H λvs H1=>ZMB R vs H1
theorem ZA6 {a:FD}{ta:TA}{p pos:Pos}(hg:Gl X "range")(hm:X.mg "range"=none)(ha:PA X [a] ta)(hs:FG [a] X.env= [(false,eval a X.env)]:=by rfl):PI X tg (.Call (.Name "range" p) [a] [] pos) (iRng1 ta):=by
 intro pins s Z H R I h
 refine Call_ (ZDs I hg hm boot_range (BY (thn (ha pos pins s Z H _ I h) λus s1 ⟨vs,H1,I1,r1,q1⟩=>?_) hs rfl))
 obtain⟨j,e,q1,q2,q⟩:=q1
 subst e
 cases r1 with
 |cons r rr=>
  cases rr
  obtain⟨t,rfl⟩:=r
  exact call_range_1 (ZMU I1 (by lia) (by lia) q1 q2 (by simpa using q))
def tFor (wi:TI)(g:TG)(tb:TS):TS:=λD Z H=>wi Z H λJ H1=>∃W:Nat->Nat->St->Hp->Prop,(∃m,W 0 m Z H1)/\∀i m Z H,W i m Z H->
 (J.stop i H/\D.nx Z H)\/(J.go i H/\∃N:St->Hp->Prop,(∀Z' H',N Z' H'->∃m',m'<m/\W (i+1) m' Z' H')/\∀x H',J.yld i H x H'->g x Z H' λZ2 H2=>tb {D with nx:=N,ct:=N,bk:=D.nx} Z2 H2)
def ZFJ (fp:List Ez)(h:E9):List (Ez×FF):=fp.filterMap λb=>(h.get? b).map λo=>(b,o)
theorem ZAf {fp:List Ez}{h:E9}{b:Ez}{o:FF}(hb:b∈fp)(e:h.get? b=some o):(b,o)∈ZFJ fp h:=Er.mpr ⟨b,hb,by rw[e];rfl⟩
theorem ZK7 {fp:List Ez}{h:E9}{p:Ez×FF}(hp:p∈ZFJ fp h):p.1∈fp/\h.get? p.1=some p.2:=by
 obtain⟨b,hb,e⟩:=Er.mp hp
 cases q:h.get? b with
 |none=>rw[q] at e;cases e
 |some o=>
  rw[q] at e
  have e':(b,o)=p:=Aj e
  subst e'
  exact⟨hb,q⟩
theorem Inv.pinned {pins:List (Ez×FF)}{Z:St}{H:Hp}{s:E4}{fp:List Ez}(I:Inv X pins Z H s)(hf:∀b∈fp,FpOk X pins H b)(ho:∀b∈fp,∃o,s.heap.get? b=some o/\∀v,o.data≠ .cell v):Inv X (pins++ZFJ fp s.heap) Z H s:=
 I.pins_of λp hp=>(AY.mp hp).elim (λz=>I.pin p (AU _ z)) λz=>by
  obtain⟨hb,e⟩:=ZK7 z
  obtain⟨f0,f1,f2,_⟩:=hf p.1 hb
  obtain⟨o,e',d⟩:=ho p.1 hb
  rw[e] at e';cases e'
  exact⟨e,f0,f1,f2,d⟩
theorem Inv.unpinned {pins pl:List (Ez×FF)}{Z:St}{H:Hp}{s:E4}(I:Inv X (pins++pl) Z H s):Inv X pins Z H s:=I.pins_of λp hp=>I.pin p (AU _ (BD _ hp))
theorem ZCK {iter:FD}{body:List FS}{wi:TI}{g:TG}{tb:TS}{pos:Pos}(hp:PassesOwn (model X.prog X.w) X.A X.env X.xe)(hc:X.calm=true)(hi:PI X tg iter wi)(hg:PG X tg g)(hb:PSs X body tb)
  (hs:∀x,foldedSetIterable iter X.env x=pure x:=by intro _;rfl):PS X (.For tg iter body [] pos) (tFor wi g tb):=by
 intro pins s Z H D I h
 refine wpAny_For (thn (hi pins s Z H _ I h) λv s1 h1=>thn h1 λitv s2 h2=>?_) hs
 obtain⟨it,fp,tn,J,H2,e,I2,T,st2,f2,W,⟨m0,w0⟩,turn⟩:=h2
 subst e
 --what stays true of the iterator's objects through the loop
 have stat:∀{H':Hp},(∀b∈fp,H' b=none)->∀b∈fp,FpOk X pins H' b:=λhn b hb=>⟨hn b hb,(f2 b hb).2⟩
 refine codeAny_forLoop_any (λn s'=>∃i Z' H',Inv X pins Z' H' s'/\tn i s'.heap/\(∀b∈fp,H' b=none)/\W i n Z' H') ?_ m0 ⟨0,Z,H2,I2,st2,λb hb=>(f2 b hb).1,w0⟩
 rintro n s3 ⟨i,Z3,H3,I3,st3,fr3,w3⟩
 rcases turn i n Z3 H3 w3 with⟨stop,qn⟩|⟨go,N,hN,step⟩
 ·refine Fs hp (thn (T.done X rfl rfl rfl hc i pins s3 Z3 H3 X.xe I3 (stat fr3) st3 stop) λr s4 ⟨hr,I4⟩=>?_)
  subst hr
  exact GJ ⟨Z3,H3,I4,qn⟩
 ·refine Fs hp (thn (T.item X rfl rfl rfl hc i pins s3 Z3 H3 X.xe I3 (stat fr3) st3 go) λr s4 ⟨u,hr,h4⟩=>?_)
  subst hr
  refine Fs hp (thn h4 λ_ s5 ⟨x,H5,I5,r5,y5,st5,fr5⟩=>?_)
  have I5':=I5.pinned (stat fr5) (T.obj _ _ st5)
  refine Fs hp (thn (hg _ s5 Z3 H5 x u _ I5' r5 (step x H5 y5)) λ_ s6 ⟨Z6,H6,I6,q6⟩=>?_)
  refine Fs hp (thn (hb _ s6 Z6 H6 _ I6 q6) λf s7 q7=>?_)
  have again:∀{Z7:St} {H7:Hp},Inv X (pins++ZFJ fp s5.heap) Z7 H7 s7->N Z7 H7->∃m,m<n/\∃i Z' H',Inv X pins Z' H' s7/\tn i s7.heap/\(∀b∈fp,H' b=none)/\W i m Z' H':=λ{Z7 H7} I7 n7=>by
   obtain⟨m',hm,w7⟩:=hN Z7 H7 n7
   refine⟨m',hm,i+1,Z7,H7,I7.unpinned,T.keep _ _ _ st5 λb hb o e=>(I7.pin (b,o) (AU _ (AU _ (ZAf hb e)))).1,λb hb=>?_,w7⟩
   obtain⟨o,e,d⟩:=T.obj _ _ st5 b hb
   exact(I7.pin (b,o) (AU _ (AU _ (ZAf hb e)))).2.1
  cases f with
  |next=>obtain⟨Z7,H7,I7,n7⟩:=q7;exact again I7 n7
  |cont=>obtain⟨Z7,H7,I7,n7⟩:=q7;exact again I7 n7
  |brk=>obtain⟨Z7,H7,I7,q7⟩:=q7;exact⟨Z7,H7,I7.unpinned,q7⟩
  |ret v=>obtain⟨x7,Z7,H7,I7,r7,q7⟩:=q7;exact⟨x7,Z7,H7,I7.unpinned,r7,q7⟩
end
theorem ZIz {K:AB}{a:Ez}{xs:List V}{g:TG}{tb:TS}{D:Ends}{Z:St}{H:Hp}(Pv:Nat->St->Hp->Prop)(h0:Pv 0 Z H)(hl:∀i Z H,i<=xs.length->Pv i Z H->SqL K H a xs)
  (hs:∀i x Z H,xs[i]?=some x->Pv i Z H->g x Z H λZ2 H2=>tb {D with nx:=Pv (i+1),ct:=Pv (i+1),bk:=D.nx} Z2 H2) (hd:∀Z H,Pv xs.length Z H->D.nx Z H):
  ∃W:Nat->Nat->St->Hp->Prop,(∃m,W 0 m Z H)/\∀i m Z H,W i m Z H->
   ((Itl K a).stop i H/\D.nx Z H)\/((Itl K a).go i H/\∃N:St->Hp->Prop,(∀Z' H',N Z' H'->∃m',m'<m/\W (i+1) m' Z' H')/\∀x H',(Itl K a).yld i H x H'->g x Z H' λZ2 H2=>tb {D with nx:=N,ct:=N,bk:=D.nx} Z2 H2):=by
 refine⟨λi m Z H=>m=xs.length-i/\i<=xs.length/\Pv i Z H,⟨xs.length,by simp,Aq _,h0⟩,?_⟩
 rintro i m Z H ⟨rfl,hi,p⟩
 have q:=hl i Z H hi p
 by_cases hlt:i<xs.length
 ·refine .inr ⟨⟨xs,xs[i],q,by simp[hlt]⟩,Pv (i+1),λZ' H' p'=>⟨xs.length-(i+1),by lia,rfl,hlt,p'⟩,λx H' y=>?_⟩
  obtain⟨e,y⟩:=y
  subst e
  exact hs i x Z _ (y xs q) p
 ·have e:i=xs.length:=by lia
  subst e
  exact .inl ⟨⟨xs,q,AK _⟩,hd Z H p⟩
theorem ZIE {K:AB}{a:Ez}{xs:List V}{g:TG}{tb:TS}{D:Ends}{Z:St}{H:Hp}(Pv:Nat->St->Hp->Prop)(h0:Pv 0 Z H)(hl:∀i Z H,i<=xs.length->Pv i Z H->SqT K H a xs)
  (hs:∀i x Z H,xs[i]?=some x->Pv i Z H->g x Z H λZ2 H2=>tb {D with nx:=Pv (i+1),ct:=Pv (i+1),bk:=D.nx} Z2 H2) (hd:∀Z H,Pv xs.length Z H->D.nx Z H):
  ∃W:Nat->Nat->St->Hp->Prop,(∃m,W 0 m Z H)/\∀i m Z H,W i m Z H->
   ((Itt K a).stop i H/\D.nx Z H)\/((Itt K a).go i H/\∃N:St->Hp->Prop,(∀Z' H',N Z' H'->∃m',m'<m/\W (i+1) m' Z' H')/\∀x H',(Itt K a).yld i H x H'->g x Z H' λZ2 H2=>tb {D with nx:=N,ct:=N,bk:=D.nx} Z2 H2):=by
 refine⟨λi m Z H=>m=xs.length-i/\i<=xs.length/\Pv i Z H,⟨xs.length,by simp,Aq _,h0⟩,?_⟩
 rintro i m Z H ⟨rfl,hi,p⟩
 have q:=hl i Z H hi p
 by_cases hlt:i<xs.length
 ·refine .inr ⟨⟨xs,xs[i],q,by simp[hlt]⟩,Pv (i+1),λZ' H' p'=>⟨xs.length-(i+1),by lia,rfl,hlt,p'⟩,λx H' y=>?_⟩
  obtain⟨e,y⟩:=y
  subst e
  exact hs i x Z _ (y xs q) p
 ·have e:i=xs.length:=by lia
  subst e
  exact .inl ⟨⟨xs,q,AK _⟩,hd Z H p⟩
theorem ZBy {lo:Int}{n:Nat}{g:TG}{tb:TS}{D:Ends}{Z:St}{H:Hp}(Pv:Nat->St->Hp->Prop)(h0:Pv 0 Z H)
  (hs:∀i Z H,i<n->Pv i Z H->g (.int (lo+i)) Z H λZ2 H2=>tb {D with nx:=Pv (i+1),ct:=Pv (i+1),bk:=D.nx} Z2 H2) (hd:∀Z H,Pv n Z H->D.nx Z H):
  ∃W:Nat->Nat->St->Hp->Prop,(∃m,W 0 m Z H)/\∀i m Z H,W i m Z H->
   ((Itr lo n).stop i H/\D.nx Z H)\/((Itr lo n).go i H/\∃N:St->Hp->Prop,(∀Z' H',N Z' H'->∃m',m'<m/\W (i+1) m' Z' H')/\∀x H',(Itr lo n).yld i H x H'->g x Z H' λZ2 H2=>tb {D with nx:=N,ct:=N,bk:=D.nx} Z2 H2):=by
 refine⟨λi m Z H=>m=n-i/\i<=n/\Pv i Z H,⟨n,by simp,Aq _,h0⟩,?_⟩
 rintro i m Z H ⟨rfl,hi,p⟩
 by_cases hlt:i<n
 ·refine .inr ⟨hlt,Pv (i+1),λZ' H' p'=>⟨n-(i+1),by lia,rfl,hlt,p'⟩,λx H' y=>?_⟩
  obtain⟨e,y⟩:=y
  subst e y
  exact hs i Z _ hlt p
 ·have e:i=n:=by lia
  subst e
  exact .inl ⟨AK _,hd Z H p⟩
abbrev R2:=V->V->Hp->VK->Prop
def OpR (X:Cx)(f:E2->E2->Sem E2)(r:R2):Prop:=
 ∀(pins:List (Ez×FF)) (s:E4) (Z:St) (H:Hp) (x y:V) (v u:E2) (Q:VK),Inv X pins Z H s->RelV x v->RelV y u->r x y H Q->
  E6 (model X.prog X.w) X.A (f v u) (EP X pins Z Q) X.xe s
def ZB6 (X:Cx)(f:E2)(r:List V->Hp->VK->Prop):Prop:=
 ∀(pins:List (Ez×FF)) (s:E4) (Z:St) (H:Hp) (xs:List V) (us:List E2) (Q:VK),Inv X pins Z H s->Vals xs us->r xs H Q->
  E6 (model X.prog X.w) X.A (call f us) (EP X pins Z Q) X.xe s
def TruR (X:Cx)(r:V->Hp->(Bool->Hp->Prop)->Prop):Prop:=
 ∀(pins:List (Ez×FF)) (s:E4) (Z:St) (H:Hp) (x:V) (v:E2) (Q:Bool->Hp->Prop),Inv X pins Z H s->RelV x v->r x H Q->
  E6 (model X.prog X.w) X.A (truthy v) (TP X pins Z Q) X.xe s
def tOp (r:R2)(ta tb:TE):TE:=λZ H Q=>ta Z H λx H1=>tb Z H1 λy H2=>r x y H2 Q
inductive I_rI (C:Int->Int->Prop)(g:Int->Int->V)(x:V)(y:V)(H:Hp)(Q:VK):Prop
 |mk:∀i j,(x= .int i)->(y= .int j)->(C i j)->(Q (g i j) H)->I_rI C g x y H Q
def rI (C:Int->Int->Prop)(g:Int->Int->V):R2:=λx y H Q=>I_rI C g x y H Q
inductive I_rI0 (g:Int->Int->V)(x:V)(y:V)(H:Hp)(Q:VK):Prop
 |mk:∀i j,(x= .int i)->(y= .int j)->(Q (g i j) H)->I_rI0 g x y H Q
def rI0 (g:Int->Int->V):R2:=λx y H Q=>I_rI0 g x y H Q
section
variable {X:Cx}{a b c:FD}{ta tb tc:TE}{pos:Pos}
theorem binT (ha:PE X a ta)(hb:PE X b tb){pins:List (Ez×FF)}{s:E4}{Z:St}{H:Hp}{R:V->V->Hp->Prop}(I:Inv X pins Z H s)
  (h:ta Z H λx H1=>tb Z H1 λy H2=>R x y H2) {Q:E2->E4->Prop} {f:E2->E2->Sem E2}
  (hf:∀v u s2 x y H2,Inv X pins Z H2 s2->RelV x v->RelV y u->R x y H2->E6 (model X.prog X.w) X.A (f v u) Q X.xe s2):
  E6 (model X.prog X.w) X.A (eval a X.env) (λv s₁=>E6 (model X.prog X.w) X.A (eval b X.env) (λu s₂=>E6 (model X.prog X.w) X.A (f v u) Q X.xe s₂) X.xe s₁) X.xe s:=by
 refine thn (ha pins s Z H _ I h) λv s1 ⟨x,H1,I1,r1,q1⟩=>?_
 refine thn (hb pins s1 Z H1 _ I1 q1) λu s2 ⟨y,H2,I2,r2,q2⟩=>?_
 exact hf v u s2 x y H2 I2 r1 r2 q2
theorem ZA7 {op:Operator}{r:R2}(ho:OpR X (binaryOp op) r)(ha:PE X a ta)(hb:PE X b tb):PE X (.BinOp a op b pos) (tOp r ta tb):=by
 intro pins s Z H Q I h
 exact wpAny_BinOp (binT ha hb I h λv u s2 x y H2 I2 rx ry q=>ho pins s2 Z H2 x y v u Q I2 rx ry q)
theorem opI {f:E2->E2->Sem E2}{C:Int->Int->Prop}{g:Int->Int->Int}
  (rule:∀(i j:Int) (t u:Tok) (s:E4) (Q:E2->E4->Prop) (E:E2->E4->Prop),C i j->Q (.int (g i j) s.toks) {s with toks:=s.toks+1}->E6 (model X.prog X.w) X.A (f (.int i t) (.int j u)) Q E s):
  OpR X f (rI C λi j=> .int (g i j)):=by
 intro pins s Z H x y v u Q I rx ry h
 obtain⟨i,j,rfl,rfl,hc,q⟩:=h
 obtain⟨t,rfl⟩:=rx
 obtain⟨t',rfl⟩:=ry
 exact rule i j t t' s _ _ hc ⟨.int (g i j),H,I.tok _,⟨_,rfl⟩,q⟩
theorem opI0 {f:E2->E2->Sem E2}{g:Int->Int->Int}
  (rule:∀(i j:Int) (t u:Tok) (s:E4) (Q:E2->E4->Prop) (E:E2->E4->Prop),Q (.int (g i j) s.toks) {s with toks:=s.toks+1}->E6 (model X.prog X.w) X.A (f (.int i t) (.int j u)) Q E s):
  OpR X f (rI0 λi j=> .int (g i j)):=by
 intro pins s Z H x y v u Q I rx ry h
 obtain⟨i,j,rfl,rfl,q⟩:=h
 obtain⟨t,rfl⟩:=rx
 obtain⟨t',rfl⟩:=ry
 exact rule i j t t' s _ _ ⟨.int (g i j),H,I.tok _,⟨_,rfl⟩,q⟩
theorem opB0 {f:E2->E2->Sem E2}{g:Int->Int->Bool}
  (rule:∀(i j:Int) (t u:Tok) (s:E4) (Q:E2->E4->Prop) (E:E2->E4->Prop),Q (.bool (g i j)) s->E6 (model X.prog X.w) X.A (f (.int i t) (.int j u)) Q E s):
  OpR X f (rI0 λi j=> .bl (g i j)):=by
 intro pins s Z H x y v u Q I rx ry h
 obtain⟨i,j,rfl,rfl,q⟩:=h
 obtain⟨t,rfl⟩:=rx
 obtain⟨t',rfl⟩:=ry
 exact rule i j t t' s _ _ ⟨.bl (g i j),H,I,rfl,q⟩
def CDiv (i j:Int):Prop:=0<j/\j<1073741824
def CMul (i j:Int):Prop:=(-(2 ^ 64)<i/\i<2 ^ 64)\/(-(2 ^ 64)<j/\j<2 ^ 64)
theorem CMul.ok {i j:Int}(h:CMul i j):IntMulOk i j:=by
 rcases h with⟨h1,h2⟩|⟨h1,h2⟩
 ·exact .of_left (intBits_le_64 h1 h2)
 ·exact .of_right (intBits_le_64 h1 h2)
theorem ZKv:OpR X (binaryOp .Add) (rI0 λi j=> .int (i+j)):=opI0 λ_ _ _ _ _ _ _ q=>add_int q
theorem ZFM:OpR X (binaryOp .Mult) (rI CMul λi j=> .int (i*j)):=opI λ_ _ _ _ _ _ _ hc q=>mul_int q hc.ok
theorem ZKu:OpR X (binaryOp .FloorDiv) (rI CDiv λi j=> .int (i / j)):=opI λi j _ _ _ _ _ hc q=>by
 have h1:(0:Int)<j:=hc.1
 have h2:j<1073741824:=hc.2
 exact floordiv_int (by lia) (by rw[Int.fdiv_eq_ediv_of_nonneg i (by lia)];exact q) (.inl (PyProof.noPylong_small (by lia)))
theorem ZEW:OpR X (binaryOp .Mod) (rI (λ_ j=>0<j) λi j=> .int (i % j)):=opI λi j _ _ _ _ _ hc q=>by
 have h1:(0:Int)<j:=hc
 exact mod_int' (by lia) (by rw[Int.fmod_eq_emod_of_nonneg i (by lia)];exact q)
end
def scal:V->V->Bool
 | .non,.non=>true| .non,.int _=>true| .int _,.non=>true| .non,.bl _=>true| .bl _,.non=>true| .non,.str _=>true| .str _,.non=>true
 | .int _,.int _=>true| .bl _,.bl _=>true| .str _,.str _=>true| .byt _,.byt _=>true
 | .int _,.str _=>true| .str _,.int _=>true| .bl _,.str _=>true| .str _,.bl _=>true
 |_,_=>false
def rEq:R2:=λx y H Q=>scal x y=true/\Q (.bl (decide (x=y))) H
def rNe:R2:=λx y H Q=>scal x y=true/\Q (.bl (!decide (x=y))) H
theorem ZLZ {i j:Int}:decide (V.int i=V.int j)=(i==j):=by
 rw[B1]
 simp
theorem ZNj {i j:Bool}:decide (V.bl i=V.bl j)=(i==j):=by
 rw[B1]
 simp
theorem ZLY {i j:E3}:decide (V.str i=V.str j)=(i==j):=by
 rw[B1]
 simp
theorem ZLa {i j:Array UInt8}:decide (V.byt i=V.byt j)=(i.toList==j.toList):=by
 rw[B1]
 cases i
 cases j
 simp
section
variable {X:Cx}{a b c:FD}{ta tb tc:TE}{pos:Pos}
theorem ZAi {pins:List (Ez×FF)}{Z:St}{H:Hp}{s:E4}{Q:VK}{k k':Bool}(I:Inv X pins Z H s)(q:Q (.bl k) H)(e:k=k'):EP X pins Z Q (.bool k') s:=by
 subst e
 exact⟨.bl k,H,I,rfl,q⟩
theorem ZMd:OpR X (Fh .Eq) rEq:=by
 intro pins s Z H x y v u Q I rx ry h
 obtain⟨hs,q⟩:=h
 cases x with
 |non=>
  cases rx
  cases y with
  |non=>cases ry;exact PySem.EqNone.eq_none_none (ZAi I q (by simp))
  |bl j=>cases ry;exact PySem.EqNone.eq_none_bool (ZAi I q (by simp))
  |int j=>obtain⟨t',rfl⟩:=ry;exact PySem.EqNone.eq_none_int (ZAi I q (by simp))
  |str j=>obtain⟨t',rfl⟩:=ry;exact PySem.EqNone.eq_none_str (ZAi I q (by simp))
  |_=>exact absurd (show false=true from hs) AM
 |bl i=>
  cases rx
  cases y with
  |non=>cases ry;exact PySem.EqNone.eq_bool_none (ZAi I q (by simp))
  |bl j=>cases ry;exact eq_bool (ZAi I q ZNj)
  |str j=>obtain⟨t',rfl⟩:=ry;exact PySem.EqMixed.eq_bool_str (ZAi I q (by simp))
  |_=>exact absurd (show false=true from hs) AM
 |int i=>
  obtain⟨t,rfl⟩:=rx
  cases y with
  |non=>cases ry;exact PySem.EqNone.eq_int_none (ZAi I q (by simp))
  |int j=>obtain⟨t',rfl⟩:=ry;exact eq_int (ZAi I q ZLZ)
  |str j=>obtain⟨t',rfl⟩:=ry;exact PySem.EqMixed.eq_int_str (ZAi I q (by simp))
  |_=>exact absurd (show false=true from hs) AM
 |str i=>
  obtain⟨t,rfl⟩:=rx
  cases y with
  |non=>cases ry;exact PySem.EqNone.eq_str_none (ZAi I q (by simp))
  |bl j=>cases ry;exact PySem.EqMixed.eq_str_bool (ZAi I q (by simp))
  |int j=>obtain⟨t',rfl⟩:=ry;exact PySem.EqMixed.eq_str_int (ZAi I q (by simp))
  |str j=>obtain⟨t',rfl⟩:=ry;exact eq_str (ZAi I q ZLY)
  |_=>exact absurd (show false=true from hs) AM
 |byt i=>
  obtain⟨t,rfl⟩:=rx
  cases y with
  |byt j=>obtain⟨t',rfl⟩:=ry;exact PySem.W.eq_bytes (ZAi I q ZLa)
  |_=>exact absurd (show false=true from hs) AM
 |_=>cases y<;>exact absurd (show false=true from hs) AM
theorem ZJo:OpR X (Fh .NotEq) rNe:=by
 intro pins s Z H x y v u Q I rx ry h
 obtain⟨hs,q⟩:=h
 cases x with
 |non=>
  cases rx
  cases y with
  |non=>cases ry;exact PySem.EqNone.ne_none_none (ZAi I q (by simp))
  |bl j=>cases ry;exact PySem.EqNone.ne_none_bool (ZAi I q (by simp))
  |int j=>obtain⟨t',rfl⟩:=ry;exact PySem.EqNone.ne_none_int (ZAi I q (by simp))
  |str j=>obtain⟨t',rfl⟩:=ry;exact PySem.EqNone.ne_none_str (ZAi I q (by simp))
  |_=>exact absurd (show false=true from hs) AM
 |bl i=>
  cases rx
  cases y with
  |non=>cases ry;exact PySem.EqNone.ne_bool_none (ZAi I q (by simp))
  |bl j=>cases ry;exact ne_bool (ZAi I q (congrArg not ZNj))
  |str j=>obtain⟨t',rfl⟩:=ry;exact PySem.EqMixed.ne_bool_str (ZAi I q (by simp))
  |_=>exact absurd (show false=true from hs) AM
 |int i=>
  obtain⟨t,rfl⟩:=rx
  cases y with
  |non=>cases ry;exact PySem.EqNone.ne_int_none (ZAi I q (by simp))
  |int j=>obtain⟨t',rfl⟩:=ry;exact ne_int (ZAi I q (congrArg not ZLZ))
  |str j=>obtain⟨t',rfl⟩:=ry;exact PySem.EqMixed.ne_int_str (ZAi I q (by simp))
  |_=>exact absurd (show false=true from hs) AM
 |str i=>
  obtain⟨t,rfl⟩:=rx
  cases y with
  |non=>cases ry;exact PySem.EqNone.ne_str_none (ZAi I q (by simp))
  |bl j=>cases ry;exact PySem.EqMixed.ne_str_bool (ZAi I q (by simp))
  |int j=>obtain⟨t',rfl⟩:=ry;exact PySem.EqMixed.ne_str_int (ZAi I q (by simp))
  |str j=>obtain⟨t',rfl⟩:=ry;exact ne_str (ZAi I q (congrArg not ZLY))
  |_=>exact absurd (show false=true from hs) AM
 |byt i=>
  obtain⟨t,rfl⟩:=rx
  cases y with
  |byt j=>obtain⟨t',rfl⟩:=ry;exact PySem.W.ne_bytes (ZAi I q (congrArg not ZLa))
  |_=>exact absurd (show false=true from hs) AM
 |_=>cases y<;>exact absurd (show false=true from hs) AM
theorem op_gt:OpR X (Fh .Gt) (rI0 λi j=> .bl (decide (j<i))):=opB0 λ_ _ _ _ _ _ _ q=>gt_int q
theorem ZAm (b:FD){op:CmpOp}(h:op≠ .In:=by decide)(h2:op≠ .NotIn:=by decide):behindInMarks op b=false:=by
 have e1:(op==CmpOp.In)=false:=by cases op<;>first|rfl|exact absurd rfl h
 have e2:(op==CmpOp.NotIn)=false:=by cases op<;>first|rfl|exact absurd rfl h2
 cases b<;>simp[behindInMarks,e1,e2]
theorem ZGG {op:CmpOp}{r:R2}(ho:OpR X (Fh op) r)(ha:PE X a ta)(hb:PE X b tb)(hm:behindInMarks op b=false):PE X (.Compare a [op] [b] pos) (tOp r ta tb):=by
 intro pins s Z H Q I h
 exact wpAny_Compare1 (binT ha hb I h λv u s2 x y H2 I2 rx ry q=>ho pins s2 Z H2 x y v u Q I2 rx ry q) hm
inductive ZLx (Q:Bool->Hp->Prop)(x:V)(H':Hp):Prop
 |mk:∀k,(x= .bl k)->(Q k H')->ZLx Q x H'
def ZFq (t:TE):TT:=λZ H Q=>t Z H λx H'=>ZLx Q x H'
theorem ZAc {op:CmpOp}{r:R2}(ho:OpR X (Fh op) r)(ha:PE X a ta)(hb:PE X b tb)(hm:behindInMarks op b=false):PT X (.Compare a [op] [b] pos) (ZFq (tOp r ta tb)):=by
 intro pins s Z H Q I h
 refine Gr (thn (ha pins s Z H _ I h) λv s1 ⟨x,H1,I1,r1,q1⟩=>thn (hb pins s1 Z H1 _ I1 q1) λu s2 ⟨y,H2,I2,r2,q2⟩=>
  thn (ho pins s2 Z H2 x y v u _ I2 r1 r2 q2) λc s3 ⟨z,H3,I3,r3,k,e,q3⟩=>?_) hm
 subst e
 cases r3
 exact Fa ⟨H3,I3,q3⟩
def TruV (K:AB)(x:V)(H:Hp)(k:Bool):Prop:=
 match x with
 | .non=>k=false
 | .bl b=>k=b
 | .int i=>k=(i !=0)
 | .str y=>y.length<=sizeLine/\k=((y.length:Int)!=0)
 | .byt y=>y.size<=sizeLine/\k=((y.size:Int)!=0)
 | .ref p=>(∃xs,SqL K H p xs/\k= !xs.isEmpty)\/(∃xs,SqT K H p xs/\k= !xs.isEmpty)\/∃kvs,H p=some (.dK kvs)/\k= !kvs.isEmpty
 |_=>False
theorem ZJx {κ:Type}{kvs:List (κ×V)}{vs:List (κ×E2)}(r:KV kvs vs):(!vs.isEmpty)= !kvs.isEmpty:=by
 cases r<;>rfl
theorem ZFR {xs:List V}{its:List E2}(r:Vals xs its):(!its.toArray.isEmpty)= !xs.isEmpty:=by
 cases r<;>simp
theorem ZFP:(sizeLine:Nat)<2 ^ 63:=by rw[FP];decide
theorem tru_ok:TruR X (λx H Q=>∃k,TruV X.K x H k/\Q k H):=by
 intro pins s Z H x v Q I rx h
 obtain⟨k,e,q⟩:=h
 have hl:=ZFP
 have hs:sizeLine=16777216:=FP
 cases x with
 |non=>
  cases rx
  have e':k=false:=e
  subst e'
  exact truthy_none ⟨H,I,q⟩
 |bl b=>
  cases rx
  have e':k=b:=e
  subst e'
  exact Fa ⟨H,I,q⟩
 |int i=>
  obtain⟨t,rfl⟩:=rx
  have e':k=(i !=0):=e
  subst e'
  exact PySem.P.truthy_int ⟨H,I,q⟩
 |str y=>
  obtain⟨t,rfl⟩:=rx
  obtain⟨hy,e'⟩:y.length<=sizeLine/\k=((y.length:Int)!=0):=e
  subst e'
  exact PySem.P.truthy_str (by lia) ⟨H,I.tok _,q⟩
 |byt y=>
  obtain⟨t,rfl⟩:=rx
  obtain⟨hy,e'⟩:y.size<=sizeLine/\k=((y.size:Int)!=0):=e
  subst e'
  exact PySem.W.truthy_bytes (by lia) ⟨H,I.tok _,q⟩
 |ref p=>
  cases rx
  have e':(∃xs,SqL X.K H p xs/\k= !xs.isEmpty)\/(∃xs,SqT X.K H p xs/\k= !xs.isEmpty)\/∃kvs,H p=some (.dK kvs)/\k= !kvs.isEmpty:=e
  rcases e' with⟨xs,hx,e'⟩|⟨xs,hx,e'⟩|⟨kvs,hx,e'⟩
  ·subst e'
   obtain⟨its,r,pl,hz⟩:=I.list hx
   have hlen:=r.length
   exact wpAny_truthy_list pl.isList (by simp only[AO];lia) ⟨H,I.tok _,by rw[ZFR r];exact q⟩
  ·subst e'
   obtain⟨its,r,pl,hz⟩:=I.tuple hx
   have hlen:=r.length
   exact truthy_tuple pl (by simp only[AO];lia) ⟨H,I.tok _,by rw[ZFR r];exact q⟩
  ·subst e'
   obtain⟨hz,hS,vs,r,m⟩:kvs.length<=sizeLine/\(p==FX)=false/\∃vs,KV kvs vs/\s.heap.DictOf (ZAU X.prog X.w) p vs:=I.hok p _ hx
   have hlen:kvs.length=vs.length:=Paired.length r
   exact wpAny_truthy_dict hS m (by lia) ⟨H,I.tok _,by rw[ZJx r];exact q⟩
 |_=>exact(show False from e).elim
theorem ZMW (ha:PE X a ta)(he:∀whole,isTrue a X.env whole=(do let v<-whole;standAt a.pos;holding [v] (truthy v))):
  PT X a (λZ H Q=>ta Z H λx H'=>∃k,TruV X.K x H' k/\Q k H'):=by
 intro pins s Z H Q I h
 exact isTrue_plain (thn (ha pins s Z H _ I h) λv s1 ⟨x,H1,I1,r1,q1⟩=>tru_ok pins s1 Z H1 x v Q I1 r1 q1) (he _)
theorem vals1 {x:V}{us:List E2}(r:Vals [x] us):∃u,us= [u]/\RelV x u:=by
 cases r with
 |cons r1 r2=>cases r2;exact⟨_,rfl,r1⟩
end
section
variable {prog:E7}{w:FA}{A:FC}{E:E2->E4->Prop}{s:E4}{K:AB}{x dx C f:Ez}{mA:E3->Option E2}{name:E3}{v:E2}
end
theorem RelO.some_of {v:V}{o:Option E2}(r:RelO (some v) o):∃u,o=some u/\RelV v u:=by
 cases o with
 |none=>exact(show False from r).elim
 |some u=>exact⟨u,rfl,r⟩
section
variable {P:E7}{w:FA}{H H':Hp}{h h':E9}{a C dx:Ez}{fs fs':List (E3×V)}
end
section
variable {X:Cx}{pins:List (Ez×FF)}{Z:St}{H:Hp}{s:E4}{a C dx:Ez}{fs:List (E3×V)}{f:E3}{v:V}{A:FC}{E:E2->E4->Prop}
end
section
variable {X:Cx}{o e value:FD}{f:E3}{pos pos' tpos:Pos}{ta tv:TE}
end
section
variable {X:Cx}{pins:List (Ez×FF)}{Z:St}{H:Hp}{s:E4}{A:FC}{E:E2->E4->Prop}{Q:E2->E4->Prop}{c:E2}{b:Bool}
end
structure Room (k:Nat)(A:FC):Prop where
 hd:A.handled=none
 dp:A.depth+3*k+5<recursionLimit
 un:A.units+16*k+200<cLine
 gd:A.guards=some []
theorem Room.mono {j k:Nat}{A:FC}(r:Room k A)(h:j<=k):Room j A:=⟨r.hd,by have:=r.dp;lia,by have:=r.un;lia,r.gd⟩
theorem Room.deeper {k:Nat}{A:FC}(r:Room (k+1) A)(env:Env):Room k (A.deeper env):=
 ⟨r.hd,by have:=r.dp;show A.depth+1+3*k+5<_;lia,by have:=r.un;show A.units+3+16*k+200<_;lia,r.gd⟩
theorem Room.in1 {k:Nat}{A:FC}(r:Room (k+1) A):Room k A.in1:=
 ⟨r.hd,by have:=r.dp;show A.depth+3*k+5<_;lia,by have:=r.un;show A.units+1+16*k+200<_;lia,r.gd⟩
theorem Room.depth {k:Nat}{A:FC}(r:Room k A):A.depth<recursionLimit:=by have:=r.dp;lia
theorem Room.units {k:Nat}{A:FC}(r:Room k A):A.units+64<cLine:=by have:=r.un;lia
def tNil:TA:=λ_ H Q=>Q [] H
def ZAW (ta:TE)(tr:TA):TA:=λZ H Q=>ta Z H λx H1=>tr Z H1 λxs H2=>Q (x::xs) H2
section
variable {X:Cx}{e:FD}{es:List FD}{te:TE}{t:TA}{pos:Pos}
theorem ZAC:PA X [] tNil:=λ_ _ _ _ H Q I h=>Cf ⟨[],H,I,.nil,h⟩
theorem ZAA (ha:PE X e te)(hr:PA X es t)(hs:FG (e::es) X.env=(false,eval e X.env)::FG es X.env:=by rfl):PA X (e::es) (ZAW te t):=by
 intro pos pins s Z H Q I h
 rw[hs]
 show E6 _ _ (spliced ((false,eval e X.env)::backTo pos (FG es X.env))) _ _ s
 refine CA (thn (ha pins s Z H _ I h) λu s1 ⟨x,H1,I1,r1,q1⟩=>?_)
 exact thn (hr pos pins s1 Z H1 _ I1 q1) λus s2 ⟨xs,H2,I2,r2,q2⟩=>⟨x::xs,H2,I2,.cons r1 r2,q2⟩
def tTup (t:TA):TE:=λZ H Q=>t Z H λxs H1=>xs.length<=sizeLine/\∀p,H1 p=none->Q (.ref p) (upd H1 p (.tup xs))
def tLst (t:TA):TE:=λZ H Q=>t Z H λxs H1=>xs.length<=sizeLine/\∀p,H1 p=none->Q (.ref p) (upd H1 p (.lst xs))
theorem ZAt {x1}(h:PA X es t):PE X (.Tuple es x1 pos) (tTup t):=by
 intro pins s Z H Q I hq
 refine wpAny_Tuple_spliced (thn (h pos pins s Z H _ I hq) λus s1 ⟨xs,H1,I1,r,z,q⟩=>⟨by rw[<-r.length];exact z,?_⟩)
 have hf:H1 s1.heap.objs.size=none:=I1.hok.fresh (AK _)
 refine⟨.ref s1.heap.objs.size,upd H1 s1.heap.objs.size (.tup xs),I1.laid (t':=s1.toks) (λb u e=>AC _ e) (AK _) ?_,rfl,q _ hf⟩
 exact⟨z,us,r,⟨⟨_,AN _ rfl,rfl,_,rfl⟩,_,AN _ rfl,rfl⟩⟩
theorem ZGt (h:PA X es t):PE X (.List es pos) (tLst t):=by
 intro pins s Z H Q I hq
 refine wpAny_List_spliced (thn (h pos pins s Z H _ I hq) λus s1 ⟨xs,H1,I1,r,z,q⟩=>⟨by rw[<-r.length];exact z,?_⟩)
 have hf:H1 s1.heap.objs.size=none:=I1.hok.fresh (AK _)
 refine⟨.ref s1.heap.objs.size,upd H1 s1.heap.objs.size (.lst xs),I1.laid (t':=s1.toks) (λb u e=>AC _ e) (AK _) ?_,rfl,q _ hf⟩
 exact⟨z,us,0,r,AN _ rfl⟩
end
abbrev Sp:=List V->Hp->VK->XK->Prop
abbrev CXT:=List Env->Hp->E4->XK->E2->E4->Prop
structure Env0 (P:E7)(w:FA)(K:AB)(mg:E3->Option E2)(base:E9)(A:FC)(outer:List Env)(s:E4)(H:Hp):Prop where
 frames:A.frames=some outer
 mod:Mod K mg base
 bs:∀b o,base.get? b=some o->s.heap.get? b=some o/\H b=none
 bsz:base.objs.size<=s.heap.objs.size
 funs:s.heap.FunFrames base outer
 frf:∀b∈frs outer,H b=none
 hok:HOk P w H s.heap
 bare:AllBare s.gens
def CE (outer:List Env)(P:E7)(w:FA)(H:Hp)(s:E4)(Q:VK)(u:E2)(s':E4):Prop:=
 ∃v H',s'.os=s.os/\AllBare s'.gens/\Un (frs outer) [] H H' s.heap s'.heap/\HOk P w H' s'.heap/\RelV v u/\Q v H'
def CR (CX:CXT)(outer:List Env)(P:E7)(w:FA)(H:Hp)(s:E4)(Q:VK)(E:XK)(r:Result)(s':E4):Prop:=
 match r with
 | .ok (.ret u)=>CE outer P w H s Q u s'
 | .ok _=>False
 | .error e=>CX outer H s E e s'
structure FnOk (P:E7)(w:FA)(K:AB)(mg:E3->Option E2)(base:E9)(CX:CXT)(k:Nat)(f:Ez)(fd:FJ)(ps:List E3)(sp:Sp):Prop where
 len:∀vs H Q E,sp vs H Q E->vs.length=ps.length
 run:∀(A:FC) (outer:List Env) (s:E4) (H:Hp) (args:Args) (us:List E2) (vs:List V) (Q:VK) (E:XK),Room k A->Env0 P w K mg base A outer s H->BindsTo s fd args (ps.zip us)->Vals vs us->sp vs H Q E->
  Fj (model P w) A (.call (.ref f) args) (CR CX outer P w H s Q E) s
theorem FnOk.mono {P:E7}{w:FA}{K:AB}{mg:E3->Option E2}{base:E9}{CX:CXT}{j k:Nat}{f:Ez}{fd:FJ}{ps:List E3}{sp:Sp}(F:FnOk P w K mg base CX j f fd ps sp)(h:j<=k):
  FnOk P w K mg base CX k f fd ps sp:=⟨F.len,λA outer s H args us vs Q E hr=>F.run A outer s H args us vs Q E (hr.mono h)⟩
theorem FnOk.imp {P:E7}{w:FA}{K:AB}{mg:E3->Option E2}{base:E9}{CX:CXT}{k:Nat}{f:Ez}{fd:FJ}{ps:List E3}{sp sp':Sp}(F:FnOk P w K mg base CX k f fd ps sp)
  (h:∀vs H Q E,sp' vs H Q E->sp vs H Q E):FnOk P w K mg base CX k f fd ps sp':=
 ⟨λvs H Q E q=>F.len vs H Q E (h _ _ _ _ q),λA outer s H args us vs Q E hr he hb hv hs=>F.run A outer s H args us vs Q E hr he hb hv (h _ _ _ _ hs)⟩
theorem Env0.in1 {P:E7}{w:FA}{K:AB}{mg:E3->Option E2}{base:E9}{A:FC}{outer:List Env}{s:E4}{H:Hp}(e:Env0 P w K mg base A outer s H):
  Env0 P w K mg base A.in1 outer s H:=⟨e.frames,e.mod,e.bs,e.bsz,e.funs,e.frf,e.hok,e.bare⟩
section
variable {X:Cx}{pins:List (Ez×FF)}{Z:St}{H:Hp}{s s':E4}
theorem Inv.env0 (I:Inv X pins Z H s):Env0 X.prog X.w X.K X.mg X.base X.A X.stack s H:=
 ⟨I.ok.frames,I.ok.mod,I.bs,As I.ok.bsz I.sz,I.stack,I.stkFree,I.hok,I.bare⟩
theorem Inv.after {Q:VK}{u:E2}(I:Inv X pins Z H s)(h:CE X.stack X.prog X.w H s Q u s'):EP X pins Z Q u s':=by
 obtain⟨v,H',os,bare,un,hok,r,q⟩:=h
 obtain⟨hh,g,d,t,os'⟩:=s'
 obtain rfl:os'=s.os:=os
 exact⟨v,H',I.call (h':=hh) (g':=g) (d':=d) (t':=t) (ch:= []) un hok bare (λb z=>absurd z (by simp)),r,q⟩
end
def ZCM (sp:Sp)(dvs:List V)(E:XK)(t:TA):TE:=λZ H Q=>t Z H λvs H1=>sp (vs++dvs) H1 Q E
def Binds (K:AB)(fd:FJ)(ps:List E3)(ds:List E2):Prop:=
 ∀(s:E4) (us:List E2),K.In s.heap->(us++ds).length=ps.length->BindsTo s fd ⟨us,[]⟩ (ps.zip (us++ds))
theorem Binds.all {K:AB}{fd:FJ}{ps:List E3}(h:∀us:List E2,us.length=ps.length->bindArgs fd ⟨us,[]⟩=pure (ps.zip us)):Binds K fd ps []:=λs us _ hl=>by
 rw[A5] at hl ⊢
 exact .of_eq (h us hl)
def ZHM (CX:CXT)(X:Cx)(E:XK):Prop:=∀(pins:List (Ez×FF)) (Z:St) (H:Hp) (s:E4) (e:E2) (s':E4),Inv X pins Z H s->CX X.stack H s E e s'->X.xe e s'
section
variable {X:Cx}{CX:CXT}{k:Nat}{f C:Ez}{fd:FJ}{ps:List E3}{sp:Sp}{dvs:List V}{ds:List E2}{E:XK}{x m:E3}{p pos apos:Pos}{e o:FD}{es:List FD}{ta:TE}{t:TA}
theorem run_fn {pins:List (Ez×FF)}{Z:St}{H:Hp}{s:E4}{Q:VK}{us:List E2}{vs:List V}(F:FnOk X.prog X.w X.K X.mg X.base CX k f fd ps sp)(hr:Room k X.A)(hb:Binds X.K fd ps ds)(hd:Vals dvs ds)(hx:ZHM CX X E)
  (I:Inv X pins Z H s) (r:Vals vs us) (h:sp (vs++dvs) H Q E):E6 (model X.prog X.w) X.A (call (.ref f) us) (EP X pins Z Q) X.xe s:=by
 have r2:Vals (vs++dvs) (us++ds):=r.append hd
 have hl:(us++ds).length=ps.length:=by rw[<-r2.length];exact F.len _ _ _ _ h
 refine wpAny_call (Fx (F.run X.A X.stack s H ⟨us,[]⟩ (us++ds) (vs++dvs) Q E hr I.env0 (hb s us I.kIn hl) r2 h) λr s' hq=>?_)
 cases r with
 |error e=>exact hx pins Z H s e s' I hq
 |ok fl=>
  cases fl with
  |ret u=>exact I.after hq
  |next=>exact Bg hq
  |brk=>exact Bg hq
  |cont=>exact Bg hq
theorem ZKn (F:FnOk X.prog X.w X.K X.mg X.base CX k f fd ps sp)(hr:Room k X.A)(hg:Gl X x)(hm:X.mg x=some (.ref f))(hk:Ad X.K (.ref f)=true)(hb:Binds X.K fd ps ds)(hd:Vals dvs ds)(hx:ZHM CX X E)
  (ha:PA X (e::es) t) (hdb:(x==("__debug__":E3))=false:=by decide) (he:FG (e::es) X.env=(false,eval e X.env)::FG es X.env:=by rfl) (hpl:(backTo pos (FG es X.env)).any (·.1)=false:=by rfl):
  PE X (.Call (.Name x p) (e::es) [] pos) (ZCM sp dvs E t):=by
 intro pins s Z H Q I h
 refine Fc (ZEe I hg hm ?_ hdb)
 refine Ee (h₀:=X.base) I.ok.mod.kin hk (thn (ha pos pins s Z H _ I h) λus s1 ⟨vs,H1,I1,r,q⟩=>⟨I1.kIn,?_⟩) he hpl
 exact run_fn F hr hb hd hx I1 r q
end
def PK (X:Cx)(kws:List Keyword)(t:TA):Prop:=
 ∀(pos:Pos) (pins:List (Ez×FF)) (s:E4) (Z:St) (H:Hp) (Q:List V->Hp->Prop),Inv X pins Z H s->t Z H Q->E6 (model X.prog X.w) X.A (evalAll ((backToKw pos (keywordEach kws X.env)).map (·.2))) (AP X pins Z Q) X.xe s
section
variable {X:Cx}{CX:CXT}{k:Nat}{f C:Ez}{fd:FJ}{ps ks:List E3}{sp:Sp}{E:XK}{x m:E3}{p pos apos kpos:Pos}{e o:FD}{es:List FD}{kws:List Keyword}{te ta:TE}{t tk:TA}{nm:Option E3}
theorem pk_nil:PK X [] tNil:=λ_ _ _ _ H Q I h=>wpAny_evalAll_nil ⟨[],H,I,.nil,h⟩
theorem ZKj (ha:PE X e te)(hr:PK X kws t):PK X (⟨nm,e,kpos⟩::kws) (ZAW te t):=by
 intro pos pins s Z H Q I h
 show E6 _ _ (evalAll ((do let v<-eval e X.env;standAt pos;pure v)::(backToKw pos (keywordEach kws X.env)).map (·.2))) _ _ s
 refine wpAny_evalAll_cons (Ey (thn (ha pins s Z H _ I h) λu s1 ⟨x,H1,I1,r1,q1⟩=>Ey (Ge (E5 ?_))))
 exact thn (hr pos pins s1 Z H1 _ I1 q1) λus s2 ⟨xs,H2,I2,r2,q2⟩=>⟨x::xs,H2,I2,.cons r1 r2,q2⟩
variable {g:List E2->List E2->List E2}{gV:List V->List V->List V}
end
structure ZAS (N P:List E3)(sc:F0):Prop where
 kind:sc.kind= .function
 co:sc.isCoroutine=false
 gen:sc.isGenerator=false
 nd:N.Nodup
 pre:N.take P.length=P
 par:∀x∈P,sc.names.lookup x=some .local\/sc.names.lookup x=some .cell
 nofree:∀y∈sc.names,y.2≠ .free
theorem ZHH {kindOf:E3->Option GR}{x:E3}:∀{binds:List (E3×E2)} {m:E3->Option E2},(∀v,(x,v)∉binds)->bindL kindOf binds m x=m x
 | [],_,_=>rfl
 |(n,v)::r,m,h=>by
  unfold bindL
  rw[ZHH λw hw=>h w (AL _ hw)]
  split
  ·have:x≠n:=by rintro rfl;exact h v AJ
   simp[this]
  ·rfl
theorem ZHJ {kindOf:E3->Option GR}{x:E3}:∀{binds:List (E3×E2)} {m:E3->Option E2},(∀v,(x,v)∉binds)->bindC kindOf binds m x=m x
 | [],_,_=>rfl
 |(n,v)::r,m,h=>by
  unfold bindC
  rw[ZHJ λw hw=>h w (AL _ hw)]
  split
  ·rfl
  ·have:x≠n:=by rintro rfl;exact h v AJ
   simp[this]
theorem ZHI {kindOf:E3->Option GR}{x:E3}{v:E2}:∀{P:List E3} {vs:List E2} {i:Nat} {m:E3->Option E2},P.Nodup->P[i]?=some x->vs[i]?=some v->kindOf x=some .local->
  bindL kindOf (P.zip vs) m x=some v
 | [],_,_,_,_,h,_,_=>by simp at h
 |_::_,[],_,_,_,_,h,_=>by simp at h
 |p::P,w::vs,0,m,nd,h1,h2,hk=>by
  simp at h1 h2;subst h1;subst h2
  show bindL kindOf ((p,w)::P.zip vs) m p=_
  unfold bindL
  rw[ZHH λv hv=>(BT.mp nd).1 (D9 hv).1,if_pos hk]
  simp
 |p::P,w::vs,i+1,m,nd,h1,h2,hk=>by
  show bindL kindOf ((p,w)::P.zip vs) m x=_
  unfold bindL
  exact ZHI (i:=i) (BT.mp nd).2 (by simpa using h1) (by simpa using h2) hk
theorem ZHK {kindOf:E3->Option GR}{x:E3}{v:E2}:∀{P:List E3} {vs:List E2} {i:Nat} {m:E3->Option E2},P.Nodup->P[i]?=some x->vs[i]?=some v->kindOf x≠some .local->
  bindC kindOf (P.zip vs) m x=some v
 | [],_,_,_,_,h,_,_=>by simp at h
 |_::_,[],_,_,_,_,h,_=>by simp at h
 |p::P,w::vs,0,m,nd,h1,h2,hk=>by
  simp at h1 h2;subst h1;subst h2
  show bindC kindOf ((p,w)::P.zip vs) m p=_
  unfold bindC
  rw[ZHJ λv hv=>(BT.mp nd).1 (D9 hv).1,if_neg hk]
  simp
 |p::P,w::vs,i+1,m,nd,h1,h2,hk=>by
  show bindC kindOf ((p,w)::P.zip vs) m x=_
  unfold bindC
  exact ZHK (i:=i) (BT.mp nd).2 (by simpa using h1) (by simpa using h2) hk
def start (N:List E3)(vs:List V):St:=vs.map some++Ck (N.length-vs.length) none
def cxOf (CX:CXT)(P:E7)(w:FA)(K:AB)(mg:E3->Option E2)(base:E9)(N:List E3)(qual:E3)(scope:F0)(f:Ez)(cd:E2)(A:FC)(outer:List Env)(s:E4)(H:Hp)(E:XK):Cx where
 prog:=P
 w:=w
 K:=K
 mg:=mg
 base:=base
 A:=A.deeper (envOfC qual scope s.heap.objs.size f cd)
 N:=N
 s₀:=s
 H₀:=H
 env:=envOfC qual scope s.heap.objs.size f cd
 outer:=outer
 stack:=envOfC qual scope s.heap.objs.size f cd::outer
 ex:= []
 calm:=true
 fn:=λ_=>true
 pn:= []
 xe:=λe s'=>E6 (model P w) (A.deeper (envOfC qual scope s.heap.objs.size f cd)) (leaving (envOfC qual scope s.heap.objs.size f cd) e) (λ_ s''=>CX outer H s E e s'') (λe' s''=>CX outer H s E e' s'') s'
theorem ZI1 {sc:F0}{n:Nat}{x:E3}(h:sc.names.lookup x=some .cell):∃c,(cellsFrom n sc.names []).lookup x=some c:=by
 have q:=EQ sc.names n [] (.inl h)
 exact EN.mp q
theorem ZLR {CX:CXT}{P:E7}{w:FA}{K:AB}{mg:E3->Option E2}{base:E9}{N ps:List E3}{qual:E3}{scope:F0}{f:Ez}{cd:E2}{A:FC}{outer:List Env}{s s1:E4}{H:Hp}{E:XK}{us:List E2}{vs:List V}
  (S:ZAS N ps scope) (hd:A.handled=none) (e0:Env0 P w K mg base A outer s H) (hl:vs.length=ps.length) (r:Vals vs us)
  (x:InCallC s s.heap.objs.size (bindL (envOfC qual scope s.heap.objs.size f cd).kindOf (ps.zip us) λ_=>none) (cellsFrom (s.heap.objs.size+1) scope.names []) (bindC (envOfC qual scope s.heap.objs.size f cd).kindOf (ps.zip us) λ_=>none) s1):
  Inv (cxOf CX P w K mg base N qual scope f cd A outer s H E) [] (start N vs) H s1:=by
 have hpl:ps.length<=N.length:=by have:=congrArg Ay S.pre;rw[Ax] at this;lia
 obtain⟨h1,tk,rfl,hk⟩:=x.done
 have noA:∀b:Ez,b∉(cxOf CX P w K mg base N qual scope f cd A outer s H E).ex:=λb z=>absurd (show b∈([]:List Ez) from z) (by simp)
 refine⟨⟨e0.mod,S.kind,rfl,rfl,AK _,λy z c h1 h2=>?_,λy hy=>?_,λy c _ h=>?_,λ_=>hd,Around.frames_deeper e0.frames,.inr ⟨rfl,rfl⟩,λb z=>absurd z (noA b),e0.bs,e0.bsz,λb _ _=>noA b,λb z=>absurd z (noA b),e0.funs,e0.frf⟩,
  rfl,e0.bare,Un.kept hk,⟨_,x.toInCall.ns,λi y v h1 h2 h3=>?_⟩,λy c h=>⟨_,x.cell y c h⟩,e0.hok.fresh (AK _),λy c h=>?_,λp hp=>absurd (show p∈([]:List (Ez×FF)) from hp) (by simp),e0.hok.kept hk,?_⟩
 ·exact name_of_addr x.apart (Bv h1) (Bv h2)
 ·have hy:scope.names.lookup y=some .cell\/scope.names.lookup y=some .free:=hy
  rcases hy with hy|hy
  ·exact ZI1 hy
  ·exact absurd rfl (S.nofree _ (Bv hy))
 ·exact CN (x.above y c (Bv h))
 ·have hi:i<vs.length:=by
   unfold start at h2
   by_cases hi:i<vs.length
   ·exact hi
   ·rw[B0 (by simpa using hi)] at h2
    rw[DM] at h2
    split at h2<;>cases h2
  have ha:vs[i]?=some v:=by
   unfold start at h2
   rw[CP (by simpa using hi),AS] at h2
   cases e:vs[i]? with
   |none=>rw[e] at h2;cases h2
   |some a=>rw[e] at h2;cases h2;rfl
  obtain⟨u,hu,rv⟩:=r.get ha
  have hp:ps[i]?=some y:=by
   rw[<-S.pre,List.getElem?_take_of_lt (by lia)];exact h1
  have ndP:ps.Nodup:=by rw[<-S.pre];exact S.nd.sublist (List.take_sublist _ _)
  refine⟨u,rv,?_⟩
  rcases S.par y (Az hp) with k|k
  ·exact .inl ⟨k,ZHI ndP hp hu k⟩
  ·obtain⟨c,e⟩:=ZI1 (n:=s.heap.objs.size+1) k
   refine .inr ⟨.inl k,c,e,?_⟩
   have q:=x.cell y c e
   rw[ZHK ndP hp hu (by show scope.names.lookup y≠_;rw[k];decide)] at q
   exact q
 ·exact e0.hok.fresh (CN (x.above y c (Bv h)))
 ·unfold start
  show _=N.length
  rw[AW,AA,Dc]
  lia
theorem fn_of {CX:CXT}{P:E7}{w:FA}{K:AB}{mg:E3->Option E2}{base:E9}{k:Nat}{f:Ez}{name qual:E3}{params:Arguments}{body:List FS}{scope:F0}{dV kV doc pm cdv ct oc:E2}{an od:Option Ez}
  {osl:Array (Option E2)} {N ps:List E3} {sp:Sp} (lk:K.lookup f=some ⟨oc,od,.func (Al name qual params body scope dV kV doc pm an cdv ct),osl⟩) (hcd:Ak K cdv qual=true) (S:ZAS N ps scope)
  (len:∀vs H Q E,sp vs H Q E->vs.length=ps.length)
  (hbody:∀(A:FC) (outer:List Env) (s:E4) (H:Hp) (vs:List V) (Q:VK) (E:XK),Room k (A.deeper (envOfC qual scope s.heap.objs.size f cdv))->sp vs H Q E->
   ∃t,PSs (cxOf CX P w K mg base N qual scope f cdv A outer s H E) body t/\t {nx:=λ_ H'=>Q .non H',rt:=Q} (start N vs) H):
  FnOk P w K mg base CX (k+1) f (Al name qual params body scope dV kV doc pm an cdv ct) ps sp:=by
 refine⟨len,λA outer s H args us vs Q E hr e0 hb r hsp=>?_⟩
 have hl:=len _ _ _ _ hsp
 have KX:K.In s.heap:=e0.mod.kin.keeps λb o e=>(e0.bs b o e).1
 have lim:s.heap.NoLimit:=e0.mod.nolimit.keeps λb o e=>(e0.bs b o e).1
 have hkind:∀y∈ps.zip us,scope.names.lookup y.1=some .local\/(scope.names.lookup y.1=some .cell/\((cellsFrom (s.heap.objs.size+1) scope.names []).lookup y.1).isSome=true):=λ⟨n,v⟩ hy=>by
  rcases S.par n (D9 hy).1 with q|q
  ·exact .inl q
  ·exact .inr ⟨q,EQ _ _ _ (.inl q)⟩
 refine codeAny_call_function hr.depth (KX _ _ lk) rfl S.co S.gen rfl (PySem.W.codeRec_of KX hcd) (hb _ _ _ _ ?_)
 refine wpAny_newFunctionEnv_cells S.kind hkind λenv he s1 x=>?_
 subst he
 refine⟨lim.keeps x.toInCall.keep,codeAny_func ?_⟩
 obtain⟨t,ht,hq⟩:=hbody A outer s H vs Q E (hr.deeper _) hsp
 have I:Inv (cxOf CX P w K mg base N qual scope f cdv A outer s H E) [] (start N vs) H s1:=ZLR S hr.hd e0 hl r x
 refine FE (ht [] s1 (start N vs) H _ I hq) (λfl s' hs=>?_) λe s' hs=>hs
 have fin:∀{Z':St} {H':Hp} {v:V} {u:E2},Inv (cxOf CX P w K mg base N qual scope f cdv A outer s H E) [] Z' H' s'->RelV v u->Q v H'->CE outer P w H s Q u s':=
  λ{Z' H' v u} J rv q=>⟨v,H',J.os,J.bare,J.base,J.hok,rv,q⟩
 cases fl with
 |ret u=>
  obtain⟨v,Z',H',J,rv,q⟩:=hs
  exact fin J rv q
 |next=>
  obtain⟨Z',H',J,q⟩:=hs
  exact fin (v:=V.non) (u:=At) J rfl q
 |brk=>
  obtain⟨_,_,_,q⟩:=hs
  exact Bg q
 |cont=>
  obtain⟨_,_,_,q⟩:=hs
  exact Bg q
section
variable {X:Cx}{x:E3}{p pos:Pos}{e:FD}{es:List FD}{t:TA}{id T:String}{r:List V->Hp->VK->Prop}
def tCB (r:List V->Hp->VK->Prop)(t:TA):TE:=λZ H Q=>t Z H λvs H1=>r vs H1 Q
theorem ZAY (hc:ZB6 X (.builtin id) r)(hg:Gl X x)(hm:X.mg x=none)(hv:Ff x=some (.builtin id))(ha:PA X (e::es) t)(hn:x≠"__name__":=by decide)(hdb:(x==("__debug__":E3))=false:=by decide)
  (he:FG (e::es) X.env=(false,eval e X.env)::FG es X.env:=by rfl) (hpl:(backTo pos (FG es X.env)).any (·.1)=false:=by rfl):PE X (.Call (.Name x p) (e::es) [] pos) (tCB r t):=by
 intro pins s Z H Q I h
 refine Fc (ZDs I hg hm hv ?_ hn hdb)
 exact PyProof.Rows.callWith_builtin1 (thn (ha pos pins s Z H _ I h) λus s1 ⟨vs,H1,I1,r1,q1⟩=>hc pins s1 Z H1 vs us Q I1 r1 q1) he hpl
theorem ZAI (hc:ZB6 X (.type T) r)(hg:Gl X x)(hm:X.mg x=none)(hv:Ff x=some (.type T))(ha:PA X (e::es) t)(hn:x≠"__name__":=by decide)(hdb:(x==("__debug__":E3))=false:=by decide)
  (he:FG (e::es) X.env=(false,eval e X.env)::FG es X.env:=by rfl) (hpl:(backTo pos (FG es X.env)).any (·.1)=false:=by rfl):PE X (.Call (.Name x p) (e::es) [] pos) (tCB r t):=by
 intro pins s Z H Q I h
 refine Fc (ZDs I hg hm hv ?_ hn hdb)
 exact BY (thn (ha pos pins s Z H _ I h) λus s1 ⟨vs,H1,I1,r1,q1⟩=>hc pins s1 Z H1 vs us Q I1 r1 q1) he hpl
end
end L2
namespace HT
open PySem PyProof.Rows
section
open PySem.SeqAt
open PySem.AutoSeq1 (wpAny_loadPart')
open PySem.MeetsSeq PySem.MeetsSeq2 PySem.MeetsSeq3
end
section
variable {prog:E7}{w:FA}{A:FC}{E:E2->E4->Prop}{s:E4}
theorem cat_tup {t b:Ez}{vs ws:List E2}{Q:E2->E4->Prop}(ht:IsTup s.heap t vs.toArray)(hb:IsTup s.heap b ws.toArray)(hv:vs≠ [])
  (h1:ws= []->Q (.ref t) s) (h2:ws≠ []->Q (.ref s.heap.objs.size) {s with heap:=s.heap.push {cls:= .type "tuple",data:= .seq (vs++ws).toArray}})
  (hsz:vs.length+ws.length<=sizeLine):E6 (model prog w) A (binaryOp .Add (.ref t) (.ref b)) Q E s:=by
 obtain⟨⟨cls,dd,data,sl⟩,ho,hc,n,hd⟩:=id ht
 obtain⟨⟨cls2,dd2,data2,sl2⟩,ho2,hc2,n2,hd2⟩:=id hb
 simp only at hc hd hc2 hd2
 subst hc hd hc2 hd2
 have e:vs.toArray++ws.toArray=(vs++ws).toArray:=by simp
 by_cases hw:ws= []
 ·exact concat_meets ⟨_,ho,rfl⟩ ⟨_,ho2,rfl⟩ noFill_tuple_add seq_tuple_add ER EK (ED _ _)
   (tuple_addW1 t b vs.toArray ws.toArray n n2 dd dd2 sl sl2 (by simpa using hv) (by simp[hw])) ⟨ho,ho2,h1 hw⟩
 ·refine concat_meets ⟨_,ho,rfl⟩ ⟨_,ho2,rfl⟩ noFill_tuple_add seq_tuple_add ER EK (ED _ _)
   (tuple_addW2 t b vs.toArray ws.toArray n n2 dd dd2 sl sl2 (by simpa using hv) (by simpa using hw) (by rw[AO,AO];exact hsz)) ⟨ho,ho2,?_⟩
  rw[e]
  exact h2 hw
def sIx (n d:Nat):Option Int->Nat
 |none=>d
 |some v=>if v<0 then(v+(n:Int)).toNat else min v.toNat n
theorem sIx_le (n d:Nat)(hd:d<=n)(o:Option Int):sIx n d o<=n:=by
 cases o with
 |none=>exact hd
 |some v=>
  show(if v<0 then(v+(n:Int)).toNat else min v.toNat n)<=n
  by_cases hv:v<0
  ·rw[if_pos hv];lia
  ·rw[if_neg hv];exact Nat.min_le_right _ _
theorem ZLk (v:Int)(n d:Nat):(if v<0 then max (v+(n:Int)) 0 else min v (n:Int))=((sIx n d (some v):Nat):Int):=by
 show(if v<0 then max (v+(n:Int)) 0 else min v (n:Int))=(((if v<0 then(v+(n:Int)).toNat else min v.toNat n):Nat):Int)
 by_cases hv:v<0
 ·simp only[if_pos hv];lia
 ·simp only[if_neg hv];lia
theorem ZJz (lo hi:Option Int)(n:Nat):Cv lo hi 1 (n:Int)=(((sIx n 0 lo:Nat):Int),((sIx n n hi:Nat):Int)):=by
 have h1:¬((1:Int)<0):=by lia
 unfold Cv
 simp only[h1,if_false]
 refine Prod.ext ?_ ?_
 ·cases lo with
  |none=>rfl
  |some v=>exact ZLk v n 0
 ·cases hi with
  |none=>rfl
  |some v=>exact ZLk v n n
theorem ZJj (i j:Nat):CC (i:Int) (j:Int) 1=j-i:=by
 unfold CC
 have h1:(1:Int)>0:=by lia
 simp only[h1,if_true,Int.ediv_one]
 split<;>lia
theorem ZFA {v:E2}{o:Option Int}{Q:Option Int->E4->Prop}(p:IsPart v o)(h:Q o s):E6 (model prog w) A (Builtin.Slice.slicePartIndex v) Q E s:=by
 cases p with
 |none=>exact slicePart_none h
 |int i t=>exact slicePart_int h
theorem ZCJ {sl:Ez}{vl vu:E2}{lo hi:Option Int}{n:Nat}{Q:Int×Int×Nat->E4->Prop}(hs:s.heap.IsSliceOf sl vl vu .none)(pl:IsPart vl lo)(pu:IsPart vu hi)
  (h:Q (((sIx n 0 lo:Nat):Int),1,sIx n n hi-sIx n 0 lo) s):E6 (model prog w) A (Dq (.ref sl) (pure (n:Int))) Q E s:=by
 obtain⟨os,hos,hcs,hds⟩:=id hs
 unfold Dq Builtin.Slice.sliceFields
 refine Ey (Ey (FM hos hds (x:=vl) rfl (Ey (FM hos hds (x:=vu) rfl (Ey (FM hos hds (x:= .none) rfl (E5 ?_)))))))
 refine Ey (slicePart_none ?_)
 show E6 _ _ (if((1:Int)==0)=true then _ else _) _ _ s
 rw[if_neg (by decide)]
 refine Ey (ZFA pl (Ey (ZFA pu (Ey (E5 ?_)))))
 show E6 _ _ (match Cv lo hi 1 (n:Int) with|(lo,hi)=>pure (lo,(1:Int),CC lo hi 1)) _ _ s
 rw[ZJz lo hi n]
 show E6 _ _ (pure (((sIx n 0 lo:Nat):Int),(1:Int),CC ((sIx n 0 lo:Nat):Int) ((sIx n n hi:Nat):Int) 1)) _ _ s
 rw[ZJj]
 exact E5 h
theorem ZMX (xs:Array E2)(i k:Nat):((Av k).filterMap λ(m:Nat)=>xs[((i:Int)+(m:Int)*1).toNat]?).toArray=((xs.toList.drop i).take k).toArray:=by
 have e:(λ(m:Nat)=>xs[((i:Int)+(m:Int)*1).toNat]?)=λm=>xs[i+m]?:=by
  funext m
  have:((i:Int)+(m:Int)*1).toNat=i+m:=by lia
  rw[this]
 rw[e]
 have:=pick_run xs i k
 rw[List.filterMap_map] at this
 have e2:((λx=>xs[x]?)∘λx=>i+x)=λm=>xs[i+m]?:=rfl
 rw[e2] at this
 rw[this]
theorem getItem_tuple_cut {t sl:Ez}{items:Array E2}{vl vu:E2}{lo hi:Option Int}{Q:E2->E4->Prop}(ht:IsTup s.heap t items)(hs:s.heap.IsSliceOf sl vl vu .none)(pl:IsPart vl lo)(pu:IsPart vu hi)
  (hw:¬(sIx items.size 0 lo=0/\sIx items.size items.size hi=items.size))
  (h:Q (.ref s.heap.objs.size) {s with heap:=s.heap.push {cls:= .type "tuple",data:= .seq ((items.toList.drop (sIx items.size 0 lo)).take (sIx items.size items.size hi-sIx items.size 0 lo)).toArray}})
  (hsz:items.size<=sizeLine):E6 (model prog w) A (getItem (.ref t) (.ref sl)) Q E s:=by
 have htake:sizeOk (.seq ((items.toList.drop (sIx items.size 0 lo)).take (sIx items.size items.size hi-sIx items.size 0 lo)).toArray):=by
  show((items.toList.drop (sIx items.size 0 lo)).take (sIx items.size items.size hi-sIx items.size 0 lo)).toArray.size<=sizeLine
  rw[AO,Ax,Bl,Au]
  lia
 have hj:sIx items.size items.size hi<=items.size:=sIx_le _ _ (AK _) hi
 obtain⟨os,hos,hcs,hds⟩:=id hs
 have hTs:s.TypeIs (.ref sl) "slice":=⟨os,hos,hcs⟩
 unfold getItem
 try with_reducible refine FK ?_
 first|refine Ey (E5 ?_)|skip
 refine Ey (wpAny_sequenceKey ht.typeIs (by decide) ?_)
 refine Ey (FW (name:=A2 "__getitem__") ht.typeIs BL
  (FQ BL ht.typeIs entry_tuple_getitem ?_ (args_tuple_getitem _ _)))
 show E6 _ _ (Cr (.ref t) >>= _) _ _ s
 refine Ey (tupleItemsOf_ ht ?_)
 refine Ey (Fb hTs ?_)
 rw[if_pos (by decide)]
 refine Ey (ZCJ hs pl pu ?_)
 have hno:¬((((sIx items.size 0 lo:Nat):Int)==0&&(1:Int)==1&&(sIx items.size items.size hi-sIx items.size 0 lo)==items.size)=true):=by
  intro q
  rw[BK,BK] at q
  have q1:((sIx items.size 0 lo:Nat):Int)=0:=eq_of_beq q.1.1
  have q2:sIx items.size items.size hi-sIx items.size 0 lo=items.size:=eq_of_beq q.2
  exact hw ⟨by lia,by lia⟩
 show E6 _ _ (if(((sIx items.size 0 lo:Nat):Int)==0&&(1:Int)==1&&(sIx items.size items.size hi-sIx items.size 0 lo)==items.size)=true then _ else _) _ _ s
 rw[if_neg hno,ZMX]
 first
  |exact Ey (m:=Bh _) (FH (E5 ⟨_,rfl,E5 h⟩) htake)
  |exact Ey (m:=Bh _) (FH (Ey (E5 (E5 ⟨_,rfl,E5 h⟩))) htake)
  |exact Ey (Ey (m:=Bh _) (FH (E5 (E5 ⟨_,rfl,E5 h⟩)) htake))
  |exact Ey (Ey (m:=Bh _) (FH (E5 ⟨_,rfl,E5 h⟩) htake))
end
end HT
namespace L2
open PySem PySem.Spec PyProof.Rows
abbrev TO:=St->Hp->(Option Int->Hp->Prop)->Prop
def PO (X:Cx)(e:Option FD)(t:TO):Prop:=
 ∀(pins:List (Ez×FF)) (s:E4) (Z:St) (H:Hp) (Q:Option Int->Hp->Prop),Inv X pins Z H s->t Z H Q->
  E6 (model X.prog X.w) X.A (evalPart e X.env) (λu s'=>∃o H',Inv X pins Z H' s'/\IsPart u o/\Q o H') X.xe s
def ZJ9:TO:=λ_ H Q=>Q none H
inductive ZLy (Q:Option Int->Hp->Prop)(x:V)(H1:Hp):Prop
 |mk:∀i,(x= .int i)->(Q (some i) H1)->ZLy Q x H1
def tPart (t:TE):TO:=λZ H Q=>t Z H λx H1=>ZLy Q x H1
section
variable {X:Cx}{e:FD}{te:TE}{lo hi:Option FD}{tl th:TO}{pos p2:Pos}
theorem ZCB:PO X none ZJ9:=by
 intro pins s Z H Q I h
 rw[evalPart_none]
 exact E5 ⟨none,H,I,.none,h⟩
theorem ZCA (h:PE X e te):PO X (some e) (tPart te):=by
 intro pins s Z H Q I hw
 rw[evalPart_some]
 refine thn (h pins s Z H _ I hw) λu s1 ⟨x,H1,I1,r1,q1⟩=>?_
 obtain⟨i,rfl,q⟩:=q1
 obtain⟨t,rfl⟩:=r1
 exact⟨some i,H1,I1,.int i t,q⟩
def SlR (X:Cx)(r:V->Option Int->Option Int->Hp->VK->Prop):Prop:=
 ∀(pins:List (Ez×FF)) (s:E4) (Z:St) (H:Hp) (x:V) (v vl vu:E2) (lo hi:Option Int) (sl:Ez) (Q:VK),Inv X pins Z H s->RelV x v->s.heap.IsSliceOf sl vl vu .none->IsPart vl lo->IsPart vu hi->r x lo hi H Q->
  ∃T id,typeLookup (.type T) "__getitem__"=pure (some (.builtin id))/\s.TypeIs v T/\E6 (model X.prog X.w) X.A (getItem v (.ref sl)) (EP X pins Z Q) X.xe s
def tSl (r:V->Option Int->Option Int->Hp->VK->Prop)(te:TE)(tl th:TO):TE:=λZ H Q=>te Z H λx H1=>tl Z H1 λl H2=>th Z H2 λu H3=>r x l u H3 Q
theorem ZBT {r:V->Option Int->Option Int->Hp->VK->Prop}(hr:SlR X r)(he:PE X e te)(hl:PO X lo tl)(hu:PO X hi th):PE X (.Subscript e (.Slice lo hi none p2) pos) (tSl r te tl th):=by
 intro pins s Z H Q I h
 refine Subscript_ (thn (he pins s Z H _ I h) λv s1 ⟨x,H1,I1,r1,q1⟩=>?_)
 refine wpAny_Slice (thn (hl pins s1 Z H1 _ I1 q1) λvl s2 ⟨l,H2,I2,pl,q2⟩=>thn (hu pins s2 Z H2 _ I2 q2) λvu s3 ⟨u,H3,I3,pu,q3⟩=>?_)
 rw[evalPart_none]
 refine E5 ?_
 have I4:Inv X pins Z H3 {s3 with heap:=s3.heap.push {cls:= .type "slice",data:= .fields #[vl,vu,.none]}}:=I3.kept (t':=s3.toks) λb ob q=>AC _ q
 obtain⟨T,id,hT,ht,hg⟩:=hr pins {s3 with heap:=s3.heap.push {cls:= .type "slice",data:= .fields #[vl,vu,.none]}} Z H3 x v vl vu l u s3.heap.objs.size Q I4 r1 (Heap.IsSliceOf.new ..) pl pu q3
 show E6 (model X.prog X.w) X.A (subscriptTail e (.Slice lo hi none p2) v (.ref s3.heap.objs.size)) (EP X pins Z Q) X.xe {s3 with heap:=s3.heap.push {cls:= .type "slice",data:= .fields #[vl,vu,.none]}}
 exact tail_any (ops:= [.ref s3.heap.objs.size,v]) ht hT hg (by with_unfolding_all rfl)
def cutV (xs:List V)(lo hi:Option Int):List V:=(xs.drop (HT.sIx xs.length 0 lo)).take (HT.sIx xs.length xs.length hi-HT.sIx xs.length 0 lo)
theorem ZBD (xs:List V)(lo hi:Option Int):(cutV xs lo hi).length<=xs.length:=by
 unfold cutV
 rw[Ax,Bl]
 lia
inductive ZNs (K:AB)(x:V)(lo:Option Int)(hi:Option Int)(H:Hp)(Q:VK):Prop
 |mk:∀a xs,(x= .ref a)->(SqT K H a xs)->(¬(HT.sIx xs.length 0 lo=0/\HT.sIx xs.length xs.length hi=xs.length))->(∀p,H p=none->Q (.ref p) (upd H p (.tup (cutV xs lo hi))))->ZNs K x lo hi H Q
def rSlT (K:AB):V->Option Int->Option Int->Hp->VK->Prop:=λx lo hi H Q=>ZNs K x lo hi H Q
theorem sl_tup:SlR X (rSlT X.K):=by
 intro pins s Z H x v vl vu lo hi sl Q I rx hs pl pu h
 obtain⟨a,xs,rfl,hx,hw,q⟩:=h
 cases rx
 obtain⟨its,r,ht,hz⟩:=I.tuple hx
 have hlen:its.toArray.size=xs.length:=by rw[AO];exact r.length.symm
 refine⟨"tuple",_,BL.lookup,ht.typeIs,?_⟩
 refine HT.getItem_tuple_cut ht hs pl pu (by rw[hlen];exact hw) ?_ (by rw[hlen];exact hz)
 rw[hlen]
 refine⟨.ref s.heap.objs.size,_,I.laid (t':=s.toks) (o:= .tup (cutV xs lo hi)) (λb ob q=>AC _ q) (AK _) ?_,rfl,q _ (I.hok.fresh (AK _))⟩
 exact⟨As (ZBD xs lo hi) hz,_,(r.drop (HT.sIx xs.length 0 lo)).take (HT.sIx xs.length xs.length hi-HT.sIx xs.length 0 lo),ZDv.new _ _⟩
inductive ZMA (K:AB)(x:V)(y:V)(H:Hp)(Q:VK):Prop
 |mk:∀a b xs ys,(x= .ref a)->(y= .ref b)->(SqT K H a xs)->(SqT K H b ys)->(xs≠ [])->(xs.length+ys.length<=sizeLine)->((ys= []->Q (.ref a) H))->((ys≠ []->∀p,H p=none->Q (.ref p) (upd H p (.tup (xs++ys)))))->ZMA K x y H Q
def rCatT (K:AB):R2:=λx y H Q=>ZMA K x y H Q
theorem Vals.nil_iff {xs:List V}{us:List E2}(r:Vals xs us):us= []↔xs= []:=by
 cases r with
 |nil=>simp
 |cons _ _=>simp
theorem ZOX:OpR X (binaryOp .Add) (rCatT X.K):=by
 intro pins s Z H x y v u Q I rx ry h
 obtain⟨a,b,xs,ys,rfl,rfl,ha,hb,hx,hz,q1,q2⟩:=h
 cases rx
 cases ry
 obtain⟨its,r1,p1,_⟩:=I.tuple ha
 obtain⟨its2,r2,p2,_⟩:=I.tuple hb
 refine HT.cat_tup p1 p2 (λz=>hx (r1.nil_iff.mp z)) (λz=>⟨.ref a,H,I,rfl,q1 (r2.nil_iff.mp z)⟩) (λz=>?_) (by rw[<-r1.length,<-r2.length];exact hz)
 refine⟨.ref s.heap.objs.size,_,I.laid (t':=s.toks) (o:= .tup (xs++ys)) (λb ob q=>AC _ q) (AK _) ?_,rfl,q2 (λw=>z (r2.nil_iff.mpr w)) _ (I.hok.fresh (AK _))⟩
 exact⟨by rw[AW];exact hz,_,r1.append r2,ZDv.new _ _⟩
end
def ixN (n:Nat)(i:Int):Option Nat:=if 0<=i then(if i<n then some i.toNat else none) else if-(n:Int)<=i then some (i+n).toNat else none
def atI {α:Type}(xs:List α)(i:Int):Option α:=(ixN xs.length i).bind λj=>xs[j]?
theorem ZOu {n:Nat}{i:Int}{j:Nat}(h:ixN n i=some j):seqIndex? i n=some j/\j<n/\-(n:Int)<=i/\i<n:=by
 unfold ixN at h
 by_cases h0:0<=i
 ·rw[if_pos h0] at h
  by_cases h1:i<n
  ·rw[if_pos h1] at h
   have e:i.toNat=j:=Aj h
   exact⟨by rw[seqIndex_of h0 h1,e],by lia,by lia,h1⟩
  ·rw[if_neg h1] at h;cases h
 ·rw[if_neg h0] at h
  by_cases h1: -(n:Int)<=i
  ·rw[if_pos h1] at h
   have e:(i+n).toNat=j:=Aj h
   exact⟨by rw[seqIndex_neg (by lia) h1,e],by lia,h1,by lia⟩
  ·rw[if_neg h1] at h;cases h
theorem ZIP {α:Type}{xs:List α}{i:Int}{v:α}(h:atI xs i=some v):∃j,seqIndex? i xs.length=some j/\xs[j]?=some v/\j<xs.length/\-(xs.length:Int)<=i/\i<xs.length:=by
 unfold atI at h
 cases e:ixN xs.length i with
 |none=>rw[e] at h;cases h
 |some j=>
  rw[e] at h
  obtain⟨h1,h2,h3,h4⟩:=ZOu e
  exact⟨j,h1,h,h2,h3,h4⟩
theorem ZLr {α:Type}{xs:List α}{j:Nat}{v:α}(h:xs[j]?=some v):atI xs (j:Int)=some v:=by
 have hj:j<xs.length:=(BW.mp h).1
 have e:ixN xs.length (j:Int)=some j:=by
  unfold ixN
  rw[if_pos (by lia),if_pos (by lia)];simp
 unfold atI;rw[e];exact h
def ZPC (b:FD):Prop:=∀o i,subscripted b false o i=operate [o,i] (getItem o i)
def IxR (X:Cx)(r:R2):Prop:=
 ∀(value slice:FD) (pins:List (Ez×FF)) (s:E4) (Z:St) (H:Hp) (x y:V) (v u:E2) (Q:VK),Inv X pins Z H s->RelV x v->RelV y u->r x y H Q->
  subscripted slice false v u=operate [v,u] (getItem v u)->E6 (model X.prog X.w) X.A (subscriptTail value slice v u) (EP X pins Z Q) X.xe s
def MtR (X:Cx)(id:String)(r:V->List V->Hp->VK->Prop):Prop:=
 ∀(pins:List (Ez×FF)) (s:E4) (Z:St) (H:Hp) (x:V) (xs:List V) (v:E2) (us:List E2) (Q:VK),Inv X pins Z H s->RelV x v->Vals xs us->r x xs H Q->
  E6 (model X.prog X.w) X.A (call (.builtin id) (v::us)) (EP X pins Z Q) X.xe s
section
variable {X:Cx}{a b:FD}{ta tb:TE}{pos:Pos}
theorem IxR.or {r r':R2}(h:IxR X r)(h':IxR X r'):IxR X (λx y H Q=>r x y H Q\/r' x y H Q):=by
 intro value slice pins s Z H x y v u Q I rx ry q hs
 rcases q with q|q
 ·exact h value slice pins s Z H x y v u Q I rx ry q hs
 ·exact h' value slice pins s Z H x y v u Q I rx ry q hs
theorem ZAk {r:R2}(hr:IxR X r)(ha:PE X a ta)(hb:PE X b tb)(hs:ZPC b):PE X (.Subscript a b pos) (tOp r ta tb):=by
 intro pins s Z H Q I h
 exact Subscript_ (binT ha hb I h λv u s2 x y H2 I2 rx ry q=>hr a b pins s2 Z H2 x y v u Q I2 rx ry q (hs _ _))
inductive ZNz (K:AB)(x:V)(y:V)(H:Hp)(Q:VK):Prop
 |mk:∀p xs i v,(x= .ref p)->(y= .int i)->(SqL K H p xs)->(atI xs i=some v)->(Q v H)->ZNz K x y H Q
def rIxL (K:AB):R2:=λx y H Q=>ZNz K x y H Q
inductive ZNx (K:AB)(x:V)(y:V)(H:Hp)(Q:VK):Prop
 |mk:∀p xs i v,(x= .ref p)->(y= .int i)->(SqT K H p xs)->(atI xs i=some v)->(Q v H)->ZNx K x y H Q
def rIxT (K:AB):R2:=λx y H Q=>ZNx K x y H Q
inductive ZNy (x:V)(y:V)(H:Hp)(Q:VK):Prop
 |mk:∀z i c,(x= .str z)->(y= .int i)->(z.length<=sizeLine)->(atI z.cps.toList i=some c)->(Q (.str ⟨#[c]⟩) H)->ZNy x y H Q
def rIxS:R2:=λx y H Q=>ZNy x y H Q
theorem ZDf:IxR X (rIxL X.K):=by
 intro value slice pins s Z H x y v u Q I rx ry h hs
 obtain⟨p,xs,i,z,rfl,rfl,hq,he,q⟩:=h
 cases rx
 obtain⟨t,rfl⟩:=ry
 obtain⟨its,r,pl,hz⟩:=I.list hq
 obtain⟨j,h1,h2,h3,h4,h5⟩:=ZIP he
 obtain⟨w,ew,rw'⟩:=r.get h2
 have hl:=r.length
 have hn:=ZFP
 have fin:EP X pins Z Q w s:=⟨z,H,I,rw',q⟩
 by_cases h0:0<=i
 ·have hj:i.toNat=j:=by
   rw[seqIndex_of h0 h5] at h1
   exact Aj h1
  exact item_listR pl.isList h0 (by lia) (by rw[hj];simpa using ew) fin hs
 ·have hj:(i+(its.toArray.size:Int)).toNat=j:=by
   rw[seqIndex_neg (by lia) h4] at h1
   rw[AO,<-hl]
   exact Aj h1
  exact subscriptTail_builtinR (x:=w) pl.isList.typeIs slot_list_getitem.lookup
   (wpAny_getItem_list_neg (Q:=λr s'=>r=w/\EP X pins Z Q r s') pl.isList (by lia) (by rw[AO]<;>lia) (by lia) (by rw[hj];simpa using ew) ⟨rfl,fin⟩) hs
theorem ZAX:IxR X (rIxT X.K):=by
 intro value slice pins s Z H x y v u Q I rx ry h hs
 obtain⟨p,xs,i,z,rfl,rfl,hq,he,q⟩:=h
 cases rx
 obtain⟨t,rfl⟩:=ry
 obtain⟨its,r,pl,hz⟩:=I.tuple hq
 obtain⟨j,h1,h2,h3,h4,h5⟩:=ZIP he
 obtain⟨w,ew,rw'⟩:=r.get h2
 have hl:=r.length
 have hn:=ZFP
 have fin:EP X pins Z Q w s:=⟨z,H,I,rw',q⟩
 exact subscriptTail_builtinR (x:=w) pl.typeIs slot_tuple_getitem.lookup
  (getItem_tuple (j:=j) (Q:=λr s'=>r=w/\EP X pins Z Q r s') pl (by lia) (by lia) (by rw[AO,<-hl];exact h1) (by simpa using ew) ⟨rfl,fin⟩) hs
theorem ix_str:IxR X rIxS:=by
 intro value slice pins s Z H x y v u Q I rx ry h hs
 obtain⟨z,i,c,rfl,rfl,hz,he,q⟩:=h
 obtain⟨t,rfl⟩:=rx
 obtain⟨t',rfl⟩:=ry
 obtain⟨j,h1,h2,h3,h4,h5⟩:=ZIP he
 have hl:z.cps.toList.length=z.length:=by simp[Str.length]
 rw[hl] at h1 h4 h5
 have hn:=ZFP
 exact tail_any (typeIs_str s z t) slot_str_getitem.lookup (getItem_str (c:=c) (by
  have e1:decide (i< -(2 ^ 63:Int))=false:=decide_eq_false (by lia)
  have e2:decide (i ≥ 2 ^ 63)=false:=decide_eq_false (by lia)
  rw[e1,e2,Bool.or_false]) (by rw[h1];simpa using h2) ⟨.str ⟨#[c]⟩,H,I.tok _,⟨_,rfl⟩,q⟩) hs
def rIx (K:AB):R2:=λx y H Q=>rIxL K x y H Q\/rIxT K x y H Q\/rIxS x y H Q
theorem ix_seq:IxR X (rIx X.K):=ZDf.or (ZAX.or ix_str)
theorem ZGi (lo hi:Option Int)(n:Nat):(sliceBounds lo hi none n).1=((HT.sIx n 0 lo:Nat):Int)/\(sliceBounds lo hi none n).2.1=((HT.sIx n n hi:Nat):Int)/\(sliceBounds lo hi none n).2.2=1:=by
 refine⟨?_,?_,rfl⟩
 ·cases lo with
  |none=>simp[sliceBounds,HT.sIx]
  |some i=>
   simp only[sliceBounds,HT.sIx,En,show(1:Int)>0 by decide,if_true]
   by_cases h:i<0
   ·simp only[h,if_true]<;>lia
   ·simp only[h,if_false]<;>lia
 ·cases hi with
  |none=>simp[sliceBounds,HT.sIx]
  |some i=>
   simp only[sliceBounds,HT.sIx,En,show(1:Int)>0 by decide,if_true]
   by_cases h:i<0
   ·simp only[h,if_true]<;>lia
   ·simp only[h,if_false]<;>lia
theorem ZF2 (its:List E2)(lo hi:Option Int):slicePick its.toArray lo hi none=((its.drop (HT.sIx its.length 0 lo)).take (HT.sIx its.length its.length hi-HT.sIx its.length 0 lo)).toArray:=by
 obtain⟨h1,h2,h3⟩:=ZGi lo hi its.toArray.size
 unfold slicePick
 rw[h1,h2,h3]
 simp only[sliceRange_one,pick_run,AO]<;>rfl
inductive ZNt (K:AB)(x:V)(lo:Option Int)(hi:Option Int)(H:Hp)(Q:VK):Prop
 |mk:∀a xs,(x= .ref a)->(SqL K H a xs)->(∀p,H p=none->Q (.ref p) (upd H p (.lst (cutV xs lo hi))))->ZNt K x lo hi H Q
def rSlL (K:AB):V->Option Int->Option Int->Hp->VK->Prop:=λx lo hi H Q=>ZNt K x lo hi H Q
theorem ZF3:SlR X (rSlL X.K):=by
 intro pins s Z H x v vl vu lo hi sl Q I rx hs pl pu h
 obtain⟨a,xs,rfl,hx,q⟩:=h
 cases rx
 obtain⟨its,r,ht,hz⟩:=I.list hx
 have hlen:=r.length
 refine⟨"list",_,slot_list_getitem.lookup,ht.isList.typeIs,?_⟩
 refine wpAny_getItem_list_slice ht.isList hs pl pu .none (by simp) ?_ (by rw[AO]<;>lia)
 rw[ZF2,<-hlen]
 refine⟨.ref s.heap.objs.size,_,I.laid (t':=s.toks) (o:= .lst (cutV xs lo hi)) (λb ob q=>AC _ q) (AK _) ?_,rfl,q _ (I.hok.fresh (AK _))⟩
 exact⟨As (ZBD xs lo hi) hz,_,0,(r.drop (HT.sIx xs.length 0 lo)).take (HT.sIx xs.length xs.length hi-HT.sIx xs.length 0 lo),AN _ rfl⟩
def flatV:V->Bool
 | .non=>true
 | .bl _=>true
 | .int _=>true
 | .str _=>true
 |_=>false
def eqV:V->V->Bool
 | .non,.non=>true
 | .bl a,.bl b=>a==b
 | .bl a,.int b=>(if a then 1 else 0)==b
 | .int a,.bl b=>a==(if b then 1 else 0)
 | .int a,.int b=>a==b
 | .str a,.str b=>a==b
 |_,_=>false
theorem ZDH {A:FC}{s:E4}{y x:V}{u v:E2}(ry:RelV y u)(rx:RelV x v)(fy:flatV y=true)(fx:flatV x=true):SeqAt.EqAt A s u v (eqV y x):=by
 cases y with
 |non=>
  cases ry
  cases x with
  |non=>cases rx;exact SeqAt.EqAt.same _
  |bl b=>cases rx;exact SeqAt.EqAt.none_bool b
  |int b=>obtain⟨t,rfl⟩:=rx;exact SeqAt.EqAt.none_int b t
  |str b=>obtain⟨t,rfl⟩:=rx;exact SeqAt.EqAt.none_str b t
  |_=>exact absurd (show false=true from fx) AM
 |bl a=>
  cases ry
  cases x with
  |non=>cases rx;exact SeqAt.EqAt.bool_none a
  |bl b=>cases rx;exact SeqAt.EqAt.bool_bool a b
  |int b=>obtain⟨t,rfl⟩:=rx;exact SeqAt.EqAt.bool_int a b t
  |str b=>obtain⟨t,rfl⟩:=rx;exact SeqAt.EqAt.bool_str a b t
  |_=>exact absurd (show false=true from fx) AM
 |int a=>
  obtain⟨t',rfl⟩:=ry
  cases x with
  |non=>cases rx;exact SeqAt.EqAt.int_none a t'
  |bl b=>cases rx;exact SeqAt.EqAt.int_bool a t' b
  |int b=>obtain⟨t,rfl⟩:=rx;exact SeqAt.EqAt.int_int a t' b t
  |str b=>obtain⟨t,rfl⟩:=rx;exact SeqAt.EqAt.int_str a t' b t
  |_=>exact absurd (show false=true from fx) AM
 |str a=>
  obtain⟨t',rfl⟩:=ry
  cases x with
  |non=>cases rx;exact SeqAt.EqAt.str_none a t'
  |bl b=>cases rx;exact SeqAt.EqAt.str_bool a t' b
  |int b=>obtain⟨t,rfl⟩:=rx;exact SeqAt.EqAt.str_int a t' b t
  |str b=>obtain⟨t,rfl⟩:=rx;exact SeqAt.EqAt.str_str a t' b t
  |_=>exact absurd (show false=true from fx) AM
 |_=>exact absurd (show false=true from fy) AM
theorem ZA3:ZB6 X (.builtin "len") (λxs H Q=>∃p ys,xs= [.ref p]/\(SqL X.K H p ys\/SqT X.K H p ys)/\Q (.int ys.length) H):=by
 intro pins s Z H xs us Q I r h
 obtain⟨p,ys,rfl,hq,q⟩:=h
 obtain⟨u,rfl,rx⟩:=vals1 r
 cases rx
 have hn:=ZFP
 rcases hq with hq|hq
 ·obtain⟨its,r',pl,hz⟩:=I.list hq
  have hlen:=r'.length
  exact Calls.call_len_list pl.isList (by simp only[AO]<;>lia) ⟨.int ys.length,H,I.tok _,⟨s.toks+1,by rw[AO,hlen]⟩,q⟩
 ·obtain⟨its,r',pl,hz⟩:=I.tuple hq
  have hlen:=r'.length
  exact len_tuple pl (by simp only[AO]<;>lia) ⟨.int ys.length,H,I.tok _,⟨s.toks+1,by rw[AO,hlen]⟩,q⟩
theorem ZHF:ZB6 X (.builtin "len") (λxs H Q=>∃z,xs= [.str z]/\z.length<=sizeLine/\Q (.int z.length) H):=by
 intro pins s Z H xs us Q I r h
 obtain⟨z,rfl,hz,q⟩:=h
 obtain⟨u,rfl,t,rfl⟩:=vals1 r
 have hn:=ZFP
 exact len_str (by lia) ⟨.int z.length,H,I.tok _,⟨_,rfl⟩,q⟩
theorem ZB6.or {f:E2}{r r':List V->Hp->VK->Prop}(h:ZB6 X f r)(h':ZB6 X f r'):ZB6 X f (λxs H Q=>r xs H Q\/r' xs H Q):=by
 intro pins s Z H xs us Q I rs q
 rcases q with q|q
 ·exact h pins s Z H xs us Q I rs q
 ·exact h' pins s Z H xs us Q I rs q
theorem ZAG:ZB6 X (.type "tuple") (λxs H Q=>∃p ys,xs= [.ref p]/\((SqL X.K H p ys/\∀l,H l=none->Q (.ref l) (upd H l (.tup ys)))\/(SqT X.K H p ys/\Q (.ref p) H))):=by
 intro pins s Z H xs us Q I r h
 obtain⟨p,ys,rfl,h⟩:=h
 obtain⟨u,rfl,rx⟩:=vals1 r
 cases rx
 rcases h with⟨hq,q⟩|⟨hq,q⟩
 ·obtain⟨its,r',pl,hz⟩:=I.list hq
  have hlen:=r'.length
  refine call_tuple_list pl.isList (λh' kp=>?_) (by simp only[AO]<;>lia)
  have I1:Inv X pins Z H {s with heap:=h'}:=I.kept (t':=s.toks) kp
  have I2:Inv X pins Z (upd H h'.objs.size (.tup ys)) {s with heap:=h'.push {cls:= .type "tuple",data:= .seq its.toArray}}:=
   I1.laid (t':=s.toks) (λb o e=>AC _ e) (AK _) (show ZBA X.prog X.w _ _ _ (.tup ys) from⟨hz,its,r',ZDv.new _ _⟩)
  exact⟨.ref h'.objs.size,_,I2,rfl,q _ (I1.hok.fresh (AK _))⟩
 ·obtain⟨its,r',pl,hz⟩:=I.tuple hq
  exact call_tuple_same pl ⟨.ref p,H,I,rfl,q⟩
def tyV (K:AB)(T:String)(x:V)(H:Hp):Prop:=match x with
 | .str _=>T="str"
 | .int _=>T="int"
 | .ref p=>(T="list"/\∃xs,SqL K H p xs)\/(T="tuple"/\∃o,K.lookup p=some o/\o.cls= .type "tuple"/\o.dict=none)\/
   (T="dict"/\((∃kvs,H p=some (.dK kvs))\/∃kvs,H p=some (.dT kvs)))\/(T="set"/\∃S n,H p=some (.set S n))
 |_=>False
theorem tyV_is {pins:List (Ez×FF)}{Z:St}{H:Hp}{s:E4}{T:String}{x:V}{v:E2}(I:Inv X pins Z H s)(r:RelV x v)(ty:tyV X.K T x H):
  s.TypeIs v T/\∀a,v= .ref a->∃ob,s.heap.get? a=some ob/\ob.dict=none:=by
 cases x with
 |str z=>
  obtain⟨t,rfl⟩:=r
  cases(show T="str" from ty)
  exact⟨typeIs_str s z t,λ_ e=>nomatch e⟩
 |int i=>
  obtain⟨t,rfl⟩:=r
  cases(show T="int" from ty)
  exact⟨typeIs_int s i t,λ_ e=>nomatch e⟩
 |ref p=>
  cases r
  rcases ty with⟨rfl,xs,hq⟩|⟨rfl,o,hk,hc,hd⟩|⟨rfl,hk⟩|⟨rfl,S,n,hk⟩
  ·obtain⟨its,_,pl,_⟩:=I.list hq
   refine⟨pl.isList.typeIs,λa e=>?_⟩
   cases e
   obtain⟨o,n,e,c,hd,_⟩:=pl
   exact⟨o,e,hd⟩
  ·refine⟨⟨o,I.kIn p o hk,hc⟩,λa e=>?_⟩
   cases e
   exact⟨o,I.kIn _ o hk,hd⟩
  ·have z:∃o,s.heap.get? p=some o/\o.ExactDict:=by
    rcases hk with⟨kvs,hk⟩|⟨kvs,hk⟩
    ·obtain⟨_,_,_,_,o,_,_,e,ex,_⟩:=I.hok p _ hk
     exact⟨o,e,ex⟩
    ·obtain⟨_,_,_,_,o,_,_,e,ex,_⟩:=I.hok p _ hk
     exact⟨o,e,ex⟩
   obtain⟨o,e,ex⟩:=z
   refine⟨⟨o,e,ex.1⟩,λa e2=>?_⟩
   cases e2
   exact⟨o,e,ex.2.1⟩
  ·obtain⟨o,_,_,_,e,ex,_⟩:=I.hok p _ hk
   refine⟨⟨o,e,ex.1⟩,λa e2=>?_⟩
   cases e2
   exact⟨o,e,ex.2.1⟩
 |_=>exact Bg ty
def tBM (K:AB)(T:String)(r:V->List V->Hp->VK->Prop)(to:TE)(t:TA):TE:=λZ H Q=>to Z H λx H1=>tyV K T x H1/\t Z H1 λxs H2=>r x xs H2 Q
variable {o e:FD}{es:List FD}{to:TE}{t:TA}{name:E3}{apos cpos:Pos}{T id:String}{r:V->List V->Hp->VK->Prop}
theorem ZJl (pa:PlainAttrs T)(slot:Slot T name id)(hty:typeOf (.builtin id)=pure (.type "method_descriptor"))(hm:MtR X id r)(ho:PE X o to)(ha:PA X (e::es) t)
  (hbase:attributeBase o name X.env (eval o X.env)=eval o X.env:=by rfl)
  (hfew:((backTo cpos (FG (e::es) X.env)).all (λx=> !x.1)&&(backToKw cpos (keywordEach [] X.env)).all (λx=>x.1.isSome)
   &&decide ((e::es).length+([]:List Keyword).length+(if([]:List Keyword).isEmpty then 0 else 1)<30))=true:=by rfl)
  (hline:(apos.endLine==cpos.line)=true:=by rfl) (hs:FG (e::es) X.env=(false,eval e X.env)::FG es X.env:=by rfl) (hplain:(backTo cpos (FG es X.env)).any (·.1)=false:=by rfl):
  PE X (.Call (.Attribute o name apos) (e::es) [] cpos) (tBM X.K T r to t):=by
 intro pins s Z H Q I h
 refine wpAny_Call_method_late hbase hfew hline rfl (thn (ho pins s Z H _ I h) λv s1 ⟨x,H1,I1,r1,ty,q1⟩=>?_)
 obtain⟨h1,h2⟩:=tyV_is I1 r1 ty
 refine⟨T,id,pa,slot,hty,h1,h2,?_⟩
 have hA:=ha cpos pins s1 Z H1 _ I1 q1
 rw[hs] at hA ⊢
 refine Cg (by show(false||(backTo cpos (FG es X.env)).any (·.1))=false;rw[hplain]<;>rfl) (De ?_)
 exact thn hA λus s2 ⟨vs,H2,I2,r2,q2⟩=>hm pins s2 Z H2 x vs v us Q I2 r1 r2 q2
end
def MtM (X:Cx)(id:String)(r:V->List V->Hp->VK->Prop):Prop:=
 ∀(pins:List (Ez×FF)) (s:E4) (Z:St) (H:Hp) (x:V) (xs:List V) (v:E2) (us:List E2) (Q:VK),Inv X pins Z H s->RelV x v->Vals xs us->r x xs H Q->
  E6 (model X.prog X.w) X.A (call (.builtin id) (v::us)) (EP X pins Z Q) X.xe s
theorem Vals.one {x:V}{us:List E2}(h:Vals [x] us):∃u,us= [u]/\RelV x u:=by
 cases h with|cons r t=>cases t;exact⟨_,rfl,r⟩
section
variable {X:Cx}{pins:List (Ez×FF)}{Z:St}{H:Hp}{s:E4}{l b:Ez}{xs ys zs:List V}
theorem Inv.lset {its its':List E2}{n:Nat}{f:Array E2->Array E2}{t':Nat}(I:Inv X pins Z H s)(hH:H l=some (.lst xs))
  (e:s.heap.get? l=some {cls:= .type "list",data:= .seq its.toArray n}) (hf:f its.toArray=its'.toArray) (hv:Vals ys its') (hz:ys.length<=sizeLine):
  Inv X pins Z (upd H l (.lst ys)) {s with heap:=s.heap.update l (BF f),toks:=t'}:=by
 have q:=PySem.IsL.update e f
 rw[hf] at q
 refine I.write (x:=l) (e:=l) (by rw[hH];exact trivial) (.inl rfl) (λb' u hb hu=>(Ar s.heap (BF f) (A9 hb)).trans hu) ⟨_,q⟩ ?_
 exact⟨hz,its',_,hv,q⟩
theorem Inv.lnew {its:List E2}{t':Nat}(I:Inv X pins Z H s)(hv:Vals ys its)(hz:ys.length<=sizeLine):
  Inv X pins Z (upd H s.heap.objs.size (.lst ys)) {s with heap:=s.heap.push {cls:= .type "list",data:= .seq its.toArray},toks:=t'}:=
 I.laid (λ_ _ q=>AC _ q) (AK _) ⟨hz,its,0,hv,AN _ rfl⟩
theorem Inv.fresh (I:Inv X pins Z H s):H s.heap.objs.size=none:=I.hok.fresh (AK _)
theorem Inv.lstM (I:Inv X pins Z H s)(hH:H l=some (.lst xs)):xs.length<=sizeLine/\∃(its:List E2) (n:Nat),Vals xs its/\xs.length=its.length/\s.heap.get? l=some {cls:= .type "list",data:= .seq its.toArray n}:=by
 obtain⟨z,its,n,r,e⟩:=I.hok l _ hH
 exact⟨z,its,n,r,r.length,e⟩
theorem ZMo {n:Nat}(h:n<=sizeLine):C6 n=false:=by
 unfold C6
 exact decide_eq_false (by lia)
end
section
variable {X:Cx}
inductive ZHf (x:V)(vs:List V)(H:Hp)(Q:VK):Prop
 |mk:∀l xs y,(x= .ref l)->(vs= [y])->(H l=some (.lst xs))->(xs.length<sizeLine)->(Q .non (upd H l (.lst (xs++ [y]))))->ZHf x vs H Q
def ZOS:V->List V->Hp->VK->Prop:=λx vs H Q=>ZHf x vs H Q
theorem ZBe:MtM X "list.append" ZOS:=by
 intro pins s Z H x vs v us Q I rx rv h
 obtain⟨l,xs,y,rfl,rfl,hH,hz,q⟩:=h
 cases rx
 obtain⟨u,rfl,ru⟩:=rv.one
 obtain⟨z,its,n,r,hl,e⟩:=I.lstM hH
 refine GM F.slot_list_append ⟨_,e,rfl⟩ F.entry_list_append (F.args_list_append_2 _ _) (PySem.list_append l its.toArray n u (by rw[AO];lia)) ⟨e,?_⟩
 refine⟨.non,_,I.lset (its':=its++ [u]) hH e (by simp) (r.append (.cons ru .nil)) ?_,rfl,q⟩
 rw[AW,Ai]
 lia
inductive ZHe (x:V)(vs:List V)(H:Hp)(Q:VK):Prop
 |mk:∀l b xs zs,(x= .ref l)->(vs= [.ref b])->(H l=some (.lst xs))->(H b=some (.lst zs))->(xs.length+zs.length<=sizeLine)->(Q .non (upd H l (.lst (xs++zs))))->ZHe x vs H Q
def ZOR:V->List V->Hp->VK->Prop:=λx vs H Q=>ZHe x vs H Q
theorem mt_extend:MtM X "list.extend" ZOR:=by
 intro pins s Z H x vs v us Q I rx rv h
 obtain⟨l,b,xs,zs,rfl,rfl,hH,hB,hz,q⟩:=h
 cases rx
 obtain⟨u,rfl,ru⟩:=rv.one
 cases ru
 obtain⟨z,its,n,r,hl,e⟩:=I.lstM hH
 obtain⟨z2,its2,n2,r2,hl2,e2⟩:=I.lstM hB
 have hsz:its.toArray.size+its2.toArray.size<=sizeLine:=by rw[AO,AO];lia
 have hlong:¬(!its.toArray.isEmpty&&C6 (its.toArray.size+its2.toArray.size))=true:=by
  rw[ZMo hsz,Bool.and_false]
  exact AM
 refine GM F.slot_list_extend ⟨_,e,rfl⟩ F.entry_list_extend (F.args_list_extend_2 _ _)
  (AutoSeq1.list_extend_list_list_0 l its.toArray n b its2.toArray n2 hlong (by rw[AO];lia) (by lia)) ⟨e,e2,?_⟩
 refine⟨.non,_,I.lset (its':=its++its2) hH e (by simp) (r.append r2) ?_,rfl,q⟩
 rw[AW]
 lia
inductive ZN3 (x:V)(y:V)(H:Hp)(Q:VK):Prop
 |mk:∀l b xs zs,(x= .ref l)->(y= .ref b)->(H l=some (.lst xs))->(H b=some (.lst zs))->(xs.length+zs.length<=sizeLine)->(∀p,H p=none->Q (.ref p) (upd H p (.lst (xs++zs))))->ZN3 x y H Q
def rCat:R2:=λx y H Q=>ZN3 x y H Q
theorem ZNZ:OpR X (binaryOp .Add) rCat:=by
 intro pins s Z H x y v u Q I rx ry h
 obtain⟨l,b,xs,zs,rfl,rfl,hH,hB,hz,q⟩:=h
 cases rx
 cases ry
 obtain⟨z,its,n,r,hl,e⟩:=I.lstM hH
 obtain⟨z2,its2,n2,r2,hl2,e2⟩:=I.lstM hB
 refine PySem.P.add_list e e2 ?_ (by rw[AO,AO];lia)
 have ea:its.toArray++its2.toArray=(its++its2).toArray:=by simp
 rw[ea]
 exact⟨.ref _,_,I.lnew (t':=s.toks) (r.append r2) (by rw[AW];lia),rfl,q _ I.fresh⟩
end
section
variable {prog:E7}{w:FA}{A:FC}{E:E2->E4->Prop}{s:E4}
set_option maxRecDepth 100000 in
end
section
variable {X:Cx}
end
end L2
namespace Att
open PySem PySem.W PySem.Calls PyProof.Rows
theorem ZEh {P:Params}{h:E9}:∀(ns:List Int) (vs:List E2),WellAll P h vs (ns.map WData.int)->IntsAre vs ns:=by
 intro ns
 induction ns with
 |nil=>
  intro vs w
  rw[List.map_nil] at w
  cases w
  exact .nil
 |cons n ns ih=>
  intro vs w
  rw[AR] at w
  cases w with
  |cons a b=>
   cases a
   exact .cons _ _ (ih _ b)
theorem ZKM {l:OpenLaw}{n:Nat}(hn:l.most=some n){P:Params}{h:E9}{args:List WData}{vals:List E2}
  (hpre:l.row.toRowW.claim.pre args=true) (hwl:WellAll P h vals args):
  ∃a vs ns,vals= [Ab a]/\args= [WData.list (ns.map WData.int)]/\h.get? a=some {cls:= .type "list",data:= .seq vs.toArray}/\IntsAre vs ns/\ns.length<=n:=by
 have hsh:WShape.hasAll [] args [.list .int]=true:=(pre_splitW hpre).1
 have hc:l.pre.holds [] {args:=args}=true:=(pre_splitW hpre).2
 obtain⟨d,r,rfl,h1,h2⟩:=hasAllW_cons hsh
 obtain rfl:=hasAllW_nil h2
 obtain⟨xs,rfl,h3⟩:=hasW_list h1
 obtain⟨ns,rfl⟩:=items_int h3
 have hlen:ns.length<=n:=by
  unfold OpenLaw.pre at hc
  have h4:(WTm.not (.lt (.lit (.int (n:Int))) (.len (.arg 0)))).holds [] {args:= [.list (ns.map .int)]}=true:=by
   have h4:=(holds_andW hc).1
   rw[hn] at h4
   exact h4
  have h5:=condW_of h4 (w_not (w_lt w_lit (w_len_list (w_arg rfl))))
  rw[AA] at h5
  refine DQ λq=>?_
  have q':(n:Int)<((ns.length:Nat):Int):=by lia
  first
   |(rw[decide_eq_true q'] at h5;exact absurd h5 (by decide))
   |(simp at h5;lia)
 cases hwl with
 |cons w1 w2=>
  cases w2
  cases w1 with
  |list ho hall=>exact⟨_,_,ns,rfl,rfl,ho,ZEh ns _ hall,hlen⟩
theorem ZKi (l:OpenLaw)(args:List WData):l.row.toRowW.claim.post args (.bool true) args=true:=
 postW_of (r:=l.row.toRowW) (X:=(true==true))
  (show WShape.has [] (.bool true) .bool=true by first|rfl|decide|simp[WShape.has,WShape.arms,WShape.armsAll])
  (show(WTm.eq .res (.lit (.bool true))).value [] {args:=args,res:=some (.bool true),after:=args}=some (.bool (true==true)) from w_eq_bool (w_res rfl) w_lit) rfl
theorem attach_call {l:OpenLaw}{n:Nat}{q:E7}{loose:List E3}{XP:(E3->Option E2)->E9->Prop}{YP:FA->E9->Prop}{d:DefRec}
  (hn:l.most=some n) (hdf:d.params.defaults= [])
  (call:∀(w:FA) (s₀ s₁:E4) (mg mb:E3->Option E2) (fa:Ez) (o:FF) (pm cd doc:E2) (a:Ez) (vs:List E2) (ns:List Int),
   Ground q loose [] XP w s₀ mg mb s₁.heap->YP w s₁.heap->
   s₁.heap.get? fa=some o->o.data= .func (docDef d.name d.params d.body d.scope pm cd doc)->s₁.heap.CodeRec cd d.name->mg d.name=some (.ref fa)->
   s₁.heap.get? a=some {cls:= .type "list",data:= .seq vs.toArray}->IntsAre vs ns->ns.length<=n->s₁.gens=#[]->
   Fj (model l.prog w) callerA (.call (.ref fa) ⟨[.ref a],[]⟩) (λr s'=>r= .ok (.ret (.bool true))/\OldK s₁.heap s'.heap/\s'.os=s₁.os/\AllBare s'.gens) s₁):
  WalkO q loose XP YP l.row.toRowW d [] (λf vs=>Ej f vs):=by
 intro w s₀ s₁ mg mb G Y fa o pm cd doc dV kV ho hd hcd hD hmg hg args vals as hpre hlay hrd hwl hlo
 obtain rfl:dV= .none:=Dflts.none hD hdf
 obtain rfl:kV= .none:=Dflts.noKw hD
 obtain⟨a,vs,ns,rfl,rfl,hobj,hints,hlen⟩:=ZKM hn hpre hwl
 refine enter_call (Fx (call w s₀ s₁ mg mb fa o pm cd doc a vs ns G Y ho (fd_plain hd) hcd hmg hobj hints hlen hg) λr s' hq=>?_)
 obtain⟨rfl,h2,h3,h4⟩:=hq
 exact⟨.inl ⟨.bool true,.bool true,[],rfl,λ_=>rfl,.bool true,ZKi l _,λ_=>⟨DY,λ_ hm=>(nomatch hm)⟩⟩,h2,h3,h4⟩
section
variable {prog:E7}{w:FA}{A:FC}{E:E2->E4->Prop}{s:E4}{K:Frag}
end
end Att
namespace L2
open PySem PySem.Spec PyProof.Rows
theorem ZGZ:∀{vs:List E2} {ns:List Int},IntsAre vs ns->Vals (ns.map V.int) vs
 |_,_,.nil=> .nil
 |_,_,.cons n t h=> .cons ⟨t,rfl⟩ (ZGZ h)
def Only (H:Hp):Prop:=∀b,H b=none\/∃o xs,H b=some (.frz o (.lst xs))
theorem ZMz {P:E7}{w:FA}{K:AB}{mg mb:E3->Option E2}{CX:CXT}{k:Nat}{fa a:Ez}{fd:FJ}{x:E3}{sp:Sp}{s₁:E4}{vs:List E2}{ns:List Int}
  (KX:K.In s₁.heap) (hns:s₁.heap.Ns E8 mg) (hb:s₁.heap.Ns builtinsNs mb) (hbb:∀x:E3,x≠"__name__"->mb x=Ff x) (hlim:s₁.heap.NoLimit) (hg:s₁.gens=#[])
  (ha:s₁.heap.get? a=some {cls:= .type "list",data:= .seq vs.toArray}) (hi:IntsAre vs ns) (hl:ns.length<=sizeLine) (hr:Room k callerA)
  (F:∀base:E9,K.In base->base.Ns E8 mg->FnOk P w K mg base CX k fa fd [x] sp) (hbind:∀(s:E4) (u:E2),BindsTo s fd ⟨[u],[]⟩ [(x,u)])
  (hsp:∀H:Hp,Only H->SqL K H a (ns.map V.int)->sp [.ref a] H (λv _=>v= .bl true) λ_ _ _=>False)
  (hCX:∀H e s',CX [] H s₁ (λ_ _ _=>False) e s'->False):
  Fj (model P w) callerA (.call (.ref fa) ⟨[.ref a],[]⟩) (λr s'=>r= .ok (.ret (.bool true))/\OldK s₁.heap s'.heap/\s'.os=s₁.os/\AllBare s'.gens) s₁:=by
 have rv:=ZGZ hi
 have lenV:=hi.length
 --from an abstract heap in which nothing but the script may be tracked
 have core:∀H:Hp,Only H->SqL K H a (ns.map V.int)->HOk P w H s₁.heap->(∀b,H b≠none->b=a)->(H a≠none->K.lookup a=none)->
   Fj (model P w) callerA (.call (.ref fa) ⟨[.ref a],[]⟩) (λr s'=>r= .ok (.ret (.bool true))/\OldK s₁.heap s'.heap/\s'.os=s₁.os/\AllBare s'.gens) s₁:=by
  intro H hO hS hok hA hK
  have base_of:∀{b:Ez} {o:FF},s₁.heap.get? b=some o->H b=none->(hidT s₁.heap H).get? b=some o:=λe n=>ZM4 e n
  have noA:∀{b:Ez} {o:FF} {es:Array FZ} {ep:Nat},s₁.heap.get? b=some o->o.data= .dict es ep->H b=none:=λ{b o es ep} e d=>by
   cases q:H b with
   |none=>rfl
   |some u=>
    have e':b=a:=hA b (by rw[q];simp)
    subst e'
    rw[ha] at e;cases e
    have d':Data.seq vs.toArray _=Data.dict es ep:=d
    cases d'
  have nsK:∀{b:Ez} {m:E3->Option E2},s₁.heap.Ns b m->(hidT s₁.heap H).Ns b m:=λ{b m} ⟨o,es,ep,e,d,r⟩=>⟨o,es,ep,base_of e (noA e d),d,r⟩
  have hKb:K.In (hidT s₁.heap H):=λb o e=>base_of (KX b o e) (by
   cases q:H b with
   |none=>rfl
   |some u=>
    have e':b=a:=hA b (by rw[q];simp)
    subst e'
    rw[hK (by rw[q];simp)] at e;cases e)
  have hM:Mod K mg (hidT s₁.heap H):=⟨hKb,nsK hns,⟨mb,nsK hb,hbb⟩,let⟨mc,h1,h2⟩:=hlim;⟨mc,nsK h1,h2⟩⟩
  have e0:Env0 P w K mg (hidT s₁.heap H) callerA [] s₁ H:=⟨rfl,hM,λb o e=>ZOl e,Nat.le_of_eq (ZLS _ _),trivial,λb hb=>absurd (show b∈([]:List Ez) from hb) (by simp),hok,.of_eq hg⟩
  refine Fx ((F _ hKb (nsK hns)).run callerA [] s₁ H ⟨[.ref a],[]⟩ [.ref a] [.ref a] _ _ hr e0 (hbind s₁ (.ref a)) (.cons rfl .nil) (hsp H hO hS)) λr s' h=>?_
  cases r with
  |error e=>exact(hCX H e s' h).elim
  |ok fl=>
   cases fl with
   |next=>exact Bg h
   |brk=>exact Bg h
   |cont=>exact Bg h
   |ret u=>
    obtain⟨v,H',os,bare,un,hok',r',q⟩:=h
    have q':v= .bl true:=q
    subst q'
    obtain rfl:u=Bc true:=r'
    refine⟨rfl,OldK.of_keep λb o e=>?_,os,bare⟩
    cases q:H b with
    |none=>exact un.keep b o e q (by intro z;exact absurd (show b∈([]:List Ez) from z) (by simp)) (by simp)
    |some u=>
     rcases hO b with z|⟨ob,xs,z⟩
     ·rw[q] at z;cases z
     ·have z2:=un.frzs b ob _ z
      obtain⟨e1,_⟩:=hok b _ z
      obtain⟨e2,_⟩:=hok' b _ z2
      rw[e] at e1;cases e1
      exact e2
 cases hk:K.lookup a with
 |some o=>
  --the script is one of the module's own objects
  have e:=KX a o hk
  rw[ha] at e
  cases e
  refine core (λ_=>none) (λ_=> .inl rfl) (.inr ⟨_,vs.toArray,_,hk,rfl,rfl,rfl,by rw[AO,lenV];exact hl,by simpa using rv⟩) (λb u z=>by have z':(none:Option HO)=some u:=z;cases z') (λb z=>absurd rfl z) λz=>absurd rfl z
 |none=>
  refine core (λb=>if b=a then some (.frz {cls:= .type "list",data:= .seq vs.toArray} (.lst (ns.map V.int))) else none) (λb=>?_) (.inl (.inr ⟨{cls:= .type "list",data:= .seq vs.toArray},if_pos rfl⟩)) (λb u z=>?_) (λb z=>?_) λ_=>hk
  ·by_cases hb:b=a
   ·exact .inr ⟨_,_,if_pos hb⟩
   ·exact .inl (if_neg hb)
  ·by_cases hb:b=a
   ·have z':=(if_pos hb).symm.trans z
    cases z'
    subst hb
    exact⟨ha,by rw[AA];exact hl,vs,_,rv,ha⟩
   ·have z':=(if_neg hb).symm.trans z
    cases z'
  ·by_cases hb:b=a
   ·exact hb
   ·exact absurd (if_neg hb) z
theorem walk_of {l:PySem.W.OpenLaw}{n k:Nat}{q:E7}{loose:List E3}{XP:(E3->Option E2)->E9->Prop}{YP:FA->E9->Prop}{d:DefRec}{K:Params->AB}{CX:FA->CXT}{sp:FA->Sp}{x:E3}
  (hn:l.most=some n) (hn2:n<=sizeLine) (hdf:d.params.defaults= []) (hr:Room k callerA)
  (hY:∀(w:FA) (h:E9),YP w h->(K w.params).In h)
  (F:∀(w:FA) (mg:E3->Option E2) (fa:Ez) (h:E9),(K w.params).In h->h.Ns E8 mg->mg d.name=some (.ref fa)->
   ∃fd:FJ,(∀(s:E4) (u:E2),BindsTo s fd ⟨[u],[]⟩ [(x,u)])/\
    ∀base:E9,(K w.params).In base->base.Ns E8 mg->FnOk l.prog w (K w.params) mg base (CX w) k fa fd [x] (sp w))
  (hsp:∀(w:FA) (H:Hp) (a:Ez) (ns:List Int),ns.length<=n->Only H->SqL (K w.params) H a (ns.map V.int)->sp w [.ref a] H (λv _=>v= .bl true) λ_ _ _=>False)
  (hCX:∀(w:FA) (H:Hp) (s:E4) (e:E2) (s':E4),CX w [] H s (λ_ _ _=>False) e s'->False):
  PySem.W.WalkO q loose XP YP l.row.toRowW d [] (λf vs=>Ej f vs):=by
 refine Att.attach_call hn hdf λw s₀ s₁ mg mb fa o pm cd doc a vs ns G Y ho hd hcd hmg hobj hints hlen hg=>?_
 have KX:=hY w _ Y
 obtain⟨fd,hb,hF⟩:=F w mg fa _ KX G.T.g hmg
 exact ZMz KX G.T.g G.T.b G.T.builtins G.T.nolimit hg hobj hints (As hlen hn2) hr hF hb (λH hO hS=>hsp w H a ns hlen hO hS) λH e s'=>hCX w H s₁ e s'
def ZAR (s:FS):Arguments:=match s with
 | .FunctionDef _ a _ _ _ _ _ _ _ _=>a
 |_=>{posonlyargs:= [],args:= [],vararg:=none,kwonlyargs:= [],kw_defaults:= [],kwarg:=none,defaults:= []}
def ZAM (s:FS):List FS:=match s with
 | .FunctionDef _ _ b _ _ _ _ _ _ _=>b
 |_=> []
def ZAF (s:FS):F0:=match s with
 | .FunctionDef _ _ _ _ _ _ sc _ _ _=>sc
 |_=>{kind:= .function,names:= [],isGenerator:=false,isCoroutine:=false}
abbrev CX0:CXT:=λ_ _ _ _ _ _=>False
abbrev E0:XK:=λ_ _ _=>False
theorem pass0 {X:Cx}:ZHM CX0 X E0:=λ_ _ _ _ _ _ _ h=>h.elim
structure Fun (K:AB)(x qual:E3)(st:FS)(f:Ez)(fd:FJ):Prop where
 ex:∃(oc:E2) (od:Option Ez) (kV doc pm:E2) (an:Option Ez) (cdv ct:E2) (osl:Array (Option E2)),
  fd=Al x qual (ZAR st) (ZAM st) (ZAF st) .none kV doc pm an cdv ct/\K.lookup f=some ⟨oc,od,.func fd,osl⟩/\Ak K cdv qual=true
 kp:Ad K (.ref f)=true
section
variable {P:E7}{w:FA}{K:AB}{mg:E3->Option E2}{base:E9}
theorem Fun.ok {x qual:E3}{st:FS}{f:Ez}{fd:FJ}{N ps:List E3}{k:Nat}{sp:Sp}(F:Fun K x qual st f fd)(S:ZAS N ps (ZAF st))(len:∀vs H Q E,sp vs H Q E->vs.length=ps.length)
  (hbody:∀(cdv:E2) (A:FC) (outer:List Env) (s:E4) (H:Hp) (vs:List V) (Q:VK) (E:XK),Room k (A.deeper (envOfC qual (ZAF st) s.heap.objs.size f cdv))->sp vs H Q E->
   ∃t,PSs (cxOf CX0 P w K mg base N qual (ZAF st) f cdv A outer s H E).nox (ZAM st) t/\t {nx:=λ_ H'=>Q .non H',rt:=Q} (start N vs) H):FnOk P w K mg base CX0 (k+1) f fd ps sp:=by
 obtain⟨oc,od,kV,doc,pm,an,cdv,ct,osl,rfl,lk,hcd⟩:=F.ex
 refine fn_of lk hcd S len λA outer s H vs Q E hr hsp=>?_
 obtain⟨t,h,q⟩:=hbody cdv A outer s H vs Q E hr hsp
 exact⟨t,h.nox,q⟩
theorem Fun.binds {x qual:E3}{st:FS}{f:Ez}{fd:FJ}{ps:List E3}(F:Fun K x qual st f fd)
  (h:∀(kV doc pm:E2) (an:Option Ez) (cdv ct:E2) (us:List E2),us.length=ps.length->bindArgs (Al x qual (ZAR st) (ZAM st) (ZAF st) .none kV doc pm an cdv ct) ⟨us,[]⟩=pure (ps.zip us)):Binds K fd ps []:=by
 obtain⟨oc,od,kV,doc,pm,an,cdv,ct,osl,rfl,lk,hcd⟩:=F.ex
 exact .all (h kV doc pm an cdv ct)
theorem ZAd {x qual:E3}{st:FS}{f:Ez}{oc:E2}{od an:Option Ez}{osl:Array (Option E2)}{kV doc pm cdv ct:E2}(l:K.lookup f=some ⟨oc,od,.func (Al x qual (ZAR st) (ZAM st) (ZAF st) .none kV doc pm an cdv ct),osl⟩)
  (c:Ak K cdv qual=true) (k:Ad K (.ref f)=true):Fun K x qual st f (Al x qual (ZAR st) (ZAM st) (ZAF st) .none kV doc pm an cdv ct):=⟨⟨oc,od,kV,doc,pm,an,cdv,ct,osl,rfl,l,c⟩,k⟩
end
theorem ZA9 {A:FC}{k:Nat}(hr:Room k A):A.units+1<cLine:=Eu (Eo (by decide:1<=64) _) hr.units
section
variable {X:Cx}
theorem pv (i:Nat){x:E3}{pos:Pos}(hN:X.N[i]?=some x:=by rfl)(hv:Vis X.env.scope x:=by first|exact Ag rfl|exact Db (Ag rfl)|exact Db (Db rfl))(hd:(x==("__debug__":E3))=false:=by decide)
  (hcd:(x==("__classdict__":E3))=false:=by decide):PE X (.Name x pos) (tVar i):=pe_var hN hv hd hcd
end
theorem iteF {A B:Prop}(h:B):if false=true then A else B:=by
 rw[if_neg AM]
 exact h
theorem iteT {A B:Prop}(h:A):if true=true then A else B:=by
 rw[if_pos rfl]
 exact h
theorem ite2 {c A B:Prop}[Decidable c](h1:c->A)(h2:¬c->B):if c then A else B:=by
 by_cases h:c
 ·rw[if_pos h]
  exact h1 h
 ·rw[if_neg h]
  exact h2 h
def Same (H H':Hp):Prop:=∀b o,H b=some o->H' b=some o
theorem Same.refl (H:Hp):Same H H:=λ_ _ h=>h
theorem Same.trans {H H1 H2:Hp}(a:Same H H1)(b:Same H1 H2):Same H H2:=λc o h=>b c o (a c o h)
theorem Same.seq {K:AB}{H H':Hp}{a:Ez}{xs:List V}(e:Same H H')(h:SqL K H a xs):SqL K H' a xs:=by
 rcases h with(h|⟨o,h⟩)|h
 ·exact .inl (.inl (e _ _ h))
 ·exact .inl (.inr ⟨o,e _ _ h⟩)
 ·exact .inr h
section
variable {κ:Type}[DecidableEq κ]
def valV (kvs:List (κ×V))(k:κ):Option V:=(kvs.find? λkv=>decide (kv.1=k)).map (·.2)
def putK (kvs:List (κ×V))(k:κ)(v:V):List (κ×V):=
 if(kvs.any λkv=>decide (kv.1=k))=true then kvs.map (λkv=>if kv.1=k then(kv.1,v) else kv) else kvs++ [(k,v)]
theorem ZAn {p:κ×V}{r:List (κ×V)}{k:κ}(e:p.1=k):valV (p::r) k=some p.2:=by simp[valV,Bt,e]
theorem ZAj {p:κ×V}{r:List (κ×V)}{k:κ}(e:¬p.1=k):valV (p::r) k=valV r k:=by simp[valV,Bt,e]
theorem ZCV (k:κ):∀kvs:List (κ×V),(kvs.any λkv=>decide (kv.1=k))=(valV kvs k).isSome
 | []=>rfl
 |p::r=>by
  rw[DH]
  by_cases e:p.1=k
  ·simp only[ZAn e,decide_eq_true e,Bool.true_or,Option.isSome_some]
  ·rw[ZAj e,decide_eq_false e,Bool.false_or];exact ZCV k r
theorem ZIW (k j:κ)(y:V):∀kvs:List (κ×V),valV (kvs.map λkv=>if kv.1=k then(kv.1,y) else kv) j=(valV kvs j).map λx=>if j=k then y else x
 | []=>rfl
 |p::r=>by
  have ih:=ZIW k j y r
  rw[AR]
  by_cases h:p.1=k
  ·rw[if_pos h]
   by_cases e:p.1=j
   ·rw[ZAn (p:=(p.1,y)) e,ZAn e,Cy,if_pos (e.symm.trans h)]
   ·rw[ZAj (p:=(p.1,y)) e,ZAj e,ih]
  ·rw[if_neg h]
   by_cases e:p.1=j
   ·rw[ZAn (p:=p) e,ZAn e,Cy,if_neg (λz=>h (e.trans z))]
   ·rw[ZAj (p:=p) e,ZAj e,ih]
theorem ZGa (k j:κ)(y:V):∀kvs:List (κ×V),valV kvs k=none->valV (kvs++ [(k,y)]) j=if j=k then some y else valV kvs j
 | [],_=>by
  by_cases e:k=j
  ·rw[if_pos e.symm];exact ZAn (p:=(k,y)) e
  ·rw[if_neg (λz=>e z.symm)];exact ZAj (p:=(k,y)) e
 |p::r,hn=>by
  rw[Ct]
  have hk:¬p.1=k:=λz=>by rw[ZAn z] at hn;cases hn
  rw[ZAj hk] at hn
  have ih:=ZGa k j y r hn
  by_cases e:p.1=j
  ·rw[ZAn e,ZAn e,if_neg (λz=>hk (e.trans z))]
  ·rw[ZAj e,ZAj e,ih]
theorem ZD1 (kvs:List (κ×V))(k j:κ)(y:V):valV (putK kvs k y) j=if j=k then some y else valV kvs j:=by
 unfold putK
 by_cases a:(kvs.any λkv=>decide (kv.1=k))=true
 ·rw[if_pos a,ZIW]
  rw[ZCV] at a
  by_cases e:j=k
  ·obtain⟨x,hx⟩:=EN.mp a
   rw[if_pos e,e,hx,Cy,if_pos rfl]
  ·rw[if_neg e]
   cases valV kvs j with
   |none=>rfl
   |some x=>rw[Cy,if_neg e]
 ·rw[if_neg a]
  refine ZGa k j y kvs ?_
  rw[ZCV] at a
  cases q:valV kvs k with
  |none=>rfl
  |some x=>rw[q] at a;exact(a rfl).elim
theorem ZCH (kvs:List (κ×V))(k:κ)(v:V):(putK kvs k v).length<=kvs.length+1:=by
 unfold putK
 split
 ·rw[AA];lia
 ·rw[AW,Ac,Bj];lia
theorem ZD9 {kvs:List (κ×V)}{k:κ}(v:V)(h:valV kvs k=none):putK kvs k v=kvs++ [(k,v)]:=by
 unfold putK
 rw[ZCV,h]
 exact if_neg (by decide)
theorem RelO.isSome_eq {o:Option V}{u:Option E2}(r:RelO o u):o.isSome=u.isSome:=by
 cases o with
 |none=>cases u with
  |none=>rfl
  |some _=>exact(show False from r).elim
 |some _=>cases u with
  |none=>exact(show False from r).elim
  |some _=>rfl
theorem RelO.getD {o:Option V}{u:Option E2}{d:V}{d':E2}(r:RelO o u)(rd:RelV d d'):RelV (o.getD d) (u.getD d'):=by
 cases o with
 |none=>cases u with
  |none=>exact rd
  |some _=>exact(show False from r).elim
 |some _=>cases u with
  |none=>exact(show False from r).elim
  |some _=>exact r
theorem KV.val {kvs:List (κ×V)}{vs:List (κ×E2)}(r:KV kvs vs)(k:κ):RelO (valV kvs k) (valueAt vs k):=by
 unfold KV at r
 induction r with
 |nil=>exact DT
 |@cons p q ps qs h t ih=>
  obtain⟨h1,h2⟩:=h
  by_cases e:p.1=k
  ·have e':q.1=k:=h1.symm.trans e
   have b:valueAt (q::qs) k=some q.2:=by simp[valueAt,Bt,e']
   rw[ZAn e,b];exact h2
  ·have e':¬q.1=k:=λz=>e (h1.trans z)
   have b:valueAt (q::qs) k=valueAt qs k:=by simp[valueAt,Bt,e']
   rw[ZAj e,b];exact ih
theorem KV.any {kvs:List (κ×V)}{vs:List (κ×E2)}(r:KV kvs vs)(k:κ):(kvs.any λkv=>decide (kv.1=k))=vs.any λkv=>decide (kv.1=k):=by
 unfold KV at r
 induction r with
 |nil=>rfl
 |cons h t ih=>rw[DH,DH,ih,h.1]
theorem KV.repl {kvs:List (κ×V)}{vs:List (κ×E2)}(r:KV kvs vs)(k:κ){y:V}{u:E2}(ry:RelV y u):
  KV (kvs.map λkv=>if kv.1=k then(kv.1,y) else kv) (vs.map λkv=>if kv.1=k then(kv.1,u) else kv):=by
 unfold KV at r ⊢
 induction r with
 |nil=>exact .nil
 |@cons p q ps qs h t ih=>
  rw[AR,AR]
  refine .cons ?_ ih
  obtain⟨h1,h2⟩:=h
  by_cases e:p.1=k
  ·rw[if_pos e,if_pos (h1.symm.trans e)];exact⟨h1,ry⟩
  ·rw[if_neg e,if_neg (λz=>e (h1.trans z))];exact⟨h1,h2⟩
theorem KV.put {kvs:List (κ×V)}{vs:List (κ×E2)}(r:KV kvs vs)(k:κ){y:V}{u:E2}(ry:RelV y u):KV (putK kvs k y) (stored vs k u):=by
 unfold putK stored
 rw[r.any k]
 by_cases e:(vs.any λkv=>decide (kv.1=k))=true
 ·rw[if_pos e,if_pos e];exact r.repl k ry
 ·rw[if_neg e,if_neg e];exact Paired.snoc r ⟨rfl,ry⟩
theorem KV.keys {kvs:List (κ×V)}{vs:List (κ×E2)}(r:KV kvs vs):kvs.map (·.1)=vs.map (·.1):=by
 unfold KV at r
 induction r with
 |nil=>rfl
 |cons h t ih=>rw[AR,AR,ih,h.1]
theorem KV.length {kvs:List (κ×V)}{vs:List (κ×E2)}(r:KV kvs vs):kvs.length=vs.length:=Paired.length r
end
theorem ZID {P:E7}{w:FA}{k:Key}{u:E2}(r:RelV (kV k) u):(ZAU P w).is k u=true:=by
 cases k with
 |inl i=>obtain⟨t,e⟩:=(show∃t,u=Es i t from r);subst e;exact ZH9 P w i t
 |inr x=>obtain⟨t,e⟩:=(show∃t,u=Df x t from r);subst e;exact ZEZ P w x t
theorem ZEg {P:E7}{w:FA}:∀{ks:List Key} {us:List E2},Vals (ks.map kV) us->ItemsAre (ZAU P w) ks us
 | [],_,r=>by rw[List.map_nil] at r;cases r;exact .nil
 |k::ks,_,r=>by
  rw[AR] at r
  cases r with
  |cons h t=>exact .cons (ZID h) (ZEg t)
abbrev KT (H:Hp):List (List Key×V)->List (List Key×Ez×E2)->Prop:=Paired λp q=>p.1=q.1/\H q.2.1=some (.tup (p.1.map kV))/\RelV p.2 q.2.2
theorem KT.val {H:Hp}{kvs:List (List Key×V)}{xs:List (List Key×Ez×E2)}(r:KT H kvs xs)(k:List Key):RelO (valV kvs k) ((atKey xs k).map (·.2)):=by
 induction r with
 |nil=>exact DT
 |@cons p q ps qs h t ih=>
  obtain⟨h1,_,h2⟩:=h
  by_cases e:p.1=k
  ·have e':q.1=k:=h1.symm.trans e
   have b:atKey (q::qs) k=some q.2:=by simp[atKey,Bt,e']
   rw[ZAn e,b];exact h2
  ·have e':¬q.1=k:=λz=>e (h1.trans z)
   have b:atKey (q::qs) k=atKey qs k:=by simp[atKey,Bt,e']
   rw[ZAj e,b];exact ih
theorem KT.repl {H:Hp}{kvs:List (List Key×V)}{xs:List (List Key×Ez×E2)}(r:KT H kvs xs)(k:List Key){y:V}{u:E2}(ry:RelV y u):
  KT H (kvs.map λkv=>if kv.1=k then(kv.1,y) else kv) (xs.map (putAt k u)):=by
 induction r with
 |nil=>exact .nil
 |@cons p q ps qs h t ih=>
  rw[AR,AR]
  refine .cons ?_ ih
  obtain⟨h1,h2,h3⟩:=h
  unfold putAt
  by_cases e:p.1=k
  ·rw[if_pos e,if_pos (h1.symm.trans e)];exact⟨h1,h2,ry⟩
  ·rw[if_neg e,if_neg (λz=>e (h1.trans z))];exact⟨h1,h2,h3⟩
theorem KT.put {H:Hp}{kvs:List (List Key×V)}{xs:List (List Key×Ez×E2)}(r:KT H kvs xs)(k:List Key){b:Ez}{y:V}{u:E2}(hb:H b=some (.tup (k.map kV)))(ry:RelV y u):
  KT H (putK kvs k y) (storedH xs k b u):=by
 have e:(kvs.any λkv=>decide (kv.1=k))=(atKey xs k).isSome:=by
  rw[ZCV,(r.val k).isSome_eq,Cd]
 unfold putK storedH
 rw[e]
 by_cases q:(atKey xs k).isSome=true
 ·rw[if_pos q,if_pos q];exact r.repl k ry
 ·rw[if_neg q,if_neg q];exact Paired.snoc r ⟨rfl,hb,ry⟩
theorem KT.keeps {H H':Hp}{kvs:List (List Key×V)}{xs:List (List Key×Ez×E2)}(r:KT H kvs xs)(ht:∀b ys,H b=some (.tup ys)->H' b=some (.tup ys)):KT H' kvs xs:=
 Paired.mapP r λ_ _ z=>⟨z.1,ht _ _ z.2.1,z.2.2⟩
section
variable {P:E7}{w:FA}{H:Hp}{h:E9}{a:Ez}
theorem rd_of {u:HO}(ok:HOk P w H h)(e:Rd H a u):ZBA P w H h a u:=e.ok ok
theorem ZHB {kvs:List (Key×V)}(ok:HOk P w H h)(e:Rd H a (.dK kvs)):kvs.length<=sizeLine/\(a==FX)=false/\∃vs,KV kvs vs/\h.DictOf (ZAU P w) a vs:=
 show ZBA P w H h a (.dK kvs) from rd_of ok e
theorem dk_of {kvs:List (Key×V)}(ok:HOk P w H h)(e:H a=some (.dK kvs)):kvs.length<=sizeLine/\(a==FX)=false/\∃vs,KV kvs vs/\h.DictOf (ZAU P w) a vs:=ZHB ok (.inl e)
theorem ZEf {ks:List Key}(ok:HOk P w H h)(e:H a=some (.tup (ks.map kV))):(FV (ZAU P w)).is h ks a:=by
 obtain⟨_,its,r,⟨o,h1,h2,n,h3⟩,_⟩:=(show ZBA P w H h a (.tup (ks.map kV)) from ok a _ e)
 exact⟨o,its.toArray,n,h1,h2,h3,by simpa using ZEg r⟩
theorem ZHA {kvs:List (List Key×V)}(ok:HOk P w H h)(e:Rd H a (.dT kvs)):kvs.length<=sizeLine/\(a==FX)=false/\
  ∃xs,KT H kvs xs/\h.DictOfH (FV (ZAU P w)) a xs:=by
 obtain⟨z,y,xs,r,o,es,ep,h1,h2,h3,h4,h5⟩:=(show ZBA P w H h a (.dT kvs) from rd_of ok e)
 refine⟨z,y,xs,r,o,es,ep,h1,h2,h3,h4,λx hx=>?_,h5⟩
 have all:∀{l:List (List Key×V)} {m:List (List Key×Ez×E2)},KT H l m->∀x∈m,(FV (ZAU P w)).is h x.1 x.2.1:=by
  intro l m q
  induction q with
  |nil=>intro x hx;exact nomatch hx
  |@cons p q ps qs hq t ih=>
   intro x hx
   rcases AQ.mp hx with e|hx
   ·subst e
    exact ZEf ok (by rw[<-hq.1];exact hq.2.1)
   ·exact ih x hx
 exact all r x hx
theorem ZO4 {kvs:List (List Key×V)}(ok:HOk P w H h)(e:H a=some (.dT kvs)):kvs.length<=sizeLine/\(a==FX)=false/\
  ∃xs,KT H kvs xs/\h.DictOfH (FV (ZAU P w)) a xs:=ZHA ok (.inl e)
end
def DGet (H:Hp)(a:Ez)(y:V)(r:Option V):Prop:=
 (∃kvs k,Rd H a (.dK kvs)/\y=kV k/\r=valV kvs k)\/∃kvs k b,Rd H a (.dT kvs)/\y= .ref b/\H b=some (.tup (k.map kV))/\r=valV kvs k
def DPut (H:Hp)(a:Ez)(y v:V)(H':Hp):Prop:=
 (∃kvs k,H a=some (.dK kvs)/\y=kV k/\kvs.length<sizeLine/\H'=upd H a (.dK (putK kvs k v)))\/
 ∃kvs k b,H a=some (.dT kvs)/\y= .ref b/\H b=some (.tup (k.map kV))/\kvs.length<sizeLine/\H'=upd H a (.dT (putK kvs k v))
theorem DGet.k {H:Hp}{a:Ez}{kvs:List (Key×V)}{k:Key}(e:H a=some (.dK kvs)):DGet H a (kV k) (valV kvs k):= .inl ⟨kvs,k,.inl e,rfl,rfl⟩
theorem DGet.t {H:Hp}{a b:Ez}{kvs:List (List Key×V)}{k:List Key}(e:H a=some (.dT kvs))(eb:H b=some (.tup (k.map kV))):DGet H a (.ref b) (valV kvs k):= .inr ⟨kvs,k,b,.inl e,rfl,eb,rfl⟩
theorem DPut.k {H:Hp}{a:Ez}{kvs:List (Key×V)}{k:Key}{v:V}(e:H a=some (.dK kvs))(hl:kvs.length<sizeLine):DPut H a (kV k) v (upd H a (.dK (putK kvs k v))):= .inl ⟨kvs,k,e,rfl,hl,rfl⟩
theorem DPut.t {H:Hp}{a b:Ez}{kvs:List (List Key×V)}{k:List Key}{v:V}(e:H a=some (.dT kvs))(eb:H b=some (.tup (k.map kV)))(hl:kvs.length<sizeLine):
  DPut H a (.ref b) v (upd H a (.dT (putK kvs k v))):= .inr ⟨kvs,k,b,e,rfl,eb,hl,rfl⟩
section
variable {X:Cx}{pins:List (Ez×FF)}{Z:St}{H:Hp}{s:E4}{a:Ez}{y v:V}{u r:E2}{o:Option V}{A:FC}{E:E2->E4->Prop}
theorem Inv.big (I:Inv X pins Z H s):FX<s.heap.objs.size:=by
 have h:E8<s.heap.objs.size:=(I.mod.glob.keeps I.bk).lt
 exact B4 (by decide) h
theorem ZLd {Q:E2->E4->Prop}(hu:A.units+1<cLine)(I:Inv X pins Z H s)(g:DGet H a y (some v))(ry:RelV y u)(h:∀w' s',Inv X pins Z H s'->RelV v w'->Q w' s'):
  E6 (model X.prog X.w) A (getItem (.ref a) u) Q E s:=by
 rcases g with⟨kvs,k,e,ey,l⟩|⟨kvs,k,b,e,ey,eb,l⟩
 ·subst ey
  obtain⟨z,hd,vs,rel,dd⟩:=ZHB I.hok e
  obtain⟨w',hw,rw'⟩:=RelO.some_of (v:=v) (o:=valueAt vs k) (by rw[l];exact rel.val k)
  exact wpAny_getItem_of (ZID ry) dd.mapOf hw (h w' _ (I.tok _) rw')
 ·subst ey
  cases(show u=Ab b from ry)
  obtain⟨z,hd,xs,rel,dd⟩:=ZHA I.hok e
  obtain⟨w',hw,rw'⟩:=RelO.some_of (v:=v) (o:=(atKey xs k).map (·.2)) (by rw[l];exact rel.val k)
  obtain⟨p,hp,hp2⟩:=EV.mp hw
  refine wpAny_getItem_heap (GB hu) (ZEf I.hok eb) dd hp ?_
  rw[hp2]
  exact h w' _ (I.tok _) rw'
theorem d_in {Q:E2->E4->Prop}(hu:A.units+1<cLine)(I:Inv X pins Z H s)(g:DGet H a y o)(ry:RelV y u)(h:∀s',Inv X pins Z H s'->Q (.bool o.isSome) s'):
  E6 (model X.prog X.w) A (Fh .In u (.ref a)) Q E s:=by
 rcases g with⟨kvs,k,e,ey,l⟩|⟨kvs,k,b,e,ey,eb,l⟩
 ·subst ey
  obtain⟨z,hd,vs,rel,dd⟩:=ZHB I.hok e
  refine wpAny_in_of (ZID ry) hd dd.mapOf ?_
  rw[<-(rel.val k).isSome_eq,<-l]
  exact h _ (I.tok _)
 ·subst ey
  cases(show u=Ab b from ry)
  obtain⟨z,hd,xs,rel,dd⟩:=ZHA I.hok e
  refine wpAny_in_heap (GB hu) (ZEf I.hok eb) hd dd ?_
  have q:=(rel.val k).isSome_eq
  rw[Cd] at q
  rw[<-q,<-l]
  exact h _ (I.tok _)
theorem ZO6 {Q:E2->E4->Prop}(hu:A.units+1<cLine)(I:Inv X pins Z H s)(g:DGet H a y o)(ry:RelV y u)(h:∀s',Inv X pins Z H s'->Q (.bool (!o.isSome)) s'):
  E6 (model X.prog X.w) A (Fh .NotIn u (.ref a)) Q E s:=by
 rcases g with⟨kvs,k,e,ey,l⟩|⟨kvs,k,b,e,ey,eb,l⟩
 ·subst ey
  obtain⟨z,hd,vs,rel,dd⟩:=ZHB I.hok e
  refine wpAny_notIn_of (ZID ry) hd dd.mapOf ?_
  rw[<-(rel.val k).isSome_eq,<-l]
  exact h _ (I.tok _)
 ·subst ey
  cases(show u=Ab b from ry)
  obtain⟨z,hd,xs,rel,dd⟩:=ZHA I.hok e
  refine wpAny_notIn_heap (GB hu) (ZEf I.hok eb) hd dd ?_
  have q:=(rel.val k).isSome_eq
  rw[Cd] at q
  rw[<-q,<-l]
  exact h _ (I.tok _)
theorem ZII {h':E9}{t':Nat}{ob:HO}(I:Inv X pins Z H s)(mu:Mut (H a))(hs:Heap.SameBut a s.heap h')(he:∃q,h'.get? a=some q)(new:ZBA X.prog X.w (upd H a ob) h' a ob):
  Inv X pins Z (upd H a ob) {s with heap:=h',toks:=t'}:=
 I.write (x:=a) (e:=a) mu (.inl rfl) (λb q hb z=>(hs.2 b hb).trans z) he new
theorem dk_new {P:E7}{w:FA}{H':Hp}{h':E9}{kvs:List (Key×V)}{vs:List (Key×E2)}(z:kvs.length<=sizeLine)(hd:(a==FX)=false)(rel:KV kvs vs)(dd:h'.DictOf (ZAU P w) a vs):
  ZBA P w H' h' a (.dK kvs):=⟨z,hd,vs,rel,dd⟩
theorem ZLc {H':Hp}{Q:Unit->E4->Prop}(hu:A.units+1<cLine)(I:Inv X pins Z H s)(g:DPut H a y v H')(ry:RelV y u)(rv:RelV v r)(h:∀s',Inv X pins Z H' s'->Q () s'):
  E6 (model X.prog X.w) A (setItem (.ref a) u r) Q E s:=by
 rcases g with⟨kvs,k,e,ey,l,eH⟩|⟨kvs,k,b,e,ey,eb,l,eH⟩
 ·subst ey eH
  obtain⟨z,hd,vs,rel,dd⟩:=dk_of I.hok e
  have hz:vs.length<=sizeLine:=by rw[<-rel.length];exact z
  have hl:(putK kvs k v).length<=sizeLine:=by have:=ZCH kvs k v;lia
  refine wpAny_setItem_pairs (hsz:=hz) (ZID ry) dd λh' dd' hs=>h _ ?_
  have he:∃q,h'.get? a=some q:=let⟨q,_,_,hq,_⟩:=dd';⟨q,hq⟩
  exact ZII I (by rw[e];exact DT) hs he (dk_new hl hd (rel.put k rv) dd')
 ·subst ey eH
  cases(show u=Ab b from ry)
  obtain⟨z,hd,xs,rel,dd⟩:=ZO4 I.hok e
  have hz:xs.length<=sizeLine:=by rw[<-Paired.length rel];exact z
  have hl:(putK kvs k v).length<=sizeLine:=by have:=ZCH kvs k v;lia
  refine wpAny_setItem_heap (hsz:=hz) (GB hu) (ZEf I.hok eb) dd λh' dd' hs=>h _ ?_
  obtain⟨q,es,ep,hq,h2,h3,h4,_,h5⟩:=dd'
  refine ZII I (by rw[e];exact DT) hs ⟨q,hq⟩ ⟨hl,hd,_,(rel.put k eb rv).keeps λc ys ec=>?_,q,es,ep,hq,h2,h3,h4,h5⟩
  rw[ZAN (ne_of ec e (λz=>nomatch z))]
  exact ec
end
section
variable {X:Cx}{pins:List (Ez×FF)}{Z:St}{H:Hp}{s:E4}{a:Ez}{kvs:List (Key×V)}{k:Key}{u:E2}{A:FC}{E:E2->E4->Prop}
end
def NoSl (i:FD):Prop:=∀ov iv,subscripted i false ov iv=operate [ov,iv] (getItem ov iv)
theorem ZOE {prog:E7}{w:FA}{A:FC}{E:E2->E4->Prop}{s:E4}{env:Env}{value slice:FD}{pos:Pos}{T id:String}{Q:E2->E4->Prop}
  (hl:typeLookup (.type T) "__getitem__"=pure (some (.builtin id))) (hs:NoSl slice)
  (h:E6 (model prog w) A (eval value env) (λo s₁=>E6 (model prog w) A (eval slice env) (λi s₂=>s₂.TypeIs o T/\E6 (model prog w) A (getItem o i) Q E s₂) E s₁) E s):
  E6 (model prog w) A (eval (.Subscript value slice pos) env) Q E s:=by
 refine Subscript_ (FE h (λo s₁ h₁=>FE h₁ (λi s₂ h₂=>?_) λ_ _ x=>x) λ_ _ x=>x)
 obtain⟨hT,h₂⟩:=h₂
 unfold subscriptTail
 refine Ey ?_
 rw[getitemInPython_of_ne hT.not_modules]
 refine Ey (GK hT hl ?_)
 have fin:E6 (model prog w) A (subscripted slice false o i) (λr s₃=>E6 (model prog w) A (letTemporaryGo value o r >>= λ_=>pure r) Q E s₃) E s₂:=by
  rw[hs o i]
  exact wpAny_operating (FE h₂ (λr s₃ h₃=>Ey (wpAny_letTemporaryGo (E5 h₃))) λ_ _ x=>x)
 first
  |exact E5 (Ey fin)
  |exact Ey (E5 (Ey fin))
  |exact Ey fin
theorem ZIH {X:Cx}{pins:List (Ez×FF)}{Z:St}{H:Hp}{s:E4}{a:Ez}{y:V}{o:Option V}(I:Inv X pins Z H s)(g:DGet H a y o):s.TypeIs (.ref a) "dict":=by
 rcases g with⟨kvs,k,e,_,_⟩|⟨kvs,k,b,e,_,_,_⟩
 ·obtain⟨_,_,vs,_,dd⟩:=ZHB I.hok e
  exact dd.typeIs
 ·obtain⟨_,_,xs,_,dd⟩:=ZHA I.hok e
  exact dd.typeIs
inductive ZL2 (Q:VK)(x:V)(y:V)(H2:Hp):Prop
 |mk:∀a v,(x= .ref a)->(DGet H2 a y (some v))->(Q v H2)->ZL2 Q x y H2
def ZDz (td ty:TE):TE:=λZ H Q=>td Z H λx H1=>ty Z H1 λy H2=>ZL2 Q x y H2
inductive ZNr (Q:VK)(y:V)(x:V)(H2:Hp):Prop
 |mk:∀a o,(x= .ref a)->(DGet H2 a y o)->(Q (.bl o.isSome) H2)->ZNr Q y x H2
def tDIn (ty td:TE):TE:=λZ H Q=>ty Z H λy H1=>td Z H1 λx H2=>ZNr Q y x H2
inductive ZHO (Q:VK)(y:V)(x:V)(H2:Hp):Prop
 |mk:∀a o,(x= .ref a)->(DGet H2 a y o)->(Q (.bl (!o.isSome)) H2)->ZHO Q y x H2
def ZHn (ty td:TE):TE:=λZ H Q=>ty Z H λy H1=>td Z H1 λx H2=>ZHO Q y x H2
inductive ZL9 (D:Ends)(Z:St)(v:V)(x:V)(y:V)(H3:Hp):Prop
 |mk:∀a H4,(x= .ref a)->(DPut H3 a y v H4)->(D.nx Z H4)->ZL9 D Z v x y H3
def sDPut (td ty tv:TE):TS:=λD Z H=>tv Z H λv H1=>td Z H1 λx H2=>ty Z H2 λy H3=>ZL9 D Z v x y H3
section
variable {X:Cx}{o i e value:FD}{pos pos' tpos:Pos}{td ty tv:TE}
theorem ZAe (hu:X.A.units+1<cLine)(ho:PE X o td)(hi:PE X i ty)(hs:NoSl i):PE X (.Subscript o i pos) (ZDz td ty):=by
 intro pins s Z H Q I h
 refine ZOE PySem.F.slot_dict_getitem.lookup hs (thn (ho pins s Z H _ I h) λu s1 ⟨x,H1,I1,rx,q1⟩=>thn (hi pins s1 Z H1 _ I1 q1) λiv s2 ⟨y,H2,I2,ry,a,v,ex,g,q2⟩=>?_)
 subst ex
 obtain rfl:u=Ab a:=rx
 exact⟨ZIH I2 g,ZLd hu I2 g ry λw' s3 I3 rw'=>⟨v,H2,I3,rw',q2⟩⟩
theorem ZCh (hu:X.A.units+1<cLine)(hi:PE X i ty)(ho:PE X o td):PC X .In i o (tDIn ty td):=by
 intro pins s Z H Q I h
 refine thn (hi pins s Z H _ I h) λiv s1 ⟨y,H1,I1,ry,q1⟩=>thn (ho pins s1 Z H1 _ I1 q1) λu s2 ⟨x,H2,I2,rx,a,ov,ex,g,q2⟩=>?_
 subst ex
 obtain rfl:u=Ab a:=rx
 exact d_in hu I2 g ry λs3 I3=>⟨.bl ov.isSome,H2,I3,rfl,q2⟩
theorem ZCR (hu:X.A.units+1<cLine)(hi:PE X i ty)(ho:PE X o td):PC X .NotIn i o (ZHn ty td):=by
 intro pins s Z H Q I h
 refine thn (hi pins s Z H _ I h) λiv s1 ⟨y,H1,I1,ry,q1⟩=>thn (ho pins s1 Z H1 _ I1 q1) λu s2 ⟨x,H2,I2,rx,a,ov,ex,g,q2⟩=>?_
 subst ex
 obtain rfl:u=Ab a:=rx
 exact ZO6 hu I2 g ry λs3 I3=>⟨.bl (!ov.isSome),H2,I3,rfl,q2⟩
theorem ZB9 (hu:X.A.units+1<cLine)(ho:PE X o td)(hi:PE X i ty)(hv:PE X value tv)(hs:swapsWith value (some (.Subscript o i pos')) pos.line X.env=pure false):
  PS X (.Assign [.Subscript o i pos'] value pos) (sDPut td ty tv):=by
 intro pins s Z H D I h
 refine Go (thn (hv pins s Z H _ I h) λr s1 ⟨v,H1,I1,rv,q1⟩=>thn (ho pins s1 Z H1 _ I1 q1) λu s2 ⟨x,H2,I2,rx,q2⟩=>thn (hi pins s2 Z H2 _ I2 q2) λiv s3 ⟨y,H3,I3,ry,a,H4,ex,g,q3⟩=>?_) hs
 subst ex
 obtain rfl:u=Ab a:=rx
 exact ZLc hu I3 g ry rv λs4 I4=>⟨Z,H4,I4,q3⟩
end
theorem ZNC {P:E7}{w:FA}{H:Hp}(h:E9)(hb:FX<h.objs.size):ZBA P w H (h.push {cls:= .type "dict",data:= .dict #[]}) h.objs.size (.dK []):=
 ⟨Aq _,beq_eq_false_iff_ne.mpr (A9 (AV hb)),[],.nil,DE h⟩
theorem ZNB {P:E7}{w:FA}{H:Hp}(h:E9)(hb:FX<h.objs.size):ZBA P w H (h.push {cls:= .type "dict",data:= .dict #[]}) h.objs.size (.dT []):=
 ⟨Aq _,beq_eq_false_iff_ne.mpr (A9 (AV hb)),[],.nil,_,#[],0,AN _ rfl,⟨rfl,rfl,rfl⟩,rfl,rfl,BZ⟩
def ZNQ:TE:=λ_ H Q=>∀p,H p=none->Q (.ref p) (upd H p (.dK []))
def tDNewT:TE:=λ_ H Q=>∀p,H p=none->Q (.ref p) (upd H p (.dT []))
section
variable {X:Cx}{pos:Pos}
theorem ZGF:PE X (.Dict [] [] pos) ZNQ:=λpins s Z H Q I h=>
 wpAny_Dict_empty ⟨.ref s.heap.objs.size,_,I.laid (a:=s.heap.objs.size) (o:= .dK []) (t':=s.toks) (λ_ _ q=>AC _ q) (AK _) (ZNC s.heap I.big),rfl,h _ (I.hok.fresh (AK _))⟩
theorem ZCD:PE X (.Dict [] [] pos) tDNewT:=λpins s Z H Q I h=>
 wpAny_Dict_empty ⟨.ref s.heap.objs.size,_,I.laid (a:=s.heap.objs.size) (o:= .dT []) (t':=s.toks) (λ_ _ q=>AC _ q) (AK _) (ZNB s.heap I.big),rfl,h _ (I.hok.fresh (AK _))⟩
end
def ZAw (kvs more:List (Key×V)):List (Key×V):=more.foldl (λacc kv=>putK acc kv.1 kv.2) kvs
theorem KV.merge:∀{more:List (Key×V)} {rs:List (Key×E2)} {kvs:List (Key×V)} {vs:List (Key×E2)},KV more rs->KV kvs vs->KV (ZAw kvs more) (merged vs rs):=by
 intro more rs kvs vs r
 unfold KV at r
 induction r generalizing kvs vs with
 |nil=>intro q;exact q
 |@cons p q ps qs h t ih=>
  intro r0
  have e:KV (putK kvs p.1 p.2) (stored vs q.1 q.2):=by
   have:=r0.put p.1 h.2
   rw[<-h.1];exact this
  exact ih e
theorem ZBU:∀(more kvs:List (Key×V)),(ZAw kvs more).length<=kvs.length+more.length
 | [],kvs=>by show kvs.length<=kvs.length+0;lia
 |p::r,kvs=>by
  have h1:=ZBU r (putK kvs p.1 p.2)
  have h2:=ZCH kvs p.1 p.2
  show(ZAw (putK kvs p.1 p.2) r).length<=_
  rw[Ac];lia
structure M2 (X:Cx)(o:FD)(m:E3)(apos:Pos)(e f:FD)(cpos:Pos):Prop where
 base:attributeBase o m X.env (eval o X.env)=eval o X.env
 few:((backTo cpos (FG [e,f] X.env)).all (λx=> !x.1)&&(backToKw cpos (keywordEach [] X.env)).all (λx=>x.1.isSome)
  &&decide (([e,f]:List FD).length+([]:List Keyword).length+(if([]:List Keyword).isEmpty then 0 else 1)<30))=true
 line:(apos.endLine==cpos.line)=true
 trees:backTo cpos (FG [e,f] X.env)= [(false,eval e X.env),(false,eval f X.env)]
def IsD (H:Hp)(a:Ez):Prop:=(∃kvs,Rd H a (.dK kvs))\/∃kvs,Rd H a (.dT kvs)
theorem isD_at {X:Cx}{pins:List (Ez×FF)}{Z:St}{H:Hp}{s:E4}{a:Ez}(I:Inv X pins Z H s)(d:IsD H a):
  s.TypeIs (.ref a) "dict"/\(∀b,Ab a= .ref b->∃ob,s.heap.get? b=some ob/\ob.dict=none)/\(a==FX)=false:=by
 rcases d with⟨kvs,e⟩|⟨kvs,e⟩
 ·obtain⟨_,hd,vs,_,dd⟩:=ZHB I.hok e
  refine⟨dd.typeIs,λb q=>?_,hd⟩
  cases q
  obtain⟨ob,_,_,h1,h2,_⟩:=dd
  exact⟨ob,h1,h2.2.1⟩
 ·obtain⟨_,hd,xs,_,dd⟩:=ZHA I.hok e
  refine⟨dd.typeIs,λb q=>?_,hd⟩
  cases q
  obtain⟨ob,_,_,h1,h2,_⟩:=dd
  exact⟨ob,h1,h2.2.1⟩
section
variable {X:Cx}{pins:List (Ez×FF)}{Z:St}{H:Hp}{s:E4}{a:Ez}{y d:V}{u r:E2}{o:Option V}{A:FC}{E:E2->E4->Prop}
theorem d_get2 {Q:E2->E4->Prop}(hu:A.units+1<cLine)(I:Inv X pins Z H s)(g:DGet H a y o)(ry:RelV y u)(rd:RelV d r)(h:∀w' s',Inv X pins Z H s'->RelV (o.getD d) w'->Q w' s'):
  E6 (model X.prog X.w) A (call (.builtin "dict.get") [.ref a,u,r]) Q E s:=by
 rcases g with⟨kvs,k,e,ey,l⟩|⟨kvs,k,b,e,ey,eb,l⟩
 ·subst ey
  obtain⟨z,hd,vs,rel,dd⟩:=ZHB I.hok e
  refine call_meetsIn DP dd.typeIs ES (EM _ _ _) (meets_dict_get_default (ZAU X.prog X.w) a (ZID ry) hd r) ⟨_,dd.mapOf,h _ _ (I.tok _) ?_⟩
  rw[l]
  exact(rel.val k).getD rd
 ·subst ey
  cases(show u=Ab b from ry)
  obtain⟨z,hd,xs,rel,dd⟩:=ZHA I.hok e
  refine call_meetsIn DP dd.typeIs ES (EM _ _ _) (meetsH_dict_get_default (FV (ZAU X.prog X.w)) a b hd r) ⟨GB hu,k,xs,ZEf I.hok eb,dd,h _ _ (I.tok _) ?_⟩
  rw[l]
  exact(rel.val k).getD rd
end
inductive ZJA (ty tx:TE)(Z:St)(Q:VK)(x:V)(H1:Hp):Prop
 |mk:∀a,(x= .ref a)->(IsD H1 a)->(ty Z H1 λy H2=>tx Z H2 λz H3=>∃o,DGet H3 a y o/\Q (o.getD z) H3)->ZJA ty tx Z Q x H1
def tDGet2 (td ty tx:TE):TE:=λZ H Q=>td Z H λx H1=>ZJA ty tx Z Q x H1
section
variable {X:Cx}{o e f:FD}{apos cpos:Pos}{td ty tx:TE}
theorem ZIj (hu:X.A.units+1<cLine)(ho:PE X o td)(he:PE X e ty)(hf:PE X f tx)(m:M2 X o "get" apos e f cpos):PE X (.Call (.Attribute o "get" apos) [e,f] [] cpos) (tDGet2 td ty tx):=by
 intro pins s Z H Q I h
 refine wpAny_Call_method m.base m.few m.line DF DP PySem.F.type_dict_get (thn (ho pins s Z H _ I h) λu s1 ⟨x,H1,I1,rx,a,ex,d,q1⟩=>?_)
 subst ex
 obtain rfl:u=Ab a:=rx
 obtain⟨t1,t2,_⟩:=isD_at I1 d
 refine⟨t1,t2,?_⟩
 rw[m.trees]
 refine Cg rfl (De (CA (thn (he pins s1 Z H1 _ I1 q1) λiv s2 ⟨y,H2,I2,ry,q2⟩=>
  CA (thn (hf pins s2 Z H2 _ I2 q2) λfv s3 ⟨z,H3,I3,rz,ov,g,q3⟩=>Cf ?_))))
 exact d_get2 hu I3 g ry rz λw' s4 I4 rw'=>⟨_,H3,I4,rw',q3⟩
end
section
variable {X:Cx}{pins:List (Ez×FF)}{Z:St}{H:Hp}{s:E4}{a:Ez}{kvs:List (Key×V)}{A:FC}{E:E2->E4->Prop}
end
section
variable {X:Cx}{pins:List (Ez×FF)}{Z:St}{H:Hp}{s:E4}{a:Ez}{y:V}{u:E2}{A:FC}{E:E2->E4->Prop}
end
end L2
set_option maxHeartbeats 4000000
namespace L2
open PySem
def signs (z:E3):List E3:=z.cps.toList.map λc=>⟨#[c]⟩
end L2
namespace L2
open PySem PySem.Spec PyProof.Rows
def ZNk (X:Cx)(scope:F0)(x:E3)(C:Ez)(s:E4)(H:Hp)(fp:List Ez):Cx:=
 {X with
  N:= [x]
  s₀:=s
  H₀:=H
  env:={scope:=scope,locals:=C,globals:=X.env.globals,cells:= [],qual:=X.env.qual,func:=none,code:=X.env.code,frame:=X.env.frame,builtins:=X.env.builtins}
  outer:=X.stack
  stack:=X.stack
  ex:=fp
  fn:=λ_=>true
  pn:= []
  xe:=λ_ _=>False}
def tComp (wi:TI)(te:TE):TE:=λZ H Q=>wi Z H λJ H1=>∀D,H1 D=none->∃W:Nat->Nat->List V->Hp->Prop,
 (∃m,W 0 m [] (upd H1 D (.lst [])))/\∀i m ys H2,W i m ys H2->H2 D=some (.lst ys)/\
  ((J.stop i H2/\Q (.ref D) H2)\/(J.go i H2/\∀x H3,J.yld i H2 x H3->te [some x] H3 λy H4=>H4 D=some (.lst ys)/\ys.length<sizeLine/\∃m',m'<m/\W (i+1) m' (ys++ [y]) (upd H4 D (.lst (ys++ [y])))))
section
variable {X:Cx}
theorem pe_comp {elt iter:FD}{x:E3}{px pos:Pos}{scope:F0}{wi:TI}{te:TE}(hc:X.calm=true)
  (hfree:∀nk∈scope.names,nk.2≠ .free) (hcell:∀nk∈scope.names,nk.2≠ .cell) (hkind:scope.kind= .function)
  (hnames:∀nk∈scope.names,nk.2= .local->scope.names.lookup nk.1=some .local) (hx:scope.names.lookup x=some .local)
  (hi:PI X (.Name x px) iter wi) (he:∀C s H fp,PE (ZNk X scope x C s H fp) elt te)
  (hs:∀v,foldedSetIterable iter X.env v=pure v:=by intro _;rfl):PE X (.ListComp elt [⟨.Name x px,iter,[],0⟩] scope pos) (tComp wi te):=by
 intro pins s Z H Q I h
 refine wpAny_ListComp hfree hkind hnames (thn (hi pins s Z H _ I h) λv s1 h1=>thn h1 λitv s2 h2=>?_) hs
 obtain⟨it,fp,tn,J,H2,e,I2,T,st2,f2,hR⟩:=h2
 subst e
 have hD0:H2 s2.heap.objs.size=none:=I2.fresh
 obtain⟨W,⟨m0,w0⟩,turnW⟩:=hR _ hD0
 have I3:Inv X pins Z (upd H2 s2.heap.objs.size (.lst [])) {s2 with heap:=s2.heap.push {cls:= .type "list",data:= .seq ([]:List E2).toArray}}:=I2.lnew (t':=s2.toks) .nil (Aq _)
 refine FH (GV hcell (λnk hnk=>by simp at hnk) (λh₁ hns₁ hsb₁=>?_) hkind)
 dsimp only at hns₁ hsb₁ ⊢
 generalize hs3:({s2 with heap:=s2.heap.push {cls:= .type "list",data:= .seq ([]:List E2).toArray}}:E4)=s3 at I3
 have eh3:s3.heap=s2.heap.push {cls:= .type "list",data:= .seq ([]:List E2).toArray}:=by rw[<-hs3]
 have hC:s3.heap.objs.size=s2.heap.objs.size+1:=by rw[eh3,BE]
 have old:∀b o,s3.heap.get? b=some o->h₁.get? b=some o:=λb o e=>by
  have hb:b≠s3.heap.objs.size:=AV (AI e)
  rw[eh3] at e hb
  exact hsb₁.extBut b o hb (AC _ e)
 have fpl:∀b∈fp,b<s2.heap.objs.size:=λb hb=>let⟨o,e,_⟩:=T.obj _ _ st2 b hb;AI e
 have fps:∀b∈fp,b∉frs X.stack:=λb hb z=>(AQ.mp (I2.stkSub b z)).elim (f2 b hb).2.1 (f2 b hb).2.2.1
 let X':Cx:=ZNk X scope x s3.heap.objs.size s3 (upd H2 s2.heap.objs.size (.lst [])) fp
 have noc:∀(y:E3) (c:Ez),¬(([]:List (E3×Ez)).lookup y=some c):=λy c e=>by cases e
 have okX:X'.Ok:=by
  refine⟨I2.ok.mod,hkind,I2.ok.glob,I2.ok.blt,AK _,λy z c e=>absurd e (noc y c),λy hy=>?_,λy c _ e=>absurd e (noc y c),I2.ok.hd,I2.ok.frames,.inl rfl,λb hb=>⟨?_,λy c e=>absurd e (noc y c)⟩,
   I3.bs,As I3.ok.bsz I3.sz,λb o e hb=>?_,fps,I3.stack,I3.stkFree⟩
  ·have hy':scope.names.lookup y=some .cell\/scope.names.lookup y=some .free:=hy
   rcases hy' with q|q
   ·exact absurd rfl (hcell _ (Bv q))
   ·exact absurd rfl (hfree _ (Bv q))
  ·exact AV (Af (fpl b hb) (by show s2.heap.objs.size<=s3.heap.objs.size;rw[hC];exact CI _))
  ·rcases(f2 b hb).2.2.2.1 with z|z
   ·exact I2.ok.noex b o e z
   ·exact absurd (Af (AI (I2.ok.bs b o e).1) z) (BM _)
 have stat:∀{H':Hp},(∀b∈fp,H' b=none)->∀b∈fp,FpOk X' [] H' b:=λhn b hb=>by
  refine⟨hn b hb,?_,fps b hb,.inl hb,λy c e=>absurd e (noc y c),λp hp=>absurd (show p∈([]:List (Ez×FF)) from hp) (by simp)⟩
  exact AV (Af (fpl b hb) (by show s2.heap.objs.size<=s3.heap.objs.size;rw[hC];exact CI _))
 have I4:∀tk:Nat,Inv X' [] [none] (upd H2 s2.heap.objs.size (.lst [])) {s3 with heap:=h₁,toks:=tk}:=λtk=>by
  refine⟨okX,rfl,I3.bare,Un.kept old,⟨_,by rw[<-eh3] at hns₁;exact hns₁,λi y v _ e2 _=>?_⟩,λy c e=>absurd e (noc y c),I3.hok.fresh (AK _),λy c e=>absurd e (noc y c),λp hp=>absurd (show p∈([]:List (Ez×FF)) from hp) (by simp),I3.hok.kept old,rfl⟩
  cases i with
  |zero=>simp at e2
  |succ i=>simp at e2
 have fr0:∀b∈fp,(upd H2 s2.heap.objs.size (.lst []):Hp) b=none:=λb hb=>by rw[ZAN (AV (fpl b hb))];exact(f2 b hb).1
 have st4:tn 0 h₁:=T.keep 0 _ _ st2 λb hb o e=>old b o (by rw[eh3];exact AC _ e)
 have fin:∀{v0:Option V} {H':Hp} {s5:E4} {h':E9},Inv X' [] [v0] H' s5->Heap.SameBut s3.heap.objs.size s5.heap h'->Q (.ref s2.heap.objs.size) H'->EP X pins Z Q (.ref s2.heap.objs.size) {s5 with heap:=h'}:=by
  intro v0 H' s5 h' I5 sb q
  obtain⟨hh,g,d,t,os'⟩:=s5
  have eo:os'=s3.os:=I5.os
  subst eo
  have keepC:∀b o,b≠s3.heap.objs.size->hh.get? b=some o->h'.get? b=some o:=λb o hb e=>sb.extBut b o hb e
  have ne3:∀b o,s3.heap.get? b=some o->b≠s3.heap.objs.size:=λb o e=>AV (AI e)
  have u:Un (frs X.stack) fp (upd H2 s2.heap.objs.size (.lst [])) H' s3.heap hh:=I5.base
  have un:Un (frs X.stack) fp (upd H2 s2.heap.objs.size (.lst [])) H' s3.heap h':=
   ⟨λb o e n hb hx=>keepC b o (ne3 b o e) (u.keep b o e n hb hx),λb o e n hb hx=>let⟨sl,q⟩:=u.slot b o e n hb hx;⟨sl,keepC b _ (ne3 b o e) q⟩,u.free,λb o e hx=>let⟨o',q⟩:=u.there b o e hx;⟨o',keepC b o' (ne3 b o e) q⟩,u.tups,u.frzs,u.tbls⟩
  have hfree':H' s3.heap.objs.size=none:=I5.free
  have hok':HOk X.prog X.w H' h':=λb u e=>by
   refine(I5.hok b u e).stay (λc v hc q=>keepC c v ?_ q) (λ_ q=>q) λ_ _ q=>q
   rcases hc with z|z
   ·rw[z];intro z2;rw[z2,hfree'] at e;cases e
   ·intro z2;rw[z2,hfree'] at z;cases z
  have J:=I3.call (h':=h') (g':=g) (d':=d) (t':=t) (ch:=fp) un hok' I5.bare (λb hb=>let⟨_,h1,_,h2,h3,h4⟩:=f2 b hb;⟨h2,h1,h3,h4⟩)
  exact⟨.ref s2.heap.objs.size,H',J,rfl,q⟩
 have loop:∀s4:E4,s4.heap=h₁->(∃tk,s4={s3 with heap:=h₁,toks:=tk})->
   Fj (model X.prog X.w) X.A (.compLoop (.ListComp elt [⟨.Name x px,iter,[],0⟩] scope pos) 0 (.ref it) (.ref s2.heap.objs.size) X'.env)
    (λr s'=>∃m,s'.heap.Ns s3.heap.objs.size m/\∀h',Heap.SameBut s3.heap.objs.size s'.heap h'->
     match r with| .ok _=>EP X pins Z Q (.ref s2.heap.objs.size) {s' with heap:=h'}| .error x=>E6 (model X.prog X.w) X.A (passOn "comprehension.variables-let-go" x X'.env) (EP X pins Z Q) X.xe {s' with heap:=h'}) s4:=by
  rintro s4 e4 ⟨tk,rfl⟩
  refine codeAny_compLoop_list (λn s'=>∃i ys v0 H',Inv X' [] [v0] H' s'/\tn i s'.heap/\(∀b∈fp,H' b=none)/\W i n ys H') ?_ m0 ⟨0,[],none,_,I4 tk,st4,fr0,w0⟩
  rintro n s5 ⟨i,ys,v0,H5,I5,st5,fr5,w5⟩
  obtain⟨hD5,⟨js,q⟩|⟨jg,step⟩⟩:=turnW i n ys H5 w5
  ·refine FE (T.done X' rfl rfl rfl hc i [] s5 _ H5 (λ_ _=>False) I5 (stat fr5) st5 js) (λr s6 hr=>?_) λ_ _ z=>z.elim
   obtain⟨rfl,I6⟩:=hr
   obtain⟨m,hn,_⟩:=I6.loc
   exact⟨m,hn,λh' sb=>fin I6 sb q⟩
  ·refine FE (T.item X' rfl rfl rfl hc i [] s5 _ H5 (λ_ _=>False) I5 (stat fr5) st5 jg) (λr s6 hr=>?_) λ_ _ z=>z.elim
   obtain⟨u,rfl,h6⟩:=hr
   show E6 _ _ (letOwnedTupleGo (.Name x px) (.ref it) u >>= λ_=>assign (.Name x px) X'.env u) _ _ s6
   refine Ey (FE h6 (λ_ s7 h7=>?_) λ_ _ z=>z.elim)
   obtain⟨xv,H7,I7,r7,y7,st7,fr7⟩:=h7
   have I7':=I7.pinned (stat fr7) (T.obj _ _ st7)
   have nd:X'.N.Nodup:=by show([x]:List E3).Nodup;simp
   refine FE (ZAK (X:=X') (pos:=px) (i:=0) (x:=x) nd rfl (.inl hx) (.inl rfl) _ s7 [v0] H7 xv u (λZ' H'=>Z'= [some xv]/\H'=H7) I7' r7 ⟨rfl,rfl⟩) (λ_ s8 h8=>?_) λ_ _ z=>z.elim
   obtain⟨Z8,H8,I8,rfl,rfl⟩:=h8
   refine FE (he s3.heap.objs.size s3 (upd H2 s2.heap.objs.size (.lst [])) fp _ s8 [some xv] H8 _ I8 (step xv H8 y7)) (λy s9 h9=>?_) λ_ _ z=>z.elim
   obtain⟨yv,H9,I9,r9,hD9,hl9,m',lt,w9⟩:=h9
   refine FE (ZBe (X:=X') _ s9 [some xv] H9 (.ref s2.heap.objs.size) [yv] (.ref s2.heap.objs.size) [y] (λ_ H'=>H'=upd H9 s2.heap.objs.size (.lst (ys++ [yv]))) I9 rfl (.cons r9 .nil) ⟨_,ys,yv,rfl,rfl,hD9,hl9,rfl⟩) (λ_ s10 h10=>?_) λ_ _ z=>z.elim
   obtain⟨_,H10,I10,_,rfl⟩:=h10
   refine⟨m',lt,i+1,ys++ [yv],some xv,_,I10.unpinned,T.keep _ _ _ st7 λb hb o e=>(I10.pin (b,o) (AU _ (AU _ (ZAf hb e)))).1,λb hb=>?_,w9⟩
   obtain⟨o,e,d⟩:=T.obj _ _ st7 b hb
   exact(I10.pin (b,o) (AU _ (AU _ (ZAf hb e)))).2.1
 have L:=loop {s3 with heap:=h₁,toks:=s2.toks+([]:List (E3×E2)).length} rfl ⟨_,rfl⟩
 subst hs3
 exact GP L (T.self _ 0 _ _ _ st4 L)
end
def Its (z:E3):It:=⟨λi _=>i<z.length,λi H x H'=>H'=H/\∃c,z.cps[i]?=some c/\x= .str ⟨#[c]⟩,λi _=>i=z.length⟩
theorem ZIY {P:E7}{w:FA}{K:AB}{tg:FD}(it:Ez)(z:E3)(t:Tok)(ty:String)
  (W:∀A:FC,A.handled=none->Walks P w A it [it] [it] z.cps.size (SignAt z) (λi h=>h.IsStrIter it ty z t i))
  (hn: ["enumerate","zip","dict_itemiterator","dict_reverseitemiterator","odict_iterator","itertools.zip_longest","itertools.pairwise"].contains ty=false)
  (hself:∀(A:FC) (i:Nat) (s:E4) (Q:E2->E4->Prop) (E:E2->E4->Prop),s.heap.IsStrIter it ty z t i->Q (.ref it) s->E6 (model P w) A (pyIter (.ref it)) Q E s):
  Turn P w K tg (Its z) [it] it (λi h=>h.IsStrIter it ty z t i) where
 mem:=by simp
 obj:=λi h st b hb=>by
  have e:b=it:=by simpa using hb
  subst e
  obtain⟨o,e,c,d⟩:=st
  exact⟨o,e,λv z=>by rw[d] at z;cases z⟩
 keep:=λi h h' st k=>by
  obtain⟨o,e,r⟩:=st
  exact⟨o,k it (by simp) o e,r⟩
 item:=by
  intro X hP hw hK hc i pins s Z H E I hf st hg
  subst hP hw hK
  obtain⟨f0,f1,f2,f3,f4,f5⟩:=hf it (by simp)
  refine(W X.A (I.ok.hd hc)).item i s _ _ hg st λv h' tk hv st' kk=>?_
  obtain⟨c,u,hcx,rfl⟩:=hv
  have I1:Inv X pins Z H {s with heap:=h',toks:=tk}:=I.turned (λb o hb e=>kk b o (by simpa using hb) e) f0 f1 f3 f4 f5
  obtain⟨o,e,cl,d⟩:=id st'
  exact⟨_,rfl,ZM6 (s:={s with heap:=h',toks:=tk}) e cl d hn ⟨.str ⟨#[c]⟩,H,I1,⟨u,rfl⟩,⟨rfl,c,hcx,rfl⟩,st',λb hb=>(hf b hb).1⟩⟩
 done:=by
  intro X hP hw hK hc i pins s Z H E I hf st hg
  subst hP hw hK
  obtain⟨f0,f1,f2,f3,f4,f5⟩:=hf it (by simp)
  have hi:i=z.length:=hg
  subst hi
  exact(W X.A (I.ok.hd hc)).done s _ _ st λh' tk kk=>⟨rfl,I.turned (λb o hb e=>kk b o (by simpa using hb) e) f0 f1 f3 f4 f5⟩
 self:=λA i s Q E st h=>hself A i s Q E st h
section
variable {X:Cx}{tg:FD}
inductive ZN5 (R:It->Hp->Prop)(x:V)(H1:Hp):Prop
 |mk:∀z,(x= .str z)->(R (Its z) H1)->ZN5 R x H1
def iStr (tl:TE):TI:=λZ H R=>tl Z H λx H1=>ZN5 R x H1
theorem ZNU {l:FD}{tl:TE}(hl:PE X l tl):PI X tg l (iStr tl):=by
 intro pins s Z H R I h
 refine thn (hl pins s Z H _ I h) λv s1 ⟨x,H1,I1,r1,q1⟩=>?_
 obtain⟨z,e,q⟩:=q1
 subst e
 obtain⟨t,rfl⟩:=r1
 have fp0:∀b∈ [s1.heap.objs.size],FpOk X pins H1 b:=λb hb=>by
  have e:b=s1.heap.objs.size:=by simpa using hb
  subst e
  exact I1.fpOk (AK _) (I1.hok.fresh (AK _))
 cases ha:z.cps.all (·<128)
 ·refine wpAny_pyIter_wide ha ?_
  exact⟨s1.heap.objs.size,[s1.heap.objs.size],_,_,H1,rfl,I1.kept (t':=s1.toks) λb o e=>AC _ e,ZIY _ z t "str_iterator" (λA hA=>Walks.strWide hA _ z t) (by decide) (λA i s Q E st h=>wpAny_pyIter_striter_wide st h),⟨_,AN _ rfl,rfl,rfl⟩,fp0,q⟩
 ·refine wpAny_pyIter_ascii ha ?_
  exact⟨s1.heap.objs.size,[s1.heap.objs.size],_,_,H1,rfl,I1.kept (t':=s1.toks) λb o e=>AC _ e,ZIY _ z t "str_ascii_iterator" (λA hA=>Walks.strAscii hA _ z t) (by decide) (λA i s Q E st h=>wpAny_pyIter_striter_ascii st h),⟨_,AN _ rfl,rfl,rfl⟩,fp0,q⟩
end
theorem ZO2 {z:E3}{g:TG}{tb:TS}{D:Ends}{Z:St}{H:Hp}(Pv:Nat->St->Hp->Prop)(h0:Pv 0 Z H)
  (hs:∀i c Z H,z.cps[i]?=some c->Pv i Z H->g (.str ⟨#[c]⟩) Z H λZ2 H2=>tb {D with nx:=Pv (i+1),ct:=Pv (i+1),bk:=D.nx} Z2 H2) (hd:∀Z H,Pv z.length Z H->D.nx Z H):
  ∃W:Nat->Nat->St->Hp->Prop,(∃m,W 0 m Z H)/\∀i m Z H,W i m Z H->
   ((Its z).stop i H/\D.nx Z H)\/((Its z).go i H/\∃N:St->Hp->Prop,(∀Z' H',N Z' H'->∃m',m'<m/\W (i+1) m' Z' H')/\∀x H',(Its z).yld i H x H'->g x Z H' λZ2 H2=>tb {D with nx:=N,ct:=N,bk:=D.nx} Z2 H2):=by
 refine⟨λi m Z H=>m=z.length-i/\i<=z.length/\Pv i Z H,⟨z.length,by simp,Aq _,h0⟩,?_⟩
 rintro i m Z H ⟨rfl,hi,p⟩
 by_cases hlt:i<z.length
 ·refine .inr ⟨hlt,Pv (i+1),λZ' H' p'=>⟨z.length-(i+1),by lia,rfl,hlt,p'⟩,λx H' y=>?_⟩
  obtain⟨e,c,hc,rfl⟩:=y
  subst e
  exact hs i c Z _ hc p
 ·have e:i=z.length:=by lia
  subst e
  exact .inl ⟨rfl,hd Z H p⟩
theorem Same.new {H:Hp}{p:Ez}(h:H p=none)(o:HO):Same H (upd H p o):=λb u q=>by rw[ZAN (ZAJ q h)];exact q
theorem comp_list {K:AB}{a:Ez}{xs:List V}{te:TE}{H1:Hp}{QD:Hp->Prop}{f:V->V}(D:Ez)(hD:H1 D=none)(hq:SqL K H1 a xs)(hz:xs.length<sizeLine)
  (he:∀x H R,x∈xs->(∀H',Same H H'->R (f x) H')->te [some x] H R)
  (hd:∀H',Same H1 H'->H' D=some (.lst (xs.map f))->QD H'):
  ∃W:Nat->Nat->List V->Hp->Prop,(∃m,W 0 m [] (upd H1 D (.lst [])))/\∀i m ys H2,W i m ys H2->H2 D=some (.lst ys)/\
   (((Itl K a).stop i H2/\QD H2)\/((Itl K a).go i H2/\∀x H3,(Itl K a).yld i H2 x H3->te [some x] H3 λy H4=>H4 D=some (.lst ys)/\ys.length<sizeLine/\∃m',m'<m/\W (i+1) m' (ys++ [y]) (upd H4 D (.lst (ys++ [y]))))):=by
 refine⟨λi m ys H2=>m=xs.length-i/\i<=xs.length/\ys=(xs.take i).map f/\H2 D=some (.lst ys)/\Same H1 H2,⟨xs.length,by simp,Aq _,by simp,ZAB,Same.new hD _⟩,?_⟩
 rintro i m ys H2 ⟨rfl,hi,rfl,hD2,sm⟩
 refine⟨hD2,?_⟩
 have q2:=sm.seq hq
 by_cases hlt:i<xs.length
 ·refine .inr ⟨⟨xs,xs[i],q2,by simp[hlt]⟩,λx H3 y=>?_⟩
  obtain⟨rfl,y⟩:=y
  have hx:=y xs q2
  refine he x H3 _ (Az hx) λH' sm'=>?_
  have hl:((xs.take i).map f).length=i:=by rw[AA,Ax];lia
  refine⟨sm' _ _ hD2,by rw[hl];lia,xs.length-(i+1),by lia,rfl,hlt,?_,ZAB,?_⟩
  ·rw[<-List.map_singleton,<-AX]
   congr 1
   rw[List.take_succ,hx]
   rfl
  ·intro b o e
   have hb:b≠D:=ZAJ e hD
   rw[ZAN hb]
   exact sm' _ _ (sm _ _ e)
 ·have e:i=xs.length:=by lia
  subst e
  rw[Bd] at hD2
  exact .inl ⟨⟨xs,q2,AK _⟩,hd H2 sm hD2⟩
theorem ZBm:∀{ts:List E3} {us:List E2},Vals (ts.map V.str) us->StrsAre us ts
 | [],_,.nil=> .nil
 |t::ts,_,.cons ⟨k,e⟩ r=>by
  subst e
  exact .cons t k (ZBm r)
section
variable {X:Cx}
def tFmt (te:TE):TE:=λZ H Q=>te Z H λx H1=>(∃i,x= .int i/\i.natAbs.log2<1920/\Q (.str (toString i)) H1)\/(∃y,x= .str y/\y.length<=sizeLine/\Q (.str y) H1)
theorem pe_fmt {e:FD}{te:TE}{pos:Pos}(he:PE X e te):PE X (.FormattedValue e (-1) none pos) (tFmt te):=by
 intro pins s Z H Q I h
 refine wpAny_FormattedValue_plain (thn (he pins s Z H _ I h) λv s1 ⟨x,H1,I1,r1,q1⟩=>?_)
 rcases q1 with⟨i,rfl,hi,q⟩|⟨y,rfl,hy,q⟩
 ·obtain⟨t,rfl⟩:=r1
  exact wpAny_formatField_int hi ⟨.str _,H1,I1.tok _,⟨_,rfl⟩,q⟩
 ·obtain⟨t,rfl⟩:=r1
  exact GT ⟨.str _,H1,I1,⟨_,rfl⟩,q⟩ ⟨.str _,H1,I1.tok _,⟨_,rfl⟩,q⟩ hy
inductive ZI8 (tb:TE)(Z:St)(Q:VK)(x:V)(H1:Hp):Prop
 |mk:∀a,(x= .str a)->((B2++a).length<=sizeLine)->(tb Z H1 λy H2=>∃b,y= .str b/\(B2++a++b).length<=sizeLine/\Q (.str (B2++a++b)) H2)->ZI8 tb Z Q x H1
def tJoin2 (ta tb:TE):TE:=λZ H Q=>ta Z H λx H1=>ZI8 tb Z Q x H1
theorem ZEB {a b:FD}{ta tb:TE}{pos:Pos}(ha:PE X a ta)(hb:PE X b tb):PE X (.JoinedStr [a,b] pos) (tJoin2 ta tb):=by
 intro pins s Z H Q I h
 refine wpAny_JoinedStr ?_
 show E6 _ _ (eval a X.env) _ _ s
 refine thn (ha pins s Z H _ I h) λv s1 ⟨x,H1,I1,r1,q1⟩=>?_
 obtain⟨y,rfl,hy,q1⟩:=q1
 obtain⟨t,rfl⟩:=r1
 refine⟨y,t,rfl,hy,?_⟩
 show E6 _ _ (eval b X.env) _ _ s1
 refine thn (hb pins s1 Z H1 _ I1 q1) λv s2 ⟨x,H2,I2,r2,q2⟩=>?_
 obtain⟨y2,rfl,hy2,q2⟩:=q2
 obtain⟨t2,rfl⟩:=r2
 exact⟨y2,t2,rfl,hy2,hy2,.str _,H2,I2.tok _,⟨_,rfl⟩,q2⟩
inductive ZI7 (tb tc:TE)(Z:St)(Q:VK)(x:V)(H1:Hp):Prop
 |mk:∀a,(x= .str a)->((B2++a).length<=sizeLine)->(tb Z H1 λy H2=>∃b,y= .str b/\(B2++a++b).length<=sizeLine/\tc Z H2 λz H3=>∃c,z= .str c/\(B2++a++b++c).length<=sizeLine/\Q (.str (B2++a++b++c)) H3)->ZI7 tb tc Z Q x H1
def tJoin3 (ta tb tc:TE):TE:=λZ H Q=>ta Z H λx H1=>ZI7 tb tc Z Q x H1
theorem ZMa {a b c:FD}{ta tb tc:TE}{pos:Pos}(ha:PE X a ta)(hb:PE X b tb)(hc:PE X c tc):PE X (.JoinedStr [a,b,c] pos) (tJoin3 ta tb tc):=by
 intro pins s Z H Q I h
 refine wpAny_JoinedStr ?_
 show E6 _ _ (eval a X.env) _ _ s
 refine thn (ha pins s Z H _ I h) λv s1 ⟨x,H1,I1,r1,q1⟩=>?_
 obtain⟨y,rfl,hy,q1⟩:=q1
 obtain⟨t,rfl⟩:=r1
 refine⟨y,t,rfl,hy,?_⟩
 show E6 _ _ (eval b X.env) _ _ s1
 refine thn (hb pins s1 Z H1 _ I1 q1) λv s2 ⟨x,H2,I2,r2,q2⟩=>?_
 obtain⟨y2,rfl,hy2,q2⟩:=q2
 obtain⟨t2,rfl⟩:=r2
 refine⟨y2,t2,rfl,hy2,?_⟩
 show E6 _ _ (eval c X.env) _ _ s2
 refine thn (hc pins s2 Z H2 _ I2 q2) λv s3 ⟨x,H3,I3,r3,q3⟩=>?_
 obtain⟨y3,rfl,hy3,q3⟩:=q3
 obtain⟨t3,rfl⟩:=r3
 exact⟨y3,t3,rfl,hy3,hy3,.str _,H3,I3.tok _,⟨_,rfl⟩,q3⟩
theorem ZE4:∀{bs:List Bool} {us:List E2},Vals (bs.map V.bl) us->∀(i:Nat) (v:E2),us[i]?=some v->∃b,bs[i]?=some b/\v= .bool b
 | [],_,.nil,i,v,e=>by simp at e
 |b::bs,_,.cons r _,0,v,e=>by
  have r':_=Bc b:=r
  simp at e;subst e;exact⟨b,rfl,r'⟩
 |b::bs,_,.cons _ t,i+1,v,e=>by
  obtain⟨c,h1,h2⟩:=ZE4 t i v (by simpa using e)
  exact⟨c,by simpa using h1,h2⟩
theorem Same.tup {K:AB}{H H':Hp}{a:Ez}{xs:List V}(e:Same H H')(h:SqT K H a xs):SqT K H' a xs:=by
 rcases h with(h|⟨o,h⟩)|h
 ·exact .inl (.inl (e _ _ h))
 ·exact .inl (.inr ⟨o,e _ _ h⟩)
 ·exact .inr h
end
section
variable {X:Cx}{st:FS}{rest:List FS}{t u:TS}{e:FD}{te:TE}{pos:Pos}{tg:FD}
end
section
variable {prog:E7}{w:FA}{A:FC}{R:Result->E4->Prop}{s:E4}
theorem ZFV {elt target iter:FD}{ifs:List FD}{scope:F0}{pos:Pos}{it acc:E2}{env:Env}(I:Nat->E4->Prop)
  (turn:∀n s,I n s->E6 (model prog w) A (FY it) (λr s1=>match r with
   |none=>R (.ok .next) s1
   |some v=>E6 (model prog w) A (letOwnedTupleGo target it v) (λ_ s1'=>E6 (model prog w) A (assign target env v) (λ_ s2=>
     E6 (model prog w) A (forIn ifs true λc r=>if r=true then do let ok<-isTrue c env (eval c env);pure (CK ok) else pure (CK r)) (λok s3=>
      if ok=true then E6 (model prog w) A (eval elt env) (λx s4=>E6 (model prog w) A (call (.builtin "list.append") [acc,x]) (λ_ s5=>∃m,m<n/\I m s5) (λ_ _=>False) s4) (λ_ _=>False) s3
      else∃m,m<n/\I m s3) (λ_ _=>False) s2) (λ_ _=>False) s1') (λ_ _=>False) s1) (λ_ _=>False) s)
  (n:Nat) (h:I n s):Fj (model prog w) A (.compLoop (.ListComp elt [⟨target,iter,ifs,0⟩] scope pos) 0 it acc env) R s:=by
 refine codeAny_loop rfl I (λn s hI=>?_) n h
 show E6 _ A ((compTurn (.ListComp elt [⟨target,iter,ifs,0⟩] scope pos) 0 it acc env).onRaise (λx=>do noteFrame x env;theTreesLotGoes x)) _ _ s
 refine wpAny_noted ?_
 rw[compTurn_list]
 refine Ey (Ge (Ey (FE (turn n s hI) (λr s1 h1=>?_) λ_ _ z=>z.elim)))
 cases r with
 |none=>exact E5 h1
 |some v=>
  refine Ey (FE h1 (λ_ s1' h1'=>Ey (FE h1' (λ_ s2 h2=>Ey (FE h2 (λok s3 h3=>?_) λ_ _ z=>z.elim)) λ_ _ z=>z.elim)) λ_ _ z=>z.elim)
  cases ok with
  |false=>exact E5 ⟨rfl,h3⟩
  |true=>exact Ey (Ey (FE h3 (λx s4 h4=>Ey (FE h4 (λ_ s5 h5=>E5 (E5 ⟨rfl,h5⟩)) λ_ _ z=>z.elim)) λ_ _ z=>z.elim))
end
theorem ZIK {env:Env}:∀(names:List (E3×GR)) (acc:List (E3×Ez)),(∀nk∈names,nk.2= .free->∃c,env.cells.lookup nk.1=some c)->(∀y c,acc.lookup y=some c->env.cells.lookup y=some c)->
  ∃cl,(forIn names acc (λ(x:E3×GR) (r:List (E3×Ez))=>(if x.2== .free then do let a<-cellOf env x.1;pure (CK ((x.1,a)::r)) else pure (CK r):Sem (ForInStep (List (E3×Ez))))))=(pure cl:Sem _)/\
   (∀y c,cl.lookup y=some c->env.cells.lookup y=some c)/\(∀y c,acc.lookup y=some c->∃c,cl.lookup y=some c)/\∀y,names.lookup y=some .free->∃c,cl.lookup y=some c
 | [],acc,_,ha=>⟨acc,rfl,ha,λy c e=>⟨c,e⟩,λy e=>by simp at e⟩
 |(n,k)::names,acc,hf,ha=>by
  cases hk:k==BB with
  |false=>
   obtain⟨cl,e,h1,h2,h3⟩:=ZIK names acc (λnk h=>hf nk (AL _ h)) ha
   refine⟨cl,?_,h1,h2,λy hy=>?_⟩
   ·rw[CV]
    simp only[hk,Am,if_false]
    exact e
   ·rw[A7] at hy
    cases hyn:y==n with
    |true=>rw[hyn] at hy;cases hy;cases hk
    |false=>rw[hyn] at hy;exact h3 y hy
  |true=>
   have ek:k= .free:=eq_of_beq hk
   obtain⟨c,hc⟩:=hf (n,k) (AJ ..) ek
   have ha':∀y c',((n,c)::acc).lookup y=some c'->env.cells.lookup y=some c':=λy c' e=>by
    rw[A7] at e
    cases hyn:y==n with
    |true=>rw[hyn] at e;cases e;rw[eq_of_beq hyn];exact hc
    |false=>rw[hyn] at e;exact ha y c' e
   obtain⟨cl,e,h1,h2,h3⟩:=ZIK names ((n,c)::acc) (λnk h=>hf nk (AL _ h)) ha'
   have in_acc:∀y c',acc.lookup y=some c'->∃c'',((n,c)::acc).lookup y=some c'':=λy c' e=>by
    rw[A7]
    cases hyn:y==n with
    |true=>exact⟨c,rfl⟩
    |false=>exact⟨c',e⟩
   refine⟨cl,?_,h1,λy c' e'=>let⟨c'',e''⟩:=in_acc y c' e';h2 y c'' e'',λy hy=>?_⟩
   ·have e0:cellOf env n=pure c:=by unfold cellOf;rw[hc]
    rw[CV]
    simp only[hk,if_true,e0]
    exact e
   ·rw[A7] at hy
    cases hyn:y==n with
    |true=>exact h2 y c (by rw[A7,hyn])
    |false=>rw[hyn] at hy;exact h3 y hy
theorem ZFW {scope:F0}{env:Env}(hf:∀nk∈scope.names,nk.2= .free->∃c,env.cells.lookup nk.1=some c):
  ∃cl,closureFor scope env=pure cl/\(∀y c,cl.lookup y=some c->env.cells.lookup y=some c)/\∀y,scope.names.lookup y=some .free->∃c,cl.lookup y=some c:=by
 obtain⟨cl,e,h1,_,h3⟩:=ZIK (env:=env) scope.names [] hf (λy c e=>by simp at e)
 refine⟨cl,?_,h1,h3⟩
 unfold closureFor
 simp only[bind_pure]
 exact e
theorem ZDa {env:Env}:∀{names:List (E3×GR)} {y:E3},names.lookup y=some .free->
  (names.map λ(n,k)=>if(k==BB&&env.scope.kind== .function&&env.kindOf n==some .cell) then(n,Bw) else(n,k)).lookup y=some .cell\/
  (names.map λ(n,k)=>if(k==BB&&env.scope.kind== .function&&env.kindOf n==some .cell) then(n,Bw) else(n,k)).lookup y=some .free
 | [],_,h=>by simp at h
 |(n,k)::r,y,h=>by
  have ih:=@ZDa env r y
  show D6 y ((if(k==BB&&env.scope.kind== .function&&env.kindOf n==some .cell)=true then(n,Bw) else(n,k))::_)=_\/D6 y ((if(k==BB&&env.scope.kind== .function&&env.kindOf n==some .cell)=true then(n,Bw) else(n,k))::_)=_
  cases hx:y==n with
  |true=>
   simp only[A7,hx] at h
   cases h
   by_cases hc:(BB==BB&&env.scope.kind== .function&&env.kindOf n==some .cell)=true
   ·rw[if_pos hc];simp only[A7,hx];exact .inl trivial
   ·rw[if_neg hc];simp only[A7,hx];exact .inr trivial
  |false=>
   simp only[A7,hx] at h
   by_cases hc:(k==BB&&env.scope.kind== .function&&env.kindOf n==some .cell)=true
   ·rw[if_pos hc];simp only[A7,hx];exact ih h
   ·rw[if_neg hc];simp only[A7,hx];exact ih h
theorem ZET {env:Env}:∀{names:List (E3×GR)} {y:E3},(∀nk∈names,nk.2≠ .cell)->
  ((names.map λ(n,k)=>if(k==BB&&env.scope.kind== .function&&env.kindOf n==some .cell) then(n,Bw) else(n,k)).lookup y=some .cell\/
  (names.map λ(n,k)=>if(k==BB&&env.scope.kind== .function&&env.kindOf n==some .cell) then(n,Bw) else(n,k)).lookup y=some .free)->names.lookup y=some .free
 | [],_,_,h=>by simp at h
 |(n,k)::r,y,hn,h=>by
  have ih:=@ZET env r y (λnk h=>hn nk (AL _ h))
  have h':D6 y ((if(k==BB&&env.scope.kind== .function&&env.kindOf n==some .cell)=true then(n,Bw) else(n,k))::r.map λ(n,k)=>if(k==BB&&env.scope.kind== .function&&env.kindOf n==some .cell) then(n,Bw) else(n,k))=some .cell\/D6 y ((if(k==BB&&env.scope.kind== .function&&env.kindOf n==some .cell)=true then(n,Bw) else(n,k))::r.map λ(n,k)=>if(k==BB&&env.scope.kind== .function&&env.kindOf n==some .cell) then(n,Bw) else(n,k))=some .free:=h
  cases hx:y==n with
  |true=>
   simp only[A7,hx]
   by_cases hc:(k==BB&&env.scope.kind== .function&&env.kindOf n==some .cell)=true
   ·have:(k==BB)=true:=by
     cases hk:k==BB with
     |true=>rfl
     |false=>rw[hk] at hc;simp at hc
    rw[eq_of_beq this]
   ·rw[if_neg hc] at h'
    simp only[A7,hx] at h'
    rcases h' with h'|h'
    ·cases h';exact absurd rfl (hn (n,.cell) (AJ ..))
    ·exact h'
  |false=>
   simp only[A7,hx]
   by_cases hc:(k==BB&&env.scope.kind== .function&&env.kindOf n==some .cell)=true
   ·rw[if_pos hc] at h';simp only[A7,hx] at h';exact ih h'
   ·rw[if_neg hc] at h';simp only[A7,hx] at h';exact ih h'
def cxCF (X:Cx)(scope:F0)(cl:List (E3×Ez))(Ns:List E3)(C:Ez)(s:E4)(H:Hp)(fp:List Ez):Cx:=
 {X with
  N:=Ns
  s₀:=s
  H₀:=H
  env:=compEnvC scope cl C X.env
  outer:=X.stack
  stack:=X.stack
  ex:=fp
  fn:=λ_=>false
  pn:= []
  xe:=λ_ _=>False}
def frOf (Z:St)(js:List Nat):St:=js.map λj=>(Z[j]?).join
def ZE7 (wi:TI)(g:TG)(n:Nat)(js:List Nat)(tt:TT)(te:TE):TE:=λZ H Q=>wi Z H λJ H1=>∀D,H1 D=none->∃W:Nat->Nat->List V->Hp->Prop,
 (∃m,W 0 m [] (upd H1 D (.lst [])))/\∀i m ys H2,W i m ys H2->H2 D=some (.lst ys)/\
  ((J.stop i H2/\Q (.ref D) H2)\/(J.go i H2/\∀x H3,J.yld i H2 x H3->∀pre:St,pre.length=n->g x (pre++frOf Z js) H3 λZ4 H4=>(∃pre':St,pre'.length=n/\Z4=pre'++frOf Z js)/\
   tt Z4 H4 λb H5=>if b=true then te Z4 H5 (λy H6=>H6 D=some (.lst ys)/\ys.length<sizeLine/\∃m',m'<m/\W (i+1) m' (ys++ [y]) (upd H6 D (.lst (ys++ [y])))) else∃m',m'<m/\W (i+1) m' ys H5))
def PTs (X:Cx)(ifs:List FD)(t:TT):Prop:=
 ∀(pins:List (Ez×FF)) (s:E4) (Z:St) (H:Hp) (Q:Bool->Hp->Prop),Inv X pins Z H s->t Z H Q->
  E6 (model X.prog X.w) X.A (forIn ifs true λc r=>if r=true then do let ok<-isTrue c X.env (eval c X.env);pure (CK ok) else pure (CK r)) (TP X pins Z Q) X.xe s
def ZC3:TT:=λ_ H Q=>Q true H
theorem ZAb {X:Cx}:PTs X [] ZC3:=λ_ _ _ H _ I h=>wpAny_tests_nil ⟨H,I,h⟩
theorem ZBb {X:Cx}{c:FD}{t:TT}(h:PT X c t):PTs X [c] t:=λpins s Z H Q I hw=>wpAny_tests_one (h pins s Z H Q I hw)
def ZFn (X:Cx)(scope:F0):List E3->List Nat->Prop
 | [],[]=>True
 |y::ys,j::js=>X.N[j]?=some y/\(X.env.kindOf y=some .cell\/X.env.kindOf y=some .free)/\scope.names.lookup y=some .free/\ZFn X scope ys js
 |_,_=>False
theorem ZFn.at {X:Cx}{scope:F0}:∀{ys:List E3} {js:List Nat},ZFn X scope ys js->ys.length=js.length/\∀(k:Nat) (y:E3),ys[k]?=some y->∃j,js[k]?=some j/\X.N[j]?=some y/\(X.env.kindOf y=some .cell\/X.env.kindOf y=some .free)/\scope.names.lookup y=some .free
 | [],[],_=>⟨rfl,λk y e=>by simp at e⟩
 | [],_::_,h=>h.elim
 |_::_,[],h=>h.elim
 |y::ys,j::js,h=>by
  obtain⟨h1,h2,h3,h4⟩:=h
  obtain⟨l,ih⟩:=ZFn.at h4
  refine⟨by simp[l],λk y' e=>?_⟩
  cases k with
  |zero=>simp at e;subst e;exact⟨j,rfl,h1,h2,h3⟩
  |succ k=>simpa using ih k y' (by simpa using e)
section
variable {X:Cx}
theorem ZAO {elt iter target:FD}{ifs:List FD}{xs ys:List E3}{js:List Nat}{pos:Pos}{scope:F0}{wi:TI}{g:TG}{tt:TT}{te:TE}(hc:X.calm=true)
  (hfree:∀nk∈scope.names,nk.2= .free->nk.1∈ys) (hcell:∀nk∈scope.names,nk.2≠ .cell) (hkind:scope.kind= .function)
  (hnames:∀nk∈scope.names,nk.2= .local->scope.names.lookup nk.1=some .local) (hfo:ZFn X scope ys js)
  (hi:PI X target iter wi) (hg:∀cl C s H fp,PG (cxCF X scope cl (xs++ys) C s H fp) target g) (ht:∀cl C s H fp,PTs (cxCF X scope cl (xs++ys) C s H fp) ifs tt)
  (he:∀cl C s H fp,PE (cxCF X scope cl (xs++ys) C s H fp) elt te)
  (hs:∀v,foldedSetIterable iter X.env v=pure v:=by intro _;rfl):PE X (.ListComp elt [⟨target,iter,ifs,0⟩] scope pos) (ZE7 wi g xs.length js tt te):=by
 intro pins s Z H Q I h
 obtain⟨ylen,yat⟩:=hfo.at
 have hkd:∀nk∈scope.names,nk.2= .free->X.env.kindOf nk.1=some .cell\/X.env.kindOf nk.1=some .free:=λnk hnk hf=>by
  obtain⟨k,hk,e⟩:=B3.mp (hfree nk hnk hf)
  obtain⟨_,_,_,hk2,_⟩:=yat k nk.1 (by rw[AG hk,e])
  exact hk2
 obtain⟨cl,hclos,hsub,hhas⟩:=ZFW (scope:=scope) (env:=X.env) λnk hnk hf=>I.ok.has _ (hkd nk hnk hf)
 rw[eval_ListComp]
 refine Gi (use:=none) rfl hs hclos hkind hnames (thn (hi pins s Z H _ I h) λv s1 h1=>thn h1 λitv s2 h2=>?_)
 obtain⟨it,fp,tn,J,H2,e,I2,T,st2,f2,hR⟩:=h2
 subst e
 have hD0:H2 s2.heap.objs.size=none:=I2.fresh
 obtain⟨W,⟨m0,w0⟩,turnW⟩:=hR _ hD0
 have I3:Inv X pins Z (upd H2 s2.heap.objs.size (.lst [])) {s2 with heap:=s2.heap.push {cls:= .type "list",data:= .seq ([]:List E2).toArray}}:=I2.lnew (t':=s2.toks) .nil (Aq _)
 refine FH (GV hcell (λnk hnk=>by simp at hnk) (λh₁ hns₁ hsb₁=>?_) hkind)
 dsimp only at hns₁ hsb₁ ⊢
 generalize hs3:({s2 with heap:=s2.heap.push {cls:= .type "list",data:= .seq ([]:List E2).toArray}}:E4)=s3 at I3
 have eh3:s3.heap=s2.heap.push {cls:= .type "list",data:= .seq ([]:List E2).toArray}:=by rw[<-hs3]
 have hC:s3.heap.objs.size=s2.heap.objs.size+1:=by rw[eh3,BE]
 have old:∀b o,s3.heap.get? b=some o->h₁.get? b=some o:=λb o e=>by
  have hb:b≠s3.heap.objs.size:=AV (AI e)
  rw[eh3] at e hb
  exact hsb₁.extBut b o hb (AC _ e)
 have fpl:∀b∈fp,b<s2.heap.objs.size:=λb hb=>let⟨o,e,_⟩:=T.obj _ _ st2 b hb;AI e
 have fps:∀b∈fp,b∉frs X.stack:=λb hb z=>(AQ.mp (I2.stkSub b z)).elim (f2 b hb).2.1 (f2 b hb).2.2.1
 have fpc:∀b∈fp,∀y c,cl.lookup y=some c->c≠b:=λb hb y c e=>(f2 b hb).2.2.2.2.1 y c (hsub y c e)
 have cne:∀y c,cl.lookup y=some c->c≠s3.heap.objs.size:=λy c e z=>by
  obtain⟨v,q⟩:=I3.cell y c (hsub y c e)
  exact absurd q.lt (by rw[z];exact BM _)
 let X':Cx:=cxCF X scope cl (xs++ys) s3.heap.objs.size s3 (upd H2 s2.heap.objs.size (.lst [])) fp
 have okX:X'.Ok:=by
  refine⟨I2.ok.mod,hkind,I2.ok.glob,I2.ok.blt,AK _,λy z c e1 e2=>I2.ok.inj y z c (hsub _ _ e1) (hsub _ _ e2),λy hy=>hhas y (ZET hcell hy),λy c z _=>absurd z (by simp[X',cxCF]),I2.ok.hd,I2.ok.frames,.inl rfl,λb hb=>⟨?_,λy c e=>fpc b hb y c e⟩,
   I3.bs,As I3.ok.bsz I3.sz,λb o e hb=>?_,fps,I3.stack,I3.stkFree⟩
  ·exact AV (Af (fpl b hb) (by show s2.heap.objs.size<=s3.heap.objs.size;rw[hC];exact CI _))
  ·rcases(f2 b hb).2.2.2.1 with z|z
   ·exact I2.ok.noex b o e z
   ·exact absurd (Af (AI (I2.ok.bs b o e).1) z) (BM _)
 have stat:∀{H':Hp},(∀b∈fp,H' b=none)->∀b∈fp,FpOk X' [] H' b:=λhn b hb=>by
  refine⟨hn b hb,?_,fps b hb,.inl hb,λy c e=>fpc b hb y c e,λp hp=>absurd (show p∈([]:List (Ez×FF)) from hp) (by simp)⟩
  exact AV (Af (fpl b hb) (by show s2.heap.objs.size<=s3.heap.objs.size;rw[hC];exact CI _))
 have I4:∀tk:Nat,Inv X' [] (Ck xs.length none++frOf Z js) (upd H2 s2.heap.objs.size (.lst [])) {s3 with heap:=h₁,toks:=tk}:=λtk=>by
  refine⟨okX,rfl,I3.bare,Un.kept old,⟨_,by rw[<-eh3] at hns₁;exact hns₁,λi y v e1 e2 _=>?_⟩,λy c e=>let⟨v,q⟩:=I3.cell y c (hsub y c e);let⟨o,q1,q2⟩:=q;⟨v,o,old c o q1,q2⟩,I3.hok.fresh (AK _),λy c e=>I3.freeC y c (hsub y c e),λp hp=>absurd (show p∈([]:List (Ez×FF)) from hp) (by simp),I3.hok.kept old,by simp[X',cxCF,frOf,ylen]⟩
  by_cases hlt:i<xs.length
  ·rw[CP (by simpa using hlt),DM,if_pos hlt] at e2
   cases e2
  ·have hge:xs.length<=i:=DQ hlt
   have e1':(xs++ys)[i]?=some y:=e1
   rw[B0 hge] at e1'
   rw[B0 (by simpa using hge),Dc] at e2
   obtain⟨j,hj,hN,hk,hfr⟩:=yat _ y e1'
   have e3:(Z[j]?).join=some v:=by
    unfold frOf at e2
    rw[AS,hj] at e2
    exact Aj e2
   have e4:Z[j]?=some (some v):=by
    cases q:Z[j]? with
    |none=>rw[q] at e3;cases e3
    |some w=>rw[q] at e3;have:w=some v:=e3;rw[this]
   obtain⟨m3,_,hl3⟩:=I3.loc
   obtain⟨u,ru,lk⟩:=hl3 j y v hN e4 (by rcases hk with z|z;exact .inr (.inl z);exact .inr (.inr z))
   refine⟨u,ru,.inr ⟨ZDa hfr,?_⟩⟩
   rcases lk with⟨z,_⟩|⟨_,c,hc1,hc2⟩
   ·rcases hk with z2|z2<;>rw[z] at z2<;>cases z2
   ·obtain⟨c',hc'⟩:=hhas y hfr
    have:c'=c:=by have:=hsub y c' hc';rw[hc1] at this;exact(Aj this).symm
    subst this
    obtain⟨o,q1,q2⟩:=hc2
    exact⟨c',hc',o,old c' o q1,q2⟩
 have fr0:∀b∈fp,(upd H2 s2.heap.objs.size (.lst []):Hp) b=none:=λb hb=>by rw[ZAN (AV (fpl b hb))];exact(f2 b hb).1
 have st4:tn 0 h₁:=T.keep 0 _ _ st2 λb hb o e=>old b o (by rw[eh3];exact AC _ e)
 have fin:∀{Z5:St} {H':Hp} {s5:E4} {h':E9},Inv X' [] Z5 H' s5->Heap.SameBut s3.heap.objs.size s5.heap h'->Q (.ref s2.heap.objs.size) H'->EP X pins Z Q (.ref s2.heap.objs.size) {s5 with heap:=h'}:=by
  intro Z5 H' s5 h' I5 sb q
  obtain⟨hh,gg,d,t,os'⟩:=s5
  have eo:os'=s3.os:=I5.os
  subst eo
  have keepC:∀b o,b≠s3.heap.objs.size->hh.get? b=some o->h'.get? b=some o:=λb o hb e=>sb.extBut b o hb e
  have ne3:∀b o,s3.heap.get? b=some o->b≠s3.heap.objs.size:=λb o e=>AV (AI e)
  have u:Un (frs X.stack) fp (upd H2 s2.heap.objs.size (.lst [])) H' s3.heap hh:=I5.base
  have un:Un (frs X.stack) fp (upd H2 s2.heap.objs.size (.lst [])) H' s3.heap h':=
   ⟨λb o e n hb hx=>keepC b o (ne3 b o e) (u.keep b o e n hb hx),λb o e n hb hx=>let⟨sl,q⟩:=u.slot b o e n hb hx;⟨sl,keepC b _ (ne3 b o e) q⟩,u.free,λb o e hx=>let⟨o',q⟩:=u.there b o e hx;⟨o',keepC b o' (ne3 b o e) q⟩,u.tups,u.frzs,u.tbls⟩
  have hfree':H' s3.heap.objs.size=none:=I5.free
  have hok':HOk X.prog X.w H' h':=λb u e=>by
   refine(I5.hok b u e).stay (λc v hc q=>keepC c v ?_ q) (λ_ q=>q) λ_ _ q=>q
   rcases hc with z|z
   ·rw[z];intro z2;rw[z2,hfree'] at e;cases e
   ·intro z2;rw[z2,hfree'] at z;cases z
  have J:=I3.call (h':=h') (g':=gg) (d':=d) (t':=t) (ch:=fp) un hok' I5.bare (λb hb=>let⟨_,h1,_,h2,h3,h4⟩:=f2 b hb;⟨h2,h1,h3,h4⟩)
  exact⟨.ref s2.heap.objs.size,H',J,rfl,q⟩
 have loop:∀s4:E4,(∃tk,s4={s3 with heap:=h₁,toks:=tk})->
   Fj (model X.prog X.w) X.A (.compLoop (.ListComp elt [⟨target,iter,ifs,0⟩] scope pos) 0 (.ref it) (.ref s2.heap.objs.size) X'.env)
    (compPost (model X.prog X.w) X.A X.xe none (EP X pins Z Q) (.ref s2.heap.objs.size) s3.heap.objs.size) s4:=by
  rintro s4 ⟨tk,rfl⟩
  refine ZFV (λn s'=>∃i ys' pre H',Inv X' [] (pre++frOf Z js) H' s'/\pre.length=xs.length/\tn i s'.heap/\(∀b∈fp,H' b=none)/\W i n ys' H') ?_ m0 ⟨0,[],Ck xs.length none,_,I4 tk,by simp,st4,fr0,w0⟩
  rintro n s5 ⟨i,ys',pre,H5,I5,hpre,st5,fr5,w5⟩
  obtain⟨hD5,⟨js5,q⟩|⟨jg,step⟩⟩:=turnW i n ys' H5 w5
  ·refine FE (T.done X' rfl rfl rfl hc i [] s5 _ H5 (λ_ _=>False) I5 (stat fr5) st5 js5) (λr s6 hr=>?_) λ_ _ z=>z.elim
   obtain⟨rfl,I6⟩:=hr
   obtain⟨m,hn,_⟩:=I6.loc
   exact⟨m,hn,λh' sb=>fin I6 sb q⟩
  ·refine FE (T.item X' rfl rfl rfl hc i [] s5 _ H5 (λ_ _=>False) I5 (stat fr5) st5 jg) (λr s6 hr=>?_) λ_ _ z=>z.elim
   obtain⟨u,rfl,h6⟩:=hr
   refine FE h6 (λ_ s7 h7=>?_) λ_ _ z=>z.elim
   obtain⟨xv,H7,I7,r7,y7,st7,fr7⟩:=h7
   have I7':=I7.pinned (stat fr7) (T.obj _ _ st7)
   refine FE (hg cl s3.heap.objs.size s3 (upd H2 s2.heap.objs.size (.lst [])) fp _ s7 _ H7 xv u _ I7' r7 (step xv H7 y7 pre hpre)) (λ_ s8 h8=>?_) λ_ _ z=>z.elim
   obtain⟨Z8,H8,I8,⟨pre',hpre',e8⟩,q8⟩:=h8
   subst e8
   refine FE (ht cl s3.heap.objs.size s3 (upd H2 s2.heap.objs.size (.lst [])) fp _ s8 _ H8 _ I8 q8) (λok s9 h9=>?_) λ_ _ z=>z.elim
   obtain⟨H9,I9,q9⟩:=h9
   have stay:∀{H':Hp} {s':E4},Inv X' ([]++ZFJ fp s7.heap) (pre'++frOf Z js) H' s'->tn (i+1) s'.heap/\∀b∈fp,H' b=none:=λ{H' s'} I'=>by
    refine⟨T.keep _ _ _ st7 λb hb o e=>(I'.pin (b,o) (AU _ (AU _ (ZAf hb e)))).1,λb hb=>?_⟩
    obtain⟨o,e,d⟩:=T.obj _ _ st7 b hb
    exact(I'.pin (b,o) (AU _ (AU _ (ZAf hb e)))).2.1
   cases ok with
   |false=>
    obtain⟨m',lt,w9⟩:=(show∃m',m'<n/\W (i+1) m' ys' H9 by simpa using q9)
    obtain⟨k1,k2⟩:=stay I9
    exact⟨m',lt,i+1,ys',pre',H9,I9.unpinned,hpre',k1,k2,w9⟩
   |true=>
    have q9':te (pre'++frOf Z js) H9 (λy H6=>H6 s2.heap.objs.size=some (.lst ys')/\ys'.length<sizeLine/\∃m',m'<n/\W (i+1) m' (ys'++ [y]) (upd H6 s2.heap.objs.size (.lst (ys'++ [y])))):=by simpa using q9
    refine FE (he cl s3.heap.objs.size s3 (upd H2 s2.heap.objs.size (.lst [])) fp _ s9 _ H9 _ I9 q9') (λy s10 h10=>?_) λ_ _ z=>z.elim
    obtain⟨yv,H10,I10,r10,hD10,hl10,m',lt,w10⟩:=h10
    refine FE (ZBe (X:=X') _ s10 _ H10 (.ref s2.heap.objs.size) [yv] (.ref s2.heap.objs.size) [y] (λ_ H'=>H'=upd H10 s2.heap.objs.size (.lst (ys'++ [yv]))) I10 rfl (.cons r10 .nil) ⟨_,ys',yv,rfl,rfl,hD10,hl10,rfl⟩) (λ_ s11 h11=>?_) λ_ _ z=>z.elim
    obtain⟨_,H11,I11,_,rfl⟩:=h11
    obtain⟨k1,k2⟩:=stay I11
    exact⟨m',lt,i+1,ys'++ [yv],pre',_,I11.unpinned,hpre',k1,k2,w10⟩
 have L:=loop {s3 with heap:=h₁,toks:=s2.toks+([]:List (E3×E2)).length} ⟨_,rfl⟩
 subst hs3
 exact GP L (T.self _ 0 _ _ _ st4 L)
end
structure Tells (J:It)(H1:Hp)(xs:List V):Prop where
 go:∀H2 i,Same H1 H2->i<xs.length->J.go i H2
 yld:∀H2 i x H3,Same H1 H2->J.yld i H2 x H3->H3=H2/\xs[i]?=some x
 stop:∀H2,Same H1 H2->J.stop xs.length H2
theorem ZAP {K:AB}{H1:Hp}{a:Ez}{xs:List V}(h:SqT K H1 a xs):Tells (Itt K a) H1 xs:=
 ⟨λH2 i sm hi=>⟨xs,xs[i],sm.tup h,by simp[hi]⟩,λH2 i x H3 sm y=>by obtain⟨e,y⟩:=y;exact⟨e,y xs (sm.tup h)⟩,λH2 sm=>⟨xs,sm.tup h,AK _⟩⟩
theorem ZAv {K:AB}{H1:Hp}{a:Ez}{xs:List V}(h:SqL K H1 a xs):Tells (Itl K a) H1 xs:=
 ⟨λH2 i sm hi=>⟨xs,xs[i],sm.seq h,by simp[hi]⟩,λH2 i x H3 sm y=>by obtain⟨e,y⟩:=y;exact⟨e,y xs (sm.seq h)⟩,λH2 sm=>⟨xs,sm.seq h,AK _⟩⟩
theorem ZDL {J:It}{xs:List V}{tt:TT}{te:TE}{fr:St}{H1:Hp}{QD:Hp->Prop}{f:V->V}{p:V->Bool}(D:Ez)(hD:H1 D=none)(T:Tells J H1 xs)(hz:xs.length<sizeLine)
  (ht:∀x H R,x∈xs->Same H1 H->(∀H',Same H H'->R (p x) H')->tt (some x::fr) H R)
  (he:∀x H R,x∈xs->p x=true->Same H1 H->(∀H',Same H H'->R (f x) H')->te (some x::fr) H R)
  (hd:∀H',Same H1 H'->H' D=some (.lst ((xs.filter p).map f))->QD H'):
  ∃W:Nat->Nat->List V->Hp->Prop,(∃m,W 0 m [] (upd H1 D (.lst [])))/\∀i m ys H2,W i m ys H2->H2 D=some (.lst ys)/\
   ((J.stop i H2/\QD H2)\/(J.go i H2/\∀x H3,J.yld i H2 x H3->∀pre:St,pre.length=1->ZBg 0 x (pre++fr) H3 λZ4 H4=>(∃pre':St,pre'.length=1/\Z4=pre'++fr)/\
    tt Z4 H4 λb H5=>if b=true then te Z4 H5 (λy H6=>H6 D=some (.lst ys)/\ys.length<sizeLine/\∃m',m'<m/\W (i+1) m' (ys++ [y]) (upd H6 D (.lst (ys++ [y])))) else∃m',m'<m/\W (i+1) m' ys H5)):=by
 refine⟨λi m ys H2=>m=xs.length-i/\i<=xs.length/\ys=((xs.take i).filter p).map f/\H2 D=some (.lst ys)/\Same H1 H2,⟨xs.length,by simp,Aq _,by simp,ZAB,Same.new hD _⟩,?_⟩
 rintro i m ys H2 ⟨rfl,hi,rfl,hD2,sm⟩
 refine⟨hD2,?_⟩
 by_cases hlt:i<xs.length
 ·refine .inr ⟨T.go H2 i sm hlt,λx H3 y pre hpre=>?_⟩
  obtain⟨rfl,hx⟩:=T.yld H2 i x H3 sm y
  obtain⟨v0,rfl⟩:∃v0,pre= [v0]:=by
   cases pre with
   |nil=>simp at hpre
   |cons v r=>cases r with
    |nil=>exact⟨v,rfl⟩
    |cons _ _=>simp at hpre
  have hm:=Az hx
  refine⟨⟨[some x],rfl,rfl⟩,?_⟩
  refine ht x H3 _ hm sm λH5 s5=>?_
  have htk:(xs.take (i+1)).filter p=(xs.take i).filter p++(if p x=true then[x] else[]):=by
   rw[BG,hx,Cb]
   cases hp:p x<;>simp[hp]
  cases hp:p x with
  |false=>
   simp only[Am,if_false]
   rw[hp] at htk
   simp only[Am,if_false,A5] at htk
   exact⟨xs.length-(i+1),by lia,rfl,hlt,by rw[htk],s5 _ _ hD2,sm.trans s5⟩
  |true=>
   simp only[if_true]
   rw[hp] at htk
   simp only[if_true] at htk
   refine he x H5 _ hm hp (sm.trans s5) λH6 s6=>?_
   have hl:(((xs.take i).filter p).map f).length<=i:=by
    rw[AA]
    refine As (Ap _ _) ?_
    rw[Ax];lia
   refine⟨s6 _ _ (s5 _ _ hD2),by lia,xs.length-(i+1),by lia,rfl,hlt,?_,ZAB,?_⟩
   ·rw[htk,AX];rfl
   ·intro b o e
    have hb:b≠D:=ZAJ e hD
    rw[ZAN hb]
    exact s6 _ _ (s5 _ _ (sm _ _ e))
 ·have e:i=xs.length:=by lia
  subst e
  rw[Bd] at hD2
  exact .inl ⟨T.stop H2 sm,hd H2 sm hD2⟩
end L2
namespace HT
open PySem PySem.Spec PyProof.Rows PySem.Builtin
section
variable {prog:E7}{w:FA}{A:FC}{E:E2->E4->Prop}{s:E4}
end
end HT
namespace L2
open PySem PySem.Spec PyProof.Rows
section
variable {X:Cx}
end
theorem ZKQ (n d:Nat)(k:Nat):HT.sIx n d (some (k:Int))=min k n:=by
 show(if((k:Int))<0 then(((k:Int))+(n:Int)).toNat else min ((k:Int)).toNat n)=_
 rw[if_neg (by lia)]
 simp
theorem ZLf (xs:List V)(k:Nat):cutV xs none (some (k:Int))=xs.take k:=by
 unfold cutV
 rw[ZKQ]
 show(xs.drop 0).take (min k xs.length-0)=_
 rw[List.drop_zero,Nat.sub_zero]
 by_cases h:k<=xs.length
 ·rw[Nat.min_eq_left h]
 ·rw[Nat.min_eq_right (by lia),Bd,BH (by lia)]
theorem ZEH (xs:List V)(k:Nat):cutV xs (some (k:Int)) none=xs.drop k:=by
 unfold cutV
 rw[ZKQ]
 show(xs.drop (min k xs.length)).take (xs.length-min k xs.length)=_
 rw[BH (by rw[Bl];exact AK _)]
 by_cases h:k<=xs.length
 ·rw[Nat.min_eq_left h]
 ·rw[Nat.min_eq_right (by lia),List.drop_length,DW (by lia)]
section
variable {X:Cx}
variable {e:FD}{es:List FD}{te:TE}{t:TA}{tg:FD}
end
section
variable {X:Cx}
theorem ZDB {ix:Nat}{yn:E3}{py spos:Pos}{elt iter target:FD}{ifs:List FD}{xs ys:List E3}{js:List Nat}{pos:Pos}{scope:F0}{wi:TI}{g:TG}{tt:TT}{te:TE}(hc:X.calm=true)
  (hfree:∀nk∈scope.names,nk.2= .free->nk.1∈ys) (hcell:∀nk∈scope.names,nk.2≠ .cell) (hkind:scope.kind= .function)
  (hnames:∀nk∈scope.names,nk.2= .local->scope.names.lookup nk.1=some .local) (hfo:ZFn X scope ys js)
  (hi:PI X target iter wi) (hg:∀cl C s H fp,PG (cxCF X scope cl (xs++ys) C s H fp) target g) (ht:∀cl C s H fp,PTs (cxCF X scope cl (xs++ys) C s H fp) ifs tt)
  (he:∀cl C s H fp,PE (cxCF X scope cl (xs++ys) C s H fp) elt te)
  (hN:X.N.Nodup) (hix:X.N[ix]?=some yn) (hyn:Loc X.env.scope yn)
  (hs:∀v,foldedSetIterable iter X.env v=pure v:=by intro _;rfl) (hsw:swapsWith (.ListComp elt [⟨target,iter,ifs,0⟩] scope pos) (some (.Name yn py)) spos.line X.env=pure true:=by rfl)
  (hf:X.fn yn=true\/X.env.scope.names.lookup yn=some .local:=by first|exact .inl rfl|exact .inr rfl|assumption):
  PS X (.Assign [.Name yn py] (.ListComp elt [⟨target,iter,ifs,0⟩] scope pos) spos) (tAsg (ZE7 wi g xs.length js tt te) (ZBg ix)):=by
 intro pins s Z H D0 I h
 obtain⟨Q,hQ⟩:∃Q:VK,Q=λx H1=>ZBg ix x Z H1 D0.nx:=⟨_,rfl⟩
 have h:ZE7 wi g xs.length js tt te Z H Q:=by rw[hQ];exact h
 obtain⟨ylen,yat⟩:=hfo.at
 have hkd:∀nk∈scope.names,nk.2= .free->X.env.kindOf nk.1=some .cell\/X.env.kindOf nk.1=some .free:=λnk hnk hf=>by
  obtain⟨k,hk,e⟩:=B3.mp (hfree nk hnk hf)
  obtain⟨_,_,_,hk2,_⟩:=yat k nk.1 (by rw[AG hk,e])
  exact hk2
 obtain⟨cl,hclos,hsub,hhas⟩:=ZFW (scope:=scope) (env:=X.env) λnk hnk hf=>I.ok.has _ (hkd nk hnk hf)
 rw[exec_Assign_Name_used _ _ _ _ hsw]
 refine Ey (Ge (Ey ?_))
 show E6 _ X.A (do let _<-comprehension (.ListComp elt [⟨target,iter,ifs,0⟩] scope pos) scope X.env _ (newList []) false (eval iter X.env) (some (assign (.Name yn py) X.env))) _ _ s
 refine Ey (FE (Gi (use:=some (assign (.Name yn py) X.env)) (Q:=λ_ s'=>SP X pins D0 .next s') rfl hs hclos hkind hnames (thn (hi pins s Z H _ I h) λv s1 h1=>thn h1 λitv s2 h2=>?_)) (λ_ s' hq=>E5 (E5 hq)) λ_ _ e=>e)
 obtain⟨it,fp,tn,J,H2,e,I2,T,st2,f2,hR⟩:=h2
 subst e
 have hD0:H2 s2.heap.objs.size=none:=I2.fresh
 obtain⟨W,⟨m0,w0⟩,turnW⟩:=hR _ hD0
 have I3:Inv X pins Z (upd H2 s2.heap.objs.size (.lst [])) {s2 with heap:=s2.heap.push {cls:= .type "list",data:= .seq ([]:List E2).toArray}}:=I2.lnew (t':=s2.toks) .nil (Aq _)
 refine FH (GV hcell (λnk hnk=>by simp at hnk) (λh₁ hns₁ hsb₁=>?_) hkind)
 dsimp only at hns₁ hsb₁ ⊢
 generalize hs3:({s2 with heap:=s2.heap.push {cls:= .type "list",data:= .seq ([]:List E2).toArray}}:E4)=s3 at I3
 have eh3:s3.heap=s2.heap.push {cls:= .type "list",data:= .seq ([]:List E2).toArray}:=by rw[<-hs3]
 have hC:s3.heap.objs.size=s2.heap.objs.size+1:=by rw[eh3,BE]
 have old:∀b o,s3.heap.get? b=some o->h₁.get? b=some o:=λb o e=>by
  have hb:b≠s3.heap.objs.size:=AV (AI e)
  rw[eh3] at e hb
  exact hsb₁.extBut b o hb (AC _ e)
 have fpl:∀b∈fp,b<s2.heap.objs.size:=λb hb=>let⟨o,e,_⟩:=T.obj _ _ st2 b hb;AI e
 have fps:∀b∈fp,b∉frs X.stack:=λb hb z=>(AQ.mp (I2.stkSub b z)).elim (f2 b hb).2.1 (f2 b hb).2.2.1
 have fpc:∀b∈fp,∀y c,cl.lookup y=some c->c≠b:=λb hb y c e=>(f2 b hb).2.2.2.2.1 y c (hsub y c e)
 have cne:∀y c,cl.lookup y=some c->c≠s3.heap.objs.size:=λy c e z=>by
  obtain⟨v,q⟩:=I3.cell y c (hsub y c e)
  exact absurd q.lt (by rw[z];exact BM _)
 let X':Cx:=cxCF X scope cl (xs++ys) s3.heap.objs.size s3 (upd H2 s2.heap.objs.size (.lst [])) fp
 have okX:X'.Ok:=by
  refine⟨I2.ok.mod,hkind,I2.ok.glob,I2.ok.blt,AK _,λy z c e1 e2=>I2.ok.inj y z c (hsub _ _ e1) (hsub _ _ e2),λy hy=>hhas y (ZET hcell hy),λy c z _=>absurd z (by simp[X',cxCF]),I2.ok.hd,I2.ok.frames,.inl rfl,λb hb=>⟨?_,λy c e=>fpc b hb y c e⟩,
   I3.bs,As I3.ok.bsz I3.sz,λb o e hb=>?_,fps,I3.stack,I3.stkFree⟩
  ·exact AV (Af (fpl b hb) (by show s2.heap.objs.size<=s3.heap.objs.size;rw[hC];exact CI _))
  ·rcases(f2 b hb).2.2.2.1 with z|z
   ·exact I2.ok.noex b o e z
   ·exact absurd (Af (AI (I2.ok.bs b o e).1) z) (BM _)
 have stat:∀{H':Hp},(∀b∈fp,H' b=none)->∀b∈fp,FpOk X' [] H' b:=λhn b hb=>by
  refine⟨hn b hb,?_,fps b hb,.inl hb,λy c e=>fpc b hb y c e,λp hp=>absurd (show p∈([]:List (Ez×FF)) from hp) (by simp)⟩
  exact AV (Af (fpl b hb) (by show s2.heap.objs.size<=s3.heap.objs.size;rw[hC];exact CI _))
 have I4:∀tk:Nat,Inv X' [] (Ck xs.length none++frOf Z js) (upd H2 s2.heap.objs.size (.lst [])) {s3 with heap:=h₁,toks:=tk}:=λtk=>by
  refine⟨okX,rfl,I3.bare,Un.kept old,⟨_,by rw[<-eh3] at hns₁;exact hns₁,λi y v e1 e2 _=>?_⟩,λy c e=>let⟨v,q⟩:=I3.cell y c (hsub y c e);let⟨o,q1,q2⟩:=q;⟨v,o,old c o q1,q2⟩,I3.hok.fresh (AK _),λy c e=>I3.freeC y c (hsub y c e),λp hp=>absurd (show p∈([]:List (Ez×FF)) from hp) (by simp),I3.hok.kept old,by simp[X',cxCF,frOf,ylen]⟩
  by_cases hlt:i<xs.length
  ·rw[CP (by simpa using hlt),DM,if_pos hlt] at e2
   cases e2
  ·have hge:xs.length<=i:=DQ hlt
   have e1':(xs++ys)[i]?=some y:=e1
   rw[B0 hge] at e1'
   rw[B0 (by simpa using hge),Dc] at e2
   obtain⟨j,hj,hN,hk,hfr⟩:=yat _ y e1'
   have e3:(Z[j]?).join=some v:=by
    unfold frOf at e2
    rw[AS,hj] at e2
    exact Aj e2
   have e4:Z[j]?=some (some v):=by
    cases q:Z[j]? with
    |none=>rw[q] at e3;cases e3
    |some w=>rw[q] at e3;have:w=some v:=e3;rw[this]
   obtain⟨m3,_,hl3⟩:=I3.loc
   obtain⟨u,ru,lk⟩:=hl3 j y v hN e4 (by rcases hk with z|z;exact .inr (.inl z);exact .inr (.inr z))
   refine⟨u,ru,.inr ⟨ZDa hfr,?_⟩⟩
   rcases lk with⟨z,_⟩|⟨_,c,hc1,hc2⟩
   ·rcases hk with z2|z2<;>rw[z] at z2<;>cases z2
   ·obtain⟨c',hc'⟩:=hhas y hfr
    have:c'=c:=by have:=hsub y c' hc';rw[hc1] at this;exact(Aj this).symm
    subst this
    obtain⟨o,q1,q2⟩:=hc2
    exact⟨c',hc',o,old c' o q1,q2⟩
 have fr0:∀b∈fp,(upd H2 s2.heap.objs.size (.lst []):Hp) b=none:=λb hb=>by rw[ZAN (AV (fpl b hb))];exact(f2 b hb).1
 have st4:tn 0 h₁:=T.keep 0 _ _ st2 λb hb o e=>old b o (by rw[eh3];exact AC _ e)
 have fin:∀{Z5:St} {H':Hp} {s5:E4} {h':E9},Inv X' [] Z5 H' s5->Heap.SameBut s3.heap.objs.size s5.heap h'->Inv X pins Z H' {s5 with heap:=h'}:=by
  intro Z5 H' s5 h' I5 sb
  obtain⟨hh,gg,d,t,os'⟩:=s5
  have eo:os'=s3.os:=I5.os
  subst eo
  have keepC:∀b o,b≠s3.heap.objs.size->hh.get? b=some o->h'.get? b=some o:=λb o hb e=>sb.extBut b o hb e
  have ne3:∀b o,s3.heap.get? b=some o->b≠s3.heap.objs.size:=λb o e=>AV (AI e)
  have u:Un (frs X.stack) fp (upd H2 s2.heap.objs.size (.lst [])) H' s3.heap hh:=I5.base
  have un:Un (frs X.stack) fp (upd H2 s2.heap.objs.size (.lst [])) H' s3.heap h':=
   ⟨λb o e n hb hx=>keepC b o (ne3 b o e) (u.keep b o e n hb hx),λb o e n hb hx=>let⟨sl,q⟩:=u.slot b o e n hb hx;⟨sl,keepC b _ (ne3 b o e) q⟩,u.free,λb o e hx=>let⟨o',q⟩:=u.there b o e hx;⟨o',keepC b o' (ne3 b o e) q⟩,u.tups,u.frzs,u.tbls⟩
  have hfree':H' s3.heap.objs.size=none:=I5.free
  have hok':HOk X.prog X.w H' h':=λb u e=>by
   refine(I5.hok b u e).stay (λc v hc q=>keepC c v ?_ q) (λ_ q=>q) λ_ _ q=>q
   rcases hc with z|z
   ·rw[z];intro z2;rw[z2,hfree'] at e;cases e
   ·intro z2;rw[z2,hfree'] at z;cases z
  have J:=I3.call (h':=h') (g':=gg) (d':=d) (t':=t) (ch:=fp) un hok' I5.bare (λb hb=>let⟨_,h1,_,h2,h3,h4⟩:=f2 b hb;⟨h2,h1,h3,h4⟩)
  exact J
 have loop:∀s4:E4,(∃tk,s4={s3 with heap:=h₁,toks:=tk})->
   Fj (model X.prog X.w) X.A (.compLoop (.ListComp elt [⟨target,iter,ifs,0⟩] scope pos) 0 (.ref it) (.ref s2.heap.objs.size) X'.env)
    (compPost (model X.prog X.w) X.A X.xe (some (assign (.Name yn py) X.env)) (λ_ s'=>SP X pins D0 .next s') (.ref s2.heap.objs.size) s3.heap.objs.size) s4:=by
  rintro s4 ⟨tk,rfl⟩
  refine ZFV (λn s'=>∃i ys' pre H',Inv X' [] (pre++frOf Z js) H' s'/\pre.length=xs.length/\tn i s'.heap/\(∀b∈fp,H' b=none)/\W i n ys' H') ?_ m0 ⟨0,[],Ck xs.length none,_,I4 tk,by simp,st4,fr0,w0⟩
  rintro n s5 ⟨i,ys',pre,H5,I5,hpre,st5,fr5,w5⟩
  obtain⟨hD5,⟨js5,q⟩|⟨jg,step⟩⟩:=turnW i n ys' H5 w5
  ·refine FE (T.done X' rfl rfl rfl hc i [] s5 _ H5 (λ_ _=>False) I5 (stat fr5) st5 js5) (λr s6 hr=>?_) λ_ _ z=>z.elim
   obtain⟨rfl,I6⟩:=hr
   obtain⟨m,hn,_⟩:=I6.loc
   have J6:Inv X pins Z H5 s6:=fin I6 (C4 _ _)
   have fpC:FpOk X pins H5 s3.heap.objs.size:=I3.fpOk (AK _) I6.free
   obtain⟨oC,esC,epC,goC,gdC,restC⟩:=id hn
   have J7:=J6.pinned (fp:= [s3.heap.objs.size]) (λb hb=>by rw[AF.mp hb];exact fpC) (λb hb=>by rw[AF.mp hb];exact⟨oC,goC,λv z=>by rw[gdC] at z;cases z⟩)
   show E6 _ X.A (assign (.Name yn py) X.env (.ref s2.heap.objs.size)) _ _ s6
   refine FE (ZAK (X:=X) (pos:=py) (i:=ix) hN hix hyn hf _ s6 Z H5 (.ref s2.heap.objs.size) (.ref s2.heap.objs.size) (λZ' H''=>Z'=Z.set ix (some (.ref s2.heap.objs.size))/\H''=H5) J7 rfl ⟨rfl,rfl⟩) (λ_ s7 h7=>?_) λ_ _ z=>z
   obtain⟨Z7,H7,I7,rfl,rfl⟩:=h7
   have g7:s7.heap.get? s3.heap.objs.size=some oC:=(I7.pin (s3.heap.objs.size,oC) (AU _ (AU _ (ZAf (AF.mpr rfl) goC)))).1
   refine⟨m,⟨oC,esC,epC,g7,gdC,restC⟩,λh'' sb=>⟨_,_,I7.unpinned.turned (t':=s7.toks) (λb o hb e=>sb.extBut b o hb e) fpC.1 fpC.2.1 fpC.2.2.2.1 fpC.2.2.2.2.1 fpC.2.2.2.2.2,?_⟩⟩
   rw[hQ] at q
   exact q
  ·refine FE (T.item X' rfl rfl rfl hc i [] s5 _ H5 (λ_ _=>False) I5 (stat fr5) st5 jg) (λr s6 hr=>?_) λ_ _ z=>z.elim
   obtain⟨u,rfl,h6⟩:=hr
   refine FE h6 (λ_ s7 h7=>?_) λ_ _ z=>z.elim
   obtain⟨xv,H7,I7,r7,y7,st7,fr7⟩:=h7
   have I7':=I7.pinned (stat fr7) (T.obj _ _ st7)
   refine FE (hg cl s3.heap.objs.size s3 (upd H2 s2.heap.objs.size (.lst [])) fp _ s7 _ H7 xv u _ I7' r7 (step xv H7 y7 pre hpre)) (λ_ s8 h8=>?_) λ_ _ z=>z.elim
   obtain⟨Z8,H8,I8,⟨pre',hpre',e8⟩,q8⟩:=h8
   subst e8
   refine FE (ht cl s3.heap.objs.size s3 (upd H2 s2.heap.objs.size (.lst [])) fp _ s8 _ H8 _ I8 q8) (λok s9 h9=>?_) λ_ _ z=>z.elim
   obtain⟨H9,I9,q9⟩:=h9
   have stay:∀{H':Hp} {s':E4},Inv X' ([]++ZFJ fp s7.heap) (pre'++frOf Z js) H' s'->tn (i+1) s'.heap/\∀b∈fp,H' b=none:=λ{H' s'} I'=>by
    refine⟨T.keep _ _ _ st7 λb hb o e=>(I'.pin (b,o) (AU _ (AU _ (ZAf hb e)))).1,λb hb=>?_⟩
    obtain⟨o,e,d⟩:=T.obj _ _ st7 b hb
    exact(I'.pin (b,o) (AU _ (AU _ (ZAf hb e)))).2.1
   cases ok with
   |false=>
    obtain⟨m',lt,w9⟩:=(show∃m',m'<n/\W (i+1) m' ys' H9 by simpa using q9)
    obtain⟨k1,k2⟩:=stay I9
    exact⟨m',lt,i+1,ys',pre',H9,I9.unpinned,hpre',k1,k2,w9⟩
   |true=>
    have q9':te (pre'++frOf Z js) H9 (λy H6=>H6 s2.heap.objs.size=some (.lst ys')/\ys'.length<sizeLine/\∃m',m'<n/\W (i+1) m' (ys'++ [y]) (upd H6 s2.heap.objs.size (.lst (ys'++ [y])))):=by simpa using q9
    refine FE (he cl s3.heap.objs.size s3 (upd H2 s2.heap.objs.size (.lst [])) fp _ s9 _ H9 _ I9 q9') (λy s10 h10=>?_) λ_ _ z=>z.elim
    obtain⟨yv,H10,I10,r10,hD10,hl10,m',lt,w10⟩:=h10
    refine FE (ZBe (X:=X') _ s10 _ H10 (.ref s2.heap.objs.size) [yv] (.ref s2.heap.objs.size) [y] (λ_ H'=>H'=upd H10 s2.heap.objs.size (.lst (ys'++ [yv]))) I10 rfl (.cons r10 .nil) ⟨_,ys',yv,rfl,rfl,hD10,hl10,rfl⟩) (λ_ s11 h11=>?_) λ_ _ z=>z.elim
    obtain⟨_,H11,I11,_,rfl⟩:=h11
    obtain⟨k1,k2⟩:=stay I11
    exact⟨m',lt,i+1,ys'++ [yv],pre',_,I11.unpinned,hpre',k1,k2,w10⟩
 have L:=loop {s3 with heap:=h₁,toks:=s2.toks+([]:List (E3×E2)).length} ⟨_,rfl⟩
 subst hs3
 exact GP L (T.self _ 0 _ _ _ st4 L)
end
inductive Dat where
 |non
 |int (i:Int)
 |str (x:E3)
 |tup (ds:List Dat)
mutual
def Dat.beq:Dat->Dat->Bool
 | .non,.non=>true
 | .int i,.int j=>i==j
 | .str x,.str y=>x==y
 | .tup ds,.tup es=>Dat.beqs ds es
 |_,_=>false
def Dat.beqs:List Dat->List Dat->Bool
 | [],[]=>true
 |d::ds,e::es=>Dat.beq d e&&Dat.beqs ds es
 |_,_=>false
end
mutual
def Dat.deep:Dat->Nat
 | .tup ds=>Dat.deeps ds+1
 |_=>0
def Dat.deeps:List Dat->Nat
 | []=>0
 |d::ds=>max (Dat.deep d) (Dat.deeps ds)
end
mutual
def ZAZ (K:AB)(H:Hp):Dat->V->Prop
 | .non,x=>x= .non
 | .int i,x=>x= .int i
 | .str z,x=>x= .str z
 | .tup ds,x=>∃a xs,x= .ref a/\SqT K H a xs/\ZAr K H ds xs
def ZAr (K:AB)(H:Hp):List Dat->List V->Prop
 | [],xs=>xs= []
 |d::ds,xs=>∃y ys,xs=y::ys/\ZAZ K H d y/\ZAr K H ds ys
end
mutual
theorem ZAZ.same {K:AB}{H H':Hp}(s:Same H H'):∀{d:Dat} {x:V},ZAZ K H d x->ZAZ K H' d x
 | .non,_,h=>h
 | .int _,_,h=>h
 | .str _,_,h=>h
 | .tup _,_,⟨a,xs,e,hq,hs⟩=>⟨a,xs,e,s.tup hq,ZAr.same s hs⟩
theorem ZAr.same {K:AB}{H H':Hp}(s:Same H H'):∀{ds:List Dat} {xs:List V},ZAr K H ds xs->ZAr K H' ds xs
 | [],_,h=>h
 |_::_,_,⟨y,ys,e,h1,h2⟩=>⟨y,ys,e,ZAZ.same s h1,ZAr.same s h2⟩
end
theorem ZAr.length {K:AB}{H:Hp}:∀{ds:List Dat} {xs:List V},ZAr K H ds xs->xs.length=ds.length
 | [],_,h=>by rw[show _= [] from h];rfl
 |_::_,_,⟨y,ys,e,_,h2⟩=>by rw[e,Ac,Ac,ZAr.length h2]
theorem ZAr.get {K:AB}{H:Hp}:∀{ds:List Dat} {xs:List V} {j:Nat} {d:Dat},ZAr K H ds xs->ds[j]?=some d->∃x,xs[j]?=some x/\ZAZ K H d x
 | [],_,_,_,_,e=>by simp at e
 |d::ds,_,j,d',⟨y,ys,e,h1,h2⟩,he=>by
  subst e
  cases j with
  |zero=>simp at he;subst he;exact⟨y,rfl,h1⟩
  |succ j=>simpa using ZAr.get h2 (by simpa using he)
theorem ZEn:∀{ds:List Dat} {d:Dat},d∈ds->Dat.deep d<=Dat.deeps ds
 |d'::ds,d,h=>by
  show _<=max _ _
  rcases AQ.mp h with rfl|h
  ·exact Nat.le_max_left _ _
  ·exact As (ZEn h) (Nat.le_max_right _ _)
theorem ZEI:∀(ds es:List Dat),Dat.beqs ds es=((Av (min ds.length es.length)).all (λj=>Dat.beq (ds.getD j .non) (es.getD j .non))&&ds.length==es.length)
 | [],[]=>by simp[Dat.beqs]
 | [],e::es=>by simp[Dat.beqs]
 |d::ds,[]=>by simp[Dat.beqs]
 |d::ds,e::es=>by
  have ih:=ZEI ds es
  have hm:min (d::ds).length (e::es).length=min ds.length es.length+1:=by simp only[Ac];lia
  rw[hm,DU,List.all_cons,List.all_map]
  show(Dat.beq d e&&Dat.beqs ds es)=_
  rw[ih]
  simp only[Ac,List.getD_cons_zero,Function.comp_def,Ek,Nat.add_right_cancel_iff,Bool.and_assoc]
  congr 2
  by_cases h:ds.length=es.length<;>simp[h]
mutual
theorem ZNI:∀d:Dat,Dat.beq d d=true
 | .non=>rfl
 | .int _=>by simp[Dat.beq]
 | .str _=>by simp[Dat.beq]
 | .tup ds=>ZB2 ds
theorem ZB2:∀ds:List Dat,Dat.beqs ds ds=true
 | []=>rfl
 |d::ds=>by show(Dat.beq d d&&Dat.beqs ds ds)=true;rw[ZNI d,ZB2 ds];rfl
end
section
variable {X:Cx}{pins:List (Ez×FF)}{Z:St}{H:Hp}{s:E4}
mutual
theorem ZO5 (I:Inv X pins Z H s):∀{d e:Dat} {x:V},ZAZ X.K H d x->ZAZ X.K H e x->Dat.beq d e=true
 | .non,.non,_,_,_=>rfl
 | .int i,.int j,_,h1,h2=>by
  have:V.int i=V.int j:=(show _=V.int i from h1).symm.trans h2
  injection this with this
  simp[Dat.beq,this]
 | .str i,.str j,_,h1,h2=>by
  have:V.str i=V.str j:=(show _=V.str i from h1).symm.trans h2
  injection this with this
  simp[Dat.beq,this]
 | .tup ds,.tup es,_,⟨a,xs,e1,q1,h1⟩,⟨b,ys,e2,q2,h2⟩=>by
  have e:V.ref a=V.ref b:=e1.symm.trans e2
  injection e with e
  subst e
  have:=I.tuple_inj q1 q2
  subst this
  exact ZGT I h1 h2
 | .non,.int j,_,h1,h2=>by have:V.non=V.int j:=(show _=V.non from h1).symm.trans h2;cases this
 | .non,.str j,_,h1,h2=>by have:V.non=V.str j:=(show _=V.non from h1).symm.trans h2;cases this
 | .non,.tup es,_,h1,⟨b,ys,e2,_⟩=>by have:V.non=V.ref b:=(show _=V.non from h1).symm.trans e2;cases this
 | .int i,.non,_,h1,h2=>by have:V.int i=V.non:=(show _=V.int i from h1).symm.trans h2;cases this
 | .int i,.str j,_,h1,h2=>by have:V.int i=V.str j:=(show _=V.int i from h1).symm.trans h2;cases this
 | .int i,.tup es,_,h1,⟨b,ys,e2,_⟩=>by have:V.int i=V.ref b:=(show _=V.int i from h1).symm.trans e2;cases this
 | .str i,.non,_,h1,h2=>by have:V.str i=V.non:=(show _=V.str i from h1).symm.trans h2;cases this
 | .str i,.int j,_,h1,h2=>by have:V.str i=V.int j:=(show _=V.str i from h1).symm.trans h2;cases this
 | .str i,.tup es,_,h1,⟨b,ys,e2,_⟩=>by have:V.str i=V.ref b:=(show _=V.str i from h1).symm.trans e2;cases this
 | .tup ds,.non,_,⟨a,xs,e1,_⟩,h2=>by have:V.ref a=V.non:=e1.symm.trans h2;cases this
 | .tup ds,.int j,_,⟨a,xs,e1,_⟩,h2=>by have:V.ref a=V.int j:=e1.symm.trans h2;cases this
 | .tup ds,.str j,_,⟨a,xs,e1,_⟩,h2=>by have:V.ref a=V.str j:=e1.symm.trans h2;cases this
theorem ZGT (I:Inv X pins Z H s):∀{ds es:List Dat} {xs:List V},ZAr X.K H ds xs->ZAr X.K H es xs->Dat.beqs ds es=true
 | [],[],_,_,_=>rfl
 | [],e::es,_,h1,⟨y,ys,e2,_⟩=>by have:([]:List V)=y::ys:=(show _= [] from h1).symm.trans e2;cases this
 |d::ds,[],_,⟨y,ys,e1,_⟩,h2=>by have:y::ys=([]:List V):=e1.symm.trans h2;cases this
 |d::ds,e::es,_,⟨y,ys,e1,a1,b1⟩,⟨z,zs,e2,a2,b2⟩=>by
  have e':y::ys=z::zs:=e1.symm.trans e2
  injection e' with h1 h2
  subst h1 h2
  show(Dat.beq d e&&Dat.beqs ds es)=true
  rw[ZO5 I a1 a2,ZGT I b1 b2]
  rfl
end
theorem ZCj {A:FC}{ds:List Dat}{xs:List V}{its:List E2}{j:Nat}(h:ZAr X.K H ds xs)(r:Vals xs its)(hj:j<its.toArray.size):
  ∃x,ZAZ X.K H (ds.getD j .non) x/\RelV x its.toArray[j]/\ds.getD j .non∈ds:=by
 have hl:=h.length
 have hr:=r.length
 have hj':j<its.length:=by simpa using hj
 have hd:j<ds.length:=by lia
 have e:ds[j]?=some (ds.getD j .non):=by rw[AT,AG hd];rfl
 obtain⟨x,hx,hi⟩:=h.get e
 obtain⟨u,hu,ru⟩:=r.get hx
 refine⟨x,hi,?_,Az e⟩
 have:its.toArray[j]=u:=by
  rw[AG hj'] at hu
  have:=Aj hu
  simpa using this
 rw[this]
 exact ru
theorem ZDK (I:Inv X pins Z H s):∀(n:Nat) (A:FC) {d e:Dat} {x y:V} {u v:E2},Dat.deep d<=n->A.units+n<cLine->ZAZ X.K H d x->ZAZ X.K H e y->RelV x u->RelV y v->SeqAt.EqAt A s u v (Dat.beq d e):=by
 intro n
 induction n with
 |zero=>
  intro A d e x y u v hn hu hd he rx ry
  cases d with
  |tup ds=>exact absurd hn (by simp[Dat.deep])
  |non=>
   cases(show x= .non from hd)
   cases e with
   |non=>cases(show y= .non from he);exact ZDH rx ry rfl rfl
   |int j=>cases(show y= .int j from he);exact ZDH rx ry rfl rfl
   |str j=>cases(show y= .str j from he);exact ZDH rx ry rfl rfl
   |tup es=>
    obtain⟨b,ys,rfl,q2,_⟩:=he
    obtain⟨its2,r2,p2,_⟩:=I.tuple q2
    cases rx;cases ry
    exact SeqAt.EqAt.none_tuple p2 (by lia)
  |int i=>
   cases(show x= .int i from hd)
   cases e with
   |non=>cases(show y= .non from he);exact ZDH rx ry rfl rfl
   |int j=>cases(show y= .int j from he);exact ZDH rx ry rfl rfl
   |str j=>cases(show y= .str j from he);exact ZDH rx ry rfl rfl
   |tup es=>
    obtain⟨b,ys,rfl,q2,_⟩:=he
    obtain⟨its2,r2,p2,_⟩:=I.tuple q2
    obtain⟨t,rfl⟩:=rx;cases ry
    exact SeqAt.EqAt.int_tuple i t p2 (by lia)
  |str i=>
   cases(show x= .str i from hd)
   cases e with
   |non=>cases(show y= .non from he);exact ZDH rx ry rfl rfl
   |int j=>cases(show y= .int j from he);exact ZDH rx ry rfl rfl
   |str j=>cases(show y= .str j from he);exact ZDH rx ry rfl rfl
   |tup es=>
    obtain⟨b,ys,rfl,q2,_⟩:=he
    obtain⟨its2,r2,p2,_⟩:=I.tuple q2
    obtain⟨t,rfl⟩:=rx;cases ry
    exact SeqAt.EqAt.str_tuple i t p2 (by lia)
 |succ n ih=>
  intro A d e x y u v hn hu hd he rx ry
  cases d with
  |non=>exact ih A (Aq _) (by lia) hd he rx ry
  |int i=>exact ih A (Aq _) (by lia) hd he rx ry
  |str i=>exact ih A (Aq _) (by lia) hd he rx ry
  |tup ds=>
   obtain⟨a,xs,rfl,q1,h1⟩:=hd
   obtain⟨its,r1,p1,_⟩:=I.tuple q1
   cases rx
   cases e with
   |non=>cases(show y= .non from he);cases ry;exact SeqAt.EqAt.tuple_none p1 (by lia)
   |int j=>cases(show y= .int j from he);obtain⟨t,rfl⟩:=ry;exact SeqAt.EqAt.tuple_int j t p1 (by lia)
   |str j=>cases(show y= .str j from he);obtain⟨t,rfl⟩:=ry;exact SeqAt.EqAt.tuple_str j t p1 (by lia)
   |tup es=>
    obtain⟨b,ys,rfl,q2,h2⟩:=he
    obtain⟨its2,r2,p2,_⟩:=I.tuple q2
    cases ry
    by_cases hab:a=b
    ·subst hab
     have:=I.tuple_inj q1 q2
     subst this
     have e:Dat.beq (.tup ds) (.tup es)=true:=ZGT I h1 h2
     rw[e]
     exact SeqAt.EqAt.same _
    ·have l1:=h1.length
     have l2:=h2.length
     have s1:its.toArray.size=ds.length:=by rw[AO,<-r1.length,l1]
     have s2:its2.toArray.size=es.length:=by rw[AO,<-r2.length,l2]
     have key:=SeqAt.RcAt.tuples (e:=λj=>Dat.beq (ds.getD j .non) (es.getD j .non)) p1 p2 (by lia:A.units<cLine) λj j1 j2=>by
      obtain⟨x',d1,rx',m1⟩:=ZCj (A:=A) h1 r1 j1
      obtain⟨y',d2,ry',_⟩:=ZCj (A:=A) h2 r2 j2
      have hdp:Dat.deep (ds.getD j .non)<=n:=by
       have h3:=ZEn m1
       have h4:Dat.deeps ds+1<=n+1:=hn
       lia
      exact ih A.in1 hdp (by show A.units+1+n<cLine;lia) d1 d2 rx' ry'
     rw[s1,s2,<-ZEI] at key
     exact SeqAt.EqAt.of_refs hab key
end
end L2
namespace HL
open PySem PySem.SeqAt
open AutoSeq1 (wpAny_loadPart')
open MeetsSeq MeetsSeq2 MeetsSeq3
def LtAt (A:FC)(s:E4)(y x:E2)(b:Bool):Prop:=
 ∀(prog:E7) (w:FA) (E:E2->E4->Prop) (Q:E2->E4->Prop),Q (.bool b) s->E6 (model prog w) A (richCompare .Lt y x) Q E s
def lexB (e g:Nat->Bool)(fin:Bool):List Nat->Bool
 | []=>fin
 |j::r=>if e j=true then lexB e g fin r else g j
theorem ZJR (p q:Ez)(xs ys:Array E2)(n n2:Nat)(dp dq:Option Ez)(sp sq:Array (Option E2))(e g:Nat->Bool):
  Meets (Builtin.«tuple.__lt__» ⟨[.ref p,.ref q],[]⟩)
   (λA R s=>s.heap.get? p=some {cls:= .type "tuple",dict:=dp,data:= .seq xs n,slots:=sp}/\s.heap.get? q=some {cls:= .type "tuple",dict:=dq,data:= .seq ys n2,slots:=sq}/\
    (∀j (h1:j<xs.size) (h2:j<ys.size),EqAt A.in1 s xs[j] ys[j] (e j))/\(∀j (h1:j<xs.size) (h2:j<ys.size),e j=false->LtAt A.in1 s xs[j] ys[j] (g j))/\
    R (.ok (.ret (.bool (lexB e g (decide (xs.size<ys.size)) (Av (min xs.size ys.size)))))) s):=
 .of_wp λprog w A R s h=>by
  obtain⟨hp,gs,d,tk,os⟩:=s;obtain⟨g1,g2,he,hg,h⟩:=h
  have sub:=AutoSeq1.sub_tuple_tuple
  have hZ:(xs.toList.zip ys.toList).length=min xs.size ys.size:=by simp
  wp_walk using wpAny_loadPart' g1,wpAny_loadPart' g2,GH _ (λrest b s'=>b.1=none/\s'=⟨hp,gs,d,tk,os⟩/\∃i,rest=(xs.toList.zip ys.toList).drop i/\
   R (.ok (.ret (.bool (lexB e g (decide (xs.size<ys.size)) ((Av (min xs.size ys.size)).drop i))))) ⟨hp,gs,d,tk,os⟩) _
  case turn=>
   rintro⟨y,x⟩ rest b s' ⟨hb',rfl,i,hz,hR⟩
   have hlt:i<(xs.toList.zip ys.toList).length:=Nat.lt_of_not_le λz=>by rw[DW z] at hz;cases hz
   have hm:i<min xs.size ys.size:=hZ▸hlt
   have h1:i<xs.size:=by lia
   have h2:i<ys.size:=by lia
   rw[DD hlt] at hz
   injection hz with hyx hrest
   obtain rfl:y=xs[i]:=by simpa using congrArg Prod.fst hyx
   obtain rfl:x=ys[i]:=by simpa using congrArg Prod.snd hyx
   have hd:(Av (min xs.size ys.size)).drop i=i::(Av (min xs.size ys.size)).drop (i+1):=by simp[DD,hm]
   rw[hd] at hR
   have step:lexB e g (decide (xs.size<ys.size)) (i::(Av (min xs.size ys.size)).drop (i+1))=if e i=true then lexB e g (decide (xs.size<ys.size)) ((Av (min xs.size ys.size)).drop (i+1)) else g i:=rfl
   rw[step] at hR
   refine Ey (he i h1 h2 prog w _ _ ?_)
   cases hy:e i with
   |true=>
    rw[hy] at hR
    wp_walk
    exact⟨rfl,rfl,i+1,hrest,by simpa using hR⟩
   |false=>
    rw[hy] at hR
    have hg':=hg i h1 h2 hy
    simp only[Bool.not_false,if_true]
    exact Ey (Fe (Ey (hg' prog w _ _ (Ey (E5 (E5 (E5 ⟨_,rfl,by simpa using hR⟩)))))))
  case fin=>
   rintro⟨b1,b2⟩ s' ⟨hb',rfl,i,hz,hR⟩
   simp only at hb'
   subst hb'
   have hge:min xs.size ys.size<=i:=DQ λz=>by
    rw[DD (hZ.symm▸z)] at hz;cases hz
   rw[DW (by simpa using hge)] at hR
   wp_walk
   exact⟨_,rfl,by simpa[Builtin.Tuple.tupleCompareSizes,lexB] using hR⟩
  case h=>
   exact⟨rfl,rfl,0,rfl,by simpa using h⟩
section
variable {A:FC}{s:E4}
theorem LtAt.tuples {p q:Ez}{xs ys:Array E2}{e g:Nat->Bool}(hp:s.heap.IsTuple p xs)(hq:s.heap.IsTuple q ys)(hu:A.units<cLine)
  (he:∀j (h1:j<xs.size) (h2:j<ys.size),EqAt A.in1 s xs[j] ys[j] (e j)) (hg:∀j (h1:j<xs.size) (h2:j<ys.size),e j=false->LtAt A.in1 s xs[j] ys[j] (g j)):
  LtAt A s (.ref p) (.ref q) (lexB e g (decide (xs.size<ys.size)) (Av (min xs.size ys.size))):=λprog w E Q h=>by
 obtain⟨⟨c1,d1,da1,s1⟩,o1,k1,n1,e1⟩:=id hp
 obtain⟨⟨c2,d2,da2,s2⟩,o2,k2,n2,e2⟩:=id hq
 simp only at k1 e1 k2 e2
 subst k1 e1 k2 e2
 exact richCompare_meets_room (op:= .Lt) ⟨_,o1,rfl⟩ ⟨_,o2,rfl⟩ F.slot_tuple_lt F.entry_tuple_lt (F.args_tuple_lt_2 _ _) (ZJR p q xs ys n1 n2 d1 d2 s1 s2 e g)
  ⟨o1,o2,he,hg,show Bc (lexB e g (decide (xs.size<ys.size)) (Av (min xs.size ys.size)))≠Value.notImplemented/\Q _ s from⟨(λx=>nomatch x),h⟩⟩ hu
theorem LtAt.int (a:Int)(t:Tok)(b:Int)(u:Tok):LtAt A s (.int a t) (.int b u) (decide (a<b)):=λ_ _ _ _ h=>PyProof.Rows.lt_int h
theorem LtAt.str (a:E3)(t:Tok)(b:E3)(u:Tok):LtAt A s (.str a t) (.str b u) (decide (a.cps.toList<b.cps.toList)):=λ_ _ _ _ h=>PyProof.Rows.lt_str h
end
theorem ZIt (e g:Nat->Bool)(fin:Bool)(f:Nat->Nat):∀l:List Nat,lexB e g fin (l.map f)=lexB (λj=>e (f j)) (λj=>g (f j)) fin l
 | []=>rfl
 |j::r=>by show(if e (f j)=true then lexB e g fin (r.map f) else g (f j))=_;rw[ZIt e g fin f r];rfl
end HL
namespace L2
open PySem PySem.Spec PyProof.Rows HL
mutual
def Dat.lt:Dat->Dat->Bool
 | .int i,.int j=>decide (i<j)
 | .str x,.str y=>decide (x.cps.toList<y.cps.toList)
 | .tup ds,.tup es=>Dat.lts ds es
 |_,_=>false
def Dat.lts:List Dat->List Dat->Bool
 |_,[]=>false
 | [],_::_=>true
 |d::ds,e::es=>if Dat.beq d e=true then Dat.lts ds es else Dat.lt d e
end
mutual
def Dat.cmp:Dat->Dat->Bool
 | .int _,.int _=>true
 | .str _,.str _=>true
 | .tup ds,.tup es=>Dat.cmps ds es
 |_,_=>false
def Dat.cmps:List Dat->List Dat->Bool
 |_,[]=>true
 | [],_::_=>true
 |d::ds,e::es=>Dat.cmp d e&&Dat.cmps ds es
end
theorem ZLF:∀(ds es:List Dat),Dat.lts ds es=lexB (λj=>Dat.beq (ds.getD j .non) (es.getD j .non)) (λj=>Dat.lt (ds.getD j .non) (es.getD j .non)) (decide (ds.length<es.length)) (Av (min ds.length es.length))
 | [],[]=>rfl
 |_::_,[]=>by simp[Dat.lts,lexB]
 | [],_::_=>by simp[Dat.lts,lexB]
 |d::ds,e::es=>by
  have ih:=ZLF ds es
  have hm:min (d::ds).length (e::es).length=min ds.length es.length+1:=by simp only[Ac];lia
  rw[hm,DU]
  show(if Dat.beq d e=true then Dat.lts ds es else Dat.lt d e)=if Dat.beq d e=true then lexB _ _ _ ((Av (min ds.length es.length)).map Nat.succ) else Dat.lt d e
  rw[ZIt,ih]
  simp only[Ac,Nat.add_lt_add_iff_right,Nat.succ_eq_add_one,Ek]
theorem ZLi:∀{ds es:List Dat} {j:Nat},Dat.cmps ds es=true->j<ds.length->j<es.length->Dat.cmp (ds.getD j .non) (es.getD j .non)=true
 | [],_,_,_,h,_=>absurd h (by simp)
 |_::_,[],_,_,_,h=>absurd h (by simp)
 |d::ds,e::es,0,h,_,_=>by
  have h':(Dat.cmp d e&&Dat.cmps ds es)=true:=h
  simp only[BK] at h'
  exact h'.1
 |d::ds,e::es,j+1,h,h1,h2=>by
  have h':(Dat.cmp d e&&Dat.cmps ds es)=true:=h
  simp only[BK] at h'
  exact ZLi (j:=j) h'.2 (by simpa using h1) (by simpa using h2)
section
variable {X:Cx}{pins:List (Ez×FF)}{Z:St}{H:Hp}{s:E4}
theorem ZGU (I:Inv X pins Z H s):∀(n:Nat) (A:FC) {d e:Dat} {x y:V} {u v:E2},Dat.cmp d e=true->Dat.deep d<=n->A.units+n<cLine->ZAZ X.K H d x->ZAZ X.K H e y->RelV x u->RelV y v->LtAt A s u v (Dat.lt d e):=by
 intro n
 induction n with
 |zero=>
  intro A d e x y u v hc hn hu hd he rx ry
  cases d with
  |non=>exact absurd hc (by simp[Dat.cmp])
  |tup ds=>exact absurd hn (by simp[Dat.deep])
  |int i=>
   cases e with
   |int j=>
    cases(show x= .int i from hd);cases(show y= .int j from he)
    obtain⟨t,rfl⟩:=rx;obtain⟨t',rfl⟩:=ry
    exact LtAt.int i t j t'
   |non=>exact absurd hc (by simp[Dat.cmp])
   |str j=>exact absurd hc (by simp[Dat.cmp])
   |tup es=>exact absurd hc (by simp[Dat.cmp])
  |str i=>
   cases e with
   |str j=>
    cases(show x= .str i from hd);cases(show y= .str j from he)
    obtain⟨t,rfl⟩:=rx;obtain⟨t',rfl⟩:=ry
    exact LtAt.str i t j t'
   |non=>exact absurd hc (by simp[Dat.cmp])
   |int j=>exact absurd hc (by simp[Dat.cmp])
   |tup es=>exact absurd hc (by simp[Dat.cmp])
 |succ n ih=>
  intro A d e x y u v hc hn hu hd he rx ry
  cases d with
  |non=>exact absurd hc (by simp[Dat.cmp])
  |int i=>exact ih A hc (Aq _) (by lia) hd he rx ry
  |str i=>exact ih A hc (Aq _) (by lia) hd he rx ry
  |tup ds=>
   cases e with
   |non=>exact absurd hc (by simp[Dat.cmp])
   |int j=>exact absurd hc (by simp[Dat.cmp])
   |str j=>exact absurd hc (by simp[Dat.cmp])
   |tup es=>
    obtain⟨a,xs,rfl,q1,h1⟩:=hd
    obtain⟨b,ys,rfl,q2,h2⟩:=he
    obtain⟨its,r1,p1,_⟩:=I.tuple q1
    obtain⟨its2,r2,p2,_⟩:=I.tuple q2
    cases rx;cases ry
    have l1:=h1.length
    have l2:=h2.length
    have s1:its.toArray.size=ds.length:=by rw[AO,<-r1.length,l1]
    have s2:its2.toArray.size=es.length:=by rw[AO,<-r2.length,l2]
    have hdp:∀{j},ds.getD j .non∈ds->Dat.deep (ds.getD j .non)<=n:=λm1=>by
     have h3:=ZEn m1
     have h4:Dat.deeps ds+1<=n+1:=hn
     lia
    have key:=LtAt.tuples (e:=λj=>Dat.beq (ds.getD j .non) (es.getD j .non)) (g:=λj=>Dat.lt (ds.getD j .non) (es.getD j .non)) p1 p2 (by lia:A.units<cLine)
     (λj j1 j2=>by
      obtain⟨x',d1,rx',m1⟩:=ZCj (A:=A) h1 r1 j1
      obtain⟨y',d2,ry',_⟩:=ZCj (A:=A) h2 r2 j2
      exact ZDK I n A.in1 (hdp m1) (by show A.units+1+n<cLine;lia) d1 d2 rx' ry')
     (λj j1 j2 _=>by
      obtain⟨x',d1,rx',m1⟩:=ZCj (A:=A) h1 r1 j1
      obtain⟨y',d2,ry',_⟩:=ZCj (A:=A) h2 r2 j2
      exact ih A.in1 (ZLi hc (by lia) (by lia)) (hdp m1) (by show A.units+1+n<cLine;lia) d1 d2 rx' ry')
    rw[s1,s2,<-ZLF] at key
    exact key
theorem op_ltD {n:Nat}(hu:X.A.units+n<cLine):OpR X (Fh .Lt) (λx y H Q=>∃d e,ZAZ X.K H d x/\ZAZ X.K H e y/\Dat.cmp d e=true/\Dat.deep d<=n/\Q (.bl (Dat.lt d e)) H):=by
 intro pins s Z H x y v u Q I rx ry h
 obtain⟨d,e,hd,he,hc,hn,q⟩:=h
 exact ZGU I n X.A hc hn hu hd he rx ry X.prog X.w _ _ ⟨.bl _,H,I,rfl,q⟩
end
end L2
namespace HX
open PySem
def Tb (h:E9)(e T:Ez)(cls fl:E2):Prop:=
 ∃oe vs oT ts,T≠e/\h.get? e=some oe/\oe.cls=cls/\oe.data= .fields vs/\vs[1]?=some (.ref T)/\h.get? T=some oT/\oT.data= .fields ts/\ts[3]?=some fl
structure Mvd (S ch:List Ez)(h h':E9):Prop where
 size:h.objs.size<=h'.objs.size
 keep:∀b o,b∉S->b∉ch->h.get? b=some o->h'.get? b=some o
 slot:∀b o,b∉ch->h.get? b=some o->∃sl,h'.get? b=some {o with slots:=sl}
theorem Mvd.trans {S ch ch2:List Ez}{h h1 h2:E9}(x:Mvd S ch h h1)(y:Mvd S ch2 h1 h2)(hs:∀b∈ch2,b∈ch\/h.get? b=none):Mvd S ch h h2 where
 size:=As x.size y.size
 keep:=λb o n1 n2 e=>y.keep b o n1 (λz=>(hs b z).elim n2 λk=>by rw[k] at e;cases e) (x.keep b o n1 n2 e)
 slot:=λb o n e=>by
  obtain⟨s1,e1⟩:=x.slot b o n e
  obtain⟨s2,e2⟩:=y.slot b _ (λz=>(hs b z).elim n λk=>by rw[k] at e;cases e) e1
  exact⟨s2,e2⟩
section
variable {M:Model}{A:FC}{E:E2->E4->Prop}{s:E4}{base:E9}{env:Env}{outer:List Env}{L e T:Ez}{cls fl:E2}
theorem ZHm (hl:s.heap.FunFrames base (env::outer)){oe:FF}{vs:Array E2}(he:s.heap.get? e=some oe)(hd:oe.data= .fields vs):e∉(env::outer).filterMap (·.frame):=λhm=>by
 obtain⟨_,o,ho,hnf⟩:=hl.mem hm
 rw[he] at ho
 cases ho
 exact hnf vs hd
theorem entry {oe:FF}{vs:Array E2}{head:E2}{hadNext:Bool}{Q:Unit->E4->Prop}(hfr:A.frames=some (env::outer))(hl:s.heap.FunFrames base (env::outer))(hf:env.frame=some L)
  (he:s.heap.get? e=some oe) (hd:oe.data= .fields vs) (hsz:1<vs.size)
  (h:∀h',Mvd ((env::outer).filterMap (·.frame)) [e] s.heap h'->Tb h' e s.heap.objs.size oe.cls (FO L)->Q () {s with heap:=h'}):
  E6 M A (do let a<-frameOf env;let pl<-entryPlaceOf L hadNext;let b<-EntryCells.newEntry head a .none (FO L) .none pl;setField (.ref e) 1 b) Q E s:=by
 have ne:=ZHm hl he hd
 refine Ey (wpAny_frameOf_fun hfr hl hf λg1 m1=>?_)
 refine Ey (wpAny_entryPlaceOf λpp hpp=>?_)
 unfold EntryCells.newEntry
 unfold newFields
 refine Ey (FH ?_ (hpp.sizeOk5 _ _ _ _ _))
 obtain⟨tb,htb⟩:∃tb:FF,tb={cls:= .type "traceback",dict:=none,data:= .fields ([head,.ref L,.none,FO L,.none]++(if pp.isEmpty then Ck 6 At else pp)).toArray}:=⟨_,rfl⟩
 have e1:g1.get? e=some oe:=(m1.2.1 e ne).trans he
 have e2:(g1.push tb).get? e=some oe:=AC _ e1
 have hT:g1.objs.size=s.heap.objs.size:=m1.1
 have hTe:g1.objs.size≠e:=A4 (AI e1)
 rw[<-htb]
 refine Fw e2 hd hsz (h _ ⟨?_,λb o b1 b2 eb=>?_,λb o b2 eb=>?_⟩ ?_)
 ·rw[DX]
  show _<=(g1.push tb).objs.size
  rw[PyProof.Rows.size_push',hT]
  exact CI _
 ·have hb:b≠e:=λz=>b2 (by simp[z])
  rw[Ar _ _ (A9 hb)]
  exact AC _ ((m1.2.1 b b1).trans eb)
 ·have hb:b≠e:=λz=>b2 (by simp[z])
  obtain⟨sl,q⟩:=m1.2.2 b o eb
  rw[Ar _ _ (A9 hb)]
  exact⟨sl,AC _ q⟩
 ·have d3:=Cc hd (·.setIfInBounds 1 (Ab g1.objs.size))
  have e3:=BP (CF (·.setIfInBounds 1 (Ab g1.objs.size))) e2 (Cs d3)
  have t3:((g1.push tb).update e (CF (·.setIfInBounds 1 (Ab g1.objs.size)))).get? g1.objs.size=some tb:=by
   rw[Ar _ _ (A9 hTe)]
   exact AN _ (by rw[htb];rfl)
  rw[<-hT]
  refine⟨_,_,tb,_,hTe,e3,Dw _ _,d3,by simp[hsz],t3,by rw[htb],?_⟩
  rcases hpp with rfl|⟨_,_,_,_,_,_,_,rfl⟩<;>simp
theorem setNone {Q:Unit->E4->Prop}(t:Tb s.heap e T cls fl)(h:∀h',Mvd [] [T] s.heap h'->Tb h' e T cls .none->Q () {s with heap:=h'}):E6 M A (setFlight (.ref e) none) Q E s:=by
 obtain⟨oe,vs,oT,ts,hTe,he,hc,hd,h1,hT,hdT,h3⟩:=t
 have z3:3<ts.size:=(BR.mp h3).1
 unfold setFlight
 refine Ey (FM he hd h1 ?_)
 rw[if_pos (show(Ab T !=At)=true by simp)]
 refine Fw hT hdT z3 (h _ ⟨?_,λb o _ b2 eb=>?_,λb o b2 eb=>?_⟩ ?_)
 ·rw[DX];exact AK _
 ·rw[Ar _ _ λz=>b2 (by simp[z])];exact eb
 ·exact⟨o.slots,by rw[Ar _ _ λz=>b2 (by simp[z])];exact eb⟩
 ·have d3:=Cc hdT (·.setIfInBounds 3 ((none:Option Ez).elim At λf=>FO f))
  exact⟨oe,vs,_,_,hTe,by rw[Ar _ _ hTe];exact he,hc,hd,h1,BP _ hT (Cs d3),d3,by simp[z3]⟩
theorem ZJs {oe:FF}{vs:Array E2}{Q:Unit->E4->Prop}(hfr:A.frames=some (env::outer))(hl:s.heap.FunFrames base (env::outer))(hf:env.frame=some L)
  (he:s.heap.get? e=some oe) (hd:oe.data= .fields vs) (h1:vs[1]?=some .none)
  (h:∀h',Mvd ((env::outer).filterMap (·.frame)) [e] s.heap h'->Tb h' e s.heap.objs.size oe.cls (FO L)->Q () {s with heap:=h'}):E6 M A (noteFrame (.ref e) env) Q E s:=by
 unfold noteFrame
 simp only[hf]
 refine Ey (FM he hd h1 ?_)
 rw[if_neg (by decide)]
 exact entry hfr hl hf he hd (BR.mp h1).1 h
theorem note_next {Q:Unit->E4->Prop}(hfr:A.frames=some (env::outer))(hl:s.heap.FunFrames base (env::outer))(hf:env.frame=some L)(t:Tb s.heap e T cls .none)
  (h:∀h',Mvd ((env::outer).filterMap (·.frame)) [e,T] s.heap h'->Tb h' e s.heap.objs.size cls (FO L)->Q () {s with heap:=h'}):E6 M A (noteFrame (.ref e) env) Q E s:=by
 obtain⟨oe,vs,oT,ts,hTe,he,hc,hd,h1,hT,hdT,h3⟩:=t
 subst hc
 unfold noteFrame
 simp only[hf]
 refine Ey (FM he hd h1 ?_)
 rw[if_pos (show(Ab T !=At)=true by simp)]
 refine Ey (FM hT hdT h3 ?_)
 rw[if_neg (show¬((At==FO L)=true) by simp[FO])]
 refine Ey (Fw hT hdT (BR.mp h3).1 ?_)
 have oth:∀b,b≠T->(s.heap.update T (CF (·.setIfInBounds 3 At))).get? b=s.heap.get? b:=λb hb=>Ar _ _ (A9 hb)
 have hz:(s.heap.update T (CF (·.setIfInBounds 3 At))).objs.size=s.heap.objs.size:=DX ..
 have nT:∀b o,s.heap.get? b=some o->(∀vs,o.data≠ .fields vs)->b≠T:=λb o hb hnf q=>by
  rw[q,hT] at hb
  cases hb
  exact hnf ts hdT
 refine entry (s:={s with heap:=s.heap.update T (CF (·.setIfInBounds 3 At))}) hfr (hl.of_keeps λb o hb hnf=>⟨o,(oth b (nT b o hb hnf)).trans hb,rfl⟩) hf ((oth e (A9 hTe)).trans he) hd (BR.mp h1).1 λh' m t'=>h h' ?_ ?_
 ·exact⟨by have:=m.size;rw[hz] at this;exact this,λb o b1 b2 eb=>m.keep b o b1 (λz=>b2 (by rw[AF.mp z];simp)) ((oth b λz=>b2 (by simp[z])).trans eb),
   λb o b2 eb=>m.slot b o (λz=>b2 (by rw[AF.mp z];simp)) ((oth b λz=>b2 (by simp[z])).trans eb)⟩
 ·have:Tb h' e (s.heap.update T (CF (·.setIfInBounds 3 At))).objs.size oe.cls (FO L):=t'
  rw[hz] at this
  exact this
theorem leave_first {oe:FF}{vs:Array E2}{Q:Unit->E4->Prop}(hfr:A.frames=some (env::outer))(hl:s.heap.FunFrames base (env::outer))(hf:env.frame=some L)
  (he:s.heap.get? e=some oe) (hd:oe.data= .fields vs) (h1:vs[1]?=some .none)
  (h:∀h',Mvd ((env::outer).filterMap (·.frame)) [e] s.heap h'->Tb h' e s.heap.objs.size oe.cls .none->Q () {s with heap:=h'}):E6 M A (leaving env (.ref e)) Q E s:=by
 unfold leaving
 refine Ey (ZJs hfr hl hf he hd h1 λh1' m1 t1=>setNone t1 λh2 m2 t2=>h h2 (m1.trans ⟨m2.size,λb o _ b2=>m2.keep b o (by simp) b2,m2.slot⟩ λb hb=> .inr (by rw[AF.mp hb];exact BA (AK _))) t2)
theorem leave_next {Q:Unit->E4->Prop}(hfr:A.frames=some (env::outer))(hl:s.heap.FunFrames base (env::outer))(hf:env.frame=some L)(t:Tb s.heap e T cls .none)
  (h:∀h',Mvd ((env::outer).filterMap (·.frame)) [e,T] s.heap h'->Tb h' e s.heap.objs.size cls .none->Q () {s with heap:=h'}):E6 M A (leaving env (.ref e)) Q E s:=by
 unfold leaving
 refine Ey (note_next hfr hl hf t λh1' m1 t1=>setNone t1 λh2 m2 t2=>h h2 (m1.trans ⟨m2.size,λb o _ b2=>m2.keep b o (by simp) b2,m2.slot⟩ λb hb=> .inr (by rw[AF.mp hb];exact BA (AK _))) t2)
end
end HX
namespace L2
open PySem PySem.Spec PyProof.Rows
def CXE (P:E7)(w:FA):CXT:=λouter H s E ev s'=>∃e T cls H',ev= .ref e/\HX.Tb s'.heap e T cls .none/\s.heap.get? e=none/\s.heap.get? T=none/\H' e=none/\H' T=none/\
 s'.os=s.os/\AllBare s'.gens/\Un (frs outer) [] H H' s.heap s'.heap/\HOk P w H' s'.heap/\E cls none H'
theorem ZFo {fs S ch:List Ez}{H H1:Hp}{h h1 h2:E9}(u:Un fs [] H H1 h h1)(m:HX.Mvd S ch h1 h2)(hS:∀b,b<h.objs.size->b∈S->b∈fs)(hch:∀b∈ch,h.get? b=none):Un fs [] H H1 h h2:=by
 have nc:∀{b o},h.get? b=some o->b∉ch:=λ{b o} e z=>by rw[hch b z] at e;cases e
 refine⟨λb o e n nf nx=>m.keep b o (λz=>nf (hS b (AI e) z)) (nc e) (u.keep b o e n nf nx),λb o e n nf nx=>?_,u.free,λb o e nx=>?_,u.tups,u.frzs,u.tbls⟩
 ·obtain⟨sl,q⟩:=u.slot b o e n nf nx
  obtain⟨sl2,q2⟩:=m.slot b _ (nc e) q
  exact⟨sl2,q2⟩
 ·obtain⟨o',q⟩:=u.there b o e nx
  obtain⟨sl2,q2⟩:=m.slot b _ (nc e) q
  exact⟨_,q2⟩
theorem ZEi {P:E7}{w:FA}{S ch:List Ez}{H:Hp}{h h':E9}(ok:HOk P w H h)(m:HX.Mvd S ch h h')(hS:∀b∈S,H b=none)(hch:∀b∈ch,H b=none):HOk P w H h':=λa o e=>by
 refine(ok a o e).stay (λb u hb q=>m.keep b u (λz=>?_) (λz=>?_) q) (λ_ q=>q) λ_ _ q=>q
 ·rcases hb with rfl|hb
  ·rw[hS _ z] at e;cases e
  ·rw[hS _ z] at hb;cases hb
 ·rcases hb with rfl|hb
  ·rw[hch _ z] at e;cases e
  ·rw[hch _ z] at hb;cases hb
theorem ZBA.ob {P:E7}{w:FA}{H:Hp}{h:E9}{a:Ez}{o:HO}(x:ZBA P w H h a o):∃q,h.get? a=some q:=by
 cases o with
 |lst xs=>obtain⟨_,_,_,_,e⟩:=x;exact⟨_,e⟩
 |tup xs=>obtain⟨_,_,_,⟨o,e,_⟩,_⟩:=x;exact⟨_,e⟩
 |dK kvs=>obtain⟨_,_,_,_,o,_,_,e,_⟩:=x;exact⟨_,e⟩
 |dT kvs=>obtain⟨_,_,_,_,o,_,_,e,_⟩:=x;exact⟨_,e⟩
 |set S n=>obtain⟨o,_,_,_,e,_⟩:=x;exact⟨_,e⟩
 |ins C dx fs=>obtain⟨_,_,_,e,_⟩:=x;exact⟨_,e⟩
 |own y=>obtain⟨_,e⟩:=x;exact⟨_,e⟩
 |xd fs=>obtain⟨_,⟨_,_,_,e,_⟩,_⟩:=x;exact⟨_,e⟩
 |rng lo hi=>obtain⟨_,_,_,e⟩:=x;exact⟨_,e⟩
 |frz ob u=>obtain⟨e,_⟩:=x;exact⟨_,e⟩
 |tbl ps=>exact⟨_,x⟩
 |met f y=>exact⟨_,x⟩
 |ext φ=>obtain⟨_,⟨_,e⟩,_⟩:=x;exact⟨_,e⟩
theorem HOk.no {P:E7}{w:FA}{H:Hp}{h:E9}{a:Ez}(x:HOk P w H h)(e:h.get? a=none):H a=none:=by
 cases q:H a with
 |none=>rfl
 |some u=>obtain⟨o,z⟩:=(x a u q).ob;rw[e] at z;cases z
theorem Inv.none0 {X:Cx}{pins:List (Ez×FF)}{Z:St}{H:Hp}{s:E4}(I:Inv X pins Z H s)(hx:X.ex= []){b:Ez}(q:s.heap.get? b=none):X.s₀.heap.get? b=none:=by
 cases e:X.s₀.heap.get? b with
 |none=>rfl
 |some o=>obtain⟨o',z⟩:=I.base.there b o e (by rw[hx];simp);rw[q] at z;cases z
def ZNo (X:Cx)(E:XK):Prop:=∀(pins:List (Ez×FF)) (Z:St) (H:Hp) (s:E4) (h':E9) (e:Ez) (cls:E2) (args:List E2),Inv X pins Z H s->Heap.MadeExcOf s.heap h' e cls args->E cls none H->X.xe (.ref e) {s with heap:=h'}
section
variable {P:E7}{w:FA}{K:AB}{mg:E3->Option E2}{base:E9}{N:List E3}{qual:E3}{scope:F0}{f:Ez}{cd:E2}{A:FC}{outer:List Env}{s0:E4}{H0:Hp}{E E':XK}
theorem ZKo (hE:∀c o H,E' c o H->E c o H):ZHM (CXE P w) (cxOf (CXE P w) P w K mg base N qual scope f cd A outer s0 H0 E) E':=by
 intro pins Z H1 s1 ev s' I hcx
 obtain⟨e,T,cls,H',rfl,tb,le,lT,ne,nT,os,bare,un,hok,hE'⟩:=hcx
 have J:=I.call' os un hok bare (λb z=>absurd z (by simp))
 have sz1:∀b,s1.heap.get? b=none->s0.heap.get? b=none:=λb q=>I.none0 rfl q
 have sz2:s0.heap.objs.size<=s'.heap.objs.size:=J.sz
 refine HX.leave_next (base:=base) (outer:=outer) J.ok.frames J.stack rfl tb λh' m t'=>?_
 refine⟨e,_,cls,H',rfl,t',sz1 _ le,BA sz2,ne,J.hok.fresh (AK _),J.os,J.bare,ZFo J.base m (λb hb z=>?_) (λb hb=>?_),ZEi J.hok m (λb hb=>J.stkFree b hb) (λb hb=>?_),hE _ _ _ hE'⟩
 ·rcases AQ.mp (J.stkSub b z) with q|q
  ·have:=J.ok.above
   have hb':b<(cxOf (CXE P w) P w K mg base N qual scope f cd A outer s0 H0 E).s₀.heap.objs.size:=hb
   rw[q] at hb'
   exact absurd hb' (Et.mpr this)
  ·exact q
 ·rcases AQ.mp hb with rfl|hb
  ·exact sz1 _ le
  ·rw[AF.mp hb];exact sz1 _ lT
 ·rcases AQ.mp hb with rfl|hb
  ·exact ne
  ·rw[AF.mp hb];exact nT
theorem ZCQ:ZNo (cxOf (CXE P w) P w K mg base N qual scope f cd A outer s0 H0 E) E:=by
 intro pins Z H1 s1 h' e cls args I hx hE
 obtain⟨t,he,htn,ht⟩:=hx.there
 have J:=I.kept (t':=s1.toks) hx.keeps
 have sz1:∀b,s1.heap.get? b=none->s0.heap.get? b=none:=λb q=>I.none0 rfl q
 have sz2:s0.heap.objs.size<=h'.objs.size:=J.sz
 have le:s1.heap.get? e=none:=hx.new
 refine HX.leave_first (base:=base) (outer:=outer) (s:={s1 with heap:=h'}) J.ok.frames J.stack rfl he rfl rfl λh2 m t'=>?_
 refine⟨e,_,cls,H1,rfl,t',sz1 _ le,BA sz2,I.hok.no le,J.hok.fresh (AK _),J.os,J.bare,ZFo J.base m (λb hb z=>?_) (λb hb=>?_),ZEi J.hok m (λb hb=>J.stkFree b hb) (λb hb=>?_),hE⟩
 ·rcases AQ.mp (J.stkSub b z) with q|q
  ·have:=J.ok.above
   have hb':b<(cxOf (CXE P w) P w K mg base N qual scope f cd A outer s0 H0 E).s₀.heap.objs.size:=hb
   rw[q] at hb'
   exact absurd hb' (Et.mpr this)
  ·exact q
 ·rw[AF.mp hb];exact sz1 _ le
 ·rw[AF.mp hb];exact I.hok.no le
end
section
variable {X:Cx}{pins:List (Ez×FF)}{Z:St}{H:Hp}{s:E4}
theorem Inv.reX {A':FC}{c:Bool}{xe:E2->E4->Prop}(I:Inv X pins Z H s)(hf:A'.frames=X.A.frames)(hd:c=true->A'.handled=none):Inv {X with A:=A',calm:=c,xe:=xe} pins Z H s:=
 ⟨⟨I.ok.mod,I.ok.kind,I.ok.glob,I.ok.blt,I.ok.above,I.ok.inj,I.ok.has,I.ok.cab,hd,hf.trans I.ok.frames,I.ok.stk,I.ok.exf,I.ok.bs,I.ok.bsz,I.ok.noex,I.ok.exfs,I.ok.funs,I.ok.frf⟩,
  I.os,I.bare,I.base,I.loc,I.cell,I.free,I.freeC,I.pin,I.hok,I.len⟩
theorem Inv.unX {A':FC}{c:Bool}{xe:E2->E4->Prop}(I:Inv {X with A:=A',calm:=c,xe:=xe} pins Z H s)(J:X.Ok):Inv X pins Z H s:=
 ⟨J,I.os,I.bare,I.base,I.loc,I.cell,I.free,I.freeC,I.pin,I.hok,I.len⟩
def PSx (X:Cx)(st:List FS)(t:Ends->XK->St->Hp->Prop):Prop:=
 ∀(pins:List (Ez×FF)) (s:E4) (Z:St) (H:Hp) (D:Ends) (E:XK) (xe:E2->E4->Prop),Inv X pins Z H s->t D E Z H->
  (∀ev s1 H1 s',Inv X pins Z H1 s1->CXE X.prog X.w X.stack H1 s1 E ev s'->xe ev s')->E6 (model X.prog X.w) X.A (execs st X.env) (SP X pins D) xe s
end
section
variable {X:Cx}
def tRaise (C:Ez)(E:XK)(ta:TA):TS:=λ_ Z H=>ta Z H λvs H1=>vs.length<=10/\E (.ref C) none H1
theorem ZDA {E:XK}{x:E3}{C:Ez}{bm bmN:List E2}{newId Bn inN B nid initId:String}{e0:FD}{rest:List FD}{ta:TA}{np cpos pos:Pos}(hc:X.calm=true)(R:ZNo X E)
  (O:OwnCls x C bm newId X.mg X.base) (Fn:ExcBaseFacts Bn newId inN bmN) (hBn:bm.contains (.type Bn)=true) (FB:ExcBaseFacts B nid initId bm) (hg:Gl X x) (ha:PA X (e0::rest) ta)
  (he:FG (e0::rest) X.env=(false,eval e0 X.env)::FG rest X.env:=by rfl) (hpl:(backTo cpos (FG (e0::rest) X.env)).any (·.1)=false:=by rfl) (hd:(x==("__debug__":E3))=false:=by decide):
  PS X (.Raise (some (.Call (.Name x np) (e0::rest) [] cpos)) none pos) (tRaise C E ta):=by
 intro pins s Z H D I h
 obtain⟨tl,N,nm,q,bs,hdct,sn,sub,ab,col,dd,k0,k1,k2,k3,k5,mN,hC,hN,hni,T⟩:=O.obj
 refine wpAny_Raise_call_subU (k5:=k5) (C:=C) (nm:=nm) (q:=q) (N:=N) (bs:=bs) (bm:=tl) (hdct:=hdct) (sn:=sn) (sub:=sub) (ab:=ab) (col:=col) (dd:=dd) (k0:=k0) (k1:=k1) (k2:=k2) (k3:=k3)
  Fn hBn FB (mN:=mN) (T.hasType FB.hasBase) (I.ok.hd hc) hpl hni (ZEe I hg O.bound ⟨rfl,?_⟩ hd)
 have key:=ha cpos pins s Z H _ I h
 rw[he] at key ⊢
 refine De (thn key λus s1 ⟨vs,H1,I1,r,hl,q1⟩=>?_)
 exact⟨rfl,by show us.length<=_;rw[<-r.length,FP];lia,I1.bk _ _ hC,hN.keeps I1.bk,T.keeps I1.bk,λh' e hm=>R pins Z H1 s1 h' e _ _ I1 hm q1⟩
theorem call_x {x:E3}{k:Nat}{f:Ez}{fd:FJ}{ps:List E3}{sp:Sp}{e:FD}{es:List FD}{ta:TA}{p ap:Pos}{pins:List (Ez×FF)}{s:E4}{Z:St}{H:Hp}{Q:VK}{E:XK}{xe:E2->E4->Prop}
  (F:FnOk X.prog X.w X.K X.mg X.base (CXE X.prog X.w) k f fd ps sp) (hr:Room k X.A) (hg:Gl X x) (hm:X.mg x=some (.ref f))
  (hk:Ad X.K (.ref f)=true) (hb:Binds X.K fd ps []) (ha:∀xe,PA {X with xe:=xe} (e::es) ta) (I:Inv X pins Z H s) (h:ta Z H λvs H1=>sp vs H1 Q E)
  (hx:∀ev s1 H1 s',Inv X pins Z H1 s1->CXE X.prog X.w X.stack H1 s1 E ev s'->xe ev s')
  (hdb:(x==("__debug__":E3))=false:=by decide) (he:FG (e::es) X.env=(false,eval e X.env)::FG es X.env:=by rfl) (hpl:(backTo ap (FG es X.env)).any (·.1)=false:=by rfl):
  E6 (model X.prog X.w) X.A (eval (.Call (.Name x p) (e::es) [] ap) X.env) (EP X pins Z Q) xe s:=by
 refine Fc (ZEe I hg hm ?_ hdb)
 have I':Inv {X with xe:=xe} pins Z H s:=I.reX (A':=X.A) (c:=X.calm) rfl I.ok.hd
 refine Ee (h₀:=X.base) I.ok.mod.kin hk (thn (ha xe ap pins s Z H _ I' h) λus s1 ⟨vs,H1,I1',r,q⟩=>⟨I1'.kIn,?_⟩) he hpl
 have I1:Inv X pins Z H1 s1:=I1'.unX I.ok
 have hl:us.length=ps.length:=by rw[<-r.length];exact F.len _ _ _ _ q
 have hb':=hb s1 us I1.kIn (by simpa using hl)
 rw[A5] at hb'
 refine wpAny_call (Fx (F.run X.A X.stack s1 H1 ⟨us,[]⟩ us vs _ E hr I1.env0 hb' r q) λres s' hq=>?_)
 cases res with
 |error ev=>exact hx ev s1 H1 s' I1 hq
 |ok fl=>
  cases fl with
  |ret u=>exact I1.after hq
  |next=>exact Bg hq
  |brk=>exact Bg hq
  |cont=>exact Bg hq
theorem ZH2 {x:E3}{k:Nat}{f:Ez}{fd:FJ}{ps:List E3}{sp:Sp}{e:FD}{es:List FD}{ta:TA}{p ap pos:Pos}(F:FnOk X.prog X.w X.K X.mg X.base (CXE X.prog X.w) k f fd ps sp)(hr:Room k X.A)(hg:Gl X x)(hm:X.mg x=some (.ref f))
  (hk:Ad X.K (.ref f)=true) (hb:Binds X.K fd ps []) (ha:∀xe,PA {X with xe:=xe} (e::es) ta)
  (hdb:(x==("__debug__":E3))=false:=by decide) (he:FG (e::es) X.env=(false,eval e X.env)::FG es X.env:=by rfl) (hpl:(backTo ap (FG es X.env)).any (·.1)=false:=by rfl):
  PSx X [.Return (some (.Call (.Name x p) (e::es) [] ap)) pos] (λD E Z H=>ta Z H λvs H1=>sp vs H1 D.rt E):=by
 intro pins s Z H D E xe I h hx
 refine Gh ?_
 exact wpAny_Return_some (thn (call_x F hr hg hm hk hb ha I h hx hdb he hpl) λv s1 ⟨x',H1,I1,r1,q1⟩=>⟨x',Z,H1,I1,r1,q1⟩)
theorem ZFS {pins:List (Ez×FF)}{Z:St}{H:Hp}{s s1:E4}{h3:E9}{ch:List Ez}(J:Inv X pins Z H s)(hst:X.stack=X.env::X.outer)(hex:X.ex= [])(m:HX.Mvd (frs X.stack) ch s.heap h3)(hch:∀b∈ch,X.s₀.heap.get? b=none/\H b=none)
  (hl:X.env.locals∉ch) (hce:∀x c,X.env.cells.lookup x=some c->c∉ch) (hp:∀p∈X.pn++pins,p.1∉ch):Inv X pins Z H {s with heap:=h3}:=by
 have ceq:∀{c v},c∉ch->s.heap.IsCell c v->h3.IsCell c v:=λ{c v} hc ⟨o,q,d⟩=>by
  obtain⟨sl,z⟩:=m.slot c o hc q
  exact⟨_,z,d⟩
 refine⟨J.ok,J.os,J.bare,?_,?_,λx c e=>?_,J.free,J.freeC,λp hpp=>?_,ZEi J.hok m (λb hb=>J.stkFree b hb) λb hb=>(hch b hb).2,J.len⟩
 ·have u:=J.base
  rw[hex] at u ⊢
  refine ZFo u m (λb hb z=>?_) λb hb=>(hch b hb).1
  rcases AQ.mp (J.stkSub b z) with q|q
  ·rw[q] at hb;exact absurd hb (Et.mpr J.ok.above)
  ·exact q
 ·obtain⟨mm,⟨o,es,ep,ho,hd,r⟩,hv⟩:=J.loc
  obtain⟨sl,z⟩:=m.slot _ o hl ho
  refine⟨mm,⟨_,es,ep,z,hd,r⟩,λi x v a b c=>?_⟩
  obtain⟨u,ru,lk⟩:=hv i x v a b c
  refine⟨u,ru,?_⟩
  rcases lk with k|⟨k,c',e,ic⟩
  ·exact .inl k
  ·exact .inr ⟨k,c',e,ceq (hce _ _ e) ic⟩
 ·obtain⟨v,ic⟩:=J.cell x c e
  exact⟨v,ceq (hce _ _ e) ic⟩
 ·obtain⟨a,b,c,d,e⟩:=J.pin p hpp
  refine⟨m.keep _ _ (λz=>?_) (hp p hpp) a,b,c,d,e⟩
  rcases AQ.mp (J.stkSub _ z) with q|q
  ·exact c q
  ·exact d q
theorem ZKg {x:E3}{C:Ez}{bm:List E2}{newId:String}{body suite:List FS}{b0:FS}{tb:Ends->XK->St->Hp->Prop}{ts:TS}{np hpos pos:Pos}(O:OwnCls x C bm newId X.mg X.base)(hbase:bm.contains (.type "BaseException")=true)(hg:Gl X x)
  (hst:X.stack=X.env::X.outer) (hex:X.ex= []) (hb:PSx X body tb) (hs:∀(e:Ez) (xe:E2->E4->Prop),PSs {X with A:=X.A.mark (some (.ref e)),calm:=false,xe:=xe} (b0::suite) ts) (hd:(x==("__debug__":E3))=false:=by decide):
  PS X (.Try body [.ExceptHandler (some (.Name x np)) none (b0::suite) hpos] [] [] pos) (λD Z H=>tb D (λc _ H'=>c= .ref C/\ts D Z H') Z H):=by
 intro pins s Z H D I h
 have hfr:X.env.frame=some X.env.locals:=by
  rcases I.ok.stk with z|z
  ·rw[hst] at z
   have:=congrArg Ay z
   simp at this
  ·exact z.2
 refine wpAny_Try_except ?_
 refine FE (hb pins s Z H D _ _ I h λev s1 H1 s' I1 cx=>?_) (λf s1 q=>?_) λ_ _ z=>z
 rotate_left
 ·cases f with
  |next=>exact GJ q
  |brk=>exact q
  |cont=>exact q
  |ret u=>exact q
 obtain⟨e,T,cls,H',rfl,tb',le,lT,ne,nT,os,bare,un,hok,rfl,hts⟩:=cx
 have J:=I1.call' os un hok bare (λb z=>absurd z (by simp))
 have jst:s'.heap.FunFrames X.base (X.env::X.outer):=hst▸J.stack
 have jfr:X.A.frames=some (X.env::X.outer):=hst▸J.ok.frames
 refine HX.note_next (base:=X.base) (outer:=X.outer) jfr jst hfr tb' λh2 m2 t2=>?_
 refine HX.setNone t2 λh3 m3 t3=>?_
 have nw:s'.heap.get? s'.heap.objs.size=none:=BA (AK _)
 have m:HX.Mvd (frs X.stack) [e,T] s'.heap h3:=by
  rw[hst]
  exact m2.trans ⟨m3.size,λb o _ b2=>m3.keep b o (by simp) b2,m3.slot⟩ λb hb=> .inr (by rw[AF.mp hb];exact nw)
 have two:∀{R:Ez->Prop},R e->R T->∀b∈ [e,T],R b:=λr1 r2 b hb=>by
  rcases AQ.mp hb with rfl|hb
  ·exact r1
  ·rw[AF.mp hb];exact r2
 have far:∀b∈ [e,T],s1.heap.get? b=none:=two le lT
 obtain⟨mm,⟨oL,_,_,hoL,_⟩,_⟩:=I1.loc
 have fl:X.env.locals∉ [e,T]:=λz=>by rw[far _ z] at hoL;cases hoL
 have fc:∀x c,X.env.cells.lookup x=some c->c∉ [e,T]:=λx c q z=>by
  obtain⟨v,o,ho,_⟩:=I1.cell x c q
  rw[far _ z] at ho;cases ho
 have fp:∀p∈X.pn++pins,p.1∉ [e,T]:=λp hp z=>by
  have:=(I1.pin p hp).1
  rw[far _ z] at this;cases this
 have J3:Inv X pins Z H' {s' with heap:=h3}:=ZFS (s1:=s1) J hst hex m (two ⟨I1.none0 hex le,ne⟩ ⟨I1.none0 hex lT,nT⟩) fl fc fp
 obtain⟨tl,N,nm,q,bs,hdct,sn,sub,ab,col,dd,k0,k1,k2,k3,k5,mN,hC,hN,hni,TT⟩:=O.obj
 obtain⟨oe,vs,oT,ts',hTe,he,hcls,hdt,h1,hT,hdT,h3'⟩:=id t3
 have J4:Inv {X with A:=X.A.mark (some (.ref e)),calm:=false,xe:=notedBy (model X.prog X.w) (X.A.mark (some (.ref e))) X.env (cameBackBy (model X.prog X.w) X.A X.env X.xe)} pins Z H' {s' with heap:=h3}:=J3.reX rfl (λz=>by cases z)
 refine wpAny_handleBy_cons (codeAny_handlers_test (ZEe J4 hg O.bound ?_ hd)) (by intro z;cases z)
 refine wpAny_excMatches_sub_self (J3.bk _ _ hC) he hcls (TT.hasType hbase) ?_
 refine codeAny_handlers_suite (HX.setNone t3 λh4 m4 t4=>?_)
 have m':HX.Mvd (frs X.stack) [e,s'.heap.objs.size] h3 h4:=⟨m4.size,λb o _ b2=>m4.keep b o (by simp) (λz=>b2 (by rw[AF.mp z];simp)),λb o b2=>m4.slot b o λz=>b2 (by rw[AF.mp z];simp)⟩
 have two':∀{R:Ez->Prop},R e->R s'.heap.objs.size->∀b∈ [e,s'.heap.objs.size],R b:=λr1 r2 b hb=>by
  rcases AQ.mp hb with rfl|hb
  ·exact r1
  ·rw[AF.mp hb];exact r2
 have n1:s1.heap.get? s'.heap.objs.size=none:=by
  cases z:s1.heap.get? s'.heap.objs.size with
  |none=>rfl
  |some o=>obtain⟨o',y⟩:=un.there _ o z (by simp);rw[nw] at y;cases y
 have far':∀b∈ [e,s'.heap.objs.size],s1.heap.get? b=none:=two' le n1
 have J5:Inv X pins Z H' {s' with heap:=h4}:=ZFS (s:={s' with heap:=h3}) (s1:=s1) J3 hst hex m' (two' ⟨I1.none0 hex le,ne⟩ ⟨I1.none0 hex n1,hok.fresh (AK _)⟩)
  (λz=>by rw[far' _ z] at hoL;cases hoL) (λx c q z=>by obtain⟨v,o,ho,_⟩:=I1.cell x c q;rw[far' _ z] at ho;cases ho) (λp hp z=>by have:=(I1.pin p hp).1;rw[far' _ z] at this;cases this)
 refine FE (hs e _ pins {s' with heap:=h4} Z H' D (J5.reX rfl (λz=>by cases z)) hts) (λf s6 q6=>?_) λ_ _ z=>z
 cases f with
 |next=>obtain⟨Z6,H6,I6,q6⟩:=q6;exact⟨Z6,H6,I6.unX J5.ok,q6⟩
 |brk=>obtain⟨Z6,H6,I6,q6⟩:=q6;exact⟨Z6,H6,I6.unX J5.ok,q6⟩
 |cont=>obtain⟨Z6,H6,I6,q6⟩:=q6;exact⟨Z6,H6,I6.unX J5.ok,q6⟩
 |ret u=>obtain⟨v6,Z6,H6,I6,r6,q6⟩:=q6;exact⟨v6,Z6,H6,I6.unX J5.ok,r6,q6⟩
end
end L2
namespace HZ
open PySem PySem.Builtin
section
variable {prog:E7}{w:FA}{A:FC}{E:E2->E4->Prop}{s:E4}
theorem turn_item {c p:Ez}{k:Nat}{xs:Array E2}{x:E2}{Q:E2->E4->Prop}(hc:s.heap.IsTupleIter c p k)(hp:s.heap.IsTuple p xs)(hx:xs[k]?=some x)
  (h:∀g,g.IsTupleIter c p (k+1)->Heap.SameBut c s.heap g->Q x {s with heap:=g}):E6 (model prog w) A (SmallTypes.nextOf (.ref c)) Q E s:=by
 obtain⟨oc,gc,kc,dc⟩:=id hc
 obtain⟨op,gp,kp,np,dp⟩:=id hp
 unfold SmallTypes.nextOf
 refine Ey (FW (name:=A2 "__next__") hc.typeIs EZ (FQ EZ hc.typeIs F.entry_tuple_iterator_next ?_ (F.args_tuple_iterator_next_1 _)))
 show E6 _ _ (field (.ref c) 0 >>= _) _ _ s
 refine Ey (FM gc dc (x:= .ref p) rfl ?_)
 rw[if_neg (show¬((Ab p==At)=true) by simp)]
 refine Ey (FM gc dc (x:= .int k 0) rfl ?_)
 refine Ey (FR gp dp ?_)
 simp only[Bu,hx]
 have dd:=Cc dc (·.setIfInBounds 1 (FO ((k:Int)+1)))
 refine Ey (Fw gc dc (by simp) (E5 ⟨x,rfl,E5 (h _ ⟨_,BP _ gc (Cs dd),(Dw ..).trans kc,?_⟩ (BS ..))⟩))
 rw[dd];simp[FO]
structure ZD (z a b c d p q:Ez):Prop where
 zb:z≠b
 zc:z≠c
 zd:z≠d
 bc:b≠c
 bd:b≠d
 cd:c≠d
 a4:a≠z/\a≠b/\a≠c/\a≠d
 p4:p≠z/\p≠b/\p≠c/\p≠d
 q4:q≠z/\q≠b/\q≠c/\q≠d
theorem itAt {h h':E9}{c p:Ez}{k:Nat}(i:h.IsTupleIter c p k)(f:∀o,h.get? c=some o->h'.get? c=some o):h'.IsTupleIter c p k:=let⟨o,g,r⟩:=i;⟨o,f o g,r⟩
theorem tpAt {h h':E9}{p:Ez}{xs:Array E2}(i:h.IsTuple p xs)(f:∀o,h.get? p=some o->h'.get? p=some o):h'.IsTuple p xs:=let⟨o,g,r⟩:=i;⟨o,f o g,r⟩
variable {z a b c d p q:Ez}{u v x y:E2}{k:Nat}{xs ys:Array E2}
end
abbrev ti (p:Ez):FF:={cls:= .type "tuple_iterator",data:= .fields #[.ref p,.int 0 0]}
section
variable {prog:E7}{w:FA}{A:FC}{E:E2->E4->Prop}{s:E4}{p q:Ez}{xs ys:Array E2}
end
end HZ
namespace L2
open PySem PySem.Spec PyProof.Rows
section
variable {X:Cx}{pins:List (Ez×FF)}{Z:St}{H:Hp}{s:E4}{h':E9}
theorem zd_new (n p q:Nat)(h1:p<n)(h2:q<n):HZ.ZD (n+4) (n+2) (n+3) n (n+1) p q:=
 ⟨show(n+4:Nat)≠n+3 by lia,show(n+4:Nat)≠n by lia,show(n+4:Nat)≠n+1 by lia,show(n+3:Nat)≠n by lia,show(n+3:Nat)≠n+1 by lia,show(n:Nat)≠n+1 by lia,
  ⟨show(n+2:Nat)≠n+4 by lia,show(n+2:Nat)≠n+3 by lia,show(n+2:Nat)≠n by lia,show(n+2:Nat)≠n+1 by lia⟩,
  ⟨show(p:Nat)≠n+4 by lia,show(p:Nat)≠n+3 by lia,show(p:Nat)≠n by lia,show(p:Nat)≠n+1 by lia⟩,
  ⟨show(q:Nat)≠n+4 by lia,show(q:Nat)≠n+3 by lia,show(q:Nat)≠n by lia,show(q:Nat)≠n+1 by lia⟩⟩
theorem boot_zip:Ff (A2 "zip")=some (BQ "zip"):=by decide +kernel
end
end L2
namespace HM
open PySem
section
variable {prog:E7}{w:FA}{A:FC}{E:E2->E4->Prop}{s:E4}
end
end HM
namespace L2
open PySem PySem.Spec PyProof.Rows
section
variable {X:Cx}
inductive ZL1 (Q:VK)(x:V)(H1:Hp):Prop
 |mk:∀y,(x= .str y)->((reprText y).length<=sizeLine)->(Q (.str (reprText y)) H1)->ZL1 Q x H1
def tFmtR (te:TE):TE:=λZ H Q=>te Z H λx H1=>ZL1 Q x H1
theorem ZKm {e:FD}{te:TE}{pos:Pos}(he:PE X e te):PE X (.FormattedValue e 114 none pos) (tFmtR te):=by
 intro pins s Z H Q I h
 refine Gg (thn (he pins s Z H _ I h) λv s1 ⟨x,H1,I1,r1,q1⟩=>?_)
 obtain⟨y,rfl,hy,q⟩:=q1
 obtain⟨t,rfl⟩:=r1
 refine pyReprObj_str ?_ hy
 exact GT ⟨.str _,H1,I1.tok _,⟨_,rfl⟩,q⟩ ⟨.str _,H1,I1.tok _,⟨_,rfl⟩,q⟩ hy
end
section
variable {P:E7}{w:FA}{K:AB}{mg:E3->Option E2}{base:E9}
theorem Fun.okE {x qual:E3}{st:FS}{f:Ez}{fd:FJ}{N ps:List E3}{k:Nat}{sp:Sp}(F:Fun K x qual st f fd)(S:ZAS N ps (ZAF st))(len:∀vs H Q E,sp vs H Q E->vs.length=ps.length)
  (hbody:∀(cdv:E2) (A:FC) (outer:List Env) (s:E4) (H:Hp) (vs:List V) (Q:VK) (E:XK),Room k (A.deeper (envOfC qual (ZAF st) s.heap.objs.size f cdv))->sp vs H Q E->
   ∃t,PSs (cxOf (CXE P w) P w K mg base N qual (ZAF st) f cdv A outer s H E) (ZAM st) t/\t {nx:=λ_ H'=>Q .non H',rt:=Q} (start N vs) H):FnOk P w K mg base (CXE P w) (k+1) f fd ps sp:=by
 obtain⟨oc,od,kV,doc,pm,an,cdv,ct,osl,rfl,lk,hcd⟩:=F.ex
 exact fn_of lk hcd S len λA outer s H vs Q E hr hsp=>hbody cdv A outer s H vs Q E hr hsp
theorem ZNX {h:E9}{x:E3}{C:Ez}{bm:List E2}{newId:String}(X:K.In h)(g:mg x=some (.ref C))(q:Dg K C bm newId=true):OwnCls x C bm newId mg h:=by
 refine⟨g,?_⟩
 unfold Dg at q
 split at q
 ·rename_i e0 rec0 sl0 lk0
  split at q
  ·rename_i C0 rest0 q0 q1 q2 q3 n0 q5 em es0
   rw[BK,BK,BK,BK,BK] at q
   obtain⟨⟨⟨⟨⟨f1,f2⟩,f3⟩,f4⟩,f5⟩,f6⟩:=q
   have g1:C0=C:=by simpa using f1
   have g2:n0=newId:=by simpa using f2
   subst g1 g2
   obtain⟨c1,c2,c3,c4,c5,c6,c7,c8,c9,c10,c11⟩:=rec0
   obtain⟨l0⟩:=sl0
   have es1:l0=_:=es0
   have em1:c3=_:=em
   have f31:c11=false:=by simpa using f3
   subst es1 em1 f31
   exact⟨rest0,c4,c1,c5,c2,c6,c7,c8,c9,c10,e0,q0,q1,q2,q3,q5,_,X _ _ lk0,.of_isNs (PySem.W.isNs_of_in X f5),PySem.W.nsMap_none_of_in X f5 (by simpa using f6),PySem.W.tail_of_in X f4⟩
  ·cases q
 ·cases q
end
end L2
namespace HS
open PySem PySem.W PyProof.Rows
def ev (lt:Nat->Nat->Bool){α:Type}:KasT α->α
 | .ret a=>a
 | .ask i j k=>ev lt (k (lt i j))
theorem ZDh (lt:Nat->Nat->Bool){α β:Type}(f:α->KasT β):∀t:KasT α,ev lt (t.bind f)=ev lt (f (ev lt t))
 | .ret _=>rfl
 | .ask i j k=>ZDh lt f (k (lt i j))
structure Ord (lt:Nat->Nat->Bool):Prop where
 tot:∀a b,lt a b=true->lt b a=false
 tr:∀a b c,lt b a=false->lt c b=false->lt c a=false
section
variable {lt:Nat->Nat->Bool}(O:Ord lt)
abbrev P (p:Array Nat)(i:Nat):Nat:=p.getD i 0
theorem P_eq {p p':Array Nat}{i j:Nat}(h:p[i]?=p'[j]?):P p i=P p' j:=by
 unfold P
 rw[EB,EB,h]
def S (lt:Nat->Nat->Bool)(p:Array Nat)(k:Nat):Prop:=∀i j,i<=j->j<k->lt (P p j) (P p i)=false
def D (lt:Nat->Nat->Bool)(p:Array Nat)(k:Nat):Prop:=∀i j,i<=j->j<k->lt (P p i) (P p j)=false
include O in
theorem rfl_ (a:Nat):lt a a=false:=by
 cases h:lt a a with
 |false=>rfl
 |true=>rw[O.tot a a h] at h;cases h
include O in
theorem S_step {p:Array Nat}{n:Nat}(h1:1<=n)(hs:S lt p n)(h:lt (P p n) (P p (n-1))=false):S lt p (n+1):=λi j hij hj=>by
 by_cases e:j=n
 ·subst e
  by_cases e2:i=j
  ·subst e2;exact rfl_ O _
  ·exact O.tr _ _ _ (hs i (j-1) (by lia) (by lia)) h
 ·exact hs i j hij (by lia)
include O in
theorem ZHg {p:Array Nat}{n:Nat}(h1:1<=n)(hs:D lt p n)(h:lt (P p (n-1)) (P p n)=false):D lt p (n+1):=λi j hij hj=>by
 by_cases e:j=n
 ·subst e
  by_cases e2:i=j
  ·subst e2;exact rfl_ O _
  ·exact O.tr _ _ _ h (hs i (j-1) (by lia) (by lia))
 ·exact hs i j hij (by lia)
include O in
theorem ZLt (p:Array Nat):∀(f n:Nat),1<=n->S lt p n->n<=ev lt (Fd p f n)/\ev lt (Fd p f n)<=n+f/\S lt p (ev lt (Fd p f n))
 |0,n,_,hs=>⟨AK _,AK _,hs⟩
 |f+1,n,h1,hs=>by
  show n<=ev lt (if lt (P p n) (P p (n-1))=true then .ret n else Fd p f (n+1))/\ev lt (if lt (P p n) (P p (n-1))=true then .ret n else Fd p f (n+1))<=n+(f+1)/\S lt p (ev lt (if lt (P p n) (P p (n-1))=true then .ret n else Fd p f (n+1)))
  cases h:lt (P p n) (P p (n-1)) with
  |true=>rw[if_pos rfl];exact⟨AK _,CO _ _,hs⟩
  |false=>
   rw[if_neg AM]
   have ih:=ZLt p f (n+1) (by lia) (S_step O h1 hs h)
   exact⟨by lia,by lia,ih.2.2⟩
theorem ZF9 (p:Array Nat)(i j:Nat):(Ft p i j).size=p.size:=mirror_size _ _ _ _
theorem ZBR (p:Array Nat)(i j:Nat):(Ft p i j).Perm p:=mirror_perm _ _ _ _
theorem ZKV {p:Array Nat}{i j:Nat}(hj:j<=p.size)(k:Nat):P (Ft p i j) k=if i<=k/\k<j then P p (i+j-1-k) else P p k:=by
 have:=getElem?_mirror_all (xs:=p) (i:=i) hj k
 split
 ·rename_i h
  rw[if_pos h] at this
  exact P_eq this
 ·rename_i h
  rw[if_neg h] at this
  exact P_eq this
def Eqv (lt:Nat->Nat->Bool)(a b:Nat):Prop:=lt a b=false/\lt b a=false
include O in
theorem ZH0 {p:Array Nat}{i j:Nat}(hj:j<=p.size)(h:∀k,i<=k->k<j->Eqv lt (P p k) (P p (j-1)))(k:Nat):Eqv lt (P (Ft p i j) k) (P p k):=by
 rw[ZKV hj]
 split
 ·rename_i hk
  have a:=h (i+j-1-k) (by lia) (by lia)
  have b:=h k hk.1 hk.2
  exact⟨O.tr _ _ _ b.2 a.1,O.tr _ _ _ a.2 b.1⟩
 ·exact⟨rfl_ O _,rfl_ O _⟩
include O in
theorem ZPD {p p':Array Nat}{n:Nat}(h:D lt p n)(e:∀k,Eqv lt (P p' k) (P p k)):D lt p' n:=λi j hij hj=>
 O.tr _ _ _ (O.tr _ _ _ (e j).2 (h i j hij hj)) (e i).1
structure Dn (lt:Nat->Nat->Bool)(p0 p:Array Nat)(n q lo hi:Nat):Prop where
 perm:p.Perm p0
 d:D lt p n
 low:lo<=n
 high:n<=hi
 qn:q+1<=n
 eq:∀k,n-(q+1)<=k->k<n->Eqv lt (P p k) (P p (n-1))
include O in
theorem ZGS:∀(f:Nat) (p:Array Nat) (n q:Nat),1<=n->n+f<=p.size->D lt p n->q+1<=n->(∀k,n-(q+1)<=k->k<n->Eqv lt (P p k) (P p (n-1)))->
  Dn lt p (ev lt (Fg f p n q)).1 (ev lt (Fg f p n q)).2.1 (ev lt (Fg f p n q)).2.2 n (n+f)
 |0,p,n,q,_,_,hd,hq,he=>⟨B8 _,hd,AK _,AK _,hq,he⟩
 |f+1,p,n,q,h1,hz,hd,hq,he=>by
  have one:∀(p':Array Nat) (n':Nat),∀k,n'+1-(0+1)<=k->k<n'+1->Eqv lt (P p' k) (P p' (n'+1-1)):=λp' n' k a b=>by
   have:k=n':=by lia
   subst this
   exact⟨rfl_ O _,rfl_ O _⟩
  have up:∀{p0 p':Array Nat} {m r:Nat},p0.Perm p->Dn lt p0 p' m r (n+1) (n+1+f)->Dn lt p p' m r n (n+(f+1)):=λ{p0 p' m r} hp h=>⟨h.perm.trans hp,h.d,by have:=h.low;lia,by have:=h.high;lia,h.qn,h.eq⟩
  have step:ev lt (Fg (f+1) p n q)=if lt (P p n) (P p (n-1))=true then(if q>0 then ev lt (Fg f (Ft p (n-(q+1)) n) (n+1) 0) else ev lt (Fg f p (n+1) 0))
    else if lt (P p (n-1)) (P p n)=true then(p,n,q) else ev lt (Fg f p (n+1) (q+1)):=by
   show ev lt (if lt (P p n) (P p (n-1))=true then _ else _)=_
   cases lt (P p n) (P p (n-1)) with
   |true=>rw[if_pos rfl,if_pos rfl];split<;>rfl
   |false=>
    rw[if_neg AM,if_neg AM]
    show ev lt (if lt (P p (n-1)) (P p n)=true then _ else _)=_
    cases lt (P p (n-1)) (P p n) with
    |true=>rw[if_pos rfl,if_pos rfl];rfl
    |false=>rw[if_neg AM,if_neg AM]
  rw[step]
  cases hc:lt (P p n) (P p (n-1)) with
  |true=>
   rw[if_pos rfl]
   have hle:=O.tot _ _ hc
   split
   ·have hev:=ZH0 O (p:=p) (i:=n-(q+1)) (j:=n) (by lia) he
    have hd':D lt (Ft p (n-(q+1)) n) (n+1):=ZHg O h1 (ZPD O hd hev) (O.tr _ _ _ (O.tr _ _ _ (hev n).2 hle) (hev (n-1)).1)
    exact up (ZBR _ _ _) (ZGS f _ (n+1) 0 (by lia) (by rw[ZF9];lia) hd' (by lia) (one _ _))
   ·exact up (B8 _) (ZGS f p (n+1) 0 (by lia) (by lia) (ZHg O h1 hd hle) (by lia) (one _ _))
  |false=>
   rw[if_neg AM]
   cases hb:lt (P p (n-1)) (P p n) with
   |true=>rw[if_pos rfl];exact⟨B8 _,hd,AK _,CO _ _,hq,he⟩
   |false=>
    rw[if_neg AM]
    refine up (B8 _) (ZGS f p (n+1) (q+1) (by lia) (by lia) (ZHg O h1 hd hb) (by lia) λk a b=>?_)
    have e1:Eqv lt (P p (n-1)) (P p n):=⟨hb,hc⟩
    show Eqv lt (P p k) (P p n)
    by_cases e:k=n
    ·subst e;exact⟨rfl_ O _,rfl_ O _⟩
    ·have:=he k (by lia) (by lia)
     exact⟨O.tr _ _ _ e1.1 this.1,O.tr _ _ _ this.2 e1.2⟩
structure Up (lt:Nat->Nat->Bool)(p0:Array Nat)(r:Nat×Array Nat)(hi:Nat):Prop where
 perm:r.2.Perm p0
 s:S lt r.2 r.1
 lo:1<=r.1
 hi:r.1<=hi
include O in
theorem ZIa (n nrem:Nat)(p:Array Nat)(h1:1<=n)(hn:n<=nrem)(hz:nrem<=p.size)(hd:D lt p n):Up lt p (ev lt (Gm n nrem p)) nrem:=by
 have e:ev lt (Gm n nrem p)=(ev lt (Fd (Ft p 0 n) (nrem-n) n),Ft p 0 n):=ZDh lt _ _
 have hs:S lt (Ft p 0 n) n:=λi j hij hj=>by
  rw[ZKV (by lia),ZKV (by lia),if_pos ⟨by lia,hj⟩,if_pos ⟨by lia,by lia⟩]
  exact hd _ _ (by lia) (by lia)
 have a:=ZLt O (Ft p 0 n) (nrem-n) n h1 hs
 rw[e]
 exact⟨ZBR _ _ _,a.2.2,by show 1<=ev lt _;lia,by show ev lt _<=nrem;lia⟩
include O in
theorem ZEm (n nrem:Nat)(p:Array Nat)(hn:n+1<=nrem)(hz:nrem<=p.size)(hd:D lt p (n+1)):Up lt p (ev lt (GW n nrem p)) nrem:=by
 have h:=ZGS O (nrem-(n+1)) p (n+1) 0 (by lia) (by lia) hd (by lia) λk a b=>by
  have:k=n:=by lia
  subst this
  exact⟨rfl_ O _,rfl_ O _⟩
 have e:ev lt (GW n nrem p)=ev lt (if(ev lt (Fg (nrem-(n+1)) p (n+1) 0)).2.2>0 then Gm (ev lt (Fg (nrem-(n+1)) p (n+1) 0)).2.1 nrem (Ft (ev lt (Fg (nrem-(n+1)) p (n+1) 0)).1 ((ev lt (Fg (nrem-(n+1)) p (n+1) 0)).2.1-((ev lt (Fg (nrem-(n+1)) p (n+1) 0)).2.2+1)) (ev lt (Fg (nrem-(n+1)) p (n+1) 0)).2.1) else Gm (ev lt (Fg (nrem-(n+1)) p (n+1) 0)).2.1 nrem (ev lt (Fg (nrem-(n+1)) p (n+1) 0)).1):=ZDh lt _ _
 rw[e]
 generalize ev lt (Fg (nrem-(n+1)) p (n+1) 0)=r at h
 obtain⟨p',m,q⟩:=r
 have hsz:p'.size=p.size:=h.perm.size_eq
 have hlo:=h.low
 have hhi:=h.high
 dsimp only at*
 split
 ·have hev:=ZH0 O (p:=p') (i:=m-(q+1)) (j:=m) (by lia) h.eq
  have a:=ZIa O m nrem (Ft p' (m-(q+1)) m) (by lia) (by lia) (by rw[ZF9];lia) (ZPD O h.d hev)
  exact⟨(a.perm.trans (ZBR _ _ _)).trans h.perm,a.s,a.lo,a.hi⟩
 ·have a:=ZIa O m nrem p' (by lia) (by lia) (by lia) h.d
  exact⟨a.perm.trans h.perm,a.s,a.lo,a.hi⟩
include O in
theorem ZNF (nrem:Nat)(p:Array Nat)(h1:1<=nrem)(hz:nrem<=p.size):Up lt p (ev lt (GF nrem p)) nrem:=by
 have s1:S lt p 1:=λi j hij hj=>by
  have:i=j:=by lia
  subst this
  exact rfl_ O _
 have a:=ZLt O p (nrem-1) 1 (AK _) s1
 have e:ev lt (GF nrem p)=ev lt (if(ev lt (Fd p (nrem-1) 1)==nrem)=true then .ret (ev lt (Fd p (nrem-1) 1),p) else if ev lt (Fd p (nrem-1) 1)>1 then .ask (P p 0) (P p (ev lt (Fd p (nrem-1) 1)-1)) λc=>if c=true then .ret (ev lt (Fd p (nrem-1) 1),p) else GW (ev lt (Fd p (nrem-1) 1)) nrem (Ft p 0 (ev lt (Fd p (nrem-1) 1))) else GW (ev lt (Fd p (nrem-1) 1)) nrem p):=ZDh lt _ _
 have stop:∀f n,1<=n->ev lt (Fd p f n)<n+f->lt (P p (ev lt (Fd p f n))) (P p (ev lt (Fd p f n)-1))=true:=λf=>by
  induction f with
  |zero=>intro n _ h;exact absurd h (BM _)
  |succ f ih=>
   intro n hn h
   have st:ev lt (Fd p (f+1) n)=if lt (P p n) (P p (n-1))=true then n else ev lt (Fd p f (n+1)):=by
    show ev lt (if lt (P p n) (P p (n-1))=true then _ else _)=_
    split<;>rfl
   rw[st] at h ⊢
   cases hc:lt (P p n) (P p (n-1)) with
   |true=>rw[if_pos rfl];exact hc
   |false=>
    rw[hc,if_neg AM] at h
    rw[if_neg AM]
    exact ih (n+1) (by lia) (by lia)
 have hst:=stop (nrem-1) 1 (AK _)
 rw[e]
 generalize ev lt (Fd p (nrem-1) 1)=n at a hst
 obtain⟨a1,a2,a3⟩:=a
 split
 ·exact⟨B8 _,a3,a1,by show n<=nrem;lia⟩
 ·rename_i hne
  have hne':n≠nrem:=λz=>hne (by simp[z])
  have hlt:=hst (by lia)
  split
  ·show Up lt p (ev lt (if lt (P p 0) (P p (n-1))=true then _ else _)) nrem
   cases hc:lt (P p 0) (P p (n-1)) with
   |true=>rw[if_pos rfl];exact⟨B8 _,a3,a1,by show n<=nrem;lia⟩
   |false=>
    rw[if_neg AM]
    have eq:∀k,0<=k->k<n->Eqv lt (P p k) (P p (n-1)):=λk _ hk=>⟨O.tr _ _ _ (O.tr _ _ _ hc (a3 0 k (by lia) hk)) (rfl_ O _),a3 k (n-1) (by lia) (by lia)⟩
    have hev:=ZH0 O (p:=p) (i:=0) (j:=n) (by lia) eq
    have d0:D lt p n:=λi j hij hj=>O.tr _ _ _ (eq j (by lia) hj).2 (eq i (by lia) (by lia)).1
    have d1:D lt (Ft p 0 n) (n+1):=ZHg O a1 (ZPD O d0 hev) (O.tr _ _ _ (O.tr _ _ _ (hev n).2 (O.tot _ _ hlt)) (hev (n-1)).1)
    have a:=ZEm O n nrem (Ft p 0 n) (by lia) (by rw[ZF9];lia) d1
    exact⟨a.perm.trans (ZBR _ _ _),a.s,a.lo,a.hi⟩
  ·have hn1:n=1:=by lia
   subst hn1
   have d0:D lt p 1:=λi j hij hj=>by
    have:i=j:=by lia
    subst this
    exact rfl_ O _
   exact ZEm O 1 nrem p (by lia) hz (ZHg O (AK _) d0 (O.tot _ _ hlt))
include O in
theorem ZGD (p:Array Nat)(k:Nat)(hS:S lt p k):∀(f l r:Nat),l<=r->r<=k->r-l<=f->(∀i,i<l->lt (P p k) (P p i)=false)->(∀i,r<=i->i<k->lt (P p i) (P p k)=false)->
  ev lt (GG p k f l r)<=k/\(∀i,i<ev lt (GG p k f l r)->lt (P p k) (P p i)=false)/\∀i,ev lt (GG p k f l r)<=i->i<k->lt (P p i) (P p k)=false
 |0,l,r,h1,h2,h3,hlo,hhi=>by
  have:l=r:=by lia
  subst this
  exact⟨h2,hlo,hhi⟩
 |f+1,l,r,h1,h2,h3,hlo,hhi=>by
  have step:ev lt (GG p k (f+1) l r)=if l ≥ r then l else if lt (P p k) (P p ((l+r) / 2))=true then ev lt (GG p k f l ((l+r) / 2)) else ev lt (GG p k f ((l+r) / 2+1) r):=by
   show ev lt (if l ≥ r then _ else _)=_
   split
   ·rfl
   ·show ev lt (if lt (P p k) (P p ((l+r) / 2))=true then _ else _)=_
    split<;>rfl
  rw[step]
  split
  ·have:l=r:=by lia
   subst this
   exact⟨h2,hlo,hhi⟩
  ·cases hc:lt (P p k) (P p ((l+r) / 2)) with
   |true=>
    rw[if_pos rfl]
    exact ZGD p k hS f l ((l+r) / 2) (by lia) (by lia) (by lia) hlo λi a b=>O.tr _ _ _ (O.tot _ _ hc) (hS _ i a b)
   |false=>
    rw[if_neg AM]
    exact ZGD p k hS f ((l+r) / 2+1) r (by lia) h2 (by lia) (λi a=>O.tr _ _ _ (hS i ((l+r) / 2) (by lia) (by lia)) hc) hhi
include O in
theorem ZNl:∀(f:Nat) (p:Array Nat) (k:Nat),S lt p k->k+f<=p.size->(ev lt (Gu f p k)).Perm p/\S lt (ev lt (Gu f p k)) (k+f)
 |0,p,k,hs,_=>⟨B8 _,hs⟩
 |f+1,p,k,hs,hz=>by
  have e:ev lt (Gu (f+1) p k)=ev lt (Gu f (bubble p k (k-ev lt (GG p k k 0 k))) (k+1)):=ZDh lt _ _
  obtain⟨b1,b2,b3⟩:=ZGD O p k hs k 0 k (Aq _) (AK _) (by lia) (λi h=>absurd h (Nat.not_lt_zero _)) (λi a b=>by lia)
  rw[e]
  generalize ev lt (GG p k k 0 k)=l at b1 b2 b3
  have at_:∀i,P (bubble p k (k-l)) i=if i=l then P p k else if l<i/\i<=k then P p (i-1) else P p i:=λi=>by
   have:=getElem?_bubble (xs:=p) (src:=k) (by lia) (k-l) (by lia) i
   have e1:k-(k-l)=l:=by lia
   rw[e1] at this
   repeat' split
   ·rename_i h;rw[if_pos h] at this;exact P_eq this
   ·rename_i h h2;rw[if_neg h,if_pos h2] at this;exact P_eq this
   ·rename_i h h2;rw[if_neg h,if_neg h2] at this;exact P_eq this
  have hs':S lt (bubble p k (k-l)) (k+1):=λi j hij hj=>by
   rw[at_,at_]
   by_cases ei:i=l
   ·rw[if_pos ei]
    by_cases ej:j=l
    ·rw[if_pos ej];exact rfl_ O _
    ·rw[if_neg ej,if_pos ⟨by lia,by lia⟩];exact b3 (j-1) (by lia) (by lia)
   ·rw[if_neg ei]
    by_cases ej:j=l
    ·rw[if_pos ej,if_neg (by lia)];exact b2 i (by lia)
    ·rw[if_neg ej]
     by_cases hi:l<i/\i<=k
     ·rw[if_pos hi,if_pos ⟨by lia,by lia⟩];exact hs _ _ (by lia) (by lia)
     ·rw[if_neg hi]
      by_cases hj':l<j/\j<=k
      ·rw[if_pos hj'];exact hs _ _ (by lia) (by lia)
      ·rw[if_neg hj'];exact hs _ _ hij (by lia)
  have ih:=ZNl f (bubble p k (k-l)) (k+1) hs' (by rw[bubble_size];lia)
  refine⟨ih.1.trans (bubble_perm _ _ _),?_⟩
  have e2:k+(f+1)=k+1+f:=by lia
  rw[e2]
  exact ih.2
include O in
theorem ZKI (n:Nat)(h1:1<=n):(ev lt (GD n)).Perm (Av n).toArray/\S lt (ev lt (GD n)) n:=by
 have hz:(Av n).toArray.size=n:=by simp
 have c:=ZNF O n (Av n).toArray h1 (by lia)
 have e:ev lt (GD n)=ev lt (if(ev lt (GF n (Av n).toArray)).1<n then Gu (n-max (ev lt (GF n (Av n).toArray)).1 1) (ev lt (GF n (Av n).toArray)).2 (max (ev lt (GF n (Av n).toArray)).1 1) else .ret (ev lt (GF n (Av n).toArray)).2):=ZDh lt _ _
 rw[e]
 generalize ev lt (GF n (Av n).toArray)=r at c
 obtain⟨m,p⟩:=r
 have hp:p.size=n:=c.perm.size_eq.trans hz
 have hlo:=c.lo
 have hhi:=c.hi
 dsimp only at*
 have em:max m 1=m:=by lia
 split
 ·rw[em]
  have b:=ZNl O (n-m) p m c.s (by lia)
  have e2:m+(n-m)=n:=by lia
  rw[e2] at b
  exact⟨b.1.trans c.perm,b.2⟩
 ·have:m=n:=by lia
  subst this
  exact⟨c.perm,c.s⟩
end
theorem ZOL {α:Type}(vs:List α)(d:α)(lt:α->α->Bool)(tot:∀a b,lt a b=true->lt b a=false)(tr:∀a b c,lt b a=false->lt c b=false->lt c a=false)(h1:1<=vs.length):
  ((ev (λi j=>lt (vs.getD i d) (vs.getD j d)) (GD vs.length)).toList.map λi=>vs.getD i d).Perm vs/\
   ((ev (λi j=>lt (vs.getD i d) (vs.getD j d)) (GD vs.length)).toList.map λi=>vs.getD i d).Pairwise λa b=>lt b a=false:=by
 have O:Ord (λi j=>lt (vs.getD i d) (vs.getD j d)):=⟨λa b h=>tot _ _ h,λa b c h1 h2=>tr _ _ _ h1 h2⟩
 obtain⟨hp,hs⟩:=ZKI O vs.length h1
 generalize ev (λi j=>lt (vs.getD i d) (vs.getD j d)) (GD vs.length)=p at hp hs
 have hpl:p.toList.Perm (Av vs.length):=by simpa using hp.toList
 have hsz:p.size=vs.length:=by simpa using hp.size_eq
 refine⟨?_,?_⟩
 ·have e:(Av vs.length).map (λi=>vs.getD i d)=vs:=by
   apply Cn
   intro i
   rw[AS]
   by_cases hi:i<vs.length
   ·rw[Dl hi,AG hi]
    simp[AT,hi]
   ·rw[BO (by simpa using hi),BO (by lia)]
    rfl
  have:=hpl.map (λi=>vs.getD i d)
  rw[e] at this
  exact this
 ·rw[Aa,ET]
  intro i j hi hj hij
  have a:=hs i j (by lia) (by simpa[hsz] using hj)
  have e1:P p i=p.toList[i]:=by
   have hi':i<p.size:=by simpa using hi
   simp[P,DS,hi']
  have e2:P p j=p.toList[j]:=by
   have hj':j<p.size:=by simpa using hj
   simp[P,DS,hj']
  rw[e1,e2] at a
  exact a
def bel (n:Nat){α:Type}(R:α->Prop):KasT α->Prop
 | .ret a=>R a
 | .ask i j k=>i<n/\j<n/\∀b,bel n R (k b)
theorem ZCf {n:Nat}{α β:Type}{R:α->Prop}{T:β->Prop}{f:α->KasT β}(hf:∀a,R a->bel n T (f a)):∀t:KasT α,bel n R t->bel n T (t.bind f)
 | .ret a,h=>hf a h
 | .ask i j k,h=>⟨h.1,h.2.1,λb=>ZCf hf (k b) (h.2.2 b)⟩
theorem ZNL {n:Nat}{lt:Nat->Nat->Bool}{α:Type}{R:α->Prop}{cmp:Nat->Nat->(Bool->E4->Prop)->E4->Prop}{Q:α->E4->Prop}{s:E4}(hc:∀i j (C:Bool->E4->Prop),i<n->j<n->C (lt i j) s->cmp i j C s):∀t:KasT α,bel n R t->Q (ev lt t) s->t.kasWp cmp Q s
 | .ret _,_,h=>h
 | .ask i j k,hb,h=>hc i j _ hb.1 hb.2.1 (ZNL hc (k (lt i j)) (hb.2.2 _) h)
structure Ent (n:Nat)(p:Array Nat):Prop where
 pos:0<n
 all:∀y∈p.toList,y<n
theorem Ent.at {n:Nat}{p:Array Nat}(h:Ent n p)(x:Nat):P p x<n:=by
 by_cases hx:x<p.size
 ·have e:P p x=p[x]:=by simp[P,DS,hx]
  rw[e]
  exact h.all _ (by simp)
 ·have e:P p x=0:=by simp[P,DS,hx]
  rw[e]
  exact h.pos
theorem Ent.perm {n:Nat}{p q:Array Nat}(h:Ent n p)(hp:q.Perm p):Ent n q:=⟨h.pos,λy hy=>h.all y ((hp.toList.mem_iff).mp hy)⟩
theorem ZIO {n:Nat}{p:Array Nat}(h:Ent n p):∀(f m:Nat),bel n (λ_=>True) (Fd p f m)
 |0,_=>trivial
 |f+1,m=>⟨h.at _,h.at _,λb=>by
  cases b with
  |true=>exact trivial
  |false=>exact ZIO h f (m+1)⟩
theorem ZEJ {n:Nat}:∀(f:Nat) (p:Array Nat) (m q:Nat),Ent n p->bel n (λr:Array Nat×Nat×Nat=>Ent n r.1) (Fg f p m q)
 |0,_,_,_,h=>h
 |f+1,p,m,q,h=>⟨h.at _,h.at _,λb=>by
  cases b with
  |true=>
   show bel n _ (if q>0 then _ else _)
   split
   ·exact ZEJ f _ _ _ (h.perm (ZBR _ _ _))
   ·exact ZEJ f _ _ _ h
  |false=>
   refine⟨h.at _,h.at _,λc=>?_⟩
   cases c with
   |true=>exact h
   |false=>exact ZEJ f _ _ _ h⟩
theorem ZHL {n:Nat}{p:Array Nat}(h:Ent n p)(m r:Nat):bel n (λr:Nat×Array Nat=>Ent n r.2) (Gm m r p):=by
 refine ZCf (R:=λ_=>True) (λa _=>?_) _ (ZIO (h.perm (ZBR p 0 m)) _ _)
 exact h.perm (ZBR p 0 m)
theorem ZDu {n:Nat}{p:Array Nat}(h:Ent n p)(m r:Nat):bel n (λr:Nat×Array Nat=>Ent n r.2) (GW m r p):=by
 refine ZCf (λa ha=>?_) _ (ZEJ _ _ _ _ h)
 split
 ·exact ZHL (Ent.perm ha (ZBR _ _ _)) _ _
 ·exact ZHL ha _ _
theorem ZLp {n:Nat}{p:Array Nat}(h:Ent n p)(r:Nat):bel n (λr:Nat×Array Nat=>Ent n r.2) (GF r p):=by
 refine ZCf (λa _=>?_) _ (ZIO h _ _)
 split
 ·exact h
 ·split
  ·refine⟨h.at _,h.at _,λb=>?_⟩
   cases b with
   |true=>exact h
   |false=>exact ZDu (h.perm (ZBR _ _ _)) _ _
  ·exact ZDu h _ _
theorem ZEq {n:Nat}{p:Array Nat}(h:Ent n p)(k:Nat):∀f l r:Nat,bel n (λ_=>True) (GG p k f l r)
 |0,_,_=>trivial
 |f+1,l,r=>by
  show bel n _ (if l ≥ r then _ else _)
  split
  ·exact trivial
  ·refine⟨h.at _,h.at _,λb=>?_⟩
   cases b with
   |true=>exact ZEq h k f _ _
   |false=>exact ZEq h k f _ _
theorem ZLq {n:Nat}:∀(f:Nat) (p:Array Nat) (k:Nat),Ent n p->bel n (λ_=>True) (Gu f p k)
 |0,_,_,_=>trivial
 |f+1,p,k,h=>ZCf (λa _=>ZLq f _ _ (h.perm (bubble_perm _ _ _))) _ (ZEq h _ _ _ _)
theorem ZNJ {n:Nat}(h:0<n):bel n (λ_=>True) (GD n):=by
 refine ZCf (λa ha=>?_) _ (ZLp (n:=n) ⟨h,λy hy=>by simpa using hy⟩ n)
 split
 ·exact ZLq _ _ _ ha
 ·exact trivial
section
variable {prog:E7}{w:FA}{A:FC}{E:E2->E4->Prop}{s:E4}{κ:Type}
structure ZLw (lt:κ->κ->Bool)(ks:List κ)(d:κ)(p:List Nat):Prop where
 perm:p.Perm (Av ks.length)
 rise:p.Pairwise λi j=>lt (ks.getD j d) (ks.getD i d)=false
theorem ZMc (lt:κ->κ->Bool)(tot:∀a b,lt a b=true->lt b a=false)(tr:∀a b c,lt b a=false->lt c b=false->lt c a=false)(ks:List κ)(d:κ)(h1:1<=ks.length):
  ZLw lt ks d (ev (λi j=>lt (ks.getD i d) (ks.getD j d)) (GD ks.length)).toList:=by
 have O:Ord (λi j=>lt (ks.getD i d) (ks.getD j d)):=⟨λa b h=>tot _ _ h,λa b c h1 h2=>tr _ _ _ h1 h2⟩
 obtain⟨hp,hs⟩:=ZKI O ks.length h1
 generalize ev (λi j=>lt (ks.getD i d) (ks.getD j d)) (GD ks.length)=p at hp hs
 have hsz:p.size=ks.length:=by simpa using hp.size_eq
 refine⟨by simpa using hp.toList,?_⟩
 rw[ET]
 intro i j hi hj hij
 have a:=hs i j (by lia) (by simpa[hsz] using hj)
 have e1:P p i=p.toList[i]:=by
  have hi':i<p.size:=by simpa using hi
  simp[P,DS,hi']
 have e2:P p j=p.toList[j]:=by
  have hj':j<p.size:=by simpa using hj
  simp[P,DS,hj']
 rw[e1,e2] at a
 exact a
theorem ZH6 (lt:κ->κ->Bool)(ks:List κ)(d:κ)(h:ks.length<2):ZLw lt ks d (Av ks.length):=by
 refine⟨List.Perm.refl _,?_⟩
 match ks,h with
 | [],_=>exact DY
 | [_],_=>exact EX ..
 |_::_::_,h=>exact absurd h (by simp only[Ac];lia)
theorem ZKY (vs:List E2):((Av vs.length).map λi=>vs.getD i At)=vs:=by
 apply Cn
 intro i
 rw[AS]
 by_cases hi:i<vs.length
 ·rw[Dl hi,AG hi]
  simp[AT,hi]
 ·rw[BO (by simpa using hi),BO (by lia)]
  rfl
def Asks (prog:E7)(w:FA)(A:FC)(lt:κ->κ->Bool)(ks:List κ)(d:κ)(vs:List E2)(s:E4):Prop:=
 ∃kd:SortKind,(∀(Q:SortKind->E4->Prop) (E:E2->E4->Prop),Q kd s->E6 (model prog w) A (keyKind' vs.toArray) Q E s)/\
  ∀(i j:Nat) (C:Bool->E4->Prop),i<vs.length->j<vs.length->C (lt (ks.getD i d) (ks.getD j d)) s->E6 (model prog w) A (keyLt' kd (vs.getD i At) (vs.getD j At)) C (λ_ _=>False) s
theorem ZLI {lt:κ->κ->Bool}(tot:∀a b,lt a b=true->lt b a=false)(tr:∀a b c,lt b a=false->lt c b=false->lt c a=false){ks:List κ}{d:κ}{a:Ez}{vs:List E2}{n:Nat}{R:PySem.Fin->E4->Prop}
  (hl:ks.length=vs.length) (hob:s.heap.get? a=some (seqObj "list" vs.toArray n)) (h64:vs.length<64)
  (hk:2<=vs.length->∀h3,(∀b o,b≠a->s.heap.get? b=some o->h3.get? b=some o)->Asks prog w A lt ks d vs {s with heap:=h3})
  (h:∀p e h',ZLw lt ks d p->(∀b o,b≠a->s.heap.get? b=some o->h'.get? b=some o)->h'.get? a=some (seqObj "list" (p.map λi=>vs.getD i At).toArray e)->R (.done (.ret .none)) {s with heap:=h'}):
  E6 (model prog w) A (Builtin.«list.sort» ⟨[.ref a],[]⟩) R E s:=by
 have ha:a<s.heap.objs.size:=AI hob
 have sb1:=BS s.heap a (BF λ_=>(#[]:Array E2))
 obtain⟨ep1,hob1⟩:∃ep1,(s.heap.update a (BF λ_=>(#[]:Array E2))).get? a=some (seqObj "list" #[] ep1):=⟨_,GX hob λ_=>#[]⟩
 have keep:∀b o,b≠a->s.heap.get? b=some o->(((s.heap.update a (BF λ_=>(#[]:Array E2))).push (seqObj "tuple" vs.toArray 0)).push (seqObj "list" #[] 0)).get? b=some o:=λb o hb e=>
  AC _ (AC _ ((sb1.2 b hb).trans e))
 have here:(((s.heap.update a (BF λ_=>(#[]:Array E2))).push (seqObj "tuple" vs.toArray 0)).push (seqObj "list" #[] 0)).get? a=some (seqObj "list" #[] ep1):=AC _ (AC _ hob1)
 rw[list_sort_plain]
 refine Ey (listItems_at hob rfl ?_)
 refine Ey (listUpdate_at hob rfl ?_ (by rw[AO,FP];lia) (Aq _))
 refine Ey (seqEpoch_at hob1 rfl ?_)
 refine Ey (Ga ?_ (by show vs.length<=_;rw[FP];lia))
 refine Ey (Gz ?_ (Aq _))
 refine FK ?_
 show E6 (model prog w) A _ R E {s with heap:=((s.heap.update a (BF λ_=>(#[]:Array E2))).push (seqObj "tuple" vs.toArray 0)).push (seqObj "list" #[] 0)}
 generalize hh3:((s.heap.update a (BF λ_=>(#[]:Array E2))).push (seqObj "tuple" vs.toArray 0)).push (seqObj "list" #[] 0)=h3 at keep here
 dsimp only
 --the end,from the places
 have fin:∀(p:List Nat) (st':SortSt),ZLw lt ks d p->(arrOf st').map (·.2)=(p.map λi=>vs.getD i At).toArray->failedOf st'=none->p.length<=64->
   E6 (model prog w) A (do
    let touched:=(<-seqEpoch a)!=ep1
    Builtin.List.listUpdate (.ref a) λ_=>(arrOf st').map (·.2)
    if let some e:=failedOf st' then rule "list.sort.comparison-raised";throw e
    if touched then rule "list.sort.modified";raiseError "ValueError" "list modified during sort"
    ret .none) R E {s with heap:=h3}:=λp st' hO hout hf hpl=>by
  have s2:=BS h3 a (BF λ_=>(arrOf st').map (·.2))
  obtain⟨c2,hc2⟩:∃c2,(h3.update a (BF λ_=>(arrOf st').map (·.2))).get? a=some (seqObj "list" ((arrOf st').map (·.2)) c2):=⟨_,GX here λ_=>(arrOf st').map (·.2)⟩
  refine Ey (seqEpoch_at here rfl ?_)
  refine Ey (listUpdate_at here rfl ?_ (Aq _) (by rw[hout,AO,AA,FP];lia))
  rw[hf]
  simp only[bne_self_eq_false,Am,if_false]
  refine E5 (h p c2 _ hO (λb o hb e=>(s2.2 b hb).trans (keep b o hb e)) ?_)
  rw[hc2,hout]
 by_cases few:vs.toArray.size<2
 ·rw[if_pos few,if_pos few]
  refine Ey (E5 ?_)
  rw[StateT.run_pure]
  refine Ey (E5 ?_)
  dsimp only
  have hlv:vs.length<2:=by simpa using few
  refine fin (Av ks.length) (SortSt.mk' general' (vs.toArray.zip vs.toArray) #[] 7 none) (ZH6 lt ks d (by lia)) ?_ rfl (by simp;lia)
  show(vs.toArray.zip vs.toArray).map (·.2)=_
  rw[hl,ZKY]
  apply Dy.mp
  rw[Ex,Array.toList_zip,B7 (by simp)]
 ·have hlv:2<=vs.length:=by
   have:¬vs.length<2:=by simpa using few
   lia
  rw[if_neg few,if_neg few]
  obtain⟨kd,hkd,hask⟩:=hk hlv h3 keep
  refine Ey (hkd _ _ ?_)
  have run:=kat_run (prog:=prog) (w:=w) (A:=A) (E:=E) (s:={s with heap:=h3}) (κ:=kd) (ks:=vs) (vs:=vs)
   (Q:=λst' s'=>s'={s with heap:=h3}/\arrOf st'=(ev (λi j=>lt (ks.getD i d) (ks.getD j d)) (GD ks.length)).map (kas_item (vs.toArray.zip vs.toArray))/\failedOf st'=none)
   (G:=λp s'=>s'={s with heap:=h3}/\p=ev (λi j=>lt (ks.getD i d) (ks.getD j d)) (GD ks.length)) rfl hlv h64
   (λp st' s' _ har hf hG=>⟨hG.1,by rw[har,hG.2],hf⟩)
   (ZNL (n:=vs.length) (lt:=λi j=>lt (ks.getD i d) (ks.getD j d)) (R:=λ_=>True) (λi j C hi hj hC=>hask i j C hi hj hC) _ (ZNJ (by lia)) ⟨rfl,by rw[hl]⟩)
  refine Ey (FE run ?_ λ_ _ e=>e)
  rintro⟨⟨⟩,st'⟩ s' ⟨rfl,har,hf⟩
  dsimp only at har hf ⊢
  have hO:=ZMc lt tot tr ks d (by lia)
  refine fin _ st' hO ?_ hf ?_
  ·rw[har]
   apply Dy.mp
   rw[Array.map_map,Ex]
   refine Ah λi _=>?_
   show(kas_item (vs.toArray.zip vs.toArray) i).2=_
   rw[kat_item rfl]
  ·have:=hO.perm.length_eq
   rw[Ev] at this
   lia
end
end HS
namespace HD
open PySem
theorem entry_loop:entryFor table "dict.update.loop"=some Builtin.«dict.update.loop»:=entryFor_of_tree (by kernel_rfl)
theorem plain_loop:plainId "dict.update.loop"=true:=by decide +kernel
theorem ZOm:typeLookup (.type "tuple") "keys"=pure none:=by rw[GY,GE];kernel_rfl
theorem ZMq:typeLookup (.type "list") "keys"=pure none:=by rw[GY,GE];kernel_rfl
section
variable {prog:E7}{w:FA}{A:FC}{E:E2->E4->Prop}{s:E4}
theorem ZFQ {a:Ez}{o:FF}{xs:Array E2}{k:Nat}{Q:Option E2->E4->Prop}(gx:s.heap.get? a=some o)(hc:o.cls= .type "tuple")(hdat:o.data= .seq xs k)(hd:o.dict=none)(hA:A.handled=none)
  (h:∀h' tk,(∀b o,s.heap.get? b=some o->h'.get? b=some o)->Q none {s with heap:=h',toks:=tk}):E6 (model prog w) A (getAttr? (.ref a) "keys") Q E s:=by
 obtain⟨c,dct,dat,sl⟩:=o
 simp only at hc hdat hd
 subst hc hdat hd
 obtain⟨hp,gg,dd,tk,oo⟩:=s
 have tyT:∀tz,(⟨hp,gg,dd,tz,oo⟩:E4).TypeIs (.ref a) "tuple":=λ_=>⟨_,gx,rfl⟩
 have u1:=Gc
 have u3:=DK.lookup
 have u4:=DK.bind (.ref a)
 have u5:=am_tuple_getattr_none
 unfold getAttr? getAttrBy? getAttrBy
 repeat (any_goals (first|assumption|exact tyT _|((with_reducible show E6 _ _ (call (CB "tuple.__getattribute__") _ _) _ _ _);refine GM DK (tyT _) am_entry_tuple_getattribute (F.args_tuple_getattribute_2 _ _) (meets_getattribute_miss_tuple a xs k sl "keys" _ ZOm (by decide) (by size_fits)) ⟨gx,hA,λh' tz e gx'=>?_⟩)|wp_step))
 obtain⟨t',u',he⟩:=gx'.there
 show E6 _ _ (Fq _ _ _ _ _ _ _) _ _ _
 unfold Fq
 repeat (any_goals (first|assumption|wp_step))
 exact h h' tz gx'.of.keeps
end
section
variable {prog:E7}{w:FA}{A:FC}{E:E2->E4->Prop}{s:E4}{K:Type}[DecidableEq K]{knd:KeyKind prog w K}
def PairsAt (knd:KeyKind prog w K)(h:E9)(its:List E2)(kvs:List (K×E2)):Prop:=
 its.length=kvs.length/\∀(j:Nat) (v:E2) (kx:K×E2),its[j]?=some v->kvs[j]?=some kx->∃b ob key n,v=Ab b/\h.get? b=some ob/\ob.cls= .type "tuple"/\ob.data= .seq #[key,kx.2] n/\knd.is kx.1 key=true
structure St (knd:KeyKind prog w K)(h0:E9)(its:List E2)(kvs:List (K×E2))(a d it:Ez)(i:Nat)(h:E9):Prop where
 tup:h.IsTuple a its.toArray
 iter:h.IsTupleIter it a i
 dict:h.DictOf knd d (merged [] (kvs.take i))
 keep:∀b o,b≠d->b≠it->h0.get? b=some o->h.get? b=some o
theorem ZE6 {h h':E9}{a d:Ez}{xs:Array E2}(ht:h.IsTuple a xs)(hs:Heap.SameBut d h h')(hne:a≠d):h'.IsTuple a xs:=by
 obtain⟨o,ho,r⟩:=ht
 exact⟨o,(hs.2 a hne).trans ho,r⟩
theorem ZG6 {h h':E9}{a d it:Ez}{i:Nat}(ht:h.IsTupleIter it a i)(hs:Heap.SameBut d h h')(hne:it≠d):h'.IsTupleIter it a i:=by
 obtain⟨o,ho,r⟩:=ht
 exact⟨o,(hs.2 it hne).trans ho,r⟩
theorem ZMH {its:List E2}{kvs:List (K×E2)}{a d it:Ez}{h0:E9}{R:Result->E4->Prop}(hh:A.handled=none)(hP:PairsAt knd h0 its kvs)(hd:a≠d)(hit:a≠it)(hdi:d≠it)(hz:its.length<=1000)
  (hd0:h0.get? d=none) (hi0:h0.get? it=none) (hml:∀i,(merged [] (kvs.take i)).length<=1000)
  (hR:∀h tk,h.DictOf knd d (merged [] kvs)->(∀b o,b≠d->b≠it->h0.get? b=some o->h.get? b=some o)->R (.ok (.ret .none)) {s with heap:=h,toks:=tk}):
  ∀(m i:Nat) (h:E9) (tk:Nat),its.length-i=m->i<=its.length->St knd h0 its kvs a d it i h->Fj (model prog w) A (.builtin "dict.update.loop" ⟨[.ref d,.ref it,FO (i:Int),.none],[]⟩) R {s with heap:=h,toks:=tk}:=by
 intro m
 induction m with
 |zero=>
  intro i h tk hm hi st
  refine FI entry_loop ?_
  rw[An plain_loop _]
  show E6 _ A.in1 (FY (.ref it) >>= _) _ _ _
  refine Ey (GO hh st.iter st.tup (by simp;lia) λh' hk'=>?_)
  dsimp only
  refine Ey (m:=CH d []) (E5 (E5 (hR h' _ ?_ ?_)))
  ·have e:kvs.take i=kvs:=BH (by have:=hP.1;lia)
   have:=st.dict
   rw[e] at this
   exact this.extBut hk' hdi
  ·intro b o n1 n2 e
   exact hk' b o n2 (st.keep b o n1 n2 e)
 |succ m ih=>
  intro i h tk hm hi st
  refine FI entry_loop ?_
  rw[An plain_loop _]
  have hlt:i<its.length:=by lia
  have hlk:i<kvs.length:=by have:=hP.1;lia
  have hgi:its[i]?=some its[i]:=AG hlt
  have hgk:kvs[i]?=some kvs[i]:=AG hlk
  obtain⟨b,ob,key,n,ev,hb,hbc,hbd,hkey⟩:=hP.2 i _ _ hgi hgk
  have nb1:b≠d:=λz=>by rw[z,hd0] at hb;cases hb
  have nb2:b≠it:=λz=>by rw[z,hi0] at hb;cases hb
  show E6 _ A.in1 (FY (.ref it) >>= _) _ _ _
  refine Ey (GN (x:=its[i]) st.iter st.tup (by simp[hlt]) λh1 hI1 hs1=>?_)
  rw[ev]
  dsimp only
  have hb1:h1.get? b=some ob:=(hs1.2 b nb2).trans (st.keep b ob nb1 nb2 hb)
  have ty:∀tk',Shared.TypeIs ⟨h1,s.gens,s.drawn,tk',s.os⟩ (.ref b) "tuple":=λ_=>⟨ob,hb1,hbc⟩
  have hD1:h1.DictOf knd d (merged [] (kvs.take i)):=by
   have:=st.dict
   obtain⟨o,es,ep,ho,r⟩:=this
   exact⟨o,es,ep,(hs1.2 d hdi).trans ho,r⟩
  refine Ey (FK (Ey (FU ?_)))
  unfold CQ
  refine Ey (Fb (ty _) ?_)
  rw[if_pos (by decide)]
  refine Ey (FR hb1 hbd (E5 ?_))
  show E6 _ _ (holding [key,kvs[i].2] (dictSet d key kvs[i].2)) _ _ _
  refine FK (GZ hkey hD1 (λh2 hd2 hs2=>?_) (by have:=hml i;rw[FP];lia))
  refine E5 ⟨FN plain_loop _,ih (i+1) h2 _ (by lia) (by lia) ⟨?_,?_,?_,?_⟩⟩
  ·obtain⟨o,ho,r⟩:=st.tup
   exact ZE6 ⟨o,(hs1.2 a hit).trans ho,r⟩ hs2 hd
  ·exact ZG6 hI1 hs2 hdi.symm
  ·rw[merged_take_succ [] kvs i kvs[i] hgk]
   exact hd2
  ·intro b' o' n1 n2 e
   exact(hs2.2 b' n1).trans ((hs1.2 b' n2).trans (st.keep b' o' n1 n2 e))
theorem call_dict {a:Ez}{o:FF}{its:List E2}{n:Nat}{kvs:List (K×E2)}{Q:E2->E4->Prop}(hh:A.handled=none)(ho:s.heap.get? a=some o)(hc:o.cls= .type "tuple")(hdat:o.data= .seq its.toArray n)(hdn:o.dict=none)
  (hP:PairsAt knd s.heap its kvs) (hz:its.length<=1000)
  (h:∀h' tk,h'.DictOf knd s.heap.objs.size (merged [] kvs)->(∀b o,s.heap.get? b=some o->h'.get? b=some o)->Q (.ref s.heap.objs.size) {s with heap:=h',toks:=tk}):
  E6 (model prog w) A (call (.type "dict") [.ref a]) Q E s:=by
 refine callType_codes (Q₁:=λob1 s₁=>ob1= .ref s.heap.objs.size/\s₁={s with heap:=s.heap.push {cls:= .type "dict",data:= .dict #[]}}) Da (C8 _) DO (GS _ ⟨rfl,rfl⟩) ?_
 rintro ob1 s₁ ⟨rfl,rfl⟩
 have fresh0:(s.heap.push {cls:= .type "dict",data:= .dict #[]}).DictOf knd s.heap.objs.size []:=DE s.heap
 have hsz1:(s.heap.push {cls:= .type "dict",data:= .dict #[]}).objs.size=s.heap.objs.size+1:=BE ..
 have al:a<s.heap.objs.size:=AI ho
 have hoa:(s.heap.push {cls:= .type "dict",data:= .dict #[]}).get? a=some o:=AC _ ho
 refine⟨fresh0.typeIs,DG _ _,?_⟩
 unfold Builtin.«dict.__init__»
 refine Ey ?_
 unfold CG
 refine Ey (Fk fresh0.typeIs ?_)
 show E6 _ _ (pure (s.heap.objs.size,[Ab a])) _ _ _
 refine E5 ?_
 show E6 _ _ (BI "dict.__init__" s.heap.objs.size (.ref a) [] .none) _ _ _
 unfold BI
 refine Ey (Fb (T:="tuple") ⟨o,hoa,hc⟩ ?_)
 rw[if_pos (by decide)]
 refine Ey (ZFQ hoa hc hdat hdn hh λh2 tk2 k2=>?_)
 rw[if_pos (show(none:Option E2).isNone=true from rfl)]
 refine Ey (Fe ?_)
 have ht2:h2.IsTuple a its.toArray:=⟨o,k2 a o hoa,hc,n,hdat⟩
 refine Ey (GA ht2 ?_)
 obtain⟨od,_,_,hod,_⟩:=id fresh0
 have dl:s.heap.objs.size<h2.objs.size:=AI (k2 _ _ hod)
 have e0:FO 0=FO ((0:Nat):Int):=rfl
 rw[e0]
 refine E5 ⟨FN plain_loop _,ZMH (A:=A.in1) (s:=s) (knd:=knd) (h0:=s.heap) (kvs:=kvs) (its:=its) (a:=a) hh hP (AV al) (AV (B4 al dl)) (AV dl) hz (BA (AK _)) (BA (CN dl))
  (λi=>?_) (λh' tk hD hk=>⟨rfl,h h' tk hD λb ob e=>hk b ob (AV (AI e)) (AV (B4 (AI e) dl)) e⟩) its.length 0 _ _ (by simp) (Aq _) ⟨?_,?_,?_,?_⟩⟩
 ·have e1:=merged_length_le ([]:List (K×E2)) (kvs.take i)
  have e2:(kvs.take i).length<=kvs.length:=by rw[Ax];lia
  have e3:=hP.1
  simp only[Bj] at e1
  lia
 ·exact Dd ht2 _
 ·exact⟨_,AN _ rfl,rfl,rfl⟩
 ·rw[Bp]
  have hd2:h2.DictOf knd s.heap.objs.size []:=by
   obtain⟨o',es,ep,ho',r⟩:=id fresh0
   exact⟨o',es,ep,k2 _ _ ho',r⟩
  exact hd2.push _
 ·intro b ob _ _ e
  exact AC _ (k2 b ob (AC _ e))
end
end HD
namespace HS
open PySem PySem.W PyProof.Rows
def ltS (a b:E3):Bool:=decide (a.cps.toList<b.cps.toList)
theorem ltS_irr (a:E3):ltS a a=false:=by unfold ltS;exact decide_eq_false (List.lt_irrefl _)
theorem ltS_tot (a b:E3)(h:ltS a b=true):ltS b a=false:=by
 unfold ltS at*
 exact decide_eq_false (List.lt_asymm (of_decide_eq_true h))
theorem ltS_tri {a b:E3}(h1:ltS a b=false)(h2:ltS b a=false):a=b:=by
 unfold ltS at*
 have e:=List.le_antisymm (Dh.mp (of_decide_eq_false h2)) (Dh.mp (of_decide_eq_false h1))
 exact Str.ext' (Dy.mp e)
theorem ltS_tr (a b c:E3)(h1:ltS b a=false)(h2:ltS c b=false):ltS c a=false:=by
 unfold ltS at*
 exact decide_eq_false (Dh.mpr (List.le_trans (Dh.mp (of_decide_eq_false h1)) (Dh.mp (of_decide_eq_false h2))))
def ltT:List E3->List E3->Bool
 |_,[]=>false
 | [],_::_=>true
 |a::as,b::bs=>if a=b then ltT as bs else ltS a b
theorem ltT_tot:∀a b:List E3,ltT a b=true->ltT b a=false
 |_,[],h=>by simp[ltT] at h
 | [],_::_,_=>rfl
 |a::as,b::bs,h=>by
  unfold ltT at h ⊢
  by_cases e:a=b
  ·subst e;rw[if_pos rfl] at h ⊢;exact ltT_tot as bs h
  ·rw[if_neg e] at h;rw[if_neg (A9 e)];exact ltS_tot _ _ h
theorem ltT_tr:∀a b c:List E3,ltT b a=false->ltT c b=false->ltT c a=false
 | [],_,_,_,_=>by cases ‹List E3›<;>simp[ltT]
 |a::as,[],c,h,_=>by simp[ltT] at h
 |a::as,b::bs,[],_,h=>by simp[ltT] at h
 |a::as,b::bs,c::cs,h1,h2=>by
  unfold ltT at h1 h2 ⊢
  by_cases e1:b=a
  ·subst e1
   rw[if_pos rfl] at h1
   by_cases e2:c=b
   ·subst e2;rw[if_pos rfl] at h2 ⊢;exact ltT_tr as bs cs h1 h2
   ·rw[if_neg e2] at h2 ⊢;exact h2
  ·rw[if_neg e1] at h1
   by_cases e2:c=b
   ·subst e2;rw[if_neg e1];exact h1
   ·rw[if_neg e2] at h2
    by_cases e3:c=a
    ·subst e3
     exact absurd (ltS_tri h1 h2).symm e2
    ·rw[if_neg e3];exact ltS_tr _ _ _ h1 h2
theorem ltT_tri:∀a b:List E3,ltT a b=false->ltT b a=false->a=b
 | [],[],_,_=>rfl
 | [],_::_,h,_=>by simp[ltT] at h
 |_::_,[],_,h=>by simp[ltT] at h
 |a::as,b::bs,h1,h2=>by
  unfold ltT at h1 h2
  by_cases e:a=b
  ·subst e;rw[if_pos rfl] at h1 h2;rw[ltT_tri as bs h1 h2]
  ·rw[if_neg e] at h1;rw[if_neg (A9 e)] at h2;exact absurd (ltS_tri h1 h2) e
section
variable {prog:E7}{w:FA}{A:FC}{E:E2->E4->Prop}{s:E4}{κ:Type}
theorem sorted_call {lt:κ->κ->Bool}(tot:∀a b,lt a b=true->lt b a=false)(tr:∀a b c,lt b a=false->lt c b=false->lt c a=false){ks:List κ}{d:κ}{v:E2}{Q:E2->E4->Prop}(T:List E2->Prop)(hl:∀vs,T vs->ks.length=vs.length)(h64:ks.length<64)
  (hcol:∀Q':List E2->E4->Prop,(∀vs h1 tk,T vs->(∀b o,s.heap.get? b=some o->h1.get? b=some o)->Q' vs {s with heap:=h1,toks:=tk})->E6 (model prog w) A.in1 (collect v) Q' E s)
  (hk:∀vs,T vs->2<=vs.length->∀h3 tk,(∀b o,s.heap.get? b=some o->h3.get? b=some o)->Asks prog w A.in1.in1 lt ks d vs {s with heap:=h3,toks:=tk})
  (h:∀(vs:List E2) (p:List Nat) (e:Nat) (h1 h':E9) (tk:Nat),T vs->ZLw lt ks d p->(∀b o,s.heap.get? b=some o->h1.get? b=some o)->(∀b o,h1.get? b=some o->h'.get? b=some o)->h'.get? h1.objs.size=some (seqObj "list" (p.map λi=>vs.getD i At).toArray e)->Q (.ref h1.objs.size) {s with heap:=h',toks:=tk}):
  E6 (model prog w) A (call (.builtin "sorted") [v]) Q E s:=by
 refine Calls.call_function_entry kind_sorted plain_sorted entry_sorted (args_sorted1 _) ?_
 unfold Builtin.«sorted»
 refine Ey (m:=checkCount "sorted" 1 1 _) (E5 ?_)
 refine Ey (hcol _ λvs h1 tk hT k1=>?_)
 have hlv:=hl vs hT
 refine Ey (Gz ?_ (by rw[FP];lia))
 have hoL:(h1.push (seqObj "list" vs.toArray 0)).get? h1.objs.size=some (seqObj "list" vs.toArray 0):=AN _ rfl
 have keep:∀b o,h1.get? b=some o->b≠h1.objs.size:=λb o e=>AV (AI e)
 show E6 _ _ _ _ _ {s with heap:=h1.push (seqObj "list" vs.toArray 0),toks:=tk}
 refine Ey (FK (FQ slot_list_sort ⟨_,hoL,rfl⟩ entry_list_sort (ZLI (s:={s with heap:=h1.push (seqObj "list" vs.toArray 0),toks:=tk}) tot tr hlv hoL (by lia) (λh2 h3 k3=>hk vs hT h2 h3 tk λb o e=>k3 b o (keep b o (k1 b o e)) (AC _ (k1 b o e)))
  λp e h' hO k3 hD=>⟨_,rfl,?_⟩) (args_list_sort _)))
 exact E5 ⟨_,rfl,h vs p e h1 h' tk hT hO k1 (λb o e'=>k3 b o (keep b o e') (AC _ e')) hD⟩
theorem asks_strs {ts:List E3}{vs:List E2}(hS:StrsAre vs ts)(h2:2<=vs.length):Asks prog w A ltS ts "" vs s:=by
 refine⟨oneType',λQ E hq=>?_,λi j C hi hj hC=>?_⟩
 ·match vs,hS,h2 with
  |v₁::v₂::rest,hS,_=>
   rw[keyKind_strs hS]
   exact E5 hq
 ·have at_:∀{vs:List E2} {ts:List E3},StrsAre vs ts->∀i,i<vs.length->∃t,vs.getD i At=Df (ts.getD i "") t:=λ{vs ts} h=>by
   induction h with
   |nil=>intro i hi;simp at hi
   |cons x t _ ih=>
    intro i hi
    cases i with
    |zero=>exact⟨t,rfl⟩
    |succ i=>exact ih i (by simpa using hi)
  obtain⟨t1,e1⟩:=at_ hS i hi
  obtain⟨t2,e2⟩:=at_ hS j hj
  rw[e1,e2]
  exact kas_lt_str hC
def ZNn (h:E9)(v:E2)(ts:List E3):Prop:=∃a o vs n,v=Ab a/\h.get? a=some o/\o.cls= .type "tuple"/\o.data= .seq vs n/\StrsAre vs.toList ts
theorem ZMy {fin:Bool}{C:Bool->E4->Prop}:∀{vs ws:List E2} {ts us:List E3},StrsAre vs ts->StrsAre ws us->∀(i:Nat),(fin=decide (ts.length<us.length))->C (ltT ts us) s->KatLex prog w A true fin C (vs.zip ws) i s:=by
 intro vs ws ts us h1
 induction h1 generalizing ws us with
 |nil=>
  intro h2 i hf hC
  cases h2 with
  |nil=>rw[Cj];refine kat_nil ?_;rw[hf];exact hC
  |cons y t h2=>rw[Cj];refine kat_nil ?_;rw[hf];simpa[ltT] using hC
 |cons x t h1 ih=>
  intro h2 i hf hC
  cases h2 with
  |nil=>rw[Ep];refine kat_nil ?_;rw[hf];simpa[ltT] using hC
  |cons y u h2=>
   rw[Ca]
   refine kat_cons (wpAny_eqBool_str ?_)
   by_cases e:x=y
   ·subst e
    rw[decide_eq_true rfl]
    refine kat_yes (ih h2 (i+1) (by rw[hf];simp) ?_)
    unfold ltT at hC
    rw[if_pos rfl] at hC
    exact hC
   ·rw[decide_eq_false e]
    have hC':C (ltS x y) s:=by
     unfold ltT at hC
     rw[if_neg e] at hC
     exact hC
    refine kat_no ?_
    cases i with
    |zero=>exact oneLt_str hC'
    |succ i=>exact kat_one _ _ (lt_str hC')
theorem strs_len {vs:List E2}{ts:List E3}(h:StrsAre vs ts):vs.length=ts.length:=by
 induction h with
 |nil=>rfl
 |cons _ _ _ ih=>rw[Ac,Ac,ih]
inductive TupsAre (h:E9):List E2->List (List E3)->Prop where
 |nil:TupsAre h [] []
 |cons {v:E2} {ts:List E3} {vs:List E2} {tss:List (List E3)}:ZNn h v ts->ts≠ []->TupsAre h vs tss->TupsAre h (v::vs) (ts::tss)
theorem TupsAre.keep {h h':E9}(k:∀b o,h.get? b=some o->h'.get? b=some o){vs:List E2}{tss:List (List E3)}(x:TupsAre h vs tss):TupsAre h' vs tss:=by
 induction x with
 |nil=>exact .nil
 |cons t ne _ ih=>
  obtain⟨a,o,xs,n,e,ho,r⟩:=t
  exact .cons ⟨a,o,xs,n,e,k a o ho,r⟩ ne ih
theorem TupsAre.at {h:E9}{vs:List E2}{tss:List (List E3)}(x:TupsAre h vs tss):∀i,i<vs.length->ZNn h (vs.getD i At) (tss.getD i []):=by
 induction x with
 |nil=>intro i hi;simp at hi
 |cons t _ _ ih=>
  intro i hi
  cases i with
  |zero=>exact t
  |succ i=>exact ih i (by simpa using hi)
theorem TupsAre.kat {h:E9}{vs:List E2}{tss:List (List E3)}(x:TupsAre h vs tss):∃fs:List E2,KatTups h vs fs/\fs.length=vs.length/\∀f∈fs,∃y t,f=Df y t:=by
 induction x with
 |nil=>exact⟨[],KatTups.nil,rfl,by simp⟩
 |cons t ne _ ih=>
  obtain⟨fs,k,hl,hf⟩:=ih
  obtain⟨a,o,xs,n,rfl,ho,hc,hd,hs⟩:=t
  obtain⟨xl⟩:=xs
  cases hs with
  |nil=>exact absurd rfl ne
  |cons y tk _=>
   refine⟨_::fs,KatTups.cons ho hc hd rfl k,by rw[Ac,Ac,hl],λf hf'=>?_⟩
   rcases AQ.mp hf' with rfl|hf'
   ·exact⟨y,tk,rfl⟩
   ·exact hf f hf'
theorem asks_tups {tss:List (List E3)}{vs:List E2}(hT:TupsAre s.heap vs tss)(h2:2<=vs.length):Asks prog w A ltT tss [] vs s:=by
 refine⟨tuples' true,λQ E hq=>?_,λi j C hi hj hC=>?_⟩
 ·obtain⟨fs,k,hl,hf⟩:=hT.kat
  refine kat_kind (T:=BQ "str") k (by lia) (λf hm=>?_) rfl ?_
  ·obtain⟨y,t,rfl⟩:=hf f hm
   exact Looks.now
  ·have e:(BQ "str"!=BQ "tuple")=true:=by decide
   rw[e]
   exact hq
 ·obtain⟨a,o,xs,n,e1,ho,hc,hd,hs⟩:=hT.at i hi
  obtain⟨b,o',ys,n',e2,ho',hc',hd',hs'⟩:=hT.at j hj
  rw[e1,e2]
  refine kat_lt ho hd ho' hd' (ZMy hs hs' 0 ?_ hC)
  have l1:=strs_len hs
  have l2:=strs_len hs'
  rw[Au] at l1 l2
  rw[l1,l2]
end
end HS
namespace L2
open PySem PySem.Spec PyProof.Rows
theorem ZEA {α:Type}(l:List α)(d:α){p:List Nat}(hp:p.Perm (Av l.length)):(p.map λi=>l.getD i d).Perm l:=by
 have e:(Av l.length).map (λi=>l.getD i d)=l:=by
  apply Cn
  intro i
  rw[AS]
  by_cases hi:i<l.length
  ·rw[Dl hi,AG hi]
   simp[hi]
  ·rw[BO (by simpa using hi),BO (by lia)]
   rfl
 have:=hp.map (λi=>l.getD i d)
 rw[e] at this
 exact this
theorem Vals.pick {xs:List V}{us:List E2}(r:Vals xs us):∀{p:List Nat},(∀i∈p,i<xs.length)->Vals (p.map λi=>xs.getD i .non) (p.map λi=>us.getD i At)
 | [],_=> .nil
 |i::p,h=>by
  refine .cons ?_ (r.pick λj hj=>h j (AL _ hj))
  have hi:=h i (AJ ..)
  obtain⟨u,e,ru⟩:=r.get (AG hi)
  have e1:xs.getD i .non=xs[i]:=by simp[hi]
  have e2:us.getD i At=u:=by rw[AT,e];rfl
  show RelV (xs.getD i .non) (us.getD i At)
  rw[e1,e2]
  exact ru
section
variable {X:Cx}
theorem ZEp {pins:List (Ez×FF)}{Z:St}{H:Hp}{s:E4}{a:Ez}{xs:List V}{A:FC}{E:E2->E4->Prop}(I:Inv X pins Z H s)(hq:SqL X.K H a xs\/SqT X.K H a xs):
  ∃its:List E2,Vals xs its/\∀Q':List E2->E4->Prop,(∀h1 tk,(∀b o,s.heap.get? b=some o->h1.get? b=some o)->Q' its {s with heap:=h1,toks:=tk})->E6 (model X.prog X.w) A (collect (.ref a)) Q' E s:=by
 rcases hq with hq|hq
 ·obtain⟨its,r,pl,hz⟩:=I.list hq
  have hlen:=r.length
  obtain⟨o,ho,hc,n,hd⟩:=pl.isList
  exact⟨its,r,λQ' h=>wpAny_collect_seq a (.inl rfl) ho hc hd (λh' k=>by simpa using h h' s.toks k) (by rw[AO];lia)⟩
 ·obtain⟨its,r,pl,hz⟩:=I.tuple hq
  have hlen:=r.length
  obtain⟨o,ho,hc,n,hd⟩:=pl
  exact⟨its,r,λQ' h=>wpAny_collect_seq a (.inr rfl) ho hc hd (λh' k=>by simpa using h h' s.toks k) (by rw[AO];lia)⟩
theorem ZCW {pins:List (Ez×FF)}{Z:St}{H:Hp}{s:E4}{xs:List V}{its:List E2}{p:List Nat}{e:Nat}{h1 h':E9}{tk:Nat}{Q:VK}(I:Inv X pins Z H s)(r:Vals xs its)(hz:xs.length<64)(hp:p.Perm (Av xs.length))
  (k1:∀b o,s.heap.get? b=some o->h1.get? b=some o) (k2:∀b o,h1.get? b=some o->h'.get? b=some o) (hD:h'.get? h1.objs.size=some (seqObj "list" (p.map λi=>its.getD i At).toArray e))
  (q:∀l,H l=none->Q (.ref l) (upd H l (.lst (p.map λi=>xs.getD i .non)))):EP X pins Z Q (.ref h1.objs.size) {s with heap:=h',toks:=tk}:=by
 have I1:Inv X pins Z H {s with heap:=h1,toks:=tk}:=I.kept (h':=h1) (t':=tk) k1
 have hpl:∀i∈p,i<xs.length:=λi hi=>Ba.mp (hp.mem_iff.mp hi)
 have hlen:p.length=xs.length:=by rw[hp.length_eq,Ev]
 have I2:Inv X pins Z (upd H h1.objs.size (.lst (p.map λi=>xs.getD i .non))) {s with heap:=h',toks:=tk}:=
  I1.laid (h':=h') (t':=tk) (o:= .lst (p.map λi=>xs.getD i .non)) k2 (AK _) ⟨by rw[AA,hlen,FP];lia,_,e,r.pick hpl,hD⟩
 exact⟨.ref h1.objs.size,_,I2,rfl,q _ I1.fresh⟩
theorem ZHl {pins:List (Ez×FF)}{Z:St}{H:Hp}{s:E4}(I:Inv X pins Z H s):∀{rs:List (Ez×List E3)} {its:List E2},Vals (rs.map λr=>V.ref r.1) its->(∀r∈rs,SqT X.K H r.1 (r.2.map V.str)/\r.2≠ [])->HS.TupsAre s.heap its (rs.map (·.2))
 | [],_,.nil,_=> .nil
 |(b,ts)::rs,_,.cons e r,h=>by
  cases e
  obtain⟨hq,ne⟩:=h (b,ts) (AJ ..)
  obtain⟨its2,r2,p2,_⟩:=I.tuple hq
  obtain⟨o,ho,hc,n,hd⟩:=p2
  exact .cons ⟨b,o,_,n,rfl,ho,hc,hd,by simpa using ZBm r2⟩ ne (ZHl I r λr hr=>h r (AL _ hr))
theorem ZCe:ZB6 X (.builtin "sorted") (λxs H Q=>∃a,∃rs:List (Ez×List E3),xs= [.ref a]/\(SqL X.K H a (rs.map λr=>V.ref r.1)\/SqT X.K H a (rs.map λr=>V.ref r.1))/\rs.length<64/\(∀r∈rs,SqT X.K H r.1 (r.2.map V.str)/\r.2≠ [])/\
  ∀l (rs':List (Ez×List E3)),H l=none->rs'.Perm rs->rs'.Pairwise (λa b=>HS.ltT b.2 a.2=false)->Q (.ref l) (upd H l (.lst (rs'.map λr=>V.ref r.1)))):=by
 intro pins s Z H xs us Q I r h
 obtain⟨a,rs,rfl,hq,hz,hr,q⟩:=h
 obtain⟨u,rfl,ru⟩:=vals1 r
 cases ru
 obtain⟨its,ri,hcol⟩:=ZEp (A:=X.A.in1) (E:=X.xe) I hq
 have hl:=ri.length
 rw[AA] at hl
 have hT:=ZHl I ri hr
 refine HS.sorted_call (lt:=HS.ltT) HS.ltT_tot HS.ltT_tr (ks:=rs.map (·.2)) (d:= []) (λv=>v=its) (λv e=>by rw[e,AA];exact hl) (by rw[AA];exact hz) (λQ' h=>hcol Q' λh1 tk k=>h its h1 tk rfl k) (λv e h2 h3 tk k3=>by subst e;exact HS.asks_tups (s:={s with heap:=h3,toks:=tk}) (hT.keep k3) h2) λv p e h1 h' tk ev hO k1 k2 hD=>?_
 subst ev
 have hpm:p.Perm (Av rs.length):=by have:=hO.perm;rw[AA] at this;exact this
 refine ZCW I ri (by rw[AA];exact hz) (by rw[AA];exact hpm) k1 k2 hD λl nl=>?_
 have ep:(p.map λi=>(rs.map λr=>V.ref r.1).getD i .non)=(p.map λi=>rs.getD i (0,[])).map λr=>V.ref r.1:=by
  rw[AE]
  refine Ah λi hi=>?_
  have hi':i<rs.length:=Ba.mp (hpm.mem_iff.mp hi)
  simp[hi']
 rw[ep]
 refine q l _ nl (ZEA rs (0,[]) hpm) (Aa.mpr (hO.rise.imp_of_mem λ{i j} hi hj z=>?_))
 have hi':i<rs.length:=Ba.mp (hpm.mem_iff.mp hi)
 have hj':j<rs.length:=Ba.mp (hpm.mem_iff.mp hj)
 simpa[hi',hj'] using z
def ZFY (K:AB)(H:Hp)(ys:List V)(kvs:List (Key×V)):Prop:=Paired (λ(v:V) (kx:Key×V)=>∃b,v= .ref b/\SqT K H b [kV kx.1,kx.2]) ys kvs
theorem pairs_at {pins:List (Ez×FF)}{Z:St}{H:Hp}{s:E4}(I:Inv X pins Z H s){ys:List V}{kvs:List (Key×V)}{its:List E2}(hy:ZFY X.K H ys kvs)(hv:Vals ys its):∃vs:List (Key×E2),KV kvs vs/\HD.PairsAt (ZAU X.prog X.w) s.heap its vs:=by
 unfold ZFY at hy
 induction hy generalizing its with
 |nil=>cases hv;exact⟨[],.nil,rfl,λj v kx e=>by simp at e⟩
 |@cons _ kx _ _ hp _ ih=>
  cases hv with
  |cons rv rr=>
   obtain⟨b,rfl,hq⟩:=hp
   cases rv
   obtain⟨vs,kv,hl,hat⟩:=ih rr
   obtain⟨its2,r2,p2,_⟩:=I.tuple hq
   obtain⟨o,ho,hc,n,hd⟩:=p2
   cases r2 with
   |cons rk rx=>
    cases rx with
    |cons rx rn=>
     cases rn
     rename_i key val
     refine⟨(kx.1,val)::vs,.cons ⟨rfl,rx⟩ kv,by rw[Ac,Ac,hl],λj v kx' e1 e2=>?_⟩
     cases j with
     |zero=>
      cases e1;cases e2
      exact⟨b,o,key,n,rfl,ho,hc,hd,ZID rk⟩
     |succ j=>exact hat j v kx' e1 e2
theorem ZB1 (hc:X.calm=true):ZB6 X (.type "dict") (λxs H Q=>∃a ys kvs,xs= [.ref a]/\H a=some (.tup ys)/\ZFY X.K H ys kvs/\ys.length<=1000/\∀p,H p=none->Q (.ref p) (upd H p (.dK (ZAw [] kvs)))):=by
 intro pins s Z H xs us Q I r h
 obtain⟨a,ys,kvs,rfl,hH,hp,hz,q⟩:=h
 obtain⟨u,rfl,ru⟩:=vals1 r
 cases ru
 obtain⟨z,its,ri,⟨o,ho,hcl,n,hd⟩,o',ho',hdn⟩:=(show ZBA X.prog X.w H s.heap a (.tup ys) from I.hok a _ hH)
 rw[ho] at ho'
 cases ho'
 have hl:=ri.length
 obtain⟨vs,kv,hP⟩:=pairs_at I hp ri
 have lk:kvs.length<=1000:=by
  have e1:=KV.length kv
  have e2:=hP.1
  lia
 refine HD.call_dict (I.ok.hd hc) ho hcl hd hdn hP (by lia) λh' tk hD k=>?_
 have hm:=ZBU kvs []
 have I2:Inv X pins Z (upd H s.heap.objs.size (.dK (ZAw [] kvs))) {s with heap:=h',toks:=tk}:=by
  refine I.laid (h':=h') (t':=tk) (o:= .dK (ZAw [] kvs)) k (AK _) ⟨by rw[FP];simp only[Bj] at hm;lia,beq_eq_false_iff_ne.mpr (A9 (AV I.big)),merged [] vs,KV.merge kv .nil,hD⟩
 exact⟨.ref s.heap.objs.size,_,I2,rfl,q _ I.fresh⟩
inductive DKeys (H:Hp)(a:Ez)(ts:List E3):Prop
 |mk:∀(kvs:List (Key×V)),(Rd H a (.dK kvs))->(kvs.map (·.1)=ts.map AH)->DKeys H a ts
theorem ZM1 {kvs:List (Key×V)}{vs:List (Key×E2)}{ts:List E3}(kv:KV kvs vs)(hk:kvs.map (·.1)=ts.map AH){acc:List E2}(hl:acc.length=vs.length)
  (h:∀(j:Nat) (v:E2),acc[j]?=some v->∃k x,vs[j]?=some (k,x)/\(ZAU X.prog X.w).is k v=true):StrsAre acc ts:=by
 have hk2:vs.map (·.1)=ts.map AH:=by rw[<-KV.keys kv];exact hk
 clear hk kv
 induction acc generalizing vs ts with
 |nil=>
  cases vs with
  |nil=>cases ts with
   |nil=>exact .nil
   |cons _ _=>simp at hk2
  |cons _ _=>simp at hl
 |cons v acc ih=>
  cases vs with
  |nil=>simp at hl
  |cons kx vs=>
   cases ts with
   |nil=>simp at hk2
   |cons t ts=>
    obtain⟨k,x,e,hi⟩:=h 0 v rfl
    have e':kx=(k,x):=by simpa using e
    subst e'
    simp only[AR,BC] at hk2
    obtain⟨e1,e2⟩:=hk2
    have e1':k=AH t:=e1
    subst e1'
    rcases ZAh (show ZG5 (.inr t) v=true from hi) with⟨i,t',z,_⟩|⟨y,t',z,rfl⟩
    ·cases z
    ·cases z
     exact .cons t t' (ih (by simpa using hl) (λj v e=>h (j+1) v (by simpa using e)) e2)
theorem ZDl:∀{l:List E2} {ts:List E3},StrsAre l ts->Vals (ts.map V.str) l
 |_,_,.nil=> .nil
 |_,_,.cons _ t h=> .cons ⟨t,rfl⟩ (ZDl h)
theorem ZHD {K:Type}[DecidableEq K]{prog:E7}{w:FA}{knd:KeyKind prog w K}{A:FC}{E:E2->E4->Prop}{s:E4}{a:Ez}{vs:List (K×E2)}{ep:Nat}(hh:A.handled=none)(lo:(a==FX)=false)(dat:s.heap.DictAt knd a vs ep)(hn:vs.length<=sizeLine)
  {Q:List E2->E4->Prop} (h:∀(acc:List E2) (h1:E9) (tk:Nat),acc.length=vs.length->(∀(j:Nat) (v:E2),acc[j]?=some v->∃k x,vs[j]?=some (k,x)/\knd.is k v=true)->(∀b o,s.heap.get? b=some o->h1.get? b=some o)->Q acc {s with heap:=h1,toks:=tk}):
  E6 (model prog w) A (collect (.ref a)) Q E s:=by
 have al:a<s.heap.objs.size:=dat.lt_size
 unfold collect
 refine Ey (Gv (FI D1 ?_))
 rw[An Dz _]
 show E6 _ A.in1 (newList [] >>= λl=>again (.builtin "list.__iadd__" ⟨[l,.ref a],[]⟩)) _ _ s
 refine Ey (FH ?_)
 refine E5 ⟨FN CT _,FI EL ?_⟩
 rw[An CT _]
 have hS1:(s.heap.push {cls:= .type "list",data:= .seq ([]:List E2).toArray}).get? s.heap.objs.size=some {cls:= .type "list",data:= .seq #[]}:=AN _ rfl
 show E6 _ A.in1 (Bq (.ref s.heap.objs.size) (.ref a) (.ref s.heap.objs.size)) _ _ _
 refine FE (Ed (A:=A) (s:={s with heap:=s.heap.push {cls:= .type "list",data:= .seq ([]:List E2).toArray}})
  (R:=λ(q:Result) (s':E4)=>∃(h':E9) (tk:Nat) (acc':Array E2) (c':Nat),q= .ok (.ret (.ref s.heap.objs.size))/\s'={s with heap:=h',toks:=tk}/\(∀b o,s.heap.get? b=some o->h'.get? b=some o)/\
   h'.get? s.heap.objs.size=some {cls:= .type "list",dict:=none,data:= .seq acc' c',slots:=#[]}/\ItemsOf (λi v=>∃k x,vs[i]?=some (k,x)/\knd.is k v=true) acc' vs.length)
  (PySem.W.kdl_dict (knd:=knd) (kvs:=vs) (ep:=ep) lo) hh (dat.push _) s.heap.objs.size (A4 al) (A4 al) (.ref s.heap.objs.size) 0 hS1
  (λh' tk acc' c' k hD hI=>⟨h',tk,acc',c',rfl,rfl,λb o e=>k b o (AV (AI e)) (AC _ e),hD,hI⟩) hn) (λfin s' z=>?_) λe s' z=>?_
 ·cases fin with
  |done f=>
   obtain⟨h',tk,acc',c',e,rfl,k,hD,hI⟩:=z
   cases e
   show E6 _ A (load s.heap.objs.size >>= _) _ _ _
   refine Ey (GL hD ?_)
   exact E5 (h acc'.toList h' tk (by rw[Au];exact hI.1) (λj v e=>hI.2 j v (by rw[<-A8];exact e)) k)
  |again c=>
   refine⟨z.1,Fx z.2 λr s2 hz=>?_⟩
   obtain⟨h',tk,acc',c',rfl,rfl,k,hD,hI⟩:=hz
   show E6 _ A (load s.heap.objs.size >>= _) _ _ _
   refine Ey (GL hD ?_)
   exact E5 (h acc'.toList h' tk (by rw[Au];exact hI.1) (λj v e=>hI.2 j v (by rw[<-A8];exact e)) k)
 ·obtain⟨_,_,_,_,e',_⟩:=z
  cases e'
theorem ZJy (hc:X.calm=true):ZB6 X (.builtin "sorted") (λxs H Q=>∃a,∃ts:List E3,xs= [.ref a]/\DKeys H a ts/\ts.length<64/\
  ∀l (ts':List E3),H l=none->ts'.Perm ts->ts'.Pairwise (λa b=>HS.ltS b a=false)->Q (.ref l) (upd H l (.lst (ts'.map V.str)))):=by
 intro pins s Z H xs us Q I r h
 obtain⟨a,ts,rfl,⟨kvs,hR,hk⟩,hz,q⟩:=h
 obtain⟨u,rfl,ru⟩:=vals1 r
 cases ru
 obtain⟨hzk,lo,vs,kv,dd⟩:=ZHB I.hok hR
 have lv:=KV.length kv
 obtain⟨ob,es,ep,ho,rr⟩:=id dd
 have dat:s.heap.DictAt (ZAU X.prog X.w) a vs ep:=⟨ob,es,ho,rr⟩
 refine HS.sorted_call (lt:=HS.ltS) HS.ltS_tot HS.ltS_tr (ks:=ts) (d:="") (λv=>StrsAre v ts) (λv e=>(HS.strs_len e).symm) hz
  (λQ' h=>ZHD (A:=X.A.in1) (I.ok.hd hc) lo dat (by lia) λacc h1 tk hl hi k=>h acc h1 tk (ZM1 (X:=X) kv hk hl hi) k) (λv e h2 h3 tk _=>HS.asks_strs e h2) λv p e h1 h' tk hS hO k1 k2 hD=>?_
 refine ZCW I (ZDl hS) (by rw[AA];exact hz) (by rw[AA];exact hO.perm) k1 k2 hD λl nl=>?_
 have ep:(p.map λi=>(ts.map V.str).getD i .non)=(p.map λi=>ts.getD i "").map V.str:=by
  rw[AE]
  refine Ah λi hi=>?_
  have hi':i<ts.length:=Ba.mp (hO.perm.mem_iff.mp hi)
  simp[hi']
 rw[ep]
 exact q l _ nl (ZEA ts "" hO.perm) (Aa.mpr hO.rise)
theorem ZKZ (bs:List Bool):((Av bs.length).any λi=>(bs[i]?).getD true)=bs.any id:=by
 induction bs with
 |nil=>rfl
 |cons b bs ih=>
  rw[Ac,DU,DH,Dt,DH,<-ih]
  rfl
theorem ZHG (hc:X.calm=true):ZB6 X (.builtin "any") (λxs H Q=>∃(p:Ez) (bs:List Bool),xs= [.ref p]/\SqL X.K H p (bs.map V.bl)/\Q (.bl (bs.any id)) H):=by
 intro pins s Z H xs us Q I r h
 obtain⟨p,bs,rfl,hq,q⟩:=h
 obtain⟨u,rfl,ru⟩:=vals1 r
 cases ru
 obtain⟨its,rv,pl,hz⟩:=I.list hq
 have isl:=pl.isList
 have below:p<s.heap.objs.size:=by obtain⟨_,e,_⟩:=isl;exact AI e
 have hlen:=rv.length
 rw[AA] at hlen
 have W:=Walks.list (prog:=X.prog) (w:=X.w) (A:=X.A.in1) (I.ok.hd hc) s.heap.objs.size p (AV below) its.toArray
 have truths:TruthOf X.prog X.w X.A.in1 (λi v=>its.toArray[i]?=some v) (λi=>(bs[i]?).getD true):=λi v s1 R E1 at_i hR=>by
  obtain⟨b,eb,ev⟩:=ZE4 rv i v (by simpa using at_i)
  subst ev
  have hR2:R ((bs[i]?).getD true) s1:=hR
  rw[eb] at hR2
  exact Fa hR2
 have worth:((Av its.toArray.size).any λi=>(bs[i]?).getD true)=bs.any id:=by
  rw[AO,<-hlen];exact ZKZ bs
 have begun:(s.heap.push {cls:= .type "list_iterator",data:= .fields #[.ref p,.int 0 0]}).IsListIter s.heap.objs.size p 0:=⟨_,AN _ rfl,rfl,rfl⟩
 refine call_any_walk (Fo isl ⟨s.heap.objs.size,_,_,_,_,_,_,rfl,W,⟨begun,isl.push _⟩,truths,λh1 tk same=>?_⟩)
 rw[worth]
 refine⟨.bl _,H,I.kept (h':=h1) (t':=tk) (λb o e=>same b o (λhm=>?_) (AC _ e)),rfl,q⟩
 have eb:=AF.mp hm
 subst eb
 exact BM _ (AI e)
theorem ZCE:OpR X (binaryOp .Add) (λx y H Q=>∃a b xs ys,x= .ref a/\y= .ref b/\H a=some (.tup xs)/\H b=some (.tup ys)/\xs.length+ys.length<=sizeLine/\∀p H',Same H H'->H' p=some (.tup (xs++ys))->Q (.ref p) H'):=by
 intro pins s Z H x y v u Q I rx ry h
 obtain⟨a,b,xs,ys,rfl,rfl,ha,hb,hz,q⟩:=h
 by_cases hx:xs= []
 ·subst hx
  cases rx
  cases ry
  obtain⟨its,r1,p1,_⟩:=I.tuple (SqT.of ha)
  obtain⟨its2,r2,p2,_⟩:=I.tuple (SqT.of hb)
  have e1:its= []:=r1.nil_iff.mpr rfl
  subst e1
  obtain⟨m,F⟩:=I.fr
  exact add_tuples F (news:= []) (λp hp=>absurd hp (by simp)) p1 p2 (λ_=>⟨.ref b,H,I,rfl,q b H (Same.refl H) hb⟩) (λz=>absurd rfl z) (λz=>absurd rfl z) (by simp at hz ⊢;rw[<-r2.length];exact hz)
 ·refine ZOX pins s Z H (.ref a) (.ref b) v u Q I rx ry ⟨a,b,xs,ys,rfl,rfl,SqT.of ha,SqT.of hb,hx,hz,λe=>?_,λ_ p hp=>q p _ (Same.new hp _) ZAB⟩
  subst e
  exact q a H (Same.refl H) (by rw[A5];exact ha)
end
def TS' (H H':Hp):Prop:=∀b xs,H b=some (.tup xs)->H' b=some (.tup xs)
theorem _root_.L2.Same.ts {H H':Hp}(s:Same H H'):TS' H H':=λb xs h=>s b _ h
theorem TS'.trans {H H1 H2:Hp}(a:TS' H H1)(b:TS' H1 H2):TS' H H2:=λc xs h=>b c xs (a c xs h)
theorem TS'.lst {H:Hp}{D:Ez}{ys:List V}{o:HO}(h:H D=some (.lst ys)):TS' H (upd H D o):=λb xs hb=>by
 have:b≠D:=λe=>by rw[e,h] at hb;cases hb
 rw[ZAN this]
 exact hb
theorem ZB0 {J:It}{xs:List V}{te:TE}{fr:St}{H1:Hp}{QD:Hp->Prop}(Rl:V->V->Hp->Prop)(mono:∀x v H H',TS' H H'->Rl x v H->Rl x v H')(D:Ez)(hD:H1 D=none)(T:Tells J H1 xs)(hz:xs.length<sizeLine)
  (he:∀x H R,x∈xs->Same H1 H->(∀v H',Same H H'->Rl x v H'->R v H')->te (some x::fr) H R)
  (hd:∀H' ys,Same H1 H'->H' D=some (.lst ys)->Paired (λx v=>Rl x v H') xs ys->QD H'):
  ∃W:Nat->Nat->List V->Hp->Prop,(∃m,W 0 m [] (upd H1 D (.lst [])))/\∀i m ys H2,W i m ys H2->H2 D=some (.lst ys)/\
   ((J.stop i H2/\QD H2)\/(J.go i H2/\∀x H3,J.yld i H2 x H3->∀pre:St,pre.length=1->ZBg 0 x (pre++fr) H3 λZ4 H4=>(∃pre':St,pre'.length=1/\Z4=pre'++fr)/\
    ZC3 Z4 H4 λb H5=>if b=true then te Z4 H5 (λy H6=>H6 D=some (.lst ys)/\ys.length<sizeLine/\∃m',m'<m/\W (i+1) m' (ys++ [y]) (upd H6 D (.lst (ys++ [y])))) else∃m',m'<m/\W (i+1) m' ys H5)):=by
 refine⟨λi m ys H2=>m=xs.length-i/\i<=xs.length/\ys.length=i/\Paired (λx v=>Rl x v H2) (xs.take i) ys/\H2 D=some (.lst ys)/\Same H1 H2,⟨xs.length,by simp,Aq _,rfl,by rw[Bp];exact .nil,ZAB,Same.new hD _⟩,?_⟩
 rintro i m ys H2 ⟨rfl,hi,hl,hp,hD2,sm⟩
 refine⟨hD2,?_⟩
 by_cases hlt:i<xs.length
 ·refine .inr ⟨T.go H2 i sm hlt,λx H3 y pre hpre=>?_⟩
  obtain⟨rfl,hx⟩:=T.yld H2 i x H3 sm y
  obtain⟨v0,rfl⟩:∃v0,pre= [v0]:=by
   cases pre with
   |nil=>simp at hpre
   |cons v r=>cases r with
    |nil=>exact⟨v,rfl⟩
    |cons _ _=>simp at hpre
  have hm:=Az hx
  refine⟨⟨[some x],rfl,rfl⟩,?_⟩
  unfold ZC3
  dsimp only
  refine iteT ?_
  refine he x H3 _ hm sm λv H6 s6 hr=>?_
  have t6:TS' H6 (upd H6 D (.lst (ys++ [v]))):=TS'.lst (s6 _ _ hD2)
  refine⟨s6 _ _ hD2,by lia,xs.length-(i+1),by lia,rfl,hlt,by simp[hl],?_,ZAB,?_⟩
  ·rw[BG,hx]
   exact(hp.mono λa b h=>mono _ _ _ _ (s6.ts.trans t6) h).snoc (mono _ _ _ _ t6 hr)
  ·intro b o e
   have hb:b≠D:=ZAJ e hD
   rw[ZAN hb]
   exact s6 _ _ (sm _ _ e)
 ·have e:i=xs.length:=by lia
  subst e
  rw[Bd] at hp
  exact .inl ⟨T.stop H2 sm,hd H2 ys sm hD2 hp⟩
section
variable {X:Cx}{a:FD}{ta:TE}
end
theorem ZKX {P:E7}{w:FA}{k:Key}{u:E2}(h:(ZAU P w).is k u=true):RelV (kV k) u:=by
 rcases ZAh (show ZG5 k u=true from h) with⟨i,t,z,rfl⟩|⟨y,t,z,rfl⟩
 ·cases z;exact⟨t,rfl⟩
 ·cases z;exact⟨t,rfl⟩
section
variable {X:Cx}{tg:FD}
end
end L2
namespace RD
open PySem PySem.Spec PyProof.Rows
section
variable {prog:E7}{w:FA}{A:FC}{E:E2->E4->Prop}{s:E4}
theorem iter {d:Ez}{o:FF}{es:Array FZ}{ep:Nat}{Q:E2->E4->Prop}(lo:(d==FX)=false)(ho:s.heap.get? d=some o)(hx:o.ExactDict)(hdat:o.data= .dict es ep)
  (hQ:Q (.ref s.heap.objs.size) {s with heap:=s.heap.push {cls:= .type "dict_keyiterator",data:= .fields #[.ref d,.int 0 0,.int es.size 0,.int ep 0]}}):E6 (model prog w) A (pyIter (.ref d)) Q E s:=by
 have tyD:s.TypeIs (.ref d) "dict":=⟨o,ho,hx.1⟩
 refine Gf tyD F.slot_dict_iter (FQ F.slot_dict_iter tyD F.entry_dict_iter ?_ (F.args_dict_iter_1 _));unfold Builtin.«dict.__iter__»;refine Ey ?_
 unfold Builtin.Dict.dictSlotNone;refine Ey (Fk tyD ?_);show E6 _ _ (pure (Ab d)) _ _ s;refine E5 ?_
 show E6 _ _ (CY d >>= _) _ _ s;unfold CY;rw[if_neg (by rw[lo];exact AM)]
 refine Ey (E5 (Ey (Fu ho hdat (Ey (GC ho hdat ?_)))))
 refine Ey (FH (E5 ⟨_,rfl,"dict_keyiterator",_,⟨_,AN _ rfl,rfl⟩,By.lookup,?_⟩));simpa[FO] using hQ
theorem item {it d:Ez}{i ep:Nat}{od:FF}{es:Array FZ}{e:FZ}{Q:Option E2->E4->Prop}(hit:s.heap.IsKeyIter it d i es.size ep)(hod:s.heap.get? d=some od)(hdd:od.data= .dict es ep)(hx:es[i]?=some e)
  (hQ:∀h',h'.IsKeyIter it d (i+1) es.size ep->Heap.SameBut it s.heap h'->Q (some e.key) {s with heap:=h'}):E6 (model prog w) A (FY (.ref it)) Q E s:=by
 obtain⟨o,ho,hc,hd⟩:=id hit
 unfold FY;refine Ey (GI (FW (name:=A2 "__next__") hit.typeIs By (FQ By hit.typeIs EO ?_ (EG _))))
 refine Ey (E5 (Ey (Ey ?_)));first|refine Ey (Fp hit.typeIs (E5 ?_))|refine Ey (Fy hit.typeIs (E5 ?_))
 refine Ey (Gb ho hd ?_);have own0:Bi "dict_keyiterator"=false:=by decide
 simp only[own0,Am,if_false];show E6 _ _ (if(Ab d==At)=true then _ else _) _ _ s;rw[if_neg (show¬((Ab d==At)=true) from AM)]
 refine Ey (E5 (Ey (Fu hod hdd ?_)));rw[if_neg (by simp)]
 refine Ey (E5 (Ey (GC hod hdd ?_)));rw[if_neg (by simp)];refine E5 ?_
 have lt:i<es.size:=(BR.mp hx).1
 have ee:es[i]=e:=(BR.mp hx).2
 simp only[show¬((i:Int)<0) from by lia,if_false,Bu,hx]
 refine Ey ?_;first|refine Ey (Fp hit.typeIs (E5 ?_))|refine Ey (Fy hit.typeIs (E5 ?_))
 refine Ey (Gw hit.typeIs ?_);show E6 _ _ (setField (.ref it) 1 (FO ((i:Int)+1)) >>= _) _ _ s;refine Ey (Fw ho hd (by simp) ?_)
 have next:(s.heap.update it (CF (·.setIfInBounds 1 (FO ((i:Int)+1))))).IsKeyIter it d (i+1) es.size ep:=⟨_,BP _ ho (Cs (Cc hd _)),(Dw ..).trans hc,by rw[Cc hd];simp[FO]⟩
 refine Ey (FK (Ey (Gw (s:={s with heap:=s.heap.update it (CF (·.setIfInBounds 1 (FO ((i:Int)+1))))}) next.typeIs ?_)))
 show E6 _ _ (pure e.key) _ _ _;exact E5 (E5 ⟨_,rfl,E5 (hQ _ next (BS ..))⟩)
theorem done {it d:Ez}{i ep:Nat}{od:FF}{es:Array FZ}{Q:Option E2->E4->Prop}(hh:A.handled=none)(hit:s.heap.IsKeyIter it d i es.size ep)(hod:s.heap.get? d=some od)(hdd:od.data= .dict es ep)(hx:es.size<=i)
  (hQ:∀h',Heap.ExtBut it s.heap h'->Q none {s with heap:=h'}):E6 (model prog w) A (FY (.ref it)) Q E s:=by
 obtain⟨o,ho,hc,hd⟩:=id hit
 unfold FY;refine Ey (GI (FW (name:=A2 "__next__") hit.typeIs By (FQ By hit.typeIs EO ?_ (EG _))))
 refine Ey (E5 (Ey (Ey ?_)));first|refine Ey (Fp hit.typeIs (E5 ?_))|refine Ey (Fy hit.typeIs (E5 ?_))
 refine Ey (Gb ho hd ?_);have own0:Bi "dict_keyiterator"=false:=by decide
 simp only[own0,Am,if_false];show E6 _ _ (if(Ab d==At)=true then _ else _) _ _ s;rw[if_neg (show¬((Ab d==At)=true) from AM)]
 refine Ey (E5 (Ey (Fu hod hdd ?_)));rw[if_neg (by simp)]
 refine Ey (E5 (Ey (GC hod hdd ?_)));rw[if_neg (by simp)];refine E5 ?_
 simp only[show¬((i:Int)<0) from by lia,if_false,Bu,Ci hx]
 refine Ey ?_;first|refine Ey (Fp hit.typeIs (E5 ?_))|refine Ey (Fy hit.typeIs (E5 ?_))
 show E6 _ _ (setField (.ref it) 0 .none >>= _) _ _ s;refine Ey (Fw ho hd (by simp) ?_)
 show E6 _ _ (newExc (.type "StopIteration") [] >>= _) _ _ _;refine Ey ?_;simp only[newExc,newTuple];refine Ey (FH ?_ (by size_fits))
 refine Ey (m:=firstArgMember _ _) (Gp (a:=At) (by first|rfl|(simp only[firstArgMember];rfl)) (FH ?_ (by size_fits)));simp only[raiseNew]
 refine Ey (wpAny_handled ?_);rw[show A.in1.handled=none from hh];refine Ey (E5 (wpAny_throw ?_))
 refine Ey (Fz (T:="StopIteration") (b:=true) ⟨_,AN _ rfl,rfl⟩ Gx ?_);exact E5 (hQ _ (((BS ..).extBut.push _).push _))
theorem walks {d:Ez}{od:FF}{es:Array FZ}{ep:Nat}(hh:A.handled=none)(I:Ez)(hne:d≠I)(hdd:od.data= .dict es ep):
  Walks prog w A I [I,d] [I] es.size (λi v=>∃e,es[i]?=some e/\v=e.key) (λi h=>h.IsKeyIter I d i es.size ep/\h.get? d=some od) where
 sub:=λb hb=>by simp at hb;simp[hb]
 frame:=λ_ _ _ st hk=>⟨st.1.at λo e=>hk I (by simp) o e,hk d (by simp) _ st.2⟩
 item:=λi s Q E hi st hQ=>item st.1 st.2 hdd (BV hi) λh' hit' hs'=>
  hQ _ h' s.toks ⟨_,BV hi,rfl⟩ ⟨hit',hs'.extBut d od hne st.2⟩ λb o hb e=>hs'.extBut b o (λh=>hb (by simp[h])) e
 done:=λs Q E st hQ=>done hh st.1 st.2 hdd (AK _) λh' he'=>hQ h' s.toks λb o hb e=>he' b o (λh=>hb (by simp[h])) e
 self:=λ_ _ _ _ st hQ=>wpAny_pyIter_keyiter st.1 hQ
theorem src {d:Ez}{od:FF}{es:Array FZ}{ep:Nat}(lo:(d==FX)=false)(hx:od.ExactDict)(hdd:od.data= .dict es ep):
  PySem.W.KdlSrc prog w "dict" d d es.size (λi v=>∃e,es[i]?=some e/\v=e.key) (λh=>h.get? d=some od) where
 type:=λ_ hm=>⟨od,hm,hx.1⟩
 there:=λ_ hm=>⟨AI hm,AI hm⟩
 keep:=λ_ _ hm hk=>hk d (.inl rfl) _ hm
 notList:=by decide
 notTuple:=by decide
 hint:=λ_ _ _ _ hm hq=>PySem.W.kdl_hint_dict ⟨od,hm,hx.1⟩ hq
 iter:=λ_ _ hh hm=>⟨_,_,(λ_ _ hq=>iter lo hm hx hdd hq),walks hh _ (AV (AI hm)) hdd,⟨⟨_,AN _ rfl,rfl,rfl⟩,AC _ hm⟩⟩
end
end RD
namespace L2
open PySem PySem.Spec PyProof.Rows
theorem ZEo {prog:E7}{w:FA}{A:FC}{E:E2->E4->Prop}{s:E4}{a:Ez}{n:Nat}{P:Nat->E2->Prop}{OK:E9->Prop}(hh:A.handled=none)(S:PySem.W.KdlSrc prog w "dict" a a n P OK)(okp:∀o,OK (s.heap.push o))(al:a<s.heap.objs.size)(hn:n<=sizeLine)
  {Q:List E2->E4->Prop} (h:∀(acc:List E2) (h1:E9) (tk:Nat),acc.length=n->(∀(j:Nat) (v:E2),acc[j]?=some v->P j v)->(∀b o,s.heap.get? b=some o->h1.get? b=some o)->Q acc {s with heap:=h1,toks:=tk}):
  E6 (model prog w) A (collect (.ref a)) Q E s:=by
 unfold collect
 refine Ey (Gv (FI D1 ?_))
 rw[An Dz _]
 show E6 _ A.in1 (newList [] >>= λl=>again (.builtin "list.__iadd__" ⟨[l,.ref a],[]⟩)) _ _ s
 refine Ey (FH ?_)
 refine E5 ⟨FN CT _,FI EL ?_⟩
 rw[An CT _]
 have hS1:(s.heap.push {cls:= .type "list",data:= .seq ([]:List E2).toArray}).get? s.heap.objs.size=some {cls:= .type "list",data:= .seq #[]}:=AN _ rfl
 show E6 _ A.in1 (Bq (.ref s.heap.objs.size) (.ref a) (.ref s.heap.objs.size)) _ _ _
 refine FE (Ed (A:=A) (s:={s with heap:=s.heap.push {cls:= .type "list",data:= .seq ([]:List E2).toArray}})
  (R:=λ(q:Result) (s':E4)=>∃(h':E9) (tk:Nat) (acc':Array E2) (c':Nat),q= .ok (.ret (.ref s.heap.objs.size))/\s'={s with heap:=h',toks:=tk}/\(∀b o,s.heap.get? b=some o->h'.get? b=some o)/\
   h'.get? s.heap.objs.size=some {cls:= .type "list",dict:=none,data:= .seq acc' c',slots:=#[]}/\ItemsOf P acc' n)
  S hh (okp _) s.heap.objs.size (A4 al) (A4 al) (.ref s.heap.objs.size) 0 hS1
  (λh' tk acc' c' k hD hI=>⟨h',tk,acc',c',rfl,rfl,λb o e=>k b o (AV (AI e)) (AC _ e),hD,hI⟩) hn) (λfin s' z=>?_) λe s' z=>?_
 ·cases fin with
  |done f=>
   obtain⟨h',tk,acc',c',e,rfl,k,hD,hI⟩:=z
   cases e
   show E6 _ A (load s.heap.objs.size >>= _) _ _ _
   refine Ey (GL hD ?_)
   exact E5 (h acc'.toList h' tk (by rw[Au];exact hI.1) (λj v e=>hI.2 j v (by rw[<-A8];exact e)) k)
  |again c=>
   refine⟨z.1,Fx z.2 λr s2 hz=>?_⟩
   obtain⟨h',tk,acc',c',rfl,rfl,k,hD,hI⟩:=hz
   show E6 _ A (load s.heap.objs.size >>= _) _ _ _
   refine Ey (GL hD ?_)
   exact E5 (h acc'.toList h' tk (by rw[Au];exact hI.1) (λj v e=>hI.2 j v (by rw[<-A8];exact e)) k)
 ·obtain⟨_,_,_,_,e',_⟩:=z
  cases e'
section
variable {X:Cx}
theorem ZKH {pins:List (Ez×FF)}{Z:St}{H:Hp}{s:E4}{a:Ez}{rs:List (Ez×List E3)}{its:List E2}{Q:VK}(I:Inv X pins Z H s)(ri:Vals (rs.map λr=>V.ref r.1) its)(hz:rs.length<64)(hr:∀r∈rs,SqT X.K H r.1 (r.2.map V.str)/\r.2≠ [])
  (hcol:∀Q':List E2->E4->Prop,(∀h1 tk,(∀b o,s.heap.get? b=some o->h1.get? b=some o)->Q' its {s with heap:=h1,toks:=tk})->E6 (model X.prog X.w) X.A.in1 (collect (.ref a)) Q' X.xe s)
  (q:∀l (rs':List (Ez×List E3)),H l=none->rs'.Perm rs->rs'.Pairwise (λa b=>HS.ltT b.2 a.2=false)->Q (.ref l) (upd H l (.lst (rs'.map λr=>V.ref r.1)))):
  E6 (model X.prog X.w) X.A (call (.builtin "sorted") [.ref a]) (EP X pins Z Q) X.xe s:=by
 have hl:=ri.length
 rw[AA] at hl
 have hT:=ZHl I ri hr
 refine HS.sorted_call (lt:=HS.ltT) HS.ltT_tot HS.ltT_tr (ks:=rs.map (·.2)) (d:= []) (λv=>v=its) (λv e=>by rw[e,AA];exact hl) (by rw[AA];exact hz) (λQ' h=>hcol Q' λh1 tk k=>h its h1 tk rfl k) (λv e h2 h3 tk k3=>by subst e;exact HS.asks_tups (s:={s with heap:=h3,toks:=tk}) (hT.keep k3) h2) λv p e h1 h' tk ev hO k1 k2 hD=>?_
 subst ev
 have hpm:p.Perm (Av rs.length):=by have:=hO.perm;rw[AA] at this;exact this
 refine ZCW I ri (by rw[AA];exact hz) (by rw[AA];exact hpm) k1 k2 hD λl nl=>?_
 have ep:(p.map λi=>(rs.map λr=>V.ref r.1).getD i .non)=(p.map λi=>rs.getD i (0,[])).map λr=>V.ref r.1:=by
  rw[AE]
  refine Ah λi hi=>?_
  have hi':i<rs.length:=Ba.mp (hpm.mem_iff.mp hi)
  simp[hi']
 rw[ep]
 refine q l _ nl (ZEA rs (0,[]) hpm) (Aa.mpr (hO.rise.imp_of_mem λ{i j} hi hj z=>?_))
 have hi':i<rs.length:=Ba.mp (hpm.mem_iff.mp hi)
 have hj':j<rs.length:=Ba.mp (hpm.mem_iff.mp hj)
 simpa[hi',hj'] using z
def strK:Key->E3
 | .inr t=>t
 | .inl _=>""
inductive TKeys (H:Hp)(a:Ez)(ts:List (List E3)):Prop
 |mk:∀(kvs:List (List Key×V)),(Rd H a (.dT kvs))->(kvs.map (·.1)=ts.map λt=>t.map AH)->TKeys H a ts
theorem ZOt {H:Hp}{kvs:List (List Key×V)}{xs:List (List Key×Ez×E2)}{ts:List (List E3)}(hk:KT H kvs xs)(h:kvs.map (·.1)=(ts.map λt=>t.map AH)):(∀x∈xs,H x.2.1=some (.tup ((x.1.map strK).map V.str)))/\xs.map (λx=>x.1.map strK)=ts:=by
 induction hk generalizing ts with
 |nil=>
  cases ts with
  |nil=>exact⟨(λx hx=>by cases hx),rfl⟩
  |cons _ _=>cases h
 |@cons p x _ _ hp _ ih=>
  cases ts with
  |nil=>cases h
  |cons t ts=>
   rw[AR,AR] at h
   injection h with h1 h2
   have i:=ih h2
   have es:x.1.map strK=t:=by
    rw[<-hp.1,h1,AE]
    have:∀z∈t,(strK∘AH) z=z:=λz _=>rfl
    rw[Ah this,CJ]
   have ev:(x.1.map strK).map V.str=p.1.map kV:=by rw[es,h1,AE];rfl
   refine⟨λy hy=>?_,by rw[AR,es,i.2]⟩
   rcases AQ.mp hy with rfl|hy
   ·rw[ev];exact hp.2.1
   ·exact i.1 y hy
theorem ZCI (hc:X.calm=true):ZB6 X (.builtin "sorted") (λxs H Q=>∃a,∃ts:List (List E3),xs= [.ref a]/\TKeys H a ts/\ts.length<64/\(∀t∈ts,t≠ [])/\
  ∀l (rs:List (Ez×List E3)),H l=none->(rs.map (·.2)).Perm ts->(∀r∈rs,H r.1=some (.tup (r.2.map V.str)))->rs.Pairwise (λa b=>HS.ltT b.2 a.2=false)->Q (.ref l) (upd H l (.lst (rs.map λr=>V.ref r.1)))):=by
 intro pins s Z H xs us Q I r h
 obtain⟨a,ts,rfl,⟨kvs,hR,hk⟩,hz,hne,q⟩:=h
 obtain⟨u,rfl,ru⟩:=vals1 r
 cases ru
 obtain⟨hzk,lo,ys,kt,ob,es,ep,ho,hx,hdd,hes,hin,hnd⟩:=ZHA I.hok hR
 obtain⟨k1,k2⟩:=ZOt kt hk
 have hl:ys.length=ts.length:=by rw[<-k2,AA]
 have hsz:es.size=ys.length:=by have:=congrArg Ay hes;rw[Au,AA] at this;exact this
 have ri:Vals ((ys.map λy=>(y.2.1,y.1.map strK)).map λr=>V.ref r.1) (ys.map λy=>Ab y.2.1):=by
  rw[AE]
  clear hes hsz hl k2 k1 kt hin hnd
  induction ys with
  |nil=>exact .nil
  |cons y ys ih=>exact .cons rfl ih
 refine ZKH I ri (by rw[AA];lia) (λr hr=>?_) (λQ' h=>?_) λl rs' nl hp hs=>?_
 ·obtain⟨y,hy,rfl⟩:=AD.mp hr
  exact⟨SqT.of (k1 y hy),hne _ (by rw[<-k2];exact AD.mpr ⟨y,hy,rfl⟩)⟩
 ·refine ZEo (A:=X.A.in1) (I.ok.hd hc) (RD.src lo hx hdd) (λo=>AC _ ho) (AI ho) (by rw[FP];lia) λacc h1 tk hla hP k=>?_
  have e:acc=ys.map λy=>Ab y.2.1:=by
   apply Cn
   intro j
   rw[AS]
   cases hj:acc[j]? with
   |none=>
    have hj':acc.length<=j:=EU.mp hj
    rw[BO (by lia)]
    rfl
   |some v=>
    obtain⟨e,he,rfl⟩:=hP j v hj
    rw[<-A8,hes,AS] at he
    cases hy:ys[j]? with
    |none=>rw[hy] at he;cases he
    |some y=>rw[hy] at he;cases he;rfl
  rw[e]
  exact h h1 tk k
 ·refine q l rs' nl ?_ (λr hr=>?_) hs
  ·have:=hp.map (·.2)
   rw[AE] at this
   rw[<-k2]
   exact this
  ·obtain⟨y,hy,e⟩:=AD.mp (hp.mem_iff.mp hr)
   rw[<-e]
   exact k1 y hy
end
def minS (ts:List E3):E3:=ts.getD (argBest (λi j=>HS.ltS (ts.getD i "") (ts.getD j "")) (ts.length-1)) ""
theorem ZDj (bt:Nat->Nat->Bool):∀k,argBest bt k<=k
 |0=>AK _
 |k+1=>by
  have ih:=ZDj bt k
  show(if bt (k+1) (argBest bt k) then k+1 else argBest bt k)<=k+1
  split<;>lia
theorem ZGL {ts:List E3}(h:ts≠ []):minS ts∈ts:=by
 have hl:0<ts.length:=BN.mpr h
 have hb:=ZDj (λi j=>HS.ltS (ts.getD i "") (ts.getD j "")) (ts.length-1)
 unfold minS
 rw[AT,AG (by lia)]
 exact BJ _
theorem ZDR:∀{vs:List E2} {ts:List E3},StrsAre vs ts->∀i v,vs[i]?=some v->∃t,v=Df (ts.getD i "") t
 |_,_,.nil,i,v,h=>by simp at h
 |_,_,.cons x t r,0,v,h=>by simp at h;subst h;exact⟨t,rfl⟩
 |_,_,.cons x t r,i+1,v,h=>by simpa using ZDR r i v (by simpa using h)
section
variable {X:Cx}
theorem ZLo (hc:X.calm=true):ZB6 X (.builtin "min") (λxs H Q=>∃a,∃ts:List E3,xs= [.ref a]/\SqL X.K H a (ts.map V.str)/\ts≠ []/\Q (.str (minS ts)) H):=by
 intro pins s Z H xs us Q I r h
 obtain⟨a,ts,rfl,hq,hne,q⟩:=h
 obtain⟨u,rfl,ru⟩:=vals1 r
 cases ru
 obtain⟨its,ri,pl,hz⟩:=I.list hq
 have hS:StrsAre its ts:=ZBm ri
 have hl:its.length=ts.length:=by have:=ri.length;rw[AA] at this;exact this.symm
 have hp:0<ts.length:=BN.mpr hne
 have al:a<s.heap.objs.size:=by obtain⟨o,ho,_⟩:=pl.isList;exact AI ho
 refine call_min_walk (Fo pl.isList ?_)
 refine⟨s.heap.objs.size,[s.heap.objs.size,a],[s.heap.objs.size],its.toArray.size,_,_,λi j=>HS.ltS (ts.getD i "") (ts.getD j ""),rfl,Walks.list (show X.A.in1.handled=none from I.ok.hd hc) _ a (AV al) its.toArray,
  ⟨⟨_,AN _ rfl,rfl,rfl⟩,pl.isList.push _⟩,λb hb=>?_,by rw[AO];lia,λi j vi vj s' Q' E' hi hj hQ=>?_,λv h' tk hv hk=>?_⟩
 ·show b<(s.heap.push _).objs.size
  rw[BE]
  simp at hb
  rcases hb with e|e
  ·rw[e];exact Bm _
  ·rw[e];exact Dx al
 ·obtain⟨t1,rfl⟩:=ZDR hS i vi (by rw[<-hi];simp)
  obtain⟨t2,rfl⟩:=ZDR hS j vj (by rw[<-hj];simp)
  exact lt_str hQ
 ·rw[<-A8] at hv
  obtain⟨t,rfl⟩:=ZDR hS _ v hv
  have e:its.toArray.size-1=ts.length-1:=by rw[AO,hl]
  rw[e]
  have I1:Inv X pins Z H {s with heap:=h',toks:=tk}:=I.kept (h':=h') (t':=tk) λb o eb=>hk b o (by simp;exact AV (AI eb)) (AC _ eb)
  exact⟨.str (minS ts),H,I1,⟨t,rfl⟩,q⟩
inductive ZJO (K:AB)(x:V)(vs:List V)(H:Hp)(Q:VK):Prop
 |mk:∀a (ts:List E3) z,(x= .ref a)->(vs= [.str z])->(SqL K H a (ts.map V.str))->(z∈ts)->(ts.length<=100000)->(Q (.int (ts.idxOf z)) H)->ZJO K x vs H Q
def ZNS (K:AB):V->List V->Hp->VK->Prop:=λx vs H Q=>ZJO K x vs H Q
theorem ZMs:MtR X "list.index" (ZNS X.K):=by
 intro pins s Z H x vs v us Q I rx rv h
 obtain⟨a,ts,z,rfl,rfl,hq,hz,hn,q⟩:=h
 cases rx
 obtain⟨u,rfl,ru⟩:=vals1 rv
 obtain⟨t,rfl⟩:=ru
 obtain⟨its,ri,pl,_⟩:=I.list hq
 have hS:StrsAre its ts:=ZBm ri
 have hl:its.length=ts.length:=by have:=ri.length;rw[AA] at this;exact this.symm
 have hj:ts.idxOf z<ts.length:=C9 hz
 obtain⟨⟨cls,dd,data,sl⟩,ho,hc,n,hd⟩:=id pl.isList
 simp only at hc hd
 subst hc hd
 let e:E2->Bool:=λv=>match v with| .str y _=>y==z|_=>false
 have at_:∀m (hm:m<its.toArray.size),e its.toArray[m]=(ts.getD m ""==z):=λm hm=>by
  obtain⟨t',e'⟩:=ZDR hS m its.toArray[m] (by simp)
  show e its.toArray[m]=_
  rw[e']
 refine GM CS ⟨_,ho,rfl⟩ EC (D8 _ _)
  (SeqAt.list_indexAt a its.toArray n dd sl (.str z t) e (ts.idxOf z) (by rw[AO];lia) (by lia) ?_ ?_) ⟨ho,λy hy=>?_,?_⟩
 ·rw[at_,AT,AG hj]
  simp
 ·intro m hm hlt
  rw[at_,AT,AG (by lia)]
  have:=Ea (p:=λx=>x==z) (xs:=ts) (i:=m) hlt
  simpa using this
 ·obtain⟨m,hm,rfl⟩:=B3.mp (show y∈its by simpa using hy)
  obtain⟨t',e'⟩:=ZDR hS m its[m] (AG hm)
  rw[e']
  exact(eqGives_str _ _ _ _).at _ _
 ·exact⟨.int (ts.idxOf z),H,I.tok _,⟨_,rfl⟩,q⟩
end
end L2
namespace HT
open PySem PySem.Spec PyProof.Rows
section
variable {prog:E7}{w:FA}{A:FC}{E:E2->E4->Prop}{s:E4}
theorem getItem_whole {t sl:Ez}{items:Array E2}{vl vu:E2}{lo hi:Option Int}{Q:E2->E4->Prop}(ht:IsTup s.heap t items)(hs:s.heap.IsSliceOf sl vl vu .none)(pl:IsPart vl lo)(pu:IsPart vu hi)
  (hw:sIx items.size 0 lo=0/\sIx items.size items.size hi=items.size) (h:Q (.ref t) s):E6 (model prog w) A (getItem (.ref t) (.ref sl)) Q E s:=by
 obtain⟨os,hos,hcs,hds⟩:=id hs
 have tyS:s.TypeIs (.ref sl) "slice":=⟨os,hos,hcs⟩
 unfold getItem;try with_reducible refine FK ?_
 first|refine Ey (E5 ?_)|skip
 refine Ey (wpAny_sequenceKey ht.typeIs (by decide) (Ey (FW (name:=A2 "__getitem__") ht.typeIs BL (FQ BL ht.typeIs entry_tuple_getitem ?_ (args_tuple_getitem _ _)))))
 show E6 _ _ (Cr (.ref t) >>= _) _ _ s;refine Ey (tupleItemsOf_ ht (Ey (Fb tyS ?_)));rw[if_pos (by decide)]
 refine Ey (ZCJ hs pl pu ?_)
 have yes:(((sIx items.size 0 lo:Nat):Int)==0&&(1:Int)==1&&(sIx items.size items.size hi-sIx items.size 0 lo)==items.size)=true:=by rw[hw.1,hw.2];simp
 show E6 _ _ (if(((sIx items.size 0 lo:Nat):Int)==0&&(1:Int)==1&&(sIx items.size items.size hi-sIx items.size 0 lo)==items.size)=true then _ else _) _ _ s
 rw[if_pos yes]
 unfold Builtin.Tuple.tupleIsExact
 refine Ey (Ey (Fb ht.typeIs (E5 ?_)))
 have yes2:((BQ "tuple"==BQ "tuple")=true):=by decide
 first
  |(rw[if_pos yes2];exact Ey (Fe (E5 ⟨_,rfl,E5 h⟩)))
  |(rw[if_pos yes2];exact Ey (Fe (Ey (E5 (E5 ⟨_,rfl,E5 h⟩)))))
  |(simp only[yes2,if_true];exact Fe (E5 ⟨_,rfl,E5 h⟩))
end
end HT
namespace L2
open PySem PySem.Spec PyProof.Rows
theorem ZLe {xs:List V}{lo hi:Option Int}(h:HT.sIx xs.length 0 lo=0/\HT.sIx xs.length xs.length hi=xs.length):cutV xs lo hi=xs:=by
 unfold cutV
 rw[h.1,h.2]
 simp
section
variable {X:Cx}
theorem ZEN:SlR X (λx lo hi H Q=>∃a xs,x= .ref a/\H a=some (.tup xs)/\∀p H',Same H H'->H' p=some (.tup (cutV xs lo hi))->Q (.ref p) H'):=by
 intro pins s Z H x v vl vu lo hi sl Q I rx hs pl pu h
 obtain⟨a,xs,rfl,hx,q⟩:=h
 by_cases hw:HT.sIx xs.length 0 lo=0/\HT.sIx xs.length xs.length hi=xs.length
 ·cases rx
  obtain⟨its,r,ht,hz⟩:=I.tuple (SqT.of hx)
  have hlen:its.toArray.size=xs.length:=by rw[AO];exact r.length.symm
  refine⟨"tuple",_,BL.lookup,ht.typeIs,?_⟩
  refine HT.getItem_whole ht hs pl pu (by rw[hlen];exact hw) ?_
  exact⟨.ref a,H,I,rfl,q a H (Same.refl H) (by rw[ZLe hw];exact hx)⟩
 ·exact sl_tup pins s Z H (.ref a) v vl vu lo hi sl Q I rx hs pl pu ⟨a,xs,rfl,SqT.of hx,hw,λp np=>q p _ (Same.new np _) ZAB⟩
end
end L2
namespace HD
open PySem
section
variable {prog:E7}{w:FA}{A:FC}{E:E2->E4->Prop}{s:E4}
theorem ZLN {a:Ez}{o:FF}{xs:Array E2}{k:Nat}{Q:Option E2->E4->Prop}(gx:s.heap.get? a=some o)(hc:o.cls= .type "list")(hdat:o.data= .seq xs k)(hd:o.dict=none)(hA:A.handled=none)
  (h:∀h' tk,(∀b o,s.heap.get? b=some o->h'.get? b=some o)->Q none {s with heap:=h',toks:=tk}):E6 (model prog w) A (getAttr? (.ref a) "keys") Q E s:=by
 obtain⟨c,dct,dat,sl⟩:=o
 simp only at hc hdat hd
 subst hc hdat hd
 obtain⟨hp,gg,dd,tk,oo⟩:=s
 have tyT:∀tz,(⟨hp,gg,dd,tz,oo⟩:E4).TypeIs (.ref a) "list":=λ_=>⟨_,gx,rfl⟩
 have u1:=Gc
 have u3:=DR.lookup
 have u4:=DR.bind (.ref a)
 have u5:=am_list_getattr_none
 unfold getAttr? getAttrBy? getAttrBy
 repeat (any_goals (first|assumption|exact tyT _|((with_reducible show E6 _ _ (call (CB "list.__getattribute__") _ _) _ _ _);refine GM DR (tyT _) am_entry_list_getattribute (F.args_list_getattribute_2 _ _) (meets_getattribute_miss_list a xs k sl "keys" _ ZMq (by decide) (by size_fits)) ⟨gx,hA,λh' tz e gx'=>?_⟩)|wp_step))
 obtain⟨t',u',he⟩:=gx'.there
 show E6 _ _ (Fq _ _ _ _ _ _ _) _ _ _
 unfold Fq
 repeat (any_goals (first|assumption|wp_step))
 exact h h' tz gx'.of.keeps
end
section
variable {prog:E7}{w:FA}{A:FC}{E:E2->E4->Prop}{s:E4}{K:Type}[DecidableEq K]{knd:KeyKind prog w K}
structure StL (knd:KeyKind prog w K)(h0:E9)(its:List E2)(kvs:List (K×E2))(a d it:Ez)(i:Nat)(h:E9):Prop where
 tup:h.IsList a its.toArray
 iter:h.IsListIter it a i
 dict:h.DictOf knd d (merged [] (kvs.take i))
 keep:∀b o,b≠d->b≠it->h0.get? b=some o->h.get? b=some o
theorem ZLJ {h h':E9}{a d:Ez}{xs:Array E2}(ht:h.IsList a xs)(hs:Heap.SameBut d h h')(hne:a≠d):h'.IsList a xs:=by
 obtain⟨o,ho,r⟩:=ht
 exact⟨o,(hs.2 a hne).trans ho,r⟩
theorem ZJw {h h':E9}{a d it:Ez}{i:Nat}(ht:h.IsListIter it a i)(hs:Heap.SameBut d h h')(hne:it≠d):h'.IsListIter it a i:=by
 obtain⟨o,ho,r⟩:=ht
 exact⟨o,(hs.2 it hne).trans ho,r⟩
theorem ZJ3 {its:List E2}{kvs:List (K×E2)}{a d it:Ez}{h0:E9}{R:Result->E4->Prop}(hh:A.handled=none)(hP:PairsAt knd h0 its kvs)(hd:a≠d)(hit:a≠it)(hdi:d≠it)(hz:its.length<=1000)
  (hd0:h0.get? d=none) (hi0:h0.get? it=none) (hml:∀i,(merged [] (kvs.take i)).length<=1000)
  (hR:∀h tk,h.DictOf knd d (merged [] kvs)->(∀b o,b≠d->b≠it->h0.get? b=some o->h.get? b=some o)->R (.ok (.ret .none)) {s with heap:=h,toks:=tk}):
  ∀(m i:Nat) (h:E9) (tk:Nat),its.length-i=m->i<=its.length->StL knd h0 its kvs a d it i h->Fj (model prog w) A (.builtin "dict.update.loop" ⟨[.ref d,.ref it,FO (i:Int),.none],[]⟩) R {s with heap:=h,toks:=tk}:=by
 intro m
 induction m with
 |zero=>
  intro i h tk hm hi st
  refine FI entry_loop ?_
  rw[An plain_loop _]
  show E6 _ A.in1 (FY (.ref it) >>= _) _ _ _
  refine Ey (Gs hh st.iter st.tup (by simp;lia) λh' hk'=>?_)
  dsimp only
  refine Ey (m:=CH d []) (E5 (E5 (hR h' _ ?_ ?_)))
  ·have e:kvs.take i=kvs:=BH (by have:=hP.1;lia)
   have:=st.dict
   rw[e] at this
   exact this.extBut hk' hdi
  ·intro b o n1 n2 e
   exact hk' b o n2 (st.keep b o n1 n2 e)
 |succ m ih=>
  intro i h tk hm hi st
  refine FI entry_loop ?_
  rw[An plain_loop _]
  have hlt:i<its.length:=by lia
  have hlk:i<kvs.length:=by have:=hP.1;lia
  have hgi:its[i]?=some its[i]:=AG hlt
  have hgk:kvs[i]?=some kvs[i]:=AG hlk
  obtain⟨b,ob,key,n,ev,hb,hbc,hbd,hkey⟩:=hP.2 i _ _ hgi hgk
  have nb1:b≠d:=λz=>by rw[z,hd0] at hb;cases hb
  have nb2:b≠it:=λz=>by rw[z,hi0] at hb;cases hb
  show E6 _ A.in1 (FY (.ref it) >>= _) _ _ _
  refine Ey (Gn (x:=its[i]) st.iter st.tup (by simp[hlt]) λh1 hI1 hs1=>?_)
  rw[ev]
  dsimp only
  have hb1:h1.get? b=some ob:=(hs1.2 b nb2).trans (st.keep b ob nb1 nb2 hb)
  have ty:∀tk',Shared.TypeIs ⟨h1,s.gens,s.drawn,tk',s.os⟩ (.ref b) "tuple":=λ_=>⟨ob,hb1,hbc⟩
  have hD1:h1.DictOf knd d (merged [] (kvs.take i)):=by
   have:=st.dict
   obtain⟨o,es,ep,ho,r⟩:=this
   exact⟨o,es,ep,(hs1.2 d hdi).trans ho,r⟩
  refine Ey (FK (Ey (FU ?_)))
  unfold CQ
  refine Ey (Fb (ty _) ?_)
  rw[if_pos (by decide)]
  refine Ey (FR hb1 hbd (E5 ?_))
  show E6 _ _ (holding [key,kvs[i].2] (dictSet d key kvs[i].2)) _ _ _
  refine FK (GZ hkey hD1 (λh2 hd2 hs2=>?_) (by have:=hml i;rw[FP];lia))
  refine E5 ⟨FN plain_loop _,ih (i+1) h2 _ (by lia) (by lia) ⟨?_,?_,?_,?_⟩⟩
  ·obtain⟨o,ho,r⟩:=st.tup
   exact ZLJ ⟨o,(hs1.2 a hit).trans ho,r⟩ hs2 hd
  ·exact ZJw hI1 hs2 hdi.symm
  ·rw[merged_take_succ [] kvs i kvs[i] hgk]
   exact hd2
  ·intro b' o' n1 n2 e
   exact(hs2.2 b' n1).trans ((hs1.2 b' n2).trans (st.keep b' o' n1 n2 e))
theorem call_dictL {a:Ez}{o:FF}{its:List E2}{n:Nat}{kvs:List (K×E2)}{Q:E2->E4->Prop}(hh:A.handled=none)(ho:s.heap.get? a=some o)(hc:o.cls= .type "list")(hdat:o.data= .seq its.toArray n)(hdn:o.dict=none)
  (hP:PairsAt knd s.heap its kvs) (hz:its.length<=1000)
  (h:∀h' tk,h'.DictOf knd s.heap.objs.size (merged [] kvs)->(∀b o,s.heap.get? b=some o->h'.get? b=some o)->Q (.ref s.heap.objs.size) {s with heap:=h',toks:=tk}):
  E6 (model prog w) A (call (.type "dict") [.ref a]) Q E s:=by
 refine callType_codes (Q₁:=λob1 s₁=>ob1= .ref s.heap.objs.size/\s₁={s with heap:=s.heap.push {cls:= .type "dict",data:= .dict #[]}}) Da (C8 _) DO (GS _ ⟨rfl,rfl⟩) ?_
 rintro ob1 s₁ ⟨rfl,rfl⟩
 have fresh0:(s.heap.push {cls:= .type "dict",data:= .dict #[]}).DictOf knd s.heap.objs.size []:=DE s.heap
 have hsz1:(s.heap.push {cls:= .type "dict",data:= .dict #[]}).objs.size=s.heap.objs.size+1:=BE ..
 have al:a<s.heap.objs.size:=AI ho
 have hoa:(s.heap.push {cls:= .type "dict",data:= .dict #[]}).get? a=some o:=AC _ ho
 refine⟨fresh0.typeIs,DG _ _,?_⟩
 unfold Builtin.«dict.__init__»
 refine Ey ?_
 unfold CG
 refine Ey (Fk fresh0.typeIs ?_)
 show E6 _ _ (pure (s.heap.objs.size,[Ab a])) _ _ _
 refine E5 ?_
 show E6 _ _ (BI "dict.__init__" s.heap.objs.size (.ref a) [] .none) _ _ _
 unfold BI
 refine Ey (Fb (T:="list") ⟨o,hoa,hc⟩ ?_)
 rw[if_pos (by decide)]
 refine Ey (ZLN hoa hc hdat hdn hh λh2 tk2 k2=>?_)
 rw[if_pos (show(none:Option E2).isNone=true from rfl)]
 refine Ey (Fe ?_)
 have ht2:h2.IsList a its.toArray:=⟨o,k2 a o hoa,hc,n,hdat⟩
 refine Ey (Fo ht2 ?_)
 obtain⟨od,_,_,hod,_⟩:=id fresh0
 have dl:s.heap.objs.size<h2.objs.size:=AI (k2 _ _ hod)
 have e0:FO 0=FO ((0:Nat):Int):=rfl
 rw[e0]
 refine E5 ⟨FN plain_loop _,ZJ3 (A:=A.in1) (s:=s) (knd:=knd) (h0:=s.heap) (kvs:=kvs) (its:=its) (a:=a) hh hP (AV al) (AV (B4 al dl)) (AV dl) hz (BA (AK _)) (BA (CN dl))
  (λi=>?_) (λh' tk hD hk=>⟨rfl,h h' tk hD λb ob e=>hk b ob (AV (AI e)) (AV (B4 (AI e) dl)) e⟩) its.length 0 _ _ (by simp) (Aq _) ⟨?_,?_,?_,?_⟩⟩
 ·have e1:=merged_length_le ([]:List (K×E2)) (kvs.take i)
  have e2:(kvs.take i).length<=kvs.length:=by rw[Ax];lia
  have e3:=hP.1
  simp only[Bj] at e1
  lia
 ·exact Heap.IsList.push ht2 _
 ·exact⟨_,AN _ rfl,rfl,rfl⟩
 ·rw[Bp]
  have hd2:h2.DictOf knd s.heap.objs.size []:=by
   obtain⟨o',es,ep,ho',r⟩:=id fresh0
   exact⟨o',es,ep,k2 _ _ ho',r⟩
  exact hd2.push _
 ·intro b ob _ _ e
  exact AC _ (k2 b ob (AC _ e))
end
end HD
namespace L2
open PySem PySem.Spec PyProof.Rows
section
variable {X:Cx}
theorem ZIM (hc:X.calm=true):ZB6 X (.type "dict") (λxs H Q=>∃a ys kvs,xs= [.ref a]/\H a=some (.lst ys)/\ZFY X.K H ys kvs/\ys.length<=1000/\∀p,H p=none->Q (.ref p) (upd H p (.dK (ZAw [] kvs)))):=by
 intro pins s Z H xs us Q I r h
 obtain⟨a,ys,kvs,rfl,hH,hp,hz,q⟩:=h
 obtain⟨u,rfl,ru⟩:=vals1 r
 cases ru
 obtain⟨z,its,n,ri,hl,ho⟩:=I.lstM hH
 obtain⟨vs,kv,hP⟩:=pairs_at I hp ri
 have lk:kvs.length<=1000:=by
  have e1:=KV.length kv
  have e2:=hP.1
  lia
 refine HD.call_dictL (I.ok.hd hc) ho rfl rfl rfl hP (by lia) λh' tk hD k=>?_
 have hm:=ZBU kvs []
 have I2:Inv X pins Z (upd H s.heap.objs.size (.dK (ZAw [] kvs))) {s with heap:=h',toks:=tk}:=by
  refine I.laid (h':=h') (t':=tk) (o:= .dK (ZAw [] kvs)) k (AK _) ⟨by rw[FP];simp only[Bj] at hm;lia,beq_eq_false_iff_ne.mpr (A9 (AV I.big)),merged [] vs,KV.merge kv .nil,hD⟩
 exact⟨.ref s.heap.objs.size,_,I2,rfl,q _ I.fresh⟩
end
end L2
namespace HZ
open PySem PySem.Builtin
section
variable {prog:E7}{w:FA}{A:FC}{E:E2->E4->Prop}{s:E4}
end
end HZ
namespace L2
open PySem PySem.Spec PyProof.Rows
section
variable {X:Cx}
end
end L2
namespace Mi
open PySem L2
abbrev Rw:=E3×E3
def val (G:List Rw)(n:E3):Option E3:=(G.find? λp=>decide (p.1=n)).map (·.2)
theorem ZN9 (n:E3):val [] n=none:=rfl
theorem ZA5 (p:Rw)(G:List Rw)(n:E3):val (p::G) n=if p.1=n then some p.2 else val G n:=by
 unfold val
 rw[Bt]
 by_cases h:p.1=n
 ·rw[if_pos h];simp[h]
 ·rw[if_neg h];simp[h]
theorem ZCU {G:List Rw}{n:E3}:val G n=none↔n∉G.map (·.1):=by
 induction G with
 |nil=>simp[ZN9]
 |cons p G ih=>
  rw[ZA5,AR,AQ,not_or]
  by_cases h:p.1=n
  ·rw[if_pos h];simp[h]
  ·rw[if_neg h,ih]
   exact⟨λz=>⟨λe=>h e.symm,z⟩,λz=>z.2⟩
theorem ZCo {G:List Rw}{n m:E3}(h:val G n=some m):(n,m)∈G:=by
 induction G with
 |nil=>cases h
 |cons p G ih=>
  rw[ZA5] at h
  by_cases e:p.1=n
  ·rw[if_pos e] at h
   cases h
   subst e
   exact AJ ..
  ·rw[if_neg e] at h
   exact AL _ (ih h)
theorem val_of {G:List Rw}(nd:(G.map (·.1)).Nodup){r:Rw}(h:r∈G):val G r.1=some r.2:=by
 induction G with
 |nil=>cases h
 |cons p G ih=>
  rw[AR,BT] at nd
  rw[ZA5]
  rcases AQ.mp h with e|h
  ·subst e;rw[if_pos rfl]
  ·rw[if_neg λe=>nd.1 (by rw[e];exact AD.mpr ⟨r,h,rfl⟩),ih nd.2 h]
def ZBZ (G:List Rw):Nat->List E3->E3->E3
 |0,_,n=>n
 |f+1,P,n=>match val G n with
  |none=>n
  |some m=>if n∈P then n else ZBZ G f (P++ [n]) m
def stop (G:List Rw)(n:E3):E3:=ZBZ G (G.length+1) [] n
theorem ZKB {G:List Rw}{n:E3}(h:val G n=none):stop G n=n:=by
 unfold stop ZBZ
 rw[h]
theorem ZBW {G:List Rw}{f:Nat}{P:List E3}{n m:E3}(h:val G n=some m)(hn:n∉P):ZBZ G (f+1) P n=ZBZ G f (P++ [n]) m:=by
 show(match val G n with|none=>n|some m=>if n∈P then n else ZBZ G f (P++ [n]) m)=_
 rw[h]
 exact if_neg hn
theorem ZBw {G:List Rw}{f:Nat}{P:List E3}{n:E3}(h:val G n=none):ZBZ G f P n=n:=by
 cases f with
 |zero=>rfl
 |succ f=>
  show(match val G n with|none=>n|some m=>if n∈P then n else ZBZ G f (P++ [n]) m)=_
  rw[h]
theorem ZCO {G:List Rw}{f:Nat}{P:List E3}{n:E3}(h:n∈P):ZBZ G f P n=n:=by
 cases f with
 |zero=>rfl
 |succ f=>
  show(match val G n with|none=>n|some m=>if n∈P then n else ZBZ G f (P++ [n]) m)=_
  cases val G n with
  |none=>rfl
  |some m=>exact if_pos h
theorem ZFr {G:List Rw}{n m:E3}(h:val G n=some m)(h2:val G m=none):stop G n=m:=by
 unfold stop
 rw[ZBW h (by simp),ZBw h2]
theorem ZMK {G:List Rw}{n m l:E3}(h:val G n=some m)(h2:val G m=some l)(h3:val G l=none)(hne:m≠n):stop G n=l:=by
 have hl:1<=G.length:=DV (ZCo h)
 unfold stop
 obtain⟨k,e⟩:∃k,G.length=k+1:=⟨G.length-1,by lia⟩
 rw[e,ZBW h (by simp),ZBW h2 (by simpa using hne),ZBw h3]
structure Flat (R:List Rw):Prop where
 nd:(R.map (·.1)).Nodup
 no:∀r∈R,val R r.2=none
theorem Flat.stop {R:List Rw}(f:Flat R)(n:E3):stop R n=(val R n).getD n/\val R (Mi.stop R n)=none:=by
 cases h:val R n with
 |none=>rw[ZKB h];exact⟨rfl,h⟩
 |some m=>
  have hm:=f.no _ (ZCo h)
  rw[ZFr h hm]
  exact⟨rfl,hm⟩
def ZBL (R:List Rw):List Rw:=(R.map λr=>(r.1,Mi.stop R r.1)).filter λr=>(val R r.2).isNone
def more (R:List Rw)(one en:E3):List Rw:=((R.filter λr=>decide (r.1≠one)).map λr=>(r.1,if r.2=one then en else r.2))++ [(one,en)]
def ZBv (R:List Rw)(one en:E3):List Rw:=(R.filter λr=>decide (r.1≠one))++ [(one,en)]
theorem ZJ1 {R:List Rw}(nd:(R.map (·.1)).Nodup)(one en n:E3):val (ZBv R one en) n=if n=one then some en else val R n:=by
 unfold ZBv
 induction R with
 |nil=>
  show val [(one,en)] n=_
  rw[ZA5]
  by_cases h:n=one
  ·rw[if_pos h.symm,if_pos h]
  ·rw[if_neg (A9 h),if_neg h]
 |cons p R ih=>
  rw[AR,BT] at nd
  rw[List.filter_cons]
  by_cases h:p.1=one
  ·rw[if_neg (by simpa using h),ih nd.2,ZA5]
   by_cases e:n=one
   ·rw[if_pos e,if_pos e]
   ·rw[if_neg e,if_neg e,if_neg λz=>e (z.symm.trans h)]
  ·rw[if_pos (by simpa using h),Ct,ZA5,ZA5]
   by_cases e:p.1=n
   ·rw[if_pos e,if_pos e,if_neg λz=>h (e.trans z)]
   ·rw[if_neg e,if_neg e,ih nd.2]
theorem ZE3 {R:List Rw}(nd:(R.map (·.1)).Nodup)(one en:E3):((ZBv R one en).map (·.1)).Nodup:=by
 unfold ZBv
 rw[AX,Aw]
 refine⟨?_,by simp,λa ha b hb=>?_⟩
 ·exact(nd.sublist ((B6 (p:=λ(r:Rw)=>decide (r.1≠one))).map (·.1)))
 ·obtain⟨r,hr,rfl⟩:=AD.mp ha
  have:=(Ao.mp hr).2
  have hb':b=one:=by simpa using hb
  subst hb'
  simpa using this
theorem ZGz {R:List Rw}(f:Flat R){one en:E3}(he:val R en=none)(hne:en≠one):ZBL (ZBv R one en)=more R one en:=by
 have wv:=ZJ1 f.nd one en
 have e1:val (ZBv R one en) en=none:=by rw[wv,if_neg hne,he]
 have s1:Mi.stop (ZBv R one en) one=en:=ZFr (by rw[wv,if_pos rfl]) e1
 have key:∀r∈R,r.1≠one->Mi.stop (ZBv R one en) r.1=(if r.2=one then en else r.2)/\val (ZBv R one en) (if r.2=one then en else r.2)=none:=λr hr hn=>by
  have v1:val (ZBv R one en) r.1=some r.2:=by rw[wv,if_neg hn,val_of f.nd hr]
  by_cases h:r.2=one
  ·rw[if_pos h]
   refine⟨ZMK v1 (l:=en) (by rw[h,wv,if_pos rfl]) e1 (by rw[h];exact A9 hn),e1⟩
  ·rw[if_neg h]
   have v2:val (ZBv R one en) r.2=none:=by rw[wv,if_neg h,f.no r hr]
   exact⟨ZFr v1 v2,v2⟩
 unfold ZBL
 have em:((ZBv R one en).map λ(r:Rw)=>(r.1,Mi.stop (ZBv R one en) r.1))=more R one en:=by
  show Ds (λ(r:Rw)=>(r.1,Mi.stop (ZBv R one en) r.1)) ((R.filter λ(r:Rw)=>decide (r.1≠one))++ [(one,en)])=_
  unfold more
  rw[AX]
  congr 1
  ·refine Ah λr hr=>?_
   obtain⟨h1,h2⟩:=Ao.mp hr
   rw[(key r h1 (by simpa using h2)).1]
  ·show[(one,Mi.stop (ZBv R one en) one)]=_
   rw[s1]
 rw[em,Bx]
 intro r hr
 unfold more at hr
 rcases AY.mp hr with hr|hr
 ·obtain⟨q,hq,rfl⟩:=AD.mp hr
  obtain⟨h1,h2⟩:=Ao.mp hq
  show(val (ZBv R one en) _).isNone=true
  rw[(key q h1 (by simpa using h2)).2]
  rfl
 ·have:r=(one,en):=by simpa using hr
  subst this
  rw[e1]
  rfl
def Rise (R:List Rw):Prop:=R.Pairwise λa b=>HS.ltS a.1 b.1=true
theorem Rise.nd {R:List Rw}(h:Rise R):(R.map (·.1)).Nodup:=by
 rw[List.Nodup,Aa]
 exact h.imp λ{a b} z e=>by rw[e,HS.ltS_irr] at z;cases z
theorem ZHz:∀{A B:List Rw},Rise A->Rise B->(∀r,r∈A↔r∈B)->A=B
 | [],[],_,_,_=>rfl
 | [],b::B,_,_,h=>by have:=(h b).mpr (AJ ..);cases this
 |a::A,[],_,_,h=>by have:=(h a).mp (AJ ..);cases this
 |a::A,b::B,ha,hb,h=>by
  have ha':=Bz.mp ha
  have hb':=Bz.mp hb
  have e:a=b:=by
   rcases AQ.mp ((h a).mp (AJ ..)) with e|e
   ·exact e
   ·rcases AQ.mp ((h b).mpr (AJ ..)) with e2|e2
    ·exact e2.symm
    ·have h1:=hb'.1 a e
     have h2:=ha'.1 b e2
     rw[HS.ltS_tot _ _ h1] at h2
     cases h2
  subst e
  rw[ZHz (A:=A) (B:=B) ha'.2 hb'.2 λr=>?_]
  constructor
  ·intro hr
   rcases AQ.mp ((h r).mp (AL _ hr)) with e|e
   ·subst e
    have:=ha'.1 r hr
    rw[HS.ltS_irr] at this
    cases this
   ·exact e
  ·intro hr
   rcases AQ.mp ((h r).mpr (AL _ hr)) with e|e
   ·subst e
    have:=hb'.1 r hr
    rw[HS.ltS_irr] at this
    cases this
   ·exact e
theorem ZHy {R:List Rw}(nd:(R.map (·.1)).Nodup)(h:R.Pairwise λa b=>HS.ltT [b.1,b.2] [a.1,a.2]=false):Rise R:=by
 have nd':R.Pairwise λa b=>a.1≠b.1:=by
  rw[List.Nodup,Aa] at nd
  exact nd
 refine(h.and nd').imp λ{a b} z=>?_
 obtain⟨z1,z2⟩:=z
 have e:HS.ltT [b.1,b.2] [a.1,a.2]=HS.ltS b.1 a.1:=by
  show(if b.1=a.1 then _ else _)=_
  rw[if_neg (A9 z2)]
 rw[e] at z1
 cases hc:HS.ltS a.1 b.1 with
 |true=>rfl
 |false=>exact absurd (HS.ltS_tri hc z1) z2
def putS (D:List Rw)(n y:E3):List Rw:=if D.any (λp=>decide (p.1=n)) then D.map (λp=>if p.1=n then(p.1,y) else p) else D++ [(n,y)]
def dkOf (D:List Rw):List (Key×V):=D.map λp=>((AH p.1:Key),V.str p.2)
theorem ZDt (D:List Rw)(n:E3):valV (dkOf D) (AH n)=(val D n).map V.str:=by
 induction D with
 |nil=>rfl
 |cons p D ih=>
  rw[ZA5]
  show valV ((AH p.1,V.str p.2)::dkOf D) _=_
  by_cases h:p.1=n
  ·rw[ZAn (show((AH p.1:Key),V.str p.2).1=AH n by rw[h]),if_pos h];rfl
  ·rw[ZAj (show¬((AH p.1:Key),V.str p.2).1=AH n fromλe=>h (Cp e)),if_neg h,ih]
theorem ZGr {D:List Rw}{n y m:E3}(h:val D n=some m):(putS D n y).map (·.1)=D.map (·.1):=by
 have:D.any (λp=>decide (p.1=n))=true:=Cu.mpr ⟨(n,m),ZCo h,by simp⟩
 unfold putS
 rw[if_pos this,AE]
 refine Ah λp _=>?_
 show(if p.1=n then(p.1,y) else p).1=p.1
 split<;>rfl
theorem ZGB {D:List Rw}{n y:E3}(h:val D n=none):putS D n y=D++ [(n,y)]:=by
 have:¬D.any (λp=>decide (p.1=n))=true:=λz=>by
  obtain⟨p,hp,e⟩:=Cu.mp z
  exact ZCU.mp h (AD.mpr ⟨p,hp,by simpa using e⟩)
 unfold putS
 rw[if_neg this]
theorem ZNi (D:List Rw)(n y:E3):putK (dkOf D) (AH n) (V.str y)=dkOf (putS D n y):=by
 have e1:((dkOf D).any λkv=>decide (kv.1=(AH n:Key)))=D.any λp=>decide (p.1=n):=by
  unfold dkOf
  rw[Dt]
  congr 1
  funext p
  show decide ((AH p.1:Key)=AH n)=_
  rw[ZNf]
 unfold putK putS
 rw[e1]
 split
 ·unfold dkOf
  rw[AE,AE]
  refine Ah λp _=>?_
  show(if(AH p.1:Key)=AH n then((AH p.1:Key),V.str y) else((AH p.1:Key),V.str p.2))=_
  by_cases h:p.1=n
  ·rw[if_pos (by rw[h])];show _=((AH (if p.1=n then(p.1,y) else p).1:Key),V.str (if p.1=n then(p.1,y) else p).2);rw[if_pos h]
  ·rw[if_neg λe=>h (Cp e)];show _=((AH (if p.1=n then(p.1,y) else p).1:Key),V.str (if p.1=n then(p.1,y) else p).2);rw[if_neg h]
 ·unfold dkOf
  rw[AX]
  rfl
theorem ZBf {R:List Rw}(nd:(R.map (·.1)).Nodup):ZAw [] (dkOf R)=dkOf R:=by
 have key:∀(B A:List Rw),((A++B).map (·.1)).Nodup->ZAw (dkOf A) (dkOf B)=dkOf (A++B):=λB=>by
  induction B with
  |nil=>intro A _;rw[A5];rfl
  |cons p B ih=>
   intro A h
   have hp:val A p.1=none:=ZCU.mpr λz=>by
    rw[AX,Aw] at h
    exact h.2.2 p.1 z p.1 (by simp) rfl
   show ZAw (putK (dkOf A) (AH p.1) (V.str p.2)) (dkOf B)=_
   rw[ZNi,ZGB hp,ih (A++ [p]) (by rw[BX];exact h),BX]
   rfl
 exact key R [] nd
end Mi
namespace Co
open PySem L2 Mi
def Has (P:E7)(w:FA)(K:AB)(mg:E3->Option E2)(base:E9)(x:E3)(k:Nat)(ps:List E3)(sp:Sp):Prop:=
 ∃(f:Ez) (fd:FJ),FnOk P w K mg base CX0 k f fd ps sp/\Binds K fd ps []/\Ad K (.ref f)=true/\mg x=some (.ref f)
def HasE (P:E7)(w:FA)(K:AB)(mg:E3->Option E2)(base:E9)(x:E3)(k:Nat)(ps:List E3)(sp:Sp):Prop:=
 ∃(f:Ez) (fd:FJ),FnOk P w K mg base (CXE P w) k f fd ps sp/\Binds K fd ps []/\Ad K (.ref f)=true/\mg x=some (.ref f)
theorem ZAE {X:Cx}{x:E3}{k:Nat}{ps:List E3}{sp:Sp}{e:FD}{es:List FD}{t:TA}{p pos:Pos}(h:Has X.prog X.w X.K X.mg X.base x k ps sp)(hr:Room k X.A)(hg:Gl X x)(ha:PA X (e::es) t)
  (hdb:(x==("__debug__":E3))=false:=by decide) (he:FG (e::es) X.env=(false,eval e X.env)::FG es X.env:=by rfl) (hpl:(backTo pos (FG es X.env)).any (·.1)=false:=by rfl):
  PE X (.Call (.Name x p) (e::es) [] pos) (ZCM sp [] E0 t):=by
 obtain⟨f,fd,F,b,kp,m⟩:=h
 exact ZKn F hr hg m kp b .nil pass0 ha hdb he hpl
theorem ZIl {X:Cx}{x:E3}{k:Nat}{ps:List E3}{sp:Sp}{E:XK}{e:FD}{es:List FD}{t:TA}{p pos:Pos}(h:HasE X.prog X.w X.K X.mg X.base x k ps sp)(hr:Room k X.A)(hx:ZHM (CXE X.prog X.w) X E)(hg:Gl X x)(ha:PA X (e::es) t)
  (hdb:(x==("__debug__":E3))=false:=by decide) (he:FG (e::es) X.env=(false,eval e X.env)::FG es X.env:=by rfl) (hpl:(backTo pos (FG es X.env)).any (·.1)=false:=by rfl):
  PE X (.Call (.Name x p) (e::es) [] pos) (ZCM sp [] E t):=by
 obtain⟨f,fd,F,b,kp,m⟩:=h
 exact ZKn F hr hg m kp b .nil hx ha hdb he hpl
theorem Has.mono {P:E7}{w:FA}{K:AB}{mg:E3->Option E2}{base:E9}{x:E3}{j k:Nat}{ps:List E3}{sp:Sp}(h:Has P w K mg base x j ps sp)(hk:j<=k):Has P w K mg base x k ps sp:=by
 obtain⟨f,fd,F,b,kp,m⟩:=h
 exact⟨f,fd,F.mono hk,b,kp,m⟩
theorem boot_any:Ff (A2 "any")=some (CB "any"):=by decide +kernel
theorem boot_sorted:Ff (A2 "sorted")=some (CB "sorted"):=by decide +kernel
theorem boot_tuple:Ff (A2 "tuple")=some (BQ "tuple"):=by decide +kernel
theorem boot_dict:Ff (A2 "dict")=some (BQ "dict"):=by decide +kernel
theorem big (n:Nat)(h:n<=100000):n<=sizeLine:=by rw[FP];lia
theorem bigl (n:Nat)(h:n<=100000):n<sizeLine:=by rw[FP];lia
theorem iteN {c A B:Prop}[Decidable c](hc:¬c)(h:B):if decide c=true then A else B:=by
 rw[decide_eq_false hc]
 exact iteF h
theorem iteY {c A B:Prop}[Decidable c](hc:c)(h:A):if decide c=true then A else B:=by
 rw[decide_eq_true hc]
 exact iteT h
structure Blt (mg:E3->Option E2):Prop where
 len:mg "len"=none
 all:mg "all"=none
 isi:mg "isinstance"=none
 str:mg "str"=none
 int:mg "int"=none
 bool:mg "bool"=none
 tuple:mg "tuple"=none
 list:mg "list"=none
 range:mg "range"=none
 zip:mg "zip"=none
 any:mg "any"=none
 sorted:mg "sorted"=none
 dict:mg "dict"=none
 enumerate:mg "enumerate"=none
abbrev ZA4 (mg:E3->Option E2)(x:E3)(n:Int):Prop:=∃t,mg x=some (.int n t)
theorem ZGY (a b:E3):(a++b).length=a.length+b.length:=strLen_append a b
def Scr (K:AB)(H:Hp)(a:Ez)(ns:List Int):Prop:=
 (∃o,H a=some (.frz o (.lst (ns.map V.int))))\/
  ∃(o:FF) (its:Array E2) (n:Nat),K.lookup a=some o/\o.cls= .type "list"/\o.dict=none/\o.data= .seq its n/\its.size<=sizeLine/\Vals (ns.map V.int) its.toList
theorem Scr.sq {K:AB}{H:Hp}{a:Ez}{ns:List Int}(h:Scr K H a ns):SqL K H a (ns.map V.int):=by
 rcases h with⟨o,h⟩|h
 ·exact .inl (.inr ⟨o,h⟩)
 ·exact .inr h
def Stp (t:Ez)(H H':Hp):Prop:=∀b o,b≠t->H b=some o->H' b=some o
theorem Stp.refl (t:Ez)(H:Hp):Stp t H H:=λ_ _ _ h=>h
theorem Stp.trans {t:Ez}{H H1 H2:Hp}(a:Stp t H H1)(b:Stp t H1 H2):Stp t H H2:=λc o hc h=>b c o hc (a c o hc h)
theorem _root_.L2.Same.stp {t:Ez}{H H':Hp}(s:Same H H'):Stp t H H':=λb o _ h=>s b o h
theorem Stp.upd {t:Ez}{H:Hp}(o:HO):Stp t H (upd H t o):=λb u hb h=>by rw[ZAN hb];exact h
theorem Scr.stp {K:AB}{H H':Hp}{a t:Ez}{ns:List Int}{zs:List V}(h:Scr K H a ns)(ht:H t=some (.lst zs))(s:Stp t H H'):Scr K H' a ns:=by
 rcases h with⟨o,h⟩|h
 ·refine .inl ⟨o,s a _ (λe=>?_) h⟩
  rw[e,ht] at h
  cases h
 ·exact .inr h
theorem Scr.same {K:AB}{H H':Hp}{a:Ez}{ns:List Int}(h:Scr K H a ns)(s:Same H H'):Scr K H' a ns:=by
 rcases h with⟨o,h⟩|h
 ·exact .inl ⟨o,s a _ h⟩
 ·exact .inr h
inductive ZJN (K:AB)(vs:List V)(H:Hp)(Q:VK):Prop
 |mk:∀(a t:Ez) (ns:List Int) (zs:List V) (m:Int),(vs= [.ref a,.ref t,.int m])->(Scr K H a ns)->(ns.length<=63)->(H t=some (.lst zs))->(zs.length<100000)->(0<m)->(∀(r:Int) (H':Hp),0<=r->r<m->H' t=some (.lst (zs++ [.int 0]))->Stp t H H'->Q (.int r) H')->ZJN K vs H Q
def ZE9 (K:AB):Sp:=λvs H Q _=>ZJN K vs H Q
inductive ZJD (K:AB)(vs:List V)(H:Hp)(Q:VK):Prop
 |mk:∀(a t:Ez) (ns:List Int) (zs:List V),(Scr K H a ns)->(ns.length<=63)->(H t=some (.lst zs))->(zs.length<100000)->(((∃(l:Ez) (xs:List V),vs= [.ref a,.ref t,.ref l]/\H l=some (.lst xs)/\l≠t/\0<xs.length/\∀(x:V) (H':Hp),x∈xs->H' t=some (.lst (zs++ [.int 0]))->Stp t H H'->Q x H')\/(∃z:E3,vs= [.ref a,.ref t,.str z]/\0<z.length/\z.length<=1000/\∀(c:Nat) (H':Hp),c∈z.cps.toList->H' t=some (.lst (zs++ [.int 0]))->Stp t H H'->Q (.str ⟨#[c]⟩) H')))->ZJD K vs H Q
def ZDo (K:AB):Sp:=λvs H Q _=>ZJD K vs H Q
theorem at_mod {ns:List Int}(h:ns≠ [])(k:Int):∃v:Int,atI (ns.map V.int) (k % ((ns.map V.int).length:Int))=some (.int v):=by
 have hl:0<ns.length:=BN.mpr h
 have e:((ns.map V.int).length:Int)=(ns.length:Int):=by rw[AA]
 rw[e]
 have h0:=Int.emod_nonneg k (b:=(ns.length:Int)) (by lia)
 have h1:=Ew k (b:=(ns.length:Int)) (by lia)
 generalize k % (ns.length:Int)=i at h0 h1 ⊢
 obtain⟨j,rfl⟩:∃j:Nat,i=(j:Int):=⟨i.toNat,by lia⟩
 have hj:j<ns.length:=by lia
 exact⟨ns[j],ZLr (by rw[AS,AG hj];rfl)⟩
theorem ZI3 {α:Type}{xs:List α}{r:Int}(h0:0<=r)(h1:r<(xs.length:Int)):∃v,atI xs r=some v/\v∈xs:=by
 obtain⟨j,rfl⟩:∃j:Nat,r=(j:Int):=⟨r.toNat,by lia⟩
 have hj:j<xs.length:=by lia
 exact⟨xs[j],ZLr (AG hj),BJ hj⟩
inductive ZL5 (K:AB)(vs:List V)(H:Hp)(Q:VK):Prop
 |mk:∀(a:Ez) (ns:List Int),(vs= [.ref a])->(Scr K H a ns)->(ns.length<=63)->(∀H',Q (.bl true) H')->ZL5 K vs H Q
def ZMN (K:AB):Sp:=λvs H Q _=>ZL5 K vs H Q
theorem scr_of {K:AB}{H:Hp}{a:Ez}{ns:List Int}(hO:Only H)(hS:SqL K H a (ns.map V.int)):Scr K H a ns:=by
 rcases hS with(h|⟨o,h⟩)|h
 ·rcases hO a with z|⟨o,xs,z⟩
  ·rw[z] at h;cases h
  ·rw[z] at h;cases h
 ·exact .inl ⟨o,h⟩
 ·exact .inr h
def isS:V->Bool
 | .str _=>true
 |_=>false
def ZKL:Nat->FD->Bool
 |0,_=>false
 |_+1,.Constant .none _ _=>true
 |_+1,.Constant (.int _) _ _=>true
 |_+1,.Constant (.bool _) _ _=>true
 |_+1,.Constant (.str x) _ _=>decide (x.length<=100)
 |n+1,.Tuple es _ _=>decide (es.length<=100)&&es.all (ZKL n)
 |n+1,.List es _=>decide (es.length<=100)&&es.all (ZKL n)
 |_+1,.BinOp (.Constant (.str z) _ _) .Mult (.Constant (.int k) _ _) _=>decide (z.length=1)&&decide (2<=k)&&decide (k<=100)
 |n+1,.BinOp (.Tuple es _ _) .Mult (.Constant (.int k) _ _) _=>decide (1<=es.length)&&decide (es.length<=10)&&es.all (ZKL n)&&decide (2<=k)&&decide (k<=100)
 |_+1,_=>false
section
variable {X:Cx}
theorem ZOV {e:FD}{t u:TE}(h:PE X e t)(hi:∀Z H Q,u Z H Q->t Z H Q):PE X e u:=λpins s Z H Q I q=>h pins s Z H Q I (hi Z H Q q)
def ZNh:FD->List FD
 | .List es _=>es
 |_=> []
def isLst:FD->Bool
 | .List _ _=>true
 |_=>false
end
abbrev VE:List E2:= [.type "ValueError",.type "Exception",.type "BaseException",.type "object"]
def ZB3 (H:Hp)(rs:List (Ez×Rw)):Prop:=∀r∈rs,H r.1=some (.tup [V.str r.2.1,V.str r.2.2])
abbrev refs (rs:List (Ez×Rw)):List V:=rs.map λr=>V.ref r.1
inductive ZAx (H:Hp)(a:Ez)(R:List Rw):Prop
 |mk:∀(rs:List (Ez×Rw)),(H a=some (.tup (refs rs)))->(ZB3 H rs)->(rs.map (·.2)=R)->ZAx H a R
theorem ZB3.ts {H H':Hp}{rs:List (Ez×Rw)}(h:ZB3 H rs)(s:TS' H H'):ZB3 H' rs:=λr hr=>s _ _ (h r hr)
theorem ZAx.ts {H H':Hp}{a:Ez}{R:List Rw}(h:ZAx H a R)(s:TS' H H'):ZAx H' a R:=by
 obtain⟨rs,h1,h2,h3⟩:=h
 exact⟨rs,s _ _ h1,h2.ts s,h3⟩
theorem ZAx.same {H H':Hp}{a:Ez}{R:List Rw}(h:ZAx H a R)(s:Same H H'):ZAx H' a R:=h.ts s.ts
theorem Stp.ts {t:Ez}{H H':Hp}{zs:List V}(s:Stp t H H')(h:H t=some (.lst zs)):TS' H H':=λb xs hb=>s b _ (λe=>by rw[e,h] at hb;cases hb) hb
theorem ZBX {K:AB}{H:Hp}:∀{rs:List (Ez×Rw)},ZB3 H rs->ZFY K H (refs rs) (dkOf (rs.map (·.2)))
 | [],_=> .nil
 |r::rs,h=> .cons ⟨r.1,rfl,SqT.of (h r (AJ ..))⟩ (ZBX λq hq=>h q (AL _ hq))
theorem ZBJ {α:Type}[DecidableEq α]:∀{P L:List α},P.Nodup->(∀x∈P,x∈L)->P.length<=L.length
 | [],_,_,_=>Aq _
 |a::P,L,nd,h=>by
  rw[BT] at nd
  have ha:=h a (AJ ..)
  have ih:=ZBJ (P:=P) (L:=L.erase a) nd.2 λx hx=>(Eg (λ(e:x=a)=>nd.1 (e▸hx))).mpr (h x (AL _ hx))
  have hl:(L.erase a).length=L.length-1:=EW ha
  have hp:0<L.length:=DV ha
  rw[Ac]
  lia
def ZD0 (H:Hp):V->Option Rw
 | .ref b=>match H b with
  |some (.tup [.str x,.str y])=>some (x,y)
  |_=>none
 |_=>none
theorem ZBr {H:Hp}{r:Ez×Rw}(h:H r.1=some (.tup [V.str r.2.1,V.str r.2.2])):ZD0 H (.ref r.1)=some r.2:=by
 show(match H r.1 with|some (.tup [.str x,.str y])=>some (x,y)|_=>none)=_
 rw[h]
theorem ZCx {H:Hp}{rs:List (Ez×Rw)}(h:ZB3 H rs)(p:Rw->Bool):(refs rs).filter (λv=>((ZD0 H v).map p).getD false)=refs (rs.filter λr=>p r.2):=by
 unfold refs
 rw[Bb]
 congr 1
 refine Cm λr hr=>?_
 show((ZD0 H (V.ref r.1)).map p).getD false=_
 rw[ZBr (h r hr)]
 rfl
theorem ZDg (rs:List (Ez×Rw))(p:Rw->Bool):(rs.filter λr=>p r.2).map (·.2)=(rs.map (·.2)).filter p:=by
 rw[Bb]
 rfl
theorem ZB3.filter {H:Hp}{rs:List (Ez×Rw)}(h:ZB3 H rs)(p:Ez×Rw->Bool):ZB3 H (rs.filter p):=λr hr=>h r (Ao.mp hr).1
theorem ZCc {rs:List (Ez×Rw)}{v:V}(h:v∈refs rs):∃r∈rs,v= .ref r.1:=by
 obtain⟨r,hr,e⟩:=AD.mp h
 exact⟨r,hr,e.symm⟩
theorem ZG3 {α:Type}{H:Hp}{f:α->Rw}{g:α->V}{L:List α}(hi:∀r∈L,∀r'∈L,g r=g r'->f r=f r'):∀{xs:List α} {ys:List V},(∀x∈xs,x∈L)->Paired (λx v=>∃r∈L,x=g r/\∃b,v=V.ref b/\H b=some (.tup [V.str (f r).1,V.str (f r).2])) (xs.map g) ys->
  ∃rs:List (Ez×Rw),ys=refs rs/\ZB3 H rs/\rs.map (·.2)=xs.map f
 | [],_,_,h=>by cases h;exact⟨[],rfl,(λr hr=>by cases hr),rfl⟩
 |x::xs,_,hs,h=>by
  rw[AR] at h
  cases h with
  |cons h1 h2=>
   obtain⟨r,hr,e,b,rfl,hb⟩:=h1
   obtain⟨rs,e1,e2,e3⟩:=ZG3 hi (λq hq=>hs q (AL _ hq)) h2
   have ef:=hi _ (hs x (AJ ..)) _ hr e
   refine⟨(b,f x)::rs,by rw[e1];rfl,λq hq=>?_,by rw[AR,AR,e3]⟩
   rcases AQ.mp hq with rfl|hq
   ·show H b=some (.tup [V.str (f x).1,V.str (f x).2])
    rw[ef];exact hb
   ·exact e2 q hq
theorem ZGh {rs:List (Ez×Rw)}{ss:List (Ez×List E3)}(h:ss.Perm (rs.map λr=>(r.1,[r.2.1,r.2.2]))):∃rs2:List (Ez×Rw),rs2.Perm rs/\ss=rs2.map λr=>(r.1,[r.2.1,r.2.2]):=by
 let g:Ez×List E3->Ez×Rw:=λs=>(s.1,(s.2.getD 0 "",s.2.getD 1 ""))
 refine⟨ss.map g,?_,?_⟩
 ·have:=h.map g
  rw[AE] at this
  have e:(rs.map (g∘λr=>(r.1,[r.2.1,r.2.2])))=rs:=by
   have:∀r∈rs,(g∘λ(r:Ez×Rw)=>(r.1,[r.2.1,r.2.2])) r=r:=λr _=>rfl
   rw[Ah this,CJ]
  rw[e] at this
  exact this
 ·rw[AE]
  have:∀s∈ss,((λ(r:Ez×Rw)=>(r.1,[r.2.1,r.2.2]))∘g) s=s:=λs hs=>by
   obtain⟨r,_,rfl⟩:=AD.mp (h.mem_iff.mp hs)
   rfl
  rw[Ah this,CJ]
inductive ZJC (vs:List V)(H:Hp)(Q:VK):Prop
 |mk:∀(d:Ez) (R:List Rw) (n:E3),(vs= [.ref d,.str n])->(H d=some (.dK (dkOf R)))->(R.length<=1000)->(∀H',Same H H'->Q (.str (stop R n)) H')->ZJC vs H Q
def ZEK:Sp:=λvs H Q _=>ZJC vs H Q
def Txt1 (n:E3):Prop:=n.length<=100/\∀c∈n.cps.toList,c<16 ^ 8
inductive ZL6 (C:Ez)(vs:List V)(H:Hp)(Q:VK)(E:XK):Prop
 |mk:∀(a:Ez) (R:List Rw) (n:E3),(vs= [.ref a,.str n])->(ZAx H a R)->((R.map (·.1)).Nodup)->(R.length<=1000)->(Txt1 n)->((val R (stop R n)=none->∀H',Same H H'->Q (.str (stop R n)) H'))->((val R (stop R n)≠none->∀H',Same H H'->E (.ref C) none H'))->ZL6 C vs H Q E
def ZKF (C:Ez):Sp:=λvs H Q E=>ZL6 C vs H Q E
inductive ZJK (vs:List V)(H:Hp)(Q:VK):Prop
 |mk:∀(a:Ez) (R:List Rw),(vs= [.ref a])->(ZAx H a R)->((R.map (·.1)).Nodup)->(R.length<64)->(∀p R' H',Same H H'->ZAx H' p R'->R'.Perm (ZBL R)->Rise R'->Q (.ref p) H')->ZJK vs H Q
def ZE8:Sp:=λvs H Q _=>ZJK vs H Q
inductive ZFk (vs:List V)(H:Hp)(Q:VK):Prop
 |mk:∀(a:Ez) (R:List Rw),(vs= [.ref a])->(ZAx H a R)->((R.map (·.1)).Nodup)->(R.length<=1000)->(∀H',Same H H'->Q (.bl (!(R.any λr=>(val R r.2).isSome))) H')->ZFk vs H Q
def ZD6:Sp:=λvs H Q _=>ZFk vs H Q
inductive ZJB (C:Ez)(vs:List V)(H:Hp)(Q:VK)(E:XK):Prop
 |mk:∀(a:Ez) (R:List Rw) (one other:E3),(vs= [.ref a,.str one,.str other])->(ZAx H a R)->(Flat R)->(R.length<63)->(Txt1 one)->(Txt1 other)->(((val R other).getD other=one->∀H',Same H H'->E (.ref C) none H'))->(((val R other).getD other≠one->∀p R' H',Same H H'->ZAx H' p R'->R'.Perm (more R one ((val R other).getD other))->Rise R'->Q (.ref p) H'))->ZJB C vs H Q E
def ZIc (C:Ez):Sp:=λvs H Q E=>ZJB C vs H Q E
end Co
namespace Mi
open PySem L2
theorem ZKe {D:List Rw}(nd:(D.map (·.1)).Nodup)(n y:E3):((putS D n y).map (·.1)).Nodup:=by
 cases h:val D n with
 |some m=>rw[ZGr h];exact nd
 |none=>
  rw[ZGB h,AX,Aw]
  refine⟨nd,by simp,λa ha b hb e=>?_⟩
  have hb':b=n:=by simpa using hb
  exact ZCU.mp h (hb'▸e▸ha)
end Mi
namespace Co
open PySem L2 Mi
def ZGd:List FD->List E3->Bool
 | [],[]=>true
 | .Constant (.str x) _ _::es,t::ts=>decide (x=t)&&ZGd es ts
 |_,_=>false
def tStrs (ts:List E3):TA:=λ_ H Q=>Q (ts.map V.str) H
theorem ZKs {X:Cx}:∀{es:List FD} (ts:List E3),ZGd es ts=true->PA X es (tStrs ts)
 | [],[],_=>λpos pins s Z H Q I q=>ZAC pos pins s Z H Q I q
 | [],_::_,h=>by cases h
 |e::es,[],h=>by cases e<;>first|cases h|(rename_i c _ _;cases c<;>cases h)
 |e::es,t::ts,h=>by
  cases e with
  |Constant c k p=>
   cases c with
   |str x=>
    have h':(decide (x=t)&&ZGd es ts)=true:=h
    rw[BK,decide_eq_true_eq] at h'
    obtain⟨rfl,h2⟩:=h'
    have ih:=ZKs (X:=X) ts h2
    intro pos pins s Z H Q I q
    exact ZAA ZAu ih rfl pos pins s Z H Q I q
   |_=>cases h
  |_=>cases h
theorem ZMY {X:Cx}{e:FD}{ts:List E3}(h0:isLst e=true)(h:ZGd (ZNh e) ts=true)(hl:ts.length<=1000):PE X e (λ_ H Q=>∀p,H p=none->Q (.ref p) (upd H p (.lst (ts.map V.str)))):=by
 cases e<;>first|cases h0|skip
 rename_i es pos
 refine ZOV (ZGt (ZKs ts h)) λZ H Q q=>?_
 exact⟨big _ (by rw[AA];lia),q⟩
end Co
namespace Mi
open PySem L2
def wayF (R:List Rw):Nat->List E3->E3->List E3
 |0,P,n=>P++ [n]
 |f+1,P,n=>match val R n with
  |none=>P++ [n]
  |some m=>if n∈P then P++ [n] else wayF R f (P++ [n]) m
def way (R:List Rw)(n:E3):List E3:=wayF R (R.length+1) [] n
def Ch (R:List Rw):List E3->E3->Prop
 | [],_=>True
 |x::P,n=>val R x=some (P.headD n)/\Ch R P n
theorem Ch.snoc {R:List Rw}:∀{P:List E3} {n m:E3},Ch R P n->val R n=some m->Ch R (P++ [n]) m
 | [],n,m,_,h=>⟨h,trivial⟩
 |x::P,n,m,h,hv=>by
  obtain⟨h1,h2⟩:=h
  refine⟨?_,h2.snoc hv⟩
  cases P with
  |nil=>exact h1
  |cons y P=>exact h1
theorem Ch.drop {R:List Rw}:∀{A B:List E3} {n:E3},Ch R (A++B) n->Ch R B n
 | [],_,_,h=>h
 |_::A,B,n,h=>Ch.drop (A:=A) h.2
def ZE2 (R:List Rw)(n:E3):E3->List E3->Prop
 |cur,[]=>cur=n
 |cur,x::L=>cur=x/\x≠n/\∃m,val R x=some m/\ZE2 R n m L
theorem ZIw {R:List Rw}{n:E3}:∀{L:List E3},Ch R L n->n∉L->ZE2 R n (L.headD n) L
 | [],_,_=>rfl
 |x::L,h,hn=>by
  obtain⟨h1,h2⟩:=h
  exact⟨rfl,λe=>hn (by rw[e];exact AJ ..),_,h1,ZIw h2 λz=>hn (AL _ z)⟩
structure Way (R:List Rw)(W:List E3)(s:E3):Prop where
 last:∃P,W=P++ [s]/\(∀x∈P,x∈R.map (·.1))/\P.Nodup
 out:val R s=none->s∉W.dropLast
 ring:val R s≠none->∃A L,W=A++s::L++ [s]/\s∉A/\s∉L/\∃m,val R s=some m/\ZE2 R s m L
theorem ZFN {P L:List E3}(h1:P.Nodup)(h2:∀x∈P,x∈L):P.length<=L.length:=by
 induction P generalizing L with
 |nil=>exact Aq _
 |cons a P ih=>
  rw[BT] at h1
  have ha:=h2 a (AJ ..)
  have hl:=EW ha
  have hp:=DV ha
  have:=ih (L:=L.erase a) h1.2 λx hx=>(Eg (λ(e:x=a)=>h1.1 (e▸hx))).mpr (h2 x (AL _ hx))
  rw[Ac]
  lia
theorem ZNM {R:List Rw}:∀(f:Nat) (P:List E3) (n:E3),Ch R P n->P.Nodup->(∀x∈P,x∈R.map (·.1))->f+P.length=R.length+1->Way R (wayF R f P n) (ZBZ R f P n)
 |0,P,n,hc,nd,hk,hf=>by
  have:=ZFN nd hk
  rw[AA] at this
  lia
 |f+1,P,n,hc,nd,hk,hf=>by
  cases hv:val R n with
  |none=>
   have e1:wayF R (f+1) P n=P++ [n]:=by
    show(match val R n with|none=>P++ [n]|some m=>if n∈P then P++ [n] else wayF R f (P++ [n]) m)=_
    rw[hv]
   rw[e1,ZBw hv]
   refine⟨⟨P,rfl,hk,nd⟩,λ_=>?_,λh=>absurd hv h⟩
   rw[Ei]
   exactλh=>ZCU.mp hv (hk n h)
  |some m=>
   by_cases hp:n∈P
   ·have e1:wayF R (f+1) P n=P++ [n]:=by
     show(match val R n with|none=>P++ [n]|some m=>if n∈P then P++ [n] else wayF R f (P++ [n]) m)=_
     rw[hv]
     exact if_pos hp
    rw[e1,ZCO hp]
    refine⟨⟨P,rfl,hk,nd⟩,(λh=>by rw[hv] at h;cases h),λ_=>?_⟩
    obtain⟨A,L,e,hA⟩:=List.append_of_mem hp |>.imp λA h=>h.imp λL e=>(⟨e,by
     rw[e,Aw] at nd
     exactλz=>nd.2.2 n z n (AJ ..) rfl⟩:P=A++n::L/\n∉A)
    have hL:n∉L:=by
     rw[e,Aw] at nd
     exact(BT.mp nd.2.1).1
    have hcL:Ch R (n::L) n:=Ch.drop (A:=A) (e▸hc)
    refine⟨A,L,by rw[e],hA,hL,L.headD n,hcL.1,ZIw hcL.2 hL⟩
   ·have e1:wayF R (f+1) P n=wayF R f (P++ [n]) m:=by
     show(match val R n with|none=>P++ [n]|some m=>if n∈P then P++ [n] else wayF R f (P++ [n]) m)=_
     rw[hv]
     exact if_neg hp
    rw[e1,ZBW hv hp]
    refine ZNM f (P++ [n]) m (hc.snoc hv) ?_ (λx hx=>?_) (by rw[AW,Ai];lia)
    ·rw[Aw]
     exact⟨nd,by simp,λx hx y hy e=>by rw[AF.mp hy] at e;exact hp (e▸hx)⟩
    ·rcases AY.mp hx with hx|hx
     ·exact hk x hx
     ·rw[AF.mp hx];exact AD.mpr ⟨_,ZCo hv,rfl⟩
theorem way_is (R:List Rw)(n:E3):Way R (way R n) (stop R n):=ZNM (R.length+1) [] n trivial BZ (λx hx=>by cases hx) (by simp)
theorem ZIx {s:E3}{B:List E3}:∀{A:List E3},s∉A->(A++s::B).idxOf s=A.length
 | [],_=>by simp
 |a::A,h=>by
  have h1:a≠s:=λe=>h (by rw[e];exact AJ ..)
  have ih:=ZIx (B:=B) (A:=A) λz=>h (AL _ z)
  rw[Ct,C5,ih,beq_false_of_ne h1]
  rfl
def ZAa (R:List Rw)(n:E3):List E3:=((way R n).drop ((way R n).idxOf (stop R n))).dropLast
theorem ZDZ {R:List Rw}{n:E3}(h:val R (stop R n)≠none):∃L m,ZAa R n=stop R n::L/\val R (stop R n)=some m/\ZE2 R (stop R n) m L/\L.length<=R.length:=by
 have w:=way_is R n
 obtain⟨A,L,e,hA,hL,m,hm,hl⟩:=w.ring h
 obtain⟨P,eP,hk,nd⟩:=w.last
 refine⟨L,m,?_,hm,hl,?_⟩
 ·unfold ZAa
  have ei:(way R n).idxOf (stop R n)=A.length:=by
   rw[e,BX]
   exact ZIx hA
  rw[ei,e,BX,List.drop_left]
  show(stop R n::(L++ [stop R n])).dropLast=_
  rw[<-Ct,Ei]
 ·have ep:P=A++stop R n::L:=by
   rw[e] at eP
   exact(List.append_inj_left' eP rfl).symm
  have:=ZFN nd hk
  rw[AA,ep,AW,Ac] at this
  lia
def ZAq (ts:List E3):List E3:=ts.drop (ts.idxOf (minS ts))++ts.take (ts.idxOf (minS ts))
theorem ZIu {ts:List E3}(h:ts≠ []):ZAq ts≠ []:=by
 intro e
 have:=congrArg Ay e
 unfold ZAq at this
 rw[AW,Bl,Ax] at this
 have hl:=BN.mpr h
 have hi:=C9 (ZGL h)
 simp at this
 lia
theorem ZFp:∀{A B:List (List E3)},A.Pairwise (λa b=>HS.ltT a b=true)->B.Pairwise (λa b=>HS.ltT a b=true)->(∀r,r∈A↔r∈B)->A=B
 | [],[],_,_,_=>rfl
 | [],b::B,_,_,h=>by have:=(h b).mpr (AJ ..);cases this
 |a::A,[],_,_,h=>by have:=(h a).mp (AJ ..);cases this
 |a::A,b::B,ha,hb,h=>by
  have ha':=Bz.mp ha
  have hb':=Bz.mp hb
  have irr:∀x:List E3,HS.ltT x x=true->False:=λx hx=>by
   have:=HS.ltT_tot _ _ hx
   rw[this] at hx
   cases hx
  have e:a=b:=by
   rcases AQ.mp ((h a).mp (AJ ..)) with e|e
   ·exact e
   ·rcases AQ.mp ((h b).mpr (AJ ..)) with e2|e2
    ·exact e2.symm
    ·have h1:=hb'.1 a e
     have h2:=ha'.1 b e2
     rw[HS.ltT_tot _ _ h1] at h2
     cases h2
  subst e
  rw[ZFp (A:=A) (B:=B) ha'.2 hb'.2 λr=>?_]
  constructor
  ·intro hr
   rcases AQ.mp ((h r).mp (AL _ hr)) with e|e
   ·subst e;exact(irr _ (ha'.1 r hr)).elim
   ·exact e
  ·intro hr
   rcases AQ.mp ((h r).mpr (AL _ hr)) with e|e
   ·subst e;exact(irr _ (hb'.1 r hr)).elim
   ·exact e
end Mi
namespace Co
open PySem L2 Mi
def grp (Rs:List Rw)(g:E3):List E3:=(Rs.filter λr=>decide (r.2=g)).map (·.1)
theorem ZIy (Rs:List Rw)(r:Rw)(g:E3):grp (Rs++ [r]) g=grp Rs g++(if r.2=g then[r.1] else[]):=by
 unfold grp
 rw[Cb,AX]
 congr 1
 by_cases h:r.2=g
 ·rw[if_pos h];simp[h]
 ·rw[if_neg h];simp[h]
theorem ZKf {kvs:List (Key×V)}{us:List E3}{u:E3}{v:V}(h:kvs.map (·.1)=us.map AH):(putK kvs (AH u) v).map (·.1)=(if u∈us then us else us++ [u]).map AH:=by
 have hany:(kvs.any λkv=>decide (kv.1=(AH u:Key)))=decide (u∈us):=by
  rw[B1,Cu,decide_eq_true_eq]
  constructor
  ·rintro⟨kv,hm,e⟩
   have hk:kv.1∈kvs.map (·.1):=AD.mpr ⟨kv,hm,rfl⟩
   rw[h] at hk
   obtain⟨t,ht,e2⟩:=AD.mp hk
   have e3:kv.1=AH u:=by simpa using e
   have e4:(AH t:Key)=AH u:=e2.trans e3
   rw[<-Cp e4]
   exact ht
  ·intro hu
   have hk:(AH u:Key)∈us.map AH:=AD.mpr ⟨u,hu,rfl⟩
   rw[<-h] at hk
   obtain⟨kv,hm,e⟩:=AD.mp hk
   exact⟨kv,hm,by simpa using e⟩
 unfold putK
 rw[hany]
 by_cases c:u∈us
 ·rw[decide_eq_true c,if_pos rfl,if_pos c,AE,<-h]
  refine Ah λkv _=>?_
  show(if kv.1=AH u then(kv.1,v) else kv).1=kv.1
  split<;>rfl
 ·rw[decide_eq_false c,if_neg AM,if_neg c,AX,AX,h]
  rfl
inductive ZCg (H:Hp)(d:Ez)(Rs:List Rw)(gs:List E3):Prop
 |mk:∀(kvs:List (Key×V)),(H d=some (.dK kvs))->(kvs.map (·.1)=gs.map AH)->(gs.Nodup)->((∀g,g∈gs↔∃r∈Rs,r.2=g))->(gs.length<=Rs.length)->(∀g,(g∈gs->∃b,valV kvs (AH g)=some (.ref b)/\H b=some (.tup ((grp Rs g).map V.str)))/\(g∉gs->valV kvs (AH g)=none))->ZCg H d Rs gs
theorem ZOz {H:Hp}{d:Ez}(h:H d=some (.dK [])):ZCg H d [] []:=⟨[],h,rfl,BZ,by simp,AK _,λg=>⟨(λz=>by cases z),λ_=>rfl⟩⟩
theorem ZCg.ts {H H':Hp}{d:Ez}{Rs:List Rw}{gs:List E3}(h:ZCg H d Rs gs)(s:TS' H H')(hd:∀kvs,H d=some (.dK kvs)->H' d=some (.dK kvs)):ZCg H' d Rs gs:=by
 obtain⟨kvs,h1,h2,h3,h4,h5,h6⟩:=h
 refine⟨kvs,hd _ h1,h2,h3,h4,h5,λg=>⟨λhg=>?_,(h6 g).2⟩⟩
 obtain⟨b,e1,e2⟩:=(h6 g).1 hg
 exact⟨b,e1,s _ _ e2⟩
theorem ZCg.same {H H':Hp}{d:Ez}{Rs:List Rw}{gs:List E3}(h:ZCg H d Rs gs)(s:Same H H'):ZCg H' d Rs gs:=h.ts s.ts λkvs e=>s _ _ e
theorem ZCg.get {H:Hp}{d:Ez}{Rs:List Rw}{gs:List E3}(h:ZCg H d Rs gs)(g:E3){e:Ez}(he:H e=some (.tup [])):∃o b,DGet H d (.str g) o/\o.getD (.ref e)= .ref b/\H b=some (.tup ((grp Rs g).map V.str)):=by
 obtain⟨kvs,h1,h2,h3,h4,h5,h6⟩:=h
 by_cases hg:g∈gs
 ·obtain⟨b,e1,e2⟩:=(h6 g).1 hg
  exact⟨_,b,DGet.k (k:=AH g) h1,by rw[e1];rfl,e2⟩
 ·have hn:grp Rs g= []:=by
   unfold grp
   rw[C7,Ec]
   intro r hr hc
   exact hg ((h4 g).mpr ⟨r,hr,by simpa using hc⟩)
  exact⟨_,e,DGet.k (k:=AH g) h1,by rw[(h6 g).2 hg];rfl,by rw[hn];exact he⟩
theorem ZCg.at {H:Hp}{d:Ez}{Rs:List Rw}{gs:List E3}(h:ZCg H d Rs gs){g:E3}(hg:g∈gs):∃b,DGet H d (.str g) (some (.ref b))/\H b=some (.tup ((grp Rs g).map V.str)):=by
 obtain⟨kvs,h1,h2,h3,h4,h5,h6⟩:=h
 obtain⟨b,e1,e2⟩:=(h6 g).1 hg
 have:=DGet.k (k:=AH g) h1
 rw[e1] at this
 exact⟨b,this,e2⟩
theorem ZCg.put {H:Hp}{d:Ez}{Rs:List Rw}{gs:List E3}(h:ZCg H d Rs gs)(r:Rw){b:Ez}(hb:H b=some (.tup ((grp Rs r.2++ [r.1]).map V.str)))(hl:Rs.length<=1000):
  ∃H',DPut H d (.str r.2) (.ref b) H'/\ZCg H' d (Rs++ [r]) (if r.2∈gs then gs else gs++ [r.2])/\∀c o,c≠d->H c=some o->H' c=some o:=by
 obtain⟨kvs,h1,h2,h3,h4,h5,h6⟩:=h
 have hkl:kvs.length=gs.length:=by have:=congrArg Ay h2;rw[AA,AA] at this;exact this
 refine⟨_,DPut.k (k:=AH r.2) h1 (bigl _ (by lia)),⟨_,ZAB,ZKf h2,?_,λg=>?_,?_,λg=>?_⟩,λc o hc e=>by rw[ZAN hc];exact e⟩
 ·by_cases c:r.2∈gs
  ·rw[if_pos c];exact h3
  ·rw[if_neg c,Aw]
   exact⟨h3,by simp,λx hx y hy e=>by rw[AF.mp hy] at e;exact c (e▸hx)⟩
 ·have base':(∃z∈Rs++ [r],z.2=g)↔g∈gs\/g=r.2:=by
   rw[h4]
   constructor
   ·rintro⟨z,hz,e⟩
    rcases AY.mp hz with hz|hz
    ·exact .inl ⟨z,hz,e⟩
    ·rw[AF.mp hz] at e;exact .inr e.symm
   ·rintro(⟨z,hz,e⟩|e)
    ·exact⟨z,BD _ hz,e⟩
    ·exact⟨r,AU _ (by simp),e.symm⟩
  rw[base']
  by_cases c:r.2∈gs
  ·rw[if_pos c];exact⟨.inl,λh=>h.elim id λe=>e▸c⟩
  ·rw[if_neg c,AY,AF]
 ·rw[AW,Ai]
  by_cases c:r.2∈gs
  ·rw[if_pos c];lia
  ·rw[if_neg c,AW,Ai];lia
 ·have ndb:∀b' xs,H b'=some (.tup xs)->(upd H d (.dK (putK kvs (AH r.2) (.ref b))):Hp) b'=some (.tup xs):=λb' xs e=>by
   rw[ZAN (λz=>by rw[z,h1] at e;cases e)];exact e
  rw[ZIy,ZD1]
  by_cases e:g=r.2
  ·subst e
   have c1:(if(AH r.2:Key)=AH r.2 then some (V.ref b) else valV kvs (AH r.2))=some (V.ref b):=if_pos rfl
   have c2:(if r.2=r.2 then[r.1] else[])= [r.1]:=if_pos rfl
   rw[c1,c2]
   refine⟨λ_=>⟨b,rfl,ndb _ _ hb⟩,λhn=>absurd ?_ hn⟩
   by_cases c:r.2∈gs
   ·rw[if_pos c];exact c
   ·rw[if_neg c];exact AU _ (by simp)
  ·rw[if_neg (λz=>e (Cp z)),if_neg (A9 e),A5]
   have hg:(g∈if r.2∈gs then gs else gs++ [r.2])↔g∈gs:=by
    by_cases c:r.2∈gs
    ·rw[if_pos c]
    ·rw[if_neg c,AY,AF]
     exact⟨λh=>h.elim id λz=>absurd z e,.inl⟩
   rw[hg]
   refine⟨λh=>?_,(h6 g).2⟩
   obtain⟨b',e1,e2⟩:=(h6 g).1 h
   exact⟨b',e1,ndb _ _ e2⟩
inductive ZLu (H:Hp)(p:Ez)(U:List (E3×List E3)):Prop
 |mk:∀(qs:List (Ez×E3×Ez×List E3)),(H p=some (.tup (qs.map λq=>V.ref q.1)))->((∀q∈qs,H q.1=some (.tup [.str q.2.1,.ref q.2.2.1])/\H q.2.2.1=some (.tup (q.2.2.2.map V.str))))->(qs.map (λq=>(q.2.1,q.2.2.2))=U)->ZLu H p U
theorem ZG2 {H:Hp}{F:E3->List E3}:∀{ts:List E3} {ys:List V},Paired (λx v=>∃g,x=V.str g/\∃b c,v=V.ref b/\H b=some (.tup [.str g,.ref c])/\H c=some (.tup ((F g).map V.str))) (ts.map V.str) ys->
  ∃qs:List (Ez×E3×Ez×List E3),ys=(qs.map λq=>V.ref q.1)/\(∀q∈qs,H q.1=some (.tup [.str q.2.1,.ref q.2.2.1])/\H q.2.2.1=some (.tup (q.2.2.2.map V.str)))/\qs.map (λq=>(q.2.1,q.2.2.2))=ts.map λg=>(g,F g)
 | [],_,h=>by cases h;exact⟨[],rfl,(λq hq=>by cases hq),rfl⟩
 |t::ts,_,h=>by
  rw[AR] at h
  cases h with
  |cons h1 h2=>
   obtain⟨g,e,b,c,rfl,hb,hc⟩:=h1
   injection e with e
   subst e
   obtain⟨qs,e1,e2,e3⟩:=ZG2 h2
   refine⟨(b,t,c,F t)::qs,by rw[e1];rfl,λq hq=>?_,by rw[AR,AR,e3]⟩
   rcases AQ.mp hq with rfl|hq
   ·exact⟨hb,hc⟩
   ·exact e2 q hq
end Co
namespace Mi
open PySem L2
theorem ZG1 {R:List Rw}{r:Rw}(h:r∈ZBL R):r.1∈R.map (·.1)/\r.2=stop R r.1/\val R r.2=none:=by
 unfold ZBL at h
 obtain⟨h1,h2⟩:=Ao.mp h
 obtain⟨q,hq,rfl⟩:=AD.mp h1
 refine⟨AD.mpr ⟨q,hq,rfl⟩,rfl,?_⟩
 simpa using h2
theorem ZO3 {R R':List Rw}(hp:R'.Perm (ZBL R))(hr:Rise R'):Flat R':=by
 refine⟨hr.nd,λr hm=>?_⟩
 obtain⟨_,_,h3⟩:=ZG1 (hp.mem_iff.mp hm)
 rw[ZCU] at h3 ⊢
 intro h
 obtain⟨q,hq,e⟩:=AD.mp h
 obtain⟨h4,_,_⟩:=ZG1 (hp.mem_iff.mp hq)
 rw[e] at h4
 exact h3 h4
theorem ZOF {as bs:List E3}(ha:as.Pairwise λa b=>HS.ltS a b=true)(hb:bs.Pairwise λa b=>HS.ltS a b=true)(h:∀n,n∈as↔n∈bs):as=bs:=by
 have e:=ZHz (A:=as.map λn=>(n,("":E3))) (B:=bs.map λn=>(n,("":E3))) (by unfold Rise;rw[Aa];exact ha) (by unfold Rise;rw[Aa];exact hb) λr=>by
  constructor
  ·intro hr
   obtain⟨n,hn,rfl⟩:=AD.mp hr
   exact AD.mpr ⟨n,(h n).mp hn,rfl⟩
  ·intro hr
   obtain⟨n,hn,rfl⟩:=AD.mp hr
   exact AD.mpr ⟨n,(h n).mpr hn,rfl⟩
 have e2:=congrArg (Ds λ(r:Rw)=>r.1) e
 rw[AE,AE] at e2
 have id':∀l:List E3,l.map ((λ(r:Rw)=>r.1)∘λn=>(n,("":E3)))=l:=λl=>by
  have:∀n∈l,((λ(r:Rw)=>r.1)∘λn=>(n,("":E3))) n=n:=λn _=>rfl
  rw[Ah this,CJ]
 rw[id',id'] at e2
 exact e2
end Mi
namespace Co
open PySem L2 Mi
end Co
namespace Mi
open PySem L2
end Mi
namespace Co
open PySem L2 Mi
abbrev rowD (r:Rw):Dat:= .tup [.str r.1,.str r.2]
theorem hu8 {A:FC}{k:Nat}(hr:Room k A):A.units+8<cLine:=Eu (Eo (by decide:8<=64) _) hr.units
abbrev tupD (u:List E3):Dat:= .tup (u.map Dat.str)
abbrev ZOA (u:E3×List E3):Dat:= .tup [.str u.1,tupD u.2]
end Co
namespace L2
open PySem PySem.Spec PyProof.Rows
section
variable {X:Cx}{pos:Pos}
end
end L2
namespace HD
open PySem
section
variable {prog:E7}{w:FA}{A:FC}{E:E2->E4->Prop}{s:E4}{K:Type}[DecidableEq K]{knd:KeyKind prog w K}
def mergedH (xs ms:List (List K×Ez×E2)):List (List K×Ez×E2):=ms.foldl (λacc m=>storedH acc m.1 m.2.1 m.2.2) xs
theorem ZG0 (xs ms:List (List K×Ez×E2))(i:Nat)(m:List K×Ez×E2)(h:ms[i]?=some m):mergedH xs (ms.take (i+1))=storedH (mergedH xs (ms.take i)) m.1 m.2.1 m.2.2:=by
 unfold mergedH
 rw[BG,h,List.foldl_append]
 rfl
theorem mem_storedH {xs:List (List K×Ez×E2)}{k:List K}{a:Ez}{v:E2}{x:List K×Ez×E2}(h:x∈storedH xs k a v):(∃y∈xs,x.1=y.1/\x.2.1=y.2.1)\/(x.1=k/\x.2.1=a):=by
 unfold storedH at h
 split at h
 ·obtain⟨y,hy,rfl⟩:=AD.mp h
  refine .inl ⟨y,hy,?_⟩
  unfold putAt
  split<;>exact⟨rfl,rfl⟩
 ·rcases AY.mp h with h|h
  ·exact .inl ⟨x,h,rfl,rfl⟩
  ·rw[AF.mp h];exact .inr ⟨rfl,rfl⟩
theorem ZHo (xs:List (List K×Ez×E2))(k:List K)(a:Ez)(v:E2):(storedH xs k a v).length<=xs.length+1:=by
 unfold storedH
 split
 ·rw[AA];lia
 ·rw[AW,Ai];lia
theorem ZEb:∀(ms xs:List (List K×Ez×E2)),(mergedH xs ms).length<=xs.length+ms.length
 | [],xs=>AK _
 |m::ms,xs=>by
  have h1:=ZEb ms (storedH xs m.1 m.2.1 m.2.2)
  have h2:=ZHo xs m.1 m.2.1 m.2.2
  show(mergedH (storedH xs m.1 m.2.1 m.2.2) ms).length<=xs.length+(ms.length+1)
  lia
theorem ZEc:∀{ms xs:List (List K×Ez×E2)} {x:List K×Ez×E2},x∈mergedH xs ms->(∃y∈xs,x.1=y.1/\x.2.1=y.2.1)\/∃y∈ms,x.1=y.1/\x.2.1=y.2.1
 | [],xs,x,h=> .inl ⟨x,h,rfl,rfl⟩
 |m::ms,xs,x,h=>by
  rcases ZEc (ms:=ms) (xs:=storedH xs m.1 m.2.1 m.2.2) h with⟨y,hy,e1,e2⟩|⟨y,hy,e⟩
  ·rcases mem_storedH hy with⟨z,hz,f1,f2⟩|⟨f1,f2⟩
   ·exact .inl ⟨z,hz,e1.trans f1,e2.trans f2⟩
   ·exact .inr ⟨m,AJ ..,e1.trans f1,e2.trans f2⟩
  ·exact .inr ⟨y,AL _ hy,e⟩
theorem ZCd {h h':E9}{d:Ez}{xs:List (List K×Ez×E2)}(hm:h.DictOfH (FV knd) d xs)(hd:∀o,h.get? d=some o->h'.get? d=some o)(hk:∀x∈xs,(FV knd).is h' x.1 x.2.1):h'.DictOfH (FV knd) d xs:=by
 obtain⟨o,es,ep,ho,hc,hdd,he,_,hn⟩:=hm
 exact⟨o,es,ep,hd o ho,hc,hdd,he,hk,hn⟩
theorem ZLQ {h0 h:E9}{d it b:Ez}{k:List K}(hi:(FV knd).is h0 k b)(hd0:h0.get? d=none)(hi0:h0.get? it=none)(kp:∀b o,b≠d->b≠it->h0.get? b=some o->h.get? b=some o):(FV knd).is h k b:=by
 obtain⟨o,its,n,ho,r⟩:=hi
 exact⟨o,its,n,kp b o (λz=>by rw[z,hd0] at ho;cases ho) (λz=>by rw[z,hi0] at ho;cases ho) ho,r⟩
theorem ZG4 {h0 h:E9}{d it:Ez}{ms:List (List K×Ez×E2)}(hi:∀m∈ms,(FV knd).is h0 m.1 m.2.1)(hd0:h0.get? d=none)(hi0:h0.get? it=none)(kp:∀b o,b≠d->b≠it->h0.get? b=some o->h.get? b=some o):∀x∈mergedH [] ms,(FV knd).is h x.1 x.2.1:=λx hx=>by
 rcases ZEc hx with⟨y,hy,_⟩|⟨y,hy,e1,e2⟩
 ·cases hy
 ·rw[e1,e2];exact ZLQ (hi y hy) hd0 hi0 kp
def PairsAtH (knd:KeyKind prog w K)(h:E9)(its:List E2)(ms:List (List K×Ez×E2)):Prop:=
 its.length=ms.length/\(∀(j:Nat) (v:E2) (m:List K×Ez×E2),its[j]?=some v->ms[j]?=some m->∃b ob n,v=Ab b/\h.get? b=some ob/\ob.cls= .type "tuple"/\ob.data= .seq #[.ref m.2.1,m.2.2] n)/\∀m∈ms,(FV knd).is h m.1 m.2.1
end
end HD
namespace L2
open PySem PySem.Spec PyProof.Rows
section
variable {X:Cx}
def ZA2 (kvs more:List (List Key×V)):List (List Key×V):=more.foldl (λacc kv=>putK acc kv.1 kv.2) kvs
def ZI6 (K:AB)(H:Hp)(ys:List V)(kvs:List (List Key×V)):Prop:=Paired (λ(v:V) (kx:List Key×V)=>∃b c,v= .ref b/\SqT K H b [.ref c,kx.2]/\H c=some (.tup (kx.1.map kV))) ys kvs
theorem ZKq {pins:List (Ez×FF)}{Z:St}{H:Hp}{s:E4}(I:Inv X pins Z H s){ys:List V}{kvs:List (List Key×V)}{its:List E2}(hy:ZI6 X.K H ys kvs)(hv:Vals ys its):∃ms:List (List Key×Ez×E2),KT H kvs ms/\HD.PairsAtH (ZAU X.prog X.w) s.heap its ms:=by
 unfold ZI6 at hy
 induction hy generalizing its with
 |nil=>cases hv;exact⟨[],.nil,rfl,(λj v kx e=>by simp at e),λm hm=>by cases hm⟩
 |@cons _ kx _ _ hp _ ih=>
  cases hv with
  |cons rv rr=>
   obtain⟨b,c,rfl,hq,hc⟩:=hp
   cases rv
   obtain⟨ms,kt,hl,hat,his⟩:=ih rr
   obtain⟨its2,r2,p2,_⟩:=I.tuple hq
   obtain⟨o,ho,hcl,n,hd⟩:=p2
   cases r2 with
   |cons rk rx=>
    cases rx with
    |cons rx rn=>
     cases rn
     cases rk
     rename_i val
     refine⟨(kx.1,c,val)::ms,.cons ⟨rfl,hc,rx⟩ kt,by rw[Ac,Ac,hl],λj v m e1 e2=>?_,λm hm=>?_⟩
     ·cases j with
      |zero=>
       cases e1;cases e2
       exact⟨b,o,n,rfl,ho,hcl,hd⟩
      |succ j=>exact hat j v m e1 e2
     ·rcases AQ.mp hm with rfl|hm
      ·exact ZEf I.hok hc
      ·exact his m hm
theorem KT.merge {H:Hp}:∀{more acc:List (List Key×V)} {ms xs:List (List Key×Ez×E2)},KT H more ms->KT H acc xs->KT H (ZA2 acc more) (HD.mergedH xs ms):=by
 intro more acc ms xs r
 unfold KT at r
 induction r generalizing acc xs with
 |nil=>intro q;exact q
 |@cons p q ps qs hq t ih=>
  intro hx
  have:=KT.put hx p.1 (b:=q.2.1) hq.2.1 hq.2.2
  rw[hq.1] at this
  refine ih (acc:=putK acc p.1 p.2) (xs:=storedH xs q.1 q.2.1 q.2.2) ?_
  rw[hq.1]
  exact this
theorem ZDD:∀(more kvs:List (List Key×V)),(ZA2 kvs more).length<=kvs.length+more.length
 | [],kvs=>AK _
 |m::more,kvs=>by
  have h1:=ZDD more (putK kvs m.1 m.2)
  have h2:=ZCH kvs m.1 m.2
  show(ZA2 (putK kvs m.1 m.2) more).length<=kvs.length+(more.length+1)
  lia
end
end L2
namespace Mi
open PySem L2
structure Cl where
 ad:List E3
 ck:Int
 hd:E3
 nm:Int
deriving DecidableEq
def ltC (c d:Cl):Bool:=if c.ck=d.ck then(if c.hd=d.hd then decide (c.nm<d.nm) else HS.ltS c.hd d.hd) else decide (c.ck<d.ck)
theorem ZIC (c:Cl):ltC c c=false:=by unfold ltC;rw[if_pos rfl,if_pos rfl];exact decide_eq_false (Int.lt_irrefl _)
theorem ZOq {c d:Cl}(h:c.ad=d.ad)(h1:ltC c d=false)(h2:ltC d c=false):c=d:=by
 obtain⟨a,k,x,n⟩:=c
 obtain⟨a',k',x',n'⟩:=d
 unfold ltC at h1 h2
 simp only at h h1 h2
 by_cases e1:k=k'
 ·subst e1
  rw[if_pos rfl] at h1 h2
  by_cases e2:x=x'
  ·subst e2
   rw[if_pos rfl] at h1 h2
   have h1':=of_decide_eq_false h1
   have h2':=of_decide_eq_false h2
   have:n=n':=by lia
   rw[h,this]
  ·rw[if_neg e2] at h1
   rw[if_neg (A9 e2)] at h2
   exact absurd (HS.ltS_tri h1 h2) e2
 ·rw[if_neg e1] at h1
  rw[if_neg (A9 e1)] at h2
  have h1':=of_decide_eq_false h1
  have h2':=of_decide_eq_false h2
  lia
theorem ZLG {c d:Cl}(h:ltC c d=true):ltC d c=false:=by
 unfold ltC at h ⊢
 by_cases e1:c.ck=d.ck
 ·rw[if_pos e1] at h
  rw[if_pos e1.symm]
  by_cases e2:c.hd=d.hd
  ·rw[if_pos e2] at h
   rw[if_pos e2.symm]
   have:=of_decide_eq_true h
   exact decide_eq_false (by lia)
  ·rw[if_neg e2] at h
   rw[if_neg (A9 e2)]
   exact HS.ltS_tot _ _ h
 ·rw[if_neg e1] at h
  rw[if_neg (A9 e1)]
  have:=of_decide_eq_true h
  exact decide_eq_false (by lia)
theorem ZNc {a b c:Cl}(h1:ltC b a=false)(h2:ltC c b=false):ltC c a=false:=by
 unfold ltC at h1 h2 ⊢
 by_cases e1:c.ck=a.ck
 ·rw[if_pos e1]
  by_cases e3:b.ck=a.ck
  ·rw[if_pos e3] at h1
   rw[if_pos (e1.trans e3.symm)] at h2
   by_cases f1:c.hd=a.hd
   ·rw[if_pos f1]
    by_cases f3:b.hd=a.hd
    ·rw[if_pos f3] at h1
     rw[if_pos (f1.trans f3.symm)] at h2
     have h1':=of_decide_eq_false h1
     have h2':=of_decide_eq_false h2
     exact decide_eq_false (by lia)
    ·rw[if_neg f3] at h1
     rw[if_neg (λz=>f3 (z.symm.trans f1))] at h2
     rw[f1] at h2
     exact absurd (HS.ltS_tri h1 h2) f3
   ·rw[if_neg f1]
    by_cases f3:b.hd=a.hd
    ·rw[<-f3] at f1 ⊢
     rw[if_neg f1] at h2
     exact h2
    ·rw[if_neg f3] at h1
     by_cases f4:c.hd=b.hd
     ·rw[f4];exact h1
     ·rw[if_neg f4] at h2
      exact HS.ltS_tr _ _ _ h1 h2
  ·rw[if_neg e3] at h1
   rw[if_neg (λz=>e3 (z.symm.trans e1))] at h2
   have h1':=of_decide_eq_false h1
   have h2':=of_decide_eq_false h2
   lia
 ·rw[if_neg e1]
  refine decide_eq_false ?_
  by_cases e3:b.ck=a.ck
  ·rw[if_neg (λz=>e1 (z.trans e3))] at h2
   have h2':=of_decide_eq_false h2
   lia
  ·rw[if_neg e3] at h1
   have h1':=of_decide_eq_false h1
   by_cases e4:c.ck=b.ck
   ·lia
   ·rw[if_neg e4] at h2
    have h2':=of_decide_eq_false h2
    lia
def ZB5 (L:List Cl)(c:Cl):Prop:=c∈L/\∀d∈L,d.ad=c.ad->ltC c d=false
theorem ZB5.uniq {L:List Cl}{c d:Cl}(hc:ZB5 L c)(hd:ZB5 L d)(h:c.ad=d.ad):c=d:=ZOq h (hc.2 d hd.1 h.symm) (hd.2 c hc.1 h)
theorem ZNb:∀(L:List Cl) (u:List E3),(∃c∈L,c.ad=u)->∃c,ZB5 L c/\c.ad=u
 | [],_,⟨_,h,_⟩=>by cases h
 |x::L,u,h=>by
  by_cases hL:∃c∈L,c.ad=u
  ·obtain⟨c,hc,e⟩:=ZNb L u hL
   by_cases hx:x.ad=u/\ltC c x=true
   ·refine⟨x,⟨AJ ..,λd hd he=>?_⟩,hx.1⟩
    rcases AQ.mp hd with rfl|hd
    ·exact ZIC _
    ·exact ZNc (hc.2 d hd (he.trans (hx.1.trans e.symm))) (ZLG hx.2)
   ·refine⟨c,⟨AL _ hc.1,λd hd he=>?_⟩,e⟩
    rcases AQ.mp hd with rfl|hd
    ·cases hl:ltC c d with
     |false=>rfl
     |true=>exact absurd ⟨he.trans e,hl⟩ hx
    ·exact hc.2 d hd he
  ·obtain⟨c,hc,e⟩:=h
   rcases AQ.mp hc with rfl|hc
   ·refine⟨c,⟨AJ ..,λd hd he=>?_⟩,e⟩
    rcases AQ.mp hd with rfl|hd
    ·exact ZIC _
    ·exact absurd ⟨d,hd,he.trans e⟩ hL
   ·exact absurd ⟨c,hc,e⟩ hL
structure Tog (L A:List Cl):Prop where
 rise:A.Pairwise λa b=>HS.ltT a.ad b.ad=true
 mem:∀c,c∈A↔ZB5 L c
theorem cl_eq:∀{A B:List Cl},A.Pairwise (λa b=>HS.ltT a.ad b.ad=true)->B.Pairwise (λa b=>HS.ltT a.ad b.ad=true)->(∀c,c∈A↔c∈B)->A=B
 | [],[],_,_,_=>rfl
 | [],b::B,_,_,h=>by have:=(h b).mpr (AJ ..);cases this
 |a::A,[],_,_,h=>by have:=(h a).mp (AJ ..);cases this
 |a::A,b::B,ha,hb,h=>by
  have ha':=Bz.mp ha
  have hb':=Bz.mp hb
  have irr:∀x:List E3,HS.ltT x x=true->False:=λx hx=>by
   have:=HS.ltT_tot _ _ hx
   rw[this] at hx
   cases hx
  have e:a=b:=by
   rcases AQ.mp ((h a).mp (AJ ..)) with e|e
   ·exact e
   ·rcases AQ.mp ((h b).mpr (AJ ..)) with e2|e2
    ·exact e2.symm
    ·have h1:=hb'.1 a e
     have h2:=ha'.1 b e2
     rw[HS.ltT_tot _ _ h1] at h2
     cases h2
  subst e
  rw[cl_eq (A:=A) (B:=B) ha'.2 hb'.2 λr=>?_]
  constructor
  ·intro hr
   rcases AQ.mp ((h r).mp (AL _ hr)) with e|e
   ·subst e;exact(irr _ (ha'.1 r hr)).elim
   ·exact e
  ·intro hr
   rcases AQ.mp ((h r).mpr (AL _ hr)) with e|e
   ·subst e;exact(irr _ (hb'.1 r hr)).elim
   ·exact e
end Mi
namespace Co
open PySem L2 Mi
def ClH (H:Hp)(b a:Ez)(c:Cl):Prop:=H b=some (.tup [.ref a,.int c.ck,.str c.hd,.int c.nm])/\H a=some (.tup (c.ad.map V.str))
theorem ClH.ts {H H':Hp}{b a:Ez}{c:Cl}(h:ClH H b a c)(s:TS' H H'):ClH H' b a c:=⟨s _ _ h.1,s _ _ h.2⟩
abbrev ZBi (cs:List (Ez×Ez×Cl)):List V:=cs.map λx=>V.ref x.1
def ZHh (H:Hp)(cs:List (Ez×Ez×Cl)):Prop:=∀x∈cs,ClH H x.1 x.2.1 x.2.2
inductive ClsAt (H:Hp)(p:Ez)(L:List Cl):Prop
 |mk:∀(cs:List (Ez×Ez×Cl)),(H p=some (.tup (ZBi cs)))->(ZHh H cs)->(cs.map (·.2.2)=L)->ClsAt H p L
theorem ZHh.ts {H H':Hp}{cs:List (Ez×Ez×Cl)}(h:ZHh H cs)(s:TS' H H'):ZHh H' cs:=λx hx=>(h x hx).ts s
theorem ClsAt.ts {H H':Hp}{p:Ez}{L:List Cl}(h:ClsAt H p L)(s:TS' H H'):ClsAt H' p L:=by
 obtain⟨cs,h1,h2,h3⟩:=h
 exact⟨cs,s _ _ h1,h2.ts s,h3⟩
theorem ClsAt.same {H H':Hp}{p:Ez}{L:List Cl}(h:ClsAt H p L)(s:Same H H'):ClsAt H' p L:=h.ts s.ts
abbrev clD (c:Cl):Dat:= .tup [.tup (c.ad.map Dat.str),.int c.ck,.str c.hd,.int c.nm]
theorem ZBz {K:AB}{H:Hp}:∀ts:List E3,ZAr K H (ts.map Dat.str) (ts.map V.str)
 | []=>rfl
 |t::ts=>⟨_,_,rfl,rfl,ZBz ts⟩
theorem ZLm {K:AB}{H:Hp}{b a:Ez}{c:Cl}(h:ClH H b a c):ZAZ K H (clD c) (.ref b):=
 ⟨b,_,rfl,SqT.of h.1,_,_,rfl,⟨a,_,rfl,SqT.of h.2,ZBz _⟩,_,_,rfl,rfl,_,_,rfl,rfl,_,_,rfl,rfl,rfl⟩
theorem ZHE:∀u v:List E3,Dat.cmps (u.map Dat.str) (v.map Dat.str)=true
 | [],[]=>rfl
 | [],_::_=>rfl
 |_::_,[]=>rfl
 |_::u,_::v=>by show(true&&Dat.cmps (u.map Dat.str) (v.map Dat.str))=true;rw[ZHE u v];rfl
theorem cl_cmp (c d:Cl):Dat.cmp (clD c) (clD d)=true:=by
 show(Dat.cmps (c.ad.map Dat.str) (d.ad.map Dat.str)&&(true&&(true&&(true&&true))))=true
 rw[ZHE];rfl
theorem ZBh:∀u:List E3,Dat.deeps (u.map Dat.str)=0
 | []=>rfl
 |t::u=>by show max 0 (Dat.deeps (u.map Dat.str))=0;rw[ZBh u];rfl
theorem ZLl (c:Cl):Dat.deep (clD c)<=3:=by
 show max (Dat.deeps (c.ad.map Dat.str)+1) (max 0 (max 0 (max 0 0)))+1<=3
 rw[ZBh]
 decide
theorem ZOp (c d:Cl):Dat.lts [.int c.ck,.str c.hd,.int c.nm] [.int d.ck,.str d.hd,.int d.nm]=ltC c d:=by
 show(if(c.ck==d.ck)=true then(if(c.hd==d.hd)=true then(if(c.nm==d.nm)=true then false else decide (c.nm<d.nm)) else decide (c.hd.cps.toList<d.hd.cps.toList)) else decide (c.ck<d.ck))=ltC c d
 unfold ltC
 by_cases e1:c.ck=d.ck
 ·rw[if_pos e1,if_pos (beq_iff_eq.mpr e1)]
  by_cases e2:c.hd=d.hd
  ·rw[if_pos e2,if_pos (beq_iff_eq.mpr e2)]
   by_cases e3:c.nm=d.nm
   ·rw[if_pos (beq_iff_eq.mpr e3),e3];exact(decide_eq_false (Int.lt_irrefl _)).symm
   ·rw[if_neg (λz=>e3 (beq_iff_eq.mp z))]
  ·rw[if_neg e2,if_neg (λz=>e2 (beq_iff_eq.mp z))];rfl
 ·rw[if_neg e1,if_neg (λz=>e1 (beq_iff_eq.mp z))]
theorem cl_lt {c d:Cl}(h:c.ad=d.ad):Dat.lt (clD c) (clD d)=ltC c d:=by
 show(if Dat.beqs (c.ad.map Dat.str) (d.ad.map Dat.str)=true then Dat.lts [.int c.ck,.str c.hd,.int c.nm] [.int d.ck,.str d.hd,.int d.nm] else Dat.lts (c.ad.map Dat.str) (d.ad.map Dat.str))=ltC c d
 rw[h,if_pos (ZB2 _),ZOp]
theorem ZGO {a b:List E3}(h:(a.map AH:List Key)=b.map AH):a=b:=by
 have e:=congrArg (Ds strK) h
 rw[AE,AE] at e
 have id':∀l:List E3,l.map (strK∘(AH:E3->Key))=l:=λl=>by
  have:∀z∈l,(strK∘(AH:E3->Key)) z=z:=λz _=>rfl
  rw[Ah this,CJ]
 rw[id',id'] at e
 exact e
theorem ZCZ {kvs:List (List Key×V)}{us:List (List E3)}{u:List E3}{v:V}(h:kvs.map (·.1)=us.map λt=>t.map AH):
  (putK kvs (u.map AH) v).map (·.1)=(if u∈us then us else us++ [u]).map λt=>t.map AH:=by
 have hany:(kvs.any λkv=>decide (kv.1=u.map AH))=decide (u∈us):=by
  rw[B1,Cu,decide_eq_true_eq]
  constructor
  ·rintro⟨kv,hm,e⟩
   have hk:kv.1∈kvs.map (·.1):=AD.mpr ⟨kv,hm,rfl⟩
   rw[h] at hk
   obtain⟨t,ht,e2⟩:=AD.mp hk
   have e3:kv.1=u.map AH:=by simpa using e
   rw[<-ZGO (e2.trans e3)]
   exact ht
  ·intro hu
   have hk:(u.map AH:List Key)∈us.map λt=>t.map AH:=AD.mpr ⟨u,hu,rfl⟩
   rw[<-h] at hk
   obtain⟨kv,hm,e⟩:=AD.mp hk
   exact⟨kv,hm,by simpa using e⟩
 unfold putK
 rw[hany]
 by_cases c:u∈us
 ·rw[decide_eq_true c,if_pos rfl,if_pos c,AE,<-h]
  refine Ah λkv _=>?_
  show(if kv.1=u.map AH then(kv.1,v) else kv).1=kv.1
  split<;>rfl
 ·rw[decide_eq_false c,if_neg AM,if_neg c,AX,AX,h]
  rfl
inductive ZCT (H:Hp)(d:Ez)(L:List Cl)(us:List (List E3)):Prop
 |mk:∀(kvs:List (List Key×V)),(H d=some (.dT kvs))->(kvs.map (·.1)=(us.map λt=>t.map AH))->(us.Nodup)->(us.length<=L.length)->((∀u,u∈us↔∃c∈L,c.ad=u))->(∀u,(u∈us->∃b a c,valV kvs (u.map AH)=some (.ref b)/\ClH H b a c/\ZB5 L c/\c.ad=u)/\(u∉us->valV kvs (u.map AH)=none))->ZCT H d L us
theorem ZCT.nil {H:Hp}{d:Ez}(h:H d=some (.dT [])):ZCT H d [] []:=⟨[],h,rfl,BZ,AK _,by simp,λu=>⟨(λz=>by cases z),λ_=>rfl⟩⟩
theorem ZCT.same {H H':Hp}{d:Ez}{L:List Cl}{us:List (List E3)}(h:ZCT H d L us)(s:Same H H'):ZCT H' d L us:=by
 obtain⟨kvs,h1,h2,h3,h4,h5,h6⟩:=h
 refine⟨kvs,s _ _ h1,h2,h3,h4,h5,λu=>⟨λhu=>?_,(h6 u).2⟩⟩
 obtain⟨b,a,c,e1,e2,e3⟩:=(h6 u).1 hu
 exact⟨b,a,c,e1,e2.ts s.ts,e3⟩
theorem ZDC {L:List Cl}{x m:Cl}(hm:ZB5 L m)(h:m.ad=x.ad->ltC m x=false):ZB5 (L++ [x]) m:=⟨BD _ hm.1,λd hd he=>by
 rcases AY.mp hd with hd|hd
 ·exact hm.2 d hd he
 ·rw[AF.mp hd] at he ⊢;exact h he.symm⟩
theorem ZCT.skip {H:Hp}{d:Ez}{L:List Cl}{us:List (List E3)}(h:ZCT H d L us){x m:Cl}(hm:ZB5 L m)(ha:m.ad=x.ad)(hl:ltC m x=false):ZCT H d (L++ [x]) us:=by
 obtain⟨kvs,h1,h2,h3,h4,h5,h6⟩:=h
 have hx:x.ad∈us:=(h5 x.ad).mpr ⟨m,hm.1,ha⟩
 refine⟨kvs,h1,h2,h3,by rw[AW];lia,λu=>?_,λu=>⟨λhu=>?_,(h6 u).2⟩⟩
 ·rw[h5]
  constructor
  ·rintro⟨c,hc,e⟩;exact⟨c,BD _ hc,e⟩
  ·rintro⟨c,hc,e⟩
   rcases AY.mp hc with hc|hc
   ·exact⟨c,hc,e⟩
   ·rw[AF.mp hc] at e;exact⟨m,hm.1,ha.trans e⟩
 ·obtain⟨b,a,c,e1,e2,e3,e4⟩:=(h6 u).1 hu
  refine⟨b,a,c,e1,e2,ZDC e3 λhe=>?_,e4⟩
  rw[ZB5.uniq e3 hm (he.trans ha.symm)]
  exact hl
theorem ZCT.put {H:Hp}{d:Ez}{L:List Cl}{us:List (List E3)}(h:ZCT H d L us){b a:Ez}{x:Cl}(hx:ClH H b a x)(hl:∀m,ZB5 L m->m.ad=x.ad->ltC m x=true)(hz:L.length<=1000):
  ∃H',DPut H d (.ref a) (.ref b) H'/\ZCT H' d (L++ [x]) (if x.ad∈us then us else us++ [x.ad])/\(∀c o,c≠d->H c=some o->H' c=some o)/\∀kvs,H d=some (.dT kvs)->H'=upd H d (.dT (putK kvs (x.ad.map AH) (.ref b))):=by
 obtain⟨kvs,h1,h2,h3,h4,h5,h6⟩:=h
 have hkl:kvs.length=us.length:=by have:=congrArg Ay h2;rw[AA,AA] at this;exact this
 have ek:(x.ad.map V.str)=((x.ad.map AH:List Key).map kV):=by rw[AE];rfl
 have hk:=hx.2
 rw[ek] at hk
 have ndT:TS' H (upd H d (.dT (putK kvs (x.ad.map AH) (.ref b)))):=λc ys e=>by rw[ZAN (λz=>by rw[z,h1] at e;cases e)];exact e
 have hmx:ZB5 (L++ [x]) x:=⟨AU _ (by simp),λe he hee=>by
  rcases AY.mp he with he|he
  ·obtain⟨m,hm,em⟩:=ZNb L e.ad ⟨e,he,rfl⟩
   exact ZNc (hm.2 e he em.symm) (ZLG (hl m hm (em.trans hee)))
  ·rw[AF.mp he];exact ZIC _⟩
 refine⟨_,DPut.t h1 hk (bigl _ (by lia)),⟨_,ZAB,ZCZ h2,?_,?_,λu=>?_,λu=>?_⟩,(λc o hc e=>by rw[ZAN hc];exact e),λkvs' e=>by rw[h1] at e;cases e;rfl⟩
 ·by_cases c:x.ad∈us
  ·rw[if_pos c];exact h3
  ·rw[if_neg c,Aw]
   exact⟨h3,by simp,λy hy z hz e=>by rw[AF.mp hz] at e;exact c (e▸hy)⟩
 ·rw[AW,Ai]
  by_cases c:x.ad∈us
  ·rw[if_pos c];lia
  ·rw[if_neg c,AW,Ai];lia
 ·have base':(∃c∈L++ [x],c.ad=u)↔u∈us\/u=x.ad:=by
   rw[h5]
   constructor
   ·rintro⟨z,hz,e⟩
    rcases AY.mp hz with hz|hz
    ·exact .inl ⟨z,hz,e⟩
    ·rw[AF.mp hz] at e;exact .inr e.symm
   ·rintro(⟨z,hz,e⟩|e)
    ·exact⟨z,BD _ hz,e⟩
    ·exact⟨x,AU _ (by simp),e.symm⟩
  rw[base']
  by_cases c:x.ad∈us
  ·rw[if_pos c];exact⟨.inl,λh=>h.elim id λe=>e▸c⟩
  ·rw[if_neg c,AY,AF]
 ·rw[ZD1]
  by_cases e:u=x.ad
  ·subst e
   have c1:(if((x.ad.map AH:List Key)=x.ad.map AH) then some (V.ref b) else valV kvs (x.ad.map AH))=some (V.ref b):=if_pos rfl
   rw[c1]
   refine⟨λ_=>⟨b,a,x,rfl,hx.ts ndT,hmx,rfl⟩,λhn=>absurd ?_ hn⟩
   by_cases c:x.ad∈us
   ·rw[if_pos c];exact c
   ·rw[if_neg c];exact AU _ (by simp)
  ·rw[if_neg (λz=>e (ZGO z))]
   have hg:(u∈if x.ad∈us then us else us++ [x.ad])↔u∈us:=by
    by_cases c:x.ad∈us
    ·rw[if_pos c]
    ·rw[if_neg c,AY,AF]
     exact⟨λh=>h.elim id λz=>absurd z e,.inl⟩
   rw[hg]
   refine⟨λh=>?_,(h6 u).2⟩
   obtain⟨b',a',c',e1,e2,e3,e4⟩:=(h6 u).1 h
   exact⟨b',a',c',e1,e2.ts ndT,ZDC e3 λhe=>absurd (e4.symm.trans he) e,e4⟩
theorem ZCT.get {H:Hp}{d a:Ez}{L:List Cl}{us:List (List E3)}(h:ZCT H d L us){u:List E3}(ha:H a=some (.tup (u.map V.str))):
  (u∈us/\∃b a' c,DGet H d (.ref a) (some (.ref b))/\ClH H b a' c/\ZB5 L c/\c.ad=u)\/(u∉us/\DGet H d (.ref a) none):=by
 obtain⟨kvs,h1,h2,h3,h4,h5,h6⟩:=h
 have ek:(u.map V.str)=((u.map AH:List Key).map kV):=by rw[AE];rfl
 rw[ek] at ha
 have g:=DGet.t h1 ha
 by_cases hu:u∈us
 ·obtain⟨b,a',c,e1,e2,e3,e4⟩:=(h6 u).1 hu
  rw[e1] at g
  exact .inl ⟨hu,b,a',c,g,e2,e3,e4⟩
 ·rw[(h6 u).2 hu] at g
  exact .inr ⟨hu,g⟩
theorem ZGN {H:Hp}{Pc:Cl->Prop}:∀{rs:List (Ez×List E3)} {ys:List V},Paired (λx v=>∃r:Ez×List E3,x=V.ref r.1/\H r.1=some (.tup (r.2.map V.str))/\∃b a c,v=V.ref b/\ClH H b a c/\Pc c/\c.ad=r.2) (rs.map λr=>V.ref r.1) ys->(∀r∈rs,H r.1=some (.tup (r.2.map V.str)))->
  ∃cs:List (Ez×Ez×Cl),ys=ZBi cs/\ZHh H cs/\cs.map (λx=>x.2.2.ad)=rs.map (·.2)/\∀x∈cs,Pc x.2.2
 | [],_,h,_=>by cases h;exact⟨[],rfl,(λx hx=>by cases hx),rfl,λx hx=>by cases hx⟩
 |r::rs,_,h,hr=>by
  rw[AR] at h
  cases h with
  |cons h1 h2=>
   obtain⟨r',e,hr',b,a,c,rfl,hc,hm,hca⟩:=h1
   injection e with e
   rw[<-e,hr r (AJ ..)] at hr'
   injection hr' with hr'
   injection hr' with hr'
   have e2:r.2=r'.2:=by
    have:=congrArg (Ds λv=>match v with|V.str x=>x|_=>("":E3)) hr'
    rw[AE,AE] at this
    have id':∀l:List E3,l.map ((λv=>match v with|V.str x=>x|_=>("":E3))∘V.str)=l:=λl=>by
     have:∀z∈l,((λv=>match v with|V.str x=>x|_=>("":E3))∘V.str) z=z:=λz _=>rfl
     rw[Ah this,CJ]
    rw[id',id'] at this
    exact this
   obtain⟨cs,e1,e3,e4,e5⟩:=ZGN h2 λq hq=>hr q (AL _ hq)
   refine⟨(b,a,c)::cs,by rw[e1];rfl,λx hx=>?_,by rw[AR,AR,e4,e2];rw[<-hca],λx hx=>?_⟩
   ·rcases AQ.mp hx with rfl|hx
    ·exact hc
    ·exact e3 x hx
   ·rcases AQ.mp hx with rfl|hx
    ·exact hm
    ·exact e5 x hx
theorem tog_of {L:List Cl}{us:List (List E3)}{rs:List (Ez×List E3)}{cs:List (Ez×Ez×Cl)}(hu:us.Nodup)(hm:∀u,u∈us↔∃c∈L,c.ad=u)(hp:(rs.map (·.2)).Perm us)(hs:rs.Pairwise λa b=>HS.ltT b.2 a.2=false)(he:cs.map (λx=>x.2.2.ad)=rs.map (·.2))(hc:∀x∈cs,ZB5 L x.2.2):Tog L (cs.map (·.2.2)):=by
 refine⟨?_,λc=>⟨λh=>?_,λh=>?_⟩⟩
 ·have h1:(rs.map (·.2)).Pairwise λa b=>HS.ltT a b=true:=by
   rw[Aa]
   have ndq:(rs.map (·.2)).Nodup:=hp.nodup_iff.mpr hu
   rw[List.Nodup,Aa] at ndq
   refine(hs.and ndq).imp λ{a b} z=>?_
   cases hc:HS.ltT a.2 b.2 with
   |true=>rfl
   |false=>exact absurd (HS.ltT_tri _ _ hc z.1) z.2
  rw[<-he,Aa] at h1
  rw[Aa]
  exact h1
 ·obtain⟨x,hx,rfl⟩:=AD.mp h
  exact hc x hx
 ·have h2:c.ad∈cs.map λx=>x.2.2.ad:=by rw[he,hp.mem_iff,hm];exact⟨c,h.1,rfl⟩
  obtain⟨x,hx,e⟩:=AD.mp h2
  rw[<-ZB5.uniq (hc x hx) h e]
  exact AD.mpr ⟨x,hx,rfl⟩
theorem ZHC {J:It}{rs:List (Ez×Ez×Cl)}{tt:TT}{te:TE}{fr:St}{H1:Hp}{QD:Hp->Prop}(f:Ez×Ez×Cl->V)(p:Ez×Ez×Cl->Bool)(D:Ez)(hD:H1 D=none)(T:Tells J H1 (ZBi rs))(hz:rs.length<sizeLine)
  (ht:∀r H R,r∈rs->Same H1 H->(∀H',Same H H'->R (p r) H')->tt (some (.ref r.1)::fr) H R)
  (he:∀r H R,r∈rs->p r=true->Same H1 H->(∀H',Same H H'->R (f r) H')->te (some (.ref r.1)::fr) H R)
  (hd:∀H',Same H1 H'->H' D=some (.lst ((rs.filter p).map f))->QD H'):
  ∃W:Nat->Nat->List V->Hp->Prop,(∃m,W 0 m [] (upd H1 D (.lst [])))/\∀i m ys H2,W i m ys H2->H2 D=some (.lst ys)/\
   ((J.stop i H2/\QD H2)\/(J.go i H2/\∀x H3,J.yld i H2 x H3->∀pre:St,pre.length=1->ZBg 0 x (pre++fr) H3 λZ4 H4=>(∃pre':St,pre'.length=1/\Z4=pre'++fr)/\
    tt Z4 H4 λb H5=>if b=true then te Z4 H5 (λy H6=>H6 D=some (.lst ys)/\ys.length<sizeLine/\∃m',m'<m/\W (i+1) m' (ys++ [y]) (upd H6 D (.lst (ys++ [y])))) else∃m',m'<m/\W (i+1) m' ys H5)):=by
 refine⟨λi m ys H2=>m=rs.length-i/\i<=rs.length/\ys=((rs.take i).filter p).map f/\H2 D=some (.lst ys)/\Same H1 H2,⟨rs.length,by simp,Aq _,by simp,ZAB,Same.new hD _⟩,?_⟩
 rintro i m ys H2 ⟨rfl,hi,rfl,hD2,sm⟩
 refine⟨hD2,?_⟩
 by_cases hlt:i<rs.length
 ·refine .inr ⟨T.go H2 i sm (by rw[AA];exact hlt),λx H3 y pre hpre=>?_⟩
  obtain⟨rfl,hx⟩:=T.yld H2 i x H3 sm y
  rw[AS,AG hlt] at hx
  cases hx
  have hm:rs[i]∈rs:=BJ hlt
  obtain⟨a0,rfl⟩:∃a0,pre= [a0]:=by
   cases pre with
   |nil=>simp at hpre
   |cons a0 r=>cases r with
    |nil=>exact⟨a0,rfl⟩
    |cons _ _=>simp at hpre
  refine⟨⟨[some (.ref rs[i].1)],rfl,rfl⟩,?_⟩
  have htk:(rs.take (i+1)).filter p=(rs.take i).filter p++(if p rs[i]=true then[rs[i]] else[]):=by
   rw[BG,AG hlt,Cb]
   cases hp:p rs[i]<;>simp[hp]
  refine ht rs[i] H3 _ hm sm λH5 s5=>?_
  cases hp:p rs[i] with
  |false=>
   rw[hp,if_neg AM,A5] at htk
   exact iteF ⟨rs.length-(i+1),by lia,rfl,hlt,by rw[htk],s5 _ _ hD2,sm.trans s5⟩
  |true=>
   rw[hp,if_pos rfl] at htk
   refine iteT (he rs[i] H5 _ hm hp (sm.trans s5) λH6 s6=>?_)
   have hl:(((rs.take i).filter p).map f).length<=i:=by
    rw[AA]
    refine As (Ap _ _) ?_
    rw[Ax];lia
   refine⟨s6 _ _ (s5 _ _ hD2),by lia,rs.length-(i+1),by lia,rfl,hlt,?_,ZAB,?_⟩
   ·rw[htk,AX];rfl
   ·intro b o e
    have hb:b≠D:=ZAJ e hD
    rw[ZAN hb]
    exact s6 _ _ (s5 _ _ (sm _ _ e))
 ·have e:i=rs.length:=by lia
  subst e
  rw[Bd] at hD2
  have hst:=T.stop H2 sm
  rw[AA] at hst
  exact .inl ⟨hst,hd H2 sm hD2⟩
inductive ZPB (H:Hp)(p:Ez)(T:List (List E3)):Prop
 |mk:∀(rs:List (Ez×List E3)),(H p=some (.tup (rs.map λr=>V.ref r.1)))->((∀r∈rs,H r.1=some (.tup (r.2.map V.str))))->(rs.map (·.2)=T)->ZPB H p T
theorem ZFU (cs:List (Ez×Ez×Cl))(p:Cl->Bool):(cs.filter λr=>p r.2.2).map (·.2.2)=(cs.map (·.2.2)).filter p:=by
 rw[Bb]
 rfl
def ZC2 (H:Hp)(d:Ez)(us:List (List E3))(Pc:Cl->Prop:=λc=>0<=c.ck):Prop:=∃kvs:List (List Key×V),H d=some (.dT kvs)/\kvs.map (·.1)=(us.map λt=>t.map AH)/\us.Nodup/\
 ∀u,u∈us->∃b a c,valV kvs (u.map AH)=some (.ref b)/\ClH H b a c/\c.ad=u/\Pc c
theorem ZC2.nil {Pc:Cl->Prop}{H:Hp}{d:Ez}(h:H d=some (.dT [])):ZC2 H d [] Pc:=⟨[],h,rfl,BZ,λu z=>by cases z⟩
theorem ZC2.ts {Pc:Cl->Prop}{H H':Hp}{d:Ez}{us:List (List E3)}(h:ZC2 H d us Pc)(s:TS' H H')(hd:∀kvs,H d=some (.dT kvs)->H' d=some (.dT kvs)):ZC2 H' d us Pc:=by
 obtain⟨kvs,h1,h2,h3,h6⟩:=h
 refine⟨kvs,hd _ h1,h2,h3,λu hu=>?_⟩
 obtain⟨b,a,c,e1,e2,e3⟩:=h6 u hu
 exact⟨b,a,c,e1,e2.ts s,e3⟩
theorem ZC2.same {Pc:Cl->Prop}{H H':Hp}{d:Ez}{us:List (List E3)}(h:ZC2 H d us Pc)(s:Same H H'):ZC2 H' d us Pc:=h.ts s.ts λ_ e=>s _ _ e
theorem ZC2.put {Pc:Cl->Prop}{H:Hp}{d:Ez}{us:List (List E3)}(h:ZC2 H d us Pc){b a:Ez}{x:Cl}(hx:ClH H b a x)(h0:Pc x)(hz:us.length<=1000):
  ∃o,DPut H d (.ref a) (.ref b) (upd H d o)/\ZC2 (upd H d o) d (if x.ad∈us then us else us++ [x.ad]) Pc:=by
 obtain⟨kvs,h1,h2,h3,h6⟩:=h
 have hkl:kvs.length=us.length:=by have:=congrArg Ay h2;rw[AA,AA] at this;exact this
 have ek:(x.ad.map V.str)=((x.ad.map AH:List Key).map kV):=by rw[AE];rfl
 have hk:=hx.2
 rw[ek] at hk
 have ndT:TS' H (upd H d (.dT (putK kvs (x.ad.map AH) (.ref b)))):=λc ys e=>by rw[ZAN (λz=>by rw[z,h1] at e;cases e)];exact e
 refine⟨_,DPut.t h1 hk (bigl _ (by lia)),_,ZAB,ZCZ h2,?_,λu hu=>?_⟩
 ·by_cases c:x.ad∈us
  ·rw[if_pos c];exact h3
  ·rw[if_neg c,Aw]
   exact⟨h3,by simp,λy hy z hz e=>by rw[AF.mp hz] at e;exact c (e▸hy)⟩
 ·rw[ZD1]
  by_cases e:u=x.ad
  ·subst e
   exact⟨b,a,x,if_pos rfl,hx.ts ndT,rfl,h0⟩
  ·rw[if_neg (λz=>e (ZGO z))]
   have hu':u∈us:=by
    by_cases c:x.ad∈us
    ·rw[if_pos c] at hu;exact hu
    ·rw[if_neg c] at hu
     exact(AY.mp hu).elim id λz=>absurd (AF.mp z) e
   obtain⟨b',a',c',e1,e2,e3⟩:=h6 u hu'
   exact⟨b',a',c',e1,e2.ts ndT,e3⟩
theorem ZC2.get {Pc:Cl->Prop}{H:Hp}{d a:Ez}{us:List (List E3)}(h:ZC2 H d us Pc){u:List E3}(hu:u∈us)(ha:H a=some (.tup (u.map V.str))):∃b a' c,DGet H d (.ref a) (some (.ref b))/\ClH H b a' c/\c.ad=u/\Pc c:=by
 obtain⟨kvs,h1,h2,h3,h6⟩:=h
 have ek:(u.map V.str)=((u.map AH:List Key).map kV):=by rw[AE];rfl
 rw[ek] at ha
 obtain⟨b,a',c,e1,e2,e3⟩:=h6 u hu
 have g:=DGet.t h1 ha
 rw[e1] at g
 exact⟨b,a',c,g,e2,e3⟩
theorem ZLh {J:It}{n:Nat}{te:TE}{fr:St}{H1:Hp}{QD:Hp->Prop}(D:Ez)(V0:Nat->V->Prop)(G:Nat->List V->Hp->Prop)(hn:n<sizeLine)
  (hgo:∀i H,i<n->J.go i H) (hyl:∀i H x H',i<n->J.yld i H x H'->H'=H/\V0 i x) (hst:∀H,J.stop n H)
  (g0:G 0 [] (upd H1 D (.lst [])))
  (gs:∀i x ys H (R:VK),i<n->V0 i x->G i ys H->H D=some (.lst ys)->(∀y H6,H6 D=some (.lst ys)->G (i+1) (ys++ [y]) (upd H6 D (.lst (ys++ [y])))->R y H6)->te (some x::fr) H R)
  (hd:∀ys H,G n ys H->H D=some (.lst ys)->QD H):
  ∃W:Nat->Nat->List V->Hp->Prop,(∃m,W 0 m [] (upd H1 D (.lst [])))/\∀i m ys H2,W i m ys H2->H2 D=some (.lst ys)/\
   ((J.stop i H2/\QD H2)\/(J.go i H2/\∀x H3,J.yld i H2 x H3->∀pre:St,pre.length=1->ZBg 0 x (pre++fr) H3 λZ4 H4=>(∃pre':St,pre'.length=1/\Z4=pre'++fr)/\
    ZC3 Z4 H4 λb H5=>if b=true then te Z4 H5 (λy H6=>H6 D=some (.lst ys)/\ys.length<sizeLine/\∃m',m'<m/\W (i+1) m' (ys++ [y]) (upd H6 D (.lst (ys++ [y])))) else∃m',m'<m/\W (i+1) m' ys H5)):=by
 refine⟨λi m ys H2=>m=n-i/\i<=n/\ys.length=i/\H2 D=some (.lst ys)/\G i ys H2,⟨n,by simp,Aq _,rfl,ZAB,g0⟩,?_⟩
 rintro i m ys H2 ⟨rfl,hi,hl,hD2,g⟩
 refine⟨hD2,?_⟩
 by_cases hlt:i<n
 ·refine .inr ⟨hgo i H2 hlt,λx H3 y pre hpre=>?_⟩
  obtain⟨rfl,hv⟩:=hyl i H2 x H3 hlt y
  obtain⟨v0,rfl⟩:∃v0,pre= [v0]:=by
   cases pre with
   |nil=>simp at hpre
   |cons v r=>cases r with
    |nil=>exact⟨v,rfl⟩
    |cons _ _=>simp at hpre
  refine⟨⟨[some x],rfl,rfl⟩,?_⟩
  unfold ZC3
  dsimp only
  refine iteT (gs i x ys H3 _ hlt hv g hD2 λy H6 q1 q2=>?_)
  exact⟨q1,by lia,n-(i+1),by lia,rfl,hlt,by rw[AW,hl];rfl,ZAB,q2⟩
 ·have e:i=n:=by lia
  subst e
  exact .inl ⟨hst H2,hd ys H2 g hD2⟩
end Co
namespace HK
open PySem
section
variable {prog:E7}{w:FA}{A:FC}{R:Result->E4->Prop}{I:Ez}{fp wr:List Ez}{n:Nat}{P:Nat->E2->Prop}{St:Nat->E9->Prop}{Kp:E4->Prop}
def CmpK (prog:E7)(w:FA)(A:FC)(op:CmpOp)(P:Nat->E2->Prop)(bt:Nat->Nat->Bool)(Kp:E4->Prop):Prop:=
 ∀i j vi vj (s:E4) (Q:E2->E4->Prop) (E:E2->E4->Prop),Kp s->P i vi->P j vj->Q (.bool (bt i j)) s->E6 (model prog w) A (richCompare op vi vj) Q E s
end
section
variable {prog:E7}{w:FA}{A:FC}{E:E2->E4->Prop}{s:E4}
end
end HK
namespace HL
open PySem PySem.SeqAt
open AutoSeq1 (wpAny_loadPart')
open MeetsSeq MeetsSeq2 MeetsSeq3
section
variable {A:FC}{s:E4}
end
end HL
namespace L2
open PySem PySem.Spec PyProof.Rows HL
mutual
theorem ZLb:∀{d e:Dat},Dat.beq d e=true->d=e
 | .non,.non,_=>rfl
 | .int i,.int j,h=>by rw[show i=j from eq_of_beq h]
 | .str i,.str j,h=>by rw[show i=j from eq_of_beq h]
 | .tup ds,.tup es,h=>by rw[ZDi (ds:=ds) (es:=es) h]
 | .non,.int _,h=>by cases h
 | .non,.str _,h=>by cases h
 | .non,.tup _,h=>by cases h
 | .int _,.non,h=>by cases h
 | .int _,.str _,h=>by cases h
 | .int _,.tup _,h=>by cases h
 | .str _,.non,h=>by cases h
 | .str _,.int _,h=>by cases h
 | .str _,.tup _,h=>by cases h
 | .tup _,.non,h=>by cases h
 | .tup _,.int _,h=>by cases h
 | .tup _,.str _,h=>by cases h
theorem ZDi:∀{ds es:List Dat},Dat.beqs ds es=true->ds=es
 | [],[],_=>rfl
 |d::ds,e::es,h=>by
  have h':(Dat.beq d e&&Dat.beqs ds es)=true:=h
  rw[BK] at h'
  rw[ZLb h'.1,ZDi h'.2]
 | [],_::_,h=>by cases h
 |_::_,[],h=>by cases h
end
theorem ZNH {ds es:List Dat}:Dat.beqs ds es=true↔ds=es:=⟨ZDi,λh=>h▸ZB2 ds⟩
section
variable {X:Cx}{pins:List (Ez×FF)}{Z:St}{H:Hp}{s:E4}
end
section
variable {X:Cx}
theorem rc_eqD {pins:List (Ez×FF)}{Z:St}{H:Hp}{s:E4}(I:Inv X pins Z H s)(hu:X.A.units+8<cLine){ds es:List Dat}{a b:Ez}{xs ys:List V}(q1:SqT X.K H a xs)(q2:SqT X.K H b ys)(h1:ZAr X.K H ds xs)(h2:ZAr X.K H es ys)(hdp:Dat.deeps ds<=6):SeqAt.RcAt X.A s (.ref a) (.ref b) (Dat.beqs ds es):=by
 obtain⟨its,r1,p1,_⟩:=I.tuple q1
 obtain⟨its2,r2,p2,_⟩:=I.tuple q2
 have s1:its.toArray.size=ds.length:=by rw[AO,<-r1.length,h1.length]
 have s2:its2.toArray.size=es.length:=by rw[AO,<-r2.length,h2.length]
 have key:=SeqAt.RcAt.tuples (A:=X.A) (s:=s) (e:=λj=>Dat.beq (ds.getD j .non) (es.getD j .non)) p1 p2 (by lia) λj j1 j2=>by
  obtain⟨x',d1,rx',m1⟩:=ZCj (A:=X.A) h1 r1 j1
  obtain⟨y',d2,ry',_⟩:=ZCj (A:=X.A) h2 r2 j2
  have h3:=ZEn m1
  exact ZDK I 6 X.A.in1 (by lia) (by show X.A.units+1+6<cLine;lia) d1 d2 rx' ry'
 rw[s1,s2,<-ZEI] at key
 exact key
inductive ZN2 (K:AB)(x:V)(y:V)(H:Hp)(Q:VK):Prop
 |mk:∀ds es,(ZAZ K H (.tup ds) x)->(ZAZ K H (.tup es) y)->(Dat.deeps ds<=6)->(Q (.bl (Dat.beqs ds es)) H)->ZN2 K x y H Q
def rEqD (K:AB):R2:=λx y H Q=>ZN2 K x y H Q
inductive ZNw (K:AB)(x:V)(y:V)(H:Hp)(Q:VK):Prop
 |mk:∀ds es,(ZAZ K H (.tup ds) x)->(ZAZ K H (.tup es) y)->(Dat.deeps ds<=6)->(Q (.bl (!Dat.beqs ds es)) H)->ZNw K x y H Q
def rNeD (K:AB):R2:=λx y H Q=>ZNw K x y H Q
theorem ZGu (hu:X.A.units+8<cLine):OpR X (Fh .Eq) (rEqD X.K):=by
 intro pins s Z H x y v u Q I rx ry h
 obtain⟨ds,es,⟨a,xs,rfl,q1,h1⟩,⟨b,ys,rfl,q2,h2⟩,hdp,q⟩:=h
 cases rx
 cases ry
 exact rc_eqD I hu q1 q2 h1 h2 hdp _ _ _ _ ⟨.bl _,H,I,rfl,q⟩
theorem ZIo (hu:X.A.units+8<cLine):OpR X (Fh .NotEq) (rNeD X.K):=by
 intro pins s Z H x y v u Q I rx ry h
 obtain⟨ds,es,⟨a,xs,rfl,q1,h1⟩,⟨b,ys,rfl,q2,h2⟩,hdp,q⟩:=h
 cases rx
 cases ry
 obtain⟨its,r1,p1,_⟩:=I.tuple q1
 obtain⟨its2,r2,p2,_⟩:=I.tuple q2
 have s1:its.toArray.size=ds.length:=by rw[AO,<-r1.length,h1.length]
 have s2:its2.toArray.size=es.length:=by rw[AO,<-r2.length,h2.length]
 have key:=SeqAt.RcNeAt.tuples (A:=X.A) (s:=s) (e:=λj=>Dat.beq (ds.getD j .non) (es.getD j .non)) p1 p2 (by lia) λj j1 j2=>by
  obtain⟨x',d1,rx',m1⟩:=ZCj (A:=X.A) h1 r1 j1
  obtain⟨y',d2,ry',_⟩:=ZCj (A:=X.A) h2 r2 j2
  have h3:=ZEn m1
  exact ZDK I 6 X.A.in1 (by lia) (by show X.A.units+1+6<cLine;lia) d1 d2 rx' ry'
 rw[s1,s2,<-ZEI] at key
 exact key _ _ _ _ ⟨.bl _,H,I,rfl,q⟩
open Classical in
end
end L2
namespace HM
open PySem
section
variable {prog:E7}{w:FA}{A:FC}{E:E2->E4->Prop}{s:E4}
end
end HM
namespace L2
open PySem PySem.Spec PyProof.Rows
section
variable {X:Cx}
inductive ZNv (K:AB)(x:V)(y:V)(H:Hp)(Q:VK):Prop
 |mk:∀ds,(ZAZ K H (.tup ds) x)->(ZAZ K H (.tup ds) y)->(Dat.deeps ds<=6)->(Q (.bl false) H)->ZNv K x y H Q
def rNeS (K:AB):R2:=λx y H Q=>ZNv K x y H Q
inductive ZN0 (K:AB)(x:V)(y:V)(H:Hp)(Q:VK):Prop
 |mk:∀ds,(ZAZ K H (.tup ds) x)->(ZAZ K H (.tup ds) y)->(Dat.deeps ds<=6)->(Q (.bl true) H)->ZN0 K x y H Q
def rEqS (K:AB):R2:=λx y H Q=>ZN0 K x y H Q
theorem ZEV (hu:X.A.units+8<cLine):OpR X (Fh .NotEq) (rNeS X.K):=by
 intro pins s Z H x y v u Q I rx ry h
 obtain⟨ds,h1,h2,h3,q⟩:=h
 refine ZIo hu pins s Z H x y v u Q I rx ry ⟨ds,ds,h1,h2,h3,?_⟩
 rw[ZB2]
 exact q
theorem ZNY (hu:X.A.units+8<cLine):OpR X (Fh .Eq) (rEqS X.K):=by
 intro pins s Z H x y v u Q I rx ry h
 obtain⟨ds,h1,h2,h3,q⟩:=h
 refine ZGu hu pins s Z H x y v u Q I rx ry ⟨ds,ds,h1,h2,h3,?_⟩
 rw[ZB2]
 exact q
end
theorem ZAz {α:Type}{f:α->Dat}{n:Nat}:∀{L:List α},(∀x∈L,Dat.deep (f x)<=n)->Dat.deeps (L.map f)<=n
 | [],_=>Aq _
 |x::L,h=>by
  show max (Dat.deep (f x)) (Dat.deeps (L.map f))<=n
  exact Nat.max_le.mpr ⟨h x (AJ ..),ZAz λy hy=>h y (AL _ hy)⟩
theorem ZGX {α:Type}{K:AB}{H:Hp}{f:α->Dat}{g:α->V}:∀{L:List α},(∀x∈L,ZAZ K H (f x) (g x))->ZAr K H (L.map f) (L.map g)
 | [],_=>rfl
 |x::L,h=>⟨_,_,rfl,h x (AJ ..),ZGX λy hy=>h y (AL _ hy)⟩
end L2
namespace Co
open PySem L2 Mi
theorem ZGW {K:AB}{H:Hp}{p:Ez}{L:List Cl}(h:ClsAt H p L):ZAZ K H (.tup (L.map clD)) (.ref p):=by
 obtain⟨cs,h1,h2,h3⟩:=h
 refine⟨p,_,rfl,SqT.of h1,?_⟩
 rw[<-h3,AE]
 exact ZGX λx hx=>ZLm (h2 x hx)
theorem ZI0 (L:List Cl):Dat.deeps (L.map clD)<=3:=ZAz λc _=>ZLl c
theorem ZDQ (u v:List E3):Dat.beqs (u.map Dat.str) (v.map Dat.str)=decide (u=v):=by
 rw[B1,ZNH,decide_eq_true_eq]
 constructor
 ·intro h
  have e:=congrArg (Ds λd=>match d with|Dat.str x=>x|_=>("":E3)) h
  rw[AE,AE] at e
  have id':∀l:List E3,l.map ((λd=>match d with|Dat.str x=>x|_=>("":E3))∘Dat.str)=l:=λl=>by
   have:∀z∈l,((λd=>match d with|Dat.str x=>x|_=>("":E3))∘Dat.str) z=z:=λz _=>rfl
   rw[Ah this,CJ]
  rw[id',id'] at e
  exact e
 ·rintro rfl;rfl
theorem ZBY {K:AB}{H:Hp}{a:Ez}{u:List E3}(h:H a=some (.tup (u.map V.str))):ZAZ K H (tupD u) (.ref a):=⟨a,_,rfl,SqT.of h,ZBz u⟩
theorem ZGq {us:List (List E3)}{rs:List (Ez×List E3)}(hu:us.Nodup)(hp:(rs.map (·.2)).Perm us)(hs:rs.Pairwise λa b=>HS.ltT b.2 a.2=false):(rs.map (·.2)).Pairwise λa b=>HS.ltT a b=true:=by
 rw[Aa]
 have ndq:(rs.map (·.2)).Nodup:=hp.nodup_iff.mpr hu
 rw[List.Nodup,Aa] at ndq
 refine(hs.and ndq).imp λ{a b} z=>?_
 cases hc:HS.ltT a.2 b.2 with
 |true=>rfl
 |false=>exact absurd (HS.ltT_tri _ _ hc z.1) z.2
end Co
namespace L2
open PySem PySem.Spec PyProof.Rows
section
variable {X:Cx}{k:Nat}{f:Ez}{fd:FJ}{ps:List E3}{sp:Sp}{E:XK}
theorem ZKR {pins:List (Ez×FF)}{Z:St}{H:Hp}{s:E4}{Q:VK}{us:List E2}{vs:List V}(F:FnOk X.prog X.w X.K X.mg X.base CX0 k f fd ps sp)(hr:Room (k+1) X.A)(hb:Binds X.K fd ps [])
  (I:Inv X pins Z H s) (r:Vals vs us) (h:sp vs H Q E):E6 (model X.prog X.w) X.A.in1 (call (.ref f) us) (EP X pins Z Q) (λ_ _=>False) s:=by
 have r2:Vals (vs++ []) (us++ []):=r.append .nil
 rw[A5,A5] at r2
 have hl:(us++([]:List E2)).length=ps.length:=by rw[A5,<-r2.length];exact F.len _ _ _ _ h
 have hbb:=hb s us I.kIn hl
 rw[A5] at hbb
 refine wpAny_call (Fx (F.run X.A.in1 X.stack s H ⟨us,[]⟩ us vs Q E hr.in1 I.env0.in1 hbb r2 h) λr s' hq=>?_)
 cases r with
 |error e=>exact hq
 |ok fl=>
  cases fl with
  |ret u=>exact I.after hq
  |next=>exact Bg hq
  |brk=>exact Bg hq
  |cont=>exact Bg hq
def ZHi (kf:Nat->Int)(j i:Nat):Prop:=i<=j/\∀j',j'<=j->kf j'<=kf i/\(j'<i->kf j'<kf i)
theorem ZLD {Z:St}{H:Hp}{pins:List (Ez×FF)}{l I S:Ez}{xs:List V}{kw:List (E3×E2)}{Q:VK}(kf:Nat->Int)(F:FnOk X.prog X.w X.K X.mg X.base CX0 k f fd ps sp)(hr:Room (k+1) X.A)(hb:Binds X.K fd ps [])
  (hq:SqL X.K H l xs) (hlI:l≠I) (hSI:S≠I) (fI:FpOk X pins H I) (fS:FpOk X pins H S)
  (turn:∀(i:Nat) (v:V),xs[i]?=some v->sp [v] H (λr H'=>r= .int (kf i)/\H'=H) E)
  (hQ:∀i v,xs[i]?=some v->ZHi kf (xs.length-1) i->Q v H):
  ∀(r j i:Nat) (s:E4) (ub:E2) (vb:V) (tb:Tok) (c:Nat),xs.length-(j+1)=r->j+1<=xs.length->Inv X pins Z H s->s.heap.get? S=some (seqObj "list" #[ub,.int (kf i) tb] c)->s.heap.IsListIter I l (j+1)->xs[i]?=some vb->RelV vb ub->ZHi kf j i->
   Fj (model X.prog X.w) X.A (.builtin "max.loop" ⟨[.ref I,.ref f,.ref S],kw⟩) (λr s'=>match r with| .ok (.ret v)=>EP X pins Z Q v s'| .ok _=>False| .error e=>X.xe e s') s:=by
 have hname:(toString "max"++toString ".loop":String)="max.loop":=by decide
 have hh:X.A.in1.handled=none:=hr.in1.hd
 intro r
 induction r with
 |zero=>
  intro j i s ub vb tb c hrr hj I0 hS hit hvb rb hbest
  have hin:j+1=xs.length:=by lia
  obtain⟨its,ri,pl,_⟩:=I0.list hq
  have hsz:its.toArray.size=xs.length:=by rw[AO,ri.length]
  have W:=Walks.list (prog:=X.prog) (w:=X.w) (A:=X.A.in1) hh I l hlI its.toArray
  refine FI DJ ?_
  rw[An Bf _]
  show E6 _ X.A.in1 (seqItems? (.ref S) >>= _) _ _ _
  refine Ey (FR hS rfl ?_)
  show E6 _ X.A.in1 (tryCatch (FY (.ref I)) _ >>= _) _ _ _
  refine Ey (FU (W.done _ _ _ ⟨by rw[hsz,<-hin];exact hit,pl.isList⟩ λh' tk' hk'=>?_))
  have I1:Inv X pins Z H {s with heap:=h',toks:=tk'}:=I0.turned (t':=tk') (it:=I) (λb o hb e=>hk' b o (by simpa using hb) e) fI.1 fI.2.1 fI.2.2.2.1 fI.2.2.2.2.1 fI.2.2.2.2.2
  have hS':=hk' S _ (by simpa using hSI) hS
  have s1:=BS h' S (BF λ_=>(#[]:Array E2))
  show E6 _ X.A.in1 (updateSeq S (λ_=>#[]) >>= _) _ _ _
  refine Ey ?_
  refine Fi hS' rfl (Ey (Fl (E5 ?_)))
  have I2:=I1.turned (h':=h'.update S (BF λ_=>(#[]:Array E2))) (t':=tk') (it:=S) (λb o hb e=>(s1.2 b hb).trans e) fS.1 fS.2.1 fS.2.2.2.1 fS.2.2.2.2.1 fS.2.2.2.2.2
  have e1:xs.length-1=j:=by lia
  exact⟨vb,H,I2,rb,hQ i vb hvb (by rw[e1];exact hbest)⟩
 |succ r ih=>
  intro j i s ub vb tb c hrr hj I0 hS hit hvb rb hbest
  have hlt:j+1<xs.length:=by lia
  obtain⟨its,ri,pl,_⟩:=I0.list hq
  have hsz:its.toArray.size=xs.length:=by rw[AO,ri.length]
  have W:=Walks.list (prog:=X.prog) (w:=X.w) (A:=X.A.in1) hh I l hlI its.toArray
  refine FI DJ ?_
  rw[An Bf _]
  show E6 _ X.A.in1 (seqItems? (.ref S) >>= _) _ _ _
  refine Ey (FR hS rfl ?_)
  show E6 _ X.A.in1 (tryCatch (FY (.ref I)) _ >>= _) _ _ _
  refine Ey (FU (W.item (j+1) _ _ _ (by rw[hsz];exact hlt) ⟨hit,pl.isList⟩ λv h' tk' hP hst' hk'=>?_))
  have hv:its[j+1]?=some v:=by simpa using hP
  have hxj:xs[j+1]?=some xs[j+1]:=AG hlt
  obtain⟨v0,hv0,rv⟩:=ri.get hxj
  rw[hv] at hv0
  cases hv0
  have I1:Inv X pins Z H {s with heap:=h',toks:=tk'}:=I0.turned (t':=tk') (it:=I) (λb o hb e=>hk' b o (by simpa using hb) e) fI.1 fI.2.1 fI.2.2.2.1 fI.2.2.2.2.1 fI.2.2.2.2.2
  have hS1:=hk' S _ (by simpa using hSI) hS
  obtain⟨oI',hoI',hoc,hod⟩:=id hst'.1
  have I1':=I1.pinned (fp:= [S,I]) (λb hb=>by
   rcases AQ.mp hb with rfl|hb
   ·exact fS
   ·rw[AF.mp hb];exact fI) (λb hb=>by
   rcases AQ.mp hb with rfl|hb
   ·exact⟨_,hS1,λv e=>by cases e⟩
   ·rw[AF.mp hb];exact⟨_,hoI',λv e=>by rw[hod] at e;cases e⟩)
  show E6 _ X.A.in1 (tryCatch (holding [v] (call (.ref f) [v])) _ >>= _) _ _ _
  refine Ey (FU (FK (FE (ZKR F hr hb I1' (.cons rv .nil) (turn (j+1) _ hxj)) (λu s2 he=>?_) λ_ _ hF=>hF.elim)))
  obtain⟨w2,H2,I2,rw2,rfl,rfl⟩:=he
  obtain⟨t2,rfl⟩:=rw2
  have pS:=(I2.pin (S,_) (AU _ (AU _ (ZAf (by simp) hS1)))).1
  have pI:=(I2.pin (I,oI') (AU _ (AU _ (ZAf (by simp) hoI')))).1
  have I2':=I2.unpinned
  have hit2:s2.heap.IsListIter I l (j+1+1):=⟨oI',pI,hoc,hod⟩
  show E6 _ X.A.in1 (tryCatch (holding [v,.int (kf (j+1)) t2] (richCompare .Gt (.int (kf (j+1)) t2) (.int (kf i) tb) >>= _)) _ >>= _) _ _ _
  refine Ey (FU (FK (Ey (CmpOf.ints_gt (prog:=X.prog) (w:=X.w) (A:=X.A.in1) (P:=λi v=>∃t,v= .int (kf i) t) kf (λi v h=>h) (j+1) i _ _ _ _ _ ⟨t2,rfl⟩ ⟨tb,rfl⟩ ?_))))
  refine Ey (FK (Fa ?_))
  refine Ey (Fl (E5 ?_))
  by_cases hb':kf (j+1)>kf i
  ·have s1:=BS s2.heap S (BF λ_=>#[v,.int (kf (j+1)) t2])
   obtain⟨c2,hc2⟩:∃c2,(s2.heap.update S (BF λ_=>#[v,.int (kf (j+1)) t2])).get? S=some (seqObj "list" #[v,.int (kf (j+1)) t2] c2):=⟨_,GX pS λ_=>#[v,.int (kf (j+1)) t2]⟩
   simp only[hb',decide_true,if_true]
   refine Ey ?_
   refine Fi pS rfl (Ey (Fl ?_))
   rw[hname]
   have I3:=I2'.turned (h':=s2.heap.update S (BF λ_=>#[v,.int (kf (j+1)) t2])) (t':=s2.toks) (it:=S) (λb o hb e=>(s1.2 b hb).trans e) fS.1 fS.2.1 fS.2.2.2.1 fS.2.2.2.2.1 fS.2.2.2.2.2
   refine E5 ⟨FN Bf _,ih (j+1) (j+1) _ v _ t2 c2 (by lia) hlt I3 hc2 ⟨oI',(s1.2 I hSI.symm).trans pI,hoc,hod⟩ hxj rv ⟨AK _,λj' hj'=>?_⟩⟩
   by_cases e:j'=j+1
   ·subst e
    exact⟨Int.le_refl _,λz=>absurd z (BM _)⟩
   ·have h1:=(hbest.2 j' (by lia)).1
    exact⟨by lia,λ_=>by lia⟩
  ·simp only[hb',decide_false,Am,if_false]
   refine Ey (Fl ?_)
   rw[hname]
   refine E5 ⟨FN Bf _,ih (j+1) i _ ub vb tb c (by lia) hlt I2' pS hit2 hvb rb ⟨by have:=hbest.1;lia,λj' hj'=>?_⟩⟩
   by_cases e:j'=j+1
   ·subst e
    exact⟨by lia,λz=>absurd z (by have:=hbest.1;lia)⟩
   ·exact hbest.2 j' (by lia)
end
theorem ZIQ (a v d:E2):argsOk "max" ⟨[a],[(A2 "key",v),(A2 "default",d)]⟩:=by unfold argsOk;kernel_rfl
section
variable {X:Cx}{k:Nat}{f:Ez}{fd:FJ}{ps:List E3}{sp:Sp}{E:XK}
theorem ZLE {Z:St}{H:Hp}{pins:List (Ez×FF)}{s:E4}{l:Ez}{xs:List V}{d:V}{dv:E2}{Q:VK}(F:FnOk X.prog X.w X.K X.mg X.base CX0 k f fd ps sp)(hr:Room (k+1) X.A)(hb:Binds X.K fd ps [])(I0:Inv X pins Z H s)
  (hq:SqL X.K H l xs) (rd:RelV d dv) (h:(xs= []->Q d H)/\(xs≠ []->∃kf:Nat->Int,(∀(i:Nat) (v:V),xs[i]?=some v->sp [v] H (λr H'=>r= .int (kf i)/\H'=H) E)/\∀i v,xs[i]?=some v->ZHi kf (xs.length-1) i->Q v H)):
  E6 (model X.prog X.w) X.A (call (.builtin "max") [.ref l] [(A2 "key",.ref f),(A2 "default",dv)]) (EP X pins Z Q) X.xe s:=by
 have hname:(toString "max"++toString ".loop":String)="max.loop":=by decide
 have hh:X.A.in1.handled=none:=hr.in1.hd
 obtain⟨its,ri,pl,_⟩:=I0.list hq
 have hsz:its.toArray.size=xs.length:=by rw[AO,ri.length]
 obtain⟨ol,hol,_⟩:=id pl.isList
 have hll:l<s.heap.objs.size:=AI hol
 refine kmk_tree PySem.F.kind_max PySem.F.plain_max PySem.F.entry_max (ZIQ _ _ _) ?_
 show E6 _ X.A.in1 (B5 "max" ["key","default"] 0 ⟨[],[(A2 "key",.ref f),(A2 "default",dv)]⟩ >>= _) _ _ s
 refine Ey (Gp (show B5 "max" ["key","default"] 0 ⟨[],[(A2 "key",.ref f),(A2 "default",dv)]⟩=pure [some (.ref f),some dv] from rfl) ?_)
 refine Ey (E5 ?_)
 refine Ey (Fo pl.isList ?_)
 refine Ey (Gz ?_ (Aq _))
 rw[hname]
 have hS:(s.heap.push {cls:= .type "list_iterator",data:= .fields #[.ref l,.int 0 0]}).objs.size=s.heap.objs.size+1:=size_push' ..
 have hlI:l≠s.heap.objs.size:=AV hll
 have hSI:(s.heap.push {cls:= .type "list_iterator",data:= .fields #[.ref l,.int 0 0]}).objs.size≠s.heap.objs.size:=by rw[hS];exact A4 (Bm _)
 have fI:FpOk X pins H s.heap.objs.size:=I0.fpOk (AK _) (I0.hok.fresh (AK _))
 have fS:FpOk X pins H (s.heap.push {cls:= .type "list_iterator",data:= .fields #[.ref l,.int 0 0]}).objs.size:=I0.fpOk (by rw[hS];exact CI _) (I0.hok.fresh (by rw[hS];exact CI _))
 have I1:Inv X pins Z H {s with heap:=(s.heap.push {cls:= .type "list_iterator",data:= .fields #[.ref l,.int 0 0]}).push (seqObj "list" #[] 0)}:=I0.kept (t':=s.toks) λb o e=>AC _ (AC _ e)
 have gI:((s.heap.push {cls:= .type "list_iterator",data:= .fields #[.ref l,.int 0 0]}).push (seqObj "list" #[] 0)).get? s.heap.objs.size=some {cls:= .type "list_iterator",data:= .fields #[.ref l,.int 0 0]}:=
  AC _ (AN _ rfl)
 have gS:((s.heap.push {cls:= .type "list_iterator",data:= .fields #[.ref l,.int 0 0]}).push (seqObj "list" #[] 0)).get? (s.heap.push {cls:= .type "list_iterator",data:= .fields #[.ref l,.int 0 0]}).objs.size=some (seqObj "list" #[] 0):=AN _ rfl
 have hl1:((s.heap.push {cls:= .type "list_iterator",data:= .fields #[.ref l,.int 0 0]}).push (seqObj "list" #[] 0)).IsList l its.toArray:=(pl.isList.push _).push _
 generalize ((s.heap.push {cls:= .type "list_iterator",data:= .fields #[.ref l,.int 0 0]}).push (seqObj "list" #[] 0))=h1 at*
 generalize (s.heap.push {cls:= .type "list_iterator",data:= .fields #[.ref l,.int 0 0]}).objs.size=S at*
 generalize s.heap.objs.size=I at*
 have W:=Walks.list (prog:=X.prog) (w:=X.w) (A:=X.A.in1) hh I l hlI its.toArray
 refine E5 ⟨FN Bf _,?_⟩
 refine FI DJ ?_
 rw[An Bf _]
 show E6 _ X.A.in1 (seqItems? (.ref S) >>= _) _ _ _
 refine Ey (FR gS rfl ?_)
 show E6 _ X.A.in1 (tryCatch (FY (.ref I)) _ >>= _) _ _ _
 by_cases hne:xs= []
 ·have hs0:its.toArray.size=0:=by rw[hsz,hne];rfl
  refine Ey (FU (W.done _ _ _ ⟨by rw[hs0];exact⟨_,gI,rfl,rfl⟩,hl1⟩ λh' tk' hk'=>?_))
  have I2:=I1.turned (h':=h') (t':=tk') (it:=I) (λb o hb e=>hk' b o (by simpa using hb) e) fI.1 fI.2.1 fI.2.2.2.1 fI.2.2.2.2.1 fI.2.2.2.2.2
  show E6 _ X.A.in1 (rule _ >>= _) _ _ _
  refine Ey (Fe (E5 ?_))
  exact⟨d,H,I2,rd,h.1 hne⟩
 ·obtain⟨kf,turn,hQ⟩:=h.2 hne
  have hp:0<xs.length:=BN.mpr hne
  refine Ey (FU (W.item 0 _ _ _ (by rw[hsz];exact hp) ⟨⟨_,gI,rfl,rfl⟩,hl1⟩ λv h' tk' hP hst' hk'=>?_))
  have hv:its[0]?=some v:=by simpa using hP
  have hx0:xs[0]?=some xs[0]:=AG hp
  obtain⟨v0,hv0,rv⟩:=ri.get hx0
  rw[hv] at hv0
  cases hv0
  have I2:=I1.turned (h':=h') (t':=tk') (it:=I) (λb o hb e=>hk' b o (by simpa using hb) e) fI.1 fI.2.1 fI.2.2.2.1 fI.2.2.2.2.1 fI.2.2.2.2.2
  have hS1:=hk' S _ (by simpa using hSI) gS
  obtain⟨oI',hoI',hoc,hod⟩:=id hst'.1
  have I2':=I2.pinned (fp:= [S,I]) (λb hb=>by
   rcases AQ.mp hb with rfl|hb
   ·exact fS
   ·rw[AF.mp hb];exact fI) (λb hb=>by
   rcases AQ.mp hb with rfl|hb
   ·exact⟨_,hS1,λv e=>by cases e⟩
   ·rw[AF.mp hb];exact⟨_,hoI',λv e=>by rw[hod] at e;cases e⟩)
  show E6 _ X.A.in1 (tryCatch (holding [v] (call (.ref f) [v])) _ >>= _) _ _ _
  refine Ey (FU (FK (FE (ZKR F hr hb I2' (.cons rv .nil) (turn 0 _ hx0)) (λu s2 he=>?_) λ_ _ hF=>hF.elim)))
  obtain⟨w2,H2,I3,rw2,rfl,rfl⟩:=he
  obtain⟨t2,rfl⟩:=rw2
  have pS:=(I3.pin (S,_) (AU _ (AU _ (ZAf (by simp) hS1)))).1
  have pI:=(I3.pin (I,oI') (AU _ (AU _ (ZAf (by simp) hoI')))).1
  have I3':=I3.unpinned
  have s1:=BS s2.heap S (BF λ_=>#[v,.int (kf 0) t2])
  obtain⟨c2,hc2⟩:∃c2,(s2.heap.update S (BF λ_=>#[v,.int (kf 0) t2])).get? S=some (seqObj "list" #[v,.int (kf 0) t2] c2):=⟨_,GX pS λ_=>#[v,.int (kf 0) t2]⟩
  show E6 _ X.A.in1 (updateSeq S (λ_=>#[v,.int (kf 0) t2]) >>= _) _ _ _
  refine Ey ?_
  refine Fi pS rfl ?_
  rw[hname]
  have I4:=I3'.turned (h':=s2.heap.update S (BF λ_=>#[v,.int (kf 0) t2])) (t':=s2.toks) (it:=S) (λb o hb e=>(s1.2 b hb).trans e) fS.1 fS.2.1 fS.2.2.2.1 fS.2.2.2.2.1 fS.2.2.2.2.2
  refine E5 ⟨FN Bf _,ZLD kf F hr hb hq hlI hSI fI fS turn hQ _ 0 0 _ v _ t2 c2 rfl hp I4 hc2 ⟨oI',(s1.2 _ hSI.symm).trans pI,hoc,hod⟩ hx0 rv ⟨AK _,λj' hj'=>?_⟩⟩
  have e:j'=0:=by lia
  subst e
  exact⟨Int.le_refl _,λz=>absurd z (BM _)⟩
def ZNP (K:AB)(sp:Sp)(E:XK)(f:Ez)(te td:TE):TE:=λZ H Q=>te Z H λx H1=>td Z H1 λd H2=>∃l xs d',[x]= [V.ref l]/\ [V.ref f,d]= [.ref f,d']/\SqL K H2 l xs/\(xs= []->Q d' H2)/\(xs≠ []->∃kf:Nat->Int,(∀(i:Nat) (v:V),xs[i]?=some v->sp [v] H2 (λr H'=>r= .int (kf i)/\H'=H2) E)/\∀i v,xs[i]?=some v->ZHi kf (xs.length-1) i->Q v H2)
theorem ZMZ {e dx:FD}{te td:TE}{y:E3}{p py pk pd pos:Pos}(F:FnOk X.prog X.w X.K X.mg X.base CX0 k f fd ps sp)(hr:Room (k+1) X.A)(hb:Binds X.K fd ps [])(hm:X.mg "max"=none)(hg:Gl X "max")(hmy:X.mg y=some (.ref f))(hgy:Gl X y)(he:PE X e te)(hd:PE X dx td)
  (hdy:(y==("__debug__":E3))=false:=by decide) (hbt:Ff (A2 "max")=some (CB "max"):=by decide +kernel)
  (hs:FG [e] X.env= [(false,eval e X.env)]:=by rfl):
  PE X (.Call (.Name "max" p) [e] [⟨some "key",.Name y py,pk⟩,⟨some "default",dx,pd⟩] pos) (ZNP X.K sp E f te td):=by
 intro pins s Z H Q I h
 have ha:PA X [e] (ZAW te tNil):=ZAA he ZAC hs
 have hk:PK X [⟨some "key",.Name y py,pk⟩,⟨some "default",dx,pd⟩] (ZAW (tC (.ref f)) (ZAW td tNil)):=ZKj (ZAQ hgy hmy (v:= .ref f) rfl hdy) (ZKj hd pk_nil)
 refine Fc (ZDs I hg hm hbt ?_ (by decide) (by decide))
 refine PyProof.Rows.callWith_kw (thn (ha pos pins s Z H (λvs H1=>ZAW (tC (.ref f)) (ZAW td tNil) Z H1 λzs H2=>∃l xs d,vs= [.ref l]/\zs= [.ref f,d]/\SqL X.K H2 l xs/\(xs= []->Q d H2)/\(xs≠ []->∃kf:Nat->Int,(∀(i:Nat) (v:V),xs[i]?=some v->sp [v] H2 (λr H'=>r= .int (kf i)/\H'=H2) E)/\∀i v,xs[i]?=some v->ZHi kf (xs.length-1) i->Q v H2)) I ?_) λus s1 ⟨vs,H1,I1,r,q⟩=>?_) (by rw[hs];rfl) (by rw[hs];rfl)
 ·exact h
 ·refine thn (hk pos pins s1 Z H1 _ I1 q) λws s2 ⟨zs,H2,I2,rz,l,xs,d,e1,e2,hq,q2⟩=>?_
  subst e1 e2
  obtain⟨u,rfl,ru⟩:=vals1 r
  cases ru
  cases rz with
  |cons r1 r2=>
   cases r1
   cases r2 with
   |cons r3 r4=>
    cases r4
    exact ZLE F hr hb I2 hq r3 q2
end
section
variable {X:Cx}{tg:FD}
end
section
variable {X:Cx}
def NT:Dat->Prop
 | .non=>True
 | .tup _=>True
 |_=>False
inductive ZN1 (K:AB)(x:V)(y:V)(H:Hp)(Q:VK):Prop
 |mk:∀d e,(ZAZ K H d x)->(ZAZ K H e y)->(NT d)->(NT e)->(Dat.deep d<=6)->(Q (.bl (Dat.beq d e)) H)->ZN1 K x y H Q
def rEqM (K:AB):R2:=λx y H Q=>ZN1 K x y H Q
theorem op_eqM (hu:X.A.units+8<cLine):OpR X (Fh .Eq) (rEqM X.K):=by
 intro pins s Z H x y v u Q I rx ry h
 obtain⟨d,e,hd,he,nd,ne,hdp,q⟩:=h
 cases d with
 |int i=>exact nd.elim
 |str i=>exact nd.elim
 |non=>
  have hx:x= .non:=hd
  subst hx
  cases e with
  |int i=>exact ne.elim
  |str i=>exact ne.elim
  |non=>
   have hy:y= .non:=he
   subst hy
   refine ZMd pins s Z H .non .non v u Q I rx ry ⟨rfl,?_⟩
   rw[decide_eq_true (rfl:V.non=V.non)]
   exact q
  |tup es=>
   obtain⟨b,ys,rfl,q2,_⟩:=he
   obtain⟨its2,r2,p2,_⟩:=I.tuple q2
   have e1:v=At:=rx
   have e2:u=Ab b:=ry
   subst e1 e2
   exact SeqAt.RcAt.none_tuple (A:=X.A) p2 (by lia) X.prog X.w X.xe _ ⟨.bl false,H,I,rfl,q⟩
 |tup ds=>
  cases e with
  |int i=>exact ne.elim
  |str i=>exact ne.elim
  |non=>
   have hy:y= .non:=he
   subst hy
   obtain⟨b,ys,rfl,q2,_⟩:=hd
   obtain⟨its2,r2,p2,_⟩:=I.tuple q2
   have e1:v=Ab b:=rx
   have e2:u=At:=ry
   subst e1 e2
   exact SeqAt.RcAt.tuple_none (A:=X.A) p2 (by lia) X.prog X.w X.xe _ ⟨.bl false,H,I,rfl,q⟩
  |tup es=>
   have hdp':Dat.deeps ds+1<=6:=hdp
   exact ZGu hu pins s Z H x y v u Q I rx ry ⟨ds,es,hd,he,by lia,q⟩
end
end L2
namespace Mi
open PySem L2
abbrev Rl:=List E3×List E3
def fits (a:List E3)(r:Rl):Bool:=decide (a.take r.1.length=r.1)
def best (a:List E3):List Rl->Option Rl
 | []=>none
 |r::R=>match best a R with
  |none=>if fits a r=true then some r else none
  |some q=>if fits a r=true/\q.1.length<=r.1.length then some r else some q
def ZAy (R:List Rl)(a:List E3):Option (List E3):=(best a R).map λr=>r.2++a.drop r.1.length
def Best (R:List Rl)(a:List E3)(r:Rl):Prop:=r∈R/\fits a r=true/\∀q∈R,fits a q=true->q.1.length<=r.1.length
theorem ZDM {a:List E3}:∀{R:List Rl},best a R=none↔∀r∈R,fits a r=false
 | []=>by simp[best]
 |r::R=>by
  have ih:=ZDM (a:=a) (R:=R)
  unfold best
  cases h:best a R with
  |none=>
   have h':=ih.mp h
   cases hf:fits a r with
   |true=>
    refine⟨λz=>?_,λz=>?_⟩
    ·simp at z
    ·have:=z r (AJ ..)
     rw[hf] at this
     cases this
   |false=>
    refine⟨λ_ q hq=>?_,λ_=>rfl⟩
    rcases AQ.mp hq with rfl|hq
    ·exact hf
    ·exact h' q hq
  |some q=>
   refine⟨λz=>?_,λz=>?_⟩
   ·dsimp only at z
    split at z<;>cases z
   ·have:best a R=none:=ih.mpr λr' hr'=>z r' (AL _ hr')
    rw[this] at h
    cases h
theorem ZBk {a:List E3}:∀{R:List Rl} {q:Rl},best a R=some q->Best R a q
 | [],q,h=>by cases h
 |r::R,q,h=>by
  unfold best at h
  cases hb:best a R with
  |none=>
   rw[hb] at h
   dsimp only at h
   have hn:=ZDM.mp hb
   by_cases hf:fits a r=true
   ·rw[if_pos hf] at h
    cases h
    refine⟨AJ ..,hf,λq' hq' hf'=>?_⟩
    rcases AQ.mp hq' with rfl|hq'
    ·exact AK _
    ·rw[hn q' hq'] at hf'
     cases hf'
   ·rw[if_neg hf] at h
    cases h
  |some p=>
   rw[hb] at h
   dsimp only at h
   obtain⟨h1,h2,h3⟩:=ZBk hb
   by_cases hf:fits a r=true/\p.1.length<=r.1.length
   ·rw[if_pos hf] at h
    cases h
    refine⟨AJ ..,hf.1,λq' hq' hf'=>?_⟩
    rcases AQ.mp hq' with rfl|hq'
    ·exact AK _
    ·exact As (h3 q' hq' hf') hf.2
   ·rw[if_neg hf] at h
    obtain rfl:=Aj h
    refine⟨AL _ h1,h2,λq' hq' hf'=>?_⟩
    rcases AQ.mp hq' with rfl|hq'
    ·rcases Nat.lt_or_ge q'.1.length p.1.length with z|z
     ·lia
     ·exact absurd ⟨hf',z⟩ hf
    ·exact h3 q' hq' hf'
theorem Best.uniq {R:List Rl}{a:List E3}{r q:Rl}(nd:(R.map (·.1)).Nodup)(h1:Best R a r)(h2:Best R a q):r=q:=by
 have l1:=h1.2.2 q h2.1 h2.2.1
 have l2:=h2.2.2 r h1.1 h1.2.1
 have e:r.1.length=q.1.length:=by lia
 have f1:=of_decide_eq_true h1.2.1
 have f2:=of_decide_eq_true h2.2.1
 have e2:r.1=q.1:=by rw[<-f1,<-f2,e]
 clear l1 l2 e f1 f2
 have m1:=h1.1
 have m2:=h2.1
 clear h1 h2
 induction R with
 |nil=>cases m1
 |cons x R ih=>
  rw[AR,BT] at nd
  rcases AQ.mp m1 with h1|h1
  ·rcases AQ.mp m2 with h2|h2
   ·rw[h1,h2]
   ·rw[<-h1] at nd
    exact absurd (AD.mpr ⟨q,h2,e2.symm⟩) nd.1
  ·rcases AQ.mp m2 with h2|h2
   ·rw[<-h2] at nd
    exact absurd (AD.mpr ⟨r,h1,e2⟩) nd.1
   ·exact ih nd.2 h1 h2
theorem ZO8 {R:List Rl}{a:List E3}{r:Rl}(nd:(R.map (·.1)).Nodup)(h:Best R a r):best a R=some r:=by
 cases hb:best a R with
 |none=>
  have:=ZDM.mp hb r h.1
  rw[h.2.1] at this
  cases this
 |some q=>rw[Best.uniq nd h (ZBk hb)]
def rest (R:List Rl)(b:List E3):List Rl:=R.filter λr=> !decide (r.1=b)
theorem ZGA {R:List Rl}{b:List E3}{r:Rl}:r∈rest R b↔r∈R/\r.1≠b:=by
 unfold rest
 rw[Ao]
 simp
theorem ZOQ {R:List Rl}(nd:(R.map (·.1)).Nodup)(b:List E3):((rest R b).map (·.1)).Nodup:=nd.sublist (B6.map _)
def ZCF (R:List Rl)(r:Rl):Bool:=decide (ZAy (rest R r.1) r.1=some r.2)
theorem ZMr {R:List Rl}{r:Rl}(h:ZCF R r=true):r.1≠ []:=λe=>by
 have h':=of_decide_eq_true h
 rw[e] at h'
 cases hb:best [] (rest R []) with
 |none=>unfold ZAy at h';rw[hb] at h';cases h'
 |some q=>
  have hq:=ZBk hb
  have:=of_decide_eq_true hq.2.1
  simp at this
  exact(ZGA.mp hq.1).2 this
def ledN:Nat->List Rl->List E3->Option (List E3)
 |n,R,a=>match ZAy R a with
  |none=>some a
  |some b=>match n with
   |0=>none
   |n+1=>ledN n R b
theorem ZBG {n:Nat}{R:List Rl}{a:List E3}(h:ZAy R a=none):ledN n R a=some a:=by
 cases n<;>(unfold ledN;rw[h])
theorem ZDE {R:List Rl}{a b:List E3}(h:ZAy R a=some b):ledN 0 R a=none:=by unfold ledN;rw[h]
theorem ZDF {n:Nat}{R:List Rl}{a b:List E3}(h:ZAy R a=some b):ledN (n+1) R a=ledN n R b:=by
 rw[ledN]
 rw[h]
end Mi
namespace L2
open PySem PySem.Spec PyProof.Rows
section
variable {X:Cx}{tg:FD}
inductive ZN6 (K:AB)(R:It->Hp->Prop)(x:V)(H1:Hp):Prop
 |mk:∀a,(x= .ref a)->((((∃xs,SqL K H1 a xs)/\R (Itl K a) H1)\/((∃xs,SqT K H1 a xs)/\R (Itt K a) H1)))->ZN6 K R x H1
def iSeq (K:AB)(tl:TE):TI:=λZ H R=>tl Z H λx H1=>ZN6 K R x H1
theorem ZNV {l:FD}{tl:TE}(hl:PE X l tl):PI X tg l (iSeq X.K tl):=by
 intro pins s Z H R I h
 refine thn (hl pins s Z H _ I h) λv s1 ⟨x,H1,I1,r1,q1⟩=>?_
 obtain⟨a,e,q1⟩:=q1
 subst e
 cases r1
 rcases q1 with⟨⟨xs,hq⟩,q⟩|⟨⟨xs,hq⟩,q⟩
 ·obtain⟨its,rv,p,hz⟩:=I1.list hq
  refine Fo p.isList ?_
  refine⟨s1.heap.objs.size,[s1.heap.objs.size],_,_,H1,rfl,I1.kept (t':=s1.toks) λb o e=>AC _ e,ZGb a _,⟨_,AN _ rfl,rfl,rfl⟩,λb hb=>?_,q⟩
  have e:b=s1.heap.objs.size:=by simpa using hb
  subst e
  exact I1.fpOk (AK _) (I1.hok.fresh (AK _))
 ·obtain⟨its,rv,p,hz⟩:=I1.tuple hq
  refine GA (show s1.heap.IsTuple a its.toArray from p) ?_
  refine⟨s1.heap.objs.size,[s1.heap.objs.size],_,_,H1,rfl,I1.kept (t':=s1.toks) λb o e=>AC _ e,ZE5 a _,⟨_,AN _ rfl,rfl,rfl⟩,λb hb=>?_,q⟩
  have e:b=s1.heap.objs.size:=by simpa using hb
  subst e
  exact I1.fpOk (AK _) (I1.hok.fresh (AK _))
end
end L2
namespace Co
open PySem L2 Mi
theorem ZBM {α:Type}{J:It}{rs:List α}(gv:α->V){tt:TT}{te:TE}{fr:St}{H1:Hp}{QD:Hp->Prop}(f:α->V)(p:α->Bool)(D:Ez)(hD:H1 D=none)(T:Tells J H1 (rs.map gv))(hz:rs.length<sizeLine)
  (ht:∀r H R,r∈rs->Same H1 H->(∀H',Same H H'->R (p r) H')->tt (some (gv r)::fr) H R)
  (he:∀r H R,r∈rs->p r=true->Same H1 H->(∀H',Same H H'->R (f r) H')->te (some (gv r)::fr) H R)
  (hd:∀H',Same H1 H'->H' D=some (.lst ((rs.filter p).map f))->QD H'):
  ∃W:Nat->Nat->List V->Hp->Prop,(∃m,W 0 m [] (upd H1 D (.lst [])))/\∀i m ys H2,W i m ys H2->H2 D=some (.lst ys)/\
   ((J.stop i H2/\QD H2)\/(J.go i H2/\∀x H3,J.yld i H2 x H3->∀pre:St,pre.length=1->ZBg 0 x (pre++fr) H3 λZ4 H4=>(∃pre':St,pre'.length=1/\Z4=pre'++fr)/\
    tt Z4 H4 λb H5=>if b=true then te Z4 H5 (λy H6=>H6 D=some (.lst ys)/\ys.length<sizeLine/\∃m',m'<m/\W (i+1) m' (ys++ [y]) (upd H6 D (.lst (ys++ [y])))) else∃m',m'<m/\W (i+1) m' ys H5)):=by
 refine⟨λi m ys H2=>m=rs.length-i/\i<=rs.length/\ys=((rs.take i).filter p).map f/\H2 D=some (.lst ys)/\Same H1 H2,⟨rs.length,by simp,Aq _,by simp,ZAB,Same.new hD _⟩,?_⟩
 rintro i m ys H2 ⟨rfl,hi,rfl,hD2,sm⟩
 refine⟨hD2,?_⟩
 by_cases hlt:i<rs.length
 ·refine .inr ⟨T.go H2 i sm (by rw[AA];exact hlt),λx H3 y pre hpre=>?_⟩
  obtain⟨rfl,hx⟩:=T.yld H2 i x H3 sm y
  rw[AS,AG hlt] at hx
  cases hx
  have hm:rs[i]∈rs:=BJ hlt
  obtain⟨a0,rfl⟩:∃a0,pre= [a0]:=by
   cases pre with
   |nil=>simp at hpre
   |cons a0 r=>cases r with
    |nil=>exact⟨a0,rfl⟩
    |cons _ _=>simp at hpre
  refine⟨⟨[some (gv rs[i])],rfl,rfl⟩,?_⟩
  have htk:(rs.take (i+1)).filter p=(rs.take i).filter p++(if p rs[i]=true then[rs[i]] else[]):=by
   rw[BG,AG hlt,Cb]
   cases hp:p rs[i]<;>simp[hp]
  refine ht rs[i] H3 _ hm sm λH5 s5=>?_
  cases hp:p rs[i] with
  |false=>
   rw[hp,if_neg AM,A5] at htk
   exact iteF ⟨rs.length-(i+1),by lia,rfl,hlt,by rw[htk],s5 _ _ hD2,sm.trans s5⟩
  |true=>
   rw[hp,if_pos rfl] at htk
   refine iteT (he rs[i] H5 _ hm hp (sm.trans s5) λH6 s6=>?_)
   have hl:(((rs.take i).filter p).map f).length<=i:=by
    rw[AA]
    refine As (Ap _ _) ?_
    rw[Ax];lia
   refine⟨s6 _ _ (s5 _ _ hD2),by lia,rs.length-(i+1),by lia,rfl,hlt,?_,ZAB,?_⟩
   ·rw[htk,AX];rfl
   ·intro b o e
    have hb:b≠D:=ZAJ e hD
    rw[ZAN hb]
    exact s6 _ _ (s5 _ _ (sm _ _ e))
 ·have e:i=rs.length:=by lia
  subst e
  rw[Bd] at hD2
  have hst:=T.stop H2 sm
  rw[AA] at hst
  exact .inl ⟨hst,hd H2 sm hD2⟩
abbrev TupA (H:Hp)(a:Ez)(u:List E3):Prop:=H a=some (.tup (u.map V.str))
abbrev Rx:=Ez×Ez×Ez×Rl
def RlH (H:Hp)(x:Rx):Prop:=H x.1=some (.tup [.ref x.2.1,.ref x.2.2.1])/\TupA H x.2.1 x.2.2.2.1/\TupA H x.2.2.1 x.2.2.2.2
theorem RlH.ts {H H':Hp}{x:Rx}(h:RlH H x)(s:TS' H H'):RlH H' x:=⟨s _ _ h.1,s _ _ h.2.1,s _ _ h.2.2⟩
def ZE1 (H:Hp)(rs:List Rx):Prop:=∀x∈rs,RlH H x
theorem ZE1.ts {H H':Hp}{rs:List Rx}(h:ZE1 H rs)(s:TS' H H'):ZE1 H' rs:=λx hx=>(h x hx).ts s
abbrev ZJe (rs:List Rx):List V:=rs.map λx=>V.ref x.1
inductive ZEs (H:Hp)(p:Ez)(R:List Rl):Prop
 |mk:∀(rs:List Rx),(H p=some (.tup (ZJe rs)))->(ZE1 H rs)->(rs.map (·.2.2.2)=R)->ZEs H p R
def ZIS (H:Hp)(p:Ez)(rs:List Rx):Prop:=H p=some (.tup (ZJe rs))\/H p=some (.lst (ZJe rs))
theorem ZEs.ts {H H':Hp}{p:Ez}{R:List Rl}(h:ZEs H p R)(s:TS' H H'):ZEs H' p R:=by
 obtain⟨rs,h1,h2,h3⟩:=h
 exact⟨rs,s _ _ h1,h2.ts s,h3⟩
theorem ZIS.same {H H':Hp}{p:Ez}{rs:List Rx}(h:ZIS H p rs)(s:Same H H'):ZIS H' p rs:=h.elim (λh=> .inl (s _ _ h)) λh=> .inr (s _ _ h)
theorem ZFT (rs:List Rx)(p:Rl->Bool):(rs.filter λr=>p r.2.2.2).map (·.2.2.2)=(rs.map (·.2.2.2)).filter p:=by
 rw[Bb]
 rfl
theorem ZO7 (u:List E3)(k:Nat):cutV (u.map V.str) none (some (k:Int))=(u.take k).map V.str:=by rw[ZLf,CU]
theorem ZLg (u:List E3)(k:Nat):cutV (u.map V.str) (some (k:Int)) none=(u.drop k).map V.str:=by rw[ZEH,CD]
theorem ZC1 {K:AB}{a t:Ez}{ns:List Int}{zs:List V}{n:Nat}{te:TE}{H1:Hp}{QD:Hp->Prop}(L:List E3)(D:Ez)(hD:H1 D=none)(hS:Scr K H1 a ns)(hT:H1 t=some (.lst zs))(hn:n<=100)(hz:zs.length+n<50000)
  (hte:∀x H (R:VK) zs',Scr K H a ns->H t=some (.lst zs')->zs'.length<50000->(∀z H',z∈L->H' t=some (.lst (zs'++ [.int 0]))->Stp t H H'->R (.str z) H')->te (some x:: [some (.ref a),some (.ref t)]) H R)
  (hd:∀(ts:List E3) (zs':List V) H',ts.length=n->(∀z∈ts,z∈L)->H' t=some (.lst zs')->zs'.length=zs.length+n->Stp t H1 H'->H' D=some (.lst (ts.map V.str))->QD H'):
  ∃W:Nat->Nat->List V->Hp->Prop,(∃m,W 0 m [] (upd H1 D (.lst [])))/\∀i m ys H2,W i m ys H2->H2 D=some (.lst ys)/\
   (((Itr 0 n).stop i H2/\QD H2)\/((Itr 0 n).go i H2/\∀x H3,(Itr 0 n).yld i H2 x H3->∀pre:St,pre.length=1->ZBg 0 x (pre++ [some (.ref a),some (.ref t)]) H3 λZ4 H4=>(∃pre':St,pre'.length=1/\Z4=pre'++ [some (.ref a),some (.ref t)])/\
    ZC3 Z4 H4 λb H5=>if b=true then te Z4 H5 (λy H6=>H6 D=some (.lst ys)/\ys.length<sizeLine/\∃m',m'<m/\W (i+1) m' (ys++ [y]) (upd H6 D (.lst (ys++ [y])))) else∃m',m'<m/\W (i+1) m' ys H5)):=by
 have hDt:D≠t:=(ZAJ hT hD).symm
 refine ZLh (J:=Itr 0 n) (n:=n) (fr:= [some (.ref a),some (.ref t)]) D (λ_ _=>True)
  (λj ys H'=>∃(ts:List E3) (zs':List V),ys=ts.map V.str/\ts.length=j/\(∀z∈ts,z∈L)/\H' t=some (.lst zs')/\zs'.length=zs.length+j/\Stp t H1 H') (bigl _ (by lia))
  (λi H' h=>h) (λi H' x H'' _ y=>⟨y.1,trivial⟩) (λH'=>AK _)
  ⟨[],zs,rfl,rfl,(λz hz=>by cases hz),by rw[ZAN hDt.symm];exact hT,rfl,(Same.new hD _).stp⟩ ?_ ?_
 ·rintro j x ys H2 R hj _ ⟨ts,zs',rfl,hl,hL,hT2,hl2,st2⟩ hD2 hR
  refine hte x H2 _ zs' (hS.stp hT st2) hT2 (by lia) λz H3 hz hT3 st3=>?_
  refine hR _ _ (st3 _ _ hDt hD2) ⟨ts++ [z],_,by rw[AX];rfl,by rw[AW,hl];rfl,λy hy=>?_,by rw[ZAN hDt.symm];exact hT3,by rw[AW,hl2];rfl,λb o hb e=>?_⟩
  ·rcases AY.mp hy with hy|hy
   ·exact hL y hy
   ·rw[AF.mp hy];exact hz
  ·rw[ZAN (ZAJ e hD)]
   exact(st2.trans st3) b o hb e
 ·rintro ys H2 ⟨ts,zs',rfl,hl,hL,hT2,hl2,st2⟩ hD2
  exact hd ts zs' H2 hl hL hT2 hl2 st2 hD2
end Co
namespace RI
open PySem PySem.Spec PyProof.Rows
abbrev It (h:E9)(it d:Ez)(x0:E2)(f:Bool)(i n ep:Nat)(ok ov:E2):Prop:=h.get? it=some {cls:= .type "dict_itemiterator",dict:=none,data:= .fields #[x0,.bool f,.ref d,.int i 0,.int n 0,.int ep 0,ok,ov],slots:=#[]}
inductive St (h:E9)(it d S:Ez)(i n ep:Nat):Prop
 |mk:∀x0 f ok ov,(It h it d x0 f i n ep ok ov)->(((x0= .none/\f=false)\/∃(a:Ez) (oa:FF),x0=FO a/\h.get? a=some oa/\a≠it/\a≠S))->St h it d S i n ep
theorem St.keep {h h':E9}{it d S:Ez}{i n ep:Nat}(x:St h it d S i n ep)(hk:∀b o,b≠S->h.get? b=some o->h'.get? b=some o)(hI:it≠S):St h' it d S i n ep:=by
 obtain⟨x0,f,ok,ov,hit,hx⟩:=x
 refine⟨x0,f,ok,ov,hk _ _ hI hit,?_⟩
 rcases hx with hx|⟨a,oa,e,ha,h1,h2⟩
 ·exact .inl hx
 ·exact .inr ⟨a,oa,e,hk _ _ h2 ha,h1,h2⟩
section
variable {prog:E7}{w:FA}{A:FC}{E:E2->E4->Prop}{s:E4}
abbrev pr (e:FZ):FF:={cls:= .type "tuple",data:= .seq #[e.key,e.val]}
theorem item {it d S:Ez}{i ep:Nat}{od:FF}{es:Array FZ}{Q:Option E2->E4->Prop}(hst:St s.heap it d S i es.size ep)(hS:S<s.heap.objs.size)(hod:s.heap.get? d=some od)(hdd:od.data= .dict es ep)(hlt:i<es.size)
  (hQ:∀h',St h' it d S (i+1) es.size ep->h'.get? s.heap.objs.size=some (pr es[i])->h'.objs.size=s.heap.objs.size+1->(∀b o,b≠it->s.heap.get? b=some o->h'.get? b=some o)->Q (some (.ref s.heap.objs.size)) {s with heap:=h'}):
  E6 (model prog w) A (FY (.ref it)) Q E s:=by
 obtain⟨x0,f,ok,ov,hit,hx0⟩:=hst
 obtain⟨hp,g,dr,tk,os⟩:=s
 have T0:Shared.TypeIs ⟨hp,g,dr,tk,os⟩ (.ref it) "dict_itemiterator":=⟨_,hit,rfl⟩
 unfold FY;refine Ey (GI (FW (name:=A2 "__next__") T0 Br (FQ Br T0 EF ?_ (EA _))))
 refine Ey (E5 (Ey (Ey ?_)));first|refine Ey (Fm T0 (E5 ?_))|refine Ey (Fv T0 (E5 ?_))
 refine Ey (Gb hit rfl ?_);have own1:Bi "dict_itemiterator"=true:=by decide
 simp only[own1,if_true];show E6 _ _ (if(Ab d==At)=true then _ else _) _ _ _;rw[if_neg (show¬((Ab d==At)=true) from AM)]
 refine Ey (E5 (Ey (Fu hod hdd ?_)));rw[if_neg (by simp)]
 refine Ey (E5 (Ey (GC hod hdd ?_)));rw[if_neg (by simp)];refine E5 ?_
 simp only[show¬((i:Int)<0) from by lia,if_false,Bu,BV hlt]
 refine Ey ?_;first|refine Ey (Fm T0 (E5 ?_))|refine Ey (Fv T0 (E5 ?_))
 refine Ey (GQ T0 ?_);show E6 _ _ (setField (.ref it) 3 (FO ((i:Int)+1)) >>= _) _ _ ⟨hp,g,dr,tk,os⟩
 refine Ey (FT hit (by simp) λh1 he1 hs1=>?_);replace hs1:Heap.SameBut it hp h1:=hs1
 replace he1:It h1 it d x0 f (i+1) es.size ep ok ov:=by
  have e:((i+1:Nat):Int)=(i:Int)+1:=by lia
  unfold It;rw[e];simpa[FO] using he1
 have T1:Shared.TypeIs ⟨h1,g,dr,tk,os⟩ (.ref it) "dict_itemiterator":=⟨_,he1,rfl⟩
 refine Ey (FK (Ey (GQ T1 (Ey (GQ T1 ?_)))))
 show E6 _ _ (DI (.ref it) 6 es[i].key es[i].val) _ _ ⟨h1,g,dr,tk,os⟩;unfold DI
 refine Ey (Ga ?_);have he2:It (h1.push (pr es[i])) it d x0 f (i+1) es.size ep ok ov:=AC _ he1
 generalize hh2:h1.push {cls:= .type "tuple",data:= .seq #[es[i].key,es[i].val]}=h2 at he2
 have hz1:h1.objs.size=hp.objs.size:=hs1.1
 have hil:it<hp.objs.size:=AI hit
 have ht2:h2.get? hp.objs.size=some (pr es[i]):=by rw[<-hh2,<-hz1];exact AN _ rfl
 have hz2:h2.objs.size=hp.objs.size+1:=by rw[<-hh2,BE,hz1]
 have hk2:∀b o,b≠it->hp.get? b=some o->h2.get? b=some o:=λb o hb e=>by rw[<-hh2];exact AC _ (hs1.extBut b o hb e)
 show E6 _ _ (DB (.ref it) >>= _) _ _ ⟨h2,g,dr,tk,os⟩
 rw[hz1];clear hh2 he1 hs1 T1 hz1 h1
 refine Ey ?_;unfold DB
 rcases hx0 with⟨rfl,rfl⟩|⟨a,oa,rfl,ha,hai,haS⟩
 ·refine Ey (FM he2 rfl (x:= .none) rfl (E5 ?_));simp only[if_true]
  refine Ey (FM he2 rfl (x:=ok) rfl (Ey (FM he2 rfl (x:=ov) rfl ?_)))
  refine Ey (FT he2 (by simp) λh3 he3 hs3=>?_);replace hs3:Heap.SameBut it h2 h3:=hs3
  replace he3:It h3 it d .none false (i+1) es.size ep es[i].key ov:=he3
  refine Ey (FT he3 (by simp) λh4 he4 hs4=>?_);replace hs4:Heap.SameBut it h3 h4:=hs4
  replace he4:It h4 it d .none false (i+1) es.size ep es[i].key es[i].val:=he4
  refine Ey (FT he4 (by simp) λh5 he5 hs5=>?_);replace hs5:Heap.SameBut it h4 h5:=hs5
  replace he5:It h5 it d (FO hp.objs.size) false (i+1) es.size ep es[i].key es[i].val:=he5
  refine Ey (FT he5 (by simp) λh6 he6 hs6=>?_);replace hs6:Heap.SameBut it h5 h6:=hs6
  replace he6:It h6 it d (FO hp.objs.size) false (i+1) es.size ep es[i].key es[i].val:=he6
  have up:∀b o,b≠it->h2.get? b=some o->h6.get? b=some o:=λb o hb e=>hs6.extBut b o hb (hs5.extBut b o hb (hs4.extBut b o hb (hs3.extBut b o hb e)))
  have ht6:=up _ _ (A4 hil) ht2
  exact Ey (Fl (E5 (E5 ⟨_,rfl,E5 (hQ h6 ⟨_,_,_,_,he6,.inr ⟨_,_,rfl,ht6,A4 hil,A4 hS⟩⟩ ht6 (by show h6.objs.size=_;rw[hs6.1,hs5.1,hs4.1,hs3.1,hz2]) λb o hb e=>up b o hb (hk2 b o hb e))⟩)))
 ·have ha2:h2.get? a=some oa:=hk2 a oa hai ha
  refine Ey (FM he2 rfl (x:=FO a) rfl ?_);show E6 _ _ (loadIfAlive ((a:Int).toNat) >>= _) _ _ _;rw[Bu]
  refine Ey (Dp ha2 ?_);simp only[Dk,Am,if_false];refine Ey (FM he2 rfl (x:= .bool f) rfl ?_)
  have fin:∀h3:E9,It h3 it d (FO a) true (i+1) es.size ep ok ov->Heap.SameBut it h2 h3->Q (some (.ref hp.objs.size)) ⟨h3,g,dr,tk,os⟩:=λh3 he3 hs3=>
   hQ h3 ⟨_,_,_,_,he3,.inr ⟨a,oa,rfl,hs3.extBut _ _ hai ha2,hai,haS⟩⟩ (hs3.extBut _ _ (A4 hil) ht2) (by show h3.objs.size=hp.objs.size+1;rw[hs3.1,hz2]) λb o hb e=>hs3.extBut b o hb (hk2 b o hb e)
  cases f with
  |true=>rw[if_neg (show¬((Bc true !=Bc true)=true) from AM)];refine E5 ?_;simp only[Am,if_false];exact E5 (E5 ⟨_,rfl,E5 (fin h2 he2 (C4 _ _))⟩)
  |false=>
   rw[if_pos (show(Bc false !=Bc true)=true from rfl)];refine Ey (FT he2 (by simp) λh3 he3 hs3=>?_)
   replace hs3:Heap.SameBut it h2 h3:=hs3
   replace he3:It h3 it d (FO a) true (i+1) es.size ep ok ov:=he3
   refine E5 ?_;simp only[Am,if_false];exact E5 (E5 ⟨_,rfl,E5 (fin h3 he3 hs3)⟩)
theorem done {it d S:Ez}{i ep:Nat}{od:FF}{es:Array FZ}{Q:Option E2->E4->Prop}(hh:A.handled=none)(hst:St s.heap it d S i es.size ep)(hod:s.heap.get? d=some od)(hdd:od.data= .dict es ep)(hge:es.size<=i)
  (hQ:∀h',Heap.ExtBut it s.heap h'->Q none {s with heap:=h'}):E6 (model prog w) A (FY (.ref it)) Q E s:=by
 obtain⟨x0,f,ok,ov,hit,_⟩:=hst
 have T0:s.TypeIs (.ref it) "dict_itemiterator":=⟨_,hit,rfl⟩
 unfold FY;refine Ey (GI (FW (name:=A2 "__next__") T0 Br (FQ Br T0 EF ?_ (EA _))))
 refine Ey (E5 (Ey (Ey ?_)));first|refine Ey (Fm T0 (E5 ?_))|refine Ey (Fv T0 (E5 ?_))
 refine Ey (Gb hit rfl ?_);have own1:Bi "dict_itemiterator"=true:=by decide
 simp only[own1,if_true];show E6 _ _ (if(Ab d==At)=true then _ else _) _ _ s;rw[if_neg (show¬((Ab d==At)=true) from AM)]
 refine Ey (E5 (Ey (Fu hod hdd ?_)));rw[if_neg (by simp)]
 refine Ey (E5 (Ey (GC hod hdd ?_)));rw[if_neg (by simp)];refine E5 ?_
 simp only[show¬((i:Int)<0) from by lia,if_false,Bu,Ci hge]
 refine Ey ?_;first|refine Ey (Fm T0 (E5 ?_))|refine Ey (Fv T0 (E5 ?_))
 show E6 _ _ (setField (.ref it) 2 .none >>= _) _ _ s;refine Ey (Fw hit rfl (by simp) ?_)
 show E6 _ _ (newExc (.type "StopIteration") [] >>= _) _ _ _;refine Ey ?_;simp only[newExc,newTuple];refine Ey (FH ?_ (by size_fits))
 refine Ey (m:=firstArgMember _ _) (Gp (a:=At) (by first|rfl|(simp only[firstArgMember];rfl)) (FH ?_ (by size_fits)));simp only[raiseNew]
 refine Ey (wpAny_handled ?_);rw[show A.in1.handled=none from hh];refine Ey (E5 (wpAny_throw ?_))
 refine Ey (Fz (T:="StopIteration") (b:=true) ⟨_,AN _ rfl,rfl⟩ Gx ?_);exact E5 (hQ _ (((BS ..).extBut.push _).push _))
structure G (es:Array FZ)(lo:Ez)(h:E9)(as:List Ez):Prop where
 rise:as.Pairwise (·<·)
 above:∀a∈as,lo<a
 pairs:∀(j:Nat) (a:Ez),as[j]?=some a->∃e,es[j]?=some e/\h.get? a=some (pr e)
theorem loop {R:Result->E4->Prop}{S I d:Ez}{od:FF}{es:Array FZ}{ep:Nat}(hh:A.handled=none)(hSI:S<I)(hSd:d≠S)(hId:d≠I)(hdd:od.data= .dict es ep)(hn:es.size<=sizeLine)(res:E2){h1:E9}
  (hR:∀h' tk acc c as,(∀b o,b≠S->b≠I->h1.get? b=some o->h'.get? b=some o)->h'.get? S=some {cls:= .type "list",dict:=none,data:= .seq acc c,slots:=#[]}->as.length=es.size->G es I h' as->acc.toList=as.map Ab->R (.ok (.ret res)) {s with heap:=h',toks:=tk}):
  ∀(k i:Nat) (h:E9) (tk c:Nat) (acc:Array E2) (as:List Ez),es.size-i=k->i<=es.size->St h I d S i es.size ep->h.get? d=some od->(∀b o,b≠S->b≠I->h1.get? b=some o->h.get? b=some o)->
   h.get? S=some {cls:= .type "list",dict:=none,data:= .seq acc c,slots:=#[]}->acc.toList=as.map Ab->as.length=i->G es I h as->I<h.objs.size->Fj (model prog w) A (.builtin "list.extend.loop" ⟨[.ref S,.ref I,res],[]⟩) R {s with heap:=h,toks:=tk}:=by
 have hne:S≠I:=AV hSI
 intro k
 induction k with
 |zero=>
  intro i h tk c acc as hk hi hst hD hkeep hS hacc hal hG hIs
  refine FI F.entry_extend_loop ?_;rw[An CW _];show E6 _ A.in1 (FY (.ref I) >>= _) _ _ _
  refine Ey (done (s:={s with heap:=h,toks:=tk}) (A:=A.in1) hh hst hD hdd (by lia) λh' he=>E5 (hR h' tk acc c as (λb o e1 e2 e=>he b o e2 (hkeep b o e1 e2 e)) (he S _ hne hS) (by lia) ⟨hG.rise,hG.above,λj a hj=>?_⟩ hacc))
  obtain⟨e,e1,e3⟩:=hG.pairs j a hj
  exact⟨e,e1,he a _ (A4 (hG.above a (Az hj))) e3⟩
 |succ k ih=>
  intro i h tk c acc as hk hi hst hD hkeep hS hacc hal hG hIs
  have hlt:i<es.size:=by lia
  have hsz:acc.size=i:=by rw[<-Au,hacc,AA,hal]
  have hSl:S<h.objs.size:=AI hS
  refine FI F.entry_extend_loop ?_;rw[An CW _];show E6 _ A.in1 (FY (.ref I) >>= _) _ _ _
  refine Ey (item (s:={s with heap:=h,toks:=tk}) (S:=S) hst hSl hD hdd hlt λh' hst' ht hz hkp=>?_);dsimp only at ht hz hkp ⊢
  have hS':=hkp S _ hne hS
  have up:∀b o,b≠S->h'.get? b=some o->(h'.update S (BF (·.push (Ab h.objs.size)))).get? b=some o:=λb o hb e=>(Ar _ _ (A9 hb)).trans e
  show E6 _ A.in1 (updateSeq S (·.push (Ab h.objs.size)) >>= _) _ _ _;refine Ey ?_
  refine Fi hS' rfl (E5 ⟨FN CW _,ih (i+1) _ tk _ (acc.push (Ab h.objs.size)) (as++ [h.objs.size]) (by lia) hlt (hst'.keep up (A9 hne)) (up d _ hSd (hkp d _ hId hD))
   (λb o e1 e2 e=>up b o e1 (hkp b o e2 (hkeep b o e1 e2 e))) (BP _ hS' rfl) (by rw[Array.toList_push,hacc,AX];rfl) (by rw[AW,hal];rfl) ⟨?_,?_,?_⟩ ?_⟩) (by rw[hsz];lia) (by show(acc.push (Ab h.objs.size)).size<=sizeLine+1;rw[Array.size_push,hsz];lia)
  ·refine List.pairwise_append.mpr ⟨hG.rise,EX _ _,λa ha b hb=>?_⟩;rw[AF.mp hb]
   obtain⟨j,hj⟩:=Cq.mp ha
   obtain⟨_,_,e⟩:=hG.pairs j a hj
   exact AI e
  ·exactλa ha=>(AY.mp ha).elim (hG.above a) λha=>by rw[AF.mp ha];exact hIs
  ·intro j b hj
   rcases Nat.lt_trichotomy j as.length with z|z|z
   ·rw[CP z] at hj
    obtain⟨e,e1,e3⟩:=hG.pairs j b hj
    have hb:=hG.above b (Az hj)
    exact⟨e,e1,up b _ (A4 (B4 hSI hb)) (hkp b _ (A4 hb) e3)⟩
   ·subst z
    obtain rfl:h.objs.size=b:=by simpa using hj
    exact⟨es[i],by rw[hal];exact BV hlt,up _ _ (A4 hSl) ht⟩
   ·rw[BO (by rw[AW,Ai];lia)] at hj;cases hj
  ·have e:(h'.update S (BF (·.push (Ab h.objs.size)))).get? h.objs.size=_:=up _ _ (A4 hSl) ht
   exact B4 hIs (AI e)
theorem iter {v d:Ez}{od:FF}{es:Array FZ}{ep:Nat}{Q:E2->E4->Prop}(hv:s.heap.IsItemsView v d)(hod:s.heap.get? d=some od)(hdd:od.data= .dict es ep)
  (hQ:Q (.ref s.heap.objs.size) {s with heap:=s.heap.push {cls:= .type "dict_itemiterator",data:= .fields #[.none,.bool false,.ref d,.int 0 0,.int es.size 0,.int ep 0,.none,.none]}}):E6 (model prog w) A (pyIter (.ref v)) Q E s:=by
 obtain⟨ov,hov,_,hdv⟩:=id hv
 refine Gf hv.typeIs El (FQ El hv.typeIs F.entry_dict_items_iter ?_ (F.args_dict_items_iter_1 _));unfold Builtin.«dict_items.__iter__»
 refine Ey (E5 (Ey ?_));unfold Builtin.Dict_items.dictOf;refine Ey (FM hov hdv (x:= .ref d) rfl (E5 (Ey ?_)))
 unfold Builtin.Dict_items.newIterator;refine Ey (Fu hod hdd (Ey (GC hod hdd ?_)))
 have own1:Bi "dict_itemiterator"=true:=by decide
 simp only[own1,if_true]
 refine FH (E5 ⟨_,rfl,"dict_itemiterator",_,⟨_,AN _ rfl,rfl⟩,Br.lookup,?_⟩) (by simp only[sizeOk,DC,AO,AW,Ac,Bj,FP];lia)
 simpa[FO,DC] using hQ
theorem extend {R:Result->E4->Prop}{r d:Ez}{od:FF}{es:Array FZ}{ep:Nat}(hh:A.handled=none)(hv:s.heap.IsItemsView r d)(hod:s.heap.get? d=some od)(hdd:od.data= .dict es ep)(S:Ez)(hSr:S≠r)(hSd:d≠S)(res:E2)(c0:Nat)(hS:s.heap.get? S=some {cls:= .type "list",data:= .seq #[] c0})
  (hR:∀h' tk acc c as,(∀b o,b≠S->s.heap.get? b=some o->h'.get? b=some o)->h'.get? S=some {cls:= .type "list",dict:=none,data:= .seq acc c,slots:=#[]}->as.length=es.size->G es s.heap.objs.size h' as->acc.toList=as.map Ab->R (.ok (.ret res)) {s with heap:=h',toks:=tk}) (hn:es.size<=sizeLine):
  E6 (model prog w) A.in1 (Bq (.ref S) (.ref r) res) (λfin s'=>match fin with| .done f=>R (.ok f) s'| .again c'=>c'.quiet=true/\Fj (model prog w) A c' R s') (λe s'=>R (.error e) s') s:=by
 have hSI:S<s.heap.objs.size:=AI hS
 have hdI:d<s.heap.objs.size:=AI hod
 have key:∀(h:E9) (c1 tk:Nat),(∀b o,b≠S->(s.heap.push {cls:= .type "dict_itemiterator",data:= .fields #[.none,.bool false,.ref d,.int 0 0,.int es.size 0,.int ep 0,.none,.none]}).get? b=some o->h.get? b=some o)->
   h.get? S=some {cls:= .type "list",data:= .seq #[] c1}->Fj (model prog w) A (.builtin "list.extend.loop" ⟨[.ref S,.ref s.heap.objs.size,res],[]⟩) R {s with heap:=h,toks:=tk}:=by
  intro h c1 tk hk hS1
  have hI:=hk s.heap.objs.size _ (A4 hSI) (AN _ rfl)
  exact loop (s:=s) (h1:=s.heap) hh hSI hSd (AV hdI) hdd hn res (λh' tk' acc c as hk' hS' hl hG hacc=>hR h' tk' acc c as (λb o hb e=>hk' b o hb (AV (AI e)) e) hS' hl hG hacc)
   es.size 0 h tk c1 #[] [] (Nat.sub_zero _) (Aq _) ⟨.none,false,.none,.none,hI,.inl ⟨rfl,rfl⟩⟩ (hk d _ hSd (AC _ hod)) (λb o hb _ e=>hk b o hb (AC _ e)) hS1 rfl rfl ⟨DY,(λ_ ha=>nomatch ha),(λj a hj=>by simp at hj)⟩ (AI hI)
 unfold Bq;refine Ey (Fb (T:="dict_items") hv.typeIs ?_)
 have e1:Du (.ref S) (.ref r)=false:=by simp[Du,hSr]
 have e2:(BQ "dict_items"==BQ "list")=false:=by decide
 have e3:(BQ "dict_items"==BQ "tuple")=false:=by decide
 simp only[e1,e2,e3,Bool.or_false,Am,if_false];refine Ey (iter hv hod hdd ?_)
 have hS1:=AC {cls:= .type "dict_itemiterator",data:= .fields #[.none,.bool false,.ref d,.int 0 0,.int es.size 0,.int ep 0,.none,.none]} hS
 refine Ey (FK (PySem.W.kdx_hint (let⟨o,ho,hc,_⟩:=hv;⟨o,AC _ ho,hc⟩) ?_))
 refine wpAny_ite_split (λ_=>?_) (λ_=>E5 ⟨FN CW _,key _ c0 _ (λb o _ e=>e) hS1⟩)
 refine Ey (Fe (Ey ?_));show E6 _ _ (updateSeq S (·.push .none) >>= λ_=>updateSeq S (·.pop)) _ _ _;refine Ey (Fi hS1 rfl ?_)
 have hS2:=BP (BF (·.push At)) hS1 rfl
 refine Fi (hz:=by seq_fits) hS2 rfl (E5 ⟨FN CW _,key _ _ _ (λb o hb e=>(Ar _ _ (A9 hb)).trans ((Ar _ _ (A9 hb)).trans e)) (BP (BF (·.pop)) hS2 rfl)⟩)
theorem ZNG {R:List E2->E4->Prop}{r d:Ez}{od:FF}{es:Array FZ}{ep:Nat}(hh:A.handled=none)(hv:s.heap.IsItemsView r d)(hod:s.heap.get? d=some od)(hdd:od.data= .dict es ep)(hn:es.size<=sizeLine)
  (h:∀(h':E9) (tk:Nat) (as:List Ez),(∀b o,s.heap.get? b=some o->h'.get? b=some o)->as.length=es.size->G es s.heap.objs.size h' as->R (as.map Ab) {s with heap:=h',toks:=tk}):E6 (model prog w) A (collect (.ref r)) R E s:=by
 have hr:r<s.heap.objs.size:=let⟨_,ho,_⟩:=hv;AI ho
 unfold collect;refine Ey (Gv (FI F.entry_proto_collect ?_));rw[An F.plain_proto_collect _]
 show E6 _ A.in1 (newList [] >>= λl=>again (.builtin "list.__iadd__" ⟨[l,.ref r],[]⟩)) _ _ s;refine Ey (FH (E5 ⟨FN F.plain_list_iadd _,FI F.entry_list_iadd ?_⟩))
 rw[An F.plain_list_iadd _]
 have hS1:(s.heap.push {cls:= .type "list",data:= .seq ([]:List E2).toArray}).get? s.heap.objs.size=some {cls:= .type "list",data:= .seq #[]}:=AN _ rfl
 show E6 _ A.in1 (Bq (.ref s.heap.objs.size) (.ref r) (.ref s.heap.objs.size)) _ _ _
 have key:=extend (A:=A) (prog:=prog) (w:=w) (s:={s with heap:=s.heap.push {cls:= .type "list",data:= .seq ([]:List E2).toArray}}) (es:=es) (ep:=ep) (od:=od)
  (R:=λ(q:Result) (s':E4)=>∃(h':E9) (tk:Nat) (acc':Array E2) (c':Nat) (as:List Ez),q= .ok (.ret (.ref s.heap.objs.size))/\s'={s with heap:=h',toks:=tk}/\(∀b o,s.heap.get? b=some o->h'.get? b=some o)/\
   h'.get? s.heap.objs.size=some {cls:= .type "list",dict:=none,data:= .seq acc' c',slots:=#[]}/\as.length=es.size/\G es s.heap.objs.size h' as/\acc'.toList=as.map Ab)
  hh (let⟨o,ho,x⟩:=hv;⟨o,AC _ ho,x⟩) (AC _ hod) hdd s.heap.objs.size (A4 hr) (AV (AI hod)) (.ref s.heap.objs.size) 0 hS1
  (λh' tk acc' c' as hk hS' hl hG hacc=>⟨h',tk,acc',c',as,rfl,rfl,(λb o e=>hk b o (AV (AI e)) (AC _ e)),hS',hl,⟨hG.rise,(λa ha=>B4 (by show s.heap.objs.size<(s.heap.push _).objs.size;rw[BE];exact Bm _) (hG.above a ha)),hG.pairs⟩,hacc⟩) hn
 refine FE key (λfin s' x=>?_) λe s' x=>by obtain⟨_,_,_,_,_,e',_⟩:=x;cases e'
 cases fin with
 |done f=>
  obtain⟨h',tk,acc',c',as,e,rfl,hk,hS',hl,hG,hacc⟩:=x
  cases e
  show E6 _ A (load s.heap.objs.size >>= _) _ _ _;refine Ey (GL hS' (E5 ?_));show R acc'.toList _
  rw[hacc];exact h h' tk as hk hl hG
 |again c1=>
  refine⟨x.1,Fx x.2 λq s2 y=>?_⟩
  obtain⟨h',tk,acc',c',as,rfl,rfl,hk,hS',hl,hG,hacc⟩:=y
  show E6 _ A (load s.heap.objs.size >>= _) _ _ _;refine Ey (GL hS' (E5 ?_));show R acc'.toList _
  rw[hacc];exact h h' tk as hk hl hG
theorem view {d:Ez}{od:FF}{Q:E2->E4->Prop}(lo:(d==FX)=false)(hod:s.heap.get? d=some od)(hx:od.ExactDict)
  (hQ:Q (.ref s.heap.objs.size) {s with heap:=s.heap.push {cls:= .type "dict_items",data:= .fields #[.ref d]}}):E6 (model prog w) A (call (.builtin "dict.items") [.ref d]) Q E s:=by
 have tyD:s.TypeIs (.ref d) "dict":=⟨od,hod,hx.1⟩
 refine FQ F.slot_dict_items tyD F.entry_dict_items ?_ (F.args_dict_items_1 _);unfold Builtin.«dict.items»;refine Ey ?_
 unfold Builtin.Dict.noArgs;refine Ey (Fk tyD ?_);show E6 _ _ (pure d) _ _ s;refine E5 ?_
 show E6 _ _ (CY d >>= _) _ _ s;unfold CY;rw[if_neg (by rw[lo];exact AM)]
 exact Ey (E5 (Ey (FH (E5 ⟨_,rfl,hQ⟩))))
end
theorem ZJ6 (v d:Ez)(od:FF)(es:Array FZ)(ep:Nat)(hdd:od.data= .dict es ep)(hn:es.size<=sizeLine):Meets (Builtin.«tuple.__new__» ⟨[.type "tuple",.ref v],[]⟩) (λA R s=>A.handled=none/\s.heap.IsItemsView v d/\s.heap.get? d=some od/\
  ∀(h':E9) (tk:Nat) (as:List Ez),(∀b o,s.heap.get? b=some o->h'.get? b=some o)->as.length=es.size->G es s.heap.objs.size h' as->R (.ok (.ret (.ref h'.objs.size))) {s with heap:=h'.push {cls:= .type "tuple",data:= .seq (as.map Ab).toArray},toks:=tk}):=
 .of_wp λprog w A R s h=>by
  obtain⟨hp,g,d',tk,os⟩:=s;obtain⟨hh,hv,hod,h⟩:=h
  have hsub:=sub_tuple_self;have hinit:=init_tuple_lookup;have hmh:=madeHere_tuple
  obtain⟨ov,hov,hcv,hdv⟩:=id hv
  have hT:Shared.TypeIs ⟨hp,g,d',tk,os⟩ (.ref v) "dict_items":=⟨ov,hov,hcv⟩
  wp_walk using wpAny_loadPart' hov,Fb hT,ZNG (A:=A.in1) hh hv hod hdd hn
  intro h' tk' as hk hl hG
  show E6 _ _ (Bh (as.map Ab).toArray >>= λv=>ret v) _ _ _;unfold Bh
  exact Ey (FH (E5 ⟨_,rfl,h h' tk' as hk hl hG⟩) (by show(as.map Ab).toArray.size<=sizeLine;simpa[hl] using hn))
theorem tuple_of {prog:E7}{w:FA}{A:FC}{E:E2->E4->Prop}{s:E4}{v d:Ez}{od:FF}{es:Array FZ}{ep:Nat}{Q:E2->E4->Prop}(hh:A.handled=none)(hv:s.heap.IsItemsView v d)(hod:s.heap.get? d=some od)(hdd:od.data= .dict es ep)(hn:es.size<=sizeLine)
  (h:∀(h':E9) (tk:Nat) (as:List Ez),(∀b o,s.heap.get? b=some o->h'.get? b=some o)->as.length=es.size->G es s.heap.objs.size h' as->Q (.ref h'.objs.size) {s with heap:=h'.push {cls:= .type "tuple",data:= .seq (as.map Ab).toArray},toks:=tk}):
  E6 (model prog w) A (call (.type "tuple") [.ref v]) Q E s:=
 callType_new F.called_tuple (by decide) (F.typeCall_tuple_1 _) (F.newCall_tuple_1 _) (λobj=>F.args_object_init_2 obj _) F.entry_tuple_new (ZJ6 v d od es ep hdd hn) ⟨hh,hv,hod,λh' tk as hk hl hG=>⟨⟨_,AN _ rfl,rfl⟩,h h' tk as hk hl hG⟩⟩
end RI
namespace L2
open PySem PySem.Spec PyProof.Rows
def ZCz (h:E9)(n:Nat):E9:={h with objs:=h.objs.extract 0 n}
theorem ZIJ {h:E9}{n b:Nat}(hb:b<n):(ZCz h n).get? b=h.get? b:=by
 have e:(ZCz h n).objs[b]?=h.objs[b]?:=by
  show(h.objs.extract 0 n)[b]?=_
  rw[Array.getElem?_extract]
  by_cases hs:b<h.objs.size
  ·rw[if_pos (by lia),Nat.zero_add]
  ·rw[if_neg (by lia),Ci (by lia)]
 unfold Heap.get?
 rw[e]
theorem ZND {h:E9}{n b:Nat}{o:FF}(e:(ZCz h n).get? b=some o):b<n:=by
 have:=AI e
 have e2:(ZCz h n).objs.size<=n:=by show(h.objs.extract 0 n).size<=n;rw[Em];lia
 exact Af this e2
theorem ZNE {h:E9}{n:Nat}:(ZCz h n).objs.size<=n:=by show(h.objs.extract 0 n).size<=n;rw[Em];lia
section
variable {X:Cx}
theorem Inv.tupsAll {pins:List (Ez×FF)}{Z:St}{h':E9}:∀(ps:List (Ez×List V×List E2)) {s:E4} {H:Hp},Inv X pins Z H s->(∀b o,s.heap.get? b=some o->h'.get? b=some o)->(ps.map (·.1)).Pairwise (·<·)->(∀p∈ps,s.heap.objs.size<=p.1)->
  (∀p∈ps,p.2.1.length<=sizeLine/\Vals p.2.1 p.2.2/\h'.get? p.1=some {cls:= .type "tuple",data:= .seq p.2.2.toArray})->∃H',Same H H'/\(∀p∈ps,H' p.1=some (.tup p.2.1))/\Inv X pins Z H' {s with heap:=h'}
 | [],s,H,I,k,_,_,_=>⟨H,Same.refl _,(λp hp=>nomatch hp),I.kept (t':=s.toks) k⟩
 |p::ps,s,H,I,k,hs,hl,hp=>by
  rw[AR,Bz] at hs
  obtain⟨hz,hv,hg⟩:=hp p (AJ ..)
  have hlp:=hl p (AJ ..)
  have k1:∀b o,s.heap.get? b=some o->(ZCz h' (p.1+1)).get? b=some o:=λb o e=>by
   rw[ZIJ (Dx (Af (AI e) hlp))]
   exact k b o e
  have hg1:(ZCz h' (p.1+1)).get? p.1=some {cls:= .type "tuple",data:= .seq p.2.2.toArray}:=by rw[ZIJ (Bm _)];exact hg
  have I1:=I.laid (t':=s.toks) (o:= .tup p.2.1) k1 hlp ⟨hz,p.2.2,hv,⟨⟨_,hg1,rfl,_,rfl⟩,_,hg1,rfl⟩⟩
  have nH:H p.1=none:=I.hok.fresh hlp
  obtain⟨H',s1,hall,I2⟩:=Inv.tupsAll ps I1 (λb o e=>by rw[ZIJ (ZND e)] at e;exact e) hs.2 (λq hq=>As ZNE (Nat.succ_le_of_lt (hs.1 q.1 (AD.mpr ⟨q,hq,rfl⟩)))) λq hq=>hp q (AL _ hq)
  refine⟨H',(Same.new nH _).trans s1,λq hq=>?_,I2⟩
  rcases AQ.mp hq with rfl|hq
  ·exact s1 _ _ ZAB
  ·exact hall q hq
abbrev It4:=Ez×Ez×List Key×V
inductive ZI9 (Q:VK)(x:V)(H1:Hp):Prop
 |mk:∀d kvs,(x= .ref d)->(H1 d=some (.dT kvs))->(∀l (as:List It4) H',Same H1 H'->H' l=some (.tup (as.map λr=>V.ref r.1))->as.map (λr=>r.2.2)=kvs->(∀r∈as,H' r.1=some (.tup [.ref r.2.1,r.2.2.2])/\H' r.2.1=some (.tup (r.2.2.1.map kV)))->Q (.ref l) H')->ZI9 Q x H1
def tItems (to:TE):TE:=λZ H Q=>to Z H λx H1=>ZI9 Q x H1
theorem kt_get {H:Hp}{kvs:List (List Key×V)}{xs:List (List Key×Ez×E2)}(h:KT H kvs xs):kvs.length=xs.length/\∀(j:Nat) p x,kvs[j]?=some p->xs[j]?=some x->p.1=x.1/\H x.2.1=some (.tup (p.1.map kV))/\RelV p.2 x.2.2:=by
 induction h with
 |nil=>exact⟨rfl,λj p x e=>by simp at e⟩
 |cons h _ i=>
  refine⟨by rw[Ac,Ac,i.1],λj p x e1 e2=>?_⟩
  cases j with
  |zero=>cases e1;cases e2;exact h
  |succ j=>exact i.2 j p x e1 e2
variable {o:FD}{to:TE}{p pos apos cpos:Pos}
theorem ZH4 (hc:X.calm=true)(hg:Gl X "tuple")(hm:X.mg "tuple"=none)(ho:PE X o to)(hbase:attributeBase o "items" X.env (eval o X.env)=eval o X.env:=by rfl)(hline:(apos.endLine==cpos.line)=true:=by rfl)
  (he:FG [Expr.Call (.Attribute o "items" apos) [] [] cpos] X.env= [(false,eval (Expr.Call (.Attribute o "items" apos) [] [] cpos) X.env)]:=by rfl):
  PE X (.Call (.Name "tuple" p) [.Call (.Attribute o "items" apos) [] [] cpos] [] pos) (tItems to):=by
 intro pins s Z H Q I h
 refine Fc (ZDs I hg hm (u:= .type "tuple") rfl ?_ (by decide) (by decide))
 refine BY (e:=Expr.Call (.Attribute o "items" apos) [] [] cpos) (rest:= []) ?_ he rfl
 rw[he]
 refine CA ?_
 refine Gj hbase hline (thn (ho pins s Z H _ I h) λu s1 ⟨x,H1,I1,r1,d,kvs,ex,hd,q⟩=>?_)
 subst ex
 cases r1
 obtain⟨hzk,lo,ys,kt,ob,es,ep,hob,hx,hdd,hes,hin,hnd⟩:=ZO4 I1.hok hd
 refine⟨"dict","dict.items",DF,EJ,EI,⟨ob,hob,hx.1⟩,(λa e=>by cases e;exact⟨ob,hob,hx.2.1⟩),Cg rfl (Ef ?_)⟩
 refine RI.view lo hob hx ?_
 refine Cf ?_
 have I2:Inv X pins Z H1 {s1 with heap:=s1.heap.push {cls:= .type "dict_items",data:= .fields #[.ref d]}}:=I1.kept (t':=s1.toks) λb o e=>AC _ e
 have hsz:es.size=ys.length:=by have:=congrArg Ay hes;rw[Au,AA] at this;exact this
 obtain⟨kl,kg⟩:=kt_get kt
 refine RI.tuple_of (I.ok.hd hc) ⟨_,AN _ rfl,rfl,rfl⟩ (AC _ hob) hdd (by lia) λh' tk as hk hl hG=>?_
 --the pairs,one by one
 have hes':∀(j:Nat) y,ys[j]?=some y->es[j]?=some (entryOfKey (FV (ZAU X.prog X.w)) y):=λj y e=>by rw[<-A8,hes,AS,e];rfl
 let ps:List (It4×E2):=(as.zip (ys.zip kvs)).map λq=>((q.1,q.2.1.2.1,q.2.2),q.2.1.2.2)
 have lps:ps.length=as.length:=by simp only[ps,AA,Bs];lia
 have eas:ps.map (·.1.1)=as:=by
  simp only[ps,AE]
  exact DL (by rw[Bs];lia)
 have ekv:ps.map (·.1.2.2)=kvs:=by
  simp only[ps,AE]
  have e1:((as.zip (ys.zip kvs)).map (·.2))=ys.zip kvs:=B7 (by rw[Bs];lia)
  have e2:(ys.zip kvs).map (·.2)=kvs:=B7 (by lia)
  have e3:((as.zip (ys.zip kvs)).map (·.2)).map (·.2)=kvs:=by rw[e1,e2]
  rw[AE] at e3
  exact e3
 have hps:∀q∈ps,h'.get? q.1.1=some {cls:= .type "tuple",data:= .seq #[.ref q.1.2.1,q.2]}/\H1 q.1.2.1=some (.tup (q.1.2.2.1.map kV))/\RelV q.1.2.2.2 q.2:=λq hq=>by
  obtain⟨⟨a,y,kv⟩,hm',rfl⟩:=AD.mp hq
  obtain⟨j,hj⟩:=Cq.mp hm'
  rw[Bk,Bk] at hj
  obtain⟨e,ee,eg⟩:=hG.pairs j a hj.1
  rw[hes' j y hj.2.1] at ee
  obtain rfl:=Aj ee
  obtain⟨k1,k2,k3⟩:=kg j kv y hj.2.2 hj.2.1
  exact⟨eg,k2,k3⟩
 obtain⟨H',s3,hall,I3⟩:=Inv.tupsAll (h':=h') (ps.map λq=>(q.1.1,[V.ref q.1.2.1,q.1.2.2.2],[Ab q.1.2.1,q.2])) I2 hk (by rw[AE];exact eas.symm▸hG.rise) (λz hz'=>by
   obtain⟨q,hq,rfl⟩:=AD.mp hz'
   exact CN (hG.above q.1.1 (by rw[<-eas];exact AD.mpr ⟨q,hq,rfl⟩))) (λz hz'=>by
   obtain⟨q,hq,rfl⟩:=AD.mp hz'
   exact⟨by show 2<=sizeLine;rw[FP];decide,.cons rfl (.cons (hps q hq).2.2 .nil),(hps q hq).1⟩)
 have rv:Vals (as.map V.ref) (as.map Ab):=by
  clear hl hG lps eas ekv hps hall
  induction as with
  |nil=>exact .nil
  |cons y ys ih=>exact .cons rfl ih
 have I4:=I3.laid (t':=tk) (o:= .tup (as.map V.ref)) (λb o e=>AC _ e) (AK _) (show ZBA X.prog X.w _ _ _ (.tup (as.map V.ref)) from⟨by rw[AA];lia,_,rv,ZDv.new _ _⟩)
 have nB:H' h'.objs.size=none:=I3.hok.fresh (AK _)
 have s4:=Same.new nB (.tup (as.map V.ref))
 refine⟨.ref h'.objs.size,_,I4,rfl,q _ (ps.map (·.1)) _ (s3.trans s4) ?_ (by rw[AE];exact ekv) λr hr=>?_⟩
 ·rw[ZAB,AE,<-eas,AE]
  rfl
 ·obtain⟨q',hq',rfl⟩:=AD.mp hr
  exact⟨s4 _ _ (hall _ (AD.mpr ⟨q',hq',rfl⟩)),s4 _ _ (s3 _ _ (hps q' hq').2.1)⟩
end
end L2
namespace HS
open PySem PySem.W PySem.Spec PySem.F PySem.Calls PyProof.Rows
section
variable {prog:E7}{w:FA}{A:FC}{E:E2->E4->Prop}{s:E4}
end
end HS
namespace L2
open PySem PySem.Spec PyProof.Rows
section
variable {X:Cx}
end
end L2
namespace HD
open PySem
section
variable {prog:E7}{w:FA}{A:FC}{E:E2->E4->Prop}{s:E4}{K:Type}[DecidableEq K]{knd:KeyKind prog w K}
structure StHT (knd:KeyKind prog w K)(h0:E9)(its:List E2)(ms:List (List K×Ez×E2))(a d it:Ez)(i:Nat)(h:E9):Prop where
 tup:h.IsTuple a its.toArray
 iter:h.IsTupleIter it a i
 dict:h.DictOfH (FV knd) d (mergedH [] (ms.take i))
 keep:∀b o,b≠d->b≠it->h0.get? b=some o->h.get? b=some o
theorem ZJP {its:List E2}{ms:List (List K×Ez×E2)}{a d it:Ez}{h0:E9}{R:Result->E4->Prop}(hh:A.handled=none)(hu:A.units+1<cLine)(hP:PairsAtH knd h0 its ms)(hd:a≠d)(hit:a≠it)(hdi:d≠it)(hz:its.length<=1000)
  (hd0:h0.get? d=none) (hi0:h0.get? it=none) (hml:∀i,(mergedH [] (ms.take i)).length<=1000)
  (hR:∀h tk,h.DictOfH (FV knd) d (mergedH [] ms)->(∀b o,b≠d->b≠it->h0.get? b=some o->h.get? b=some o)->R (.ok (.ret .none)) {s with heap:=h,toks:=tk}):
  ∀(m i:Nat) (h:E9) (tk:Nat),its.length-i=m->i<=its.length->StHT knd h0 its ms a d it i h->Fj (model prog w) A (.builtin "dict.update.loop" ⟨[.ref d,.ref it,FO (i:Int),.none],[]⟩) R {s with heap:=h,toks:=tk}:=by
 intro m
 induction m with
 |zero=>
  intro i h tk hm hi st
  refine FI entry_loop ?_
  rw[An plain_loop _]
  show E6 _ A.in1 (FY (.ref it) >>= _) _ _ _
  refine Ey (GO hh st.iter st.tup (by simp;lia) λh' hk'=>?_)
  dsimp only
  refine Ey (m:=CH d []) (E5 (E5 (hR h' _ ?_ ?_)))
  ·have e:ms.take i=ms:=BH (by have:=hP.1;lia)
   have:=st.dict
   rw[e] at this
   exact ZCd this (λo ho=>hk' d o hdi ho) (ZG4 hP.2.2 hd0 hi0 λb o n1 n2 e=>hk' b o n2 (st.keep b o n1 n2 e))
  ·intro b o n1 n2 e
   exact hk' b o n2 (st.keep b o n1 n2 e)
 |succ m ih=>
  intro i h tk hm hi st
  refine FI entry_loop ?_
  rw[An plain_loop _]
  have hlt:i<its.length:=by lia
  have hlk:i<ms.length:=by have:=hP.1;lia
  have hgi:its[i]?=some its[i]:=AG hlt
  have hgk:ms[i]?=some ms[i]:=AG hlk
  obtain⟨b,ob,n,ev,hb,hbc,hbd⟩:=hP.2.1 i _ _ hgi hgk
  have nb1:b≠d:=λz=>by rw[z,hd0] at hb;cases hb
  have nb2:b≠it:=λz=>by rw[z,hi0] at hb;cases hb
  show E6 _ A.in1 (FY (.ref it) >>= _) _ _ _
  refine Ey (GN (x:=its[i]) st.iter st.tup (by simp[hlt]) λh1 hI1 hs1=>?_)
  rw[ev]
  dsimp only
  have hb1:h1.get? b=some ob:=(hs1.2 b nb2).trans (st.keep b ob nb1 nb2 hb)
  have ty:∀tk',Shared.TypeIs ⟨h1,s.gens,s.drawn,tk',s.os⟩ (.ref b) "tuple":=λ_=>⟨ob,hb1,hbc⟩
  have kp1:∀b' o',b'≠d->b'≠it->h0.get? b'=some o'->h1.get? b'=some o':=λb' o' n1 n2 e=>(hs1.2 b' n2).trans (st.keep b' o' n1 n2 e)
  have hD1:h1.DictOfH (FV knd) d (mergedH [] (ms.take i)):=ZCd st.dict (λo ho=>(hs1.2 d hdi).trans ho) (ZG4 (λm hm=>hP.2.2 m (Cz hm)) hd0 hi0 kp1)
  have hkey:(FV knd).is h1 ms[i].1 ms[i].2.1:=ZLQ (hP.2.2 _ (BJ hlk)) hd0 hi0 kp1
  refine Ey (FK (Ey (FU ?_)))
  unfold CQ
  refine Ey (Fb (ty _) ?_)
  rw[if_pos (by decide)]
  refine Ey (FR hb1 hbd (E5 ?_))
  show E6 _ _ (holding [Ab ms[i].2.1,ms[i].2.2] (dictSet d (Ab ms[i].2.1) ms[i].2.2)) _ _ _
  refine FK (wpAny_dictSet_heap (s:=⟨h1,s.gens,s.drawn,_,s.os⟩) (knd:=FV knd) (show A.in1.units<cLine from hu) hkey hD1 (λh2 hd2 hs2=>?_) (by have:=hml i;rw[FP];lia))
  refine E5 ⟨FN plain_loop _,ih (i+1) h2 _ (by lia) (by lia) ⟨?_,?_,?_,?_⟩⟩
  ·obtain⟨o,ho,r⟩:=st.tup
   exact ZE6 ⟨o,(hs1.2 a hit).trans ho,r⟩ hs2 hd
  ·exact ZG6 hI1 hs2 hdi.symm
  ·rw[ZG0 [] ms i ms[i] hgk]
   exact hd2
  ·intro b' o' n1 n2 e
   exact(hs2.2 b' n1).trans ((hs1.2 b' n2).trans (st.keep b' o' n1 n2 e))
theorem call_dictHT {a:Ez}{o:FF}{its:List E2}{n:Nat}{ms:List (List K×Ez×E2)}{Q:E2->E4->Prop}(hh:A.handled=none)(hu:A.units+2<cLine)(ho:s.heap.get? a=some o)(hc:o.cls= .type "tuple")(hdat:o.data= .seq its.toArray n)(hdn:o.dict=none)
  (hP:PairsAtH knd s.heap its ms) (hz:its.length<=1000)
  (h:∀h' tk,h'.DictOfH (FV knd) s.heap.objs.size (mergedH [] ms)->(∀b o,s.heap.get? b=some o->h'.get? b=some o)->Q (.ref s.heap.objs.size) {s with heap:=h',toks:=tk}):
  E6 (model prog w) A (call (.type "dict") [.ref a]) Q E s:=by
 refine callType_codes (Q₁:=λob1 s₁=>ob1= .ref s.heap.objs.size/\s₁={s with heap:=s.heap.push {cls:= .type "dict",data:= .dict #[]}}) Da (C8 _) DO (GS _ ⟨rfl,rfl⟩) ?_
 rintro ob1 s₁ ⟨rfl,rfl⟩
 have fresh0:(s.heap.push {cls:= .type "dict",data:= .dict #[]}).DictOfH (FV knd) s.heap.objs.size []:=Heap.DictOfH.new s.heap
 have hsz1:(s.heap.push {cls:= .type "dict",data:= .dict #[]}).objs.size=s.heap.objs.size+1:=BE ..
 have al:a<s.heap.objs.size:=AI ho
 have hoa:(s.heap.push {cls:= .type "dict",data:= .dict #[]}).get? a=some o:=AC _ ho
 refine⟨fresh0.typeIs,DG _ _,?_⟩
 unfold Builtin.«dict.__init__»
 refine Ey ?_
 unfold CG
 refine Ey (Fk fresh0.typeIs ?_)
 show E6 _ _ (pure (s.heap.objs.size,[Ab a])) _ _ _
 refine E5 ?_
 show E6 _ _ (BI "dict.__init__" s.heap.objs.size (.ref a) [] .none) _ _ _
 unfold BI
 refine Ey (Fb (T:="tuple") ⟨o,hoa,hc⟩ ?_)
 rw[if_pos (by decide)]
 refine Ey (ZFQ hoa hc hdat hdn hh λh2 tk2 k2=>?_)
 rw[if_pos (show(none:Option E2).isNone=true from rfl)]
 refine Ey (Fe ?_)
 have ht2:h2.IsTuple a its.toArray:=⟨o,k2 a o hoa,hc,n,hdat⟩
 refine Ey (GA ht2 ?_)
 obtain⟨od,_,_,hod,_⟩:=id fresh0
 have dl:s.heap.objs.size<h2.objs.size:=AI (k2 _ _ hod)
 have e0:FO 0=FO ((0:Nat):Int):=rfl
 rw[e0]
 refine E5 ⟨FN plain_loop _,ZJP (A:=A.in1) (s:=s) (knd:=knd) (h0:=s.heap) (ms:=ms) (its:=its) (a:=a) hh (show A.in1.units+1<cLine from hu) hP (AV al) (AV (B4 al dl)) (AV dl) hz (BA (AK _)) (BA (CN dl))
  (λi=>?_) (λh' tk hD hk=>⟨rfl,h h' tk hD λb ob e=>hk b ob (AV (AI e)) (AV (B4 (AI e) dl)) e⟩) its.length 0 _ _ (by simp) (Aq _) ⟨?_,?_,?_,?_⟩⟩
 ·have e1:=ZEb (ms.take i) []
  have e2:(ms.take i).length<=ms.length:=by rw[Ax];lia
  have e3:=hP.1
  simp only[Bj] at e1
  lia
 ·exact Dd ht2 _
 ·exact⟨_,AN _ rfl,rfl,rfl⟩
 ·rw[Bp]
  have hd2:h2.DictOfH (FV knd) s.heap.objs.size []:=ZCd fresh0 (λo ho=>k2 _ _ ho) λ_ hx=>by cases hx
  exact ZCd hd2 (λo ho=>AC _ ho) λ_ hx=>by cases hx
 ·intro b ob _ _ e
  exact AC _ (k2 b ob (AC _ e))
end
end HD
namespace L2
open PySem PySem.Spec PyProof.Rows
section
variable {X:Cx}
theorem ZBj (hc:X.calm=true)(hu:X.A.units+8<cLine):ZB6 X (.type "dict") (λxs H Q=>∃a ys kvs,xs= [.ref a]/\H a=some (.tup ys)/\ZI6 X.K H ys kvs/\ys.length<=1000/\∀p,H p=none->Q (.ref p) (upd H p (.dT (ZA2 [] kvs)))):=by
 intro pins s Z H xs us Q I r h
 obtain⟨a,ys,kvs,rfl,hH,hp,hz,q⟩:=h
 obtain⟨u,rfl,ru⟩:=vals1 r
 cases ru
 obtain⟨z,its,ri,⟨ob0,ho,hcl,n,hdt⟩,ob1,ho1,hdn⟩:=(show ZBA X.prog X.w H s.heap a (.tup ys) from I.hok a _ hH)
 rw[ho] at ho1
 obtain rfl:=Aj ho1
 have hl:=ri.length
 obtain⟨ms,kt,hP⟩:=ZKq I hp ri
 have lk:kvs.length<=1000:=by
  have e1:=Paired.length kt
  have e2:=hP.1
  lia
 refine HD.call_dictHT (I.ok.hd hc) (by lia) ho hcl hdt hdn hP (by lia) λh' tk hD k=>?_
 have hm:=ZDD kvs []
 obtain⟨o,es,ep,hq,h2,h3,h4,_,h5⟩:=hD
 have I2:Inv X pins Z (upd H s.heap.objs.size (.dT (ZA2 [] kvs))) {s with heap:=h',toks:=tk}:=by
  refine I.laid (h':=h') (t':=tk) (o:= .dT (ZA2 [] kvs)) k (AK _) ⟨by rw[FP];simp only[Bj] at hm;lia,beq_eq_false_iff_ne.mpr (A9 (AV I.big)),HD.mergedH [] ms,(KT.merge kt .nil).keeps λc zs ec=>?_,o,es,ep,hq,h2,h3,h4,h5⟩
  rw[ZAN (ZAJ ec I.fresh)]
  exact ec
 exact⟨.ref s.heap.objs.size,_,I2,rfl,q _ I.fresh⟩
end
end L2
namespace Co
open PySem L2 Mi
theorem ZC0 {α:Type}{K:AB}{J:It}{rs:List α}(gv:α->Ez)(v1 v2:α->V){tt:TT}{te:TE}{fr:St}{H1:Hp}{QD:Hp->Prop}(Rl:α->V->Hp->Prop)(mono:∀x v H H',TS' H H'->Rl x v H->Rl x v H')(p:α->Bool)(D:Ez)(hD:H1 D=none)(T:Tells J H1 (rs.map λr=>V.ref (gv r)))(hpr:∀r∈rs,H1 (gv r)=some (.tup [v1 r,v2 r]))(hz:rs.length<sizeLine)
  (ht:∀r H R,r∈rs->Same H1 H->(∀H',Same H H'->R (p r) H')->tt (some (v1 r)::some (v2 r)::fr) H R)
  (he:∀r H R,r∈rs->p r=true->Same H1 H->(∀v H',Same H H'->Rl r v H'->R v H')->te (some (v1 r)::some (v2 r)::fr) H R)
  (hd:∀H' ys,Same H1 H'->H' D=some (.lst ys)->Paired (λr v=>Rl r v H') (rs.filter p) ys->QD H'):
  ∃W:Nat->Nat->List V->Hp->Prop,(∃m,W 0 m [] (upd H1 D (.lst [])))/\∀i m ys H2,W i m ys H2->H2 D=some (.lst ys)/\
   ((J.stop i H2/\QD H2)\/(J.go i H2/\∀x H3,J.yld i H2 x H3->∀pre:St,pre.length=2->gTup K 2 (ZGQ (ZBg 0) (ZGQ (ZBg 1) gNil)) x (pre++fr) H3 λZ4 H4=>(∃pre':St,pre'.length=2/\Z4=pre'++fr)/\
    tt Z4 H4 λb H5=>if b=true then te Z4 H5 (λy H6=>H6 D=some (.lst ys)/\ys.length<sizeLine/\∃m',m'<m/\W (i+1) m' (ys++ [y]) (upd H6 D (.lst (ys++ [y])))) else∃m',m'<m/\W (i+1) m' ys H5)):=by
 refine⟨λi m ys H2=>m=rs.length-i/\i<=rs.length/\Paired (λr v=>Rl r v H2) ((rs.take i).filter p) ys/\H2 D=some (.lst ys)/\Same H1 H2,⟨rs.length,by simp,Aq _,by rw[Bp];exact .nil,ZAB,Same.new hD _⟩,?_⟩
 rintro i m ys H2 ⟨rfl,hi,hp2,hD2,sm⟩
 refine⟨hD2,?_⟩
 by_cases hlt:i<rs.length
 ·refine .inr ⟨T.go H2 i sm (by rw[AA];exact hlt),λx H3 y pre hpre=>?_⟩
  obtain⟨rfl,hx⟩:=T.yld H2 i x H3 sm y
  rw[AS,AG hlt] at hx
  cases hx
  have hm:rs[i]∈rs:=BJ hlt
  obtain⟨a0,a1,rfl⟩:∃a0 a1,pre= [a0,a1]:=by
   cases pre with
   |nil=>simp at hpre
   |cons a0 r=>cases r with
    |nil=>simp at hpre
    |cons a1 r=>cases r with
     |nil=>exact⟨a0,a1,rfl⟩
     |cons _ _=>simp at hpre
  refine⟨gv rs[i],_,rfl,SqT.of (sm _ _ (hpr _ hm)),rfl,_,_,rfl,_,_,rfl,rfl,⟨[some (v1 rs[i]),some (v2 rs[i])],rfl,rfl⟩,?_⟩
  have htk:(rs.take (i+1)).filter p=(rs.take i).filter p++(if p rs[i]=true then[rs[i]] else[]):=by
   rw[BG,AG hlt,Cb]
   cases hp:p rs[i]<;>simp[hp]
  refine ht rs[i] H3 _ hm sm λH5 s5=>?_
  cases hp:p rs[i] with
  |false=>
   rw[hp,if_neg AM,A5] at htk
   exact iteF ⟨rs.length-(i+1),by lia,rfl,hlt,by rw[htk];exact hp2.mono λa b h=>mono _ _ _ _ s5.ts h,s5 _ _ hD2,sm.trans s5⟩
  |true=>
   rw[hp,if_pos rfl] at htk
   refine iteT (he rs[i] H5 _ hm hp (sm.trans s5) λv H6 s6 hv=>?_)
   have hD6:=s6 _ _ (s5 _ _ hD2)
   have t6:TS' H6 (upd H6 D (.lst (ys++ [v]))):=TS'.lst hD6
   have hl:ys.length<=i:=by
    rw[<-Paired.length hp2]
    refine As (Ap _ _) ?_
    rw[Ax];lia
   refine⟨hD6,by lia,rs.length-(i+1),by lia,rfl,hlt,?_,ZAB,?_⟩
   ·rw[htk]
    exact(hp2.mono λa b h=>mono _ _ _ _ ((s5.ts.trans s6.ts).trans t6) h).snoc (mono _ _ _ _ t6 hv)
   ·intro b o e
    have hb:b≠D:=ZAJ e hD
    rw[ZAN hb]
    exact s6 _ _ (s5 _ _ (sm _ _ e))
 ·have e:i=rs.length:=by lia
  subst e
  rw[Bd] at hp2
  have hst:=T.stop H2 sm
  rw[AA] at hst
  exact .inl ⟨hst,hd H2 ys sm hD2 hp2⟩
theorem ZIh {kvs:List (List Key×V)}{k:List Key}{v:V}{z:List Key×V}(h:z∈putK kvs k v):z.2=v\/∃y∈kvs,y.2=z.2:=by
 unfold putK at h
 split at h
 ·obtain⟨y,hy,rfl⟩:=AD.mp h
  split
  ·exact .inl rfl
  ·exact .inr ⟨y,hy,rfl⟩
 ·rcases AY.mp h with h|h
  ·exact .inr ⟨z,h,rfl⟩
  ·rw[AF.mp h];exact .inl rfl
end Co
namespace Mi
open PySem L2
end Mi
namespace Co
open PySem L2 Mi
end Co
namespace L2
open PySem PySem.Spec PyProof.Rows
end L2
namespace ST
open PySem PySem.SetTable
section
variable {t:SetTable}
end
section
variable {prog:E7}{w:FA}{A:FC}{E:E2->E4->Prop}{s:E4}{K:Type}[DecidableEq K]{knd:KeyKind prog w K}
end
end ST
namespace ST
open PySem PySem.SetTable PySem.Spec PyProof.Rows
section
variable {prog:E7}{w:FA}{A:FC}{E:E2->E4->Prop}{s:E4}{K:Type}[DecidableEq K]{knd:KeyKind prog w K}
end
end ST
namespace L2
open PySem PySem.Spec PyProof.Rows
section
variable {X:Cx}
variable {e:FD}{te:TE}{p p2 pos pos2:Pos}
end
end L2
namespace HX
open PySem
section
variable {α:Type}{M:Model}{A:FC}{E:E2->E4->Prop}{s:E4}{base:E9}{env:Env}{outer:List Env}{L e T:Ez}{cls fl:E2}
end
end HX
namespace L2
open PySem PySem.Spec PyProof.Rows
section
variable {P:E7}{w:FA}{K:AB}{mg:E3->Option E2}{base:E9}{N:List E3}{qual:E3}{scope:F0}{f:Ez}{cd:E2}{A:FC}{outer:List Env}{s0:E4}{H0:Hp}{E:XK}
end
section
variable {prog:E7}{w:FA}{A:FC}{R:Result->E4->Prop}{s:E4}
end
section
variable {X:Cx}
end
end L2
namespace Mi
open PySem L2
end Mi
namespace Co
open PySem L2 Mi
end Co
namespace Mi
open PySem L2
end Mi
namespace Co
open PySem L2 Mi
inductive ZEr where
 |oth
 |txt (x:E3)
 |tup (ts:List ZEr)
mutual
def IsTh (K:AB)(H:Hp):ZEr->V->Prop
 | .oth,v=>v= .non\/(∃i,v= .int i)\/(∃b,v= .bl b)\/∃a xs,v= .ref a/\H a=some (.lst xs)
 | .txt x,v=>v= .str x/\x.length<=1000
 | .tup ts,v=>∃a xs,v= .ref a/\SqT K H a xs/\xs.length<=1000/\ZHj K H ts xs
def ZHj (K:AB)(H:Hp):List ZEr->List V->Prop
 | [],xs=>xs= []
 |t::ts,xs=>∃y ys,xs=y::ys/\IsTh K H t y/\ZHj K H ts ys
end
mutual
theorem IsTh.same {K:AB}{H H':Hp}(s:Same H H'):∀{t:ZEr} {x:V},IsTh K H t x->IsTh K H' t x
 | .oth,_,h=>by
  rcases h with h|h|h|⟨a,xs,e,h⟩
  ·exact .inl h
  ·exact .inr (.inl h)
  ·exact .inr (.inr (.inl h))
  ·exact .inr (.inr (.inr ⟨a,xs,e,s _ _ h⟩))
 | .txt _,_,h=>h
 | .tup _,_,⟨a,xs,e,h,hl,hx⟩=>⟨a,xs,e,s.tup h,hl,ZHj.same s hx⟩
theorem ZHj.same {K:AB}{H H':Hp}(s:Same H H'):∀{ts:List ZEr} {xs:List V},ZHj K H ts xs->ZHj K H' ts xs
 | [],_,h=>h
 |_::_,_,⟨y,ys,e,h1,h2⟩=>⟨y,ys,e,IsTh.same s h1,ZHj.same s h2⟩
end
structure DRp (n:Nat)(Pr:List E3->Prop)(H:Hp)(kvs:List (List Key×V))(us:List (List E3)):Prop where
 keys:kvs.map (·.1)=us.map λt=>t.map AH
 nd:us.Nodup
 len:us.length<=n
 short:∀u∈us,Pr u
 vals:∀z∈kvs,∃q v,z.2= .ref q/\TupA H q v/\Pr v
theorem DRp.ts {n:Nat}{Pr:List E3->Prop}{H H':Hp}{kvs:List (List Key×V)}{us:List (List E3)}(h:DRp n Pr H kvs us)(t:TS' H H'):DRp n Pr H' kvs us:=⟨h.keys,h.nd,h.len,h.short,λz hz=>let⟨q,v,e,hq,hl⟩:=h.vals z hz;⟨q,v,e,t _ _ hq,hl⟩⟩
theorem DRp.put {n:Nat}{Pr:List E3->Prop}{H:Hp}{kvs:List (List Key×V)}{us:List (List E3)}(h:DRp n Pr H kvs us){u v:List E3}{q:Ez}(hu:Pr u)(hq:TupA H q v)(hv:Pr v):∃us',DRp (n+1) Pr H (putK kvs (u.map AH) (.ref q)) us':=by
 refine⟨_,ZCZ h.keys,?_,?_,λx hx=>?_,λz hz=>?_⟩
 ·split
  ·exact h.nd
  ·rename_i hn
   rw[Aw]
   exact⟨h.nd,by simp,λy hy z hz e=>hn (by rw[AF.mp hz] at e;exact e▸hy)⟩
 ·have:=h.len
  split
  ·lia
  ·rw[AW,Ai];lia
 ·split at hx
  ·exact h.short x hx
  ·rcases AY.mp hx with hx|hx
   ·exact h.short x hx
   ·rw[AF.mp hx];exact hu
 ·rcases ZIh hz with e|⟨y,hy,e⟩
  ·exact⟨q,v,e,hq,hv⟩
  ·obtain⟨q',v',e',r⟩:=h.vals y hy
   exact⟨q',v',e.symm.trans e',r⟩
end Co
namespace L2
open PySem PySem.Spec PyProof.Rows
end L2
namespace Co
open PySem L2 Mi
end Co
namespace HD
open PySem
open Sem (wp)
section
variable {prog:E7}{w:FA}{A:FC}{E:E2->E4->Prop}{s:E4}
end
end HD
namespace L2
open PySem PySem.Spec PyProof.Rows
end L2
namespace Co
open PySem L2 Mi
structure Kp (H H':Hp):Prop where
 ts:TS' H H'
 ls:∀b xs,H b=some (.lst xs)->∃ys,H' b=some (.lst ys)
mutual
def IsTr (H:Hp):ZEr->V->Prop
 | .oth,v=>v= .non\/(∃i,v= .int i)\/(∃b,v= .bl b)\/∃a xs,v= .ref a/\H a=some (.lst xs)
 | .txt x,v=>v= .str x/\x.length<=1000
 | .tup ts,v=>∃a xs,v= .ref a/\H a=some (.tup xs)/\xs.length<=1000/\ZEy H ts xs
def ZEy (H:Hp):List ZEr->List V->Prop
 | [],xs=>xs= []
 |t::ts,xs=>∃y ys,xs=y::ys/\IsTr H t y/\ZEy H ts ys
end
mutual
theorem IsTr.kp {H H':Hp}(s:Kp H H'):∀{t:ZEr} {x:V},IsTr H t x->IsTr H' t x
 | .oth,_,h=>by
  rcases h with h|h|h|⟨a,xs,e,h⟩
  ·exact .inl h
  ·exact .inr (.inl h)
  ·exact .inr (.inr (.inl h))
  ·obtain⟨ys,h'⟩:=s.ls _ _ h
   exact .inr (.inr (.inr ⟨a,ys,e,h'⟩))
 | .txt _,_,h=>h
 | .tup _,_,⟨a,xs,e,h,hl,hx⟩=>⟨a,xs,e,s.ts _ _ h,hl,ZEy.kp s hx⟩
theorem ZEy.kp {H H':Hp}(s:Kp H H'):∀{ts:List ZEr} {xs:List V},ZEy H ts xs->ZEy H' ts xs
 | [],_,h=>h
 |_::_,_,⟨y,ys,e,h1,h2⟩=>⟨y,ys,e,IsTr.kp s h1,ZEy.kp s h2⟩
end
mutual
theorem IsTr.th {K:AB}{H:Hp}:∀{t:ZEr} {x:V},IsTr H t x->IsTh K H t x
 | .oth,_,h=>h
 | .txt _,_,h=>h
 | .tup _,_,⟨a,xs,e,h,hl,hx⟩=>⟨a,xs,e,SqT.of h,hl,ZEy.th hx⟩
theorem ZEy.th {K:AB}{H:Hp}:∀{ts:List ZEr} {xs:List V},ZEy H ts xs->ZHj K H ts xs
 | [],_,h=>h
 |_::_,_,⟨y,ys,e,h1,h2⟩=>⟨y,ys,e,IsTr.th h1,ZEy.th h2⟩
end
theorem ZAs {α:Type}{J:It}{rs:List α}(gv:α->V){te:TE}{fr:St}{H1:Hp}{QD:Hp->Prop}(Rl:α->V->Hp->Prop)(mono:∀x v H H',TS' H H'->Rl x v H->Rl x v H')(D:Ez)(hD:H1 D=none)(T:Tells J H1 (rs.map gv))(hz:rs.length<sizeLine)
  (he:∀r H R,r∈rs->Same H1 H->(∀v H',Same H H'->Rl r v H'->R v H')->te (some (gv r)::fr) H R)
  (hd:∀H' ys,Same H1 H'->H' D=some (.lst ys)->Paired (λr v=>Rl r v H') rs ys->QD H'):
  ∃W:Nat->Nat->List V->Hp->Prop,(∃m,W 0 m [] (upd H1 D (.lst [])))/\∀i m ys H2,W i m ys H2->H2 D=some (.lst ys)/\
   ((J.stop i H2/\QD H2)\/(J.go i H2/\∀x H3,J.yld i H2 x H3->∀pre:St,pre.length=1->ZBg 0 x (pre++fr) H3 λZ4 H4=>(∃pre':St,pre'.length=1/\Z4=pre'++fr)/\
    ZC3 Z4 H4 λb H5=>if b=true then te Z4 H5 (λy H6=>H6 D=some (.lst ys)/\ys.length<sizeLine/\∃m',m'<m/\W (i+1) m' (ys++ [y]) (upd H6 D (.lst (ys++ [y])))) else∃m',m'<m/\W (i+1) m' ys H5)):=by
 refine⟨λi m ys H2=>m=rs.length-i/\i<=rs.length/\Paired (λr v=>Rl r v H2) (rs.take i) ys/\H2 D=some (.lst ys)/\Same H1 H2,⟨rs.length,by simp,Aq _,by rw[Bp];exact .nil,ZAB,Same.new hD _⟩,?_⟩
 rintro i m ys H2 ⟨rfl,hi,hp2,hD2,sm⟩
 refine⟨hD2,?_⟩
 by_cases hlt:i<rs.length
 ·refine .inr ⟨T.go H2 i sm (by rw[AA];exact hlt),λx H3 y pre hpre=>?_⟩
  obtain⟨rfl,hx⟩:=T.yld H2 i x H3 sm y
  rw[AS,AG hlt] at hx
  cases hx
  have hm:rs[i]∈rs:=BJ hlt
  obtain⟨a0,rfl⟩:∃a0,pre= [a0]:=by
   cases pre with
   |nil=>simp at hpre
   |cons a0 r=>cases r with
    |nil=>exact⟨a0,rfl⟩
    |cons _ _=>simp at hpre
  refine⟨⟨[some (gv rs[i])],rfl,rfl⟩,?_⟩
  unfold ZC3
  dsimp only
  refine iteT (he rs[i] H3 _ hm sm λv H6 s6 hv=>?_)
  have hD6:=s6 _ _ hD2
  have t6:TS' H6 (upd H6 D (.lst (ys++ [v]))):=TS'.lst hD6
  have hl:ys.length<=i:=by
   rw[<-Paired.length hp2,Ax]
   lia
  refine⟨hD6,by lia,rs.length-(i+1),by lia,rfl,hlt,?_,ZAB,?_⟩
  ·rw[BG,AG hlt]
   exact(hp2.mono λa b h=>mono _ _ _ _ (s6.ts.trans t6) h).snoc (mono _ _ _ _ t6 hv)
  ·intro b o e
   have hb:b≠D:=ZAJ e hD
   rw[ZAN hb]
   exact s6 _ _ (sm _ _ e)
 ·have e:i=rs.length:=by lia
  subst e
  rw[Bd] at hp2
  have hst:=T.stop H2 sm
  rw[AA] at hst
  exact .inl ⟨hst,hd H2 ys sm hD2 hp2⟩
end Co
namespace HS
open PySem PySem.W PySem.Spec PySem.F PySem.Calls PyProof.Rows
def ltTT:List (List E3)->List (List E3)->Bool
 |_,[]=>false
 | [],_::_=>true
 |a::as,b::bs=>if a=b then ltTT as bs else ltT a b
theorem ltTT_tot:∀a b:List (List E3),ltTT a b=true->ltTT b a=false
 |_,[],h=>by simp[ltTT] at h
 | [],_::_,_=>rfl
 |a::as,b::bs,h=>by
  unfold ltTT at h ⊢
  by_cases e:a=b
  ·subst e;rw[if_pos rfl] at h ⊢;exact ltTT_tot as bs h
  ·rw[if_neg e] at h;rw[if_neg (A9 e)];exact ltT_tot _ _ h
theorem ltTT_tr:∀a b c:List (List E3),ltTT b a=false->ltTT c b=false->ltTT c a=false
 | [],_,_,_,_=>by cases ‹List (List E3)›<;>simp[ltTT]
 |a::as,[],c,h,_=>by simp[ltTT] at h
 |a::as,b::bs,[],_,h=>by simp[ltTT] at h
 |a::as,b::bs,c::cs,h1,h2=>by
  unfold ltTT at h1 h2 ⊢
  by_cases e1:b=a
  ·subst e1
   rw[if_pos rfl] at h1
   by_cases e2:c=b
   ·subst e2;rw[if_pos rfl] at h2 ⊢;exact ltTT_tr as bs cs h1 h2
   ·rw[if_neg e2] at h2 ⊢;exact h2
  ·rw[if_neg e1] at h1
   by_cases e2:c=b
   ·subst e2;rw[if_neg e1];exact h1
   ·rw[if_neg e2] at h2
    by_cases e3:c=a
    ·subst e3
     exact absurd (ltT_tri _ _ h1 h2).symm e2
    ·rw[if_neg e3];exact ltT_tr _ _ _ h1 h2
section
variable {prog:E7}{w:FA}{A:FC}{E:E2->E4->Prop}{s:E4}
theorem ZKw {p q:E2}{b:Bool}{Q:Bool->E4->Prop}(hl:HL.LtAt A s p q b)(h:Q b s):E6 (model prog w) A (oneLt' false p q) Q E s:=by
 rw[oneLt'_eq]
 simp only[Am,if_false]
 exact Ey (hl prog w _ _ (Fa h))
theorem lex_things {fin:Bool}{C:Bool->E4->Prop}:∀{us vs:List E2} {xs ys:List (List E3)},us.length=xs.length->vs.length=ys.length->(fin=decide (xs.length<ys.length))->
  (∀(k:Nat) u v x y,us[k]?=some u->vs[k]?=some v->xs[k]?=some x->ys[k]?=some y->SeqAt.EqAt A s u v (decide (x=y))/\HL.LtAt A s u v (ltT x y))->∀(i:Nat),C (ltTT xs ys) s->KatLex prog w A false fin C (us.zip vs) i s
 | [],vs,xs,ys,h1,h2,hf,_,i,hC=>by
  have e:xs= []:=D7 (by simpa using h1.symm)
  subst e
  rw[Cj]
  refine kat_nil ?_
  rw[hf]
  cases ys with
  |nil=>simpa[ltTT] using hC
  |cons y ys=>simpa[ltTT] using hC
 |u::us,[],xs,ys,h1,h2,hf,_,i,hC=>by
  have e:ys= []:=D7 (by simpa using h2.symm)
  subst e
  rw[Ep]
  refine kat_nil ?_
  rw[hf]
  cases xs<;>simpa[ltTT] using hC
 |u::us,v::vs,xs,ys,h1,h2,hf,hk,i,hC=>by
  cases xs with
  |nil=>simp at h1
  |cons x xs=>
   cases ys with
   |nil=>simp at h2
   |cons y ys=>
    rw[Ca]
    obtain⟨e1,l1⟩:=hk 0 u v x y rfl rfl rfl rfl
    refine kat_cons (e1 prog w _ _ ?_)
    by_cases e:x=y
    ·rw[decide_eq_true e]
     refine kat_yes (lex_things (by simpa using h1) (by simpa using h2) (by rw[hf];simp) (λk u' v' x' y' a1 a2 a3 a4=>hk (k+1) u' v' x' y' a1 a2 a3 a4) (i+1) ?_)
     unfold ltTT at hC
     rw[if_pos e] at hC
     exact hC
    ·rw[decide_eq_false e]
     refine kat_no ?_
     rw[Bool.false_and]
     unfold ltTT at hC
     rw[if_neg e] at hC
     exact ZKw l1 hC
end
end HS
namespace L2
open PySem PySem.W PySem.Spec PyProof.Rows Mi Co
theorem ZDe {α β:Type}{R:α->β->Prop}{xs:List α}{ys:List β}(h:Paired R xs ys){i:Nat}{x:α}(e:xs[i]?=some x):∃y,ys[i]?=some y/\R x y:=by
 induction h generalizing i with
 |nil=>cases e
 |cons a _ ih=>
  cases i with
  |zero=>cases e;exact⟨_,rfl,a⟩
  |succ i=>exact ih e
theorem ZIA:∀(u v:List E3),Dat.lts (u.map Dat.str) (v.map Dat.str)=HS.ltT u v
 |_,[]=>by unfold HS.ltT;simp[Dat.lts]
 | [],_::_=>rfl
 |a::u,b::v=>by
  show(if Dat.beq (.str a) (.str b)=true then Dat.lts (u.map Dat.str) (v.map Dat.str) else Dat.lt (.str a) (.str b))=_
  unfold HS.ltT
  have e:Dat.beq (.str a) (.str b)=(a==b):=rfl
  rw[e,ZIA u v]
  by_cases h:a=b
  ·subst h;simp
  ·rw[if_neg (by simpa using h),if_neg h];rfl
theorem ZGV:∀(u v:List E3),Dat.cmps (u.map Dat.str) (v.map Dat.str)=true
 |_,[]=>by simp[Dat.cmps]
 | [],_::_=>rfl
 |a::u,b::v=>by
  show(Dat.cmp (.str a) (.str b)&&Dat.cmps (u.map Dat.str) (v.map Dat.str))=true
  rw[ZGV u v]
  rfl
section
variable {X:Cx}
abbrev Tn:=Ez×List (List E3)
inductive ZCm (K:AB)(H:Hp)(r:Tn):Prop
 |mk:∀xs,(SqT K H r.1 xs)->(ZAr K H (r.2.map tupD) xs)->ZCm K H r
theorem ZLs {pins:List (Ez×FF)}{Z:St}{H:Hp}{s:E4}(I:Inv X pins Z H s)(A:FC)(hu:A.units+3<cLine){rs:List Tn}{its:List E2}(ri:Vals (rs.map λr=>V.ref r.1) its)(hr:∀r∈rs,ZCm X.K H r/\r.2≠ [])(h2:2<=its.length):
  HS.Asks X.prog X.w A HS.ltTT (rs.map (·.2)) [] its s:=by
 have hl:=ri.length
 rw[AA] at hl
 have at_:∀i,i<its.length->∃r∈rs,rs.getD i (0,[])=r/\its.getD i At= .ref r.1:=λi hi=>by
  have hi':i<rs.length:=by lia
  have h1:(rs.map λr=>V.ref r.1)[i]?=some (V.ref rs[i].1):=by rw[AS,AG hi'];rfl
  obtain⟨u,hu1,hu2⟩:=ZDe ri h1
  have eu:u=Ab rs[i].1:=hu2
  refine⟨rs[i],BJ hi',by rw[AT,AG hi'];rfl,?_⟩
  rw[AT,hu1,eu]
  rfl
 have raw:∀r∈rs,∃o ys n,s.heap.get? r.1=some o/\o.cls= .type "tuple"/\o.data= .seq ys n/\ys.size=r.2.length/\∀(k:Nat) u x,ys.toList[k]?=some u->r.2[k]?=some x->∃y,ZAZ X.K H (tupD x) y/\RelV y u:=λr hr'=>by
  obtain⟨⟨xs,q,hd⟩,_⟩:=hr r hr'
  obtain⟨ys,r1,⟨o,ho,hc,n,hdt⟩,_⟩:=I.tuple q
  have lx:=hd.length
  refine⟨o,ys.toArray,n,ho,hc,hdt,by rw[AO,<-r1.length,lx,AA],λk u x hk hx=>?_⟩
  obtain⟨y,hy1,hy2⟩:=ZAr.get (d:=tupD x) hd (by rw[AS,hx];rfl)
  obtain⟨u',hu1,hu2⟩:=ZDe r1 hy1
  have hk':ys[k]?=some u:=by simpa using hk
  rw[hk'] at hu1
  obtain rfl:=Aj hu1
  exact⟨y,hy2,hu2⟩
 refine⟨tuples' false,λQ E hq=>?_,λi j C hi hj hC=>?_⟩
 ·have kat:∀(rs:List Tn) (its:List E2),Vals (rs.map λr=>V.ref r.1) its->(∀r∈rs,(∃o ys n,s.heap.get? r.1=some o/\o.cls= .type "tuple"/\o.data= .seq ys n/\ys.size=r.2.length/\∀(k:Nat) u x,ys.toList[k]?=some u->r.2[k]?=some x->∃y,ZAZ X.K H (tupD x) y/\RelV y u)/\r.2≠ [])->
    ∃fs:List E2,KatTups s.heap its fs/\fs.length=its.length/\∀f∈fs,PySem.W.Looks (model X.prog X.w) s.heap (typeOf f) (BQ "tuple"):=by
   intro rs
   induction rs with
   |nil=>intro its r _;cases r;exact⟨[],KatTups.nil,rfl,by simp⟩
   |cons r rs ih=>
    intro its rv hall
    cases rv with
    |cons e rv=>
     cases e
     obtain⟨fs,k,hfl,hf⟩:=ih _ rv λz hz=>hall z (AL _ hz)
     obtain⟨⟨o,ys,n,ho,hc,hdt,hsz,hat⟩,hne⟩:=hall r (AJ ..)
     obtain⟨x0,xr,ex⟩:=List.exists_cons_of_ne_nil hne
     have h0:0<ys.size:=by rw[hsz,ex];simp
     have hy0:ys.toList[0]?=some ys[0]:=by rw[A8];exact BV h0
     obtain⟨y,hd,hrel⟩:=hat 0 _ x0 hy0 (by rw[ex];rfl)
     obtain⟨b,zs,rfl,q,_⟩:=hd
     have ev:ys[0]=Ab b:=hrel
     obtain⟨_,_,⟨ob,hob,hcb,_⟩,_⟩:=I.tuple q
     refine⟨Ab b::fs,KatTups.cons ho hc hdt (by rw[BV h0,ev]) k,by rw[Ac,Ac,hfl],λf hf'=>?_⟩
     rcases AQ.mp hf' with rfl|hf'
     ·exactλA Q E s' k' q'=>Fb (T:="tuple") ⟨ob,k' _ _ hob,hcb⟩ q'
     ·exact hf f hf'
  obtain⟨fs,k,hfl,hf⟩:=kat rs its ri λr hr'=>⟨raw r hr',(hr r hr').2⟩
  refine kat_kind (T:=BQ "tuple") k (by lia) hf rfl ?_
  have e:(BQ "tuple"!=BQ "tuple")=false:=by decide
  rw[e]
  exact hq
 ·obtain⟨r,hr1,er,ei⟩:=at_ i hi
  obtain⟨r',hr2,er',ej⟩:=at_ j hj
  obtain⟨o,ys,n,ho,hc,hdt,hsz,hat⟩:=raw r hr1
  obtain⟨o',ys',n',ho',hc',hdt',hsz',hat'⟩:=raw r' hr2
  have g1:(rs.map (·.2)).getD i []=r.2:=by
   rw[<-er,AT,AT,AS]
   cases rs[i]?<;>rfl
  have g2:(rs.map (·.2)).getD j []=r'.2:=by
   rw[<-er',AT,AT,AS]
   cases rs[j]?<;>rfl
  rw[g1,g2] at hC
  rw[ei,ej]
  refine kat_lt ho hdt ho' hdt' (HS.lex_things (xs:=r.2) (ys:=r'.2) (by rw[Au,hsz]) (by rw[Au,hsz']) (by rw[hsz,hsz']) (λk u v x y a1 a2 a3 a4=>?_) 0 hC)
  obtain⟨w1,d1,rl1⟩:=hat k u x a1 a3
  obtain⟨w2,d2,rl2⟩:=hat' k v y a2 a4
  have dp:Dat.deep (tupD x)<=3:=by show Dat.deeps _+1<=3;rw[ZBh];decide
  refine⟨?_,?_⟩
  ·have:=ZDK I 3 A dp hu d1 d2 rl1 rl2
   rw[show Dat.beq (tupD x) (tupD y)=decide (x=y) from ZDQ x y] at this
   exact this
  ·have:=ZGU I 3 A (d:=tupD x) (e:=tupD y) (ZGV x y) dp hu d1 d2 rl1 rl2
   rw[show Dat.lt (tupD x) (tupD y)=HS.ltT x y from ZIA x y] at this
   exact this
theorem ZGg {pins:List (Ez×FF)}{Z:St}{H:Hp}{s:E4}{a:Ez}{rs:List Tn}{its:List E2}{Q:VK}(hu:X.A.units+8<cLine)(I:Inv X pins Z H s)(ri:Vals (rs.map λr=>V.ref r.1) its)(hz:rs.length<64)(hr:∀r∈rs,ZCm X.K H r/\r.2≠ [])
  (hcol:∀Q':List E2->E4->Prop,(∀h1 tk,(∀b o,s.heap.get? b=some o->h1.get? b=some o)->Q' its {s with heap:=h1,toks:=tk})->E6 (model X.prog X.w) X.A.in1 (collect (.ref a)) Q' X.xe s)
  (q:∀l (rs':List Tn),H l=none->rs'.Perm rs->rs'.Pairwise (λa b=>HS.ltTT b.2 a.2=false)->Q (.ref l) (upd H l (.lst (rs'.map λr=>V.ref r.1)))):
  E6 (model X.prog X.w) X.A (call (.builtin "sorted") [.ref a]) (EP X pins Z Q) X.xe s:=by
 have hl:=ri.length
 rw[AA] at hl
 refine HS.sorted_call (lt:=HS.ltTT) HS.ltTT_tot HS.ltTT_tr (ks:=rs.map (·.2)) (d:= []) (λv=>v=its) (λv e=>by rw[e,AA];exact hl) (by rw[AA];exact hz) (λQ' h=>hcol Q' λh1 tk k=>h its h1 tk rfl k) (λv e h2 h3 tk k3=>by subst e;exact ZLs (s:={s with heap:=h3,toks:=tk}) (I.kept (t':=tk) k3) X.A.in1.in1 (by show X.A.units+1+1+3<cLine;lia) ri hr h2) λvs p e h1 h' tk ev hO k1 k2 hD=>?_
 subst ev
 have hpm:p.Perm (Av rs.length):=by have:=hO.perm;rw[AA] at this;exact this
 refine ZCW I ri (by rw[AA];exact hz) (by rw[AA];exact hpm) k1 k2 hD λl nl=>?_
 have ep:(p.map λi=>(rs.map λr=>V.ref r.1).getD i .non)=(p.map λi=>rs.getD i (0,[])).map λr=>V.ref r.1:=by
  rw[AE]
  refine Ah λi hi=>?_
  have hi':i<rs.length:=Ba.mp (hpm.mem_iff.mp hi)
  simp[hi']
 rw[ep]
 refine q l _ nl (ZEA rs (0,[]) hpm) (Aa.mpr (hO.rise.imp_of_mem λ{i j} hi hj z=>?_))
 have hi':i<rs.length:=Ba.mp (hpm.mem_iff.mp hi)
 have hj':j<rs.length:=Ba.mp (hpm.mem_iff.mp hj)
 simpa[hi',hj'] using z
theorem ZFX (hu:X.A.units+8<cLine):ZB6 X (.builtin "sorted") (λxs H Q=>∃a,∃rs:List Tn,xs= [.ref a]/\(SqL X.K H a (rs.map λr=>V.ref r.1)\/SqT X.K H a (rs.map λr=>V.ref r.1))/\rs.length<64/\(∀r∈rs,ZCm X.K H r/\r.2≠ [])/\
  ∀l (rs':List Tn),H l=none->rs'.Perm rs->rs'.Pairwise (λa b=>HS.ltTT b.2 a.2=false)->Q (.ref l) (upd H l (.lst (rs'.map λr=>V.ref r.1)))):=by
 intro pins s Z H xs us Q I r h
 obtain⟨a,rs,rfl,hq,hz,hr,q⟩:=h
 obtain⟨u,rfl,ru⟩:=vals1 r
 cases ru
 obtain⟨its,ri,hcol⟩:=ZEp (A:=X.A.in1) (E:=X.xe) I hq
 exact ZGg hu I ri hz hr hcol q
end
end L2
namespace HK
open PySem
section
variable {prog:E7}{w:FA}{A:FC}{R:Result->E4->Prop}{I:Ez}{fp wr:List Ez}{n:Nat}{P:Nat->E2->Prop}{St:Nat->E9->Prop}{Kp:E4->Prop}
theorem ZMv (W:Walks prog w A.in1 I fp wr n P St)(bt:Nat->Nat->Bool)(hcmp:CmpK prog w A.in1 .Lt P bt Kp)(S:Ez)(hSf:S∉fp)
  (hK:∀(s:E4) h' tk,Kp s->(∀b o,b∉wr->b≠S->s.heap.get? b=some o->h'.get? b=some o)->Kp {s with heap:=h',toks:=tk}):
  ∀(k j:Nat) (s:E4) (vb:E2) (c:Nat),n-(j+1)=k->j+1<=n->St (j+1) s.heap->Kp s->P (argBest bt j) vb->
  s.heap.get? S=some {cls:= .type "list",dict:=none,data:= .seq #[vb,vb] c,slots:=#[]}->
  (∀v h' tk,P (argBest bt (n-1)) v->(∀b o,b∉wr->b≠S->s.heap.get? b=some o->h'.get? b=some o)->R (.ok (.ret v)) {s with heap:=h',toks:=tk})->
  Fj (model prog w) A (.builtin "min.loop" ⟨[.ref I,.none,.ref S],[]⟩) R s:=by
 have hSw:S∉wr:=λh=>hSf (W.sub _ h)
 have hname:(toString "min"++toString ".loop":String)="min.loop":=by decide
 intro k
 induction k with
 |zero=>
  intro j s vb c hk hj hst hKp hPb hS hR
  have hin:j+1=n:=by lia
  refine FI EE ?_
  rw[An B9 _]
  show E6 _ A.in1 (seqItems? (.ref S) >>= _) _ _ s
  refine Ey (FR hS rfl ?_)
  show E6 _ A.in1 (tryCatch (FY (.ref I)) _ >>= _) _ _ s
  refine Ey (FU (W.done s _ _ (hin▸hst) λh' tk hk'=>?_))
  have hS':=hk' S _ hSw hS
  show E6 _ A.in1 (updateSeq S (λ_=>#[]) >>= _) _ _ _
  refine Ey ?_
  refine Fi hS' rfl (Ey (Fl (E5 ?_)))
  refine hR vb _ tk (by rw[<-hin];exact hPb) λb o hbw hbS e=>(Ar _ _ (A9 hbS)).trans (hk' b o hbw e)
 |succ k ih=>
  intro j s vb c hk hj hst hKp hPb hS hR
  have hlt:j+1<n:=by lia
  refine FI EE ?_
  rw[An B9 _]
  show E6 _ A.in1 (seqItems? (.ref S) >>= _) _ _ s
  refine Ey (FR hS rfl ?_)
  show E6 _ A.in1 (tryCatch (FY (.ref I)) _ >>= _) _ _ s
  refine Ey (FU (W.item (j+1) s _ _ hlt hst λv h' tk hP hst' hk'=>?_))
  have hS':=hk' S _ hSw hS
  have hKp':Kp {s with heap:=h',toks:=tk}:=hK s h' tk hKp λb o hb _ e=>hk' b o hb e
  show E6 _ A.in1 (tryCatch (holding [v,v] (richCompare .Lt v vb >>= _)) _ >>= _) _ _ _
  refine Ey (FU (FK (Ey (hcmp (j+1) (argBest bt j) v vb _ _ _ hKp' hP hPb ?_))))
  refine Ey (FK (Fa ?_))
  refine Ey (Fl (E5 ?_))
  cases hb:bt (j+1) (argBest bt j) with
  |true=>
   simp only[if_true]
   refine Ey ?_
   refine Fi hS' rfl (Ey (Fl ?_))
   rw[hname]
   refine E5 ⟨FN B9 _,ih (j+1) _ v _ (by lia) hlt (W.frame _ _ _ hst' λb hbf o e=>?_) (hK _ _ _ hKp' λb o _ hbS e=>(Ar _ _ (A9 hbS)).trans e) (by simp only[argBest,hb,if_true];exact hP) (BP _ hS' rfl)
    λv' h'' tk'' hP' hk''=>?_⟩
   ·exact(Ar _ _ (λh:S=b=>hSf (by rw[h];exact hbf))).trans e
   ·exact hR v' h'' tk'' hP' λb o hbw hbS e=>hk'' b o hbw hbS ((Ar _ _ (A9 hbS)).trans (hk' b o hbw e))
  |false=>
   simp only[Am,if_false]
   refine Ey (Fl ?_)
   rw[hname]
   refine E5 ⟨FN B9 _,ih (j+1) _ vb c (by lia) hlt hst' hKp' (by simp only[argBest,hb,Am,if_false];exact hPb) hS' λv' h'' tk'' hP' hk''=>?_⟩
   exact hR v' h'' tk'' hP' λb o hbw hbS e=>hk'' b o hbw hbS (hk' b o hbw e)
theorem ZEz (W:Walks prog w A.in1 I fp wr n P St)(bt:Nat->Nat->Bool)(hcmp:CmpK prog w A.in1 .Lt P bt Kp)(S:Ez)(hSf:S∉fp)
  (hK:∀(s:E4) h' tk,Kp s->(∀b o,b∉wr->b≠S->s.heap.get? b=some o->h'.get? b=some o)->Kp {s with heap:=h',toks:=tk}) (hn:0<n) {s:E4} {c:Nat} (hst:St 0 s.heap) (hKp:Kp s)
  (hS:s.heap.get? S=some {cls:= .type "list",dict:=none,data:= .seq #[] c,slots:=#[]})
  (hR:∀v h' tk,P (argBest bt (n-1)) v->(∀b o,b∉wr->b≠S->s.heap.get? b=some o->h'.get? b=some o)->R (.ok (.ret v)) {s with heap:=h',toks:=tk}):
  Fj (model prog w) A (.builtin "min.loop" ⟨[.ref I,.none,.ref S],[]⟩) R s:=by
 have hSw:S∉wr:=λh=>hSf (W.sub _ h)
 have hname:(toString "min"++toString ".loop":String)="min.loop":=by decide
 refine FI EE ?_
 rw[An B9 _]
 show E6 _ A.in1 (seqItems? (.ref S) >>= _) _ _ s
 refine Ey (FR hS rfl ?_)
 show E6 _ A.in1 (tryCatch (FY (.ref I)) _ >>= _) _ _ s
 refine Ey (FU (W.item 0 s _ _ hn hst λv h' tk hP hst' hk'=>?_))
 have hS':=hk' S _ hSw hS
 have hKp':Kp {s with heap:=h',toks:=tk}:=hK s h' tk hKp λb o hb _ e=>hk' b o hb e
 show E6 _ A.in1 (updateSeq S (λ_=>#[v,v]) >>= _) _ _ _
 refine Ey ?_
 refine Fi hS' rfl ?_
 rw[hname]
 refine E5 ⟨FN B9 _,ZMv W bt hcmp S hSf hK _ 0 _ v _ rfl hn (W.frame _ _ _ hst' λb hbf o e=>?_) (hK _ _ _ hKp' λb o _ hbS e=>(Ar _ _ (A9 hbS)).trans e) hP (BP _ hS' rfl) λv' h'' tk'' hP' hk''=>?_⟩
 ·exact(Ar _ _ (λh:S=b=>hSf (by rw[h];exact hbf))).trans e
 ·exact hR v' h'' tk'' hP' λb o hbw hbS e=>hk'' b o hbw hbS ((Ar _ _ (A9 hbS)).trans (hk' b o hbw e))
end
section
variable {prog:E7}{w:FA}{A:FC}{E:E2->E4->Prop}{s:E4}
theorem call_min_walkK {x:E2}{Q:E2->E4->Prop}
  (h:E6 (model prog w) A.in1 (pyIter x) (λit s₂=>∃I fp wr n P St bt,∃Kp:E4->Prop,it= .ref I/\Walks prog w A.in1 I fp wr n P St/\St 0 s₂.heap/\(∀b∈fp,b<s₂.heap.objs.size)/\0<n/\CmpK prog w A.in1 .Lt P bt Kp/\
   (∀h' tk,(∀b o,b∉wr->s₂.heap.get? b=some o->h'.get? b=some o)->Kp {s₂ with heap:=h',toks:=tk})/\
   ∀v h' tk,P (argBest bt (n-1)) v->(∀b o,b∉wr->s₂.heap.get? b=some o->h'.get? b=some o)->Q v {s₂ with heap:=h',toks:=tk}) E s):
  E6 (model prog w) A (call (.builtin "min") [x]) Q E s:=by
 have hname:(toString "min"++toString ".loop":String)="min.loop":=by decide
 refine call_function_tree F.kind_min F.plain_min F.entry_min (F.args_min1 _) ?_
 show E6 _ A.in1 (B5 "min" ["key","default"] 0 ⟨[],[]⟩ >>= _) _ _ s
 refine Ey (Gp (show B5 "min" ["key","default"] 0 ⟨[],[]⟩=pure [none,none] from rfl) ?_)
 refine Ey (E5 ?_)
 refine Ey (FE h (λit s₂ h₂=>?_) λ_ _ e=>e)
 obtain⟨I,fp,wr,n,P,St,bt,Kp,rfl,W,hst,hfp,hn,hcmp,hKp,hQ⟩:=h₂
 refine Ey (FH ?_)
 have hSf:s₂.heap.objs.size∉fp:=λhm=>BM _ (hfp _ hm)
 rw[hname]
 have hcmp':CmpK prog w A.in1 .Lt P bt (λs'=>∃h' tk,s'={s₂ with heap:=h',toks:=tk}/\∀b o,b∉wr->s₂.heap.get? b=some o->h'.get? b=some o):=λi j vi vj s' Q' E' ⟨h',tk,e,hk⟩ hi hj q=>by
  subst e
  exact hcmp i j vi vj _ Q' E' (hKp h' tk hk) hi hj q
 refine E5 ⟨FN B9 _,ZEz (Kp:=λs'=>∃h' tk,s'={s₂ with heap:=h',toks:=tk}/\∀b o,b∉wr->s₂.heap.get? b=some o->h'.get? b=some o) W bt hcmp' s₂.heap.objs.size hSf (λs' h'' tk''=>?_) hn (W.frame _ _ _ hst λb _ o e=>AC _ e) ⟨_,_,rfl,λb o _ e=>AC _ e⟩ (AN _ rfl) λv h' tk hP hk=>?_⟩
 ·rintro⟨h',tk,rfl,hk⟩ hk''
  exact⟨h'',tk'',rfl,λb o hb e=>hk'' b o hb (AV (AI e)) (hk b o hb e)⟩
 ·exact hQ v h' tk hP λb o hbw e=>hk b o hbw (AV (AI e)) (AC _ e)
end
end HK
namespace L2
open PySem PySem.W PySem.Spec PyProof.Rows Mi Co
section
variable {X:Cx}
abbrev Tu:=Ez×List E3
def ZEa (ts:List (List E3)):Nat:=argBest (λi j=>HS.ltT (ts.getD i []) (ts.getD j [])) (ts.length-1)
theorem ZIs {ts:List (List E3)}(h:ts≠ []):ZEa ts<ts.length:=by
 have hl:0<ts.length:=BN.mpr h
 have hb:=ZDj (λi j=>HS.ltT (ts.getD i []) (ts.getD j [])) (ts.length-1)
 unfold ZEa
 lia
theorem ZOB {pins:List (Ez×FF)}{Z:St}{H:Hp}{s:E4}(I:Inv X pins Z H s){rs:List Tu}{its:List E2}(ri:Vals (rs.map λr=>V.ref r.1) its)(i:Nat)(v:E2)(hv:its[i]?=some v):∃r∈rs,rs.getD i (0,[])=r/\rs[i]?=some r/\v= .ref r.1:=by
 have hl:=ri.length
 rw[AA] at hl
 have hi:i<its.length:=(BW.mp hv).1
 have hi':i<rs.length:=by lia
 obtain⟨u,hu1,hu2⟩:=ZDe ri (show(rs.map λr=>V.ref r.1)[i]?=some (V.ref rs[i].1) by rw[AS,AG hi'];rfl)
 rw[hv] at hu1
 obtain rfl:=Aj hu1
 exact⟨rs[i],BJ hi',by rw[AT,AG hi'];rfl,AG hi',hu2⟩
theorem ZIZ {K:AB}{H:Hp}{r:Tu}(h:SqT K H r.1 (r.2.map V.str)):ZAZ K H (tupD r.2) (.ref r.1):=⟨r.1,_,rfl,h,ZBz _⟩
theorem ZJ7 (u:List E3):Dat.deep (tupD u)<=3:=by show Dat.deeps _+1<=3;rw[ZBh];decide
theorem ZLn (hc:X.calm=true)(hu:X.A.units+8<cLine):ZB6 X (.builtin "min") (λxs H Q=>∃a,∃rs:List Tu,xs= [.ref a]/\SqL X.K H a (rs.map λr=>V.ref r.1)/\(∀r∈rs,SqT X.K H r.1 (r.2.map V.str))/\rs≠ []/\Q (.ref (rs.getD (ZEa (rs.map (·.2))) (0,[])).1) H):=by
 intro pins s Z H xs us Q I r h
 obtain⟨a,rs,rfl,hq,hd,hne,q⟩:=h
 obtain⟨u,rfl,ru⟩:=vals1 r
 cases ru
 obtain⟨its,ri,pl,hz⟩:=I.list hq
 have hl:its.length=rs.length:=by have:=ri.length;rw[AA] at this;exact this.symm
 have hp:0<rs.length:=BN.mpr hne
 have al:a<s.heap.objs.size:=by obtain⟨o,ho,_⟩:=pl.isList;exact AI ho
 have at_:∀i v,its.toArray[i]?=some v->∃r∈rs,rs.getD i (0,[])=r/\rs[i]?=some r/\v= .ref r.1:=λi v hv=>ZOB I ri i v (by rw[<-hv];simp)
 have gd:∀i,(rs.map (·.2)).getD i []=(rs.getD i (0,[])).2:=λi=>by
  rw[AT,AT,AS]
  cases rs[i]?<;>rfl
 refine HK.call_min_walkK (Fo pl.isList ?_)
 have kp:∀h' tk,(∀b o,b∉ [s.heap.objs.size]->(s.heap.push {cls:= .type "list_iterator",data:= .fields #[.ref a,.int 0 0]}).get? b=some o->h'.get? b=some o)->Inv X pins Z H {s with heap:=h',toks:=tk}:=λh' tk hk=>
  I.kept (h':=h') (t':=tk) λb o eb=>hk b o (by simp;exact AV (AI eb)) (AC _ eb)
 refine⟨s.heap.objs.size,[s.heap.objs.size,a],[s.heap.objs.size],its.toArray.size,_,_,λi j=>HS.ltT ((rs.map (·.2)).getD i []) ((rs.map (·.2)).getD j []),λs'=>∃h' tk,s'={s with heap:=h',toks:=tk}/\Inv X pins Z H {s with heap:=h',toks:=tk},rfl,Walks.list (show X.A.in1.handled=none from I.ok.hd hc) _ a (AV al) its.toArray,
  ⟨⟨_,AN _ rfl,rfl,rfl⟩,pl.isList.push _⟩,λb hb=>?_,by rw[AO];lia,?_,λh' tk hk=>⟨h',tk,rfl,kp h' tk hk⟩,λv h' tk hv hk=>?_⟩
 ·show b<(s.heap.push _).objs.size
  rw[BE]
  simp at hb
  rcases hb with e|e
  ·rw[e];exact Bm _
  ·rw[e];exact Dx al
 ·rintro i j vi vj s' Q' E' ⟨h',tk,rfl,I'⟩ hi hj hQ
  obtain⟨r1,m1,e1,_,rfl⟩:=at_ i vi hi
  obtain⟨r2,m2,e2,_,rfl⟩:=at_ j vj hj
  dsimp only at hQ
  rw[gd,gd,e1,e2,<-ZIA] at hQ
  exact ZGU I' 3 X.A.in1 (d:=tupD r1.2) (e:=tupD r2.2) (ZGV r1.2 r2.2) (ZJ7 _) (by show X.A.units+1+3<cLine;lia) (ZIZ (hd r1 m1)) (ZIZ (hd r2 m2)) rfl rfl _ _ _ _ hQ
 ·obtain⟨r,hr',er,_,rfl⟩:=at_ _ v hv
  have e:ZEa (rs.map (·.2))=argBest (λi j=>HS.ltT ((rs.map (·.2)).getD i []) ((rs.map (·.2)).getD j [])) (its.toArray.size-1):=by
   unfold ZEa
   rw[AA,AO,hl]
  rw[<-e] at er
  rw[er] at q
  exact⟨.ref r.1,H,kp h' tk hk,rfl,q⟩
theorem ZGc:∀{u v:List E3},u.map V.str=v.map V.str->u=v
 | [],[],_=>rfl
 | [],_::_,e=>by simp at e
 |_::_,[],e=>by simp at e
 |a::u,b::v,e=>by
  simp only[AR,BC,V.str.injEq] at e
  rw[e.1,ZGc e.2]
inductive ZHd (K:AB)(x:V)(vs:List V)(H:Hp)(Q:VK):Prop
 |mk:∀a (rs:List Tu) (z:Tu),(x= .ref a)->(vs= [.ref z.1])->(SqL K H a (rs.map λr=>V.ref r.1))->((∀r∈rs,SqT K H r.1 (r.2.map V.str)))->(SqT K H z.1 (z.2.map V.str))->(z.2∈rs.map (·.2))->(rs.length<=100000)->(Q (.int ((rs.map (·.2)).idxOf z.2)) H)->ZHd K x vs H Q
def ZKb (K:AB):V->List V->Hp->VK->Prop:=λx vs H Q=>ZHd K x vs H Q
theorem ZLB (hu:X.A.units+8<cLine):MtR X "list.index" (ZKb X.K):=by
 intro pins s Z H x vs v us Q I rx rv h
 obtain⟨a,rs,z,rfl,rfl,hq,hd,hdz,hz,hn,q⟩:=h
 cases rx
 obtain⟨u,rfl,ru⟩:=vals1 rv
 cases ru
 obtain⟨its,ri,pl,_⟩:=I.list hq
 have hl:its.length=rs.length:=by have:=ri.length;rw[AA] at this;exact this.symm
 have hj:(rs.map (·.2)).idxOf z.2<rs.length:=by have:=C9 hz;rw[AA] at this;exact this
 obtain⟨⟨cls,dd,data,sl⟩,ho,hc,n,hdt⟩:=id pl.isList
 simp only at hc hdt
 subst hc hdt
 let e:E2->Bool:=λv=>decide (∃r∈rs,v= .ref r.1/\r.2=z.2)
 have inj:∀r∈rs,∀r'∈rs,r.1=r'.1->r.2=r'.2:=λr h1 r' h2 e1=>by
  have k1:=hd r h1
  have k2:=hd r' h2
  rw[<-e1] at k2
  have:=I.tuple_inj k1 k2
  exact ZGc this
 have ee:∀r∈rs,e (.ref r.1)=decide (r.2=z.2):=λr hr'=>by
  show decide (∃r'∈rs,Ab r.1= .ref r'.1/\r'.2=z.2)=_
  by_cases h:r.2=z.2
  ·rw[decide_eq_true h,decide_eq_true ⟨r,hr',rfl,h⟩]
  ·rw[decide_eq_false h,decide_eq_false]
   rintro⟨r',h1,h2,h3⟩
   injection h2 with h2
   exact h ((inj r hr' r' h1 h2).trans h3)
 have at_:∀m (hm:m<its.toArray.size),e its.toArray[m]=((rs.map (·.2)).getD m []==z.2):=λm hm=>by
  obtain⟨r,hr',er,er2,ev⟩:=ZOB I ri m its.toArray[m] (by simp)
  have g:(rs.map (·.2)).getD m []=r.2:=by rw[AT,AS,er2];rfl
  rw[ev,ee r hr',g]
  by_cases h:r.2=z.2<;>simp[h]
 refine GM CS ⟨_,ho,rfl⟩ EC (D8 _ _)
  (SeqAt.list_indexAt a its.toArray n dd sl (.ref z.1) e ((rs.map (·.2)).idxOf z.2) (by rw[AO];lia) (by lia) ?_ ?_) ⟨ho,λy hy=>?_,?_⟩
 ·rw[at_,AT,AG (by rw[AA];exact hj)]
  simp
 ·intro m hm hlt
  rw[at_,AT,AG (by rw[AA];lia)]
  have hlt':m<(rs.map λx=>x.2).findIdx (λx=>x==z.2):=hlt
  have:=Ea hlt'
  simpa using this
 ·obtain⟨m,hm,rfl⟩:=B3.mp (show y∈its by simpa using hy)
  obtain⟨r,hr',_,_,ev⟩:=ZOB I ri m its[m] (AG hm)
  rw[ev,ee r hr']
  have:=ZDK I 3 X.A.in1 (ZJ7 r.2) (by show X.A.units+1+3<cLine;lia) (ZIZ (hd r hr')) (ZIZ hdz) (show RelV (.ref r.1) (.ref r.1) from rfl) (show RelV (.ref z.1) (.ref z.1) from rfl)
  rw[show Dat.beq (tupD r.2) (tupD z.2)=decide (r.2=z.2) from ZDQ r.2 z.2] at this
  exact this
 ·exact⟨.int ((rs.map (·.2)).idxOf z.2),H,I.tok _,⟨_,rfl⟩,q⟩
end
end L2
namespace HN
open PySem
open Sem (wp)
section
variable {prog:E7}{w:FA}{K:Type}[DecidableEq K](knd:KeyKind prog w K)
inductive Items2 (h:E9):List (List K)->List E2->Prop
 |nil:Items2 h [] []
 |cons {ks:List K} {a:Ez} {kss:List (List K)} {vs:List E2}:IsTupleKey knd h ks a->Items2 h kss vs->Items2 h (ks::kss) (.ref a::vs)
def ZBl (h:E9)(kss:List (List K))(a:Ez):Prop:=∃o items n,h.get? a=some o/\o.cls= .type "tuple"/\o.data= .seq items n/\Items2 knd h kss items.toList
variable {knd}
theorem Items2.inj {h:E9}{x y:List (List K)}{vs:List E2}(hx:Items2 knd h x vs)(hy:Items2 knd h y vs):x=y:=by
 induction hx generalizing y with
 |nil=>cases hy;rfl
 |cons h1 _ ih=>
  cases hy with
  |cons h2 t2=>rw[h1.inj h2,ih t2]
theorem Items2.keeps {h h':E9}{x:List (List K)}{vs:List E2}{d:Ez}{o:FF}{es ep}(hx:Items2 knd h x vs)(ho:h.get? d=some o)(hd:o.data= .dict es ep)(hs:Heap.SameBut d h h'):Items2 knd h' x vs:=by
 induction hx with
 |nil=>exact .nil
 |cons h1 _ ih=>exact .cons (h1.keeps ho hd hs) ih
theorem ZBl.typeIs {s:E4}{ks:List (List K)}{a:Ez}(x:ZBl knd s.heap ks a):s.TypeIs (.ref a) "tuple":=let⟨o,_,_,ho,hc,_⟩:=x;⟨o,ho,hc⟩
theorem ZBl.inj {h:E9}{a:Ez}{x y:List (List K)}(hx:ZBl knd h x a)(hy:ZBl knd h y a):x=y:=by
 obtain⟨o,items,n,ho,_,hd,hi⟩:=hx
 obtain⟨o',items',n',ho',_,hd',hi'⟩:=hy
 obtain rfl:o=o':=Aj (ho.symm.trans ho')
 rw[hd] at hd'
 injection hd' with h1 _
 subst h1
 exact hi.inj hi'
theorem ZBl.keeps {h h':E9}{ks:List (List K)}{a d:Ez}{o:FF}{es ep}(x:ZBl knd h ks a)(ho:h.get? d=some o)(hd:o.data= .dict es ep)(hs:Heap.SameBut d h h'):ZBl knd h' ks a:=by
 obtain⟨o',items,n,ho',hc,hd',hi⟩:=x
 have hne:a≠d:=by
  rintro rfl
  obtain rfl:o'=o:=Aj (ho'.symm.trans ho)
  rw[hd] at hd';exact nomatch hd'
 exact⟨o',items,n,(hs.2 a hne).trans ho',hc,hd',hi.keeps ho hd hs⟩
def ZOx (knd:KeyKind prog w K)(kss:List (List K)):Int:=reduceHash (Be (kss.map (tupleKeyHash knd)))
def ZDI:List (List K)->Nat
 | []=>0
 |ks::kss=>(ks.length+1)+ZDI kss
theorem ZCy:∀(l:List (List K)) (k:List K),ZDI (l++ [k])=ZDI l+(k.length+1)
 | [],k=>by simp[ZDI]
 |x::l,k=>by rw[Ct,ZDI,ZCy l k,ZDI];lia
variable {A:FC}{E:E2->E4->Prop}{s:E4}
theorem ZLT {kss:List (List K)}{a:Ez}{Q:Int->E4->Prop}(hu:A.units+1<cLine)(hk:ZBl knd s.heap kss a)(h:Q (ZOx knd kss) {s with toks:=s.toks+(ZDI kss+1)}):
  E6 (model prog w) A (pyHash (.ref a)) Q E s:=by
 have hT:=hk.typeIs
 obtain⟨o,items,n,ho,_,hd,hi⟩:=hk
 unfold pyHash
 first|unfold pyHashByItsType|skip
 first|refine Ey (wpAny_cRoomFor_or (.inr (by lia)) ?_)|skip
 refine Ey (GK hT DN.lookup ?_)
 show E6 _ _ (if(some (CB "tuple.__hash__")==some At)=true then _ else _) Q E s
 rw[if_neg (by rw[beq_builtin_none];exact AM)]
 refine Ey (GK hT DN.lookup ?_)
 show E6 _ _ (callSpecialIfBoundUnlessNone? (.ref a) "__hash__" _ >>= _) Q E s
 refine Ey (wpAny_callSpecialIfBoundUnlessNone?_slot hT DN (FQ DN hT F.entry_tuple_hash ?_ (F.args_tuple_hash_1 _)))
 show E6 _ _ (Cr (.ref a) >>= _) _ _ s
 refine Ey (Gd ho hd ?_)
 refine Ey ?_
 rw[<-CZ]
 refine GH _
  (λrest (b:Array Int) s'=>∃done left,kss=done++left/\Items2 knd s.heap left rest/\b.toList=done.map (tupleKeyHash knd)/\s'={s with toks:=s.toks+ZDI done})
  _ ?_ ?_ _ _ ⟨[],kss,rfl,hi,rfl,rfl⟩
 ·rintro x rest b s' ⟨done,left,rfl,hl,hb,rfl⟩
  cases hl with
  |@cons k a' ks' _ h1 hl'=>
   refine Ey (wpAny_pyHash_tuple (by exact hu) h1 ?_)
   first
    |exact E5 ⟨done++ [k],ks',by simp,hl',by simp[hb],by simp[ZCy,Dr]⟩
    |exact Ey (E5 (E5 ⟨done++ [k],ks',by simp,hl',by simp[hb],by simp[ZCy,Dr]⟩))
 ·rintro b s' ⟨done,left,rfl,hl,hb,rfl⟩
  cases hl
  rw[A5] at h
  show E6 _ _ (retInt (Be b.toList)) _ _ _
  rw[hb]
  refine wpAny_ret_mkInt ?_
  show E6 _ _ (if(decide (-(2:Int) ^ 63<=Be (done.map (tupleKeyHash knd)))&&decide (Be (done.map (tupleKeyHash knd))<2 ^ 63))=true then _ else _) Q E _
  unfold ZOx reduceHash at h
  by_cases hr:(decide (-(2:Int) ^ 63<=Be (done.map (tupleKeyHash knd)))&&decide (Be (done.map (tupleKeyHash knd))<2 ^ 63))=true
  ·rw[if_pos hr]
   rw[if_pos hr] at h
   exact E5 (by simpa[Dr] using h)
  ·rw[if_neg hr]
   rw[if_neg hr] at h
   exact Ey (Fe (E5 (by simpa[Dr] using h)))
theorem ZNA {x y:List (List K)}{a b:Ez}{P:Fin->E4->Prop}(hu:A.units<cLine)(hx:ZBl knd s.heap x a)(hy:ZBl knd s.heap y b)(h:P (.done (.ret (.bool (decide (x=y))))) s):
  E6 (model prog w) A (Builtin.«tuple.__eq__» ⟨[.ref a,.ref b],[]⟩) P E s:=by
 have hTb:=hy.typeIs
 obtain⟨oa,xs,na,hoa,_,hda,hia⟩:=hx
 obtain⟨ob,ys,nb,hob,_,hdb,hib⟩:=hy
 show E6 _ _ (isInstance (.ref b) (.type "tuple") >>= _) _ _ s
 refine Ey (Fz hTb GU ?_)
 simp only[Cw,Am,if_false]
 refine Ey (Gd hoa hda ?_)
 refine Ey (Gd hob hdb ?_)
 refine Ey ?_
 refine GH _
  (λrest r s'=>r.1=none/\s'=s/\∃x' y' xs' ys',rest=List.zip xs' ys'/\Items2 knd s.heap x' xs'/\Items2 knd s.heap y' ys'/\decide (x'=y')=decide (x=y)/\(xs'.length==ys'.length)=(xs.size==ys.size))
  _ ?_ ?_ _ _ ⟨rfl,rfl,x,y,xs.toList,ys.toList,rfl,hia,hib,rfl,by simp⟩
 ·rintro⟨u,v⟩ rest r s' ⟨hr,rfl,x',y',xs',ys',hz,hx',hy',hdec,hlen⟩
  cases hx' with
  |nil=>simp at hz
  |@cons k1 u' x'' xs'' h1 hx''=>
   cases hy' with
   |nil=>simp at hz
   |@cons k2 v' y'' ys'' h2 hy''=>
    simp only[Ca,BC,Prod.mk.injEq] at hz
    obtain⟨⟨rfl,rfl⟩,rfl⟩:=hz
    refine Ey (wpAny_eqBool_tuple hu h1 h2 ?_)
    by_cases hk:k1=k2
    ·subst hk
     rw[decide_eq_true rfl]
     simp only[Cw,Am,if_false]
     refine E5 ⟨rfl,rfl,x'',y'',xs'',ys'',rfl,hx'',hy'',?_,by simpa using hlen⟩
     rw[<-hdec]
     by_cases hxy:x''=y''
     ·simp[hxy]
     ·simp[hxy]
    ·rw[decide_eq_false hk]
     simp only[Bool.not_false,if_true]
     have hf:decide (x=y)=false:=by rw[<-hdec];simp[hk]
     rw[hf] at h
     exact Ey (E5 (E5 (E5 h)))
 ·rintro⟨r1,r2⟩ s' ⟨hr,rfl,x',y',xs',ys',hz,hx',hy',hdec,hlen⟩
  simp only at hr
  subst hr
  refine E5 ?_
  have hfin:(xs.size==ys.size)=decide (x=y):=by
   rw[<-hdec,<-hlen]
   cases hx' with
   |nil=>
    cases hy' with
    |nil=>simp
    |cons _ _=>simp
   |cons _ _=>
    cases hy' with
    |nil=>simp
    |cons _ _=>simp at hz
  show P (.done (.ret (.bool (xs.size==ys.size)))) s'
  rw[hfin];exact h
theorem ZIG {x y:List (List K)}{a b:Ez}{Q:Bool->E4->Prop}(hu:A.units+1<cLine)(hx:ZBl knd s.heap x a)(hy:ZBl knd s.heap y b)(h:Q (decide (x=y)) s):
  E6 (model prog w) A (eqBool (.ref a) (.ref b)) Q E s:=by
 unfold eqBool
 try with_reducible refine FK ?_
 show E6 _ _ (if(Ab a==Ab b)=true then _ else _) Q E s
 by_cases hab:(Ab a==Ab b)=true
 ·rw[if_pos hab]
  have e:a=b:=by have:=eq_of_beq hab;injection this
  subst e
  obtain rfl:=hx.inj hy
  exact Ey (Fe (E5 (by simpa using h)))
 ·rw[if_neg hab]
  exact Ey (wpAny_richCompare_same_room (op:= .Eq) hx.typeIs hy.typeIs Dj
   (FQ Dj hx.typeIs F.entry_tuple_eq (ZNA (by exact hu) hx hy ⟨_,rfl,(λe=>nomatch e),Fa h⟩) (F.args_tuple_eq_2 _ _)) (by lia))
theorem ZH1 {ks:List K}{a:Ez}{m:Nat}{Q:Bool->E4->Prop}(hk:IsTupleKey knd s.heap ks a)(h:Q true s):E6 (model prog w) A (eqIsQuiet (m+1) (.ref a)) Q E s:=by
 have hT:=hk.typeIs
 obtain⟨o,items,n,ho,_,hd,hi⟩:=hk
 unfold eqIsQuiet
 refine Ey (GK hT Dj.lookup ?_)
 show E6 _ _ (isInstance (.ref a) (.type "tuple") >>= _) _ _ s
 refine Ey (Fz hT GU ?_)
 simp only[Cw,Am,if_false]
 refine Ey (FR ho hd ?_)
 refine Ey ?_
 show E6 _ _ (forIn items _ _) _ _ s
 rw[<-CZ]
 refine GH _ (λrest r s'=>r.1=none/\s'=s/\∀v∈rest,carriedByValue v=true) _ ?_ ?_ _ _ ⟨rfl,rfl,hi.byValue⟩
 ·rintro v rest r s' ⟨hr,rfl,hall⟩
  rw[eqIsQuiet_byValue _ (hall v AJ)]
  refine Ey (E5 ?_)
  simp only[Cw,Am,if_false]
  exact E5 ⟨rfl,rfl,λu hu'=>hall u (AL _ hu')⟩
 ·rintro⟨r1,r2⟩ s' ⟨hr,rfl,_⟩
  simp only at hr
  subst hr
  exact E5 h
theorem ZJi {kss:List (List K)}{a:Ez}{Q:Bool->E4->Prop}(hk:ZBl knd s.heap kss a)(h:Q true s):E6 (model prog w) A (eqIsQuiet 8 (.ref a)) Q E s:=by
 have hT:=hk.typeIs
 obtain⟨o,items,n,ho,_,hd,hi⟩:=hk
 unfold eqIsQuiet
 refine Ey (GK hT Dj.lookup ?_)
 show E6 _ _ (isInstance (.ref a) (.type "tuple") >>= _) _ _ s
 refine Ey (Fz hT GU ?_)
 simp only[Cw,Am,if_false]
 refine Ey (FR ho hd ?_)
 refine Ey ?_
 show E6 _ _ (forIn items _ _) _ _ s
 rw[<-CZ]
 refine GH _ (λrest r s'=>r.1=none/\s'=s/\∃kss,Items2 knd s.heap kss rest) _ ?_ ?_ _ _ ⟨rfl,rfl,kss,hi⟩
 ·rintro v rest r s' ⟨hr,rfl,kss',hall⟩
  cases hall with
  |cons h1 h2=>
   refine Ey (ZH1 (m:=6) h1 ?_)
   simp only[Cw,Am,if_false]
   exact E5 ⟨rfl,rfl,_,h2⟩
 ·rintro⟨r1,r2⟩ s' ⟨hr,rfl,_⟩
  simp only at hr
  subst hr
  exact E5 h
end
def nestKind {prog:E7}{w:FA}{K:Type}[DecidableEq K](knd:KeyKind prog w K):HeapKind prog w (List (List K)) where
 is:=ZBl knd
 hash:=ZOx knd
 draws:=λkss=>ZDI kss+1
 room:=λA=>A.units+1<cLine
 inj:=λhx hy=>hx.inj hy
 keeps:=λx ho hd hs=>x.keeps ho hd hs
 pyHash:=λhu hk h=>ZLT hu hk h
 eqBool:=λhu hx hy h=>ZIG hu hx hy h
 quiet:=λhk h=>ZJi hk h
end HN
namespace L2
open PySem PySem.W PySem.Spec PyProof.Rows Mi Co
abbrev nKey (t:List (List E3)):List (List Key):=t.map λu=>u.map AH
theorem ZIX:∀{a b:List E3},(a.map AH:List Key)=b.map AH->a=b
 | [],[],_=>rfl
 | [],_::_,e=>by simp at e
 |_::_,[],e=>by simp at e
 |x::xs,y::ys,e=>by
  simp only[AR,BC,Sum.inr.injEq] at e
  rw[e.1,ZIX e.2]
theorem ZGK:∀{a b:List (List E3)},nKey a=nKey b->a=b
 | [],[],_=>rfl
 | [],_::_,e=>by simp at e
 |_::_,[],e=>by simp at e
 |x::xs,y::ys,e=>by
  simp only[AR,BC] at e
  rw[ZIX e.1,ZGK e.2]
section
variable {X:Cx}{pins:List (Ez×FF)}{Z:St}{H:Hp}{s:E4}
theorem ZI4 {K:AB}{H:Hp}:∀{u:List E3} {xs:List V},ZAr K H (u.map Dat.str) xs->xs=u.map V.str
 | [],_,h=>h
 |a::u,_,⟨y,ys,e,h1,h2⟩=>by rw[e,ZI4 h2,show y=V.str a from h1];rfl
theorem ZEY {α β:Type}{f:α->β}(hf:∀a b,f a=f b->a=b){l:List α}(h:l.Nodup):(l.map f).Nodup:=by
 unfold List.Nodup at h ⊢
 rw[Aa]
 exact h.imp λhn e=>hn (hf _ _ e)
theorem ZM2 (I:Inv X pins Z H s){u:List E3}{y:V}{v:E2}(h:ZAZ X.K H (tupD u) y)(r:RelV y v):∃a,v= .ref a/\IsTupleKey (ZAU X.prog X.w) s.heap (u.map AH) a:=by
 obtain⟨a,xs,rfl,q,hd⟩:=h
 obtain⟨its,r1,⟨o,ho,hc,n,hdt⟩,_⟩:=I.tuple q
 have e:xs=(u.map AH).map kV:=by
  have:=ZI4 hd
  rw[this,AE]
  rfl
 rw[e] at r1
 exact⟨a,r,o,its.toArray,n,ho,hc,hdt,by simpa using ZEg r1⟩
theorem ZG7 (I:Inv X pins Z H s):∀{t:List (List E3)} {xs:List V} {its:List E2},ZAr X.K H (t.map tupD) xs->Vals xs its->HN.Items2 (ZAU X.prog X.w) s.heap (nKey t) its
 | [],xs,its,h,r=>by
  have:xs= []:=h
  subst this
  cases r
  exact .nil
 |u::t,xs,its,h,r=>by
  obtain⟨y,ys,rfl,h1,h2⟩:=h
  cases r with
  |cons r1 r2=>
   obtain⟨a,rfl,k⟩:=ZM2 I h1 r1
   exact .cons k (ZG7 I h2 r2)
theorem ZIr (I:Inv X pins Z H s){r:Tn}(h:ZCm X.K H r):(HN.nestKind (ZAU X.prog X.w)).is s.heap (nKey r.2) r.1:=by
 obtain⟨xs,q,hd⟩:=h
 obtain⟨its,r1,⟨o,ho,hc,n,hdt⟩,_⟩:=I.tuple q
 exact⟨o,its.toArray,n,ho,hc,hdt,by simpa using ZG7 I hd r1⟩
def nEnt (r:Tn):List (List Key)×Ez×E2:=(nKey r.2,r.1,.bool true)
def nD (P:E7)(w:FA)(d:Ez)(xs:List Tn):HO:= .ext λh=>(d==FX)=false/\∃o es ep,h.get? d=some o/\o.ExactDict/\o.data= .dict es ep/\es.toList=(xs.map nEnt).map (entryOfKey (HN.nestKind (ZAU P w)))
def NRd (P:E7)(w:FA)(H:Hp)(a:Ez)(xs:List Tn):Prop:=(H a=some (.dT [])/\xs= [])\/H a=some (nD P w a xs)
def putN (xs:List Tn)(r:Tn):List Tn:=if r.2∈xs.map (·.2) then xs else xs++ [r]
theorem NRd.raw (I:Inv X pins Z H s){a:Ez}{xs:List Tn}(h:NRd X.prog X.w H a xs):(a==FX)=false/\∃o es ep,s.heap.get? a=some o/\o.ExactDict/\o.data= .dict es ep/\es.toList=(xs.map nEnt).map (entryOfKey (HN.nestKind (ZAU X.prog X.w))):=by
 rcases h with⟨h,rfl⟩|h
 ·obtain⟨_,lo,ys,kt,o,es,ep,h1,h2,h3,h4,_⟩:=ZO4 I.hok h
  cases kt
  exact⟨lo,o,es,ep,h1,h2,h3,h4⟩
 ·exact(I.hok a _ h).1
theorem ZJt {xs:List Tn}(h:(xs.map (·.2)).Nodup):((xs.map nEnt).map (·.1)).Nodup:=by
 rw[AE]
 have:((λx:List (List Key)×Ez×E2=>x.1)∘nEnt)=nKey∘(λr:Tn=>r.2):=rfl
 rw[this,<-AE]
 exact ZEY (λa b e=>ZGK e) h
theorem ZOn (xs:List Tn)(t:List (List E3)):(atKey (xs.map nEnt) (nKey t)).isSome=decide (t∈xs.map (·.2)):=by
 induction xs with
 |nil=>simp[atKey]
 |cons x xs ih=>
  by_cases e:x.2=t
  ·subst e
   simp[atKey,Bt,nEnt]
  ·have e':¬nKey x.2=nKey t:=λz=>e (ZGK z)
   have b:atKey ((x::xs).map nEnt) (nKey t)=atKey (xs.map nEnt) (nKey t):=by
    rw[AR]
    unfold atKey
    rw[Bt]
    have:decide ((nEnt x).1=nKey t)=false:=decide_eq_false e'
    rw[this]
   rw[b,ih]
   simp[A9 e]
theorem nput (xs:List Tn)(r:Tn):storedH (xs.map nEnt) (nKey r.2) r.1 (.bool true)=(putN xs r).map nEnt:=by
 unfold storedH putN
 rw[ZOn]
 by_cases h:r.2∈xs.map (·.2)
 ·rw[if_pos (by simpa using h),if_pos h]
  rw[AE]
  refine Ah λx _=>?_
  show putAt (nKey r.2) (.bool true) (nEnt x)=nEnt x
  unfold putAt nEnt
  split<;>rfl
 ·rw[if_neg (by simpa using h),if_neg h,AX]
  rfl
theorem nd_ok {P:E7}{w:FA}{H':Hp}{h':E9}{d:Ez}{xs:List Tn}(lo:(d==FX)=false)(h:∃o es ep,h'.get? d=some o/\o.ExactDict/\o.data= .dict es ep/\es.toList=(xs.map nEnt).map (entryOfKey (HN.nestKind (ZAU P w)))):ZBA P w H' h' d (nD P w d xs):=by
 refine⟨⟨lo,h⟩,?_,?_⟩
 ·obtain⟨o,_,_,ho,_⟩:=h
  exact⟨o,ho⟩
 ·rintro h1 h2 ⟨lo,o,es,ep,ho,hr⟩ k
  exact⟨lo,o,es,ep,k _ ho,hr⟩
end
inductive ZL8 (X:Cx)(D:Ends)(Z:St)(v:V)(x:V)(y:V)(H3:Hp):Prop
 |mk:∀a xs r,(x= .ref a)->(y= .ref r.1)->(v= .bl true)->(NRd X.prog X.w H3 a xs)->(ZCm X.K H3 r)->((∀z∈xs,ZCm X.K H3 z))->((xs.map (·.2)).Nodup)->(xs.length<=1000)->(D.nx Z (upd H3 a (nD X.prog X.w a (putN xs r))))->ZL8 X D Z v x y H3
def sNPut (X:Cx)(td ty tv:TE):TS:=λD Z H=>tv Z H λv H1=>td Z H1 λx H2=>ty Z H2 λy H3=>ZL8 X D Z v x y H3
section
variable {X:Cx}{o i value:FD}{pos pos':Pos}{td ty tv:TE}
theorem ZOU (hu:X.A.units+8<cLine)(ho:PE X o td)(hi:PE X i ty)(hv:PE X value tv)(hs:swapsWith value (some (.Subscript o i pos')) pos.line X.env=pure false):
  PS X (.Assign [.Subscript o i pos'] value pos) (sNPut X td ty tv):=by
 intro pins s Z H D I h
 refine Go (thn (hv pins s Z H _ I h) λr s1 ⟨v,H1,I1,rv,q1⟩=>thn (ho pins s1 Z H1 _ I1 q1) λu s2 ⟨x,H2,I2,rx,q2⟩=>thn (hi pins s2 Z H2 _ I2 q2) λiv s3 ⟨y,H3,I3,ry,a,xs,t,ex,ey,ev,hN,hr,hxs,nd,hl,q3⟩=>?_) hs
 subst ex ey ev
 obtain rfl:u=Ab a:=rx
 obtain rfl:iv=Ab t.1:=ry
 obtain rfl:r=Bc true:=rv
 obtain⟨lo,ob,es,ep,h1,h2,h3,h4⟩:=hN.raw I3
 have dd:s3.heap.DictOfH (HN.nestKind (ZAU X.prog X.w)) a (xs.map nEnt):=⟨ob,es,ep,h1,h2,h3,h4,λz hz=>by
  obtain⟨z',hz',rfl⟩:=AD.mp hz
  exact ZIr I3 (hxs z' hz'),ZJt nd⟩
 refine wpAny_setItem_heap (hsz:=by rw[AA,FP];lia) (show(X.A.in1).units+1<cLine from by show X.A.units+1+1<cLine;lia) (ZIr I3 hr) dd λh' dd' hs'=>?_
 rw[nput] at dd'
 obtain⟨q,es',ep',hq,g2,g3,g4,_,_⟩:=dd'
 refine⟨Z,_,ZII I3 ?_ hs' ⟨q,hq⟩ (nd_ok lo ⟨q,es',ep',hq,g2,g3,g4⟩),q3⟩
 rcases hN with⟨e,_⟩|e
 ·rw[e];exact DT
 ·rw[e];exact DT
theorem ZIL (hc:X.calm=true)(hu:X.A.units+8<cLine):ZB6 X (.builtin "sorted") (λxs H Q=>∃a,∃rs:List Tn,xs= [.ref a]/\NRd X.prog X.w H a rs/\rs.length<64/\(∀r∈rs,ZCm X.K H r/\r.2≠ [])/\
  ∀l (rs':List Tn),H l=none->rs'.Perm rs->rs'.Pairwise (λa b=>HS.ltTT b.2 a.2=false)->Q (.ref l) (upd H l (.lst (rs'.map λr=>V.ref r.1)))):=by
 intro pins s Z H xs us Q I r h
 obtain⟨a,rs,rfl,hN,hz,hr,q⟩:=h
 obtain⟨u,rfl,ru⟩:=vals1 r
 cases ru
 obtain⟨lo,ob,es,ep,ho,hx,hdd,hes⟩:=hN.raw I
 have hsz:es.size=rs.length:=by have:=congrArg Ay hes;rw[Au,AA,AA] at this;exact this
 have ri:Vals (rs.map λr=>V.ref r.1) (rs.map λr=>Ab r.1):=by
  clear hes hsz hz hr hN q
  induction rs with
  |nil=>exact .nil
  |cons y ys ih=>exact .cons rfl ih
 refine ZGg hu I ri hz hr (λQ' h=>?_) q
 refine ZEo (A:=X.A.in1) (I.ok.hd hc) (RD.src lo hx hdd) (λo=>AC _ ho) (AI ho) (by rw[FP];lia) λacc h1 tk hla hP k=>?_
 have e:acc=rs.map λr=>Ab r.1:=by
  apply Cn
  intro j
  rw[AS]
  cases hj:acc[j]? with
  |none=>
   have hj':acc.length<=j:=EU.mp hj
   rw[BO (by lia)]
   rfl
  |some v=>
   obtain⟨e,he,rfl⟩:=hP j v hj
   rw[<-A8,hes,AS,AS] at he
   cases hy:rs[j]? with
   |none=>rw[hy] at he;cases he
   |some y=>rw[hy] at he;cases he;rfl
 rw[e]
 exact h h1 tk k
end
section
variable {X:Cx}
def ZEX (u:E3):E3:=tupleText [reprText u]
theorem ZCv (u:E3):(ZEX u).length<=(reprText u).length+3:=by
 have e:ZEX u=("(":E3)++reprText u++((",)":String):E3):=rfl
 have l1:("(":E3).length=1:=by decide +kernel
 have l2:((",)":String):E3).length=2:=by decide +kernel
 rw[e,strLen_append,strLen_append,l1,l2]
 lia
inductive ZL0 (K:AB)(Q:VK)(x:V)(H1:Hp):Prop
 |mk:∀a u,(x= .ref a)->(SqT K H1 a [V.str u])->((reprText u).length+3<=sizeLine)->(Q (.str (ZEX u)) H1)->ZL0 K Q x H1
def tFmtT (K:AB)(te:TE):TE:=λZ H Q=>te Z H λx H1=>ZL0 K Q x H1
theorem ZKl {e:FD}{te:TE}{pos:Pos}(hu:X.A.units+8<cLine)(hg:X.A.guards=some [])(he:PE X e te):PE X (.FormattedValue e 114 none pos) (tFmtT X.K te):=by
 intro pins s Z H Q I h
 refine Gg (thn (he pins s Z H _ I h) λv s1 ⟨x,H1,I1,r1,q1⟩=>?_)
 obtain⟨a,u,rfl,hq,hy,q⟩:=q1
 obtain rfl:v=Ab a:=r1
 obtain⟨its,ri,⟨o,ho,hc,n,hdt⟩,_⟩:=I1.tuple hq
 cases ri with
 |cons r2 r3=>
  cases r3
  obtain⟨t,rfl⟩:=r2
  have hl:=ZCv u
  refine wpAny_pyReprObj_tuple ⟨o,ho,hc⟩ hg (by simp) (by lia) ho hdt (.cons (ReprIs.str u t (by lia)) .nil) (λt' tk=>?_) (by show(ZEX u).length<=sizeLine;lia)
  exact GT ⟨.str _,H1,I1.tok _,⟨_,rfl⟩,q⟩ ⟨.str _,H1,I1.tok _,⟨_,rfl⟩,q⟩ (by show(ZEX u).length<=sizeLine;lia)
end
end L2
namespace Co
open PySem L2 Mi
abbrev NmT (H:Hp)(b:Ez)(x:E3):Prop:=H b=some (.tup [V.str x])
theorem NmT.inj {H:Hp}{b:Ez}{x y:E3}(h:NmT H b x)(h':NmT H b y):x=y:=by
 have h1:H b=some (.tup [V.str x]):=h
 have h2:H b=some (.tup [V.str y]):=h'
 rw[h1] at h2
 injection h2 with h2
 injection h2 with h2
 simpa using h2
theorem NmT.dat {K:AB}{H:Hp}{b:Ez}{x:E3}(h:NmT H b x):ZAZ K H (tupD [x]) (.ref b):=⟨b,_,rfl,SqT.of h,ZBz [x]⟩
abbrev TR:=Ez×(Ez×E3)×(Ez×E3)
def trow (r:TR):Rw:=(r.2.1.2,r.2.2.2)
def ZCL (H:Hp)(r:TR):Prop:=H r.1=some (.tup [V.ref r.2.1.1,V.ref r.2.2.1])/\NmT H r.2.1.1 r.2.1.2/\NmT H r.2.2.1 r.2.2.2
def ZA8 (H:Hp)(rs:List TR):Prop:=∀r∈rs,ZCL H r
abbrev ZDc (rs:List TR):List V:=rs.map λr=>V.ref r.1
inductive ZBF (H:Hp)(a:Ez)(R:List Rw):Prop
 |mk:∀(rs:List TR),(H a=some (.tup (ZDc rs)))->(ZA8 H rs)->(rs.map trow=R)->ZBF H a R
theorem ZCL.ts {H H':Hp}{r:TR}(h:ZCL H r)(s:TS' H H'):ZCL H' r:=⟨s _ _ h.1,s _ _ h.2.1,s _ _ h.2.2⟩
theorem ZA8.ts {H H':Hp}{rs:List TR}(h:ZA8 H rs)(s:TS' H H'):ZA8 H' rs:=λr hr=>(h r hr).ts s
theorem ZLC {rs:List TR}{v:V}(h:v∈ZDc rs):∃r∈rs,v= .ref r.1:=by
 obtain⟨r,hr,e⟩:=AD.mp h
 exact⟨r,hr,e.symm⟩
theorem ZCL.inj {H:Hp}{r r':TR}(h:ZCL H r)(h':ZCL H r')(e:r.1=r'.1):trow r=trow r':=by
 have z1:=h.1
 rw[e,h'.1] at z1
 injection z1 with z1
 injection z1 with z1
 simp only[BC,V.ref.injEq,and_true] at z1
 have e1:=NmT.inj h.2.1 (by rw[<-z1.1];exact h'.2.1)
 have e2:=NmT.inj h.2.2 (by rw[<-z1.2];exact h'.2.2)
 unfold trow
 rw[e1,e2]
def gkT (rs:List TR):List (List Key×V):=rs.map λr=>([AH r.2.1.2],V.ref r.2.2.1)
theorem ZBB {K:AB}{H:Hp}:∀{rs:List TR},ZA8 H rs->ZI6 K H (ZDc rs) (gkT rs)
 | [],_=> .nil
 |r::rs,h=> .cons ⟨r.1,r.2.1.1,rfl,SqT.of (h r (AJ ..)).1,(h r (AJ ..)).2.1⟩ (ZBB λx hx=>h x (AL _ hx))
theorem ZDn {κ:Type}[DecidableEq κ]{A:List (κ×V)}{k:κ}(h:k∉A.map (·.1)):valV A k=none:=by
 induction A with
 |nil=>rfl
 |cons p A ih=>
  rw[AR,AQ,not_or] at h
  rw[ZAj (A9 h.1),ih h.2]
theorem ZDq:∀{B A:List (List Key×V)},((A++B).map (·.1)).Nodup->ZA2 A B=A++B
 | [],A,_=>by rw[A5];rfl
 |p::B,A,h=>by
  have hp:valV A p.1=none:=ZDn λz=>by
   rw[AX,Aw] at h
   exact h.2.2 p.1 z p.1 (by simp) rfl
  show ZA2 (putK A p.1 p.2) B=_
  rw[ZD9 _ hp,ZDq (by rw[BX];exact h),BX]
  rfl
theorem ZLV {rs:List TR}(h:((rs.map trow).map (·.1)).Nodup):((gkT rs).map (·.1)).Nodup:=by
 unfold gkT
 rw[AE] at h ⊢
 have e:(λ(x:List Key×V)=>x.1)∘(λr:TR=>(([AH r.2.1.2]:List Key),V.ref r.2.2.1))=(λx:E3=>([AH x]:List Key))∘((λ(x:Rw)=>x.1)∘trow):=rfl
 rw[e,<-AE]
 exact ZEY (λa b e=>by simpa using e) h
inductive ZDP (H:Hp)(d:Ez)(R:List Rw):Prop
 |mk:∀(kvs:List (List Key×V)),(H d=some (.dT kvs))->(∀x,(val R x=none->valV kvs [AH x]=none)/\∀g,val R x=some g->∃b,valV kvs [AH x]=some (.ref b)/\NmT H b g)->ZDP H d R
theorem ZDP.same {H H':Hp}{d:Ez}{R:List Rw}(h:ZDP H d R)(s:Same H H'):ZDP H' d R:=by
 obtain⟨kvs,h1,h2⟩:=h
 exact⟨kvs,s _ _ h1,λx=>⟨(h2 x).1,λg hg=>let⟨b,e1,e2⟩:=(h2 x).2 g hg;⟨b,e1,s _ _ e2⟩⟩⟩
theorem ZLU {H:Hp}:∀{rs:List TR},ZA8 H rs->∀x,(val (rs.map trow) x=none->valV (gkT rs) [AH x]=none)/\∀g,val (rs.map trow) x=some g->∃b,valV (gkT rs) [AH x]=some (.ref b)/\NmT H b g
 | [],_,x=>⟨λ_=>rfl,λg h=>by cases h⟩
 |r::rs,h,x=>by
  have ih:=ZLU (rs:=rs) (λz hz=>h z (AL _ hz)) x
  rw[AR,ZA5]
  by_cases e:(trow r).1=x
  ·rw[if_pos e]
   refine⟨(λz=>by cases z),λg hg=>?_⟩
   injection hg with hg
   refine⟨r.2.2.1,ZAn (show([AH r.2.1.2]:List Key)= [AH x] by rw[<-e];rfl),?_⟩
   rw[<-hg]
   exact(h r (AJ ..)).2.2
  ·rw[if_neg e]
   have:valV (gkT (r::rs)) [AH x]=valV (gkT rs) [AH x]:=ZAj (p:=([AH r.2.1.2],V.ref r.2.2.1)) λz=>e (by simpa[trow] using z)
   rw[this]
   exact ih
theorem ZCS {H:Hp}{rs:List TR}{R:List Rw}{d:Ez}(h:ZA8 H rs)(hR:rs.map trow=R)(nd:(R.map (·.1)).Nodup)(hd:H d=none):ZDP (upd H d (.dT (ZA2 [] (gkT rs)))) d R:=by
 subst hR
 have e:ZA2 [] (gkT rs)=gkT rs:=ZDq (A:= []) (ZLV nd)
 rw[e]
 refine⟨_,ZAB,λx=>⟨(ZLU h x).1,λg hg=>?_⟩⟩
 obtain⟨b,e1,e2⟩:=(ZLU h x).2 g hg
 exact⟨b,e1,Same.new hd _ _ _ e2⟩
theorem ZDP.get {H:Hp}{d b:Ez}{R:List Rw}{x:E3}(h:ZDP H d R)(hb:NmT H b x):∃o,DGet H d (.ref b) o/\o.isSome=(val R x).isSome/\∀g,val R x=some g->∃c,o=some (.ref c)/\NmT H c g:=by
 obtain⟨kvs,h1,h2⟩:=h
 refine⟨_,DGet.t (k:= [AH x]) h1 hb,?_,λg hg=>(h2 x).2 g hg⟩
 cases hv:val R x with
 |none=>rw[(h2 x).1 hv];rfl
 |some g=>obtain⟨c,e,_⟩:=(h2 x).2 g hv;rw[e];rfl
inductive ZHR (vs:List V)(H:Hp)(Q:VK):Prop
 |mk:∀(d b:Ez) (R:List Rw) (n:E3),(vs= [.ref d,.ref b])->(ZDP H d R)->(NmT H b n)->(R.length<=1000)->(∀c H',Same H H'->NmT H' c (stop R n)->Q (.ref c) H')->ZHR vs H Q
def ZCq:Sp:=λvs H Q _=>ZHR vs H Q
inductive ZJL (C:Ez)(vs:List V)(H:Hp)(Q:VK)(E:XK):Prop
 |mk:∀(a b:Ez) (R:List Rw) (n:E3),(vs= [.ref a,.ref b])->(ZBF H a R)->(NmT H b n)->((R.map (·.1)).Nodup)->(R.length<=1000)->(Txt1 n)->((val R (stop R n)=none->∀c H',Same H H'->NmT H' c (stop R n)->Q (.ref c) H'))->((val R (stop R n)≠none->∀H',Same H H'->E (.ref C) none H'))->ZJL C vs H Q E
def ZGf (C:Ez):Sp:=λvs H Q E=>ZJL C vs H Q E
inductive ZFh (vs:List V)(H:Hp)(Q:VK):Prop
 |mk:∀(a b:Ez) (R:List Rw) (n:E3),(vs= [.ref a,.ref b])->(ZBF H a R)->(NmT H b n)->((R.map (·.1)).Nodup)->(R.length<=1000)->(∀H',Same H H'->Q (.bl (val R (stop R n)).isSome) H')->ZFh vs H Q
def ZD5:Sp:=λvs H Q _=>ZFh vs H Q
inductive ZHb (vs:List V)(H:Hp)(Q:VK):Prop
 |mk:∀(a:Ez) (R:List Rw),(vs= [.ref a])->(ZBF H a R)->((R.map (·.1)).Nodup)->(R.length<64)->(∀p R' H',Same H H'->ZBF H' p R'->R'.Perm (ZBL R)->Rise R'->Q (.ref p) H')->ZHb vs H Q
def ZDU:Sp:=λvs H Q _=>ZHb vs H Q
inductive ZEw (vs:List V)(H:Hp)(Q:VK):Prop
 |mk:∀(a:Ez) (R:List Rw),(vs= [.ref a])->(ZBF H a R)->((R.map (·.1)).Nodup)->(R.length<=1000)->(∀H',Same H H'->Q (.bl (!(R.any λr=>(val R r.2).isSome))) H')->ZEw vs H Q
def ZC5:Sp:=λvs H Q _=>ZEw vs H Q
inductive ZHP (C:Ez)(vs:List V)(H:Hp)(Q:VK)(E:XK):Prop
 |mk:∀(a b c:Ez) (R:List Rw) (one other:E3),(vs= [.ref a,.ref b,.ref c])->(ZBF H a R)->(NmT H b one)->(NmT H c other)->(Flat R)->(R.length<63)->(Txt1 one)->(Txt1 other)->(((val R other).getD other=one->∀H',Same H H'->E (.ref C) none H'))->(((val R other).getD other≠one->∀p R' H',Same H H'->ZBF H' p R'->R'.Perm (more R one ((val R other).getD other))->Rise R'->Q (.ref p) H'))->ZHP C vs H Q E
def ZFs (C:Ez):Sp:=λvs H Q E=>ZHP C vs H Q E
theorem ZDN {b b':Nat->Nat->Bool}:∀(k:Nat),(∀i j,i<=k->j<=k->b i j=b' i j)->argBest b k=argBest b' k
 |0,_=>rfl
 |k+1,h=>by
  have ih:=ZDN k λi j hi hj=>h i j (by lia) (by lia)
  show(if b (k+1) (argBest b k) then k+1 else argBest b k)=(if b' (k+1) (argBest b' k) then k+1 else argBest b' k)
  rw[ih,h (k+1) (argBest b' k) (AK _) (Nat.le_succ_of_le (ZDj b' k))]
theorem ZMx (x:E3):HS.ltS x x=false:=by
 cases h:HS.ltS x x with
 |false=>rfl
 |true=>have:=HS.ltS_tot _ _ h;rw[h] at this;cases this
theorem ZIB (x y:E3):HS.ltT [x] [y]=HS.ltS x y:=by
 show(if x=y then HS.ltT [] [] else HS.ltS x y)=_
 by_cases e:x=y
 ·subst e;rw[if_pos rfl,ZMx];rfl
 ·rw[if_neg e]
abbrev ones (L:List E3):List (List E3):=L.map λx=> [x]
theorem ZEC:∀{A B:List E3},ones A=ones B->A=B
 | [],[],_=>rfl
 | [],_::_,e=>by simp at e
 |_::_,[],e=>by simp at e
 |x::xs,y::ys,e=>by
  simp only[AR,BC,and_true] at e
  rw[e.1,ZEC e.2]
theorem ZGH (L:List E3)(i:Nat)(h:i<L.length):(ones L).getD i []= [L.getD i ""]:=by
 rw[AT,AT,AS,AG h]
 rfl
theorem ZJu {L:List E3}(h:L≠ []):(ones L).getD (ZEa (ones L)) []= [minS L]:=by
 have hl:0<L.length:=BN.mpr h
 have e:ZEa (ones L)=argBest (λi j=>HS.ltS (L.getD i "") (L.getD j "")) (L.length-1):=by
  unfold ZEa
  rw[AA]
  refine ZDN _ λi j hi hj=>?_
  rw[ZGH L i (by lia),ZGH L j (by lia),ZIB]
 have hb:=ZIs (ts:=ones L) (by intro z;exact h (by simpa using z))
 rw[AA] at hb
 rw[ZGH L _ hb,e]
 rfl
theorem ZM3 (L:List E3)(x:E3):(ones L).idxOf [x]=L.idxOf x:=by
 induction L with
 |nil=>rfl
 |cons y L ih=>
  rw[show ones (y::L)= [y]::ones L from rfl,C5,C5,ih]
  by_cases e:y=x
  ·subst e;simp
  ·have e1:([y]== [x])=false:=by simpa using e
   have e2:(y==x)=false:=by simpa using e
   rw[e1,e2]
def ZA0 (H:Hp)(bs:List Tu)(L:List E3):Prop:=(∀r∈bs,H r.1=some (.tup (r.2.map V.str)))/\bs.map (·.2)=ones L
abbrev ZBS (bs:List Tu):List V:=bs.map λr=>V.ref r.1
theorem ZA0.ts {H H':Hp}{bs:List Tu}{L:List E3}(h:ZA0 H bs L)(s:TS' H H'):ZA0 H' bs L:=⟨λr hr=>s _ _ (h.1 r hr),h.2⟩
theorem ZA0.len {H:Hp}{bs:List Tu}{L:List E3}(h:ZA0 H bs L):bs.length=L.length:=by
 have:=congrArg Ay h.2
 rw[AA,AA] at this
 exact this
theorem ZA0.nil {H:Hp}:ZA0 H [] []:=⟨by simp,rfl⟩
theorem ZA0.one {H:Hp}{b:Ez}{x:E3}(h:NmT H b x):ZA0 H [(b,[x])] [x]:=⟨λr hr=>by rw[AF.mp hr];exact h,rfl⟩
theorem ZA0.app {H:Hp}{bs cs:List Tu}{L M:List E3}(h:ZA0 H bs L)(h':ZA0 H cs M):ZA0 H (bs++cs) (L++M):=
 ⟨λr hr=>(AY.mp hr).elim (h.1 r) (h'.1 r),by rw[AX,h.2,h'.2,ones,ones,ones,AX]⟩
theorem ZA0.drop {H:Hp}{bs:List Tu}{L:List E3}(h:ZA0 H bs L)(n:Nat):ZA0 H (bs.drop n) (L.drop n):=⟨λr hr=>h.1 r (C3 hr),by rw[CD,h.2,<-CD]⟩
theorem ZA0.take {H:Hp}{bs:List Tu}{L:List E3}(h:ZA0 H bs L)(n:Nat):ZA0 H (bs.take n) (L.take n):=⟨λr hr=>h.1 r (Cz hr),by rw[CU,h.2,<-CU]⟩
theorem ZA0.dat {K:AB}{H:Hp}:∀{bs:List Tu} {L:List E3},ZA0 H bs L->ZAr K H ((ones L).map tupD) (ZBS bs)
 | [],[],_=>rfl
 | [],_::_,h=>by have:=h.len;simp at this
 |_::_,[],h=>by have:=h.len;simp at this
 |b::bs,x::L,h=>by
  have e:=h.2
  simp only[AR,BC] at e
  refine⟨_,_,rfl,⟨b.1,_,rfl,SqT.of (h.1 b (AJ ..)),?_⟩,ZA0.dat (L:=L) (bs:=bs) ⟨λr hr=>h.1 r (AL _ hr),e.2⟩⟩
  rw[e.1]
  exact ZBz [x]
inductive ZDO (vs:List V)(H:Hp)(Q:VK):Prop
 |mk:∀(d b:Ez) (R:List Rw) (n m:E3) (L:List E3),(vs= [.ref d,.ref b])->(ZDP H d R)->(NmT H b n)->(val R n=some m)->(ZE2 R n m L)->(L.length<=1000)->(∀(p:Ez) (bs:List Tu) (H':Hp),Same H H'->H' p=some (.lst (ZBS bs))->ZA0 H' bs (n::L)->Q (.ref p) H')->ZDO vs H Q
def ZCr:Sp:=λvs H Q _=>ZDO vs H Q
inductive ZFg (vs:List V)(H:Hp)(Q:VK):Prop
 |mk:∀(a:Ez) (bs:List Tu) (L:List E3),(vs= [.ref a])->(H a=some (.lst (ZBS bs)))->(ZA0 H bs L)->(L≠ [])->(L.length<=1001)->(∀(p:Ez) (cs:List Tu) (H':Hp),Same H H'->H' p=some (.tup (ZBS cs))->ZA0 H' cs (ZAq L)->Q (.ref p) H')->ZFg vs H Q
def ZFx:Sp:=λvs H Q _=>ZFg vs H Q
theorem ZFO {α:Type}{H:Hp}{f:α->Rw}{g:α->V}{L:List α}(hi:∀r∈L,∀r'∈L,g r=g r'->f r=f r'):∀{xs:List α} {ys:List V},(∀x∈xs,x∈L)->Paired (λx v=>∃r∈L,x=g r/\∃t:TR,v=V.ref t.1/\ZCL H t/\trow t=f r) (xs.map g) ys->
  ∃rs:List TR,ys=ZDc rs/\ZA8 H rs/\rs.map trow=xs.map f
 | [],_,_,h=>by cases h;exact⟨[],rfl,(λr hr=>by cases hr),rfl⟩
 |x::xs,_,hs,h=>by
  rw[AR] at h
  cases h with
  |cons h1 h2=>
   obtain⟨r,hr,e,t,rfl,hb,ht⟩:=h1
   obtain⟨rs,e1,e2,e3⟩:=ZFO hi (λq hq=>hs q (AL _ hq)) h2
   have ef:=hi _ (hs x (AJ ..)) _ hr e
   refine⟨t::rs,by rw[e1];rfl,λq hq=>?_,by rw[AR,AR,e3,ht,ef]⟩
   rcases AQ.mp hq with rfl|hq
   ·exact hb
   ·exact e2 q hq
theorem ZA8.filter {H:Hp}{rs:List TR}(h:ZA8 H rs)(p:TR->Bool):ZA8 H (rs.filter p):=λr hr=>h r (Ao.mp hr).1
theorem ZCw (rs:List TR)(p:Rw->Bool):(rs.filter λr=>p (trow r)).map trow=(rs.map trow).filter p:=by
 rw[Bb]
 rfl
theorem ZCL.nest {K:AB}{H:Hp}{r:TR}(h:ZCL H r):ZCm K H (r.1,[[r.2.1.2],[r.2.2.2]]):=
 ⟨_,SqT.of h.1,_,_,rfl,NmT.dat h.2.1,_,_,rfl,NmT.dat h.2.2,rfl⟩
theorem perm_back {α β:Type}(f:α->β):∀{l:List α} {m:List β},m.Perm (l.map f)->∃l':List α,l'.Perm l/\m=l'.map f:=by
 intro l m h
 generalize hl:l.map f=k at h
 induction h generalizing l with
 |nil=>
  have:l= []:=C7.mp hl
  subst this
  exact⟨[],.nil,rfl⟩
 |@cons b m k _ ih=>
  cases l with
  |nil=>cases hl
  |cons a l=>
   simp only[AR,BC] at hl
   obtain⟨l',p,e⟩:=ih hl.2
   exact⟨a::l',p.cons a,by rw[AR,hl.1,<-e]⟩
 |swap x y k=>
  cases l with
  |nil=>cases hl
  |cons a l=>
   cases l with
   |nil=>simp at hl
   |cons b l=>
    simp only[AR,BC] at hl
    exact⟨b::a::l,.swap a b l,by rw[AR,AR,hl.1,hl.2.1,hl.2.2]⟩
 |trans _ _ ih1 ih2=>
  obtain⟨l1,p1,e1⟩:=ih2 hl
  obtain⟨l2,p2,e2⟩:=ih1 e1.symm
  exact⟨l2,p2.trans p1,e2⟩
theorem ZEd:∀(a b:List E3),HS.ltTT (ones a) (ones b)=HS.ltT a b
 |a,[]=>by cases a<;>simp[HS.ltTT,HS.ltT]
 | [],_::_=>rfl
 |x::a,y::b=>by
  show(if[x]= [y] then HS.ltTT (ones a) (ones b) else HS.ltT [x] [y])=(if x=y then HS.ltT a b else HS.ltS x y)
  rw[ZEd a b,ZIB]
  by_cases e:x=y
  ·subst e;rw[if_pos rfl,if_pos rfl]
  ·rw[if_neg (by simpa using e),if_neg e]
theorem riseT {R:List Rw}{rs rs2:List TR}(hR:rs.map trow=R)(nd:(R.map (·.1)).Nodup)(hp:rs2.Perm rs)(hs:(rs2.map λr=>(r.1,[[r.2.1.2],[r.2.2.2]])).Pairwise λa b=>HS.ltTT b.2 a.2=false):(rs2.map trow).Perm R/\Rise (rs2.map trow):=by
 have hp2:(rs2.map trow).Perm R:=by rw[<-hR];exact hp.map _
 refine⟨hp2,ZHy ((hp2.map (·.1)).nodup_iff.mpr nd) ?_⟩
 rw[Aa] at hs ⊢
 exact hs.imp λ{a b} z=>by
  have:=ZEd [b.2.1.2,b.2.2.2] [a.2.1.2,a.2.2.2]
  show HS.ltT [b.2.1.2,b.2.2.2] [a.2.1.2,a.2.2.2]=false
  rw[<-this]
  exact z
inductive ZB4 (H:Hp)(p:Ez)(L:List E3):Prop
 |mk:∀(cs:List Tu),(H p=some (.tup (ZBS cs)))->(ZA0 H cs L)->ZB4 H p L
theorem ZB4.ts {H H':Hp}{p:Ez}{L:List E3}(h:ZB4 H p L)(s:TS' H H'):ZB4 H' p L:=by
 obtain⟨cs,h1,h2⟩:=h
 exact⟨cs,s _ _ h1,h2.ts s⟩
theorem ZB4.nest {K:AB}{H:Hp}{p:Ez}{L:List E3}(h:ZB4 H p L):ZCm K H (p,ones L):=by
 obtain⟨cs,h1,h2⟩:=h
 exact⟨_,SqT.of h1,h2.dat⟩
inductive ZIT (H:Hp)(p:Ez)(T:List (List E3)):Prop
 |mk:∀(ps:List Tu),(H p=some (.tup (ZBS ps)))->((∀r∈ps,ZB4 H r.1 r.2))->(ps.map (·.2)=T)->ZIT H p T
inductive ZBP (H:Hp)(d:Ez)(Rs:List Rw)(gs:List E3):Prop
 |mk:∀(kvs:List (List Key×V)),(H d=some (.dT kvs))->((kvs.map (·.1)=(ones gs).map λt=>t.map AH))->(gs.Nodup)->((∀g,g∈gs↔∃r∈Rs,r.2=g))->(gs.length<=Rs.length)->(∀g,(g∈gs->∃b,valV kvs [AH g]=some (.ref b)/\ZB4 H b (grp Rs g))/\(g∉gs->valV kvs [AH g]=none))->ZBP H d Rs gs
theorem ZM5 {H:Hp}{d:Ez}(h:H d=some (.dT [])):ZBP H d [] []:=⟨[],h,rfl,BZ,by simp,AK _,λg=>⟨(λz=>by cases z),λ_=>rfl⟩⟩
theorem ZBP.ts {H H':Hp}{d:Ez}{Rs:List Rw}{gs:List E3}(h:ZBP H d Rs gs)(s:TS' H H')(hd:∀kvs,H d=some (.dT kvs)->H' d=some (.dT kvs)):ZBP H' d Rs gs:=by
 obtain⟨kvs,h1,h2,h3,h4,h5,h6⟩:=h
 refine⟨kvs,hd _ h1,h2,h3,h4,h5,λg=>⟨λhg=>?_,(h6 g).2⟩⟩
 obtain⟨b,e1,e2⟩:=(h6 g).1 hg
 exact⟨b,e1,e2.ts s⟩
theorem ZBP.same {H H':Hp}{d:Ez}{Rs:List Rw}{gs:List E3}(h:ZBP H d Rs gs)(s:Same H H'):ZBP H' d Rs gs:=h.ts s.ts λkvs e=>s _ _ e
theorem ZBP.get {H:Hp}{d c:Ez}{Rs:List Rw}{gs:List E3}(h:ZBP H d Rs gs){g:E3}(hc:NmT H c g){e:Ez}(he:H e=some (.tup [])):∃o b,DGet H d (.ref c) o/\o.getD (.ref e)= .ref b/\ZB4 H b (grp Rs g):=by
 obtain⟨kvs,h1,h2,h3,h4,h5,h6⟩:=h
 by_cases hg:g∈gs
 ·obtain⟨b,e1,e2⟩:=(h6 g).1 hg
  exact⟨_,b,DGet.t (k:= [AH g]) h1 hc,by rw[e1];rfl,e2⟩
 ·have hn:grp Rs g= []:=by
   unfold grp
   rw[C7,Ec]
   intro r hr hc
   exact hg ((h4 g).mpr ⟨r,hr,by simpa using hc⟩)
  exact⟨_,e,DGet.t (k:= [AH g]) h1 hc,by rw[(h6 g).2 hg];rfl,by rw[hn];exact⟨[],he,ZA0.nil⟩⟩
theorem ZBP.at {H:Hp}{d c:Ez}{Rs:List Rw}{gs:List E3}(h:ZBP H d Rs gs){g:E3}(hc:NmT H c g)(hg:g∈gs):∃b,DGet H d (.ref c) (some (.ref b))/\ZB4 H b (grp Rs g):=by
 obtain⟨kvs,h1,h2,h3,h4,h5,h6⟩:=h
 obtain⟨b,e1,e2⟩:=(h6 g).1 hg
 have:=DGet.t (k:= [AH g]) h1 hc
 rw[e1] at this
 exact⟨b,this,e2⟩
theorem ZBP.put {H:Hp}{d c:Ez}{Rs:List Rw}{gs:List E3}(h:ZBP H d Rs gs)(r:Rw)(hc:NmT H c r.2){b:Ez}(hb:ZB4 H b (grp Rs r.2++ [r.1]))(hl:Rs.length<=1000):
  ∃H',DPut H d (.ref c) (.ref b) H'/\ZBP H' d (Rs++ [r]) (if r.2∈gs then gs else gs++ [r.2])/\∀c o,c≠d->H c=some o->H' c=some o:=by
 obtain⟨kvs,h1,h2,h3,h4,h5,h6⟩:=h
 have hkl:kvs.length=gs.length:=by have:=congrArg Ay h2;rw[AA,AA,AA] at this;exact this
 have hmo:([r.2]∈ones gs)↔r.2∈gs:=by
  constructor
  ·intro z
   obtain⟨y,hy,e⟩:=AD.mp z
   simp only[BC,and_true] at e
   rw[<-e];exact hy
  ·exactλz=>AD.mpr ⟨_,z,rfl⟩
 have hkeys:(putK kvs [AH r.2] (V.ref b)).map (·.1)=(ones (if r.2∈gs then gs else gs++ [r.2])).map λt=>t.map AH:=by
  have hany:(kvs.any λkv=>decide (kv.1=([AH r.2]:List Key)))=decide (r.2∈gs):=by
   rw[ZCV]
   by_cases z:r.2∈gs
   ·obtain⟨b',e,_⟩:=(h6 r.2).1 z
    rw[e,decide_eq_true z];rfl
   ·rw[(h6 r.2).2 z,decide_eq_false z];rfl
  unfold putK
  rw[hany]
  by_cases z:r.2∈gs
  ·rw[decide_eq_true z,if_pos rfl,if_pos z,AE,<-h2]
   refine Ah λkv _=>?_
   show(if kv.1= [AH r.2] then(kv.1,V.ref b) else kv).1=kv.1
   split<;>rfl
  ·rw[decide_eq_false z,if_neg AM,if_neg z,AX,h2,ones,ones,AX,AX]
   rfl
 have ndb:TS' H (upd H d (.dT (putK kvs [AH r.2] (.ref b)))):=λb' xs e=>by
  rw[ZAN (λz=>by rw[z,h1] at e;cases e)];exact e
 refine⟨_,DPut.t (k:= [AH r.2]) h1 hc (bigl _ (by lia)),⟨_,ZAB,hkeys,?_,λg=>?_,?_,λg=>?_⟩,λc o hc e=>by rw[ZAN hc];exact e⟩
 ·by_cases c:r.2∈gs
  ·rw[if_pos c];exact h3
  ·rw[if_neg c,Aw]
   exact⟨h3,by simp,λx hx y hy e=>by rw[AF.mp hy] at e;exact c (e▸hx)⟩
 ·have base':(∃z∈Rs++ [r],z.2=g)↔g∈gs\/g=r.2:=by
   rw[h4]
   constructor
   ·rintro⟨z,hz,e⟩
    rcases AY.mp hz with hz|hz
    ·exact .inl ⟨z,hz,e⟩
    ·rw[AF.mp hz] at e;exact .inr e.symm
   ·rintro(⟨z,hz,e⟩|e)
    ·exact⟨z,BD _ hz,e⟩
    ·exact⟨r,AU _ (by simp),e.symm⟩
  rw[base']
  by_cases c:r.2∈gs
  ·rw[if_pos c];exact⟨.inl,λh=>h.elim id λe=>e▸c⟩
  ·rw[if_neg c,AY,AF]
 ·rw[AW,Ai]
  by_cases c:r.2∈gs
  ·rw[if_pos c];lia
  ·rw[if_neg c,AW,Ai];lia
 ·rw[ZIy,ZD1]
  by_cases e:g=r.2
  ·subst e
   have c1:(if([AH r.2]:List Key)= [AH r.2] then some (V.ref b) else valV kvs [AH r.2])=some (V.ref b):=if_pos rfl
   have c2:(if r.2=r.2 then[r.1] else[])= [r.1]:=if_pos rfl
   rw[c1,c2]
   refine⟨λ_=>⟨b,rfl,hb.ts ndb⟩,λhn=>absurd ?_ hn⟩
   by_cases c:r.2∈gs
   ·rw[if_pos c];exact c
   ·rw[if_neg c];exact AU _ (by simp)
  ·rw[if_neg (show¬([AH g]:List Key)= [AH r.2] fromλz=>e (by simpa using z)),if_neg (A9 e),A5]
   have hg:(g∈if r.2∈gs then gs else gs++ [r.2])↔g∈gs:=by
    by_cases c:r.2∈gs
    ·rw[if_pos c]
    ·rw[if_neg c,AY,AF]
     exact⟨λh=>h.elim id λz=>absurd z e,.inl⟩
   rw[hg]
   refine⟨λh=>?_,(h6 g).2⟩
   obtain⟨b',e1,e2⟩:=(h6 g).1 h
   exact⟨b',e1,e2.ts ndb⟩
inductive ZIR (H:Hp)(p:Ez)(U:List (E3×List E3)):Prop
 |mk:∀(zs:List (Ez×E3×List E3)),(H p=some (.tup (zs.map λz=>V.ref z.1)))->((∀z∈zs,∃b c,H z.1=some (.tup [V.ref b,V.ref c])/\NmT H b z.2.1/\ZB4 H c z.2.2))->(zs.map (·.2)=U)->ZIR H p U
theorem ZFL {α:Type}{R:V->V->Prop}{g:α->V}:∀{xs:List α} {ys:List V},Paired R (xs.map g) ys->∃zs:List (α×V),zs.map (·.1)=xs/\zs.map (·.2)=ys/\∀z∈zs,R (g z.1) z.2
 | [],_,h=>by cases h;exact⟨[],rfl,rfl,λz hz=>by cases hz⟩
 |x::xs,_,h=>by
  rw[AR] at h
  cases h with
  |@cons _ y _ ys h1 h2=>
   obtain⟨zs,e1,e2,e3⟩:=ZFL h2
   refine⟨(x,y)::zs,by rw[AR,e1],by rw[AR,e2],λz hz=>?_⟩
   rcases AQ.mp hz with rfl|hz
   ·exact h1
   ·exact e3 z hz
end Co
namespace L2
open PySem PySem.W PySem.Spec PyProof.Rows
section
variable {X:Cx}
abbrev It3:=Ez×Key×V
inductive ZHN (Q:VK)(x:V)(H1:Hp):Prop
 |mk:∀d kvs,(x= .ref d)->(H1 d=some (.dK kvs))->(∀l (as:List It3) H',Same H1 H'->H' l=some (.tup (as.map λr=>V.ref r.1))->as.map (λr=>r.2)=kvs->(∀r∈as,H' r.1=some (.tup [kV r.2.1,r.2.2]))->Q (.ref l) H')->ZHN Q x H1
def ZOD (to:TE):TE:=λZ H Q=>to Z H λx H1=>ZHN Q x H1
theorem ZKp {P:E7}{w:FA}{es:List FZ}{vs:List (Key×E2)}(hp:Pairs (ZAU P w) es vs){kvs:List (Key×V)}(hv:KV kvs vs):es.length=kvs.length/\∀(j:Nat) e p,es[j]?=some e->kvs[j]?=some p->RelV (kV p.1) e.key/\RelV p.2 e.val:=by
 induction hp generalizing kvs with
 |nil=>cases hv;exact⟨rfl,λj e p h=>by simp at h⟩
 |cons h1 h2 _ ih=>
  cases hv with
  |cons hk r=>
   have i:=ih r
   refine⟨by rw[Ac,Ac,i.1],λj e' p' e1 e2=>?_⟩
   cases j with
   |zero=>cases e1;cases e2;exact⟨by rw[hk.1];exact ZKX h1,by rw[h2];exact hk.2⟩
   |succ j=>exact i.2 j e' p' e1 e2
variable {o:FD}{to:TE}{p pos apos cpos:Pos}
theorem ZGs (hc:X.calm=true)(hg:Gl X "tuple")(hm:X.mg "tuple"=none)(ho:PE X o to)(hbase:attributeBase o "items" X.env (eval o X.env)=eval o X.env:=by rfl)(hline:(apos.endLine==cpos.line)=true:=by rfl)
  (he:FG [Expr.Call (.Attribute o "items" apos) [] [] cpos] X.env= [(false,eval (Expr.Call (.Attribute o "items" apos) [] [] cpos) X.env)]:=by rfl):
  PE X (.Call (.Name "tuple" p) [.Call (.Attribute o "items" apos) [] [] cpos] [] pos) (ZOD to):=by
 intro pins s Z H Q I h
 refine Fc (ZDs I hg hm (u:= .type "tuple") rfl ?_ (by decide) (by decide))
 refine BY (e:=Expr.Call (.Attribute o "items" apos) [] [] cpos) (rest:= []) ?_ he rfl
 rw[he]
 refine CA ?_
 refine Gj hbase hline (thn (ho pins s Z H _ I h) λu s1 ⟨x,H1,I1,r1,d,kvs,ex,hd,q⟩=>?_)
 subst ex
 cases r1
 obtain⟨hzk,lo,vs,kv,ob,es,ep,hob,hx,hdd,_,hprs,hnd⟩:=dk_of I1.hok hd
 refine⟨"dict","dict.items",DF,EJ,EI,⟨ob,hob,hx.1⟩,(λa e=>by cases e;exact⟨ob,hob,hx.2.1⟩),Cg rfl (Ef ?_)⟩
 refine RI.view lo hob hx ?_
 refine Cf ?_
 have I2:Inv X pins Z H1 {s1 with heap:=s1.heap.push {cls:= .type "dict_items",data:= .fields #[.ref d]}}:=I1.kept (t':=s1.toks) λb o e=>AC _ e
 obtain⟨kl,kg⟩:=ZKp hprs kv
 have hsz:es.size=kvs.length:=by rw[<-Au];exact kl
 refine RI.tuple_of (I.ok.hd hc) ⟨_,AN _ rfl,rfl,rfl⟩ (AC _ hob) hdd (by lia) λh' tk as hk hl hG=>?_
 let ps:List (It3×FZ):=(as.zip (es.toList.zip kvs)).map λq=>((q.1,q.2.2),q.2.1)
 have eas:ps.map (·.1.1)=as:=by
  simp only[ps,AE]
  exact DL (by rw[Bs];lia)
 have ekv:ps.map (·.1.2)=kvs:=by
  simp only[ps,AE]
  have e1:((as.zip (es.toList.zip kvs)).map (·.2))=es.toList.zip kvs:=B7 (by rw[Bs];lia)
  have e2:(es.toList.zip kvs).map (·.2)=kvs:=B7 (by lia)
  have e3:((as.zip (es.toList.zip kvs)).map (·.2)).map (·.2)=kvs:=by rw[e1,e2]
  rw[AE] at e3
  exact e3
 have hps:∀q∈ps,h'.get? q.1.1=some {cls:= .type "tuple",data:= .seq #[q.2.key,q.2.val]}/\RelV (kV q.1.2.1) q.2.key/\RelV q.1.2.2 q.2.val:=λq hq=>by
  obtain⟨⟨a,y,kv⟩,hm',rfl⟩:=AD.mp hq
  obtain⟨j,hj⟩:=Cq.mp hm'
  rw[Bk,Bk] at hj
  obtain⟨e,ee,eg⟩:=hG.pairs j a hj.1
  rw[<-A8,hj.2.1] at ee
  obtain rfl:=Aj ee
  obtain⟨k1,k2⟩:=kg j _ kv hj.2.1 hj.2.2
  exact⟨eg,k1,k2⟩
 obtain⟨H',s3,hall,I3⟩:=Inv.tupsAll (h':=h') (ps.map λq=>(q.1.1,[kV q.1.2.1,q.1.2.2],[q.2.key,q.2.val])) I2 hk (by rw[AE];exact eas.symm▸hG.rise) (λz hz'=>by
   obtain⟨q,hq,rfl⟩:=AD.mp hz'
   exact CN (hG.above q.1.1 (by rw[<-eas];exact AD.mpr ⟨q,hq,rfl⟩))) (λz hz'=>by
   obtain⟨q,hq,rfl⟩:=AD.mp hz'
   exact⟨by show 2<=sizeLine;rw[FP];decide,.cons (hps q hq).2.1 (.cons (hps q hq).2.2 .nil),(hps q hq).1⟩)
 have rv:Vals (as.map V.ref) (as.map Ab):=by
  clear hl hG eas ekv hps hall
  induction as with
  |nil=>exact .nil
  |cons y ys ih=>exact .cons rfl ih
 have I4:=I3.laid (t':=tk) (o:= .tup (as.map V.ref)) (λb o e=>AC _ e) (AK _) (show ZBA X.prog X.w _ _ _ (.tup (as.map V.ref)) from⟨by rw[AA];lia,_,rv,ZDv.new _ _⟩)
 have nB:H' h'.objs.size=none:=I3.hok.fresh (AK _)
 have s4:=Same.new nB (.tup (as.map V.ref))
 refine⟨.ref h'.objs.size,_,I4,rfl,q _ (ps.map (·.1)) _ (s3.trans s4) ?_ (by rw[AE];exact ekv) λr hr=>?_⟩
 ·rw[ZAB,AE,<-eas,AE]
  rfl
 ·obtain⟨q',hq',rfl⟩:=AD.mp hr
  exact s4 _ _ (hall _ (AD.mpr ⟨q',hq',rfl⟩))
end
end L2
namespace HY
open PySem PySem.Builtin
theorem ZDy:typeLookup (.type "zip") "__getattr__"=pure none:=by rw[GY,GE];kernel_rfl
theorem ZCN:entryFor table "zip.__getattribute__"=some Builtin.«object.__getattribute__»:=
 entryFor_alias (id':="object.__getattribute__") (by kernel_rfl) (by decide +kernel) (by decide +kernel) (by kernel_rfl)
theorem ZMp:typeLookup (.type "zip") "keys"=pure none:=by rw[GY,GE];kernel_rfl
theorem ZMu (a:Ez)(vs:Array E2)(sl:Array (Option E2))(name:E3)(u:Tok)(hmiss:typeLookup (.type "zip") name=pure none)(hname:(["__module__","__name__","__qualname__","__doc__","__annotations__"]:List E3).contains name=false)(hsz:name.length+100<=sizeLine:=by size_fits):
  Meets (Builtin.«object.__getattribute__» ⟨[.ref a,.str name u],[]⟩) (λA R s=>s.heap.get? a=some {cls:= .type "zip",dict:=none,data:= .fields vs,slots:=sl}/\raisesAttr (.ref a) name A R s):=
 Meets.of_wp λprog w A R s hs=>by
  obtain⟨hp,g,d,tk,os⟩:=s
  obtain⟨hx,hs⟩:=hs
  have hT:(⟨hp,g,d,tk,os⟩:E4).TypeIs (.ref a) "zip":=⟨_,hx,rfl⟩
  unfold Builtin.«object.__getattribute__»
  repeat (any_goals (first|assumption|wp_step))
  simp only[hname,Am,if_false]
  repeat (any_goals (first|assumption|wp_step))
  exact wpAny_raiseAttrError hs.1 hs.2 (attrMsg_fits (by decide +kernel) hsz)
section
variable {prog:E7}{w:FA}{A:FC}{E:E2->E4->Prop}{s:E4}
theorem ZM0 {a:Ez}{vs:Array E2}{sl:Array (Option E2)}{Q:Option E2->E4->Prop}(gx:s.heap.get? a=some {cls:= .type "zip",dict:=none,data:= .fields vs,slots:=sl})(hA:A.handled=none)
  (h:∀h' tk,(∀b o,s.heap.get? b=some o->h'.get? b=some o)->Q none {s with heap:=h',toks:=tk}):E6 (model prog w) A (getAttr? (.ref a) "keys") Q E s:=by
 obtain⟨hp,gg,dd,tk,oo⟩:=s
 have tyT:∀tz,(⟨hp,gg,dd,tz,oo⟩:E4).TypeIs (.ref a) "zip":=λ_=>⟨_,gx,rfl⟩
 have u1:=Gc
 have u3:=DZ.lookup
 have u4:=DZ.bind (.ref a)
 have u5:=ZDy
 unfold getAttr? getAttrBy? getAttrBy
 repeat (any_goals (first|assumption|exact tyT _|((with_reducible show E6 _ _ (call (CB "zip.__getattribute__") _ _) _ _ _);refine GM DZ (tyT _) ZCN (F.args_zip_getattribute_2 _ _) (ZMu a vs sl "keys" _ ZMp (by decide) (by size_fits)) ⟨gx,hA,λh' tz e gx'=>?_⟩)|wp_step))
 obtain⟨t',u',he⟩:=gx'.there
 show E6 _ _ (Fq _ _ _ _ _ _ _) _ _ _
 unfold Fq
 repeat (any_goals (first|assumption|wp_step))
 exact h h' tz gx'.of.keeps
end
abbrev Zip (h:E9)(z a b:Ez)(f0:E2)(g:Bool):Prop:=h.get? z=some {cls:= .type "zip",dict:=none,data:= .fields #[f0,.bool g,.bool false,.ref a,.ref b],slots:=#[]}
structure ZT (h:E9)(z a b c d q:Ez)(x:E3)(t:Tok)(ys:Array E2)(k:Nat):Prop where
 zip:∃f0 g,Zip h z a b f0 g/\((f0= .none/\g=false)\/∃(e:Ez) (oe:FF),f0=FO (e:Int)/\h.get? e=some oe/\oe.cls= .type "tuple"/\e≠z/\e≠b/\e≠c/\e≠d)
 ti:IsPair h a (.ref c) (.ref d)
 own:∃u v,IsPair h b u v
 i1:h.IsStrIter c "str_ascii_iterator" x t k
 i2:h.IsTupleIter d q k
 t2:h.IsTuple q ys
structure ZA (z a b c d q:Ez):Prop where
 zb:z≠b
 zc:z≠c
 zd:z≠d
 bc:b≠c
 bd:b≠d
 cd:c≠d
 a4:a≠z/\a≠b/\a≠c/\a≠d
 q4:q≠z/\q≠b/\q≠c/\q≠d
theorem stAt {h h':E9}{c:Ez}{ty:String}{x:E3}{t:Tok}{k:Nat}(i:h.IsStrIter c ty x t k)(f:∀o,h.get? c=some o->h'.get? c=some o):h'.IsStrIter c ty x t k:=let⟨o,g,r⟩:=i;⟨o,f o g,r⟩
theorem sb {x:Ez}{h h':E9}(m:Heap.SameBut x h h'){b:Ez}{o:FF}(n:b≠x)(e:h.get? b=some o):h'.get? b=some o:=m.extBut b o n e
section
variable {prog:E7}{w:FA}{A:FC}{E:E2->E4->Prop}{s:E4}{z a b c d q:Ez}{x:E3}{t:Tok}{ys:Array E2}{k cp:Nat}{y:E2}
theorem ZMF {Q:E2->E4->Prop}(D:ZA z a b c d q)(S:ZT s.heap z a b c d q x t ys k)(hx:x.cps[k]?=some cp)(hy:ys[k]?=some y)
  (h:∀g,ZT g z a b c d q x t ys (k+1)->IsPair g s.heap.objs.size (.str ⟨#[cp]⟩ s.toks) y->(∀e o,e≠z->e≠b->e≠c->e≠d->s.heap.get? e=some o->g.get? e=some o)->Q (.ref s.heap.objs.size) {s with heap:=g,toks:=s.toks+1}):
  E6 (model prog w) A (Builtin.«zip.__next__» ⟨[.ref z],[]⟩) (λfin s'=>∃v,fin= .done (.ret v)/\Q v s') E s:=by
 obtain⟨⟨f0,g0,gz,hf⟩,Sti,⟨u,v,Sown⟩,Si1,Si2,St2⟩:=S
 obtain⟨hp,gs,dr,tk,os⟩:=s
 dsimp only at*
 show E6 _ _ (field (.ref z) 2 >>= _) _ _ _
 refine Ey (FM gz rfl (x:= .bool false) rfl (Ey (FM gz rfl (x:= .ref a) rfl (Ey (FR Sti rfl ?_)))))
 refine Ey ?_
 unfold SmallTypes.ownedTupleIsFree
 rcases hf with⟨rfl,rfl⟩|⟨e0,oe,rfl,he0,hoc,ne1,ne2,ne3,ne4⟩
 ·refine Ey (FM gz rfl (x:= .none) rfl (E5 ?_))
  simp only[if_true]
  refine Ey (Fe (Ey (FM gz rfl (x:= .ref b) rfl (Ey (FT gz (by simp) λg1 z1 m1=>Ey ?_)))))
  replace z1:Zip g1 z a b .ellipsis false:=z1
  simp only[List.zipIdx_cons,List.zipIdx_nil,CV,Di]
  refine Ey (Ey (G1 ?_))
  show E6 _ _ (SmallTypes.nextOf (.ref c) >>= _) _ _ _
  refine Ey (Gk (stAt Si1 λo e=>sb m1 D.zc.symm e) hx λg2 c2 m2=>E5 ?_)
  have b2:IsPair g2 b u v:=sb m2 D.bc (sb m1 D.zb.symm Sown)
  refine Ey (FR b2 rfl (Ey (Gy b2 λg3 b3 m3=>Ey (Fl (E5 ?_)))))
  replace b3:IsPair g3 b (.str ⟨#[cp]⟩ tk) v:=b3
  refine Ey (Ey (G1 ?_))
  show E6 _ _ (SmallTypes.nextOf (.ref d) >>= _) _ _ _
  refine Ey (HZ.turn_item (HZ.itAt Si2 λo e=>sb m3 D.bd.symm (sb m2 D.cd.symm (sb m1 D.zd.symm e))) (HZ.tpAt St2 λo e=>sb m3 D.q4.2.1 (sb m2 D.q4.2.2.1 (sb m1 D.q4.1 e))) hy λg4 d4 m4=>E5 ?_)
  have b4:IsPair g4 b (.str ⟨#[cp]⟩ tk) v:=sb m4 D.bd b3
  refine Ey (FR b4 rfl (Ey (Gy b4 λg5 b5 m5=>Ey (Fl (E5 (E5 ?_))))))
  replace b5:IsPair g5 b (.str ⟨#[cp]⟩ tk) y:=b5
  refine Ey (FR b5 rfl (Ey (Ga (Ey ?_))))
  have sz:g5.objs.size=hp.objs.size:=by rw[m5.1,m4.1,m3.1,m2.1,m1.1]
  have z5:Zip g5 z a b .ellipsis false:=sb m5 D.zb (sb m4 D.zd (sb m3 D.zb (sb m2 D.zc z1)))
  have old:∀e o,e≠z->e≠b->e≠c->e≠d->hp.get? e=some o->g5.get? e=some o:=λe o n1 n2 n3 n4 q=>sb m5 n2 (sb m4 n4 (sb m3 n2 (sb m2 n3 (sb m1 n1 q))))
  have zl:z<g5.objs.size:=AI z5
  have bl:b<g5.objs.size:=AI b5
  have cl:c<g5.objs.size:=by obtain⟨o,e,_⟩:=Si1;rw[sz];exact AI e
  have dl:d<g5.objs.size:=by obtain⟨o,e,_⟩:=Si2;rw[sz];exact AI e
  show E6 _ _ (SmallTypes.ownedTupleHandOut (.ref z) (.ref g5.objs.size)) _ _ _
  unfold SmallTypes.ownedTupleHandOut
  have z6:Zip (g5.push {cls:= .type "tuple",data:= .seq #[.str ⟨#[cp]⟩ tk,y]}) z a b .ellipsis false:=AC _ z5
  refine Ey (FT z6 (by simp) λg7 z7 m7=>?_)
  replace z7:Zip g7 z a b (FO g5.objs.size) false:=z7
  refine FT z7 (by simp) λg8 z8 m8=>?_
  replace z8:Zip g8 z a b (FO g5.objs.size) false:=z8
  have up:∀e o,e≠z->g5.get? e=some o->g8.get? e=some o:=λe o n q=>sb m8 n (sb m7 n (AC _ q))
  have np:IsPair g8 g5.objs.size (.str ⟨#[cp]⟩ tk) y:=sb m8 (A4 zl) (sb m7 (A4 zl) (AN _ rfl))
  refine E5 ⟨_,rfl,?_⟩
  show Q (.ref g5.objs.size) _
  have S8:ZT g8 z a b c d q x t ys (k+1):=⟨⟨_,_,z8,.inr ⟨_,_,rfl,np,rfl,A4 zl,A4 bl,A4 cl,A4 dl⟩⟩,up _ _ D.a4.1 (old _ _ D.a4.1 D.a4.2.1 D.a4.2.2.1 D.a4.2.2.2 Sti),⟨_,_,up _ _ D.zb.symm b5⟩,stAt c2 λo e=>up _ o D.zc.symm (sb m5 D.bc.symm (sb m4 D.cd (sb m3 D.bc.symm e))),HZ.itAt d4 λo e=>up _ o D.zd.symm (sb m5 D.bd.symm e),
   HZ.tpAt St2 λo e=>up _ o D.q4.1 (old _ o D.q4.1 D.q4.2.1 D.q4.2.2.1 D.q4.2.2.2 e)⟩
  rw[sz] at np ⊢
  exact h g8 S8 np λe o n1 n2 n3 n4 q=>up e o n1 (old e o n1 n2 n3 n4 q)
 ·refine FE (Q:=λr s'=>r=false/\∃h1:E9,s'=⟨h1,gs,dr,tk,os⟩/\Zip h1 z a b (FO e0) true/\Heap.SameBut z hp h1) ?_ (λr s' hz=>?_) λ_ _ e=>e
  ·refine Ey (FM gz rfl (x:=FO e0) rfl ?_)
   show E6 _ _ (loadIfAlive ((e0:Int).toNat) >>= _) _ _ _
   rw[Bu]
   refine Ey (Dp he0 ?_)
   simp only[Dk,Am,if_false]
   refine Ey (FM gz rfl (x:= .bool g0) rfl ?_)
   cases g0 with
   |true=>
    rw[if_neg (show¬((Bc true !=Bc true)=true) from AM)]
    exact E5 ⟨rfl,hp,rfl,gz,C4 _ _⟩
   |false=>
    rw[if_pos (show(Bc false !=Bc true)=true from rfl)]
    exact Ey (FT gz (by simp) λh3 he3 hs3=>E5 ⟨rfl,h3,rfl,he3,hs3⟩)
  ·obtain⟨rfl,g1,rfl,z1,m1⟩:=hz
   simp only[Am,if_false]
   refine Ey ?_
   rw[<-CZ]
   simp only[CV,Di]
   refine Ey (Ey (FK ?_))
   show E6 _ _ (SmallTypes.nextOf (.ref c) >>= _) _ _ _
   refine Ey (Gk (stAt Si1 λo e=>sb m1 D.zc.symm e) hx λg2 c2 m2=>E5 (E5 ?_))
   refine Ey (Ey (FK ?_))
   show E6 _ _ (SmallTypes.nextOf (.ref d) >>= _) _ _ _
   refine Ey (HZ.turn_item (HZ.itAt Si2 λo e=>sb m2 D.cd.symm (sb m1 D.zd.symm e)) (HZ.tpAt St2 λo e=>sb m2 D.q4.2.2.1 (sb m1 D.q4.1 e)) hy λg4 d4 m4=>E5 (E5 (E5 ?_)))
   refine Ey (Ga (E5 ⟨_,rfl,?_⟩) (by show 2<=sizeLine;rw[FP];decide))
   have sz:g4.objs.size=hp.objs.size:=by rw[m4.1,m2.1,m1.1]
   have old:∀e o,e≠z->e≠c->e≠d->hp.get? e=some o->(g4.push {cls:= .type "tuple",data:= .seq #[.str ⟨#[cp]⟩ tk,y]}).get? e=some o:=λe o n1 n3 n4 q=>AC _ (sb m4 n4 (sb m2 n3 (sb m1 n1 q)))
   have np:IsPair (g4.push {cls:= .type "tuple",data:= .seq #[.str ⟨#[cp]⟩ tk,y]}) g4.objs.size (.str ⟨#[cp]⟩ tk) y:=AN _ rfl
   have z4:Zip (g4.push {cls:= .type "tuple",data:= .seq #[.str ⟨#[cp]⟩ tk,y]}) z a b (FO e0) true:=AC _ (sb m4 D.zd (sb m2 D.zc z1))
   rw[sz] at np ⊢
   exact h _ ⟨⟨_,_,z4,.inr ⟨e0,oe,rfl,old _ _ ne1 ne3 ne4 he0,hoc,ne1,ne2,ne3,ne4⟩⟩,old _ _ D.a4.1 D.a4.2.2.1 D.a4.2.2.2 Sti,⟨u,v,old _ _ D.zb.symm D.bc D.bd Sown⟩,stAt c2 λo e=>AC _ (sb m4 D.cd e),HZ.itAt d4 λo e=>AC _ e,HZ.tpAt St2 λo e=>old _ o D.q4.1 D.q4.2.2.1 D.q4.2.2.2 e⟩ np λe o n1 n2 n3 n4 q=>old e o n1 n3 n4 q
theorem ZMG {Q:PySem.Fin->E4->Prop}(hh:A.handled=none)(D:ZA z a b c d q)(S:ZT s.heap z a b c d q x t ys k)(hx:x.cps[k]?=none)
  (h:∀g e,(∀e o,e≠z->e≠c->s.heap.get? e=some o->g.get? e=some o)->(∃o,g.get? e=some o/\o.cls= .type "StopIteration")->E (.ref e) {s with heap:=g}):
  E6 (model prog w) A (Builtin.«zip.__next__» ⟨[.ref z],[]⟩) Q E s:=by
 obtain⟨⟨f0,g0,gz,hf⟩,Sti,⟨u,v,Sown⟩,Si1,Si2,St2⟩:=S
 obtain⟨hp,gs,dr,tk,os⟩:=s
 dsimp only at*
 show E6 _ _ (field (.ref z) 2 >>= _) _ _ _
 refine Ey (FM gz rfl (x:= .bool false) rfl (Ey (FM gz rfl (x:= .ref a) rfl (Ey (FR Sti rfl ?_)))))
 refine Ey ?_
 unfold SmallTypes.ownedTupleIsFree
 rcases hf with⟨rfl,rfl⟩|⟨e0,oe,rfl,he0,hoc,ne1,ne2,ne3,ne4⟩
 ·refine Ey (FM gz rfl (x:= .none) rfl (E5 ?_))
  simp only[if_true]
  refine Ey (Fe (Ey (FM gz rfl (x:= .ref b) rfl (Ey (FT gz (by simp) λg1 z1 m1=>Ey ?_)))))
  replace z1:Zip g1 z a b .ellipsis false:=z1
  simp only[List.zipIdx_cons,List.zipIdx_nil,CV,Di]
  refine Ey (Ey (G1 ?_))
  show E6 _ _ (SmallTypes.nextOf (.ref c) >>= _) _ _ _
  refine Ey (Gq hh (stAt Si1 λo e=>sb m1 D.zc.symm e) hx λg2 e m2 ⟨oe,ge,ce⟩=>?_)
  have z2:Zip g2 z a b .ellipsis false:=m2 _ _ D.zc z1
  have ez:e≠z:=λy=>by subst y;rw[z2] at ge;cases ge;simp at ce
  exact FT z2 (by simp) λg3 _ m3=>h g3 e (λe o n1 n2 y=>sb m3 n1 (m2 _ _ n2 (sb m1 n1 y))) ⟨oe,sb m3 ez ge,ce⟩
 ·refine FE (Q:=λr s'=>r=false/\∃h1:E9,s'=⟨h1,gs,dr,tk,os⟩/\Zip h1 z a b (FO e0) true/\Heap.SameBut z hp h1) ?_ (λr s' hz=>?_) λ_ _ e=>e
  ·refine Ey (FM gz rfl (x:=FO e0) rfl ?_)
   show E6 _ _ (loadIfAlive ((e0:Int).toNat) >>= _) _ _ _
   rw[Bu]
   refine Ey (Dp he0 ?_)
   simp only[Dk,Am,if_false]
   refine Ey (FM gz rfl (x:= .bool g0) rfl ?_)
   cases g0 with
   |true=>
    rw[if_neg (show¬((Bc true !=Bc true)=true) from AM)]
    exact E5 ⟨rfl,hp,rfl,gz,C4 _ _⟩
   |false=>
    rw[if_pos (show(Bc false !=Bc true)=true from rfl)]
    exact Ey (FT gz (by simp) λh3 he3 hs3=>E5 ⟨rfl,h3,rfl,he3,hs3⟩)
  ·obtain⟨rfl,g1,rfl,z1,m1⟩:=hz
   simp only[Am,if_false]
   refine Ey ?_
   rw[<-CZ]
   simp only[CV,Di]
   refine Ey (Ey (FK ?_))
   show E6 _ _ (SmallTypes.nextOf (.ref c) >>= _) _ _ _
   exact Ey (Gq hh (stAt Si1 λo e=>sb m1 D.zc.symm e) hx λg2 e m2 ge=>h g2 e (λe o n1 n2 y=>m2 _ _ n2 (sb m1 n1 y)) ge)
theorem ZK9 {Q:Option E2->E4->Prop}(D:ZA z a b c d q)(S:ZT s.heap z a b c d q x t ys k)(hx:x.cps[k]?=some cp)(hy:ys[k]?=some y)
  (h:∀g,ZT g z a b c d q x t ys (k+1)->IsPair g s.heap.objs.size (.str ⟨#[cp]⟩ s.toks) y->(∀e o,e≠z->e≠b->e≠c->e≠d->s.heap.get? e=some o->g.get? e=some o)->Q (some (.ref s.heap.objs.size)) {s with heap:=g,toks:=s.toks+1}):E6 (model prog w) A (FY (.ref z)) Q E s:=by
 have ty:s.TypeIs (.ref z) "zip":=by obtain⟨f0,g0,gz,_⟩:=S.zip;exact⟨_,gz,rfl⟩
 unfold FY
 exact Ey (GI (FW (name:=A2 "__next__") ty DA (FQ DA ty F.entry_zip_next
  (ZMF D S hx hy λg a1 a2 a3=>E5 (h g a1 a2 a3)) (F.args_zip_next_1 _))))
theorem ZLA {Q:Option E2->E4->Prop}(hh:A.handled=none)(D:ZA z a b c d q)(S:ZT s.heap z a b c d q x t ys k)(hx:x.cps[k]?=none)
  (h:∀g,(∀e o,e≠z->e≠c->s.heap.get? e=some o->g.get? e=some o)->Q none {s with heap:=g}):E6 (model prog w) A (FY (.ref z)) Q E s:=by
 have ty:s.TypeIs (.ref z) "zip":=by obtain⟨f0,g0,gz,_⟩:=S.zip;exact⟨_,gz,rfl⟩
 unfold FY
 refine Ey (GI (FW (name:=A2 "__next__") ty DA (FQ DA ty F.entry_zip_next
  (ZMG hh D S hx λg e hk ⟨o,ho,hc⟩=>Ey (Fz (T:="StopIteration") (b:=true) ⟨o,ho,hc⟩ Gx (E5 (h _ hk)))) (F.args_zip_next_1 _))))
end
abbrev si (x:E3)(t:Tok):FF:={cls:= .type "str_ascii_iterator",data:= .fields #[.str x t,.int 0 0]}
abbrev w1 (h:E9)(x:E3)(t:Tok):E9:=h.push (si x t)
abbrev w2 (h:E9)(x:E3)(t:Tok)(q:Ez):E9:=(w1 h x t).push (HZ.ti q)
abbrev w3 (h:E9)(x:E3)(t:Tok)(q:Ez):E9:=(w2 h x t q).push {cls:= .type "tuple",data:= .seq #[.ref h.objs.size,.ref (w1 h x t).objs.size]}
abbrev w4 (h:E9)(x:E3)(t:Tok)(q:Ez):E9:=(w3 h x t q).push {cls:= .type "tuple",data:= .seq #[.none,.none]}
abbrev w5 (h:E9)(x:E3)(t:Tok)(q:Ez):E9:=(w4 h x t q).push {cls:= .type "zip",data:= .fields #[.none,.bool false,.bool false,.ref (w2 h x t q).objs.size,.ref (w3 h x t q).objs.size]}
theorem ZJv (x:E3)(t:Tok)(q:Ez)(ys:Array E2)(ha:x.cps.all (·<128)=true):Meets (Builtin.«zip.__new__» ⟨[.type "zip",.str x t,.ref q],[]⟩)
  (λ_ R s=>s.heap.IsTuple q ys/\R (.ok (.ret (.ref (w4 s.heap x t q).objs.size))) {s with heap:=w5 s.heap x t q}):=
 .of_wp λprog w A R s h=>by
  obtain⟨hp,gs,dr,tk,os⟩:=s
  obtain⟨h2,h⟩:=h
  have sz:=sub_zip
  have t2:Heap.IsTuple (Shared.heap ⟨hp.push (si x t),gs,dr,tk,os⟩) q ys:=Dd h2 _
  wp_walk using wpAny_pyIter_ascii ha,GA t2
  exact⟨_,rfl,h⟩
section
variable {prog:E7}{w:FA}{A:FC}{E:E2->E4->Prop}{s:E4}{q:Ez}{x:E3}{t:Tok}{ys:Array E2}
theorem made {Q:E2->E4->Prop}(ha:x.cps.all (·<128)=true)(h2:s.heap.IsTuple q ys)
  (h:∀g,ZT g (s.heap.objs.size+4) (s.heap.objs.size+2) (s.heap.objs.size+3) s.heap.objs.size (s.heap.objs.size+1) q x t ys 0->g.objs.size=s.heap.objs.size+5->
   (∀e o,s.heap.get? e=some o->g.get? e=some o)->Q (.ref (s.heap.objs.size+4)) {s with heap:=g}):E6 (model prog w) A (call (.type "zip") [.str x t,.ref q]) Q E s:=by
 refine callType_new F.called_zip (by decide) (F.typeCall_zip_2 _ _) (F.newCall_zip_2 _ _) (λobj=>F.args_object_init_3 obj _ _) F.entry_zip_new (ZJv x t q ys ha) ⟨h2,?_⟩
 have n1:(w1 s.heap x t).objs.size=s.heap.objs.size+1:=BE ..
 have n2:(w2 s.heap x t q).objs.size=s.heap.objs.size+2:=by rw[BE,n1]
 have n3:(w3 s.heap x t q).objs.size=s.heap.objs.size+3:=by rw[BE,n2]
 have n4:(w4 s.heap x t q).objs.size=s.heap.objs.size+4:=by rw[BE,n3]
 have n5:(w5 s.heap x t q).objs.size=s.heap.objs.size+5:=by rw[BE,n4]
 have up {h:E9} {e:Ez} {o o':FF} (y:h.get? e=some o):(h.push o').get? e=some o:=AC _ y
 have e5:(w5 s.heap x t q).get? (w4 s.heap x t q).objs.size=some _:=AN _ rfl
 have e4:(w5 s.heap x t q).get? (w3 s.heap x t q).objs.size=some _:=up (AN _ rfl)
 have e3:(w5 s.heap x t q).get? (w2 s.heap x t q).objs.size=some _:=up (up (AN _ rfl))
 have e2:(w5 s.heap x t q).get? (w1 s.heap x t).objs.size=some _:=up (up (up (AN _ rfl)))
 have e1:(w5 s.heap x t q).get? s.heap.objs.size=some _:=up (up (up (up (AN _ rfl))))
 have keep:∀e o,s.heap.get? e=some o->(w5 s.heap x t q).get? e=some o:=λe o y=>up (up (up (up (up y))))
 show _/\_
 rw[n2,n3,n4] at e5
 rw[n1,n2] at e3
 rw[n3] at e4
 rw[n1] at e2
 rw[n4]
 exact⟨⟨_,e5,rfl⟩,h _ ⟨⟨_,_,e5,.inl ⟨rfl,rfl⟩⟩,e3,⟨_,_,e4⟩,⟨_,e1,rfl,rfl⟩,⟨_,e2,rfl,rfl⟩,HZ.tpAt h2 λo y=>keep _ o y⟩ n5 keep⟩
end
section
variable {prog:E7}{w:FA}{A:FC}{E:E2->E4->Prop}{s:E4}{K:Type}[DecidableEq K]{knd:KeyKind prog w K}
theorem ZN8 {h h':E9}{z a b c d q m:Ez}{x:E3}{t:Tok}{ys:Array E2}{k:Nat}{om:FF}(S:ZT h z a b c d q x t ys k)(hm:h.get? m=some om)(hc:om.cls= .type "dict")(hs:Heap.SameBut m h h'):ZT h' z a b c d q x t ys k:=by
 obtain⟨⟨f0,g0,gz,hf⟩,Sti,⟨u,v,Sown⟩,⟨o1,g1,k1,r1⟩,⟨o2,g2,k2,r2⟩,o3,g3,k3,r3⟩:=S
 have ne:∀e oe,h.get? e=some oe->oe.cls≠ .type "dict"->e≠m:=λe oe he hn z=>by
  subst z
  rw[hm] at he
  cases he
  exact hn hc
 have up:∀e oe,h.get? e=some oe->oe.cls≠ .type "dict"->h'.get? e=some oe:=λe oe he hn=>sb hs (ne e oe he hn) he
 have nZi:(BQ "zip":E2)≠ .type "dict":=by decide
 have nTu:(BQ "tuple":E2)≠ .type "dict":=by decide
 refine⟨⟨f0,g0,up _ _ gz nZi,hf.elim .inl λ⟨e,oe,h1,h2,h3,h4⟩=> .inr ⟨e,oe,h1,up _ _ h2 (by rw[h3];decide),h3,h4⟩⟩,up _ _ Sti nTu,⟨u,v,up _ _ Sown nTu⟩,⟨o1,up _ _ g1 (by rw[k1];decide),k1,r1⟩,⟨o2,up _ _ g2 (by rw[k2];decide),k2,r2⟩,o3,up _ _ g3 (by rw[k3];decide),k3,r3⟩
def Kvz (knd:KeyKind prog w K)(x:E3)(ys:Array E2)(kvs:List (K×E2)):Prop:=kvs.length=x.cps.size/\ys.size=x.cps.size/\∀(j:Nat) cp kx,x.cps[j]?=some cp->kvs[j]?=some kx->ys[j]?=some kx.2/\∀u,knd.is kx.1 (.str ⟨#[cp]⟩ u)=true
theorem ZJ2 {z a b c d q m:Ez}{x:E3}{t:Tok}{ys:Array E2}{kvs:List (K×E2)}{h0:E9}{R:Result->E4->Prop}(hh:A.handled=none)(D:ZA z a b c d q)(hP:Kvz knd x ys kvs)(nm:m≠z/\m≠b/\m≠c/\m≠d)(hz:x.cps.size<=1000)
  (hR:∀h tk,h.DictOf knd m (merged [] kvs)->(∀e o,e≠m->e≠z->e≠b->e≠c->e≠d->h0.get? e=some o->h.get? e=some o)->R (.ok (.ret .none)) {s with heap:=h,toks:=tk}):
  ∀(n i:Nat) (h:E9) (tk:Nat),x.cps.size-i=n->i<=x.cps.size->ZT h z a b c d q x t ys i->h.DictOf knd m (merged [] (kvs.take i))->(∀e o,e≠m->e≠z->e≠b->e≠c->e≠d->h0.get? e=some o->h.get? e=some o)->Fj (model prog w) A (.builtin "dict.update.loop" ⟨[.ref m,.ref z,FO (i:Int),.none],[]⟩) R {s with heap:=h,toks:=tk}:=by
 intro n
 induction n with
 |zero=>
  intro i h tk hn hi S hD hk
  refine FI HD.entry_loop ?_
  rw[An HD.plain_loop _]
  show E6 _ A.in1 (FY (.ref z) >>= _) _ _ _
  refine Ey (ZLA (k:=i) hh D S (by rw[Ci];lia) λg hg=>?_)
  dsimp only
  refine Ey (m:=CH m []) (E5 (E5 (hR g _ ?_ ?_)))
  ·have e:kvs.take i=kvs:=BH (by have:=hP.1;lia)
   rw[e] at hD
   obtain⟨o,es,ep,ho,r⟩:=hD
   exact⟨o,es,ep,hg _ _ nm.1 nm.2.2.1 ho,r⟩
  ·intro e o n1 n2 n3 n4 n5 he
   exact hg e o n2 n4 (hk e o n1 n2 n3 n4 n5 he)
 |succ n ih=>
  intro i h tk hn hi S hD hk
  refine FI HD.entry_loop ?_
  rw[An HD.plain_loop _]
  have hlt:i<x.cps.size:=by lia
  have hlk:i<kvs.length:=by have:=hP.1;lia
  have hgx:x.cps[i]?=some x.cps[i]:=BV hlt
  have hgk:kvs[i]?=some kvs[i]:=AG hlk
  obtain⟨hy,hkey⟩:=hP.2.2 i _ _ hgx hgk
  show E6 _ A.in1 (FY (.ref z) >>= _) _ _ _
  refine Ey (ZK9 (k:=i) D S hgx hy λg S1 hp hg=>?_)
  dsimp only
  have ty:∀tk',Shared.TypeIs ⟨g,s.gens,s.drawn,tk',s.os⟩ (.ref h.objs.size) "tuple":=λ_=>⟨_,hp,rfl⟩
  have hD1:g.DictOf knd m (merged [] (kvs.take i)):=by
   obtain⟨o,es,ep,ho,r⟩:=hD
   exact⟨o,es,ep,hg _ _ nm.1 nm.2.1 nm.2.2.1 nm.2.2.2 ho,r⟩
  refine Ey (FK (Ey (FU ?_)))
  unfold CQ
  refine Ey (Fb (ty _) ?_)
  rw[if_pos (by decide)]
  refine Ey (FR hp rfl (E5 ?_))
  show E6 _ _ (holding [.str ⟨#[x.cps[i]]⟩ tk,kvs[i].2] (dictSet m (.str ⟨#[x.cps[i]]⟩ tk) kvs[i].2)) _ _ _
  refine FK (GZ (hkey _) hD1 (λh2 hd2 hs2=>?_) (by
   have e1:=merged_length_le ([]:List (K×E2)) (kvs.take i)
   have e2:(kvs.take i).length<=kvs.length:=by rw[Ax];lia
   have e3:=hP.1
   simp only[Bj] at e1
   rw[FP];lia))
  obtain⟨om,_,_,hom,hcl,_⟩:=id hD1
  refine E5 ⟨FN HD.plain_loop _,ih (i+1) h2 _ (by lia) (by lia) (ZN8 S1 hom hcl.1 hs2) ?_ ?_⟩
  ·rw[merged_take_succ [] kvs i kvs[i] hgk]
   exact hd2
  ·intro e o n1 n2 n3 n4 n5 he
   exact(hs2.2 e n1).trans (hg e o n2 n3 n4 n5 (hk e o n1 n2 n3 n4 n5 he))
theorem call_dictZ {z a b c d q:Ez}{x:E3}{t:Tok}{ys:Array E2}{kvs:List (K×E2)}{Q:E2->E4->Prop}(hh:A.handled=none)(D:ZA z a b c d q)(S:ZT s.heap z a b c d q x t ys 0)(hP:Kvz knd x ys kvs)(hz:x.cps.size<=1000)
  (h:∀h' tk,h'.DictOf knd s.heap.objs.size (merged [] kvs)->(∀e o,e≠z->e≠b->e≠c->e≠d->s.heap.get? e=some o->h'.get? e=some o)->Q (.ref s.heap.objs.size) {s with heap:=h',toks:=tk}):
  E6 (model prog w) A (call (.type "dict") [.ref z]) Q E s:=by
 refine callType_codes (Q₁:=λob1 s₁=>ob1= .ref s.heap.objs.size/\s₁={s with heap:=s.heap.push {cls:= .type "dict",data:= .dict #[]}}) Da (C8 _) DO (GS _ ⟨rfl,rfl⟩) ?_
 rintro ob1 s₁ ⟨rfl,rfl⟩
 have fresh0:(s.heap.push {cls:= .type "dict",data:= .dict #[]}).DictOf knd s.heap.objs.size []:=DE s.heap
 obtain⟨⟨f0,g0,gz,hf⟩,Sti,⟨u,v,Sown⟩,⟨o1,g1,k1,r1⟩,⟨o2,g2,k2,r2⟩,o3,g3,k3,r3⟩:=id S
 have gz1:Zip (s.heap.push {cls:= .type "dict",data:= .dict #[]}) z a b f0 g0:=AC _ gz
 refine⟨fresh0.typeIs,DG _ _,?_⟩
 unfold Builtin.«dict.__init__»
 refine Ey ?_
 unfold CG
 refine Ey (Fk fresh0.typeIs ?_)
 show E6 _ _ (pure (s.heap.objs.size,[Ab z])) _ _ _
 refine E5 ?_
 show E6 _ _ (BI "dict.__init__" s.heap.objs.size (.ref z) [] .none) _ _ _
 unfold BI
 refine Ey (Fb (T:="zip") ⟨_,gz1,rfl⟩ ?_)
 rw[if_pos (by decide)]
 refine Ey (ZM0 gz1 hh λh2 tk2 k2'=>?_)
 rw[if_pos (show(none:Option E2).isNone=true from rfl)]
 refine Ey (Fe ?_)
 have kk:∀e o,s.heap.get? e=some o->h2.get? e=some o:=λe o he=>k2' e o (AC _ he)
 have S2:ZT h2 z a b c d q x t ys 0:=⟨⟨f0,g0,kk _ _ gz,hf.elim .inl λ⟨e,oe,h1,h2,h3,h4⟩=> .inr ⟨e,oe,h1,kk _ _ h2,h3,h4⟩⟩,kk _ _ Sti,⟨u,v,kk _ _ Sown⟩,⟨o1,kk _ _ g1,k1,r1⟩,⟨o2,kk _ _ g2,k2,r2⟩,o3,kk _ _ g3,k3,r3⟩
 have tyZ:Shared.TypeIs ⟨h2,s.gens,s.drawn,tk2,s.os⟩ (.ref z) "zip":=⟨_,kk _ _ gz,rfl⟩
 refine Ey (Gf tyZ F.slot_zip_iter (FQ F.slot_zip_iter tyZ F.entry_zip_iter ?_ (F.args_zip_iter_1 _)))
 show E6 _ _ (ret (.ref z)) _ _ _
 refine E5 ⟨_,rfl,"zip",_,tyZ,DA.lookup,?_⟩
 have e0:FO 0=FO ((0:Nat):Int):=rfl
 rw[e0]
 have ml:∀e o,s.heap.get? e=some o->s.heap.objs.size≠e:=λe o he=>A4 (AI he)
 refine E5 ⟨FN HD.plain_loop _,ZJ2 (A:=A.in1) (s:=s) (knd:=knd) (h0:=s.heap) (kvs:=kvs) (m:=s.heap.objs.size) hh D hP ⟨ml _ _ gz,ml _ _ Sown,ml _ _ g1,ml _ _ g2⟩ hz
  (λh' tk hD hk=>⟨rfl,h h' tk hD λe o n1 n2 n3 n4 he=>hk e o (AV (AI he)) n1 n2 n3 n4 he⟩) x.cps.size 0 _ _ (by simp) (Aq _) S2 ?_ λe o _ _ _ _ _ he=>kk e o he⟩
 rw[Bp]
 obtain⟨o',es,ep,ho',r⟩:=id fresh0
 exact⟨o',es,ep,k2' _ _ ho',r⟩
end
end HY
namespace L2
open PySem PySem.W PySem.Spec PyProof.Rows
section
variable {X:Cx}
def zipK (x:E3)(ys:List V):List (Key×V):=(x.cps.toList.zip ys).map λc=>((AH ⟨#[c.1]⟩:Key),c.2)
inductive ZFZ (K:AB)(Q:VK)(vs:List V)(H1:Hp):Prop
 |mk:∀x q ys,(vs= [.str x,.ref q])->(SqT K H1 q ys)->(x.cps.all (·<128)=true)->(ys.length=x.cps.size)->(x.cps.size<=1000)->(∀p,H1 p=none->Q (.ref p) (upd H1 p (.dK (ZAw [] (zipK x ys)))))->ZFZ K Q vs H1
def ZMJ (K:AB)(ta:TA):TE:=λZ H Q=>ta Z H λvs H1=>ZFZ K Q vs H1
theorem ZNe:∀{cs:List Nat} {ys:List V} {its:List E2},Vals ys its->cs.length=ys.length->KV ((cs.zip ys).map λc=>((AH ⟨#[c.1]⟩:Key),c.2)) ((cs.zip its).map λc=>((AH ⟨#[c.1]⟩:Key),c.2))
 | [],_,_,_,_=>by rw[Cj,Cj];exact .nil
 |c::cs,[],_,_,h=>by simp at h
 |c::cs,y::ys,_,.cons r1 r2,h=>by
  rw[Ca,Ca]
  exact .cons ⟨rfl,r1⟩ (ZNe r2 (by simpa using h))
theorem ZJk {e1 e2:FD}{ta:TA}{p pp pos zpos:Pos}(hc:X.calm=true)(hg:Gl X "dict")(hm:X.mg "dict"=none)(hgz:Gl X "zip")(hmz:X.mg "zip"=none)(ha:PA X [e1,e2] ta)
  (he:FG [Expr.Call (.Name "zip" pp) [e1,e2] [] zpos] X.env= [(false,eval (Expr.Call (.Name "zip" pp) [e1,e2] [] zpos) X.env)]:=by rfl)
  (he2:FG [e1,e2] X.env=(false,eval e1 X.env)::FG [e2] X.env:=by rfl) (hpl:(backTo zpos (FG [e2] X.env)).any (·.1)=false:=by rfl):
  PE X (.Call (.Name "dict" p) [.Call (.Name "zip" pp) [e1,e2] [] zpos] [] pos) (ZMJ X.K ta):=by
 intro pins s Z H Q I h
 refine Fc (ZDs I hg hm (u:= .type "dict") rfl ?_ (by decide) (by decide))
 refine BY (e:=Expr.Call (.Name "zip" pp) [e1,e2] [] zpos) (rest:= []) ?_ he rfl
 rw[he]
 refine CA ?_
 refine Fc (ZDs I hgz hmz boot_zip ?_)
 refine BY (thn (ha zpos pins s Z H _ I h) λus s1 ⟨vs,H1,I1,r1,q1⟩=>?_) he2 hpl
 obtain⟨x,q,ys,rfl,hq,hasc,hl,hz,hQ⟩:=q1
 cases r1 with
 |cons ra rb=>
  cases rb with
  |cons rb rc=>
   cases rc
   obtain⟨t,rfl⟩:=ra
   cases rb
   obtain⟨its,r2,p2,_⟩:=I1.tuple hq
   have hil:its.length=ys.length:=r2.length.symm
   refine HY.made hasc p2 λg S sz kk=>?_
   refine Cf ?_
   have l2:q<s1.heap.objs.size:=by obtain⟨_,g1,_⟩:=p2;exact AI g1
   have D:HY.ZA (s1.heap.objs.size+4) (s1.heap.objs.size+2) (s1.heap.objs.size+3) s1.heap.objs.size (s1.heap.objs.size+1) q:=by
    have D':=zd_new s1.heap.objs.size q q l2 l2
    exact⟨D'.zb,D'.zc,D'.zd,D'.bc,D'.bd,D'.cd,D'.a4,D'.q4⟩
   have hkv:HY.Kvz (ZAU X.prog X.w) x its.toArray ((x.cps.toList.zip its).map λc=>((AH ⟨#[c.1]⟩:Key),c.2)):=by
    refine⟨by rw[AA,Bs,Au];lia,by rw[AO];lia,λj cp kx e1 e2=>?_⟩
    rw[AS] at e2
    obtain⟨c,ec,rfl⟩:=EV.mp e2
    rw[Bk] at ec
    have e3:c.1=cp:=by
     have:=ec.1
     rw[A8,e1] at this
     exact(Aj this).symm
    exact⟨by rw[List.getElem?_toArray];exact ec.2,λu=>by rw[<-e3];exact ZEZ X.prog X.w _ u⟩
   refine HY.call_dictZ (I.ok.hd hc) D S hkv hz λh' tk hD k=>?_
   have fr:∀e o,s1.heap.get? e=some o->h'.get? e=some o:=λe o eo=>by
    have hlt:e<s1.heap.objs.size:=AI eo
    refine k e o (AV (Af hlt (CO _ _))) (AV (Af hlt (CO _ _))) (AV hlt) (AV (Af hlt (CO _ _))) (kk e o eo)
   have hgs:s1.heap.objs.size<=g.objs.size:=by rw[sz];exact CO _ _
   have hm':=ZBU (zipK x ys) []
   have hzl:(zipK x ys).length<=1000:=by unfold zipK;rw[AA,Bs,Au];lia
   have big:=I1.big
   have nH:H1 g.objs.size=none:=I1.hok.fresh hgs
   have I2:Inv X pins Z (upd H1 g.objs.size (.dK (ZAw [] (zipK x ys)))) {s1 with heap:=h',toks:=tk}:=by
    refine I1.laid (h':=h') (t':=tk) (o:= .dK (ZAw [] (zipK x ys))) fr hgs ⟨by rw[FP];simp only[Bj] at hm';lia,beq_eq_false_iff_ne.mpr (A9 (AV (Af big hgs))),_,KV.merge (ZNe r2 (by rw[Au];lia)) .nil,hD⟩
   exact⟨.ref g.objs.size,_,I2,rfl,hQ _ nH⟩
end
end L2
namespace LW
open PySem L2 Mi Co
def top (i:Nat):FS:=PySem.Challenge.pw_pagenames_k35_whole_rows_by_other_names.main.body.getD i (.Pass ⟨0,0,0,0⟩)
abbrev ZHw:FS:=top 7
abbrev ZES:FS:=top 8
abbrev sEnd:FS:=top 9
abbrev ZBa:FS:=top 10
abbrev ZER:FS:=top 11
abbrev ZEP:FS:=top 12
abbrev ZHx:FS:=top 13
abbrev ZCt:FS:=top 14
abbrev ZEQ:FS:=top 15
abbrev ZCs:FS:=top 16
abbrev ZHv:FS:=top 17
abbrev ZDY:FS:=top 22
abbrev ZJZ:FS:=top 23
abbrev ZCY:FS:=top 24
abbrev ZJY:FS:=top 25
abbrev sLed:FS:=top 26
abbrev sIsN:FS:=top 27
abbrev ZBx:FS:=top 28
abbrev sTog:FS:=top 33
abbrev ZFE:FS:=top 34
abbrev ZFF:FS:=top 35
abbrev ZJd:FS:=top 37
abbrev ZJX:FS:=top 38
abbrev ZC8:FS:=top 39
abbrev ZJc:FS:=top 40
abbrev ZFH:FS:=top 41
abbrev ZJa:FS:=top 42
abbrev ZDW:FS:=top 43
abbrev ZJb:FS:=top 44
abbrev ZFG:FS:=top 45
abbrev ZDV:FS:=top 46
abbrev ZDX:FS:=top 47
abbrev sLaw:FS:=top 48
section
variable {P:E7}{w:FA}{K:AB}{mg:E3->Option E2}{base:E9}{f:Ez}{fd:FJ}
def ZBN (P:List E3):List (Key×V):=P.map λn=>((AH n:Key),V.bl true)
theorem ZFK (P:List E3)(n:E3):(valV (ZBN P) (AH n)).isSome=decide (n∈P):=by
 induction P with
 |nil=>rfl
 |cons p P ih=>
  show(valV ((AH p,V.bl true)::ZBN P) _).isSome=_
  by_cases h:p=n
  ·rw[ZAn (show((AH p:Key),V.bl true).1=AH n by rw[h])]
   simp[h]
  ·rw[ZAj (show¬((AH p:Key),V.bl true).1=AH n fromλe=>h (Cp e)),ih]
   simp[λe=>h (Eq.symm e),A9 h]
theorem ZJn {P:List E3}{n:E3}(h:n∉P):putK (ZBN P) (AH n) (.bl true)=ZBN (P++ [n]):=by
 have:valV (ZBN P) (AH n)=none:=by
  have e:=ZFK P n
  rw[decide_eq_false h] at e
  cases hv:valV (ZBN P) (AH n) with
  |none=>rfl
  |some v=>rw[hv] at e;cases e
 rw[ZD9 _ this]
 unfold ZBN
 rw[AX]
 rfl
theorem ZFC:ZAS ["goals","name","passed"] ["goals","name"] (ZAF ZHw):=⟨rfl,rfl,rfl,by decide +kernel,rfl,by decide +kernel,by decide +kernel⟩
theorem ZOZ {k:Nat}(F:Fun K "stop_of" "stop_of" ZHw f fd):FnOk P w K mg base CX0 (k+1) f fd ["goals","name"] ZEK:=by
 refine F.ok ZFC (λvs H Q E h=>?_) (λcdv A outer s H vs Q E hr h=>?_)
 ·obtain⟨d,R,n,rfl,_⟩:=h
  rfl
 obtain⟨d,R,n,rfl,hd,hz,q⟩:=h
 have hu:=ZA9 hr
 refine⟨_,ZAD (ZAL (i:=2) ZFC.nd rfl (Ag rfl) ZGF)
  (ZAD (ZC9 PassesOwn.never (PW.pt (ZNT (ZBO (ZCh hu (pv 1) (pv 0)) (by with_unfolding_all rfl)) (ZKc (ZBO (ZCR hu (pv 1) (pv 2)) (by with_unfolding_all rfl)))))
   (ZAD (ZB9 hu (pv 2) (pv 1) ZJm rfl) (ZAH (ZAL (i:=1) ZFC.nd rfl (Ag rfl) (ZAe hu (pv 0) (pv 1) λ_ _=>rfl)))))
  (ZAH (ZAT (pv 1)))),?_⟩
 intro p np
 have hpd:d≠p:=ZAJ hd np
 refine⟨λm Z H'=>∃(n':E3) (P:List E3),Z= [some (.ref d),some (.str n'),some (.ref p)]/\H' p=some (.dK (ZBN P))/\Same H H'/\P.Nodup/\(∀x∈P,x∈R.map (·.1))/\ZBZ R m P n'=stop R n/\m+P.length=R.length+1,
  ⟨R.length+1,n,[],rfl,ZAB,Same.new np _,BZ,by simp,rfl,by simp⟩,?_⟩
 rintro m Z H1 ⟨n',P,rfl,hp,sm,nd,hP,hs,hm⟩
 have hd1:=sm _ _ hd
 refine⟨_,rfl,_,rfl,d,_,rfl,DGet.k (k:=AH n') hd1,_,rfl,?_⟩
 rw[ZDt]
 cases hv:val R n' with
 |none=>
  refine iteF ⟨_,rfl,?_⟩
  rw[<-hs,ZBw hv] at q
  exact q H1 sm
 |some g=>
  refine iteT ⟨_,rfl,_,rfl,p,_,rfl,DGet.k (k:=AH n') hp,_,rfl,?_⟩
  rw[ZFK]
  by_cases hn:n'∈P
  ·rw[decide_eq_true hn]
   refine iteF ⟨_,rfl,?_⟩
   rw[<-hs,ZCO hn] at q
   exact q H1 sm
  ·rw[decide_eq_false hn]
   have hk:n'∈R.map (·.1):=AD.mpr ⟨_,ZCo hv,rfl⟩
   have hlen:=ZBJ (P:=n'::P) (L:=R.map (·.1)) (BT.mpr ⟨hn,nd⟩) λx hx=>by
    rcases AQ.mp hx with rfl|hx
    ·exact hk
    ·exact hP x hx
   rw[AA,Ac] at hlen
   obtain⟨m',rfl⟩:∃m',m=m'+1:=⟨m-1,by lia⟩
   have hl:(ZBN P).length=P.length:=by unfold ZBN;rw[AA]
   refine iteT ⟨λZ' H'=>∃m'',m''<m'+1/\∃(n':E3) (P:List E3),Z'= [some (.ref d),some (.str n'),some (.ref p)]/\H' p=some (.dK (ZBN P))/\Same H H'/\P.Nodup/\(∀x∈P,x∈R.map (·.1))/\ZBZ R m'' P n'=stop R n/\m''+P.length=R.length+1,λZ' H' h=>h,?_⟩
   refine⟨_,rfl,_,rfl,p,_,rfl,DPut.k (k:=AH n') hp (bigl _ (by lia)),?_⟩
   have s2:Same H (upd H1 p (.dK (putK (ZBN P) (AH n') (.bl true)))):=λb o e=>by
    have hb:b≠p:=ZAJ e np
    rw[ZAN hb]
    exact sm _ _ e
   refine⟨_,rfl,_,rfl,d,V.str g,rfl,?_,?_⟩
   ·have:=DGet.k (k:=AH n') (s2 _ _ hd)
    rw[ZDt,hv] at this
    exact this
   ·refine⟨m',Bm _,g,P++ [n'],rfl,?_,s2,?_,?_,?_,?_⟩
    ·rw[ZAB,ZJn hn]
    ·rw[Aw]
     exact⟨nd,by simp,λx hx y hy e=>by rw[AF.mp hy] at e;exact hn (e▸hx)⟩
    ·intro x hx
     rcases AY.mp hx with hx|hx
     ·exact hP x hx
     ·rw[AF.mp hx];exact hk
    ·rw[<-hs,ZBW hv hn]
    ·rw[AW,Ai];lia
theorem ZJW:ZAS ["rows","name","goals","stop"] ["rows","name"] (ZAF sEnd):=⟨rfl,rfl,rfl,by decide +kernel,rfl,by decide +kernel,by decide +kernel⟩
theorem ok_end {k:Nat}{C:Ez}(F:Fun K "end_of" "end_of" sEnd f fd)(G:Blt mg)(O:PyProof.Rows.OwnCls "Ring" C VE "ValueError.__new__" mg base)(hS:Has P w K mg base "stop_of" k ["goals","name"] ZEK):
  FnOk P w K mg base (CXE P w) (k+1) f fd ["rows","name"] (ZKF C):=by
 refine F.okE ZJW (λvs H Q E h=>?_) (λcdv A outer s H vs Q E hr h=>?_)
 ·obtain⟨a,R,n,rfl,_⟩:=h
  rfl
 obtain⟨a,R,n,rfl,⟨rs,ha,hrs,hR⟩,nd,hz,⟨hn,hc⟩,qy,qn⟩:=h
 have hu:=ZA9 hr
 refine⟨_,ZAD (ZAL (i:=2) ZJW.nd rfl (Ag rfl) (ZAI (ZB1 rfl) rfl G.dict boot_dict (ZAA (pv 0) ZAC)))
  (ZAD (ZAL (i:=3) ZJW.nd rfl (Ag rfl) (ZAE hS hr rfl (ZAA (pv 2) (ZAA (pv 1) ZAC))))
  (ZAD (ZBc (ZBO (ZCh hu (pv 3) (pv 2)) (by with_unfolding_all rfl))
   (ZAH (ZDA (E:=E) rfl ZCQ O A6 rfl A6 rfl (ZAA (ZEB ZAu (ZKm (pv 1))) ZAC))) ZAg)
  (ZAH (ZAT (pv 3))))),?_⟩
 have hlz:rs.length<=1000:=by rw[<-hR,AA] at hz;exact hz
 have hpv:=ZBX (K:=K) hrs
 rw[hR] at hpv
 refine⟨_,rfl,a,_,_,rfl,ha,hpv,by rw[AA];lia,λd nd'=>?_⟩
 rw[ZBf nd]
 have s1:=Same.new nd' (.dK (dkOf R))
 refine⟨_,rfl,_,rfl,d,_,n,rfl,ZAB,hz,λH2 s2=>?_⟩
 have s02:=s1.trans s2
 refine⟨_,rfl,_,rfl,d,_,rfl,DGet.k (k:=AH (stop R n)) (s2 _ _ ZAB),_,rfl,?_⟩
 rw[ZDt]
 cases hv:val R (stop R n) with
 |none=>exact iteF ⟨_,rfl,qy hv H2 s02⟩
 |some g=>
  have hrep:(reprText n).length<=10*n.length+2:=StrLaws.reprText_len n hc
  have l0:(B2++("this leads into a ring: ":E3)).length<=100:=by decide +kernel
  refine iteT ⟨_,rfl,big _ (by lia),_,rfl,n,rfl,big _ (by lia),_,rfl,big _ (by rw[ZGY];lia),by simp,qn (by rw[hv];exactλe=>nomatch e) H2 s02⟩
theorem ZFD:ZAS ["rows","goals","ends"] ["rows"] (ZAF ZHx):=⟨rfl,rfl,rfl,by decide +kernel,rfl,by decide +kernel,by decide +kernel⟩
theorem nd1:(["row","goals"]:List E3).Nodup:=by decide +kernel
theorem ZOi {k:Nat}(F:Fun K "flat" "flat" ZHx f fd)(G:Blt mg)(h0:ZA4 mg "FIRST" 0)(h1:ZA4 mg "GOAL_moving" 1)(hS:Has P w K mg base "stop_of" k ["goals","name"] ZEK):
  FnOk P w K mg base CX0 (k+1) f fd ["rows"] ZE8:=by
 refine F.ok ZFD (λvs H Q E h=>?_) (λcdv A outer s H vs Q E hr h=>?_)
 ·obtain⟨a,R,rfl,_⟩:=h
  rfl
 obtain⟨a,R,rfl,⟨rs,ha,hrs,hR⟩,nd,hz,q⟩:=h
 obtain⟨t0,m0⟩:=h0
 obtain⟨t1,m1⟩:=h1
 have hu:=ZA9 hr
 refine⟨_,ZAD (ZAL (i:=1) ZFD.nd rfl (Db rfl) (ZAI (ZB1 rfl) rfl G.dict boot_dict (ZAA (pv 0) ZAC)))
  (ZAD (ZDB (ix:=2) (te:=tTup (ZAW (tOp (rIxT K) (tVar 0) (tC (.int 0))) (ZAW (ZCM ZEK [] E0 (ZAW (tVar 1) (ZAW (tOp (rIxT K) (tVar 0) (tC (.int 0))) tNil))) tNil))) (xs:= ["row"]) (ys:= ["goals"]) (js:= [1]) rfl (by decide +kernel) (by decide +kernel) rfl (by decide +kernel) ⟨rfl,.inl rfl,rfl,trivial⟩
   (ZAp (pv 0)) (λ_ _ _ _ _=>ZAK (i:=0) nd1 rfl (Ag rfl) (.inr rfl)) (λ_ _ _ _ _=>ZAb)
   (λ_ _ _ _ _=>ZAt (ZAA (ZAk ZAX (pv 0) (ZAQ rfl m0 (v:= .int 0) ⟨_,rfl⟩) λ_ _=>rfl) (ZAA (ZAE hS hr rfl (ZAA (pv 1) (ZAA (ZAk ZAX (pv 0) (ZAQ rfl m0 (v:= .int 0) ⟨_,rfl⟩) λ_ _=>rfl) ZAC))) ZAC)))
   ZFD.nd rfl (Ag rfl))
  (ZAH (ZAT (ZAI ZAG rfl G.tuple boot_tuple (ZAA (ZAY ZCe rfl G.sorted boot_sorted (ZAA (ZAO (tt:=tB (ZHn (tOp (rIxT K) (tVar 0) (tC (.int 1))) (tVar 1))) (xs:= ["row"]) (ys:= ["goals"]) (js:= [1]) rfl (by decide +kernel) (by decide +kernel) rfl (by decide +kernel) ⟨rfl,.inl rfl,rfl,trivial⟩
   (ZCC (pv 2)) (λ_ _ _ _ _=>ZAK (i:=0) nd1 rfl (Ag rfl) (.inr rfl)) (λ_ _ _ _ _=>ZBb (ZBO (ZCR hu (ZAk ZAX (pv 0) (ZAQ rfl m1 (v:= .int 1) ⟨_,rfl⟩) λ_ _=>rfl) (pv 1)) (by with_unfolding_all rfl)))
   (λ_ _ _ _ _=>pv 0)) ZAC)) ZAC))))),?_⟩
 have hlz:rs.length<64:=by rw[<-hR,AA] at hz;exact hz
 have hpv:=ZBX (K:=K) hrs
 rw[hR] at hpv
 refine⟨_,rfl,a,_,_,rfl,ha,hpv,by rw[AA];lia,λd nd'=>?_⟩
 rw[ZBf nd]
 have s1:=Same.new nd' (.dK (dkOf R))
 have hd1:(upd H d (.dK (dkOf R)):Hp) d=some (.dK (dkOf R)):=ZAB
 generalize (upd H d (.dK (dkOf R)):Hp)=H1 at*
 refine⟨_,rfl,a,rfl,⟨_,SqT.of (s1 _ _ ha)⟩,λD hD=>?_⟩
 refine ZB0 (xs:=refs rs) (fr:= [some (.ref d)]) (λx v H'=>∃r∈rs,x= .ref r.1/\∃b,v=V.ref b/\H' b=some (.tup [V.str (r.2.1,stop R r.2.1).1,V.str (r.2.1,stop R r.2.1).2])) (λx v H H' s h=>?_) D hD (ZAP (SqT.of (s1 _ _ ha))) (bigl _ (by rw[AA];lia)) ?_ ?_
 ·obtain⟨r,hr',e,b,e2,hb⟩:=h
  exact⟨r,hr',e,b,e2,s _ _ hb⟩
 ·intro x H2 Rr hx s2 hR2
  obtain⟨r,hr',rfl⟩:=ZCc hx
  have hrow:=(s1.trans s2) _ _ (hrs r hr')
  refine⟨_,rfl,r.1,_,_,V.str r.2.1,rfl,rfl,SqT.of hrow,rfl,_,rfl,_,rfl,r.1,_,_,V.str r.2.1,rfl,rfl,SqT.of hrow,rfl,d,R,r.2.1,rfl,s2 _ _ hd1,by lia,λH3 s3=>?_⟩
  refine⟨big _ (by simp),λb nb=>?_⟩
  exact hR2 _ _ (s3.trans (Same.new nb _)) ⟨r,hr',rfl,b,rfl,ZAB⟩
 ·intro H2 ys s2 hD2 hp
  obtain⟨rs2,rfl,hrs2,e2⟩:=ZG3 (H:=H2) (f:=λ(r:Ez×Rw)=>(r.2.1,stop R r.2.1)) (g:=λr=>V.ref r.1) (L:=rs) (λr h r' h' e=>by
   injection e with e
   have z1:=hrs r h
   have z2:=hrs r' h'
   rw[e,z2] at z1
   injection z1 with z1
   injection z1 with z1
   simp only[BC,V.str.injEq,and_true] at z1
   show(r.2.1,stop R r.2.1)=(r'.2.1,stop R r'.2.1)
   rw[z1.1]) (xs:=rs) (λx h=>h) hp
  have hl2:rs2.length=rs.length:=by
   have:=congrArg Ay e2
   rw[AA,AA] at this
   exact this
  have em:rs2.map (·.2)=R.map λr=>(r.1,stop R r.1):=by rw[e2,<-hR,AE];rfl
  refine⟨_,rfl,D,rfl,⟨_,SqL.of hD2⟩,λD2 hD2'=>?_⟩
  refine ZDL (xs:=refs rs2) (fr:= [some (.ref d)]) (f:=id) (p:=λv=>((ZD0 H2 v).map λr=>(val R r.2).isNone).getD false) D2 hD2' (ZAv (SqL.of hD2)) (bigl _ (by rw[AA];lia)) ?_ ?_ ?_
  ·intro x H3 Rr hx s3 hR3
   obtain⟨r,hr',rfl⟩:=ZCc hx
   have hrow:=s3 _ _ (hrs2 r hr')
   refine⟨_,rfl,r.1,_,_,V.str r.2.2,rfl,rfl,SqT.of hrow,rfl,_,rfl,d,_,rfl,DGet.k (k:=AH r.2.2) ((s2.trans s3) _ _ hd1),_,rfl,?_⟩
   have:=hR3 H3 (Same.refl _)
   rw[ZBr (hrs2 r hr')] at this
   rw[ZDt]
   show Rr (!((val R r.2.2).map V.str).isSome) H3
   cases hv:val R r.2.2 with
   |none=>simpa[hv] using this
   |some g=>simpa[hv] using this
  ·intro x H3 Rr hx _ s3 hR3
   exact⟨_,rfl,hR3 H3 (Same.refl _)⟩
  ·intro H3 s3 hD3
   rw[ZCx hrs2 λr=>(val R r.2).isNone,D4] at hD3
   have hrs3:=(hrs2.filter λr=>(val R r.2.2).isNone).ts s3.ts
   have ef:((rs2.filter λr=>(val R r.2.2).isNone).map (·.2))=ZBL R:=by
    rw[ZDg rs2 λr=>(val R r.2).isNone,em]
    rfl
   have hl3:(rs2.filter λr=>(val R r.2.2).isNone).length<=rs2.length:=Ap _ _
   generalize (rs2.filter λr=>(val R r.2.2).isNone)=rs3 at*
   refine⟨D2,rs3.map λr=>(r.1,[r.2.1,r.2.2]),rfl,.inl (SqL.of (by rw[AE];exact hD3)),by rw[AA];lia,λr hr'=>?_,λl ss nl hp hs=>?_⟩
   ·obtain⟨q',hq',rfl⟩:=AD.mp hr'
    exact⟨SqT.of (hrs3 q' hq'),λe=>nomatch e⟩
   ·obtain⟨rs4,hp4,rfl⟩:=ZGh hp
    have sl:=Same.new nl (.lst ((rs4.map λr=>(r.1,[r.2.1,r.2.2])).map λr=>V.ref r.1))
    refine⟨l,_,rfl,.inl ⟨SqL.of ZAB,λl2 nl2=>?_⟩⟩
    have sl2:=Same.new nl2 (.tup ((rs4.map λr=>(r.1,[r.2.1,r.2.2])).map λr=>V.ref r.1))
    have sA:=(((s1.trans s2).trans s3).trans sl).trans sl2
    have hperm:(rs4.map (·.2)).Perm (ZBL R):=by rw[<-ef];exact hp4.map _
    have ndf:((ZBL R).map (·.1)).Nodup:=by
     have hsub:((ZBL R).map (·.1)).Sublist (R.map (·.1)):=by
      have e:(R.map (·.1))=((R.map λr=>(r.1,stop R r.1)).map (·.1)):=by rw[AE];rfl
      rw[e]
      exact(B6).map _
     exact nd.sublist hsub
    refine q l2 (rs4.map (·.2)) _ sA ⟨rs4,?_,λr hr'=>?_,rfl⟩ hperm (ZHy ((hperm.map (·.1)).nodup_iff.mpr ndf) ?_)
    ·rw[ZAB,AE]
     rfl
    ·exact(sl.trans sl2) _ _ (hrs3 r (hp4.mem_iff.mp hr'))
    ·rw[Aa] at hs ⊢
     exact hs
theorem ZD7:ZAS ["rows","goals"] ["rows"] (ZAF ZCt):=⟨rfl,rfl,rfl,by decide +kernel,rfl,by decide +kernel,by decide +kernel⟩
theorem ZK4 {k:Nat}(F:Fun K "is_flat" "is_flat" ZCt f fd)(G:Blt mg)(h1:ZA4 mg "GOAL_moving" 1):FnOk P w K mg base CX0 (k+1) f fd ["rows"] ZD6:=by
 refine F.ok ZD7 (λvs H Q E h=>?_) (λcdv A outer s H vs Q E hr h=>?_)
 ·obtain⟨a,R,rfl,_⟩:=h
  rfl
 obtain⟨a,R,rfl,⟨rs,ha,hrs,hR⟩,nd,hz,q⟩:=h
 obtain⟨t1,m1⟩:=h1
 have hu:=ZA9 hr
 refine⟨_,ZAD (ZAL (i:=1) ZD7.nd rfl (Db rfl) (ZAI (ZB1 rfl) rfl G.dict boot_dict (ZAA (pv 0) ZAC)))
  (ZAH (ZAT (ZNW (ZAY (ZHG rfl) rfl G.any boot_any (ZAA (ZAO (te:=tDIn (tOp (rIxT K) (tVar 0) (tC (.int 1))) (tVar 1)) (xs:= ["row"]) (ys:= ["goals"]) (js:= [1]) rfl (by decide +kernel) (by decide +kernel) rfl (by decide +kernel) ⟨rfl,.inl rfl,rfl,trivial⟩
   (ZAp (pv 0)) (λ_ _ _ _ _=>ZAK (i:=0) nd1 rfl (Ag rfl) (.inr rfl)) (λ_ _ _ _ _=>ZAb)
   (λ_ _ _ _ _=>ZIk (ZCh hu (ZAk ZAX (pv 0) (ZAQ rfl m1 (v:= .int 1) ⟨_,rfl⟩) λ_ _=>rfl) (pv 1)) (by with_unfolding_all rfl))) ZAC))))),?_⟩
 have hlz:rs.length<=1000:=by rw[<-hR,AA] at hz;exact hz
 have hpv:=ZBX (K:=K) hrs
 rw[hR] at hpv
 refine⟨_,rfl,a,_,_,rfl,ha,hpv,by rw[AA];lia,λd nd'=>?_⟩
 rw[ZBf nd]
 have s1:=Same.new nd' (.dK (dkOf R))
 have hd1:(upd H d (.dK (dkOf R)):Hp) d=some (.dK (dkOf R)):=ZAB
 generalize (upd H d (.dK (dkOf R)):Hp)=H1 at*
 have hrs1:=hrs.ts s1.ts
 refine⟨_,rfl,a,rfl,⟨_,SqT.of (s1 _ _ ha)⟩,λD hD=>?_⟩
 refine ZDL (xs:=refs rs) (fr:= [some (.ref d)]) (tt:=ZC3) (f:=λv=> .bl (((ZD0 H1 v).map λr=>(val R r.2).isSome).getD false)) (p:=λ_=>true) D hD (ZAP (SqT.of (s1 _ _ ha))) (bigl _ (by rw[AA];lia)) ?_ ?_ ?_
 ·intro y H2 Rr hy _ hR2
  exact hR2 H2 (Same.refl H2)
 ·intro x H2 Rr hx _ s2 hR2
  obtain⟨r,hr',rfl⟩:=ZCc hx
  refine⟨_,rfl,r.1,_,_,V.str r.2.2,rfl,rfl,SqT.of (s2 _ _ (hrs1 r hr')),rfl,_,rfl,d,_,rfl,DGet.k (k:=AH r.2.2) (s2 _ _ hd1),?_⟩
  have:=hR2 H2 (Same.refl _)
  rw[ZBr (hrs1 r hr')] at this
  rw[ZDt]
  cases hv:val R r.2.2 with
  |none=>simpa[hv] using this
  |some g=>simpa[hv] using this
 ·intro H2 s2 hD2
  have eb:(refs rs).map (λv=>V.bl (((ZD0 H1 v).map λr=>(val R r.2).isSome).getD false))=(R.map λr=>(val R r.2).isSome).map V.bl:=by
   rw[<-hR,hR,AE,AE,<-hR,AE]
   refine Ah λr hr'=>?_
   show V.bl (((ZD0 H1 (V.ref r.1)).map λr=>(val (rs.map (·.2)) r.2).isSome).getD false)=_
   rw[ZBr (hrs1 r hr')]
   rfl
  rw[Bx.mpr (λ_ _=>rfl),eb] at hD2
  refine⟨D,_,rfl,SqL.of hD2,_,rfl,?_⟩
  have:=q H2 (s1.trans s2)
  rw[Dt]
  exact this
theorem ZFB:ZAS ["rows","one","other","end","others"] ["rows","one","other"] (ZAF ZHv):=⟨rfl,rfl,rfl,by decide +kernel,rfl,by decide +kernel,by decide +kernel⟩
theorem nd2:(["row","one"]:List E3).Nodup:=by decide +kernel
theorem ZOY {k:Nat}{C:Ez}(F:Fun K "with_row" "with_row" ZHv f fd)(G:Blt mg)(h0:ZA4 mg "FIRST" 0)(O:PyProof.Rows.OwnCls "Ring" C VE "ValueError.__new__" mg base)(hE:HasE P w K mg base "end_of" k ["rows","name"] (ZKF C))(hF:Has P w K mg base "flat" k ["rows"] ZE8):
  FnOk P w K mg base (CXE P w) (k+1) f fd ["rows","one","other"] (ZIc C):=by
 refine F.okE ZFB (λvs H Q E h=>?_) (λcdv A outer s H vs Q E hr h=>?_)
 ·obtain⟨a,R,one,other,rfl,_⟩:=h
  rfl
 obtain⟨a,R,one,other,rfl,hA,hfl,hz,⟨ho1,ho2⟩,hother,qn,qy⟩:=h
 obtain⟨rs,ha,hrs,hR⟩:=id hA
 obtain⟨t0,m0⟩:=h0
 have hu:=ZA9 hr
 refine⟨_,ZAD (ZAL (i:=3) ZFB.nd rfl (Ag rfl) (ZIl (E:=E) hE hr (ZKo λ_ _ _ h=>h) rfl (ZAA (pv 0) (ZAA (pv 2) ZAC))))
  (ZAD (ZBc (ZAc ZMd (pv 3) (pv 1) (ZAm _))
   (ZAH (ZDA (E:=E) rfl ZCQ O A6 rfl A6 rfl (ZAA (ZEB ZAu (ZKm (pv 1))) ZAC))) ZAg)
  (ZAD (ZAL (i:=4) ZFB.nd rfl (Ag rfl) (ZAI ZAG rfl G.tuple boot_tuple (ZAA (ZAO (tt:=ZFq (tOp rNe (tOp (rIxT K) (tVar 0) (tC (.int 0))) (tVar 1))) (xs:= ["row"]) (ys:= ["one"]) (js:= [1]) rfl (by decide +kernel) (by decide +kernel) rfl (by decide +kernel) ⟨rfl,.inl rfl,rfl,trivial⟩
   (ZAp (pv 0)) (λ_ _ _ _ _=>ZAK (i:=0) nd2 rfl (Ag rfl) (.inr rfl)) (λ_ _ _ _ _=>ZBb (ZAc ZJo (ZAk ZAX (pv 0) (ZAQ rfl m0 (v:= .int 0) ⟨_,rfl⟩) λ_ _=>rfl) (pv 1) (ZAm _)))
   (λ_ _ _ _ _=>pv 0)) ZAC)))
  (ZAH (ZAT (ZAE hF hr rfl (ZAA (ZA7 ZCE (pv 4) (ZAt (ZAA (ZAt (ZAA (pv 1) (ZAA (pv 3) ZAC))) ZAC))) ZAC)))))),?_⟩
 have hlz:rs.length<63:=by rw[<-hR,AA] at hz;exact hz
 have hst:=hfl.stop other
 refine⟨_,rfl,_,rfl,a,R,other,rfl,hA,hfl.nd,by lia,hother,λ_ H1 s1=>?_,λh=>absurd hst.2 h⟩
 rw[hst.1]
 generalize hen:(val R other).getD other=en at*
 have hve:val R en=none:=by rw[<-hst.1];exact hst.2
 refine⟨_,rfl,_,rfl,rfl,_,rfl,?_⟩
 by_cases c:en=one
 ·have e:decide (V.str en=V.str one)=true:=decide_eq_true (by rw[c])
  rw[e]
  have hrep:(reprText one).length<=10*one.length+2:=StrLaws.reprText_len one ho2
  have l0:(B2++("by this it would lead to itself: ":E3)).length<=100:=by decide +kernel
  exact iteT ⟨_,rfl,big _ (by lia),_,rfl,one,rfl,big _ (by lia),_,rfl,big _ (by rw[ZGY];lia),by simp,qn c H1 s1⟩
 ·have e:decide (V.str en=V.str one)=false:=decide_eq_false λe=>c (by injection e)
  rw[e]
  refine iteF ⟨_,rfl,a,rfl,⟨_,SqT.of (s1 _ _ ha)⟩,λD hD=>?_⟩
  have hrs1:=hrs.ts s1.ts
  refine ZDL (xs:=refs rs) (fr:= [some (.str one)]) (f:=id) (p:=λv=>((ZD0 H1 v).map λr=>decide (r.1≠one)).getD false) D hD (ZAP (SqT.of (s1 _ _ ha))) (bigl _ (by rw[AA];lia)) ?_ ?_ ?_
  ·intro x H2 Rr hx s2 hR2
   obtain⟨r,hr',rfl⟩:=ZCc hx
   refine⟨_,rfl,r.1,_,_,V.str r.2.1,rfl,rfl,SqT.of (s2 _ _ (hrs1 r hr')),rfl,_,rfl,rfl,_,rfl,?_⟩
   have:=hR2 H2 (Same.refl _)
   rw[ZBr (hrs1 r hr')] at this
   have e:(!decide (V.str r.2.1=V.str one))=decide (r.2.1≠one):=by
    by_cases h:r.2.1=one
    ·simp[h]
    ·simp[h]
   rw[e]
   exact this
  ·intro x H2 Rr hx _ s2 hR2
   exact⟨_,rfl,hR2 H2 (Same.refl _)⟩
  ·intro H2 s2 hD2
   rw[ZCx hrs1 λr=>decide (r.1≠one),D4] at hD2
   have hrs2:=(hrs1.filter λr=>decide (r.2.1≠one)).ts s2.ts
   have ef:((rs.filter λr=>decide (r.2.1≠one)).map (·.2))=R.filter λr=>decide (r.1≠one):=by
    rw[ZDg rs λr=>decide (r.1≠one),hR]
   have hl2:(rs.filter λr=>decide (r.2.1≠one)).length<=rs.length:=Ap _ _
   generalize (rs.filter λr=>decide (r.2.1≠one))=rs2 at*
   refine⟨D,_,rfl,.inl ⟨SqL.of hD2,λl nl=>?_⟩⟩
   have sl:=Same.new nl (.tup (refs rs2))
   have hl:(upd H2 l (.tup (refs rs2)):Hp) l=some (.tup (refs rs2)):=ZAB
   generalize (upd H2 l (.tup (refs rs2)):Hp)=H3 at*
   refine⟨_,rfl,_,rfl,_,rfl,big _ (by simp),λb nb=>?_⟩
   have sb:=Same.new nb (.tup [V.str one,V.str en])
   refine⟨big _ (by simp),λc' nc=>?_⟩
   have sc:=Same.new nc (.tup [V.ref b])
   refine⟨l,c',_,_,rfl,rfl,(sb.trans sc) _ _ hl,ZAB,big _ (by rw[AA,Ai];lia),λp H4 s4 hp=>?_⟩
   have s14:=(((s2.trans sl).trans sb).trans sc).trans s4
   refine⟨p,ZBv R one en,rfl,⟨rs2++ [(b,(one,en))],?_,λr hr'=>?_,?_⟩,ZE3 hfl.nd one en,?_,λp2 R' H5 s5 h5 hperm hrise=>?_⟩
   ·rw[hp]
    unfold refs
    rw[AX]
    rfl
   ·rcases AY.mp hr' with hr'|hr'
    ·exact(((sl.trans sb).trans sc).trans s4) _ _ (hrs2 r hr')
    ·rw[AF.mp hr']
     exact(sc.trans s4) _ _ ZAB
   ·rw[AX,ef]
    rfl
   ·unfold ZBv
    rw[<-ef,AW,AA,Ai]
    lia
   ·rw[ZGz hfl hve c] at hperm
    exact qy c p2 R' H5 ((s1.trans s14).trans s5) h5 hperm hrise
end
inductive ZHY (vs:List V)(H:Hp)(Q:VK):Prop
 |mk:∀(a:Ez) (R:List Rw) (n:E3),(vs= [.ref a,.str n])->(ZAx H a R)->((R.map (·.1)).Nodup)->(R.length<=1000)->(∀H',Same H H'->Q (.bl (val R (stop R n)).isSome) H')->ZHY vs H Q
def ZFy:Sp:=λvs H Q _=>ZHY vs H Q
section
variable {P:E7}{w:FA}{K:AB}{mg:E3->Option E2}{base:E9}{f:Ez}{fd:FJ}
theorem ZF7:ZAS ["rows","name","goals"] ["rows","name"] (ZAF ZES):=⟨rfl,rfl,rfl,by decide +kernel,rfl,by decide +kernel,by decide +kernel⟩
theorem ZMm {k:Nat}(F:Fun K "leads_round" "leads_round" ZES f fd)(G:Blt mg)(hS:Has P w K mg base "stop_of" k ["goals","name"] ZEK):
  FnOk P w K mg base CX0 (k+1) f fd ["rows","name"] ZFy:=by
 refine F.ok ZF7 (λvs H Q E h=>?_) (λcdv A outer s H vs Q E hr h=>?_)
 ·obtain⟨a,R,n,rfl,_⟩:=h
  rfl
 obtain⟨a,R,n,rfl,⟨rs,ha,hrs,hR⟩,nd,hz,q⟩:=h
 have hu:=ZA9 hr
 refine⟨_,ZAD (ZAL (i:=2) ZF7.nd rfl (Ag rfl) (ZAI (ZB1 rfl) rfl G.dict boot_dict (ZAA (pv 0) ZAC)))
  (ZAH (ZAT (ZIk (ZCh hu (ZAE hS hr rfl (ZAA (pv 2) (ZAA (pv 1) ZAC))) (pv 2)) (by with_unfolding_all rfl)))),?_⟩
 have hlz:rs.length<=1000:=by rw[<-hR,AA] at hz;exact hz
 have hpv:=ZBX (K:=K) hrs
 rw[hR] at hpv
 refine⟨_,rfl,a,_,_,rfl,ha,hpv,by rw[AA];lia,λd nd'=>?_⟩
 rw[ZBf nd]
 have s1:=Same.new nd' (.dK (dkOf R))
 refine⟨_,rfl,_,rfl,d,_,n,rfl,ZAB,hz,λH2 s2=>?_⟩
 refine⟨_,rfl,d,_,rfl,DGet.k (k:=AH (stop R n)) (s2 _ _ ZAB),?_⟩
 rw[ZDt,Cd]
 exact q H2 (s1.trans s2)
end
inductive ZJJ (vs:List V)(H:Hp)(Q:VK):Prop
 |mk:∀(a:Ez) (R:List Rw) (n:E3),(vs= [.ref a,.str n])->(ZAx H a R)->((R.map (·.1)).Nodup)->(R.length<64)->(∀(p:Ez) (R':List Rw) (H':Hp),Same H H'->R'.Perm (ZBL R)->Rise R'->H' p=some (.tup (((R'.filter λr=>decide (r.2=n)).map (·.1)).map V.str))->Q (.ref p) H')->ZJJ vs H Q
def ZIf:Sp:=λvs H Q _=>ZJJ vs H Q
section
variable {P:E7}{w:FA}{K:AB}{mg:E3->Option E2}{base:E9}{f:Ez}{fd:FJ}
theorem ZKO:ZAS ["rows","name"] ["rows","name"] (ZAF ZEQ):=⟨rfl,rfl,rfl,by decide +kernel,rfl,by decide +kernel,by decide +kernel⟩
theorem nd4:(["row","name"]:List E3).Nodup:=by decide +kernel
theorem ZOh {k:Nat}(F:Fun K "led_to" "led_to" ZEQ f fd)(G:Blt mg)(h0:ZA4 mg "FIRST" 0)(h1:ZA4 mg "GOAL_moving" 1)(hF:Has P w K mg base "flat" k ["rows"] ZE8):
  FnOk P w K mg base CX0 (k+1) f fd ["rows","name"] ZIf:=by
 refine F.ok ZKO (λvs H Q E h=>?_) (λcdv A outer s H vs Q E hr h=>?_)
 ·obtain⟨a,R,n,rfl,_⟩:=h
  rfl
 obtain⟨a,R,n,rfl,hA,nd,hz,q⟩:=h
 obtain⟨t0,m0⟩:=h0
 obtain⟨t1,m1⟩:=h1
 have hu:=ZA9 hr
 refine⟨_,ZAH (ZAT (ZAI ZAG rfl G.tuple boot_tuple (ZAA (ZAO (tt:=ZFq (tOp rEq (tOp (rIxT K) (tVar 0) (tC (.int 1))) (tVar 1))) (te:=tOp (rIxT K) (tVar 0) (tC (.int 0))) (xs:= ["row"]) (ys:= ["name"]) (js:= [1]) rfl (by decide +kernel) (by decide +kernel) rfl (by decide +kernel) ⟨rfl,.inl rfl,rfl,trivial⟩
   (ZAp (ZAE hF hr rfl (ZAA (pv 0) ZAC))) (λ_ _ _ _ _=>ZAK (i:=0) nd4 rfl (Ag rfl) (.inr rfl)) (λ_ _ _ _ _=>ZBb (ZAc ZMd (ZAk ZAX (pv 0) (ZAQ rfl m1 (v:= .int 1) ⟨_,rfl⟩) λ_ _=>rfl) (pv 1) (ZAm _)))
   (λ_ _ _ _ _=>ZAk ZAX (pv 0) (ZAQ rfl m0 (v:= .int 0) ⟨_,rfl⟩) λ_ _=>rfl)) ZAC))),?_⟩
 refine⟨_,rfl,a,R,rfl,hA,nd,hz,λp R' H1 s1 hA1 hp hr1=>?_⟩
 obtain⟨rs,ha1,hrs1,hR1⟩:=id hA1
 have hlz:rs.length<64:=by
  have e1:=congrArg Ay hR1
  rw[AA,hp.length_eq] at e1
  have e2:(ZBL R).length<=R.length:=by
   unfold ZBL
   refine As (Ap _ _) ?_
   rw[AA]
   exact AK _
  lia
 refine⟨p,rfl,⟨_,SqT.of ha1⟩,λD hD=>?_⟩
 refine ZDL (xs:=refs rs) (fr:= [some (.str n)]) (f:=λv=> .str (((ZD0 H1 v).map λr=>r.1).getD "")) (p:=λv=>((ZD0 H1 v).map λr=>decide (r.2=n)).getD false) D hD (ZAP (SqT.of ha1)) (bigl _ (by rw[AA];lia)) ?_ ?_ ?_
 ·intro x H2 Rr hx s2 hR2
  obtain⟨r,hr',rfl⟩:=ZCc hx
  refine⟨_,rfl,r.1,_,_,V.str r.2.2,rfl,rfl,SqT.of (s2 _ _ (hrs1 r hr')),rfl,_,rfl,rfl,_,rfl,?_⟩
  have:=hR2 H2 (Same.refl _)
  rw[ZBr (hrs1 r hr')] at this
  have e:decide (V.str r.2.2=V.str n)=decide (r.2.2=n):=by
   by_cases h:r.2.2=n
   ·simp[h]
   ·simp[h]
  rw[e]
  exact this
 ·intro x H2 Rr hx _ s2 hR2
  obtain⟨r,hr',rfl⟩:=ZCc hx
  have:=hR2 H2 (Same.refl _)
  rw[ZBr (hrs1 r hr')] at this
  exact⟨_,rfl,r.1,_,_,V.str r.2.1,rfl,rfl,SqT.of (s2 _ _ (hrs1 r hr')),rfl,this⟩
 ·intro H2 s2 hD2
  rw[ZCx hrs1 λr=>decide (r.2=n)] at hD2
  have hrs2:=hrs1.filter λr=>decide (r.2.2=n)
  have em:(refs (rs.filter λr=>decide (r.2.2=n))).map (λv=>V.str (((ZD0 H1 v).map λr=>r.1).getD ""))=(((R'.filter λr=>decide (r.2=n)).map (·.1)).map V.str):=by
   have ef:((rs.filter λr=>decide (r.2.2=n)).map (·.2))=R'.filter λr=>decide (r.2=n):=by
    rw[ZDg rs λr=>decide (r.2=n),hR1]
   rw[<-ef,AE,AE,AE]
   refine Ah λr hr'=>?_
   show V.str (((ZD0 H1 (V.ref r.1)).map λr=>r.1).getD "")=_
   rw[ZBr (hrs2 r hr')]
   rfl
  rw[em] at hD2
  refine⟨D,_,rfl,.inl ⟨SqL.of hD2,λl nl=>?_⟩⟩
  exact q l R' _ ((s1.trans s2).trans (Same.new nl _)) hp hr1 ZAB
end
inductive ZDw (vs:List V)(H:Hp)(Q:VK):Prop
 |mk:∀(d:Ez) (R:List Rw) (n m:E3) (L:List E3),(vs= [.ref d,.str n])->(H d=some (.dK (dkOf R)))->(val R n=some m)->(ZE2 R n m L)->(L.length<=1000)->(∀(p:Ez) (H':Hp),Same H H'->H' p=some (.lst ((n::L).map V.str))->Q (.ref p) H')->ZDw vs H Q
def ZDS:Sp:=λvs H Q _=>ZDw vs H Q
inductive ZHX (vs:List V)(H:Hp)(Q:VK):Prop
 |mk:∀(a:Ez) (ts:List E3),(vs= [.ref a])->(H a=some (.lst (ts.map V.str)))->(ts≠ [])->(ts.length<=1001)->(∀(p:Ez) (H':Hp),Same H H'->H' p=some (.tup ((ZAq ts).map V.str))->Q (.ref p) H')->ZHX vs H Q
def ZHr:Sp:=λvs H Q _=>ZHX vs H Q
inductive ZLv (H:Hp)(p:Ez)(T:List (List E3)):Prop
 |mk:∀(rs:List (Ez×List E3)),(H p=some (.tup (rs.map λr=>V.ref r.1)))->((∀r∈rs,H r.1=some (.tup (r.2.map V.str))))->(rs.map (·.2)=T)->ZLv H p T
structure ZDk (R:List Rw)(T:List (List E3)):Prop where
 rise:T.Pairwise λa b=>HS.ltT a b=true
 mem:∀u,u∈T↔∃r∈R,val R (stop R r.1)≠none/\u=ZAq (ZAa R r.1)
inductive ZHT (vs:List V)(H:Hp)(Q:VK):Prop
 |mk:∀(a:Ez) (R:List Rw),(vs= [.ref a])->(ZAx H a R)->((R.map (·.1)).Nodup)->(R.length<60)->(∀(p:Ez) (T:List (List E3)) (H':Hp),Same H H'->ZLv H' p T->ZDk R T->Q (.ref p) H')->ZHT vs H Q
def ZFv:Sp:=λvs H Q _=>ZHT vs H Q
section
variable {P:E7}{w:FA}{K:AB}{mg:E3->Option E2}{base:E9}{f:Ez}{fd:FJ}
theorem ZA1:ZAS ["goals","name","ring","following"] ["goals","name"] (ZAF ZBa):=⟨rfl,rfl,rfl,by decide +kernel,rfl,by decide +kernel,by decide +kernel⟩
theorem ZH7 {k:Nat}(F:Fun K "ring_from" "ring_from" ZBa f fd):FnOk P w K mg base CX0 (k+1) f fd ["goals","name"] ZDS:=by
 refine F.ok ZA1 (λvs H Q E h=>?_) (λcdv A outer s H vs Q E hr h=>?_)
 ·obtain⟨d,R,n,m,L,rfl,_⟩:=h
  rfl
 obtain⟨d,R,n,m,L,rfl,hd,hv,hL,hz,q⟩:=h
 have hu:=ZA9 hr
 refine⟨_,ZAD (ZAL (i:=2) ZA1.nd rfl (Ag rfl) (ZGt (ZAA (pv 1) ZAC)))
  (ZAD (ZAL (i:=3) ZA1.nd rfl (Ag rfl) (ZAe hu (pv 0) (pv 1) λ_ _=>rfl))
  (ZAD (ZC9 PassesOwn.never (ZAc ZJo (pv 3) (pv 1) (ZAm _))
   (ZAD (ZGC (ZJl Bo CM CL ZBe (pv 2) (ZAA (pv 3) ZAC)))
   (ZAH (ZAL (i:=3) ZA1.nd rfl (Ag rfl) (ZAe hu (pv 0) (pv 3) λ_ _=>rfl)))))
  (ZAH (ZAT (pv 2))))),?_⟩
 refine⟨_,rfl,big _ (by simp),λp np=>?_⟩
 have s1:=Same.new np (.lst [V.str n])
 have hpd:d≠p:=ZAJ hd np
 have hp1:(upd H p (.lst [V.str n]):Hp) p=some (.lst ([n].map V.str)):=ZAB
 generalize (upd H p (.lst [V.str n]):Hp)=H1 at*
 have get:∀(H':Hp) (x y:E3),Same H H'->val R x=some y->DGet H' d (V.str x) (some (V.str y)):=λH' x y s' hxy=>by
  have:=DGet.k (k:=AH x) (s' _ _ hd)
  rw[ZDt,hxy] at this
  exact this
 refine⟨_,rfl,_,rfl,d,V.str m,rfl,get H1 n m s1 hv,?_⟩
 refine⟨λj Z H'=>∃(done rest:List E3) (cur:E3),Z= [some (.ref d),some (.str n),some (.ref p),some (.str cur)]/\H' p=some (.lst ((n::done).map V.str))/\Same H H'/\L=done++rest/\ZE2 R n cur rest/\j=rest.length,
  ⟨_,[],L,m,rfl,hp1,s1,rfl,hL,rfl⟩,?_⟩
 rintro j Z H2 ⟨done,rest,cur,rfl,hp2,s2,eL,hl,rfl⟩
 refine⟨_,rfl,_,rfl,rfl,_,rfl,?_⟩
 cases rest with
 |nil=>
  have ec:cur=n:=hl
  subst ec
  have e:(!decide (V.str cur=V.str cur))=false:=by rw[decide_eq_true rfl];rfl
  rw[e]
  rw[A5] at eL
  subst eL
  exact iteF ⟨_,rfl,q p H2 s2 hp2⟩
 |cons x rest=>
  obtain⟨e1,hne,m',hm',hl'⟩:=hl
  subst e1
  have e:(!decide (V.str cur=V.str n))=true:=by rw[decide_eq_false λe=>hne (by injection e)];rfl
  rw[e]
  have hlen:done.length<=1000:=by have:=congrArg Ay eL;rw[AW] at this;lia
  refine iteT ⟨λZ' H'=>∃j',j'<(cur::rest).length/\∃(done rest:List E3) (cur:E3),Z'= [some (.ref d),some (.str n),some (.ref p),some (.str cur)]/\H' p=some (.lst ((n::done).map V.str))/\Same H H'/\L=done++rest/\ZE2 R n cur rest/\j'=rest.length,λZ' H' h=>h,?_⟩
  refine⟨_,rfl,.inl ⟨rfl,_,SqL.of hp2⟩,_,rfl,p,_,_,rfl,rfl,hp2,bigl _ (by rw[AA,Ac];lia),?_⟩
  have s3:Same H (upd H2 p (.lst ((n::done).map V.str++ [V.str cur]))):=λb o eb=>by
   have hb:b≠p:=ZAJ eb np
   rw[ZAN hb]
   exact s2 _ _ eb
  refine⟨_,rfl,_,rfl,d,V.str m',rfl,get _ cur m' s3 hm',?_⟩
  refine⟨rest.length,by simp,done++ [cur],rest,m',rfl,?_,s3,by rw[eL,BX];rfl,hl',rfl⟩
  rw[ZAB]
  simp
theorem ZF6:ZAS ["ring","place"] ["ring"] (ZAF ZER):=⟨rfl,rfl,rfl,by decide +kernel,rfl,by decide +kernel,by decide +kernel⟩
theorem boot_min:Ff (A2 "min")=some (CB "min"):=by decide +kernel
theorem ZMl {k:Nat}(F:Fun K "from_least" "from_least" ZER f fd)(G:Blt mg)(hmin:mg "min"=none):FnOk P w K mg base CX0 (k+1) f fd ["ring"] ZHr:=by
 refine F.ok ZF6 (λvs H Q E h=>?_) (λcdv A outer s H vs Q E hr h=>?_)
 ·obtain⟨a,ts,rfl,_⟩:=h
  rfl
 obtain⟨a,ts,rfl,ha,hne,hz,q⟩:=h
 refine⟨_,ZAD (ZAL (i:=1) ZF6.nd rfl (Ag rfl) (ZJl Bo CS EH (r:=λx vs H Q=>ZNS K x vs H Q) ZMs (pv 0) (ZAA (ZAY (ZLo rfl) rfl hmin boot_min (ZAA (pv 0) ZAC)) ZAC)))
  (ZAH (ZAT (ZAI ZAG rfl G.tuple boot_tuple (ZAA (ZA7 ZNZ (ZBT ZF3 (pv 0) (ZCA (pv 1)) ZCB) (ZBT ZF3 (pv 0) ZCB (ZCA (pv 1)))) ZAC)))),?_⟩
 have hsq:SqL K H a (ts.map V.str):=SqL.of ha
 refine⟨_,rfl,.inl ⟨rfl,_,hsq⟩,_,rfl,a,ts,rfl,hsq,hne,a,ts,minS ts,rfl,rfl,hsq,ZGL hne,by lia,?_⟩
 refine⟨_,rfl,_,rfl,_,rfl,a,_,rfl,hsq,λl1 n1=>?_⟩
 have s1:=Same.new n1 (.lst (cutV (ts.map V.str) (some (ts.idxOf (minS ts):Int)) none))
 refine⟨_,rfl,_,rfl,_,rfl,a,_,rfl,s1.seq hsq,λl2 n2=>?_⟩
 have s2:=Same.new n2 (.lst (cutV (ts.map V.str) none (some (ts.idxOf (minS ts):Int))))
 refine⟨l1,l2,_,_,rfl,rfl,s2 _ _ ZAB,ZAB,?_,λl3 n3=>?_⟩
 ·have h1:=ZBD (ts.map V.str) (some (ts.idxOf (minS ts):Int)) none
  have h2:=ZBD (ts.map V.str) none (some (ts.idxOf (minS ts):Int))
  rw[AA] at h1 h2
  exact big _ (by lia)
 have s3:=Same.new n3 (.lst (cutV (ts.map V.str) (some (ts.idxOf (minS ts):Int)) none++cutV (ts.map V.str) none (some (ts.idxOf (minS ts):Int))))
 refine⟨l3,_,rfl,.inl ⟨SqL.of ZAB,λq2 nq=>?_⟩⟩
 refine q q2 _ (((s1.trans s2).trans s3).trans (Same.new nq _)) ?_
 rw[ZAB,ZEH,ZLf]
 unfold ZAq
 rw[AX,CD,CU]
end
theorem ZOv {a b:List E3}(h:(a.map AH:List Key)=b.map AH):a=b:=by
 have e:=congrArg (Ds strK) h
 rw[AE,AE] at e
 have id':∀l:List E3,l.map (strK∘(AH:E3->Key))=l:=λl=>by
  have:∀z∈l,(strK∘(AH:E3->Key)) z=z:=λz _=>rfl
  rw[Ah this,CJ]
 rw[id',id'] at e
 exact e
theorem ZKd {kvs:List (List Key×V)}{us:List (List E3)}{u:List E3}{v:V}(h:kvs.map (·.1)=us.map λt=>t.map AH):
  (putK kvs (u.map AH) v).map (·.1)=(if u∈us then us else us++ [u]).map λt=>t.map AH:=by
 have hany:(kvs.any λkv=>decide (kv.1=u.map AH))=decide (u∈us):=by
  rw[B1,Cu,decide_eq_true_eq]
  constructor
  ·rintro⟨kv,hm,e⟩
   have hk:kv.1∈kvs.map (·.1):=AD.mpr ⟨kv,hm,rfl⟩
   rw[h] at hk
   obtain⟨t,ht,e2⟩:=AD.mp hk
   have e3:kv.1=u.map AH:=by simpa using e
   rw[<-ZOv (e2.trans e3)]
   exact ht
  ·intro hu
   have hk:(u.map AH:List Key)∈us.map λt=>t.map AH:=AD.mpr ⟨u,hu,rfl⟩
   rw[<-h] at hk
   obtain⟨kv,hm,e⟩:=AD.mp hk
   exact⟨kv,hm,by simpa using e⟩
 unfold putK
 rw[hany]
 by_cases c:u∈us
 ·rw[decide_eq_true c,if_pos rfl,if_pos c,AE,<-h]
  refine Ah λkv _=>?_
  show(if kv.1=u.map AH then(kv.1,v) else kv).1=kv.1
  split<;>rfl
 ·rw[decide_eq_false c,if_neg AM,if_neg c,AX,AX,h]
  rfl
section
variable {P:E7}{w:FA}{K:AB}{mg:E3->Option E2}{base:E9}{f:Ez}{fd:FJ}
theorem ZBs:ZAS ["rows","goals","known","row","stop"] ["rows"] (ZAF ZEP):=⟨rfl,rfl,rfl,by decide +kernel,rfl,by decide +kernel,by decide +kernel⟩
theorem ZMh {k:Nat}(F:Fun K "rings" "rings" ZEP f fd)(G:Blt mg)(h0:ZA4 mg "FIRST" 0)(hS:Has P w K mg base "stop_of" k ["goals","name"] ZEK)(hRF:Has P w K mg base "ring_from" k ["goals","name"] ZDS)(hLe:Has P w K mg base "from_least" k ["ring"] ZHr):
  FnOk P w K mg base CX0 (k+1) f fd ["rows"] ZFv:=by
 refine F.ok ZBs (λvs H Q E h=>?_) (λcdv A outer s H vs Q E hr h=>?_)
 ·obtain⟨a,R,rfl,_⟩:=h
  rfl
 obtain⟨a,R,rfl,⟨rs,ha,hrs,hR⟩,nd,hz,q⟩:=h
 obtain⟨t0,m0⟩:=h0
 have hu:=ZA9 hr
 refine⟨_,ZAD (ZAL (i:=1) ZBs.nd rfl (Ag rfl) (ZAI (ZB1 rfl) rfl G.dict boot_dict (ZAA (pv 0) ZAC)))
  (ZAD (ZAL (i:=2) ZBs.nd rfl (Ag rfl) ZCD)
  (ZAD (ZCK PassesOwn.never rfl (ZAp (pv 0)) (ZAK (i:=3) ZBs.nd rfl (Ag rfl))
   (ZAD (ZAL (i:=4) ZBs.nd rfl (Ag rfl) (ZAE hS hr rfl (ZAA (pv 1) (ZAA (ZAk ZAX (pv 3) (ZAQ rfl m0 (v:= .int 0) ⟨_,rfl⟩) λ_ _=>rfl) ZAC))))
   (ZAH (ZBc (ZBO (ZCh hu (pv 4) (pv 1)) (by with_unfolding_all rfl))
    (ZAH (ZB9 hu (pv 2) (ZAE hLe hr rfl (ZAA (ZAE hRF hr rfl (ZAA (pv 1) (ZAA (pv 4) ZAC))) ZAC)) ZJm rfl)) ZAg))))
  (ZAH (ZAT (ZAI ZAG rfl G.tuple boot_tuple (ZAA (ZAY (ZCI rfl) rfl G.sorted boot_sorted (ZAA (pv 2) ZAC)) ZAC)))))),?_⟩
 have hlz:rs.length<60:=by rw[<-hR,AA] at hz;exact hz
 have hpv:=ZBX (K:=K) hrs
 rw[hR] at hpv
 refine⟨_,rfl,a,_,_,rfl,ha,hpv,by rw[AA];lia,λd nd'=>?_⟩
 rw[ZBf nd]
 have s1:=Same.new nd' (.dK (dkOf R))
 have hd1:(upd H d (.dK (dkOf R)):Hp) d=some (.dK (dkOf R)):=ZAB
 generalize (upd H d (.dK (dkOf R)):Hp)=H1 at*
 intro kn nk
 have s2:=Same.new nk (.dT [])
 have hk2:(upd H1 kn (.dT []):Hp) kn=some (.dT []):=ZAB
 have hH1k:=nk
 have hd2:=s2 _ _ hd1
 have ha2:=(s1.trans s2) _ _ ha
 have s12:=s1.trans s2
 generalize (upd H1 kn (.dT []):Hp)=H2 at*
 refine⟨_,rfl,a,rfl,⟨_,SqT.of ha2⟩,?_⟩
 refine ZIE (xs:=refs rs) (λi Z H'=>∃(v3 v4:Option V) (kvs:List (List Key×V)) (us:List (List E3)),Z= [some (.ref a),some (.ref d),some (.ref kn),v3,v4]/\Same H1 H'/\H' kn=some (.dT kvs)/\kvs.map (·.1)=(us.map λt=>t.map AH)/\us.Nodup/\us.length<=i/\
   ∀u,u∈us↔∃r∈R.take i,val R (stop R r.1)≠none/\u=ZAq (ZAa R r.1))
  ⟨_,_,[],[],rfl,s2,hk2,rfl,BZ,AK _,by simp⟩ (λi Z H' _ h=>by obtain⟨_,_,_,_,_,s',_⟩:=h;exact SqT.of (s' _ _ (s1 _ _ ha))) ?_ ?_
 ·rintro i x Z H3 hx ⟨v3,v4,kvs,us,rfl,s3,hk3,hkeys,ndu,hlu,hmem⟩
  rw[AS] at hx
  obtain⟨r,hri,rfl⟩:∃r,rs[i]?=some r/\V.ref r.1=x:=by
   cases hh:rs[i]? with
   |none=>rw[hh] at hx;cases hx
   |some y=>rw[hh] at hx;injection hx with hx;exact⟨y,rfl,hx⟩
  have hr':r∈rs:=Az hri
  have hli:i<rs.length:=(BW.mp hri).1
  have htk:R.take (i+1)=R.take i++ [r.2]:=by
   have:R[i]?=some r.2:=by rw[<-hR,AS,hri];rfl
   rw[BG,this]
   rfl
  refine⟨_,rfl,_,rfl,r.1,_,_,V.str r.2.1,rfl,rfl,SqT.of ((s1.trans s3) _ _ (hrs r hr')),rfl,d,R,r.2.1,rfl,s3 _ _ hd1,by lia,λH4 s4=>?_⟩
  have hd4:=(s3.trans s4) _ _ hd1
  refine⟨_,rfl,_,rfl,d,_,rfl,DGet.k (k:=AH (stop R r.2.1)) hd4,_,rfl,?_⟩
  rw[ZDt]
  cases hv:val R (stop R r.2.1) with
  |none=>
   refine iteF ⟨_,_,kvs,us,rfl,s3.trans s4,s4 _ _ hk3,hkeys,ndu,by lia,λu=>?_⟩
   rw[hmem,htk]
   constructor
   ·rintro⟨z,hz,h1,h2⟩;exact⟨z,BD _ hz,h1,h2⟩
   ·rintro⟨z,hz,h1,h2⟩
    rcases AY.mp hz with hz|hz
    ·exact⟨z,hz,h1,h2⟩
    ·rw[AF.mp hz] at h1;exact absurd hv h1
  |some g=>
   obtain⟨L,m,eL,hm,hl,hLl⟩:=ZDZ (R:=R) (n:=r.2.1) (by rw[hv];exactλe=>nomatch e)
   refine iteT ⟨_,rfl,_,rfl,_,rfl,d,R,stop R r.2.1,m,L,rfl,hd4,hm,hl,by lia,λp5 H5 s5 hp5=>?_⟩
   refine⟨p5,stop R r.2.1::L,rfl,hp5,(λe=>nomatch e),by rw[Ac];lia,λp6 H6 s6 hp6=>?_⟩
   rw[<-eL] at hp6
   have hk6:=((s4.trans s5).trans s6) _ _ hk3
   have ek:((ZAq (ZAa R r.2.1)).map V.str)=((ZAq (ZAa R r.2.1)).map AH:List Key).map kV:=by rw[AE];rfl
   rw[ek] at hp6
   have hkl:kvs.length<=i:=by have:=congrArg Ay hkeys;rw[AA,AA] at this;lia
   refine⟨kn,_,rfl,DPut.t hk6 hp6 (bigl _ (by lia)),?_⟩
   have hkeys2:=ZKd (u:=ZAq (ZAa R r.2.1)) (v:=V.bl true) hkeys
   refine⟨_,_,_,_,rfl,?_,ZAB,hkeys2,?_,?_,λu=>?_⟩
   ·intro b o eb
    have hb:b≠kn:=ZAJ eb hH1k
    rw[ZAN hb]
    exact(((s3.trans s4).trans s5).trans s6) _ _ eb
   ·by_cases c:ZAq (ZAa R r.2.1)∈us
    ·rw[if_pos c];exact ndu
    ·rw[if_neg c,Aw]
     exact⟨ndu,by simp,λx hx y hy e=>by rw[AF.mp hy] at e;exact c (e▸hx)⟩
   ·by_cases c:ZAq (ZAa R r.2.1)∈us
    ·rw[if_pos c];lia
    ·rw[if_neg c,AW,Ai];lia
   ·have base':(∃z∈R.take (i+1),val R (stop R z.1)≠none/\u=ZAq (ZAa R z.1))↔u∈us\/u=ZAq (ZAa R r.2.1):=by
     rw[hmem,htk]
     constructor
     ·rintro⟨z,hz,h1,h2⟩
      rcases AY.mp hz with hz|hz
      ·exact .inl ⟨z,hz,h1,h2⟩
      ·rw[AF.mp hz] at h2;exact .inr h2
     ·rintro(⟨z,hz,h1,h2⟩|h2)
      ·exact⟨z,BD _ hz,h1,h2⟩
      ·exact⟨r.2,AU _ (by simp),(by rw[hv];exactλe=>nomatch e),h2⟩
    rw[base']
    by_cases c:ZAq (ZAa R r.2.1)∈us
    ·rw[if_pos c]
     exact⟨.inl,λh=>h.elim id λe=>e▸c⟩
    ·rw[if_neg c,AY,AF]
 ·rintro Z H3 ⟨v3,v4,kvs,us,rfl,s3,hk3,hkeys,ndu,hlu,hmem⟩
  rw[AA] at hlu hmem
  have hRl:R.length=rs.length:=by rw[<-hR,AA]
  have htk:R.take rs.length=R:=by rw[<-hRl,Bd]
  rw[htk] at hmem
  refine⟨_,rfl,kn,us,rfl,⟨kvs,.inl hk3,hkeys⟩,by lia,λt ht=>?_,λl qs nl hp hH hs=>?_⟩
  ·obtain⟨r,hr',hne,rfl⟩:=(hmem t).mp ht
   obtain⟨L,m,eL,_⟩:=ZDZ hne
   exact ZIu (by rw[eL];exactλe=>nomatch e)
  have s4:=Same.new nl (.lst (qs.map λr=>V.ref r.1))
  refine⟨l,_,rfl,.inl ⟨SqL.of ZAB,λq2 nq2=>?_⟩⟩
  have s5:=Same.new nq2 (.tup (qs.map λr=>V.ref r.1))
  refine q q2 (qs.map (·.2)) _ (((s1.trans s3).trans s4).trans s5) ⟨qs,ZAB,λr hr'=>(s4.trans s5) _ _ (hH r hr'),rfl⟩ ⟨?_,λu=>?_⟩
  ·rw[Aa]
   have ndq:(qs.map (·.2)).Nodup:=hp.nodup_iff.mpr ndu
   rw[List.Nodup,Aa] at ndq
   refine(hs.and ndq).imp λ{a b} z=>?_
   cases hc:HS.ltT a.2 b.2 with
   |true=>rfl
   |false=>exact absurd (HS.ltT_tri _ _ hc z.1) z.2
  ·rw[hp.mem_iff,hmem]
end
inductive ZFa (vs:List V)(H:Hp)(Q:VK):Prop
 |mk:∀(a:Ez) (R:List Rw),(vs= [.ref a])->(ZAx H a R)->((R.map (·.1)).Nodup)->(R.length<60)->(∀(p:Ez) (Rs:List Rw) (ts:List E3) (H':Hp),Same H H'->Rs.Perm R->Rise Rs->ts.Pairwise (λa b=>HS.ltS a b=true)->(∀g,g∈ts↔∃r∈R,r.2=g)->ZLu H' p (ts.map λg=>(g,grp Rs g))->Q (.ref p) H')->ZFa vs H Q
def ZD3:Sp:=λvs H Q _=>ZFa vs H Q
theorem ZGp {ts us:List E3}(hp:ts.Perm us)(nd:us.Nodup)(hs:ts.Pairwise λa b=>HS.ltS b a=false):ts.Pairwise λa b=>HS.ltS a b=true:=by
 have ndt:ts.Pairwise λa b=>a≠b:=hp.nodup_iff.mpr nd
 refine(hs.and ndt).imp λ{a b} z=>?_
 cases hc:HS.ltS a b with
 |true=>rfl
 |false=>exact absurd (HS.ltS_tri hc z.1) z.2
theorem ZKT {R:List Rw}{rs2 rs:List (Ez×Rw)}(hR:rs.map (·.2)=R)(nd:(R.map (·.1)).Nodup)(hp:rs2.Perm rs)(hs:(rs2.map λr=>(r.1,[r.2.1,r.2.2])).Pairwise λa b=>HS.ltT b.2 a.2=false):(rs2.map (·.2)).Perm R/\Rise (rs2.map (·.2)):=by
 have hp2:(rs2.map (·.2)).Perm R:=by rw[<-hR];exact hp.map _
 refine⟨hp2,ZHy ((hp2.map (·.1)).nodup_iff.mpr nd) ?_⟩
 rw[Aa] at hs ⊢
 exact hs
section
variable {P:E7}{w:FA}{K:AB}{mg:E3->Option E2}{base:E9}{f:Ez}{fd:FJ}
theorem ZCX:ZAS ["rows","leading","row"] ["rows"] (ZAF ZCs):=⟨rfl,rfl,rfl,by decide +kernel,rfl,by decide +kernel,by decide +kernel⟩
theorem nd9:(["goal","leading"]:List E3).Nodup:=by decide +kernel
theorem ZKx {k:Nat}(F:Fun K "turned" "turned" ZCs f fd)(G:Blt mg)(h0:ZA4 mg "FIRST" 0)(h1:ZA4 mg "GOAL_moving" 1):FnOk P w K mg base CX0 (k+1) f fd ["rows"] ZD3:=by
 refine F.ok ZCX (λvs H Q E h=>?_) (λcdv A outer s H vs Q E hr h=>?_)
 ·obtain⟨a,R,rfl,_⟩:=h
  rfl
 obtain⟨a,R,rfl,⟨rs,ha,hrs,hR⟩,nd,hz,q⟩:=h
 obtain⟨t0,m0⟩:=h0
 obtain⟨t1,m1⟩:=h1
 have hu:=ZA9 hr
 refine⟨_,ZAD (ZAL (i:=1) ZCX.nd rfl (Db rfl) ZGF)
  (ZAD (ZCK PassesOwn.never rfl (ZCC (ZAY ZCe rfl G.sorted boot_sorted (ZAA (pv 0) ZAC))) (ZAK (i:=2) ZCX.nd rfl (Ag rfl))
   (ZAH (ZB9 hu (pv 1) (ZAk ZAX (pv 2) (ZAQ rfl m1 (v:= .int 1) ⟨_,rfl⟩) λ_ _=>rfl)
    (ZA7 ZCE (ZIj hu (pv 1) (ZAk ZAX (pv 2) (ZAQ rfl m1 (v:= .int 1) ⟨_,rfl⟩) λ_ _=>rfl) (ZAt ZAC) ⟨rfl,rfl,rfl,rfl⟩)
     (ZAt (ZAA (ZAk ZAX (pv 2) (ZAQ rfl m0 (v:= .int 0) ⟨_,rfl⟩) λ_ _=>rfl) ZAC))) rfl)))
  (ZAH (ZAT (ZAI ZAG rfl G.tuple boot_tuple (ZAA (ZAO (xs:= ["goal"]) (ys:= ["leading"]) (js:= [1]) rfl (by decide +kernel) (by decide +kernel) rfl (by decide +kernel) ⟨rfl,.inl rfl,rfl,trivial⟩
   (ZCC (ZAY (ZJy rfl) rfl G.sorted boot_sorted (ZAA (pv 1) ZAC))) (λ_ _ _ _ _=>ZAK (i:=0) nd9 rfl (Ag rfl) (.inr rfl)) (λ_ _ _ _ _=>ZAb)
   (λ_ _ _ _ _=>ZAt (ZAA (pv 0) (ZAA (ZAe hu (pv 1) (pv 0) λ_ _=>rfl) ZAC)))) ZAC))))),?_⟩
 have hlz:rs.length<60:=by rw[<-hR,AA] at hz;exact hz
 intro d ndd
 have s1:=Same.new ndd (.dK [])
 have hd1:(upd H d (.dK []):Hp) d=some (.dK []):=ZAB
 generalize (upd H d (.dK []):Hp)=H1 at*
 have hrs1:=hrs.ts s1.ts
 refine⟨_,rfl,a,rs.map λr=>(r.1,[r.2.1,r.2.2]),rfl,.inr (SqT.of (by rw[AE];exact s1 _ _ ha)),by rw[AA];lia,λr hr'=>?_,λl ss nl hp hs=>?_⟩
 ·obtain⟨q',hq',rfl⟩:=AD.mp hr'
  exact⟨SqT.of (hrs1 q' hq'),λe=>nomatch e⟩
 obtain⟨rs4,hp4,rfl⟩:=ZGh hp
 obtain⟨hpR,hrise⟩:=ZKT hR nd hp4 hs
 have hl4:rs4.length=rs.length:=hp4.length_eq
 have sl:=Same.new nl (.lst ((rs4.map λr=>(r.1,[r.2.1,r.2.2])).map λr=>V.ref r.1))
 have hl2:(upd H1 l (.lst ((rs4.map λr=>(r.1,[r.2.1,r.2.2])).map λr=>V.ref r.1)):Hp) l=some (.lst (refs rs4)):=by rw[ZAB,AE];rfl
 have hd2:=sl _ _ hd1
 have hld:l≠d:=λe=>by rw[e,hd1] at nl;cases nl
 have hrs2:ZB3 (upd H1 l (.lst ((rs4.map λr=>(r.1,[r.2.1,r.2.2])).map λr=>V.ref r.1))) rs4:=λr hr'=>sl _ _ (hrs1 r (hp4.mem_iff.mp hr'))
 have s02:=s1.trans sl
 generalize (upd H1 l (.lst ((rs4.map λr=>(r.1,[r.2.1,r.2.2])).map λr=>V.ref r.1)):Hp)=H2 at*
 have hHd:H d=none:=ndd
 refine⟨l,rfl,⟨_,SqL.of hl2⟩,?_⟩
 refine ZIz (xs:=refs rs4) (λi Z H'=>∃(v2:Option V) (gs:List E3),Z= [some (.ref a),some (.ref d),v2]/\Same H H'/\H' l=some (.lst (refs rs4))/\ZB3 H' rs4/\ZCg H' d ((rs4.map (·.2)).take i) gs)
  ⟨_,[],rfl,s02,hl2,hrs2,by rw[Bp];exact ZOz hd2⟩ (λi Z H' _ h=>by obtain⟨_,_,_,_,h,_⟩:=h;exact SqL.of h) ?_ ?_
 ·rintro i x Z H3 hx ⟨v2,gs,rfl,s3,hl3,hrs3,hG⟩
  rw[AS] at hx
  obtain⟨r,hri,rfl⟩:∃r,rs4[i]?=some r/\V.ref r.1=x:=by
   cases hh:rs4[i]? with
   |none=>rw[hh] at hx;cases hx
   |some y=>rw[hh] at hx;injection hx with hx;exact⟨y,rfl,hx⟩
  have hr':r∈rs4:=Az hri
  have hrow:=hrs3 r hr'
  have htk:(rs4.map (·.2)).take (i+1)=(rs4.map (·.2)).take i++ [r.2]:=by
   rw[BG,AS,hri]
   rfl
  obtain⟨kvs0,hdk,_⟩:=id hG
  refine⟨_,rfl,d,rfl,.inl ⟨_,.inl hdk⟩,_,rfl,r.1,_,_,V.str r.2.2,rfl,rfl,SqT.of hrow,rfl,big _ (by simp),λe ne=>?_⟩
  have s4:=Same.new ne (.tup ([]:List V))
  obtain⟨o,b,hget,hob,hb⟩:=(hG.same s4).get r.2.2 (e:=e) ZAB
  refine⟨o,hget,?_⟩
  rw[hob]
  refine⟨_,rfl,r.1,_,_,V.str r.2.1,rfl,rfl,SqT.of (s4 _ _ hrow),rfl,big _ (by simp),λc nc=>?_⟩
  have s5:=Same.new nc (.tup [V.str r.2.1])
  have hgl:(grp ((rs4.map (·.2)).take i) r.2.2).length<=60:=by
   unfold grp
   rw[AA]
   have h3:=Ap (λ(z:Rw)=>decide (z.2=r.2.2)) ((rs4.map (·.2)).take i)
   rw[Ax,AA] at h3
   lia
  refine⟨b,c,_,_,rfl,rfl,s5 _ _ hb,ZAB,big _ (by rw[AA,Ai];lia),λp H6 s6 hp6=>?_⟩
  have s36:=(s4.trans s5).trans s6
  have hp6':H6 p=some (.tup ((grp ((rs4.map (·.2)).take i) r.2.2++ [r.2.1]).map V.str)):=by rw[hp6,AX];rfl
  obtain⟨H7,hput,hG7,hkeep⟩:=(hG.same s36).put r.2 hp6' (by rw[Ax,AA];lia)
  refine⟨_,rfl,_,rfl,r.1,_,_,V.str r.2.2,rfl,rfl,SqT.of (s36 _ _ hrow),rfl,d,H7,rfl,hput,?_⟩
  refine⟨_,_,rfl,λz o' ez=>?_,hkeep _ _ hld (s36 _ _ hl3),λz hz'=>?_,by rw[htk];exact hG7⟩
  ·exact hkeep _ _ (ZAJ ez hHd) (s36 _ _ (s3 _ _ ez))
  ·have h1:=s36 _ _ (hrs3 z hz')
   exact hkeep _ _ (λe'=>by rw[e',s36 _ _ hdk] at h1;cases h1) h1
 ·rintro Z H3 ⟨v2,gs,rfl,s3,hl3,hrs3,hG⟩
  rw[AA] at hG
  have htk:(rs4.map (·.2)).take rs4.length=rs4.map (·.2):=BH (by rw[AA];exact AK _)
  rw[htk] at hG
  obtain⟨kvs0,hdk,hkeys,ndg,hmem,hgl,_⟩:=id hG
  rw[AA] at hgl
  refine⟨_,rfl,d,gs,rfl,⟨kvs0,.inl hdk,hkeys⟩,by lia,λl5 ts nl5 hpt hst=>?_⟩
  have s4:=Same.new nl5 (.lst (ts.map V.str))
  have hl5:(upd H3 l5 (.lst (ts.map V.str)):Hp) l5=some (.lst (ts.map V.str)):=ZAB
  have hG4:=hG.same s4
  generalize (upd H3 l5 (.lst (ts.map V.str)):Hp)=H4 at*
  have htl:ts.length=gs.length:=hpt.length_eq
  refine⟨l5,rfl,⟨_,SqL.of hl5⟩,λD hD=>?_⟩
  refine ZB0 (xs:=ts.map V.str) (fr:= [some (.ref d)]) (λx v H'=>∃g,x=V.str g/\∃b c,v=V.ref b/\H' b=some (.tup [.str g,.ref c])/\H' c=some (.tup ((grp (rs4.map (·.2)) g).map V.str))) (λx v H H' s h=>?_) D hD (ZAv (SqL.of hl5)) (bigl _ (by rw[AA];lia)) ?_ ?_
  ·obtain⟨g,e,b,c,e2,hb,hc⟩:=h
   exact⟨g,e,b,c,e2,s _ _ hb,s _ _ hc⟩
  ·intro x H5 Rr hx s5 hR5
   obtain⟨g,hg,rfl⟩:=AD.mp hx
   obtain⟨c,hget,hc⟩:=(hG4.same s5).at (hpt.mem_iff.mp hg)
   refine⟨_,rfl,_,rfl,_,rfl,d,V.ref c,rfl,hget,big _ (by simp),λb nb=>?_⟩
   exact hR5 _ _ (Same.new nb _) ⟨g,rfl,b,c,rfl,ZAB,Same.new nb _ _ _ hc⟩
  ·intro H5 ys s5 hD5 hp5
   obtain⟨qs,rfl,hq1,hq2⟩:=ZG2 hp5
   refine⟨D,_,rfl,.inl ⟨SqL.of hD5,λq2 nq2=>?_⟩⟩
   have s6:=Same.new nq2 (.tup (qs.map λq=>V.ref q.1))
   refine q q2 (rs4.map (·.2)) ts _ ((((s3.trans s4).trans s5)).trans s6) hpR hrise (ZGp hpt ndg hst) (λg=>?_) ⟨qs,ZAB,λz hz'=>⟨s6 _ _ (hq1 z hz').1,s6 _ _ (hq1 z hz').2⟩,hq2⟩
   rw[hpt.mem_iff,hmem]
   constructor
   ·rintro⟨r,hr',e⟩;exact⟨r,hpR.mem_iff.mp hr',e⟩
   ·rintro⟨r,hr',e⟩;exact⟨r,hpR.mem_iff.mpr hr',e⟩
end
inductive ZFm (vs:List V)(H:Hp)(Q:VK):Prop
 |mk:∀(a b:Ez) (u v:List E3),(vs= [.ref a,.ref b])->(TupA H a u)->(TupA H b v)->(∀H',Same H H'->Q (.bl (decide (u.take v.length=v))) H')->ZFm vs H Q
def ZC6:Sp:=λvs H Q _=>ZFm vs H Q
inductive ZJF (vs:List V)(H:Hp)(Q:VK):Prop
 |mk:∀(p b g:Ez) (v:List E3),(vs= [.ref p])->(H p=some (.tup [.ref b,.ref g]))->(TupA H b v)->(Q (.int v.length) H)->ZJF vs H Q
def ZId:Sp:=λvs H Q _=>ZJF vs H Q
inductive ZEv (vs:List V)(H:Hp)(Q:VK):Prop
 |mk:∀(p a:Ez) (rs:List Rx) (u:List E3),(vs= [.ref p,.ref a])->(ZIS H p rs)->(ZE1 H rs)->(((rs.map (·.2.2.2)).map (·.1)).Nodup)->(rs.length<=100)->(TupA H a u)->((best u (rs.map (·.2.2.2))=none->∀H',Same H H'->Q .non H'))->((∀x∈rs,best u (rs.map (·.2.2.2))=some x.2.2.2->∀H',Same H H'->Q (.ref x.1) H'))->ZEv vs H Q
def ZEM:Sp:=λvs H Q _=>ZEv vs H Q
inductive ZJE (vs:List V)(H:Hp)(Q:VK):Prop
 |mk:∀(p a:Ez) (rs:List Rx) (u:List E3),(vs= [.ref p,.ref a])->(ZIS H p rs)->(ZE1 H rs)->(((rs.map (·.2.2.2)).map (·.1)).Nodup)->(rs.length<=100)->((∀r∈rs.map (·.2.2.2),r.2.length<=1000))->(TupA H a u)->(u.length<=50000)->((ZAy (rs.map (·.2.2.2)) u=none->∀H',Same H H'->Q .non H'))->((∀x,ZAy (rs.map (·.2.2.2)) u=some x->∀q H',Same H H'->TupA H' q x->Q (.ref q) H'))->ZJE vs H Q
def ZEL:Sp:=λvs H Q _=>ZJE vs H Q
inductive ZL4 (C:Ez)(vs:List V)(H:Hp)(Q:VK)(E:XK):Prop
 |mk:∀(p a:Ez) (rs:List Rx) (u:List E3),(vs= [.ref p,.ref a])->(ZIS H p rs)->(ZE1 H rs)->(((rs.map (·.2.2.2)).map (·.1)).Nodup)->(rs.length<=100)->((∀r∈rs.map (·.2.2.2),r.2.length<=1000))->(TupA H a u)->(u.length<=1000)->((∀x,ledN 8 (rs.map (·.2.2.2)) u=some x->∀q H',Same H H'->TupA H' q x->Q (.ref q) H'))->((ledN 8 (rs.map (·.2.2.2)) u=none->∀H',Same H H'->E (.ref C) none H'))->ZL4 C vs H Q E
def ZOJ (C:Ez):Sp:=λvs H Q E=>ZL4 C vs H Q E
inductive ZCn (vs:List V)(H:Hp)(Q:VK):Prop
 |mk:∀(p:Ez) (rs:List Rx) (x:Rx),(vs= [.ref p,.ref x.1])->(ZIS H p rs)->(ZE1 H rs)->(RlH H x)->(((rs.map (·.2.2.2)).map (·.1)).Nodup)->(rs.length<=100)->((∀r∈rs.map (·.2.2.2),r.2.length<=1000))->(x.2.2.2.1.length<=1000)->(∀H',Same H H'->Q (.bl (ZCF (rs.map (·.2.2.2)) x.2.2.2)) H')->ZCn vs H Q
def ZBo:Sp:=λvs H Q _=>ZCn vs H Q
inductive ZDx (vs:List V)(H:Hp)(Q:VK):Prop
 |mk:∀(p:Ez) (R:List Rl),(vs= [.ref p])->(ZEs H p R)->((R.map (·.1)).Nodup)->(R.length<64)->((∀r∈R,r.2.length<=1000/\r.1.length<=1000))->(∀(q:Ez) (T:List (List E3)) (H':Hp),Same H H'->ZPB H' q T->(T.Pairwise λa b=>HS.ltT a b=true)->(∀u,u∈T↔∃r∈R,ZCF R r=true/\r.1=u)->Q (.ref q) H')->ZDx vs H Q
def ZDT:Sp:=λvs H Q _=>ZDx vs H Q
section
variable {P:E7}{w:FA}{K:AB}{mg:E3->Option E2}{base:E9}{f:Ez}{fd:FJ}
theorem ZMQ:ZAS ["address","beginning"] ["address","beginning"] (ZAF ZDY):=⟨rfl,rfl,rfl,by decide +kernel,rfl,by decide +kernel,by decide +kernel⟩
theorem ZK6 {k:Nat}(F:Fun K "begins_with" "begins_with" ZDY f fd)(G:Blt mg):FnOk P w K mg base CX0 (k+1) f fd ["address","beginning"] ZC6:=by
 refine F.ok ZMQ (λvs H Q E h=>?_) (λcdv A outer s H vs Q E hr h=>?_)
 ·obtain⟨a,b,u,v,rfl,_⟩:=h
  rfl
 obtain⟨a,b,u,v,rfl,ha,hb,q⟩:=h
 refine⟨_,(ZAH (ZAT (ZGG (ZGu (hu8 hr)) (ZBT ZEN (pv 0) ZCB (ZCA (ZAY ZA3 rfl G.len Ce (ZAA (pv 1) ZAC)))) (pv 1) (ZAm _)))),?_⟩
 refine⟨_,rfl,_,rfl,b,_,rfl,.inr (SqT.of hb),_,rfl,a,_,rfl,ha,λt1 H1 s1 ht1=>?_⟩
 rw[AA,ZO7] at ht1
 refine⟨_,rfl,_,_,ZBY ht1,ZBY (s1 _ _ hb),by rw[ZBh];decide,?_⟩
 rw[ZDQ]
 exact q H1 s1
theorem scLenB:ZAS ["rule"] ["rule"] (ZAF ZJZ):=⟨rfl,rfl,rfl,by decide +kernel,rfl,by decide +kernel,by decide +kernel⟩
theorem ZOf {k:Nat}(F:Fun K "length_of_beginning" "length_of_beginning" ZJZ f fd)(G:Blt mg)(h0:ZA4 mg "BEGINNING" 0):FnOk P w K mg base CX0 (k+1) f fd ["rule"] ZId:=by
 refine F.ok scLenB (λvs H Q E h=>?_) (λcdv A outer s H vs Q E hr h=>?_)
 ·obtain⟨p,b,g,v,rfl,_⟩:=h
  rfl
 obtain⟨p,b,g,v,rfl,hp,hb,q⟩:=h
 obtain⟨t0,m0⟩:=h0
 refine⟨_,(ZAH (ZAT (ZAY ZA3 rfl G.len Ce (ZAA (ZAk ZAX (pv 0) (ZAQ rfl m0 (v:= .int 0) ⟨_,rfl⟩) λ_ _=>rfl) ZAC)))),?_⟩
 refine⟨_,rfl,p,_,_,V.ref b,rfl,rfl,SqT.of hp,rfl,b,_,rfl,.inr (SqT.of hb),?_⟩
 rw[AA]
 exact q
theorem ZGk:ZAS ["rules","address","fitting"] ["rules","address"] (ZAF ZCY):=⟨rfl,rfl,rfl,by decide +kernel,rfl,by decide +kernel,by decide +kernel⟩
theorem ndLR0:(["rule","address"]:List E3).Nodup:=by decide +kernel
theorem ZJq {k:Nat}(F:Fun K "longest_rule" "longest_rule" ZCY f fd)(G:Blt mg)(h0:ZA4 mg "BEGINNING" 0)(hmax:mg "max"=none)(hBegins:Has P w K mg base "begins_with" (k+1) ["address","beginning"] ZC6)(hLen:Has P w K mg base "length_of_beginning" k ["rule"] ZId):
  FnOk P w K mg base CX0 (k+2) f fd ["rules","address"] ZEM:=by
 refine F.ok ZGk (λvs H Q E h=>?_) (λcdv A outer s H vs Q E hr h=>?_)
 ·obtain⟨p,a,rs,u,rfl,_⟩:=h
  rfl
 obtain⟨p,a,rs,u,rfl,hp,hrs,nd,hz,ha,qn,qs⟩:=h
 obtain⟨t0,m0⟩:=h0
 obtain⟨fL,fdL,FL,bL,kL,mL⟩:=hLen
 refine⟨_,(ZAD (ZDB (ix:=2) (tt:=(tB (ZCM ZC6 [] E0 (ZAW (tVar 1) (ZAW (tOp (rIxT K) (tVar 0) (tC (.int 0))) tNil))))) (te:=(tVar 0)) (xs:= ["rule"]) (ys:= ["address"]) (js:= [1]) rfl (by decide +kernel) (by decide +kernel) rfl (by decide +kernel) ⟨rfl,.inl rfl,rfl,trivial⟩
   (ZNV (pv 0)) (λ_ _ _ _ _=>(ZAK (i:=0) ndLR0 rfl (Ag rfl) (.inr rfl))) (λ_ _ _ _ _=>ZBb (ZFI (ZAE hBegins hr rfl (ZAA (pv 1) (ZAA (ZAk ZAX (pv 0) (ZAQ rfl m0 (v:= .int 0) ⟨_,rfl⟩) λ_ _=>rfl) ZAC))))) (λ_ _ _ _ _=>(pv 0)) ZGk.nd rfl (Ag rfl))
  (ZAH (ZAT (ZMZ (E:=E0) FL hr bL hmax rfl mL rfl (pv 2) ZDp)))),?_⟩
 have comp:∀(D:Ez) (J:It),H D=none->Tells J H (rs.map λx=>V.ref x.1)->∀QD:Hp->Prop,(∀H',Same H H'->H' D=some (.lst ((rs.filter λx=>fits u x.2.2.2).map λx=>V.ref x.1))->QD H')->_:=λD J hD T QD hq=>ZBM (J:=J) (tt:=tB (ZCM ZC6 [] E0 (ZAW (tVar 1) (ZAW (tOp (rIxT K) (tVar 0) (tC (.int 0))) tNil)))) (te:=tVar 0) (QD:=QD) (λx:Rx=>V.ref x.1) (fr:= [some (.ref a)]) (λx=> .ref x.1) (λx=>fits u x.2.2.2) D hD T (bigl _ (by lia))
  (λx H1 Rr hx s1 hR1=>by
   have hx1:=(hrs x hx).ts s1.ts
   exact⟨_,rfl,_,rfl,x.1,_,_,V.ref x.2.1,rfl,rfl,SqT.of hx1.1,rfl,a,x.2.1,u,_,rfl,s1 _ _ ha,hx1.2.1,λH2 s2=>⟨_,rfl,hR1 H2 s2⟩⟩)
  (λx H1 Rr hx _ s1 hR1=>⟨_,rfl,hR1 H1 (Same.refl _)⟩) hq
 have fin:∀(D:Ez) (H1:Hp),Same H H1->H1 D=some (.lst ((rs.filter λx=>fits u x.2.2.2).map λx=>V.ref x.1))->ZNP K ZId E0 fL (tVar 2) (tC .non) [some (.ref p),some (.ref a),some (.ref D)] H1 Q:=λD H1 s1 hD1=>by
  refine⟨_,rfl,D,_,_,rfl,rfl,SqL.of hD1,λe=>?_,λhne=>?_⟩
  ·refine qn (ZDM.mpr λr hr'=>?_) H1 s1
   obtain⟨x,hx,rfl⟩:=AD.mp hr'
   cases hf:fits u x.2.2.2 with
   |false=>rfl
   |true=>
    have:x∈rs.filter λx=>fits u x.2.2.2:=Ao.mpr ⟨hx,hf⟩
    rw[C7] at e
    rw[e] at this
    cases this
  ·let fl:=rs.filter λx=>fits u x.2.2.2
   refine⟨λi=>((fl.map λx=>x.2.2.2.1.length).getD i 0:Nat),λi v hv=>?_,λi v hv hb=>?_⟩
   ·rw[AS] at hv
    obtain⟨x,hxi,rfl⟩:∃x,fl[i]?=some x/\V.ref x.1=v:=by
     cases hh:fl[i]? with
     |none=>rw[hh] at hv;cases hv
     |some y=>rw[hh] at hv;injection hv with hv;exact⟨y,rfl,hv⟩
    have hx1:=(hrs x (Ao.mp (Az hxi)).1).ts s1.ts
    refine⟨x.1,x.2.1,x.2.2.1,_,rfl,hx1.1,hx1.2.1,?_,rfl⟩
    show V.int _=V.int (((fl.map λx=>x.2.2.2.1.length).getD i 0:Nat):Int)
    rw[AT,AS,hxi]
    rfl
   ·rw[AS] at hv
    obtain⟨x,hxi,rfl⟩:∃x,fl[i]?=some x/\V.ref x.1=v:=by
     cases hh:fl[i]? with
     |none=>rw[hh] at hv;cases hv
     |some y=>rw[hh] at hv;injection hv with hv;exact⟨y,rfl,hv⟩
    have hxm:=Ao.mp (Az hxi)
    refine qs x hxm.1 (ZO8 nd ⟨AD.mpr ⟨x,hxm.1,rfl⟩,hxm.2,λr hr' hf=>?_⟩) H1 s1
    obtain⟨y,hy,rfl⟩:=AD.mp hr'
    obtain⟨j,hj,ej⟩:=B3.mp (show y∈fl from Ao.mpr ⟨hy,hf⟩)
    have hb2:(((fl.map λx=>x.2.2.2.1.length).getD j 0:Nat):Int)<=(((fl.map λx=>x.2.2.2.1.length).getD i 0:Nat):Int):=(hb.2 j (by rw[AA];exact Nat.le_sub_one_of_lt hj)).1
    rw[AT,AT,AS,AS,hxi,AG hj,ej] at hb2
    simpa using hb2
 rcases hp with hp|hp
 ·exact⟨_,rfl,p,rfl,.inr ⟨⟨_,SqT.of hp⟩,λD hD=>comp D _ hD (ZAP (SqT.of hp)) _ λH1 s1 hD1=>fin D H1 s1 hD1⟩⟩
 ·exact⟨_,rfl,p,rfl,.inl ⟨⟨_,SqL.of hp⟩,λD hD=>comp D _ hD (ZAv (SqL.of hp)) _ λH1 s1 hD1=>fin D H1 s1 hD1⟩⟩
theorem ZNR:ZAS ["rules","address","rule"] ["rules","address"] (ZAF ZJY):=⟨rfl,rfl,rfl,by decide +kernel,rfl,by decide +kernel,by decide +kernel⟩
theorem ZOb {k:Nat}(F:Fun K "once" "once" ZJY f fd)(G:Blt mg)(h0:ZA4 mg "BEGINNING" 0)(h1:ZA4 mg "GOAL_beginnings" 1)(hLongest:Has P w K mg base "longest_rule" k ["rules","address"] ZEM):FnOk P w K mg base CX0 (k+1) f fd ["rules","address"] ZEL:=by
 refine F.ok ZNR (λvs H Q E h=>?_) (λcdv A outer s H vs Q E hr h=>?_)
 ·obtain⟨p,a,rs,u,rfl,_⟩:=h
  rfl
 obtain⟨p,a,rs,u,rfl,hp,hrs,nd,hz,hgl,ha,hul,qn,qs⟩:=h
 obtain⟨t0,m0⟩:=h0
 obtain⟨t1,m1⟩:=h1
 refine⟨_,(ZAD (ZAL (i:=2) ZNR.nd rfl (Ag rfl) (ZAE hLongest hr rfl (ZAA (pv 0) (ZAA (pv 1) ZAC))))
  (ZAD (ZBc (ZBO (ZIm (pv 2))) (ZAH (ZAT ZDp)) ZAg)
  (ZAH (ZAT (ZA7 ZCE (ZAk ZAX (pv 2) (ZAQ rfl m1 (v:= .int 1) ⟨_,rfl⟩) λ_ _=>rfl) (ZBT ZEN (pv 1) (ZCA (ZAY ZA3 rfl G.len Ce (ZAA (ZAk ZAX (pv 2) (ZAQ rfl m0 (v:= .int 0) ⟨_,rfl⟩) λ_ _=>rfl) ZAC))) ZCB)))))),?_⟩
 refine⟨_,rfl,_,rfl,p,a,rs,u,rfl,hp,hrs,nd,hz,ha,λhb H1 s1=>?_,λx hx hb H1 s1=>?_⟩
 ·refine⟨_,rfl,_,rfl,iteY rfl ?_⟩
  refine qn ?_ H1 s1
  unfold ZAy
  rw[hb]
  rfl
 ·refine⟨_,rfl,_,rfl,iteN (λe=>nomatch e) ?_⟩
  have hx1:=(hrs x hx).ts s1.ts
  refine⟨_,rfl,x.1,_,_,V.ref x.2.2.1,rfl,rfl,SqT.of hx1.1,rfl,_,rfl,_,rfl,x.1,_,_,V.ref x.2.1,rfl,rfl,SqT.of hx1.1,rfl,x.2.1,_,rfl,.inr (SqT.of hx1.2.1),_,rfl,a,_,rfl,s1 _ _ ha,λt2 H2 s2 ht2=>?_⟩
  rw[AA,ZLg] at ht2
  have hgx:=hgl _ (AD.mpr ⟨x,hx,rfl⟩)
  refine⟨x.2.2.1,t2,_,_,rfl,rfl,s2 _ _ hx1.2.2,ht2,big _ (by rw[AA,AA,Bl];lia),λq H3 s3 hq=>?_⟩
  rw[<-AX] at hq
  refine qs _ ?_ q H3 ((s1.trans s2).trans s3) hq
  unfold ZAy
  rw[hb]
  rfl
theorem ZJU:ZAS ["rules","address","times","further"] ["rules","address"] (ZAF sLed):=⟨rfl,rfl,rfl,by decide +kernel,rfl,by decide +kernel,by decide +kernel⟩
theorem ok_led {k:Nat}{C:Ez}(F:Fun K "led" "led" sLed f fd)(G:Blt mg)(h8:ZA4 mg "MOST_TIMES" 8)(O:PyProof.Rows.OwnCls "TooMany" C VE "ValueError.__new__" mg base)(hOnce:Has P w K mg base "once" k ["rules","address"] ZEL):FnOk P w K mg base (CXE P w) (k+1) f fd ["rules","address"] (ZOJ C):=by
 refine F.okE ZJU (λvs H Q E h=>?_) (λcdv A outer s H vs Q E hr h=>?_)
 ·obtain⟨p,a,rs,u,rfl,_⟩:=h
  rfl
 obtain⟨p,a,rs,u,rfl,hp,hrs,nd,hz,hgl,ha,hul,qs,qn⟩:=h
 obtain⟨t8,m8⟩:=h8
 refine⟨_,(ZAD (ZAL (i:=2) ZJU.nd rfl (Ag rfl) ZAV)
  (ZAD (ZAL (i:=3) ZJU.nd rfl (Ag rfl) (ZAE hOnce hr rfl (ZAA (pv 0) (ZAA (pv 1) ZAC))))
  (ZAD (ZC9 (PassesOwn.«leaving») (ZBO (ZOW (pv 3)))
   (ZAD (ZAL (i:=2) ZJU.nd rfl (Ag rfl) (ZA7 ZKv (pv 2) ZAV))
   (ZAD (ZBc (ZAc op_gt (pv 2) (ZAQ rfl m8 (v:= .int 8) ⟨_,rfl⟩) (ZAm _)) (ZAH (ZDA (E:=E) rfl ZCQ O A6 rfl A6 rfl (ZAA (ZMa ZAu (pe_fmt (ZAQ rfl m8 (v:= .int 8) ⟨_,rfl⟩)) ZAu) ZAC))) ZAg)
   (ZAD (ZAL (i:=1) ZJU.nd rfl (Ag rfl) (pv 3))
   (ZAH (ZAL (i:=3) ZJU.nd rfl (Ag rfl) (ZAE hOnce hr rfl (ZAA (pv 0) (ZAA (pv 1) ZAC)))))))))
  (ZAH (ZAT (pv 1)))))),?_⟩
 have grow:∀{v w:List E3},ZAy (rs.map (·.2.2.2)) v=some w->w.length<=v.length+1000:=λ{v w} h=>by
  unfold ZAy at h
  cases hb:best v (rs.map (·.2.2.2)) with
  |none=>rw[hb] at h;cases h
  |some r=>
   rw[hb] at h
   obtain rfl:=Aj h
   have:=hgl r (ZBk hb).1
   show(r.2++v.drop r.1.length).length<=_
   rw[AW,Bl]
   lia
 refine⟨_,rfl,_,rfl,p,a,rs,u,rfl,hp,hrs,nd,hz,hgl,ha,by lia,λho H1 s1=>?_,λx ho q1 H1 s1 hq1=>?_⟩
 ·refine⟨λm Z H'=>m=0/\Z= [some (.ref p),some (.ref a),some (.int 0),some .non]/\Same H H',⟨0,rfl,rfl,s1⟩,?_⟩
  rintro m Z H2 ⟨rfl,rfl,s2⟩
  exact⟨_,rfl,_,rfl,iteF ⟨_,rfl,qs _ (ZBG ho) a H2 s2 (s2 _ _ ha)⟩⟩
 ·refine⟨λm Z H'=>∃(t:Nat) (a' q':Ez) (fv:V) (v:List E3),Z= [some (.ref p),some (.ref a'),some (.int t),some fv]/\Same H H'/\TupA H' a' v/\m+t=9/\v.length<=1000+1000*t/\ledN (8-t) (rs.map (·.2.2.2)) v=ledN 8 (rs.map (·.2.2.2)) u/\((ZAy (rs.map (·.2.2.2)) v=none/\fv= .non)\/∃w,ZAy (rs.map (·.2.2.2)) v=some w/\fv= .ref q'/\TupA H' q' w/\t<=8),
   ⟨9,0,a,q1,.ref q1,u,rfl,s1,s1 _ _ ha,rfl,by lia,rfl,.inr ⟨x,ho,rfl,hq1,by lia⟩⟩,?_⟩
  rintro m Z H2 ⟨t,a',q',fv,v,rfl,s2,ha2,hm,hvl,hled,hcase⟩
  rcases hcase with⟨hno,rfl⟩|⟨w',hw,rfl,hq2,ht8⟩
  ·refine⟨_,rfl,_,rfl,iteF ⟨_,rfl,?_⟩⟩
   refine qs v ?_ a' H2 s2 ha2
   rw[<-hled]
   exact ZBG hno
  ·refine⟨_,rfl,_,rfl,iteT ?_⟩
   obtain⟨m',rfl⟩:∃m',m=m'+1:=⟨m-1,by lia⟩
   refine⟨λZ' H'=>∃m'',m''<m'+1/\∃(t:Nat) (a' q':Ez) (fv:V) (v:List E3),Z'= [some (.ref p),some (.ref a'),some (.int t),some fv]/\Same H H'/\TupA H' a' v/\m''+t=9/\v.length<=1000+1000*t/\ledN (8-t) (rs.map (·.2.2.2)) v=ledN 8 (rs.map (·.2.2.2)) u/\((ZAy (rs.map (·.2.2.2)) v=none/\fv= .non)\/∃w,ZAy (rs.map (·.2.2.2)) v=some w/\fv= .ref q'/\TupA H' q' w/\t<=8),λZ' H' h=>h,?_⟩
   refine⟨_,rfl,_,_,rfl,rfl,_,rfl,_,_,rfl,rfl,_,rfl,?_⟩
   by_cases h9:(8:Int)<(t:Int)+1
   ·rw[decide_eq_true h9]
    have et:t=8:=by lia
    subst et
    have hn:ledN 8 (rs.map (·.2.2.2)) u=none:=by rw[<-hled];exact ZDE hw
    have e8:(toString (8:Int):E3)="8":=by decide +kernel
    have l0:(B2++("more than ":E3)).length<=100:=by decide +kernel
    have l1:((B2++("more than ":E3))++("8":E3)).length<=100:=by decide +kernel
    have l2:(((B2++("more than ":E3))++("8":E3))++(" times it would be led on":E3)).length<=100:=by decide +kernel
    refine iteT ⟨_,rfl,big _ (by lia),.inl ⟨8,rfl,by decide +kernel,_,rfl,?_,_,rfl,?_,by simp,qn hn H2 s2⟩⟩
    ·rw[e8];exact big _ (by lia)
    ·rw[e8];exact big _ (by lia)
   ·rw[decide_eq_false h9]
    refine iteF ?_
    have hwl:=grow hw
    have hled':ledN (8-(t+1)) (rs.map (·.2.2.2)) w'=ledN 8 (rs.map (·.2.2.2)) u:=by
     rw[<-hled]
     have:8-t=(8-(t+1))+1:=by lia
     rw[this,ZDF hw]
    refine⟨_,rfl,?_⟩
    refine⟨_,rfl,_,rfl,p,q',rs,w',rfl,hp.same s2,hrs.ts s2.ts,nd,hz,hgl,hq2,by lia,λho3 H3 s3=>?_,λx3 ho3 q3 H3 s3 hq3=>?_⟩
    ·exact⟨m',Bm _,t+1,q',q',_,w',rfl,s2.trans s3,s3 _ _ hq2,by lia,by lia,hled',.inl ⟨ho3,rfl⟩⟩
    ·exact⟨m',Bm _,t+1,q',q3,_,w',rfl,s2.trans s3,s3 _ _ hq2,by lia,by lia,hled',.inr ⟨x3,ho3,rfl,hq3,by lia⟩⟩
theorem scIsN:ZAS ["rules","rule","others"] ["rules","rule"] (ZAF sIsN):=⟨rfl,rfl,rfl,by decide +kernel,rfl,by decide +kernel,by decide +kernel⟩
theorem ndIN0:(["each","rule"]:List E3).Nodup:=by decide +kernel
theorem ZGJ {k:Nat}(F:Fun K "is_needless" "is_needless" sIsN f fd)(G:Blt mg)(h0:ZA4 mg "BEGINNING" 0)(h1:ZA4 mg "GOAL_beginnings" 1)(hOnce:Has P w K mg base "once" k ["rules","address"] ZEL):FnOk P w K mg base CX0 (k+1) f fd ["rules","rule"] ZBo:=by
 refine F.ok scIsN (λvs H Q E h=>?_) (λcdv A outer s H vs Q E hr h=>?_)
 ·obtain⟨p,rs,x,rfl,_⟩:=h
  rfl
 obtain⟨p,rs,x,rfl,hp,hrs,hx,nd,hz,hgl,hxl,q⟩:=h
 obtain⟨t0,m0⟩:=h0
 obtain⟨t1,m1⟩:=h1
 refine⟨_,(ZAD (ZDB (ix:=2) (tt:=(ZFq (tOp (rNeD K) (tOp (rIxT K) (tVar 0) (tC (.int 0))) (tOp (rIxT K) (tVar 1) (tC (.int 0)))))) (te:=(tVar 0)) (xs:= ["each"]) (ys:= ["rule"]) (js:= [1]) rfl (by decide +kernel) (by decide +kernel) rfl (by decide +kernel) ⟨rfl,.inl rfl,rfl,trivial⟩
   (ZNV (pv 0)) (λ_ _ _ _ _=>(ZAK (i:=0) ndIN0 rfl (Ag rfl) (.inr rfl))) (λ_ _ _ _ _=>ZBb (ZAc (ZIo (hu8 hr)) (ZAk ZAX (pv 0) (ZAQ rfl m0 (v:= .int 0) ⟨_,rfl⟩) λ_ _=>rfl) (ZAk ZAX (pv 1) (ZAQ rfl m0 (v:= .int 0) ⟨_,rfl⟩) λ_ _=>rfl) (ZAm _))) (λ_ _ _ _ _=>(pv 0)) scIsN.nd rfl (Ag rfl))
  (ZAH (ZAT (ZGG (op_eqM (hu8 hr)) (ZAE hOnce hr rfl (ZAA (pv 2) (ZAA (ZAk ZAX (pv 1) (ZAQ rfl m0 (v:= .int 0) ⟨_,rfl⟩) λ_ _=>rfl) ZAC))) (ZAk ZAX (pv 1) (ZAQ rfl m1 (v:= .int 1) ⟨_,rfl⟩) λ_ _=>rfl) (ZAm _))))),?_⟩
 have comp:∀(D:Ez) (J:It),H D=none->Tells J H (rs.map λx=>V.ref x.1)->∀QD:Hp->Prop,(∀H',Same H H'->H' D=some (.lst ((rs.filter λy=> !decide (y.2.2.2.1=x.2.2.2.1)).map λx=>V.ref x.1))->QD H')->_:=λD J hD T QD hq=>ZBM (J:=J) (tt:=ZFq (tOp (rNeD K) (tOp (rIxT K) (tVar 0) (tC (.int 0))) (tOp (rIxT K) (tVar 1) (tC (.int 0))))) (te:=tVar 0) (QD:=QD) (λx:Rx=>V.ref x.1) (fr:= [some (.ref x.1)]) (λx=> .ref x.1) (λy=> !decide (y.2.2.2.1=x.2.2.2.1)) D hD T (bigl _ (by lia))
  (λy H1 Rr hy s1 hR1=>by
   have hy1:=(hrs y hy).ts s1.ts
   have hx1:=hx.ts s1.ts
   refine⟨_,rfl,y.1,_,_,V.ref y.2.1,rfl,rfl,SqT.of hy1.1,rfl,_,rfl,x.1,_,_,V.ref x.2.1,rfl,rfl,SqT.of hx1.1,rfl,_,_,ZBY hy1.2.1,ZBY hx1.2.1,by rw[ZBh];decide,_,rfl,?_⟩
   rw[ZDQ]
   exact hR1 H1 (Same.refl _))
  (λy H1 Rr hy _ s1 hR1=>⟨_,rfl,hR1 H1 (Same.refl _)⟩) hq
 have fin:∀(D:Ez) (H1:Hp),Same H H1->H1 D=some (.lst ((rs.filter λy=> !decide (y.2.2.2.1=x.2.2.2.1)).map λx=>V.ref x.1))->_:=λD H1 s1 hD1=>by
  have hx1:=hx.ts s1.ts
  have eR:(rs.filter λy=> !decide (y.2.2.2.1=x.2.2.2.1)).map (·.2.2.2)=rest (rs.map (·.2.2.2)) x.2.2.2.1:=ZFT rs λr=> !decide (r.1=x.2.2.2.1)
  have hfl:(rs.filter λy=> !decide (y.2.2.2.1=x.2.2.2.1)).length<=rs.length:=Ap _ _
  have hd2:ZAZ K H1 (tupD x.2.2.2.2) (.ref x.2.2.1):=ZBY hx1.2.2
  show tOp (rEqM K) (ZCM ZEL [] E0 (ZAW (tVar 2) (ZAW (tOp (rIxT K) (tVar 1) (tC (.int 0))) tNil))) (tOp (rIxT K) (tVar 1) (tC (.int 1))) [some (.ref p),some (.ref x.1),some (.ref D)] H1 Q
  refine⟨_,rfl,_,rfl,x.1,_,_,V.ref x.2.1,rfl,rfl,SqT.of hx1.1,rfl,D,x.2.1,_,_,rfl,.inr hD1,λy hy=>(hrs y (Ao.mp hy).1).ts s1.ts,by rw[eR];exact ZOQ nd _,by lia,λr hr'=>?_,hx1.2.1,by lia,λho H2 s2=>?_,λz ho q2 H2 s2 hq2=>?_⟩
  ·rw[eR] at hr'
   exact hgl r (ZGA.mp hr').1
  ·refine⟨_,rfl,x.1,_,_,V.ref x.2.2.1,rfl,rfl,SqT.of (s2 _ _ hx1.1),rfl,.non,tupD x.2.2.2.2,rfl,ZAZ.same s2 hd2,trivial,trivial,Aq _,?_⟩
   have:=q H2 (s1.trans s2)
   unfold ZCF at this
   rw[eR] at ho
   rw[ho] at this
   exact this
  ·refine⟨_,rfl,x.1,_,_,V.ref x.2.2.1,rfl,rfl,SqT.of (s2 _ _ hx1.1),rfl,tupD z,tupD x.2.2.2.2,ZBY hq2,ZAZ.same s2 hd2,trivial,trivial,by show Dat.deeps _+1<=6;rw[ZBh];decide,?_⟩
   have:=q H2 (s1.trans s2)
   unfold ZCF at this
   rw[eR] at ho
   rw[ho] at this
   have e:Dat.beq (tupD z) (tupD x.2.2.2.2)=decide (some z=some x.2.2.2.2):=by
    show Dat.beqs _ _=_
    rw[ZDQ]
    by_cases h:z=x.2.2.2.2
    ·rw[h,decide_eq_true rfl,decide_eq_true rfl]
    ·rw[decide_eq_false h,decide_eq_false λe=>h (by injection e)]
   rw[e]
   exact this
 rcases hp with hp|hp
 ·exact⟨_,rfl,p,rfl,.inr ⟨⟨_,SqT.of hp⟩,λD hD=>comp D _ hD (ZAP (SqT.of hp)) _ λH1 s1 hD1=>fin D H1 s1 hD1⟩⟩
 ·exact⟨_,rfl,p,rfl,.inl ⟨⟨_,SqL.of hp⟩,λD hD=>comp D _ hD (ZAv (SqL.of hp)) _ λH1 s1 hD1=>fin D H1 s1 hD1⟩⟩
theorem ZJT:ZAS ["rules"] ["rules"] (ZAF ZBx):=⟨rfl,rfl,rfl,by decide +kernel,rfl,by decide +kernel,by decide +kernel⟩
theorem ndNL0:(["rule","rules"]:List E3).Nodup:=by decide +kernel
theorem ZH8 {k:Nat}(F:Fun K "needless" "needless" ZBx f fd)(G:Blt mg)(h0:ZA4 mg "BEGINNING" 0)(hIsN:Has P w K mg base "is_needless" k ["rules","rule"] ZBo):FnOk P w K mg base CX0 (k+1) f fd ["rules"] ZDT:=by
 refine F.ok ZJT (λvs H Q E h=>?_) (λcdv A outer s H vs Q E hr h=>?_)
 ·obtain⟨p,R,rfl,_⟩:=h
  rfl
 obtain⟨p,R,rfl,⟨rs,hp,hrs,eR⟩,nd,hz,hl,q⟩:=h
 obtain⟨t0,m0⟩:=h0
 have hrl:rs.length<64:=by rw[<-eR,AA] at hz;exact hz
 refine⟨_,(ZAH (ZAT (ZAI ZAG rfl G.tuple boot_tuple (ZAA (ZAY ZCe rfl G.sorted boot_sorted (ZAA (ZAO (tt:=(tB (ZCM ZBo [] E0 (ZAW (tVar 1) (ZAW (tVar 0) tNil))))) (te:=(tOp (rIxT K) (tVar 0) (tC (.int 0)))) (xs:= ["rule"]) (ys:= ["rules"]) (js:= [0]) rfl (by decide +kernel) (by decide +kernel) rfl (by decide +kernel) ⟨rfl,.inl rfl,rfl,trivial⟩
   (ZAp (pv 0)) (λ_ _ _ _ _=>(ZAK (i:=0) ndNL0 rfl (Ag rfl) (.inr rfl))) (λ_ _ _ _ _=>ZBb (ZFI (ZAE hIsN hr rfl (ZAA (pv 1) (ZAA (pv 0) ZAC))))) (λ_ _ _ _ _=>(ZAk ZAX (pv 0) (ZAQ rfl m0 (v:= .int 0) ⟨_,rfl⟩) λ_ _=>rfl))) ZAC)) ZAC)))),?_⟩
 refine⟨_,rfl,p,rfl,⟨_,SqT.of hp⟩,λD hD=>?_⟩
 refine ZBM (λx:Rx=>V.ref x.1) (fr:= [some (.ref p)]) (λx=> .ref x.2.1) (λx=>ZCF R x.2.2.2) D hD (ZAP (SqT.of hp)) (bigl _ (by lia)) ?_ ?_ ?_
 ·intro x H1 Rr hx s1 hR1
  have hxR:x.2.2.2∈R:=by rw[<-eR];exact AD.mpr ⟨x,hx,rfl⟩
  refine⟨_,rfl,_,rfl,p,rs,x,rfl,.inl (s1 _ _ hp),hrs.ts s1.ts,(hrs x hx).ts s1.ts,by rw[eR];exact nd,by lia,λr hr'=>(hl r (by rw[<-eR];exact hr')).1,(hl _ hxR).2,λH2 s2=>⟨_,rfl,?_⟩⟩
  rw[eR]
  exact hR1 H2 s2
 ·intro x H1 Rr hx _ s1 hR1
  exact⟨_,rfl,x.1,_,_,V.ref x.2.1,rfl,rfl,SqT.of (s1 _ _ (hrs x hx).1),rfl,hR1 H1 (Same.refl _)⟩
 intro H1 s1 hD1
 have eB:((rs.filter λx=>ZCF R x.2.2.2).map λx=>V.ref x.2.1)=(((rs.filter λx=>ZCF R x.2.2.2).map λx=>(x.2.1,x.2.2.2.1)).map λr=>V.ref r.1):=by rw[AE];rfl
 rw[eB] at hD1
 have hfl:(rs.filter λx=>ZCF R x.2.2.2).length<=rs.length:=Ap _ _
 have hall:∀r∈(rs.filter λx=>ZCF R x.2.2.2).map λx=>(x.2.1,x.2.2.2.1),H1 r.1=some (.tup (r.2.map V.str))/\r.2≠ []:=λr hr'=>by
  obtain⟨x,hx,rfl⟩:=AD.mp hr'
  have hx':=Ao.mp hx
  exact⟨s1 _ _ (hrs x hx'.1).2.1,ZMr hx'.2⟩
 refine⟨D,_,rfl,.inl (SqL.of hD1),by rw[AA];lia,(λr hr'=>⟨SqT.of (hall r hr').1,(hall r hr').2⟩),λl rs' nl hp' hs'=>?_⟩
 have s2:=Same.new nl (.lst (rs'.map λr=>V.ref r.1))
 refine⟨l,_,rfl,.inl ⟨SqL.of ZAB,λq2 nq2=>?_⟩⟩
 have s3:=Same.new nq2 (.tup (rs'.map λr=>V.ref r.1))
 have s13:=s2.trans s3
 have ndm:(((rs.filter λx=>ZCF R x.2.2.2).map λx=>(x.2.1,x.2.2.2.1)).map (·.2)).Nodup:=by
  rw[AE]
  have e2:(rs.filter λx=>ZCF R x.2.2.2).map ((λx=>x.2)∘λx:Rx=>(x.2.1,x.2.2.2.1))=((rs.filter λx=>ZCF R x.2.2.2).map (·.2.2.2)).map (·.1):=by rw[AE];rfl
  rw[e2,ZFT rs (ZCF R),eR]
  exact nd.sublist (B6.map _)
 refine q q2 (rs'.map (·.2)) _ (s1.trans s13) ⟨rs',ZAB,λr hr'=>s13 _ _ (hall r (hp'.mem_iff.mp hr')).1,rfl⟩ (ZGq ndm (hp'.map _) hs') λu=>?_
 rw[(hp'.map (·.2)).mem_iff,AE]
 constructor
 ·intro h
  obtain⟨x,hx,rfl⟩:=AD.mp h
  have hx':=Ao.mp hx
  exact⟨x.2.2.2,by rw[<-eR];exact AD.mpr ⟨x,hx'.1,rfl⟩,hx'.2,rfl⟩
 ·rintro⟨r,hr',hn,rfl⟩
  rw[<-eR] at hr'
  obtain⟨x,hx,rfl⟩:=AD.mp hr'
  exact AD.mpr ⟨x,Ao.mpr ⟨hx,hn⟩,rfl⟩
end
inductive ZL3 (vs:List V)(H:Hp)(Q:VK):Prop
 |mk:∀(p q:Ez) (A B:List Cl),(vs= [.ref p,.ref q])->(ClsAt H p A)->(ClsAt H q B)->(A.length+B.length<=60)->((∀c∈A++B,c.ad≠ []))->(∀(r:Ez) (C:List Cl) (H':Hp),Same H H'->ClsAt H' r C->Tog (A++B) C->Q (.ref r) H')->ZL3 vs H Q
def ZOH:Sp:=λvs H Q _=>ZL3 vs H Q
section
variable {P:E7}{w:FA}{K:AB}{mg:E3->Option E2}{base:E9}{f:Ez}{fd:FJ}
theorem ZMP:ZAS ["one","other","latest","row","address"] ["one","other"] (ZAF sTog):=⟨rfl,rfl,rfl,by decide +kernel,rfl,by decide +kernel,by decide +kernel⟩
theorem ndT1:(["address","latest"]:List E3).Nodup:=by decide +kernel
theorem ok_tog {k:Nat}(F:Fun K "together" "together" sTog f fd)(G:Blt mg)(h0:ZA4 mg "ADDRESS" 0):FnOk P w K mg base CX0 (k+1) f fd ["one","other"] ZOH:=by
 refine F.ok ZMP (λvs H Q E h=>?_) (λcdv A outer s H vs Q E hr h=>?_)
 ·obtain⟨p,q',L,M,rfl,_⟩:=h
  rfl
 obtain⟨p,q',L,M,rfl,hL,hM,hz,hne,q⟩:=h
 obtain⟨t0,m0⟩:=h0
 have hu:=ZA9 hr
 have hu3:(A.deeper (PyProof.Rows.envOfC "together" (ZAF sTog) s.heap.objs.size f cdv)).units+3<cLine:=by have:=hu8 hr;lia
 refine⟨_,ZAD (ZAL (i:=2) ZMP.nd rfl (Db rfl) ZCD)
  (ZAD (ZCK PassesOwn.never rfl (ZAp (ZA7 ZCE (pv 0) (pv 1))) (ZAK (i:=3) ZMP.nd rfl (Ag rfl))
   (ZAD (ZAL (i:=4) ZMP.nd rfl (Ag rfl) (ZAk ZAX (pv 3) (ZAQ rfl m0 (v:= .int 0) ⟨_,rfl⟩) λ_ _=>rfl))
   (ZAH (ZBc (PW.pt (ZMV (ZBO (ZCR hu (pv 4) (pv 2)) (by with_unfolding_all rfl)) (ZIg (ZAc (op_ltD (n:=3) hu3) (ZAe hu (pv 2) (pv 4) λ_ _=>rfl) (pv 3) (ZAm _)))))
    (ZAH (ZB9 hu (pv 2) (pv 4) (pv 3) rfl)) ZAg))))
  (ZAH (ZAT (ZAI ZAG rfl G.tuple boot_tuple (ZAA (ZAO (xs:= ["address"]) (ys:= ["latest"]) (js:= [2]) rfl (by decide +kernel) (by decide +kernel) rfl (by decide +kernel) ⟨rfl,.inl rfl,rfl,trivial⟩
   (ZCC (ZAY (ZCI rfl) rfl G.sorted boot_sorted (ZAA (pv 2) ZAC))) (λ_ _ _ _ _=>ZAK (i:=0) ndT1 rfl (Ag rfl) (.inr rfl)) (λ_ _ _ _ _=>ZAb)
   (λ_ _ _ _ _=>ZAe hu (pv 1) (pv 0) λ_ _=>rfl)) ZAC))))),?_⟩
 intro d ndd
 have s1:=Same.new ndd (.dT [])
 have hd1:(upd H d (.dT []):Hp) d=some (.dT []):=ZAB
 generalize (upd H d (.dT []):Hp)=H1 at*
 obtain⟨as,ha,has,eA⟩:=hL.same s1
 obtain⟨bs,hb,hbs,eB⟩:=hM.same s1
 have lA:as.length=L.length:=by rw[<-eA,AA]
 have lB:bs.length=M.length:=by rw[<-eB,AA]
 refine⟨_,rfl,_,rfl,p,q',_,_,rfl,rfl,ha,hb,big _ (by rw[AA,AA];lia),λcc H2 s2 hcc=>?_⟩
 have ecc:ZBi as++ZBi bs=ZBi (as++bs):=by unfold ZBi;rw[AX]
 rw[ecc] at hcc
 have hcs:ZHh H2 (as++bs):=λx hx=>by
  rcases AY.mp hx with hx|hx
  ·exact(has x hx).ts s2.ts
  ·exact(hbs x hx).ts s2.ts
 have eC:(as++bs).map (·.2.2)=L++M:=by rw[AX,eA,eB]
 have lC:(as++bs).length<=60:=by rw[AW];lia
 have hneC:∀x∈as++bs,x.2.2.ad≠ []:=λx hx=>hne _ (by rw[<-eC];exact AD.mpr ⟨x,hx,rfl⟩)
 have hd2:=s2 _ _ hd1
 have s02:=s1.trans s2
 generalize as++bs=cs at*
 refine⟨cc,rfl,⟨_,SqT.of hcc⟩,?_⟩
 refine ZIE (xs:=ZBi cs) (λj Z H'=>∃(v3 v4:Option V) (us:List (List E3)),Z= [some (.ref p),some (.ref q'),some (.ref d),v3,v4]/\Same H H'/\TS' H2 H'/\ZCT H' d ((cs.map (·.2.2)).take j) us)
  ⟨_,_,[],rfl,s02,(λb xs e=>e),by rw[Bp];exact ZCT.nil hd2⟩ (λj Z H' _ h=>by obtain⟨_,_,_,_,_,ts,_⟩:=h;exact SqT.of (ts _ _ hcc)) ?_ ?_
 ·rintro j x Z H3 hx ⟨v3,v4,us,rfl,s3,ts3,hG⟩
  rw[AS] at hx
  obtain⟨r,hri,rfl⟩:∃r,cs[j]?=some r/\V.ref r.1=x:=by
   cases hh:cs[j]? with
   |none=>rw[hh] at hx;cases hx
   |some y=>rw[hh] at hx;injection hx with hx;exact⟨y,rfl,hx⟩
  have hrow:ClH H3 r.1 r.2.1 r.2.2:=(hcs r (Az hri)).ts ts3
  have htk:(cs.map (·.2.2)).take (j+1)=(cs.map (·.2.2)).take j++ [r.2.2]:=by
   rw[BG,AS,hri]
   rfl
  have hlj:((cs.map (·.2.2)).take j).length<=60:=by rw[Ax,AA];lia
  obtain⟨kvs0,hdk,_⟩:=id hG
  have fin:(∀m,ZB5 ((cs.map (·.2.2)).take j) m->m.ad=r.2.2.ad->ltC m r.2.2=true)->∃H',DPut H3 d (.ref r.2.1) (.ref r.1) H'/\Same H H'/\TS' H2 H'/\ZCT H' d ((cs.map (·.2.2)).take (j+1)) (if r.2.2.ad∈us then us else us++ [r.2.2.ad]):=λhl=>by
   obtain⟨H',hput,hG',hkeep,_⟩:=hG.put hrow hl (by lia)
   refine⟨H',hput,λb o e=>hkeep _ _ (ZAJ e ndd) (s3 _ _ e),λb xs e=>?_,by rw[htk];exact hG'⟩
   have e3:=ts3 _ _ e
   exact hkeep _ _ (λz=>by rw[z,hdk] at e3;cases e3) e3
  refine⟨_,rfl,r.1,_,_,V.ref r.2.1,rfl,rfl,SqT.of hrow.1,rfl,?_⟩
  rcases hG.get hrow.2 with⟨hin,b,a',m,hget,hcm,hmm,hma⟩|⟨hin,hget⟩
  ·refine⟨_,rfl,_,rfl,d,_,rfl,hget,_,rfl,iteF ?_⟩
   refine⟨_,rfl,_,rfl,d,V.ref b,rfl,hget,_,rfl,clD m,clD r.2.2,ZLm hcm,ZLm hrow,cl_cmp _ _,ZLl _,_,rfl,?_⟩
   rw[cl_lt hma]
   cases hl:ltC m r.2.2 with
   |true=>
    obtain⟨H',hput,s',ts',hG'⟩:=fin λm' hm' he=>by rw[ZB5.uniq hm' hmm (he.trans hma.symm)];exact hl
    exact iteT ⟨_,rfl,_,rfl,_,rfl,d,H',rfl,hput,_,_,_,rfl,s',ts',hG'⟩
   |false=>
    refine iteF ⟨_,_,us,rfl,s3,ts3,?_⟩
    rw[htk]
    exact hG.skip hmm hma hl
  ·refine⟨_,rfl,_,rfl,d,_,rfl,hget,_,rfl,iteT ?_⟩
   obtain⟨_,_,_,_,_,h5,_⟩:=id hG
   obtain⟨H',hput,s',ts',hG'⟩:=fin λm' hm' he=>absurd ((h5 r.2.2.ad).mpr ⟨m',hm'.1,he⟩) hin
   exact⟨_,rfl,_,rfl,_,rfl,d,H',rfl,hput,_,_,_,rfl,s',ts',hG'⟩
 ·rintro Z H3 ⟨v3,v4,us,rfl,s3,ts3,hG⟩
  have e1:(cs.map (·.2.2)).take (ZBi cs).length=cs.map (·.2.2):=BH (by rw[AA,AA];exact AK _)
  rw[e1] at hG
  obtain⟨kvs0,hdk,hkeys,ndu,hul,hmu,_⟩:=id hG
  rw[AA] at hul
  refine⟨_,rfl,d,us,rfl,⟨kvs0,.inl hdk,hkeys⟩,by lia,λu hu'=>?_,λl rs nl hp hH hs=>?_⟩
  ·obtain⟨c,hc,rfl⟩:=(hmu u).mp hu'
   obtain⟨x,hx,rfl⟩:=AD.mp hc
   exact hneC x hx
  have s4:=Same.new nl (.lst (rs.map λr=>V.ref r.1))
  have hl4:(upd H3 l (.lst (rs.map λr=>V.ref r.1)):Hp) l=some (.lst (rs.map λr=>V.ref r.1)):=ZAB
  have hG4:=hG.same s4
  have hH4:∀r∈rs,(upd H3 l (.lst (rs.map λr=>V.ref r.1)):Hp) r.1=some (.tup (r.2.map V.str)):=λr hr'=>s4 _ _ (hH r hr')
  generalize (upd H3 l (.lst (rs.map λr=>V.ref r.1)):Hp)=H4 at*
  have hrl:rs.length<=60:=by have:=hp.length_eq;rw[AA] at this;lia
  refine⟨l,rfl,⟨_,SqL.of hl4⟩,λD hD=>?_⟩
  refine ZB0 (xs:=rs.map λr=>V.ref r.1) (fr:= [some (.ref d)]) (λx v H'=>∃r:Ez×List E3,x=V.ref r.1/\H' r.1=some (.tup (r.2.map V.str))/\∃b a c,v=V.ref b/\ClH H' b a c/\ZB5 (cs.map (·.2.2)) c/\c.ad=r.2) (λx v H H' s h=>?_) D hD (ZAv (SqL.of hl4)) (bigl _ (by rw[AA];lia)) ?_ ?_
  ·obtain⟨r,e,h1,b,a,c,e2,h2,h3⟩:=h
   exact⟨r,e,s _ _ h1,b,a,c,e2,h2.ts s,h3⟩
  ·intro x H5 Rr hx s5 hR5
   obtain⟨r,hr',rfl⟩:=AD.mp hx
   have hr5:=s5 _ _ (hH4 r hr')
   have hin:r.2∈us:=hp.mem_iff.mp (AD.mpr ⟨r,hr',rfl⟩)
   rcases(hG4.same s5).get hr5 with⟨_,b,a',m,hget,hcm,hmm,hma⟩|⟨hn,_⟩
   ·exact⟨_,rfl,_,rfl,d,V.ref b,rfl,hget,hR5 _ _ (Same.refl _) ⟨r,rfl,hr5,b,a',m,rfl,hcm,hmm,hma⟩⟩
   ·exact absurd hin hn
  ·intro H5 ys s5 hD5 hp5
   obtain⟨cs2,rfl,hc2,ec2,hm2⟩:=ZGN hp5 λr hr'=>s5 _ _ (hH4 r hr')
   refine⟨D,_,rfl,.inl ⟨SqL.of hD5,λq2 nq2=>?_⟩⟩
   have s6:=Same.new nq2 (.tup (ZBi cs2))
   have htg:=tog_of ndu hmu hp hs ec2 hm2
   rw[eC] at htg
   exact q q2 _ _ (((s3.trans s4).trans s5).trans s6) ⟨cs2,ZAB,hc2.ts s6.ts,rfl⟩ htg
end
inductive ZHS (vs:List V)(H:Hp)(Q:VK):Prop
 |mk:∀(p:Ez) (n:Int) (A:List Cl),(vs= [.ref p,.int n])->(ClsAt H p A)->(A.length<=60)->(∀(r:Ez) (H':Hp),Same H H'->ClsAt H' r (A.filter λc=>decide (n<c.ck))->Q (.ref r) H')->ZHS vs H Q
def ZHp:Sp:=λvs H Q _=>ZHS vs H Q
inductive ZHU (vs:List V)(H:Hp)(Q:VK):Prop
 |mk:∀(p:Ez) (n:Int) (A:List Cl),(vs= [.ref p,.int n])->(ClsAt H p A)->(A.length<=60)->((∀c∈A,c.ad≠ []))->((A.Pairwise λa b=>HS.ltT a.ad b.ad=true))->(∀(r:Ez) (H':Hp),Same H H'->ZPB H' r ((A.filter λc=>decide (c.nm=n)).map (·.ad))->Q (.ref r) H')->ZHU vs H Q
def ZHq:Sp:=λvs H Q _=>ZHU vs H Q
section
variable {P:E7}{w:FA}{K:AB}{mg:E3->Option E2}{base:E9}{f:Ez}{fd:FJ}
theorem ZOM:ZAS ["rows","clock"] ["rows","clock"] (ZAF ZFE):=⟨rfl,rfl,rfl,by decide +kernel,rfl,by decide +kernel,by decide +kernel⟩
theorem ndS1:(["row","clock"]:List E3).Nodup:=by decide +kernel
theorem ZMg {k:Nat}(F:Fun K "since" "since" ZFE f fd)(G:Blt mg)(h1:ZA4 mg "CLOCK" 1):FnOk P w K mg base CX0 (k+1) f fd ["rows","clock"] ZHp:=by
 refine F.ok ZOM (λvs H Q E h=>?_) (λcdv A outer s H vs Q E hr h=>?_)
 ·obtain⟨p,n,L,rfl,_⟩:=h
  rfl
 obtain⟨p,n,L,rfl,⟨cs,hp,hcs,eL⟩,hz,q⟩:=h
 obtain⟨t1,m1⟩:=h1
 have hlc:cs.length<=60:=by rw[<-eL,AA] at hz;exact hz
 refine⟨_,ZAH (ZAT (ZAI ZAG rfl G.tuple boot_tuple (ZAA (ZAO (tt:=ZFq (tOp (rI0 λi j=> .bl (decide (j<i))) (tOp (rIxT K) (tVar 0) (tC (.int 1))) (tVar 1))) (te:=tVar 0) (xs:= ["row"]) (ys:= ["clock"]) (js:= [1]) rfl (by decide +kernel) (by decide +kernel) rfl (by decide +kernel) ⟨rfl,.inl rfl,rfl,trivial⟩
   (ZAp (pv 0)) (λ_ _ _ _ _=>ZAK (i:=0) ndS1 rfl (Ag rfl) (.inr rfl)) (λ_ _ _ _ _=>ZBb (ZAc op_gt (ZAk ZAX (pv 0) (ZAQ rfl m1 (v:= .int 1) ⟨_,rfl⟩) λ_ _=>rfl) (pv 1) (ZAm _))) (λ_ _ _ _ _=>pv 0)) ZAC))),?_⟩
 refine⟨_,rfl,p,rfl,⟨_,SqT.of hp⟩,λD hD=>?_⟩
 refine ZHC (fr:= [some (.int n)]) (λr=> .ref r.1) (λr=>decide (n<r.2.2.ck)) D hD (ZAP (SqT.of hp)) (bigl _ (by lia)) ?_ ?_ ?_
 ·intro r H1 Rr hr' s1 hR1
  exact⟨_,rfl,r.1,_,_,V.int r.2.2.ck,rfl,rfl,SqT.of (s1 _ _ (hcs r hr').1),rfl,_,rfl,_,_,rfl,rfl,_,rfl,hR1 H1 (Same.refl _)⟩
 ·intro r H1 Rr hr' _ s1 hR1
  exact⟨_,rfl,hR1 H1 (Same.refl _)⟩
 intro H1 s1 hD1
 refine⟨D,_,rfl,.inl ⟨SqL.of hD1,λq2 nq2=>?_⟩⟩
 have s2:=Same.new nq2 (.tup ((cs.filter λr=>decide (n<r.2.2.ck)).map λr=>V.ref r.1))
 refine q q2 _ (s1.trans s2) ⟨cs.filter λr=>decide (n<r.2.2.ck),ZAB,λx hx=>(hcs x (Ao.mp hx).1).ts (s1.trans s2).ts,?_⟩
 rw[ZFU cs λc=>decide (n<c.ck),eL]
theorem ZON:ZAS ["rows","number"] ["rows","number"] (ZAF ZFF):=⟨rfl,rfl,rfl,by decide +kernel,rfl,by decide +kernel,by decide +kernel⟩
theorem ndS2:(["row","number"]:List E3).Nodup:=by decide +kernel
theorem ZMi {k:Nat}(F:Fun K "pages_of" "pages_of" ZFF f fd)(G:Blt mg)(h0:ZA4 mg "ADDRESS" 0)(h3:ZA4 mg "NUMBER" 3):FnOk P w K mg base CX0 (k+1) f fd ["rows","number"] ZHq:=by
 refine F.ok ZON (λvs H Q E h=>?_) (λcdv A outer s H vs Q E hr h=>?_)
 ·obtain⟨p,n,L,rfl,_⟩:=h
  rfl
 obtain⟨p,n,L,rfl,⟨cs,hp,hcs,eL⟩,hz,hne,hri,q⟩:=h
 obtain⟨t0,m0⟩:=h0
 obtain⟨t3,m3⟩:=h3
 have hlc:cs.length<=60:=by rw[<-eL,AA] at hz;exact hz
 refine⟨_,ZAH (ZAT (ZAI ZAG rfl G.tuple boot_tuple (ZAA (ZAY ZCe rfl G.sorted boot_sorted (ZAA (ZAO (tt:=ZFq (tOp rEq (tOp (rIxT K) (tVar 0) (tC (.int 3))) (tVar 1))) (te:=tOp (rIxT K) (tVar 0) (tC (.int 0))) (xs:= ["row"]) (ys:= ["number"]) (js:= [1]) rfl (by decide +kernel) (by decide +kernel) rfl (by decide +kernel) ⟨rfl,.inl rfl,rfl,trivial⟩
   (ZAp (pv 0)) (λ_ _ _ _ _=>ZAK (i:=0) ndS2 rfl (Ag rfl) (.inr rfl)) (λ_ _ _ _ _=>ZBb (ZAc ZMd (ZAk ZAX (pv 0) (ZAQ rfl m3 (v:= .int 3) ⟨_,rfl⟩) λ_ _=>rfl) (pv 1) (ZAm _))) (λ_ _ _ _ _=>ZAk ZAX (pv 0) (ZAQ rfl m0 (v:= .int 0) ⟨_,rfl⟩) λ_ _=>rfl)) ZAC)) ZAC))),?_⟩
 refine⟨_,rfl,p,rfl,⟨_,SqT.of hp⟩,λD hD=>?_⟩
 refine ZHC (fr:= [some (.int n)]) (λr=> .ref r.2.1) (λr=>decide (r.2.2.nm=n)) D hD (ZAP (SqT.of hp)) (bigl _ (by lia)) ?_ ?_ ?_
 ·intro r H1 Rr hr' s1 hR1
  refine⟨_,rfl,r.1,_,_,V.int r.2.2.nm,rfl,rfl,SqT.of (s1 _ _ (hcs r hr').1),rfl,_,rfl,rfl,_,rfl,?_⟩
  have e:decide (V.int r.2.2.nm=V.int n)=decide (r.2.2.nm=n):=by
   by_cases h:r.2.2.nm=n
   ·simp[h]
   ·simp[h]
  rw[e]
  exact hR1 H1 (Same.refl _)
 ·intro r H1 Rr hr' _ s1 hR1
  exact⟨_,rfl,r.1,_,_,V.ref r.2.1,rfl,rfl,SqT.of (s1 _ _ (hcs r hr').1),rfl,hR1 H1 (Same.refl _)⟩
 intro H1 s1 hD1
 have hfl:(cs.filter λr=>decide (r.2.2.nm=n)).length<=cs.length:=Ap _ _
 have hD1':H1 D=some (.lst (((cs.filter λr=>decide (r.2.2.nm=n)).map λr=>(r.2.1,r.2.2.ad)).map λr=>V.ref r.1)):=by rw[hD1,AE];rfl
 refine⟨D,(cs.filter λr=>decide (r.2.2.nm=n)).map λr=>(r.2.1,r.2.2.ad),rfl,.inl (SqL.of hD1'),by rw[AA];lia,λr hr'=>?_,λl rs nl hpp hs=>?_⟩
 ·obtain⟨x,hx,rfl⟩:=AD.mp hr'
  have hx':=(Ao.mp hx).1
  exact⟨SqT.of (s1 _ _ (hcs x hx').2),hne _ (by rw[<-eL];exact AD.mpr ⟨x,hx',rfl⟩)⟩
 have s2:=Same.new nl (.lst (rs.map λr=>V.ref r.1))
 refine⟨l,_,rfl,.inl ⟨SqL.of ZAB,λq2 nq2=>?_⟩⟩
 have s3:=Same.new nq2 (.tup (rs.map λr=>V.ref r.1))
 have eT:((cs.filter λr=>decide (r.2.2.nm=n)).map λr=>(r.2.1,r.2.2.ad)).map (·.2)=(L.filter λc=>decide (c.nm=n)).map (·.ad):=by
  rw[AE,<-eL,<-ZFU cs λc=>decide (c.nm=n),AE]
  rfl
 have hT:((L.filter λc=>decide (c.nm=n)).map (·.ad)).Pairwise λa b=>HS.ltT a b=true:=by
  rw[Aa]
  exact List.Pairwise.sublist B6 hri
 have hpp2:(rs.map (·.2)).Perm ((L.filter λc=>decide (c.nm=n)).map (·.ad)):=by rw[<-eT];exact hpp.map _
 have hnd:((L.filter λc=>decide (c.nm=n)).map (·.ad)).Nodup:=hT.imp λ{a b} z e=>by
  rw[e] at z
  have:=HS.ltT_tot _ _ z
  rw[z] at this
  cases this
 have e2:rs.map (·.2)=(L.filter λc=>decide (c.nm=n)).map (·.ad):=by
  refine ZFp ?_ hT λr=>hpp2.mem_iff
  rw[Aa]
  have ndq:(rs.map (·.2)).Nodup:=hpp2.nodup_iff.mpr hnd
  rw[List.Nodup,Aa] at ndq
  refine(hs.and ndq).imp λ{a b} z=>?_
  cases hc:HS.ltT a.2 b.2 with
  |true=>rfl
  |false=>exact absurd (HS.ltT_tri _ _ hc z.1) z.2
 refine q q2 _ ((s1.trans s2).trans s3) ⟨rs,ZAB,λr hr'=>?_,e2⟩
 obtain⟨x,hx,rfl⟩:=AD.mp (hpp.mem_iff.mp hr')
 exact((s1.trans s2).trans s3) _ _ (hcs x (Ao.mp hx).1).2
theorem ZEO:ZAS ["_law_script","_law_town","_law_many","_law_k","_law_cell","_law_number","_law_more"] ["_law_script","_law_town","_law_many"] (ZAF ZJd):=⟨rfl,rfl,rfl,by decide +kernel,rfl,by decide +kernel,by decide +kernel⟩
theorem ZOk {k:Nat}(F:Fun K "_law_draw" "_law_draw" ZJd f fd)(G:Blt mg):FnOk P w K mg base CX0 (k+1) f fd ["_law_script","_law_town","_law_many"] (ZE9 K):=by
 refine F.ok ZEO (λvs H Q E h=>?_) (λcdv A outer s H vs Q E hr h=>?_)
 ·obtain⟨a,t,ns,zs,m,rfl,_⟩:=h
  rfl
 obtain⟨a,t,ns,zs,m,rfl,hS,h63,hT,hz,hm,q⟩:=h
 refine⟨_,ZAD (ZGC (ZJl Bo CM CL ZBe (pv 1) (ZAA ZAV ZAC)))
  (ZAD (ZAL (i:=3) ZEO.nd rfl (Ag rfl) (ZAY ZA3 rfl G.len Ce (ZAA (pv 1) ZAC)))
  (ZAD (ZAL (i:=4) ZEO.nd rfl (Ag rfl) ZAV)
  (ZAD (ZBc (ZMW (pv 0) (λ_=>rfl)) (ZAH (ZAL (i:=4) ZEO.nd rfl (Ag rfl) (ZAk ZDf (pv 0) (ZA7 ZEW (pv 3) (ZAY ZA3 rfl G.len Ce (ZAA (pv 0) ZAC))) (λ_ _=>rfl)))) ZAg)
  (ZAD (ZAL (i:=5) ZEO.nd rfl (Ag rfl) (ZA7 ZEW (ZA7 ZKv (pv 4) (ZA7 ZFM ZAV (pv 3))) ZAV))
  (ZAD (ZAL (i:=5) ZEO.nd rfl (Ag rfl) (ZA7 ZEW (ZA7 ZFM (ZA7 ZEW (ZA7 ZFM (pv 5) (pv 5)) ZAV) ZAV) ZAV))
  (ZAD (ZAL (i:=6) ZEO.nd rfl (Ag rfl) (ZA7 ZEW (ZA7 ZFM (ZA7 ZEW (ZA7 ZFM (pv 5) (pv 5)) ZAV) ZAV) ZAV))
  (ZAH (ZAT (ZA7 ZEW (ZA7 ZKv (ZA7 ZFM (ZA7 ZKu (pv 5) ZAV) ZAV) (ZA7 ZKu (pv 6) ZAV)) (pv 2)))))))))),?_⟩
 refine⟨_,rfl,.inl ⟨rfl,_,SqL.of hT⟩,t,zs,_,rfl,rfl,hT,bigl _ (by lia),?_⟩
 have hT':(upd H t (.lst (zs++ [V.int 0])):Hp) t=some (.lst (zs++ [V.int 0])):=ZAB
 have st:Stp t H (upd H t (.lst (zs++ [V.int 0]))):=Stp.upd _
 have hS':=hS.stp hT st
 refine⟨_,rfl,t,_,rfl,.inl (SqL.of hT'),?_⟩
 refine⟨_,rfl,_,.inl ⟨_,hS'.sq,rfl⟩,?_⟩
 have rest:∀e:Int,Q (.int (e % m)) (upd H t (.lst (zs++ [V.int 0]))):=λe=>
  q _ _ (Int.emod_nonneg _ (by lia)) (Ew _ hm) hT' st
 refine ite2 (λc=>?_) (λc=>?_)
 ·have hne:ns≠ []:=λe=>by subst e;simp at c
  have hlen:0<(ns.map V.int).length:=by rw[AA];exact BN.mpr hne
  obtain⟨v,hv⟩:=at_mod hne (((zs++ [V.int 0]).length:Nat):Int)
  refine⟨_,rfl,_,rfl,_,rfl,a,_,rfl,.inl hS'.sq,_,_,rfl,rfl,by lia,a,_,_,_,rfl,rfl,hS'.sq,hv,?_⟩
  refine⟨_,rfl,_,rfl,_,_,rfl,rfl,.inl ⟨by decide,by decide⟩,_,_,rfl,rfl,_,_,rfl,rfl,(show(0:Int)<4294967291 by decide),?_⟩
  refine⟨_,rfl,_,rfl,_,_,rfl,rfl,.inl ⟨by lia,by lia⟩,_,_,rfl,rfl,(show(0:Int)<4294967279 by decide),_,_,rfl,rfl,.inl ⟨by lia,by lia⟩,_,_,rfl,rfl,(show(0:Int)<4294967291 by decide),?_⟩
  refine⟨_,rfl,_,rfl,_,_,rfl,rfl,.inl ⟨by lia,by lia⟩,_,_,rfl,rfl,(show(0:Int)<4294967279 by decide),_,_,rfl,rfl,.inl ⟨by lia,by lia⟩,_,_,rfl,rfl,(show(0:Int)<4294967291 by decide),?_⟩
  exact⟨_,rfl,_,_,rfl,rfl,⟨by decide,by decide⟩,_,_,rfl,rfl,.inl ⟨by lia,by lia⟩,_,rfl,_,_,rfl,rfl,⟨by decide,by decide⟩,_,_,rfl,rfl,_,rfl,_,_,rfl,rfl,hm,rest _⟩
 ·refine⟨_,rfl,_,rfl,_,_,rfl,rfl,.inl ⟨by decide,by decide⟩,_,_,rfl,rfl,_,_,rfl,rfl,(show(0:Int)<4294967291 by decide),?_⟩
  refine⟨_,rfl,_,rfl,_,_,rfl,rfl,.inl ⟨by lia,by lia⟩,_,_,rfl,rfl,(show(0:Int)<4294967279 by decide),_,_,rfl,rfl,.inl ⟨by lia,by lia⟩,_,_,rfl,rfl,(show(0:Int)<4294967291 by decide),?_⟩
  refine⟨_,rfl,_,rfl,_,_,rfl,rfl,.inl ⟨by lia,by lia⟩,_,_,rfl,rfl,(show(0:Int)<4294967279 by decide),_,_,rfl,rfl,.inl ⟨by lia,by lia⟩,_,_,rfl,rfl,(show(0:Int)<4294967291 by decide),?_⟩
  exact⟨_,rfl,_,_,rfl,rfl,⟨by decide,by decide⟩,_,_,rfl,rfl,.inl ⟨by lia,by lia⟩,_,rfl,_,_,rfl,rfl,⟨by decide,by decide⟩,_,_,rfl,rfl,_,rfl,_,_,rfl,rfl,hm,rest _⟩
theorem scPick:ZAS ["_law_script","_law_town","_law_some"] ["_law_script","_law_town","_law_some"] (ZAF ZJX):=⟨rfl,rfl,rfl,by decide +kernel,rfl,by decide +kernel,by decide +kernel⟩
theorem ZOa {k:Nat}(F:Fun K "_law_pick" "_law_pick" ZJX f fd)(G:Blt mg)(hD:Has P w K mg base "_law_draw" k ["_law_script","_law_town","_law_many"] (ZE9 K)):FnOk P w K mg base CX0 (k+1) f fd ["_law_script","_law_town","_law_some"] (ZDo K):=by
 refine F.ok scPick (λvs H Q E h=>?_) (λcdv A outer s H vs Q E hr h=>?_)
 ·obtain⟨a,t,ns,zs,_,_,_,_,⟨l,xs,rfl,_⟩|⟨z,rfl,_⟩⟩:=h<;>rfl
 obtain⟨a,t,ns,zs,hS,h63,hT,hz,h⟩:=h
 refine⟨_,ZAH (ZAT (ZAk ix_seq (pv 2) (ZAE hD hr rfl (ZAA (pv 0) (ZAA (pv 1) (ZAA (ZAY (ZA3.or ZHF) rfl G.len Ce (ZAA (pv 2) ZAC)) ZAC)))) (λ_ _=>rfl))),?_⟩
 rcases h with⟨l,xs,rfl,hl,hne,hx,q⟩|⟨z,rfl,hz0,hz1,q⟩
 ·refine⟨_,rfl,_,rfl,_,rfl,_,rfl,.inl ⟨l,_,rfl,.inl (SqL.of hl),a,t,ns,zs,_,rfl,hS,h63,hT,hz,by lia,λr H' h0 h1 hT' st=>?_⟩⟩
  obtain⟨v,hv,hm⟩:=ZI3 h0 h1
  exact .inl ⟨l,xs,r,v,rfl,rfl,SqL.of (st l _ hne hl),hv,q v H' hm hT' st⟩
 ·refine⟨_,rfl,_,rfl,_,rfl,_,rfl,.inr ⟨z,rfl,big _ (by lia),a,t,ns,zs,_,rfl,hS,h63,hT,hz,by lia,λr H' h0 h1 hT' st=>?_⟩⟩
  have hl:z.cps.toList.length=z.length:=by simp[Str.length]
  obtain⟨v,hv,hm⟩:=ZI3 (xs:=z.cps.toList) h0 (by rw[hl];exact h1)
  exact .inr (.inr ⟨z,r,v,rfl,rfl,big _ (by lia),hv,q v H' hm hT' st⟩)
def ZBC (P:List E3):List (List Key×V):=P.map λn=>(([AH n]:List Key),V.bl true)
theorem ZEU (P:List E3)(n:E3):(valV (ZBC P) [AH n]).isSome=decide (n∈P):=by
 induction P with
 |nil=>rfl
 |cons p P ih=>
  show(valV (([AH p],V.bl true)::ZBC P) _).isSome=_
  by_cases h:p=n
  ·rw[ZAn (show(([AH p]:List Key),V.bl true).1= [AH n] by rw[h])]
   simp[h]
  ·rw[ZAj (show¬(([AH p]:List Key),V.bl true).1= [AH n] fromλe=>h (by simpa using e)),ih]
   simp[λe=>h (Eq.symm e),A9 h]
theorem ZH5 {P:List E3}{n:E3}(h:n∉P):putK (ZBC P) [AH n] (.bl true)=ZBC (P++ [n]):=by
 have:valV (ZBC P) [AH n]=none:=by
  have e:=ZEU P n
  rw[decide_eq_false h] at e
  cases hv:valV (ZBC P) [AH n] with
  |none=>rfl
  |some v=>rw[hv] at e;cases e
 rw[ZD9 _ this]
 unfold ZBC
 rw[AX]
 rfl
theorem ZMf {k:Nat}(F:Fun K "stop_of" "stop_of" ZHw f fd):FnOk P w K mg base CX0 (k+1) f fd ["goals","name"] ZCq:=by
 refine F.ok ZFC (λvs H Q E h=>?_) (λcdv A outer s H vs Q E hr h=>?_)
 ·obtain⟨d,b,R,n,rfl,_⟩:=h
  rfl
 obtain⟨d,b,R,n,rfl,hd,hb,hz,q⟩:=h
 have hu:=ZA9 hr
 refine⟨_,ZAD (ZAL (i:=2) ZFC.nd rfl (Ag rfl) ZCD)
  (ZAD (ZC9 PassesOwn.never (PW.pt (ZNT (ZBO (ZCh hu (pv 1) (pv 0)) (by with_unfolding_all rfl)) (ZKc (ZBO (ZCR hu (pv 1) (pv 2)) (by with_unfolding_all rfl)))))
   (ZAD (ZB9 hu (pv 2) (pv 1) ZJm rfl) (ZAH (ZAL (i:=1) ZFC.nd rfl (Ag rfl) (ZAe hu (pv 0) (pv 1) λ_ _=>rfl)))))
  (ZAH (ZAT (pv 1)))),?_⟩
 intro p np
 refine⟨λm Z H'=>∃(b':Ez) (n':E3) (P:List E3),Z= [some (.ref d),some (.ref b'),some (.ref p)]/\NmT H' b' n'/\H' p=some (.dT (ZBC P))/\Same H H'/\P.Nodup/\(∀x∈P,x∈R.map (·.1))/\ZBZ R m P n'=stop R n/\m+P.length=R.length+1,
  ⟨R.length+1,b,n,[],rfl,Same.new np _ _ _ hb,ZAB,Same.new np _,BZ,by simp,rfl,by simp⟩,?_⟩
 rintro m Z H1 ⟨b',n',P,rfl,hb1,hp,sm,nd,hP,hs,hm⟩
 have hd1:=hd.same sm
 obtain⟨o,hg,ho,hgo⟩:=hd1.get hb1
 refine⟨_,rfl,_,rfl,d,_,rfl,hg,_,rfl,?_⟩
 rw[ho]
 cases hv:val R n' with
 |none=>
  refine iteF ⟨_,rfl,?_⟩
  rw[<-hs,ZBw hv] at q
  exact q b' H1 sm hb1
 |some g=>
  refine iteT ⟨_,rfl,_,rfl,p,_,rfl,DGet.t (k:= [AH n']) hp hb1,_,rfl,?_⟩
  rw[ZEU]
  by_cases hn:n'∈P
  ·rw[decide_eq_true hn]
   refine iteF ⟨_,rfl,?_⟩
   rw[<-hs,ZCO hn] at q
   exact q b' H1 sm hb1
  ·rw[decide_eq_false hn]
   have hk:n'∈R.map (·.1):=AD.mpr ⟨_,ZCo hv,rfl⟩
   have hlen:=ZBJ (P:=n'::P) (L:=R.map (·.1)) (BT.mpr ⟨hn,nd⟩) λx hx=>by
    rcases AQ.mp hx with rfl|hx
    ·exact hk
    ·exact hP x hx
   rw[AA,Ac] at hlen
   obtain⟨m',rfl⟩:∃m',m=m'+1:=⟨m-1,by lia⟩
   have hl:(ZBC P).length=P.length:=by unfold ZBC;rw[AA]
   refine iteT ⟨λZ' H'=>∃m'',m''<m'+1/\∃(b':Ez) (n':E3) (P:List E3),Z'= [some (.ref d),some (.ref b'),some (.ref p)]/\NmT H' b' n'/\H' p=some (.dT (ZBC P))/\Same H H'/\P.Nodup/\(∀x∈P,x∈R.map (·.1))/\ZBZ R m'' P n'=stop R n/\m''+P.length=R.length+1,λZ' H' h=>h,?_⟩
   refine⟨_,rfl,_,rfl,p,_,rfl,DPut.t (k:= [AH n']) hp hb1 (bigl _ (by lia)),?_⟩
   have tp:∀c xs,H1 c=some (.tup xs)->(upd H1 p (.dT (putK (ZBC P) [AH n'] (.bl true))):Hp) c=some (.tup xs):=λc xs e=>by
    rw[ZAN (λz=>by rw[z,hp] at e;cases e)]
    exact e
   have s2:Same H (upd H1 p (.dT (putK (ZBC P) [AH n'] (.bl true)))):=λb o e=>by
    have hb:b≠p:=ZAJ e np
    rw[ZAN hb]
    exact sm _ _ e
   obtain⟨o2,hg2,_,hgo2⟩:=(hd.same s2).get (b:=b') (tp _ _ hb1)
   obtain⟨c,rfl,hc⟩:=hgo2 g hv
   refine⟨_,rfl,_,rfl,d,V.ref c,rfl,hg2,?_⟩
   refine⟨m',Bm _,c,g,P++ [n'],rfl,hc,?_,s2,?_,?_,?_,?_⟩
   ·rw[ZAB,ZH5 hn]
   ·rw[Aw]
    exact⟨nd,by simp,λx hx y hy e=>by rw[AF.mp hy] at e;exact hn (e▸hx)⟩
   ·intro x hx
    rcases AY.mp hx with hx|hx
    ·exact hP x hx
    ·rw[AF.mp hx];exact hk
   ·rw[<-hs,ZBW hv hn]
   ·rw[AW,Ai];lia
theorem ZK3 {k:Nat}(F:Fun K "leads_round" "leads_round" ZES f fd)(G:Blt mg)(hS:Has P w K mg base "stop_of" k ["goals","name"] ZCq):
  FnOk P w K mg base CX0 (k+1) f fd ["rows","name"] ZD5:=by
 refine F.ok ZF7 (λvs H Q E h=>?_) (λcdv A outer s H vs Q E hr h=>?_)
 ·obtain⟨a,b,R,n,rfl,_⟩:=h
  rfl
 obtain⟨a,b,R,n,rfl,⟨rs,ha,hrs,hR⟩,hb,nd,hz,q⟩:=h
 have hu:=ZA9 hr
 have hq8:=hu8 hr
 refine⟨_,ZAD (ZAL (i:=2) ZF7.nd rfl (Ag rfl) (ZAI (ZBj rfl hq8) rfl G.dict boot_dict (ZAA (pv 0) ZAC)))
  (ZAH (ZAT (ZIk (ZCh hu (ZAE hS hr rfl (ZAA (pv 2) (ZAA (pv 1) ZAC))) (pv 2)) (by with_unfolding_all rfl)))),?_⟩
 have hlz:rs.length<=1000:=by rw[<-hR,AA] at hz;exact hz
 refine⟨_,rfl,a,_,_,rfl,ha,ZBB (K:=K) hrs,by rw[AA];lia,λd nd'=>?_⟩
 have hg:=ZCS hrs hR nd nd'
 have s1:=Same.new nd' (.dT (ZA2 [] (gkT rs)))
 generalize (upd H d (.dT (ZA2 [] (gkT rs))):Hp)=H1 at*
 refine⟨_,rfl,_,rfl,d,b,R,n,rfl,hg,s1 _ _ hb,hz,λc H2 s2 hc=>?_⟩
 obtain⟨o,h1,h2,_⟩:=(hg.same s2).get hc
 refine⟨_,rfl,d,o,rfl,h1,?_⟩
 rw[h2]
 exact q H2 (s1.trans s2)
theorem ZOj {k:Nat}{C:Ez}(F:Fun K "end_of" "end_of" sEnd f fd)(G:Blt mg)(O:PyProof.Rows.OwnCls "Ring" C VE "ValueError.__new__" mg base)(hS:Has P w K mg base "stop_of" k ["goals","name"] ZCq):
  FnOk P w K mg base (CXE P w) (k+1) f fd ["rows","name"] (ZGf C):=by
 refine F.okE ZJW (λvs H Q E h=>?_) (λcdv A outer s H vs Q E hr h=>?_)
 ·obtain⟨a,b,R,n,rfl,_⟩:=h
  rfl
 obtain⟨a,b,R,n,rfl,⟨rs,ha,hrs,hR⟩,hb,nd,hz,⟨hn,hc⟩,qy,qn⟩:=h
 have hu:=ZA9 hr
 have hq8:=hu8 hr
 refine⟨_,ZAD (ZAL (i:=2) ZJW.nd rfl (Ag rfl) (ZAI (ZBj rfl hq8) rfl G.dict boot_dict (ZAA (pv 0) ZAC)))
  (ZAD (ZAL (i:=3) ZJW.nd rfl (Ag rfl) (ZAE hS hr rfl (ZAA (pv 2) (ZAA (pv 1) ZAC))))
  (ZAD (ZBc (ZBO (ZCh hu (pv 3) (pv 2)) (by with_unfolding_all rfl))
   (ZAH (ZDA (E:=E) rfl ZCQ O A6 rfl A6 rfl (ZAA (ZEB ZAu (ZKl hq8 hr.gd (pv 1))) ZAC))) ZAg)
  (ZAH (ZAT (pv 3))))),?_⟩
 have hlz:rs.length<=1000:=by rw[<-hR,AA] at hz;exact hz
 refine⟨_,rfl,a,_,_,rfl,ha,ZBB (K:=K) hrs,by rw[AA];lia,λd nd'=>?_⟩
 have hg:=ZCS hrs hR nd nd'
 have s1:=Same.new nd' (.dT (ZA2 [] (gkT rs)))
 generalize (upd H d (.dT (ZA2 [] (gkT rs))):Hp)=H1 at*
 refine⟨_,rfl,_,rfl,d,b,R,n,rfl,hg,s1 _ _ hb,hz,λc H2 s2 hc2=>?_⟩
 have s02:=s1.trans s2
 obtain⟨o,h1,h2,_⟩:=(hg.same s2).get hc2
 refine⟨_,rfl,_,rfl,d,_,rfl,h1,_,rfl,?_⟩
 rw[h2]
 cases hv:val R (stop R n) with
 |none=>exact iteF ⟨_,rfl,qy hv c H2 s02 hc2⟩
 |some g=>
  have hrep:(reprText n).length<=10*n.length+2:=StrLaws.reprText_len n hc
  have l0:(B2++("this leads into a ring: ":E3)).length<=100:=by decide +kernel
  have l1:=ZCv n
  refine iteT ⟨_,rfl,big _ (by lia),_,rfl,b,n,rfl,SqT.of (s02 _ _ hb),big _ (by lia),_,rfl,big _ (by rw[ZGY];lia),by simp,qn (by rw[hv];exactλe=>nomatch e) H2 s02⟩
theorem ZED (x y:E3):Dat.beqs ([x].map Dat.str) ([y].map Dat.str)=decide (x=y):=by
 rw[ZDQ [x] [y]]
 by_cases h:x=y
 ·simp[h]
 ·simp[h]
theorem ZDJ (x:E3):Dat.deeps ([x].map Dat.str)<=6:=by
 rw[ZBh [x]];decide
theorem ZGv {k:Nat}(F:Fun K "ring_from" "ring_from" ZBa f fd):FnOk P w K mg base CX0 (k+1) f fd ["goals","name"] ZCr:=by
 refine F.ok ZA1 (λvs H Q E h=>?_) (λcdv A outer s H vs Q E hr h=>?_)
 ·obtain⟨d,b,R,n,m,L,rfl,_⟩:=h
  rfl
 obtain⟨d,b,R,n,m,L,rfl,hd,hb,hv,hL,hz,q⟩:=h
 have hu:=ZA9 hr
 refine⟨_,ZAD (ZAL (i:=2) ZA1.nd rfl (Ag rfl) (ZGt (ZAA (pv 1) ZAC)))
  (ZAD (ZAL (i:=3) ZA1.nd rfl (Ag rfl) (ZAe hu (pv 0) (pv 1) λ_ _=>rfl))
  (ZAD (ZC9 PassesOwn.never (ZAc (ZIo (hu8 hr)) (pv 3) (pv 1) (ZAm _))
   (ZAD (ZGC (ZJl Bo CM CL ZBe (pv 2) (ZAA (pv 3) ZAC)))
   (ZAH (ZAL (i:=3) ZA1.nd rfl (Ag rfl) (ZAe hu (pv 0) (pv 3) λ_ _=>rfl)))))
  (ZAH (ZAT (pv 2))))),?_⟩
 refine⟨_,rfl,big _ (by simp),λp np=>?_⟩
 have s1:=Same.new np (.lst [V.ref b])
 have hp1:(upd H p (.lst [V.ref b]):Hp) p=some (.lst (ZBS [(b,[n])])):=ZAB
 generalize (upd H p (.lst [V.ref b]):Hp)=H1 at*
 obtain⟨o1,g1,_,g1'⟩:=(hd.same s1).get (s1 _ _ hb)
 obtain⟨c1,rfl,hc1⟩:=g1' m hv
 refine⟨_,rfl,_,rfl,d,V.ref c1,rfl,g1,?_⟩
 refine⟨λj Z H'=>∃(bs:List Tu) (done rest:List E3) (cur:E3) (c:Ez),Z= [some (.ref d),some (.ref b),some (.ref p),some (.ref c)]/\NmT H' c cur/\H' p=some (.lst (ZBS bs))/\ZA0 H' bs (n::done)/\Same H H'/\L=done++rest/\ZE2 R n cur rest/\j=rest.length,
  ⟨_,_,[],L,m,c1,rfl,hc1,hp1,ZA0.one (s1 _ _ hb),s1,rfl,hL,rfl⟩,?_⟩
 rintro j Z H2 ⟨bs,done,rest,cur,c,rfl,hc2,hp2,hbs,s2,eL,hl,rfl⟩
 refine⟨_,rfl,_,rfl,_,_,NmT.dat hc2,NmT.dat (s2 _ _ hb),ZDJ cur,_,rfl,?_⟩
 rw[ZED]
 cases rest with
 |nil=>
  have ec:cur=n:=hl
  subst ec
  rw[decide_eq_true rfl]
  rw[A5] at eL
  subst eL
  exact iteF ⟨_,rfl,q p bs H2 s2 hp2 hbs⟩
 |cons x rest=>
  obtain⟨e1,hne,m',hm',hl'⟩:=hl
  subst e1
  rw[decide_eq_false hne]
  have hlen:done.length<=1000:=by have:=congrArg Ay eL;rw[AW] at this;lia
  have hbl:=hbs.len
  rw[Ac] at hbl
  refine iteT ⟨λZ' H'=>∃j',j'<(cur::rest).length/\∃(bs:List Tu) (done rest:List E3) (cur:E3) (c:Ez),Z'= [some (.ref d),some (.ref b),some (.ref p),some (.ref c)]/\NmT H' c cur/\H' p=some (.lst (ZBS bs))/\ZA0 H' bs (n::done)/\Same H H'/\L=done++rest/\ZE2 R n cur rest/\j'=rest.length,λZ' H' h=>h,?_⟩
  refine⟨_,rfl,.inl ⟨rfl,_,SqL.of hp2⟩,_,rfl,p,_,_,rfl,rfl,hp2,bigl _ (by rw[AA];lia),?_⟩
  have s3:Same H (upd H2 p (.lst (ZBS bs++ [V.ref c]))):=λb o eb=>by
   have hb:b≠p:=ZAJ eb np
   rw[ZAN hb]
   exact s2 _ _ eb
  have tp:TS' H2 (upd H2 p (.lst (ZBS bs++ [V.ref c]))):=λc' xs e=>by
   rw[ZAN (λz=>by rw[z,hp2] at e;cases e)]
   exact e
  obtain⟨o2,g2,_,g2'⟩:=(hd.same s3).get (b:=c) (tp _ _ hc2)
  obtain⟨c3,rfl,hc3⟩:=g2' m' hm'
  refine⟨_,rfl,_,rfl,d,V.ref c3,rfl,g2,?_⟩
  refine⟨rest.length,by simp,bs++ [(c,[cur])],done++ [cur],rest,m',c3,rfl,hc3,?_,?_,s3,by rw[eL,BX];rfl,hl',rfl⟩
  ·rw[ZAB];simp
  ·exact(hbs.ts tp).app (ZA0.one (tp _ _ hc2))
theorem ZK2 {k:Nat}(F:Fun K "from_least" "from_least" ZER f fd)(G:Blt mg)(hmin:mg "min"=none):FnOk P w K mg base CX0 (k+1) f fd ["ring"] ZFx:=by
 refine F.ok ZF6 (λvs H Q E h=>?_) (λcdv A outer s H vs Q E hr h=>?_)
 ·obtain⟨a,bs,ts,rfl,_⟩:=h
  rfl
 obtain⟨a,bs,ts,rfl,ha,hbs,hne,hz,q⟩:=h
 refine⟨_,ZAD (ZAL (i:=1) ZF6.nd rfl (Ag rfl) (ZJl Bo CS EH (r:=λx vs H Q=>ZKb K x vs H Q) (ZLB (hu8 hr)) (pv 0) (ZAA (ZAY (ZLn rfl (hu8 hr)) rfl hmin boot_min (ZAA (pv 0) ZAC)) ZAC)))
  (ZAH (ZAT (ZAI ZAG rfl G.tuple boot_tuple (ZAA (ZA7 ZNZ (ZBT ZF3 (pv 0) (ZCA (pv 1)) ZCB) (ZBT ZF3 (pv 0) ZCB (ZCA (pv 1)))) ZAC)))),?_⟩
 have hsq:SqL K H a (ZBS bs):=SqL.of ha
 have hall:∀r∈bs,SqT K H r.1 (r.2.map V.str):=λr hr'=>SqT.of (hbs.1 r hr')
 have hbl:=hbs.len
 have hbne:bs≠ []:=λe=>hne (by rw[e] at hbl;exact EY.mp hbl.symm)
 have ez:(bs.getD (ZEa (bs.map (·.2))) (0,[])).2= [minS ts]:=by
  rw[<-ZJu hne,hbs.2]
  have hg:∀i,(bs.map (·.2)).getD i []=(bs.getD i (0,[])).2:=λi=>by
   rw[AT,AT,AS]
   cases bs[i]?<;>rfl
  rw[<-hg,hbs.2]
 have hmm:bs.getD (ZEa (bs.map (·.2))) (0,[])∈bs:=by
  have hlt:=ZIs (ts:=bs.map (·.2)) (by intro e;exact hbne (by simpa using e))
  rw[AA] at hlt
  rw[AT,AG hlt]
  exact BJ hlt
 generalize hz':bs.getD (ZEa (bs.map (·.2))) (0,[])=z at ez hmm
 refine⟨_,rfl,.inl ⟨rfl,_,hsq⟩,_,rfl,a,bs,rfl,hsq,hall,hbne,a,bs,z,rfl,by rw[hz'],hsq,hall,hall z hmm,AD.mpr ⟨z,hmm,rfl⟩,by lia,?_⟩
 have ei:(bs.map (·.2)).idxOf z.2=ts.idxOf (minS ts):=by rw[hbs.2,ez,ZM3]
 rw[ei]
 refine⟨_,rfl,_,rfl,_,rfl,a,_,rfl,hsq,λl1 n1=>?_⟩
 have s1:=Same.new n1 (.lst (cutV (ZBS bs) (some (ts.idxOf (minS ts):Int)) none))
 refine⟨_,rfl,_,rfl,_,rfl,a,_,rfl,s1.seq hsq,λl2 n2=>?_⟩
 have s2:=Same.new n2 (.lst (cutV (ZBS bs) none (some (ts.idxOf (minS ts):Int))))
 refine⟨l1,l2,_,_,rfl,rfl,s2 _ _ ZAB,ZAB,?_,λl3 n3=>?_⟩
 ·have h1:=ZBD (ZBS bs) (some (ts.idxOf (minS ts):Int)) none
  have h2:=ZBD (ZBS bs) none (some (ts.idxOf (minS ts):Int))
  rw[AA] at h1 h2
  exact big _ (by lia)
 have s3:=Same.new n3 (.lst (cutV (ZBS bs) (some (ts.idxOf (minS ts):Int)) none++cutV (ZBS bs) none (some (ts.idxOf (minS ts):Int))))
 refine⟨l3,_,rfl,.inl ⟨SqL.of ZAB,λq2 nq=>?_⟩⟩
 have sA:=((s1.trans s2).trans s3).trans (Same.new nq (.tup (cutV (ZBS bs) (some (ts.idxOf (minS ts):Int)) none++cutV (ZBS bs) none (some (ts.idxOf (minS ts):Int)))))
 have hb2:=hbs.ts sA.ts
 refine q q2 (bs.drop (ts.idxOf (minS ts))++bs.take (ts.idxOf (minS ts))) _ sA ?_ ((hb2.drop _).app (hb2.take _))
 rw[ZAB,ZEH,ZLf,<-CD,<-CU,<-AX]
theorem ZMn {k:Nat}(F:Fun K "flat" "flat" ZHx f fd)(G:Blt mg)(h0:ZA4 mg "FIRST" 0)(h1:ZA4 mg "GOAL_moving" 1)(hS:Has P w K mg base "stop_of" k ["goals","name"] ZCq):
  FnOk P w K mg base CX0 (k+1) f fd ["rows"] ZDU:=by
 refine F.ok ZFD (λvs H Q E h=>?_) (λcdv A outer s H vs Q E hr h=>?_)
 ·obtain⟨a,R,rfl,_⟩:=h
  rfl
 obtain⟨a,R,rfl,⟨rs,ha,hrs,hR⟩,nd,hz,q⟩:=h
 obtain⟨t0,m0⟩:=h0
 obtain⟨t1,m1⟩:=h1
 have hu:=ZA9 hr
 have hq8:=hu8 hr
 refine⟨_,ZAD (ZAL (i:=1) ZFD.nd rfl (Db rfl) (ZAI (ZBj rfl hq8) rfl G.dict boot_dict (ZAA (pv 0) ZAC)))
  (ZAD (ZDB (ix:=2) (te:=tTup (ZAW (tOp (rIxT K) (tVar 0) (tC (.int 0))) (ZAW (ZCM ZCq [] E0 (ZAW (tVar 1) (ZAW (tOp (rIxT K) (tVar 0) (tC (.int 0))) tNil))) tNil))) (xs:= ["row"]) (ys:= ["goals"]) (js:= [1]) rfl (by decide +kernel) (by decide +kernel) rfl (by decide +kernel) ⟨rfl,.inl rfl,rfl,trivial⟩
   (ZAp (pv 0)) (λ_ _ _ _ _=>ZAK (i:=0) nd1 rfl (Ag rfl) (.inr rfl)) (λ_ _ _ _ _=>ZAb)
   (λ_ _ _ _ _=>ZAt (ZAA (ZAk ZAX (pv 0) (ZAQ rfl m0 (v:= .int 0) ⟨_,rfl⟩) λ_ _=>rfl) (ZAA (ZAE hS hr rfl (ZAA (pv 1) (ZAA (ZAk ZAX (pv 0) (ZAQ rfl m0 (v:= .int 0) ⟨_,rfl⟩) λ_ _=>rfl) ZAC))) ZAC)))
   ZFD.nd rfl (Ag rfl))
  (ZAH (ZAT (ZAI ZAG rfl G.tuple boot_tuple (ZAA (ZAY (ZFX hq8) rfl G.sorted boot_sorted (ZAA (ZAO (tt:=tB (ZHn (tOp (rIxT K) (tVar 0) (tC (.int 1))) (tVar 1))) (xs:= ["row"]) (ys:= ["goals"]) (js:= [1]) rfl (by decide +kernel) (by decide +kernel) rfl (by decide +kernel) ⟨rfl,.inl rfl,rfl,trivial⟩
   (ZCC (pv 2)) (λ_ _ _ _ _=>ZAK (i:=0) nd1 rfl (Ag rfl) (.inr rfl)) (λ_ _ _ _ _=>ZBb (ZBO (ZCR hu (ZAk ZAX (pv 0) (ZAQ rfl m1 (v:= .int 1) ⟨_,rfl⟩) λ_ _=>rfl) (pv 1)) (by with_unfolding_all rfl)))
   (λ_ _ _ _ _=>pv 0)) ZAC)) ZAC))))),?_⟩
 have hlz:rs.length<64:=by rw[<-hR,AA] at hz;exact hz
 refine⟨_,rfl,a,_,_,rfl,ha,ZBB (K:=K) hrs,by rw[AA];lia,λd nd'=>?_⟩
 have hg:=ZCS hrs hR nd nd'
 have s1:=Same.new nd' (.dT (ZA2 [] (gkT rs)))
 generalize (upd H d (.dT (ZA2 [] (gkT rs))):Hp)=H1 at*
 refine⟨_,rfl,a,rfl,⟨_,SqT.of (s1 _ _ ha)⟩,λD hD=>?_⟩
 refine ZB0 (xs:=ZDc rs) (fr:= [some (.ref d)]) (λx v H'=>∃r∈rs,x=V.ref r.1/\∃t:TR,v=V.ref t.1/\ZCL H' t/\trow t=(r.2.1.2,stop R r.2.1.2)) (λx v H H' s h=>?_) D hD (ZAP (SqT.of (s1 _ _ ha))) (bigl _ (by rw[AA];lia)) ?_ ?_
 ·obtain⟨r,hr',e,t,e2,hb,et⟩:=h
  exact⟨r,hr',e,t,e2,hb.ts s,et⟩
 ·intro x H2 Rr hx s2 hR2
  obtain⟨r,hr',rfl⟩:=ZLC hx
  have hrow:=(hrs r hr').ts (s1.trans s2).ts
  refine⟨_,rfl,r.1,_,_,V.ref r.2.1.1,rfl,rfl,SqT.of hrow.1,rfl,_,rfl,_,rfl,r.1,_,_,V.ref r.2.1.1,rfl,rfl,SqT.of hrow.1,rfl,d,r.2.1.1,R,r.2.1.2,rfl,hg.same s2,hrow.2.1,by lia,λc H3 s3 hc=>?_⟩
  refine⟨big _ (by simp),λb nb=>?_⟩
  have sn:=Same.new nb (.tup [V.ref r.2.1.1,V.ref c])
  exact hR2 _ _ (s3.trans sn) ⟨r,hr',rfl,(b,(r.2.1.1,r.2.1.2),(c,stop R r.2.1.2)),rfl,⟨ZAB,(s3.trans sn) _ _ hrow.2.1,sn _ _ hc⟩,rfl⟩
 ·intro H2 ys s2 hD2 hp
  obtain⟨rs2,rfl,hrs2,e2⟩:=ZFO (H:=H2) (f:=λ(r:TR)=>(r.2.1.2,stop R r.2.1.2)) (g:=λr=>V.ref r.1) (L:=rs) (λr h r' h' e=>by
   injection e with e
   have:=ZCL.inj (hrs r h) (hrs r' h') e
   have e1:r.2.1.2=r'.2.1.2:=congrArg Prod.fst this
   show(r.2.1.2,stop R r.2.1.2)=(r'.2.1.2,stop R r'.2.1.2)
   rw[e1]) (xs:=rs) (λx h=>h) hp
  have hl2:rs2.length=rs.length:=by
   have:=congrArg Ay e2
   rw[AA,AA] at this
   exact this
  have em:rs2.map trow=R.map λr=>(r.1,stop R r.1):=by rw[e2,<-hR,AE];rfl
  refine⟨_,rfl,D,rfl,⟨_,SqL.of hD2⟩,λD2 hD2'=>?_⟩
  refine ZBM (rs:=rs2) (λr=>V.ref r.1) (fr:= [some (.ref d)]) (λr=>V.ref r.1) (λr=>(val R (trow r).2).isNone) D2 hD2' (ZAv (SqL.of hD2)) (bigl _ (by lia)) ?_ ?_ ?_
  ·intro r H3 Rr hr' s3 hR3
   have hrow:=(hrs2 r hr').ts s3.ts
   obtain⟨o,g1,g2,_⟩:=(hg.same (s2.trans s3)).get hrow.2.2
   refine⟨_,rfl,r.1,_,_,V.ref r.2.2.1,rfl,rfl,SqT.of hrow.1,rfl,_,rfl,d,_,rfl,g1,_,rfl,?_⟩
   have:=hR3 H3 (Same.refl _)
   rw[g2]
   have e:(!(val R r.2.2.2).isSome)=(val R (trow r).2).isNone:=by
    show(!(val R r.2.2.2).isSome)=(val R r.2.2.2).isNone
    cases val R r.2.2.2<;>rfl
   rw[e]
   exact this
  ·intro r H3 Rr hr' _ s3 hR3
   exact⟨_,rfl,hR3 H3 (Same.refl _)⟩
  ·intro H3 s3 hD3
   have hrs3:=(hrs2.filter λr=>(val R (trow r).2).isNone).ts s3.ts
   have ef:((rs2.filter λr=>(val R (trow r).2).isNone).map trow)=ZBL R:=by
    rw[ZCw rs2 λr=>(val R r.2).isNone,em]
    rfl
   have hl3:(rs2.filter λr=>(val R (trow r).2).isNone).length<=rs2.length:=Ap _ _
   generalize (rs2.filter λr=>(val R (trow r).2).isNone)=rs3 at*
   refine⟨D2,rs3.map λr=>(r.1,[[r.2.1.2],[r.2.2.2]]),rfl,.inl (SqL.of (by rw[AE];exact hD3)),by rw[AA];lia,λr hr'=>?_,λl ss nl hp hs=>?_⟩
   ·obtain⟨q',hq',rfl⟩:=AD.mp hr'
    exact⟨(hrs3 q' hq').nest,λe=>nomatch e⟩
   ·obtain⟨rs4,hp4,rfl⟩:=perm_back _ hp
    have sl:=Same.new nl (.lst ((rs4.map λr=>(r.1,[[r.2.1.2],[r.2.2.2]])).map λr=>V.ref r.1))
    refine⟨l,_,rfl,.inl ⟨SqL.of ZAB,λl2 nl2=>?_⟩⟩
    have sl2:=Same.new nl2 (.tup ((rs4.map λr=>(r.1,[[r.2.1.2],[r.2.2.2]])).map λr=>V.ref r.1))
    have sA:=(((s1.trans s2).trans s3).trans sl).trans sl2
    have ndf:((ZBL R).map (·.1)).Nodup:=by
     have hsub:((ZBL R).map (·.1)).Sublist (R.map (·.1)):=by
      have e:(R.map (·.1))=((R.map λr=>(r.1,stop R r.1)).map (·.1)):=by rw[AE];rfl
      rw[e]
      exact(B6).map _
     exact nd.sublist hsub
    obtain⟨hperm,hrise⟩:=riseT ef ndf hp4 hs
    refine q l2 (rs4.map trow) _ sA ⟨rs4,?_,λr hr'=>?_,rfl⟩ hperm hrise
    ·rw[ZAB,AE]
     rfl
    ·exact(hrs3 r (hp4.mem_iff.mp hr')).ts (sl.trans sl2).ts
theorem ZJr {k:Nat}(F:Fun K "is_flat" "is_flat" ZCt f fd)(G:Blt mg)(h1:ZA4 mg "GOAL_moving" 1):FnOk P w K mg base CX0 (k+1) f fd ["rows"] ZC5:=by
 refine F.ok ZD7 (λvs H Q E h=>?_) (λcdv A outer s H vs Q E hr h=>?_)
 ·obtain⟨a,R,rfl,_⟩:=h
  rfl
 obtain⟨a,R,rfl,⟨rs,ha,hrs,hR⟩,nd,hz,q⟩:=h
 obtain⟨t1,m1⟩:=h1
 have hu:=ZA9 hr
 have hq8:=hu8 hr
 refine⟨_,ZAD (ZAL (i:=1) ZD7.nd rfl (Db rfl) (ZAI (ZBj rfl hq8) rfl G.dict boot_dict (ZAA (pv 0) ZAC)))
  (ZAH (ZAT (ZNW (ZAY (ZHG rfl) rfl G.any boot_any (ZAA (ZAO (te:=tDIn (tOp (rIxT K) (tVar 0) (tC (.int 1))) (tVar 1)) (xs:= ["row"]) (ys:= ["goals"]) (js:= [1]) rfl (by decide +kernel) (by decide +kernel) rfl (by decide +kernel) ⟨rfl,.inl rfl,rfl,trivial⟩
   (ZAp (pv 0)) (λ_ _ _ _ _=>ZAK (i:=0) nd1 rfl (Ag rfl) (.inr rfl)) (λ_ _ _ _ _=>ZAb)
   (λ_ _ _ _ _=>ZIk (ZCh hu (ZAk ZAX (pv 0) (ZAQ rfl m1 (v:= .int 1) ⟨_,rfl⟩) λ_ _=>rfl) (pv 1)) (by with_unfolding_all rfl))) ZAC))))),?_⟩
 have hlz:rs.length<=1000:=by rw[<-hR,AA] at hz;exact hz
 refine⟨_,rfl,a,_,_,rfl,ha,ZBB (K:=K) hrs,by rw[AA];lia,λd nd'=>?_⟩
 have hg:=ZCS hrs hR nd nd'
 have s1:=Same.new nd' (.dT (ZA2 [] (gkT rs)))
 generalize (upd H d (.dT (ZA2 [] (gkT rs))):Hp)=H1 at*
 have hrs1:=hrs.ts s1.ts
 refine⟨_,rfl,a,rfl,⟨_,SqT.of (s1 _ _ ha)⟩,λD hD=>?_⟩
 refine ZBM (rs:=rs) (λr=>V.ref r.1) (fr:= [some (.ref d)]) (tt:=ZC3) (λr=>V.bl (val R (trow r).2).isSome) (λ_=>true) D hD (ZAP (SqT.of (s1 _ _ ha))) (bigl _ (by lia)) ?_ ?_ ?_
 ·intro y H2 Rr hy _ hR2
  exact hR2 H2 (Same.refl H2)
 ·intro r H2 Rr hr' _ s2 hR2
  have hrow:=(hrs1 r hr').ts s2.ts
  obtain⟨o,g1,g2,_⟩:=(hg.same s2).get hrow.2.2
  refine⟨_,rfl,r.1,_,_,V.ref r.2.2.1,rfl,rfl,SqT.of hrow.1,rfl,_,rfl,d,_,rfl,g1,?_⟩
  rw[g2]
  exact hR2 H2 (Same.refl _)
 ·intro H2 s2 hD2
  have eb:rs.map (λr=>V.bl (val R (trow r).2).isSome)=(R.map λr=>(val R r.2).isSome).map V.bl:=by
   rw[AE]
   conv=>rhs;rw[<-hR]
   rw[AE,hR]
   rfl
  rw[Bx.mpr (λ_ _=>rfl),eb] at hD2
  refine⟨D,_,rfl,SqL.of hD2,_,rfl,?_⟩
  have:=q H2 (s1.trans s2)
  rw[Dt]
  exact this
end
inductive ZFd (vs:List V)(H:Hp)(Q:VK):Prop
 |mk:∀(a:Ez) (R:List Rw),(vs= [.ref a])->(ZBF H a R)->((R.map (·.1)).Nodup)->(R.length<60)->(∀(p:Ez) (T:List (List E3)) (H':Hp),Same H H'->ZIT H' p T->ZDk R T->Q (.ref p) H')->ZFd vs H Q
def ZD4:Sp:=λvs H Q _=>ZFd vs H Q
inductive ZJG (vs:List V)(H:Hp)(Q:VK):Prop
 |mk:∀(a b:Ez) (R:List Rw) (n:E3),(vs= [.ref a,.ref b])->(ZBF H a R)->(NmT H b n)->((R.map (·.1)).Nodup)->(R.length<64)->(∀(p:Ez) (R':List Rw) (H':Hp),Same H H'->R'.Perm (ZBL R)->Rise R'->ZB4 H' p ((R'.filter λr=>decide (r.2=n)).map (·.1))->Q (.ref p) H')->ZJG vs H Q
def ZIe:Sp:=λvs H Q _=>ZJG vs H Q
theorem ZGM {x:List E3}{us:List (List E3)}:ones x∈us.map ones↔x∈us:=by
 constructor
 ·intro h
  obtain⟨y,hy,e⟩:=AD.mp h
  rw[<-ZEC e]
  exact hy
 ·exactλh=>AD.mpr ⟨x,h,rfl⟩
section
variable {P:E7}{w:FA}{K:AB}{mg:E3->Option E2}{base:E9}{f:Ez}{fd:FJ}
theorem ZK0 {k:Nat}(F:Fun K "rings" "rings" ZEP f fd)(G:Blt mg)(h0:ZA4 mg "FIRST" 0)(hS:Has P w K mg base "stop_of" k ["goals","name"] ZCq)(hRF:Has P w K mg base "ring_from" k ["goals","name"] ZCr)(hLe:Has P w K mg base "from_least" k ["ring"] ZFx):
  FnOk P w K mg base CX0 (k+1) f fd ["rows"] ZD4:=by
 refine F.ok ZBs (λvs H Q E h=>?_) (λcdv A outer s H vs Q E hr h=>?_)
 ·obtain⟨a,R,rfl,_⟩:=h
  rfl
 obtain⟨a,R,rfl,⟨rs,ha,hrs,hR⟩,nd,hz,q⟩:=h
 obtain⟨t0,m0⟩:=h0
 have hu:=ZA9 hr
 have hq8:=hu8 hr
 refine⟨_,ZAD (ZAL (i:=1) ZBs.nd rfl (Ag rfl) (ZAI (ZBj rfl hq8) rfl G.dict boot_dict (ZAA (pv 0) ZAC)))
  (ZAD (ZAL (i:=2) ZBs.nd rfl (Ag rfl) ZCD)
  (ZAD (ZCK PassesOwn.never rfl (ZAp (pv 0)) (ZAK (i:=3) ZBs.nd rfl (Ag rfl))
   (ZAD (ZAL (i:=4) ZBs.nd rfl (Ag rfl) (ZAE hS hr rfl (ZAA (pv 1) (ZAA (ZAk ZAX (pv 3) (ZAQ rfl m0 (v:= .int 0) ⟨_,rfl⟩) λ_ _=>rfl) ZAC))))
   (ZAH (ZBc (ZBO (ZCh hu (pv 4) (pv 1)) (by with_unfolding_all rfl))
    (ZAH (ZOU hq8 (pv 2) (ZAE hLe hr rfl (ZAA (ZAE hRF hr rfl (ZAA (pv 1) (ZAA (pv 4) ZAC))) ZAC)) ZJm rfl)) ZAg))))
  (ZAH (ZAT (ZAI ZAG rfl G.tuple boot_tuple (ZAA (ZAY (ZIL rfl hq8) rfl G.sorted boot_sorted (ZAA (pv 2) ZAC)) ZAC)))))),?_⟩
 have hlz:rs.length<60:=by rw[<-hR,AA] at hz;exact hz
 refine⟨_,rfl,a,_,_,rfl,ha,ZBB (K:=K) hrs,by rw[AA];lia,λd nd'=>?_⟩
 have hg:=ZCS hrs hR nd nd'
 have s1:=Same.new nd' (.dT (ZA2 [] (gkT rs)))
 generalize (upd H d (.dT (ZA2 [] (gkT rs))):Hp)=H1 at*
 intro kn nk
 have s2:=Same.new nk (.dT [])
 have hk2:(upd H1 kn (.dT []):Hp) kn=some (.dT []):=ZAB
 have hH1k:=nk
 have ha2:=(s1.trans s2) _ _ ha
 generalize (upd H1 kn (.dT []):Hp)=H2 at*
 refine⟨_,rfl,a,rfl,⟨_,SqT.of ha2⟩,?_⟩
 refine ZIE (xs:=ZDc rs) (λi Z H'=>∃(v3 v4:Option V) (xs:List Tn) (us:List (List E3)),Z= [some (.ref a),some (.ref d),some (.ref kn),v3,v4]/\Same H1 H'/\NRd P w H' kn xs/\(∀r∈xs,∃L,r.2=ones L/\ZB4 H' r.1 L)/\xs.map (·.2)=us.map ones/\us.Nodup/\us.length<=i/\
   ∀u,u∈us↔∃r∈R.take i,val R (stop R r.1)≠none/\u=ZAq (ZAa R r.1))
  ⟨_,_,[],[],rfl,s2,.inl ⟨hk2,rfl⟩,(λr hr=>by cases hr),rfl,BZ,AK _,by simp⟩ (λi Z H' _ h=>by obtain⟨_,_,_,_,_,s',_⟩:=h;exact SqT.of (s' _ _ (s1 _ _ ha))) ?_ ?_
 ·rintro i x Z H3 hx ⟨v3,v4,xs,us,rfl,s3,hk3,hxs,hkeys,ndu,hlu,hmem⟩
  rw[AS] at hx
  obtain⟨r,hri,rfl⟩:∃r,rs[i]?=some r/\V.ref r.1=x:=by
   cases hh:rs[i]? with
   |none=>rw[hh] at hx;cases hx
   |some y=>rw[hh] at hx;injection hx with hx;exact⟨y,rfl,hx⟩
  have hr':r∈rs:=Az hri
  have hli:i<rs.length:=(BW.mp hri).1
  have htk:R.take (i+1)=R.take i++ [trow r]:=by
   have:R[i]?=some (trow r):=by rw[<-hR,AS,hri];rfl
   rw[BG,this]
   rfl
  have hrow:=(hrs r hr').ts (s1.trans s3).ts
  refine⟨_,rfl,_,rfl,r.1,_,_,V.ref r.2.1.1,rfl,rfl,SqT.of hrow.1,rfl,d,r.2.1.1,R,r.2.1.2,rfl,hg.same s3,hrow.2.1,by lia,λc H4 s4 hc=>?_⟩
  have hd4:=hg.same (s3.trans s4)
  obtain⟨o,g1,g2,_⟩:=hd4.get hc
  refine⟨_,rfl,_,rfl,d,_,rfl,g1,_,rfl,?_⟩
  rw[g2]
  have nrd:∀H5,Same H3 H5->NRd P w H5 kn xs:=λH5 s5=>hk3.elim (λz=> .inl ⟨s5 _ _ z.1,z.2⟩) λz=> .inr (s5 _ _ z)
  cases hv:val R (stop R r.2.1.2) with
  |none=>
   refine iteF ⟨_,_,xs,us,rfl,s3.trans s4,nrd _ s4,λz hz=>?_,hkeys,ndu,by lia,λu=>?_⟩
   ·obtain⟨L,e,h⟩:=hxs z hz;exact⟨L,e,h.ts s4.ts⟩
   rw[hmem,htk]
   constructor
   ·rintro⟨z,hz,h1,h2⟩;exact⟨z,BD _ hz,h1,h2⟩
   ·rintro⟨z,hz,h1,h2⟩
    rcases AY.mp hz with hz|hz
    ·exact⟨z,hz,h1,h2⟩
    ·rw[AF.mp hz] at h1;exact absurd hv h1
  |some g=>
   obtain⟨L,m,eL,hm,hl,hLl⟩:=ZDZ (R:=R) (n:=r.2.1.2) (by rw[hv];exactλe=>nomatch e)
   refine iteT ⟨_,rfl,_,rfl,_,rfl,d,c,R,stop R r.2.1.2,m,L,rfl,hd4,hc,hm,hl,by lia,λp5 bs5 H5 s5 hp5 hb5=>?_⟩
   refine⟨p5,bs5,stop R r.2.1.2::L,rfl,hp5,hb5,(λe=>nomatch e),by rw[Ac];lia,λp6 cs6 H6 s6 hp6 hc6=>?_⟩
   rw[<-eL] at hc6
   have s36:=(s4.trans s5).trans s6
   have hring:ZB4 H6 p6 (ZAq (ZAa R r.2.1.2)):=⟨cs6,hp6,hc6⟩
   have hxs6:∀z∈xs,∃L,z.2=ones L/\ZB4 H6 z.1 L:=λz hz=>by obtain⟨L,e,h⟩:=hxs z hz;exact⟨L,e,h.ts s36.ts⟩
   have hxl:xs.length=us.length:=by have:=congrArg Ay hkeys;rw[AA,AA] at this;exact this
   refine⟨kn,xs,(p6,ones (ZAq (ZAa R r.2.1.2))),rfl,rfl,rfl,nrd _ s36,hring.nest,λz hz=>?_,?_,by lia,?_⟩
   ·obtain⟨L,e,h⟩:=hxs6 z hz
    have:=h.nest (K:=K)
    rw[<-e] at this
    exact this
   ·rw[hkeys]
    exact ZEY (λa b e=>ZEC e) ndu
   have tp:TS' H6 (upd H6 kn (nD P w kn (putN xs (p6,ones (ZAq (ZAa R r.2.1.2)))))):=λc' ys e=>by
    rw[ZAN]
    ·exact e
    ·intro z
     rw[z] at e
     rcases nrd _ s36 with⟨h1,_⟩|h1
     ·rw[h1] at e;cases e
     ·rw[h1] at e;cases e
   have hput:(putN xs (p6,ones (ZAq (ZAa R r.2.1.2)))).map (·.2)=(if ZAq (ZAa R r.2.1.2)∈us then us else us++ [ZAq (ZAa R r.2.1.2)]).map ones:=by
    unfold putN
    rw[hkeys]
    by_cases c:ZAq (ZAa R r.2.1.2)∈us
    ·rw[if_pos c,if_pos (ZGM.mpr c),hkeys]
    ·rw[if_neg c,if_neg (λz=>c (ZGM.mp z)),AX,AX,hkeys]
     rfl
   refine⟨_,_,_,_,rfl,?_,.inr ZAB,λz hz=>?_,hput,?_,?_,λu=>?_⟩
   ·intro b o eb
    have hb:b≠kn:=ZAJ eb hH1k
    rw[ZAN hb]
    exact(s3.trans s36) _ _ eb
   ·have hz2:z∈xs\/z=(p6,ones (ZAq (ZAa R r.2.1.2))):=by
     unfold putN at hz
     split at hz
     ·exact .inl hz
     ·rcases AY.mp hz with hz|hz
      ·exact .inl hz
      ·exact .inr (AF.mp hz)
    rcases hz2 with hz2|rfl
    ·obtain⟨L,e,h⟩:=hxs6 z hz2
     exact⟨L,e,h.ts tp⟩
    ·exact⟨_,rfl,hring.ts tp⟩
   ·by_cases c:ZAq (ZAa R r.2.1.2)∈us
    ·rw[if_pos c];exact ndu
    ·rw[if_neg c,Aw]
     exact⟨ndu,by simp,λx hx y hy e=>by rw[AF.mp hy] at e;exact c (e▸hx)⟩
   ·by_cases c:ZAq (ZAa R r.2.1.2)∈us
    ·rw[if_pos c];lia
    ·rw[if_neg c,AW,Ai];lia
   ·have base':(∃z∈R.take (i+1),val R (stop R z.1)≠none/\u=ZAq (ZAa R z.1))↔u∈us\/u=ZAq (ZAa R r.2.1.2):=by
     rw[hmem,htk]
     constructor
     ·rintro⟨z,hz,h1,h2⟩
      rcases AY.mp hz with hz|hz
      ·exact .inl ⟨z,hz,h1,h2⟩
      ·rw[AF.mp hz] at h2;exact .inr h2
     ·rintro(⟨z,hz,h1,h2⟩|h2)
      ·exact⟨z,BD _ hz,h1,h2⟩
      ·exact⟨trow r,AU _ (by simp),(show val R (stop R r.2.1.2)≠none by rw[hv];exactλe=>nomatch e),h2⟩
    rw[base']
    by_cases c:ZAq (ZAa R r.2.1.2)∈us
    ·rw[if_pos c]
     exact⟨.inl,λh=>h.elim id λe=>e▸c⟩
    ·rw[if_neg c,AY,AF]
 ·rintro Z H3 ⟨v3,v4,xs,us,rfl,s3,hk3,hxs,hkeys,ndu,hlu,hmem⟩
  rw[AA] at hlu hmem
  have hRl:R.length=rs.length:=by rw[<-hR,AA]
  have htk:R.take rs.length=R:=by rw[<-hRl,Bd]
  rw[htk] at hmem
  have hxl:xs.length=us.length:=by have:=congrArg Ay hkeys;rw[AA,AA] at this;exact this
  refine⟨_,rfl,kn,xs,rfl,hk3,by lia,λt ht=>?_,λl qs nl hp hs=>?_⟩
  ·obtain⟨L,e,h⟩:=hxs t ht
   have hn:=h.nest (K:=K)
   rw[<-e] at hn
   refine⟨hn,λz=>?_⟩
   have hLm:L∈us:=ZGM.mp (by rw[<-hkeys,<-e];exact AD.mpr ⟨t,ht,rfl⟩)
   obtain⟨r,hr',hne,rfl⟩:=(hmem L).mp hLm
   obtain⟨L',m,eL,_⟩:=ZDZ hne
   rw[e] at z
   exact ZIu (ts:=ZAa R r.1) (by rw[eL];exactλe=>nomatch e) (by simpa using z)
  have s4:=Same.new nl (.lst (qs.map λr=>V.ref r.1))
  refine⟨l,_,rfl,.inl ⟨SqL.of ZAB,λq2 nq2=>?_⟩⟩
  have s5:=Same.new nq2 (.tup (qs.map λr=>V.ref r.1))
  have sA:=((s1.trans s3).trans s4).trans s5
  obtain⟨vs',hv',ev'⟩:∃vs':List (List E3),vs'.Perm us/\qs.map (·.2)=vs'.map ones:=by
   have:(qs.map (·.2)).Perm (us.map ones):=by rw[<-hkeys];exact hp.map _
   exact perm_back ones this
  have hql:qs.length=vs'.length:=by have:=congrArg Ay ev';rw[AA,AA] at this;exact this
  have hz1:(qs.zip vs').map (·.1)=qs:=DL (by lia)
  have hz2:(qs.zip vs').map (·.2)=vs':=B7 (by lia)
  have hzm:∀z∈qs.zip vs',z.1.2=ones z.2/\z.1∈qs:=λz hz=>by
   obtain⟨i,hi,e⟩:=B3.mp hz
   have h1:(qs.map (·.2))[i]?=(vs'.map ones)[i]?:=by rw[ev']
   have hiq:i<qs.length:=by rw[Bs] at hi;lia
   have hiv:i<vs'.length:=by rw[Bs] at hi;lia
   rw[AS,AS,AG hiq,AG hiv] at h1
   rw[List.getElem_zip] at e
   subst e
   exact⟨Aj h1,BJ _⟩
  refine q q2 vs' _ sA ⟨(qs.zip vs').map λz=>(z.1.1,z.2),?_,λr hr'=>?_,?_⟩ ⟨?_,λu=>?_⟩
  ·rw[ZAB,ZBS,AE]
   conv=>lhs;rw[<-hz1,AE]
   rfl
  ·obtain⟨z,hz,rfl⟩:=AD.mp hr'
   obtain⟨e1,e2⟩:=hzm z hz
   obtain⟨L,e3,h⟩:=hxs z.1 (hp.mem_iff.mp e2)
   rw[e3] at e1
   rw[<-ZEC e1]
   exact h.ts (s4.trans s5).ts
  ·rw[AE];exact hz2
  ·have ndv:vs'.Nodup:=hv'.nodup_iff.mpr ndu
   have hs2:(qs.map (·.2)).Pairwise λa b=>HS.ltTT b a=false:=Aa.mpr hs
   rw[ev',Aa] at hs2
   refine(hs2.and ndv).imp λ{a b} z=>?_
   rw[ZEd] at z
   cases hc:HS.ltT a b with
   |true=>rfl
   |false=>exact absurd (HS.ltT_tri _ _ hc z.1) z.2
  ·rw[hv'.mem_iff,hmem]
theorem ZOg {k:Nat}(F:Fun K "led_to" "led_to" ZEQ f fd)(G:Blt mg)(h0:ZA4 mg "FIRST" 0)(h1:ZA4 mg "GOAL_moving" 1)(hF:Has P w K mg base "flat" k ["rows"] ZDU):
  FnOk P w K mg base CX0 (k+1) f fd ["rows","name"] ZIe:=by
 refine F.ok ZKO (λvs H Q E h=>?_) (λcdv A outer s H vs Q E hr h=>?_)
 ·obtain⟨a,b,R,n,rfl,_⟩:=h
  rfl
 obtain⟨a,b,R,n,rfl,hA,hb,nd,hz,q⟩:=h
 obtain⟨t0,m0⟩:=h0
 obtain⟨t1,m1⟩:=h1
 have hu:=ZA9 hr
 refine⟨_,ZAH (ZAT (ZAI ZAG rfl G.tuple boot_tuple (ZAA (ZAO (tt:=ZFq (tOp (rEqD K) (tOp (rIxT K) (tVar 0) (tC (.int 1))) (tVar 1))) (te:=tOp (rIxT K) (tVar 0) (tC (.int 0))) (xs:= ["row"]) (ys:= ["name"]) (js:= [1]) rfl (by decide +kernel) (by decide +kernel) rfl (by decide +kernel) ⟨rfl,.inl rfl,rfl,trivial⟩
   (ZAp (ZAE hF hr rfl (ZAA (pv 0) ZAC))) (λ_ _ _ _ _=>ZAK (i:=0) nd4 rfl (Ag rfl) (.inr rfl)) (λ_ _ _ _ _=>ZBb (ZAc (ZGu (hu8 hr)) (ZAk ZAX (pv 0) (ZAQ rfl m1 (v:= .int 1) ⟨_,rfl⟩) λ_ _=>rfl) (pv 1) (ZAm _)))
   (λ_ _ _ _ _=>ZAk ZAX (pv 0) (ZAQ rfl m0 (v:= .int 0) ⟨_,rfl⟩) λ_ _=>rfl)) ZAC))),?_⟩
 refine⟨_,rfl,a,R,rfl,hA,nd,hz,λp R' H1 s1 hA1 hp hr1=>?_⟩
 obtain⟨rs,ha1,hrs1,hR1⟩:=id hA1
 have hlz:rs.length<64:=by
  have e1:=congrArg Ay hR1
  rw[AA,hp.length_eq] at e1
  have e2:(ZBL R).length<=R.length:=by
   unfold ZBL
   refine As (Ap _ _) ?_
   rw[AA]
   exact AK _
  lia
 refine⟨p,rfl,⟨_,SqT.of ha1⟩,λD hD=>?_⟩
 refine ZBM (rs:=rs) (λr=>V.ref r.1) (fr:= [some (.ref b)]) (λr=>V.ref r.2.1.1) (λr=>decide ((trow r).2=n)) D hD (ZAP (SqT.of ha1)) (bigl _ (by lia)) ?_ ?_ ?_
 ·intro r H2 Rr hr' s2 hR2
  have hrow:=(hrs1 r hr').ts s2.ts
  refine⟨_,rfl,r.1,_,_,V.ref r.2.2.1,rfl,rfl,SqT.of hrow.1,rfl,_,rfl,_,_,NmT.dat hrow.2.2,NmT.dat ((s1.trans s2) _ _ hb),ZDJ _,_,rfl,?_⟩
  rw[ZED]
  exact hR2 H2 (Same.refl _)
 ·intro r H2 Rr hr' _ s2 hR2
  have hrow:=(hrs1 r hr').ts s2.ts
  exact⟨_,rfl,r.1,_,_,V.ref r.2.1.1,rfl,rfl,SqT.of hrow.1,rfl,hR2 H2 (Same.refl _)⟩
 ·intro H2 s2 hD2
  refine⟨D,_,rfl,.inl ⟨SqL.of hD2,λl nl=>?_⟩⟩
  have sn:=Same.new nl (.tup ((rs.filter λr=>decide ((trow r).2=n)).map λr=>V.ref r.2.1.1))
  refine q l R' _ ((s1.trans s2).trans sn) hp hr1 ⟨(rs.filter λr=>decide ((trow r).2=n)).map λr=>(r.2.1.1,[r.2.1.2]),?_,λz hz'=>?_,?_⟩
  ·rw[ZAB,ZBS,AE];rfl
  ·obtain⟨r,hr',rfl⟩:=AD.mp hz'
   exact(s2.trans sn) _ _ (hrs1 r (Ao.mp hr').1).2.1
  ·have ef:=ZCw rs λr=>decide (r.2=n)
   rw[hR1] at ef
   rw[<-ef,AE,ones,AE,AE]
   rfl
end
inductive ZEt (vs:List V)(H:Hp)(Q:VK):Prop
 |mk:∀(a:Ez) (R:List Rw),(vs= [.ref a])->(ZBF H a R)->((R.map (·.1)).Nodup)->(R.length<60)->(∀(p:Ez) (Rs:List Rw) (ts:List E3) (H':Hp),Same H H'->Rs.Perm R->Rise Rs->ts.Pairwise (λa b=>HS.ltS a b=true)->(∀g,g∈ts↔∃r∈R,r.2=g)->ZIR H' p (ts.map λg=>(g,grp Rs g))->Q (.ref p) H')->ZEt vs H Q
def ZC4:Sp:=λvs H Q _=>ZEt vs H Q
section
variable {P:E7}{w:FA}{K:AB}{mg:E3->Option E2}{base:E9}{f:Ez}{fd:FJ}
theorem ZJp {k:Nat}(F:Fun K "turned" "turned" ZCs f fd)(G:Blt mg)(h0:ZA4 mg "FIRST" 0)(h1:ZA4 mg "GOAL_moving" 1):FnOk P w K mg base CX0 (k+1) f fd ["rows"] ZC4:=by
 refine F.ok ZCX (λvs H Q E h=>?_) (λcdv A outer s H vs Q E hr h=>?_)
 ·obtain⟨a,R,rfl,_⟩:=h
  rfl
 obtain⟨a,R,rfl,⟨rs,ha,hrs,hR⟩,nd,hz,q⟩:=h
 obtain⟨t0,m0⟩:=h0
 obtain⟨t1,m1⟩:=h1
 have hu:=ZA9 hr
 have hq8:=hu8 hr
 refine⟨_,ZAD (ZAL (i:=1) ZCX.nd rfl (Db rfl) ZCD)
  (ZAD (ZCK PassesOwn.never rfl (ZCC (ZAY (ZFX hq8) rfl G.sorted boot_sorted (ZAA (pv 0) ZAC))) (ZAK (i:=2) ZCX.nd rfl (Ag rfl))
   (ZAH (ZB9 hu (pv 1) (ZAk ZAX (pv 2) (ZAQ rfl m1 (v:= .int 1) ⟨_,rfl⟩) λ_ _=>rfl)
    (ZA7 ZCE (ZIj hu (pv 1) (ZAk ZAX (pv 2) (ZAQ rfl m1 (v:= .int 1) ⟨_,rfl⟩) λ_ _=>rfl) (ZAt ZAC) ⟨rfl,rfl,rfl,rfl⟩)
     (ZAt (ZAA (ZAk ZAX (pv 2) (ZAQ rfl m0 (v:= .int 0) ⟨_,rfl⟩) λ_ _=>rfl) ZAC))) rfl)))
  (ZAH (ZAT (ZAI ZAG rfl G.tuple boot_tuple (ZAA (ZAO (xs:= ["goal"]) (ys:= ["leading"]) (js:= [1]) rfl (by decide +kernel) (by decide +kernel) rfl (by decide +kernel) ⟨rfl,.inl rfl,rfl,trivial⟩
   (ZCC (ZAY (ZCI rfl) rfl G.sorted boot_sorted (ZAA (pv 1) ZAC))) (λ_ _ _ _ _=>ZAK (i:=0) nd9 rfl (Ag rfl) (.inr rfl)) (λ_ _ _ _ _=>ZAb)
   (λ_ _ _ _ _=>ZAt (ZAA (pv 0) (ZAA (ZAe hu (pv 1) (pv 0) λ_ _=>rfl) ZAC)))) ZAC))))),?_⟩
 have hlz:rs.length<60:=by rw[<-hR,AA] at hz;exact hz
 intro d ndd
 have s1:=Same.new ndd (.dT [])
 have hd1:(upd H d (.dT []):Hp) d=some (.dT []):=ZAB
 generalize (upd H d (.dT []):Hp)=H1 at*
 have hrs1:=hrs.ts s1.ts
 refine⟨_,rfl,a,rs.map λr=>(r.1,[[r.2.1.2],[r.2.2.2]]),rfl,.inr (SqT.of (by rw[AE];exact s1 _ _ ha)),by rw[AA];lia,λr hr'=>?_,λl ss nl hp hs=>?_⟩
 ·obtain⟨q',hq',rfl⟩:=AD.mp hr'
  exact⟨(hrs1 q' hq').nest,λe=>nomatch e⟩
 obtain⟨rs4,hp4,rfl⟩:=perm_back _ hp
 obtain⟨hpR,hrise⟩:=riseT hR nd hp4 hs
 have hl4:rs4.length=rs.length:=hp4.length_eq
 have sl:=Same.new nl (.lst ((rs4.map λr=>(r.1,[[r.2.1.2],[r.2.2.2]])).map λr=>V.ref r.1))
 have hl2:(upd H1 l (.lst ((rs4.map λr=>(r.1,[[r.2.1.2],[r.2.2.2]])).map λr=>V.ref r.1)):Hp) l=some (.lst (ZDc rs4)):=by rw[ZAB,AE];rfl
 have hd2:=sl _ _ hd1
 have hld:l≠d:=λe=>by rw[e,hd1] at nl;cases nl
 have hrs2:ZA8 (upd H1 l (.lst ((rs4.map λr=>(r.1,[[r.2.1.2],[r.2.2.2]])).map λr=>V.ref r.1))) rs4:=λr hr'=>(hrs1 r (hp4.mem_iff.mp hr')).ts sl.ts
 have s02:=s1.trans sl
 generalize (upd H1 l (.lst ((rs4.map λr=>(r.1,[[r.2.1.2],[r.2.2.2]])).map λr=>V.ref r.1)):Hp)=H2 at*
 have hHd:H d=none:=ndd
 refine⟨l,rfl,⟨_,SqL.of hl2⟩,?_⟩
 refine ZIz (xs:=ZDc rs4) (λi Z H'=>∃(v2:Option V) (gs:List E3),Z= [some (.ref a),some (.ref d),v2]/\Same H H'/\H' l=some (.lst (ZDc rs4))/\ZA8 H' rs4/\ZBP H' d ((rs4.map trow).take i) gs)
  ⟨_,[],rfl,s02,hl2,hrs2,by rw[Bp];exact ZM5 hd2⟩ (λi Z H' _ h=>by obtain⟨_,_,_,_,h,_⟩:=h;exact SqL.of h) ?_ ?_
 ·rintro i x Z H3 hx ⟨v2,gs,rfl,s3,hl3,hrs3,hG⟩
  rw[AS] at hx
  obtain⟨r,hri,rfl⟩:∃r,rs4[i]?=some r/\V.ref r.1=x:=by
   cases hh:rs4[i]? with
   |none=>rw[hh] at hx;cases hx
   |some y=>rw[hh] at hx;injection hx with hx;exact⟨y,rfl,hx⟩
  have hr':r∈rs4:=Az hri
  have hrow:=hrs3 r hr'
  have htk:(rs4.map trow).take (i+1)=(rs4.map trow).take i++ [trow r]:=by
   rw[BG,AS,hri]
   rfl
  obtain⟨kvs0,hdk,_⟩:=id hG
  refine⟨_,rfl,d,rfl,.inr ⟨_,.inl hdk⟩,_,rfl,r.1,_,_,V.ref r.2.2.1,rfl,rfl,SqT.of hrow.1,rfl,big _ (by simp),λe ne=>?_⟩
  have s4:=Same.new ne (.tup ([]:List V))
  obtain⟨o,b,hget,hob,cs,hb,hcs⟩:=(hG.same s4).get (g:=r.2.2.2) (s4 _ _ hrow.2.2) (e:=e) ZAB
  refine⟨o,hget,?_⟩
  rw[hob]
  refine⟨_,rfl,r.1,_,_,V.ref r.2.1.1,rfl,rfl,SqT.of (s4 _ _ hrow.1),rfl,big _ (by simp),λc nc=>?_⟩
  have s5:=Same.new nc (.tup [V.ref r.2.1.1])
  have hgl:(grp ((rs4.map trow).take i) r.2.2.2).length<=60:=by
   unfold grp
   rw[AA]
   have h3:=Ap (λ(z:Rw)=>decide (z.2=r.2.2.2)) ((rs4.map trow).take i)
   rw[Ax,AA] at h3
   lia
  have hcl:=hcs.len
  refine⟨b,c,_,_,rfl,rfl,s5 _ _ hb,ZAB,big _ (by rw[AA,Ai];lia),λp H6 s6 hp6=>?_⟩
  have s36:=(s4.trans s5).trans s6
  have hp6':ZB4 H6 p (grp ((rs4.map trow).take i) (trow r).2++ [(trow r).1]):=by
   refine⟨cs++ [(r.2.1.1,[r.2.1.2])],by rw[hp6];simp,(hcs.ts (s5.trans s6).ts).app (ZA0.one (s36 _ _ hrow.2.1))⟩
  obtain⟨H7,hput,hG7,hkeep⟩:=(hG.same s36).put (trow r) (c:=r.2.2.1) (s36 _ _ hrow.2.2) hp6' (by rw[Ax,AA];lia)
  refine⟨_,rfl,_,rfl,r.1,_,_,V.ref r.2.2.1,rfl,rfl,SqT.of (s36 _ _ hrow.1),rfl,d,H7,rfl,hput,?_⟩
  have tk:TS' H6 H7:=λz xs ez=>hkeep _ _ (λe'=>by rw[e',s36 _ _ hdk] at ez;cases ez) ez
  refine⟨_,_,rfl,λz o' ez=>?_,hkeep _ _ hld (s36 _ _ hl3),λz hz'=>((hrs3 z hz').ts s36.ts).ts tk,by rw[htk];exact hG7⟩
  exact hkeep _ _ (ZAJ ez hHd) (s36 _ _ (s3 _ _ ez))
 ·rintro Z H3 ⟨v2,gs,rfl,s3,hl3,hrs3,hG⟩
  rw[AA] at hG
  have htk:(rs4.map trow).take rs4.length=rs4.map trow:=BH (by rw[AA];exact AK _)
  rw[htk] at hG
  obtain⟨kvs0,hdk,hkeys,ndg,hmem,hgl,_⟩:=id hG
  rw[AA] at hgl
  refine⟨_,rfl,d,ones gs,rfl,⟨kvs0,.inl hdk,hkeys⟩,by rw[AA];lia,λt ht e=>?_,λl5 us nl5 hpt hus hst=>?_⟩
  ·obtain⟨g,_,rfl⟩:=AD.mp ht
   cases e
  have s4:=Same.new nl5 (.lst (us.map λr=>V.ref r.1))
  have hl5:(upd H3 l5 (.lst (us.map λr=>V.ref r.1)):Hp) l5=some (.lst (ZBS us)):=ZAB
  have hG4:=hG.same s4
  have hus4:∀r∈us,(upd H3 l5 (.lst (us.map λr=>V.ref r.1)):Hp) r.1=some (.tup (r.2.map V.str)):=λr hr'=>s4 _ _ (hus r hr')
  generalize (upd H3 l5 (.lst (us.map λr=>V.ref r.1)):Hp)=H4 at*
  obtain⟨ts,hts,ets⟩:=perm_back (λx:E3=> [x]) hpt
  have hul:us.length=ts.length:=by have:=congrArg Ay ets;rw[AA,AA] at this;exact this
  have htl:ts.length=gs.length:=hts.length_eq
  have one_of:∀r∈us,∃g∈ts,r.2= [g]:=λr hr'=>by
   have:r.2∈us.map (·.2):=AD.mpr ⟨r,hr',rfl⟩
   rw[ets] at this
   obtain⟨g,hg,e⟩:=AD.mp this
   exact⟨g,hg,e.symm⟩
  refine⟨l5,rfl,⟨_,SqL.of hl5⟩,λD hD=>?_⟩
  refine ZB0 (xs:=ZBS us) (fr:= [some (.ref d)]) (λx v H'=>∃a' g,x=V.ref a'/\NmT H' a' g/\∃b c,v=V.ref b/\H' b=some (.tup [.ref a',.ref c])/\ZB4 H' c (grp (rs4.map trow) g)) (λx v H H' s h=>?_) D hD (ZAv (SqL.of hl5)) (bigl _ (by rw[AA];lia)) ?_ ?_
  ·obtain⟨a',g,e,hn,b,c,e2,hb,hc⟩:=h
   exact⟨a',g,e,s _ _ hn,b,c,e2,s _ _ hb,hc.ts s⟩
  ·intro x H5 Rr hx s5 hR5
   obtain⟨r,hr',rfl⟩:=AD.mp hx
   obtain⟨g,hg,eg⟩:=one_of r hr'
   have hn:NmT H4 r.1 g:=by have:=hus4 r hr';rw[eg] at this;exact this
   obtain⟨c,hget,hc⟩:=(hG4.same s5).at (s5 _ _ hn) (hts.mem_iff.mp hg)
   refine⟨_,rfl,_,rfl,_,rfl,d,V.ref c,rfl,hget,big _ (by simp),λb nb=>?_⟩
   have sb:=Same.new nb (.tup [V.ref r.1,V.ref c])
   exact hR5 _ _ sb ⟨r.1,g,rfl,(s5.trans sb) _ _ hn,b,c,rfl,ZAB,hc.ts sb.ts⟩
  ·intro H5 ys s5 hD5 hp5
   obtain⟨zs,e1,e2,e3⟩:=ZFL hp5
   subst e2
   have hzl:zs.length=us.length:=by rw[<-e1,AA]
   have hgz:∀z∈zs,∃g b c,z.1.2= [g]/\z.2=V.ref b/\H5 b=some (.tup [.ref z.1.1,.ref c])/\NmT H5 z.1.1 g/\ZB4 H5 c (grp (rs4.map trow) g):=λz hz'=>by
    obtain⟨a',g,ea,hn,b,c,eb,hb,hc⟩:=e3 z hz'
    injection ea with ea
    subst ea
    have hzu:z.1∈us:=by rw[<-e1];exact AD.mpr ⟨z,hz',rfl⟩
    obtain⟨g',_,eg'⟩:=one_of z.1 hzu
    have hn':NmT H5 z.1.1 g':=by have:=s5 _ _ (hus4 z.1 hzu);rw[eg'] at this;exact this
    rw[NmT.inj hn hn'] at hc hn
    exact⟨g',b,c,eg',eb,hb,hn,hc⟩
   let gz:(Tu×V)->Ez×E3×List E3:=λz=>((match z.2 with| .ref b=>b|_=>0),z.1.2.headD "",grp (rs4.map trow) (z.1.2.headD ""))
   have eD:zs.map (·.2)=(zs.map gz).map λz=>V.ref z.1:=by
    rw[AE]
    refine Ah λz hz'=>?_
    obtain⟨g,b,c,_,eb,_⟩:=hgz z hz'
    show z.2=V.ref (match z.2 with| .ref b=>b|_=>0)
    rw[eb]
   refine⟨D,_,rfl,.inl ⟨SqL.of hD5,λq2 nq2=>?_⟩⟩
   have s6:=Same.new nq2 (.tup (zs.map (·.2)))
   refine q q2 (rs4.map trow) ts _ ((((s3.trans s4).trans s5)).trans s6) hpR hrise (ZGp hts ndg ?_) (λg=>?_) ⟨zs.map gz,by rw[ZAB,eD],λz hz'=>?_,?_⟩
   ·have h2:(us.map (·.2)).Pairwise λa b=>HS.ltT b a=false:=Aa.mpr hst
    rw[ets,Aa] at h2
    exact h2.imp λ{a b} z=>by rw[<-ZIB];exact z
   ·rw[hts.mem_iff,hmem]
    constructor
    ·rintro⟨r,hr',e⟩;exact⟨r,hpR.mem_iff.mp hr',e⟩
    ·rintro⟨r,hr',e⟩;exact⟨r,hpR.mem_iff.mpr hr',e⟩
   ·obtain⟨y,hy,rfl⟩:=AD.mp hz'
    obtain⟨g,b,c,eg,eb,hb,hn,hc⟩:=hgz y hy
    have h1:(gz y).1=b:=by show(match y.2 with| .ref b=>b|_=>0)=b;rw[eb]
    have h2:(gz y).2.1=g:=by show y.1.2.headD ""=g;rw[eg];rfl
    have h3:(gz y).2.2=grp (rs4.map trow) g:=by show grp (rs4.map trow) (y.1.2.headD "")=_;rw[eg];rfl
    rw[h1,h2,h3]
    exact⟨y.1.1,c,s6 _ _ hb,s6 _ _ hn,hc.ts s6.ts⟩
   ·have h1:(zs.map gz).map (·.2)=(us.map (·.2)).map λu=>(u.headD "",grp (rs4.map trow) (u.headD "")):=by
     rw[<-e1,AE,AE,AE]
     rfl
    rw[h1,ets,AE]
    rfl
theorem ZMe {k:Nat}{C:Ez}(F:Fun K "with_row" "with_row" ZHv f fd)(G:Blt mg)(h0:ZA4 mg "FIRST" 0)(O:PyProof.Rows.OwnCls "Ring" C VE "ValueError.__new__" mg base)(hE:HasE P w K mg base "end_of" k ["rows","name"] (ZGf C))(hF:Has P w K mg base "flat" k ["rows"] ZDU):
  FnOk P w K mg base (CXE P w) (k+1) f fd ["rows","one","other"] (ZFs C):=by
 refine F.okE ZFB (λvs H Q E h=>?_) (λcdv A outer s H vs Q E hr h=>?_)
 ·obtain⟨a,b,c,R,one,other,rfl,_⟩:=h
  rfl
 obtain⟨a,b1,b2,R,one,other,rfl,hA,hone,hoth,hfl,hz,⟨ho1,ho2⟩,hother,qn,qy⟩:=h
 obtain⟨rs,ha,hrs,hR⟩:=id hA
 obtain⟨t0,m0⟩:=h0
 have hu:=ZA9 hr
 have hq8:=hu8 hr
 refine⟨_,ZAD (ZAL (i:=3) ZFB.nd rfl (Ag rfl) (ZIl (E:=E) hE hr (ZKo λ_ _ _ h=>h) rfl (ZAA (pv 0) (ZAA (pv 2) ZAC))))
  (ZAD (ZBc (ZAc (ZGu hq8) (pv 3) (pv 1) (ZAm _))
   (ZAH (ZDA (E:=E) rfl ZCQ O A6 rfl A6 rfl (ZAA (ZEB ZAu (ZKl hq8 hr.gd (pv 1))) ZAC))) ZAg)
  (ZAD (ZAL (i:=4) ZFB.nd rfl (Ag rfl) (ZAI ZAG rfl G.tuple boot_tuple (ZAA (ZAO (tt:=ZFq (tOp (rNeD K) (tOp (rIxT K) (tVar 0) (tC (.int 0))) (tVar 1))) (xs:= ["row"]) (ys:= ["one"]) (js:= [1]) rfl (by decide +kernel) (by decide +kernel) rfl (by decide +kernel) ⟨rfl,.inl rfl,rfl,trivial⟩
   (ZAp (pv 0)) (λ_ _ _ _ _=>ZAK (i:=0) nd2 rfl (Ag rfl) (.inr rfl)) (λ_ _ _ _ _=>ZBb (ZAc (ZIo (hu8 hr)) (ZAk ZAX (pv 0) (ZAQ rfl m0 (v:= .int 0) ⟨_,rfl⟩) λ_ _=>rfl) (pv 1) (ZAm _)))
   (λ_ _ _ _ _=>pv 0)) ZAC)))
  (ZAH (ZAT (ZAE hF hr rfl (ZAA (ZA7 ZCE (pv 4) (ZAt (ZAA (ZAt (ZAA (pv 1) (ZAA (pv 3) ZAC))) ZAC))) ZAC)))))),?_⟩
 have hlz:rs.length<63:=by rw[<-hR,AA] at hz;exact hz
 have hst:=hfl.stop other
 refine⟨_,rfl,_,rfl,a,b2,R,other,rfl,hA,hoth,hfl.nd,by lia,hother,λ_ ce H1 s1 hce=>?_,λh=>absurd hst.2 h⟩
 rw[hst.1] at hce
 generalize hen:(val R other).getD other=en at*
 have hve:val R en=none:=by rw[<-hst.1];exact hst.2
 refine⟨_,rfl,_,rfl,_,_,NmT.dat hce,NmT.dat (s1 _ _ hone),ZDJ _,_,rfl,?_⟩
 rw[ZED]
 by_cases c:en=one
 ·rw[decide_eq_true c]
  have hrep:(reprText one).length<=10*one.length+2:=StrLaws.reprText_len one ho2
  have l0:(B2++("by this it would lead to itself: ":E3)).length<=100:=by decide +kernel
  have l1:=ZCv one
  exact iteT ⟨_,rfl,big _ (by lia),_,rfl,b1,one,rfl,SqT.of (s1 _ _ hone),big _ (by lia),_,rfl,big _ (by rw[ZGY];lia),by simp,qn c H1 s1⟩
 ·rw[decide_eq_false c]
  refine iteF ⟨_,rfl,a,rfl,⟨_,SqT.of (s1 _ _ ha)⟩,λD hD=>?_⟩
  have hrs1:=hrs.ts s1.ts
  refine ZBM (rs:=rs) (λr=>V.ref r.1) (fr:= [some (.ref b1)]) (λr=>V.ref r.1) (λr=>decide ((trow r).1≠one)) D hD (ZAP (SqT.of (s1 _ _ ha))) (bigl _ (by lia)) ?_ ?_ ?_
  ·intro r H2 Rr hr' s2 hR2
   have hrow:=(hrs1 r hr').ts s2.ts
   refine⟨_,rfl,r.1,_,_,V.ref r.2.1.1,rfl,rfl,SqT.of hrow.1,rfl,_,rfl,_,_,NmT.dat hrow.2.1,NmT.dat ((s1.trans s2) _ _ hone),ZDJ _,_,rfl,?_⟩
   rw[ZED]
   have e:(!decide (r.2.1.2=one))=decide ((trow r).1≠one):=by
    show(!decide (r.2.1.2=one))=decide (r.2.1.2≠one)
    by_cases h:r.2.1.2=one
    ·simp[h]
    ·simp[h]
   rw[e]
   exact hR2 H2 (Same.refl _)
  ·intro r H2 Rr hr' _ s2 hR2
   exact⟨_,rfl,hR2 H2 (Same.refl _)⟩
  ·intro H2 s2 hD2
   have hrs2:=(hrs1.filter λr=>decide ((trow r).1≠one)).ts s2.ts
   have ef:((rs.filter λr=>decide ((trow r).1≠one)).map trow)=R.filter λr=>decide (r.1≠one):=by
    rw[ZCw rs λr=>decide (r.1≠one),hR]
   have hl2:(rs.filter λr=>decide ((trow r).1≠one)).length<=rs.length:=Ap _ _
   generalize (rs.filter λr=>decide ((trow r).1≠one))=rs2 at*
   refine⟨D,_,rfl,.inl ⟨SqL.of hD2,λl nl=>?_⟩⟩
   have sl:=Same.new nl (.tup (ZDc rs2))
   have hl:(upd H2 l (.tup (ZDc rs2)):Hp) l=some (.tup (ZDc rs2)):=ZAB
   generalize (upd H2 l (.tup (ZDc rs2)):Hp)=H3 at*
   refine⟨_,rfl,_,rfl,_,rfl,big _ (by simp),λb nb=>?_⟩
   have sb:=Same.new nb (.tup [V.ref b1,V.ref ce])
   refine⟨big _ (by simp),λc' nc=>?_⟩
   have sc:=Same.new nc (.tup [V.ref b])
   refine⟨l,c',_,_,rfl,rfl,(sb.trans sc) _ _ hl,ZAB,big _ (by rw[AA,Ai];lia),λp H4 s4 hp=>?_⟩
   have s14:=(((s2.trans sl).trans sb).trans sc).trans s4
   refine⟨p,ZBv R one en,rfl,⟨rs2++ [(b,(b1,one),(ce,en))],?_,λr hr'=>?_,?_⟩,ZE3 hfl.nd one en,?_,λp2 R' H5 s5 h5 hperm hrise=>?_⟩
   ·rw[hp];simp
   ·rcases AY.mp hr' with hr'|hr'
    ·exact(hrs2 r hr').ts (((sl.trans sb).trans sc).trans s4).ts
    ·rw[AF.mp hr']
     exact⟨(sc.trans s4) _ _ ZAB,(s1.trans s14) _ _ hone,s14 _ _ hce⟩
   ·rw[AX,ef]
    rfl
   ·unfold ZBv
    rw[<-ef,AW,AA,Ai]
    lia
   ·rw[ZGz hfl hve c] at hperm
    exact qy c p2 R' H5 ((s1.trans s14).trans s5) h5 hperm hrise
end
def spOr (a b:Sp):Sp:=λvs H Q E=>a vs H Q E\/b vs H Q E
theorem ZEk {P:E7}{w:FA}{K:AB}{mg:E3->Option E2}{base:E9}{CX:CXT}{k:Nat}{f:Ez}{fd:FJ}{ps:List E3}{a b:Sp}(h2:FnOk P w K mg base CX k f fd ps a)(h4:FnOk P w K mg base CX k f fd ps b):FnOk P w K mg base CX k f fd ps (spOr a b):=
 ⟨λvs H Q E h=>h.elim (h2.len vs H Q E) (h4.len vs H Q E),λA outer s H args us vs Q E hr he hbd hv h=>h.elim (h2.run A outer s H args us vs Q E hr he hbd hv) (h4.run A outer s H args us vs Q E hr he hbd hv)⟩
section
variable {P:E7}{w:FA}{K:AB}{mg:E3->Option E2}{base:E9}{x:E3}{k:Nat}{ps:List E3}{a b:Sp}
theorem ZBu (h:Has P w K mg base x k ps a)(i:∀vs H Q E,b vs H Q E->a vs H Q E):Has P w K mg base x k ps b:=by
 obtain⟨f,fd,F,bd,kp,m⟩:=h
 exact⟨f,fd,F.imp i,bd,kp,m⟩
theorem ZEG (h:HasE P w K mg base x k ps a)(i:∀vs H Q E,b vs H Q E->a vs H Q E):HasE P w K mg base x k ps b:=by
 obtain⟨f,fd,F,bd,kp,m⟩:=h
 exact⟨f,fd,F.imp i,bd,kp,m⟩
theorem ZDG (h:Has P w K mg base x k ps (spOr a b)):Has P w K mg base x k ps a:=ZBu h λ_ _ _ _ z=> .inl z
theorem ZG9 (h:Has P w K mg base x k ps (spOr a b)):Has P w K mg base x k ps b:=ZBu h λ_ _ _ _ z=> .inr z
theorem hasE_l (h:HasE P w K mg base x k ps (spOr a b)):HasE P w K mg base x k ps a:=ZEG h λ_ _ _ _ z=> .inl z
theorem hasE_r (h:HasE P w K mg base x k ps (spOr a b)):HasE P w K mg base x k ps b:=ZEG h λ_ _ _ _ z=> .inr z
end
theorem ZAl {α β γ:Type}{Q:α->β->Prop}{f:γ->α}{g:γ->β}:∀{l:List γ},(∀r∈l,Q (f r) (g r))->Paired Q (l.map f) (l.map g)
 | [],_=> .nil
 |r::l,h=> .cons (h r (AJ ..)) (ZAl λx hx=>h x (AL _ hx))
def NmG (t:Bool)(H:Hp)(x:E3)(v:V):Prop:=match t with
 |false=>v= .str x
 |true=>∃b,v= .ref b/\NmT H b x
inductive SeqG (t:Bool)(H:Hp)(p:Ez)(L:List E3):Prop
 |mk:∀vs,(H p=some (.tup vs))->(Paired (NmG t H) L vs)->SeqG t H p L
inductive RowG (t:Bool)(H:Hp)(r:Rw)(p:Ez):Prop
 |mk:∀v w,(H p=some (.tup [v,w]))->(NmG t H r.1 v)->(NmG t H r.2 w)->RowG t H r p
inductive ZBV (t:Bool)(H:Hp)(a:Ez)(R:List Rw):Prop
 |mk:∀(ps:List Ez),(H a=some (.tup (ps.map V.ref)))->(Paired (RowG t H) R ps)->ZBV t H a R
inductive ZCl (t:Bool)(H:Hp)(a:Ez)(T:List (List E3)):Prop
 |mk:∀(ps:List Ez),(H a=some (.tup (ps.map V.ref)))->(Paired (λL p=>SeqG t H p L) T ps)->ZCl t H a T
inductive ZE0 (t:Bool)(H:Hp)(a:Ez)(U:List (E3×List E3)):Prop
 |mk:∀(ps:List Ez),(H a=some (.tup (ps.map V.ref)))->(Paired (λu p=>∃v c,H p=some (.tup [v,V.ref c])/\NmG t H u.1 v/\SeqG t H c u.2) U ps)->ZE0 t H a U
section
variable {t:Bool}{H H':Hp}
theorem NmG.ts {x:E3}{v:V}(h:NmG t H x v)(s:TS' H H'):NmG t H' x v:=by
 cases t with
 |false=>exact h
 |true=>obtain⟨b,e,hb⟩:=h;exact⟨b,e,s _ _ hb⟩
theorem SeqG.ts {p:Ez}{L:List E3}(h:SeqG t H p L)(s:TS' H H'):SeqG t H' p L:=by
 obtain⟨vs,h1,h2⟩:=h
 exact⟨vs,s _ _ h1,L2.Paired.mapP h2 λ_ _ z=>z.ts s⟩
theorem RowG.ts {r:Rw}{p:Ez}(h:RowG t H r p)(s:TS' H H'):RowG t H' r p:=by
 obtain⟨v,w,h1,h2,h3⟩:=h
 exact⟨v,w,s _ _ h1,h2.ts s,h3.ts s⟩
theorem ZBV.ts {a:Ez}{R:List Rw}(h:ZBV t H a R)(s:TS' H H'):ZBV t H' a R:=by
 obtain⟨ps,h1,h2⟩:=h
 exact⟨ps,s _ _ h1,L2.Paired.mapP h2 λ_ _ z=>z.ts s⟩
theorem ZCl.ts {a:Ez}{T:List (List E3)}(h:ZCl t H a T)(s:TS' H H'):ZCl t H' a T:=by
 obtain⟨ps,h1,h2⟩:=h
 exact⟨ps,s _ _ h1,L2.Paired.mapP h2 λ_ _ z=>z.ts s⟩
theorem ZE0.ts {a:Ez}{U:List (E3×List E3)}(h:ZE0 t H a U)(s:TS' H H'):ZE0 t H' a U:=by
 obtain⟨ps,h1,h2⟩:=h
 exact⟨ps,s _ _ h1,L2.Paired.mapP h2 λ_ _ ⟨v,c,z1,z2,z3⟩=>⟨v,c,s _ _ z1,z2.ts s,z3.ts s⟩⟩
def nmD (t:Bool)(x:E3):Dat:=match t with
 |false=> .str x
 |true=> .tup [.str x]
theorem ZCb (t:Bool)(x:E3):Dat.deep (nmD t x)<=1:=by cases t<;>exact Nat.le_of_ble_eq_true rfl
variable {K:AB}
theorem NmG.dat {x:E3}{v:V}(h:NmG t H x v):ZAZ K H (nmD t x) v:=by
 cases t with
 |false=>exact h
 |true=>obtain⟨b,e,hb⟩:=h;subst e;exact NmT.dat hb
theorem ZBE {α β:Type}{Q:α->β->Prop}{f:α->Dat}{g:β->V}:∀{xs:List α} {ys:List β},Paired Q xs ys->(∀x y,Q x y->ZAZ K H (f x) (g y))->ZAr K H (xs.map f) (ys.map g)
 |_,_,.nil,_=>rfl
 |_,_,.cons h r,i=>⟨_,_,rfl,i _ _ h,ZBE r i⟩
theorem SeqG.dat {p:Ez}{L:List E3}(h:SeqG t H p L):ZAZ K H (.tup (L.map (nmD t))) (.ref p):=by
 obtain⟨vs,h1,h2⟩:=h
 have:=ZBE (K:=K) (H:=H) (f:=nmD t) (g:=id) h2 λ_ _ z=>z.dat
 rw[D4] at this
 exact⟨p,vs,rfl,SqT.of h1,this⟩
def rowD (t:Bool)(r:Rw):Dat:= .tup [nmD t r.1,nmD t r.2]
theorem RowG.dat {r:Rw}{p:Ez}(h:RowG t H r p):ZAZ K H (rowD t r) (.ref p):=by
 obtain⟨v,w,h1,h2,h3⟩:=h
 exact⟨p,_,rfl,SqT.of h1,_,_,rfl,h2.dat,_,_,rfl,h3.dat,rfl⟩
theorem ZBV.dat {a:Ez}{R:List Rw}(h:ZBV t H a R):ZAZ K H (.tup (R.map (rowD t))) (.ref a):=by
 obtain⟨ps,h1,h2⟩:=h
 exact⟨a,_,rfl,SqT.of h1,ZBE h2 λ_ _ z=>z.dat⟩
theorem ZCl.dat {a:Ez}{T:List (List E3)}(h:ZCl t H a T):ZAZ K H (.tup (T.map λL=> .tup (L.map (nmD t)))) (.ref a):=by
 obtain⟨ps,h1,h2⟩:=h
 exact⟨a,_,rfl,SqT.of h1,ZBE h2 λ_ _ z=>z.dat⟩
def ZOA (t:Bool)(u:E3×List E3):Dat:= .tup [nmD t u.1,.tup (u.2.map (nmD t))]
theorem ZE0.dat {a:Ez}{U:List (E3×List E3)}(h:ZE0 t H a U):ZAZ K H (.tup (U.map (ZOA t))) (.ref a):=by
 obtain⟨ps,h1,h2⟩:=h
 refine⟨a,_,rfl,SqT.of h1,ZBE h2 ?_⟩
 rintro u p ⟨v,c,z1,z2,z3⟩
 exact⟨p,_,rfl,SqT.of z1,_,_,rfl,z2.dat,_,_,rfl,z3.dat,rfl⟩
theorem ZMO (t:Bool)(L:List E3):Dat.deeps (L.map (nmD t))<=6:=As (ZAz λx _=>ZCb t x) (by decide)
theorem ZGj (t:Bool)(L:List E3):Dat.deeps (L.map (nmD t))<=1:=ZAz λx _=>ZCb t x
theorem ZGo (t:Bool)(r:Rw):Dat.deep (rowD t r)<=2:=by
 have h1:=ZCb t r.1
 have h2:=ZCb t r.2
 show max (Dat.deep (nmD t r.1)) (max (Dat.deep (nmD t r.2)) 0)+1<=2
 lia
theorem ZGl (t:Bool)(R:List Rw):Dat.deeps (R.map (rowD t))<=6:=As (ZAz λx _=>ZGo t x) (by decide)
theorem ZJg (t:Bool)(T:List (List E3)):Dat.deeps (T.map λL=>Dat.tup (L.map (nmD t)))<=6:=As (ZAz (n:=2) λL _=>by
 have:=ZGj t L
 show Dat.deeps (L.map (nmD t))+1<=2
 lia) (by decide)
theorem ZJ4 (t:Bool)(U:List (E3×List E3)):Dat.deeps (U.map (ZOA t))<=6:=As (ZAz (n:=3) λu _=>by
 have h1:=ZCb t u.1
 have h2:=ZGj t u.2
 show max (Dat.deep (nmD t u.1)) (max (Dat.deeps (u.2.map (nmD t))+1) 0)+1<=3
 lia) (by decide)
theorem ZD8 {a:Ez}{R:List Rw}(h:ZAx H a R):ZBV false H a R:=by
 obtain⟨rs,h1,h2,h3⟩:=h
 refine⟨rs.map (·.1),by rw[h1,AE];rfl,?_⟩
 rw[<-h3]
 exact ZAl λr hr=>⟨_,_,h2 r hr,rfl,rfl⟩
theorem ZGm {a:Ez}{R:List Rw}(h:ZBF H a R):ZBV true H a R:=by
 obtain⟨rs,h1,h2,h3⟩:=h
 refine⟨rs.map (·.1),by rw[h1,AE];rfl,?_⟩
 rw[<-h3]
 exact ZAl λr hr=>⟨_,_,(h2 r hr).1,⟨_,rfl,(h2 r hr).2.1⟩,⟨_,rfl,(h2 r hr).2.2⟩⟩
theorem ZBQ {a:Ez}{R:List Rw}(h:ZBV false H a R):ZAx H a R:=by
 obtain⟨ps,h1,h2⟩:=h
 have:∃rs:List (Ez×Rw),rs.map (·.1)=ps/\ZB3 H rs/\rs.map (·.2)=R:=by
  clear h1
  induction h2 with
  |nil=>exact⟨[],rfl,(λr hr=>by cases hr),rfl⟩
  |@cons r p R ps h _ ih=>
   obtain⟨rs,e1,e2,e3⟩:=ih
   obtain⟨v,w,k1,k2,k3⟩:=h
   refine⟨(p,r)::rs,by rw[AR,e1],λz hz=>?_,by rw[AR,e3]⟩
   rcases AQ.mp hz with rfl|hz
   ·show H p=some (.tup [V.str r.1,V.str r.2])
    rw[k1,show v=V.str r.1 from k2,show w=V.str r.2 from k3]
   ·exact e2 z hz
 obtain⟨rs,e1,e2,e3⟩:=this
 refine⟨rs,?_,e2,e3⟩
 rw[h1,<-e1,AE]
 rfl
theorem ZBI {a:Ez}{R:List Rw}(h:ZBV true H a R):ZBF H a R:=by
 obtain⟨ps,h1,h2⟩:=h
 have:∃rs:List TR,rs.map (·.1)=ps/\ZA8 H rs/\rs.map trow=R:=by
  clear h1
  induction h2 with
  |nil=>exact⟨[],rfl,(λr hr=>by cases hr),rfl⟩
  |@cons r p R ps h _ ih=>
   obtain⟨rs,e1,e2,e3⟩:=ih
   obtain⟨v,w,k1,⟨b,rfl,k2⟩,⟨c,rfl,k3⟩⟩:=h
   refine⟨(p,(b,r.1),(c,r.2))::rs,by rw[AR,e1],λz hz=>?_,by rw[AR,e3];rfl⟩
   rcases AQ.mp hz with rfl|hz
   ·exact⟨k1,k2,k3⟩
   ·exact e2 z hz
 obtain⟨rs,e1,e2,e3⟩:=this
 refine⟨rs,?_,e2,e3⟩
 rw[h1,<-e1,AE]
 rfl
theorem ZHu {p:Ez}{L:List E3}(h:H p=some (.tup (L.map V.str))):SeqG false H p L:=⟨_,h,by
 have:=ZAl (Q:=NmG false H) (f:=id) (g:=V.str) (l:=L) λ_ _=>rfl
 rw[D4] at this
 exact this⟩
theorem ZF4 {p:Ez}{L:List E3}(h:ZB4 H p L):SeqG true H p L:=by
 obtain⟨cs,h1,h2,h3⟩:=h
 refine⟨_,h1,?_⟩
 clear h1
 induction cs generalizing L with
 |nil=>
  have:L= []:=by have:=congrArg Ay h3;simp at this;exact EY.mp this.symm
  subst this
  exact .nil
 |cons c cs ih=>
  cases L with
  |nil=>simp at h3
  |cons x L=>
   simp only[AR,BC] at h3
   refine .cons ⟨c.1,rfl,?_⟩ (ih (λr hr=>h2 r (AL _ hr)) h3.2)
   have:=h2 c (AJ ..)
   rw[h3.1] at this
   exact this
theorem ZKU {p:Ez}{T:List (List E3)}(h:ZLv H p T):ZCl false H p T:=by
 obtain⟨rs,h1,h2,h3⟩:=h
 refine⟨rs.map (·.1),by rw[h1,AE];rfl,?_⟩
 rw[<-h3]
 exact ZAl λr hr=>ZHu (h2 r hr)
theorem ZJh {p:Ez}{T:List (List E3)}(h:ZIT H p T):ZCl true H p T:=by
 obtain⟨rs,h1,h2,h3⟩:=h
 refine⟨rs.map (·.1),by rw[h1,AE];rfl,?_⟩
 rw[<-h3]
 exact ZAl λr hr=>ZF4 (h2 r hr)
theorem ZMI {p:Ez}{U:List (E3×List E3)}(h:ZLu H p U):ZE0 false H p U:=by
 obtain⟨qs,h1,h2,h3⟩:=h
 refine⟨qs.map (·.1),by rw[h1,AE];rfl,?_⟩
 rw[<-h3]
 exact ZAl λr hr=>⟨_,_,(h2 r hr).1,rfl,ZHu (h2 r hr).2⟩
theorem ZJ5 {p:Ez}{U:List (E3×List E3)}(h:ZIR H p U):ZE0 true H p U:=by
 obtain⟨qs,h1,h2,h3⟩:=h
 refine⟨qs.map (·.1),by rw[h1,AE];rfl,?_⟩
 rw[<-h3]
 exact ZAl λr hr=>by
  obtain⟨b,c,k1,k2,k3⟩:=h2 r hr
  exact⟨_,_,k1,⟨b,rfl,k2⟩,ZF4 k3⟩
end
inductive ZJM (C:Ez)(t:Bool)(vs:List V)(H:Hp)(Q:VK)(E:XK):Prop
 |mk:∀(a:Ez) (v:V) (R:List Rw) (n:E3),(vs= [.ref a,v])->(ZBV t H a R)->(NmG t H n v)->((R.map (·.1)).Nodup)->(R.length<=1000)->(Txt1 n)->((val R (stop R n)=none->∀v' H',Same H H'->NmG t H' (stop R n) v'->Q v' H'))->((val R (stop R n)≠none->∀H',Same H H'->E (.ref C) none H'))->ZJM C t vs H Q E
def spEndG (C:Ez)(t:Bool):Sp:=λvs H Q E=>ZJM C t vs H Q E
inductive ZFi (t:Bool)(vs:List V)(H:Hp)(Q:VK):Prop
 |mk:∀(a:Ez) (v:V) (R:List Rw) (n:E3),(vs= [.ref a,v])->(ZBV t H a R)->(NmG t H n v)->((R.map (·.1)).Nodup)->(R.length<=1000)->(∀H',Same H H'->Q (.bl (val R (stop R n)).isSome) H')->ZFi t vs H Q
def ZMM (t:Bool):Sp:=λvs H Q _=>ZFi t vs H Q
inductive ZHc (t:Bool)(vs:List V)(H:Hp)(Q:VK):Prop
 |mk:∀(a:Ez) (R:List Rw),(vs= [.ref a])->(ZBV t H a R)->((R.map (·.1)).Nodup)->(R.length<64)->(∀p R' H',Same H H'->ZBV t H' p R'->R'.Perm (ZBL R)->Rise R'->Q (.ref p) H')->ZHc t vs H Q
def ZOK (t:Bool):Sp:=λvs H Q _=>ZHc t vs H Q
inductive ZEx (t:Bool)(vs:List V)(H:Hp)(Q:VK):Prop
 |mk:∀(a:Ez) (R:List Rw),(vs= [.ref a])->(ZBV t H a R)->((R.map (·.1)).Nodup)->(R.length<=1000)->(∀H',Same H H'->Q (.bl (!(R.any λr=>(val R r.2).isSome))) H')->ZEx t vs H Q
def ZKE (t:Bool):Sp:=λvs H Q _=>ZEx t vs H Q
inductive ZFe (t:Bool)(vs:List V)(H:Hp)(Q:VK):Prop
 |mk:∀(a:Ez) (R:List Rw),(vs= [.ref a])->(ZBV t H a R)->((R.map (·.1)).Nodup)->(R.length<60)->(∀(p:Ez) (T:List (List E3)) (H':Hp),Same H H'->ZCl t H' p T->ZDk R T->Q (.ref p) H')->ZFe t vs H Q
def ZML (t:Bool):Sp:=λvs H Q _=>ZFe t vs H Q
inductive ZJI (t:Bool)(vs:List V)(H:Hp)(Q:VK):Prop
 |mk:∀(a:Ez) (v:V) (R:List Rw) (n:E3),(vs= [.ref a,v])->(ZBV t H a R)->(NmG t H n v)->((R.map (·.1)).Nodup)->(R.length<64)->(∀(p:Ez) (R':List Rw) (H':Hp),Same H H'->R'.Perm (ZBL R)->Rise R'->SeqG t H' p ((R'.filter λr=>decide (r.2=n)).map (·.1))->Q (.ref p) H')->ZJI t vs H Q
def spLedG (t:Bool):Sp:=λvs H Q _=>ZJI t vs H Q
inductive ZEu (t:Bool)(vs:List V)(H:Hp)(Q:VK):Prop
 |mk:∀(a:Ez) (R:List Rw),(vs= [.ref a])->(ZBV t H a R)->((R.map (·.1)).Nodup)->(R.length<60)->(∀(p:Ez) (Rs:List Rw) (ts:List E3) (H':Hp),Same H H'->Rs.Perm R->Rise Rs->ts.Pairwise (λa b=>HS.ltS a b=true)->(∀g,g∈ts↔∃r∈R,r.2=g)->ZE0 t H' p (ts.map λg=>(g,grp Rs g))->Q (.ref p) H')->ZEu t vs H Q
def ZKC (t:Bool):Sp:=λvs H Q _=>ZEu t vs H Q
inductive ZHQ (C:Ez)(t:Bool)(vs:List V)(H:Hp)(Q:VK)(E:XK):Prop
 |mk:∀(a:Ez) (v1 v2:V) (R:List Rw) (one other:E3),(vs= [.ref a,v1,v2])->(ZBV t H a R)->(NmG t H one v1)->(NmG t H other v2)->(Flat R)->(R.length<63)->(Txt1 one)->(Txt1 other)->(((val R other).getD other=one->∀H',Same H H'->E (.ref C) none H'))->(((val R other).getD other≠one->∀p R' H',Same H H'->ZBV t H' p R'->R'.Perm (more R one ((val R other).getD other))->Rise R'->Q (.ref p) H'))->ZHQ C t vs H Q E
def ZOG (C:Ez)(t:Bool):Sp:=λvs H Q E=>ZHQ C t vs H Q E
section
variable {P:E7}{w:FA}{K:AB}{mg:E3->Option E2}{base:E9}{x:E3}{k:Nat}{ps:List E3}{C:Ez}
theorem g_end (t:Bool)(h:HasE P w K mg base x k ps (spOr (ZKF C) (ZGf C))):HasE P w K mg base x k ps (spEndG C t):=ZEG h λvs H Q E h=>by
 obtain⟨a,v,R,n,rfl,hA,hv,nd,hz,ht,q1,q2⟩:=h
 cases t with
 |false=>
  have e:v= .str n:=hv
  subst e
  exact .inl ⟨a,R,n,rfl,ZBQ hA,nd,hz,ht,λz H' s=>q1 z _ H' s rfl,q2⟩
 |true=>
  obtain⟨b,rfl,hb⟩:=hv
  exact .inr ⟨a,b,R,n,rfl,ZBI hA,hb,nd,hz,ht,λz c H' s hc=>q1 z _ H' s ⟨c,rfl,hc⟩,q2⟩
theorem ZO1 (t:Bool)(h:Has P w K mg base x k ps (spOr ZFy ZD5)):Has P w K mg base x k ps (ZMM t):=ZBu h λvs H Q E h=>by
 obtain⟨a,v,R,n,rfl,hA,hv,nd,hz,q⟩:=h
 cases t with
 |false=>
  have e:v= .str n:=hv
  subst e
  exact .inl ⟨a,R,n,rfl,ZBQ hA,nd,hz,q⟩
 |true=>
  obtain⟨b,rfl,hb⟩:=hv
  exact .inr ⟨a,b,R,n,rfl,ZBI hA,hb,nd,hz,q⟩
theorem ZNg (t:Bool)(h:Has P w K mg base x k ps (spOr ZE8 ZDU)):Has P w K mg base x k ps (ZOK t):=ZBu h λvs H Q E h=>by
 obtain⟨a,R,rfl,hA,nd,hz,q⟩:=h
 cases t with
 |false=>exact .inl ⟨a,R,rfl,ZBQ hA,nd,hz,λp R' H' s h1 h2 h3=>q p R' H' s (ZD8 h1) h2 h3⟩
 |true=>exact .inr ⟨a,R,rfl,ZBI hA,nd,hz,λp R' H' s h1 h2 h3=>q p R' H' s (ZGm h1) h2 h3⟩
theorem ZM8 (t:Bool)(h:Has P w K mg base x k ps (spOr ZD6 ZC5)):Has P w K mg base x k ps (ZKE t):=ZBu h λvs H Q E h=>by
 obtain⟨a,R,rfl,hA,nd,hz,q⟩:=h
 cases t with
 |false=>exact .inl ⟨a,R,rfl,ZBQ hA,nd,hz,q⟩
 |true=>exact .inr ⟨a,R,rfl,ZBI hA,nd,hz,q⟩
theorem ZO0 (t:Bool)(h:Has P w K mg base x k ps (spOr ZFv ZD4)):Has P w K mg base x k ps (ZML t):=ZBu h λvs H Q E h=>by
 obtain⟨a,R,rfl,hA,nd,hz,q⟩:=h
 cases t with
 |false=>exact .inl ⟨a,R,rfl,ZBQ hA,nd,hz,λp T H' s h1 h2=>q p T H' s (ZKU h1) h2⟩
 |true=>exact .inr ⟨a,R,rfl,ZBI hA,nd,hz,λp T H' s h1 h2=>q p T H' s (ZJh h1) h2⟩
theorem g_led (t:Bool)(h:Has P w K mg base x k ps (spOr ZIf ZIe)):Has P w K mg base x k ps (spLedG t):=ZBu h λvs H Q E h=>by
 obtain⟨a,v,R,n,rfl,hA,hv,nd,hz,q⟩:=h
 cases t with
 |false=>
  have e:v= .str n:=hv
  subst e
  exact .inl ⟨a,R,n,rfl,ZBQ hA,nd,hz,λp R' H' s h1 h2 h3=>q p R' H' s h1 h2 (ZHu h3)⟩
 |true=>
  obtain⟨b,rfl,hb⟩:=hv
  exact .inr ⟨a,b,R,n,rfl,ZBI hA,hb,nd,hz,λp R' H' s h1 h2 h3=>q p R' H' s h1 h2 (ZF4 h3)⟩
theorem ZM7 (t:Bool)(h:Has P w K mg base x k ps (spOr ZD3 ZC4)):Has P w K mg base x k ps (ZKC t):=ZBu h λvs H Q E h=>by
 obtain⟨a,R,rfl,hA,nd,hz,q⟩:=h
 cases t with
 |false=>exact .inl ⟨a,R,rfl,ZBQ hA,nd,hz,λp Rs ts H' s h1 h2 h3 h4 h5=>q p Rs ts H' s h1 h2 h3 h4 (ZMI h5)⟩
 |true=>exact .inr ⟨a,R,rfl,ZBI hA,nd,hz,λp Rs ts H' s h1 h2 h3 h4 h5=>q p Rs ts H' s h1 h2 h3 h4 (ZJ5 h5)⟩
theorem g_with (t:Bool)(h:HasE P w K mg base x k ps (spOr (ZIc C) (ZFs C))):HasE P w K mg base x k ps (ZOG C t):=ZEG h λvs H Q E h=>by
 obtain⟨a,v1,v2,R,one,other,rfl,hA,hv1,hv2,hf,hz,h1,h2,q1,q2⟩:=h
 cases t with
 |false=>
  have e1:v1= .str one:=hv1
  have e2:v2= .str other:=hv2
  subst e1 e2
  exact .inl ⟨a,R,one,other,rfl,ZBQ hA,hf,hz,h1,h2,q1,λz p R' H' s k1 k2 k3=>q2 z p R' H' s (ZD8 k1) k2 k3⟩
 |true=>
  obtain⟨b,rfl,hb⟩:=hv1
  obtain⟨c,rfl,hc⟩:=hv2
  exact .inr ⟨a,b,c,R,one,other,rfl,ZBI hA,hb,hc,hf,hz,h1,h2,q1,λz p R' H' s k1 k2 k3=>q2 z p R' H' s (ZGm k1) k2 k3⟩
end
end LW
namespace Mi
open PySem L2
def Mono (f:E3->E3)(N:List E3):Prop:=∀x∈N,∀y∈N,HS.ltS (f x) (f y)=HS.ltS x y
theorem Mono.inj {f:E3->E3}{N:List E3}(m:Mono f N){x y:E3}(hx:x∈N)(hy:y∈N)(e:f x=f y):x=y:=by
 have h1:=m x hx y hy
 have h2:=m y hy x hx
 rw[e,HS.ltS_irr] at h1 h2
 exact HS.ltS_tri h1.symm h2.symm
def InN (N:List E3)(R:List Rw):Prop:=∀r∈R,r.1∈N/\r.2∈N
def mapR (f:E3->E3)(R:List Rw):List Rw:=R.map λr=>(f r.1,f r.2)
section
variable {f:E3->E3}{N:List E3}
theorem Mono.lists (m:Mono f N):∀{a b:List E3},(∀x∈a,x∈N)->(∀x∈b,x∈N)->a.map f=b.map f->a=b
 | [],[],_,_,_=>rfl
 | [],_::_,_,_,e=>by simp at e
 |_::_,[],_,_,e=>by simp at e
 |x::a,y::b,ha,hb,e=>by
  simp only[AR,BC] at e
  rw[m.inj (ha x (AJ ..)) (hb y (AJ ..)) e.1,m.lists (λz hz=>ha z (AL _ hz)) (λz hz=>hb z (AL _ hz)) e.2]
theorem Mono.ltT (m:Mono f N):∀{a b:List E3},(∀x∈a,x∈N)->(∀x∈b,x∈N)->HS.ltT (a.map f) (b.map f)=HS.ltT a b
 |a,[],_,_=>by cases a<;>rfl
 | [],_::_,_,_=>rfl
 |x::a,y::b,ha,hb=>by
  have h1:=ha x (AJ ..)
  have h2:=hb y (AJ ..)
  have ih:=m.ltT (λz hz=>ha z (AL _ hz)) (λz hz=>hb z (AL _ hz))
  show(if f x=f y then HS.ltT (a.map f) (b.map f) else HS.ltS (f x) (f y))=(if x=y then HS.ltT a b else HS.ltS x y)
  rw[ih,m x h1 y h2]
  by_cases e:x=y
  ·rw[if_pos e,if_pos (by rw[e])]
  ·rw[if_neg e,if_neg λz=>e (m.inj h1 h2 z)]
theorem ZCG (m:Mono f N){P:List E3}{x:E3}(hP:∀y∈P,y∈N)(hx:x∈N):f x∈P.map f↔x∈P:=by
 constructor
 ·intro h
  obtain⟨y,hy,e⟩:=AD.mp h
  rw[<-m.inj (hP y hy) hx e]
  exact hy
 ·exactλh=>AD.mpr ⟨x,h,rfl⟩
theorem ZCp (m:Mono f N):∀{R:List Rw},InN N R->∀{x:E3},x∈N->val (mapR f R) (f x)=(val R x).map f
 | [],_,_,_=>rfl
 |r::R,h,x,hx=>by
  have ih:=ZCp m (R:=R) (λz hz=>h z (AL _ hz)) hx
  show val ((f r.1,f r.2)::mapR f R) (f x)=_
  rw[ZA5,ZA5,ih]
  by_cases e:r.1=x
  ·rw[if_pos e,if_pos (by rw[<-e])];rfl
  ·rw[if_neg e,if_neg λz=>e (m.inj (h r (AJ ..)).1 hx z)]
theorem ZIV {R:List Rw}(h:InN N R){x g:E3}(e:val R x=some g):g∈N:=(h _ (ZCo e)).2
theorem ZIb {R:List Rw}(h:InN N R):∀(k:Nat) (P:List E3) {x:E3},x∈N->ZBZ R k P x∈N
 |0,_,_,hx=>hx
 |k+1,P,x,hx=>by
  show(match val R x with|none=>x|some g=>if x∈P then x else ZBZ R k (P++ [x]) g)∈N
  cases e:val R x with
  |none=>exact hx
  |some g=>
   dsimp only
   by_cases c:x∈P
   ·rw[if_pos c];exact hx
   ·rw[if_neg c];exact ZIb h k _ (ZIV h e)
theorem ZB7 {R:List Rw}(h:InN N R){x:E3}(hx:x∈N):stop R x∈N:=ZIb h _ _ hx
theorem ZGe (m:Mono f N){R:List Rw}(h:InN N R):∀(k:Nat) (P:List E3) {x:E3},(∀y∈P,y∈N)->x∈N->ZBZ (mapR f R) k (P.map f) (f x)=f (ZBZ R k P x)
 |0,_,_,_,_=>rfl
 |k+1,P,x,hP,hx=>by
  show(match val (mapR f R) (f x) with|none=>f x|some g=>if f x∈P.map f then f x else ZBZ (mapR f R) k (P.map f++ [f x]) g)=f (match val R x with|none=>x|some g=>if x∈P then x else ZBZ R k (P++ [x]) g)
  rw[ZCp m h hx]
  cases e:val R x with
  |none=>rfl
  |some g=>
   show(if f x∈P.map f then f x else ZBZ (mapR f R) k (P.map f++ [f x]) (f g))=f (if x∈P then x else ZBZ R k (P++ [x]) g)
   by_cases c:x∈P
   ·rw[if_pos c,if_pos ((ZCG m hP hx).mpr c)]
   ·rw[if_neg c,if_neg λz=>c ((ZCG m hP hx).mp z)]
    have:=ZGe m h k (P++ [x]) (x:=g) (λy hy=>by
     rcases AY.mp hy with hy|hy
     ·exact hP y hy
     ·rw[AF.mp hy];exact hx) (ZIV h e)
    rw[AX] at this
    exact this
theorem ZEF (R:List Rw):(mapR f R).length=R.length:=AA ..
theorem ZBn (m:Mono f N){R:List Rw}(h:InN N R){x:E3}(hx:x∈N):stop (mapR f R) (f x)=f (stop R x):=by
 unfold stop
 rw[ZEF]
 exact ZGe m h _ [] (by simp) hx
theorem ZDm (m:Mono f N){R:List Rw}(h:InN N R){x:E3}(hx:x∈N):(val (mapR f R) (f x)).isSome=(val R x).isSome:=by rw[ZCp m h hx,Cd]
theorem ZBH (m:Mono f N){R:List Rw}(h:InN N R){x:E3}(hx:x∈N):(val (mapR f R) (f x)=none)↔val R x=none:=by rw[ZCp m h hx,Option.map_eq_none_iff]
theorem ZEl {R:List Rw}(h:InN N R):InN N (ZBL R):=λr hr=>by
 obtain⟨h1,_⟩:=Ao.mp hr
 obtain⟨z,hz,rfl⟩:=AD.mp h1
 exact⟨(h z hz).1,ZB7 h (h z hz).1⟩
theorem ZGR (m:Mono f N){R:List Rw}(h:InN N R):ZBL (mapR f R)=mapR f (ZBL R):=by
 unfold ZBL
 have e:((mapR f R).map λr=>(r.1,Mi.stop (mapR f R) r.1))=(R.map λr=>(r.1,Mi.stop R r.1)).map λr=>(f r.1,f r.2):=by
  rw[mapR,AE,AE]
  refine Ah λr hr=>?_
  show(f r.1,Mi.stop (mapR f R) (f r.1))=(f r.1,f (Mi.stop R r.1))
  rw[ZBn m h (h r hr).1]
 rw[e,Bb]
 unfold mapR
 congr 1
 refine Cm λr hr=>?_
 obtain⟨z,hz,rfl⟩:=AD.mp hr
 have:=ZCp m h (ZB7 h (h z hz).1)
 show(val (mapR f R) (f (Mi.stop R z.1))).isNone=(val R (Mi.stop R z.1)).isNone
 rw[this]
 cases val R (Mi.stop R z.1)<;>rfl
theorem ZMR (m:Mono f N){R:List Rw}(h:InN N R)(hr:Rise R):Rise (mapR f R):=by
 unfold Rise mapR
 rw[Aa]
 exact BU (λ{a b} ha hb z=>by rw[m a.1 (h a ha).1 b.1 (h b hb).1];exact z) hr
theorem ZDd {R R':List Rw}(h:InN N R)(p:R'.Perm R):InN N R':=λr hr=>h r (p.mem_iff.mp hr)
theorem ZCP (m:Mono f N){R A B:List Rw}(h:InN N R)(pA:A.Perm (mapR f R))(rA:Rise A)(pB:B.Perm R)(rB:Rise B):A=mapR f B:=by
 refine ZHz rA (ZMR m (ZDd h pB) rB) λr=>?_
 rw[pA.mem_iff,mapR,mapR,AD,AD]
 constructor
 ·rintro⟨z,hz,e⟩;exact⟨z,pB.mem_iff.mpr hz,e⟩
 ·rintro⟨z,hz,e⟩;exact⟨z,pB.mem_iff.mp hz,e⟩
theorem ZGw (m:Mono f N){R:List Rw}(h:InN N R)(nd:(R.map (·.1)).Nodup):((mapR f R).map (·.1)).Nodup:=by
 unfold List.Nodup at nd ⊢
 rw[mapR,AE,Aa]
 rw[Aa] at nd
 exact BU (λ{a b} ha hb z e=>z (m.inj (h a ha).1 (h b hb).1 e)) nd
theorem any_map (m:Mono f N){R:List Rw}(h:InN N R):((mapR f R).any λr=>(val (mapR f R) r.2).isSome)=R.any λr=>(val R r.2).isSome:=by
 have e:∀L:List Rw,(∀r∈L,r∈R)->((mapR f L).any λr=>(val (mapR f R) r.2).isSome)=L.any λr=>(val R r.2).isSome:=λL=>by
  induction L with
  |nil=>intro _;rfl
  |cons r L ih=>
   intro hL
   show((val (mapR f R) (f r.2)).isSome||(mapR f L).any λr=>(val (mapR f R) r.2).isSome)=((val R r.2).isSome||L.any λr=>(val R r.2).isSome)
   rw[ih λz hz=>hL z (AL _ hz),ZDm m h (h r (hL r (AJ ..))).2]
 exact e R λr hr=>hr
theorem ZIU (m:Mono f N){R:List Rw}(h:InN N R):∀(k:Nat) (P:List E3) {x:E3},(∀y∈P,y∈N)->x∈N->wayF (mapR f R) k (P.map f) (f x)=(wayF R k P x).map f/\∀y∈wayF R k P x,y∈N
 |0,P,x,hP,hx=>⟨by show P.map f++ [f x]=(P++ [x]).map f;rw[AX];rfl,λy hy=>by
   rcases AY.mp hy with hy|hy
   ·exact hP y hy
   ·rw[AF.mp hy];exact hx⟩
 |k+1,P,x,hP,hx=>by
  have hPx:∀y∈P++ [x],y∈N:=λy hy=>by
   rcases AY.mp hy with hy|hy
   ·exact hP y hy
   ·rw[AF.mp hy];exact hx
  have em:P.map f++ [f x]=(P++ [x]).map f:=by rw[AX];rfl
  show(match val (mapR f R) (f x) with|none=>P.map f++ [f x]|some g=>if f x∈P.map f then P.map f++ [f x] else wayF (mapR f R) k (P.map f++ [f x]) g)=(match val R x with|none=>P++ [x]|some g=>if x∈P then P++ [x] else wayF R k (P++ [x]) g).map f/\∀y∈(match val R x with|none=>P++ [x]|some g=>if x∈P then P++ [x] else wayF R k (P++ [x]) g),y∈N
  rw[ZCp m h hx,em]
  cases e:val R x with
  |none=>exact⟨rfl,hPx⟩
  |some g=>
   show(if f x∈P.map f then(P++ [x]).map f else wayF (mapR f R) k ((P++ [x]).map f) (f g))=(if x∈P then P++ [x] else wayF R k (P++ [x]) g).map f/\∀y∈(if x∈P then P++ [x] else wayF R k (P++ [x]) g),y∈N
   by_cases c:x∈P
   ·rw[if_pos c,if_pos ((ZCG m hP hx).mpr c)]
    exact⟨rfl,hPx⟩
   ·rw[if_neg c,if_neg λz=>c ((ZCG m hP hx).mp z)]
    exact ZIU m h k (P++ [x]) hPx (ZIV h e)
theorem idx_map (m:Mono f N){x:E3}(hx:x∈N):∀{L:List E3},(∀y∈L,y∈N)->(L.map f).idxOf (f x)=L.idxOf x
 | [],_=>rfl
 |y::L,h=>by
  rw[AR,C5,C5,idx_map m hx λz hz=>h z (AL _ hz)]
  by_cases e:y=x
  ·subst e;simp
  ·have e1:(f y==f x)=false:=by simpa usingλz=>e (m.inj (h y (AJ ..)) hx z)
   have e2:(y==x)=false:=by simpa using e
   rw[e1,e2]
theorem ZF8 (m:Mono f N){R:List Rw}(h:InN N R){x:E3}(hx:x∈N):ZAa (mapR f R) (f x)=(ZAa R x).map f/\∀y∈ZAa R x,y∈N:=by
 obtain⟨e,hin⟩:=ZIU m h (R.length+1) [] (x:=x) (by simp) hx
 have ew:way (mapR f R) (f x)=(way R x).map f:=by
  unfold way
  rw[ZEF]
  exact e
 have hw:∀y∈way R x,y∈N:=hin
 constructor
 ·unfold ZAa
  rw[ew,ZBn m h hx,idx_map m (ZB7 h hx) hw,<-CD,List.map_dropLast]
 ·intro y hy
  exact hw y (C3 ((List.dropLast_sublist _).subset hy))
theorem ZCk {b b':Nat->Nat->Bool}:∀(k:Nat),(∀i j,i<=k->j<=k->b i j=b' i j)->argBest b k=argBest b' k
 |0,_=>rfl
 |k+1,h=>by
  have ih:=ZCk k λi j hi hj=>h i j (by lia) (by lia)
  show(if b (k+1) (argBest b k) then k+1 else argBest b k)=(if b' (k+1) (argBest b' k) then k+1 else argBest b' k)
  rw[ih,h (k+1) (argBest b' k) (AK _) (Nat.le_succ_of_le (ZDj b' k))]
theorem min_map (m:Mono f N){L:List E3}(hL:∀y∈L,y∈N)(hne:L≠ []):minS (L.map f)=f (minS L):=by
 have hl:0<L.length:=BN.mpr hne
 have g1:∀i,i<L.length->(L.map f).getD i ""=f (L.getD i ""):=λi hi=>by
  rw[AT,AT,AS,AG hi]
  rfl
 have g2:∀i,i<L.length->L.getD i ""∈N:=λi hi=>by
  rw[AT,AG hi]
  exact hL _ (BJ hi)
 have e:argBest (λi j=>HS.ltS ((L.map f).getD i "") ((L.map f).getD j "")) ((L.map f).length-1)=argBest (λi j=>HS.ltS (L.getD i "") (L.getD j "")) (L.length-1):=by
  rw[AA]
  refine ZCk _ λi j hi hj=>?_
  rw[g1 i (by lia),g1 j (by lia),m _ (g2 i (by lia)) _ (g2 j (by lia))]
 unfold minS
 rw[e]
 have hb:=ZDj (λi j=>HS.ltS (L.getD i "") (L.getD j "")) (L.length-1)
 exact g1 _ (by lia)
theorem ZIv {L:List E3}(hL:∀y∈L,y∈N):∀y∈ZAq L,y∈N:=λy hy=>by
 unfold ZAq at hy
 rcases AY.mp hy with hy|hy
 ·exact hL y (C3 hy)
 ·exact hL y (Cz hy)
theorem ZLL (m:Mono f N){L:List E3}(hL:∀y∈L,y∈N)(hne:L≠ []):ZAq (L.map f)=(ZAq L).map f:=by
 unfold ZAq
 rw[min_map m hL hne,idx_map m (hL _ (ZGL hne)) hL,AX,CD,CU]
theorem ZCi (m:Mono f N){R:List Rw}(h:InN N R){g:E3}(hg:g∈N):((mapR f R).filter λr=>decide (r.2=f g)).map (·.1)=((R.filter λr=>decide (r.2=g)).map (·.1)).map f:=by
 unfold mapR
 rw[Bb,AE,AE]
 have e:(R.filter ((λr:Rw=>decide (r.2=f g))∘λr=>(f r.1,f r.2)))=R.filter λr=>decide (r.2=g):=by
  refine Cm λr hr=>?_
  show decide (f r.2=f g)=decide (r.2=g)
  by_cases c:r.2=g
  ·simp[c]
  ·rw[decide_eq_false c,decide_eq_false λz=>c (m.inj (h r hr).2 hg z)]
 rw[e]
 rfl
theorem ZIF (m:Mono f N){R:List Rw}(h:InN N R)(hf:Flat R):Flat (mapR f R):=⟨ZGw m h hf.nd,λr hr=>by
 obtain⟨z,hz,rfl⟩:=AD.mp hr
 exact(ZBH m h (h z hz).2).mpr (hf.no z hz)⟩
theorem ZGP (m:Mono f N){R:List Rw}(h:InN N R){x:E3}(hx:x∈N):(val (mapR f R) (f x)).getD (f x)=f ((val R x).getD x):=by
 rw[ZCp m h hx]
 cases val R x<;>rfl
theorem ZLW {R:List Rw}(h:InN N R){x:E3}(hx:x∈N):(val R x).getD x∈N:=by
 cases e:val R x with
 |none=>exact hx
 |some g=>exact ZIV h e
theorem ZMt (m:Mono f N){R:List Rw}(h:InN N R){one en:E3}(h1:one∈N):more (mapR f R) (f one) (f en)=mapR f (more R one en):=by
 unfold more mapR
 rw[Bb,AX,AE,AE]
 have e:(R.filter ((λr:Rw=>decide (r.1≠f one))∘λr=>(f r.1,f r.2)))=R.filter λr=>decide (r.1≠one):=by
  refine Cm λr hr=>?_
  show decide (f r.1≠f one)=decide (r.1≠one)
  by_cases c:r.1=one
  ·simp[c]
  ·rw[decide_eq_true (show r.1≠one from c),decide_eq_true (show f r.1≠f one fromλz=>c (m.inj (h r hr).1 h1 z))]
 rw[e]
 congr 1
 refine Ah λr hr=>?_
 have hr':=(Ao.mp hr).1
 show(f r.1,if f r.2=f one then f en else f r.2)=(f r.1,f (if r.2=one then en else r.2))
 by_cases c:r.2=one
 ·rw[if_pos c,if_pos (by rw[c])]
 ·rw[if_neg c,if_neg λz=>c (m.inj (h r hr').2 h1 z)]
theorem ZOo {R:List Rw}(h:InN N R){one en:E3}(h1:one∈N)(h2:en∈N):InN N (more R one en):=λr hr=>by
 unfold more at hr
 rcases AY.mp hr with hr|hr
 ·obtain⟨z,hz,rfl⟩:=AD.mp hr
  have hz':=(Ao.mp hz).1
  refine⟨(h z hz').1,?_⟩
  show(if z.2=one then en else z.2)∈N
  split
  ·exact h2
  ·exact(h z hz').2
 ·rw[AF.mp hr]
  exact⟨h1,h2⟩
end
end Mi
namespace LW
open PySem L2 Mi Co
def SIX:List E3:= ["a","b","c","d","e","f"]
theorem ZKe {D:List Rw}{n y:E3}(h:(D.map (·.1)).Nodup):((putS D n y).map (·.1)).Nodup:=by
 cases hv:val D n with
 |none=>
  rw[ZGB hv,AX,Aw]
  exact⟨h,by simp,λa ha b hb e=>by
   have:b=n:=by simpa using hb
   subst this
   subst e
   exact ZCU.mp hv ha⟩
 |some m=>rw[ZGr hv];exact h
theorem ZOT {N:List E3}{D:List Rw}{n y:E3}(h:InN N D)(hn:n∈N)(hy:y∈N):InN N (putS D n y):=λr hr=>by
 unfold putS at hr
 split at hr
 ·obtain⟨z,hz,rfl⟩:=AD.mp hr
  split
  ·exact⟨(h z hz).1,hy⟩
  ·exact h z hz
 ·rcases AY.mp hr with hr|hr
  ·exact h r hr
  ·rw[AF.mp hr];exact⟨hn,hy⟩
theorem ZG8 {D:List Rw}(h:InN SIX D)(nd:(D.map (·.1)).Nodup):D.length<=6:=by
 have:=ZBJ (P:=D.map (·.1)) (L:=SIX) nd λx hx=>by
  obtain⟨r,hr,rfl⟩:=AD.mp hx
  exact(h r hr).1
 rw[AA] at this
 exact this
inductive ZFc (K:AB)(vs:List V)(H:Hp)(Q:VK):Prop
 |mk:∀(a t:Ez) (ns:List Int) (zs:List V),(vs= [.ref a,.ref t])->(Scr K H a ns)->(ns.length<=63)->(H t=some (.lst zs))->(zs.length<40000)->(∀(p:Ez) (R:List Rw) (zs':List V) (H':Hp),H' t=some (.lst zs')->zs'.length<=zs.length+30->Stp t H H'->ZAx H' p R->(R.map (·.1)).Nodup->InN SIX R->Q (.ref p) H')->ZFc K vs H Q
def ZFu (K:AB):Sp:=λvs H Q _=>ZFc K vs H Q
section
variable {P:E7}{w:FA}{K:AB}{mg:E3->Option E2}{base:E9}{f:Ez}{fd:FJ}
theorem ZKN:ZAS ["_law_script","_law_town","_law_names","_law_found","_law_k"] ["_law_script","_law_town"] (ZAF ZC8):=⟨rfl,rfl,rfl,by decide +kernel,rfl,by decide +kernel,by decide +kernel⟩
def lstR:FD:=match(ZAM ZC8).getD 0 (.Pass ⟨0,0,0,0⟩) with
 | .Assign _ (.Tuple (e::_) _ _) _=>e
 |_=> .Constant .none 0 ⟨0,0,0,0⟩
def sForR:FS:=(ZAM ZC8).getD 1 (.Pass ⟨0,0,0,0⟩)
def sRetR:FS:=(ZAM ZC8).getD 2 (.Pass ⟨0,0,0,0⟩)
theorem ZOr:isLst lstR=true:=rfl
theorem ZLH:ZGd (ZNh lstR) SIX=true:=by decide +kernel
theorem pdR {X:Cx}{e:FD}(he:e=lstR):PE X e (λ_ H Q=>∀p,H p=none->Q (.ref p) (upd H p (.lst (SIX.map V.str)))):=ZMY (he▸ZOr) (he▸ZLH) (by decide)
theorem starR {e:FD}(he:e=lstR)(es:List FD)(env:Env):FG (e::es) env=(false,eval e env)::FG es env:=by subst he;rfl
def aR:FS:=(ZAM ZC8).getD 0 (.Pass ⟨0,0,0,0⟩)
theorem asR {cdv:E2}{A:FC}{outer:List Env}{s:E4}{H:Hp}{E:XK}:PS (cxOf CX0 P w K mg base ["_law_script","_law_town","_law_names","_law_found","_law_k"] "_law_rows" (ZAF ZC8) f cdv A outer s H E).nox aR (tPar 2 3 (ZAW (λ_ H Q=>∀p,H p=none->Q (.ref p) (upd H p (.lst (SIX.map V.str)))) (ZAW ZNQ tNil))):=by
 obtain⟨e1,he1⟩:∃e,e=lstR:=⟨_,rfl⟩
 have hb:∃(p1 p2 p3 p4 p5 p6:Pos) (k1 k2:Nat),aR= .Assign [.Tuple [.Name "_law_names" p1,.Name "_law_found" p2] k1 p3] (.Tuple [lstR,.Dict [] [] p4] k2 p5) p6/\swappedStores [.Tuple [.Name "_law_names" p1,.Name "_law_found" p2] k1 p3] (.Tuple [lstR,.Dict [] [] p4] k2 p5) (cxOf CX0 P w K mg base ["_law_script","_law_town","_law_names","_law_found","_law_k"] "_law_rows" (ZAF ZC8) f cdv A outer s H E).nox.env=pure (some [(A2 "_law_names"),(A2 "_law_found")])/\swapsWithSole [.Tuple [.Name "_law_names" p1,.Name "_law_found" p2] k1 p3] (.Tuple [lstR,.Dict [] [] p4] k2 p5) p6.line (cxOf CX0 P w K mg base ["_law_script","_law_town","_law_names","_law_found","_law_k"] "_law_rows" (ZAF ZC8) f cdv A outer s H E).nox.env=pure false:=⟨_,_,_,_,_,_,_,_,rfl,rfl,rfl⟩
 obtain⟨p1,p2,p3,p4,p5,p6,k1,k2,e,hw,hs⟩:=hb
 rw[e]
 rw[<-he1] at hw hs ⊢
 exact ZKh (i:=2) (j:=3) rfl ZKN.nd rfl rfl (by decide) rfl rfl (ZAA (pdR he1) (ZAA ZGF ZAC) (starR he1 _ _)) hw hs
theorem ZKz {k:Nat}(F:Fun K "_law_rows" "_law_rows" ZC8 f fd)(G:Blt mg)(hDraw:Has P w K mg base "_law_draw" k ["_law_script","_law_town","_law_many"] (ZE9 K))(hPick:Has P w K mg base "_law_pick" k ["_law_script","_law_town","_law_some"] (ZDo K)):
  FnOk P w K mg base CX0 (k+1) f fd ["_law_script","_law_town"] (ZFu K):=by
 refine F.ok ZKN (λvs H Q E h=>?_) (λcdv A outer s H vs Q E hr h=>?_)
 ·obtain⟨a,t,ns,zs,rfl,_⟩:=h
  rfl
 obtain⟨a,t,ns,zs,rfl,hS,h63,hT,hz,q⟩:=h
 have hu:=ZA9 hr
 have hbody:ZAM ZC8= [aR,sForR,sRetR]:=rfl
 rw[hbody]
 have pA:=asR (P:=P) (w:=w) (K:=K) (mg:=mg) (base:=base) (f:=f) (cdv:=cdv) (A:=A) (outer:=outer) (s:=s) (H:=H) (E:=E)
 refine⟨_,ZAD pA
  (ZAD (ZCK PassesOwn.never rfl (ZA6 rfl G.range (ZAA (ZAE hDraw hr rfl (ZAA (pv 0) (ZAA (pv 1) (ZAA ZAV ZAC)))) ZAC)) (ZAK (i:=4) ZKN.nd rfl (Ag rfl))
   (ZAH (ZB9 hu (pv 3) (ZAE hPick hr rfl (ZAA (pv 0) (ZAA (pv 1) (ZAA (pv 2) ZAC)))) (ZAE hPick hr rfl (ZAA (pv 0) (ZAA (pv 1) (ZAA (pv 2) ZAC)))) rfl)))
  (ZAH (ZAT (ZGs rfl rfl G.tuple (pv 3))))),?_⟩
 intro l nl
 have s1:=Same.new nl (.lst (SIX.map V.str))
 have hl1:(upd H l (.lst (SIX.map V.str)):Hp) l=some (.lst (SIX.map V.str)):=ZAB
 have hlt:l≠t:=λe=>by rw[<-e,nl] at hT;cases hT
 generalize (upd H l (.lst (SIX.map V.str)):Hp)=H1 at*
 intro d nd
 have s2:=Same.new nd (.dK [])
 have hd2:(upd H1 d (.dK []):Hp) d=some (.dK (dkOf [])):=ZAB
 have hH1d:=nd
 generalize (upd H1 d (.dK []):Hp)=H2 at*
 have s12:=s1.trans s2
 have hT2:=s12 _ _ hT
 have hl2:=s2 _ _ hl1
 have hdt:d≠t:=λe=>by rw[e,s1 _ _ hT] at hH1d;cases hH1d
 have hdl:d≠l:=λe=>by rw[e,hl1] at hH1d;cases hH1d
 refine⟨_,_,rfl,?_⟩
 refine⟨_,rfl,_,rfl,a,t,ns,zs,7,rfl,hS.same s12,h63,hT2,by lia,by decide,λm H3 hm0 hm1 hT3 st3=>?_⟩
 refine⟨m,rfl,by lia,by lia,?_⟩
 have hHd:H d=none:=by
  cases hh:H d with
  |none=>rfl
  |some o=>rw[s1 _ _ hh] at hH1d;cases hH1d
 have nine:∀x∈SIX.map V.str,∃n∈SIX,V.str n=x:=λx hx=>by
  obtain⟨n,h1,h2⟩:=AD.mp hx
  exact⟨n,h1,h2⟩
 refine ZBy (n:=m.toNat) (λj Z H'=>∃(v4:Option V) (R:List Rw) (zs':List V),Z= [some (.ref a),some (.ref t),some (.ref l),some (.ref d),v4]/\H' l=some (.lst (SIX.map V.str))/\H' d=some (.dK (dkOf R))/\H' t=some (.lst zs')/\zs'.length<=zs.length+1+2*j/\Stp t H H'/\(R.map (·.1)).Nodup/\InN SIX R)
  ⟨_,[],_,rfl,st3 _ _ hlt hl2,st3 _ _ hdt hd2,hT3,by simp,s12.stp.trans st3,BZ,(λr hr=>by cases hr)⟩ ?_ ?_
 ·rintro j Z H4 hj ⟨v4,R,zs4,rfl,hl4,hd4,hT4,hz4,st4,ndR,hin⟩
  have hS4:=hS.stp hT st4
  refine⟨_,rfl,_,rfl,_,rfl,a,t,ns,zs4,hS4,h63,hT4,by lia,.inl ⟨l,_,rfl,hl4,hlt,by decide,λy H5 hy hT5 st5=>?_⟩⟩
  obtain⟨g,hg,rfl⟩:=nine y hy
  have hS5:=hS4.stp hT4 st5
  have hl5:=st5 _ _ hlt hl4
  have hd5:=st5 _ _ hdt hd4
  refine⟨_,rfl,_,rfl,_,rfl,_,rfl,a,t,ns,_,hS5,h63,hT5,by simp;lia,.inl ⟨l,_,rfl,hl5,hlt,by decide,λx H6 hx hT6 st6=>?_⟩⟩
  obtain⟨n,hn,rfl⟩:=nine x hx
  have hl6:=st6 _ _ hlt hl5
  have hd6:=st6 _ _ hdt hd5
  have hRl:=ZG8 hin ndR
  refine⟨d,_,rfl,DPut.k (k:=AH n) hd6 (bigl _ (by unfold dkOf;rw[AA];lia)),?_⟩
  rw[ZNi]
  refine⟨_,putS R n g,_,rfl,by rw[ZAN hdl.symm];exact hl6,ZAB,by rw[ZAN hdt.symm];exact hT6,by simp;lia,λb o hb e=>?_,ZKe ndR,ZOT hin hn hg⟩
  have hbd:b≠d:=ZAJ e hHd
  rw[ZAN hbd]
  exact((st4.trans st5).trans st6) _ _ hb e
 ·rintro Z H4 ⟨v4,R,zs4,rfl,hl4,hd4,hT4,hz4,st4,ndR,hin⟩
  refine⟨_,rfl,d,_,rfl,hd4,λp as H5 s5 hp has hall=>?_⟩
  refine q p R zs4 H5 (s5 _ _ hT4) (by lia) (st4.trans s5.stp) ?_ ndR hin
  refine⟨(as.zip R).map λz=>(z.1.1,z.2),?_,λr hr'=>?_,?_⟩
  ·have hl:as.length=R.length:=by have:=congrArg Ay has;unfold dkOf at this;rw[AA,AA] at this;exact this
   have e1:(as.zip R).map (·.1)=as:=DL (by lia)
   rw[hp,refs,AE]
   conv=>lhs;rw[<-e1,AE]
   rfl
  ·obtain⟨z,hz',rfl⟩:=AD.mp hr'
   obtain⟨i,hi⟩:=Cq.mp hz'
   rw[Bk] at hi
   have h1:=congrArg (λl=>l[i]?) has
   simp only[AS,dkOf,hi.1,hi.2,Cy] at h1
   have h2:=hall z.1 (Az hi.1)
   rw[Aj h1] at h2
   exact h2
  ·have hl:as.length=R.length:=by have:=congrArg Ay has;unfold dkOf at this;rw[AA,AA] at this;exact this
   rw[AE]
   exact B7 (by lia)
def EndV (t:Bool)(H:Hp)(R:List Rw)(n:E3)(v:V):Prop:=(val R (stop R n)=none/\NmG t H (stop R n) v)\/(val R (stop R n)≠none/\v= .non)
def ZNK (t:Bool)(H:Hp)(R:List Rw)(one other:E3)(v:V):Prop:=((val R other).getD other=one/\v= .non)\/((val R other).getD other≠one/\∃p R',v= .ref p/\ZBV t H p R'/\R'.Perm (more R one ((val R other).getD other))/\Rise R')
theorem ZNK.ts {t:Bool}{H H':Hp}{R:List Rw}{one other:E3}{v:V}(h:ZNK t H R one other v)(s:TS' H H'):ZNK t H' R one other v:=h.imp id λ⟨z,p,R',e,h1,h2,h3⟩=>⟨z,p,R',e,h1.ts s,h2,h3⟩
inductive ZHa (t:Bool)(vs:List V)(H:Hp)(Q:VK):Prop
 |mk:∀(a:Ez) (v:V) (R:List Rw) (n:E3),(vs= [.ref a,v])->(ZBV t H a R)->(NmG t H n v)->((R.map (·.1)).Nodup)->(R.length<=1000)->(Txt1 n)->(∀v' H',Same H H'->EndV t H' R n v'->Q v' H')->ZHa t vs H Q
def ZHs (t:Bool):Sp:=λvs H Q _=>ZHa t vs H Q
theorem scLEnd:ZAS ["_law_rows_here","_law_name"] ["_law_rows_here","_law_name"] (ZAF ZJc):=⟨rfl,rfl,rfl,by decide +kernel,rfl,by decide +kernel,by decide +kernel⟩
theorem ZOe {k:Nat}{C:Ez}(F:Fun K "_law_end" "_law_end" ZJc f fd)(O:PyProof.Rows.OwnCls "Ring" C VE "ValueError.__new__" mg base)(hR:HasE P w K mg base "end_of" k ["rows","name"] (spOr (ZKF C) (ZGf C)))(t:Bool):
  FnOk P w K mg base CX0 (k+1) f fd ["_law_rows_here","_law_name"] (ZHs t):=by
 refine F.ok scLEnd (λvs H Q E h=>?_) (λcdv A outer s H vs Q E hr h=>?_)
 ·obtain⟨a,v,R,n,rfl,_⟩:=h
  rfl
 obtain⟨a,v,R,n,rfl,hA,hv,nd,hz,h1,q⟩:=h
 obtain⟨f',fd',F',b',k',m'⟩:=g_end t hR
 refine⟨_,ZAH (ZKg O rfl rfl rfl rfl (ZH2 F' hr rfl m' k' b' (λ_=>ZAA (pv 0) (ZAA (pv 1) ZAC))) (λ_ _=>ZAH (ZAT ZDp))),?_⟩
 exact⟨_,rfl,_,rfl,a,v,R,n,rfl,hA,hv,nd,hz,h1,λh v' H' s' hv'=>q v' H' s' (.inl ⟨h,hv'⟩),λh H' s'=>⟨rfl,q _ H' s' (.inr ⟨h,rfl⟩)⟩⟩
inductive ZFj (t:Bool)(vs:List V)(H:Hp)(Q:VK):Prop
 |mk:∀(a:Ez) (v1 v2:V) (R:List Rw) (one other:E3),(vs= [.ref a,v1,v2])->(ZBV t H a R)->(NmG t H one v1)->(NmG t H other v2)->(Flat R)->(R.length<63)->(Txt1 one)->(Txt1 other)->(∀v' H',Same H H'->ZNK t H' R one other v'->Q v' H')->ZFj t vs H Q
def ZFz (t:Bool):Sp:=λvs H Q _=>ZFj t vs H Q
theorem ZOP:ZAS ["_law_rows_here","_law_one","_law_other"] ["_law_rows_here","_law_one","_law_other"] (ZAF ZFH):=⟨rfl,rfl,rfl,by decide +kernel,rfl,by decide +kernel,by decide +kernel⟩
theorem ZMk {k:Nat}{C:Ez}(F:Fun K "_law_with" "_law_with" ZFH f fd)(O:PyProof.Rows.OwnCls "Ring" C VE "ValueError.__new__" mg base)(hR:HasE P w K mg base "with_row" k ["rows","one","other"] (spOr (ZIc C) (ZFs C)))(t:Bool):
  FnOk P w K mg base CX0 (k+1) f fd ["_law_rows_here","_law_one","_law_other"] (ZFz t):=by
 refine F.ok ZOP (λvs H Q E h=>?_) (λcdv A outer s H vs Q E hr h=>?_)
 ·obtain⟨a,v1,v2,R,one,other,rfl,_⟩:=h
  rfl
 obtain⟨a,v1,v2,R,one,other,rfl,hA,hv1,hv2,hf,hz,h1,h2,q⟩:=h
 obtain⟨f',fd',F',b',k',m'⟩:=g_with t hR
 refine⟨_,ZAH (ZKg O rfl rfl rfl rfl (ZH2 F' hr rfl m' k' b' (λ_=>ZAA (pv 0) (ZAA (pv 1) (ZAA (pv 2) ZAC)))) (λ_ _=>ZAH (ZAT ZDp))),?_⟩
 exact⟨_,rfl,_,rfl,_,rfl,a,v1,v2,R,one,other,rfl,hA,hv1,hv2,hf,hz,h1,h2,λh H' s'=>⟨rfl,q _ H' s' (.inl ⟨h,rfl⟩)⟩,λh p R' H' s' k1 k2 k3=>q _ H' s' (.inr ⟨h,p,R',rfl,k1,k2,k3⟩)⟩
inductive NewG (t:Bool)(f:E3->E3)(H:Hp)(d:Ez):Prop
 |mk:∀(kvs:List (Key×V)),(H d=some (.dK kvs))->(∀x∈SIX,∃v,valV kvs (AH x)=some v/\NmG t H (f x) v)->NewG t f H d
theorem NewG.same {t:Bool}{f:E3->E3}{H H':Hp}{d:Ez}(h:NewG t f H d)(s:Same H H'):NewG t f H' d:=by
 obtain⟨kvs,h1,h2⟩:=h
 exact⟨kvs,s _ _ h1,λx hx=>let⟨v,e1,e2⟩:=h2 x hx;⟨v,e1,e2.ts s.ts⟩⟩
theorem NewG.stp {t:Bool}{f:E3->E3}{H H':Hp}{d tw:Ez}{zs:List V}(h:NewG t f H d)(s:Stp tw H H')(ht:H tw=some (.lst zs)):NewG t f H' d:=by
 obtain⟨kvs,h1,h2⟩:=h
 exact⟨kvs,s _ _ (λe=>by rw[e,ht] at h1;cases h1) h1,λx hx=>let⟨v,e1,e2⟩:=h2 x hx;⟨v,e1,e2.ts (s.ts ht)⟩⟩
theorem NewG.get {t:Bool}{f:E3->E3}{H:Hp}{d:Ez}(h:NewG t f H d){x:E3}(hx:x∈SIX):∃v,DGet H d (.str x) (some v)/\NmG t H (f x) v:=by
 obtain⟨kvs,h1,h2⟩:=h
 obtain⟨v,e1,e2⟩:=h2 x hx
 have:=DGet.k (k:=AH x) h1
 rw[e1] at this
 exact⟨v,this,e2⟩
inductive ZHZ (t:Bool)(vs:List V)(H:Hp)(Q:VK):Prop
 |mk:∀(d a:Ez) (f:E3->E3) (R:List Rw),(vs= [.ref d,.ref a])->(NewG t f H d)->(ZAx H a R)->(InN SIX R)->(R.length<=1000)->(∀p H',Same H H'->ZBV t H' p (mapR f R)->Q (.ref p) H')->ZHZ t vs H Q
def ZF0 (t:Bool):Sp:=λvs H Q _=>ZHZ t vs H Q
end
def OV (H:Hp)(v:V)(o:Option (List E3)):Prop:=(o=none/\v= .non)\/∃x q,o=some x/\v= .ref q/\TupA H q x
theorem OV.ts {H H':Hp}{v:V}{o:Option (List E3)}(h:OV H v o)(s:TS' H H'):OV H' v o:=by
 rcases h with h|⟨x,q,e1,e2,hq⟩
 ·exact .inl h
 ·exact .inr ⟨x,q,e1,e2,s _ _ hq⟩
theorem OV.same {H H':Hp}{v:V}{o:Option (List E3)}(h:OV H v o)(s:Same H H'):OV H' v o:=h.ts s.ts
inductive ZHW (vs:List V)(H:Hp)(Q:VK):Prop
 |mk:∀(d:Ez) (v:V) (f:E3->E3) (o:Option (List E3)),(vs= [.ref d,v])->(NewG false f H d)->(OV H v o)->((∀u,o=some u->u.length<=1000/\∀y∈u,y∈SIX))->(∀v' H',Same H H'->OV H' v' (o.map λu=>u.map f)->Q v' H')->ZHW vs H Q
def ZB8:Sp:=λvs H Q _=>ZHW vs H Q
section
variable {P:E7}{w:FA}{K:AB}{mg:E3->Option E2}{base:E9}{f:Ez}{fd:FJ}
theorem scLPut:ZAS ["_law_new","_law_rows_here"] ["_law_new","_law_rows_here"] (ZAF ZJa):=⟨rfl,rfl,rfl,by decide +kernel,rfl,by decide +kernel,by decide +kernel⟩
theorem ndLP0:(["_law_one","_law_other","_law_new"]:List E3).Nodup:=by decide +kernel
theorem ZOc {k:Nat}(F:Fun K "_law_put" "_law_put" ZJa f fd)(G:Blt mg)(t:Bool):FnOk P w K mg base CX0 (k+1) f fd ["_law_new","_law_rows_here"] (ZF0 t):=by
 refine F.ok scLPut (λvs H Q E h=>?_) (λcdv A outer s H vs Q E hr h=>?_)
 ·obtain⟨d,a,g,R,rfl,_⟩:=h
  rfl
 obtain⟨d,a,g,R,rfl,hN,⟨rs,ha,hrs,hR⟩,hin,hz,q⟩:=h
 have hu:=ZA9 hr
 refine⟨_,(ZAH (ZAT (ZAI ZAG rfl G.tuple boot_tuple (ZAA (ZAO (te:=(tTup (ZAW (ZDz (tVar 2) (tVar 0)) (ZAW (ZDz (tVar 2) (tVar 1)) tNil)))) (xs:= ["_law_one","_law_other"]) (ys:= ["_law_new"]) (js:= [0]) (g:=(gTup K 2 (ZGQ (ZBg 0) (ZGQ (ZBg 1) gNil)))) rfl (by decide +kernel) (by decide +kernel) rfl (by decide +kernel) ⟨rfl,.inl rfl,rfl,trivial⟩
   (ZAp (pv 1)) (λ_ _ _ _ _=>(ZKk rfl (ZCa (ZAK (i:=0) ndLP0 rfl (Ag rfl) (.inr rfl)) (ZCa (ZAK (i:=1) ndLP0 rfl (Ag rfl) (.inr rfl)) ZH3)))) (λ_ _ _ _ _=>ZAb) (λ_ _ _ _ _=>(ZAt (ZAA (ZAe hu (pv 2) (pv 0) λ_ _=>rfl) (ZAA (ZAe hu (pv 2) (pv 1) λ_ _=>rfl) ZAC))))) ZAC)))),?_⟩
 have hlz:rs.length<=1000:=by rw[<-hR,AA] at hz;exact hz
 refine⟨_,rfl,a,rfl,⟨_,SqT.of ha⟩,λD hD=>?_⟩
 refine ZC0 (K:=K) (rs:=rs) (λr:Ez×Rw=>r.1) (λr=>V.str r.2.1) (λr=>V.str r.2.2) (fr:= [some (.ref d)]) (λr v H'=>∃b,v=V.ref b/\RowG t H' (g r.2.1,g r.2.2) b) (λr v H1 H2 s h=>let⟨b,e,hb⟩:=h;⟨b,e,hb.ts s⟩) (λ_=>true) D hD (ZAP (SqT.of ha)) (λr hr'=>hrs r hr') (bigl _ (by lia)) ?_ ?_ ?_
 ·intro r H2 Rr hr' s2 hR2
  exact hR2 H2 (Same.refl _)
 ·intro r H2 Rr hr' _ s2 hR2
  have hin':=hin r.2 (by rw[<-hR];exact AD.mpr ⟨r,hr',rfl⟩)
  obtain⟨v1,g1,n1⟩:=(hN.same s2).get hin'.1
  obtain⟨v2,g2,n2⟩:=(hN.same s2).get hin'.2
  refine⟨_,rfl,_,rfl,d,v1,rfl,g1,_,rfl,_,rfl,d,v2,rfl,g2,big _ (by simp),λb nb=>?_⟩
  have sb:=Same.new nb (.tup [v1,v2])
  exact hR2 _ _ sb ⟨b,rfl,v1,v2,ZAB,n1.ts sb.ts,n2.ts sb.ts⟩
 ·intro H2 ys s2 hD2 hp
  rw[Bx.mpr (λ_ _=>rfl)] at hp
  refine⟨D,_,rfl,.inl ⟨SqL.of hD2,λl nl=>?_⟩⟩
  have sl:=Same.new nl (.tup ys)
  refine q l _ (s2.trans sl) ?_
  have:∃ps:List Ez,ys=ps.map V.ref/\Paired (RowG t H2) (mapR g (rs.map (·.2))) ps:=by
   clear hD2 nl sl hlz ha hrs hR
   induction hp with
   |nil=>exact⟨[],rfl,.nil⟩
   |@cons r v rs ys h1 _ ih=>
    obtain⟨ps,e,hps⟩:=ih
    obtain⟨b,rfl,hb⟩:=h1
    exact⟨b::ps,by rw[AR,e],.cons hb hps⟩
  obtain⟨ps,rfl,hps⟩:=this
  rw[hR] at hps
  exact⟨ps,ZAB,L2.Paired.mapP hps λ_ _ z=>z.ts sl.ts⟩
theorem ZOO:ZAS ["_law_new","_law_address"] ["_law_new","_law_address"] (ZAF ZFG):=⟨rfl,rfl,rfl,by decide +kernel,rfl,by decide +kernel,by decide +kernel⟩
theorem ndLN0:(["_law_name","_law_new"]:List E3).Nodup:=by decide +kernel
theorem ZMj {k:Nat}(F:Fun K "_law_named" "_law_named" ZFG f fd)(G:Blt mg):FnOk P w K mg base CX0 (k+1) f fd ["_law_new","_law_address"] ZB8:=by
 refine F.ok ZOO (λvs H Q E h=>?_) (λcdv A outer s H vs Q E hr h=>?_)
 ·obtain⟨d,v,g,o,rfl,_⟩:=h
  rfl
 obtain⟨d,v,g,o,rfl,hN,hv,hz,q⟩:=h
 have hu:=ZA9 hr
 refine⟨_,(ZAH (ZAT (ZGE (ZBO (ZIm (pv 1))) ZDp (ZAI ZAG rfl G.tuple boot_tuple (ZAA (ZAO (te:=(ZDz (tVar 1) (tVar 0))) (xs:= ["_law_name"]) (ys:= ["_law_new"]) (js:= [0]) rfl (by decide +kernel) (by decide +kernel) rfl (by decide +kernel) ⟨rfl,.inl rfl,rfl,trivial⟩
   (ZAp (pv 1)) (λ_ _ _ _ _=>(ZAK (i:=0) ndLN0 rfl (Ag rfl) (.inr rfl))) (λ_ _ _ _ _=>ZAb) (λ_ _ _ _ _=>(ZAe hu (pv 1) (pv 0) λ_ _=>rfl))) ZAC))))),?_⟩
 refine⟨_,rfl,?_⟩
 rcases hv with⟨rfl,rfl⟩|⟨u,a,rfl,rfl,ha⟩
 ·exact⟨_,rfl,iteT (q _ H (Same.refl _) (.inl ⟨rfl,rfl⟩))⟩
 ·obtain⟨hlz,hin⟩:=hz u rfl
  refine⟨_,rfl,iteF ⟨_,rfl,a,rfl,⟨_,SqT.of ha⟩,λD hD=>?_⟩⟩
  refine ZBM (rs:=u) V.str (fr:= [some (.ref d)]) (λx=>V.str (g x)) (λ_=>true) D hD (ZAP (SqT.of ha)) (bigl _ (by lia)) ?_ ?_ ?_
  ·intro r H2 Rr hr' s2 hR2
   exact hR2 H2 (Same.refl _)
  ·intro x H2 Rr hx _ s2 hR2
   obtain⟨v1,g1,n1⟩:=(hN.same s2).get (hin x hx)
   have e:v1=V.str (g x):=n1
   subst e
   exact⟨_,rfl,_,rfl,d,_,rfl,g1,hR2 H2 (Same.refl _)⟩
  ·intro H2 s2 hD2
   rw[Bx.mpr (λ_ _=>rfl)] at hD2
   refine⟨D,_,rfl,.inl ⟨SqL.of hD2,λl nl=>?_⟩⟩
   have sl:=Same.new nl (.tup (u.map λx=>V.str (g x)))
   refine q _ _ (s2.trans sl) (.inr ⟨_,l,rfl,rfl,?_⟩)
   show upd H2 l (.tup (u.map λx=>V.str (g x))) l=some (.tup ((u.map g).map V.str))
   rw[ZAB,AE]
   rfl
end
end LW
namespace L2
open PySem PySem.Spec PyProof.Rows
section
variable {X:Cx}
def ZKa (K:AB):List V->Hp->VK->Prop:=λxs H Q=>∃p ys,xs= [.ref p]/\((SqL K H p ys/\∀l,H l=none->Q (.ref l) (upd H l (.tup ys)))\/(SqT K H p ys/\Q (.ref p) H))
inductive ZNu (K:AB)(x:V)(y:V)(H:Hp)(Q:VK):Prop
 |mk:∀d,(ZAZ K H d x)->(ZAZ K H d y)->(Dat.deep d<=6)->((∀i,d≠ .int i))->(Q (.bl false) H)->ZNu K x y H Q
def rNeX (K:AB):R2:=λx y H Q=>ZNu K x y H Q
theorem ZIn (hu:X.A.units+8<cLine):OpR X (Fh .NotEq) (rNeX X.K):=by
 intro pins s Z H x y v u Q I rx ry h
 obtain⟨d,h1,h2,h3,h4,q⟩:=h
 cases d with
 |non=>
  have e1:x= .non:=h1
  have e2:y= .non:=h2
  subst e1 e2
  exact ZJo pins s Z H _ _ v u Q I rx ry ⟨rfl,q⟩
 |int i=>exact absurd rfl (h4 i)
 |str z=>
  have e1:x= .str z:=h1
  have e2:y= .str z:=h2
  subst e1 e2
  refine ZJo pins s Z H _ _ v u Q I rx ry ⟨rfl,?_⟩
  rw[decide_eq_true rfl]
  exact q
 |tup ds=>
  have h3':Dat.deeps ds+1<=6:=h3
  exact ZEV hu pins s Z H x y v u Q I rx ry ⟨ds,h1,h2,by lia,q⟩
end
end L2
namespace LW
open PySem L2 Mi Co
theorem ZJf {f:E3->E3}{R:List Rw}{T1 T2:List (List E3)}(m:Mono f SIX)(h:InN SIX R)(h1:ZDk (mapR f R) T1)(h2:ZDk R T2):T1=T2.map λu=>u.map f:=by
 have hin:∀u∈T2,∀y∈u,y∈SIX:=λu hu y hy=>by
  obtain⟨r,hr,_,rfl⟩:=(h2.mem u).mp hu
  exact ZIv (ZF8 m h (h r hr).1).2 y hy
 refine ZFp h1.rise ?_ λu=>?_
 ·rw[Aa]
  exact BU (λ{a b} ha hb z=>by rw[m.ltT (hin a ha) (hin b hb)];exact z) h2.rise
 ·rw[h1.mem,AD]
  have key:∀r∈R,val R (stop R r.1)≠none->ZAq (ZAa (mapR f R) (f r.1))=(ZAq (ZAa R r.1)).map f:=λr hr hne=>by
   obtain⟨e,hi⟩:=ZF8 m h (h r hr).1
   obtain⟨L,_,eL,_⟩:=ZDZ hne
   rw[e,ZLL m hi (by rw[eL];exactλz=>nomatch z)]
  constructor
  ·rintro⟨r,hr,hne,rfl⟩
   obtain⟨z,hz,rfl⟩:=AD.mp hr
   have hne':val R (stop R z.1)≠none:=λe=>hne (by
    show val (mapR f R) (stop (mapR f R) (f z.1))=none
    rw[ZBn m h (h z hz).1]
    exact(ZBH m h (ZB7 h (h z hz).1)).mpr e)
   exact⟨_,(h2.mem _).mpr ⟨z,hz,hne',rfl⟩,(key z hz hne').symm⟩
  ·rintro⟨w,hw,rfl⟩
   obtain⟨z,hz,hne,rfl⟩:=(h2.mem w).mp hw
   refine⟨(f z.1,f z.2),AD.mpr ⟨z,hz,rfl⟩,λe=>hne ?_,(key z hz hne).symm⟩
   have e':val (mapR f R) (stop (mapR f R) (f z.1))=none:=e
   rw[ZBn m h (h z hz).1] at e'
   exact(ZBH m h (ZB7 h (h z hz).1)).mp e'
theorem ZMS {R:List Rw}{T:List (List E3)}(h:InN SIX R)(h2:ZDk R T):∀u∈T,∀y∈u,y∈SIX:=λu hu y hy=>by
 obtain⟨r,hr,_,rfl⟩:=(h2.mem u).mp hu
 have m:Mono id SIX:=λx _ y _=>rfl
 exact ZIv (ZF8 m h (h r hr).1).2 y hy
theorem ZHk {f:E3->E3}{R A B:List Rw}{ts us:List E3}(m:Mono f SIX)(h:InN SIX R)(pA:A.Perm (mapR f R))(rA:Rise A)(tA:ts.Pairwise λa b=>HS.ltS a b=true)(mA:∀g,g∈ts↔∃r∈mapR f R,r.2=g)
  (pB:B.Perm R) (rB:Rise B) (tB:us.Pairwise λa b=>HS.ltS a b=true) (mB:∀g,g∈us↔∃r∈R,r.2=g):
  (ts.map λg=>(g,grp A g))=(us.map λg=>(g,grp B g)).map λu=>(f u.1,u.2.map f):=by
 have eA:=ZCP m h pA rA pB rB
 have hus:∀g∈us,g∈SIX:=λg hg=>by
  obtain⟨r,hr,rfl⟩:=(mB g).mp hg
  exact(h r hr).2
 have et:ts=us.map f:=by
  refine ZOF tA ?_ λg=>?_
  ·rw[Aa]
   exact BU (λ{a b} ha hb z=>by rw[m a (hus a ha) b (hus b hb)];exact z) tB
  ·rw[mA,AD]
   constructor
   ·rintro⟨r,hr,rfl⟩
    obtain⟨z,hz,rfl⟩:=AD.mp hr
    exact⟨z.2,(mB _).mpr ⟨z,hz,rfl⟩,rfl⟩
   ·rintro⟨g',hg',rfl⟩
    obtain⟨z,hz,rfl⟩:=(mB g').mp hg'
    exact⟨(f z.1,f z.2),AD.mpr ⟨z,hz,rfl⟩,rfl⟩
 rw[et,eA,AE,AE]
 refine Ah λg hg=>?_
 show(f g,grp (mapR f B) (f g))=(f g,(grp B g).map f)
 unfold grp
 rw[ZCi m (ZDd h pB) (hus g hg)]
theorem ZLM (L:List E3):(ZAq L).length=L.length:=by
 unfold ZAq
 rw[AW,Bl,Ax]
 lia
theorem ZDb {α:Type}{Q:α->Ez->Prop}:∀{rs:List α} {ys:List V},Paired (λr v=>∃c,v=V.ref c/\Q r c) rs ys->∃ps:List Ez,ys=ps.map V.ref/\Paired Q rs ps
 |_,_,.nil=>⟨[],rfl,.nil⟩
 |_,_,.cons h r=>by
  obtain⟨ps,e,hp⟩:=ZDb r
  obtain⟨c,rfl,hc⟩:=h
  exact⟨c::ps,by rw[AR,e],.cons hc hp⟩
theorem ZBd {α β γ:Type}{Q:β->γ->Prop}{f:α->β}:∀{xs:List α} {ys:List γ},Paired (λx y=>Q (f x) y) xs ys->Paired Q (xs.map f) ys
 |_,_,.nil=> .nil
 |_,_,.cons h r=> .cons h (ZBd r)
theorem ZF5 {t:Bool}{f:E3->E3}{H:Hp}{L:List E3}{ys:List V}{l:Ez}(hp:Paired (λx v=>NmG t H (f x) v) L ys)(nl:H l=none):SeqG t (upd H l (.tup ys)) l (L.map f):=by
 refine⟨ys,ZAB,?_⟩
 have s:=(Same.new nl (.tup ys)).ts
 generalize (upd H l (.tup ys):Hp)=H' at s
 clear nl
 induction hp with
 |nil=>exact .nil
 |cons h _ ih=>exact .cons (h.ts s) ih
inductive ZFf (vs:List V)(H:Hp)(Q:VK):Prop
 |mk:∀(t:Bool) (a d:Ez) (f:E3->E3) (R:List Rw),(vs= [.ref a,.ref d])->(ZAx H a R)->((R.map (·.1)).Nodup)->(InN SIX R)->(NewG t f H d)->(Mono f SIX)->((∀x∈SIX,Txt1 x/\Txt1 (f x)))->(∀H',Same H H'->Q (.bl true) H')->ZFf vs H Q
def ZFw:Sp:=λvs H Q _=>ZFf vs H Q
theorem six_at {i c:Nat}(h:("abcdef":E3).cps[i]?=some c):(⟨#[c]⟩:E3)∈SIX:=by
 have:∀j<6,∀c,("abcdef":E3).cps[j]?=some c->(⟨#[c]⟩:E3)∈SIX:=by decide +kernel
 have hi:i<("abcdef":E3).cps.size:=(BR.mp h).1
 exact this i hi c h
theorem ZK8 (t:Bool)(x:E3):∀i,nmD t x≠ .int i:=λi e=>by cases t<;>cases e
theorem ZIN:("c":E3)∈SIX:=by decide +kernel
section
variable {P:E7}{w:FA}{K:AB}{mg:E3->Option E2}{base:E9}{f:Ez}{fd:FJ}
theorem ZC7:ZAS ["_law_rows_here","_law_new","_law_there","_law_some","_law_name","_law_end_here","_law_more"] ["_law_rows_here","_law_new"] (ZAF ZDW):=⟨rfl,rfl,rfl,by decide +kernel,rfl,by decide +kernel,by decide +kernel⟩
theorem ndMV0:(["_law_ring","_law_new"]:List E3).Nodup:=by decide +kernel
theorem ndMV1:(["_law_name","_law_new"]:List E3).Nodup:=by decide +kernel
theorem ndMV2:(["_law_goal","_law_ones","_law_new"]:List E3).Nodup:=by decide +kernel
theorem ndMV3:(["_law_one","_law_new"]:List E3).Nodup:=by decide +kernel
theorem ndMV4:(["_law_one","_law_new"]:List E3).Nodup:=by decide +kernel
theorem ZK1 {k:Nat}(F:Fun K "_law_moving_holds" "_law_moving_holds" ZDW f fd)(G:Blt mg)
  (hPut:∀t,Has P w K mg base "_law_put" k ["_law_new","_law_rows_here"] (ZF0 t)) (hFlat:Has P w K mg base "flat" k ["rows"] (spOr ZE8 ZDU)) (hIsFlat:Has P w K mg base "is_flat" k ["rows"] (spOr ZD6 ZC5)) (hRings:Has P w K mg base "rings" k ["rows"] (spOr ZFv ZD4)) (hTurned:Has P w K mg base "turned" k ["rows"] (spOr ZD3 ZC4))
  (hLeads:Has P w K mg base "leads_round" k ["rows","name"] (spOr ZFy ZD5)) (hLed:Has P w K mg base "led_to" k ["rows","name"] (spOr ZIf ZIe)) (hLEnd:∀t,Has P w K mg base "_law_end" k ["_law_rows_here","_law_name"] (ZHs t)) (hLWith:∀t,Has P w K mg base "_law_with" k ["_law_rows_here","_law_one","_law_other"] (ZFz t)):
  FnOk P w K mg base CX0 (k+1) f fd ["_law_rows_here","_law_new"] ZFw:=by
 refine F.ok ZC7 (λvs H Q E h=>?_) (λcdv A outer s H vs Q E hr h=>?_)
 ·obtain⟨t,a,d,g,R,rfl,_⟩:=h
  rfl
 obtain⟨t,a,d,g,R,rfl,hA,nd,hin,hN,mo,htx,q⟩:=h
 have hu:=ZA9 hr
 refine⟨_,(ZAD (ZKh (i:=2) (j:=3) rfl ZC7.nd rfl rfl (by decide) rfl rfl (ZAA (ZAE (hPut t) hr rfl (ZAA (pv 1) (ZAA (pv 0) ZAC))) (ZAA (ZAE (ZDG hFlat) hr rfl (ZAA (pv 0) ZAC)) ZAC)) rfl)
  (ZAD (ZBc (PW.pt (ZMV (ZAc (ZEV (hu8 hr)) (ZAE (ZNg t hFlat) hr rfl (ZAA (pv 2) ZAC)) (ZAE (hPut t) hr rfl (ZAA (pv 1) (ZAA (pv 3) ZAC))) (ZAm _)) (ZIg (ZAc ZJo (ZAE (ZM8 t hIsFlat) hr rfl (ZAA (pv 2) ZAC)) (ZAE (ZDG hIsFlat) hr rfl (ZAA (pv 0) ZAC)) (ZAm _))))) ZAo ZAg)
  (ZAD (ZBc (ZAc (ZEV (hu8 hr)) (ZAE (ZO0 t hRings) hr rfl (ZAA (pv 2) ZAC)) (ZAI ZAG rfl G.tuple boot_tuple (ZAA (ZAO (te:=(tCB (ZKa K) (ZAW (ZE7 (iTup K (tVar 0)) (ZBg 0) 1 [1] ZC3 (ZDz (tVar 1) (tVar 0))) tNil))) (xs:= ["_law_ring"]) (ys:= ["_law_new"]) (js:= [1]) rfl (by decide +kernel) (by decide +kernel) rfl (by decide +kernel) ⟨rfl,.inl rfl,rfl,trivial⟩
   (ZAp (ZAE (ZDG hRings) hr rfl (ZAA (pv 0) ZAC))) (λ_ _ _ _ _=>(ZAK (i:=0) ndMV0 rfl (Ag rfl) (.inr rfl))) (λ_ _ _ _ _=>ZAb) (λ_ _ _ _ _=>(ZAI ZAG rfl G.tuple boot_tuple (ZAA (ZAO (te:=(ZDz (tVar 1) (tVar 0))) (xs:= ["_law_name"]) (ys:= ["_law_new"]) (js:= [1]) rfl (by decide +kernel) (by decide +kernel) rfl (by decide +kernel) ⟨rfl,.inl rfl,rfl,trivial⟩
   (ZAp (pv 0)) (λ_ _ _ _ _=>(ZAK (i:=0) ndMV1 rfl (Ag rfl) (.inr rfl))) (λ_ _ _ _ _=>ZAb) (λ_ _ _ _ _=>(ZAe hu (pv 1) (pv 0) λ_ _=>rfl))) ZAC)))) ZAC)) (ZAm _)) ZAo ZAg)
  (ZAD (ZBc (ZAc (ZEV (hu8 hr)) (ZAE (ZM7 t hTurned) hr rfl (ZAA (pv 2) ZAC)) (ZAI ZAG rfl G.tuple boot_tuple (ZAA (ZAO (te:=(tTup (ZAW (ZDz (tVar 2) (tVar 0)) (ZAW (tCB (ZKa K) (ZAW (ZE7 (iTup K (tVar 1)) (ZBg 0) 1 [2] ZC3 (ZDz (tVar 1) (tVar 0))) tNil)) tNil)))) (xs:= ["_law_goal","_law_ones"]) (ys:= ["_law_new"]) (js:= [1]) (g:=(gTup K 2 (ZGQ (ZBg 0) (ZGQ (ZBg 1) gNil)))) rfl (by decide +kernel) (by decide +kernel) rfl (by decide +kernel) ⟨rfl,.inl rfl,rfl,trivial⟩
   (ZAp (ZAE (ZDG hTurned) hr rfl (ZAA (pv 0) ZAC))) (λ_ _ _ _ _=>(ZKk rfl (ZCa (ZAK (i:=0) ndMV2 rfl (Ag rfl) (.inr rfl)) (ZCa (ZAK (i:=1) ndMV2 rfl (Ag rfl) (.inr rfl)) ZH3)))) (λ_ _ _ _ _=>ZAb) (λ_ _ _ _ _=>(ZAt (ZAA (ZAe hu (pv 2) (pv 0) λ_ _=>rfl) (ZAA (ZAI ZAG rfl G.tuple boot_tuple (ZAA (ZAO (te:=(ZDz (tVar 1) (tVar 0))) (xs:= ["_law_one"]) (ys:= ["_law_new"]) (js:= [2]) rfl (by decide +kernel) (by decide +kernel) rfl (by decide +kernel) ⟨rfl,.inl rfl,rfl,trivial⟩
   (ZAp (pv 1)) (λ_ _ _ _ _=>(ZAK (i:=0) ndMV3 rfl (Ag rfl) (.inr rfl))) (λ_ _ _ _ _=>ZAb) (λ_ _ _ _ _=>(ZAe hu (pv 1) (pv 0) λ_ _=>rfl))) ZAC)) ZAC))))) ZAC)) (ZAm _)) ZAo ZAg)
  (ZAD (ZCK PassesOwn.never rfl (ZNU ZAu) (ZAK (i:=4) ZC7.nd rfl (Ag rfl))
   (ZAD (ZAL (i:=5) ZC7.nd rfl (Ag rfl) (ZAE (hLEnd false) hr rfl (ZAA (pv 0) (ZAA (pv 4) ZAC))))
   (ZAD (ZBc (ZAc (ZIn (hu8 hr)) (ZAE (hLEnd t) hr rfl (ZAA (pv 2) (ZAA (ZAe hu (pv 1) (pv 4) λ_ _=>rfl) ZAC))) (ZGE (ZBO (ZIm (pv 5))) ZDp (ZAe hu (pv 1) (pv 5) λ_ _=>rfl)) (ZAm _)) ZAo ZAg)
   (ZAD (ZBc (ZAc ZJo (ZAE (ZO1 t hLeads) hr rfl (ZAA (pv 2) (ZAA (ZAe hu (pv 1) (pv 4) λ_ _=>rfl) ZAC))) (ZAE (ZDG hLeads) hr rfl (ZAA (pv 0) (ZAA (pv 4) ZAC))) (ZAm _)) ZAo ZAg)
   (ZAD (ZBc (ZAc (ZEV (hu8 hr)) (ZAE (g_led t hLed) hr rfl (ZAA (pv 2) (ZAA (ZAe hu (pv 1) (pv 4) λ_ _=>rfl) ZAC))) (ZAI ZAG rfl G.tuple boot_tuple (ZAA (ZAO (te:=(ZDz (tVar 1) (tVar 0))) (xs:= ["_law_one"]) (ys:= ["_law_new"]) (js:= [1]) rfl (by decide +kernel) (by decide +kernel) rfl (by decide +kernel) ⟨rfl,.inl rfl,rfl,trivial⟩
   (ZAp (ZAE (ZDG hLed) hr rfl (ZAA (pv 0) (ZAA (pv 4) ZAC)))) (λ_ _ _ _ _=>(ZAK (i:=0) ndMV4 rfl (Ag rfl) (.inr rfl))) (λ_ _ _ _ _=>ZAb) (λ_ _ _ _ _=>(ZAe hu (pv 1) (pv 0) λ_ _=>rfl))) ZAC)) (ZAm _)) ZAo ZAg)
   (ZAD (ZAL (i:=6) ZC7.nd rfl (Ag rfl) (ZAE (hLWith false) hr rfl (ZAA (pv 3) (ZAA (pv 4) (ZAA ZAu ZAC)))))
   (ZAH (ZBc (ZAc (ZIn (hu8 hr)) (ZAE (hLWith t) hr rfl (ZAA (ZAE (ZNg t hFlat) hr rfl (ZAA (pv 2) ZAC)) (ZAA (ZAe hu (pv 1) (pv 4) λ_ _=>rfl) (ZAA (ZAe hu (pv 1) ZAu λ_ _=>rfl) ZAC)))) (ZGE (ZBO (ZIm (pv 6))) ZDp (ZAE (hPut t) hr rfl (ZAA (pv 1) (ZAA (pv 6) ZAC)))) (ZAm _)) ZAo ZAg))))))))
  (ZAH (ZAT ZJm))))))),?_⟩
 have hRl:=ZG8 hin nd
 have ndM:=ZGw mo hin nd
 have hMl:(mapR g R).length<=6:=by rw[ZEF];exact hRl
 refine⟨_,rfl,_,rfl,d,a,g,R,rfl,hN,hA,hin,by lia,λp1 H1 s1 hT1=>?_⟩
 refine⟨_,rfl,a,R,rfl,hA.same s1,nd,by lia,λp2 R2 H2 s2 hA2 hp2 hr2=>?_⟩
 refine⟨_,_,rfl,?_⟩
 have s02:=s1.trans s2
 have hT2:=hT1.ts s2.ts
 have hin2:=ZDd (ZEl hin) hp2
 have hf2:Flat R2:=ZO3 hp2 hr2
 have hR2l:R2.length<=6:=ZG8 hin2 hr2.nd
 --flat(there)!=put(new,some)
 refine⟨_,rfl,p1,mapR g R,rfl,hT2,ndM,by lia,λp3 R3 H3 s3 hA3 hp3 hr3=>?_⟩
 refine⟨_,rfl,_,rfl,d,p2,g,R2,rfl,hN.same (s02.trans s3),hA2.same s3,hin2,by lia,λp4 H4 s4 hA4=>?_⟩
 have e3:R3=mapR g R2:=ZCP mo (ZEl hin) (by rw[<-ZGR mo hin];exact hp3) hr3 hp2 hr2
 rw[e3] at hA3
 refine⟨_,(hA3.ts s4.ts).dat,hA4.dat,ZGl t _,_,rfl,iteF ?_⟩
 have s04:=(s02.trans s3).trans s4
 have s24:=s3.trans s4
 --is_flat
 refine⟨_,rfl,p1,mapR g R,rfl,hT2.ts s24.ts,ndM,by lia,λH5 s5=>?_⟩
 refine⟨_,rfl,a,R,rfl,hA.same (s04.trans s5),nd,by lia,λH6 s6=>?_⟩
 rw[any_map mo hin]
 refine⟨rfl,_,rfl,?_⟩
 rw[decide_eq_true rfl]
 refine iteF ?_
 have s06:=(s04.trans s5).trans s6
 have s26:=(s24.trans s5).trans s6
 --rings
 refine⟨_,rfl,p1,mapR g R,rfl,hT2.ts s26.ts,ndM,by lia,λp7 T7 H7 s7 hT7 hR7=>?_⟩
 refine⟨_,rfl,a,R,rfl,hA.same (s06.trans s7),nd,by lia,λp8 T8 H8 s8 hT8 hR8=>?_⟩
 have eT:=ZJf mo hin hR7 hR8
 have hTin:=ZMS hin hR8
 obtain⟨rs8,h81,h82,h83⟩:=hT8
 have hN8:=hN.same ((s06.trans s7).trans s8)
 have hT8l:T8.length<=1000:=by
  have ndT:T8.Nodup:=hR8.rise.imp λ{a b} z e=>by
   subst e
   have:=HS.ltT_tot _ _ z
   rw[z] at this
   cases this
  have:=ZBJ (P:=T8) (L:=R.map λr=>ZAq (ZAa R r.1)) ndT λu hu=>by
   obtain⟨r,hr',_,e⟩:=(hR8.mem u).mp hu
   exact AD.mpr ⟨r,hr',e.symm⟩
  rw[AA] at this
  lia
 have hrs8:rs8.length<=1000:=by rw[<-h83,AA] at hT8l;exact hT8l
 have hu8l:∀r∈rs8,r.2.length<=1000/\∀y∈r.2,y∈SIX:=λr hr'=>by
  have hm:r.2∈T8:=by rw[<-h83];exact AD.mpr ⟨r,hr',rfl⟩
  refine⟨?_,hTin _ hm⟩
  obtain⟨z,hz,hne,e⟩:=(hR8.mem _).mp hm
  obtain⟨L,_,eL,_,_,hLl⟩:=ZDZ hne
  have h1:(ZAq (ZAa R z.1)).length=(ZAa R z.1).length:=ZLM _
  rw[e,h1,eL,Ac]
  lia
 refine⟨p8,rfl,⟨_,SqT.of h81⟩,λD hD=>?_⟩
 refine ZAs (rs:=rs8) (λr=>V.ref r.1) (fr:= [some (.ref d)]) (λr v H'=>∃c,v=V.ref c/\SeqG t H' c (r.2.map g)) (λr v H1 H2 s h=>let⟨c,e,hc⟩:=h;⟨c,e,hc.ts s⟩) D hD (ZAP (SqT.of h81)) (bigl _ (by lia)) ?_ ?_
 ·intro r H9 Rr hr' s9 hR9
  have hr9:=s9 _ _ (h82 r hr')
  refine⟨_,rfl,r.1,rfl,⟨_,SqT.of hr9⟩,λD2 hD2=>?_⟩
  refine ZAs (rs:=r.2) V.str (fr:= [some (.ref d)]) (λx v H'=>NmG t H' (g x) v) (λx v H1 H2 s h=>h.ts s) D2 hD2 (ZAP (SqT.of hr9)) (bigl _ (by have:=(hu8l r hr').1;lia)) ?_ ?_
  ·intro x H10 Rx hx s10 hR10
   obtain⟨v1,g1,n1⟩:=(hN8.same (s9.trans s10)).get ((hu8l r hr').2 x hx)
   exact⟨_,rfl,_,rfl,d,v1,rfl,g1,hR10 v1 H10 (Same.refl _) n1⟩
  ·intro H10 ys s10 hD10 hp10
   refine⟨D2,ys,rfl,.inl ⟨SqL.of hD10,λl nl=>?_⟩⟩
   exact hR9 _ _ (s10.trans (Same.new nl _)) ⟨l,rfl,ZF5 hp10 nl⟩
 ·intro H9 ys s9 hD9 hp9
  refine⟨D,ys,rfl,.inl ⟨SqL.of hD9,λl nl=>?_⟩⟩
  have sl:=Same.new nl (.tup ys)
  have hB:ZCl t (upd H9 l (.tup ys)) l T7:=by
   obtain⟨ps,e,hps⟩:=ZDb (Q:=λ(r:Ez×List E3) c=>SeqG t H9 c (r.2.map g)) hp9
   subst e
   refine⟨ps,ZAB,?_⟩
   rw[eT,<-h83,AE]
   exact ZBd (f:=λr:Ez×List E3=>r.2.map g) (L2.Paired.mapP hps λ_ _ z=>z.ts sl.ts)
  have s79:=((s8.trans s9).trans sl)
  generalize (upd H9 l (.tup ys):Hp)=H11 at*
  refine⟨_,(hT7.ts s79.ts).dat,hB.dat,ZJg t _,_,rfl,iteF ?_⟩
  have s011:=(s06.trans s7).trans s79
  have s211:=(s26.trans s7).trans s79
  have hA11:=hA.same s011
  have hN11:=hN.same s011
  have hT11:=hT2.ts s211.ts
  have hA211:=hA2.same s211
  clear hB hp9 hD9 hD h81 h82 hT7 hA3 hA4
  --turned
  refine⟨_,rfl,p1,mapR g R,rfl,hT11,ndM,by lia,λp12 Rs12 ts12 H12 s12 hp12 hr12 ht12 hm12 hT12=>?_⟩
  refine⟨_,rfl,a,R,rfl,hA11.same s12,nd,by lia,λp13 Rs13 ts13 H13 s13 hp13 hr13 ht13 hm13 hT13=>?_⟩
  have eU:=ZHk mo hin hp12 hr12 ht12 hm12 hp13 hr13 ht13 hm13
  obtain⟨qs,h131,h132,h133⟩:=hT13
  have hN13:=hN11.same (s12.trans s13)
  have hqs:∀z∈qs,z.2.1∈SIX/\z.2.2.2.length<=1000/\∀y∈z.2.2.2,y∈SIX:=λz hz=>by
   have hm:(z.2.1,z.2.2.2)∈ts13.map λg=>(g,grp Rs13 g):=by rw[<-h133];exact AD.mpr ⟨z,hz,rfl⟩
   obtain⟨g',hg',e⟩:=AD.mp hm
   injection e with e1 e2
   obtain⟨r,hr',e3⟩:=(hm13 g').mp hg'
   refine⟨by rw[<-e1,<-e3];exact(hin r hr').2,?_,λy hy=>?_⟩
   ·rw[<-e2]
    unfold grp
    rw[AA]
    refine As (Ap _ _) ?_
    rw[hp13.length_eq]
    lia
   ·rw[<-e2] at hy
    obtain⟨r',hr2',e4⟩:=AD.mp hy
    rw[<-e4]
    exact(hin r' (hp13.mem_iff.mp (Ao.mp hr2').1)).1
  have hql:qs.length<=1000:=by
   have e:=congrArg Ay h133
   rw[AA,AA] at e
   have ndt:ts13.Nodup:=ht13.imp λ{a b} z e=>by subst e;rw[HS.ltS_irr] at z;cases z
   have:=ZBJ (P:=ts13) (L:=R.map (·.2)) ndt λx hx=>by
    obtain⟨r,hr',e⟩:=(hm13 x).mp hx
    exact AD.mpr ⟨r,hr',e⟩
   rw[AA] at this
   lia
  refine⟨p13,rfl,⟨_,SqT.of h131⟩,λD hD=>?_⟩
  refine ZC0 (K:=K) (rs:=qs) (λz=>z.1) (λz=>V.str z.2.1) (λz=>V.ref z.2.2.1) (fr:= [some (.ref d)]) (λz v H'=>∃c,v=V.ref c/\∃v1 c2,H' c=some (.tup [v1,V.ref c2])/\NmG t H' (g z.2.1) v1/\SeqG t H' c2 (z.2.2.2.map g)) (λz v H1 H2 s h=>let⟨c,e,v1,c2,k1,k2,k3⟩:=h;⟨c,e,v1,c2,s _ _ k1,k2.ts s,k3.ts s⟩) (λ_=>true) D hD (ZAP (SqT.of h131)) (λz hz=>(h132 z hz).1) (bigl _ (by lia)) ?_ ?_ ?_
  ·intro z H14 Rr hz s14 hR14
   exact hR14 H14 (Same.refl _)
  ·intro z H14 Rr hz _ s14 hR14
   obtain⟨v1,g1,n1⟩:=(hN13.same s14).get (hqs z hz).1
   have hz14:=s14 _ _ (h132 z hz).2
   refine⟨_,rfl,_,rfl,d,v1,rfl,g1,_,rfl,z.2.2.1,rfl,⟨_,SqT.of hz14⟩,λD2 hD2=>?_⟩
   refine ZAs (rs:=z.2.2.2) V.str (fr:= [some (.ref d)]) (λx v H'=>NmG t H' (g x) v) (λx v H1 H2 s h=>h.ts s) D2 hD2 (ZAP (SqT.of hz14)) (bigl _ (by have:=(hqs z hz).2.1;lia)) ?_ ?_
   ·intro x H15 Rx hx s15 hR15
    obtain⟨v2,g2,n2⟩:=(hN13.same (s14.trans s15)).get ((hqs z hz).2.2 x hx)
    exact⟨_,rfl,_,rfl,d,v2,rfl,g2,hR15 v2 H15 (Same.refl _) n2⟩
   ·intro H15 ys2 s15 hD15 hp15
    refine⟨D2,ys2,rfl,.inl ⟨SqL.of hD15,λl2 nl2=>?_⟩⟩
    have hs15:=ZF5 hp15 nl2
    have sl2:=Same.new nl2 (.tup ys2)
    generalize (upd H15 l2 (.tup ys2):Hp)=H16 at*
    refine⟨big _ (by simp),λb nb=>?_⟩
    have sb:=Same.new nb (.tup [v1,V.ref l2])
    exact hR14 _ _ ((s15.trans sl2).trans sb) ⟨b,rfl,v1,l2,ZAB,n1.ts ((s15.trans sl2).trans sb).ts,hs15.ts sb.ts⟩
  ·intro H14 ys2 s14 hD14 hp14
   rw[Bx.mpr (λ_ _=>rfl)] at hp14
   refine⟨D,ys2,rfl,.inl ⟨SqL.of hD14,λl2 nl2=>?_⟩⟩
   have sl2:=Same.new nl2 (.tup ys2)
   have hB:ZE0 t (upd H14 l2 (.tup ys2)) l2 (ts12.map λg=>(g,grp Rs12 g)):=by
    obtain⟨ps,e,hps⟩:=ZDb (Q:=λ(z:Ez×E3×Ez×List E3) c=>∃v1 c2,H14 c=some (.tup [v1,V.ref c2])/\NmG t H14 (g z.2.1) v1/\SeqG t H14 c2 (z.2.2.2.map g)) hp14
    subst e
    refine⟨ps,ZAB,?_⟩
    rw[eU,<-h133,AE]
    exact ZBd (f:=λz:Ez×E3×Ez×List E3=>(g z.2.1,z.2.2.2.map g)) (L2.Paired.mapP hps λ_ _ ⟨v1,c2,k1,k2,k3⟩=>⟨v1,c2,sl2.ts _ _ k1,k2.ts sl2.ts,k3.ts sl2.ts⟩)
   have s1214:=(s13.trans s14).trans sl2
   generalize (upd H14 l2 (.tup ys2):Hp)=H17 at*
   refine⟨_,(hT12.ts s1214.ts).dat,hB.dat,ZJ4 t _,_,rfl,iteF ?_⟩
   have s1117:=s12.trans s1214
   have s017:=s011.trans s1117
   have hA17:=hA11.same s1117
   have hN17:=hN11.same s1117
   have hT17:=hT11.ts s1117.ts
   have hA217:=hA211.same s1117
   clear hB hp14 hD14 h131 h132 hT12
   refine⟨_,rfl,?_⟩
   refine ZO2 (z:="abcdef") (λi Z H'=>∃v4 v5 v6:Option V,Z= [some (.ref a),some (.ref d),some (.ref p1),some (.ref p2),v4,v5,v6]/\Same H17 H') ⟨_,_,_,rfl,Same.refl _⟩ ?_ ?_
   ·rintro i c Z H18 hc ⟨v4,v5,v6,rfl,s18⟩
    have hx:=six_at hc
    generalize (⟨#[c]⟩:E3)=x at*
    obtain⟨tx1,tx2⟩:=htx x hx
    obtain⟨tc1,tc2⟩:=htx "c" ZIN
    refine⟨_,rfl,_,rfl,a,_,R,x,rfl,ZD8 (hA17.same s18),rfl,nd,by lia,tx1,λv5' H19 s19 hv5=>?_⟩
    have s1719:=s18.trans s19
    obtain⟨vx,gx,nx⟩:=(hN17.same s1719).get hx
    --the ends
    refine⟨_,rfl,_,rfl,_,rfl,d,vx,rfl,gx,p1,_,mapR g R,g x,rfl,hT17.ts s1719.ts,nx,ndM,by lia,tx2,λv7 H20 s20 hv7=>?_⟩
    have s1720:=s1719.trans s20
    have hN20:=hN17.same s1720
    obtain⟨dd,v8,hd1,hd2,hdp,hint,hif⟩:∃(dd:Dat) (v8:V),ZAZ K H20 dd v7/\ZAZ K H20 dd v8/\Dat.deep dd<=6/\(∀i,dd≠ .int i)/\∀Q:VK,Q v8 H20->(tIf (tB (tIsN (tVar 5))) (tC .non) (ZDz (tVar 1) (tVar 5))) [some (.ref a),some (.ref d),some (.ref p1),some (.ref p2),some (.str x),some v5',v6] H20 Q:=by
     rcases hv5 with⟨h1,h2⟩|⟨h1,rfl⟩
     ·have e5:v5'= .str (stop R x):=h2
      subst e5
      rcases hv7 with⟨h3,h4⟩|⟨h3,_⟩
      ·rw[ZBn mo hin hx] at h4
       obtain⟨v8,g8,n8⟩:=hN20.get (ZB7 hin hx)
       exact⟨_,v8,h4.dat,n8.dat,As (ZCb t _) (by decide),ZK8 t _,λQ hQ=>⟨_,rfl,_,rfl,iteF ⟨_,rfl,_,rfl,d,v8,rfl,g8,hQ⟩⟩⟩
      ·exact absurd (by rw[ZBn mo hin hx];exact(ZBH mo hin (ZB7 hin hx)).mpr h1) h3
     ·rcases hv7 with⟨h3,_⟩|⟨_,rfl⟩
      ·rw[ZBn mo hin hx] at h3
       exact absurd ((ZBH mo hin (ZB7 hin hx)).mp h3) h1
      ·exact⟨.non,.non,rfl,rfl,Aq _,(λi e=>by cases e),λQ hQ=>⟨_,rfl,_,rfl,iteT hQ⟩⟩
    refine hif _ ⟨dd,hd1,hd2,hdp,hint,_,rfl,iteF ?_⟩
    clear hif hd1 hd2
    --leads_round
    obtain⟨vx2,gx2,nx2⟩:=hN20.get hx
    refine⟨_,rfl,_,rfl,_,rfl,d,vx2,rfl,gx2,p1,vx2,mapR g R,g x,rfl,hT17.ts s1720.ts,nx2,ndM,by lia,λH21 s21=>?_⟩
    refine⟨_,rfl,_,rfl,a,R,x,rfl,hA17.same (s1720.trans s21),nd,by lia,λH22 s22=>?_⟩
    rw[ZBn mo hin hx,ZDm mo hin (ZB7 hin hx)]
    refine⟨rfl,_,rfl,?_⟩
    rw[decide_eq_true rfl]
    refine iteF ?_
    have s1722:=(s1720.trans s21).trans s22
    have hN22:=hN17.same s1722
    --led_to
    obtain⟨vx3,gx3,nx3⟩:=hN22.get hx
    refine⟨_,rfl,_,rfl,_,rfl,d,vx3,rfl,gx3,p1,vx3,mapR g R,g x,rfl,hT17.ts s1722.ts,nx3,ndM,by lia,λp23 R23 H23 s23 hp23 hr23 hS23=>?_⟩
    refine⟨_,rfl,_,rfl,a,R,x,rfl,hA17.same (s1722.trans s23),nd,by lia,λp24 R24 H24 s24 hp24 hr24 h24=>?_⟩
    have e23:R23=mapR g R24:=ZCP mo (ZEl hin) (by rw[<-ZGR mo hin];exact hp23) hr23 hp24 hr24
    have hin24:=ZDd (ZEl hin) hp24
    rw[e23,ZCi mo hin24 hx] at hS23
    have hL24:∀y∈(R24.filter λr=>decide (r.2=x)).map (·.1),y∈SIX:=λy hy=>by
     obtain⟨r,hr',rfl⟩:=AD.mp hy
     exact(hin24 r (Ao.mp hr').1).1
    have hl24:((R24.filter λr=>decide (r.2=x)).map (·.1)).length<=1000:=by
     rw[AA]
     have h1:=Ap (λr:Rw=>decide (r.2=x)) R24
     have h2:=ZG8 hin24 hr24.nd
     lia
    generalize ((R24.filter λr=>decide (r.2=x)).map (·.1))=L24 at*
    have s1724:=(s1722.trans s23).trans s24
    have hN24:=hN17.same s1724
    refine⟨p24,rfl,⟨_,SqT.of h24⟩,λD3 hD3=>?_⟩
    refine ZAs (rs:=L24) V.str (fr:= [some (.ref d)]) (λx v H'=>NmG t H' (g x) v) (λx v H1 H2 s h=>h.ts s) D3 hD3 (ZAP (SqT.of h24)) (bigl _ (by lia)) ?_ ?_
    ·intro y H25 Rx hy s25 hR25
     obtain⟨v2,g2,n2⟩:=(hN24.same s25).get (hL24 y hy)
     exact⟨_,rfl,_,rfl,d,v2,rfl,g2,hR25 v2 H25 (Same.refl _) n2⟩
    ·intro H25 ys3 s25 hD25 hp25
     refine⟨D3,ys3,rfl,.inl ⟨SqL.of hD25,λl3 nl3=>?_⟩⟩
     have hB:=ZF5 hp25 nl3
     have sl3:=Same.new nl3 (.tup ys3)
     generalize (upd H25 l3 (.tup ys3):Hp)=H26 at*
     have s2426:=s25.trans sl3
     refine⟨_,(hS23.ts (s24.trans s2426).ts).dat,hB.dat,ZMO t _,_,rfl,iteF ?_⟩
     have s1726:=s1724.trans s2426
     --a row more
     refine⟨_,rfl,_,rfl,p2,_,_,R2,x,"c",rfl,ZD8 (hA217.same s1726),rfl,rfl,hf2,by lia,tx1,tc1,λv6' H27 s27 hv6=>?_⟩
     have s1727:=s1726.trans s27
     have hN27:=hN17.same s1727
     refine⟨_,rfl,p1,mapR g R,rfl,hT17.ts s1727.ts,ndM,by lia,λp28 R28 H28 s28 hA28 hp28 hr28=>?_⟩
     have e28:R28=mapR g R2:=ZCP mo (ZEl hin) (by rw[<-ZGR mo hin];exact hp28) hr28 hp2 hr2
     subst e28
     have s1728:=s1727.trans s28
     obtain⟨vx4,gx4,nx4⟩:=(hN17.same s1728).get hx
     obtain⟨vc,gc,nc⟩:=(hN17.same s1728).get ZIN
     refine⟨_,rfl,_,rfl,d,vx4,rfl,gx4,_,rfl,d,vc,rfl,gc,p28,_,_,mapR g R2,g x,g "c",rfl,hA28,nx4,nc,ZIF mo hin2 hf2,by rw[ZEF];lia,tx2,tc2,λv29 H29 s29 hv29=>?_⟩
     have s1729:=s1728.trans s29
     have hN29:=hN17.same s1729
     have hv6':=hv6.ts (s28.trans s29).ts
     have hif:∀Q:VK,(∀dd v30 H30,Same H29 H30->ZAZ K H30 dd v29->ZAZ K H30 dd v30->Dat.deep dd<=6->(∀i,dd≠ .int i)->Q v30 H30)->(tIf (tB (tIsN (tVar 6))) (tC .non) (ZCM (ZF0 t) [] E0 (ZAW (tVar 1) (ZAW (tVar 6) tNil)))) [some (.ref a),some (.ref d),some (.ref p1),some (.ref p2),some (.str x),some v5',some v6'] H29 Q:=λQ hQ=>by
      rcases hv6' with⟨h1,rfl⟩|⟨h1,p30,R30,rfl,h2,h3,h4⟩
      ·rcases hv29 with⟨_,rfl⟩|⟨h5,_⟩
       ·exact⟨_,rfl,_,rfl,iteT (hQ .non .non H29 (Same.refl _) rfl rfl (Aq _) (λi e=>by cases e))⟩
       ·exact absurd (by rw[ZGP mo hin2 ZIN,h1]) h5
      ·rcases hv29 with⟨h5,_⟩|⟨_,p31,R31,rfl,h6,h7,h8⟩
       ·rw[ZGP mo hin2 ZIN] at h5
        exact absurd (mo.inj (ZLW hin2 ZIN) hx h5) h1
       ·rw[ZGP mo hin2 ZIN,ZMt mo hin2 hx] at h7
        have hinM:=ZOo hin2 hx (ZLW hin2 ZIN)
        have e31:=ZCP mo hinM h7 h8 h3 h4
        refine⟨_,rfl,_,rfl,iteF ⟨_,rfl,_,rfl,d,p30,g,R30,rfl,hN29,ZBQ h2,ZDd hinM h3,?_,λp32 H32 s32 h32=>?_⟩⟩
        ·have:=ZG8 (ZDd hinM h3) h4.nd;lia
        ·rw[e31] at h6
         exact hQ _ _ H32 s32 (h6.ts s32.ts).dat h32.dat (by have:=ZGl t (mapR g R30);show Dat.deeps _+1<=6;have h9:Dat.deeps ((mapR g R30).map (rowD t))<=2:=ZAz λx _=>ZGo t x;lia) (λi e=>by cases e)
     refine hif _ λdd v30 H30 s30 k1 k2 k3 k4=>⟨dd,k1,k2,k3,k4,_,rfl,iteF ?_⟩
     exact⟨_,_,_,rfl,s1729.trans s30⟩
   ·rintro Z H18 ⟨v4,v5,v6,rfl,s18⟩
    exact q H18 (s017.trans s18)
end
end LW
namespace Mi
open PySem L2
def AllN (N:List E3)(u:List E3):Prop:=∀y∈u,y∈N
def InRl (N:List E3)(R:List Rl):Prop:=∀r∈R,AllN N r.1/\AllN N r.2
def ZBt (f:E3->E3)(R:List Rl):List Rl:=R.map λr=>(r.1.map f,r.2.map f)
section
variable {f:E3->E3}{N:List E3}
theorem AllN.take {u:List E3}(h:AllN N u)(n:Nat):AllN N (u.take n):=λy hy=>h y (Cz hy)
theorem AllN.drop {u:List E3}(h:AllN N u)(n:Nat):AllN N (u.drop n):=λy hy=>h y (C3 hy)
theorem AllN.app {u v:List E3}(h:AllN N u)(h':AllN N v):AllN N (u++v):=λy hy=>(AY.mp hy).elim (h y) (h' y)
theorem map_eq_iff (m:Mono f N){u v:List E3}(hu:AllN N u)(hv:AllN N v):u.map f=v.map f↔u=v:=⟨m.lists hu hv,λe=>by rw[e]⟩
theorem ZM9 (m:Mono f N){a:List E3}{r:Rl}(ha:AllN N a)(hr:AllN N r.1):fits (a.map f) (r.1.map f,r.2.map f)=fits a r:=by
 unfold fits
 rw[AA,<-CU]
 by_cases e:a.take r.1.length=r.1
 ·rw[decide_eq_true e,e,decide_eq_true rfl]
 ·rw[decide_eq_false e,decide_eq_false λz=>e ((map_eq_iff m (ha.take _) hr).mp z)]
theorem ZI2 (m:Mono f N){a:List E3}(ha:AllN N a):∀{R:List Rl},InRl N R->best (a.map f) (ZBt f R)=(best a R).map λr=>(r.1.map f,r.2.map f)
 | [],_=>rfl
 |r::R,h=>by
  have ih:=ZI2 m ha (R:=R) λz hz=>h z (AL _ hz)
  have hf:=ZM9 m ha (r:=r) (h r (AJ ..)).1
  show best (a.map f) ((r.1.map f,r.2.map f)::ZBt f R)=_
  unfold best
  rw[ih,hf]
  cases best a R with
  |none=>
   show(if fits a r=true then some (r.1.map f,r.2.map f) else none)=_
   by_cases c:fits a r=true
   ·rw[if_pos c,if_pos c];rfl
   ·rw[if_neg c,if_neg c];rfl
  |some q=>
   show(if fits a r=true/\(q.1.map f).length<=(r.1.map f).length then some (r.1.map f,r.2.map f) else some (q.1.map f,q.2.map f))=((if fits a r=true/\q.1.length<=r.1.length then some r else some q).map λr=>(r.1.map f,r.2.map f))
   rw[AA,AA]
   by_cases c:fits a r=true/\q.1.length<=r.1.length
   ·rw[if_pos c,if_pos c];rfl
   ·rw[if_neg c,if_neg c];rfl
theorem ZEE (m:Mono f N){a:List E3}(ha:AllN N a){R:List Rl}(h:InRl N R):ZAy (ZBt f R) (a.map f)=(ZAy R a).map λu=>u.map f:=by
 unfold ZAy
 rw[ZI2 m ha h]
 cases best a R with
 |none=>rfl
 |some r=>
  show some (r.2.map f++(a.map f).drop (r.1.map f).length)=some ((r.2++a.drop r.1.length).map f)
  rw[AA,AX,CD]
theorem ZGI {a:List E3}(ha:AllN N a){R:List Rl}(h:InRl N R){x:List E3}(e:ZAy R a=some x):AllN N x:=by
 unfold ZAy at e
 cases hb:best a R with
 |none=>rw[hb] at e;cases e
 |some r=>
  rw[hb] at e
  obtain rfl:=Aj e
  exact((h r (ZBk hb).1).2).app (ha.drop _)
theorem ZLK (m:Mono f N){R:List Rl}(h:InRl N R):∀(n:Nat) {a:List E3},AllN N a->ledN n (ZBt f R) (a.map f)=(ledN n R a).map λu=>u.map f
 |0,a,ha=>by
  have e:=ZEE m ha h
  cases ho:ZAy R a with
  |none=>
   rw[ho] at e
   rw[ZBG ho,ZBG e]
   rfl
  |some b=>
   rw[ho] at e
   rw[ZDE ho,ZDE e]
   rfl
 |n+1,a,ha=>by
  have e:=ZEE m ha h
  cases ho:ZAy R a with
  |none=>
   rw[ho] at e
   rw[ZBG ho,ZBG e]
   rfl
  |some b=>
   rw[ho] at e
   rw[ZDF ho,ZDF e]
   exact ZLK m h n (ZGI ha h ho)
theorem ZNd {R:List Rl}(h:InRl N R):∀(n:Nat) {a x:List E3},AllN N a->ledN n R a=some x->AllN N x
 |0,a,x,ha,e=>by
  cases ho:ZAy R a with
  |none=>rw[ZBG ho] at e;obtain rfl:=Aj e;exact ha
  |some b=>rw[ZDE ho] at e;cases e
 |n+1,a,x,ha,e=>by
  cases ho:ZAy R a with
  |none=>rw[ZBG ho] at e;obtain rfl:=Aj e;exact ha
  |some b=>rw[ZDF ho] at e;exact ZNd h n (ZGI ha h ho) e
theorem ZMT (m:Mono f N){R:List Rl}(h:InRl N R){b:List E3}(hb:AllN N b):rest (ZBt f R) (b.map f)=ZBt f (rest R b):=by
 unfold rest ZBt
 rw[Bb]
 congr 1
 refine Cm λr hr=>?_
 show(!decide (r.1.map f=b.map f))= !decide (r.1=b)
 by_cases e:r.1=b
 ·rw[decide_eq_true e,e,decide_eq_true rfl]
 ·rw[decide_eq_false e,decide_eq_false λz=>e ((map_eq_iff m (h r hr).1 hb).mp z)]
theorem ZKW {R:List Rl}(h:InRl N R)(b:List E3):InRl N (rest R b):=λr hr=>h r (ZGA.mp hr).1
theorem ZGx (m:Mono f N){R:List Rl}(h:InRl N R){r:Rl}(hr:r∈R):ZCF (ZBt f R) (r.1.map f,r.2.map f)=ZCF R r:=by
 unfold ZCF
 rw[ZMT m h (h r hr).1,ZEE m (h r hr).1 (ZKW h _)]
 cases ho:ZAy (rest R r.1) r.1 with
 |none=>rfl
 |some x=>
  have hx:=ZGI (h r hr).1 (ZKW h _) ho
  show decide (some (x.map f)=some (r.2.map f))=decide (some x=some r.2)
  by_cases e:x=r.2
  ·rw[e,decide_eq_true rfl,decide_eq_true rfl]
  ·rw[decide_eq_false (show¬some (x.map f)=some (r.2.map f) fromλz=>e ((map_eq_iff m hx (h r hr).2).mp (Aj z))),decide_eq_false (show¬some x=some r.2 fromλz=>e (Aj z))]
theorem ZMw (m:Mono f N){R:List Rl}(h:InRl N R)(nd:(R.map (·.1)).Nodup):((ZBt f R).map (·.1)).Nodup:=by
 unfold List.Nodup at nd ⊢
 rw[ZBt,AE,Aa]
 rw[Aa] at nd
 exact BU (λ{a b} ha hb z e=>z (m.lists (h a ha).1 (h b hb).1 e)) nd
theorem ZGy (m:Mono f N){R:List Rl}(h:InRl N R){A B:List (List E3)}(rA:A.Pairwise λa b=>HS.ltT a b=true)(mA:∀u,u∈A↔∃r∈ZBt f R,ZCF (ZBt f R) r=true/\r.1=u)
  (rB:B.Pairwise λa b=>HS.ltT a b=true) (mB:∀u,u∈B↔∃r∈R,ZCF R r=true/\r.1=u):A=B.map λu=>u.map f:=by
 have hB:∀u∈B,AllN N u:=λu hu=>by
  obtain⟨r,hr,_,rfl⟩:=(mB u).mp hu
  exact(h r hr).1
 refine ZFp rA ?_ λu=>?_
 ·rw[Aa]
  exact BU (λ{a b} ha hb z=>by rw[m.ltT (hB a ha) (hB b hb)];exact z) rB
 ·rw[mA,AD]
  constructor
  ·rintro⟨r,hr,hn,rfl⟩
   obtain⟨z,hz,rfl⟩:=AD.mp hr
   rw[ZGx m h hz] at hn
   exact⟨z.1,(mB _).mpr ⟨z,hz,hn,rfl⟩,rfl⟩
  ·rintro⟨v,hv,rfl⟩
   obtain⟨z,hz,hn,rfl⟩:=(mB v).mp hv
   exact⟨(z.1.map f,z.2.map f),AD.mpr ⟨z,hz,rfl⟩,by rw[ZGx m h hz];exact hn,rfl⟩
def ZBK (f:E3->E3)(c:Cl):Cl:={c with ad:=c.ad.map f}
def InCl (N:List E3)(L:List Cl):Prop:=∀c∈L,AllN N c.ad
theorem max_map (m:Mono f N){L:List Cl}(h:InCl N L){c:Cl}(hc:c∈L):ZB5 (L.map (ZBK f)) (ZBK f c)↔ZB5 L c:=by
 constructor
 ·rintro⟨_,h2⟩
  exact⟨hc,λd hd e=>h2 (ZBK f d) (AD.mpr ⟨d,hd,rfl⟩) (by show d.ad.map f=c.ad.map f;rw[e])⟩
 ·rintro⟨h1,h2⟩
  refine⟨AD.mpr ⟨c,h1,rfl⟩,λd hd e=>?_⟩
  obtain⟨z,hz,rfl⟩:=AD.mp hd
  exact h2 z hz (m.lists (h z hz) (h c hc) e)
theorem ZNO {L A:List Cl}(h:InCl N L)(t:Tog L A):InCl N A:=λc hc=>h c ((t.mem c).mp hc).1
theorem ZOC (m:Mono f N){L A B:List Cl}(h:InCl N L)(tA:Tog (L.map (ZBK f)) A)(tB:Tog L B):A=B.map (ZBK f):=by
 have hB:=ZNO h tB
 refine cl_eq tA.rise ?_ λc=>?_
 ·rw[Aa]
  exact BU (λ{a b} ha hb z=>by show HS.ltT (a.ad.map f) (b.ad.map f)=true;rw[m.ltT (hB a ha) (hB b hb)];exact z) tB.rise
 ·rw[tA.mem,AD]
  constructor
  ·intro hm
   obtain⟨z,hz,rfl⟩:=AD.mp hm.1
   exact⟨z,(tB.mem z).mpr ((max_map m h hz).mp hm),rfl⟩
  ·rintro⟨z,hz,rfl⟩
   have:=(tB.mem z).mp hz
   exact(max_map m h this.1).mpr this
theorem ZKK (L:List Cl)(n:Int):(L.map (ZBK f)).filter (λc=>decide (n<c.ck))=(L.filter λc=>decide (n<c.ck)).map (ZBK f):=by
 rw[Bb]
 rfl
theorem ZKr (L:List Cl)(n:Int):((L.map (ZBK f)).filter λc=>decide (c.nm=n)).map (·.ad)=((L.filter λc=>decide (c.nm=n)).map (·.ad)).map λu=>u.map f:=by
 rw[Bb,AE,AE]
 rfl
end
end Mi
namespace LW
open PySem L2 Mi Co
structure DRp (p:List E3->Prop)(n:Nat)(H:Hp)(kvs:List (List Key×V))(us:List (List E3)):Prop where
 keys:kvs.map (·.1)=us.map λt=>t.map AH
 nd:us.Nodup
 len:us.length<=n
 all:∀u∈us,p u
 vals:∀z∈kvs,∃q v,z.2= .ref q/\TupA H q v/\p v
theorem DRp.ts {p:List E3->Prop}{n:Nat}{H H':Hp}{kvs:List (List Key×V)}{us:List (List E3)}(h:DRp p n H kvs us)(t:TS' H H'):DRp p n H' kvs us:=⟨h.keys,h.nd,h.len,h.all,λz hz=>let⟨q,v,e,hq,hl⟩:=h.vals z hz;⟨q,v,e,t _ _ hq,hl⟩⟩
theorem DRp.put {p:List E3->Prop}{n:Nat}{H:Hp}{kvs:List (List Key×V)}{us:List (List E3)}(h:DRp p n H kvs us){u v:List E3}{q:Ez}(hu:p u)(hq:TupA H q v)(hv:p v):∃us',DRp p (n+1) H (putK kvs (u.map AH) (.ref q)) us':=by
 refine⟨_,ZCZ h.keys,?_,?_,λx hx=>?_,λz hz=>?_⟩
 ·split
  ·exact h.nd
  ·rename_i hn
   rw[Aw]
   exact⟨h.nd,by simp,λy hy z hz e=>hn (by rw[AF.mp hz] at e;exact e▸hy)⟩
 ·have:=h.len
  split
  ·lia
  ·rw[AW,Ai];lia
 ·split at hx
  ·exact h.all x hx
  ·rcases AY.mp hx with hx|hx
   ·exact h.all x hx
   ·rw[AF.mp hx];exact hu
 ·rcases ZIh hz with e|⟨y,hy,e⟩
  ·exact⟨q,v,e,hq,hv⟩
  ·obtain⟨q',v',e',r⟩:=h.vals y hy
   exact⟨q',v',e.symm.trans e',r⟩
theorem ZKS {p:List E3->Prop}{H:Hp}:∀(as:List It4) (us:List (List E3)),(as.map λr=>r.2.2.1)=(us.map λt=>t.map AH)->(∀r∈as,H r.1=some (.tup [.ref r.2.1,r.2.2.2])/\H r.2.1=some (.tup (r.2.2.1.map kV)))->(∀r∈as,∃q v,r.2.2.2= .ref q/\TupA H q v/\p v)->
  ∃rs:List Rx,ZJe rs=(as.map λr=>V.ref r.1)/\ZE1 H rs/\(rs.map λx=>x.2.2.2.1)=us/\∀x∈rs,p x.2.2.2.2
 | [],[],_,_,_=>⟨[],rfl,(λx hx=>nomatch hx),rfl,λx hx=>nomatch hx⟩
 | [],_::_,h,_,_=>by simp at h
 |_::_,[],h,_,_=>by simp at h
 |a::as,u::us,h,h1,h2=>by
  simp only[AR,BC] at h
  obtain⟨rs,e1,e2,e3,e4⟩:=ZKS as us h.2 (λr hr=>h1 r (AL _ hr)) λr hr=>h2 r (AL _ hr)
  obtain⟨g1,g2⟩:=h1 a (AJ ..)
  obtain⟨q,v,eq,hq,hl⟩:=h2 a (AJ ..)
  rw[eq] at g1
  rw[h.1,AE] at g2
  refine⟨(a.1,a.2.1,q,(u,v))::rs,by unfold ZJe at e1 ⊢;rw[AR,AR,e1],λx hx=>?_,by rw[AR,e3],λx hx=>?_⟩
  ·rcases AQ.mp hx with rfl|hx
   ·exact⟨g1,g2,hq⟩
   ·exact e2 x hx
  ·rcases AQ.mp hx with rfl|hx
   ·exact hl
   ·exact e4 x hx
inductive ZHV (vs:List V)(H:Hp)(Q:VK):Prop
 |mk:∀(p:Ez) (v:V) (R:List Rl) (u:List E3),(vs= [.ref p,v])->(ZEs H p R)->((R.map (·.1)).Nodup)->(R.length<=100)->((∀r∈R,r.2.length<=1000))->(OV H v (some u))->(u.length<=900)->(∀v' H',Same H H'->OV H' v' (ZAy R u)->Q v' H')->ZHV vs H Q
def ZOI:Sp:=λvs H Q _=>ZHV vs H Q
inductive ZJH (vs:List V)(H:Hp)(Q:VK):Prop
 |mk:∀(p:Ez) (v:V) (R:List Rl) (u:List E3),(vs= [.ref p,v])->(ZEs H p R)->((R.map (·.1)).Nodup)->(R.length<=100)->((∀r∈R,r.2.length<=50))->(OV H v (some u))->(u.length<=50)->(∀v' H',Same H H'->OV H' v' (ledN 8 R u)->Q v' H')->ZJH vs H Q
def ZKD:Sp:=λvs H Q _=>ZJH vs H Q
theorem ZCu {H:Hp}{v:V}{u:List E3}(h:OV H v (some u)):∃q,v= .ref q/\TupA H q u:=by
 rcases h with⟨e,_⟩|⟨x,q,e,rfl,hq⟩
 ·cases e
 ·cases e;exact⟨q,rfl,hq⟩
section
variable {P:E7}{w:FA}{K:AB}{mg:E3->Option E2}{base:E9}{f:Ez}{fd:FJ}
theorem ZNa {x:E3}{k:Nat}{ps:List E3}(h:Has P w K mg base x k ps ZEL):Has P w K mg base x k ps ZOI:=ZBu h λvs H Q E h=>by
 obtain⟨p,v,R,u,rfl,⟨rs,hp,hrs,rfl⟩,nd,hz,hg,hv,hu,q⟩:=h
 obtain⟨a,rfl,ha⟩:=ZCu hv
 rw[AA] at hz
 exact⟨p,a,rs,u,rfl,.inl hp,hrs,nd,hz,hg,ha,by lia,λho H' s=>q _ H' s (.inl ⟨ho,rfl⟩),λx ho q' H' s hq=>q _ H' s (.inr ⟨x,q',ho,rfl,hq⟩)⟩
theorem scLLed:ZAS ["_law_rules","_law_address"] ["_law_rules","_law_address"] (ZAF ZJb):=⟨rfl,rfl,rfl,by decide +kernel,rfl,by decide +kernel,by decide +kernel⟩
theorem ZOd {k:Nat}{C:Ez}(F:Fun K "_law_led" "_law_led" ZJb f fd)(O:PyProof.Rows.OwnCls "TooMany" C VE "ValueError.__new__" mg base)(hLed:HasE P w K mg base "led" k ["rules","address"] (ZOJ C)):FnOk P w K mg base CX0 (k+1) f fd ["_law_rules","_law_address"] ZKD:=by
 refine F.ok scLLed (λvs H Q E h=>?_) (λcdv A outer s H vs Q E hr h=>?_)
 ·obtain⟨p,v,R,u,rfl,_⟩:=h
  rfl
 obtain⟨p,v,R,u,rfl,⟨rs,hp,hrs,eR⟩,nd,hz,hgl,hv,hul,q⟩:=h
 obtain⟨a,rfl,ha⟩:=ZCu hv
 obtain⟨f',fd',F',b',k',m'⟩:=hLed
 refine⟨_,(ZAH (ZKg O rfl rfl rfl rfl (ZH2 F' hr rfl m' k' b' (λ_=>ZAA (pv 0) (ZAA (pv 1) ZAC))) (λ_ _=>ZAH (ZAT ZDp)))),?_⟩
 have lrs:rs.length=R.length:=by rw[<-eR,AA]
 subst eR
 exact⟨_,rfl,_,rfl,p,a,rs,u,rfl,.inl hp,hrs,nd,by lia,(λr hr'=>by have:=hgl r hr';lia),ha,by lia,λx h q' H' s' hq'=>q _ H' s' (.inr ⟨x,q',h,rfl,hq'⟩),λh H' s'=>⟨rfl,q _ H' s' (.inl ⟨h,rfl⟩)⟩⟩
end
theorem ZNm {c:Nat}(h:c∈("ab":E3).cps.toList):(⟨#[c]⟩:E3)∈SIX:=by
 have e:(("ab":E3).cps.toList)= [97,98]:=by decide +kernel
 have:∀c∈ [97,98],(⟨#[c]⟩:E3)∈SIX:=by decide +kernel
 exact this c (by rw[<-e];exact h)
theorem ZPA {c:Nat}(h:c∈("abc":E3).cps.toList):(⟨#[c]⟩:E3)∈SIX:=by
 have e:(("abc":E3).cps.toList)= [97,98,99]:=by decide +kernel
 have:∀c∈ [97,98,99],(⟨#[c]⟩:E3)∈SIX:=by decide +kernel
 exact this c (by rw[<-e];exact h)
theorem ZOs {R:List Rl}(hl:∀r∈R,r.2.length<=3):∀(n:Nat) {a x:List E3},n<=300->a.length<=5->ledN n R a=some x->x.length<=1000:=by
 have step:∀(n:Nat) {a x:List E3} (k:Nat),a.length<=k->ledN n R a=some x->x.length<=k+3*n:=λn=>by
  induction n with
  |zero=>
   intro a x k hk e
   cases ho:ZAy R a with
   |none=>rw[ZBG ho] at e;obtain rfl:=Aj e;lia
   |some b=>rw[ZDE ho] at e;cases e
  |succ n ih=>
   intro a x k hk e
   cases ho:ZAy R a with
   |none=>rw[ZBG ho] at e;obtain rfl:=Aj e;lia
   |some b=>
    rw[ZDF ho] at e
    have hb:b.length<=k+3:=by
     unfold ZAy at ho
     cases hb:best a R with
     |none=>rw[hb] at ho;cases ho
     |some r=>
      rw[hb] at ho
      obtain rfl:=Aj ho
      have:=hl r (ZBk hb).1
      show(r.2++a.drop r.1.length).length<=_
      rw[AW,Bl]
      lia
    have:=ih (k+3) hb e
    lia
 intro n a x hn ha e
 have:=step n 5 ha e
 lia
abbrev Pu (u:List E3):Prop:=u.length<=3/\AllN SIX u
def ovD:Option (List E3)->Dat
 |none=> .non
 |some x=>tupD x
theorem OV.dat {K:AB}{H:Hp}{v:V}{o:Option (List E3)}(h:OV H v o):ZAZ K H (ovD o) v:=by
 rcases h with⟨rfl,rfl⟩|⟨x,q,rfl,rfl,hq⟩
 ·exact rfl
 ·exact ZBY hq
theorem ZMb (o:Option (List E3)):Dat.deep (ovD o)<=6:=by
 cases o with
 |none=>exact Aq _
 |some x=>show Dat.deeps _+1<=6;rw[ZBh];decide
theorem ZKt (o:Option (List E3)):∀i,ovD o≠ .int i:=λi e=>by cases o<;>cases e
theorem ZKP {K:AB}{H:Hp}{v v':V}{o:Option (List E3)}{Q:VK}(h:OV H v o)(h':OV H v' o)(q:Q (.bl false) H):rNeX K v v' H Q:=⟨ovD o,h.dat,h'.dat,ZMb o,ZKt o,q⟩
inductive ZFb (K:AB)(vs:List V)(H:Hp)(Q:VK):Prop
 |mk:∀(a t d:Ez) (ns:List Int) (zs:List V) (f:E3->E3),(vs= [.ref a,.ref t,.ref d])->(Scr K H a ns)->(ns.length<=63)->(H t=some (.lst zs))->(zs.length<30000)->(NewG false f H d)->(Mono f SIX)->(∀(zs':List V) (H':Hp),H' t=some (.lst zs')->zs'.length<=zs.length+200->Stp t H H'->Q (.bl true) H')->ZFb K vs H Q
def ZFt (K:AB):Sp:=λvs H Q _=>ZFb K vs H Q
section
variable {P:E7}{w:FA}{K:AB}{mg:E3->Option E2}{base:E9}{f:Ez}{fd:FJ}
theorem ZBp:ZAS ["_law_script","_law_town","_law_new","_law_found","_law_k","_law_begin","_law_rules","_law_there","_law_turn","_law_address"] ["_law_script","_law_town","_law_new"] (ZAF ZDV):=⟨rfl,rfl,rfl,by decide +kernel,rfl,by decide +kernel,by decide +kernel⟩
theorem ndRH0:(["_law_j","_law_script","_law_town"]:List E3).Nodup:=by decide +kernel
theorem ndRH1:(["_law_j","_law_script","_law_town"]:List E3).Nodup:=by decide +kernel
theorem ndRH2:(["_law_begin","_law_goal","_law_new"]:List E3).Nodup:=by decide +kernel
theorem ndRH3:(["_law_j","_law_script","_law_town"]:List E3).Nodup:=by decide +kernel
theorem ndRH4:(["_law_begin","_law_new"]:List E3).Nodup:=by decide +kernel
theorem ZKy {k:Nat}(F:Fun K "_law_rules_hold" "_law_rules_hold" ZDV f fd)(G:Blt mg)(hDraw:Has P w K mg base "_law_draw" k ["_law_script","_law_town","_law_many"] (ZE9 K))(hPick:Has P w K mg base "_law_pick" k ["_law_script","_law_town","_law_some"] (ZDo K))
  (hNamed:Has P w K mg base "_law_named" k ["_law_new","_law_address"] ZB8) (hLLed:Has P w K mg base "_law_led" k ["_law_rules","_law_address"] ZKD) (hOnce:Has P w K mg base "once" k ["rules","address"] ZEL) (hNeedless:Has P w K mg base "needless" k ["rules"] ZDT):
  FnOk P w K mg base CX0 (k+1) f fd ["_law_script","_law_town","_law_new"] (ZFt K):=by
 refine F.ok ZBp (λvs H Q E h=>?_) (λcdv A outer s H vs Q E hr h=>?_)
 ·obtain⟨a,t,d,ns,zs,g,rfl,_⟩:=h
  rfl
 obtain⟨a,t,d,ns,zs,g,rfl,hS,h63,hT,hz,hN,mo,q⟩:=h
 have hu:=ZA9 hr
 refine⟨_,(ZAD (ZAL (i:=3) ZBp.nd rfl (Ag rfl) ZCD)
  (ZAD (ZCK PassesOwn.never rfl (ZA6 rfl G.range (ZAA ZAV ZAC)) (ZAK (i:=4) ZBp.nd rfl (Ag rfl))
   (ZAD (ZAL (i:=5) ZBp.nd rfl (Ag rfl) (ZAI ZAG rfl G.tuple boot_tuple (ZAA (ZAO (te:=(ZCM (ZDo K) [] E0 (ZAW (tVar 1) (ZAW (tVar 2) (ZAW (tC (.str "ab")) tNil))))) (xs:= ["_law_j"]) (ys:= ["_law_script","_law_town"]) (js:= [0,1]) rfl (by decide +kernel) (by decide +kernel) rfl (by decide +kernel) ⟨rfl,.inl rfl,rfl,rfl,.inl rfl,rfl,trivial⟩
   (ZA6 rfl G.range (ZAA (ZAE hDraw hr rfl (ZAA (pv 0) (ZAA (pv 1) (ZAA ZAV ZAC)))) ZAC)) (λ_ _ _ _ _=>(ZAK (i:=0) ndRH0 rfl (Ag rfl) (.inr rfl))) (λ_ _ _ _ _=>ZAb) (λ_ _ _ _ _=>(ZAE hPick hr rfl (ZAA (pv 1) (ZAA (pv 2) (ZAA ZAu ZAC)))))) ZAC)))
   (ZAH (ZB9 hu (pv 3) (pv 5) (ZAI ZAG rfl G.tuple boot_tuple (ZAA (ZAO (te:=(ZCM (ZDo K) [] E0 (ZAW (tVar 1) (ZAW (tVar 2) (ZAW (tC (.str "ab")) tNil))))) (xs:= ["_law_j"]) (ys:= ["_law_script","_law_town"]) (js:= [0,1]) rfl (by decide +kernel) (by decide +kernel) rfl (by decide +kernel) ⟨rfl,.inl rfl,rfl,rfl,.inl rfl,rfl,trivial⟩
   (ZA6 rfl G.range (ZAA (ZAE hDraw hr rfl (ZAA (pv 0) (ZAA (pv 1) (ZAA ZAV ZAC)))) ZAC)) (λ_ _ _ _ _=>(ZAK (i:=0) ndRH1 rfl (Ag rfl) (.inr rfl))) (λ_ _ _ _ _=>ZAb) (λ_ _ _ _ _=>(ZAE hPick hr rfl (ZAA (pv 1) (ZAA (pv 2) (ZAA ZAu ZAC)))))) ZAC)) rfl))))
  (ZAD (ZAL (i:=6) ZBp.nd rfl (Ag rfl) (ZH4 rfl rfl G.tuple (pv 3)))
  (ZAD (ZAL (i:=7) ZBp.nd rfl (Ag rfl) (ZAI ZAG rfl G.tuple boot_tuple (ZAA (ZAO (te:=(tTup (ZAW (ZCM ZB8 [] E0 (ZAW (tVar 2) (ZAW (tVar 0) tNil))) (ZAW (ZCM ZB8 [] E0 (ZAW (tVar 2) (ZAW (tVar 1) tNil))) tNil)))) (xs:= ["_law_begin","_law_goal"]) (ys:= ["_law_new"]) (js:= [2]) (g:=(gTup K 2 (ZGQ (ZBg 0) (ZGQ (ZBg 1) gNil)))) rfl (by decide +kernel) (by decide +kernel) rfl (by decide +kernel) ⟨rfl,.inl rfl,rfl,trivial⟩
   (ZAp (pv 6)) (λ_ _ _ _ _=>(ZKk rfl (ZCa (ZAK (i:=0) ndRH2 rfl (Ag rfl) (.inr rfl)) (ZCa (ZAK (i:=1) ndRH2 rfl (Ag rfl) (.inr rfl)) ZH3)))) (λ_ _ _ _ _=>ZAb) (λ_ _ _ _ _=>(ZAt (ZAA (ZAE hNamed hr rfl (ZAA (pv 2) (ZAA (pv 0) ZAC))) (ZAA (ZAE hNamed hr rfl (ZAA (pv 2) (ZAA (pv 1) ZAC))) ZAC))))) ZAC)))
  (ZAD (ZCK PassesOwn.never rfl (ZA6 rfl G.range (ZAA ZAV ZAC)) (ZAK (i:=8) ZBp.nd rfl (Ag rfl))
   (ZAD (ZAL (i:=9) ZBp.nd rfl (Ag rfl) (ZAI ZAG rfl G.tuple boot_tuple (ZAA (ZAO (te:=(ZCM (ZDo K) [] E0 (ZAW (tVar 1) (ZAW (tVar 2) (ZAW (tC (.str "abc")) tNil))))) (xs:= ["_law_j"]) (ys:= ["_law_script","_law_town"]) (js:= [0,1]) rfl (by decide +kernel) (by decide +kernel) rfl (by decide +kernel) ⟨rfl,.inl rfl,rfl,rfl,.inl rfl,rfl,trivial⟩
   (ZA6 rfl G.range (ZAA (ZAE hDraw hr rfl (ZAA (pv 0) (ZAA (pv 1) (ZAA ZAV ZAC)))) ZAC)) (λ_ _ _ _ _=>(ZAK (i:=0) ndRH3 rfl (Ag rfl) (.inr rfl))) (λ_ _ _ _ _=>ZAb) (λ_ _ _ _ _=>(ZAE hPick hr rfl (ZAA (pv 1) (ZAA (pv 2) (ZAA ZAu ZAC)))))) ZAC)))
   (ZAD (ZBc (ZAc (ZIn (hu8 hr)) (ZAE (ZNa hOnce) hr rfl (ZAA (pv 7) (ZAA (ZAE hNamed hr rfl (ZAA (pv 2) (ZAA (pv 9) ZAC))) ZAC))) (ZAE hNamed hr rfl (ZAA (pv 2) (ZAA (ZAE (ZNa hOnce) hr rfl (ZAA (pv 6) (ZAA (pv 9) ZAC))) ZAC))) (ZAm _)) ZAo ZAg)
   (ZAH (ZBc (ZAc (ZIn (hu8 hr)) (ZAE hLLed hr rfl (ZAA (pv 7) (ZAA (ZAE hNamed hr rfl (ZAA (pv 2) (ZAA (pv 9) ZAC))) ZAC))) (ZAE hNamed hr rfl (ZAA (pv 2) (ZAA (ZAE hLLed hr rfl (ZAA (pv 6) (ZAA (pv 9) ZAC))) ZAC))) (ZAm _)) ZAo ZAg)))))
  (ZAH (ZAT (ZGG (ZNY (hu8 hr)) (ZAE hNeedless hr rfl (ZAA (pv 7) ZAC)) (ZAI ZAG rfl G.tuple boot_tuple (ZAA (ZAO (te:=(ZCM ZB8 [] E0 (ZAW (tVar 1) (ZAW (tVar 0) tNil)))) (xs:= ["_law_begin"]) (ys:= ["_law_new"]) (js:= [2]) rfl (by decide +kernel) (by decide +kernel) rfl (by decide +kernel) ⟨rfl,.inl rfl,rfl,trivial⟩
   (ZAp (ZAE hNeedless hr rfl (ZAA (pv 6) ZAC))) (λ_ _ _ _ _=>(ZAK (i:=0) ndRH4 rfl (Ag rfl) (.inr rfl))) (λ_ _ _ _ _=>ZAb) (λ_ _ _ _ _=>(ZAE hNamed hr rfl (ZAA (pv 1) (ZAA (pv 0) ZAC))))) ZAC)) (ZAm _))))))))),?_⟩
 intro fo nf
 have s0:=Same.new nf (.dT [])
 have hf0:(upd H fo (.dT []):Hp) fo=some (.dT []):=ZAB
 have hft:fo≠t:=(ZAJ hT nf).symm
 generalize (upd H fo (.dT []):Hp)=H0 at*
 have hT0:=s0 _ _ hT
 refine⟨5,rfl,by decide,by decide,?_⟩
 refine ZBy (n:=5) (λj Z H'=>∃(v4 v5 v6 v7 v8 v9:Option V) (kvs:List (List Key×V)) (us:List (List E3)) (zs':List V),Z= [some (.ref a),some (.ref t),some (.ref d),some (.ref fo),v4,v5,v6,v7,v8,v9]/\H' t=some (.lst zs')/\zs'.length<=zs.length+8*j/\Stp t H H'/\H' fo=some (.dT kvs)/\DRp Pu j H' kvs us)
  ⟨_,_,_,_,_,_,[],[],_,rfl,hT0,by simp,s0.stp,hf0,⟨rfl,BZ,AK _,(λu hu'=>nomatch hu'),λz hz'=>nomatch hz'⟩⟩ ?_ ?_
 ·rintro j Z H3 hj ⟨v4,v5,v6,v7,v8,v9,kvs,us,zs3,rfl,hT3,hz3,st3,hf3,hd3⟩
  have hS3:=hS.stp hT st3
  refine⟨_,rfl,_,rfl,a,t,ns,zs3,4,rfl,hS3,h63,hT3,by lia,by decide,λn1 H4 hn0 hn1 hT4 st4=>?_⟩
  have hS4:=hS3.stp hT3 st4
  refine⟨n1,rfl,by lia,by lia,λD hD=>?_⟩
  refine ZC1 SIX D hD hS4 hT4 (by lia) (by simp;lia) (λx H5 R5 zs5 hS5 hT5 hz5 hR5=>?_) λu1 zs5 H5 hul1 hal1 hT5 hl5 st5 hD5=>?_
  ·exact⟨_,rfl,_,rfl,a,t,ns,zs5,hS5,h63,hT5,by lia,.inr ⟨"ab",rfl,by decide +kernel,by decide +kernel,λc H6 hc hT6 st6=>hR5 _ H6 (ZNm hc) hT6 st6⟩⟩
  refine⟨D,_,rfl,.inl ⟨SqL.of hD5,λtb ntb=>?_⟩⟩
  have s6:=Same.new ntb (.tup (u1.map V.str))
  have htb:TupA (upd H5 tb (.tup (u1.map V.str))) tb u1:=ZAB
  generalize (upd H5 tb (.tup (u1.map V.str)):Hp)=H6 at*
  have hT6:=s6 _ _ hT5
  have st06:Stp t H H6:=((st3.trans st4).trans st5).trans s6.stp
  have hS6:=hS.stp hT st06
  have hf6:=s6 _ _ (st5 _ _ hft (st4 _ _ hft hf3))
  have hd6:=((hd3.ts (st4.ts hT3)).ts (st5.ts hT4)).ts s6.ts
  refine⟨_,rfl,_,rfl,a,t,ns,zs5,4,rfl,hS6,h63,hT6,by simp at hl5;lia,by decide,λn2 H7 hm0 hm1 hT7 st7=>?_⟩
  have hS7:=hS6.stp hT6 st7
  refine⟨n2,rfl,by lia,by lia,λD2 hD2=>?_⟩
  refine ZC1 SIX D2 hD2 hS7 hT7 (by lia) (by simp at hl5 ⊢;lia) (λx H5 R5 zs5 hS5 hT5 hz5 hR5=>?_) λu2 zs8 H8 hul2 hal2 hT8 hl8 st8 hD8=>?_
  ·exact⟨_,rfl,_,rfl,a,t,ns,zs5,hS5,h63,hT5,by lia,.inr ⟨"ab",rfl,by decide +kernel,by decide +kernel,λc H6 hc hT6 st6=>hR5 _ H6 (ZNm hc) hT6 st6⟩⟩
  refine⟨D2,_,rfl,.inl ⟨SqL.of hD8,λtc ntc=>?_⟩⟩
  have s9:=Same.new ntc (.tup (u2.map V.str))
  have htc:TupA (upd H8 tc (.tup (u2.map V.str))) tc u2:=ZAB
  generalize (upd H8 tc (.tup (u2.map V.str)):Hp)=H9 at*
  have ts69:TS' H6 H9:=((st7.ts hT6).trans (st8.ts hT7)).trans s9.ts
  have hf9:=s9 _ _ (st8 _ _ hft (st7 _ _ hft hf6))
  have hd9:=hd6.ts ts69
  have hT9:=s9 _ _ hT8
  have htb9:TupA H9 tb u1:=ts69 _ _ htb
  have hkl:kvs.length<=j:=by have:=congrArg Ay hd3.keys;rw[AA,AA] at this;have:=hd3.len;lia
  refine⟨_,rfl,_,rfl,fo,_,rfl,DPut.t (k:=u1.map AH) hf9 (by rw[AE];exact htb9) (bigl _ (by lia)),?_⟩
  obtain⟨us',hd10⟩:=hd9.put (u:=u1) (v:=u2) (q:=tc) ⟨by lia,λy hy=>hal1 y hy⟩ htc ⟨by lia,λy hy=>hal2 y hy⟩
  have t10:TS' H9 (upd H9 fo (.dT (putK kvs (u1.map AH) (.ref tc)))):=λb xs e=>by
   rw[ZAN (λz=>by rw[z,hf9] at e;cases e)]
   exact e
  have st09:Stp t H H9:=(st06.trans (st7.trans st8)).trans s9.stp
  refine⟨_,_,_,_,_,_,_,us',zs8,rfl,by rw[ZAN hft.symm];exact hT9,?_,λb o hb e=>?_,ZAB,hd10.ts t10⟩
  ·rw[hl8]
   simp at hl5 ⊢
   lia
  ·rw[ZAN (ZAJ e nf)]
   exact st09 b o hb e
 ·rintro Z H3 ⟨v4,v5,v6,v7,v8,v9,kvs,us,zs3,rfl,hT3,hz3,st3,hf3,hd3⟩
  refine⟨_,rfl,fo,kvs,rfl,hf3,λpr as H4 s4 hl eas hall=>?_⟩
  have hd4:=hd3.ts s4.ts
  obtain⟨rs,e1,e2,e3,e4⟩:=ZKS (p:=Pu) (H:=H4) as us (by rw[<-hd4.keys,<-eas,AE];rfl) hall λr hr'=>hd4.vals r.2.2 (by rw[<-eas];exact AD.mpr ⟨r,hr',rfl⟩)
  have hpr:H4 pr=some (.tup (ZJe rs)):=by rw[hl,e1]
  have hT4:=s4 _ _ hT3
  have st04:Stp t H H4:=st3.trans s4.stp
  have hN4:=hN.stp st04 hT
  have hlr:rs.length<=5:=by
   have:=congrArg Ay e3
   rw[AA] at this
   have:=hd4.len
   lia
  have hPr:∀x∈rs,Pu x.2.2.2.1/\Pu x.2.2.2.2:=λx hx=>⟨hd4.all _ (by rw[<-e3];exact AD.mpr ⟨x,hx,rfl⟩),e4 x hx⟩
  have hR4:ZEs H4 pr (rs.map (·.2.2.2)):=⟨rs,hpr,e2,rfl⟩
  have hinR:InRl SIX (rs.map (·.2.2.2)):=λr hr'=>by
   obtain⟨x,hx,rfl⟩:=AD.mp hr'
   exact⟨(hPr x hx).1.2,(hPr x hx).2.2⟩
  have hlen:∀r∈rs.map (·.2.2.2),r.1.length<=3/\r.2.length<=3:=λr hr'=>by
   obtain⟨x,hx,rfl⟩:=AD.mp hr'
   exact⟨(hPr x hx).1.1,(hPr x hx).2.1⟩
  have ndR:((rs.map (·.2.2.2)).map (·.1)).Nodup:=by rw[AE];exact e3▸hd4.nd
  have hRl:(rs.map (·.2.2.2)).length<=5:=by rw[AA];exact hlr
  have hR4':=hR4
  generalize hRR:rs.map (·.2.2.2)=R at*
  --by other names
  refine⟨_,rfl,pr,rfl,⟨_,SqT.of hpr⟩,λD hD=>?_⟩
  refine ZC0 (K:=K) (rs:=rs) (λx:Rx=>x.1) (λx=>V.ref x.2.1) (λx=>V.ref x.2.2.1) (fr:= [some (.ref d)]) (λx v H'=>∃c,v=V.ref c/\∃q1 q2,H' c=some (.tup [V.ref q1,V.ref q2])/\TupA H' q1 (x.2.2.2.1.map g)/\TupA H' q2 (x.2.2.2.2.map g)) (λx v H1 H2 s h=>let⟨c,e,q1,q2,k1,k2,k3⟩:=h;⟨c,e,q1,q2,s _ _ k1,s _ _ k2,s _ _ k3⟩) (λ_=>true) D hD (ZAP (SqT.of hpr)) (λx hx=>(e2 x hx).1) (bigl _ (by lia)) ?_ ?_ ?_
  ·intro x H5 Rr hx s5 hR5
   exact hR5 H5 (Same.refl _)
  ·intro x H5 Rr hx _ s5 hR5
   have hx5:=(e2 x hx).ts s5.ts
   refine⟨_,rfl,_,rfl,d,_,g,some x.2.2.2.1,rfl,hN4.same s5,.inr ⟨_,_,rfl,rfl,hx5.2.1⟩,(λu e=>by cases e;exact⟨by have:=(hPr x hx).1.1;lia,(hPr x hx).1.2⟩),λw1 H6 s6 hw1=>?_⟩
   obtain⟨q1,rfl,hq1⟩:=ZCu hw1
   have hx6:=hx5.ts s6.ts
   refine⟨_,rfl,_,rfl,d,_,g,some x.2.2.2.2,rfl,hN4.same (s5.trans s6),.inr ⟨_,_,rfl,rfl,hx6.2.2⟩,(λu e=>by cases e;exact⟨by have:=(hPr x hx).2.1;lia,(hPr x hx).2.2⟩),λw2 H7 s7 hw2=>?_⟩
   obtain⟨q2,rfl,hq2⟩:=ZCu hw2
   refine⟨big _ (by simp),λc nc=>?_⟩
   have sc:=Same.new nc (.tup [V.ref q1,V.ref q2])
   exact hR5 _ _ ((s6.trans s7).trans sc) ⟨c,rfl,q1,q2,ZAB,(s7.trans sc) _ _ hq1,sc _ _ hq2⟩
  intro H5 ys s5 hD5 hp5
  rw[Bx.mpr (λ_ _=>rfl)] at hp5
  refine⟨D,ys,rfl,.inl ⟨SqL.of hD5,λpt npt=>?_⟩⟩
  have s6:=Same.new npt (.tup ys)
  have hThere:ZEs (upd H5 pt (.tup ys)) pt (ZBt g R):=by
   obtain⟨ps,e,hps⟩:=ZDb (Q:=λ(x:Rx) c=>∃q1 q2,H5 c=some (.tup [V.ref q1,V.ref q2])/\TupA H5 q1 (x.2.2.2.1.map g)/\TupA H5 q2 (x.2.2.2.2.map g)) hp5
   subst e
   have:∃rs':List Rx,rs'.map (·.1)=ps/\ZE1 H5 rs'/\rs'.map (·.2.2.2)=ZBt g (rs.map (·.2.2.2)):=by
    clear hp5 hD5 npt s6 hRR e1 e2 e3 e4 hpr hPr hR4 hlr hl hN4 hR4'
    induction hps with
    |nil=>exact⟨[],rfl,(λx hx=>nomatch hx),rfl⟩
    |@cons x c rs ps h1 _ ih=>
     obtain⟨rs',k1,k2,k3⟩:=ih
     obtain⟨q1,q2,j1,j2,j3⟩:=h1
     refine⟨(c,q1,q2,(x.2.2.2.1.map g,x.2.2.2.2.map g))::rs',by rw[AR,k1],λz hz=>?_,by rw[AR,k3];rfl⟩
     rcases AQ.mp hz with rfl|hz
     ·exact⟨j1,j2,j3⟩
     ·exact k2 z hz
   obtain⟨rs',k1,k2,k3⟩:=this
   refine⟨rs',?_,k2.ts s6.ts,by rw[k3,hRR]⟩
   rw[ZAB,<-k1,AE]
   rfl
  generalize (upd H5 pt (.tup ys):Hp)=H6 at*
  have s46:=s5.trans s6
  have hT6:=s46 _ _ hT4
  have st06:Stp t H H6:=st04.trans s46.stp
  have hR6:=hR4.ts s46.ts
  have ndM:=ZMw mo hinR ndR
  have hMl:(ZBt g R).length<=5:=by unfold ZBt;rw[AA];exact hRl
  have hlenM:∀r∈ZBt g R,r.1.length<=3/\r.2.length<=3:=λr hr'=>by
   obtain⟨x,hx,rfl⟩:=AD.mp hr'
   have:=hlen x hx
   show(x.1.map g).length<=3/\(x.2.map g).length<=3
   rw[AA,AA]
   exact this
  refine⟨6,rfl,by decide,by decide,?_⟩
  refine ZBy (n:=6) (λj Z H'=>∃(v4' v5' v8' v9':Option V) (zs':List V),Z= [some (.ref a),some (.ref t),some (.ref d),some (.ref fo),v4',v5',some (.ref pr),some (.ref pt),v8',v9']/\H' t=some (.lst zs')/\zs'.length<=zs.length+40+6*j/\Stp t H H'/\ZEs H' pr R/\ZEs H' pt (ZBt g R))
   ⟨_,_,_,_,_,rfl,hT6,by lia,st06,hR6,hThere⟩ ?_ ?_
  ·rintro j Z H7 hj ⟨v4',v5',v8',v9',zs7,rfl,hT7,hz7,st7,hRa,hRb⟩
   have hS7:=hS.stp hT st7
   refine⟨_,rfl,_,rfl,a,t,ns,zs7,6,rfl,hS7,h63,hT7,by lia,by decide,λn1 H8 hn0 hn1 hT8 st8=>?_⟩
   have hS8:=hS7.stp hT7 st8
   refine⟨n1,rfl,by lia,by lia,λD3 hD3=>?_⟩
   refine ZC1 SIX D3 hD3 hS8 hT8 (by lia) (by simp;lia) (λx H5 R5 zs5 hS5 hT5 hz5 hR5=>?_) λu zs9 H9 hul hal hT9 hl9 st9 hD9=>?_
   ·exact⟨_,rfl,_,rfl,a,t,ns,zs5,hS5,h63,hT5,by lia,.inr ⟨"abc",rfl,by decide +kernel,by decide +kernel,λc H6 hc hT6 st6=>hR5 _ H6 (ZPA hc) hT6 st6⟩⟩
   refine⟨D3,_,rfl,.inl ⟨SqL.of hD9,λta nta=>?_⟩⟩
   have s10:=Same.new nta (.tup (u.map V.str))
   have hta:TupA (upd H9 ta (.tup (u.map V.str))) ta u:=ZAB
   generalize (upd H9 ta (.tup (u.map V.str)):Hp)=H10 at*
   have st10:Stp t H H10:=((st7.trans st8).trans st9).trans s10.stp
   have hT10:=s10 _ _ hT9
   have hN10:=hN.stp st10 hT
   have hRa10:=((hRa.ts (st8.ts hT7)).ts (st9.ts hT8)).ts s10.ts
   have hRb10:=((hRb.ts (st8.ts hT7)).ts (st9.ts hT8)).ts s10.ts
   have hul6:u.length<=5:=by lia
   have hmu:(u.map g).length<=5:=by rw[AA];exact hul6
   --once
   refine⟨_,rfl,_,rfl,_,rfl,d,_,g,some u,rfl,hN10,.inr ⟨_,_,rfl,rfl,hta⟩,(λx e=>by cases e;exact⟨by lia,hal⟩),λw1 H11 s11 hw1=>?_⟩
   refine⟨pt,w1,ZBt g R,u.map g,rfl,hRb10.ts s11.ts,ndM,by lia,(λr hr'=>by have:=(hlenM r hr').2;lia),hw1,by lia,λw2 H12 s12 hw2=>?_⟩
   have s1012:=s11.trans s12
   refine⟨_,rfl,_,rfl,_,rfl,pr,_,R,u,rfl,hRa10.ts s1012.ts,ndR,by lia,(λr hr'=>by have:=(hlen r hr').2;lia),.inr ⟨_,_,rfl,rfl,s1012 _ _ hta⟩,by lia,λw3 H13 s13 hw3=>?_⟩
   refine⟨d,w3,g,ZAy R u,rfl,hN10.same (s1012.trans s13),hw3,(λx e=>⟨?_,ZGI hal hinR e⟩),λw4 H14 s14 hw4=>?_⟩
   ·unfold ZAy at e
    cases hb:best u R with
    |none=>rw[hb] at e;cases e
    |some r=>
     rw[hb] at e
     obtain rfl:=Aj e
     have:=(hlen r (ZBk hb).1).2
     show(r.2++u.drop r.1.length).length<=_
     rw[AW,Bl]
     lia
   rw[ZEE mo hal hinR] at hw2
   have s1014:=(s1012.trans s13).trans s14
   refine ZKP (hw2.same (s13.trans s14)) hw4 ⟨_,rfl,iteF ?_⟩
   --led
   have hN14:=hN10.same s1014
   refine⟨_,rfl,_,rfl,_,rfl,d,_,g,some u,rfl,hN14,.inr ⟨_,_,rfl,rfl,s1014 _ _ hta⟩,(λx e=>by cases e;exact⟨by lia,hal⟩),λw5 H15 s15 hw5=>?_⟩
   refine⟨pt,w5,ZBt g R,u.map g,rfl,hRb10.ts (s1014.trans s15).ts,ndM,by lia,(λr hr'=>by have:=(hlenM r hr').2;lia),hw5,by lia,λw6 H16 s16 hw6=>?_⟩
   have s1016:=(s1014.trans s15).trans s16
   refine⟨_,rfl,_,rfl,_,rfl,pr,_,R,u,rfl,hRa10.ts s1016.ts,ndR,by lia,(λr hr'=>by have:=(hlen r hr').2;lia),.inr ⟨_,_,rfl,rfl,s1016 _ _ hta⟩,by lia,λw7 H17 s17 hw7=>?_⟩
   refine⟨d,w7,g,ledN 8 R u,rfl,hN10.same (s1016.trans s17),hw7,(λx e=>⟨ZOs (λr hr'=>(hlen r hr').2) 8 (by decide) hul6 e,ZNd hinR 8 hal e⟩),λw8 H18 s18 hw8=>?_⟩
   rw[ZLK mo hinR 8 hal] at hw6
   have s1018:=(s1016.trans s17).trans s18
   refine ZKP (hw6.same (s17.trans s18)) hw8 ⟨_,rfl,iteF ?_⟩
   exact⟨_,_,_,_,zs9,rfl,s1018 _ _ hT10,by rw[hl9];simp;lia,st10.trans s1018.stp,hRa10.ts s1018.ts,hRb10.ts s1018.ts⟩
  ·rintro Z H7 ⟨v4',v5',v8',v9',zs7,rfl,hT7,hz7,st7,hRa,hRb⟩
   have hN7:=hN.stp st7 hT
   refine⟨_,rfl,pt,ZBt g R,rfl,hRb,ndM,by lia,(λr hr'=>by have:=hlenM r hr';lia),λq8 T8 H8 s8 hq8 hr8 hm8=>?_⟩
   refine⟨_,rfl,pr,R,rfl,hRa.ts s8.ts,ndR,by lia,(λr hr'=>by have:=hlen r hr';lia),λq9 T9 H9 s9 hq9 hr9 hm9=>?_⟩
   have eT:=ZGy mo hinR hr8 hm8 hr9 hm9
   obtain⟨ts,hts,hall9,ets⟩:=hq9
   have hT9:∀r∈ts,r.2.length<=3/\AllN SIX r.2:=λr hr'=>by
    have hm:r.2∈T9:=by rw[<-ets];exact AD.mpr ⟨r,hr',rfl⟩
    obtain⟨z,hz',_,e⟩:=(hm9 _).mp hm
    rw[<-e]
    exact⟨(hlen z hz').1,(hinR z hz').1⟩
   have htl:ts.length<=5:=by
    have ndT:T9.Nodup:=hr9.imp λ{a b} z e=>by
     subst e
     have:=HS.ltT_tot _ _ z
     rw[z] at this
     cases this
    have:=ZBJ (P:=T9) (L:=R.map (·.1)) ndT λu hu'=>by
     obtain⟨r,hr',_,e⟩:=(hm9 u).mp hu'
     exact AD.mpr ⟨r,hr',e⟩
    rw[AA,<-ets,AA] at this
    lia
   refine⟨q9,rfl,⟨_,SqT.of hts⟩,λD3 hD3=>?_⟩
   refine ZAs (rs:=ts) (λr=>V.ref r.1) (fr:= [some (.ref d)]) (λr v H'=>∃c,v=V.ref c/\TupA H' c (r.2.map g)) (λr v H1 H2 s h=>let⟨c,e,hc⟩:=h;⟨c,e,s _ _ hc⟩) D3 hD3 (ZAP (SqT.of hts)) (bigl _ (by lia)) ?_ ?_
   ·intro r H10 Rx hr' s10 hR10
    refine⟨_,rfl,_,rfl,d,_,g,some r.2,rfl,hN7.same ((s8.trans s9).trans s10),.inr ⟨_,_,rfl,rfl,s10 _ _ (hall9 r hr')⟩,(λx e=>by cases e;exact⟨by have:=(hT9 r hr').1;lia,(hT9 r hr').2⟩),λw1 H11 s11 hw1=>?_⟩
    obtain⟨c,rfl,hc⟩:=ZCu hw1
    exact hR10 _ H11 s11 ⟨c,rfl,hc⟩
   ·intro H10 ys10 s10 hD10 hp10
    refine⟨D3,ys10,rfl,.inl ⟨SqL.of hD10,λl nl=>?_⟩⟩
    have sl:=Same.new nl (.tup ys10)
    obtain⟨ps,e,hps⟩:=ZDb (Q:=λ(r:Ez×List E3) c=>TupA H10 c (r.2.map g)) hp10
    subst e
    have s811:=(s9.trans s10).trans sl
    have dA:ZAZ K (upd H10 l (.tup (ps.map V.ref))) (.tup (T8.map tupD)) (.ref q8):=by
     obtain⟨rs8,h81,h82,h83⟩:=hq8
     refine⟨q8,_,rfl,SqT.of (s811 _ _ h81),?_⟩
     rw[<-h83,AE]
     exact ZGX λr hr'=>ZBY (s811 _ _ (h82 r hr'))
    have dB:ZAZ K (upd H10 l (.tup (ps.map V.ref))) (.tup (T8.map tupD)) (.ref l):=by
     refine⟨l,_,rfl,SqT.of ZAB,?_⟩
     rw[eT,<-ets,AE,AE]
     exact ZBE hps λr c hc=>ZBY (sl _ _ hc)
    refine⟨_,dA,dB,As (ZAz (n:=1) λu _=>by show Dat.deeps _+1<=1;rw[ZBh];decide) (by decide),?_⟩
    exact q zs7 _ ((s8.trans s811) _ _ hT7) (by lia) (st7.trans (s8.trans s811).stp)
end
def ZJS (K:AB):TE:=tOp (λx y H Q=>∃a b xs ys,x= .ref a/\y= .ref b/\H a=some (.tup xs)/\H b=some (.tup ys)/\xs.length+ys.length<=sizeLine/\∀p H',Same H H'->H' p=some (.tup (xs++ys))->Q (.ref p) H')
 (tTup (ZAW (ZCM ZB8 [] E0 (ZAW (tVar 1) (ZAW (tOp (rIxT K) (tVar 0) (tC (.int 0))) tNil))) tNil))
 (tSl (λx lo hi H Q=>∃a xs,x= .ref a/\H a=some (.tup xs)/\∀p H',Same H H'->H' p=some (.tup (cutV xs lo hi))->Q (.ref p) H') (tVar 0) (tPart (tC (.int 1))) ZJ9)
theorem ZGn {K:AB}{H:Hp}{b a d:Ez}{c:Cl}{g:E3->E3}{R:VK}(hc:ClH H b a c)(hN:NewG false g H d)(h1:c.ad.length<=1000)(h2:AllN SIX c.ad)(q:∀v H',Same H H'->(∃b' a',v=V.ref b'/\ClH H' b' a' (ZBK g c))->R v H'):ZJS K [some (.ref b),some (.ref d)] H R:=by
 refine⟨_,rfl,_,rfl,b,_,_,V.ref a,rfl,rfl,SqT.of hc.1,rfl,d,_,g,some c.ad,rfl,hN,.inr ⟨_,_,rfl,rfl,hc.2⟩,(λu e=>by cases e;exact⟨h1,h2⟩),λw1 H1 s1 hw1=>?_⟩
 obtain⟨a',rfl,ha'⟩:=ZCu hw1
 refine⟨big _ (by simp),λt1 nt1=>?_⟩
 have s2:=Same.new nt1 (.tup [V.ref a'])
 refine⟨_,rfl,_,rfl,b,_,rfl,(s1.trans s2) _ _ hc.1,λt2 H3 s3 ht2=>?_⟩
 have ec:cutV [V.ref a,.int c.ck,.str c.hd,.int c.nm] (some 1) none= [.int c.ck,.str c.hd,.int c.nm]:=ZEH _ 1
 rw[ec] at ht2
 refine⟨t1,t2,_,_,rfl,rfl,s3 _ _ ZAB,ht2,big _ (by simp),λp H4 s4 hp=>?_⟩
 have s14:=(s2.trans s3).trans s4
 exact q _ H4 (s1.trans s14) ⟨p,a',rfl,hp,s14 _ _ ha'⟩
theorem ZLj {g:E3->E3}{H:Hp}:∀{cs:List (Ez×Ez×Cl)} {ys:List V},Paired (λx v=>∃b a,v=V.ref b/\ClH H b a (ZBK g x.2.2)) cs ys->∃cs':List (Ez×Ez×Cl),ys=ZBi cs'/\ZHh H cs'/\cs'.map (·.2.2)=(cs.map (·.2.2)).map (ZBK g)
 |_,_,.nil=>⟨[],rfl,(λx hx=>nomatch hx),rfl⟩
 |_,_,.cons (a:=x) h r=>by
  obtain⟨cs',e1,e2,e3⟩:=ZLj r
  obtain⟨b,a,rfl,hc⟩:=h
  refine⟨(b,a,ZBK g x.2.2)::cs',by rw[e1];rfl,λz hz=>?_,by rw[AR,AR,AR,e3]⟩
  rcases AQ.mp hz with rfl|hz
  ·exact hc
  ·exact e2 z hz
structure Gc35 (A:List Cl):Prop where
 ok:∀c∈A,c.ad≠ []/\c.ad.length<=1000/\AllN SIX c.ad
 len:A.length<=5
theorem Gc35.in' {A:List Cl}(h:Gc35 A):InCl SIX A:=λc hc=>(h.ok c hc).2.2
abbrev P35 (_:Cl):Prop:=True
inductive ZFl (K:AB)(vs:List V)(H:Hp)(Q:VK):Prop
 |mk:∀(a t d:Ez) (ns:List Int) (zs:List V) (f:E3->E3),(vs= [.ref a,.ref t,.ref d])->(Scr K H a ns)->(ns.length<=63)->(H t=some (.lst zs))->(zs.length<30000)->(NewG false f H d)->(Mono f SIX)->(∀(zs':List V) (H':Hp),H' t=some (.lst zs')->zs'.length<=zs.length+200->Stp t H H'->Q (.bl true) H')->ZFl K vs H Q
def ZF1 (K:AB):Sp:=λvs H Q _=>ZFl K vs H Q
theorem ZJ0 {c:Nat}(h:c∈("abcdef":E3).cps.toList):(⟨#[c]⟩:E3)∈SIX:=by
 have e:(("abcdef":E3).cps.toList)= [97,98,99,100,101,102]:=by decide +kernel
 have:∀c∈ [97,98,99,100,101,102],(⟨#[c]⟩:E3)∈SIX:=by decide +kernel
 exact this c (by rw[<-e];exact h)
section
variable {P:E7}{w:FA}{K:AB}{mg:E3->Option E2}{base:E9}{f:Ez}{fd:FJ}
theorem ZBq:ZAS ["_law_script","_law_town","_law_new","_law_hands","_law_k","_law_found","_law_j","_law_address","_law_there","_law_both","_law_other"] ["_law_script","_law_town","_law_new"] (ZAF ZDX):=⟨rfl,rfl,rfl,by decide +kernel,rfl,by decide +kernel,by decide +kernel⟩
theorem ndHH0:(["_law_address","_law_found"]:List E3).Nodup:=by decide +kernel
theorem ndHH1:(["_law_rows_here","_law_new"]:List E3).Nodup:=by decide +kernel
theorem ndHH2:(["_law_row","_law_new"]:List E3).Nodup:=by decide +kernel
theorem ndHH3:(["_law_row","_law_new"]:List E3).Nodup:=by decide +kernel
theorem ndHH4:(["_law_row","_law_new"]:List E3).Nodup:=by decide +kernel
theorem ndHH5:(["_law_address","_law_new"]:List E3).Nodup:=by decide +kernel
theorem ZK5 {k:Nat}(F:Fun K "_law_hands_hold" "_law_hands_hold" ZDX f fd)(G:Blt mg)(hDraw:Has P w K mg base "_law_draw" k ["_law_script","_law_town","_law_many"] (ZE9 K))(hPick:Has P w K mg base "_law_pick" k ["_law_script","_law_town","_law_some"] (ZDo K))
  (hNamed:Has P w K mg base "_law_named" k ["_law_new","_law_address"] ZB8) (hTog:Has P w K mg base "together" k ["one","other"] ZOH) (hSince:Has P w K mg base "since" k ["rows","clock"] ZHp) (hPages:Has P w K mg base "pages_of" k ["rows","number"] ZHq):
  FnOk P w K mg base CX0 (k+1) f fd ["_law_script","_law_town","_law_new"] (ZF1 K):=by
 refine F.ok ZBq (λvs H Q E h=>?_) (λcdv A outer s H vs Q E hr h=>?_)
 ·obtain⟨a,t,d,ns,zs,g,rfl,_⟩:=h
  rfl
 obtain⟨a,t,d,ns,zs,g,rfl,hS,h63,hT,hz,hN,mo,q⟩:=h
 have hu:=ZA9 hr
 refine⟨_,(ZAD (ZAL (i:=3) ZBq.nd rfl (Ag rfl) (ZGt ZAC))
  (ZAD (ZCK PassesOwn.never rfl (ZA6 rfl G.range (ZAA ZAV ZAC)) (ZAK (i:=4) ZBq.nd rfl (Ag rfl))
   (ZAD (ZAL (i:=5) ZBq.nd rfl (Db rfl) ZCD)
   (ZAD (ZCK PassesOwn.never rfl (ZA6 rfl G.range (ZAA (ZAE hDraw hr rfl (ZAA (pv 0) (ZAA (pv 1) (ZAA ZAV ZAC)))) ZAC)) (ZAK (i:=6) ZBq.nd rfl (Ag rfl))
    (ZAD (ZAL (i:=7) ZBq.nd rfl (Ag rfl) (ZAt (ZAA (ZAE hPick hr rfl (ZAA (pv 0) (ZAA (pv 1) (ZAA ZAu ZAC)))) ZAC)))
    (ZAH (ZB9 hu (pv 5) (pv 7) (ZAt (ZAA (pv 7) (ZAA (ZAE hDraw hr rfl (ZAA (pv 0) (ZAA (pv 1) (ZAA ZAV ZAC)))) (ZAA ZAu (ZAA (ZAE hDraw hr rfl (ZAA (pv 0) (ZAA (pv 1) (ZAA ZAV ZAC)))) ZAC))))) rfl))))
   (ZAH (ZGC (ZJl Bo CM CL ZBe (pv 3) (ZAA (ZAI ZAG rfl G.tuple boot_tuple (ZAA (ZAO (te:=(ZDz (tVar 1) (tVar 0))) (xs:= ["_law_address"]) (ys:= ["_law_found"]) (js:= [5]) rfl (by decide +kernel) (by decide +kernel) rfl (by decide +kernel) ⟨rfl,.inl rfl,rfl,trivial⟩
   (ZCC (ZAY (ZCI rfl) rfl G.sorted boot_sorted (ZAA (pv 5) ZAC))) (λ_ _ _ _ _=>(ZAK (i:=0) ndHH0 rfl (Ag rfl) (.inr rfl))) (λ_ _ _ _ _=>ZAb) (λ_ _ _ _ _=>(ZAe hu (pv 1) (pv 0) λ_ _=>rfl))) ZAC)) ZAC)))))))
  (ZAD (ZDB (ix:=8) (te:=(tCB (ZKa K) (ZAW (ZE7 (iTup K (tVar 0)) (ZBg 0) 1 [1] ZC3 (ZJS K)) tNil))) (xs:= ["_law_rows_here"]) (ys:= ["_law_new"]) (js:= [2]) rfl (by decide +kernel) (by decide +kernel) rfl (by decide +kernel) ⟨rfl,.inl rfl,rfl,trivial⟩
   (ZCC (pv 3)) (λ_ _ _ _ _=>(ZAK (i:=0) ndHH1 rfl (Ag rfl) (.inr rfl))) (λ_ _ _ _ _=>ZAb) (λ_ _ _ _ _=>(ZAI ZAG rfl G.tuple boot_tuple (ZAA (ZAO (te:=(ZJS K)) (xs:= ["_law_row"]) (ys:= ["_law_new"]) (js:= [1]) rfl (by decide +kernel) (by decide +kernel) rfl (by decide +kernel) ⟨rfl,.inl rfl,rfl,trivial⟩
   (ZAp (pv 0)) (λ_ _ _ _ _=>(ZAK (i:=0) ndHH2 rfl (Ag rfl) (.inr rfl))) (λ_ _ _ _ _=>ZAb) (λ_ _ _ _ _=>(ZA7 ZCE (ZAt (ZAA (ZAE hNamed hr rfl (ZAA (pv 1) (ZAA (ZAk ZAX (pv 0) ZAV λ_ _=>rfl) ZAC))) ZAC)) (ZBT ZEN (pv 0) (ZCA ZAV) ZCB)))) ZAC))) ZBq.nd rfl (Ag rfl))
  (ZAD (ZKh (i:=9) (j:=10) rfl ZBq.nd rfl rfl (by decide) rfl rfl (ZAA (ZAE hTog hr rfl (ZAA (ZAk ZDf (pv 3) ZAV λ_ _=>rfl) (ZAA (ZAk ZDf (pv 3) ZAV λ_ _=>rfl) ZAC))) (ZAA (ZAE hTog hr rfl (ZAA (ZAk ZDf (pv 8) ZAV λ_ _=>rfl) (ZAA (ZAk ZDf (pv 8) ZAV λ_ _=>rfl) ZAC))) ZAC)) rfl)
  (ZAD (ZBc (ZAc (ZEV (hu8 hr)) (pv 10) (ZAI ZAG rfl G.tuple boot_tuple (ZAA (ZAO (te:=(ZJS K)) (xs:= ["_law_row"]) (ys:= ["_law_new"]) (js:= [2]) rfl (by decide +kernel) (by decide +kernel) rfl (by decide +kernel) ⟨rfl,.inl rfl,rfl,trivial⟩
   (ZAp (pv 9)) (λ_ _ _ _ _=>(ZAK (i:=0) ndHH3 rfl (Ag rfl) (.inr rfl))) (λ_ _ _ _ _=>ZAb) (λ_ _ _ _ _=>(ZA7 ZCE (ZAt (ZAA (ZAE hNamed hr rfl (ZAA (pv 1) (ZAA (ZAk ZAX (pv 0) ZAV λ_ _=>rfl) ZAC))) ZAC)) (ZBT ZEN (pv 0) (ZCA ZAV) ZCB)))) ZAC)) (ZAm _)) ZAo ZAg)
  (ZAD (ZBc (ZAc (ZEV (hu8 hr)) (ZAE hSince hr rfl (ZAA (pv 10) (ZAA ZAV ZAC))) (ZAI ZAG rfl G.tuple boot_tuple (ZAA (ZAO (te:=(ZJS K)) (xs:= ["_law_row"]) (ys:= ["_law_new"]) (js:= [2]) rfl (by decide +kernel) (by decide +kernel) rfl (by decide +kernel) ⟨rfl,.inl rfl,rfl,trivial⟩
   (ZAp (ZAE hSince hr rfl (ZAA (pv 9) (ZAA ZAV ZAC)))) (λ_ _ _ _ _=>(ZAK (i:=0) ndHH4 rfl (Ag rfl) (.inr rfl))) (λ_ _ _ _ _=>ZAb) (λ_ _ _ _ _=>(ZA7 ZCE (ZAt (ZAA (ZAE hNamed hr rfl (ZAA (pv 1) (ZAA (ZAk ZAX (pv 0) ZAV λ_ _=>rfl) ZAC))) ZAC)) (ZBT ZEN (pv 0) (ZCA ZAV) ZCB)))) ZAC)) (ZAm _)) ZAo ZAg)
  (ZAH (ZAT (ZGG (ZNY (hu8 hr)) (ZAE hPages hr rfl (ZAA (pv 10) (ZAA ZAV ZAC))) (ZAI ZAG rfl G.tuple boot_tuple (ZAA (ZAO (te:=(ZCM ZB8 [] E0 (ZAW (tVar 1) (ZAW (tVar 0) tNil)))) (xs:= ["_law_address"]) (ys:= ["_law_new"]) (js:= [2]) rfl (by decide +kernel) (by decide +kernel) rfl (by decide +kernel) ⟨rfl,.inl rfl,rfl,trivial⟩
   (ZAp (ZAE hPages hr rfl (ZAA (pv 9) (ZAA ZAV ZAC)))) (λ_ _ _ _ _=>(ZAK (i:=0) ndHH5 rfl (Ag rfl) (.inr rfl))) (λ_ _ _ _ _=>ZAb) (λ_ _ _ _ _=>(ZAE hNamed hr rfl (ZAA (pv 1) (ZAA (pv 0) ZAC))))) ZAC)) (ZAm _)))))))))),?_⟩
 refine⟨big _ (by simp),λhl nhl=>?_⟩
 have s0:=Same.new nhl (.lst ([]:List V))
 have hhl0:(upd H hl (.lst ([]:List V)):Hp) hl=some (.lst (([]:List Ez).map V.ref)):=ZAB
 have hlt:hl≠t:=(ZAJ hT nhl).symm
 have hHl:H hl=none:=nhl
 generalize (upd H hl (.lst ([]:List V)):Hp)=H0 at*
 have hT0:=s0 _ _ hT
 refine⟨2,rfl,by decide,by decide,?_⟩
 refine ZBy (n:=2) (λj Z H'=>∃(v4 v5 v6 v7 v8 v9 v10:Option V) (ps:List Ez) (zs':List V),Z= [some (.ref a),some (.ref t),some (.ref d),some (.ref hl),v4,v5,v6,v7,v8,v9,v10]/\H' t=some (.lst zs')/\zs'.length<=zs.length+20*j/\Stp t H H'/\H' hl=some (.lst (ps.map V.ref))/\ps.length=j/\∀p∈ps,∃A,ClsAt H' p A/\Gc35 A)
  ⟨_,_,_,_,_,_,_,[],_,rfl,hT0,by simp,s0.stp,hhl0,rfl,λp hp=>nomatch hp⟩ ?_ ?_
 ·rintro j Z H1 hj ⟨v4,v5,v6,v7,v8,v9,v10,ps,zs1,rfl,hT1,hz1,st1,hhl1,hpl,hps1⟩
  intro fo nf
  have s2:=Same.new nf (.dT [])
  have hf2:(upd H1 fo (.dT []):Hp) fo=some (.dT []):=ZAB
  have hft:fo≠t:=(ZAJ hT1 nf).symm
  have hfhl:fo≠hl:=λe=>by rw[e,hhl1] at nf;cases nf
  have hH1f:H1 fo=none:=nf
  generalize (upd H1 fo (.dT []):Hp)=H2 at*
  have hT2:=s2 _ _ hT1
  have st02:Stp t H H2:=st1.trans s2.stp
  refine⟨_,rfl,_,rfl,a,t,ns,zs1,5,rfl,hS.stp hT st02,h63,hT2,by lia,by decide,λmm H3 hm0 hm1 hT3 st3=>?_⟩
  refine⟨mm,rfl,by lia,by lia,?_⟩
  have hHf:H fo=none:=by
   cases hh:H fo with
   |none=>rfl
   |some o=>rw[st1 _ _ hft hh] at hH1f;cases hH1f
  refine ZBy (n:=mm.toNat) (λi Z H'=>∃(v4' v6' v7':Option V) (us:List (List E3)) (zs':List V),Z= [some (.ref a),some (.ref t),some (.ref d),some (.ref hl),v4',some (.ref fo),v6',v7',v8,v9,v10]/\H' t=some (.lst zs')/\zs'.length<=zs.length+20*j+1+3*i/\Stp t H1 H'/\ZC2 H' fo us P35/\us.length<=i/\∀u∈us,u≠ []/\u.length<=1000/\AllN SIX u)
   ⟨_,_,_,[],_,rfl,hT3,by simp;lia,s2.stp.trans st3,ZC2.nil (st3 _ _ hft hf2),AK _,(λu hu'=>by cases hu')⟩ ?_ ?_
  ·rintro i Z H4 hi ⟨v4',v6',v7',us,zs4,rfl,hT4,hz4,st4,hG4,hul,hun⟩
   have st04:Stp t H H4:=st1.trans st4
   have hS4:=hS.stp hT st04
   refine⟨_,rfl,_,rfl,a,t,ns,zs4,hS4,h63,hT4,by lia,.inr ⟨"abcdef",rfl,by decide +kernel,by decide +kernel,λch H5 hch hT5 st5=>?_⟩⟩
   have hx6:=ZJ0 hch
   have ts5:=st5.ts hT4
   have hG5:=hG4.ts ts5 λkvs e=>st5 _ _ hft e
   generalize (⟨#[ch]⟩:E3)=z1 at*
   refine⟨big _ (by simp),λad nad=>?_⟩
   have s6:=Same.new nad (.tup [V.str z1])
   have had6:TupA (upd H5 ad (.tup [V.str z1])) ad [z1]:=ZAB
   generalize (upd H5 ad (.tup [V.str z1]):Hp)=H6 at*
   have st06:Stp t H H6:=(st04.trans st5).trans s6.stp
   have hT6:=s6 _ _ hT5
   refine⟨_,rfl,_,rfl,_,rfl,a,t,ns,_,4,rfl,hS.stp hT st06,h63,hT6,by simp;lia,by decide,λck H7 hc0 hc1 hT7 st7=>?_⟩
   have ts7:=st7.ts hT6
   have st07:=st06.trans st7
   refine⟨_,rfl,_,rfl,a,t,ns,_,3,rfl,hS.stp hT st07,h63,hT7,by simp;lia,by decide,λnm H8 hn0 hn1 hT8 st8=>?_⟩
   have ts8:=st8.ts hT7
   have st08:=st07.trans st8
   refine⟨big _ (by simp),λb nb=>?_⟩
   have s9:=Same.new nb (.tup [V.ref ad,V.int ck,V.str "h",V.int nm])
   have hb9:(upd H8 b (.tup [V.ref ad,V.int ck,V.str "h",V.int nm]):Hp) b=some (.tup [V.ref ad,V.int ck,V.str "h",V.int nm]):=ZAB
   generalize (upd H8 b (.tup [V.ref ad,V.int ck,V.str "h",V.int nm]):Hp)=H9 at*
   have hG9:=(((hG5.same s6).ts ts7 λkvs e=>st7 _ _ hft e).ts ts8 λkvs e=>st8 _ _ hft e).same s9
   have hcl:ClH H9 b ad ⟨[z1],ck,"h",nm⟩:=⟨hb9,s9 _ _ (ts8 _ _ (ts7 _ _ had6))⟩
   obtain⟨o,hput,hG10⟩:=hG9.put hcl trivial (by lia)
   refine⟨_,rfl,_,rfl,fo,_,rfl,hput,?_⟩
   refine⟨_,_,_,_,_,rfl,by rw[ZAN hft.symm];exact s9 _ _ hT8,by simp;lia,λx o' hx ex=>?_,hG10,?_,λz hz'=>?_⟩
   ·rw[ZAN (ZAJ ex hH1f)]
    exact s9 _ _ (st8 _ _ hx (st7 _ _ hx (s6 _ _ (st5 _ _ hx (st4 _ _ hx ex)))))
   ·show(if[z1]∈us then us else us++ [[z1]]).length<=i+1
    by_cases c: [z1]∈us
    ·rw[if_pos c];lia
    ·rw[if_neg c,AW,Ai];lia
   ·have hz'':z∈(if[z1]∈us then us else us++ [[z1]]):=hz'
    have one:([z1]:List E3)≠ []/\([z1]:List E3).length<=1000/\AllN SIX [z1]:=⟨(λe=>nomatch e),by simp,λy hy=>by rw[AF.mp hy];exact hx6⟩
    by_cases c: [z1]∈us
    ·rw[if_pos c] at hz'';exact hun z hz''
    ·rw[if_neg c] at hz''
     rcases AY.mp hz'' with h|h
     ·exact hun z h
     ·rw[AF.mp h];exact one
  ·rintro Z H4 ⟨v4',v6',v7',us,zs4,rfl,hT4,hz4,st4,hG4,hul,hun⟩
   obtain⟨kvs0,hdk,hkeys,ndu,_⟩:=id hG4
   have hhl4:=st4 _ _ hlt hhl1
   refine⟨_,rfl,.inl ⟨rfl,_,SqL.of hhl4⟩,_,rfl,fo,us,rfl,⟨kvs0,.inl hdk,hkeys⟩,by lia,(λu hu'=>(hun u hu').1),λl rs nl hp hH hs=>?_⟩
   have s5:=Same.new nl (.lst (rs.map λr=>V.ref r.1))
   have hl5:(upd H4 l (.lst (rs.map λr=>V.ref r.1)):Hp) l=some (.lst (rs.map λr=>V.ref r.1)):=ZAB
   have hG5:=hG4.same s5
   have hH5:∀r∈rs,(upd H4 l (.lst (rs.map λr=>V.ref r.1)):Hp) r.1=some (.tup (r.2.map V.str)):=λr hr'=>s5 _ _ (hH r hr')
   generalize (upd H4 l (.lst (rs.map λr=>V.ref r.1)):Hp)=H5 at*
   have hrl:rs.length<=5:=by have:=hp.length_eq;rw[AA] at this;lia
   refine⟨l,rfl,⟨_,SqL.of hl5⟩,λD hD=>?_⟩
   refine ZB0 (xs:=rs.map λr=>V.ref r.1) (fr:= [some (.ref fo)]) (λx v H'=>∃r:Ez×List E3,x=V.ref r.1/\H' r.1=some (.tup (r.2.map V.str))/\∃b a c',v=V.ref b/\ClH H' b a c'/\P35 c'/\c'.ad=r.2) (λx v H H' s h=>?_) D hD (ZAv (SqL.of hl5)) (bigl _ (by rw[AA];lia)) ?_ ?_
   ·obtain⟨r,e,h1,b,a,c,e2,h2,h3⟩:=h
    exact⟨r,e,s _ _ h1,b,a,c,e2,h2.ts s,h3⟩
   ·intro x H6 Rr hx s6 hR6
    obtain⟨r,hr',rfl⟩:=AD.mp hx
    have hr6:=s6 _ _ (hH5 r hr')
    have hin:r.2∈us:=hp.mem_iff.mp (AD.mpr ⟨r,hr',rfl⟩)
    obtain⟨b,a',m,hget,hcm,hma,hm0'⟩:=(hG5.same s6).get hin hr6
    exact⟨_,rfl,_,rfl,fo,V.ref b,rfl,hget,hR6 _ _ (Same.refl _) ⟨r,rfl,hr6,b,a',m,rfl,hcm,hm0',hma⟩⟩
   ·intro H6 ys s6 hD6 hp6
    obtain⟨cs2,rfl,hc2,ec2,hck⟩:=ZGN (Pc:=P35) hp6 λr hr'=>s6 _ _ (hH5 r hr')
    refine⟨D,_,rfl,.inl ⟨SqL.of hD6,λq2 nq2=>?_⟩⟩
    have s7:=Same.new nq2 (.tup (ZBi cs2))
    have hq7:ClsAt (upd H6 q2 (.tup (ZBi cs2))) q2 (cs2.map (·.2.2)):=⟨cs2,ZAB,hc2.ts s7.ts,rfl⟩
    generalize (upd H6 q2 (.tup (ZBi cs2)):Hp)=H7 at*
    have s47:=(s5.trans s6).trans s7
    have hhl7:=s47 _ _ hhl4
    have hcl:cs2.length=rs.length:=by have:=congrArg Ay ec2;rw[AA,AA] at this;exact this
    have hg7:Gc35 (cs2.map (·.2.2)):=⟨λc hc=>by
     obtain⟨x,hx,rfl⟩:=AD.mp hc
     have:x.2.2.ad∈rs.map (·.2):=by rw[<-ec2];exact AD.mpr ⟨x,hx,rfl⟩
     exact hun _ (hp.mem_iff.mp this),by rw[AA];lia⟩
    refine⟨hl,_,_,rfl,rfl,hhl7,bigl _ (by rw[AA];lia),?_⟩
    have tl:TS' H7 (upd H7 hl (.lst (ps.map V.ref++ [V.ref q2]))):=λb xs e=>by
     rw[ZAN (λz=>by rw[z,hhl7] at e;cases e)]
     exact e
    refine⟨_,_,_,_,_,_,_,ps++ [q2],zs4,rfl,by rw[ZAN hlt.symm];exact s47 _ _ hT4,by lia,λx o' hx ex=>?_,by rw[ZAB,AX];rfl,by rw[AW,Ai,hpl],λp hp'=>?_⟩
    ·rw[ZAN (ZAJ ex hHl)]
     exact s47 _ _ (st4 _ _ hx (st1 _ _ hx ex))
    ·rcases AY.mp hp' with hp'|hp'
     ·obtain⟨A',hA',gA'⟩:=hps1 p hp'
      exact⟨A',((hA'.ts (st4.ts hT1)).ts s47.ts).ts tl,gA'⟩
     ·rw[AF.mp hp']
      exact⟨_,hq7.ts tl,hg7⟩
 ·rintro Z H1 ⟨v4,v5,v6,v7,v8,v9,v10,ps,zs1,rfl,hT1,hz1,st1,hhl1,hpl,hps1⟩
  obtain⟨p0,p1,rfl⟩:∃p0 p1,ps= [p0,p1]:=by
   cases ps with
   |nil=>simp at hpl
   |cons p0 r=>cases r with
    |nil=>simp at hpl
    |cons p1 r=>cases r with
     |nil=>exact⟨p0,p1,rfl⟩
     |cons _ _=>simp at hpl
  obtain⟨A0,hA0,gA0⟩:=hps1 p0 (by simp)
  obtain⟨A1,hA1,gA1⟩:=hps1 p1 (by simp)
  have hN1:=hN.stp st1 hT
  --by other names
  refine⟨_,rfl,hl,rfl,⟨_,SqL.of hhl1⟩,λD hD=>?_⟩
  refine ZAs (rs:= [(p0,A0),(p1,A1)]) (λr=>V.ref r.1) (fr:= [some (.ref d)]) (λr v H'=>∃c,v=V.ref c/\ClsAt H' c (r.2.map (ZBK g))) (λr v H1 H2 s h=>let⟨c,e,hc⟩:=h;⟨c,e,hc.ts s⟩) D hD (ZAv (SqL.of hhl1)) (bigl _ (by simp)) ?_ ?_
  ·intro r H2 Rr hr' s2 hR2
   obtain⟨hAr,gAr⟩:ClsAt H1 r.1 r.2/\Gc35 r.2:=by
    simp only[AQ,List.not_mem_nil,or_false] at hr'
    rcases hr' with rfl|rfl
    ·exact⟨hA0,gA0⟩
    ·exact⟨hA1,gA1⟩
   obtain⟨cs,hcs,hin,ecs⟩:=hAr.ts s2.ts
   have hcl:cs.length<=5:=by have:=gAr.len;rw[<-ecs,AA] at this;exact this
   have hok:∀x∈cs,x.2.2.ad.length<=1000/\AllN SIX x.2.2.ad:=λx hx=>(gAr.ok x.2.2 (by rw[<-ecs];exact AD.mpr ⟨x,hx,rfl⟩)).2
   refine⟨_,rfl,r.1,rfl,⟨_,SqT.of hcs⟩,λD2 hD2=>?_⟩
   refine ZAs (rs:=cs) (λx=>V.ref x.1) (fr:= [some (.ref d)]) (λx v H'=>∃b a,v=V.ref b/\ClH H' b a (ZBK g x.2.2)) (λx v H1 H2 s h=>let⟨b,a,e,hc⟩:=h;⟨b,a,e,hc.ts s⟩) D2 hD2 (ZAP (SqT.of hcs)) (bigl _ (by lia)) ?_ ?_
   ·intro x H3 Rx hx s3 hR3
    exact ZGn ((hin x hx).ts s3.ts) (hN1.same (s2.trans s3)) (hok x hx).1 (hok x hx).2 hR3
   ·intro H3 ys s3 hD3 hp3
    obtain⟨cs',rfl,hin',ecs'⟩:=ZLj hp3
    refine⟨D2,_,rfl,.inl ⟨SqL.of hD3,λl nl=>?_⟩⟩
    have sl:=Same.new nl (.tup (ZBi cs'))
    exact hR2 _ _ (s3.trans sl) ⟨l,rfl,cs',ZAB,hin'.ts sl.ts,by rw[ecs',ecs]⟩
  intro H2 ys s2 hD2 hp2
  obtain⟨pt0,pt1,rfl,hB0,hB1⟩:∃pt0 pt1,ys= [V.ref pt0,V.ref pt1]/\ClsAt H2 pt0 (A0.map (ZBK g))/\ClsAt H2 pt1 (A1.map (ZBK g)):=by
   cases hp2 with
   |cons h1 r1=>cases r1 with
    |cons h2 r2=>
     cases r2
     obtain⟨c0,rfl,k0⟩:=h1
     obtain⟨c1,rfl,k1⟩:=h2
     exact⟨c0,c1,rfl,k0,k1⟩
  have hhl2:=s2 _ _ hhl1
  have hA02:=hA0.ts s2.ts
  have hA12:=hA1.ts s2.ts
  have hne:∀c∈A0++A1,c.ad≠ []:=λc hc=>(AY.mp hc).elim (λh=>(gA0.ok c h).1) λh=>(gA1.ok c h).1
  have hinA:InCl SIX (A0++A1):=λc hc=>(AY.mp hc).elim (gA0.in' c) (gA1.in' c)
  have hneM:∀c∈A0.map (ZBK g)++A1.map (ZBK g),c.ad≠ []:=λc hc=>by
   rw[<-AX] at hc
   obtain⟨z,hz',rfl⟩:=AD.mp hc
   exactλe=>hne z hz' (by simpa[ZBK] using e)
  have hl0:=gA0.len
  have hl1:=gA1.len
  refine⟨_,rfl,hl,_,_,V.ref p0,rfl,rfl,SqL.of hhl2,rfl,_,rfl,hl,_,_,V.ref p1,rfl,rfl,SqL.of hhl2,rfl,p0,p1,A0,A1,rfl,hA02,hA12,by lia,hne,λpb B H3 s3 hB tgB=>?_⟩
  have hDl3:=s3 _ _ hD2
  refine⟨_,rfl,D,_,_,V.ref pt0,rfl,rfl,SqL.of hDl3,rfl,_,rfl,D,_,_,V.ref pt1,rfl,rfl,SqL.of hDl3,rfl,pt0,pt1,_,_,rfl,hB0.ts s3.ts,hB1.ts s3.ts,by rw[AA,AA];lia,hneM,λpo C H4 s4 hC tgC=>?_⟩
  refine⟨_,_,rfl,?_⟩
  rw[<-AX] at tgC
  have eC:C=B.map (ZBK g):=ZOC mo hinA tgC tgB
  have hinB:InCl SIX B:=ZNO hinA tgB
  have hokB:∀c∈B,c.ad≠ []/\c.ad.length<=1000/\AllN SIX c.ad:=λc hc=>by
   have:=((tgB.mem c).mp hc).1
   exact(AY.mp this).elim (gA0.ok c) (gA1.ok c)
  have hBl:B.length<=10:=by
   have ndB:B.Nodup:=tgB.rise.imp λ{a b} z e=>by
    subst e
    have:=HS.ltT_tot _ _ z
    rw[z] at this
    cases this
   have:=ZBJ (P:=B) (L:=A0++A1) ndB λc hc=>((tgB.mem c).mp hc).1
   rw[AW] at this
   lia
  subst eC
  have hB4:=hB.ts s4.ts
  have s14:=(s2.trans s3).trans s4
  have hN4:=hN1.same s14
  have hT4:=s14 _ _ hT1
  have rowsN:∀(p:Ez) (L:List Cl) (H5:Hp) (D5:Ez) (QD:Hp->Prop),Same H4 H5->ClsAt H5 p L->(∀c∈L,c∈B)->L.length<=10->H5 D5=none->(∀H6 cs',Same H5 H6->H6 D5=some (.lst (ZBi cs'))->ZHh H6 cs'->cs'.map (·.2.2)=L.map (ZBK g)->QD H6)->
    ∃(cs:List (Ez×Ez×Cl)),H5 p=some (.tup (ZBi cs))/\∃W:Nat->Nat->List V->Hp->Prop,(∃m,W 0 m [] (upd H5 D5 (.lst [])))/\∀i m ys H2,W i m ys H2->H2 D5=some (.lst ys)/\
     (((Itt K p).stop i H2/\QD H2)\/((Itt K p).go i H2/\∀x H3,(Itt K p).yld i H2 x H3->∀pre:St,pre.length=1->ZBg 0 x (pre++ [some (.ref d)]) H3 λZ4 H4=>(∃pre':St,pre'.length=1/\Z4=pre'++ [some (.ref d)])/\
      ZC3 Z4 H4 λb H5=>if b=true then ZJS K Z4 H5 (λy H6=>H6 D5=some (.lst ys)/\ys.length<sizeLine/\∃m',m'<m/\W (i+1) m' (ys++ [y]) (upd H6 D5 (.lst (ys++ [y])))) else∃m',m'<m/\W (i+1) m' ys H5)):=by
   intro p L H5 D5 QD s5 hL hsub hLl hD5 hq
   obtain⟨cs,hcs,hin,ecs⟩:=hL
   have hcl:cs.length<=10:=by rw[<-ecs,AA] at hLl;exact hLl
   have hok:∀x∈cs,x.2.2.ad.length<=1000/\AllN SIX x.2.2.ad:=λx hx=>(hokB x.2.2 (hsub _ (by rw[<-ecs];exact AD.mpr ⟨x,hx,rfl⟩))).2
   refine⟨cs,hcs,ZAs (rs:=cs) (λx=>V.ref x.1) (fr:= [some (.ref d)]) (λx v H'=>∃b a,v=V.ref b/\ClH H' b a (ZBK g x.2.2)) (λx v H1 H2 s h=>let⟨b,a,e,hc⟩:=h;⟨b,a,e,hc.ts s⟩) D5 hD5 (ZAP (SqT.of hcs)) (bigl _ (by lia)) ?_ ?_⟩
   ·intro x H6 Rx hx s6 hR6
    exact ZGn ((hin x hx).ts s6.ts) (hN4.same (s5.trans s6)) (hok x hx).1 (hok x hx).2 hR6
   ·intro H6 ys s6 hD6 hp6
    obtain⟨cs',rfl,hin',ecs'⟩:=ZLj hp6
    exact hq H6 cs' s6 hD6 hin' (by rw[ecs',ecs])
  --both
  obtain⟨csB,hcsB,_⟩:=id hB4
  refine⟨_,rfl,_,rfl,pb,rfl,⟨_,SqT.of hcsB⟩,λD5 hD5=>?_⟩
  refine(rowsN pb B H4 D5 _ (Same.refl _) hB4 (λc hc=>hc) hBl hD5 λH6 cs6 s6 hD6 hin6 e6=>?_).choose_spec.2
  refine⟨D5,_,rfl,.inl ⟨SqL.of hD6,λl7 nl7=>?_⟩⟩
  have s7:=Same.new nl7 (.tup (ZBi cs6))
  have hl7:ClsAt (upd H6 l7 (.tup (ZBi cs6))) l7 (B.map (ZBK g)):=⟨cs6,ZAB,hin6.ts s7.ts,e6⟩
  generalize (upd H6 l7 (.tup (ZBi cs6)):Hp)=H7 at*
  have s47:=s6.trans s7
  refine⟨_,ZGW (hC.ts s47.ts),ZGW hl7,As (ZI0 _) (by decide),_,rfl,iteF ?_⟩
  --since
  have hMl:(B.map (ZBK g)).length<=10:=by rw[AA];exact hBl
  refine⟨_,rfl,po,1,_,rfl,hC.ts s47.ts,by lia,λp8 H8 s8 hp8=>?_⟩
  rw[ZKK] at hp8
  refine⟨_,rfl,pb,1,B,rfl,hB4.ts (s47.trans s8).ts,by lia,λp9 H9 s9 hp9=>?_⟩
  have s49:=(s47.trans s8).trans s9
  have hFl:(B.filter λc=>decide ((1:Int)<c.ck)).length<=10:=As (Ap _ _) hBl
  obtain⟨cs9,hcs9,_⟩:=id hp9
  refine⟨p9,rfl,⟨_,SqT.of hcs9⟩,λD10 hD10=>?_⟩
  refine(rowsN p9 _ H9 D10 _ s49 hp9 (λc hc=>(Ao.mp hc).1) hFl hD10 λH11 cs11 s11 hD11 hin11 e11=>?_).choose_spec.2
  refine⟨D10,_,rfl,.inl ⟨SqL.of hD11,λl12 nl12=>?_⟩⟩
  have s12:=Same.new nl12 (.tup (ZBi cs11))
  have hl12:ClsAt (upd H11 l12 (.tup (ZBi cs11))) l12 ((B.filter λc=>decide ((1:Int)<c.ck)).map (ZBK g)):=⟨cs11,ZAB,hin11.ts s12.ts,e11⟩
  generalize (upd H11 l12 (.tup (ZBi cs11)):Hp)=H12 at*
  have s812:=(s9.trans s11).trans s12
  have s412:=(s47.trans s8).trans s812
  refine⟨_,ZGW (hp8.ts s812.ts),ZGW hl12,As (ZI0 _) (by decide),_,rfl,iteF ?_⟩
  --pages_of
  refine⟨_,rfl,po,1,_,rfl,hC.ts s412.ts,by lia,(λc hc=>?_),tgC.rise,λp13 H13 s13 hp13=>?_⟩
  ·obtain⟨z,hz',rfl⟩:=AD.mp hc
   exactλe=>(hokB z hz').1 (by simpa[ZBK] using e)
  rw[ZKr] at hp13
  refine⟨_,rfl,pb,1,B,rfl,hB4.ts (s412.trans s13).ts,by lia,(λc hc=>(hokB c hc).1),tgB.rise,λp14 H14 s14' hp14=>?_⟩
  obtain⟨ts,hts,hall14,ets⟩:=hp14
  have hts14:∀r∈ts,r.2.length<=1000/\AllN SIX r.2:=λr hr'=>by
   have hm:r.2∈(B.filter λc=>decide (c.nm=1)).map (·.ad):=by rw[<-ets];exact AD.mpr ⟨r,hr',rfl⟩
   obtain⟨c,hc,e⟩:=AD.mp hm
   rw[<-e]
   exact(hokB c (Ao.mp hc).1).2
  have htl:ts.length<=10:=by
   have e:=congrArg Ay ets
   rw[AA,AA] at e
   have:=Ap (λc:Cl=>decide (c.nm=1)) B
   lia
  have s414:=(s412.trans s13).trans s14'
  refine⟨p14,rfl,⟨_,SqT.of hts⟩,λD15 hD15=>?_⟩
  refine ZAs (rs:=ts) (λr=>V.ref r.1) (fr:= [some (.ref d)]) (λr v H'=>∃c,v=V.ref c/\TupA H' c (r.2.map g)) (λr v H1 H2 s h=>let⟨c,e,hc⟩:=h;⟨c,e,s _ _ hc⟩) D15 hD15 (ZAP (SqT.of hts)) (bigl _ (by lia)) ?_ ?_
  ·intro r H16 Rx hr' s16 hR16
   refine⟨_,rfl,_,rfl,d,_,g,some r.2,rfl,hN4.same (s414.trans s16),.inr ⟨_,_,rfl,rfl,s16 _ _ (hall14 r hr')⟩,(λx e=>by cases e;exact hts14 r hr'),λw1 H17 s17 hw1=>?_⟩
   obtain⟨c,rfl,hc⟩:=ZCu hw1
   exact hR16 _ H17 s17 ⟨c,rfl,hc⟩
  ·intro H16 ys16 s16 hD16 hp16
   refine⟨D15,ys16,rfl,.inl ⟨SqL.of hD16,λl nl=>?_⟩⟩
   have sl:=Same.new nl (.tup ys16)
   obtain⟨ps,e,hps⟩:=ZDb (Q:=λ(r:Ez×List E3) c=>TupA H16 c (r.2.map g)) hp16
   subst e
   have s1317:=(s14'.trans s16).trans sl
   have dA:ZAZ K (upd H16 l (.tup (ps.map V.ref))) (.tup ((((B.filter λc=>decide (c.nm=1)).map (·.ad)).map λu=>u.map g).map tupD)) (.ref p13):=by
    obtain⟨rs8,h81,h82,h83⟩:=hp13
    refine⟨p13,_,rfl,SqT.of (s1317 _ _ h81),?_⟩
    rw[<-h83,AE]
    exact ZGX λr hr'=>ZBY (s1317 _ _ (h82 r hr'))
   have dB:ZAZ K (upd H16 l (.tup (ps.map V.ref))) (.tup ((((B.filter λc=>decide (c.nm=1)).map (·.ad)).map λu=>u.map g).map tupD)) (.ref l):=by
    refine⟨l,_,rfl,SqT.of ZAB,?_⟩
    rw[<-ets,AE,AE]
    exact ZBE hps λr c hc=>ZBY (sl _ _ hc)
   refine⟨_,dA,dB,As (ZAz (n:=1) λu _=>by show Dat.deeps _+1<=1;rw[ZBh];decide) (by decide),?_⟩
   have s4E:=(s412.trans s13).trans s1317
   exact q zs1 _ (s4E _ _ hT4) (by lia) (st1.trans (s14.trans s4E).stp)
end
def fNew (x:E3):E3:=if x="a" then "b2" else if x="b" then "c" else if x="c" then "k-k" else if x="d" then "x" else if x="e" then "y9" else if x="f" then "zz" else x
abbrev sixV:List V:= [.str "b2",.str "c",.str "k-k",.str "x",.str "y9",.str "zz"]
theorem ZEj:Mono fNew SIX:=by
 have:∀x∈SIX,∀y∈SIX,HS.ltS (fNew x) (fNew y)=HS.ltS x y:=by decide +kernel
 exact this
theorem ZOw:Mono id SIX:=λx _ y _=>rfl
theorem ZNN {x:E3}(h:(decide (x.length<=100)&&x.cps.toList.all λc=>decide (c<16 ^ 8))=true):Txt1 x:=by
 rw[BK,List.all_eq_true] at h
 exact⟨of_decide_eq_true h.1,λc hc=>of_decide_eq_true (h.2 c hc)⟩
theorem ZHt:∀x∈SIX,Txt1 x/\Txt1 (fNew x):=λx hx=>by
 have:∀x∈SIX,(decide (x.length<=100)&&x.cps.toList.all λc=>decide (c<16 ^ 8))=true/\(decide ((fNew x).length<=100)&&(fNew x).cps.toList.all λc=>decide (c<16 ^ 8))=true:=by decide +kernel
 exact⟨ZNN (this x hx).1,ZNN (this x hx).2⟩
theorem ZME:∀x∈SIX,valV (ZAw [] (zipK "abcdef" sixV)) (AH x)=some (V.str (fNew x)):=by decide +kernel
theorem ZDr:∀{B A:List (Key×V)},((A++B).map (·.1)).Nodup->ZAw A B=A++B
 | [],A,_=>by rw[A5];rfl
 |p::B,A,h=>by
  have hp:valV A p.1=none:=ZDn λz=>by
   rw[AX,Aw] at h
   exact h.2.2 p.1 z p.1 (by simp) rfl
  show ZAw (putK A p.1 p.2) B=_
  rw[ZD9 _ hp,ZDr (by rw[BX];exact h),BX]
  rfl
theorem ZKJ:(signs "abcdef")=SIX:=by decide +kernel
theorem ZJ8 {H:Hp}:Tells (Its "abcdef") H (SIX.map V.str):=by
 have hl:("abcdef":E3).length=6:=by decide +kernel
 refine⟨λH2 i sm hi=>?_,λH2 i x H3 sm y=>?_,λH2 sm=>?_⟩
 ·show i<("abcdef":E3).length
  rw[hl];exact hi
 ·obtain⟨e,c,hc,rfl⟩:=y
  refine⟨e,?_⟩
  have h1:(signs "abcdef")[i]?=some ⟨#[c]⟩:=by unfold signs;rw[AS,A8,hc];rfl
  rw[ZKJ] at h1
  rw[AS,h1]
  rfl
 ·show(SIX.map V.str).length=("abcdef":E3).length
  rw[hl];rfl
theorem ZI5 {K:AB}{H:Hp}:∀{L:List E3} {ys:List V},Paired (λx v=>∃b,v=V.ref b/\∃c,H b=some (.tup [V.str x,V.ref c])/\NmT H c x) L ys->∃kvs:List (Key×V),ZFY K H ys kvs/\kvs.map (·.1)=L.map AH/\∀x∈L,∃c,valV kvs (AH x)=some (.ref c)/\NmT H c x
 |_,_,.nil=>⟨[],.nil,rfl,λx hx=>nomatch hx⟩
 |_,_,.cons (a:=x) h r=>by
  obtain⟨kvs,h1,h2,h3⟩:=ZI5 r
  obtain⟨b,rfl,c,hb,hc⟩:=h
  refine⟨(AH x,V.ref c)::kvs,.cons ⟨b,rfl,SqT.of hb⟩ h1,by rw[AR,AR,h2],λy hy=>?_⟩
  by_cases e:x=y
  ·subst e
   exact⟨c,ZAn rfl,hc⟩
  ·rcases AQ.mp hy with rfl|hy
   ·exact absurd rfl e
   ·obtain⟨c',k1,k2⟩:=h3 y hy
    exact⟨c',by rw[ZAj (λz=>e (Cp z))];exact k1,k2⟩
theorem six_nd:(SIX.map AH:List Key).Nodup:=by decide +kernel
section
variable {P:E7}{w:FA}{K:AB}{mg:E3->Option E2}{base:E9}{f:Ez}{fd:FJ}
theorem ZJV:ZAS ["_law_script","_law_town","_law_k","_law_rows_here","_law_new","_law_alone"] ["_law_script"] (ZAF sLaw):=⟨rfl,rfl,rfl,by decide +kernel,rfl,by decide +kernel,by decide +kernel⟩
theorem ndLW0:(["_law_name"]:List E3).Nodup:=by decide +kernel
theorem ok_law {k:Nat}(F:Fun K "law" "law" sLaw f fd)(G:Blt mg)(hzip:mg "zip"=none)(hRows:Has P w K mg base "_law_rows" k ["_law_script","_law_town"] (ZFu K))(hMoving:Has P w K mg base "_law_moving_holds" k ["_law_rows_here","_law_new"] ZFw)
  (hRulesH:Has P w K mg base "_law_rules_hold" k ["_law_script","_law_town","_law_new"] (ZFt K)) (hHandsH:Has P w K mg base "_law_hands_hold" k ["_law_script","_law_town","_law_new"] (ZF1 K)):
  FnOk P w K mg base CX0 (k+1) f fd ["_law_script"] (ZMN K):=by
 refine F.ok ZJV (λvs H Q E h=>?_) (λcdv A outer s H vs Q E hr h=>?_)
 ·obtain⟨a,ns,rfl,_⟩:=h
  rfl
 obtain⟨a,ns,rfl,hS,h63,q⟩:=h
 have hu:=ZA9 hr
 refine⟨_,(ZAD (ZAL (i:=1) ZJV.nd rfl (Ag rfl) (ZGt ZAC))
  (ZAD (ZCK PassesOwn.never rfl (ZA6 rfl G.range (ZAA ZAV ZAC)) (ZAK (i:=2) ZJV.nd rfl (Ag rfl))
   (ZAD (ZAL (i:=3) ZJV.nd rfl (Ag rfl) (ZAE hRows hr rfl (ZAA (pv 0) (ZAA (pv 1) ZAC))))
   (ZAD (ZAL (i:=4) ZJV.nd rfl (Ag rfl) (ZJk rfl rfl G.dict rfl hzip (ZAA ZAu (ZAA (ZAt (ZAA ZAu (ZAA ZAu (ZAA ZAu (ZAA ZAu (ZAA ZAu (ZAA ZAu ZAC))))))) ZAC))))
   (ZAD (ZAL (i:=5) ZJV.nd rfl (Ag rfl) (ZAI (ZIM rfl) rfl G.dict boot_dict (ZAA (ZAO (te:=(tTup (ZAW (tVar 0) (ZAW (tTup (ZAW (tVar 0) tNil)) tNil)))) (xs:= ["_law_name"]) (ys:= []) (js:= []) rfl (by decide +kernel) (by decide +kernel) rfl (by decide +kernel) trivial
   (ZNU ZAu) (λ_ _ _ _ _=>(ZAK (i:=0) ndLW0 rfl (Ag rfl) (.inr rfl))) (λ_ _ _ _ _=>ZAb) (λ_ _ _ _ _=>(ZAt (ZAA (pv 0) (ZAA (ZAt (ZAA (pv 0) ZAC)) ZAC))))) ZAC)))
   (ZAD (ZBc (PW.pt (ZMV (ZIi (ZFI (ZAE hMoving hr rfl (ZAA (pv 3) (ZAA (pv 4) ZAC))))) (ZIg (ZIi (ZFI (ZAE hMoving hr rfl (ZAA (pv 3) (ZAA (pv 5) ZAC)))))))) ZAo ZAg)
   (ZAH (ZBc (PW.pt (ZMV (ZIi (ZFI (ZAE hRulesH hr rfl (ZAA (pv 0) (ZAA (pv 1) (ZAA (pv 4) ZAC)))))) (ZIg (ZIi (ZFI (ZAE hHandsH hr rfl (ZAA (pv 0) (ZAA (pv 1) (ZAA (pv 4) ZAC))))))))) ZAo ZAg)))))))
  (ZAH (ZAT ZJm)))),?_⟩
 refine⟨big _ (by simp),λt nt=>?_⟩
 have s0:=Same.new nt (.lst ([]:List V))
 have ht:(upd H t (.lst ([]:List V)):Hp) t=some (.lst []):=ZAB
 generalize (upd H t (.lst ([]:List V)):Hp)=H0 at*
 refine⟨5,rfl,by decide,by decide,?_⟩
 refine ZBy (n:=5) (λj Z H'=>∃(v2 v3 v4 v5:Option V) (zs:List V),Z= [some (.ref a),some (.ref t),v2,v3,v4,v5]/\H' t=some (.lst zs)/\zs.length<=500*j/\Stp t H0 H')
  ⟨_,_,_,_,[],rfl,ht,by simp,Stp.refl _ _⟩ ?_ ?_
 ·rintro j Z H1 hj ⟨v2,v3,v4,v5,zs,rfl,hT1,hz1,st1⟩
  have hS0:=hS.same s0
  have hS1:=hS0.stp ht st1
  refine⟨_,rfl,_,rfl,a,t,ns,zs,rfl,hS1,h63,hT1,by lia,λpr R zs2 H2 hT2 hz2 st2 hA2 nd hin=>?_⟩
  refine⟨big _ (by simp),λtp ntp=>?_⟩
  have s3:=Same.new ntp (.tup sixV)
  have htp:(upd H2 tp (.tup sixV):Hp) tp=some (.tup sixV):=ZAB
  refine⟨"abcdef",tp,sixV,rfl,SqT.of htp,by decide +kernel,by decide +kernel,by decide +kernel,λdn ndn=>?_⟩
  generalize (upd H2 tp (.tup sixV):Hp)=H3 at*
  have s4:=Same.new ndn (.dK (ZAw [] (zipK "abcdef" sixV)))
  have hN4:NewG false fNew (upd H3 dn (.dK (ZAw [] (zipK "abcdef" sixV)))) dn:=⟨_,ZAB,λx hx=>⟨_,ZME x hx,rfl⟩⟩
  generalize (upd H3 dn (.dK (ZAw [] (zipK "abcdef" sixV))):Hp)=H4 at*
  have s24:=s3.trans s4
  --each alone
  refine⟨_,rfl,λD hD=>?_⟩
  refine ZAs (rs:=SIX) V.str (fr:= []) (λx v H'=>∃b,v=V.ref b/\∃c,H' b=some (.tup [V.str x,V.ref c])/\NmT H' c x) (λx v H1 H2 s h=>let⟨b,e,c,k1,k2⟩:=h;⟨b,e,c,s _ _ k1,s _ _ k2⟩) D hD ZJ8 (bigl _ (by decide)) ?_ ?_
  ·intro x H5 Rx hx s5 hR5
   refine⟨_,rfl,_,rfl,big _ (by simp),λc nc=>?_⟩
   have sc:=Same.new nc (.tup [V.str x])
   refine⟨big _ (by simp),λb nb=>?_⟩
   have sb:=Same.new nb (.tup [V.str x,V.ref c])
   exact hR5 _ _ (sc.trans sb) ⟨b,rfl,c,ZAB,sb _ _ ZAB⟩
  intro H5 ys s5 hD5 hp5
  obtain⟨kvs,h1,h2,h3⟩:=ZI5 (K:=K) hp5
  have hyl:ys.length=6:=by have:=Paired.length hp5;rw[<-this];rfl
  refine⟨D,ys,kvs,rfl,hD5,h1,by lia,λda nda=>?_⟩
  have em:ZAw [] kvs=kvs:=ZDr (A:= []) (by rw[List.nil_append,h2];exact six_nd)
  rw[em]
  have s6:=Same.new nda (.dK kvs)
  have hNa:NewG true id (upd H5 da (.dK kvs)) da:=⟨_,ZAB,λx hx=>by
   obtain⟨c,k1,k2⟩:=h3 x hx
   exact⟨_,k1,c,rfl,s6 _ _ k2⟩⟩
  generalize (upd H5 da (.dK kvs):Hp)=H6 at*
  have s46:=s5.trans s6
  have s26:=s24.trans s46
  have hA6:=hA2.same s26
  have hN6:=hN4.same s46
  have hT6:=s26 _ _ hT2
  have st06:Stp t H0 H6:=(st1.trans st2).trans s26.stp
  --moving
  refine⟨_,rfl,_,rfl,false,pr,dn,fNew,R,rfl,hA6,nd,hin,hN6,ZEj,ZHt,λH7 s7=>?_⟩
  refine⟨_,rfl,iteF ?_⟩
  refine⟨_,rfl,_,rfl,true,pr,da,id,R,rfl,hA6.same s7,nd,hin,hNa.same s7,ZOw,(λx hx=>⟨(ZHt x hx).1,(ZHt x hx).1⟩),λH8 s8=>?_⟩
  refine⟨_,rfl,iteF ?_⟩
  have s68:=s7.trans s8
  have st08:=st06.trans (s68.stp (t:=t))
  have hT8:=s68 _ _ hT6
  have hN8:=hN6.same s68
  --rules,hands
  refine⟨_,rfl,_,rfl,_,rfl,a,t,dn,ns,zs2,fNew,rfl,hS0.stp ht st08,h63,hT8,by lia,hN8,ZEj,λzs9 H9 hT9 hz9 st9=>?_⟩
  refine⟨_,rfl,iteF ?_⟩
  have st09:=st08.trans st9
  refine⟨_,rfl,_,rfl,_,rfl,a,t,dn,ns,zs9,fNew,rfl,hS0.stp ht st09,h63,hT9,by lia,hN8.stp st9 hT8,ZEj,λzs10 H10 hT10 hz10 st10=>?_⟩
  refine⟨_,rfl,iteF ?_⟩
  exact⟨_,_,_,_,zs10,rfl,hT10,by lia,st09.trans st10⟩
 ·rintro Z H1 ⟨v2,v3,v4,v5,zs,rfl,hT1,hz1,st1⟩
  exact q H1
end
inductive ZL7 (sp:Bool->Sp)(vs:List V)(H:Hp)(Q:VK)(E:XK):Prop
 |mk:∀t,(sp t vs H Q E)->ZL7 sp vs H Q E
def ZKG (sp:Bool->Sp):Sp:=λvs H Q E=>ZL7 sp vs H Q E
theorem ZLX {P:E7}{w:FA}{K:AB}{mg:E3->Option E2}{base:E9}{CX:CXT}{k:Nat}{f:Ez}{fd:FJ}{ps:List E3}{sp:Bool->Sp}(h:∀t,FnOk P w K mg base CX k f fd ps (sp t)):FnOk P w K mg base CX k f fd ps (ZKG sp):=
 ⟨λvs H Q E ⟨t,z⟩=>(h t).len vs H Q E z,λA outer s H args us vs Q E hr he hbd hv ⟨t,z⟩=>(h t).run A outer s H args us vs Q E hr he hbd hv z⟩
theorem ZOy {P:E7}{w:FA}{K:AB}{mg:E3->Option E2}{base:E9}{x:E3}{k:Nat}{ps:List E3}{sp:Bool->Sp}(h:Has P w K mg base x k ps (ZKG sp))(t:Bool):Has P w K mg base x k ps (sp t):=ZBu h λ_ _ _ _ z=>⟨t,z⟩
theorem un1 {α:Type}{M:List α->Prop}(h:∀a,M [a]):∀us:List α,us.length=1->M us:=λus e=>by
 obtain⟨a,rfl⟩:=List.length_eq_one_iff.mp e;exact h a
theorem un2 {α:Type}{M:List α->Prop}(h:∀a b,M [a,b])(us:List α)(e:us.length=2):M us:=by
 cases us with
 |nil=>cases e
 |cons a r=>exact un1 (M:=λr=>M (a::r)) (h a) r (Nat.succ.inj e)
theorem un3 {α:Type}{M:List α->Prop}(h:∀a b c,M [a,b,c])(us:List α)(e:us.length=3):M us:=by
 cases us with
 |nil=>cases e
 |cons a r=>exact un2 (M:=λr=>M (a::r)) (h a) r (Nat.succ.inj e)
theorem all_mk {l:PySem.W.OpenLaw}{w:FA}{K:AB}{h:E9}{mg:E3->Option E2}{fa f1 f2 f3 f4 f5 f6 f7 f8 f9 f10 f11 f12 f13 f14 f15 f16 f17 f18 f19 f20 f21 f22 f23 f24 f25 f26 f27 f28 f29 f30 f31 f32 f33:Ez}(X:K.In h)(G0:h.Ns E8 mg)(hfa:mg "law"=some (.ref fa))
  {od1 an1 od2 an2 od3 an3 od4 an4 od5 an5 od6 an6 od7 an7 od8 an8 od9 an9 od10 an10 od11 an11 od12 an12 od13 an13 od14 an14 od15 an15 od16 an16 od17 an17 od18 an18 od19 an19 od20 an20 od21 an21 od22 an22 od23 an23 od24 an24 od25 an25 od26 an26 od27 an27 od28 an28 od29 an29 od30 an30 od31 an31 od32 an32 od33 an33:Option Ez} {sl1 sl2 sl3 sl4 sl5 sl6 sl7 sl8 sl9 sl10 sl11 sl12 sl13 sl14 sl15 sl16 sl17 sl18 sl19 sl20 sl21 sl22 sl23 sl24 sl25 sl26 sl27 sl28 sl29 sl30 sl31 sl32 sl33:Array (Option E2)} {oc1 kV1 dc1 pm1 cd1 ct1 oc2 kV2 dc2 pm2 cd2 ct2 oc3 kV3 dc3 pm3 cd3 ct3 oc4 kV4 dc4 pm4 cd4 ct4 oc5 kV5 dc5 pm5 cd5 ct5 oc6 kV6 dc6 pm6 cd6 ct6 oc7 kV7 dc7 pm7 cd7 ct7 oc8 kV8 dc8 pm8 cd8 ct8 oc9 kV9 dc9 pm9 cd9 ct9 oc10 kV10 dc10 pm10 cd10 ct10 oc11 kV11 dc11 pm11 cd11 ct11 oc12 kV12 dc12 pm12 cd12 ct12 oc13 kV13 dc13 pm13 cd13 ct13 oc14 kV14 dc14 pm14 cd14 ct14 oc15 kV15 dc15 pm15 cd15 ct15 oc16 kV16 dc16 pm16 cd16 ct16 oc17 kV17 dc17 pm17 cd17 ct17 oc18 kV18 dc18 pm18 cd18 ct18 oc19 kV19 dc19 pm19 cd19 ct19 oc20 kV20 dc20 pm20 cd20 ct20 oc21 kV21 dc21 pm21 cd21 ct21 oc22 kV22 dc22 pm22 cd22 ct22 oc23 kV23 dc23 pm23 cd23 ct23 oc24 kV24 dc24 pm24 cd24 ct24 oc25 kV25 dc25 pm25 cd25 ct25 oc26 kV26 dc26 pm26 cd26 ct26 oc27 kV27 dc27 pm27 cd27 ct27 oc28 kV28 dc28 pm28 cd28 ct28 oc29 kV29 dc29 pm29 cd29 ct29 oc30 kV30 dc30 pm30 cd30 ct30 oc31 kV31 dc31 pm31 cd31 ct31 oc32 kV32 dc32 pm32 cd32 ct32 oc33 kV33 dc33 pm33 cd33 ct33:E2} {t1 t2 t3 t4 t5 t6 t7 t8:Tok} {C1 C2:Ez}
  (a1:AZ K E8 "stop_of"=some (some (.ref f1))) (l1:K.lookup f1=some ⟨oc1,od1,.func (Al "stop_of" "stop_of" (ZAR ZHw) (ZAM ZHw) (ZAF ZHw) .none kV1 dc1 pm1 an1 cd1 ct1),sl1⟩) (c1:Ak K cd1 "stop_of"=true) (k1:Ad K (.ref f1)=true)
  (a2:AZ K E8 "leads_round"=some (some (.ref f2))) (l2:K.lookup f2=some ⟨oc2,od2,.func (Al "leads_round" "leads_round" (ZAR ZES) (ZAM ZES) (ZAF ZES) .none kV2 dc2 pm2 an2 cd2 ct2),sl2⟩) (c2:Ak K cd2 "leads_round"=true) (k2:Ad K (.ref f2)=true)
  (a3:AZ K E8 "end_of"=some (some (.ref f3))) (l3:K.lookup f3=some ⟨oc3,od3,.func (Al "end_of" "end_of" (ZAR sEnd) (ZAM sEnd) (ZAF sEnd) .none kV3 dc3 pm3 an3 cd3 ct3),sl3⟩) (c3:Ak K cd3 "end_of"=true) (k3:Ad K (.ref f3)=true)
  (a4:AZ K E8 "ring_from"=some (some (.ref f4))) (l4:K.lookup f4=some ⟨oc4,od4,.func (Al "ring_from" "ring_from" (ZAR ZBa) (ZAM ZBa) (ZAF ZBa) .none kV4 dc4 pm4 an4 cd4 ct4),sl4⟩) (c4:Ak K cd4 "ring_from"=true) (k4:Ad K (.ref f4)=true)
  (a5:AZ K E8 "from_least"=some (some (.ref f5))) (l5:K.lookup f5=some ⟨oc5,od5,.func (Al "from_least" "from_least" (ZAR ZER) (ZAM ZER) (ZAF ZER) .none kV5 dc5 pm5 an5 cd5 ct5),sl5⟩) (c5:Ak K cd5 "from_least"=true) (k5:Ad K (.ref f5)=true)
  (a6:AZ K E8 "rings"=some (some (.ref f6))) (l6:K.lookup f6=some ⟨oc6,od6,.func (Al "rings" "rings" (ZAR ZEP) (ZAM ZEP) (ZAF ZEP) .none kV6 dc6 pm6 an6 cd6 ct6),sl6⟩) (c6:Ak K cd6 "rings"=true) (k6:Ad K (.ref f6)=true)
  (a7:AZ K E8 "flat"=some (some (.ref f7))) (l7:K.lookup f7=some ⟨oc7,od7,.func (Al "flat" "flat" (ZAR ZHx) (ZAM ZHx) (ZAF ZHx) .none kV7 dc7 pm7 an7 cd7 ct7),sl7⟩) (c7:Ak K cd7 "flat"=true) (k7:Ad K (.ref f7)=true)
  (a8:AZ K E8 "is_flat"=some (some (.ref f8))) (l8:K.lookup f8=some ⟨oc8,od8,.func (Al "is_flat" "is_flat" (ZAR ZCt) (ZAM ZCt) (ZAF ZCt) .none kV8 dc8 pm8 an8 cd8 ct8),sl8⟩) (c8:Ak K cd8 "is_flat"=true) (k8:Ad K (.ref f8)=true)
  (a9:AZ K E8 "led_to"=some (some (.ref f9))) (l9:K.lookup f9=some ⟨oc9,od9,.func (Al "led_to" "led_to" (ZAR ZEQ) (ZAM ZEQ) (ZAF ZEQ) .none kV9 dc9 pm9 an9 cd9 ct9),sl9⟩) (c9:Ak K cd9 "led_to"=true) (k9:Ad K (.ref f9)=true)
  (a10:AZ K E8 "turned"=some (some (.ref f10))) (l10:K.lookup f10=some ⟨oc10,od10,.func (Al "turned" "turned" (ZAR ZCs) (ZAM ZCs) (ZAF ZCs) .none kV10 dc10 pm10 an10 cd10 ct10),sl10⟩) (c10:Ak K cd10 "turned"=true) (k10:Ad K (.ref f10)=true)
  (a11:AZ K E8 "with_row"=some (some (.ref f11))) (l11:K.lookup f11=some ⟨oc11,od11,.func (Al "with_row" "with_row" (ZAR ZHv) (ZAM ZHv) (ZAF ZHv) .none kV11 dc11 pm11 an11 cd11 ct11),sl11⟩) (c11:Ak K cd11 "with_row"=true) (k11:Ad K (.ref f11)=true)
  (a12:AZ K E8 "begins_with"=some (some (.ref f12))) (l12:K.lookup f12=some ⟨oc12,od12,.func (Al "begins_with" "begins_with" (ZAR ZDY) (ZAM ZDY) (ZAF ZDY) .none kV12 dc12 pm12 an12 cd12 ct12),sl12⟩) (c12:Ak K cd12 "begins_with"=true) (k12:Ad K (.ref f12)=true)
  (a13:AZ K E8 "length_of_beginning"=some (some (.ref f13))) (l13:K.lookup f13=some ⟨oc13,od13,.func (Al "length_of_beginning" "length_of_beginning" (ZAR ZJZ) (ZAM ZJZ) (ZAF ZJZ) .none kV13 dc13 pm13 an13 cd13 ct13),sl13⟩) (c13:Ak K cd13 "length_of_beginning"=true) (k13:Ad K (.ref f13)=true)
  (a14:AZ K E8 "longest_rule"=some (some (.ref f14))) (l14:K.lookup f14=some ⟨oc14,od14,.func (Al "longest_rule" "longest_rule" (ZAR ZCY) (ZAM ZCY) (ZAF ZCY) .none kV14 dc14 pm14 an14 cd14 ct14),sl14⟩) (c14:Ak K cd14 "longest_rule"=true) (k14:Ad K (.ref f14)=true)
  (a15:AZ K E8 "once"=some (some (.ref f15))) (l15:K.lookup f15=some ⟨oc15,od15,.func (Al "once" "once" (ZAR ZJY) (ZAM ZJY) (ZAF ZJY) .none kV15 dc15 pm15 an15 cd15 ct15),sl15⟩) (c15:Ak K cd15 "once"=true) (k15:Ad K (.ref f15)=true)
  (a16:AZ K E8 "led"=some (some (.ref f16))) (l16:K.lookup f16=some ⟨oc16,od16,.func (Al "led" "led" (ZAR sLed) (ZAM sLed) (ZAF sLed) .none kV16 dc16 pm16 an16 cd16 ct16),sl16⟩) (c16:Ak K cd16 "led"=true) (k16:Ad K (.ref f16)=true)
  (a17:AZ K E8 "is_needless"=some (some (.ref f17))) (l17:K.lookup f17=some ⟨oc17,od17,.func (Al "is_needless" "is_needless" (ZAR sIsN) (ZAM sIsN) (ZAF sIsN) .none kV17 dc17 pm17 an17 cd17 ct17),sl17⟩) (c17:Ak K cd17 "is_needless"=true) (k17:Ad K (.ref f17)=true)
  (a18:AZ K E8 "needless"=some (some (.ref f18))) (l18:K.lookup f18=some ⟨oc18,od18,.func (Al "needless" "needless" (ZAR ZBx) (ZAM ZBx) (ZAF ZBx) .none kV18 dc18 pm18 an18 cd18 ct18),sl18⟩) (c18:Ak K cd18 "needless"=true) (k18:Ad K (.ref f18)=true)
  (a19:AZ K E8 "together"=some (some (.ref f19))) (l19:K.lookup f19=some ⟨oc19,od19,.func (Al "together" "together" (ZAR sTog) (ZAM sTog) (ZAF sTog) .none kV19 dc19 pm19 an19 cd19 ct19),sl19⟩) (c19:Ak K cd19 "together"=true) (k19:Ad K (.ref f19)=true)
  (a20:AZ K E8 "since"=some (some (.ref f20))) (l20:K.lookup f20=some ⟨oc20,od20,.func (Al "since" "since" (ZAR ZFE) (ZAM ZFE) (ZAF ZFE) .none kV20 dc20 pm20 an20 cd20 ct20),sl20⟩) (c20:Ak K cd20 "since"=true) (k20:Ad K (.ref f20)=true)
  (a21:AZ K E8 "pages_of"=some (some (.ref f21))) (l21:K.lookup f21=some ⟨oc21,od21,.func (Al "pages_of" "pages_of" (ZAR ZFF) (ZAM ZFF) (ZAF ZFF) .none kV21 dc21 pm21 an21 cd21 ct21),sl21⟩) (c21:Ak K cd21 "pages_of"=true) (k21:Ad K (.ref f21)=true)
  (a22:AZ K E8 "_law_draw"=some (some (.ref f22))) (l22:K.lookup f22=some ⟨oc22,od22,.func (Al "_law_draw" "_law_draw" (ZAR ZJd) (ZAM ZJd) (ZAF ZJd) .none kV22 dc22 pm22 an22 cd22 ct22),sl22⟩) (c22:Ak K cd22 "_law_draw"=true) (k22:Ad K (.ref f22)=true)
  (a23:AZ K E8 "_law_pick"=some (some (.ref f23))) (l23:K.lookup f23=some ⟨oc23,od23,.func (Al "_law_pick" "_law_pick" (ZAR ZJX) (ZAM ZJX) (ZAF ZJX) .none kV23 dc23 pm23 an23 cd23 ct23),sl23⟩) (c23:Ak K cd23 "_law_pick"=true) (k23:Ad K (.ref f23)=true)
  (a24:AZ K E8 "_law_rows"=some (some (.ref f24))) (l24:K.lookup f24=some ⟨oc24,od24,.func (Al "_law_rows" "_law_rows" (ZAR ZC8) (ZAM ZC8) (ZAF ZC8) .none kV24 dc24 pm24 an24 cd24 ct24),sl24⟩) (c24:Ak K cd24 "_law_rows"=true) (k24:Ad K (.ref f24)=true)
  (a25:AZ K E8 "_law_end"=some (some (.ref f25))) (l25:K.lookup f25=some ⟨oc25,od25,.func (Al "_law_end" "_law_end" (ZAR ZJc) (ZAM ZJc) (ZAF ZJc) .none kV25 dc25 pm25 an25 cd25 ct25),sl25⟩) (c25:Ak K cd25 "_law_end"=true) (k25:Ad K (.ref f25)=true)
  (a26:AZ K E8 "_law_with"=some (some (.ref f26))) (l26:K.lookup f26=some ⟨oc26,od26,.func (Al "_law_with" "_law_with" (ZAR ZFH) (ZAM ZFH) (ZAF ZFH) .none kV26 dc26 pm26 an26 cd26 ct26),sl26⟩) (c26:Ak K cd26 "_law_with"=true) (k26:Ad K (.ref f26)=true)
  (a27:AZ K E8 "_law_put"=some (some (.ref f27))) (l27:K.lookup f27=some ⟨oc27,od27,.func (Al "_law_put" "_law_put" (ZAR ZJa) (ZAM ZJa) (ZAF ZJa) .none kV27 dc27 pm27 an27 cd27 ct27),sl27⟩) (c27:Ak K cd27 "_law_put"=true) (k27:Ad K (.ref f27)=true)
  (a28:AZ K E8 "_law_moving_holds"=some (some (.ref f28))) (l28:K.lookup f28=some ⟨oc28,od28,.func (Al "_law_moving_holds" "_law_moving_holds" (ZAR ZDW) (ZAM ZDW) (ZAF ZDW) .none kV28 dc28 pm28 an28 cd28 ct28),sl28⟩) (c28:Ak K cd28 "_law_moving_holds"=true) (k28:Ad K (.ref f28)=true)
  (a29:AZ K E8 "_law_led"=some (some (.ref f29))) (l29:K.lookup f29=some ⟨oc29,od29,.func (Al "_law_led" "_law_led" (ZAR ZJb) (ZAM ZJb) (ZAF ZJb) .none kV29 dc29 pm29 an29 cd29 ct29),sl29⟩) (c29:Ak K cd29 "_law_led"=true) (k29:Ad K (.ref f29)=true)
  (a30:AZ K E8 "_law_named"=some (some (.ref f30))) (l30:K.lookup f30=some ⟨oc30,od30,.func (Al "_law_named" "_law_named" (ZAR ZFG) (ZAM ZFG) (ZAF ZFG) .none kV30 dc30 pm30 an30 cd30 ct30),sl30⟩) (c30:Ak K cd30 "_law_named"=true) (k30:Ad K (.ref f30)=true)
  (a31:AZ K E8 "_law_rules_hold"=some (some (.ref f31))) (l31:K.lookup f31=some ⟨oc31,od31,.func (Al "_law_rules_hold" "_law_rules_hold" (ZAR ZDV) (ZAM ZDV) (ZAF ZDV) .none kV31 dc31 pm31 an31 cd31 ct31),sl31⟩) (c31:Ak K cd31 "_law_rules_hold"=true) (k31:Ad K (.ref f31)=true)
  (a32:AZ K E8 "_law_hands_hold"=some (some (.ref f32))) (l32:K.lookup f32=some ⟨oc32,od32,.func (Al "_law_hands_hold" "_law_hands_hold" (ZAR ZDX) (ZAM ZDX) (ZAF ZDX) .none kV32 dc32 pm32 an32 cd32 ct32),sl32⟩) (c32:Ak K cd32 "_law_hands_hold"=true) (k32:Ad K (.ref f32)=true)
  (a33:AZ K E8 "law"=some (some (.ref f33))) (l33:K.lookup f33=some ⟨oc33,od33,.func (Al "law" "law" (ZAR sLaw) (ZAM sLaw) (ZAF sLaw) .none kV33 dc33 pm33 an33 cd33 ct33),sl33⟩) (c33:Ak K cd33 "law"=true) (k33:Ad K (.ref f33)=true)
  (w1:AZ K E8 "FIRST"=some (some (.int 0 t1)))
  (w2:AZ K E8 "GOAL_moving"=some (some (.int 1 t2)))
  (w3:AZ K E8 "BEGINNING"=some (some (.int 0 t3)))
  (w4:AZ K E8 "GOAL_beginnings"=some (some (.int 1 t4)))
  (w5:AZ K E8 "MOST_TIMES"=some (some (.int 8 t5)))
  (w6:AZ K E8 "ADDRESS"=some (some (.int 0 t6)))
  (w7:AZ K E8 "CLOCK"=some (some (.int 1 t7)))
  (w8:AZ K E8 "NUMBER"=some (some (.int 3 t8)))
  (x1:AZ K E8 "Ring"=some (some (.ref C1))) (y1:Dg K C1 VE "ValueError.__new__"=true)
  (x2:AZ K E8 "TooMany"=some (some (.ref C2))) (y2:Dg K C2 VE "ValueError.__new__"=true)
  (z1:AZ K E8 "len"=some none)
  (z2:AZ K E8 "all"=some none)
  (z3:AZ K E8 "isinstance"=some none)
  (z4:AZ K E8 "str"=some none)
  (z5:AZ K E8 "int"=some none)
  (z6:AZ K E8 "bool"=some none)
  (z7:AZ K E8 "tuple"=some none)
  (z8:AZ K E8 "list"=some none)
  (z9:AZ K E8 "range"=some none)
  (z10:AZ K E8 "zip"=some none)
  (z11:AZ K E8 "any"=some none)
  (z12:AZ K E8 "sorted"=some none)
  (z13:AZ K E8 "dict"=some none)
  (z14:AZ K E8 "enumerate"=some none)
  (z15:AZ K E8 "min"=some none)
  (z16:AZ K E8 "max"=some none)
  :∃fd:FJ,(∀(s:E4) (v:E2),BindsTo s fd ⟨[v],[]⟩ [("_law_script",v)])/\∀base:E9,K.In base->base.Ns E8 mg->FnOk l.prog w K mg base CX0 8 fa fd ["_law_script"] (ZMN K):=by
 have e:=hfa.symm.trans (Ae X G0 a33)
 cases e
 have F1:=ZAd (st:=ZHw) l1 c1 k1
 have F2:=ZAd (st:=ZES) l2 c2 k2
 have F3:=ZAd (st:=sEnd) l3 c3 k3
 have F4:=ZAd (st:=ZBa) l4 c4 k4
 have F5:=ZAd (st:=ZER) l5 c5 k5
 have F6:=ZAd (st:=ZEP) l6 c6 k6
 have F7:=ZAd (st:=ZHx) l7 c7 k7
 have F8:=ZAd (st:=ZCt) l8 c8 k8
 have F9:=ZAd (st:=ZEQ) l9 c9 k9
 have F10:=ZAd (st:=ZCs) l10 c10 k10
 have F11:=ZAd (st:=ZHv) l11 c11 k11
 have F12:=ZAd (st:=ZDY) l12 c12 k12
 have F13:=ZAd (st:=ZJZ) l13 c13 k13
 have F14:=ZAd (st:=ZCY) l14 c14 k14
 have F15:=ZAd (st:=ZJY) l15 c15 k15
 have F16:=ZAd (st:=sLed) l16 c16 k16
 have F17:=ZAd (st:=sIsN) l17 c17 k17
 have F18:=ZAd (st:=ZBx) l18 c18 k18
 have F19:=ZAd (st:=sTog) l19 c19 k19
 have F20:=ZAd (st:=ZFE) l20 c20 k20
 have F21:=ZAd (st:=ZFF) l21 c21 k21
 have F22:=ZAd (st:=ZJd) l22 c22 k22
 have F23:=ZAd (st:=ZJX) l23 c23 k23
 have F24:=ZAd (st:=ZC8) l24 c24 k24
 have F25:=ZAd (st:=ZJc) l25 c25 k25
 have F26:=ZAd (st:=ZFH) l26 c26 k26
 have F27:=ZAd (st:=ZJa) l27 c27 k27
 have F28:=ZAd (st:=ZDW) l28 c28 k28
 have F29:=ZAd (st:=ZJb) l29 c29 k29
 have F30:=ZAd (st:=ZFG) l30 c30 k30
 have F31:=ZAd (st:=ZDV) l31 c31 k31
 have F32:=ZAd (st:=ZDX) l32 c32 k32
 have F33:=ZAd (st:=sLaw) l33 c33 k33
 have b1:=F1.binds (ps:= ["goals","name"]) λ_ _ _ _ _ _=>un2 λ_ _=>rfl
 have b2:=F2.binds (ps:= ["rows","name"]) λ_ _ _ _ _ _=>un2 λ_ _=>rfl
 have b3:=F3.binds (ps:= ["rows","name"]) λ_ _ _ _ _ _=>un2 λ_ _=>rfl
 have b4:=F4.binds (ps:= ["goals","name"]) λ_ _ _ _ _ _=>un2 λ_ _=>rfl
 have b5:=F5.binds (ps:= ["ring"]) λ_ _ _ _ _ _=>un1 λ_=>rfl
 have b6:=F6.binds (ps:= ["rows"]) λ_ _ _ _ _ _=>un1 λ_=>rfl
 have b7:=F7.binds (ps:= ["rows"]) λ_ _ _ _ _ _=>un1 λ_=>rfl
 have b8:=F8.binds (ps:= ["rows"]) λ_ _ _ _ _ _=>un1 λ_=>rfl
 have b9:=F9.binds (ps:= ["rows","name"]) λ_ _ _ _ _ _=>un2 λ_ _=>rfl
 have b10:=F10.binds (ps:= ["rows"]) λ_ _ _ _ _ _=>un1 λ_=>rfl
 have b11:=F11.binds (ps:= ["rows","one","other"]) λ_ _ _ _ _ _=>un3 λ_ _ _=>rfl
 have b12:=F12.binds (ps:= ["address","beginning"]) λ_ _ _ _ _ _=>un2 λ_ _=>rfl
 have b13:=F13.binds (ps:= ["rule"]) λ_ _ _ _ _ _=>un1 λ_=>rfl
 have b14:=F14.binds (ps:= ["rules","address"]) λ_ _ _ _ _ _=>un2 λ_ _=>rfl
 have b15:=F15.binds (ps:= ["rules","address"]) λ_ _ _ _ _ _=>un2 λ_ _=>rfl
 have b16:=F16.binds (ps:= ["rules","address"]) λ_ _ _ _ _ _=>un2 λ_ _=>rfl
 have b17:=F17.binds (ps:= ["rules","rule"]) λ_ _ _ _ _ _=>un2 λ_ _=>rfl
 have b18:=F18.binds (ps:= ["rules"]) λ_ _ _ _ _ _=>un1 λ_=>rfl
 have b19:=F19.binds (ps:= ["one","other"]) λ_ _ _ _ _ _=>un2 λ_ _=>rfl
 have b20:=F20.binds (ps:= ["rows","clock"]) λ_ _ _ _ _ _=>un2 λ_ _=>rfl
 have b21:=F21.binds (ps:= ["rows","number"]) λ_ _ _ _ _ _=>un2 λ_ _=>rfl
 have b22:=F22.binds (ps:= ["_law_script","_law_town","_law_many"]) λ_ _ _ _ _ _=>un3 λ_ _ _=>rfl
 have b23:=F23.binds (ps:= ["_law_script","_law_town","_law_some"]) λ_ _ _ _ _ _=>un3 λ_ _ _=>rfl
 have b24:=F24.binds (ps:= ["_law_script","_law_town"]) λ_ _ _ _ _ _=>un2 λ_ _=>rfl
 have b25:=F25.binds (ps:= ["_law_rows_here","_law_name"]) λ_ _ _ _ _ _=>un2 λ_ _=>rfl
 have b26:=F26.binds (ps:= ["_law_rows_here","_law_one","_law_other"]) λ_ _ _ _ _ _=>un3 λ_ _ _=>rfl
 have b27:=F27.binds (ps:= ["_law_new","_law_rows_here"]) λ_ _ _ _ _ _=>un2 λ_ _=>rfl
 have b28:=F28.binds (ps:= ["_law_rows_here","_law_new"]) λ_ _ _ _ _ _=>un2 λ_ _=>rfl
 have b29:=F29.binds (ps:= ["_law_rules","_law_address"]) λ_ _ _ _ _ _=>un2 λ_ _=>rfl
 have b30:=F30.binds (ps:= ["_law_new","_law_address"]) λ_ _ _ _ _ _=>un2 λ_ _=>rfl
 have b31:=F31.binds (ps:= ["_law_script","_law_town","_law_new"]) λ_ _ _ _ _ _=>un3 λ_ _ _=>rfl
 have b32:=F32.binds (ps:= ["_law_script","_law_town","_law_new"]) λ_ _ _ _ _ _=>un3 λ_ _ _=>rfl
 have G:Blt mg:=⟨A3 X G0 z1,A3 X G0 z2,A3 X G0 z3,A3 X G0 z4,A3 X G0 z5,A3 X G0 z6,A3 X G0 z7,A3 X G0 z8,A3 X G0 z9,A3 X G0 z10,A3 X G0 z11,A3 X G0 z12,A3 X G0 z13,A3 X G0 z14⟩
 have Z_min:mg "min"=none:=A3 X G0 z15
 have Z_max:mg "max"=none:=A3 X G0 z16
 have W_FIRST:∃t,mg "FIRST"=some (.int 0 t):=⟨_,Ae X G0 w1⟩
 have W_GOAL_moving:∃t,mg "GOAL_moving"=some (.int 1 t):=⟨_,Ae X G0 w2⟩
 have W_BEGINNING:∃t,mg "BEGINNING"=some (.int 0 t):=⟨_,Ae X G0 w3⟩
 have W_GOAL_beginnings:∃t,mg "GOAL_beginnings"=some (.int 1 t):=⟨_,Ae X G0 w4⟩
 have W_MOST_TIMES:∃t,mg "MOST_TIMES"=some (.int 8 t):=⟨_,Ae X G0 w5⟩
 have W_ADDRESS:∃t,mg "ADDRESS"=some (.int 0 t):=⟨_,Ae X G0 w6⟩
 have W_CLOCK:∃t,mg "CLOCK"=some (.int 1 t):=⟨_,Ae X G0 w7⟩
 have W_NUMBER:∃t,mg "NUMBER"=some (.int 3 t):=⟨_,Ae X G0 w8⟩
 refine⟨Al "law" "law" (ZAR sLaw) (ZAM sLaw) (ZAF sLaw) .none kV33 dc33 pm33 an33 cd33 ct33,λs v=> .of_eq rfl,λbase kb nb=>?_⟩
 have O_Ring:PyProof.Rows.OwnCls "Ring" C1 VE "ValueError.__new__" mg base:=ZNX kb (Ae X G0 x1) y1
 have O_TooMany:PyProof.Rows.OwnCls "TooMany" C2 VE "ValueError.__new__" mg base:=ZNX kb (Ae X G0 x2) y2
 have H_stop_of:Has l.prog w K mg base "stop_of" 1 ["goals","name"] (spOr ZEK ZCq):=⟨f1,_,ZEk (ZOZ (k:=0) F1) (ZMf (k:=0) F1),b1,k1,(Ae X G0 a1)⟩
 have H_leads_round:Has l.prog w K mg base "leads_round" 2 ["rows","name"] (spOr ZFy ZD5):=⟨f2,_,ZEk (ZMm F2 G (ZDG H_stop_of)) (ZK3 F2 G (ZG9 H_stop_of)),b2,k2,(Ae X G0 a2)⟩
 have H_end_of:HasE l.prog w K mg base "end_of" 2 ["rows","name"] (spOr (ZKF C1) (ZGf C1)):=⟨f3,_,ZEk (ok_end F3 G O_Ring (ZDG H_stop_of)) (ZOj F3 G O_Ring (ZG9 H_stop_of)),b3,k3,(Ae X G0 a3)⟩
 have H_ring_from:Has l.prog w K mg base "ring_from" 1 ["goals","name"] (spOr ZDS ZCr):=⟨f4,_,ZEk (ZH7 (k:=0) F4) (ZGv (k:=0) F4),b4,k4,(Ae X G0 a4)⟩
 have H_from_least:Has l.prog w K mg base "from_least" 1 ["ring"] (spOr ZHr ZFx):=⟨f5,_,ZEk (ZMl (k:=0) F5 G Z_min) (ZK2 (k:=0) F5 G Z_min),b5,k5,(Ae X G0 a5)⟩
 have H_rings:Has l.prog w K mg base "rings" 2 ["rows"] (spOr ZFv ZD4):=⟨f6,_,ZEk (ZMh F6 G W_FIRST (ZDG H_stop_of) (ZDG H_ring_from) (ZDG H_from_least)) (ZK0 F6 G W_FIRST (ZG9 H_stop_of) (ZG9 H_ring_from) (ZG9 H_from_least)),b6,k6,(Ae X G0 a6)⟩
 have H_flat:Has l.prog w K mg base "flat" 2 ["rows"] (spOr ZE8 ZDU):=⟨f7,_,ZEk (ZOi F7 G W_FIRST W_GOAL_moving (ZDG H_stop_of)) (ZMn F7 G W_FIRST W_GOAL_moving (ZG9 H_stop_of)),b7,k7,(Ae X G0 a7)⟩
 have H_is_flat:Has l.prog w K mg base "is_flat" 1 ["rows"] (spOr ZD6 ZC5):=⟨f8,_,ZEk (ZK4 (k:=0) F8 G W_GOAL_moving) (ZJr (k:=0) F8 G W_GOAL_moving),b8,k8,(Ae X G0 a8)⟩
 have H_led_to:Has l.prog w K mg base "led_to" 3 ["rows","name"] (spOr ZIf ZIe):=⟨f9,_,ZEk (ZOh F9 G W_FIRST W_GOAL_moving (ZDG H_flat)) (ZOg F9 G W_FIRST W_GOAL_moving (ZG9 H_flat)),b9,k9,(Ae X G0 a9)⟩
 have H_turned:Has l.prog w K mg base "turned" 1 ["rows"] (spOr ZD3 ZC4):=⟨f10,_,ZEk (ZKx (k:=0) F10 G W_FIRST W_GOAL_moving) (ZJp (k:=0) F10 G W_FIRST W_GOAL_moving),b10,k10,(Ae X G0 a10)⟩
 have H_with_row:HasE l.prog w K mg base "with_row" 3 ["rows","one","other"] (spOr (ZIc C1) (ZFs C1)):=⟨f11,_,ZEk (ZOY F11 G W_FIRST O_Ring (hasE_l H_end_of) (ZDG H_flat)) (ZMe F11 G W_FIRST O_Ring (hasE_r H_end_of) (ZG9 H_flat)),b11,k11,(Ae X G0 a11)⟩
 have H_begins_with:Has l.prog w K mg base "begins_with" 1 ["address","beginning"] ZC6:=⟨f12,_,ZK6 (k:=0) F12 G,b12,k12,(Ae X G0 a12)⟩
 have H_length_of_beginning:Has l.prog w K mg base "length_of_beginning" 1 ["rule"] ZId:=⟨f13,_,ZOf (k:=0) F13 G W_BEGINNING,b13,k13,(Ae X G0 a13)⟩
 have H_longest_rule:Has l.prog w K mg base "longest_rule" 3 ["rules","address"] ZEM:=⟨f14,_,ZJq (k:=1) F14 G W_BEGINNING Z_max (H_begins_with.mono (by decide)) H_length_of_beginning,b14,k14,(Ae X G0 a14)⟩
 have H_once:Has l.prog w K mg base "once" 4 ["rules","address"] ZEL:=⟨f15,_,ZOb F15 G W_BEGINNING W_GOAL_beginnings H_longest_rule,b15,k15,(Ae X G0 a15)⟩
 have H_led:HasE l.prog w K mg base "led" 5 ["rules","address"] (ZOJ C2):=⟨f16,_,ok_led F16 G W_MOST_TIMES O_TooMany H_once,b16,k16,(Ae X G0 a16)⟩
 have H_is_needless:Has l.prog w K mg base "is_needless" 5 ["rules","rule"] ZBo:=⟨f17,_,ZGJ F17 G W_BEGINNING W_GOAL_beginnings H_once,b17,k17,(Ae X G0 a17)⟩
 have H_needless:Has l.prog w K mg base "needless" 6 ["rules"] ZDT:=⟨f18,_,ZH8 F18 G W_BEGINNING H_is_needless,b18,k18,(Ae X G0 a18)⟩
 have H_together:Has l.prog w K mg base "together" 1 ["one","other"] ZOH:=⟨f19,_,ok_tog (k:=0) F19 G W_ADDRESS,b19,k19,(Ae X G0 a19)⟩
 have H_since:Has l.prog w K mg base "since" 1 ["rows","clock"] ZHp:=⟨f20,_,ZMg (k:=0) F20 G W_CLOCK,b20,k20,(Ae X G0 a20)⟩
 have H_pages_of:Has l.prog w K mg base "pages_of" 1 ["rows","number"] ZHq:=⟨f21,_,ZMi (k:=0) F21 G W_ADDRESS W_NUMBER,b21,k21,(Ae X G0 a21)⟩
 have H__law_draw:Has l.prog w K mg base "_law_draw" 1 ["_law_script","_law_town","_law_many"] (ZE9 K):=⟨f22,_,ZOk (k:=0) F22 G,b22,k22,(Ae X G0 a22)⟩
 have H__law_pick:Has l.prog w K mg base "_law_pick" 2 ["_law_script","_law_town","_law_some"] (ZDo K):=⟨f23,_,ZOa F23 G H__law_draw,b23,k23,(Ae X G0 a23)⟩
 have H__law_rows:Has l.prog w K mg base "_law_rows" 3 ["_law_script","_law_town"] (ZFu K):=⟨f24,_,ZKz F24 G (H__law_draw.mono (by decide)) H__law_pick,b24,k24,(Ae X G0 a24)⟩
 have H__law_end:Has l.prog w K mg base "_law_end" 3 ["_law_rows_here","_law_name"] (ZKG ZHs):=⟨f25,_,ZLX λt=>ZOe F25 O_Ring H_end_of t,b25,k25,(Ae X G0 a25)⟩
 have H__law_with:Has l.prog w K mg base "_law_with" 4 ["_law_rows_here","_law_one","_law_other"] (ZKG ZFz):=⟨f26,_,ZLX λt=>ZMk F26 O_Ring H_with_row t,b26,k26,(Ae X G0 a26)⟩
 have H__law_put:Has l.prog w K mg base "_law_put" 1 ["_law_new","_law_rows_here"] (ZKG ZF0):=⟨f27,_,ZLX λt=>ZOc (k:=0) F27 G t,b27,k27,(Ae X G0 a27)⟩
 have H__law_moving_holds:Has l.prog w K mg base "_law_moving_holds" 5 ["_law_rows_here","_law_new"] ZFw:=⟨f28,_,ZK1 (k:=4) F28 G (λt=>ZOy (H__law_put.mono (by decide)) t) (H_flat.mono (by decide)) (H_is_flat.mono (by decide)) (H_rings.mono (by decide)) (H_turned.mono (by decide)) (H_leads_round.mono (by decide)) (H_led_to.mono (by decide)) (λt=>ZOy (H__law_end.mono (by decide)) t) (λt=>ZOy H__law_with t),b28,k28,(Ae X G0 a28)⟩
 have H__law_led:Has l.prog w K mg base "_law_led" 6 ["_law_rules","_law_address"] ZKD:=⟨f29,_,ZOd F29 O_TooMany H_led,b29,k29,(Ae X G0 a29)⟩
 have H__law_named:Has l.prog w K mg base "_law_named" 1 ["_law_new","_law_address"] ZB8:=⟨f30,_,ZMj (k:=0) F30 G,b30,k30,(Ae X G0 a30)⟩
 have H__law_rules_hold:Has l.prog w K mg base "_law_rules_hold" 7 ["_law_script","_law_town","_law_new"] (ZFt K):=⟨f31,_,ZKy (k:=6) F31 G (H__law_draw.mono (by decide)) (H__law_pick.mono (by decide)) (H__law_named.mono (by decide)) (H__law_led.mono (by decide)) (H_once.mono (by decide)) (H_needless.mono (by decide)),b31,k31,(Ae X G0 a31)⟩
 have H__law_hands_hold:Has l.prog w K mg base "_law_hands_hold" 3 ["_law_script","_law_town","_law_new"] (ZF1 K):=⟨f32,_,ZK5 (k:=2) F32 G (H__law_draw.mono (by decide)) (H__law_pick.mono (by decide)) (H__law_named.mono (by decide)) (H_together.mono (by decide)) (H_since.mono (by decide)) (H_pages_of.mono (by decide)),b32,k32,(Ae X G0 a32)⟩
 exact ok_law (k:=7) F33 G G.zip (H__law_rows.mono (by decide)) (H__law_moving_holds.mono (by decide)) (H__law_rules_hold.mono (by decide)) (H__law_hands_hold.mono (by decide))
theorem walk {l:PySem.W.OpenLaw}{q:E7}{loose:List E3}{XP:(E3->Option E2)->E9->Prop}{YP:FA->E9->Prop}{d:DefRec}{K:Params->AB}(hn:l.most=some 63)(hdf:d.params.defaults= [])
  (hY:∀(w:FA) (h:E9),YP w h->(K w.params).In h)
  (F:∀(w:FA) (mg:E3->Option E2) (fa:Ez) (h:E9),(K w.params).In h->h.Ns E8 mg->mg d.name=some (.ref fa)->
   ∃fd:FJ,(∀(s:E4) (u:E2),BindsTo s fd ⟨[u],[]⟩ [("_law_script",u)])/\∀base:E9,(K w.params).In base->base.Ns E8 mg->FnOk l.prog w (K w.params) mg base CX0 8 fa fd ["_law_script"] (ZMN (K w.params))):
  PySem.W.WalkO q loose XP YP l.row.toRowW d [] (λf vs=>Ej f vs):=
 L2.walk_of (n:=63) (k:=8) (x:="_law_script") (CX:=λ_=>CX0) (sp:=λw=>ZMN (K w.params)) hn (by decide) hdf ⟨rfl,by decide,by decide,rfl⟩ hY F (λ_ _ a ns hl hO hS=>⟨a,ns,rfl,scr_of hO hS,hl,λ_=>rfl⟩) λ_ _ _ _ _ z=>z
end LW
-- names that stand for twins of the head's heaps, trees and texts: with them taken the head walks these as they are, and the compiled proof stays under its lid
def PySem.W.Fast.tw8555794457081245213:Unit:=()
def PySem.W.Fast.tw8354273911453497963:Unit:=()
def PySem.W.Fast.tw10060203602078719544:Unit:=()
def PySem.W.Fast.tw10382013620724454841:Unit:=()
def PySem.W.Fast.tw9973126785332814802:Unit:=()
def PySem.W.Fast.tw12343390709492715886:Unit:=()
open PySem PySem.W PyProof.Rows
set_option maxRecDepth 100000 in
set_option maxHeartbeats 0 in
theorem PySem.Challenge.cw_pagenames_k35_whole_rows_by_other_names_holds : PySem.Challenge.rw_pagenames_k35_whole_rows_by_other_names.Holds := by
 w_on;o_law;k_head;(case hw=>w_witness2)
 k_fill
 refine LW.walk (l:=PySem.Challenge.rw_pagenames_k35_whole_rows_by_other_names) rfl rfl (λw h Y=>PySem.W.kIn_of Y) ?F
 case F=>
  intro w mg fa h KX G hmg
  refine' LW.all_mk KX G hmg ?a1 ?l1 ?c1 ?k1 ?a2 ?l2 ?c2 ?k2 ?a3 ?l3 ?c3 ?k3 ?a4 ?l4 ?c4 ?k4 ?a5 ?l5 ?c5 ?k5 ?a6 ?l6 ?c6 ?k6 ?a7 ?l7 ?c7 ?k7 ?a8 ?l8 ?c8 ?k8 ?a9 ?l9 ?c9 ?k9 ?a10 ?l10 ?c10 ?k10 ?a11 ?l11 ?c11 ?k11 ?a12 ?l12 ?c12 ?k12 ?a13 ?l13 ?c13 ?k13 ?a14 ?l14 ?c14 ?k14 ?a15 ?l15 ?c15 ?k15 ?a16 ?l16 ?c16 ?k16 ?a17 ?l17 ?c17 ?k17 ?a18 ?l18 ?c18 ?k18 ?a19 ?l19 ?c19 ?k19 ?a20 ?l20 ?c20 ?k20 ?a21 ?l21 ?c21 ?k21 ?a22 ?l22 ?c22 ?k22 ?a23 ?l23 ?c23 ?k23 ?a24 ?l24 ?c24 ?k24 ?a25 ?l25 ?c25 ?k25 ?a26 ?l26 ?c26 ?k26 ?a27 ?l27 ?c27 ?k27 ?a28 ?l28 ?c28 ?k28 ?a29 ?l29 ?c29 ?k29 ?a30 ?l30 ?c30 ?k30 ?a31 ?l31 ?c31 ?k31 ?a32 ?l32 ?c32 ?k32 ?a33 ?l33 ?c33 ?k33 ?w1 ?w2 ?w3 ?w4 ?w5 ?w6 ?w7 ?w8 ?x1 ?y1 ?x2 ?y2 ?z1 ?z2 ?z3 ?z4 ?z5 ?z6 ?z7 ?z8 ?z9 ?z10 ?z11 ?z12 ?z13 ?z14 ?z15 ?z16
  (case a1=>k_is)
  (case l1=>k_is)
  (case c1=>k_is)
  (case k1=>k_is)
  (case a2=>k_is)
  (case l2=>k_is)
  (case c2=>k_is)
  (case k2=>k_is)
  (case a3=>k_is)
  (case l3=>k_is)
  (case c3=>k_is)
  (case k3=>k_is)
  (case a4=>k_is)
  (case l4=>k_is)
  (case c4=>k_is)
  (case k4=>k_is)
  (case a5=>k_is)
  (case l5=>k_is)
  (case c5=>k_is)
  (case k5=>k_is)
  (case a6=>k_is)
  (case l6=>k_is)
  (case c6=>k_is)
  (case k6=>k_is)
  (case a7=>k_is)
  (case l7=>k_is)
  (case c7=>k_is)
  (case k7=>k_is)
  (case a8=>k_is)
  (case l8=>k_is)
  (case c8=>k_is)
  (case k8=>k_is)
  (case a9=>k_is)
  (case l9=>k_is)
  (case c9=>k_is)
  (case k9=>k_is)
  (case a10=>k_is)
  (case l10=>k_is)
  (case c10=>k_is)
  (case k10=>k_is)
  (case a11=>k_is)
  (case l11=>k_is)
  (case c11=>k_is)
  (case k11=>k_is)
  (case a12=>k_is)
  (case l12=>k_is)
  (case c12=>k_is)
  (case k12=>k_is)
  (case a13=>k_is)
  (case l13=>k_is)
  (case c13=>k_is)
  (case k13=>k_is)
  (case a14=>k_is)
  (case l14=>k_is)
  (case c14=>k_is)
  (case k14=>k_is)
  (case a15=>k_is)
  (case l15=>k_is)
  (case c15=>k_is)
  (case k15=>k_is)
  (case a16=>k_is)
  (case l16=>k_is)
  (case c16=>k_is)
  (case k16=>k_is)
  (case a17=>k_is)
  (case l17=>k_is)
  (case c17=>k_is)
  (case k17=>k_is)
  (case a18=>k_is)
  (case l18=>k_is)
  (case c18=>k_is)
  (case k18=>k_is)
  (case a19=>k_is)
  (case l19=>k_is)
  (case c19=>k_is)
  (case k19=>k_is)
  (case a20=>k_is)
  (case l20=>k_is)
  (case c20=>k_is)
  (case k20=>k_is)
  (case a21=>k_is)
  (case l21=>k_is)
  (case c21=>k_is)
  (case k21=>k_is)
  (case a22=>k_is)
  (case l22=>k_is)
  (case c22=>k_is)
  (case k22=>k_is)
  (case a23=>k_is)
  (case l23=>k_is)
  (case c23=>k_is)
  (case k23=>k_is)
  (case a24=>k_is)
  (case l24=>k_is)
  (case c24=>k_is)
  (case k24=>k_is)
  (case a25=>k_is)
  (case l25=>k_is)
  (case c25=>k_is)
  (case k25=>k_is)
  (case a26=>k_is)
  (case l26=>k_is)
  (case c26=>k_is)
  (case k26=>k_is)
  (case a27=>k_is)
  (case l27=>k_is)
  (case c27=>k_is)
  (case k27=>k_is)
  (case a28=>k_is)
  (case l28=>k_is)
  (case c28=>k_is)
  (case k28=>k_is)
  (case a29=>k_is)
  (case l29=>k_is)
  (case c29=>k_is)
  (case k29=>k_is)
  (case a30=>k_is)
  (case l30=>k_is)
  (case c30=>k_is)
  (case k30=>k_is)
  (case a31=>k_is)
  (case l31=>k_is)
  (case c31=>k_is)
  (case k31=>k_is)
  (case a32=>k_is)
  (case l32=>k_is)
  (case c32=>k_is)
  (case k32=>k_is)
  (case a33=>k_is)
  (case l33=>k_is)
  (case c33=>k_is)
  (case k33=>k_is)
  (case w1=>k_is)
  (case w2=>k_is)
  (case w3=>k_is)
  (case w4=>k_is)
  (case w5=>k_is)
  (case w6=>k_is)
  (case w7=>k_is)
  (case w8=>k_is)
  (case x1=>k_is)
  (case y1=>k_exc)
  (case x2=>k_is)
  (case y2=>k_exc)
  (case z1=>k_is)
  (case z2=>k_is)
  (case z3=>k_is)
  (case z4=>k_is)
  (case z5=>k_is)
  (case z6=>k_is)
  (case z7=>k_is)
  (case z8=>k_is)
  (case z9=>k_is)
  (case z10=>k_is)
  (case z11=>k_is)
  (case z12=>k_is)
  (case z13=>k_is)
  (case z14=>k_is)
  (case z15=>k_is)
  (case z16=>k_is)
